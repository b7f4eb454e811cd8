/-
  Joined: C11Rqa, C11Rqb, C11Rr.
-/
import Derived.Test.YtpaadbnlhapdbaaGreatDoorL14
namespace Go.Proofs.YtpaadbnlhapdbaaGreatDoor.C11
open Go.RowKit Go.Deep
set_option linter.unusedVariables false
set_option linter.unusedSimpArgs false
theorem half_n (y:Nat):((y:Int)).tdiv 2=((y / 2:Nat):Int)∧(y:Int) / 2=((y / 2:Nat):Int):=by
 refine ⟨?_,by omega⟩
 rw [Int.tdiv_eq_ediv_of_nonneg (by omega)];omega
set_option maxRecDepth 8000 in
set_option maxHeartbeats 2000000 in
theorem rfo_bad (s:ByteArray) (n:Nat) (w:World) (hs:s.size≤1073741824) (h:foB s.data.toList=false) :
  Calls Tryz.prog 45 #[.string s,.int .i64 (n:Int)] w fun e w'=>e=.returned (.tuple #[.slice none 0 0,.bool false])∧∃m,w'=w.drewN m:=by
 have hs':(s.size:Int)≤1073741824:=by omega
 have hT:¬(16≤s.data.toList.length∧s.data.toList.take 2=[0,4]∧n2 s.data.toList 6 % 2=0∧1≤n2 s.data.toList 6 / 2∧16+8 * (n2 s.data.toList 6 / 2)≤n2 s.data.toList 2∧n2 s.data.toList 2≤s.data.toList.length):=fun hh=>by rw [foB_t.2 hh] at h;cases h
 rw [←Lib.size_eq] at hT
 clear h
 have CZ6:=hide (fun w=>ru2_z s 6 6 w rfl hs (by omega))
 have CZ2:=hide (fun w=>ru2_z s 2 2 w rfl hs (by omega))
 by_cases h1:s.size < 16
 ·have h1':(s.size:Int) < 16:=by omega
  clear hT
  go_enter Tryz.func45,Tryz.ntmps45
  go_wp2_with fail
  refine (CZ6.out _).mono ?_
  rintro e w1 ⟨y,rfl,y1,_,k1,hw⟩
  subst hw
  obtain ⟨d1,d2⟩:=half_n y
  generalize ((y / 2:Nat):Int)=M at *
  go_wp2_with fail
  refine (CZ2.out _).mono ?_
  rintro e w1 ⟨z,rfl,z1,_,k2,hw⟩
  subst hw
  go_wp2_with fail
  go_ret2
  exact ⟨rfl,_,rfl⟩
 have h1':¬(s.size:Int) < 16:=by omega
 have h1b:(2:Int)≤(s.size:Int):=by omega
 have hq:=head_eq s 2 [0,4]
 by_cases h2:s.data.toList.take 2=[0,4]
 case neg=>
  rw [decide_eq_false h2] at hq
  clear hT h2
  go_enter Tryz.func45,Tryz.ntmps45
  go_wp2_with fail
  refine (CZ6.out _).mono ?_
  rintro e w1 ⟨y,rfl,y1,_,k1,hw⟩
  subst hw
  obtain ⟨d1,d2⟩:=half_n y
  generalize ((y / 2:Nat):Int)=M at *
  go_wp2_with fail
  refine (CZ2.out _).mono ?_
  rintro e w1 ⟨z,rfl,z1,_,k2,hw⟩
  subst hw
  go_wp2_with fail
  go_ret2
  exact ⟨rfl,_,rfl⟩
 rw [decide_eq_true h2] at hq
 have C2:=hide (fun w=>ru2_any s 2 2 w rfl (by omega) hs)
 have C6:=hide (fun w=>ru2_any s 6 6 w rfl (by omega) hs)
 have b2:=n2_lt s.data.toList 2
 have b6:=n2_lt s.data.toList 6
 have HT:Hid (¬(n2 s.data.toList 6 % 2=0∧1≤n2 s.data.toList 6 / 2∧16+8 * (n2 s.data.toList 6 / 2)≤n2 s.data.toList 2∧n2 s.data.toList 2≤s.size)):=hide (fun hh=>hT ⟨by omega,h2,hh⟩)
 generalize n2 s.data.toList 2=Z at *
 generalize n2 s.data.toList 6=T at *
 obtain ⟨z,hz⟩:∃z:Int,(Z:Int)=z:=⟨_,rfl⟩
 obtain ⟨t,ht⟩:∃t:Int,(T:Int)=t:=⟨_,rfl⟩
 obtain ⟨m,hm⟩:∃m:Int,((T / 2:Nat):Int)=m:=⟨_,rfl⟩
 obtain ⟨r,hr⟩:∃r:Int,((T % 2:Nat):Int)=r:=⟨_,rfl⟩
 rw [hz] at C2
 rw [ht] at C6
 have z0:0≤z:=by omega
 have z1:z≤65535:=by omega
 have t0:0≤t:=by omega
 have t1:t≤65535:=by omega
 have m0:0≤m:=by omega
 have m1:m≤65535:=by omega
 have d1:t.tdiv 2=m:=by rw [Int.tdiv_eq_ediv_of_nonneg t0];omega
 have d2:t / 2=m:=by omega
 have d3:t.tmod 2=r:=by rw [Int.tmod_eq_emod_of_nonneg t0];omega
 have d4:t % 2=r:=by omega
 have HT':Hid (¬(r=0∧1≤m∧16+8 * m≤z∧z≤(s.size:Int))):=hide (fun hh=>HT.out (by omega))
 clear hT HT b2 b6 hz ht hm hr h2 CZ6 CZ2
 by_cases c1:r=0
 case neg=>
  have c1':(r != 0)=true:=by simpa using c1
  clear HT' c1
  go_enter Tryz.func45,Tryz.ntmps45
  go_wp2_with fail
  refine (C6.out _).mono ?_
  rintro e w1 ⟨rfl,k1,hw⟩
  subst hw
  go_wp2_with fail
  refine (C2.out _).mono ?_
  rintro e w1 ⟨rfl,k2,hw⟩
  subst hw
  go_wp2_with fail
  refine (C6.out _).mono ?_
  rintro e w1 ⟨rfl,k3,hw⟩
  subst hw
  go_wp2_with fail
  go_ret2
  exact ⟨rfl,_,rfl⟩
 subst c1
 have way:(m < 1)∨(¬m < 1∧z < 16+8 * m)∨(¬m < 1∧¬z < 16+8 * m∧(s.size:Int) < z):=by have:=HT'.out;omega
 clear HT'
 rcases way with c2 | ⟨c2,c3⟩ | ⟨c2,c3,c4⟩
 all_goals
  go_enter Tryz.func45,Tryz.ntmps45
  go_wp2_with fail
  refine (C6.out _).mono ?_
  rintro e w1 ⟨rfl,k1,hw⟩
  subst hw
  go_wp2_with fail
  refine (C2.out _).mono ?_
  rintro e w1 ⟨rfl,k2,hw⟩
  subst hw
  go_wp2_with fail
  refine (C6.out _).mono ?_
  rintro e w1 ⟨rfl,k3,hw⟩
  subst hw
  go_wp2_with fail
  go_ret2
  exact ⟨rfl,_,rfl⟩
set_option maxRecDepth 8000 in
set_option maxHeartbeats 16000000 in
theorem rfo_ok (s:ByteArray) (n:Nat) (w:World) (hs:s.size≤1073741824) (h:foB s.data.toList=true) (hn:n≤4096) :
  Calls Tryz.prog 45 #[.string s,.int .i64 (n:Int)] w (AdR w w.heap.size (foV s.data.toList n)):=by
 have hs':(s.size:Int)≤1073741824:=by omega
 have hn':(n:Int)≤4096:=by omega
 have hT:=foB_t.1 h
 rw [←Lib.size_eq] at hT
 obtain ⟨h1,h2,h3,h4,h5,h6⟩:=hT
 have hv:foV s.data.toList n=foW (s.data.toList.take (n2 s.data.toList 2)) (n2 s.data.toList 6 / 2) n:=by unfold foV;rw [h];rfl
 rw [hv]
 have h1':¬(s.size:Int) < 16:=by omega
 have h1b:(2:Int)≤(s.size:Int):=by omega
 have hq:=head_eq s 2 [0,4]
 rw [decide_eq_true h2] at hq
 have C2:=hide (fun w=>ru2_any s 2 2 w rfl (by omega) hs)
 have C6:=hide (fun w=>ru2_any s 6 6 w rfl (by omega) hs)
 have CI:=hide ris_any
 have b2:=n2_lt s.data.toList 2
 have b6:=n2_lt s.data.toList 6
 have hx:=ext_take s (n2 s.data.toList 2)
 have hxs:(s.extract 0 (n2 s.data.toList 2)).size=n2 s.data.toList 2:=by rw [ByteArray.size_extract];omega
 rw [←hx]
 clear hx hv h
 generalize n2 s.data.toList 2=Z at *
 obtain ⟨M,hM⟩:∃M,n2 s.data.toList 6 / 2=M:=⟨_,rfl⟩
 rw [hM] at h4 h5 ⊢
 obtain ⟨t,ht⟩:∃t:Int,((n2 s.data.toList 6:Nat):Int)=t:=⟨_,rfl⟩
 rw [ht] at C6
 have t0:0≤t:=by omega
 have t1:t≤65535:=by omega
 have d1:t.tdiv 2=(M:Int):=by rw [Int.tdiv_eq_ediv_of_nonneg t0];omega
 have d2:t / 2=(M:Int):=by omega
 have d3:t.tmod 2=0:=by rw [Int.tmod_eq_emod_of_nonneg t0];omega
 have d4:t % 2=0:=by omega
 have m1:(M:Int)≤32767:=by omega
 have m0:(0:Int)≤(M:Int):=by omega
 have c2:¬(M:Int) < 1:=by omega
 have c3:¬(Z:Int) < 16+8 * (M:Int):=by omega
 have c4:¬(s.size:Int) < (Z:Int):=by omega
 have c4n:decide (s.size < Z)=false:=by simp;omega
 have z0:(0:Int)≤(Z:Int):=by omega
 have z1:(Z:Int)≤65535:=by omega
 have H5:=hide h5
 have HXS:=hide hxs
 have HMM:Hid (1≤M∧M≤32767∧Z≤65535):=hide (by omega)
 obtain ⟨X,hX⟩:∃X,s.extract 0 Z=X:=⟨_,rfl⟩
 rw [hX] at HXS ⊢
 have hXs:(X.size:Int)=(Z:Int):=by have:=HXS.out;omega
 have CU:=hide (fun (j:Nat) (z:Int) (w:World) (hz:z=(j:Int)) (h:j+2≤Z)=>ru2_any X j z w hz (by rw [HXS.out];exact h) (by rw [HXS.out];omega))
 have HL2:=hide (n2_lt X.data.toList)
 have HXL:Hid (X.data.toList.length=Z):=hide (by rw [←Lib.size_eq];exact HXS.out)
 have HVB:=hide (fun (i:Nat)=>@foW_bad X.data.toList M n i)
 have HVL:=hide (@foW_last X.data.toList M n)
 have HVF:=hide (fun (i:Nat)=>@foW_full X.data.toList M n i)
 have HVO:=hide (@foW_ok X.data.toList M n)
 clear h1 h2 h3 h4 h5 h6 hM ht hxs b2 b6 hs hn
 go_enter Tryz.func45,Tryz.ntmps45
 go_wp2_with fail
 refine (C6.out _).mono ?_
 rintro e w1 ⟨rfl,k1,hw⟩
 subst hw
 go_wp2_with fail
 refine (C2.out _).mono ?_
 rintro e w1 ⟨rfl,k2,hw⟩
 subst hw
 go_wp2_with fail
 refine (C6.out _).mono ?_
 rintro e w1 ⟨rfl,k3,hw⟩
 subst hw
 go_wp2_with fail
 go_loopw [8] (fun vi wr=>∃(k:Nat),vi=.int .i64 k∧Hid (k≤M∧(∀j,j < k→okS X.data.toList M j=true)∧(k=M→leS X.data.toList M=65536)∧∃m,wr=w.drewN m)) (fun vi _=>M - (intOf vi).toNat)
 case atStart=>exact ⟨0,rfl,hide ⟨by omega,fun j hj=>by omega,fun h=>by have:=HMM.out;omega,_,rfl⟩⟩
 case round=>
  obtain ⟨k,rfl,HV⟩:=hrel
  obtain ⟨hk,hok,hlast,m,hwm⟩:=HV.out
  subst hwm
  have hk0:(0:Int)≤(k:Int):=by omega
  have HOK:=hide hok
  have HLA:=hide hlast
  clear HV hok hlast
  by_cases hlt:k < M
  case neg=>
   have hlt':¬(k:Int) < (M:Int):=by omega
   have EV:Hid (foW X.data.toList M n=accS X.data.toList M n M):=hide (HVO.out (fun i hi=>HOK.out i (by omega)) (HLA.out (by omega)))
   have HOM:Hid (∀j,j < M→okS X.data.toList M j=true):=hide (fun j hj=>HOK.out j (by omega))
   clear HOK HLA
   go_wp2_with fail
   clear hlt hlt' hk hk0
   go_loopw [11,12] (fun vo vi wr=>∃(q:Nat) (cur:List Ch),vi=.int .i64 q∧Hid (q≤M∧accS X.data.toList M n q=some cur∧BD cur∧CRow wr w.heap.size vo cur∧Below w.heap.size w wr)) (fun _ vi _=>M - (intOf vi).toNat)
   case atStart=>exact ⟨0,[],rfl,hide ⟨by omega,rfl,BD.nil,CRow.nil _ _,below_drewN (Below.refl _ _) _⟩⟩
   case round=>
    obtain ⟨q,cur,rfl,HV⟩:=hrel
    obtain ⟨hq1,hac,hbd,hcr,hbw⟩:=HV.out
    have hq0:(0:Int)≤(q:Int):=by omega
    have HAC:=hide hac
    have HBD:=hide hbd
    have HCR:=hide hcr
    have HBW:=hide hbw
    clear HV hac hbd hcr hbw
    by_cases hlt:q < M
    case neg=>
     have hlt':¬(q:Int) < (M:Int):=by omega
     have E:Hid (foW X.data.toList M n=some cur):=hide (by
      obtain rfl:q=M:=by omega
      rw [EV.out,HAC.out])
     go_wp2_with fail
     go_ret2
     rw [E.out]
     exact ⟨_,rfl,HCR.out,HBW.out⟩
    have hlt':(q:Int) < (M:Int):=by omega
    have h5o:=H5.out
    have C1:=hide (fun z w (hz:z=((14+2 * q:Nat):Int))=>CU.out (14+2 * q) z w hz (by omega))
    have Ca:=hide (fun z w (hz:z=((16+2 * M+2 * q:Nat):Int))=>CU.out (16+2 * M+2 * q) z w hz (by omega))
    have Cd:=hide (fun z w (hz:z=((16+4 * M+2 * q:Nat):Int))=>CU.out (16+4 * M+2 * q) z w hz (by omega))
    have Co:=hide (fun z w (hz:z=((spl M q:Nat):Int))=>CU.out (spl M q) z w hz (by unfold spl;omega))
    have ba:=HL2.out (16+2 * M+2 * q)
    have bb:=HL2.out (14+2 * q)
    have bd:=HL2.out (16+4 * M+2 * q)
    have bo:=HL2.out (spl M q)
    have bp:spl M q≤1073741824:=by unfold spl;have:=HMM.out;omega
    have HP:Hid (16+6 * (M:Int)+2 * (q:Int)=((spl M q:Nat):Int)):=hide (by unfold spl;omega)
    have EOK:okS X.data.toList M q=decide (leS X.data.toList q≤n2 X.data.toList (16+2 * M+2 * q)∧n2 X.data.toList (16+2 * M+2 * q)≤n2 X.data.toList (14+2 * q)):=rfl
    rw [HOM.out q hlt] at EOK
    have EOK2:=(of_decide_eq_true EOK.symm).2
    have EAC:=hide (show accS X.data.toList M n (q+1)=segG X.data.toList (n2 X.data.toList (16+2 * M+2 * q)) (n2 X.data.toList (16+4 * M+2 * q)) (n2 X.data.toList (spl M q)) (spl M q) n cur (n2 X.data.toList (14+2 * q) - n2 X.data.toList (16+2 * M+2 * q)+1) by rw [accS,HAC.out];exact segF_eq _ _ _ _ _ _)
    clear EOK h5o
    generalize n2 X.data.toList (16+2 * M+2 * q)=A at *
    generalize n2 X.data.toList (14+2 * q)=B at *
    generalize n2 X.data.toList (16+4 * M+2 * q)=D at *
    generalize n2 X.data.toList (spl M q)=O at *
    generalize spl M q=P at *
    have a0:(0:Int)≤(A:Int):=by omega
    have b1:(B:Int)≤65535:=by omega
    have ab:(A:Int)≤(B:Int):=by omega
    have dd0:(0:Int)≤(D:Int):=by omega
    have dd1:(D:Int)≤65535:=by omega
    have oo0:(0:Int)≤(O:Int):=by omega
    have oo1:(O:Int)≤65535:=by omega
    have pp0:(0:Int)≤(P:Int):=by omega
    have pp1:(P:Int)≤1073741824:=by omega
    obtain ⟨cnt,hcnt⟩:∃cnt,B - A+1=cnt:=⟨_,rfl⟩
    rw [hcnt] at EAC
    have HCN:=hide hcnt
    have HAB:=hide EOK2
    clear hcnt EOK2 ba bb bd bo bp
    go_wp2_with fail
    refine (C1.out _ _ (by omega)).mono ?_
    rintro e w1 ⟨rfl,m1,hw⟩
    subst hw
    go_wp2_with fail
    refine (Ca.out _ _ (by omega)).mono ?_
    rintro e w1 ⟨rfl,m2,hw⟩
    subst hw
    go_wp2_with fail
    refine (Cd.out _ _ (by omega)).mono ?_
    rintro e w1 ⟨rfl,m3,hw⟩
    subst hw
    have hp:=HP.out
    go_wp2_with fail
    refine (Co.out _ _ (by omega)).mono ?_
    rintro e w1 ⟨rfl,m4,hw⟩
    subst hw
    have HB3:Hid (∀m,Below w.heap.size w (wr.drewN m)):=hide (fun m=>below_drewN HBW.out m)
    have HC3:Hid (∀m,CRow (wr.drewN m) w.heap.size u11 cur):=hide (fun m=>HCR.out)
    go_wp2_with fail
    clear hp
    go_loopw [11,18] (fun vo vc wr=>∃(j:Nat) (cu:List Ch),vc=.int .i64 ((A+j:Nat):Int)∧Hid (j≤cnt∧segG X.data.toList A D O P n cur j=some cu∧BD cu∧CRow wr w.heap.size vo cu∧Below w.heap.size w wr)) (fun _ vc _=>A+cnt - (intOf vc).toNat)
    case atStart=>exact ⟨0,cur,rfl,hide ⟨by omega,rfl,HBD.out,HC3.out _,HB3.out _⟩⟩
    case round=>
     obtain ⟨j,cu,rfl,HV⟩:=hrel
     obtain ⟨hj,hgr,hbd,hcr,hbw⟩:=HV.out
     have HGR:=hide hgr
     have HBD2:=hide hbd
     have HCR2:=hide hcr
     have HBW2:=hide hbw
     clear HV hgr hbd hcr hbw HC3 HB3
     obtain ⟨c,hc⟩:∃c:Int,((A+j:Nat):Int)=c:=⟨_,rfl⟩
     rw [hc]
     have HC:=hide hc
     have q0:0≤c:=by omega
     have q1:c≤65536:=by have:=HCN.out;have:=HAB.out;omega
     by_cases hlt2:j < cnt
     case neg=>
      have hlt2':¬c≤(B:Int):=by have:=HCN.out;have:=HAB.out;omega
      have EJ:Hid (accS X.data.toList M n (q+1)=some cu):=hide (by
       rw [EAC.out,←HGR.out]
       obtain rfl:j=cnt:=by omega
       rfl)
      clear hc
      go_wp2_with fail
      go_roundw
      case rel=>exact ⟨q+1,cu,by go_num,hide ⟨by omega,EJ.out,HBD2.out,HCR2.out,HBW2.out⟩⟩
      case measure=>simp [intOf];omega
     have hlt2':c≤(B:Int):=by have:=HCN.out;have:=HAB.out;omega
     have q2:c≤65535:=by omega
     have q3:(A:Int)≤c:=by omega
     have ENX:Hid (((A+(j+1):Nat):Int)=c+1):=hide (by have:=HC.out;omega)
     have EST0:Hid (segG X.data.toList A D O P n cur (j+1)=if c=65535∨isP c=false then some cu else gstep n cu c (glW X.data.toList A D O P (A+j))):=hide (by
      rw [segG,HGR.out]
      show stG _ _ _ _ _ _ _ _=_
      unfold stG
      rw [HC.out]
      have e:(A+j=65535∨isP c=false)↔(c=65535∨isP c=false):=by
       have:=HC.out
       constructor
       ·rintro (h | h)
        ·exact Or.inl (by omega)
        ·exact Or.inr h
       ·rintro (h | h)
        ·exact Or.inl (by omega)
        ·exact Or.inr h
      by_cases hh:c=65535∨isP c=false
      ·rw [if_pos (e.2 hh),if_pos hh]
      ·rw [if_neg (fun x=>hh (e.1 x)),if_neg hh])
     have ENO:Hid (segG X.data.toList A D O P n cur (j+1)=none→foW X.data.toList M n=none):=hide (fun h=>HVF.out (q+1) (by omega) (by rw [EAC.out];exact segG_end h (by omega)))
     clear hc
     by_cases c1:c=65535
     ·have E:Hid (segG X.data.toList A D O P n cur (j+1)=some cu):=hide (by rw [EST0.out,if_pos (Or.inl c1)])
      have c1':(c == 65535)=true:=by simpa using c1
      clear EST0 ENO c1
      go_wp2_with fail
      go_roundw
      case rel=>exact ⟨j+1,cu,by rw [ENX.out],hide ⟨by omega,E.out,HBD2.out,HCR2.out,HBW2.out⟩⟩
      case measure=>have:=HC.out;simp [intOf];omega
     have c1':(c == 65535)=false:=by simpa using c1
     cases hpt:isP c
     ·have E:Hid (segG X.data.toList A D O P n cur (j+1)=some cu):=hide (by rw [EST0.out,if_pos (Or.inr hpt)])
      have CI1:=hide (fun w=>CI.out c w)
      rw [hpt] at CI1
      clear EST0 ENO c1 hpt
      go_wp2_with fail
      refine (CI1.out _).mono ?_
      rintro e w1 ⟨rfl,hw⟩
      replace hw:=hw.symm
      subst hw
      go_wp2_with fail
      go_roundw
      case rel=>exact ⟨j+1,cu,by rw [ENX.out],hide ⟨by omega,E.out,HBD2.out,HCR2.out,HBW2.out⟩⟩
      case measure=>have:=HC.out;simp [intOf];omega
     have EST:Hid (segG X.data.toList A D O P n cur (j+1)=gstep n cu c (glW X.data.toList A D O P (A+j))):=hide (by
      rw [EST0.out,if_neg]
      rintro (h | h)
      ·exact c1 h
      ·rw [hpt] at h;cases h)
     have CI:=hide (fun (c':Int) w (h:c'=c)=>CI.out c' w)
     have CI:Hid (∀(c':Int) w,c'=c→Calls Tryz.prog 83 #[.int .i64 c'] w fun e w'=>e=.returned (.bool true)∧w'=w):=hide (fun c' w h=>by have:=CI.out c' w h;rw [h,hpt] at this;rw [h];exact this)
     have CI:=hide (fun (c':Int) w=>fun (h:c'=c)=>CI.out c' w h)
     have HPT:=hide hpt
     have CI:Hid (∀(c':Int) w,Calls Tryz.prog 83 #[.int .i64 c] w fun e w'=>e=.returned (.bool true)∧w'=w):=hide (fun c' w=>CI.out c w rfl)
     obtain ⟨Y,hY⟩:∃Y,(A+j+D) % 65536=Y:=⟨_,rfl⟩
     have y1:(c+(D:Int)) % 65536=(Y:Int):=by have:=HC.out;omega
     have y2:(c+(D:Int)).tmod 65536=(Y:Int):=by rw [Int.tmod_eq_emod_of_nonneg (by omega)];exact y1
     have yb:(Y:Int)≤65535:=by omega
     have HY:=hide hY
     clear EST0 c1 hpt hY
     by_cases o1:O=0
     ·have EG:glW X.data.toList A D O P (A+j)=some Y:=by unfold glW;rw [if_pos o1,HY.out]
      have o1':((O:Int) != 0)=false:=by simpa using o1
      clear o1
      have CT:=hide (radd_any w.heap.size u11 c (Y:Int) cu wr HCR2.out HBW2.out.size HBD2.out (by omega) (by omega) q0 (by omega))
      have hst:stP cu c (Y:Int)=addC cu c (Y:Int):=by unfold stP;rw [HPT.out];rfl
      rw [hst] at CT
      have E1:Hid (segG X.data.toList A D O P n cur (j+1)=gstep n cu c (some Y)):=hide (by rw [EST.out,EG])
      have CT2:=hide (fun m=>(show Calls Tryz.prog 82 #[u11,.int .i64 c,.int .i64 (Y:Int)] (wr.drewN m) (AdR (wr.drewN m) w.heap.size (addC cu c (Y:Int))) by
       have:=radd_any w.heap.size u11 c (Y:Int) cu (wr.drewN m) HCR2.out HBW2.out.size HBD2.out (by omega) (by omega) q0 (by omega)
       rw [hst] at this
       exact this))
      have gb:(Y:Int)≤65535:=by omega
      have HADD:=hide (fun cs2 h=>HBD2.out.add (cs':=cs2) q0 (by omega) (by omega:(0:Int)≤(Y:Int)) (by omega) h)
      clear hst EG EST CT2
      by_cases hg:Y < n
      case neg=>
       have EN:=hide (ENO.out (by rw [E1.out];exact if_neg hg))
       have hg':(n:Int)≤(Y:Int):=by omega
       clear E1 HADD ENO hg
       generalize addC cu c (Y:Int)=AD at *
       cases AD with
       | none=>
        go_wp2_with fail
        refine (CI.out c _).mono ?_
        rintro e w1 ⟨rfl,hw⟩
        replace hw:=hw.symm
        subst hw
        go_wp2_with fail
        refine CT.out.mono ?_
        rintro e w1 ⟨rfl,ht⟩
        have HT2:=hide (HBW2.out.trans (show Below w.heap.size wr w1 from ⟨ht.os,ht.tape,ht.output,ht.size,ht.block⟩))
        clear ht
        go_wp2_with fail
        go_ret2
        rw [EN.out]
        exact ⟨rfl,HT2.out⟩
       | some cs2=>
        go_wp2_with fail
        refine (CI.out c _).mono ?_
        rintro e w1 ⟨rfl,hw⟩
        replace hw:=hw.symm
        subst hw
        go_wp2_with fail
        refine CT.out.mono ?_
        rintro e w1 ⟨v2,rfl,_,ht⟩
        have HT2:=hide (HBW2.out.trans (show Below w.heap.size wr w1 from ⟨ht.os,ht.tape,ht.output,ht.size,ht.block⟩))
        clear ht
        go_wp2_with fail
        go_ret2
        rw [EN.out]
        exact ⟨rfl,HT2.out⟩
      have hg':¬(n:Int)≤(Y:Int):=by omega
      have E2:Hid (segG X.data.toList A D O P n cur (j+1)=addC cu c (Y:Int)):=hide (by rw [E1.out];exact if_pos hg)
      clear E1 hg
      generalize addC cu c (Y:Int)=AD at *
      cases AD with
      | none=>
       have EN:=hide (ENO.out E2.out)
       clear E2 HADD ENO
       go_wp2_with fail
       refine (CI.out c _).mono ?_
       rintro e w1 ⟨rfl,hw⟩
       replace hw:=hw.symm
       subst hw
       go_wp2_with fail
       refine CT.out.mono ?_
       rintro e w1 ⟨rfl,ht⟩
       have HT2:=hide (HBW2.out.trans (show Below w.heap.size wr w1 from ⟨ht.os,ht.tape,ht.output,ht.size,ht.block⟩))
       clear ht
       go_wp2_with fail
       go_ret2
       rw [EN.out]
       exact ⟨rfl,HT2.out⟩
      | some cs2=>
       have HBD3:=hide (HADD.out cs2 rfl)
       clear HADD ENO
       go_wp2_with fail
       refine (CI.out c _).mono ?_
       rintro e w1 ⟨rfl,hw⟩
       replace hw:=hw.symm
       subst hw
       go_wp2_with fail
       refine CT.out.mono ?_
       rintro e w1 ⟨v2,rfl,hc2,ht⟩
       have HCR3:=hide hc2
       have HT2:=hide (HBW2.out.trans (show Below w.heap.size wr w1 from ⟨ht.os,ht.tape,ht.output,ht.size,ht.block⟩))
       clear ht hc2
       go_wp2_with fail
       go_roundw
       case rel=>exact ⟨j+1,cs2,by rw [ENX.out],hide ⟨by omega,E2.out,HBD3.out,HCR3.out,HT2.out⟩⟩
       case measure=>have:=HC.out;simp [intOf];omega
     have o1':((O:Int) != 0)=true:=by simp;omega
     have AT:P+O+2 * (A+j - A)=P+O+2 * j:=by omega
     by_cases o2:O % 2=0
     case neg=>
      have EG:glW X.data.toList A D O P (A+j)=none:=by unfold glW;rw [if_neg o1,if_pos (Or.inl o2)]
      have EN:=hide (ENO.out (by rw [EST.out,EG];rfl))
      have r1:(O:Int) % 2=1:=by omega
      have r2:(O:Int).tmod 2=1:=by rw [Int.tmod_eq_emod_of_nonneg (by omega)];exact r1
      clear EG o1 o2 AT EST ENO
      go_wp2_with fail
      refine (CI.out c _).mono ?_
      rintro e w1 ⟨rfl,hw⟩
      replace hw:=hw.symm
      subst hw
      go_wp2_with fail
      go_ret2
      rw [EN.out]
      exact ⟨rfl,HBW2.out⟩
     have r1:(O:Int) % 2=0:=by omega
     have r2:(O:Int).tmod 2=0:=by rw [Int.tmod_eq_emod_of_nonneg (by omega)];exact r1
     by_cases o3:Z < P+O+2 * j+2
     ·have EG:glW X.data.toList A D O P (A+j)=none:=by unfold glW;rw [if_neg o1,if_pos (Or.inr (by rw [HXL.out,AT];exact o3))]
      have EN:=hide (ENO.out (by rw [EST.out,EG];rfl))
      have o3':(Z:Int) < (P:Int)+(O:Int)+2 * (c - (A:Int))+2:=by have:=HC.out;omega
      clear EG o1 o2 AT EST ENO o3
      go_wp2_with fail
      refine (CI.out c _).mono ?_
      rintro e w1 ⟨rfl,hw⟩
      replace hw:=hw.symm
      subst hw
      go_wp2_with fail
      go_ret2
      rw [EN.out]
      exact ⟨rfl,HBW2.out⟩
     have o3':¬(Z:Int) < (P:Int)+(O:Int)+2 * (c - (A:Int))+2:=by have:=HC.out;omega
     have CAT:=hide (fun z w (hz:z=((P+O+2 * j:Nat):Int))=>CU.out (P+O+2 * j) z w hz (by omega))
     have HAT:Hid ((P:Int)+(O:Int)+2 * (c - (A:Int))=((P+O+2 * j:Nat):Int)):=hide (by have:=HC.out;omega)
     have EG0:glW X.data.toList A D O P (A+j)=if n2 X.data.toList (P+O+2 * j)=0 then some 0 else some ((n2 X.data.toList (P+O+2 * j)+D) % 65536):=by
      unfold glW
      rw [if_neg o1,if_neg]
      ·rw [AT]
      ·rintro (h | h)
       ·exact h o2
       ·rw [HXL.out,AT] at h;exact o3 h
     have bt:=HL2.out (P+O+2 * j)
     generalize n2 X.data.toList (P+O+2 * j)=TD at *
     clear o1 o2 o3 AT
     by_cases o4:TD=0
     ·have EG:glW X.data.toList A D O P (A+j)=some 0:=by rw [EG0,if_pos o4]
      have o4':((TD:Int) != 0)=false:=by simpa using o4
      rw [←o4] at EG
      clear o4 EG0
      have CT:=hide (radd_any w.heap.size u11 c (TD:Int) cu wr HCR2.out HBW2.out.size HBD2.out (by omega) (by omega) q0 (by omega))
      have hst:stP cu c (TD:Int)=addC cu c (TD:Int):=by unfold stP;rw [HPT.out];rfl
      rw [hst] at CT
      have E1:Hid (segG X.data.toList A D O P n cur (j+1)=gstep n cu c (some TD)):=hide (by rw [EST.out,EG])
      have CT2:=hide (fun m=>(show Calls Tryz.prog 82 #[u11,.int .i64 c,.int .i64 (TD:Int)] (wr.drewN m) (AdR (wr.drewN m) w.heap.size (addC cu c (TD:Int))) by
       have:=radd_any w.heap.size u11 c (TD:Int) cu (wr.drewN m) HCR2.out HBW2.out.size HBD2.out (by omega) (by omega) q0 (by omega)
       rw [hst] at this
       exact this))
      have gb:(TD:Int)≤65535:=by omega
      have HADD:=hide (fun cs2 h=>HBD2.out.add (cs':=cs2) q0 (by omega) (by omega:(0:Int)≤(TD:Int)) (by omega) h)
      clear hst EG EST CT
      by_cases hg:TD < n
      case neg=>
       have EN:=hide (ENO.out (by rw [E1.out];exact if_neg hg))
       have hg':(n:Int)≤(TD:Int):=by omega
       clear E1 HADD ENO hg
       generalize addC cu c (TD:Int)=AD at *
       cases AD with
       | none=>
        go_wp2_with fail
        refine (CI.out c _).mono ?_
        rintro e w1 ⟨rfl,hw⟩
        replace hw:=hw.symm
        subst hw
        go_wp2_with fail
        refine (CAT.out _ _ HAT.out).mono ?_
        rintro e w1 ⟨rfl,mm,hw⟩
        subst hw
        go_wp2_with fail
        refine (CT2.out _).mono ?_
        rintro e w1 ⟨rfl,ht⟩
        have HT2:=hide (HBW2.out.trans (show Below w.heap.size wr w1 from ⟨ht.os,ht.tape,ht.output,ht.size,ht.block⟩))
        clear ht
        go_wp2_with fail
        go_ret2
        rw [EN.out]
        exact ⟨rfl,HT2.out⟩
       | some cs2=>
        go_wp2_with fail
        refine (CI.out c _).mono ?_
        rintro e w1 ⟨rfl,hw⟩
        replace hw:=hw.symm
        subst hw
        go_wp2_with fail
        refine (CAT.out _ _ HAT.out).mono ?_
        rintro e w1 ⟨rfl,mm,hw⟩
        subst hw
        go_wp2_with fail
        refine (CT2.out _).mono ?_
        rintro e w1 ⟨v2,rfl,_,ht⟩
        have HT2:=hide (HBW2.out.trans (show Below w.heap.size wr w1 from ⟨ht.os,ht.tape,ht.output,ht.size,ht.block⟩))
        clear ht
        go_wp2_with fail
        go_ret2
        rw [EN.out]
        exact ⟨rfl,HT2.out⟩
      have hg':¬(n:Int)≤(TD:Int):=by omega
      have E2:Hid (segG X.data.toList A D O P n cur (j+1)=addC cu c (TD:Int)):=hide (by rw [E1.out];exact if_pos hg)
      clear E1 hg
      generalize addC cu c (TD:Int)=AD at *
      cases AD with
      | none=>
       have EN:=hide (ENO.out E2.out)
       clear E2 HADD ENO
       go_wp2_with fail
       refine (CI.out c _).mono ?_
       rintro e w1 ⟨rfl,hw⟩
       replace hw:=hw.symm
       subst hw
       go_wp2_with fail
       refine (CAT.out _ _ HAT.out).mono ?_
       rintro e w1 ⟨rfl,mm,hw⟩
       subst hw
       go_wp2_with fail
       refine (CT2.out _).mono ?_
       rintro e w1 ⟨rfl,ht⟩
       have HT2:=hide (HBW2.out.trans (show Below w.heap.size wr w1 from ⟨ht.os,ht.tape,ht.output,ht.size,ht.block⟩))
       clear ht
       go_wp2_with fail
       go_ret2
       rw [EN.out]
       exact ⟨rfl,HT2.out⟩
      | some cs2=>
       have HBD3:=hide (HADD.out cs2 rfl)
       clear HADD ENO
       go_wp2_with fail
       refine (CI.out c _).mono ?_
       rintro e w1 ⟨rfl,hw⟩
       replace hw:=hw.symm
       subst hw
       go_wp2_with fail
       refine (CAT.out _ _ HAT.out).mono ?_
       rintro e w1 ⟨rfl,mm,hw⟩
       subst hw
       go_wp2_with fail
       refine (CT2.out _).mono ?_
       rintro e w1 ⟨v2,rfl,hc2,ht⟩
       have HCR3:=hide hc2
       have HT2:=hide (HBW2.out.trans (show Below w.heap.size wr w1 from ⟨ht.os,ht.tape,ht.output,ht.size,ht.block⟩))
       clear ht hc2
       go_wp2_with fail
       go_roundw
       case rel=>exact ⟨j+1,cs2,by rw [ENX.out],hide ⟨by omega,E2.out,HBD3.out,HCR3.out,HT2.out⟩⟩
       case measure=>have:=HC.out;simp [intOf];omega
     ·obtain ⟨GG,hGG⟩:∃GG,(TD+D) % 65536=GG:=⟨_,rfl⟩
      have EG:glW X.data.toList A D O P (A+j)=some GG:=by rw [EG0,if_neg o4,hGG]
      have o4':((TD:Int) != 0)=true:=by simp;omega
      have v1:((TD:Int)+(D:Int)) % 65536=(GG:Int):=by omega
      have v2:((TD:Int)+(D:Int)).tmod 65536=(GG:Int):=by rw [Int.tmod_eq_emod_of_nonneg (by omega)];exact v1
      have td0:(0:Int)≤(TD:Int):=by omega
      have td1:(TD:Int)≤65535:=by omega
      have gbb:GG≤65535:=by omega
      clear o4 EG0 hGG
      have CT:=hide (radd_any w.heap.size u11 c (GG:Int) cu wr HCR2.out HBW2.out.size HBD2.out (by omega) (by omega) q0 (by omega))
      have hst:stP cu c (GG:Int)=addC cu c (GG:Int):=by unfold stP;rw [HPT.out];rfl
      rw [hst] at CT
      have E1:Hid (segG X.data.toList A D O P n cur (j+1)=gstep n cu c (some GG)):=hide (by rw [EST.out,EG])
      have CT2:=hide (fun m=>(show Calls Tryz.prog 82 #[u11,.int .i64 c,.int .i64 (GG:Int)] (wr.drewN m) (AdR (wr.drewN m) w.heap.size (addC cu c (GG:Int))) by
       have:=radd_any w.heap.size u11 c (GG:Int) cu (wr.drewN m) HCR2.out HBW2.out.size HBD2.out (by omega) (by omega) q0 (by omega)
       rw [hst] at this
       exact this))
      have gb:(GG:Int)≤65535:=by omega
      have HADD:=hide (fun cs2 h=>HBD2.out.add (cs':=cs2) q0 (by omega) (by omega:(0:Int)≤(GG:Int)) (by omega) h)
      clear hst EG EST CT
      by_cases hg:GG < n
      case neg=>
       have EN:=hide (ENO.out (by rw [E1.out];exact if_neg hg))
       have hg':(n:Int)≤(GG:Int):=by omega
       clear E1 HADD ENO hg
       generalize addC cu c (GG:Int)=AD at *
       cases AD with
       | none=>
        go_wp2_with fail
        refine (CI.out c _).mono ?_
        rintro e w1 ⟨rfl,hw⟩
        replace hw:=hw.symm
        subst hw
        go_wp2_with fail
        refine (CAT.out _ _ HAT.out).mono ?_
        rintro e w1 ⟨rfl,mm,hw⟩
        subst hw
        go_wp2_with fail
        refine (CT2.out _).mono ?_
        rintro e w1 ⟨rfl,ht⟩
        have HT2:=hide (HBW2.out.trans (show Below w.heap.size wr w1 from ⟨ht.os,ht.tape,ht.output,ht.size,ht.block⟩))
        clear ht
        go_wp2_with fail
        go_ret2
        rw [EN.out]
        exact ⟨rfl,HT2.out⟩
       | some cs2=>
        go_wp2_with fail
        refine (CI.out c _).mono ?_
        rintro e w1 ⟨rfl,hw⟩
        replace hw:=hw.symm
        subst hw
        go_wp2_with fail
        refine (CAT.out _ _ HAT.out).mono ?_
        rintro e w1 ⟨rfl,mm,hw⟩
        subst hw
        go_wp2_with fail
        refine (CT2.out _).mono ?_
        rintro e w1 ⟨v2,rfl,_,ht⟩
        have HT2:=hide (HBW2.out.trans (show Below w.heap.size wr w1 from ⟨ht.os,ht.tape,ht.output,ht.size,ht.block⟩))
        clear ht
        go_wp2_with fail
        go_ret2
        rw [EN.out]
        exact ⟨rfl,HT2.out⟩
      have hg':¬(n:Int)≤(GG:Int):=by omega
      have E2:Hid (segG X.data.toList A D O P n cur (j+1)=addC cu c (GG:Int)):=hide (by rw [E1.out];exact if_pos hg)
      clear E1 hg
      generalize addC cu c (GG:Int)=AD at *
      cases AD with
      | none=>
       have EN:=hide (ENO.out E2.out)
       clear E2 HADD ENO
       go_wp2_with fail
       refine (CI.out c _).mono ?_
       rintro e w1 ⟨rfl,hw⟩
       replace hw:=hw.symm
       subst hw
       go_wp2_with fail
       refine (CAT.out _ _ HAT.out).mono ?_
       rintro e w1 ⟨rfl,mm,hw⟩
       subst hw
       go_wp2_with fail
       refine (CT2.out _).mono ?_
       rintro e w1 ⟨rfl,ht⟩
       have HT2:=hide (HBW2.out.trans (show Below w.heap.size wr w1 from ⟨ht.os,ht.tape,ht.output,ht.size,ht.block⟩))
       clear ht
       go_wp2_with fail
       go_ret2
       rw [EN.out]
       exact ⟨rfl,HT2.out⟩
      | some cs2=>
       have HBD3:=hide (HADD.out cs2 rfl)
       clear HADD ENO
       go_wp2_with fail
       refine (CI.out c _).mono ?_
       rintro e w1 ⟨rfl,hw⟩
       replace hw:=hw.symm
       subst hw
       go_wp2_with fail
       refine (CAT.out _ _ HAT.out).mono ?_
       rintro e w1 ⟨rfl,mm,hw⟩
       subst hw
       go_wp2_with fail
       refine (CT2.out _).mono ?_
       rintro e w1 ⟨v2,rfl,hc2,ht⟩
       have HCR3:=hide hc2
       have HT2:=hide (HBW2.out.trans (show Below w.heap.size wr w1 from ⟨ht.os,ht.tape,ht.output,ht.size,ht.block⟩))
       clear ht hc2
       go_wp2_with fail
       go_roundw
       case rel=>exact ⟨j+1,cs2,by rw [ENX.out],hide ⟨by omega,E2.out,HBD3.out,HCR3.out,HT2.out⟩⟩
       case measure=>have:=HC.out;simp [intOf];omega
  have hlt':(k:Int) < (M:Int):=by omega
  have h5o:=H5.out
  have C1:=hide (fun z w (hz:z=((14+2 * k:Nat):Int))=>CU.out (14+2 * k) z w hz (by omega))
  have Ca:=hide (fun z w (hz:z=((16+2 * M+2 * k:Nat):Int))=>CU.out (16+2 * M+2 * k) z w hz (by omega))
  have ba:=HL2.out (16+2 * M+2 * k)
  have bb:=HL2.out (14+2 * k)
  have EOK:=hide (show okS X.data.toList M k=decide (leS X.data.toList k≤n2 X.data.toList (16+2 * M+2 * k)∧n2 X.data.toList (16+2 * M+2 * k)≤n2 X.data.toList (14+2 * k)) from rfl)
  have ELE:=hide (show leS X.data.toList (k+1)=n2 X.data.toList (14+2 * k)+1 from rfl)
  generalize n2 X.data.toList (16+2 * M+2 * k)=A at *
  generalize n2 X.data.toList (14+2 * k)=B at *
  clear h5o
  have a0:(0:Int)≤(A:Int):=by omega
  have a1:(A:Int)≤65535:=by omega
  have b0:(0:Int)≤(B:Int):=by omega
  have b1:(B:Int)≤65535:=by omega
  go_wp2_with fail
  refine (C1.out _ _ (by omega)).mono ?_
  rintro e w1 ⟨rfl,m1,hw⟩
  subst hw
  go_wp2_with fail
  refine (Ca.out _ _ (by omega)).mono ?_
  rintro e w1 ⟨rfl,m2,hw⟩
  subst hw
  by_cases c5:B < A
  ·have E:=hide (HVB.out k hlt (by rw [EOK.out];exact decide_eq_false (by omega)))
   have c5':(B:Int) < (A:Int):=by omega
   go_wp2_with fail
   go_ret2
   rw [E.out]
   exact ⟨rfl,below_drewN (Below.refl _ _) _⟩
  have c5':¬(B:Int) < (A:Int):=by omega
  have FIN:Hid (leS X.data.toList k≤A→okS X.data.toList M k=true):=hide (fun h=>by rw [EOK.out];exact decide_eq_true (by omega))
  have FNO:Hid (¬leS X.data.toList k≤A→foW X.data.toList M n=none):=hide (fun h=>HVB.out k hlt (by rw [EOK.out];exact decide_eq_false (by omega)))
  have FLA:Hid (k+1=M→B≠65535→foW X.data.toList M n=none):=hide (fun h1 h2=>HVL.out (by rw [←h1,ELE.out];omega))
  have FEN:Hid (okS X.data.toList M k=true→∀i,i < k+1→okS X.data.toList M i=true):=hide (fun h i hi=>by
   rcases Nat.lt_or_ge i k with h' | h'
   ·exact HOK.out i h'
   ·obtain rfl:i=k:=by omega
    exact h)
  have FLS:Hid (B=65535→k+1=M→leS X.data.toList M=65536):=hide (fun h1 h2=>by rw [←h2,ELE.out,h1])
  clear EOK ELE ba bb
  have km:IntKind.i64.wrap ((M:Int) - 1)=(M:Int) - 1:=by rw [IntKind.wrap_i64];omega
  by_cases c7:k=0
  ·have E:=hide (FEN.out (FIN.out (by rw [c7];exact Nat.zero_le _)))
   have c7':¬(0:Int) < (k:Int):=by omega
   have c7n:decide (0 < k)=false:=by simp;omega
   by_cases c8:k+1=M
   ·have c8':((k:Int) == (M:Int) - 1)=true:=by simp;omega
    by_cases c9:B=65535
    ·have c9':((B:Int) != 65535)=false:=by simp;omega
     have EL:=hide (FLS.out c9)
     clear c7 c9 c8 FIN FNO FLA FEN FLS
     go_wp2_with fail
     go_roundw
     case rel=>exact ⟨k+1,by go_num,hide ⟨by omega,E.out,EL.out,_,rfl⟩⟩
     case measure=>simp [intOf];omega
    ·have c9':((B:Int) != 65535)=true:=by simp;omega
     have EN:=hide (FLA.out c8 c9)
     clear c7 c9 c8 FIN FNO FLA FEN FLS
     go_wp2_with fail
     go_ret2
     rw [EN.out]
     exact ⟨rfl,below_drewN (Below.refl _ _) _⟩
   ·have c8':((k:Int) == (M:Int) - 1)=false:=by simp;omega
    have HC8:=hide c8
    clear c7 c8 FIN FNO FLA FEN FLS
    go_wp2_with fail
    go_roundw
    case rel=>exact ⟨k+1,by go_num,hide ⟨by omega,E.out,fun h=>absurd h HC8.out,_,rfl⟩⟩
    case measure=>simp [intOf];omega
  obtain ⟨p,hp⟩:∃p,k=p+1:=⟨k - 1,by omega⟩
  have Cp:=hide (fun z w (hz:z=((14+2 * p:Nat):Int))=>CU.out (14+2 * p) z w hz (by have:=H5.out;omega))
  have ELP:=hide (show leS X.data.toList k=n2 X.data.toList (14+2 * p)+1 by rw [hp];rfl)
  generalize n2 X.data.toList (14+2 * p)=PB at *
  have HPZ:Hid (12+2 * (k:Int)=((14+2 * p:Nat):Int)):=hide (by omega)
  have c7':(0:Int) < (k:Int):=by omega
  have c7n:decide (0 < k)=true:=by simp;omega
  clear hp
  by_cases c6:A≤PB
  ·have EN:=hide (FNO.out (by rw [ELP.out];omega))
   have c6':(A:Int)≤(PB:Int):=by omega
   clear c7 FIN FNO FLA FEN FLS c6
   go_wp2_with fail
   refine (Cp.out _ _ HPZ.out).mono ?_
   rintro e w1 ⟨rfl,m3,hw⟩
   subst hw
   go_wp2_with fail
   go_ret2
   rw [EN.out]
   exact ⟨rfl,below_drewN (Below.refl _ _) _⟩
  have c6':¬(A:Int)≤(PB:Int):=by omega
  have E:=hide (FEN.out (FIN.out (by rw [ELP.out];omega)))
  by_cases c8:k+1=M
  ·have c8':((k:Int) == (M:Int) - 1)=true:=by simp;omega
   by_cases c9:B=65535
   ·have c9':((B:Int) != 65535)=false:=by simp;omega
    have EL:=hide (FLS.out c9)
    clear c7 c9 c8 FIN FNO FLA FEN FLS c6
    go_wp2_with fail
    refine (Cp.out _ _ HPZ.out).mono ?_
    rintro e w1 ⟨rfl,m3,hw⟩
    subst hw
    go_wp2_with fail
    go_roundw
    case rel=>exact ⟨k+1,by go_num,hide ⟨by omega,E.out,EL.out,_,rfl⟩⟩
    case measure=>simp [intOf];omega
   ·have c9':((B:Int) != 65535)=true:=by simp;omega
    have EN:=hide (FLA.out c8 c9)
    clear c7 c9 c8 FIN FNO FLA FEN FLS c6
    go_wp2_with fail
    refine (Cp.out _ _ HPZ.out).mono ?_
    rintro e w1 ⟨rfl,m3,hw⟩
    subst hw
    go_wp2_with fail
    go_ret2
    rw [EN.out]
    exact ⟨rfl,below_drewN (Below.refl _ _) _⟩
  ·have c8':((k:Int) == (M:Int) - 1)=false:=by simp;omega
   have HC8:=hide c8
   clear c7 c8 FIN FNO FLA FEN FLS c6
   go_wp2_with fail
   refine (Cp.out _ _ HPZ.out).mono ?_
   rintro e w1 ⟨rfl,m3,hw⟩
   subst hw
   go_wp2_with fail
   go_roundw
   case rel=>exact ⟨k+1,by go_num,hide ⟨by omega,E.out,fun h=>absurd h HC8.out,_,rfl⟩⟩
   case measure=>simp [intOf];omega
theorem rtw_any (s:ByteArray) (n:Nat) (w:World) (hs:s.size≤1073741824) (hn:n≤4096) :
  Calls Tryz.prog 44 #[.string s,.int .i64 (n:Int)] w (AdR w w.heap.size (twV s.data.toList n)):=by
 cases h:twB s.data.toList
 ·rw [twV_head h]
  exact (rtw_bad s n w hs h).mono fun e w' ⟨h1,m,h2⟩=>⟨h1,by rw [h2];exact below_drewN (Below.refl _ _) _⟩
 ·exact rtw_ok s n w hs h hn
theorem rfo_any (s:ByteArray) (n:Nat) (w:World) (hs:s.size≤1073741824) (hn:n≤4096) :
  Calls Tryz.prog 45 #[.string s,.int .i64 (n:Int)] w (AdR w w.heap.size (foV s.data.toList n)):=by
 cases h:foB s.data.toList
 ·have hv:foV s.data.toList n=none:=by unfold foV;rw [h];rfl
  rw [hv]
  exact (rfo_bad s n w hs h).mono fun e w' ⟨h1,m,h2⟩=>⟨h1,by rw [h2];exact below_drewN (Below.refl _ _) _⟩
 ·exact rfo_ok s n w hs h hn
def fstF (p:Nat→Bool) (K j:Nat):Option Nat:=((List.range K).drop j).find? p
theorem fstF_zero (p:Nat→Bool) (K:Nat):fstF p K 0=fstI p K:=rfl
theorem fstF_end (p:Nat→Bool) (K:Nat):fstF p K K=none:=by unfold fstF;rw [List.drop_eq_nil_of_le (by simp)];rfl
theorem fstF_step (p:Nat→Bool) (K j:Nat) (h:j < K):fstF p K j=if p j then some j else fstF p K (j+1):=by
 unfold fstF
 rw [List.drop_eq_getElem_cons (by simpa using h),List.find?_cons]
 simp only [List.getElem_range]
 cases p j <;> rfl
theorem fstF_t {p:Nat→Bool} {K j:Nat} (h:j < K) (hp:p j=true):ixV (fstF p K j)=(j:Int):=by rw [fstF_step p K j h,hp];rfl
theorem fstF_f {p:Nat→Bool} {K j:Nat} (h:j < K) (hp:p j=false):ixV (fstF p K j)=ixV (fstF p K (j+1)):=by rw [fstF_step p K j h,hp];rfl
def RrR (w:World) (R:Option (List Ch)) (e:Ending) (w':World):Prop:=match R with
 | some cs=>∃v,e=.returned (.tuple #[v,.int .i64 0])∧CRow w' w.heap.size v cs∧Below w.heap.size w w'
 | none=>e=.returned (.tuple #[.slice none 0 0,.int .i64 110])∧Below w.heap.size w w'
set_option maxRecDepth 8000 in
set_option maxHeartbeats 2000000 in
theorem rread_bad (t:ByteArray) (n:Nat) (w:World) (hs:t.size≤1073741824) (h1:1≤n) (h2:n≤4096) (h:rowB t.data.toList=false) :
  Calls Tryz.prog 19 #[.string t,.int .i64 (n:Int)] w (RrR w none):=by
 have hs':(t.size:Int)≤1073741824:=by omega
 have t1:¬(n:Int) < 1:=by omega
 have t2:¬(4096:Int) < (n:Int):=by omega
 have hT:¬(4≤t.data.toList.length∧t.data.toList.take 2=[0,0]∧4+8 * n2 t.data.toList 2≤t.data.toList.length):=fun hh=>by rw [rowB_t.2 hh] at h;cases h
 rw [←Lib.size_eq] at hT
 have CZ:=hide (fun w=>ru2_z t 2 2 w rfl hs (by omega))
 clear h h1 h2
 by_cases c1:t.size < 4
 ·have c1':(t.size:Int) < 4:=by omega
  clear hT
  go_enter Tryz.func19,Tryz.ntmps19
  go_wp2_with fail
  refine (CZ.out _).mono ?_
  rintro e w1 ⟨y,rfl,y1,_,k1,hw⟩
  subst hw
  go_wp2_with fail
  go_ret2
  exact ⟨rfl,below_drewN (Below.refl _ _) _⟩
 have c1':¬(t.size:Int) < 4:=by omega
 have c1b:(2:Int)≤(t.size:Int):=by omega
 have hq:=head_eq t 2 [0,0]
 by_cases c2:t.data.toList.take 2=[0,0]
 case neg=>
  rw [decide_eq_false c2] at hq
  clear hT c2
  go_enter Tryz.func19,Tryz.ntmps19
  go_wp2_with fail
  refine (CZ.out _).mono ?_
  rintro e w1 ⟨y,rfl,y1,_,k1,hw⟩
  subst hw
  go_wp2_with fail
  go_ret2
  exact ⟨rfl,below_drewN (Below.refl _ _) _⟩
 rw [decide_eq_true c2] at hq
 have C2:=hide (fun w=>ru2_any t 2 2 w rfl (by omega) hs)
 have bk:=n2_lt t.data.toList 2
 have c3:¬4+8 * n2 t.data.toList 2≤t.size:=fun hh=>hT ⟨by omega,c2,hh⟩
 generalize n2 t.data.toList 2=K at *
 have c3':(t.size:Int) < 4+8 * (K:Int):=by omega
 have k0:(0:Int)≤(K:Int):=by omega
 have k1:(K:Int)≤65535:=by omega
 clear hT c2 CZ c3
 go_enter Tryz.func19,Tryz.ntmps19
 go_wp2_with fail
 refine (C2.out _).mono ?_
 rintro e w1 ⟨rfl,m,hw⟩
 subst hw
 go_wp2_with fail
 go_ret2
 exact ⟨rfl,below_drewN (Below.refl _ _) _⟩
set_option maxRecDepth 8000 in
set_option maxHeartbeats 8000000 in
theorem rread_ok (t:ByteArray) (n:Nat) (w:World) (hs:t.size≤1073741824) (h1:1≤n) (h2:n≤4096) (h:rowB t.data.toList=true) :
  Calls Tryz.prog 19 #[.string t,.int .i64 (n:Int)] w (RrR w (redV t.data.toList n)):=by
 have hs':(t.size:Int)≤1073741824:=by omega
 have t1:¬(n:Int) < 1:=by omega
 have t2:¬(4096:Int) < (n:Int):=by omega
 have hv:redV t.data.toList n=redW t.data.toList n:=by unfold redV;rw [h];rfl
 rw [hv]
 have hT:=rowB_t.1 h
 rw [←Lib.size_eq] at hT
 obtain ⟨c1,c2,c3⟩:=hT
 have c1':¬(t.size:Int) < 4:=by omega
 have c1b:(2:Int)≤(t.size:Int):=by omega
 have hq:=head_eq t 2 [0,0]
 rw [decide_eq_true c2] at hq
 have C2:=hide (fun w=>ru2_any t 2 2 w rfl (by omega) hs)
 have CU:=hide (fun (j:Nat) (z:Int) (w:World) (hz:z=(j:Int)) (h:j+2≤t.size)=>ru2_any t j z w hz h hs)
 have CV:=hide (fun (j:Nat) (z:Int) (w:World) (hz:z=(j:Int)) (h:j+4≤t.size)=>ru4_any t j z w hz h hs)
 have bk:=n2_lt t.data.toList 2
 have HW1:=hide (show wiI t.data.toList=fstI (fun i=>wiR (rp t.data.toList i) (re t.data.toList i)) (n2 t.data.toList 2) from rfl)
 have HN1:=hide (show naI t.data.toList=fstI (fun i=>naR (rp t.data.toList i) (re t.data.toList i)) (n2 t.data.toList 2) from rfl)
 obtain ⟨K,hK⟩:∃K,n2 t.data.toList 2=K:=⟨_,rfl⟩
 rw [hK] at C2 HW1 HN1 c3 bk
 have c3':¬(t.size:Int) < 4+8 * (K:Int):=by omega
 have k0:(0:Int)≤(K:Int):=by omega
 have k1:(K:Int)≤65535:=by omega
 have H3:=hide c3
 have HLB:=hide (n4_lt t.data.toList)
 have HRW:=hide (show ∀R,redW t.data.toList n=R→RrR w (redW t.data.toList n)=RrR w R from fun R h=>by rw [h])
 have CTW:=hide (fun (p:Nat) (w:World) (h:p≤t.size)=>(show Calls Tryz.prog 44 #[.string (t.extract p t.size),.int .i64 (n:Int)] w (AdR w w.heap.size (twV (t.data.toList.drop p) n)) by
  have:=rtw_any (t.extract p t.size) n w (by rw [ByteArray.size_extract];omega) h2
  have e:=ext_drop t p
  rw [Nat.min_eq_left h] at e
  rw [e] at this
  exact this))
 have CFO:=hide (fun (p:Nat) (w:World) (h:p≤t.size)=>(show Calls Tryz.prog 45 #[.string (t.extract p t.size),.int .i64 (n:Int)] w (AdR w w.heap.size (foV (t.data.toList.drop p) n)) by
  have:=rfo_any (t.extract p t.size) n w (by rw [ByteArray.size_extract];omega) h2
  have e:=ext_drop t p
  rw [Nat.min_eq_left h] at e
  rw [e] at this
  exact this))
 have HDR:Hid (∀p,¬p≤t.size→twV (t.data.toList.drop p) n=none∧foV (t.data.toList.drop p) n=none):=hide (fun p hp=>by
  rw [List.drop_eq_nil_of_le (by rw [←Lib.size_eq];omega)]
  exact ⟨rfl,rfl⟩)
 obtain ⟨RR,hRR⟩:∃RR,redW t.data.toList n=RR:=⟨_,rfl⟩
 rw [hRR]
 have HRR:=hide hRR
 clear h hv c1 c2 c3 h1 h2 hK bk hRR
 go_enter Tryz.func19,Tryz.ntmps19
 go_wp2_with fail
 refine (C2.out _).mono ?_
 rintro e w1 ⟨rfl,m,hw⟩
 subst hw
 go_wp2_with fail
 go_loopw [7,8,9] (fun vw vn vi wr=>∃(j:Nat),vi=.int .i64 ((j:Int) - 1)∧vw=.int .i64 (ixV (fstF (fun i=>wiR (rp t.data.toList i) (re t.data.toList i)) K j))∧vn=.int .i64 (ixV (fstF (fun i=>naR (rp t.data.toList i) (re t.data.toList i)) K j))∧Hid (j≤K∧∃m,wr=w.drewN m)) (fun _ _ vi _=>((intOf vi)+1).toNat)
 case atStart=>exact ⟨K,rfl,by rw [fstF_end];rfl,by rw [fstF_end];rfl,hide ⟨by omega,_,rfl⟩⟩
 case round=>
  obtain ⟨j,rfl,rfl,rfl,HV⟩:=hrel
  obtain ⟨hj,m5,hwm⟩:=HV.out
  subst hwm
  clear HV
  by_cases hlt:0 < j
  case neg=>
   obtain rfl:j=0:=by omega
   rw [fstF_zero,fstF_zero,←HW1.out,←HN1.out]
   clear hlt
   have hrd:redW t.data.toList n=match wiI t.data.toList with
    | some i=>twV (t.data.toList.drop (rpl t.data.toList i)) n
    | none=>match naI t.data.toList with
     | some i=>foV (t.data.toList.drop (rpl t.data.toList i)) n
     | none=>none:=rfl
   have HRD:=hide hrd
   clear hrd
   cases hwi:wiI t.data.toList with
   | some i=>
    have E:Hid (RR=twV (t.data.toList.drop (rpl t.data.toList i)) n):=hide (by rw [←HRR.out,HRD.out,hwi])
    have hi:i < K:=by have:=HW1.out;rw [hwi] at this;exact (fstI_get this.symm).1
    have C4:=hide (fun z w (hz:z=((8+8 * i:Nat):Int))=>CV.out (8+8 * i) z w hz (by have:=H3.out;omega))
    have e4:n4 t.data.toList (8+8 * i)=rpl t.data.toList i:=rfl
    rw [e4] at C4
    have bp:rpl t.data.toList i < 4294967296:=HLB.out (8+8 * i)
    have hix:ixV (some i)=(i:Int):=rfl
    rw [hix]
    generalize ixV (naI t.data.toList)=NX
    generalize rpl t.data.toList i=P at *
    have i0:(0:Int)≤(i:Int):=by omega
    have i1:(i:Int)≤65535:=by omega
    have p0:(0:Int)≤(P:Int):=by omega
    clear HRD hix e4 hwi HW1 HN1
    by_cases hpl:P≤t.size
    case pos=>
     have hpl':(P:Int)≤(t.size:Int):=by omega
     have CG:=hide (fun w=>CTW.out P w hpl)
     have CG:Hid (∀m,Calls Tryz.prog 44 #[.string (t.extract P t.size),.int .i64 (n:Int)] (w.drewN m) (AdR (w.drewN m) w.heap.size RR)):=hide (fun m=>by rw [E.out];exact CG.out (w.drewN m))
     clear E
     go_wp2_with fail
     refine (C4.out _ _ (by omega)).mono ?_
     rintro e w1 ⟨rfl,m6,hw⟩
     subst hw
     go_wp2_with fail
     cases RR with
     | none=>
      refine (CG.out _).mono ?_
      rintro e w2 ⟨rfl,ht⟩
      have HT:=hide (show Below w.heap.size w w2 from ⟨ht.os,ht.tape,ht.output,ht.size,ht.block⟩)
      clear ht
      go_wp2_with fail
      go_ret2
      exact ⟨rfl,HT.out⟩
     | some cs=>
      refine (CG.out _).mono ?_
      rintro e w2 ⟨v,rfl,hc,ht⟩
      have HCR:=hide hc
      have HT:=hide (show Below w.heap.size w w2 from ⟨ht.os,ht.tape,ht.output,ht.size,ht.block⟩)
      clear ht hc
      go_wp2_with fail
      go_ret2
      exact ⟨_,rfl,HCR.out,HT.out⟩
    case neg=>
     have hpl':¬(P:Int)≤(t.size:Int):=by omega
     have EN:=hide (E.out.trans (HDR.out P hpl).1)
     clear E
     go_wp2_with fail
     refine (C4.out _ _ (by omega)).mono ?_
     rintro e w1 ⟨rfl,m6,hw⟩
     subst hw
     go_wp2_with fail
     go_ret2
     rw [EN.out]
     exact ⟨rfl,below_drewN (Below.refl _ _) _⟩
   | none=>
    cases hna:naI t.data.toList with
    | some i=>
     have E:Hid (RR=foV (t.data.toList.drop (rpl t.data.toList i)) n):=hide (by rw [←HRR.out,HRD.out,hwi,hna])
     have hi:i < K:=by have:=HN1.out;rw [hna] at this;exact (fstI_get this.symm).1
     have C4:=hide (fun z w (hz:z=((8+8 * i:Nat):Int))=>CV.out (8+8 * i) z w hz (by have:=H3.out;omega))
     have e4:n4 t.data.toList (8+8 * i)=rpl t.data.toList i:=rfl
     rw [e4] at C4
     have bp:rpl t.data.toList i < 4294967296:=HLB.out (8+8 * i)
     have hix:ixV (some i)=(i:Int):=rfl
     have hix2:ixV none=-1:=rfl
     rw [hix,hix2]
     generalize rpl t.data.toList i=P at *
     have i0:(0:Int)≤(i:Int):=by omega
     have i1:(i:Int)≤65535:=by omega
     have p0:(0:Int)≤(P:Int):=by omega
     clear HRD hix e4 hwi HW1 HN1 hix2 hna
     by_cases hpl:P≤t.size
     case pos=>
      have hpl':(P:Int)≤(t.size:Int):=by omega
      have CG:=hide (fun w=>CFO.out P w hpl)
      have CG:Hid (∀m,Calls Tryz.prog 45 #[.string (t.extract P t.size),.int .i64 (n:Int)] (w.drewN m) (AdR (w.drewN m) w.heap.size RR)):=hide (fun m=>by rw [E.out];exact CG.out (w.drewN m))
      clear E
      go_wp2_with fail
      refine (C4.out _ _ (by omega)).mono ?_
      rintro e w1 ⟨rfl,m6,hw⟩
      subst hw
      go_wp2_with fail
      cases RR with
      | none=>
       refine (CG.out _).mono ?_
       rintro e w2 ⟨rfl,ht⟩
       have HT:=hide (show Below w.heap.size w w2 from ⟨ht.os,ht.tape,ht.output,ht.size,ht.block⟩)
       clear ht
       go_wp2_with fail
       go_ret2
       exact ⟨rfl,HT.out⟩
      | some cs=>
       refine (CG.out _).mono ?_
       rintro e w2 ⟨v,rfl,hc,ht⟩
       have HCR:=hide hc
       have HT:=hide (show Below w.heap.size w w2 from ⟨ht.os,ht.tape,ht.output,ht.size,ht.block⟩)
       clear ht hc
       go_wp2_with fail
       go_ret2
       exact ⟨_,rfl,HCR.out,HT.out⟩
     case neg=>
      have hpl':¬(P:Int)≤(t.size:Int):=by omega
      have EN:=hide (E.out.trans (HDR.out P hpl).2)
      clear E
      go_wp2_with fail
      refine (C4.out _ _ (by omega)).mono ?_
      rintro e w1 ⟨rfl,m6,hw⟩
      subst hw
      go_wp2_with fail
      go_ret2
      rw [EN.out]
      exact ⟨rfl,below_drewN (Below.refl _ _) _⟩
    | none=>
     have E:Hid (RR=none):=hide (by rw [←HRR.out,HRD.out,hwi,hna])
     have hix2:ixV none=-1:=rfl
     rw [hix2]
     clear HRD hwi HW1 HN1 hix2 hna
     go_wp2_with fail
     go_ret2
     rw [E.out]
     exact ⟨rfl,below_drewN (Below.refl _ _) _⟩
  obtain ⟨q,rfl⟩:∃q,j=q+1:=⟨j - 1,by omega⟩
  have hqi:(((q+1:Nat):Int) - 1)=(q:Int):=by omega
  rw [hqi]
  have hqk:q < K:=by omega
  have q0:(0:Int)≤(q:Int):=by omega
  have q1:(q:Int)≤65535:=by omega
  have Cp:=hide (fun z w (hz:z=((4+8 * q:Nat):Int))=>CU.out (4+8 * q) z w hz (by have:=H3.out;omega))
  have Ce:=hide (fun z w (hz:z=((6+8 * q:Nat):Int))=>CU.out (6+8 * q) z w hz (by have:=H3.out;omega))
  have HWT:=hide (fun h=>fstF_t (p:=fun i=>wiR (rp t.data.toList i) (re t.data.toList i)) hqk h)
  have HWF:=hide (fun h=>fstF_f (p:=fun i=>wiR (rp t.data.toList i) (re t.data.toList i)) hqk h)
  have HNT:=hide (fun h=>fstF_t (p:=fun i=>naR (rp t.data.toList i) (re t.data.toList i)) hqk h)
  have HNF:=hide (fun h=>fstF_f (p:=fun i=>naR (rp t.data.toList i) (re t.data.toList i)) hqk h)
  have e1:n2 t.data.toList (4+8 * q)=rp t.data.toList q:=rfl
  have e2:n2 t.data.toList (6+8 * q)=re t.data.toList q:=rfl
  rw [e1] at Cp
  rw [e2] at Ce
  generalize ixV (fstF (fun i=>wiR (rp t.data.toList i) (re t.data.toList i)) K (q+1))=WX at *
  generalize ixV (fstF (fun i=>naR (rp t.data.toList i) (re t.data.toList i)) K (q+1))=NX at *
  generalize rp t.data.toList q=P at *
  generalize re t.data.toList q=Q at *
  obtain ⟨pI,hpI⟩:∃pI:Int,(P:Int)=pI:=⟨_,rfl⟩
  obtain ⟨qI,hqI⟩:∃qI:Int,(Q:Int)=qI:=⟨_,rfl⟩
  rw [hpI] at Cp
  rw [hqI] at Ce
  have HPQ:=hide (And.intro hpI hqI)
  clear e1 e2 hqi hlt hpI hqI
  by_cases p3:P=3
  ·by_cases e10:Q=10
   ·have f0:(pI == 3)=true:=by have:=HPQ.out;simp;omega
    have f1:(qI == 10)=true:=by have:=HPQ.out;simp;omega
    have f2:(pI == 0)=false:=by have:=HPQ.out;simp;omega
    have f3:(qI == 1)=false:=by have:=HPQ.out;simp;omega
    have EW:=hide (HWT.out (by unfold wiR;simp;omega))
    have EN:=hide (HNF.out (by unfold naR;simp;omega))
    clear HWT HWF HNT HNF p3 e10
    go_wp2_with fail
    refine (Cp.out _ _ (by omega)).mono ?_
    rintro e w1 ⟨rfl,m6,hw⟩
    subst hw
    go_wp2_with fail
    refine (Ce.out _ _ (by omega)).mono ?_
    rintro e w1 ⟨rfl,m7,hw⟩
    subst hw
    go_wp2_with fail
    go_roundw
    case rel=>exact ⟨q,rfl,by rw [EW.out],by rw [EN.out],hide ⟨by omega,_,rfl⟩⟩
    case measure=>simp [intOf]
   by_cases e1:Q=1
   ·have f0:(pI == 3)=true:=by have:=HPQ.out;simp;omega
    have f1:(qI == 10)=false:=by have:=HPQ.out;simp;omega
    have f2:(pI == 0)=false:=by have:=HPQ.out;simp;omega
    have f3:(qI == 1)=true:=by have:=HPQ.out;simp;omega
    have EW:=hide (HWF.out (by unfold wiR;simp;omega))
    have EN:=hide (HNT.out (by unfold naR;simp;omega))
    clear HWT HWF HNT HNF p3 e10 e1
    go_wp2_with fail
    refine (Cp.out _ _ (by omega)).mono ?_
    rintro e w1 ⟨rfl,m6,hw⟩
    subst hw
    go_wp2_with fail
    refine (Ce.out _ _ (by omega)).mono ?_
    rintro e w1 ⟨rfl,m7,hw⟩
    subst hw
    go_wp2_with fail
    go_roundw
    case rel=>exact ⟨q,rfl,by rw [EW.out],by rw [EN.out],hide ⟨by omega,_,rfl⟩⟩
    case measure=>simp [intOf]
   have f0:(pI == 3)=true:=by have:=HPQ.out;simp;omega
   have f1:(qI == 10)=false:=by have:=HPQ.out;simp;omega
   have f2:(pI == 0)=false:=by have:=HPQ.out;simp;omega
   have f3:(qI == 1)=false:=by have:=HPQ.out;simp;omega
   have EW:=hide (HWF.out (by unfold wiR;simp;omega))
   have EN:=hide (HNF.out (by unfold naR;simp;omega))
   clear HWT HWF HNT HNF p3 e10 e1
   go_wp2_with fail
   refine (Cp.out _ _ (by omega)).mono ?_
   rintro e w1 ⟨rfl,m6,hw⟩
   subst hw
   go_wp2_with fail
   refine (Ce.out _ _ (by omega)).mono ?_
   rintro e w1 ⟨rfl,m7,hw⟩
   subst hw
   go_wp2_with fail
   go_roundw
   case rel=>exact ⟨q,rfl,by rw [EW.out],by rw [EN.out],hide ⟨by omega,_,rfl⟩⟩
   case measure=>simp [intOf]
  by_cases p0:P=0
  ·by_cases e4:Q=4
   ·have f0:(pI == 3)=false:=by have:=HPQ.out;simp;omega
    have f1:(pI == 0)=true:=by have:=HPQ.out;simp;omega
    have f2:(qI == 4)=true:=by have:=HPQ.out;simp;omega
    have f3:decide (qI≤3)=false:=by have:=HPQ.out;simp;omega
    have EW:=hide (HWT.out (by unfold wiR;simp;omega))
    have EN:=hide (HNF.out (by unfold naR;simp;omega))
    clear HWT HWF HNT HNF p3 p0 e4
    go_wp2_with fail
    refine (Cp.out _ _ (by omega)).mono ?_
    rintro e w1 ⟨rfl,m6,hw⟩
    subst hw
    go_wp2_with fail
    refine (Ce.out _ _ (by omega)).mono ?_
    rintro e w1 ⟨rfl,m7,hw⟩
    subst hw
    go_wp2_with fail
    go_roundw
    case rel=>exact ⟨q,rfl,by rw [EW.out],by rw [EN.out],hide ⟨by omega,_,rfl⟩⟩
    case measure=>simp [intOf]
   by_cases e3:Q≤3
   ·have f0:(pI == 3)=false:=by have:=HPQ.out;simp;omega
    have f1:(pI == 0)=true:=by have:=HPQ.out;simp;omega
    have f2:(qI == 4)=false:=by have:=HPQ.out;simp;omega
    have f3:decide (qI≤3)=true:=by have:=HPQ.out;simp;omega
    have EW:=hide (HWF.out (by unfold wiR;simp;omega))
    have EN:=hide (HNT.out (by unfold naR;simp;omega))
    clear HWT HWF HNT HNF p3 p0 e4 e3
    go_wp2_with fail
    refine (Cp.out _ _ (by omega)).mono ?_
    rintro e w1 ⟨rfl,m6,hw⟩
    subst hw
    go_wp2_with fail
    refine (Ce.out _ _ (by omega)).mono ?_
    rintro e w1 ⟨rfl,m7,hw⟩
    subst hw
    go_wp2_with fail
    go_roundw
    case rel=>exact ⟨q,rfl,by rw [EW.out],by rw [EN.out],hide ⟨by omega,_,rfl⟩⟩
    case measure=>simp [intOf]
   have f0:(pI == 3)=false:=by have:=HPQ.out;simp;omega
   have f1:(pI == 0)=true:=by have:=HPQ.out;simp;omega
   have f2:(qI == 4)=false:=by have:=HPQ.out;simp;omega
   have f3:decide (qI≤3)=false:=by have:=HPQ.out;simp;omega
   have EW:=hide (HWF.out (by unfold wiR;simp;omega))
   have EN:=hide (HNF.out (by unfold naR;simp;omega))
   clear HWT HWF HNT HNF p3 p0 e4 e3
   go_wp2_with fail
   refine (Cp.out _ _ (by omega)).mono ?_
   rintro e w1 ⟨rfl,m6,hw⟩
   subst hw
   go_wp2_with fail
   refine (Ce.out _ _ (by omega)).mono ?_
   rintro e w1 ⟨rfl,m7,hw⟩
   subst hw
   go_wp2_with fail
   go_roundw
   case rel=>exact ⟨q,rfl,by rw [EW.out],by rw [EN.out],hide ⟨by omega,_,rfl⟩⟩
   case measure=>simp [intOf]
  have f0:(pI == 3)=false:=by have:=HPQ.out;simp;omega
  have f1:(pI == 0)=false:=by have:=HPQ.out;simp;omega
  have EW:=hide (HWF.out (by unfold wiR;simp;omega))
  have EN:=hide (HNF.out (by unfold naR;simp;omega))
  clear HWT HWF HNT HNF p3 p0
  go_wp2_with fail
  refine (Cp.out _ _ (by omega)).mono ?_
  rintro e w1 ⟨rfl,m6,hw⟩
  subst hw
  go_wp2_with fail
  refine (Ce.out _ _ (by omega)).mono ?_
  rintro e w1 ⟨rfl,m7,hw⟩
  subst hw
  go_wp2_with fail
  go_roundw
  case rel=>exact ⟨q,rfl,by rw [EW.out],by rw [EN.out],hide ⟨by omega,_,rfl⟩⟩
  case measure=>simp [intOf]
theorem rread_any (t:ByteArray) (n:Nat) (w:World) (hs:t.size≤1073741824) (h1:1≤n) (h2:n≤4096) :
  Calls Tryz.prog 19 #[.string t,.int .i64 (n:Int)] w (RrR w (redV t.data.toList n)):=by
 cases h:rowB t.data.toList
 ·have hv:redV t.data.toList n=none:=by unfold redV;rw [h];rfl
  rw [hv]
  exact rread_bad t n w hs h1 h2 h
 ·exact rread_ok t n w hs h1 h2 h
end Go.Proofs.YtpaadbnlhapdbaaGreatDoor.C11
