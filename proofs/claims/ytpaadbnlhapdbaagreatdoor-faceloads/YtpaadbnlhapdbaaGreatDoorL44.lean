/-
  Joined: S8Rb, S8Fi, S8So, S8Se, S8St, S8Wh, S8Tp, S8Tb, S8Su.
-/
import Derived.Deep.CutRange
import Derived.WalkLawsBesides
import Derived.Test.YtpaadbnlhapdbaaGreatDoorL42
import Derived.Test.YtpaadbnlhapdbaaGreatDoorL43
namespace Go.Proofs.YtpaadbnlhapdbaaGreatDoor.S8
open Go.RowKit Go.Deep
set_option linter.unusedVariables false
set_option linter.unusedSimpArgs false
def aB (ds:List Rw) (r:Rw):Bool:=match ds.getLast? with
 | none=>true
 | some p=>Op.bytesLess (tgT p) (tgT r)
def refG (N n:Nat):List Rw→List Rw→Bool
 | _,[]=>true
 | ds,r :: rs=>goodT r && (aB ds r && (plB N n r && (!(ds.any fun q=>meetB r q) && refG N n (ds++[r]) rs)))
theorem and6 (a b c d e f:Bool):(a && (b && (c && (d && (e && f)))))=((a && (b && e)) && (c && (d && f))):=by
 cases a <;> cases b <;> cases c <;> cases d <;> cases e <;> cases f <;> rfl
theorem refG_rise (N n:Nat):∀(rs ds:List Rw) (p:Rw),refG N n (ds++[p]) rs=(riseB (tgT p) rs && okG N n (ds++[p]) rs)
 | [],ds,p=>rfl
 | r :: rs,ds,p=>by
  rw [refG,riseB,okG,refG_rise N n rs (ds++[p]) r]
  have : aB (ds++[p]) r=Op.bytesLess (tgT p) (tgT r):=by unfold aB;simp
  rw [this]
  exact and6 _ _ _ _ _ _
theorem good_less {r:Rw} (h:goodT r=true):Op.bytesLess [0,0,0,0] (tgT r)=true:=by
 unfold goodT gdB at h
 simp at h
 have h0:(0:UInt8) < r.b0:=by rw [UInt8.lt_iff_toNat_lt];have:=h.1.1;simp;omega
 unfold tgT
 simp [Op.bytesLess,h0]
theorem refG_all (N n:Nat) (rs:List Rw):refG N n [] rs=(riseB [0,0,0,0] rs && okG N n [] rs):=by
 cases rs with
 | nil=>rfl
 | cons r rs=>
  have h:=refG_rise N n rs [] r
  rw [refG,riseB,okG,List.nil_append] at *
  rw [h]
  have : aB [] r=true:=rfl
  rw [this]
  cases hg:goodT r with
  | false=>rfl
  | true=>rw [good_less hg];exact and6 _ _ _ _ _ _
theorem nb_num2 (a b:UInt8):nbT ((numV [a,b]:Nat):Int) 2=[a,b]:=by
 have ha:=a.toNat_lt
 have hb:=b.toNat_lt
 have e:numV [a,b]=a.toNat * 256+b.toNat:=by unfold numV;simp
 unfold nbT nbT nbT nbB
 rw [e,show (256:Int) ^ 1=256 from rfl,show (256:Int) ^ 0=1 from rfl,Int.ediv_one]
 rw [show (((a.toNat * 256+b.toNat:Nat):Int) / 256 % 256)=(a.toNat:Int) by omega,show (((a.toNat * 256+b.toNat:Nat):Int) % 256)=(b.toNat:Int) by omega]
 simp
theorem nb_two (l:List UInt8) (h:l.length=2):nbT ((numV l:Nat):Int) 2=l:=by
 match l,h with
 | [a,b],_=>exact nb_num2 a b
theorem open_iff (l:List UInt8) (h:12≤l.length):l.take 12=openT (nTab l)↔l.take 4=[0,1,0,0]∧(l.drop 6).take 6=srT (nTab l):=by
 have e:l.take 12=l.take 4++((l.drop 4).take 2++(l.drop 6).take 6):=by
  rw [show (12:Nat)=4+8 from rfl,List.take_add,show (8:Nat)=2+6 from rfl,List.take_add (i:=2),List.drop_drop]
 have e2:nbT ((nTab l:Nat):Int) 2=(l.drop 4).take 2:=by
  unfold nTab
  exact nb_two _ (by rw [List.length_take,List.length_drop];omega)
 rw [e,openT_eq,e2]
 constructor
 ·intro h1
  have h2:=List.append_inj h1 (by rw [List.length_take];simp;omega)
  exact ⟨h2.1,(List.append_inj h2.2 rfl).2⟩
 ·rintro ⟨h1,h2⟩
  rw [h1,h2]
theorem tag_ext (s:ByteArray) (A:Nat) (h:A+4≤s.size):s.extract A (A+4)=⟨(tgT (rowV (s.data.toList.drop A))).toArray⟩:=by
 have e:(s.extract A (A+4)).data.toList=tgT (rowV (s.data.toList.drop A)):=by
  rw [slice_list _ _ _ h,show A+4 - A=4 by omega]
  have hl:4≤(s.data.toList.drop A).length:=by rw [List.length_drop,←Lib.size_eq];omega
  generalize s.data.toList.drop A=L at hl
  match L,hl with
  | a :: b :: c :: d :: r,_=>rfl
 cases hx:s.extract A (A+4) with
 | mk a=>rw [hx] at e;simp at e;rw [←e]
theorem row_nums (l:List UInt8) (A:Nat) (h:A+16≤l.length):(rowV (l.drop A)).sum=((n4 l (A+4):Nat):Int)∧(rowV (l.drop A)).pl=((n4 l (A+8):Nat):Int)∧(rowV (l.drop A)).ln=((n4 l (A+12):Nat):Int):=by
 have e1:=num4 l (A+4) (by omega)
 have e2:=num4 l (A+8) (by omega)
 have e3:=num4 l (A+12) (by omega)
 unfold rowV
 simp only [List.drop_drop]
 rw [e1,e2,e3]
 exact ⟨rfl,rfl,rfl⟩
theorem meet_ref (P Q p q:Nat) (b0 b1 b2 b3 c0 c1 c2 c3:UInt8) (s1 s2:Int):meetB ⟨b0,b1,b2,b3,s1,(P:Int),(Q:Int)⟩ ⟨c0,c1,c2,c3,s2,(p:Int),(q:Int)⟩=true↔0 < q∧0 < Q∧p < P+Q∧P < p+q:=by
 unfold meetB
 simp only [decide_eq_true_eq]
 omega
theorem smB_eq (s:ByteArray) (b0 b1 b2 b3:UInt8) (sum:Int) (P Q:Nat) (h:P+Q≤s.size):smB s.data.toList ⟨b0,b1,b2,b3,sum,(P:Int),(Q:Int)⟩=(sum == ((sumV (smS b0 b1 b2 b3 (s.extract P (P+Q))).data.toList:Nat):Int)):=by
 unfold smB dtT
 rw [smS_list ⟨b0,b1,b2,b3,sum,(P:Int),(Q:Int)⟩,slice_list _ _ _ h]
 simp only [Int.toNat_natCast]
 rw [show P+Q - P=Q by omega]
theorem aB_take {rs:List Rw} {j:Nat} {p:Rw} (h:rs[j]?=some p) (r:Rw):aB (rs.take (j+1)) r=Op.bytesLess (tgT p) (tgT r):=by
 rw [take_at rs j h]
 unfold aB
 simp
theorem leq_run (TG TP:ByteArray) (a b:List UInt8) (ha:TG=⟨a.toArray⟩) (hb:TP=⟨b.toArray⟩):(Op.bytesLess TG.toList TP.toList || TG.toList == TP.toList)=!Op.bytesLess b a:=by
 have e1:TG.toList=a:=by rw [Lib.toList_data,ha]
 have e2:TP.toList=b:=by rw [Lib.toList_data,hb]
 rw [e1,e2,less_total]
theorem and_f {a b c d:Bool} (h:(a && (b && c))=false):(a && (b && (c && d)))=false:=by
 cases a <;> cases b <;> cases c <;> first | rfl | (simp at h)
theorem drewN_below {w w':World} (h:∃n,w'=w.drewN n):Below w.heap.size w w':=by
 obtain ⟨n,rfl⟩:=h
 exact below_drewN (Below.refl _ _) n
theorem TbRow.at {w:World} {B:Nat} {v:Value} {l:List (ByteArray × ByteArray)} (h:TbRow w B v l) (h0:0 < l.length):∃g cap,v=.slice (some ⟨g,0,none⟩) l.length cap∧g < w.heap.size∧∀i x,l[i]?=some x→w.cell? ⟨g,i * 2,none⟩=some (.string x.1)∧w.cell? ⟨g,i * 2+1,none⟩=some (.string x.2):=by
 have h':=h
 obtain ⟨_,⟨h1,h2⟩ | ⟨g,cap,cur,hv,_⟩⟩:=h'
 ·omega
 ·refine ⟨g,cap,hv,?_,?_⟩
  ·rw [hv] at h;exact (World.ownsRow.lt h g rfl).2
  ·intro i x hi
   rw [hv] at h
   have hlt:=(List.getElem?_eq_some_iff.1 hi).1
   have key:∀(l:List (ByteArray × ByteArray)) (i:Nat) (x:ByteArray × ByteArray),l[i]?=some x→(tcs l)[i * 2]?=some (.string x.1)∧(tcs l)[i * 2+1]?=some (.string x.2):=by
    intro l
    induction l with
    | nil=>intro i x h;simp at h
    | cons y l ih=>
     intro i x h
     cases i with
     | zero=>simp at h;subst h;exact ⟨rfl,rfl⟩
     | succ i=>
      have:=ih i x (by simpa using h)
      rw [show (i+1) * 2=i * 2+2 by omega]
      exact this
   obtain ⟨k1,k2⟩:=key l i x hi
   exact ⟨by rw [TbRow.cell h (i * 2) (by omega)];exact k1,by rw [TbRow.cell h (i * 2+1) (by omega)];exact k2⟩
set_option maxRecDepth 8000 in
set_option maxHeartbeats 8000000 in
theorem rread_gen (s:ByteArray) (w:World) (hs:s.size≤9223372036854775807):Calls Tryz.prog 15 #[.string s] w (RdR w s):=by
 have hlen:s.data.toList.length=s.size:=(Lib.size_eq s).symm
 have hs9:(s.size:Int)≤9223372036854775807:=by omega
 by_cases hb0:1048576 < s.size
 ·have hb':(1048576:Int) < (s.size:Int):=by omega
  have e:errV s.data.toList=2:=by unfold errV;rw [if_pos (by omega)]
  have HE:=hide e
  have HT:=hide (tabV_no (s:=s) (by rw [e];decide))
  clear hlen hs hb0 e
  go_enter Tryz.func15,Tryz.ntmps15
  go_wp2_with fail
  go_ret2
  exact ⟨_,by rw [HE.out];rfl,by rw [HT.out];exact TbRow.nil _ _,Below.refl _ _⟩
 have hb':¬(1048576:Int) < (s.size:Int):=by omega
 have hs1:(s.size:Int)≤1048576:=by omega
 by_cases h12:s.size < 12
 ·have h12':(s.size:Int) < 12:=by omega
  have CU:=hide (fun w=>ru2_z s 4 4 w rfl (by omega) (by omega))
  have e:errV s.data.toList=80:=by unfold errV;rw [if_neg (by omega),hd_no (fun h=>by omega)];rfl
  have HE:=hide e
  have HT:=hide (tabV_no (s:=s) (by rw [e];decide))
  clear hlen hs hb0 e h12
  go_enter Tryz.func15,Tryz.ntmps15
  go_wp2_with (go_at_call 37;refine (CU.out _).mono ?_;rintro e w1 ⟨y,rfl,y1,y2,m,hw1⟩;subst hw1;clear y2)
  rename_i kk0
  have HA:=hide kk0
  clear kk0
  go_quiet (fail)
  refine HA.out _ _ ?_
  go_wp2_with fail
  go_ret2
  exact ⟨_,by rw [HE.out];rfl,by rw [HT.out];exact TbRow.nil _ _,below_drewN (below_drewN (Below.refl _ _) _) _⟩
 have h12':¬(s.size:Int) < 12:=by omega
 have h12d:decide ((s.size:Int) < 12)=false:=by simpa using h12'
 have z4:(4:Int)≤(s.size:Int):=by omega
 have z4':4≤s.size:=by omega
 have z12:(12:Int)≤(s.size:Int):=by omega
 have z12':12≤s.size:=by omega
 obtain ⟨n,hn⟩:∃n,nTab s.data.toList=n:=⟨_,rfl⟩
 have hnn:n2 s.data.toList 4=n:=by rw [←hn];unfold nTab;rw [num2 _ _ (by omega)]
 have hn16:(n:Int)≤65535:=by have:=n2_lt s.data.toList 4;omega
 have CU:=hide (fun w=>ru2_any s 4 4 w rfl (by omega) (by omega))
 rw [hnn] at CU
 have e4:(s.extract 0 4).toList=s.data.toList.take 4:=by rw [Lib.toList_data,slice_list _ _ _ z4',List.drop_zero]
 have hoi:=open_iff s.data.toList (by omega)
 rw [hn] at hoi
 by_cases q0:s.data.toList.take 4=[0,1,0,0]
 case neg=>
  have q0':((s.extract 0 4).toList == [0,1,0,0])=false:=by rw [e4];simpa using q0
  have e:errV s.data.toList=80:=by unfold errV;rw [if_neg (by omega),hd_no (fun h=>by rw [hn] at h;exact q0 (hoi.1 h.2.2.2.1).1)];rfl
  have HE:=hide e
  have HT:=hide (tabV_no (s:=s) (by rw [e];decide))
  clear hlen hs hb0 e h12 q0 hoi e4 hnn hn
  go_enter Tryz.func15,Tryz.ntmps15
  go_wp2_with (go_at_call 37;refine (CU.out _).mono ?_;rintro e w1 ⟨rfl,m,hw1⟩;subst hw1)
  rename_i kk0
  have HA:=hide kk0
  clear kk0
  go_quiet (fail)
  refine HA.out _ _ ?_
  go_wp2_with fail
  go_ret2
  exact ⟨_,by rw [HE.out];rfl,by rw [HT.out];exact TbRow.nil _ _,below_drewN (below_drewN (Below.refl _ _) _) _⟩
 have q0':((s.extract 0 4).toList == [0,1,0,0])=true:=by rw [e4];simpa using q0
 by_cases q1:n < 1
 ·have q1':(n:Int) < 1:=by omega
  have e:errV s.data.toList=80:=by unfold errV;rw [if_neg (by omega),hd_no (fun h=>by rw [hn] at h;omega)];rfl
  have HE:=hide e
  have HT:=hide (tabV_no (s:=s) (by rw [e];decide))
  clear hlen hs hb0 e h12 q0 hoi e4 hnn hn q1
  go_enter Tryz.func15,Tryz.ntmps15
  go_wp2_with (go_at_call 37;refine (CU.out _).mono ?_;rintro e w1 ⟨rfl,m,hw1⟩;subst hw1)
  rename_i kk0
  have HA:=hide kk0
  clear kk0
  go_quiet (fail)
  refine HA.out _ _ ?_
  go_wp2_with fail
  go_ret2
  exact ⟨_,by rw [HE.out];rfl,by rw [HT.out];exact TbRow.nil _ _,below_drewN (below_drewN (Below.refl _ _) _) _⟩
 have q1':¬(n:Int) < 1:=by omega
 have q1d:decide ((n:Int) < 1)=false:=by simpa using q1'
 by_cases q2:32 < n
 ·have q2':(32:Int) < (n:Int):=by omega
  have e:errV s.data.toList=80:=by unfold errV;rw [if_neg (by omega),hd_no (fun h=>by rw [hn] at h;omega)];rfl
  have HE:=hide e
  have HT:=hide (tabV_no (s:=s) (by rw [e];decide))
  clear hlen hs hb0 e h12 q0 hoi e4 hnn hn q1 q2
  go_enter Tryz.func15,Tryz.ntmps15
  go_wp2_with (go_at_call 37;refine (CU.out _).mono ?_;rintro e w1 ⟨rfl,m,hw1⟩;subst hw1)
  rename_i kk0
  have HA:=hide kk0
  clear kk0
  go_quiet (fail)
  refine HA.out _ _ ?_
  go_wp2_with fail
  go_ret2
  exact ⟨_,by rw [HE.out];rfl,by rw [HT.out];exact TbRow.nil _ _,below_drewN (below_drewN (Below.refl _ _) _) _⟩
 have q2':¬(32:Int) < (n:Int):=by omega
 have q2d:decide ((32:Int) < (n:Int))=false:=by simpa using q2'
 by_cases q3:s.size < 12+16 * n
 ·have q3':(s.size:Int) < 12+16 * (n:Int):=by omega
  have e:errV s.data.toList=80:=by unfold errV;rw [if_neg (by omega),hd_no (fun h=>by rw [hn] at h;omega)];rfl
  have HE:=hide e
  have HT:=hide (tabV_no (s:=s) (by rw [e];decide))
  clear hlen hs hb0 e h12 q0 hoi e4 hnn hn q1 q2 q3
  go_enter Tryz.func15,Tryz.ntmps15
  go_wp2_with (go_at_call 37;refine (CU.out _).mono ?_;rintro e w1 ⟨rfl,m,hw1⟩;subst hw1)
  rename_i kk0
  have HA:=hide kk0
  clear kk0
  go_quiet (fail)
  refine HA.out _ _ ?_
  go_wp2_with fail
  go_ret2
  exact ⟨_,by rw [HE.out];rfl,by rw [HT.out];exact TbRow.nil _ _,below_drewN (below_drewN (Below.refl _ _) _) _⟩
 have q3':¬(s.size:Int) < 12+16 * (n:Int):=by omega
 have q3d:decide ((s.size:Int) < 12+16 * (n:Int))=false:=by simpa using q3'
 have CSr:=hide (fun w=>rsearch_any n w (by omega) (by omega))
 obtain ⟨ST,hST⟩:∃ST:ByteArray,(⟨(srT n).toArray⟩:ByteArray)=ST:=⟨_,rfl⟩
 rw [hST] at CSr
 have w1:IntKind.i64.wrap (16 * (n:Int))=16 * (n:Int):=by rw [IntKind.wrap_i64];omega
 have w2:IntKind.i64.wrap (12+16 * (n:Int))=12+16 * (n:Int):=by rw [IntKind.wrap_i64];omega
 have HB:=hide (Below.refl w.heap.size w)
 by_cases q4:(s.data.toList.drop 6).take 6=srT n
 case neg=>
  have q4':((s.extract 6 12).toList == ST.toList)=false:=by
   rw [←hST,Lib.toList_data,Lib.toList_data,slice_list _ _ _ z12']
   simpa using q4
  have e:errV s.data.toList=80:=by unfold errV;rw [if_neg (by omega),hd_no (fun h=>by rw [hn] at h;exact q4 (hoi.1 h.2.2.2.1).2)];rfl
  have HE:=hide e
  have HT:=hide (tabV_no (s:=s) (by rw [e];decide))
  clear hlen hs hb0 e h12 q0 hoi e4 hnn hn q1 q2 q3 q4 hST
  go_enter Tryz.func15,Tryz.ntmps15
  go_wp2_with (go_at_call 37;refine (CU.out _).mono ?_;rintro e w1 ⟨rfl,m,hw1⟩;subst hw1)
  rename_i kk0
  have HA:=hide kk0
  clear kk0
  go_region_held3 (fun _=>True) (first | trivial | go_keep) ((go_at_call 38;refine (CSr.out _).mono ?_;rintro e x ⟨rfl,hbx⟩;replace HB:=hide (below_d HB.out hbx rfl rfl rfl rfl);clear hbx))
  all_goals
   refine HA.out _ _ ?_
   go_wp2_with fail
   go_ret2
   exact ⟨_,by rw [HE.out];rfl,by rw [HT.out];exact TbRow.nil _ _,below_d HB.out (Below.refl _ _) rfl rfl rfl rfl⟩
 have q4':((s.extract 6 12).toList == ST.toList)=true:=by
  rw [←hST,Lib.toList_data,Lib.toList_data,slice_list _ _ _ z12']
  simpa using q4
 have hhd:hdB s.data.toList=true:=hd_yes ⟨by omega,by omega,by omega,by rw [hn];exact hoi.2 ⟨q0,q4⟩,by rw [hn];omega⟩
 obtain ⟨rs,hrs⟩:∃rs,rowsV s.data.toList n=rs:=⟨_,rfl⟩
 obtain ⟨R,hR⟩:∃R,refG s.size n [] rs=R:=⟨_,rfl⟩
 have hE:errV s.data.toList=if R then (if rs.all (smB s.data.toList) then 0 else 81) else 80:=by
  unfold errV
  rw [if_neg (by omega),hhd,hn,hrs,hlen,fauG_eq,←hR,refG_all]
  cases riseB [0,0,0,0] rs with
  | false=>rfl
  | true=>rfl
 have HE:=hide hE
 have HTN:=hide (fun h=>tabV_no (s:=s) h)
 have HTV:Hid (errV s.data.toList=0→tabV s=rs.map (tbOf s)):=hide (fun h=>by unfold tabV;rw [if_pos h,hn,hrs])
 have HNL:Hid (rs.length=n):=hide (by rw [←hrs];exact rowsV_len _ _)
 have HAT:Hid (∀k,k < n→rs[k]?=some (rowV (s.data.toList.drop (12+16 * k)))):=hide (fun k hk=>by rw [←hrs];exact rowsV_at _ _ _ hk)
 have HSZ:=hide (show s.data.toList.length=s.size∧12+16 * n≤s.size∧n≤32∧s.size≤1048576 from ⟨hlen,by omega,by omega,by omega⟩)
 have HPL:Hid (R=true→∀r∈rs,r.pl+r.ln≤s.size):=hide (fun h r hr=>by
  rw [←hR,refG_all,Bool.and_eq_true] at h
  have h2:=okG_pl s.size n rs [] h.2 r hr
  unfold plB at h2
  rw [Bool.and_eq_true,Bool.and_eq_true,decide_eq_true_eq,decide_eq_true_eq,decide_eq_true_eq] at h2
  exact h2.2.2)
 have HR:=hide hR
 have CU4:=hide (fun (k:Nat) (z:Int) (w:World) (hz:z=(k:Int)) (h:k+4≤s.size)=>(ru4_any s k z w hz h (by omega)).mono fun e w' (h:_∧_)=>(⟨h.1,drewN_below h.2⟩:e=.returned (.int .i64 ((n4 s.data.toList k:Nat):Int))∧Below w.heap.size w w'))
 clear hlen hs hb0 h12 q0 hoi e4 hnn hn q1 q2 q3 q4 hST hhd hrs hR hE
 go_enter Tryz.func15,Tryz.ntmps15
 go_wp2_with (go_at_call 37;refine (CU.out _).mono ?_;rintro e w1 ⟨rfl,m,hw1⟩;subst hw1)
 rename_i kk0
 have HA:=hide kk0
 clear kk0
 go_region_held3 (fun _=>True) (first | trivial | go_keep) ((go_at_call 38;refine (CSr.out _).mono ?_;rintro e x ⟨rfl,hbx⟩;replace HB:=hide (below_d HB.out hbx rfl rfl rfl rfl);clear hbx))
 refine HA.out _ _ ?_
 clear HA
 have hx0:=below_d HB.out (Below.refl x.heap.size x) rfl rfl rfl rfl
 have HX0:=hide hx0
 clear hx0 HB q0' q1' q1d q2d q3d q4' h12d z4 z4' z12 z12'
 go_wp2_with fail
 go_loopw [5,6] (fun vt vi wr=>∃k:Nat,vi=.int .i64 k∧Hid (k≤n∧TbRow wr w.heap.size vt ((rs.take k).map (tbOf s))∧refG s.size n (rs.take k) (rs.drop k)=R∧Below w.heap.size w wr)) (fun _ vi _=>n - (intOf vi).toNat)
 case atStart=>exact ⟨0,rfl,hide ⟨by omega,TbRow.nil _ _,by rw [List.drop_zero];exact HR.out,HX0.out⟩⟩
 case round=>
  obtain ⟨W1,hW1⟩:∃W1,W1=wr:=⟨_,rfl⟩
  subst hW1
  obtain ⟨vt,hvt0⟩:∃vt,vt=u5:=⟨_,rfl⟩
  subst hvt0
  obtain ⟨k,rfl,HV⟩:=hrel
  obtain ⟨hk,hT,hr,hbw⟩:=HV.out
  have hk0:(0:Int)≤(k:Int):=by omega
  clear HV
  by_cases hlt:k < n
  case neg=>
   have hlt':¬(k:Int) < (n:Int):=by omega
   obtain rfl:k=n:=by omega
   have e:R=true:=by rw [←hr,List.drop_eq_nil_of_le (by have:=HNL.out;omega)];rfl
   subst e
   rw [List.take_of_length_le (by rw [HNL.out];omega)] at hT
   have HT0:=hide hT
   have HBW:=hide hbw
   clear hr hbw hT hlt
   go_wp2_with fail
   go_loopw [14] (fun vi wi=>∃i:Nat,vi=.int .i64 i∧Hid (i≤k∧(∀j,j < i→∀q,rs[j]?=some q→smB s.data.toList q=true)∧TbRow wi w.heap.size vt (rs.map (tbOf s))∧Below w.heap.size w wi)) (fun vi _=>k - (intOf vi).toNat)
   case atStart=>exact ⟨0,rfl,hide ⟨by omega,fun j hj=>by omega,HT0.out,HBW.out⟩⟩
   case round=>
    clear HT0 HBW
    obtain ⟨i,rfl,HV⟩:=hrel
    obtain ⟨hi,hall,hT,hbw⟩:=HV.out
    have hi0:(0:Int)≤(i:Int):=by omega
    clear HV
    by_cases hik:i < k
    case neg=>
     have hik':¬(i:Int) < (k:Int):=by omega
     have e:errV s.data.toList=0:=by
      rw [HE.out]
      simp only [if_true]
      rw [if_pos]
      rw [List.all_eq_true]
      intro q hq
      obtain ⟨j,hj,rfl⟩:=List.getElem_of_mem hq
      exact hall j (by have:=HNL.out;omega) _ (List.getElem?_eq_getElem hj)
     rw [←HTV.out e] at hT
     have HE0:=hide e
     have HT1:=hide hT
     have HBW:=hide hbw
     clear hall hT hbw e hik
     go_wp2_with fail
     go_ret2
     exact ⟨_,by rw [HE0.out];rfl,HT1.out,HBW.out⟩
    have hik':(i:Int) < (k:Int):=by omega
    have hz:=HSZ.out
    obtain ⟨A,hA⟩:∃A:Nat,A=12+16 * i:=⟨_,rfl⟩
    have hAi:(12:Int)+16 * (i:Int)=(A:Int):=by omega
    have hx:=HAT.out i hik
    rw [←hA] at hx
    obtain ⟨r,hr⟩:∃r,rowV (s.data.toList.drop A)=r:=⟨_,rfl⟩
    have hrn:=row_nums s.data.toList A (by omega)
    have hrk:=rowV_ok (s.data.toList.drop A)
    rw [hr] at hx hrn hrk
    obtain ⟨g,cap,hv,hgl,hcell⟩:=hT.at (by rw [List.length_map,HNL.out];omega)
    obtain ⟨c0,c1⟩:=hcell i (tbOf s r) (by rw [List.getElem?_map,hx];rfl)
    rw [List.length_map,HNL.out] at hv
    obtain ⟨b0,b1,b2,b3,sum,pl,ln⟩:=r
    obtain ⟨⟨o1,o2⟩,⟨o3,o4⟩,⟨o5,o6⟩⟩:=hrk
    simp only at o1 o2 o3 o4 o5 o6 hrn
    obtain ⟨P,rfl⟩:∃P:Nat,pl=(P:Int):=⟨pl.toNat,by omega⟩
    obtain ⟨Q,rfl⟩:∃Q:Nat,ln=(Q:Int):=⟨ln.toNat,by omega⟩
    unfold tbOf tgT at c0 c1
    simp only [Int.toNat_natCast] at c0 c1
    have CSu:=hide (show ∀z w,z=((A+4:Nat):Int)→Calls Tryz.prog 39 #[.string s,.int .i64 z] w fun e w'=>e=.returned (.int .i64 sum)∧∃n,w'=w.drewN n from fun z w hz2=>by
     have h:=ru4_any s (A+4) z w hz2 (by omega) (by omega)
     rw [←hrn.1] at h
     exact h)
    obtain ⟨D,hD⟩:∃D,s.extract P (P+Q)=D:=⟨_,rfl⟩
    rw [hD] at c1
    have hDs:D.size≤1048576:=by rw [←hD,ByteArray.size_extract];omega
    obtain ⟨SM,hSM⟩:∃SM,smS b0 b1 b2 b3 D=SM:=⟨_,rfl⟩
    have CO:=hide (fun w=>rowned_any b0 b1 b2 b3 D w (by omega))
    rw [hSM] at CO
    obtain ⟨Tt,hTt⟩:∃Tt:Int,((sumV SM.data.toList:Nat):Int)=Tt:=⟨_,rfl⟩
    have CM:=hide (fun w=>rsum_any SM w (by rw [←hSM,smS_size];omega))
    rw [hTt] at CM
    have hPQ:P+Q≤s.size:=by
     have:=HPL.out (by simp) _ (List.mem_of_getElem? hx)
     simp only at this
     omega
    have hsm:=smB_eq s b0 b1 b2 b3 sum P Q hPQ
    rw [hD,hSM,hTt] at hsm
    obtain ⟨TG,hTG⟩:∃TG,TG=tgS b0 b1 b2 b3:=⟨_,rfl⟩
    have c0':wr.cell? ⟨g,i * 2,none⟩=some (.string TG):=by rw [hTG];exact c0
    rw [←hTG] at CO
    have w3:IntKind.i64.wrap (16 * (i:Int))=16 * (i:Int):=by rw [IntKind.wrap_i64];omega
    have w4:IntKind.i64.wrap (A:Int)=(A:Int):=by rw [IntKind.wrap_i64];omega
    have w5:IntKind.i64.wrap ((A:Int)+4)=(A:Int)+4:=by rw [IntKind.wrap_i64];omega
    have HALL:=hide hall
    have HT1:=hide hT
    have HBW:=hide hbw
    have HXX:=hide hx
    have hA1:(A:Int)≤1000:=by omega
    clear hall hT hbw hx hcell c0 hTG hD hSM hTt hDs hPQ hz hA hrn hr
    subst hv
    by_cases hq:sum=Tt
    ·have hq':(sum != Tt)=false:=by simp [hq]
     have HNEXT:Hid (∀j,j < i+1→∀q,rs[j]?=some q→smB s.data.toList q=true):=hide (fun j hj q hqq=>by
      rcases Nat.lt_or_ge j i with h' | h'
      ·exact HALL.out j h' q hqq
      ·obtain rfl:j=i:=by omega
       rw [HXX.out] at hqq;injection hqq with hqq;rw [←hqq,hsm];simpa using hq)
     clear hq hsm HALL HXX
     go_wp2_with fail
     rename_i kk1
     have HA:=hide kk1
     clear kk1
     go_quiet ((first | (go_at_call 39;exact Calls.quiet_of (CSu.out _ _ (by omega))) | (go_at_call 42;exact Calls.quiet_of (CO.out _)) | (go_at_call 41;exact Calls.quiet_of_same (CM.out _))))
     refine HA.out _ _ ?_
     go_wp2_with fail
     go_roundw
     case rel=>exact ⟨i+1,by go_num,hide ⟨by omega,HNEXT.out,HT1.out,below_drewN HBW.out _⟩⟩
     case measure=>simp [intOf];omega
    ·have hq':(sum != Tt)=true:=by simpa using hq
     have e:errV s.data.toList=81:=by
      rw [HE.out]
      simp only [if_true]
      rw [if_neg]
      intro h
      rw [List.all_eq_true] at h
      have h2:=h _ (List.mem_of_getElem? HXX.out)
      rw [hsm] at h2
      exact hq (by simpa using h2)
     have HE8:=hide e
     have HT8:=hide (HTN.out (by rw [e];decide))
     clear hq hsm HALL HXX e
     go_wp2_with fail
     rename_i kk1
     have HA:=hide kk1
     clear kk1
     go_quiet ((first | (go_at_call 39;exact Calls.quiet_of (CSu.out _ _ (by omega))) | (go_at_call 42;exact Calls.quiet_of (CO.out _)) | (go_at_call 41;exact Calls.quiet_of_same (CM.out _))))
     refine HA.out _ _ ?_
     go_wp2_with fail
     go_ret2
     exact ⟨_,by rw [HE8.out];rfl,by rw [HT8.out];exact TbRow.nil _ _,below_drewN HBW.out _⟩
  have hlt':(k:Int) < (n:Int):=by omega
  have hz:=HSZ.out
  obtain ⟨A,hA⟩:∃A:Nat,A=12+16 * k:=⟨_,rfl⟩
  have hAi:(12:Int)+16 * (k:Int)=(A:Int):=by omega
  have hx:=HAT.out k hlt
  rw [←hA] at hx
  have htg:=tag_ext s A (by omega)
  obtain ⟨r,hr0⟩:∃r,rowV (s.data.toList.drop A)=r:=⟨_,rfl⟩
  have hrn:=row_nums s.data.toList A (by omega)
  have hrk:=rowV_ok (s.data.toList.drop A)
  rw [hr0] at hx hrn hrk htg
  rw [drop_at rs k hx,refG,←take_at rs k hx] at hr
  have HTK:=hide (take_at rs k hx)
  obtain ⟨b0,b1,b2,b3,sum,pl,ln⟩:=r
  obtain ⟨⟨o1,o2⟩,⟨o3,o4⟩,⟨o5,o6⟩⟩:=hrk
  simp only at o1 o2 o3 o4 o5 o6 hrn
  obtain ⟨P,rfl⟩:∃P:Nat,pl=(P:Int):=⟨pl.toNat,by omega⟩
  obtain ⟨Q,rfl⟩:∃Q:Nat,ln=(Q:Int):=⟨ln.toNat,by omega⟩
  have p4:(P:Int)≤4294967295:=by have:=n4_lt s.data.toList (A+8);omega
  have p5:(Q:Int)≤4294967295:=by have:=n4_lt s.data.toList (A+12);omega
  obtain ⟨TG,hTG⟩:∃TG,TG=tgS b0 b1 b2 b3:=⟨_,rfl⟩
  have hx4:s.extract A (A+4)=TG:=by rw [htg,hTG];rfl
  have CP:=hide (show ∀z w,z=((A+8:Nat):Int)→Calls Tryz.prog 39 #[.string s,.int .i64 z] w fun e w'=>e=.returned (.int .i64 (P:Int))∧Below w.heap.size w w' from fun z w hz2=>by
   have h:=CU4.out (A+8) z w hz2 (by omega)
   rw [←hrn.2.1] at h
   exact h)
  have CQ:=hide (show ∀z w,z=((A+12:Nat):Int)→Calls Tryz.prog 39 #[.string s,.int .i64 z] w fun e w'=>e=.returned (.int .i64 (Q:Int))∧Below w.heap.size w w' from fun z w hz2=>by
   have h:=CU4.out (A+12) z w hz2 (by omega)
   rw [←hrn.2.2] at h
   exact h)
  have CT:=hide (fun w=>rtag_any b0 b1 b2 b3 w)
  rw [←hTG] at CT
  have w3:IntKind.i64.wrap (16 * (k:Int))=16 * (k:Int):=by rw [IntKind.wrap_i64];omega
  have w4:IntKind.i64.wrap (A:Int)=(A:Int):=by rw [IntKind.wrap_i64];omega
  have w5:IntKind.i64.wrap ((A:Int)+4)=(A:Int)+4:=by rw [IntKind.wrap_i64];omega
  have w6:IntKind.i64.wrap ((A:Int)+8)=(A:Int)+8:=by rw [IntKind.wrap_i64];omega
  have w7:IntKind.i64.wrap ((A:Int)+12)=(A:Int)+12:=by rw [IntKind.wrap_i64];omega
  have t1:((A:Int)+4).toNat=A+4:=by omega
  have t2:(A:Int)+4≤(s.size:Int):=by omega
  have t3:(A:Int)≤(A:Int)+4:=by omega
  have t4:(0:Int)≤(A:Int):=by omega
  have t5:A+4≤s.size:=by omega
  have t6:A≤A+4:=by omega
  have hA1:(A:Int)≤1000:=by omega
  have HTG:=hide hTG
  have HT1:=hide hT
  have HBW:=hide hbw
  have HXX:=hide hx
  have HRR:=hide hr
  have HAk:=hide hA
  have HB:=hide (Below.refl W1.heap.size W1)
  clear hr hT hbw hx htg hTG hrn hr0 hz hA
  go_wp2_with fail
  rename_i kk1
  have HA:=hide kk1
  clear kk1
  go_region_held3 (fun _=>True) (first | trivial | go_keep) ((go_at_call 39;first | (refine (CP.out _ _ (by omega)).mono ?_;rintro e x ⟨rfl,hbx⟩;replace HB:=hide (below_d HB.out hbx rfl rfl rfl rfl);clear hbx) | (refine (CQ.out _ _ (by omega)).mono ?_;rintro e x ⟨rfl,hbx⟩;replace HB:=hide (below_d HB.out hbx rfl rfl rfl rfl);clear hbx)))
  refine HA.out _ _ ?_
  clear HA
  have hbx:Below W1.heap.size W1 x:=below_d HB.out (Below.refl x.heap.size x) rfl rfl rfl rfl
  have HTX:=hide (HT1.out.later hbx)
  have HBX:=hide (HBW.out.trans (hbx.mono HBW.out.size))
  clear hbx HB HT1 HBW w5 w6 w7 t1 t2 t3 t4 t5 t6 hx4 CP CQ
  obtain ⟨BB,hBB⟩:∃BB,(goodT ⟨b0,b1,b2,b3,sum,(P:Int),(Q:Int)⟩ && (aB (rs.take k) ⟨b0,b1,b2,b3,sum,(P:Int),(Q:Int)⟩ && plB s.size n ⟨b0,b1,b2,b3,sum,(P:Int),(Q:Int)⟩))=BB:=⟨_,rfl⟩
  obtain ⟨NB',hNB⟩:∃NB',NB'=!BB:=⟨_,rfl⟩
  go_upto_region 12 with (fail)
  go_cut [108] from 72 to 107 (fun s108 wc=>s108=.bool NB'∧wc=x)
  case first=>
   obtain ⟨hTx⟩:=And.intro HTX.out trivial
   cases hg:(gdB b0 && (gdB b1 && (gdB b2 && gdB b3))) with
   | false=>
    have e:BB=false:=by rw [←hBB];unfold goodT;simp only;rw [hg];rfl
    subst e
    subst hNB
    rw [hg] at CT
    clear hTx hBB
    go_wp2_with (go_at_call 40;refine (CT.out _).mono ?_;rintro e wy ⟨rfl,hy⟩;subst wy)
    go_meet
    exact ⟨rfl,rfl⟩
   | true=>
   rw [hg] at CT
   have hB2:(aB (rs.take k) ⟨b0,b1,b2,b3,sum,(P:Int),(Q:Int)⟩ && plB s.size n ⟨b0,b1,b2,b3,sum,(P:Int),(Q:Int)⟩)=BB:=by rw [←hBB];unfold goodT;simp only;rw [hg];rfl
   clear hBB hg
   by_cases hk1:0 < k
   case neg=>
    have hk1':¬(0:Int) < (k:Int):=by omega
    have ea:aB (rs.take k) ⟨b0,b1,b2,b3,sum,(P:Int),(Q:Int)⟩=true:=by rw [show k=0 by omega];rfl
    rw [ea,Bool.true_and] at hB2
    clear ea hk1 hTx
    by_cases p1:(P:Int) % 4=0
    case neg=>
     have p1':((P:Int) % 4 != 0)=true:=by simpa using p1
     have e:BB=false:=by
      rw [←hB2];unfold plB;simp only;rw [show decide ((P:Int) % 4=0)=false by simpa using p1];rfl
     subst e
     subst hNB
     go_wp2_with (go_at_call 40;refine (CT.out _).mono ?_;rintro e wy ⟨rfl,hy⟩;subst wy)
     go_meet
     exact ⟨rfl,rfl⟩
    have p1':((P:Int) % 4 != 0)=false:=by simpa using p1
    by_cases p2:(P:Int) < 12+16 * (n:Int)
    case pos=>
     have e:BB=false:=by
      rw [←hB2];unfold plB;simp only;rw [show decide ((12:Int)+16 * (n:Int)≤(P:Int))=false by rw [decide_eq_false_iff_not];omega];simp
     subst e
     subst hNB
     go_wp2_with (go_at_call 40;refine (CT.out _).mono ?_;rintro e wy ⟨rfl,hy⟩;subst wy)
     go_meet
     exact ⟨rfl,rfl⟩
    by_cases p3:(s.size:Int) < (P:Int)+(Q:Int)
    case pos=>
     have e:BB=false:=by
      rw [←hB2];unfold plB;simp only;rw [show decide ((P:Int)+(Q:Int)≤(s.size:Int))=false by rw [decide_eq_false_iff_not];omega];simp
     subst e
     subst hNB
     go_wp2_with (go_at_call 40;refine (CT.out _).mono ?_;rintro e wy ⟨rfl,hy⟩;subst wy)
     go_meet
     exact ⟨rfl,rfl⟩
    have p2d:decide ((P:Int) < 12+16 * (n:Int))=false:=by simpa using p2
    have p3d:decide ((s.size:Int) < (P:Int)+(Q:Int))=false:=by simpa using p3
    have e:BB=true:=by
     rw [←hB2];unfold plB;simp only
     rw [Bool.and_eq_true,Bool.and_eq_true,decide_eq_true_eq,decide_eq_true_eq,decide_eq_true_eq]
     exact ⟨p1,by omega,by omega⟩
    subst e
    subst hNB
    go_wp2_with (go_at_call 40;refine (CT.out _).mono ?_;rintro e wy ⟨rfl,hy⟩;subst wy)
    go_meet
    exact ⟨rfl,rfl⟩
   case pos=>
    have hk1':(0:Int) < (k:Int):=by omega
    obtain ⟨j,hj⟩:∃j,k=j+1:=⟨k - 1,by omega⟩
    obtain ⟨p,hp⟩:∃p,rs[j]?=some p:=⟨_,List.getElem?_eq_getElem (by have:=HNL.out;omega)⟩
    obtain ⟨g,cap,hv,hgl,hcell⟩:=hTx.at (by rw [List.length_map,List.length_take,HNL.out];omega)
    obtain ⟨c0,c1⟩:=hcell j (tbOf s p) (by rw [List.getElem?_map,List.getElem?_take,if_pos (by omega),hp];rfl)
    rw [List.length_map,List.length_take,HNL.out,Nat.min_eq_left (by omega)] at hv
    have ea:aB (rs.take k) ⟨b0,b1,b2,b3,sum,(P:Int),(Q:Int)⟩=Op.bytesLess (tgT p) [b0,b1,b2,b3]:=by rw [hj];exact aB_take hp _
    obtain ⟨TP,hTP⟩:∃TP:ByteArray,TP=⟨(tgT p).toArray⟩:=⟨_,rfl⟩
    have c0':x.cell? ⟨g,j * 2,none⟩=some (.string TP):=by rw [hTP];exact c0
    have hle:=leq_run TG TP [b0,b1,b2,b3] (tgT p) HTG.out hTP
    rw [ea] at hB2
    generalize Op.bytesLess (tgT p) [b0,b1,b2,b3]=LB at hle hB2
    have hkj:(k:Int) - 1=(j:Int):=by omega
    have hj0:(0:Int)≤(j:Int):=by omega
    have hjk:(j:Int) < (k:Int):=by omega
    have hjk2:j < k:=by omega
    have wj:IntKind.i64.wrap (j:Int)=(j:Int):=by rw [IntKind.wrap_i64];omega
    clear hcell c0 c1 ea hTx hp hTP hj hk1
    subst hv
    cases LB with
    | false=>
     have e:BB=false:=by rw [←hB2];rfl
     subst e
     subst hNB
     simp only [Bool.not_false] at hle
     go_wp2_with (go_at_call 40;refine (CT.out _).mono ?_;rintro e wy ⟨rfl,hy⟩;subst wy)
     go_meet
     exact ⟨rfl,rfl⟩
    | true=>
    rw [Bool.not_true,Bool.or_eq_false_iff] at hle
    obtain ⟨hle1,hle2⟩:=hle
    rw [Bool.true_and] at hB2
    by_cases p1:(P:Int) % 4=0
    case neg=>
     have p1':((P:Int) % 4 != 0)=true:=by simpa using p1
     have e:BB=false:=by
      rw [←hB2];unfold plB;simp only;rw [show decide ((P:Int) % 4=0)=false by simpa using p1];rfl
     subst e
     subst hNB
     go_wp2_with (go_at_call 40;refine (CT.out _).mono ?_;rintro e wy ⟨rfl,hy⟩;subst wy)
     go_meet
     exact ⟨rfl,rfl⟩
    have p1':((P:Int) % 4 != 0)=false:=by simpa using p1
    by_cases p2:(P:Int) < 12+16 * (n:Int)
    case pos=>
     have e:BB=false:=by
      rw [←hB2];unfold plB;simp only;rw [show decide ((12:Int)+16 * (n:Int)≤(P:Int))=false by rw [decide_eq_false_iff_not];omega];simp
     subst e
     subst hNB
     go_wp2_with (go_at_call 40;refine (CT.out _).mono ?_;rintro e wy ⟨rfl,hy⟩;subst wy)
     go_meet
     exact ⟨rfl,rfl⟩
    by_cases p3:(s.size:Int) < (P:Int)+(Q:Int)
    case pos=>
     have e:BB=false:=by
      rw [←hB2];unfold plB;simp only;rw [show decide ((P:Int)+(Q:Int)≤(s.size:Int))=false by rw [decide_eq_false_iff_not];omega];simp
     subst e
     subst hNB
     go_wp2_with (go_at_call 40;refine (CT.out _).mono ?_;rintro e wy ⟨rfl,hy⟩;subst wy)
     go_meet
     exact ⟨rfl,rfl⟩
    have p2d:decide ((P:Int) < 12+16 * (n:Int))=false:=by simpa using p2
    have p3d:decide ((s.size:Int) < (P:Int)+(Q:Int))=false:=by simpa using p3
    have e:BB=true:=by
     rw [←hB2];unfold plB;simp only
     rw [Bool.and_eq_true,Bool.and_eq_true,decide_eq_true_eq,decide_eq_true_eq,decide_eq_true_eq]
     exact ⟨p1,by omega,by omega⟩
    subst e
    subst hNB
    go_wp2_with (go_at_call 40;refine (CT.out _).mono ?_;rintro e wy ⟨rfl,hy⟩;subst wy)
    go_meet
    exact ⟨rfl,rfl⟩
  case rest=>
   obtain ⟨hc,hcw⟩:=hcut
   replace hcw:=hcw.symm
   subst hc hcw
   clear CT
   have hrr:=HRR.out
   cases hbb:BB with
   | false=>
    have e:R=false:=by
     rw [←hrr]
     rw [hbb] at hBB
     exact and_f hBB
    have e8:errV s.data.toList=80:=by rw [HE.out,e];rfl
    have HE8:=hide e8
    have HT8:=hide (HTN.out (by rw [e8];decide))
    have hn0:NB'=true:=by rw [hNB,hbb];rfl
    subst hn0
    clear e e8 hrr hBB HRR hNB hbb
    go_wp2_with fail
    go_ret2
    exact ⟨_,by rw [HE8.out];rfl,by rw [HT8.out];exact TbRow.nil _ _,HBX.out⟩
   | true=>
   rw [hbb] at hBB
   rw [Bool.and_eq_true,Bool.and_eq_true] at hBB
   rw [hBB.1,hBB.2.1,hBB.2.2,Bool.true_and,Bool.true_and,Bool.true_and] at hrr
   have hpl:=hBB.2.2
   unfold plB at hpl
   simp only at hpl
   rw [Bool.and_eq_true,Bool.and_eq_true,decide_eq_true_eq,decide_eq_true_eq,decide_eq_true_eq] at hpl
   have HR2:=hide hrr
   have y1:(P:Int)≤(P:Int)+(Q:Int):=by omega
   have y2:(P:Int)+(Q:Int)≤(s.size:Int):=hpl.2.2
   have y3:(0:Int)≤(P:Int):=by omega
   have y4:P≤s.size:=by omega
   have y5:P+Q≤s.size:=by omega
   have y6:P≤P+Q:=by omega
   have y7:((P:Int)+(Q:Int)).toNat=P+Q:=by omega
   have hn0:NB'=false:=by rw [hNB,hbb];rfl
   subst hn0
   clear hrr hBB hpl HRR hNB hbb
   go_wp2_with fail
   go_loopw [11] (fun vj wi=>∃j:Nat,vj=.int .i64 j∧Hid (j≤k∧(∀i,i < j→∀q,rs[i]?=some q→meetB ⟨b0,b1,b2,b3,sum,(P:Int),(Q:Int)⟩ q=false)∧TbRow wi w.heap.size vt ((rs.take k).map (tbOf s))∧Below w.heap.size w wi)) (fun vj _=>k - (intOf vj).toNat)
   case atStart=>exact ⟨0,rfl,hide ⟨by omega,fun i hi=>by omega,HTX.out,HBX.out⟩⟩
   case round=>
    clear HTX HBX
    obtain ⟨j,rfl,HV⟩:=hrel
    obtain ⟨hjk,hall,hT,hbw⟩:=HV.out
    have hj0:(0:Int)≤(j:Int):=by omega
    clear HV
    have HALL:=hide hall
    have HT1:=hide hT
    have HBW:=hide hbw
    by_cases hlj:j < k
    case neg=>
     have hlj':¬(j:Int) < (k:Int):=by omega
     obtain rfl:j=k:=by omega
     have hr2:=HR2.out
     rw [any_none (f:=fun q=>meetB ⟨b0,b1,b2,b3,sum,(P:Int),(Q:Int)⟩ q) HALL.out,Bool.not_false,Bool.true_and] at hr2
     have HR3:=hide hr2
     obtain ⟨LT,hLT⟩:∃LT,((rs.take j).map (tbOf s)).length=LT:=⟨_,rfl⟩
     obtain ⟨g,cap,w9,hrn,hT9,hB9,_⟩:=app_tab2 (TG,s.extract P (P+Q)) hT hbw.size (LT:=LT) ⟨hLT,by rw [←hLT,List.length_map,List.length_take];have:=HSZ.out;omega⟩ _ rfl
     have HTB:=hide (show tbOf s ⟨b0,b1,b2,b3,sum,(P:Int),(Q:Int)⟩=(TG,s.extract P (P+Q)) by unfold tbOf tgT;simp only [Int.toNat_natCast];rw [HTG.out])
     have HRN:=hide hrn
     have HT9:=hide hT9
     have HB9:=hide (hbw.trans hB9)
     clear hr2 hLT hrn hT9 hB9 hT hbw hall HALL HT1 HBW HR2 hlj
     go_wp2_with (at_builtin;refine Lib.wpList_append_run _ rfl _ _ _ _ rfl _ _ rfl rfl _ _ HRN.out ?_)
     go_roundw
     case rel=>
      refine ⟨j+1,by go_num,hide ⟨by omega,?_,HR3.out,HB9.out⟩⟩
      rw [HTK.out,List.map_append,List.map_singleton,HTB.out]
      exact HT9.out
     case measure=>simp [intOf];omega
    have hlj':(j:Int) < (k:Int):=by omega
    have hz:=HSZ.out
    obtain ⟨A2,hA2⟩:∃A2:Nat,A2=12+16 * j:=⟨_,rfl⟩
    have hAj:(12:Int)+16 * (j:Int)=(A2:Int):=by omega
    have hxj:=HAT.out j (by omega)
    rw [←hA2] at hxj
    obtain ⟨r2,hr2⟩:∃r2,rowV (s.data.toList.drop A2)=r2:=⟨_,rfl⟩
    have hrn:=row_nums s.data.toList A2 (by omega)
    have hrk:=rowV_ok (s.data.toList.drop A2)
    rw [hr2] at hxj hrn hrk
    obtain ⟨c0,c1,c2,c3,sum2,pl2,ln2⟩:=r2
    obtain ⟨⟨v1,v2⟩,⟨v3,v4⟩,⟨v5,v6⟩⟩:=hrk
    simp only at v1 v2 v3 v4 v5 v6 hrn
    obtain ⟨p,rfl⟩:∃p:Nat,pl2=(p:Int):=⟨pl2.toNat,by omega⟩
    obtain ⟨q,rfl⟩:∃q:Nat,ln2=(q:Int):=⟨ln2.toNat,by omega⟩
    have p4':(p:Int)≤4294967295:=by have:=n4_lt s.data.toList (A2+8);omega
    have p5':(q:Int)≤4294967295:=by have:=n4_lt s.data.toList (A2+12);omega
    have CP:=hide (show ∀z w,z=((A2+8:Nat):Int)→Calls Tryz.prog 39 #[.string s,.int .i64 z] w fun e w'=>e=.returned (.int .i64 (p:Int))∧Below w.heap.size w w' from fun z w hz2=>by
     have h:=CU4.out (A2+8) z w hz2 (by omega)
     rw [←hrn.2.1] at h
     exact h)
    have CQ:=hide (show ∀z w,z=((A2+12:Nat):Int)→Calls Tryz.prog 39 #[.string s,.int .i64 z] w fun e w'=>e=.returned (.int .i64 (q:Int))∧Below w.heap.size w w' from fun z w hz2=>by
     have h:=CU4.out (A2+12) z w hz2 (by omega)
     rw [←hrn.2.2] at h
     exact h)
    have hA21:(A2:Int)≤1000:=by omega
    have hA20:(0:Int)≤(A2:Int):=by omega
    have hmr:=meet_ref P Q p q b0 b1 b2 b3 c0 c1 c2 c3 sum sum2
    have HXJ:=hide hxj
    clear hall hT hbw hxj hr2 hrn hz hA2
    by_cases hm:0 < q∧0 < Q∧p < P+Q∧P < p+q
    case pos=>
     have e:R=false:=by
      rw [←HR2.out,any_hit (f:=fun q=>meetB ⟨b0,b1,b2,b3,sum,(P:Int),(Q:Int)⟩ q) hlj HXJ.out (hmr.2 hm)]
      rfl
     have e8:errV s.data.toList=80:=by rw [HE.out,e];rfl
     have HE8:=hide e8
     have HT8:=hide (HTN.out (by rw [e8];decide))
     obtain ⟨m1,m2,m3,m4⟩:=hm
     have m1':(0:Int) < (q:Int):=by omega
     have m2':(0:Int) < (Q:Int):=by omega
     have m3':(p:Int) < (P:Int)+(Q:Int):=by omega
     have m4':(P:Int) < (p:Int)+(q:Int):=by omega
     clear e e8 hmr HALL HT1
     go_wp2_with fail
     refine (CP.out _ _ (by omega)).mono ?_
     rintro e x1 ⟨rfl,hb1⟩
     have HB1:=hide (HBW.out.trans (hb1.mono HBW.out.size))
     clear hb1
     go_wp2_with fail
     refine (CQ.out _ _ (by omega)).mono ?_
     rintro e x2 ⟨rfl,hb2⟩
     have HB2:=hide (HB1.out.trans (hb2.mono HB1.out.size))
     clear hb2
     go_wp2_with fail
     go_ret2
     exact ⟨_,by rw [HE8.out];rfl,by rw [HT8.out];exact TbRow.nil _ _,HB2.out⟩
    have hmf:meetB ⟨b0,b1,b2,b3,sum,(P:Int),(Q:Int)⟩ ⟨c0,c1,c2,c3,sum2,(p:Int),(q:Int)⟩=false:=by
     cases e:meetB ⟨b0,b1,b2,b3,sum,(P:Int),(Q:Int)⟩ ⟨c0,c1,c2,c3,sum2,(p:Int),(q:Int)⟩ with
     | false=>rfl
     | true=>exact absurd (hmr.1 e) hm
    have HNX:Hid (∀i,i < j+1→∀q,rs[i]?=some q→meetB ⟨b0,b1,b2,b3,sum,(P:Int),(Q:Int)⟩ q=false):=hide (fun i hi t ht=>by
     rcases Nat.lt_or_ge i j with h' | h'
     ·exact HALL.out i h' t ht
     ·obtain rfl:i=j:=by omega
      rw [HXJ.out] at ht;injection ht with ht;rw [←ht];exact hmf)
    have hcs:(decide (0 < q)=false∧decide ((0:Int) < (q:Int))=false)∨((0:Int) < (q:Int)∧decide (0 < Q)=false∧decide ((0:Int) < (Q:Int))=false)∨((0:Int) < (q:Int)∧(0:Int) < (Q:Int)∧decide ((p:Int) < (P:Int)+(Q:Int))=false)∨((0:Int) < (q:Int)∧(0:Int) < (Q:Int)∧(p:Int) < (P:Int)+(Q:Int)∧decide ((P:Int) < (p:Int)+(q:Int))=false):=by
     simp only [decide_eq_false_iff_not]
     omega
    clear hmf hmr hm HALL
    rcases hcs with ⟨m1,m1'⟩ | ⟨m1,m2,m2'⟩ | ⟨m1,m2,m3⟩ | ⟨m1,m2,m3,m4⟩
    all_goals
     go_wp2_with fail
     refine (CP.out _ _ (by omega)).mono ?_
     rintro e x1 ⟨rfl,hb1⟩
     have HB1:=hide (HBW.out.trans (hb1.mono HBW.out.size))
     have HTT1:=hide (HT1.out.later hb1)
     clear hb1
     go_wp2_with fail
     refine (CQ.out _ _ (by omega)).mono ?_
     rintro e x2 ⟨rfl,hb2⟩
     have HB2:=hide (HB1.out.trans (hb2.mono HB1.out.size))
     have HTT2:=hide (HTT1.out.later hb2)
     clear hb2
     go_wp2_with fail
     go_roundw
     case rel=>exact ⟨j+1,by go_num,hide ⟨by omega,HNX.out,HTT2.out,HB2.out⟩⟩
     case measure=>simp [intOf];omega
end Go.Proofs.YtpaadbnlhapdbaaGreatDoor.S8
namespace Go.Proofs.YtpaadbnlhapdbaaGreatDoor.S8
open Go.RowKit Go.Deep
set_option linter.unusedVariables false
def eqS (a b:ByteArray):Bool:=a.toList == b.toList
theorem eqS_iff (a b:ByteArray):eqS a b=true↔a=b:=by
 unfold eqS
 rw [beq_iff_eq,Lib.toList_data,Lib.toList_data]
 constructor
 ·intro h
  cases a with | mk a=>cases b with | mk b=>simp at h;rw [h]
 ·intro h;rw [h]
theorem eqS_no {a b:ByteArray} (h:a≠b):eqS a b=false:=by
 cases e:eqS a b with
 | false=>rfl
 | true=>exact absurd ((eqS_iff a b).1 e) h
abbrev Tab:=ByteArray × ByteArray
def TLst (w:World) (a:Option Addr) (l:List Tab):Prop:=
 l=[]∨∃b off,a=some ⟨b,off,none⟩∧b < w.heap.size∧∀i x,l[i]?=some x→w.cell? ⟨b,off+i * 2,none⟩=some (.string x.1)∧w.cell? ⟨b,off+i * 2+1,none⟩=some (.string x.2)
def finV (l:List Tab) (t:ByteArray):Option ByteArray:=(l.find? fun x=>eqS x.1 t).map (·.2)
theorem finV_none {l:List Tab} {t:ByteArray} (h:∀(i:Nat) (x:Tab),l[i]?=some x→eqS x.1 t=false):finV l t=none:=by
 unfold finV
 rw [List.find?_eq_none.2]
 ·rfl
 ·intro x hx
  obtain ⟨i,hi,rfl⟩:=List.getElem_of_mem hx
  have:=h i l[i] (List.getElem?_eq_getElem hi);rw [this];simp
theorem finV_at:∀(l:List Tab) {t:ByteArray} (k:Nat) {x:Tab},(∀(i:Nat) (y:Tab),i < k→l[i]?=some y→eqS y.1 t=false)→l[k]?=some x→eqS x.1 t=true→finV l t=some x.2
 | [],t,k,x,_,h,_=>by simp at h
 | y :: l,t,0,x,_,h,e=>by
  simp at h;subst h
  unfold finV
  rw [List.find?_cons_of_pos (by exact e)];rfl
 | y :: l,t,k+1,x,hp,h,e=>by
  have h0:=hp 0 y (by omega) rfl
  have ih:=finV_at l (t:=t) k (x:=x) (fun i z hi hz=>hp (i+1) z (by omega) (by simpa using hz)) (by simpa using h) e
  unfold finV at *
  rw [List.find?_cons_of_neg (by rw [h0];simp)]
  exact ih
def fnR:Option ByteArray→Value
 | none=>.tuple #[.string ⟨#[]⟩,.bool false]
 | some d=>.tuple #[.string d,.bool true]
theorem TLst.below {w w' : World} {a : Option Addr} {l : List Tab} (h : TLst w a l) (hb : Below w.heap.size w w') : TLst w' a l := by
  rcases h with h | ⟨b, off, h1, h2, h3⟩
  · exact Or.inl h
  · exact Or.inr ⟨b, off, h1, Nat.lt_of_lt_of_le h2 hb.size, fun i x hi => by rw [hb.cell (p := ⟨b, off + i * 2, none⟩) h2, hb.cell (p := ⟨b, off + i * 2 + 1, none⟩) h2]; exact h3 i x hi⟩
set_option maxHeartbeats 1000000 in
theorem find_any (a:Option Addr) (l:List Tab) (n c:Nat) (t:ByteArray) (w:World) (hn:l.length=n) (hm:n≤1073741824) (hd:∀x∈l,x.2.size≤281474976710656) (hL:TLst w a l) :
  Calls Tryz.prog 117 #[.slice a n c,.string t] w fun e w'=>e=.returned (fnR (finV l t))∧Below w.heap.size w w':=by
 have hm':(n:Int)≤1073741824:=by omega
 have HL:=hide hL
 have HN:=hide hn
 have HD:=hide hd
 clear hL hn hm hd
 go_enter Tryz.func117,Tryz.ntmps117
 go_wp2_with fail
 go_loopw [10] (fun vi wr=>∃(k:Nat),vi=.int .i64 k∧Hid (k≤n∧(∀(j:Nat) (y:Tab),j < k→l[j]?=some y→eqS y.1 t=false)∧Below w.heap.size w wr)) (fun vi _=>n - (intOf vi).toNat)
 case atStart=>exact ⟨0,rfl,hide ⟨by omega,fun j _ hj=>by omega,Below.refl _ _⟩⟩
 case round=>
  obtain ⟨k,rfl,HV⟩:=hrel
  obtain ⟨hk,hv,hb⟩:=HV.out
  have hk0:(0:Int)≤(k:Int):=by omega
  have HVV:=hide hv
  have HB:=hide hb
  clear HV hv
  by_cases hlt:k < n
  case neg=>
   have hlt':¬(k:Int) < (n:Int):=by omega
   have E:Hid (finV l t=none):=hide (finV_none fun i x hi=>by
    have h1:=(List.getElem?_eq_some_iff.1 hi).1
    have h2:=HN.out
    exact HVV.out i x (by omega) hi)
   clear HVV hb
   go_wp2_with fail
   go_ret2
   exact ⟨by rw [E.out];rfl,HB.out⟩
  have hlt':(k:Int) < (n:Int):=by omega
  obtain ⟨x,hx⟩:∃x,l[k]?=some x:=⟨_,List.getElem?_eq_getElem (by have:=HN.out;omega)⟩
  rcases HL.out.below hb with hz | ⟨b,o,rfl,hbl,hcell⟩
  ·rw [hz] at hx;simp at hx
  obtain ⟨c0,c1⟩:=hcell k x hx
  have hdx:x.2.size≤281474976710656:=HD.out x (List.mem_of_getElem? hx)
  have CC:=hide (fun w=>clone_any x.2 w hdx)
  have HX:=hide hx
  obtain ⟨x1,x2⟩:=x
  have hne:b≠wr.heap.size:=by omega
  have hal:=(Below.refl wr.heap.size wr).alloc (Nat.le_refl _) (.cells #[.string x1,.string x2] 79)
  have HAL:=hide (below_t5 hb hal)
  clear hcell hb hx hal hdx
  by_cases q:eqS x1 t=true
  ·have q':(x1.toList == t.toList)=true:=q
   have E:=hide (finV_at l k HVV.out HX.out q)
   clear HVV q
   go_wp2_with (go_at_call 97;refine (CC.out _).mono ?_;rintro e w1 ⟨rfl,h1⟩)
   go_ret2
   exact ⟨by rw [E.out];rfl,below_t5 HAL.out h1⟩
  ·have q0:eqS x1 t=false:=by simpa using q
   have q':(x1.toList == t.toList)=false:=q0
   have E:Hid (∀(j:Nat) (y:Tab),j < k+1→l[j]?=some y→eqS y.1 t=false):=hide fun j y hj hy=>by
    rcases Nat.lt_or_ge j k with h' | h'
    ·exact HVV.out j y h' hy
    ·obtain rfl:j=k:=by omega
     rw [HX.out] at hy
     injection hy with hy
     rw [←hy];exact q0
   clear HVV q q0
   go_wp2_with fail
   go_roundw
   case rel=>exact ⟨k+1,by go_num,hide ⟨by omega,E.out,HAL.out⟩⟩
   case measure=>simp [intOf];omega
set_option maxHeartbeats 1000000 in
theorem rfind_any (a:Option Addr) (l:List Tab) (n c:Nat) (t:ByteArray) (w:World) (hn:l.length=n) (hm:n≤1073741824) (hL:TLst w a l) :
  Calls Tryz.prog 17 #[.slice a n c,.string t] w fun e w'=>e=.returned (fnR (finV l t))∧w'=w:=by
 have hm':(n:Int)≤1073741824:=by omega
 have HL:=hide hL
 have HN:=hide hn
 clear hL hn hm
 go_enter Tryz.func17,Tryz.ntmps17
 go_wp2_with fail
 go_loop [6] (fun vi=>∃(k:Nat),vi=.int .i64 k∧Hid (k≤n∧(∀(j:Nat) (y:Tab),j < k→l[j]?=some y→eqS y.1 t=false))) (fun vi=>n - (intOf vi).toNat)
 case atStart=>exact ⟨0,rfl,hide ⟨by omega,fun j _ hj=>by omega⟩⟩
 case round=>
  obtain ⟨k,rfl,HV⟩:=hrel
  obtain ⟨hk,hv⟩:=HV.out
  have hk0:(0:Int)≤(k:Int):=by omega
  have HVV:=hide hv
  clear HV hv
  by_cases hlt:k < n
  case neg=>
   have hlt':¬(k:Int) < (n:Int):=by omega
   have E:Hid (finV l t=none):=hide (finV_none fun i x hi=>by
    have h1:=(List.getElem?_eq_some_iff.1 hi).1
    have h2:=HN.out
    exact HVV.out i x (by omega) hi)
   clear HVV
   go_wp2_with fail
   go_ret2
   exact ⟨by rw [E.out];rfl,rfl⟩
  have hlt':(k:Int) < (n:Int):=by omega
  obtain ⟨x,hx⟩:∃x,l[k]?=some x:=⟨_,List.getElem?_eq_getElem (by have:=HN.out;omega)⟩
  rcases HL.out with hz | ⟨b,o,rfl,hbl,hcell⟩
  ·rw [hz] at hx;simp at hx
  obtain ⟨c0,c1⟩:=hcell k x hx
  have HX:=hide hx
  obtain ⟨x1,x2⟩:=x
  clear hcell hx
  by_cases q:eqS x1 t=true
  ·have q':(x1.toList == t.toList)=true:=q
   have E:=hide (finV_at l k HVV.out HX.out q)
   clear HVV q
   go_wp2_with fail
   go_ret2
   exact ⟨by rw [E.out];rfl,rfl⟩
  ·have q0:eqS x1 t=false:=by simpa using q
   have q':(x1.toList == t.toList)=false:=q0
   have E:Hid (∀(j:Nat) (y:Tab),j < k+1→l[j]?=some y→eqS y.1 t=false):=hide fun j y hj hy=>by
    rcases Nat.lt_or_ge j k with h' | h'
    ·exact HVV.out j y h' hy
    ·obtain rfl:j=k:=by omega
     rw [HX.out] at hy
     injection hy with hy
     rw [←hy];exact q0
   clear HVV q q0
   go_wp2_with fail
   go_round
   case rel=>exact ⟨k+1,by go_num,hide ⟨by omega,E.out⟩⟩
   case measure=>simp [intOf];omega
theorem TbRow.lst {w:World} {B:Nat} {v:Value} {l:List Tab} (h:TbRow w B v l):∃a cap,v=.slice a l.length cap∧TLst w a l:=by
 rcases Nat.eq_zero_or_pos l.length with h0 | h0
 ·obtain ⟨a,cap,hv⟩:=h.shape
  exact ⟨a,cap,hv,Or.inl (List.eq_nil_of_length_eq_zero h0)⟩
 ·obtain ⟨g,cap,hv,hg,hc⟩:=h.at h0
  exact ⟨_,cap,hv,Or.inr ⟨g,0,rfl,hg,fun i x hi=>by rw [Nat.zero_add];exact hc i x hi⟩⟩
def gtT (y x:Tab):Bool:=Op.bytesLess x.1.toList y.1.toList
def insR (x:Tab):List Tab→List Tab
 | []=>[x]
 | y :: r=>if gtT y x=true then y :: insR x r else x :: y :: r
def insV (x:Tab) (l:List Tab):List Tab:=(insR x l.reverse).reverse
def sorV (l:List Tab):List Tab:=l.foldl (fun a x=>insV x a) []
theorem TbRow.at2 {w:World} {B g cap n:Nat} {l:List Tab} (h:TbRow w B (.slice (some ⟨g,0,none⟩) n cap) l) (hn:l.length=n) (i:Nat) (x:Tab) (hi:l[i]?=some x):w.cell? ⟨g,i * 2,none⟩=some (.string x.1)∧w.cell? ⟨g,i * 2+1,none⟩=some (.string x.2):=by
 obtain ⟨g',cap',hv,_,hc⟩:=h.at (by have:=(List.getElem?_eq_some_iff.1 hi).1;omega)
 injection hv with h1 h2 h3
 injection h1 with h1
 injection h1 with h1
 subst h1
 exact hc i x hi
theorem TbRow.base {w:World} {B g cap n:Nat} {l:List Tab} (h:TbRow w B (.slice (some ⟨g,0,none⟩) n cap) l):B≤g∧g < w.heap.size:=World.ownsRow.lt h g rfl
def tz:Tab:=(⟨#[]⟩,⟨#[]⟩)
def okT (m:List Tab) (i:Nat):Bool:=tagB (m.getD i tz).1 && (decide (i=0) || !eqS (m.getD i tz).1 (m.getD (i - 1) tz).1)
def szT (m:List Tab):Nat→Nat
 | 0=>12+16 * m.length
 | k+1=>if 1048576 < (m.getD k tz).2.size∨1048576 < szT m k then 1048577 else szT m k+((m.getD k tz).2.size+3) / 4 * 4
def okA (m:List Tab):Prop:=∀i,i < m.length→okT m i=true
instance (m:List Tab):Decidable (okA m):=by unfold okA;infer_instance
def bErr (l:List Tab):Int:=if l.length < 1∨32 < l.length then 80 else if okA (sorV l) then (if 1048576 < szT (sorV l) l.length then 2 else 0) else 80
def ownS (t s:ByteArray):ByteArray:=match t.data.toList with
 | [b0,b1,b2,b3]=>smS b0 b1 b2 b3 s
 | _=>s
theorem ownS_size (t s:ByteArray):(ownS t s).size=s.size:=by
 unfold ownS
 split
 ·exact smS_size _ _ _ _ _
 ·rfl
theorem tag_size {t:ByteArray} (h:tagB t=true):t.size=4:=by
 rcases Nat.decEq t.size 4 with h' | h'
 ·rw [tagB_no h'] at h;simp at h
 ·exact h'
def dOf (m:List Tab) (k:Nat):ByteArray:=ownS (m.getD k tz).1 (m.getD k tz).2
def bodT (m:List Tab):Nat→List UInt8
 | 0=>[]
 | k+1=>bodT m k++padT (dOf m k).data.toList
def plT (m:List Tab) (k:Nat):Nat:=12+16 * m.length+(bodT m k).length
def rowT (m:List Tab):Nat→List UInt8
 | 0=>[]
 | k+1=>rowT m k++((m.getD k tz).1.data.toList++f4 ((sumV (dOf m k).data.toList:Nat):Int)++f4 (plT m k:Int)++f4 ((dOf m k).size:Int))
def owK (m:List Tab):Nat→Int
 | 0=>-1
 | k+1=>if (eqS (m.getD k tz).1 ⟨#[104,101,97,100]⟩ && decide (12≤(dOf m k).size))=true then (plT m k:Int)+8 else owK m k
theorem f4_len (x:Int):(f4 x).length=4:=by unfold f4;rw [List.length_append,nbT_len,nbT_len]
theorem padT_sz (l:List UInt8):(padT l).length=(l.length+3) / 4 * 4:=by
 unfold padT
 rw [List.length_append,List.length_replicate]
 omega
theorem szT_mono (m:List Tab) (k:Nat) (h:szT m (k+1)≤1048576):szT m k≤1048576∧(m.getD k tz).2.size≤1048576∧szT m (k+1)=szT m k+((m.getD k tz).2.size+3) / 4 * 4:=by
 rw [szT] at h ⊢
 split at h
 ·omega
 ·rename_i h'
  rw [if_neg h']
  omega
theorem pl_sz (m:List Tab):∀k,szT m k≤1048576→plT m k=szT m k
 | 0,_=>by unfold plT;rw [szT,bodT];simp
 | k+1,h=>by
  obtain ⟨h1,h2,h3⟩:=szT_mono m k h
  have ih:=pl_sz m k h1
  unfold plT at *
  rw [bodT,List.length_append,padT_sz,h3,←ih]
  have e:(dOf m k).data.toList.length=(m.getD k tz).2.size:=by
   rw [←Lib.size_eq];unfold dOf;exact ownS_size _ _
  rw [e];omega
theorem pl_next (m:List Tab) (k:Nat):plT m k+(dOf m k).size≤plT m (k+1):=by
 unfold plT
 rw [bodT,List.length_append,padT_sz,←Lib.size_eq];omega
theorem pl_mono (m:List Tab) (k:Nat):∀d,plT m k≤plT m (k+d)
 | 0=>Nat.le_refl _
 | d+1=>Nat.le_trans (pl_mono m k d) (Nat.le_trans (Nat.le_add_right _ _) (pl_next m (k+d)))
theorem row_len (m:List Tab) (hok:okA m):∀k,k≤m.length→(rowT m k).length=16 * k
 | 0,_=>rfl
 | k+1,hk=>by
  have ih:=row_len m hok k (by omega)
  have h1:=hok k (by omega)
  unfold okT at h1
  rw [Bool.and_eq_true] at h1
  have h2:=tag_size h1.1
  rw [Lib.size_eq] at h2
  rw [rowT,List.length_append,List.length_append,List.length_append,List.length_append,ih,f4_len,f4_len,f4_len,h2];omega
def txtV (m:List Tab):List UInt8:=
 let s:=openT m.length++(rowT m m.length++bodT m m.length)
 if 0≤owK m m.length then s.take (owK m m.length).toNat++(f4 ((2981146554 - ((sumV s:Nat):Int)) % 4294967296)++s.drop ((owK m m.length).toNat+4)) else s
end Go.Proofs.YtpaadbnlhapdbaaGreatDoor.S8
namespace Go.Proofs.YtpaadbnlhapdbaaGreatDoor.S8
open Go.RowKit Go.Deep
set_option linter.unusedVariables false
set_option linter.unusedSimpArgs false
theorem tabV_bd (s:ByteArray) (x:Tab) (h:x∈tabV s):x.2.size≤s.size:=by
 unfold tabV at h
 split at h
 ·obtain ⟨r,_,rfl⟩:=List.mem_map.1 h
  unfold tbOf
  simp only
  rw [ByteArray.size_extract]
  omega
 ·simp at h
theorem tabV_len (s:ByteArray):(tabV s).length≤32:=by
 unfold tabV
 split
 ·rename_i h
  rw [List.length_map,rowsV_len]
  unfold errV at h
  split at h
  ·simp at h
  ·cases e:hdB s.data.toList with
   | false=>rw [e] at h;simp at h
   | true=>
    unfold hdB at e
    rw [Bool.and_eq_true,Bool.and_eq_true,Bool.and_eq_true,decide_eq_true_eq,decide_eq_true_eq,decide_eq_true_eq] at e
    exact e.2.2.1
 ·simp
theorem less_trans:∀(a b c:List UInt8),Op.bytesLess a b=true→Op.bytesLess b c=true→Op.bytesLess a c=true
 | _,_,[],_,h=>by simp [Op.bytesLess] at h
 | [],_,c :: z,_,_=>by simp [Op.bytesLess]
 | a :: x,[],c :: z,h,_=>by simp [Op.bytesLess] at h
 | a :: x,b :: y,c :: z,h1,h2=>by
  have ih:=less_trans x y z
  simp only [Op.bytesLess,Bool.or_eq_true,Bool.and_eq_true,decide_eq_true_eq,beq_iff_eq] at *
  rcases h1 with h1 | ⟨rfl,h1⟩
  ·rcases h2 with h2 | ⟨rfl,h2⟩
   ·left;rw [UInt8.lt_iff_toNat_lt] at *;omega
   ·left;exact h1
  ·rcases h2 with h2 | ⟨rfl,h2⟩
   ·left;exact h2
   ·right;exact ⟨rfl,ih h1 h2⟩
theorem less_irrefl:∀(a:List UInt8),Op.bytesLess a a=false
 | []=>rfl
 | a :: x=>by
  have : ¬a < a:=by rw [UInt8.lt_iff_toNat_lt];omega
  simp [Op.bytesLess,this,less_irrefl x]
end Go.Proofs.YtpaadbnlhapdbaaGreatDoor.S8
namespace Go.Proofs.YtpaadbnlhapdbaaGreatDoor.S8
open Go.RowKit Go.Deep
set_option linter.unusedVariables false
def Srt (l:List Tab):Prop:=l.Pairwise fun x y=>gtT x y=false
def StT (l:List Tab):Prop:=l.Pairwise fun x y=>Op.bytesLess x.1.toList y.1.toList=true
theorem less_no {a b:List UInt8} (h:Op.bytesLess a b=true):Op.bytesLess b a=false:=by
 cases e:Op.bytesLess b a with
 | false=>rfl
 | true=>
  have:=less_trans _ _ _ h e
  rw [less_irrefl] at this;cases this
theorem less_or {a b:List UInt8} (h:Op.bytesLess b a=false):Op.bytesLess a b=true∨a=b:=by
 have e:=less_total a b
 rw [h,Bool.not_false,Bool.or_eq_true,beq_iff_eq] at e
 exact e
theorem less_nt {a b c:List UInt8} (h1:Op.bytesLess a b=false) (h2:Op.bytesLess b c=false):Op.bytesLess a c=false:=by
 cases e:Op.bytesLess a c with
 | false=>rfl
 | true=>
  rcases less_or h1 with h1 | rfl
  ·rcases less_or h2 with h2 | rfl
   ·have:=less_trans _ _ _ e (less_trans _ _ _ h2 h1)
    rw [less_irrefl] at this;cases this
   ·have:=less_trans _ _ _ e h1
    rw [less_irrefl] at this;cases this
  ·rw [e] at h2;cases h2
theorem insR_mem (x:Tab):∀r y,y∈insR x r→y=x∨y∈r
 | [],y,h=>by simp [insR] at h;exact Or.inl h
 | q :: r,y,h=>by
  rw [insR] at h
  split at h
  ·rcases List.mem_cons.1 h with h | h
   ·exact Or.inr (by rw [h];exact List.mem_cons_self)
   ·rcases insR_mem x r y h with h | h
    ·exact Or.inl h
    ·exact Or.inr (List.mem_cons_of_mem _ h)
  ·rcases List.mem_cons.1 h with h | h
   ·exact Or.inl h
   ·exact Or.inr h
theorem insR_srt (x:Tab):∀r:List Tab,(r.Pairwise fun a b=>gtT b a=false)→(insR x r).Pairwise fun a b=>gtT b a=false
 | [],_=>by simp [insR]
 | y :: r,h=>by
  have h':=List.pairwise_cons.1 h
  rw [insR]
  split
  ·rename_i hg
   refine List.pairwise_cons.2 ⟨fun b hb=>?_,insR_srt x r h'.2⟩
   rcases insR_mem x r b hb with rfl | hb
   ·exact less_no hg
   ·exact h'.1 b hb
  ·rename_i hg
   have hg:gtT y x=false:=by simpa using hg
   refine List.pairwise_cons.2 ⟨fun b hb=>?_,h⟩
   rcases List.mem_cons.1 hb with rfl | hb
   ·exact hg
   ·exact less_nt hg (h'.1 b hb)
theorem insR_perm (x:Tab):∀r:List Tab,(insR x r).Perm (x :: r)
 | []=>List.Perm.refl _
 | y :: r=>by
  rw [insR]
  split
  ·exact (List.Perm.cons y (insR_perm x r)).trans (List.Perm.swap x y r)
  ·exact List.Perm.refl _
theorem insV_srt (x:Tab) (l:List Tab) (h:Srt l):Srt (insV x l):=by
 unfold Srt insV
 rw [List.pairwise_reverse]
 exact insR_srt x _ (List.pairwise_reverse.2 h)
theorem insV_perm (x:Tab) (l:List Tab):(insV x l).Perm (x :: l):=by
 unfold insV
 exact (List.reverse_perm _).trans ((insR_perm x _).trans (List.Perm.cons x (List.reverse_perm _)))
theorem sor_both:∀(l a:List Tab),Srt a→Srt (l.foldl (fun a x=>insV x a) a)∧(l.foldl (fun a x=>insV x a) a).Perm (a++l)
 | [],a,h=>⟨h,by rw [List.append_nil];exact List.Perm.refl _⟩
 | x :: l,a,h=>by
  obtain ⟨h1,h2⟩:=sor_both l (insV x a) (insV_srt x a h)
  refine ⟨h1,h2.trans ?_⟩
  exact ((insV_perm x a).append_right l).trans List.perm_middle.symm
theorem sor_srt (l:List Tab):Srt (sorV l):=(sor_both l [] List.Pairwise.nil).1
theorem sor_perm (l:List Tab):(sorV l).Perm l:=(sor_both l [] List.Pairwise.nil).2
theorem srt_uniq:∀(a b:List Tab),a.Perm b→StT a→Srt b→a=b
 | [],b,hp,_,_=>(List.Perm.nil_eq hp)
 | x :: a,[],hp,_,_=>by have:=hp.length_eq;simp at this
 | x :: a,y :: b,hp,ha,hb=>by
  have ha':=List.pairwise_cons.1 ha
  have hb':=List.pairwise_cons.1 hb
  have e:x=y:=by
   have h1:x∈y :: b:=hp.subset List.mem_cons_self
   have h2:y∈x :: a:=hp.symm.subset List.mem_cons_self
   rcases List.mem_cons.1 h1 with h1 | h1
   ·exact h1
   ·rcases List.mem_cons.1 h2 with h2 | h2
    ·exact h2.symm
    ·have q1:=hb'.1 x h1
     have q2:=ha'.1 y h2
     unfold gtT at q1
     rw [q2] at q1;cases q1
  subst e
  rw [srt_uniq a b (List.Perm.cons_inv hp) ha'.2 hb'.2]
def riseM:List UInt8→List Tab→Bool
 | _,[]=>true
 | a,x :: m=>tagB x.1 && (Op.bytesLess a x.1.toList && riseM x.1.toList m)
def goM (m:List Tab):Prop:=(∀x∈m,x.1.size=4)∧riseM [0,0,0,0] m=true
theorem tag_pos {t:ByteArray} (h:tagB t=true):Op.bytesLess [0,0,0,0] t.toList=true:=by
 obtain ⟨b0,b1,b2,b3,rfl⟩:=four_of (tag_size h)
 unfold tagB at h
 simp only [gdB,Bool.and_eq_true,decide_eq_true_eq] at h
 have : (0:UInt8) < b0:=by rw [UInt8.lt_iff_toNat_lt];show 0 < _;omega
 rw [Lib.toList_data]
 simp [Op.bytesLess,this]
theorem rise_st:∀(m:List Tab) (a:List UInt8),riseM a m=true→(∀x∈m,tagB x.1=true∧Op.bytesLess a x.1.toList=true)∧StT m
 | [],a,_=>⟨fun x hx=>by simp at hx,List.Pairwise.nil⟩
 | y :: m,a,h=>by
  rw [riseM,Bool.and_eq_true,Bool.and_eq_true] at h
  obtain ⟨h1,h2⟩:=rise_st m _ h.2.2
  refine ⟨fun x hx=>?_,List.pairwise_cons.2 ⟨fun x hx=>(h1 x hx).2,h2⟩⟩
  rcases List.mem_cons.1 hx with rfl | hx
  ·exact ⟨h.1,h.2.1⟩
  ·exact ⟨(h1 x hx).1,less_trans _ _ _ h.2.1 (h1 x hx).2⟩
theorem st_rise:∀(m:List Tab) (a:List UInt8),(∀x∈m,tagB x.1=true∧Op.bytesLess a x.1.toList=true)→StT m→riseM a m=true
 | [],a,_,_=>rfl
 | y :: m,a,h,hs=>by
  have hs':=List.pairwise_cons.1 hs
  obtain ⟨h1,h2⟩:=h y List.mem_cons_self
  rw [riseM,h1,h2,st_rise m _ (fun x hx=>⟨(h x (List.mem_cons_of_mem _ hx)).1,hs'.1 x hx⟩) hs'.2];rfl
theorem go_iff (m:List Tab):goM m↔(∀x∈m,tagB x.1=true)∧StT m:=by
 constructor
 ·rintro ⟨_,h⟩
  obtain ⟨h1,h2⟩:=rise_st m _ h
  exact ⟨fun x hx=>(h1 x hx).1,h2⟩
 ·rintro ⟨h1,h2⟩
  exact ⟨fun x hx=>tag_size (h1 x hx),st_rise m _ (fun x hx=>⟨h1 x hx,tag_pos (h1 x hx)⟩) h2⟩
theorem getD_some (m:List Tab) (i:Nat) (h:i < m.length):m.getD i tz=m[i]:=by
 rw [List.getD_eq_getElem?_getD,List.getElem?_eq_getElem h];rfl
theorem srt_st:∀(m:List Tab),Srt m→(∀i,(h:i+1 < m.length)→m[i].1≠m[i+1].1)→StT m
 | [],_,_=>List.Pairwise.nil
 | [x],_,_=>List.pairwise_singleton _ _
 | x :: y :: m,hs,hn=>by
  have hs':=List.pairwise_cons.1 hs
  have ih:=srt_st (y :: m) hs'.2 (fun i h=>by
   have:=hn (i+1) (by simp at h ⊢;omega)
   simpa using this)
  have h0:Op.bytesLess x.1.toList y.1.toList=true:=by
   have h1:=hs'.1 y List.mem_cons_self
   have h2:x.1≠y.1:=hn 0 (by simp)
   rcases less_or h1 with h | h
   ·exact h
   ·exfalso;apply h2
    rw [Lib.toList_data,Lib.toList_data] at h
    obtain ⟨⟨x1⟩,_⟩:=x
    obtain ⟨⟨y1⟩,_⟩:=y
    simp at h;rw [h]
  refine List.pairwise_cons.2 ⟨fun z hz=>?_,ih⟩
  rcases List.mem_cons.1 hz with rfl | hz
  ·exact h0
  ·exact less_trans _ _ _ h0 ((List.pairwise_cons.1 ih).1 z hz)
theorem ok_go (m:List Tab) (hs:Srt m) (h:okA m):goM m:=by
 rw [go_iff]
 refine ⟨fun x hx=>?_,srt_st m hs fun i hi=>?_⟩
 ·obtain ⟨i,hi,rfl⟩:=List.getElem_of_mem hx
  have:=h i hi
  unfold okT at this
  rw [Bool.and_eq_true,getD_some m i hi] at this
  exact this.1
 ·have:=h (i+1) hi
  unfold okT at this
  rw [Bool.and_eq_true,getD_some m _ hi,Nat.add_sub_cancel,getD_some m i (by omega),Bool.or_eq_true] at this
  rcases this.2 with h | h
  ·simp at h
  ·intro e
   rw [e] at h
   have:=(eqS_iff m[i+1].1 m[i+1].1).2 rfl
   rw [this] at h;simp at h
theorem st_ne {m:List Tab} (h:StT m) {i j:Nat} (hi:i < j) (hj:j < m.length):m[i].1≠m[j].1:=by
 have:=(List.pairwise_iff_getElem.1 h) i j (by omega) hj hi
 intro e
 rw [e,less_irrefl] at this;cases this
theorem go_ok (m:List Tab) (h:goM m):okA m:=by
 obtain ⟨h1,h2⟩:=(go_iff m).1 h
 intro i hi
 unfold okT
 rw [getD_some m i hi,h1 _ (List.getElem_mem hi),Bool.true_and,Bool.or_eq_true,decide_eq_true_eq]
 rcases Nat.eq_zero_or_pos i with h0 | h0
 ·exact Or.inl h0
 ·right
  rw [getD_some m (i - 1) (by omega),eqS_no (fun e=>st_ne h2 (show i - 1 < i by omega) hi e.symm)];rfl
theorem both_sort (l m:List Tab) (hp:m.Perm l) (hs:Srt m):(okA (sorV l)→m=sorV l)∧(goM m→m=sorV l):=by
 constructor
 ·intro h
  have h1:=ok_go _ (sor_srt l) h
  exact (srt_uniq (sorV l) m ((sor_perm l).trans hp.symm) ((go_iff _).1 h1).2 hs).symm
 ·intro h
  exact srt_uniq m (sorV l) (hp.trans (sor_perm l).symm) ((go_iff _).1 h).2 (sor_srt l)
theorem ok_iff_go (l m:List Tab) (hp:m.Perm l) (hs:Srt m):okA (sorV l)↔goM m:=by
 constructor
 ·intro h
  rw [(both_sort l m hp hs).1 h]
  exact ok_go _ (sor_srt l) h
 ·intro h
  rw [←(both_sort l m hp hs).2 h]
  exact go_ok m h
theorem sz_great (m:List Tab):∀k,1048576 < szT m k→1048576 < plT m k
 | 0,h=>by unfold plT;rw [szT] at h;rw [bodT];simp;omega
 | k+1,h=>by
  have ih:=sz_great m k
  have e:plT m (k+1)=plT m k+((m.getD k tz).2.size+3) / 4 * 4:=by
   unfold plT
   rw [bodT,List.length_append,padT_sz,←Lib.size_eq]
   unfold dOf;rw [ownS_size];omega
  rw [e]
  rw [szT] at h
  split at h
  ·rename_i h'
   rcases h' with h' | h'
   ·omega
   ·have:=ih h';omega
  ·rename_i h'
   have : szT m k=plT m k:=(pl_sz m k (by omega)).symm
   omega
theorem pl_step (m:List Tab) (k:Nat):plT m (k+1)=plT m k+((m.getD k tz).2.size+3) / 4 * 4:=by
 unfold plT
 rw [bodT,List.length_append,padT_sz,←Lib.size_eq]
 unfold dOf;rw [ownS_size];omega
theorem sz_iff (m:List Tab) (k:Nat):1048576 < szT m k↔1048576 < plT m k:=by
 constructor
 ·exact sz_great m k
 ·intro h
  rcases Nat.lt_or_ge 1048576 (szT m k) with h' | h'
  ·exact h'
  ·have:=pl_sz m k h';omega
theorem err_of (l m:List Tab) (hp:m.Perm l) (hs:Srt m) (h1:1≤l.length) (h2:l.length≤32) :
  (¬goM m→bErr l=80)∧(goM m→1048576 < plT m m.length→bErr l=2)∧(goM m→plT m m.length≤1048576→bErr l=0∧m=sorV l):=by
 have hi:=ok_iff_go l m hp hs
 have hl:m.length=l.length:=hp.length_eq
 have e:bErr l=if okA (sorV l) then (if 1048576 < szT (sorV l) l.length then 2 else 0) else 80:=by unfold bErr;rw [if_neg (by omega)]
 refine ⟨fun h=>by rw [e,if_neg (fun h'=>h (hi.1 h'))],fun h hz=>?_,fun h hz=>?_⟩
 ·have em:=(both_sort l m hp hs).2 h
  rw [e,if_pos (hi.2 h),if_pos]
  rw [←em,←hl]
  exact (sz_iff m _).2 hz
 ·have em:=(both_sort l m hp hs).2 h
  refine ⟨?_,em⟩
  rw [e,if_pos (hi.2 h),if_neg]
  rw [←em,←hl,sz_iff];omega
end Go.Proofs.YtpaadbnlhapdbaaGreatDoor.S8
namespace Go.Proofs.YtpaadbnlhapdbaaGreatDoor.S8
open Go.RowKit Go.Deep
set_option linter.unusedVariables false
set_option linter.unusedSimpArgs false
def lyRw (m:List Tab) (k:Nat):Rw:=⟨(m.getD k tz).1.data.toList.getD 0 0,(m.getD k tz).1.data.toList.getD 1 0,(m.getD k tz).1.data.toList.getD 2 0,(m.getD k tz).1.data.toList.getD 3 0,0,(plT m k:Int),((m.getD k tz).2.size:Int)⟩
def lyRs (m:List Tab) (k:Nat):List Rw:=(List.range k).map (lyRw m)
theorem lyRs_len (m:List Tab) (k:Nat):(lyRs m k).length=k:=by unfold lyRs;simp
theorem lyRs_succ (m:List Tab) (k:Nat):lyRs m (k+1)=lyRs m k++[lyRw m k]:=by unfold lyRs;exact map_range_succ _ _
theorem lyRs_at (m:List Tab) (n i:Nat) (h:i < n):(lyRs m n)[i]?=some (lyRw m i):=by unfold lyRs;simp [h]
theorem tgT_ly (m:List Tab) (k:Nat) (h:(m.getD k tz).1.size=4):tgT (lyRw m k)=(m.getD k tz).1.data.toList:=by
 obtain ⟨b0,b1,b2,b3,e⟩:=four_of h
 unfold tgT lyRw
 rw [e];rfl
theorem goodT_ly (m:List Tab) (k:Nat) (h:(m.getD k tz).1.size=4):goodT (lyRw m k)=tagB (m.getD k tz).1:=by
 obtain ⟨b0,b1,b2,b3,e⟩:=four_of h
 unfold goodT lyRw tagB
 rw [e];rfl
theorem rise_eq:∀(rs:List Rw) (m:List Tab) (a:List UInt8),rs.length=m.length→(∀(i:Nat) (r:Rw) (x:Tab),rs[i]?=some r→m[i]?=some x→tgT r=x.1.toList∧goodT r=tagB x.1)→riseB a rs=riseM a m
 | [],[],a,_,_=>rfl
 | [],x :: m,a,h,_=>by simp at h
 | r :: rs,[],a,h,_=>by simp at h
 | r :: rs,x :: m,a,h,hh=>by
  obtain ⟨h1,h2⟩:=hh 0 r x rfl rfl
  rw [riseB,riseM,h1,h2,rise_eq rs m _ (by simpa using h) (fun i r' x' hi hx=>hh (i+1) r' x' (by simpa using hi) (by simpa using hx))]
theorem rise_ly (m:List Tab) (n:Nat) (hn:m.length=n) (h:∀x∈m,x.1.size=4):riseB [0,0,0,0] (lyRs m n)=riseM [0,0,0,0] m:=by
 refine rise_eq _ _ _ (by rw [lyRs_len,hn]) fun i r x hi hx=>?_
 obtain ⟨hil,hxe⟩:=List.getElem?_eq_some_iff.1 hx
 rw [lyRs_at m n i (by omega)] at hi
 have e:m.getD i tz=x:=by rw [getD_some m i hil,hxe]
 have h4:(m.getD i tz).1.size=4:=by rw [e];exact h x (List.mem_of_getElem? hx)
 injection hi with hi
 subst hi
 exact ⟨by rw [tgT_ly m i h4,e,Lib.toList_data],by rw [goodT_ly m i h4,e]⟩
theorem pl_bd (m:List Tab) (n:Nat) (hn:m.length≤32) (hz:∀x∈m,x.2.size≤1073741824):∀k,k≤n→n≤m.length→plT m k≤1000+k * 1073741828
 | 0,_,_=>by unfold plT;rw [bodT];simp;omega
 | k+1,hk,h=>by
  have ih:=pl_bd m n hn hz k (by omega) h
  rw [pl_step]
  have:=hz _ (List.getElem_mem (show k < m.length by omega))
  rw [getD_some m k (by omega)]
  omega
theorem copy_tagG (V:World) (b:Nat) (b0 b1 b2 b3:UInt8) (x4 x5 x6:Value) (k:Blk V b #[.int .u8 0,.int .u8 0,.int .u8 0,.int .u8 0,x4,x5,x6] 150) :
  ∃W2,(Builtin.copy_ #[97,9] 3 #[.slice (some ⟨b,0,none⟩) 4 4,.string (tgS b0 b1 b2 b3)]).run Tryz.prog V=.ok (.int .i64 4) W2∧Blk W2 b #[.int .u8 (b0.toNat:Int),.int .u8 (b1.toNat:Int),.int .u8 (b2.toNat:Int),.int .u8 (b3.toNat:Int),x4,x5,x6] 150∧Below b V W2:=by
 have hcp:=run_copy_str8 V 3 b 0 4 4 (tgS b0 b1 b2 b3) (by show 4≤4;omega) (fun j hj=>by rw [Nat.zero_add,k.cell j];simp;omega) (fun j hj=>k.frozen _)
 have h0:Blk (V.setCell ⟨b,0,none⟩ (.int .u8 (b0.toNat:Int))) b #[.int .u8 (b0.toNat:Int),.int .u8 0,.int .u8 0,.int .u8 0,x4,x5,x6] 150:=k.set 0 _
 have h1:Blk ((V.setCell ⟨b,0,none⟩ (.int .u8 (b0.toNat:Int))).setCell ⟨b,1,none⟩ (.int .u8 (b1.toNat:Int))) b #[.int .u8 (b0.toNat:Int),.int .u8 (b1.toNat:Int),.int .u8 0,.int .u8 0,x4,x5,x6] 150:=h0.set 1 _
 have h2:Blk (((V.setCell ⟨b,0,none⟩ (.int .u8 (b0.toNat:Int))).setCell ⟨b,1,none⟩ (.int .u8 (b1.toNat:Int))).setCell ⟨b,2,none⟩ (.int .u8 (b2.toNat:Int))) b #[.int .u8 (b0.toNat:Int),.int .u8 (b1.toNat:Int),.int .u8 (b2.toNat:Int),.int .u8 0,x4,x5,x6] 150:=h1.set 2 _
 have h3:Blk ((((V.setCell ⟨b,0,none⟩ (.int .u8 (b0.toNat:Int))).setCell ⟨b,1,none⟩ (.int .u8 (b1.toNat:Int))).setCell ⟨b,2,none⟩ (.int .u8 (b2.toNat:Int))).setCell ⟨b,3,none⟩ (.int .u8 (b3.toNat:Int))) b #[.int .u8 (b0.toNat:Int),.int .u8 (b1.toNat:Int),.int .u8 (b2.toNat:Int),.int .u8 (b3.toNat:Int),x4,x5,x6] 150:=h2.set 3 _
 refine ⟨_,hcp,h3,?_⟩
 exact ((((Below.refl b V).setCell (p:=⟨b,0,none⟩) (Nat.le_refl _) (.int .u8 (b0.toNat:Int))).setCell (p:=⟨b,1,none⟩) (Nat.le_refl _) (.int .u8 (b1.toNat:Int))).setCell (p:=⟨b,2,none⟩) (Nat.le_refl _) (.int .u8 (b2.toNat:Int))).setCell (p:=⟨b,3,none⟩) (Nat.le_refl _) (.int .u8 (b3.toNat:Int))
theorem RAt.of {w:World} {b:Nat} {r:Rw} {t:TypeId} (K:Blk w b (rwC r) t):b < w.heap.size∧w.cell? ⟨b,0,none⟩=some (.int .u8 (r.b0.toNat:Int))∧w.cell? ⟨b,1,none⟩=some (.int .u8 (r.b1.toNat:Int))∧w.cell? ⟨b,2,none⟩=some (.int .u8 (r.b2.toNat:Int))∧w.cell? ⟨b,3,none⟩=some (.int .u8 (r.b3.toNat:Int))∧w.cell? ⟨b,4,none⟩=some (.int .i64 r.sum)∧w.cell? ⟨b,5,none⟩=some (.int .i64 r.pl)∧w.cell? ⟨b,6,none⟩=some (.int .i64 r.ln):=
 ⟨K.lt,K.cell 0,K.cell 1,K.cell 2,K.cell 3,K.cell 4,K.cell 5,K.cell 6⟩
def LyR (w:World) (m:List Tab) (n:Nat) (e:Ending) (w':World):Prop:=
 Below w.heap.size w w'∧(((∃x∈m,x.1.size≠4)∧e=.returned (.tuple #[.slice none 0 0,.int .i64 0,.bool false]))∨
  ((∀x∈m,x.1.size=4)∧∃b cap,e=.returned (.tuple #[.slice (some ⟨b,0,none⟩) n cap,.int .i64 (plT m n:Int),.bool (riseM [0,0,0,0] m)])∧RLst w' b (lyRs m n)))
set_option maxRecDepth 8000 in
set_option maxHeartbeats 4000000 in
theorem lay_any (g c n:Nat) (m:List Tab) (w:World) (hn:m.length=n) (h1:1≤n) (h2:n≤32) (hz:∀x∈m,x.1.size≤1073741824∧x.2.size≤1073741824) (hg:g < w.heap.size)
  (hL:∀i x,m[i]?=some x→w.cell? ⟨g,i * 2,none⟩=some (.string x.1)∧w.cell? ⟨g,i * 2+1,none⟩=some (.string x.2)) :
  Calls Tryz.prog 71 #[.slice (some ⟨g,0,none⟩) n c] w (LyR w m n):=by
 have h1':(1:Int)≤(n:Int):=by omega
 have h2':(n:Int)≤32:=by omega
 have CD1:=hide (fun (w:World)=>dsize_any (n:Int) w (by omega) (by omega))
 have CF:=hide (fun (x:Int) (w:World) h0 h1=>filled_any x w h0 h1)
 have HL:=hide hL
 have HN:=hide hn
 have HZ:=hide hz
 have HP:=hide (pl_bd m n (by omega) (fun x hx=>(hz x hx).2))
 have H12:=hide (And.intro h1 h2)
 clear hL hn hz h1 h2
 go_enter Tryz.func71,Tryz.ntmps71
 go_wp2_with (go_at_call 104;refine (CD1.out _).mono ?_;rintro e w' ⟨rfl,hw'⟩;replace hw':=hw'.symm;subst hw')
 go_loopw [5,6,15] (fun vr vs vi wr=>∃k:Nat,vi=.int .i64 k∧vs=.int .i64 (plT m k:Int)∧Hid (k≤n∧RRow wr w.heap.size vr (lyRs m k)∧Below w.heap.size w wr∧∀i x,i < k→m[i]?=some x→x.1.size=4)) (fun _ _ vi _=>n - (intOf vi).toNat)
 case atStart=>
  refine ⟨0,rfl,?_,hide ⟨by omega,RRow.nil _ _,Below.refl _ _,fun i x hi=>by omega⟩⟩
  unfold plT
  rw [bodT,HN.out]
  simp
 case round=>
  obtain ⟨vr,hvr⟩:∃v,v=u5:=⟨_,rfl⟩
  subst hvr
  obtain ⟨k,rfl,rfl,HV⟩:=hrel
  obtain ⟨hk,hT,hb,hall⟩:=HV.out
  have hk0:(0:Int)≤(k:Int):=by omega
  clear HV
  by_cases hlt:k < n
  case neg=>
   obtain rfl:n=k:=by omega
   have hlt':¬(n:Int) < (n:Int):=by omega
   have ha4:∀x∈m,x.1.size=4:=fun x hx=>by
    obtain ⟨i,hi,rfl⟩:=List.getElem_of_mem hx
    exact hall i _ (by have:=HN.out;omega) (List.getElem?_eq_getElem hi)
   obtain ⟨b,cap,hv,hRL⟩:=hT.lst (by rw [lyRs_len];have:=H12.out;omega)
   rw [lyRs_len] at hv
   subst hv
   have hte:=tagsRise_any (lyRs m n) b n cap wr (lyRs_len _ _) (by have:=H12.out;omega) hRL
   rw [rise_ly m n HN.out ha4] at hte
   have CT:=hide hte
   have HRL:=hide hRL
   have HB:=hide hb
   have HA4:=hide ha4
   clear hT hb hall hRL ha4 hte
   go_wp2_with (go_at_call 106;refine CT.out.mono ?_;rintro e w9 ⟨rfl,h9⟩)
   go_ret3
   exact ⟨below_t5 HB.out h9,Or.inr ⟨HA4.out,_,_,rfl,HRL.out.below h9⟩⟩
  have hlt':(k:Int) < (n:Int):=by omega
  obtain ⟨x,hx⟩:∃x,m[k]?=some x:=⟨_,List.getElem?_eq_getElem (by have:=HN.out;omega)⟩
  have hxm:=List.mem_of_getElem? hx
  obtain ⟨c0,c1⟩:=HL.out k x hx
  rw [←hb.cell (p:=⟨g,k * 2,none⟩) hg] at c0
  rw [←hb.cell (p:=⟨g,k * 2+1,none⟩) hg] at c1
  obtain ⟨hz1,hz2⟩:=HZ.out x hxm
  have hxe:m.getD k tz=x:=by rw [List.getD_eq_getElem?_getD,hx];rfl
  have hgw:g < wr.heap.size:=Nat.lt_of_lt_of_le hg hb.size
  have hne:g≠wr.heap.size:=by omega
  obtain ⟨P,hP⟩:∃P,plT m k=P:=⟨_,rfl⟩
  have hPb:(P:Int)≤40000000000:=by have:=HP.out k hk (by have:=HN.out;omega);have:=H12.out;rw [hP] at *;omega
  have hPn:=pl_step m k
  rw [hP,hxe] at hPn
  have hly:lyRw m k=⟨x.1.data.toList.getD 0 0,x.1.data.toList.getD 1 0,x.1.data.toList.getD 2 0,x.1.data.toList.getD 3 0,0,(P:Int),(x.2.size:Int)⟩:=by unfold lyRw;rw [hxe,hP]
  rw [hP]
  obtain ⟨x1,x2⟩:=x
  simp only at c0 c1 hz1 hz2 hPn hly
  have hx2:(x2.size:Int)≤1073741824:=by omega
  have hx1:(x1.size:Int)≤1073741824:=by omega
  by_cases h4:x1.size=4
  case neg=>
   have h4':((x1.size:Int) != 4)=true:=by simp;omega
   have HB:=hide hb
   have HX:=hide (show ∃x∈m,x.1.size≠4 from ⟨_,hxm,h4⟩)
   clear hT hb hall hx hxe hP hPn hly h4 hz1 hz2 hxm hPb
   go_wp2_with fail
   go_ret3
   exact ⟨HB.out.alloc HB.out.size _,Or.inl ⟨HX.out,rfl⟩⟩
  have h4':((x1.size:Int) != 4)=false:=by simp;omega
  obtain ⟨b0,b1,b2,b3,rfl⟩:=four_of h4
  obtain ⟨va,vc,hvs⟩:=hT.shape
  rw [lyRs_len] at hvs
  subst hvs
  have hown:∀j,wr.heap.size≤j→some j≠(Value.slice va k vc).ownBlock:=fun j hj e=>by have:=hT.own_lt e;omega
  have HOWN:=hide hown
  have HT:=hide hT
  have HB:=hide hb
  have HALL:=hide hall
  have HX:=hide hx
  have HPN:=hide hPn
  have HLY:=hide hly
  have HLS:=hide (lyRs_succ m k)
  clear hT hb hall hx hxe hP hPn hly h4 hz1 hz2 hxm hown
  go_wp2_with fail
  rename_i kk0
  have HA:=hide kk0
  clear kk0
  have k0:=(Blk.new wr #[.string (tgS b0 b1 b2 b3),.string x2] 79).below ((Below.refl _ _).alloc (Nat.le_refl _) (.cells #[.int .u8 0,.int .u8 0,.int .u8 0,.int .u8 0,.int .i64 0,.int .i64 (P:Int),.int .i64 (x2.size:Int)] 150))
  have k1:=Blk.new (wr.alloc (.cells #[.string (tgS b0 b1 b2 b3),.string x2] 79)) #[.int .u8 0,.int .u8 0,.int .u8 0,.int .u8 0,.int .i64 0,.int .i64 (P:Int),.int .i64 (x2.size:Int)] 150
  rw [show (wr.alloc (.cells #[.string (tgS b0 b1 b2 b3),.string x2] 79)).heap.size=wr.heap.size+1 by simp] at k1
  have hbv:Below wr.heap.size wr ((wr.alloc (.cells #[.string (tgS b0 b1 b2 b3),.string x2] 79)).alloc (.cells #[.int .u8 0,.int .u8 0,.int .u8 0,.int .u8 0,.int .i64 0,.int .i64 (P:Int),.int .i64 (x2.size:Int)] 150)):=((Below.refl _ _).alloc (Nat.le_refl _) _).alloc (by simp) _
  generalize (wr.alloc (.cells #[.string (tgS b0 b1 b2 b3),.string x2] 79)).alloc (.cells #[.int .u8 0,.int .u8 0,.int .u8 0,.int .u8 0,.int .i64 0,.int .i64 (P:Int),.int .i64 (x2.size:Int)] 150)=V at k0 k1 hbv ⊢
  obtain ⟨W2,hcp,K2,hB2⟩:=copy_tagG V.drew (wr.heap.size+1) b0 b1 b2 b3 _ _ _ k1
  have k02:Blk W2 wr.heap.size #[.string (tgS b0 b1 b2 b3),.string x2] 79:=(show Blk V.drew wr.heap.size #[.string (tgS b0 b1 b2 b3),.string x2] 79 from k0).kept hB2 (by omega)
  have HS1:=hide (show V.drew.cell? ⟨wr.heap.size,0,none⟩=some (.string (tgS b0 b1 b2 b3)) from k0.cell 0)
  have HS2:=hide (show W2.cell? ⟨wr.heap.size,0,none⟩=some (.string (tgS b0 b1 b2 b3)) from k02.cell 0)
  have HCP:=hide hcp
  have hB2':Below wr.heap.size wr W2:=(Below.drew hbv).trans (hB2.mono (by omega))
  have hT2:=HT.out.later hB2'
  have hw2:w.heap.size≤W2.heap.size:=Nat.le_trans HB.out.size hB2'.size
  obtain ⟨gn,cap,w3,hr3,hT3,hB3,hkp⟩:=app_rowG (W:=W2) ⟨b0,b1,b2,b3,0,(P:Int),(x2.size:Int)⟩ hT2 hw2 (LT:=k) ⟨lyRs_len _ _,by have:=H12.out;omega⟩ _ rfl
  have K3:Blk w3 (wr.heap.size+1) (rwC ⟨b0,b1,b2,b3,0,(P:Int),(x2.size:Int)⟩) 150:=by
   have:=hkp (wr.heap.size+1) K2.lt (HOWN.out _ (by omega))
   unfold Blk at *
   rw [this];exact K2
  have HR3:=hide hr3
  have HT3:=hide hT3
  have HB3:=hide ((HB.out.trans (hB2'.mono HB.out.size)).trans hB3)
  obtain ⟨r0,r1,r2,r3,r4,r5,r6,r7⟩:=RAt.of (r:=⟨b0,b1,b2,b3,0,(P:Int),(x2.size:Int)⟩) K2
  have l6:=K3.cell 6
  simp at l6
  simp only at r1 r2 r3 r4 r5 r6 r7
  clear hcp k0 k1 hbv k02 hB2 hB2' K2 K3 hr3 hT3 hB3 c0 c1 hT2 hkp hw2 HT HOWN
  refine wp_region_held_drew (S:=(fun x=>x.cell? ⟨wr.heap.size,0,none⟩=some (.string (tgS b0 b1 b2 b3)))) (by kernel_rfl) (HS1.out) (fun hHeld=>?_)
  refine takeW (i:=0) (d:=28) (v:=.pointer (some ⟨wr.heap.size+1,0,none⟩)) rfl rfl (by kernel_rfl) (by kernel_rfl) (by kernel_rfl) (fun _ _ _ h=>h) (by rfl) ?_ (by assumption) ?_
  ·intro x hSx
   have q0:=hSx
   go_simp
  simp only [Act.put,List.setIfInBounds_toArray,List.set_cons_zero,List.set_cons_succ]
  refine takeW (i:=1) (d:=29) (v:=.slice (some ⟨wr.heap.size+1,0,none⟩) 4 4) rfl rfl (by kernel_rfl) (by kernel_rfl) (by kernel_rfl) (fun _ _ _ h=>h) (by rfl) ?_ (by assumption) ?_
  ·intro x hSx
   have q0:=hSx
   go_simp
  simp only [Act.put,List.setIfInBounds_toArray,List.set_cons_zero,List.set_cons_succ]
  refine takeW (i:=2) (d:=30) (v:=.pointer (some ⟨wr.heap.size,0,none⟩)) rfl rfl (by kernel_rfl) (by kernel_rfl) (by kernel_rfl) (fun _ _ _ h=>h) (by rfl) ?_ (by assumption) ?_
  ·intro x hSx
   have q0:=hSx
   go_simp
  simp only [Act.put,List.setIfInBounds_toArray,List.set_cons_zero,List.set_cons_succ]
  refine takeW (i:=3) (d:=31) (v:=.string (tgS b0 b1 b2 b3)) rfl rfl (by kernel_rfl) (by kernel_rfl) (by kernel_rfl) (fun _ _ _ h=>h) (by rfl) ?_ (by assumption) ?_
  ·intro x hSx
   have q0:=hSx
   go_simp
  simp only [Act.put,List.setIfInBounds_toArray,List.set_cons_zero,List.set_cons_succ]
  refine wpAnyH_ready (rs:=[4]) (by kernel_rfl) (by simp) ?_
  refine AllReadyH.cons rfl (fun K hK=>?_) AllReadyH.nil
  rw [if_pos (by rfl)]
  refine Lib.wp_copy_run _ _ _ _ _ rfl _ _ rfl rfl HCP.out ?_
  refine hK.out _ _ HS2.out (fun hHeld=>?_)
  clear hK K
  refine wpAnyH_done (by kernel_rfl) ?_ _
  refine HA.out _ _ ?_
  clear HA HS1 HS2 HCP
  go_wp2_with (first | (at_builtin;refine Lib.wpList_append_run _ rfl _ _ _ _ rfl _ _ rfl rfl _ _ HR3.out ?_) | (go_at_call 105;refine (CF.out _ _ (by omega) (by omega)).mono ?_;rintro e w' ⟨rfl,hw'⟩;replace hw':=hw'.symm;subst hw'))
  go_roundw
  case rel=>
   refine ⟨k+1,by go_num,?_,hide ⟨by omega,?_,HB3.out,?_⟩⟩
   ·rw [HPN.out];go_num
   ·rw [HLS.out,HLY.out];exact HT3.out
   ·intro i x hi hx
    rcases Nat.lt_or_ge i k with h | h
    ·exact HALL.out i x h hx
    ·obtain rfl:i=k:=by omega
     rw [HX.out] at hx
     injection hx with hx
     rw [←hx];rfl
  case measure=>simp [intOf];omega
end Go.Proofs.YtpaadbnlhapdbaaGreatDoor.S8
namespace Go.Proofs.YtpaadbnlhapdbaaGreatDoor.S8
open Go.RowKit Go.Deep
set_option linter.unusedVariables false
theorem eqS_hd (x:ByteArray):eqS x ⟨#[104,101,97,100]⟩=(x.toList == [104,101,97,100]):=by unfold eqS;rw [Lib.toList_data (⟨#[104,101,97,100]⟩:ByteArray)]
end Go.Proofs.YtpaadbnlhapdbaaGreatDoor.S8
