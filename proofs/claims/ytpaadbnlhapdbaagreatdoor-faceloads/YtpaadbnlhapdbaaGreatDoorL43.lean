/-
  Joined: S8Gf, S8Ra, S8Gr, S8Sq.
-/
import Derived.Laws.Concat
import Derived.Test.YtpaadbnlhapdbaaGreatDoorL03
import Derived.Test.YtpaadbnlhapdbaaGreatDoorL19
import Derived.Test.YtpaadbnlhapdbaaGreatDoorL41
import Derived.Test.YtpaadbnlhapdbaaGreatDoorL42
namespace Go.Proofs.YtpaadbnlhapdbaaGreatDoor.S8
open Go.RowKit Go.Deep
set_option linter.unusedVariables false
theorem holdsS {b0 b1 b2 b3:UInt8} {n:Nat} {B:Bool} (h:(isHd b0 b1 b2 b3 && decide (12≤n))=B) (w:World) (hg:Glo8 w) (h1:n≤140737488355328) :
  Calls Tryz.prog 111 #[.agg (tgC b0 b1 b2 b3),.int .i64 n] w fun e w'=>e=.returned (.bool B)∧Below w.heap.size w w':=by
 have hh:=holds_any b0 b1 b2 b3 (n:Int) w hg (by omega) (by omega)
 rw [show decide ((12:Int)≤(n:Int))=decide (12≤n) by rw [decide_eq_decide];omega,h] at hh
 exact hh
def smS (b0 b1 b2 b3:UInt8) (s:ByteArray):ByteArray:=if (isHd b0 b1 b2 b3 && decide (12≤s.size))=true then s.extract 0 8++⟨#[0,0,0,0]⟩++s.extract 12 s.size else s
theorem repeat_four (w:World):Calls Tryz.prog 143 #[.string ⟨#[0]⟩,.int .i64 4] w fun e w'=>e=.returned (.string ⟨#[0,0,0,0]⟩)∧Below w.heap.size w w':=by
 have h:=Any.strings_Repeat lays105 Builder_Extra_105 ⟨#[0]⟩ 4 w (by decide) (by decide)
 exact h
set_option maxRecDepth 8000 in
set_option maxHeartbeats 1000000 in
theorem summed_any (b0 b1 b2 b3:UInt8) (s:ByteArray) (w:World) (hg:Glo8 w) (hs:s.size≤1000000000) :
  Calls Tryz.prog 109 #[.agg (tgC b0 b1 b2 b3),.string s] w fun e w'=>e=.returned (.string (smS b0 b1 b2 b3 s))∧Below w.heap.size w w':=by
 have hb:=(Below.refl w.heap.size w).alloc (Nat.le_refl _) (.cells (tgC b0 b1 b2 b3) 148)
 have HB:=hide hb
 have HG:=hide (hg.below hb)
 have hs':(s.size:Int)≤1000000000:=by omega
 clear hb hg
 cases hc:(isHd b0 b1 b2 b3 && decide (12≤s.size)) with
 | false=>
  have C:=hide (fun w hg=>holdsS (n:=s.size) hc w hg (by omega))
  have e:smS b0 b1 b2 b3 s=s:=by unfold smS;rw [hc];rfl
  rw [e]
  clear hc e hs
  go_enter Tryz.func109,Tryz.ntmps109
  go_wp2_with (go_at_call 111;refine (C.out _ HG.out).mono ?_;rintro e w1 ⟨rfl,h1⟩;have H1:=hide (below_t5 HB.out h1);clear h1)
  go_ret
  exact ⟨rfl,H1.out⟩
 | true=>
  have C:=hide (fun w hg=>holdsS (n:=s.size) hc w hg (by omega))
  have CR:=hide repeat_four
  have h12:12≤s.size:=by simp at hc;exact hc.2
  have e:smS b0 b1 b2 b3 s=s.extract 0 8++⟨#[0,0,0,0]⟩++s.extract 12 s.size:=by unfold smS;rw [hc];rfl
  rw [e]
  have hA:(s.extract 0 8).size=8:=by rw [ByteArray.size_extract];omega
  have hC:(s.extract 12 s.size).size≤s.size:=by rw [ByteArray.size_extract];omega
  have a1:∀w,(Op.stringOp .add (s.extract 0 8) (⟨#[0,0,0,0]⟩:ByteArray)).run Tryz.prog w=.ok (.string (s.extract 0 8++⟨#[0,0,0,0]⟩)) w:=fun w=>run_string_add_sum (P:=Tryz.prog) w _ _ (by rw [hA];show 8+4≤_;omega)
  have a2:∀w,(Op.stringOp .add (s.extract 0 8++⟨#[0,0,0,0]⟩) (s.extract 12 s.size)).run Tryz.prog w=.ok (.string (s.extract 0 8++⟨#[0,0,0,0]⟩++s.extract 12 s.size)) w:=fun w=>run_string_add_sum (P:=Tryz.prog) w _ _ (by rw [ByteArray.size_append,hA];show 8+4+_≤_;omega)
  have z1:(8:Int)≤(s.size:Int):=by omega
  have z2:(12:Int)≤(s.size:Int):=by omega
  have z3:8≤s.size:=by omega
  generalize hZ:(⟨#[0,0,0,0]⟩:ByteArray)=Z at a1 a2 CR ⊢
  clear hc e hs hA hC hZ
  go_enter Tryz.func109,Tryz.ntmps109
  go_wp2_with (go_at_call 111;refine (C.out _ HG.out).mono ?_;rintro e w1 ⟨rfl,h1⟩;have H1:=hide (below_t5 HB.out h1);clear h1)
  rename_i kk0
  have HA:=hide kk0
  clear kk0
  have HC:=hide (Below.refl w1.heap.size w1)
  go_region_held3 (fun _=>True) (first | trivial | go_keep) ((go_at_call 143;refine (CR.out _).mono ?_;rintro e x ⟨rfl,hbx⟩;replace HC:=hide (below_d HC.out hbx rfl rfl rfl rfl);clear hbx))
  all_goals
   refine HA.out _ _ ?_
   go_wp2
   go_ret
   exact ⟨rfl,below_t5 H1.out (below_d HC.out (Below.refl _ _) rfl rfl rfl rfl)⟩
theorem smS_list (r:Rw) (s:ByteArray):(smS r.b0 r.b1 r.b2 r.b3 s).data.toList=smdT r s.data.toList:=by
 unfold smS smdT
 rw [←Lib.size_eq]
 by_cases hc:(isHd r.b0 r.b1 r.b2 r.b3 && decide (12≤s.size))=true
 ·rw [if_pos hc,if_pos hc]
  rw [ByteArray.data_append,ByteArray.data_append,Array.toList_append,Array.toList_append,slice_list _ _ _ (by simp at hc;omega),slice_list _ _ _ (Nat.le_refl _),List.drop_zero,List.append_assoc]
  rw [List.take_of_length_le (l:=List.drop 12 s.data.toList) (by rw [List.length_drop,←Lib.size_eq];omega)]
 ·rw [if_neg hc,if_neg hc]
theorem smS_size (b0 b1 b2 b3:UInt8) (s:ByteArray):(smS b0 b1 b2 b3 s).size=s.size:=by
 unfold smS
 split
 ·rename_i hc
  simp at hc
  rw [ByteArray.size_append,ByteArray.size_append,ByteArray.size_extract,ByteArray.size_extract]
  show _+4+_=_
  omega
 ·rfl
theorem any_none {rs:List Rw} {f:Rw→Bool} {k:Nat} (h:∀i,i < k→∀q,rs[i]?=some q→f q=false):(rs.take k).any f=false:=by
 rw [List.any_eq_false]
 intro q hq
 obtain ⟨i,hi,rfl⟩:=List.getElem_of_mem hq
 rw [List.length_take] at hi
 rw [h i (by omega) _ (by rw [List.getElem_take];exact List.getElem?_eq_getElem (by omega))]
 simp
theorem any_hit {rs:List Rw} {f:Rw→Bool} {k j:Nat} {q:Rw} (hj:j < k) (hq:rs[j]?=some q) (h:f q=true):(rs.take k).any f=true:=by
 rw [List.any_eq_true]
 refine ⟨q,?_,h⟩
 refine List.mem_of_getElem? (i:=j) ?_
 rw [List.getElem?_take,if_pos hj];exact hq
set_option maxRecDepth 8000 in
set_option maxHeartbeats 4000000 in
theorem fault_any (s:ByteArray) (rs:List Rw) (b n c:Nat) (w:World) (hn:rs.length=n) (hm:n≤32) (hc:n≤c) (hc2:c≤1000000) (hs:s.size≤1048576) (h:RLst w b rs) (hok:∀r∈rs,RwOk r) (hg:Glo8 w) :
  Calls Tryz.prog 114 #[.string s,.slice (some ⟨b,0,none⟩) n c] w fun e w'=>e=.returned (.int .i64 (fauG s.data.toList s.size n [] rs 0))∧Below w.heap.size w w':=by
 obtain ⟨R,hR⟩:∃R,fauG s.data.toList s.size n [] rs 0=R:=⟨_,rfl⟩
 rw [hR]
 have hm':(n:Int)≤32:=by omega
 have hc':(n:Int)≤(c:Int):=by omega
 have hc3:(c:Int)≤1000000:=by omega
 have hs':(s.size:Int)≤1048576:=by omega
 have HS:=hide hs
 have HL:=hide h
 have HN:=hide hn
 have HR:=hide hR
 have HO:=hide hok
 have HGl:=hide hg
 have hb:=h.1
 have CD:=hide (fun w=>dsize_any (n:Int) w (by omega) (by omega))
 clear h hn hR hok hg hs
 go_enter Tryz.func114,Tryz.ntmps114
 go_wp2_with fail
 go_step3
 go_wp2_with fail
 go_step3
 go_wp2_with fail
 go_loopg [5,12] n (fun g ve vi wr=>∃(k:Nat) (E:Int),vi=.int .i64 k∧ve=.int .i64 E∧Hid (g+k=n∧fauG s.data.toList s.size n (rs.take k) (rs.drop k) E=R∧Below w.heap.size w wr))
 case atStart=>exact ⟨0,0,rfl,rfl,hide ⟨by omega,by rw [List.drop_zero];exact HR.out,Below.refl _ _⟩⟩
 case round=>
  obtain ⟨W1,hW1⟩:∃W1,W1=wr:=⟨_,rfl⟩
  subst hW1
  obtain ⟨k,E,rfl,rfl,HV⟩:=hrel
  obtain ⟨hgk,hr,hbw⟩:=HV.out
  have hk0:(0:Int)≤(k:Int):=by omega
  clear HV
  have HBW:=hide hbw
  have HGk:=hide hgk
  by_cases hlt:k < n
  case neg=>
   have hlt':¬(k:Int) < (n:Int):=by omega
   have e:R=E:=by rw [←hr,List.drop_eq_nil_of_le (by have:=HN.out;omega)];rfl
   subst e
   clear hr hbw hgk
   go_wp2_with fail
   go_ret
   exact ⟨rfl,HBW.out⟩
  have hlt':(k:Int) < (n:Int):=by omega
  obtain ⟨r,hx⟩:∃r,rs[k]?=some r:=⟨_,List.getElem?_eq_getElem (by have:=HN.out;omega)⟩
  obtain ⟨g0,g1,g2,g3,g4,g5,g6⟩:=(HL.out.kept hbw hb).2 k r hx
  rw [drop_at rs k hx,fauG,←take_at rs k hx] at hr
  have hrk:RwOk r:=HO.out r (List.mem_of_getElem? hx)
  have hbr:b < W1.heap.size:=Nat.lt_of_lt_of_le hb hbw.size
  have hne1:b≠W1.heap.size:=by omega
  have hGW:=HGl.out.below hbw
  obtain ⟨b0,b1,b2,b3,sum,pl,ln⟩:=r
  simp only at g0 g1 g2 g3 g4 g5 g6
  have HRK:=hide hrk
  obtain ⟨⟨o1,o2⟩,⟨o3,o4⟩,⟨o5,o6⟩⟩:=hrk
  simp only at o1 o2 o3 o4 o5 o6
  obtain ⟨P,rfl⟩:∃P:Nat,pl=(P:Int):=⟨pl.toNat,by omega⟩
  obtain ⟨Q,rfl⟩:∃Q:Nat,ln=(Q:Int):=⟨ln.toNat,by omega⟩
  have CE:=hide (fun w=>end_any ⟨b0,b1,b2,b3,sum,(P:Int),(Q:Int)⟩ w HRK.out)
  have k1:=Blk.new W1 (rC b0 b1 b2 b3 sum (P:Int) (Q:Int)) 150
  have HBV:=hide (show Below w.heap.size w (W1.alloc (.cells (rC b0 b1 b2 b3 sum (P:Int) (Q:Int)) 150)) from hbw.alloc hbw.size _)
  have hLV:=HL.out.kept HBV.out hb
  have hGV:=HGl.out.below HBV.out
  have HX:=hide hr
  have HXX:=hide hx
  clear hr hbw hx hgk hGW
  go_wp2_with fail
  rename_i kk0
  have HA:=hide kk0
  clear kk0
  generalize W1.alloc (.cells (rC b0 b1 b2 b3 sum (P:Int) (Q:Int)) 150)=V at k1 HBV hLV hGV ⊢
  have KS:=hide (show ∀x,Below V.heap.size V x→(fun x=>x.cell? ⟨W1.heap.size,0,none⟩=some (.int .u8 (b0.toNat:Int))∧x.cell? ⟨W1.heap.size,1,none⟩=some (.int .u8 (b1.toNat:Int))∧x.cell? ⟨W1.heap.size,2,none⟩=some (.int .u8 (b2.toNat:Int))∧x.cell? ⟨W1.heap.size,3,none⟩=some (.int .u8 (b3.toNat:Int))∧x.cell? ⟨W1.heap.size,4,none⟩=some (.int .i64 sum)∧x.cell? ⟨W1.heap.size,5,none⟩=some (.int .i64 (P:Int))∧x.cell? ⟨W1.heap.size,6,none⟩=some (.int .i64 (Q:Int))) x from fun x hx=>⟨(k1.below hx).cell 0,(k1.below hx).cell 1,(k1.below hx).cell 2,(k1.below hx).cell 3,(k1.below hx).cell 4,(k1.below hx).cell 5,(k1.below hx).cell 6⟩)
  have HB:=hide (Below.refl V.heap.size V)
  have HLV:=hide hLV
  have HGV:=hide hGV
  have hWV:W1.heap.size < V.heap.size:=k1.lt
  clear k1 hLV hGV g0 g1 g2 g3 g4 g5 g6
  by_cases p1:(P:Int) % 4=0
  case neg=>
   have p1':((P:Int) % 4 != 0)=true:=by simpa using p1
   have e:R=80:=by
    rw [←HX.out,show plB s.size n ⟨b0,b1,b2,b3,sum,(P:Int),(Q:Int)⟩=false by unfold plB;simp only;rw [show decide ((P:Int) % 4=0)=false by simpa using p1];rfl]
    rfl
   subst e
   obtain ⟨c0,c1,c2,c3,c4,c5,c6⟩:=KS.out V (Below.refl _ _)
   clear HX
   go_quiet (fail)
   refine HA.out _ _ ?_
   go_wp2_with fail
   try rw [Exit.noGoto_ret]
   go_ret
   exact ⟨rfl,below_drewN HBV.out _⟩
  have p1':((P:Int) % 4 != 0)=false:=by simpa using p1
  have p1t:(P:Int).tmod 4=0:=by rw [Int.tmod_eq_emod_of_nonneg (by omega)];exact p1
  by_cases p2:(P:Int) < 12+16 * (n:Int)
  case pos=>
   have e:R=80:=by
    rw [←HX.out,show plB s.size n ⟨b0,b1,b2,b3,sum,(P:Int),(Q:Int)⟩=false by unfold plB;simp only;rw [show decide ((12:Int)+16 * (n:Int)≤(P:Int))=false by rw [decide_eq_false_iff_not];omega];simp]
    rfl
   subst e
   obtain ⟨c0,c1,c2,c3,c4,c5,c6⟩:=KS.out V (Below.refl _ _)
   clear HX
   go_quiet ((go_at_call 104;exact Calls.quiet_of_same (CD.out _)))
   refine HA.out _ _ ?_
   go_wp2_with fail
   try rw [Exit.noGoto_ret]
   go_ret
   exact ⟨rfl,below_drewN HBV.out _⟩
  have p2d:decide ((P:Int) < 12+16 * (n:Int))=false:=by simpa using p2
  by_cases p3:(s.size:Int) < (P:Int)+(Q:Int)
  case pos=>
   have p3d:decide ((s.size:Int) < (P:Int)+(Q:Int))=true:=by simpa using p3
   have e:R=80:=by
    rw [←HX.out,show plB s.size n ⟨b0,b1,b2,b3,sum,(P:Int),(Q:Int)⟩=false by unfold plB;simp only;rw [show decide ((P:Int)+(Q:Int)≤(s.size:Int))=false by rw [decide_eq_false_iff_not];omega];simp]
    rfl
   subst e
   clear HX
   go_region_held3 (fun x=>x.cell? ⟨W1.heap.size,0,none⟩=some (.int .u8 (b0.toNat:Int))∧x.cell? ⟨W1.heap.size,1,none⟩=some (.int .u8 (b1.toNat:Int))∧x.cell? ⟨W1.heap.size,2,none⟩=some (.int .u8 (b2.toNat:Int))∧x.cell? ⟨W1.heap.size,3,none⟩=some (.int .u8 (b3.toNat:Int))∧x.cell? ⟨W1.heap.size,4,none⟩=some (.int .i64 sum)∧x.cell? ⟨W1.heap.size,5,none⟩=some (.int .i64 (P:Int))∧x.cell? ⟨W1.heap.size,6,none⟩=some (.int .i64 (Q:Int))) (first | exact KS.out _ (below_d HB.out (Below.refl _ _) rfl rfl rfl rfl) | go_keep) ((first | (go_at_call 115;refine (CE.out _).mono ?_;rintro e x ⟨rfl,hbx⟩;replace HB:=hide (below_d HB.out hbx rfl rfl rfl rfl);clear hbx) | (go_at_call 104;refine (CD.out _).mono ?_;rintro e x ⟨rfl,rfl⟩)))
   all_goals
    refine HA.out _ _ ?_
    go_wp2_with fail
    try rw [Exit.noGoto_ret]
    go_ret
    exact ⟨rfl,HBV.out.trans ((below_d HB.out (Below.refl _ _) rfl rfl rfl rfl).mono HBV.out.size)⟩
  have p3d:decide ((s.size:Int) < (P:Int)+(Q:Int))=false:=by simpa using p3
  have hpl:plB s.size n ⟨b0,b1,b2,b3,sum,(P:Int),(Q:Int)⟩=true:=by
   unfold plB;simp only
   rw [Bool.and_eq_true,Bool.and_eq_true,decide_eq_true_eq,decide_eq_true_eq,decide_eq_true_eq]
   exact ⟨p1,by omega,by omega⟩
  have hr:=HX.out
  rw [hpl,if_pos rfl] at hr
  have HR2:=hide hr
  clear HX hr hpl
  go_region_held3 (fun x=>x.cell? ⟨W1.heap.size,0,none⟩=some (.int .u8 (b0.toNat:Int))∧x.cell? ⟨W1.heap.size,1,none⟩=some (.int .u8 (b1.toNat:Int))∧x.cell? ⟨W1.heap.size,2,none⟩=some (.int .u8 (b2.toNat:Int))∧x.cell? ⟨W1.heap.size,3,none⟩=some (.int .u8 (b3.toNat:Int))∧x.cell? ⟨W1.heap.size,4,none⟩=some (.int .i64 sum)∧x.cell? ⟨W1.heap.size,5,none⟩=some (.int .i64 (P:Int))∧x.cell? ⟨W1.heap.size,6,none⟩=some (.int .i64 (Q:Int))) (first | exact KS.out _ (below_d HB.out (Below.refl _ _) rfl rfl rfl rfl) | go_keep) ((first | (go_at_call 115;refine (CE.out _).mono ?_;rintro e x ⟨rfl,hbx⟩;replace HB:=hide (below_d HB.out hbx rfl rfl rfl rfl);clear hbx) | (go_at_call 104;refine (CD.out _).mono ?_;rintro e x ⟨rfl,rfl⟩)))
  refine HA.out _ _ ?_
  clear HA
  have hkc:(k:Int)≤(c:Int):=by omega
  go_wp2_with fail
  go_loopg [5,40] k (fun g ve vj wi=>∃(j:Nat),vj=.int .i64 j∧ve=.int .i64 E∧Hid (g+j=k∧(∀i,i < j→∀q,rs[i]?=some q→meetB ⟨b0,b1,b2,b3,sum,(P:Int),(Q:Int)⟩ q=false)∧Below V.heap.size V wi))
  case atStart=>exact ⟨0,rfl,rfl,hide ⟨by omega,fun i hi=>by omega,below_d HB.out (Below.refl _ _) rfl rfl rfl rfl⟩⟩
  case round=>
   obtain ⟨j,rfl,rfl,HV⟩:=hrel
   obtain ⟨hgj,hall,hbi⟩:=HV.out
   have hj0:(0:Int)≤(j:Int):=by omega
   clear HV HB
   have HALL:=hide hall
   have HBI:=hide hbi
   have HGj:=hide hgj
   obtain ⟨c0,c1,c2,c3,c4,c5,c6⟩:=KS.out wr hbi
   have hWr:W1.heap.size < wr.heap.size:=Nat.lt_of_lt_of_le hWV hbi.size
   by_cases hjk:j < k
   ·have hjk':(j:Int) < (k:Int):=by omega
    obtain ⟨q,hq⟩:∃q,rs[j]?=some q:=⟨_,List.getElem?_eq_getElem (by have:=HN.out;omega)⟩
    obtain ⟨d0,d1,d2,d3,d4,d5,d6⟩:=(HLV.out.below hbi).2 j q hq
    have hqk:RwOk q:=HO.out q (List.mem_of_getElem? hq)
    have hbq:b < wr.heap.size:=by omega
    have hneq:b≠wr.heap.size:=by omega
    have hneW:W1.heap.size≠wr.heap.size:=by omega
    have CMt:=hide (fun w=>meets_any ⟨b0,b1,b2,b3,sum,(P:Int),(Q:Int)⟩ q w HRK.out hqk)
    have HQ:=hide hq
    have HNEXT:=hide (show Below V.heap.size V (wr.alloc (.cells (rwC q) 150)) from hbi.alloc hbi.size _)
    cases hmt:meetB ⟨b0,b1,b2,b3,sum,(P:Int),(Q:Int)⟩ q with
    | true=>
     have e:R=80:=by rw [←HR2.out,any_hit (f:=fun q=>meetB ⟨b0,b1,b2,b3,sum,(P:Int),(Q:Int)⟩ q) hjk HQ.out hmt];rfl
     subst e
     rw [hmt] at CMt
     obtain ⟨e0,e1,e2,e3,s2,p2',l2⟩:=q
     simp only at d0 d1 d2 d3 d4 d5 d6
     clear hall hbi hgj hq hqk hmt HR2
     go_wp2_with (go_at_call 146;refine (CMt.out _).mono ?_;rintro e w9 ⟨rfl,h9⟩)
     try rw [Exit.noGoto_ret]
     go_ret
     exact ⟨rfl,HBV.out.trans ((below_t5 HNEXT.out h9).mono HBV.out.size)⟩
    | false=>
     rw [hmt] at CMt
     have HALL2:Hid (∀i,i < j+1→∀q,rs[i]?=some q→meetB ⟨b0,b1,b2,b3,sum,(P:Int),(Q:Int)⟩ q=false):=hide fun i hi p hp=>by
      rcases Nat.lt_or_ge i j with h' | h'
      ·exact HALL.out i h' p hp
      ·obtain rfl:i=j:=by omega
       rw [HQ.out] at hp;injection hp with hp;rw [←hp];exact hmt
     obtain ⟨e0,e1,e2,e3,s2,p2',l2⟩:=q
     simp only at d0 d1 d2 d3 d4 d5 d6
     clear hall hbi hgj hq hqk hmt HALL
     go_wp2_with (go_at_call 146;refine (CMt.out _).mono ?_;rintro e w9 ⟨rfl,h9⟩)
     go_roundg (k - (j+1))
     case rel=>exact ⟨j+1,by go_num,rfl,hide ⟨by have:=HGj.out;omega,HALL2.out,below_t5 HNEXT.out h9⟩⟩
     case measure=>have:=HGj.out;omega
   ·have hjk':¬(j:Int) < (k:Int):=by omega
    obtain rfl:j=k:=by omega
    have hr:=HR2.out
    rw [any_none (f:=fun q=>meetB ⟨b0,b1,b2,b3,sum,(P:Int),(Q:Int)⟩ q) HALL.out,if_neg (by simp)] at hr
    have HB:=hide hbi
    obtain ⟨SM,hSM⟩:∃SM,smS b0 b1 b2 b3 (s.extract P (P+Q))=SM:=⟨_,rfl⟩
    have hPQ:((P:Int)+(Q:Int)).toNat=P+Q:=by omega
    have hsz:SM.size≤1048576:=by rw [←hSM,smS_size,ByteArray.size_extract];have:=HS.out;omega
    have CS:=hide (show ∀(t:ByteArray) (x:World),Below V.heap.size V x→t=s.extract P (P+Q)→Calls Tryz.prog 109 #[.agg (tgC b0 b1 b2 b3),.string t] x fun e w'=>e=.returned (.string SM)∧Below x.heap.size x w' from fun t x hbx ht=>by
     have hh:=summed_any b0 b1 b2 b3 t x (HGV.out.below hbx) (by rw [ht,ByteArray.size_extract];have:=HS.out;omega)
     rw [ht,hSM] at hh
     rw [ht]
     exact hh)
    obtain ⟨Tt,hTt⟩:∃Tt:Int,((sumV SM.data.toList:Nat):Int)=Tt:=⟨_,rfl⟩
    have CM:=hide (show ∀w,Calls Tryz.prog 108 #[.string SM] w fun e w'=>e=.returned (.int .i64 Tt)∧w'=w from fun w=>by
     have hh:=sum_any SM w (by omega)
     rw [hTt] at hh
     exact hh)
    have hsm:smB s.data.toList ⟨b0,b1,b2,b3,sum,(P:Int),(Q:Int)⟩=(sum == Tt):=by
     unfold smB dtT
     rw [←hTt,←hSM,smS_list ⟨b0,b1,b2,b3,sum,(P:Int),(Q:Int)⟩,slice_list _ _ _ (by omega)]
     simp only [Int.toNat_natCast]
     rw [show P+Q - P=Q by omega]
    rw [hsm] at hr
    have y1:(P:Int)≤(P:Int)+(Q:Int):=by omega
    have y2:(P:Int)+(Q:Int)≤(s.size:Int):=by omega
    have y3:(0:Int)≤(P:Int):=by omega
    have y4:P≤s.size:=by omega
    have y5:P+Q≤s.size:=by omega
    have y6:P≤P+Q:=by omega
    clear hsm hSM hTt hsz hall hbi hgj HALL HR2 c0 c1 c2 c3 c4 c5 c6
    by_cases hq:sum=Tt
    ·have hq':(sum != Tt)=false:=by simp [hq]
     rw [show (sum == Tt)=true by simp [hq],if_pos rfl] at hr
     have HR3:=hide hr
     have HQQ:=hide hq
     clear hr hq
     go_wp2_with fail
     rename_i kk1
     have HA:=hide kk1
     clear kk1
     go_region_held3 (fun x=>x.cell? ⟨W1.heap.size,0,none⟩=some (.int .u8 (b0.toNat:Int))∧x.cell? ⟨W1.heap.size,1,none⟩=some (.int .u8 (b1.toNat:Int))∧x.cell? ⟨W1.heap.size,2,none⟩=some (.int .u8 (b2.toNat:Int))∧x.cell? ⟨W1.heap.size,3,none⟩=some (.int .u8 (b3.toNat:Int))∧x.cell? ⟨W1.heap.size,4,none⟩=some (.int .i64 sum)∧x.cell? ⟨W1.heap.size,5,none⟩=some (.int .i64 (P:Int))∧x.cell? ⟨W1.heap.size,6,none⟩=some (.int .i64 (Q:Int))) (first | exact KS.out _ (below_d HB.out (Below.refl _ _) rfl rfl rfl rfl) | go_keep) ((first | (go_at_call 115;refine (CE.out _).mono ?_;rintro e x ⟨rfl,hbx⟩;replace HB:=hide (below_d HB.out hbx rfl rfl rfl rfl);clear hbx) | (go_at_call 109;refine (CS.out _ _ (below_d HB.out (Below.refl _ _) rfl rfl rfl rfl) rfl).mono ?_;rintro e x ⟨rfl,hbx⟩;replace HB:=hide (below_d HB.out hbx rfl rfl rfl rfl);clear hbx) | (go_at_call 108;refine (CM.out _).mono ?_;rintro e x ⟨rfl,rfl⟩)))
     all_goals
      refine HA.out _ _ ?_
      go_wp2_with fail
      go_roundg (n - (j+1))
      case rel=>exact ⟨j+1,E,by go_num,rfl,hide ⟨by have:=HGk.out;omega,HR3.out,HBV.out.trans ((below_d HB.out (Below.refl _ _) rfl rfl rfl rfl).mono HBV.out.size)⟩⟩
      case measure=>have:=HGk.out;omega
    ·have hq':(sum != Tt)=true:=by simpa using hq
     rw [show (sum == Tt)=false by simpa using hq,if_neg (by simp)] at hr
     have HR3:=hide hr
     have HQQ:=hide hq
     clear hr hq
     go_wp2_with fail
     rename_i kk1
     have HA:=hide kk1
     clear kk1
     go_region_held3 (fun x=>x.cell? ⟨W1.heap.size,0,none⟩=some (.int .u8 (b0.toNat:Int))∧x.cell? ⟨W1.heap.size,1,none⟩=some (.int .u8 (b1.toNat:Int))∧x.cell? ⟨W1.heap.size,2,none⟩=some (.int .u8 (b2.toNat:Int))∧x.cell? ⟨W1.heap.size,3,none⟩=some (.int .u8 (b3.toNat:Int))∧x.cell? ⟨W1.heap.size,4,none⟩=some (.int .i64 sum)∧x.cell? ⟨W1.heap.size,5,none⟩=some (.int .i64 (P:Int))∧x.cell? ⟨W1.heap.size,6,none⟩=some (.int .i64 (Q:Int))) (first | exact KS.out _ (below_d HB.out (Below.refl _ _) rfl rfl rfl rfl) | go_keep) ((first | (go_at_call 115;refine (CE.out _).mono ?_;rintro e x ⟨rfl,hbx⟩;replace HB:=hide (below_d HB.out hbx rfl rfl rfl rfl);clear hbx) | (go_at_call 109;refine (CS.out _ _ (below_d HB.out (Below.refl _ _) rfl rfl rfl rfl) rfl).mono ?_;rintro e x ⟨rfl,hbx⟩;replace HB:=hide (below_d HB.out hbx rfl rfl rfl rfl);clear hbx) | (go_at_call 108;refine (CM.out _).mono ?_;rintro e x ⟨rfl,rfl⟩)))
     all_goals
      refine HA.out _ _ ?_
      go_wp2_with fail
      go_roundg (n - (j+1))
      case rel=>exact ⟨j+1,81,by go_num,rfl,hide ⟨by have:=HGk.out;omega,HR3.out,HBV.out.trans ((below_d HB.out (Below.refl _ _) rfl rfl rfl rfl).mono HBV.out.size)⟩⟩
      case measure=>have:=HGk.out;omega
theorem or_bytes (x y:Int) (hx0:0≤x) (hx:x < 256) (hy0:0≤y) (hy:y < 256):bits .or .i64 (x * 256) y=x * 256+y:=
 bits_join .i64 62 (by decide) (fun n h0 h1=>by rw [IntKind.wrap_i64];omega) 8 (x * 256) y (by omega) (by omega) (by omega) hy0 (by omega) (by omega)
theorem or_two (x y:Int) (hx0:0≤x) (hx:x < 65536) (hy0:0≤y) (hy:y < 65536):bits .or .i64 (x * 65536) y=x * 65536+y:=
 bits_join .i64 62 (by decide) (fun n h0 h1=>by rw [IntKind.wrap_i64];omega) 16 (x * 65536) y (by omega) (by omega) (by omega) hy0 (by omega) (by omega)
theorem getD_at (s:ByteArray) (j:Nat) (h:j < s.size):s.data.toList.getD j 0=s[j]:=by
 rw [List.getD_eq_getElem?_getD,List.getElem?_eq_getElem (by rw [←Lib.size_eq];exact h)]
 rfl
theorem bt_at (s:ByteArray) (j:Nat) (h:j < s.size):bt s.data.toList j=s[j].toNat:=by unfold bt;rw [getD_at s j h]
def n4 (l:List UInt8) (k:Nat):Nat:=n2 l k * 65536+n2 l (k+2)
theorem n4_lt (l:List UInt8) (k:Nat):n4 l k < 4294967296:=by
 have h1:=n2_lt l k;have h2:=n2_lt l (k+2);unfold n4;omega
theorem num2 (l:List UInt8) (k:Nat) (h:k+2≤l.length):numV ((l.drop k).take 2)=n2 l k:=by
 have e:(l.drop k).take 2=[l[k],l[k+1]]:=by
  rw [List.drop_eq_getElem_cons (by omega),List.take_succ_cons,List.drop_eq_getElem_cons (by omega),List.take_succ_cons,List.take_zero]
 rw [e]
 unfold n2 bt numV
 rw [List.getD_eq_getElem?_getD,List.getD_eq_getElem?_getD,List.getElem?_eq_getElem (by omega),List.getElem?_eq_getElem (by omega),List.foldl_cons,List.foldl_cons,List.foldl_nil]
 simp only [Option.getD_some]
 omega
theorem num4 (l:List UInt8) (k:Nat) (h:k+4≤l.length):numV ((l.drop k).take 4)=n4 l k:=by
 have e:(l.drop k).take 4=[l[k],l[k+1],l[k+2],l[k+3]]:=by
  rw [List.drop_eq_getElem_cons (by omega),List.take_succ_cons,List.drop_eq_getElem_cons (by omega),List.take_succ_cons,List.drop_eq_getElem_cons (by omega),List.take_succ_cons,List.drop_eq_getElem_cons (by omega),List.take_succ_cons,List.take_zero]
 rw [e]
 unfold n4 n2 bt numV
 rw [List.getD_eq_getElem?_getD,List.getD_eq_getElem?_getD,List.getD_eq_getElem?_getD,List.getD_eq_getElem?_getD,List.getElem?_eq_getElem (by omega),List.getElem?_eq_getElem (by omega),List.getElem?_eq_getElem (by omega),List.getElem?_eq_getElem (by omega),List.foldl_cons,List.foldl_cons,List.foldl_cons,List.foldl_cons,List.foldl_nil]
 simp only [Option.getD_some,show k+2+1=k+3 from rfl]
 omega
theorem ru2_any (s:ByteArray) (k:Nat) (z:Int) (w:World) (hz:z=(k:Int)) (h:k+2≤s.size) (hm:s.size≤1073741824) :
  Calls Tryz.prog 37 #[.string s,.int .i64 z] w fun e w'=>e=.returned (.int .i64 ((n2 s.data.toList k:Nat):Int))∧∃n,w'=w.drewN n:=by
 subst hz
 have h0:(k:Int) < (s.size:Int):=by omega
 have h1:(k:Int)+1 < (s.size:Int):=by omega
 have h3:(s.size:Int)≤1073741824:=by omega
 have h00:(0:Int)≤(k:Int):=by omega
 have c1:¬(k:Int) < 0:=by omega
 have c2:¬(s.size:Int) - 2 < (k:Int):=by omega
 have a0:=s[k].toNat_lt
 have a1:=s[k+1].toNat_lt
 have b0:(s[k].toNat:Int)≤255:=by omega
 have b1:(s[k+1].toNat:Int)≤255:=by omega
 have ho:=or_bytes (s[k].toNat:Int) (s[k+1].toNat:Int) (by omega) (by omega) (by omega) (by omega)
 have HU:=hide (show (s[k].toNat:Int) * 256+(s[k+1].toNat:Int)=((n2 s.data.toList k:Nat):Int) by
  unfold n2
  rw [bt_at s k (by omega),bt_at s (k+1) (by omega)]
  omega)
 have k0:IntKind.i64.wrap (s[k].toNat:Int)=(s[k].toNat:Int):=by rw [IntKind.wrap_i64];omega
 have k1:IntKind.i64.wrap (s[k+1].toNat:Int)=(s[k+1].toNat:Int):=by rw [IntKind.wrap_i64];omega
 have k2:IntKind.i64.wrap ((s[k].toNat:Int) * 256)=(s[k].toNat:Int) * 256:=by rw [IntKind.wrap_i64];omega
 have k3:((k:Int)+1).toNat=k+1:=by omega
 have k4:IntKind.i64.wrap ((k:Int)+1)=(k:Int)+1:=by rw [IntKind.wrap_i64];omega
 have h10:(0:Int)≤(k:Int)+1:=by omega
 have hu:=HU.out
 rw [hu] at ho
 clear a0 a1 hu
 go_enter Tryz.func37,Tryz.ntmps37
 go_wp2_with fail
 rename_i q0
 have HA:=hide q0
 clear q0
 go_region_held3 (fun _=>True) (first | trivial | go_keep) ((fail))
 all_goals
  refine HA.out _ _ ?_
  go_wp2
  go_ret
  exact ⟨rfl,1,rfl⟩
theorem ru2_z (s:ByteArray) (k:Nat) (z:Int) (w:World) (hz:z=(k:Int)) (hm:s.size≤1073741824) (hk:k≤1073741824) :
  Calls Tryz.prog 37 #[.string s,.int .i64 z] w fun e w'=>∃y:Nat,e=.returned (.int .i64 (y:Int))∧y≤65535∧(k+2≤s.size→y=n2 s.data.toList k)∧∃n,w'=w.drewN n:=by
 by_cases h:k+2≤s.size
 ·refine (ru2_any s k z w hz h hm).mono ?_
  rintro e w' ⟨h1,h2⟩
  exact ⟨_,h1,by have:=n2_lt s.data.toList k;omega,fun _=>rfl,h2⟩
 ·subst hz
  have h0:¬(k:Int) < 0:=by omega
  have h1:(s.size:Int) - 2 < (k:Int):=by omega
  have h2:(s.size:Int)≤1073741824:=by omega
  have h3:(0:Int)≤(s.size:Int):=by omega
  have HH:=hide h
  clear h
  go_enter Tryz.func37,Tryz.ntmps37
  go_wp2_with fail
  go_ret
  exact ⟨0,rfl,by omega,fun h=>absurd h HH.out,0,rfl⟩
theorem ru4_any (s:ByteArray) (k:Nat) (z:Int) (w:World) (hz:z=(k:Int)) (h:k+4≤s.size) (hm:s.size≤1073741824) :
  Calls Tryz.prog 39 #[.string s,.int .i64 z] w fun e w'=>e=.returned (.int .i64 ((n4 s.data.toList k:Nat):Int))∧∃n,w'=w.drewN n:=by
 subst hz
 have C1:=hide (fun z w (hz:z=(k:Int))=>ru2_any s k z w hz (by omega) hm)
 have C2:=hide (fun z w (hz:z=((k+2:Nat):Int))=>ru2_any s (k+2) z w hz (by omega) hm)
 have h1:=n2_lt s.data.toList k
 have h2:=n2_lt s.data.toList (k+2)
 have HV:Hid (((n4 s.data.toList k:Nat):Int)=((n2 s.data.toList k:Nat):Int) * 65536+((n2 s.data.toList (k+2):Nat):Int)):=hide (by unfold n4;omega)
 generalize n4 s.data.toList k=R at HV ⊢
 generalize n2 s.data.toList k=A at C1 h1 HV
 generalize n2 s.data.toList (k+2)=B at C2 h2 HV
 have ho:=or_two (A:Int) (B:Int) (by omega) (by omega) (by omega) (by omega)
 have hv:=HV.out
 rw [←hv] at ho
 have k0:(0:Int)≤(k:Int):=by omega
 have k1:(k:Int)≤1073741824:=by omega
 have a1:(A:Int)≤65535:=by omega
 have a0:(0:Int)≤(A:Int):=by omega
 clear h1 h2 hv h hm
 go_enter Tryz.func39,Tryz.ntmps39
 go_wp2_with fail
 refine (C1.out _ _ rfl).mono ?_
 rintro e wy ⟨rfl,m1,hy⟩
 subst wy
 go_wp2_with fail
 refine (C2.out _ _ (by omega)).mono ?_
 rintro e wy ⟨rfl,m2,hy⟩
 subst wy
 go_wp2_with fail
 go_ret
 exact ⟨rfl,_,rfl⟩
theorem rtwo_any (x:Int) (w:World) (h0:-4611686018427387904≤x) (h1:x≤4611686018427387904):Calls Tryz.prog 81 #[.int .i64 x] w fun e w'=>e=.returned (.string ⟨(nbT x 2).toArray⟩)∧Below w.heap.size w w':=by
 have CV:(convert 97 9 (.slice (some ⟨w.heap.size,0,none⟩) 2 2)).run Tryz.prog (w.alloc (.cells #[.int .u8 (x / 256 % 256),.int .u8 (x % 256)] 5))=.ok (.string ⟨(nbT x 2).toArray⟩) (w.alloc (.cells #[.int .u8 (x / 256 % 256),.int .u8 (x % 256)] 5)):=by
  refine run_convert_bytes_back (P:=Tryz.prog) _ 97 9 5 ⟨w.heap.size,0,none⟩ 2 (nbT x 2) Tryz.underlying97 Tryz.underlying5 Tryz.underlying9 ?_
  intro j hj
  rw [Go.WideShapes.add_plain,Nat.zero_add,World.cell?_alloc_at _ _ _ _ rfl]
  have e1:=nbB_cell x 1
  have e2:=nbB_cell x 0
  rw [show (256:Int) ^ 1=256 from rfl] at e1
  rw [show (256:Int) ^ 0=1 from rfl,Int.ediv_one] at e2
  unfold bcell at e1 e2
  match j,hj with
  | 0,_=>exact congrArg some e1.symm
  | 1,_=>exact congrArg some e2.symm
 have HB:=hide ((Below.refl w.heap.size w).alloc (Nat.le_refl _) (.cells #[.int .u8 (x / 256 % 256),.int .u8 (x % 256)] 5))
 generalize (⟨(nbT x 2).toArray⟩:ByteArray)=T at CV ⊢
 go_enter Tryz.func81,Tryz.ntmps81
 go_wp2_with fail
 go_ret
 exact ⟨rfl,HB.out⟩
theorem exp_one:∀(n:Fin 33) (q:Fin 6),2 ^ q.val≤n.val→n.val < 2 * 2 ^ q.val→expV n.val=q.val:=by decide +kernel
set_option maxHeartbeats 1000000 in
theorem rpower_any (n:Nat) (w:World) (h1:1≤n) (h2:n≤32) :
  Calls Tryz.prog 80 #[.int .i64 (n:Int)] w fun e w'=>e=.returned (.tuple #[.int .i64 (powV n:Int),.int .i64 (expV n:Int)])∧w'=w:=by
 have hn1:(1:Int)≤(n:Int):=by omega
 have hn2:(n:Int)≤32:=by omega
 go_enter Tryz.func80,Tryz.ntmps80
 go_wp2_with fail
 go_loop [4,5] (fun vp vq=>∃(p q:Nat),vp=.int .i64 (p:Int)∧vq=.int .i64 (q:Int)∧Hid (p=2 ^ q∧p≤n∧q≤5∧1≤p)) (fun vp _=>n - (intOf vp).toNat)
 case atStart=>exact ⟨1,0,rfl,rfl,hide ⟨rfl,h1,by omega,by omega⟩⟩
 case round=>
  obtain ⟨p,q,rfl,rfl,HV⟩:=hrel
  obtain ⟨hp,hpn,hq,hp1⟩:=HV.out
  have HP:=hide hp
  clear HV hp
  have p0:(0:Int)≤(p:Int):=by omega
  have p1:(p:Int)≤32:=by omega
  have q0:(0:Int)≤(q:Int):=by omega
  have q1:(q:Int)≤5:=by omega
  by_cases hlt:2 * p≤n
  ·have hlt':2 * (p:Int)≤(n:Int):=by omega
   have hq4:q+1≤5:=by
    rcases Nat.lt_or_ge q 5 with h | h
    ·omega
    ·exfalso
     have e:q=5:=by omega
     have:=HP.out
     rw [e] at this
     have h32:(2:Nat) ^ 5=32:=by decide
     omega
   have HP2:=hide (show 2 * p=2 ^ (q+1) by rw [Nat.pow_succ,←HP.out];omega)
   go_wp2_with fail
   go_round
   case rel=>exact ⟨2 * p,q+1,by go_num,by go_num,hide ⟨HP2.out,hlt,hq4,by omega⟩⟩
   case measure=>simp [intOf];omega
  ·have hlt':¬2 * (p:Int)≤(n:Int):=by omega
   have e1:expV n=q:=exp_one ⟨n,by omega⟩ ⟨q,by omega⟩ (by simp only;rw [←HP.out];exact hpn) (by simp only;rw [←HP.out];omega)
   have e2:powV n=p:=by unfold powV;rw [e1,←HP.out]
   have E:=hide (And.intro e1 e2)
   clear e1 e2 hlt
   go_wp2_with fail
   go_ret2
   exact ⟨by rw [E.out.1,E.out.2];rfl,rfl⟩
def srT (n:Nat):List UInt8:=nbT (16 * (powV n:Int)) 2++(nbT (expV n:Int) 2++nbT (16 * ((n:Int) - (powV n:Int))) 2)
theorem openT_eq (n:Nat):openT n=[0,1,0,0]++(nbT (n:Int) 2++srT n):=by
 unfold openT opNums srT
 simp [List.flatMap_cons]
set_option maxHeartbeats 1000000 in
theorem rsearch_any (n:Nat) (w:World) (h1:1≤n) (h2:n≤32) :
  Calls Tryz.prog 38 #[.int .i64 (n:Int),.int .i64 16] w fun e w'=>e=.returned (.string ⟨(srT n).toArray⟩)∧Below w.heap.size w w':=by
 obtain ⟨hb,he5,hp1,hp2,hp3⟩:=exp_bd ⟨n,by omega⟩ h1
 simp only at hb he5 hp1 hp2 hp3
 have CP:=hide (rpower_any n w h1 h2)
 have hs:srT n=nbT (16 * (powV n:Int)) 2++(nbT (expV n:Int) 2++nbT (16 * ((n:Int) - (powV n:Int))) 2):=rfl
 generalize powV n=p at CP hp1 hp2 hp3 hs
 generalize expV n=q at CP he5 hs
 have C1:=hide (fun w=>rtwo_any (16 * (p:Int)) w (by omega) (by omega))
 have C2:=hide (fun w=>rtwo_any (q:Int) w (by omega) (by omega))
 have C3:=hide (fun w=>rtwo_any (16 * ((n:Int) - (p:Int))) w (by omega) (by omega))
 have a1:∀w,(Op.stringOp .add (⟨(nbT (16 * (p:Int)) 2).toArray⟩:ByteArray) (⟨(nbT (q:Int) 2).toArray⟩:ByteArray)).run Tryz.prog w=.ok (.string ⟨(nbT (16 * (p:Int)) 2++nbT (q:Int) 2).toArray⟩) w:=fun w=>by
  have:=run_string_add_sum (P:=Tryz.prog) w (⟨(nbT (16 * (p:Int)) 2).toArray⟩:ByteArray) (⟨(nbT (q:Int) 2).toArray⟩:ByteArray) (by show 2+2≤_;omega)
  rw [this];rfl
 have a2:∀w,(Op.stringOp .add (⟨(nbT (16 * (p:Int)) 2++nbT (q:Int) 2).toArray⟩:ByteArray) (⟨(nbT (16 * ((n:Int) - (p:Int))) 2).toArray⟩:ByteArray)).run Tryz.prog w=.ok (.string ⟨(srT n).toArray⟩) w:=fun w=>by
  have:=run_string_add_sum (P:=Tryz.prog) w (⟨(nbT (16 * (p:Int)) 2++nbT (q:Int) 2).toArray⟩:ByteArray) (⟨(nbT (16 * ((n:Int) - (p:Int))) 2).toArray⟩:ByteArray) (by show 4+2≤_;omega)
  rw [this,hs];rfl
 generalize (⟨(nbT (16 * (p:Int)) 2).toArray⟩:ByteArray)=T1 at C1 a1
 generalize (⟨(nbT (q:Int) 2).toArray⟩:ByteArray)=T2 at C2 a1
 generalize (⟨(nbT (16 * (p:Int)) 2++nbT (q:Int) 2).toArray⟩:ByteArray)=T12 at a1 a2
 generalize (⟨(nbT (16 * ((n:Int) - (p:Int))) 2).toArray⟩:ByteArray)=T3 at C3 a2
 generalize (⟨(srT n).toArray⟩:ByteArray)=TT at a2 ⊢
 have hn1:(1:Int)≤(n:Int):=by omega
 have hn2:(n:Int)≤32:=by omega
 have p1':(1:Int)≤(p:Int):=by omega
 have p2':(p:Int)≤(n:Int):=by omega
 clear hs hb he5 hp1 hp2 hp3 h1 h2
 go_enter Tryz.func38,Tryz.ntmps38
 go_wp2_with fail
 refine CP.out.mono ?_
 rintro e wy ⟨rfl,hy⟩
 subst wy
 go_wp2_with fail
 refine (C1.out _).mono ?_
 rintro e w1 ⟨rfl,hb1⟩
 have B1:=hide hb1
 clear hb1
 go_wp2_with fail
 refine (C2.out _).mono ?_
 rintro e w2 ⟨rfl,hb2⟩
 have B2:=hide (below_t5 B1.out hb2)
 clear hb2
 go_wp2_with fail
 refine (C3.out _).mono ?_
 rintro e w3 ⟨rfl,hb3⟩
 have B3:=hide (below_t5 B2.out hb3)
 clear hb3
 go_wp2_with fail
 go_ret
 exact ⟨rfl,B3.out⟩
abbrev tgS (b0 b1 b2 b3:UInt8):ByteArray:=⟨#[b0,b1,b2,b3]⟩
set_option maxHeartbeats 2000000 in
theorem rtag_any (b0 b1 b2 b3:UInt8) (w:World) :
  Calls Tryz.prog 40 #[.string (tgS b0 b1 b2 b3)] w fun e w'=>e=.returned (.bool (gdB b0 && (gdB b1 && (gdB b2 && gdB b3))))∧w'=w:=by
 obtain ⟨T,hT⟩:∃T,T=tgS b0 b1 b2 b3:=⟨_,rfl⟩
 have hz:T.size=4:=by rw [hT];rfl
 have g:∀j (h:j < 4),T[j]'(by omega)=[b0,b1,b2,b3][j]:=by
  subst hT
  intro j h
  match j,h with
  | 0,_=>rfl
  | 1,_=>rfl
  | 2,_=>rfl
  | 3,_=>rfl
 rw [←hT]
 have hz':(T.size:Int)=4:=by omega
 obtain ⟨R,hR⟩:∃R,(gdB b0 && (gdB b1 && (gdB b2 && gdB b3)))=R:=⟨_,rfl⟩
 have hR':(([b0,b1,b2,b3].drop 0).all gdB)=R:=by rw [←hR];simp [List.all_cons]
 rw [hR]
 have HR:=hide hR'
 have HG:=hide g
 clear g hR hR' hT
 go_enter Tryz.func40,Tryz.ntmps40
 go_wp2_with fail
 go_loop [3] (fun vi=>∃(k:Nat),vi=.int .i64 (k:Int)∧Hid (k≤4∧([b0,b1,b2,b3].drop k).all gdB=R)) (fun vi=>4 - (intOf vi).toNat)
 case atStart=>exact ⟨0,rfl,hide ⟨by omega,HR.out⟩⟩
 case round=>
  obtain ⟨k,rfl,HV⟩:=hrel
  obtain ⟨hk,hr⟩:=HV.out
  have hk0:(0:Int)≤(k:Int):=by omega
  clear HV
  by_cases hlt:k < 4
  case neg=>
   have hlt':¬(k:Int) < 4:=by omega
   have e:R=true:=by rw [←hr,show k=4 by omega];rfl
   subst e
   clear hr hlt
   go_wp2_with fail
   go_ret
   exact ⟨rfl,rfl⟩
  have hlt':(k:Int) < 4:=by omega
  have hkz:k < T.size:=by omega
  have hkz':(k:Int) < (T.size:Int):=by omega
  have hgk:=HG.out k hlt
  have hd:[b0,b1,b2,b3].drop k=[b0,b1,b2,b3][k] :: [b0,b1,b2,b3].drop (k+1):=List.drop_eq_getElem_cons (by simpa using hlt)
  rw [hd,List.all_cons,←hgk] at hr
  have hc:=T[k].toNat_lt
  have hc':(T[k].toNat:Int)≤255:=by omega
  have HRR:=hide hr
  clear hr hgk hd hc
  by_cases q1:(T[k].toNat:Int) < 32
  ·have e:R=false:=by rw [←HRR.out,gd_no (Or.inl q1)];rfl
   subst e
   clear HRR
   go_wp2_with fail
   go_ret
   exact ⟨rfl,rfl⟩
  by_cases q2:(126:Int) < (T[k].toNat:Int)
  ·have e:R=false:=by rw [←HRR.out,gd_no (Or.inr q2)];rfl
   subst e
   clear HRR
   go_wp2_with fail
   go_ret
   exact ⟨rfl,rfl⟩
  have hr2:=HRR.out
  rw [gd_yes q1 q2,Bool.true_and] at hr2
  have HR2:=hide hr2
  clear HRR hr2
  go_wp2_with fail
  go_round
  case rel=>exact ⟨k+1,by go_num,hide ⟨by omega,HR2.out⟩⟩
  case measure=>simp [intOf];omega
theorem hd_eq (b0 b1 b2 b3:UInt8):((tgS b0 b1 b2 b3).toList == [104,101,97,100])=isHd b0 b1 b2 b3:=by
 rw [Lib.toList_data]
 show ([b0,b1,b2,b3] == [104,101,97,100])=_
 unfold isHd
 simp [List.cons_beq_cons,Bool.and_assoc]
set_option maxRecDepth 8000 in
set_option maxHeartbeats 1000000 in
theorem rowned_any (b0 b1 b2 b3:UInt8) (s:ByteArray) (w:World) (hs:s.size≤1000000000) :
  Calls Tryz.prog 42 #[.string (tgS b0 b1 b2 b3),.string s] w fun e w'=>e=.returned (.string (smS b0 b1 b2 b3 s))∧∃n,w'=w.drewN n:=by
 have hq:=hd_eq b0 b1 b2 b3
 have hs':(s.size:Int)≤1000000000:=by omega
 obtain ⟨T,hT⟩:∃T,T=tgS b0 b1 b2 b3:=⟨_,rfl⟩
 rw [←hT] at hq ⊢
 clear hT
 cases hi:isHd b0 b1 b2 b3 with
 | false=>
  rw [hi] at hq
  have e:smS b0 b1 b2 b3 s=s:=by unfold smS;rw [hi];rfl
  rw [e]
  clear hi e hs
  go_enter Tryz.func42,Tryz.ntmps42
  go_wp2_with fail
  go_ret
  exact ⟨rfl,0,rfl⟩
 | true=>
  rw [hi] at hq
  by_cases h12:12≤s.size
  case neg=>
   have h12':¬(12:Int)≤(s.size:Int):=by omega
   have e:smS b0 b1 b2 b3 s=s:=by unfold smS;rw [hi,show decide (12≤s.size)=false by simpa using h12];rfl
   rw [e]
   clear hi e hs h12
   go_enter Tryz.func42,Tryz.ntmps42
   go_wp2_with fail
   go_ret
   exact ⟨rfl,0,rfl⟩
  have h12':(12:Int)≤(s.size:Int):=by omega
  have e:smS b0 b1 b2 b3 s=s.extract 0 8++⟨#[0,0,0,0]⟩++s.extract 12 s.size:=by unfold smS;rw [hi,show decide (12≤s.size)=true by simpa using h12];rfl
  rw [e]
  have hA:(s.extract 0 8).size=8:=by rw [ByteArray.size_extract];omega
  have hC:(s.extract 12 s.size).size≤s.size:=by rw [ByteArray.size_extract];omega
  have a1:∀w,(Op.stringOp .add (s.extract 0 8) (⟨#[0,0,0,0]⟩:ByteArray)).run Tryz.prog w=.ok (.string (s.extract 0 8++⟨#[0,0,0,0]⟩)) w:=fun w=>run_string_add_sum (P:=Tryz.prog) w _ _ (by rw [hA];show 8+4≤_;omega)
  have a2:∀w,(Op.stringOp .add (s.extract 0 8++⟨#[0,0,0,0]⟩) (s.extract 12 s.size)).run Tryz.prog w=.ok (.string (s.extract 0 8++⟨#[0,0,0,0]⟩++s.extract 12 s.size)) w:=fun w=>run_string_add_sum (P:=Tryz.prog) w _ _ (by rw [ByteArray.size_append,hA];show 8+4+_≤_;omega)
  have z1:(8:Int)≤(s.size:Int):=by omega
  have z3:8≤s.size:=by omega
  generalize s.extract 0 8++⟨#[0,0,0,0]⟩++s.extract 12 s.size=R2 at a2 ⊢
  generalize s.extract 0 8++⟨#[0,0,0,0]⟩=R1 at a1 a2
  clear hi e hs hA hC
  go_enter Tryz.func42,Tryz.ntmps42
  go_wp2_with fail
  rename_i kk0
  have HA:=hide kk0
  clear kk0
  go_region_held3 (fun _=>True) (first | trivial | go_keep) ((fail))
  all_goals
   refine HA.out _ _ ?_
   go_wp2
   go_ret
   exact ⟨rfl,1,rfl⟩
end Go.Proofs.YtpaadbnlhapdbaaGreatDoor.S8
namespace Go.Proofs.YtpaadbnlhapdbaaGreatDoor.S8
open Go.RowKit Go.Deep
set_option linter.unusedVariables false
set_option linter.unusedSimpArgs false
theorem TbRow.later {w w':World} {B:Nat} {v:Value} {l:List (ByteArray × ByteArray)} (h:TbRow w B v l) (hb:Below w.heap.size w w'):TbRow w' B v l:=ownsRow_kept h (fun k _ hk=>hb.block k hk)
theorem app_tab2 {W:World} {B:Nat} {v:Value} {l:List (ByteArray × ByteArray)} {LT:Nat} (x:ByteArray × ByteArray) (h:TbRow W B v l) (hB:B≤W.heap.size) (hl:l.length=LT∧LT≤1000) (H:Nat) (hH:W.heap.size=H) :
  ∃g cap w2,(Builtin.append_ #[47,47] 47 #[v,.slice (some ⟨H,0,none⟩) 1 1]).run Tryz.prog (W.alloc (.cells #[.string x.1,.string x.2] 79))=.ok (.slice (some ⟨g,0,none⟩) (LT+1) cap) w2∧TbRow w2 B (.slice (some ⟨g,0,none⟩) (LT+1) cap) (l++[x])∧Below B W w2∧(∀k,k < W.heap.size→some k≠v.ownBlock→w2.heap[k]?=W.heap[k]?):=by
 obtain ⟨hLT,hl⟩:=hl
 subst hLT
 obtain ⟨i0,hi,hz0,hz1,hz2⟩:=info_parts5 info_tab
 subst hH
 obtain ⟨g,cap,w2,hr,ho,hg,_,_⟩:=run_append_lies (P:=Tryz.prog) (W.alloc (.cells #[.string x.1,.string x.2] 79)) 47 47 B 79 i0 _ 2 32 Tryz.underlying47 hi hz0 hz1 hz2 rfl (by decide) v l.length (tcs l) (World.ownsRow.alloc h _) ⟨W.heap.size,0,none⟩ 1 1 [.string x.1,.string x.2] (by simp)
  (fun j u hu=>by rw [Go.WideShapes.add_plain,Nat.zero_add,World.cell?_alloc_at _ _ _ _ rfl];simpa using hu) (fun u hu=>by simp at hu;rcases hu with rfl | rfl <;> rfl) (by decide) (by unfold maxLen;omega) (by omega) (by simp;omega) (W.heap.size+1) (by simp)
 refine ⟨g,cap,w2,hr,?_,((Below.refl B W).alloc hB _).grown hg (by simp;omega) fun k hk'=>(World.ownsRow.lt h k hk').1,fun k hk hne=>?_⟩
 ·unfold TbRow
  have e:tcs (l++[x])=tcs l++[.string x.1,.string x.2]:=by unfold tcs;simp
  rw [e,List.length_append]
  exact ho
 ·rw [hg.block k (by simp;omega) (fun e=>hne e)]
  show (W.heap.push _)[k]?=_
  rw [Array.getElem?_push,if_neg (by omega)]
theorem TbRow.own_lt {w:World} {B k:Nat} {v:Value} {l:List (ByteArray × ByteArray)} (h:TbRow w B v l) (e:some k=v.ownBlock):k < w.heap.size:=(World.ownsRow.lt h k e.symm).2
theorem TbRow.shape {w:World} {B:Nat} {v:Value} {l:List (ByteArray × ByteArray)} (h:TbRow w B v l):∃a cap,v=.slice a l.length cap:=by
 obtain ⟨_,⟨h0,h1⟩ | ⟨g,cap,cur,hv,_⟩⟩:=h
 ·exact ⟨none,0,by rw [h0,h1]⟩
 ·exact ⟨_,cap,hv⟩
theorem okG_pl (N n:Nat):∀(rs ds:List Rw),okG N n ds rs=true→∀r∈rs,plB N n r=true
 | [],ds,_,r,hr=>by simp at hr
 | q :: rs,ds,h,r,hr=>by
  rw [okG,Bool.and_eq_true,Bool.and_eq_true] at h
  rcases List.mem_cons.1 hr with rfl | hr
  ·exact h.1
  ·exact okG_pl N n rs _ h.2.2 r hr
theorem fau_pl {l:List UInt8} {N n:Nat} {rs:List Rw} (h:fauG l N n [] rs 0=0):∀r∈rs,r.pl+r.ln≤N:=by
 rw [fauG_eq] at h
 cases e:okG N n [] rs with
 | false=>rw [e] at h;simp at h
 | true=>
  intro r hr
  have h2:=okG_pl N n rs [] e r hr
  unfold plB at h2
  rw [Bool.and_eq_true,Bool.and_eq_true,decide_eq_true_eq,decide_eq_true_eq,decide_eq_true_eq] at h2
  exact h2.2.2
def RdR (w:World) (s:ByteArray) (e:Ending) (w':World):Prop:=∃v,e=.returned (.tuple #[v,.int .i64 (errV s.data.toList)])∧TbRow w' w.heap.size v (tabV s)∧Below w.heap.size w w'
theorem tabV_no {s:ByteArray} (h:errV s.data.toList≠0):tabV s=[]:=by unfold tabV;rw [if_neg h]
set_option maxRecDepth 8000 in
set_option maxHeartbeats 4000000 in
theorem read_gen (s:ByteArray) (w:World) (hg:Glo8 w) (hs:s.size≤9223372036854775807):Calls Tryz.prog 73 #[.string s] w (RdR w s):=by
 have hlen:s.data.toList.length=s.size:=(Lib.size_eq s).symm
 have hs9:(s.size:Int)≤9223372036854775807:=by omega
 by_cases hb0:1048576 < s.size
 ·have hb':(1048576:Int) < (s.size:Int):=by omega
  have e:errV s.data.toList=2:=by unfold errV;rw [if_pos (by omega)]
  have HE:=hide e
  have HT:=hide (tabV_no (s:=s) (by rw [e];decide))
  clear hlen hs hb0 e
  go_enter Tryz.func73,Tryz.ntmps73
  go_wp2_with fail
  go_ret2
  exact ⟨_,by rw [HE.out];rfl,by rw [HT.out];exact TbRow.nil _ _,Below.refl _ _⟩
 have hb':¬(1048576:Int) < (s.size:Int):=by omega
 have hs1:(s.size:Int)≤1048576:=by omega
 have CDR:=hide (directory_any s w (by omega))
 have HS:=hide (show s.size≤1048576 by omega)
 have HLEN0:=hide hlen
 obtain ⟨n,hn⟩:∃n,nTab s.data.toList=n:=⟨_,rfl⟩
 cases hH:hdB s.data.toList with
 | false=>
  have e:errV s.data.toList=80:=by unfold errV;rw [if_neg (by omega),hH];rfl
  have HE:=hide e
  have HT:=hide (tabV_no (s:=s) (by rw [e];decide))
  have HH:=hide hH
  clear hlen hs hb0 e hH
  go_enter Tryz.func73,Tryz.ntmps73
  go_wp2_with fail
  refine CDR.out.mono ?_
  intro e w1 h1
  unfold DirR at h1
  rw [HH.out,if_neg (by simp)] at h1
  obtain ⟨rfl,hb1⟩:=h1
  have HB1:=hide hb1
  clear hb1
  go_wp2_with fail
  go_ret2
  exact ⟨_,by rw [HE.out];rfl,by rw [HT.out];exact TbRow.nil _ _,HB1.out⟩
 | true=>
 have h32:n≤32:=by
  unfold hdB at hH
  rw [Bool.and_eq_true,Bool.and_eq_true,Bool.and_eq_true,decide_eq_true_eq,decide_eq_true_eq,decide_eq_true_eq,hn] at hH
  exact hH.2.2.1
 have h32':(n:Int)≤32:=by omega
 cases hR:riseB [0,0,0,0] (rowsV s.data.toList n) with
 | false=>
  have e:errV s.data.toList=80:=by unfold errV;rw [if_neg (by omega),hH,hn,hR];rfl
  have HE:=hide e
  have HT:=hide (tabV_no (s:=s) (by rw [e];decide))
  have HH:=hide hH
  have HN:=hide hn
  have HR:=hide hR
  clear hlen hs hb0 e hH hn hR
  go_enter Tryz.func73,Tryz.ntmps73
  go_wp2_with fail
  refine CDR.out.mono ?_
  intro e w1 h1
  unfold DirR at h1
  rw [HH.out,if_pos rfl,HN.out,HR.out] at h1
  obtain ⟨b,rfl,hl1,hb1⟩:=h1
  have HB1:=hide hb1
  clear hb1 hl1
  go_wp2_with fail
  go_ret2
  exact ⟨_,by rw [HE.out];rfl,by rw [HT.out];exact TbRow.nil _ _,HB1.out⟩
 | true=>
 obtain ⟨F,hF⟩:∃F,fauG s.data.toList s.size n [] (rowsV s.data.toList n) 0=F:=⟨_,rfl⟩
 have eE:errV s.data.toList=F:=by unfold errV;rw [if_neg (by omega),hH,hn,hR,hlen,hF];rfl
 have CF:=hide (fun b w1 (hL:RLst w1 b (rowsV s.data.toList n)) (hG:Glo8 w1)=>fault_any s (rowsV s.data.toList n) b n n w1 (rowsV_len _ _) h32 (Nat.le_refl _) (by omega) (by omega) hL (fun r hr=>by
  unfold rowsV at hr
  obtain ⟨i,_,rfl⟩:=List.mem_map.1 hr
  exact rwAt_ok _ _) hG)
 rw [hF] at CF
 have HE:=hide eE
 have HH:=hide hH
 have HN:=hide hn
 have HRs:=hide hR
 have HG:=hide hg
 by_cases hF0:F=0
 case neg=>
  have hF1:(F != 0)=true:=by simpa using hF0
  have HT:=hide (tabV_no (s:=s) (by rw [eE];exact hF0))
  clear hlen hs hb0 eE hH hn hR hF hg hF0
  go_enter Tryz.func73,Tryz.ntmps73
  go_wp2_with fail
  refine CDR.out.mono ?_
  intro e w1 h1
  unfold DirR at h1
  rw [HH.out,if_pos rfl,HN.out,HRs.out] at h1
  obtain ⟨b,rfl,hl1,hb1⟩:=h1
  have HB1:=hide hb1
  have CF1:=hide (CF.out b w1 hl1 (HG.out.below hb1))
  clear hb1 hl1
  go_wp2_with fail
  refine CF1.out.mono ?_
  rintro e w2 ⟨rfl,hb2⟩
  have HB2:=hide (below_t5 HB1.out hb2)
  clear hb2
  go_wp2_with fail
  go_ret2
  exact ⟨_,by rw [HE.out];rfl,by rw [HT.out];exact TbRow.nil _ _,HB2.out⟩
 subst hF0
 have HPL:=hide (fau_pl hF)
 have HTV:Hid (tabV s=(rowsV s.data.toList n).map (tbOf s)):=hide (by unfold tabV;rw [if_pos eE,hn])
 have HNL:=hide (rowsV_len s.data.toList n)
 clear hlen hs hb0 eE hH hn hR hF hg
 go_enter Tryz.func73,Tryz.ntmps73
 go_wp2_with fail
 refine CDR.out.mono ?_
 intro e w1 h1
 unfold DirR at h1
 rw [HH.out,if_pos rfl,HN.out,HRs.out] at h1
 obtain ⟨b,rfl,hl1,hb1⟩:=h1
 have HB1:=hide hb1
 have HL1:=hide hl1
 have CF1:=hide (CF.out b w1 hl1 (HG.out.below hb1))
 clear hb1 hl1
 go_wp2_with fail
 refine CF1.out.mono ?_
 rintro e w2 ⟨rfl,hb2⟩
 have HB2:=hide (below_t5 HB1.out hb2)
 have HL2:=hide (HL1.out.below hb2)
 have hblt:b < w2.heap.size:=HL2.out.1
 clear hb2
 go_wp2_with fail
 go_loopw [7,28] (fun vt vi wr=>∃k:Nat,vi=.int .i64 k∧Hid (k≤n∧TbRow wr w2.heap.size vt (((rowsV s.data.toList n).take k).map (tbOf s))∧Below w2.heap.size w2 wr)) (fun _ vi _=>n - (intOf vi).toNat)
 case atStart=>exact ⟨0,rfl,hide ⟨by omega,TbRow.nil _ _,Below.refl _ _⟩⟩
 case round=>
  obtain ⟨W1,hW1⟩:∃W1,W1=wr:=⟨_,rfl⟩
  subst hW1
  obtain ⟨vt,hvt0⟩:∃vt,vt=u7:=⟨_,rfl⟩
  subst hvt0
  obtain ⟨k,rfl,HV⟩:=hrel
  obtain ⟨hk,hT,hbw⟩:=HV.out
  have hk0:(0:Int)≤(k:Int):=by omega
  clear HV
  by_cases hlt:k < n
  case neg=>
   have hlt':¬(k:Int) < (n:Int):=by omega
   rw [List.take_of_length_le (by rw [HNL.out];omega),←HTV.out] at hT
   have HT:=hide (hT.mono HB2.out.size)
   have HBW:=hide (HB2.out.trans (hbw.mono HB2.out.size))
   clear hT hbw hlt
   go_wp2_with fail
   go_ret2
   exact ⟨_,by rw [HE.out];rfl,HT.out,HBW.out⟩
  have hlt':(k:Int) < (n:Int):=by omega
  obtain ⟨r,hx⟩:∃r,(rowsV s.data.toList n)[k]?=some r:=⟨_,List.getElem?_eq_getElem (by rw [HNL.out];exact hlt)⟩
  obtain ⟨g0,g1,g2,g3,g4,g5,g6⟩:=(HL2.out.below hbw).2 k r hx
  have hrk:RwOk r:=by
   have:=List.mem_of_getElem? hx
   unfold rowsV at this
   obtain ⟨i,_,rfl⟩:=List.mem_map.1 this
   exact rwAt_ok _ _
  have hpl:=HPL.out r (List.mem_of_getElem? hx)
  have hbr:b < W1.heap.size:=Nat.lt_of_lt_of_le hblt hbw.size
  have hne1:b≠W1.heap.size:=by omega
  have HTK:=hide (take_at (rowsV s.data.toList n) k hx)
  obtain ⟨TG,hTG⟩:∃TG:ByteArray,(⟨(tgT r).toArray⟩:ByteArray)=TG:=⟨_,rfl⟩
  have HTB:=hide (show tbOf s r=(TG,s.extract r.pl.toNat (r.pl.toNat+r.ln.toNat)) by unfold tbOf;rw [hTG])
  have HTG:=hide hTG
  obtain ⟨b0,b1,b2,b3,sum,pl,ln⟩:=r
  simp only at g0 g1 g2 g3 g4 g5 g6 hpl
  have HRK:=hide hrk
  obtain ⟨⟨o1,o2⟩,⟨o3,o4⟩,⟨o5,o6⟩⟩:=hrk
  simp only at o1 o2 o3 o4 o5 o6
  obtain ⟨P,rfl⟩:∃P:Nat,pl=(P:Int):=⟨pl.toNat,by omega⟩
  obtain ⟨Q,rfl⟩:∃Q:Nat,ln=(Q:Int):=⟨ln.toNat,by omega⟩
  have CE:=hide (fun w=>end_any ⟨b0,b1,b2,b3,sum,(P:Int),(Q:Int)⟩ w HRK.out)
  have CC:=hide (fun (t:ByteArray) (w:World) (ht:t=s.extract P (P+Q))=>clone_any t w (by rw [ht,ByteArray.size_extract];have:=HS.out;omega))
  have k1:=Blk.new W1 (rC b0 b1 b2 b3 sum (P:Int) (Q:Int)) 150
  have HB1V:=hide (show Below W1.heap.size W1 (W1.alloc (.cells (rC b0 b1 b2 b3 sum (P:Int) (Q:Int)) 150)) from (Below.refl _ _).alloc (Nat.le_refl _) _)
  have HT1:=hide hT
  have HBW:=hide hbw
  obtain ⟨LT,hLT⟩:∃LT,(((rowsV s.data.toList n).take k).map (tbOf s)).length=LT:=⟨_,rfl⟩
  have HLEN:=hide (show (((rowsV s.data.toList n).take k).map (tbOf s)).length=LT∧LT≤1000 from ⟨hLT,by rw [←hLT,List.length_map,List.length_take];omega⟩)
  have hPQ:((P:Int)+(Q:Int)).toNat=P+Q:=by omega
  have y1:(P:Int)≤(P:Int)+(Q:Int):=by omega
  have y3:(0:Int)≤(P:Int):=by omega
  have y4:P≤s.size:=by omega
  have y5:P+Q≤s.size:=by omega
  have y6:P≤P+Q:=by omega
  clear hT hbw hx hTG hLT
  go_wp2_with fail
  rename_i kk0
  have HA:=hide kk0
  clear kk0
  have HW2:Hid (w2.heap.size≤(W1.alloc (.cells (rC b0 b1 b2 b3 sum (P:Int) (Q:Int)) 150)).heap.size):=hide (Nat.le_trans HBW.out.size HB1V.out.size)
  generalize W1.alloc (.cells (rC b0 b1 b2 b3 sum (P:Int) (Q:Int)) 150)=V at k1 HB1V HW2 ⊢
  have KS:=hide (show ∀x,Below V.heap.size V x→(fun x=>(convert 97 9 (.slice (some ⟨W1.heap.size,0,none⟩) 4 4)).run Tryz.prog x=.ok (.string TG) x∧x.cell? ⟨W1.heap.size,0,none⟩=some (.int .u8 (b0.toNat:Int))∧x.cell? ⟨W1.heap.size,1,none⟩=some (.int .u8 (b1.toNat:Int))∧x.cell? ⟨W1.heap.size,2,none⟩=some (.int .u8 (b2.toNat:Int))∧x.cell? ⟨W1.heap.size,3,none⟩=some (.int .u8 (b3.toNat:Int))∧x.cell? ⟨W1.heap.size,4,none⟩=some (.int .i64 sum)∧x.cell? ⟨W1.heap.size,5,none⟩=some (.int .i64 (P:Int))∧x.cell? ⟨W1.heap.size,6,none⟩=some (.int .i64 (Q:Int))) x from fun x hx=>by
   have k:=k1.below hx
   refine ⟨?_,k.cell 0,k.cell 1,k.cell 2,k.cell 3,k.cell 4,k.cell 5,k.cell 6⟩
   rw [←HTG.out]
   refine run_convert_bytes_back (P:=Tryz.prog) x 97 9 5 ⟨W1.heap.size,0,none⟩ 4 [b0,b1,b2,b3] Tryz.underlying97 Tryz.underlying5 Tryz.underlying9 ?_
   intro j hj
   rw [Go.WideShapes.add_plain,Nat.zero_add,k.cell j]
   match j,hj with
   | 0,_=>rfl
   | 1,_=>rfl
   | 2,_=>rfl
   | 3,_=>rfl)
  have KS9:=hide (show ∀x z,Below V.heap.size V x→(∀k,k < x.heap.size→some k≠vt.ownBlock→z.heap[k]?=x.heap[k]?)→(fun x=>(convert 97 9 (.slice (some ⟨W1.heap.size,0,none⟩) 4 4)).run Tryz.prog x=.ok (.string TG) x∧x.cell? ⟨W1.heap.size,0,none⟩=some (.int .u8 (b0.toNat:Int))∧x.cell? ⟨W1.heap.size,1,none⟩=some (.int .u8 (b1.toNat:Int))∧x.cell? ⟨W1.heap.size,2,none⟩=some (.int .u8 (b2.toNat:Int))∧x.cell? ⟨W1.heap.size,3,none⟩=some (.int .u8 (b3.toNat:Int))∧x.cell? ⟨W1.heap.size,4,none⟩=some (.int .i64 sum)∧x.cell? ⟨W1.heap.size,5,none⟩=some (.int .i64 (P:Int))∧x.cell? ⟨W1.heap.size,6,none⟩=some (.int .i64 (Q:Int))) z from fun x z hx hz=>by
   have hk:=k1.below hx
   have k:Blk z W1.heap.size (rC b0 b1 b2 b3 sum (P:Int) (Q:Int)) 150:=by
    have hlt1:=k1.lt
    unfold Blk at hk ⊢
    rw [hz W1.heap.size (Nat.lt_of_lt_of_le hlt1 hx.size) (fun e=>by have:=HT1.out.own_lt e;omega)]
    exact hk
   refine ⟨?_,k.cell 0,k.cell 1,k.cell 2,k.cell 3,k.cell 4,k.cell 5,k.cell 6⟩
   rw [←HTG.out]
   refine run_convert_bytes_back (P:=Tryz.prog) z 97 9 5 ⟨W1.heap.size,0,none⟩ 4 [b0,b1,b2,b3] Tryz.underlying97 Tryz.underlying5 Tryz.underlying9 ?_
   intro j hj
   rw [Go.WideShapes.add_plain,Nat.zero_add,k.cell j]
   match j,hj with
   | 0,_=>rfl
   | 1,_=>rfl
   | 2,_=>rfl
   | 3,_=>rfl)
  have HB:=hide (Below.refl V.heap.size V)
  clear k1 g0 g1 g2 g3 g4 g5 g6
  refine wp_region_held_drew (S:=(fun x=>(convert 97 9 (.slice (some ⟨W1.heap.size,0,none⟩) 4 4)).run Tryz.prog x=.ok (.string TG) x∧x.cell? ⟨W1.heap.size,0,none⟩=some (.int .u8 (b0.toNat:Int))∧x.cell? ⟨W1.heap.size,1,none⟩=some (.int .u8 (b1.toNat:Int))∧x.cell? ⟨W1.heap.size,2,none⟩=some (.int .u8 (b2.toNat:Int))∧x.cell? ⟨W1.heap.size,3,none⟩=some (.int .u8 (b3.toNat:Int))∧x.cell? ⟨W1.heap.size,4,none⟩=some (.int .i64 sum)∧x.cell? ⟨W1.heap.size,5,none⟩=some (.int .i64 (P:Int))∧x.cell? ⟨W1.heap.size,6,none⟩=some (.int .i64 (Q:Int)))) (by kernel_rfl) (KS.out _ ((Below.refl _ _).drew)) (fun hHeld=>?_)
  refine takeW (i:=0) (d:=32) (v:=vt) rfl rfl (by kernel_rfl) (by kernel_rfl) (by kernel_rfl) (fun _ _ _ h=>h) (by rfl) ?_ (by assumption) ?_
  ·intro x hSx
   obtain ⟨q0,q1,q2,q3,q4,q5,q6,q7⟩:=hSx
   go_simp
  simp only [Act.put,List.setIfInBounds_toArray,List.set_cons_zero,List.set_cons_succ]
  refine takeW (i:=1) (d:=33) (v:=.pointer (some ⟨W1.heap.size,0,none⟩)) rfl rfl (by kernel_rfl) (by kernel_rfl) (by kernel_rfl) (fun _ _ _ h=>h) (by rfl) ?_ (by assumption) ?_
  ·intro x hSx
   obtain ⟨q0,q1,q2,q3,q4,q5,q6,q7⟩:=hSx
   go_simp
  simp only [Act.put,List.setIfInBounds_toArray,List.set_cons_zero,List.set_cons_succ]
  refine takeW (i:=2) (d:=34) (v:=.slice (some ⟨W1.heap.size,0,none⟩) 4 4) rfl rfl (by kernel_rfl) (by kernel_rfl) (by kernel_rfl) (fun _ _ _ h=>h) (by rfl) ?_ (by assumption) ?_
  ·intro x hSx
   obtain ⟨q0,q1,q2,q3,q4,q5,q6,q7⟩:=hSx
   go_simp
  simp only [Act.put,List.setIfInBounds_toArray,List.set_cons_zero,List.set_cons_succ]
  refine takeW (i:=3) (d:=35) (v:=.string TG) rfl rfl (by kernel_rfl) (by kernel_rfl) (by kernel_rfl) (fun _ _ _ h=>h) (by rfl) ?_ (by assumption) ?_
  ·intro x hSx
   obtain ⟨q0,q1,q2,q3,q4,q5,q6,q7⟩:=hSx
   go_simp
  simp only [Act.put,List.setIfInBounds_toArray,List.set_cons_zero,List.set_cons_succ]
  refine takeW (i:=4) (d:=36) (v:=.string s) rfl rfl (by kernel_rfl) (by kernel_rfl) (by kernel_rfl) (fun _ _ _ h=>h) (by rfl) ?_ (by assumption) ?_
  ·intro x hSx
   obtain ⟨q0,q1,q2,q3,q4,q5,q6,q7⟩:=hSx
   go_simp
  simp only [Act.put,List.setIfInBounds_toArray,List.set_cons_zero,List.set_cons_succ]
  refine takeW (i:=5) (d:=37) (v:=.pointer (some ⟨W1.heap.size,5,none⟩)) rfl rfl (by kernel_rfl) (by kernel_rfl) (by kernel_rfl) (fun _ _ _ h=>h) (by rfl) ?_ (by assumption) ?_
  ·intro x hSx
   obtain ⟨q0,q1,q2,q3,q4,q5,q6,q7⟩:=hSx
   go_simp
  simp only [Act.put,List.setIfInBounds_toArray,List.set_cons_zero,List.set_cons_succ]
  refine takeW (i:=6) (d:=38) (v:=.int .i64 (P:Int)) rfl rfl (by kernel_rfl) (by kernel_rfl) (by kernel_rfl) (fun _ _ _ h=>h) (by rfl) ?_ (by assumption) ?_
  ·intro x hSx
   obtain ⟨q0,q1,q2,q3,q4,q5,q6,q7⟩:=hSx
   go_simp
  simp only [Act.put,List.setIfInBounds_toArray,List.set_cons_zero,List.set_cons_succ]
  refine takeW (i:=7) (d:=39) (v:=.agg (rC b0 b1 b2 b3 sum (P:Int) (Q:Int))) rfl rfl (by kernel_rfl) (by kernel_rfl) (by kernel_rfl) (fun _ _ _ h=>h) (by rfl) ?_ (by assumption) ?_
  ·intro x hSx
   obtain ⟨q0,q1,q2,q3,q4,q5,q6,q7⟩:=hSx
   go_simp
  simp only [Act.put,List.setIfInBounds_toArray,List.set_cons_zero,List.set_cons_succ]
  refine wpAnyH_ready (rs:=[8]) (by kernel_rfl) (by simp) ?_
  refine AllReadyH.cons rfl (fun K hK=>?_) AllReadyH.nil
  rw [if_pos (by rfl)]
  go_simp
  go_at_call 115
  refine (CE.out _).mono ?_
  rintro e y ⟨rfl,hbx⟩
  replace HB:=hide (below_d HB.out hbx rfl rfl rfl rfl)
  clear hbx
  refine hK.out _ _ (KS.out _ (below_d HB.out (Below.refl _ _) rfl rfl rfl rfl)) (fun hHeld=>?_)
  clear hK K
  refine takeW (i:=9) (d:=41) (v:=.string (s.extract P (P+Q))) rfl rfl (by kernel_rfl) (by kernel_rfl) (by kernel_rfl) (fun _ _ _ h=>h) (by rfl) ?_ (by assumption) ?_
  ·intro x hSx
   obtain ⟨q0,q1,q2,q3,q4,q5,q6,q7⟩:=hSx
   go_simp
  simp only [Act.put,List.setIfInBounds_toArray,List.set_cons_zero,List.set_cons_succ]
  refine wpAnyH_ready (rs:=[10]) (by kernel_rfl) (by simp) ?_
  refine AllReadyH.cons rfl (fun K hK=>?_) AllReadyH.nil
  rw [if_pos (by rfl)]
  go_simp
  go_at_call 97
  refine (CC.out _ _ rfl).mono ?_
  rintro e y2 ⟨rfl,hbx⟩
  replace HB:=hide (below_d HB.out hbx rfl rfl rfl rfl)
  clear hbx
  refine hK.out _ _ (KS.out _ (below_d HB.out (Below.refl _ _) rfl rfl rfl rfl)) (fun hHeld=>?_)
  clear hK K
  refine takeW (i:=11) (d:=43) (v:=.agg #[.string TG,.string (s.extract P (P+Q))]) rfl rfl (by kernel_rfl) (by kernel_rfl) (by kernel_rfl) (fun _ _ _ h=>h) (by rfl) ?_ (by assumption) ?_
  ·intro x hSx
   obtain ⟨q0,q1,q2,q3,q4,q5,q6,q7⟩:=hSx
   go_simp
  simp only [Act.put,List.setIfInBounds_toArray,List.set_cons_zero,List.set_cons_succ]
  refine wpAnyH_ready (rs:=[12]) (by kernel_rfl) (by simp) ?_
  refine AllReadyH.cons rfl (fun K hK=>?_) AllReadyH.nil
  rw [if_pos (by rfl)]
  go_simp
  have hal:=(Below.refl y2.heap.size y2).alloc (Nat.le_refl _) (.cells #[.string TG,.string (s.extract P (P+Q))] 79)
  have hTy:=HT1.out.later (HB1V.out.trans (HB.out.mono HB1V.out.size))
  obtain ⟨g,cap,w9,hr,hT,hBT,hOT⟩:=app_tab2 (TG,s.extract P (P+Q)) hTy (Nat.le_trans HW2.out HB.out.size) HLEN.out y2.heap.size rfl
  have HR:=hide hr
  have HT:=hide hT
  have HBT:=hide hBT
  have HS9:=hide (KS9.out y2 w9 HB.out hOT)
  refine hK.out _ _ (KS.out _ (below_t5 HB.out hal)) (fun hHeld=>?_)
  clear hal hr hT hBT hTy hOT
  clear hK K
  refine wpAnyH_ready (rs:=[13]) (by kernel_rfl) (by simp) ?_
  refine AllReadyH.cons rfl (fun K hK=>?_) AllReadyH.nil
  refine step_append_run _ (by rfl) _ _ _ _ (by rfl) _ _ (by rfl) (by rfl) _ _ HR.out ?_
  refine hK.out _ _ HS9.out (fun hHeld=>?_)
  clear hK K
  refine takeW (i:=14) (d:=7) (v:=.slice (some ⟨g,0,none⟩) (LT+1) cap) rfl rfl (by kernel_rfl) (by kernel_rfl) (by kernel_rfl) (fun _ _ _ h=>h) (by rfl) ?_ (by assumption) ?_
  ·intro x hSx
   obtain ⟨q0,q1,q2,q3,q4,q5,q6,q7⟩:=hSx
   go_simp
  simp only [Act.put,List.setIfInBounds_toArray,List.set_cons_zero,List.set_cons_succ]
  refine wpAnyH_done (by kernel_rfl) ?_ _
  all_goals
   refine HA.out _ _ ?_
   go_wp2_with fail
   go_roundw
   case rel=>
    refine ⟨k+1,by go_num,hide ⟨by omega,?_,?_⟩⟩
    ·rw [HTK.out,List.map_append,List.map_singleton,HTB.out]
     have:=HT.out
     exact this
    ·exact (HBW.out.trans (((HB1V.out.mono HBW.out.size).trans (HB.out.mono HW2.out)).trans HBT.out))
   case measure=>simp [intOf];omega
end Go.Proofs.YtpaadbnlhapdbaaGreatDoor.S8
namespace Go.Proofs.YtpaadbnlhapdbaaGreatDoor.S8
open Go.RowKit Go.Deep
set_option linter.unusedVariables false
def tagB (t:ByteArray):Bool:=match t.data.toList with
 | [b0,b1,b2,b3]=>gdB b0 && (gdB b1 && (gdB b2 && gdB b3))
 | _=>false
theorem four_of {t:ByteArray} (h:t.size=4):∃b0 b1 b2 b3,t=tgS b0 b1 b2 b3:=by
 cases t with | mk d=>cases d with | mk l=>
  have hl:l.length=4:=h
  match l,hl with
  | [b0,b1,b2,b3],_=>exact ⟨b0,b1,b2,b3,rfl⟩
theorem tagB_no {t:ByteArray} (h:t.size≠4):tagB t=false:=by
 unfold tagB
 cases t with | mk d=>cases d with | mk l=>
  have hl:l.length≠4:=h
  match l,hl with
  | [],_=>rfl
  | [_],_=>rfl
  | [_,_],_=>rfl
  | [_,_,_],_=>rfl
  | _ :: _ :: _ :: _ :: _ :: _,_=>rfl
def f4 (x:Int):List UInt8:=nbT (x / 65536) 2++nbT x 2
end Go.Proofs.YtpaadbnlhapdbaaGreatDoor.S8
