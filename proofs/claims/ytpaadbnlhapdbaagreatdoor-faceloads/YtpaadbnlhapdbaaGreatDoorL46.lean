/-
  Joined: S8Tc, S8Te.
-/
import Derived.Test.YtpaadbnlhapdbaaGreatDoorL39
import Derived.Test.YtpaadbnlhapdbaaGreatDoorL41
import Derived.Test.YtpaadbnlhapdbaaGreatDoorL44
import Derived.Test.YtpaadbnlhapdbaaGreatDoorL45
namespace Go.Proofs.YtpaadbnlhapdbaaGreatDoor.S8
open Go.RowKit Go.Deep
set_option linter.unusedVariables false
set_option linter.unusedSimpArgs false
theorem tcs_get:∀(l:List Tab) (j:Nat) (u:Value),(tcs l)[j]?=some u→∃i x,l[i]?=some x∧((j=i * 2∧u=.string x.1)∨(j=i * 2+1∧u=.string x.2))
 | [],j,u,h=>by simp [tcs] at h
 | x :: l,0,u,h=>by
  have e:tcs (x :: l)=.string x.1 :: .string x.2 :: tcs l:=by unfold tcs;simp
  rw [e] at h
  simp at h
  exact ⟨0,x,rfl,Or.inl ⟨rfl,h.symm⟩⟩
 | x :: l,1,u,h=>by
  have e:tcs (x :: l)=.string x.1 :: .string x.2 :: tcs l:=by unfold tcs;simp
  rw [e] at h
  simp at h
  exact ⟨0,x,rfl,Or.inr ⟨rfl,h.symm⟩⟩
 | x :: l,j+2,u,h=>by
  have e:tcs (x :: l)=.string x.1 :: .string x.2 :: tcs l:=by unfold tcs;simp
  rw [e] at h
  simp at h
  obtain ⟨i,y,hy,hh⟩:=tcs_get l j u h
  refine ⟨i+1,y,by simpa using hy,?_⟩
  rcases hh with ⟨h1,h2⟩ | ⟨h1,h2⟩
  ·exact Or.inl ⟨by omega,h2⟩
  ·exact Or.inr ⟨by omega,h2⟩
set_option maxRecDepth 8000 in
theorem clones_any (g o c n:Nat) (l:List Tab) (w:World) (hn:l.length=n) (h1:1≤n) (h2:n≤1000) (hg:g < w.heap.size)
  (hL:∀i x,l[i]?=some x→w.cell? ⟨g,o+i * 2,none⟩=some (.string x.1)∧w.cell? ⟨g,o+i * 2+1,none⟩=some (.string x.2)) :
  Calls Tryz.prog 67 #[.slice (some ⟨g,o,none⟩) n c] w fun e w'=>∃b cap,e=.returned (.slice (some ⟨b,0,none⟩) n cap)∧TbRow w' w.heap.size (.slice (some ⟨b,0,none⟩) n cap) l∧Below w.heap.size w w':=by
 obtain ⟨i0,hi,hz0,hz1,hz2⟩:=info_parts5 info_tab
 have hal:=(Below.refl w.heap.size w).alloc (Nat.le_refl _) (.cells #[] 79)
 have hnil:(w.alloc (.cells #[] 79)).ownsRow w.heap.size 79 2 (.slice (some ⟨w.heap.size,0,none⟩) 0 0) 0 []:=
  ⟨rfl,Or.inr ⟨w.heap.size,0,#[],rfl,Nat.le_refl _,heap_alloc_new w _,Nat.le_refl _,by unfold maxLen;omega,rfl,rfl⟩⟩
 obtain ⟨b,cap,w2,hr,ho,hgr,_,_⟩:=run_append_lies (P:=Tryz.prog) (w.alloc (.cells #[] 79)) 47 47 w.heap.size 79 i0 _ 2 32 Tryz.underlying47 hi hz0 hz1 hz2 rfl (by decide) (.slice (some ⟨w.heap.size,0,none⟩) 0 0) 0 [] hnil ⟨g,o,none⟩ n c (tcs l) (by rw [tcs_len,hn])
  (fun j u hu=>by
   rw [Go.WideShapes.add_plain,hal.cell (p:=⟨g,o+j,none⟩) hg]
   obtain ⟨i,x,hx,hh⟩:=tcs_get l j u hu
   rcases hh with ⟨rfl,rfl⟩ | ⟨rfl,rfl⟩
   ·exact (hL i x hx).1
   ·exact (hL i x hx).2) (tcs_one l) (by omega) (by unfold maxLen;omega) (by omega) (by simp) (w.heap.size+1) (by simp)
 simp only [Nat.zero_add,List.nil_append] at hr ho
 have HR:=hide hr
 have HB:=hide (hal.grown hgr (by simp) fun k hk'=>(World.ownsRow.lt hnil k hk').1)
 have HO:=hide (show TbRow w2 w.heap.size (.slice (some ⟨b,0,none⟩) n cap) l by unfold TbRow;rw [hn];exact ho)
 have hnl:=fun (w:World)=>run_eql_slice_nil (P:=Tryz.prog) w 47 79 (some ⟨g,o,none⟩) n c Tryz.underlying47
 clear hr hgr ho hnil hal hL
 go_enter Tryz.func67,Tryz.ntmps67
 go_wp2_with (at_builtin;refine Lib.wpList_append_run _ rfl _ _ _ _ rfl _ _ rfl rfl _ _ HR.out ?_)
 go_ret
 exact ⟨_,_,rfl,HO.out,HB.out⟩
def cfT (x y:Tab):Int:=Lib.compareBytes x.1.data.toList y.1.data.toList
theorem cmp_less:∀(a b:List UInt8),decide (Lib.compareBytes a b < 0)=Op.bytesLess a b
 | [],[]=>by simp [Lib.compareBytes,Op.bytesLess]
 | [],b :: y=>by simp [Lib.compareBytes,Op.bytesLess]
 | a :: x,[]=>by simp [Lib.compareBytes,Op.bytesLess]
 | a :: x,b :: y=>by
  have ih:=cmp_less x y
  rw [Lib.compareBytes,Op.bytesLess]
  by_cases h1:a < b
  ·simp [h1]
  ·by_cases h2:b < a
   ·have h3:¬a=b:=fun e=>by subst e;exact h1 h2
    simp [h1,h2,h3]
   ·have h3:a=b:=by
     rw [UInt8.lt_iff_toNat_lt] at h1 h2
     exact UInt8.toNat_inj.1 (by omega)
    subst h3
    simp [h1,ih]
theorem lt_cf (x y:Tab):ltOf cfT x y=Op.bytesLess x.1.toList y.1.toList:=by
 unfold ltOf cfT
 rw [cmp_less,Lib.toList_data,Lib.toList_data]
theorem swoT:Sort.SWO (ltOf cfT):={
 irrefl:=fun x=>by rw [lt_cf];exact less_irrefl _
 trans:=fun x y z h1 h2=>by rw [lt_cf] at *;exact less_trans _ _ _ h1 h2
 ntrans:=fun x y z h1 h2=>by rw [lt_cf] at *;exact less_nt h1 h2 }
def encT (x:Tab):List Value:=[.string x.1,.string x.2]
theorem strcmp_any (a b:ByteArray) (w:World):Calls Tryz.prog 70 #[.string a,.string b] w fun e w'=>e=.returned (.int .i64 (Lib.compareBytes a.data.toList b.data.toList))∧w'=w:=Any.strings_Compare lays106 a b w
set_option maxHeartbeats 1000000 in
theorem clo_any (x y:Tab) (W:World):Calls Tryz.prog 69 #[.agg #[.string x.1,.string x.2],.agg #[.string y.1,.string y.2]] W fun e w'=>e=.returned (.int .i64 (cfT x y))∧∃q os',w'=Sort.grow (W.drewN q) os':=by
 obtain ⟨x1,x2⟩:=x
 obtain ⟨y1,y2⟩:=y
 have C:=hide (fun w=>strcmp_any x1 y1 w)
 have e:cfT (x1,x2) (y1,y2)=Lib.compareBytes x1.data.toList y1.data.toList:=rfl
 rw [e]
 generalize Lib.compareBytes x1.data.toList y1.data.toList=R at C
 clear e
 go_enter Tryz.func69,Tryz.ntmps69
 go_wp2_with (go_at_call 70;refine (C.out _).mono ?_;rintro e w' ⟨rfl,hw'⟩;replace hw':=hw'.symm;subst hw')
 go_ret
 exact ⟨rfl,0,_,by rw [Sort.alloc_eq_grow,Sort.alloc_eq_grow,Sort.grow_grow];rfl⟩
instance:Inhabited Tab:=⟨tz⟩
theorem isAgg_tab:∀w,(isAgg 79).run Tryz.prog w=.ok true w:=fun w=>Tryz.isAgg79 w
theorem sizeOf_tab:∀w,(Go.sizeOf 79).run Tryz.prog w=.ok 2 w:=fun w=>Tryz.sizeOf79 w
theorem flat_tcs (m:List Tab):∀j,j < m.length * 2→(tcs m)[j]?=some ((encT (m.toArray)[j / 2]!)[j % 2]!):=by
 intro j hj
 obtain ⟨u,hu⟩:∃u,(tcs m)[j]?=some u:=⟨_,List.getElem?_eq_getElem (by rw [tcs_len];exact hj)⟩
 rw [hu]
 obtain ⟨i,x,hx,hh⟩:=tcs_get m j u hu
 obtain ⟨hil,hxe⟩:=List.getElem?_eq_some_iff.1 hx
 rcases hh with ⟨rfl,rfl⟩ | ⟨rfl,rfl⟩
 ·have e:(m.toArray)[i * 2 / 2]! =x:=by rw [Nat.mul_div_cancel _ (by omega)];simp [hil,hxe]
  rw [e,Nat.mul_mod_left];rfl
 ·have e:(m.toArray)[(i * 2+1) / 2]! =x:=by rw [show (i * 2+1) / 2=i by omega];simp [hil,hxe]
  rw [e,show (i * 2+1) % 2=1 by omega];rfl
theorem TbRow.holds {w:World} {B b cap n:Nat} {l:List Tab} (h:TbRow w B (.slice (some ⟨b,0,none⟩) n cap) l) (hn:l.length=n):Sort.HoldsK encT 2 w b 0 l.toArray:=by
 unfold TbRow at h
 intro j hj
 rw [Sort.size_flatK,List.size_toArray] at hj
 rw [Sort.get_flatK _ _ _ _ (by simpa using hj),Nat.zero_add]
 rw [hn] at h
 refine ⟨?_,h.frozenAt j⟩
 rw [World.ownsRow.cellAt h j (by omega),flat_tcs l j hj];rfl
theorem TbRow.sorted {w:World} {B b cap n N:Nat} {l m:List Tab} {os:Array Obj} (h:TbRow w B (.slice (some ⟨b,0,none⟩) n cap) l) (hn:l.length=n) (hm:m.length=n) :
  TbRow (sortWorldK encT 2 w b 0 N m.toArray os) B (.slice (some ⟨b,0,none⟩) n cap) m∧Below B w (sortWorldK encT 2 w b 0 N m.toArray os):=by
 have hH:=h.holds hn
 unfold TbRow at *
 rw [hn] at h
 rw [hm]
 obtain ⟨hxl,⟨h0,_⟩ | ⟨g',cap',cur,hv,hbg,hgc,hnc,hcm,hcs,htake⟩⟩:=h
 ·cases h0
 injection hv with hv1 hv2 hv3
 injection hv1 with hv1
 injection hv1 with hv1
 subst hv1
 subst hv3
 have hlt:b < w.heap.size:=by
  rcases Nat.lt_or_ge b w.heap.size with h | h
  ·exact h
  ·rw [Array.getElem?_eq_none h] at hgc;cases hgc
 obtain ⟨F,hF⟩:∃F,Sort.flatK encT 2 m.toArray=F:=⟨_,rfl⟩
 have hFs:F.size=n * 2:=by rw [←hF,Sort.size_flatK,List.size_toArray,hm]
 have hblk:(sortWorldK encT 2 w b 0 N m.toArray os).heap[b]?=some (.cells (Sort.putCells id 0 F cur) 79 (0,0)):=by
  unfold sortWorldK Sort.grow Sort.putRowK Sort.putRow Sort.mapBlock Sort.ahead
  rw [hF]
  simp only
  rw [Array.getElem?_append_left (by simpa using hlt),Array.getElem?_modify,if_pos rfl,hgc]
  rfl
 constructor
 ·refine ⟨by rw [tcs_len,hm],Or.inr ⟨b,cap,_,rfl,hbg,hblk,hnc,hcm,by unfold Sort.putCells;rw [Array.size_mapIdx];exact hcs,?_⟩⟩
  apply List.ext_getElem?
  intro j
  rcases Nat.lt_or_ge j (n * 2) with hj | hj
  ·rw [List.getElem?_take_of_lt hj,flat_tcs m j (by rw [hm];exact hj),Array.getElem?_toList]
   unfold Sort.putCells
   rw [Array.getElem?_mapIdx,Array.getElem?_eq_getElem (by rw [hcs];omega)]
   simp only [Option.map_some,Nat.zero_le,true_and,Nat.zero_add,hFs,hj,if_true,Nat.sub_zero,id]
   rw [←hF,Sort.get_flatK _ _ _ _ (by simp;omega)]
  ·rw [List.getElem?_take_eq_none hj,List.getElem?_eq_none (by rw [tcs_len,hm];exact hj)]
 ·refine ⟨rfl,rfl,rfl,?_,fun k hk=>?_⟩
  ·unfold sortWorldK Sort.grow Sort.putRowK Sort.putRow Sort.mapBlock Sort.ahead
   simp
  ·unfold sortWorldK Sort.grow Sort.putRowK Sort.putRow Sort.mapBlock Sort.ahead
   simp only
   rw [Array.getElem?_append_left (by simp;omega),Array.getElem?_modify,if_neg (by omega)]
theorem sort_any (B b cap n:Nat) (l:List Tab) (w:World) (h:TbRow w B (.slice (some ⟨b,0,none⟩) n cap) l) (hn:l.length=n) (h2:n≤1000) :
  Calls Tryz.prog 68 #[.slice (some ⟨b,0,none⟩) n cap,.func (.func 69) #[] #[]] w fun e w'=>e=.returned (.tuple #[])∧∃m,m.Perm l∧Srt m∧TbRow w' B (.slice (some ⟨b,0,none⟩) n cap) m∧Below B w w':=by
 have eg:∀args w,(callFunc 69 args).run Tryz.prog w=.ok (.enter 69 args) w:=enters_of Tryz.func69 (by kernel_rfl) rfl
 have hblk:b < w.heap.size:=h.base.2
 have hc:=AnyQ.slices_SortFunc (α:=Tab) laysSF 2 isAgg_tab sizeOf_tab encT (fun _=>rfl) (fun x v hv=>by simp [encT] at hv;rcases hv with rfl | rfl <;> rfl) cfT swoT 69 #[] b 0 cap l.toArray w eg (fun _ _ _ _ x y=>clo_any x y _) (h.holds hn) hblk (by rw [List.size_toArray];omega)
 rw [List.size_toArray,hn] at hc
 refine hc.mono ?_
 rintro e w' ⟨rfl,d',N,os,hp,hs,rfl⟩
 refine ⟨rfl,d'.toList,?_,?_,?_⟩
 ·have h1:=hp.2.2
  have hsz:d'.size=n:=by rw [hp.1,List.size_toArray,hn]
  rw [show d'.extract 0 n=d' by rw [←hsz];exact Array.extract_size,show (l.toArray).extract 0 n=l.toArray by rw [←hn,←List.size_toArray];exact Array.extract_size] at h1
  simpa using h1
 ·have hsz:d'.size=n:=by rw [hp.1,List.size_toArray,hn]
  unfold Srt
  rw [List.pairwise_iff_getElem]
  intro i j hi hj hij
  have hi':i < d'.size:=by simpa using hi
  have hj':j < d'.size:=by simpa using hj
  have:=hs i j (Nat.zero_le _) hij (by omega)
  rw [lt_cf] at this
  rw [getElem!_pos d' i hi',getElem!_pos d' j hj'] at this
  unfold gtT
  simpa using this
 ·have hsz:d'.toList.length=n:=by rw [Array.length_toList,hp.1,List.size_toArray,hn]
  have:=h.sorted (m:=d'.toList) (N:=N) (os:=os) hn hsz
  rw [Array.toArray_toList] at this
  exact this
def btS (l:List Tab):ByteArray:=if bErr l=0 then ⟨(txtV (sorV l)).toArray⟩ else ⟨#[]⟩
def BuR (w:World) (l:List Tab) (e:Ending) (w':World):Prop:=e=.returned (.tuple #[.string (btS l),.int .i64 (bErr l)])∧Below w.heap.size w w'
set_option maxRecDepth 8000 in
set_option maxHeartbeats 4000000 in
theorem build_any (a:Option Addr) (l:List Tab) (n c:Nat) (w:World) (hn:l.length=n) (hm:n≤1073741824) (hz:∀x∈l,x.1.size≤1073741824∧x.2.size≤1073741824) (hL:TLst w a l) (hG:Glo8 w) :
  Calls Tryz.prog 31 #[.slice a n c] w (BuR w l):=by
 have hm':(n:Int)≤1073741824:=by omega
 have h80:bErr l=80→btS l=⟨#[]⟩:=fun e=>by unfold btS;rw [if_neg (by rw [e];decide)]
 by_cases h1:n < 1
 ·have e:bErr l=80:=by unfold bErr;rw [if_pos (by omega)]
  have h1':(n:Int) < 1:=by omega
  unfold BuR
  rw [h80 e,e]
  clear hL hn hm hz h1 e h80 hG
  go_enter Tryz.func31,Tryz.ntmps31
  go_wp2_with fail
  go_ret2
  exact ⟨rfl,Below.refl _ _⟩
 by_cases h2:32 < n
 ·have e:bErr l=80:=by unfold bErr;rw [if_pos (by omega)]
  have h1':¬(n:Int) < 1:=by omega
  have h2':(32:Int) < (n:Int):=by omega
  unfold BuR
  rw [h80 e,e]
  clear hL hn hm hz h1 h2 e h80 hG
  go_enter Tryz.func31,Tryz.ntmps31
  go_wp2_with fail
  go_ret2
  exact ⟨rfl,Below.refl _ _⟩
 have h1':¬(n:Int) < 1:=by omega
 have h2':¬(32:Int) < (n:Int):=by omega
 obtain ⟨g,o,rfl,hg,hcell⟩:∃g o,a=some ⟨g,o,none⟩∧g < w.heap.size∧∀i x,l[i]?=some x→w.cell? ⟨g,o+i * 2,none⟩=some (.string x.1)∧w.cell? ⟨g,o+i * 2+1,none⟩=some (.string x.2):=by
  rcases hL with hz' | h
  ·rw [hz'] at hn;simp at hn;omega
  ·exact h
 have CC:=hide (clones_any g o c n l w hn (by omega) (by omega) hg hcell)
 have CS:=hide (fun B b cap w h=>sort_any B b cap n l w h hn (by omega))
 have HZ:=hide hz
 have HN:=hide hn
 have HG:=hide hG
 have H12:=hide (show 1≤n∧n≤32 by omega)
 have H80:=hide h80
 have HFI:=hide (show ∀m:List Tab,bErr l=0∧m=sorV l→btS l=⟨(txtV m).toArray⟩ from fun m h=>by unfold btS;rw [if_pos h.1,h.2])
 have H2:=hide (show bErr l=2→btS l=⟨#[]⟩ from fun e=>by unfold btS;rw [if_neg (by rw [e];decide)])
 unfold BuR
 clear hL hcell hz hG h80 h1 h2 hn hm
 go_enter Tryz.func31,Tryz.ntmps31
 go_wp2_with fail
 refine CC.out.mono ?_
 rintro e w1 ⟨b,cap,rfl,hT,hB1⟩
 have CS1:=hide (CS.out _ _ _ _ hT)
 have HB1:=hide hB1
 have hwb:=hT.base.1
 clear hT hB1 CC CS
 go_wp2_with fail
 refine CS1.out.mono ?_
 rintro e w2 ⟨rfl,m,hp,hs,hT2,hB2⟩
 have hml:m.length=n:=by rw [hp.length_eq];exact HN.out
 have hzm:∀x∈m,x.1.size≤1073741824∧x.2.size≤1073741824:=fun x hx=>HZ.out x (hp.subset hx)
 have hcm:∀i x,m[i]?=some x→w2.cell? ⟨b,i * 2,none⟩=some (.string x.1)∧w2.cell? ⟨b,i * 2+1,none⟩=some (.string x.2):=fun i x hx=>hT2.at2 hml i x hx
 have hb2:b < w2.heap.size:=hT2.base.2
 have herr:=err_of l m hp hs (by rw [HN.out];exact H12.out.1) (by rw [HN.out];exact H12.out.2)
 have CL:=hide (lay_any b cap n m w2 hml H12.out.1 H12.out.2 hzm hb2 hcm)
 have HB2:=hide (HB1.out.trans hB2)
 have HCM:=hide hcm
 have HML:=hide hml
 have HERR:=hide herr
 have HPB:=hide (pl_bd m n (by have:=H12.out;omega) (fun x hx=>(hzm x hx).2))
 clear hp hs hT2 hB2 hzm hcm herr CS1 hml
 go_wp2_with fail
 refine CL.out.mono ?_
 rintro e w3 ⟨hB3,⟨⟨x,hx,hx4⟩,rfl⟩ | ⟨h4,r,rc,rfl,hR⟩⟩
 ·have e80:bErr l=80:=HERR.out.1 (fun h=>hx4 (h.1 x hx))
  have HB3:=hide (below_t5 HB2.out hB3)
  have HE:=hide (And.intro (H80.out e80) e80)
  clear hB3 hx hx4 e80
  go_wp2_with fail
  go_ret2
  exact ⟨by rw [HE.out.1,HE.out.2];rfl,HB3.out⟩
 ·obtain ⟨RB,hRB⟩:∃B,riseM [0,0,0,0] m=B:=⟨_,rfl⟩
  rw [hRB]
  have HB3:=hide (below_t5 HB2.out hB3)
  cases RB with
  | false=>
   have e80:bErr l=80:=HERR.out.1 (fun h=>by have:=h.2;rw [hRB] at this;cases this)
   have HE:=hide (And.intro (H80.out e80) e80)
   clear hB3 hR h4 e80 hRB
   go_wp2_with fail
   go_ret2
   exact ⟨by rw [HE.out.1,HE.out.2];rfl,HB3.out⟩
  | true=>
   have hgo:goM m:=⟨h4,hRB⟩
   have hpb:(plT m n:Int)≤40000000000:=by have:=HPB.out n (Nat.le_refl _) (by have:=HML.out;omega);have:=H12.out;omega
   by_cases hsz:1048576 < plT m n
   ·have hsz':(1048576:Int) < (plT m n:Int):=by omega
    have e2:bErr l=2:=HERR.out.2.1 hgo (by rw [HML.out];exact hsz)
    have HE:=hide (And.intro (H2.out e2) e2)
    clear hB3 hR h4 e2 hRB hgo hsz
    go_wp2_with fail
    go_ret2
    exact ⟨by rw [HE.out.1,HE.out.2];rfl,HB3.out⟩
   ·have hsz':¬(1048576:Int) < (plT m n:Int):=by omega
    have e0:=HERR.out.2.2 hgo (by rw [HML.out];omega)
    have HE:=hide (And.intro (HFI.out m e0) e0.1)
    have CW:=hide (write_any b cap r rc n m w3 HML.out H12.out.1 H12.out.2 hgo (by omega) (Nat.lt_of_lt_of_le hb2 hB3.size) (fun i x hx=>by
     rw [hB3.cell (p:=⟨b,i * 2,none⟩) hb2,hB3.cell (p:=⟨b,i * 2+1,none⟩) hb2]
     exact HCM.out i x hx) hR (HG.out.below HB3.out))
    clear hB3 hR h4 e0 hRB hgo hsz
    go_wp2_with fail
    refine CW.out.mono ?_
    rintro e w4 ⟨rfl,hB4⟩
    have HB4:=hide (below_t5 HB3.out hB4)
    clear hB4
    go_wp2_with fail
    go_ret2
    exact ⟨by rw [HE.out.1,HE.out.2];rfl,HB4.out⟩
end Go.Proofs.YtpaadbnlhapdbaaGreatDoor.S8
