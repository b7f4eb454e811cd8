/-
  Joined: M9Cp, F12A.
-/
import Derived.Deep.AppendSrc
import Derived.Deep.CutRange
import Derived.Test.YtpaadbnlhapdbaaGreatDoorL13
import Derived.Test.YtpaadbnlhapdbaaGreatDoorL31
namespace Go.Proofs.YtpaadbnlhapdbaaGreatDoor
open Go.RowKit Go.Deep
set_option linter.unusedVariables false
theorem Lst.but {w w':World} {p b:Nat} {zs:List Int} (h:Lst w (some ⟨p,0,none⟩) zs) (hb:But b w w') (hne:p≠b):Lst w' (some ⟨p,0,none⟩) zs:=by
 rcases h with h | ⟨c,off,h1,h2,h3⟩
 ·exact Or.inl h
 ·obtain ⟨rfl,rfl⟩:p=c∧0=off:=by simpa using h1
  refine Or.inr ⟨p,0,rfl,Nat.lt_of_lt_of_le h2 hb.size,fun i hi=>?_⟩
  rw [World.cell?_of_block (w:=w) (hb.block p h2 hne)]
  exact h3 i hi
end Go.Proofs.YtpaadbnlhapdbaaGreatDoor
namespace Go.Proofs.YtpaadbnlhapdbaaGreatDoor.F12
open Go.RowKit Go.Deep
set_option linter.unusedVariables false
set_option linter.unusedSimpArgs false
abbrev fcs (m:Mt) (va vb vg vc:Value):Array Value:=#[.int .i64 m.up,.int .i64 m.sc,.int .i64 m.de,.int .i64 m.ga,.int .i64 m.b0,.int .i64 m.b1,.int .i64 m.b2,.int .i64 m.b3,.bool m.lg,va,vb,vg,vc]
def shF (cs:List C11.Ch) (zs:List Int) (i:Nat):Int:=C11.finV cs (zs.getD i 0)
def shI (cs:List C11.Ch) (zs:List Int):Option Nat:=zs.findIdx? (fun z=>C11.finV cs z == 0)
theorem shI_some {cs:List C11.Ch} {zs:List Int} {k:Nat} (hk:k < zs.length) (h:shF cs zs k=0) (hj:∀j,j < k→shF cs zs j≠0):shI cs zs=some k:=by
 unfold shI
 rw [List.findIdx?_eq_some_iff_getElem]
 refine ⟨hk,?_,fun j hjk=>?_⟩
 ·unfold shF at h
  rw [List.getD_eq_getElem?_getD,List.getElem?_eq_getElem hk] at h
  simpa using h
 ·have:=hj j hjk
  unfold shF at this
  rw [List.getD_eq_getElem?_getD,List.getElem?_eq_getElem (by omega)] at this
  simpa using this
theorem shI_none {cs:List C11.Ch} {zs:List Int} (hj:∀j,j < zs.length→shF cs zs j≠0):shI cs zs=none:=by
 unfold shI
 rw [List.findIdx?_eq_none_iff]
 intro x hx
 obtain ⟨j,hl,rfl⟩:=List.getElem_of_mem hx
 have:=hj j hl
 unfold shF at this
 rw [List.getD_eq_getElem?_getD,List.getElem?_eq_getElem hl] at this
 simpa using this
def ShR (w:World) (cs:List C11.Ch) (zs:List Int) (n:Nat) (e:Ending) (w':World):Prop:=Below w.heap.size w w'∧((∃k,shI cs zs=some k∧k < n∧e=.returned (.tuple #[.slice none 0 0,.int .i64 (k:Int),.int .i64 120]))∨(shI cs zs=none∧∃g,e=.returned (.tuple #[.slice (some ⟨g,0,none⟩) n n,.int .i64 0,.int .i64 0])∧w.heap.size≤g∧Blk w' g (arr (shF cs zs) n n) 3))
set_option maxRecDepth 8000 in
set_option maxHeartbeats 4000000 in
theorem show_any (m:Mt) (va vb vg:Value) (ca:Option Addr) (nc cc:Nat) (cs:List C11.Ch) (la:Option Addr) (n c:Nat) (zs:List Int) (w:World) (hn:zs.length=n) (hm:n≤100000) (hz:∀z∈zs,C11.R64 z) (hl:cs.length=nc) (hc:nc≤1073741824) (hr:∀i,i < cs.length→C11.RC (cs.getD i C11.c0)) (hC:C11.CLst w ca cs) (hL:Lst w la zs) :
  Calls Tryz.prog 8 #[.agg (fcs m va vb vg (.slice ca nc cc)),.slice la n c] w (ShR w cs zs n):=by
 obtain ⟨up,sc,de,ga,b0,b1,b2,b3,lg,ad,be⟩:=m
 have hm':(n:Int)≤100000:=by omega
 have MK:=make_ints n hm
 have CF:=hide (fun (z:Int) (u:World) (hz:C11.R64 z) (hu:Below w.heap.size w u)=>C11.find_any ca cs nc cc z u hl hc hz hr (hC.below hu))
 have HL:=hide hL
 have HN:=hide hn
 have HZ:=hide hz
 have kb0:Blk ((w.alloc (.cells #[.int .i64 up,.int .i64 sc,.int .i64 de,.int .i64 ga,.int .i64 b0,.int .i64 b1,.int .i64 b2,.int .i64 b3,.bool lg,va,vb,vg,.slice ca nc cc] 30)).alloc (.cells (Array.replicate n (.int .i64 0)) 3)) w.heap.size #[.int .i64 up,.int .i64 sc,.int .i64 de,.int .i64 ga,.int .i64 b0,.int .i64 b1,.int .i64 b2,.int .i64 b3,.bool lg,va,vb,vg,.slice ca nc cc] 30:=(Blk.new w _ _).below ((Below.refl _ _).alloc (Nat.le_refl _) _)
 have kg0:Blk ((w.alloc (.cells #[.int .i64 up,.int .i64 sc,.int .i64 de,.int .i64 ga,.int .i64 b0,.int .i64 b1,.int .i64 b2,.int .i64 b3,.bool lg,va,vb,vg,.slice ca nc cc] 30)).alloc (.cells (Array.replicate n (.int .i64 0)) 3)) (w.heap.size+1) (arr (shF cs zs) n 0) 3:=by
  rw [arr_zero]
  have:=Blk.new (w.alloc (.cells #[.int .i64 up,.int .i64 sc,.int .i64 de,.int .i64 ga,.int .i64 b0,.int .i64 b1,.int .i64 b2,.int .i64 b3,.bool lg,va,vb,vg,.slice ca nc cc] 30)) (Array.replicate n (.int .i64 0)) 3
  rwa [show (w.alloc (.cells #[.int .i64 up,.int .i64 sc,.int .i64 de,.int .i64 ga,.int .i64 b0,.int .i64 b1,.int .i64 b2,.int .i64 b3,.bool lg,va,vb,vg,.slice ca nc cc] 30)).heap.size=w.heap.size+1 by simp] at this
 have hb0:Below w.heap.size w ((w.alloc (.cells #[.int .i64 up,.int .i64 sc,.int .i64 de,.int .i64 ga,.int .i64 b0,.int .i64 b1,.int .i64 b2,.int .i64 b3,.bool lg,va,vb,vg,.slice ca nc cc] 30)).alloc (.cells (Array.replicate n (.int .i64 0)) 3)):=((Below.refl _ _).alloc (Nat.le_refl _) _).alloc (by simp) _
 have H0:=hide (And.intro kb0 (And.intro kg0 hb0))
 obtain ⟨F,hF⟩:∃F,shF cs zs=F:=⟨_,rfl⟩
 have HF:=hide hF
 rw [hF] at H0
 clear hL hn hz hC hr kb0 kg0 hb0 hF
 go_enter Tryz.func8,Tryz.ntmps8
 go_wp2_with fail
 go_loopw [15] (fun vi wr=>∃k:Nat,vi=.int .i64 k∧Hid (k≤n∧Blk wr w.heap.size #[.int .i64 up,.int .i64 sc,.int .i64 de,.int .i64 ga,.int .i64 b0,.int .i64 b1,.int .i64 b2,.int .i64 b3,.bool lg,va,vb,vg,.slice ca nc cc] 30∧Blk wr (w.heap.size+1) (arr F n k) 3∧Below w.heap.size w wr∧∀j,j < k→F j≠0)) (fun vi _=>n - (intOf vi).toNat)
 case atStart=>exact ⟨0,rfl,hide ⟨by omega,H0.out.1,H0.out.2.1,H0.out.2.2,fun j hj=>by omega⟩⟩
 case round=>
  clear H0 MK
  obtain ⟨k,rfl,HV⟩:=hrel
  obtain ⟨hk,hkb,hkg,hbw,hall⟩:=HV.out
  have hk0:(0:Int)≤(k:Int):=by omega
  clear HV
  by_cases hlt:k < n
  case neg=>
   obtain rfl:n=k:=by omega
   have hlt':¬(n:Int) < (n:Int):=by omega
   have HE:=hide (show ShR w cs zs n (.returned (.tuple #[.slice (some ⟨w.heap.size+1,0,none⟩) n n,.int .i64 0,.int .i64 0])) wr from ⟨hbw,Or.inr ⟨shI_none (fun j hj=>by rw [HF.out];exact hall j (by rw [←HN.out];exact hj)),_,rfl,by omega,by rw [HF.out];exact hkg⟩⟩)
   clear hkb hkg hbw hall hk hlt
   go_wp2_with fail
   go_ret3
   exact HE.out
  have hlt':(k:Int) < (n:Int):=by omega
  obtain ⟨b,o,rfl,hbl,hcell⟩:∃b o,la=some ⟨b,o,none⟩∧b < w.heap.size∧∀i,i < zs.length→w.cell? ⟨b,o+i,none⟩=some (.int .i64 (zs.getD i 0)):=by
   rcases HL.out with hz' | h
   ·have:=HN.out
    rw [hz'] at this;simp at this;omega
   ·exact h
  obtain ⟨z,hz⟩:∃z,zs.getD k 0=z:=⟨_,rfl⟩
  have c0:=hcell k (by rw [HN.out];exact hlt)
  rw [←hbw.cell (p:=⟨b,o+k,none⟩) hbl,hz] at c0
  have hzr:C11.R64 z:=by
   rw [←hz,List.getD_eq_getElem?_getD,List.getElem?_eq_getElem (by rw [HN.out];exact hlt)]
   exact HZ.out _ (List.getElem_mem _)
  have hFk:C11.finV cs z=F k:=by rw [←HF.out,←hz];rfl
  have CFk:=hide (CF.out z wr hzr hbw)
  rw [hFk] at CFk
  have hblw:b < wr.heap.size:=Nat.lt_of_lt_of_le hbl hbw.size
  have c12:=hkb.cell 12
  simp at c12
  have HKB:=hide hkb
  have HKG:=hide hkg
  have HBW:=hide hbw
  have HALL:=hide hall
  have xlt:=hkb.lt
  obtain ⟨fk,hfk⟩:∃f,F k=f:=⟨_,rfl⟩
  rw [hfk] at CFk
  have HFK:=hide hfk
  clear hcell hkb hkg hbw hall hk hz hFk hfk hzr
  go_wp2_with fail
  refine CFk.out.mono ?_
  rintro e w1 ⟨rfl,h1⟩
  have kb1:=HKB.out.below h1
  have kg1:=HKG.out.below h1
  have g0:=kg1.cell k
  rw [arr_at _ _ _ _ hlt] at g0
  have gf:=kg1.frozen k
  have glt:=kg1.lt
  have hn1:n≤n:=Nat.le_refl _
  have kb2:=kb1.other (show w.heap.size≠w.heap.size+1 by omega) k (.int .i64 fk)
  have kg2:Blk (w1.setCell ⟨w.heap.size+1,k,none⟩ (.int .i64 fk)) (w.heap.size+1) (arr F n (k+1)) 3:=by
   have:=kg1.set k (.int .i64 fk)
   rw [←HFK.out,arr_set _ _ _ hlt,HFK.out] at this
   exact this
  have hb2:Below w.heap.size w (w1.setCell ⟨w.heap.size+1,k,none⟩ (.int .i64 fk)):=(below_t5 HBW.out h1).setCell (p:=⟨w.heap.size+1,k,none⟩) (by simp) _
  have HK2:=hide (And.intro kb2 (And.intro kg2 hb2))
  clear kb1 kg1 kb2 kg2 hb2 h1 c0 c12 HKB HKG HBW hn1
  by_cases hf0:fk=0
  ·have hf1:(fk == 0)=true:=by simpa using hf0
   have HE:=hide (show ShR w cs zs n (.returned (.tuple #[.slice none 0 0,.int .i64 (k:Int),.int .i64 120])) (w1.setCell ⟨w.heap.size+1,k,none⟩ (.int .i64 fk)) from ⟨HK2.out.2.2,Or.inl ⟨k,shI_some (by rw [HN.out];exact hlt) (by rw [HF.out,HFK.out];exact hf0) (fun j hj=>by rw [HF.out];exact HALL.out j hj),hlt,rfl⟩⟩)
   clear hf0 hlt
   go_wp2_with fail
   go_ret3
   exact HE.out
  ·have hf1:(fk == 0)=false:=by simpa using hf0
   have HA2:=hide (show ∀j,j < k+1→F j≠0 from fun j hj=>by
    rcases Nat.lt_or_ge j k with h | h
    ·exact HALL.out j h
    ·rw [show j=k by omega,HFK.out];exact hf0)
   clear hf0
   go_wp2_with fail
   go_roundw
   case rel=>exact ⟨k+1,by go_num,hide ⟨by omega,HK2.out.1,HK2.out.2.1,HK2.out.2.2,HA2.out⟩⟩
   case measure=>simp [intOf];omega
def lgF (up:Int) (ad:List Int) (size:Int):List Int→Int→Option Int
 | [],s=>some s
 | g :: gs,s=>if wdB up ad g size then (if sumB s (wdI up ad g size) (s+wdI up ad g size) then lgF up ad size gs (sumV s (wdI up ad g size) (s+wdI up ad g size)) else none) else none
def lgV (r:Option Int):Value:=match r with | some s=>.tuple #[.int .i64 s,.bool true] | none=>.tuple #[.int .i64 0,.bool false]
theorem drop_zs (zs:List Int) (k:Nat) (h:k < zs.length):zs.drop k=zs.getD k 0 :: zs.drop (k+1):=by
 rw [List.drop_eq_getElem_cons h,List.getD_eq_getElem?_getD,List.getElem?_eq_getElem h];rfl
set_option maxRecDepth 8000 in
set_option maxHeartbeats 4000000 in
theorem long_any (m:Mt) (aa:Option Addr) (na ka:Nat) (ab:Option Addr) (nb kb:Nat) (vg vc:Value) (la:Option Addr) (n c:Nat) (zs:List Int) (size:Int) (w:World) (hn:zs.length=n) (hm:n≤100000) (hup:i64 m.up) (hx:∀x∈m.ad,i64 x) (hs:i64 size) (hna:m.ad.length=na) (hma:na≤1000000) (hA:Lst w aa m.ad) (hL:Lst w la zs) :
  Calls Tryz.prog 10 #[.agg (fcs m (.slice aa na ka) (.slice ab nb kb) vg vc),.slice la n c,.int .i64 size] w fun e w'=>e=.returned (lgV (lgF m.up m.ad size zs 0))∧Below w.heap.size w w':=by
 have hm':(n:Int)≤100000:=by omega
 have CWd:=hide (fun (g:Int) (u:World) (hu:Below w.heap.size w u)=>wd_any m aa ab na ka nb kb g size u hup hx hs hna hma (hA.below hu))
 have CAd:=hide (fun (a b:Int) (u:World)=>add_any a b u)
 obtain ⟨R,hR⟩:∃R,lgF m.up m.ad size zs 0=R:=⟨_,rfl⟩
 rw [hR]
 obtain ⟨up,sc,de,ga,b0,b1,b2,b3,lg,ad,be⟩:=m
 simp only [mcs] at CWd
 simp only at hR
 have HL:=hide hL
 have HN:=hide hn
 have HR:=hide hR
 clear hL hn hA hx hup hs hna hR
 have HB0:=hide ((Below.refl w.heap.size w).alloc (Nat.le_refl _) (.cells #[.int .i64 up,.int .i64 sc,.int .i64 de,.int .i64 ga,.int .i64 b0,.int .i64 b1,.int .i64 b2,.int .i64 b3,.bool lg,.slice aa na ka,.slice ab nb kb,vg,vc] 30))
 have HK0:=hide (Blk.new w #[.int .i64 up,.int .i64 sc,.int .i64 de,.int .i64 ga,.int .i64 b0,.int .i64 b1,.int .i64 b2,.int .i64 b3,.bool lg,.slice aa na ka,.slice ab nb kb,vg,vc] 30)
 go_enter Tryz.func10,Tryz.ntmps10
 go_wp2_with fail
 go_loopw [8,15] (fun vs vi wr=>∃(k:Nat) (s:Int),vi=.int .i64 k∧vs=.int .i64 s∧Hid (k≤n∧Blk wr w.heap.size #[.int .i64 up,.int .i64 sc,.int .i64 de,.int .i64 ga,.int .i64 b0,.int .i64 b1,.int .i64 b2,.int .i64 b3,.bool lg,.slice aa na ka,.slice ab nb kb,vg,vc] 30∧Below w.heap.size w wr∧lgF up ad size (zs.drop k) s=R)) (fun _ vi _=>n - (intOf vi).toNat)
 case atStart=>exact ⟨0,0,rfl,rfl,hide ⟨by omega,HK0.out,HB0.out,by rw [List.drop_zero];exact HR.out⟩⟩
 case round=>
  clear HB0 HK0 HR
  obtain ⟨k,s,rfl,rfl,HV⟩:=hrel
  obtain ⟨hk,hkb,hbw,hrr⟩:=HV.out
  have hk0:(0:Int)≤(k:Int):=by omega
  clear HV
  by_cases hlt:k < n
  case neg=>
   have hlt':¬(k:Int) < (n:Int):=by omega
   rw [List.drop_eq_nil_of_le (by rw [HN.out];omega),lgF] at hrr
   subst hrr
   have HB:=hide hbw
   clear hkb hbw hk hlt
   go_wp2_with fail
   go_ret2
   exact ⟨rfl,HB.out⟩
  have hlt':(k:Int) < (n:Int):=by omega
  obtain ⟨b,o,rfl,hbl,hcell⟩:∃b o,la=some ⟨b,o,none⟩∧b < w.heap.size∧∀i,i < zs.length→w.cell? ⟨b,o+i,none⟩=some (.int .i64 (zs.getD i 0)):=by
   rcases HL.out with hz' | h
   ·have:=HN.out
    rw [hz'] at this;simp at this;omega
   ·exact h
  obtain ⟨z,hz⟩:∃z,zs.getD k 0=z:=⟨_,rfl⟩
  have c0:=hcell k (by rw [HN.out];exact hlt)
  rw [←hbw.cell (p:=⟨b,o+k,none⟩) hbl,hz] at c0
  rw [drop_zs zs k (by rw [HN.out];exact hlt),hz,lgF] at hrr
  have hblw:b < wr.heap.size:=Nat.lt_of_lt_of_le hbl hbw.size
  have e0:=hkb.cell 0
  have e1:=hkb.cell 1
  have e2:=hkb.cell 2
  have e3:=hkb.cell 3
  have e4:=hkb.cell 4
  have e5:=hkb.cell 5
  have e6:=hkb.cell 6
  have e7:=hkb.cell 7
  have e8:=hkb.cell 8
  have e9:=hkb.cell 9
  have e10:=hkb.cell 10
  simp at e0 e1 e2 e3 e4 e5 e6 e7 e8 e9 e10
  have xlt:=hkb.lt
  have CW1:=hide (CWd.out z wr hbw)
  obtain ⟨WI,hWI⟩:∃W,wdI up ad z size=W:=⟨_,rfl⟩
  obtain ⟨WB,hWB⟩:∃W,wdB up ad z size=W:=⟨_,rfl⟩
  rw [hWI,hWB] at hrr
  simp only [hWI,hWB] at CW1
  have HKB:=hide hkb
  have HBW:=hide hbw
  have HRR:=hide hrr
  clear hcell hkb hbw hk hz hrr hWI hWB
  cases WB with
  | false=>
   have hRn:R=none:=by rw [←HRR.out];rfl
   subst hRn
   clear HRR
   go_wp2_with fail
   refine CW1.out.mono ?_
   rintro e w1 ⟨rfl,h1⟩
   have HB1:=hide (below_t5 HBW.out h1)
   clear h1 c0 e0 e1 e2 e3 e4 e5 e6 e7 e8 e9 e10
   go_wp2_with fail
   go_ret2
   exact ⟨rfl,HB1.out⟩
  | true=>
   obtain ⟨SV,hSV⟩:∃V,sumV s WI (s+WI)=V:=⟨_,rfl⟩
   obtain ⟨SB,hSB⟩:∃V,sumB s WI (s+WI)=V:=⟨_,rfl⟩
   have hrr:=HRR.out
   rw [hSV,hSB,if_pos rfl] at hrr
   have CA1:=hide (CAd.out s WI)
   simp only [hSV,hSB] at CA1
   clear HRR hSV hSB
   cases SB with
   | false=>
    have hRn:R=none:=by rw [←hrr];rfl
    subst hRn
    clear hrr
    go_wp2_with fail
    refine CW1.out.mono ?_
    rintro e w1 ⟨rfl,h1⟩
    have HB1:=hide (below_t5 HBW.out h1)
    clear h1 c0 e0 e1 e2 e3 e4 e5 e6 e7 e8 e9 e10
    go_wp2_with fail
    refine (CA1.out _).mono ?_
    rintro e w2 ⟨rfl,hw2⟩
    replace hw2:=hw2.symm
    subst hw2
    go_wp2_with fail
    go_ret2
    exact ⟨rfl,HB1.out⟩
   | true=>
    rw [if_pos rfl] at hrr
    have HRR:=hide hrr
    clear hrr
    go_wp2_with fail
    refine CW1.out.mono ?_
    rintro e w1 ⟨rfl,h1⟩
    have HB1:=hide (And.intro (HKB.out.below h1) (below_t5 HBW.out h1))
    clear h1 c0 e0 e1 e2 e3 e4 e5 e6 e7 e8 e9 e10
    go_wp2_with fail
    refine (CA1.out _).mono ?_
    rintro e w2 ⟨rfl,hw2⟩
    replace hw2:=hw2.symm
    subst hw2
    go_wp2_with fail
    go_roundw
    case rel=>exact ⟨k+1,SV,by go_num,rfl,hide ⟨by omega,HB1.out.1,HB1.out.2,HRR.out⟩⟩
    case measure=>simp [intOf];omega
end Go.Proofs.YtpaadbnlhapdbaaGreatDoor.F12
