/-
  Joined: F12F, F12G, F12H, F12I, F12J, F12K.
-/
import Derived.Test.YtpaadbnlhapdbaaGreatDoorL14
import Derived.Test.YtpaadbnlhapdbaaGreatDoorL18
import Derived.Test.YtpaadbnlhapdbaaGreatDoorL24
import Derived.Test.YtpaadbnlhapdbaaGreatDoorL25
import Derived.Test.YtpaadbnlhapdbaaGreatDoorL26
import Derived.Test.YtpaadbnlhapdbaaGreatDoorL30
import Derived.Test.YtpaadbnlhapdbaaGreatDoorL34
import Derived.Test.YtpaadbnlhapdbaaGreatDoorL46
namespace Go.Proofs.YtpaadbnlhapdbaaGreatDoor.F12
open Go.RowKit Go.Deep
set_option linter.unusedVariables false
set_option linter.unusedSimpArgs false
def lgM (m:Mt):Mt:=⟨m.up,m.sc,m.de,m.ga,m.b0,m.b1,m.b2,m.b3,true,m.ad,m.be⟩
def ltT (gs:List ByteArray):ByteArray:=⟨(G10.jl 0 gs++G10.p4 (((G10.jg gs).length:Nat):Int)).toArray⟩
def gtT (gs:List ByteArray):ByteArray:=⟨(G10.jg gs).toArray⟩
def ctT (cs:List C11.Ch):ByteArray:=⟨(C11.wiT cs).toArray⟩
abbrev locaS:ByteArray:=⟨#[108,111,99,97]⟩
abbrev glyfS:ByteArray:=⟨#[103,108,121,102]⟩
abbrev cmapS:ByteArray:=⟨#[99,109,97,112]⟩
def svT (m:Mt) (gs:List ByteArray) (cs:List C11.Ch):List Tab:=tabs (lgM m)++[(locaS,ltT gs),(glyfS,gtT gs),(cmapS,ctT cs)]
def svS (m:Mt) (gs:List ByteArray) (cs:List C11.Ch):ByteArray:=if ckV m gs cs=0 then S8.btS (svT m gs cs) else ⟨#[]⟩
def svE (m:Mt) (gs:List ByteArray) (cs:List C11.Ch):Int:=if ckV m gs cs=0 then S8.bErr (svT m gs cs) else ckV m gs cs
theorem good_lg {m:Mt} (h:goodB m=true):goodB (lgM m)=true:=h
theorem goo_up {cs:List C11.Ch} {n:Nat} (h:C11.gooB cs (n:Int)=true) (hn:n≤4096):C11.gooB cs 4096=true:=by
 obtain ⟨h1,h2⟩:=C11.gooB_iff.1 h
 refine C11.gooB_iff.2 ⟨h1,fun i hi=>?_⟩
 have h3:=h2 i hi
 unfold C11.okB at h3 ⊢
 rw [Bool.and_eq_true] at h3 ⊢
 refine ⟨?_,h3.2⟩
 rw [C11.fitB_t] at h3 ⊢
 omega
theorem ck_in {m:Mt} {gs:List ByteArray} {cs:List C11.Ch} (h:ckV m gs cs=0):goodB m=true∧gs.length=m.ad.length∧(1≤gs.length∧gs.length≤4096)∧C11.gooB cs (gs.length:Int)=true:=by
 unfold ckV at h
 split at h
 ·rename_i hg
  split at h
  ·rename_i hl
   have h4:=(good_in hg).2.2.2.1
   split at h
   ·cases h
   ·split at h
    ·cases h
    ·split at h
     ·rename_i hc
      exact ⟨hg,hl,by omega,hc⟩
     ·cases h
  ·cases h
 ·cases h
theorem wi_len (cs:List C11.Ch):(C11.wiT cs).length=28+12 * cs.length:=by
 unfold C11.wiT
 have e:∀l:List C11.Ch,(l.flatMap C11.g3).length=12 * l.length:=by
  intro l
  induction l with
  | nil=>rfl
  | cons x l ih=>rw [List.flatMap_cons,List.length_append,ih,List.length_cons];unfold C11.g3;rw [C11.fo_len];simp;omega
 rw [List.length_append,List.length_append,List.length_append,C11.fo_len,e]
 unfold C11.opT
 rw [List.length_append,List.length_append,C11.fo_len,C11.tw_len]
 simp
theorem sv_size {m:Mt} {gs:List ByteArray} {cs:List C11.Ch} (hj:(G10.jg gs).length≤1048576) (hg:gs.length≤4096) (hc:cs.length≤4096) (hn:m.ad.length≤4096):∀x∈svT m gs cs,x.1.size≤1073741824∧x.2.size≤1073741824:=by
 intro x hx
 unfold svT tabs at hx
 simp at hx
 have sz:∀l:List UInt8,(⟨l.toArray⟩:ByteArray).size=l.length:=fun l=>by simp [ByteArray.size]
 rcases hx with rfl | rfl | rfl | rfl | rfl | rfl | rfl
 ·exact ⟨(show (4:Nat)≤1073741824 by omega),by rw [sz,hdT_len];omega⟩
 ·exact ⟨(show (4:Nat)≤1073741824 by omega),by rw [sz,hhT_len];omega⟩
 ·exact ⟨(show (4:Nat)≤1073741824 by omega),by rw [sz,hmT_len];show 4 * m.ad.length≤_;omega⟩
 ·exact ⟨(show (4:Nat)≤1073741824 by omega),by rw [sz,mxT_len];omega⟩
 ·exact ⟨(show (4:Nat)≤1073741824 by omega),by unfold ltT;rw [sz,List.length_append,G10.jl_len];unfold G10.p4;simp;omega⟩
 ·exact ⟨(show (4:Nat)≤1073741824 by omega),by unfold gtT;rw [sz];omega⟩
 ·exact ⟨(show (4:Nat)≤1073741824 by omega),by unfold ctT;rw [sz,wi_len];omega⟩
theorem tab_row {w:World} {B g n:Nat} {m:Mt} (hn:m.ad.length=n) (h:Blk w g (tabC m n) 79) (hB:B≤g):S8.TbRow w B (.slice (some ⟨g,0,none⟩) 4 4) (tabs m):=by
 subst hn
 exact ⟨rfl,Or.inr ⟨g,4,_,rfl,hB,h,Nat.le_refl _,by unfold maxLen;omega,rfl,rfl⟩⟩
theorem app_tab3 {W:World} {B:Nat} {v:Value} {l:List Tab} (x y z:Tab) (h:S8.TbRow W B v l) (hB:B≤W.heap.size) (hl:l.length≤1000) (H:Nat) (hH:W.heap.size=H) :
  ∃g cap w2,(Builtin.append_ #[47,47] 47 #[v,.slice (some ⟨H,0,none⟩) 3 3]).run Tryz.prog (W.alloc (.cells #[.string x.1,.string x.2,.string y.1,.string y.2,.string z.1,.string z.2] 79))=.ok (.slice (some ⟨g,0,none⟩) (l.length+3) cap) w2∧S8.TbRow w2 B (.slice (some ⟨g,0,none⟩) (l.length+3) cap) (l++[x,y,z])∧Below B W w2:=by
 obtain ⟨i0,hi,hz0,hz1,hz2⟩:=info_parts5 S8.info_tab
 subst hH
 obtain ⟨g,cap,w2,hr,ho,hg,_,_⟩:=run_append_lies (P:=Tryz.prog) (W.alloc (.cells #[.string x.1,.string x.2,.string y.1,.string y.2,.string z.1,.string z.2] 79)) 47 47 B 79 i0 _ 2 32 Tryz.underlying47 hi hz0 hz1 hz2 rfl (by decide) v l.length (S8.tcs l) (World.ownsRow.alloc h _) ⟨W.heap.size,0,none⟩ 3 3 [.string x.1,.string x.2,.string y.1,.string y.2,.string z.1,.string z.2] (by simp)
  (fun j u hu=>by rw [Go.WideShapes.add_plain,Nat.zero_add,World.cell?_alloc_at _ _ _ _ rfl];simpa using hu) (fun u hu=>by simp at hu;rcases hu with rfl | rfl | rfl | rfl | rfl | rfl <;> rfl) (by decide) (by unfold maxLen;omega) (by omega) (by simp;omega) (W.heap.size+1) (by simp)
 refine ⟨g,cap,w2,hr,?_,((Below.refl B W).alloc hB _).grown hg (by simp;omega) fun k hk'=>(World.ownsRow.lt h k hk').1⟩
 unfold S8.TbRow
 have e:S8.tcs (l++[x,y,z])=S8.tcs l++[.string x.1,.string x.2,.string y.1,.string y.2,.string z.1,.string z.2]:=by unfold S8.tcs;simp
 rw [e,List.length_append]
 exact ho
theorem row_tlst {w:World} {B g cap n:Nat} {l:List Tab} (h:S8.TbRow w B (.slice (some ⟨g,0,none⟩) n cap) l) (hn:l.length=n):S8.TLst w (some ⟨g,0,none⟩) l:=by
 subst hn
 refine Or.inr ⟨g,0,rfl,(World.ownsRow.lt h g rfl).2,fun i x hx=>?_⟩
 have hi:=(List.getElem?_eq_some_iff.1 hx).1
 rw [Nat.zero_add,S8.TbRow.cell h _ (by omega),S8.TbRow.cell h _ (by omega)]
 have : ∀(l:List Tab) (i:Nat) (x:Tab),l[i]?=some x→(S8.tcs l)[i * 2]?=some (.string x.1)∧(S8.tcs l)[i * 2+1]?=some (.string x.2):=by
  intro l
  induction l with
  | nil=>intro i x h;simp at h
  | cons y l ih=>
   intro i x h
   have e:S8.tcs (y :: l)=.string y.1 :: .string y.2 :: S8.tcs l:=by unfold S8.tcs;simp
   rw [e]
   cases i with
   | zero=>simp at h;subst h;exact ⟨rfl,rfl⟩
   | succ i=>
    have:=ih i x (by simpa using h)
    rw [show (i+1) * 2=i * 2+1+1 by omega]
    simpa using this
 exact this l i x hx
set_option maxRecDepth 8000 in
set_option maxHeartbeats 8000000 in
theorem save_any (m:Mt) (aa ab ga ca:Option Addr) (na nb ng nc ka kb kg kc:Nat) (gs:List ByteArray) (cs:List C11.Ch) (w:World) (hna:m.ad.length=na) (hnb:m.be.length=nb) (hng:gs.length=ng) (hnc:cs.length=nc) (hma:na≤1000000) (hmb:nb≤1000000) (hmg:ng≤1000000) (hmc:nc≤1000000) (hz:∀g∈gs,g.size≤1000000) (hjg:(G10.jg gs).length≤1048576) (hA:Lst w aa m.ad) (hB:Lst w ab m.be) (hG:G10.SLst w ga gs) (hC:C11.CLst w ca cs) (hW:S8.Glo8 w) :
  Calls Tryz.prog 11 #[.agg (fcs m (.slice aa na ka) (.slice ab nb kb) (.slice ga ng kg) (.slice ca nc kc))] w fun e w'=>e=.returned (.tuple #[.string (svS m gs cs),.int .i64 (svE m gs cs)])∧Below w.heap.size w w':=by
 have bw:=(Below.refl w.heap.size w).alloc (Nat.le_refl _) (.cells (fcs m (.slice aa na ka) (.slice ab nb kb) (.slice ga ng kg) (.slice ca nc kc)) 30)
 have k1:=Blk.new w (fcs m (.slice aa na ka) (.slice ab nb kb) (.slice ga ng kg) (.slice ca nc kc)) 30
 have CK:=hide (check_any m aa ab ga ca na nb ng nc ka kb kg kc gs cs _ hna hnb hng hnc hma hmb hmg hmc hz (hA.below bw) (hB.below bw) (hG.below bw) (hC.below bw))
 have CJ:=hide (fun (u:World) (hu:Below w.heap.size w u)=>G10.join_any ga gs ng kg u hng hmg hjg (hG.below hu))
 have CB:=hide (fun (u:World) (hu:Below w.heap.size w u) (hn:nb=na) (hg:goodB m=true)=>bld_any (lgM m) aa ab na ka kb u hna (by rw [←hn];exact hnb) (hA.below hu) (hB.below hu) (good_lg hg))
 have CC:=hide (fun (u:World) (hu:Below w.heap.size w u) (h:C11.gooB cs 4096=true)=>C11.build_wide ca cs nc kc u hnc (hC.below hu) h)
 have HIN:=hide (fun h:ckV m gs cs=0=>ck_in h)
 have HS:=hide (show svS m gs cs=if ckV m gs cs=0 then S8.btS (svT m gs cs) else ⟨#[]⟩ from rfl)
 have HE:=hide (show svE m gs cs=if ckV m gs cs=0 then S8.bErr (svT m gs cs) else ckV m gs cs from rfl)
 generalize svS m gs cs=RS at HS ⊢
 generalize svE m gs cs=RE at HE ⊢
 obtain ⟨zk,hck⟩:∃c,ckV m gs cs=c:=⟨_,rfl⟩
 rw [hck] at CK HS HE HIN
 have HB1:=hide bw
 have HK1:=hide k1
 have HNN:=hide (And.intro hna (And.intro hnb (And.intro hng hnc)))
 have HW:=hide hW
 have HJG:=hide hjg
 obtain ⟨up,sc,de,gap,b0,b1,b2,b3,lg,ad,be⟩:=m
 clear hna hnb hng hnc hz hA hB hG hC bw k1 hck hW hjg
 simp only [mcs,fcs,lgM] at CK CB HB1 HK1 HIN HNN ⊢
 go_enter Tryz.func11,Tryz.ntmps11
 go_wp2_with fail
 refine CK.out.mono ?_
 rintro e w1 ⟨rfl,h1⟩
 have hk:=HK1.out.below h1
 have e11:=hk.cell 11
 simp at e11
 have xlt:=hk.lt
 have HB2:=hide (below_t5 HB1.out h1)
 have HK2:=hide hk
 clear h1 hk HB1 HK1
 by_cases hc0:zk=0
 case neg=>
  have S0:=HS.out
  have E0:=HE.out
  rw [if_neg hc0] at S0 E0
  subst S0 E0
  have hc1:(RE == 0)=false:=by simpa using hc0
  go_wp2_with fail
  go_ret2
  exact ⟨rfl,HB2.out⟩
 subst hc0
 have S0:=HS.out
 have E0:=HE.out
 rw [if_pos rfl] at S0 E0
 obtain ⟨hg,hl,h4,hgc⟩:=HIN.out rfl
 have hnn:=HNN.out
 try simp only at hl
 try simp only at hnn
 have CJ1:=hide (CJ.out w1 HB2.out)
 unfold G10.JnR at CJ1
 simp only [h4.1,h4.2,and_self,↓reduceIte] at CJ1
 have hnb:nb=na:=by have:=(good_in hg).2.2.2.2.1;(try simp only at this);omega
 have CB1:=hide (fun (u:World) (hu:Below w.heap.size w u)=>CB.out u hu hnb hg)
 have CC1:=hide (fun (u:World) (hu:Below w.heap.size w u)=>CC.out u hu (goo_up hgc h4.2))
 have HH:=hide (And.intro hg hgc)
 have HSE:=hide (And.intro S0 E0)
 have HL4:=hide h4
 subst hnb
 clear S0 E0 hg hl hgc hnn h4 CB CC CJ CK HS HE HIN
 generalize hLT:(⟨(G10.jl 0 gs++G10.p4 (((G10.jg gs).length:Nat):Int)).toArray⟩:ByteArray)=LT at CJ1
 generalize hGT:(⟨(G10.jg gs).toArray⟩:ByteArray)=GT at CJ1
 generalize hCT:(⟨(C11.wiT cs).toArray⟩:ByteArray)=CT at CC1
 have HLT:=hide hLT
 have HGT:=hide hGT
 have HCT:=hide hCT
 clear hLT hGT hCT
 go_wp2_with fail
 refine CJ1.out.mono ?_
 rintro e w2 ⟨rfl,h2⟩
 have hk:=HK2.out.below h2
 have e0:=hk.cell 0
 have e1:=hk.cell 1
 have e2:=hk.cell 2
 have e3:=hk.cell 3
 have e4:=hk.cell 4
 have e5:=hk.cell 5
 have e6:=hk.cell 6
 have e7:=hk.cell 7
 have e8:=hk.cell 8
 have e9:=hk.cell 9
 have e10:=hk.cell 10
 simp at e0 e1 e2 e3 e4 e5 e6 e7 e8 e9 e10
 have xlt2:=hk.lt
 have HB3:=hide (below_t5 HB2.out h2)
 have HK3:=hide hk
 clear h2 hk HB2 HK2 e11 xlt CJ1
 go_wp2_with fail
 have hb3:Below w.heap.size w (w2.alloc (.cells #[.int .i64 up,.int .i64 sc,.int .i64 de,.int .i64 gap,.int .i64 b0,.int .i64 b1,.int .i64 b2,.int .i64 b3,.bool true,.slice aa nb ka,.slice ab nb kb] 26)):=HB3.out.alloc HB3.out.size _
 have hk3:=HK3.out.below ((Below.refl w2.heap.size w2).alloc (Nat.le_refl _) (.cells #[.int .i64 up,.int .i64 sc,.int .i64 de,.int .i64 gap,.int .i64 b0,.int .i64 b1,.int .i64 b2,.int .i64 b3,.bool true,.slice aa nb ka,.slice ab nb kb] 26))
 refine (CB1.out _ hb3).mono ?_
 rintro e w3 ⟨g,rfl,hT,hgg,h3⟩
 have hk:=hk3.below h3
 have e12:=hk.cell 12
 simp at e12
 have xlt3:=hk.lt
 have hb4:=below_t5 hb3 h3
 have hrow:=tab_row (B:=w.heap.size) (m:=lgM ⟨up,sc,de,gap,b0,b1,b2,b3,lg,ad,be⟩) HNN.out.1 hT (Nat.le_trans hb3.size hgg)
 have HROW:=hide hrow
 have HB4:=hide hb4
 have CC2:=hide (CC1.out w3 hb4)
 clear hb3 hk3 HB3 HK3 hT hgg h3 hk hb4 hrow e0 e1 e2 e3 e4 e5 e6 e7 e8 e9 e10 xlt2 CB1 CC1
 go_wp2_with fail
 refine CC2.out.mono ?_
 rintro e w4 ⟨rfl,h4⟩
 have hb5:=below_t5 HB4.out h4
 obtain ⟨g2,cap,w5,hr,hrow5,hb6⟩:=app_tab3 (locaS,LT) (glyfS,GT) (cmapS,CT) (HROW.out.later h4) hb5.size (show (4:Nat)≤1000 by omega) w4.heap.size rfl
 have hb7:=hb5.trans hb6
 have HR:=hide hr
 have e7:tabs (lgM ⟨up,sc,de,gap,b0,b1,b2,b3,lg,ad,be⟩)++[(locaS,LT),(glyfS,GT),(cmapS,CT)]=svT ⟨up,sc,de,gap,b0,b1,b2,b3,lg,ad,be⟩ gs cs:=by unfold svT ltT gtT ctT;rw [HLT.out,HGT.out,HCT.out]
 rw [e7] at hrow5
 have CS:=hide (S8.build_any (some ⟨g2,0,none⟩) _ 7 cap w5 rfl (by omega) (sv_size HJG.out HL4.out.2 (C11.gooB_iff.1 HH.out.2).1 (by have:=(good_in HH.out.1).2.2.2.1;omega)) (row_tlst hrow5 rfl) ((HW.out.below (w':=w5) hb7)))
 unfold S8.BuR at CS
 rw [←HSE.out.1,←HSE.out.2] at CS
 have HB7:=hide hb7
 clear h4 hb5 hr hrow5 hb6 hb7 e7 HROW HB4 CC2 e12 xlt3
 go_wp2_with (at_builtin;refine Lib.wpList_append_run _ rfl _ _ _ _ rfl _ _ rfl rfl _ _ HR.out ?_)
 refine CS.out.mono ?_
 rintro e w6 ⟨rfl,h6⟩
 have HB8:=hide (below_t5 HB7.out h6)
 clear h6
 go_wp2_with fail
 go_ret2
 exact ⟨rfl,HB8.out⟩
def lcs (s:ByteArray) (vt:Value) (m:Mt) (va vb vg vc:Value) (fl:Int):Array Value:=#[.string s,vt,.int .i64 m.up,.int .i64 m.sc,.int .i64 m.de,.int .i64 m.ga,.int .i64 m.b0,.int .i64 m.b1,.int .i64 m.b2,.int .i64 m.b3,.bool m.lg,va,vb,vg,vc,.int .i64 fl]
abbrev thr (er:Int):Ending:=.panicked [{ v:=.iface 31 (.int .i64 er),recovered:=false }]
def LB (w:World) (L:Nat) (s:ByteArray) (vt:Value) (m:Mt) (va vb vg vc:Value) (fl:Int):Prop:=Blk w L (lcs s vt m va vb vg vc fl) 49
theorem LB.below {w w':World} {L:Nat} {s:ByteArray} {vt:Value} {m:Mt} {va vb vg vc:Value} {fl:Int} (h:LB w L s vt m va vb vg vc fl) (hb:Below w.heap.size w w'):LB w' L s vt m va vb vg vc fl:=Blk.below h hb
theorem LB.lt {w:World} {L:Nat} {s:ByteArray} {vt:Value} {m:Mt} {va vb vg vc:Value} {fl:Int} (h:LB w L s vt m va vb vg vc fl):L < w.heap.size:=Blk.lt h
theorem LB.fault {w:World} {L:Nat} {s:ByteArray} {vt:Value} {m:Mt} {va vb vg vc:Value} {fl:Int} (h:LB w L s vt m va vb vg vc fl) (er:Int):LB (w.setCell ⟨L,15,none⟩ (.int .i64 er)) L s vt m va vb vg vc er:=Blk.set h 15 (.int .i64 er)
theorem LB.tabs {w:World} {L:Nat} {s:ByteArray} {vt:Value} {m:Mt} {va vb vg vc:Value} {fl:Int} (h:LB w L s vt m va vb vg vc fl) (v:Value):LB (w.setCell ⟨L,1,none⟩ v) L s v m va vb vg vc fl:=Blk.set h 1 v
theorem LB.glyphs {w:World} {L:Nat} {s:ByteArray} {vt:Value} {m:Mt} {va vb vg vc:Value} {fl:Int} (h:LB w L s vt m va vb vg vc fl) (v:Value):LB (w.setCell ⟨L,13,none⟩ v) L s vt m va vb v vc fl:=Blk.set h 13 v
theorem LB.chars {w:World} {L:Nat} {s:ByteArray} {vt:Value} {m:Mt} {va vb vg vc:Value} {fl:Int} (h:LB w L s vt m va vb vg vc fl) (v:Value):LB (w.setCell ⟨L,14,none⟩ v) L s vt m va vb vg v fl:=Blk.set h 14 v
theorem must_ok (L:Nat) (w:World):Calls Tryz.prog 74 #[.pointer (some ⟨L,0,none⟩),.int .i64 0] w fun e w'=>e=.returned (.tuple #[])∧w'=w:=by
 go_enter Tryz.func74,Tryz.ntmps74
 go_wp2
 go_end0
 exact ⟨rfl,rfl⟩
theorem must_no (L:Nat) (er:Int) (s:ByteArray) (vt:Value) (m:Mt) (va vb vg vc:Value) (fl:Int) (w:World) (h:LB w L s vt m va vb vg vc fl) (he:er≠0):Calls Tryz.prog 74 #[.pointer (some ⟨L,0,none⟩),.int .i64 er] w fun e w'=>e=thr er∧w'=w.setCell ⟨L,15,none⟩ (.int .i64 er):=by
 have c15:=Blk.cell h 15
 simp [lcs] at c15
 have f15:=Blk.frozen h 15
 have hlt:=h.lt
 have he':(er == 0)=false:=by simpa using he
 clear h
 go_enter Tryz.func74,Tryz.ntmps74
 go_wp2
 exact ⟨rfl,rfl,rfl⟩
theorem count_any (L:Nat) (s:ByteArray) (vt:Value) (m:Mt) (aa:Option Addr) (na ka:Nat) (vb vg vc:Value) (fl:Int) (w:World) (h:LB w L s vt m (.slice aa na ka) vb vg vc fl):Calls Tryz.prog 78 #[.pointer (some ⟨L,0,none⟩)] w fun e w'=>e=.returned (.int .i64 (na:Int))∧w'=w:=by
 have c11:=Blk.cell h 11
 simp [lcs] at c11
 have hlt:=h.lt
 clear h
 go_enter Tryz.func78,Tryz.ntmps78
 go_wp2_with fail
 go_ret
 exact ⟨rfl,rfl⟩
def TbR (L:Nat) (s:ByteArray) (vt:Value) (m:Mt) (va vb vg vc:Value) (w:World) (lack:Int) (r:Option ByteArray) (e:Ending) (w':World):Prop:=match r with
 | some d=>e=.returned (.string d)∧Below w.heap.size w w'
 | none=>e=thr lack∧But L w w'∧LB w' L s vt m va vb vg vc lack
set_option maxHeartbeats 2000000 in
theorem table_any (L:Nat) (s:ByteArray) (a:Option Addr) (l:List Tab) (n c:Nat) (m:Mt) (va vb vg vc:Value) (fl:Int) (t:ByteArray) (lack:Int) (w:World) (h:LB w L s (.slice a n c) m va vb vg vc fl) (hn:l.length=n) (hm:n≤1000) (hd:∀x∈l,x.2.size≤1073741824) (hL:TLst w a l) (hl:lack≠0) :
  Calls Tryz.prog 76 #[.pointer (some ⟨L,0,none⟩),.string t,.int .i64 lack] w (TbR L s (.slice a n c) m va vb vg vc w lack (finV l t)):=by
 have CF:=hide (find_any a l n c t w hn (by omega) (fun x hx=>by have:=hd x hx;omega) hL)
 have c1:=Blk.cell h 1
 simp [lcs] at c1
 have hlt:=h.lt
 have H:=hide h
 clear h hn hm hd hL
 generalize finV l t=R at CF ⊢
 cases R with
 | some d=>
  simp only [fnR] at CF
  go_enter Tryz.func76,Tryz.ntmps76
  go_wp2_with fail
  refine CF.out.mono ?_
  rintro e w1 ⟨rfl,h1⟩
  have HB:=hide h1
  clear h1
  go_wp2_with fail
  go_ret
  exact ⟨rfl,HB.out⟩
 | none=>
  simp only [fnR] at CF
  go_enter Tryz.func76,Tryz.ntmps76
  go_wp2_with fail
  refine CF.out.mono ?_
  rintro e w1 ⟨rfl,h1⟩
  have H1:=H.out.below h1
  have CM:=hide (must_no L lack s _ m va vb vg vc fl w1 H1 hl)
  have HB:=hide h1
  have HF:=hide (H1.fault lack)
  clear h1 H1
  go_wp2_with fail
  refine CM.out.mono ?_
  rintro e w2 ⟨rfl,rfl⟩
  exact ⟨rfl,rfl,(But.of_below HB.out).trans (But.setCell _ _ _ _),HF.out⟩
theorem tlst_set {w:World} {L:Nat} {cs:Array Value} {t:TypeId} {a:Option Addr} {l:List Tab} (h:TLst w a l) (hk:Blk w L cs t) (j:Nat) (hj:∀x,cs[j]?≠some (.string x)) (v:Value):TLst (w.setCell ⟨L,j,none⟩ v) a l:=by
 rcases h with h | ⟨b,o,h1,h2,h3⟩
 ·exact Or.inl h
 ·have key:∀k x,w.cell? ⟨b,k,none⟩=some (.string x)→(w.setCell ⟨L,j,none⟩ v).cell? ⟨b,k,none⟩=some (.string x):=fun k x hx=>by
   rw [World.cell?_setCell_other]
   ·exact hx
   ·intro e
    rw [←e,hk.cell j] at hx
    exact hj x hx
  refine Or.inr ⟨b,o,h1,by simpa [World.setCell] using h2,fun i x hi=>⟨key _ _ (h3 i x hi).1,key _ _ (h3 i x hi).2⟩⟩
theorem slst_set {w:World} {L:Nat} {cs:Array Value} {t:TypeId} {a:Option Addr} {l:List ByteArray} (h:G10.SLst w a l) (hk:Blk w L cs t) (j:Nat) (hj:∀x,cs[j]?≠some (.string x)) (v:Value):G10.SLst (w.setCell ⟨L,j,none⟩ v) a l:=by
 rcases h with h | ⟨b,o,h1,h2,h3⟩
 ·exact Or.inl h
 ·refine Or.inr ⟨b,o,h1,by simpa [World.setCell] using h2,fun i hi=>?_⟩
  rw [World.cell?_setCell_other]
  ·exact h3 i hi
  ·intro e
   have hx:=h3 i hi
   rw [←e,hk.cell j] at hx
   exact hj _ hx
theorem lst_set {w:World} {L:Nat} {cs:Array Value} {t:TypeId} {a:Option Addr} {l:List Int} (h:Lst w a l) (hk:Blk w L cs t) (j:Nat) (hj:∀x,cs[j]?≠some (.int .i64 x)) (v:Value):Lst (w.setCell ⟨L,j,none⟩ v) a l:=by
 rcases h with h | ⟨b,o,h1,h2,h3⟩
 ·exact Or.inl h
 ·refine Or.inr ⟨b,o,h1,by simpa [World.setCell] using h2,fun i hi=>?_⟩
  rw [World.cell?_setCell_other]
  ·exact h3 i hi
  ·intro e
   have hx:=h3 i hi
   rw [←e,hk.cell j] at hx
   exact hj _ hx
theorem arr_lst {w:World} {p n:Nat} {f:Nat→Int} (h:Blk w p (arr f n n) 3):Lst w (some ⟨p,0,none⟩) ((List.range n).map f):=by
 refine Or.inr ⟨p,0,rfl,h.lt,fun i hi=>?_⟩
 have hi':i < n:=by simpa using hi
 rw [Nat.zero_add,h.cell i,arr_at _ _ _ _ hi',if_pos hi']
 simp [List.getD_eq_getElem?_getD,hi']
def DiR (L:Nat) (s:ByteArray) (vt:Value) (m:Mt) (va vb vg vc:Value) (fl:Int) (w:World) (e:Ending) (w':World):Prop:=
 But L w w'∧((S8.errV s.data.toList=0∧e=.returned (.tuple #[])∧∃a n c,(S8.tabV s).length=n∧LB w' L s (.slice a n c) m va vb vg vc fl∧TLst w' a (S8.tabV s))∨(S8.errV s.data.toList≠0∧e=thr (S8.errV s.data.toList)∧LB w' L s vt m va vb vg vc (S8.errV s.data.toList)))
set_option maxHeartbeats 2000000 in
theorem directory_any (L:Nat) (s:ByteArray) (a0:Option Addr) (n0 c0:Nat) (m:Mt) (va vb vg vc:Value) (fl:Int) (w:World) (h:LB w L s (.slice a0 n0 c0) m va vb vg vc fl) (hs:s.size≤1000000) (hG:S8.Glo8 w) :
  Calls Tryz.prog 32 #[.pointer (some ⟨L,0,none⟩)] w (DiR L s (.slice a0 n0 c0) m va vb vg vc fl w):=by
 have CR:=hide (S8.read_gen s w hG (by omega))
 unfold S8.RdR at CR
 have c0':=Blk.cell h 0
 simp [lcs] at c0'
 have hlt:=h.lt
 have H:=hide h
 have HR:Hid (∀(e:Ending) (w':World),(But L w w'∧((S8.errV s.data.toList=0∧e=.returned (.tuple #[])∧∃a n c,(S8.tabV s).length=n∧LB w' L s (.slice a n c) m va vb vg vc fl∧TLst w' a (S8.tabV s))∨(S8.errV s.data.toList≠0∧e=thr (S8.errV s.data.toList)∧LB w' L s (.slice a0 n0 c0) m va vb vg vc (S8.errV s.data.toList))))→DiR L s (.slice a0 n0 c0) m va vb vg vc fl w e w'):=hide fun e w' h=>h
 clear h hs hG
 generalize S8.errV s.data.toList=er at CR HR
 generalize S8.tabV s=l at CR HR
 go_enter Tryz.func32,Tryz.ntmps32
 go_wp2_with fail
 refine CR.out.mono ?_
 rintro e w1 ⟨v,rfl,hrow,h1⟩
 obtain ⟨a,cap,hv,hT⟩:=hrow.lst
 subst hv
 have H1:=H.out.below h1
 have HB:=hide h1
 have HT:=hide hT
 clear h1 hrow hT CR c0' hlt
 by_cases he:er=0
 ·subst he
  have CM:=hide (must_ok L w1)
  have hS:=tlst_set (l:=l) HT.out H1 1 (fun x=>by simp [lcs]) (.slice a l.length cap)
  have c1:=Blk.cell H1 1
  simp [lcs] at c1
  have f1:=Blk.frozen H1 1
  have hlt:=H1.lt
  have HE:=hide (HR.out (.returned (.tuple #[])) (w1.setCell ⟨L,1,none⟩ (.slice a l.length cap)) ⟨(But.of_below HB.out).trans (But.setCell _ _ _ _),Or.inl ⟨rfl,rfl,a,_,cap,rfl,H1.tabs _,hS⟩⟩)
  clear HR
  clear H1 hS HT HB
  go_wp2_with fail
  refine CM.out.mono ?_
  rintro e w2 ⟨rfl,rfl⟩
  go_wp2_with fail
  go_end0
  exact HE.out
 ·have CM:=hide (must_no L er s _ m va vb vg vc fl w1 H1 he)
  have HE:=hide (HR.out (thr er) (w1.setCell ⟨L,15,none⟩ (.int .i64 er)) ⟨(But.of_below HB.out).trans (But.setCell _ _ _ _),Or.inr ⟨he,rfl,H1.fault er⟩⟩)
  clear HR
  clear H1 HB HT
  go_wp2_with fail
  refine CM.out.mono ?_
  rintro e w2 ⟨rfl,rfl⟩
  exact ⟨rfl,HE.out⟩
theorem tlst_but {w w':World} {L:Nat} {cs cs':Array Value} {t t':TypeId} {a:Option Addr} {l:List Tab} (h:TLst w a l) (hb:But L w w') (hk:Blk w L cs t) (hk':Blk w' L cs' t') (hj:∀(j:Nat) (x:ByteArray),cs[j]?=some (Value.string x)→cs'[j]?=some (Value.string x)):TLst w' a l:=by
 rcases h with h | ⟨b,o,h1,h2,h3⟩
 ·exact Or.inl h
 ·have key:∀k x,w.cell? ⟨b,k,none⟩=some (.string x)→w'.cell? ⟨b,k,none⟩=some (.string x):=fun k x hx=>by
   by_cases hbL:b=L
   ·subst hbL
    rw [hk.cell k] at hx
    rw [hk'.cell k]
    exact hj k x hx
   ·rw [World.cell?_of_block (w:=w) (hb.block b h2 hbL)]
    exact hx
  exact Or.inr ⟨b,o,h1,Nat.lt_of_lt_of_le h2 hb.size,fun i x hi=>⟨key _ _ (h3 i x hi).1,key _ _ (h3 i x hi).2⟩⟩
def rdM (mx hd hh hx:ByteArray):Mt:=⟨((n2 hd.data.toList 18:Nat):Int),s2 hh.data.toList 4,s2 hh.data.toList 6,s2 hh.data.toList 8,s2 hd.data.toList 36,s2 hd.data.toList 38,s2 hd.data.toList 40,s2 hd.data.toList 42,(((n2 hd.data.toList 50:Nat):Int) == 1),(List.range (nV mx)).map (advF hx (hV hh)),(List.range (nV mx)).map (beaF hx (hV hh))⟩
def zM:Mt:=⟨0,0,0,0,0,0,0,0,false,[],[]⟩
abbrev vn:Value:=.slice none 0 0
def rdO (l:List Tab):Option Mt:=(readV l).map fun x=>rdM x.1 x.2.1 x.2.2.1 x.2.2.2
theorem read_n {l:List Tab} {mx hd hh hx:ByteArray} (h:readV l=some (mx,hd,hh,hx)):1≤nV mx∧nV mx≤4096:=by
 unfold readV at h
 split at h
 ·split at h
  ·rename_i hA
   injection h with h
   injection h with h1 h2
   subst h1
   unfold allB at hA
   rw [Bool.and_eq_true,Bool.and_eq_true] at hA
   exact mx_bd hA.1.2
  ·cases h
 ·cases h
def MeR (L:Nat) (s:ByteArray) (a:Option Addr) (n c:Nat) (l:List Tab) (w:World) (e:Ending) (w':World):Prop:=But L w w'∧match rdO l with
 | none=>e=thr 90∧LB w' L s (.slice a n c) zM vn vn vn vn 90
 | some m=>e=.returned (.tuple #[])∧∃p q k,(w.heap.size≤p∧w.heap.size≤q)∧m.ad.length=k∧m.be.length=k∧(1≤k∧k≤4096)∧LB w' L s (.slice a n c) m (.slice (some ⟨p,0,none⟩) k k) (.slice (some ⟨q,0,none⟩) k k) vn vn 0∧Lst w' (some ⟨p,0,none⟩) m.ad∧Lst w' (some ⟨q,0,none⟩) m.be∧TLst w' a l
theorem store_met {w:World} {L:Nat} {s:ByteArray} {vt:Value} (h:LB w L s vt zM vn vn vn vn 0) (v0 v1 v2 v3 v4 v5 v6 v7 v8 v9 v10:Value) :
  Blk (((((((((((w.setCell ⟨L,2,none⟩ v0).setCell ⟨L,3,none⟩ v1).setCell ⟨L,4,none⟩ v2).setCell ⟨L,5,none⟩ v3).setCell ⟨L,6,none⟩ v4).setCell ⟨L,7,none⟩ v5).setCell ⟨L,8,none⟩ v6).setCell ⟨L,9,none⟩ v7).setCell ⟨L,10,none⟩ v8).setCell ⟨L,11,none⟩ v9).setCell ⟨L,12,none⟩ v10) L #[.string s,vt,v0,v1,v2,v3,v4,v5,v6,v7,v8,v9,v10,vn,vn,.int .i64 0] 49∧But L w (((((((((((w.setCell ⟨L,2,none⟩ v0).setCell ⟨L,3,none⟩ v1).setCell ⟨L,4,none⟩ v2).setCell ⟨L,5,none⟩ v3).setCell ⟨L,6,none⟩ v4).setCell ⟨L,7,none⟩ v5).setCell ⟨L,8,none⟩ v6).setCell ⟨L,9,none⟩ v7).setCell ⟨L,10,none⟩ v8).setCell ⟨L,11,none⟩ v9).setCell ⟨L,12,none⟩ v10):=by
 refine ⟨?_,((((((((((((But.refl L w).trans (But.setCell L _ 2 v0)).trans (But.setCell L _ 3 v1)).trans (But.setCell L _ 4 v2)).trans (But.setCell L _ 5 v3)).trans (But.setCell L _ 6 v4)).trans (But.setCell L _ 7 v5)).trans (But.setCell L _ 8 v6)).trans (But.setCell L _ 9 v7)).trans (But.setCell L _ 10 v8)).trans (But.setCell L _ 11 v9)).trans (But.setCell L _ 12 v10))⟩
 have:=(Blk.set (Blk.set (Blk.set (Blk.set (Blk.set (Blk.set (Blk.set (Blk.set (Blk.set (Blk.set (Blk.set h 2 v0) 3 v1) 4 v2) 5 v3) 6 v4) 7 v5) 8 v6) 9 v7) 10 v8) 11 v9) 12 v10)
 simpa [lcs,zM] using this
set_option maxRecDepth 8000 in
set_option maxHeartbeats 4000000 in
theorem metrics_any (L:Nat) (s:ByteArray) (a:Option Addr) (l:List Tab) (n c:Nat) (w:World) (h:LB w L s (.slice a n c) zM vn vn vn vn 0) (hn:l.length=n) (hm:n≤1000) (hd:∀x∈l,x.2.size≤1000000) (hL:TLst w a l) :
  Calls Tryz.prog 33 #[.pointer (some ⟨L,0,none⟩)] w (MeR L s a n c l w):=by
 have CR:=hide (rd_any a l n c w hn (by omega) (fun x hx=>by have:=hd x hx;omega) hL)
 have c1:=Blk.cell h 1
 simp [lcs] at c1
 have hlt:=h.lt
 have H:=hide h
 have HL:=hide hL
 clear h hn hm hd hL
 go_enter Tryz.func33,Tryz.ntmps33
 go_wp2_with fail
 refine CR.out.mono ?_
 intro e w1 hR
 rcases hR with ⟨hR,rfl,h1⟩ | ⟨mx,hd,hh,hx,p,q,hR,rfl,h1,hp,hq,hpq,kp,kq⟩
 ·have hal:=(Below.refl w1.heap.size w1).alloc (Nat.le_refl _) (.cells #[.int .i64 0,.int .i64 0,.int .i64 0,.int .i64 0,.int .i64 0,.int .i64 0,.int .i64 0,.int .i64 0,.bool false,.slice none 0 0,.slice none 0 0] 26)
  have H2:=(H.out.below h1).below hal
  have hb2:=below_t5 h1 hal
  have CM:=hide (must_no L 90 s _ zM vn vn vn vn 0 _ H2 (by omega))
  have HE:Hid (MeR L s a n c l w (thr 90) ((w1.alloc (.cells #[.int .i64 0,.int .i64 0,.int .i64 0,.int .i64 0,.int .i64 0,.int .i64 0,.int .i64 0,.int .i64 0,.bool false,.slice none 0 0,.slice none 0 0] 26)).setCell ⟨L,15,none⟩ (.int .i64 90))):=hide ⟨(But.of_below hb2).trans (But.setCell _ _ _ _),by
   unfold rdO
   rw [hR]
   exact ⟨rfl,H2.fault 90⟩⟩
  clear H2 h1 hR c1 hlt hal hb2
  unfold zeroM
  go_wp2_with fail
  refine CM.out.mono ?_
  rintro e w2 ⟨rfl,rfl⟩
  exact ⟨rfl,HE.out⟩
 ·have hLlt:=H.out.lt
  have F1:rdO l=some (rdM mx hd hh hx):=by unfold rdO;rw [hR];rfl
  have F2:Lst w1 (some ⟨p,0,none⟩) (rdM mx hd hh hx).ad:=arr_lst kp
  have F3:Lst w1 (some ⟨q,0,none⟩) (rdM mx hd hh hx).be:=arr_lst kq
  have F4:(rdM mx hd hh hx).ad.length=nV mx:=by simp [rdM]
  have F5:(rdM mx hd hh hx).be.length=nV mx:=by simp [rdM]
  have F6:=read_n hR
  have hmv:mval mx hd hh (.slice (some ⟨p,0,none⟩) (nV mx) (nV mx)) (.slice (some ⟨q,0,none⟩) (nV mx) (nV mx))=.agg (mcs (rdM mx hd hh hx) (.slice (some ⟨p,0,none⟩) (nV mx) (nV mx)) (.slice (some ⟨q,0,none⟩) (nV mx) (nV mx))):=rfl
  rw [hmv]
  clear hmv kp kq hR
  generalize nV mx=k at F4 F5 F6 ⊢
  generalize rdM mx hd hh hx=M at F1 F2 F3 F4 F5 ⊢
  obtain ⟨up,sc,de,ga,b0,b1,b2,b3,lg,ad,be⟩:=M
  simp only at F2 F3 F4 F5
  have hal:=(Below.refl w1.heap.size w1).alloc (Nat.le_refl _) (.cells #[.int .i64 up,.int .i64 sc,.int .i64 de,.int .i64 ga,.int .i64 b0,.int .i64 b1,.int .i64 b2,.int .i64 b3,.bool lg,.slice (some ⟨p,0,none⟩) k k,.slice (some ⟨q,0,none⟩) k k] 26)
  have kM:=Blk.new w1 #[.int .i64 up,.int .i64 sc,.int .i64 de,.int .i64 ga,.int .i64 b0,.int .i64 b1,.int .i64 b2,.int .i64 b3,.bool lg,.slice (some ⟨p,0,none⟩) k k,.slice (some ⟨q,0,none⟩) k k] 26
  have H2:=(H.out.below h1).below hal
  have hb2:=below_t5 h1 hal
  have G2:=F2.below hal
  have G3:=F3.below hal
  have hT2:=HL.out.below hb2
  simp only [mcs]
  go_wp2_with fail
  generalize w1.alloc (.cells #[.int .i64 up,.int .i64 sc,.int .i64 de,.int .i64 ga,.int .i64 b0,.int .i64 b1,.int .i64 b2,.int .i64 b3,.bool lg,.slice (some ⟨p,0,none⟩) k k,.slice (some ⟨q,0,none⟩) k k] 26)=W at kM H2 hb2 G2 G3 hT2 ⊢
  obtain ⟨y,hy⟩:∃y,w1.heap.size=y:=⟨_,rfl⟩
  rw [hy] at kM ⊢
  have CM:=hide (must_ok L W)
  have hst:=store_met H2 (.int .i64 up) (.int .i64 sc) (.int .i64 de) (.int .i64 ga) (.int .i64 b0) (.int .i64 b1) (.int .i64 b2) (.int .i64 b3) (.bool lg) (.slice (some ⟨p,0,none⟩) k k) (.slice (some ⟨q,0,none⟩) k k)
  have HE:=hide (show MeR L s a n c l w (.returned (.tuple #[])) _ from ⟨(But.of_below hb2).trans hst.2,by
   rw [F1]
   refine ⟨rfl,p,q,k,⟨hp,hq⟩,F4,F5,F6,hst.1,G2.but hst.2 (by omega),G3.but hst.2 (by omega),?_⟩
   refine tlst_but hT2 hst.2 H2 hst.1 (fun j x hj=>?_)
   match j,hj with
   | 0,hj=>simpa [lcs] using hj
   | 1,hj=>simp [lcs] at hj
   | 2,hj=>simp [lcs] at hj
   | 3,hj=>simp [lcs] at hj
   | 4,hj=>simp [lcs] at hj
   | 5,hj=>simp [lcs] at hj
   | 6,hj=>simp [lcs] at hj
   | 7,hj=>simp [lcs] at hj
   | 8,hj=>simp [lcs] at hj
   | 9,hj=>simp [lcs] at hj
   | 10,hj=>simp [lcs] at hj
   | 11,hj=>simp [lcs] at hj
   | 12,hj=>simp [lcs] at hj
   | 13,hj=>simp [lcs] at hj
   | 14,hj=>simp [lcs] at hj
   | 15,hj=>simp [lcs] at hj
   | j+16,hj=>simp [lcs] at hj⟩)
  have d2:=Blk.cell H2 2
  have d3:=Blk.cell H2 3
  have d4:=Blk.cell H2 4
  have d5:=Blk.cell H2 5
  have d6:=Blk.cell H2 6
  have d7:=Blk.cell H2 7
  have d8:=Blk.cell H2 8
  have d9:=Blk.cell H2 9
  have d10:=Blk.cell H2 10
  have d11:=Blk.cell H2 11
  have d12:=Blk.cell H2 12
  simp [lcs,zM] at d2 d3 d4 d5 d6 d7 d8 d9 d10 d11 d12
  have f2:=Blk.frozen H2 2
  have f3:=Blk.frozen H2 3
  have f4:=Blk.frozen H2 4
  have f5:=Blk.frozen H2 5
  have f6:=Blk.frozen H2 6
  have f7:=Blk.frozen H2 7
  have f8:=Blk.frozen H2 8
  have f9:=Blk.frozen H2 9
  have f10:=Blk.frozen H2 10
  have f11:=Blk.frozen H2 11
  have f12:=Blk.frozen H2 12
  have g0:=kM.cell 0
  have g1:=kM.cell 1
  have g2:=kM.cell 2
  have g3:=kM.cell 3
  have g4:=kM.cell 4
  have g5:=kM.cell 5
  have g6:=kM.cell 6
  have g7:=kM.cell 7
  have g8:=kM.cell 8
  have g9:=kM.cell 9
  have g10:=kM.cell 10
  simp at g0 g1 g2 g3 g4 g5 g6 g7 g8 g9 g10
  have hlt1:=H2.lt
  have hlt2:=kM.lt
  clear H2 h1 hp hq hpq hLlt c1 hlt hst F1 F2 F3 F4 F5 F6 G2 G3 hT2 hal hb2 kM hy
  refine CM.out.mono ?_
  rintro e w2 ⟨rfl,rfl⟩
  go_wp2_with fail
  go_end0
  exact HE.out
theorem fin_mem {l:List Tab} {t d:ByteArray} (h:finV l t=some d):∃x∈l,x.2=d:=by
 unfold finV at h
 obtain ⟨x,h1,h2⟩:=Option.map_eq_some_iff.1 h
 exact ⟨x,List.mem_of_find?_eq_some h1,h2⟩
theorem clst_set {w:World} {L:Nat} {cs:Array Value} {t:TypeId} {a:Option Addr} {l:List C11.Ch} (h:C11.CLst w a l) (hk:Blk w L cs t) (j:Nat) (hj:∀x,cs[j]?≠some (.int .i64 x)) (v:Value):C11.CLst (w.setCell ⟨L,j,none⟩ v) a l:=by
 rcases h with h | ⟨b,o,h1,h2,h3⟩
 ·exact Or.inl h
 ·have key:∀k x,w.cell? ⟨b,k,none⟩=some (.int .i64 x)→(w.setCell ⟨L,j,none⟩ v).cell? ⟨b,k,none⟩=some (.int .i64 x):=fun k x hx=>by
   rw [World.cell?_setCell_other]
   ·exact hx
   ·intro e
    rw [←e,hk.cell j] at hx
    exact hj x hx
  exact Or.inr ⟨b,o,h1,by simpa [World.setCell] using h2,fun i hi=>⟨key _ _ (h3 i hi).1,key _ _ (h3 i hi).2.1,key _ _ (h3 i hi).2.2⟩⟩
def ouV (l:List Tab) (k:Nat) (lg:Bool):Option (List ByteArray):=match finV l locaS,finV l glyfS with
 | some A,some B=>if G10.splB A.data.toList B.size (k:Int) lg then some (G10.splV A.data.toList B k lg) else none
 | _,_=>none
def OuR (L:Nat) (s:ByteArray) (a:Option Addr) (n c:Nat) (l:List Tab) (m:Mt) (p q k:Nat) (w:World) (e:Ending) (w':World):Prop:=But L w w'∧match ouV l k m.lg with
 | none=>e=thr 100∧LB w' L s (.slice a n c) m (.slice (some ⟨p,0,none⟩) k k) (.slice (some ⟨q,0,none⟩) k k) vn vn 100
 | some gs=>e=.returned (.tuple #[])∧∃g,LB w' L s (.slice a n c) m (.slice (some ⟨p,0,none⟩) k k) (.slice (some ⟨q,0,none⟩) k k) (.slice (some ⟨g,0,none⟩) k k) vn 0∧G10.SLst w' (some ⟨g,0,none⟩) gs∧Lst w' (some ⟨p,0,none⟩) m.ad∧Lst w' (some ⟨q,0,none⟩) m.be∧TLst w' a l
set_option maxRecDepth 8000 in
set_option maxHeartbeats 4000000 in
theorem outlines_any (L:Nat) (s:ByteArray) (a:Option Addr) (l:List Tab) (n c:Nat) (m:Mt) (p q k:Nat) (w:World) (h:LB w L s (.slice a n c) m (.slice (some ⟨p,0,none⟩) k k) (.slice (some ⟨q,0,none⟩) k k) vn vn 0) (hn:l.length=n) (hm:n≤1000) (hd:∀x∈l,x.2.size≤1000000) (hk:1≤k∧k≤4096) (hL:TLst w a l) (hA:Lst w (some ⟨p,0,none⟩) m.ad) (hB:Lst w (some ⟨q,0,none⟩) m.be) :
  Calls Tryz.prog 34 #[.pointer (some ⟨L,0,none⟩)] w (OuR L s a n c l m p q k w):=by
 have CT:=hide (fun (t:ByteArray) (u:World) (hu:Below w.heap.size w u)=>table_any L s a l n c m (.slice (some ⟨p,0,none⟩) k k) (.slice (some ⟨q,0,none⟩) k k) vn vn 0 t 100 u (h.below hu) hn hm (fun x hx=>by have:=hd x hx;omega) (hL.below hu) (by omega))
 have CC:=hide (fun (u:World) (hu:Below w.heap.size w u)=>count_any L s (.slice a n c) m (some ⟨p,0,none⟩) k k (.slice (some ⟨q,0,none⟩) k k) vn vn 0 u (h.below hu))
 have HD:=hide hd
 have H:=hide h
 have HLS:=hide (And.intro hL (And.intro hA hB))
 have hb0:=Below.refl w.heap.size w
 cases hLo:finV l locaS with
 | none=>
  have C1:=hide (CT.out locaS w hb0)
  rw [hLo] at C1
  unfold TbR at C1
  dsimp only at C1
  have HV:=hide (show ouV l k m.lg=none by unfold ouV;rw [hLo])
  clear hn hm hd hk hL hA hB hb0 h hLo CT CC HLS
  go_enter Tryz.func34,Tryz.ntmps34
  go_wp2_with fail
  refine C1.out.mono ?_
  rintro e w2 ⟨rfl,hbt,hlb⟩
  exact ⟨rfl,hbt,by rw [HV.out];exact ⟨rfl,hlb⟩⟩
 | some A=>
 have C1:=hide (CT.out locaS w hb0)
 rw [hLo] at C1
 unfold TbR at C1
 dsimp only at C1
 cases hGl:finV l glyfS with
 | none=>
  have C2:=hide (fun (u:World) (hu:Below w.heap.size w u)=>CT.out glyfS u hu)
  rw [hGl] at C2
  unfold TbR at C2
  dsimp only at C2
  have HV:=hide (show ouV l k m.lg=none by unfold ouV;rw [hLo,hGl])
  clear hn hm hd hk hL hA hB hb0 h hLo CT CC HLS hGl
  go_enter Tryz.func34,Tryz.ntmps34
  go_wp2_with fail
  refine C1.out.mono ?_
  rintro e w1 ⟨rfl,h1⟩
  have C3:=hide (C2.out w1 h1)
  have H1:=hide h1
  clear C1 C2 h1
  go_wp2_with fail
  refine C3.out.mono ?_
  rintro e w2 ⟨rfl,hbt,hlb⟩
  exact ⟨rfl,(But.of_below H1.out).trans hbt,by rw [HV.out];exact ⟨rfl,hlb⟩⟩
 | some B=>
 have C2:=hide (fun (u:World) (hu:Below w.heap.size w u)=>CT.out glyfS u hu)
 rw [hGl] at C2
 unfold TbR at C2
 dsimp only at C2
 have hAs:A.size≤1000000:=by
  obtain ⟨x,hx,rfl⟩:=fin_mem hLo
  exact hd x hx
 have hBs:B.size≤1000000:=by
  obtain ⟨x,hx,rfl⟩:=fin_mem hGl
  exact hd x hx
 have CS:=hide (fun (u:World)=>G10.split_any A B (k:Int) m.lg u hAs hBs (by omega) (by omega))
 unfold G10.SpR at CS
 simp only [Int.toNat_natCast] at CS
 have HV:=hide (show ouV l k m.lg=if G10.splB A.data.toList B.size (k:Int) m.lg then some (G10.splV A.data.toList B k m.lg) else none by unfold ouV;rw [hLo,hGl])
 have HO:Hid (∀(e:Ending) (w':World),(But L w w'∧match ouV l k m.lg with
   | none=>e=thr 100∧LB w' L s (.slice a n c) m (.slice (some ⟨p,0,none⟩) k k) (.slice (some ⟨q,0,none⟩) k k) vn vn 100
   | some gs=>e=.returned (.tuple #[])∧∃g,LB w' L s (.slice a n c) m (.slice (some ⟨p,0,none⟩) k k) (.slice (some ⟨q,0,none⟩) k k) (.slice (some ⟨g,0,none⟩) k k) vn 0∧G10.SLst w' (some ⟨g,0,none⟩) gs∧Lst w' (some ⟨p,0,none⟩) m.ad∧Lst w' (some ⟨q,0,none⟩) m.be∧TLst w' a l)→OuR L s a n c l m p q k w e w'):=hide fun e w' h=>h
 obtain ⟨sb,hsb⟩:∃x,G10.splB A.data.toList B.size (k:Int) m.lg=x:=⟨_,rfl⟩
 rw [hsb] at CS HV
 generalize G10.splV A.data.toList B k m.lg=gs at CS HV
 clear hn hm hd hk hL hA hB hb0 h hLo CT hGl hAs hBs hsb
 obtain ⟨up,sc,de,ga,b0,b1,b2,b3,lg,ad,be⟩:=m
 simp only at CS HV HO HLS
 go_enter Tryz.func34,Tryz.ntmps34
 go_wp2_with fail
 refine C1.out.mono ?_
 rintro e w1 ⟨rfl,h1⟩
 have C3:=hide (C2.out w1 h1)
 have H1:=hide h1
 clear C1 C2 h1
 go_wp2_with fail
 refine C3.out.mono ?_
 rintro e w2 ⟨rfl,h2⟩
 have h12:=below_t5 H1.out h2
 have hl2:=H.out.below h12
 have c10:=Blk.cell hl2 10
 simp [lcs] at c10
 have hlt:=hl2.lt
 have KS:Hid (∀x,Below w2.heap.size w2 x→L < x.heap.size∧x.cell? ⟨L,10,none⟩=some (.bool lg)):=hide fun x hx=>⟨Nat.lt_of_lt_of_le hlt hx.size,by rw [hx.cell (p:=⟨L,10,none⟩) hlt];exact c10⟩
 have C4:=hide (fun (u:World) (hu:Below w2.heap.size w2 u)=>CC.out u (below_t5 h12 hu))
 have H2:=hide h12
 have HX:=hide (Below.refl w2.heap.size w2)
 clear C3 H1 h2 h12 hl2 CC c10 hlt
 cases sb with
 | false=>
  have C5:Hid (∀u:World,Calls Tryz.prog 77 #[.string A,.string B,.int .i64 (k:Int),.bool lg] u fun e w'=>e=.returned (.tuple #[.slice none 0 0,.int .i64 100])∧Below u.heap.size u w'):=hide fun u=>by simpa using CS.out u
  clear CS
  go_wp2_with fail
  go_region_held3 (fun x=>L < x.heap.size∧x.cell? ⟨L,10,none⟩=some (.bool lg)) (exact KS.out _ (below_d HX.out (Below.refl _ _) rfl rfl rfl rfl)) ((first | (go_at_call 78;refine (C4.out _ ?_).mono ?_;(exact below_d HX.out (Below.refl _ _) rfl rfl rfl rfl);rintro e wy ⟨rfl,hy⟩;subst wy) | (go_at_call 77;refine (C5.out _).mono ?_;rintro e wy ⟨rfl,hy⟩;replace HX:=hide (below_d HX.out hy rfl rfl rfl rfl);clear hy)))
  have h123:=below_t5 H2.out HX.out
  have hl3:=H.out.below h123
  have CM:=hide (must_no L 100 s _ _ _ _ _ _ 0 wy hl3 (by omega))
  have HE:=hide (HO.out (thr 100) (wy.setCell ⟨L,15,none⟩ (.int .i64 100)) ⟨(But.of_below h123).trans (But.setCell _ _ _ _),by rw [HV.out];exact ⟨rfl,hl3.fault 100⟩⟩)
  clear hl3 h123 HO HV C4 H2 KS HX C5
  go_wp2_with fail
  refine CM.out.mono ?_
  rintro e w4 ⟨rfl,rfl⟩
  exact ⟨rfl,HE.out⟩
 | true=>
  have C5:Hid (∀u:World,Calls Tryz.prog 77 #[.string A,.string B,.int .i64 (k:Int),.bool lg] u fun e w'=>∃q,e=.returned (.tuple #[.slice (some ⟨q,0,none⟩) k k,.int .i64 0])∧G10.SLst w' (some ⟨q,0,none⟩) gs∧Below u.heap.size u w'):=hide fun u=>by simpa using CS.out u
  clear CS
  go_wp2_with fail
  go_region_held3 (fun x=>L < x.heap.size∧x.cell? ⟨L,10,none⟩=some (.bool lg)) (exact KS.out _ (below_d HX.out (Below.refl _ _) rfl rfl rfl rfl)) ((first | (go_at_call 78;refine (C4.out _ ?_).mono ?_;(exact below_d HX.out (Below.refl _ _) rfl rfl rfl rfl);rintro e wy ⟨rfl,hy⟩;subst wy) | (go_at_call 77;refine (C5.out _).mono ?_;rintro e wy ⟨g,rfl,hS,hy⟩;replace HX:=hide (below_d HX.out hy rfl rfl rfl rfl);clear hy;have HS:=hide hS;clear hS)))
  have h123:=below_t5 H2.out HX.out
  have hl3:=H.out.below h123
  have CM:=hide (must_ok L wy)
  have HE:=hide (HO.out (.returned (.tuple #[])) (wy.setCell ⟨L,13,none⟩ (.slice (some ⟨g,0,none⟩) k k)) ⟨(But.of_below h123).trans (But.setCell _ _ _ _),by
   rw [HV.out]
   exact ⟨rfl,g,hl3.glyphs _,slst_set HS.out hl3 13 (fun x=>by simp [lcs]) _,lst_set (HLS.out.2.1.below h123) hl3 13 (fun x=>by simp [lcs]) _,lst_set (HLS.out.2.2.below h123) hl3 13 (fun x=>by simp [lcs]) _,tlst_set (HLS.out.1.below h123) hl3 13 (fun x=>by simp [lcs]) _⟩⟩)
  have c13:=Blk.cell hl3 13
  simp [lcs] at c13
  have f13:=Blk.frozen hl3 13
  have hlt3:=hl3.lt
  clear hl3 h123 HO HV C4 H2 HS KS HX C5
  go_wp2_with fail
  refine CM.out.mono ?_
  rintro e w4 ⟨rfl,rfl⟩
  go_wp2_with fail
  go_end0
  exact HE.out
def chV (l:List Tab) (k:Nat):Option (List C11.Ch):=match finV l cmapS with
 | some t=>C11.redV t.data.toList k
 | none=>none
def ChR (L:Nat) (s:ByteArray) (a:Option Addr) (n c:Nat) (l:List Tab) (m:Mt) (p q g k:Nat) (gs:List ByteArray) (w:World) (e:Ending) (w':World):Prop:=But L w w'∧match chV l k with
 | none=>e=thr 110∧LB w' L s (.slice a n c) m (.slice (some ⟨p,0,none⟩) k k) (.slice (some ⟨q,0,none⟩) k k) (.slice (some ⟨g,0,none⟩) k k) vn 110
 | some cs=>e=.returned (.tuple #[])∧∃ca cc,(cs=[]∨∃b,ca=some ⟨b,0,none⟩∧w.heap.size≤b)∧cs.length≤4096∧LB w' L s (.slice a n c) m (.slice (some ⟨p,0,none⟩) k k) (.slice (some ⟨q,0,none⟩) k k) (.slice (some ⟨g,0,none⟩) k k) (.slice ca cs.length cc) 0∧C11.CLst w' ca cs∧G10.SLst w' (some ⟨g,0,none⟩) gs∧Lst w' (some ⟨p,0,none⟩) m.ad∧Lst w' (some ⟨q,0,none⟩) m.be
set_option maxRecDepth 8000 in
set_option maxHeartbeats 4000000 in
theorem characters_any (L:Nat) (s:ByteArray) (a:Option Addr) (l:List Tab) (n c:Nat) (m:Mt) (p q g k:Nat) (gs:List ByteArray) (w:World) (h:LB w L s (.slice a n c) m (.slice (some ⟨p,0,none⟩) k k) (.slice (some ⟨q,0,none⟩) k k) (.slice (some ⟨g,0,none⟩) k k) vn 0) (hn:l.length=n) (hm:n≤1000) (hd:∀x∈l,x.2.size≤1000000) (hk:1≤k∧k≤4096) (hL:TLst w a l) (hA:Lst w (some ⟨p,0,none⟩) m.ad) (hB:Lst w (some ⟨q,0,none⟩) m.be) (hS:G10.SLst w (some ⟨g,0,none⟩) gs) :
  Calls Tryz.prog 35 #[.pointer (some ⟨L,0,none⟩)] w (ChR L s a n c l m p q g k gs w):=by
 have C1:=hide (table_any L s a l n c m (.slice (some ⟨p,0,none⟩) k k) (.slice (some ⟨q,0,none⟩) k k) (.slice (some ⟨g,0,none⟩) k k) vn 0 cmapS 110 w h hn hm (fun x hx=>by have:=hd x hx;omega) hL (by omega))
 have CC:=hide (fun (u:World) (hu:Below w.heap.size w u)=>count_any L s (.slice a n c) m (some ⟨p,0,none⟩) k k (.slice (some ⟨q,0,none⟩) k k) (.slice (some ⟨g,0,none⟩) k k) vn 0 u (h.below hu))
 have H:=hide h
 have HLS:=hide (And.intro hS (And.intro hA hB))
 cases hT:finV l cmapS with
 | none=>
  rw [hT] at C1
  unfold TbR at C1
  dsimp only at C1
  have HV:=hide (show chV l k=none by unfold chV;rw [hT])
  clear hn hm hd hk hL hA hB h hT CC HLS hS
  go_enter Tryz.func35,Tryz.ntmps35
  go_wp2_with fail
  refine C1.out.mono ?_
  rintro e w2 ⟨rfl,hbt,hlb⟩
  exact ⟨rfl,hbt,by rw [HV.out];exact ⟨rfl,hlb⟩⟩
 | some T=>
 rw [hT] at C1
 unfold TbR at C1
 dsimp only at C1
 have hTs:T.size≤1000000:=by
  obtain ⟨x,hx,rfl⟩:=fin_mem hT
  exact hd x hx
 have CR:=hide (fun (u:World)=>C11.read_any T k u (by omega) hk.1 hk.2)
 have HV:=hide (show chV l k=C11.redV T.data.toList k by unfold chV;rw [hT])
 have HBD:=hide (fun (cs:List C11.Ch) (h:C11.redV T.data.toList k=some cs)=>(C11.redV_bd hk.2 h).1)
 have HO:Hid (∀(e:Ending) (w':World),(But L w w'∧match chV l k with
   | none=>e=thr 110∧LB w' L s (.slice a n c) m (.slice (some ⟨p,0,none⟩) k k) (.slice (some ⟨q,0,none⟩) k k) (.slice (some ⟨g,0,none⟩) k k) vn 110
   | some cs=>e=.returned (.tuple #[])∧∃ca cc,(cs=[]∨∃b,ca=some ⟨b,0,none⟩∧w.heap.size≤b)∧cs.length≤4096∧LB w' L s (.slice a n c) m (.slice (some ⟨p,0,none⟩) k k) (.slice (some ⟨q,0,none⟩) k k) (.slice (some ⟨g,0,none⟩) k k) (.slice ca cs.length cc) 0∧C11.CLst w' ca cs∧G10.SLst w' (some ⟨g,0,none⟩) gs∧Lst w' (some ⟨p,0,none⟩) m.ad∧Lst w' (some ⟨q,0,none⟩) m.be)→ChR L s a n c l m p q g k gs w e w'):=hide fun e w' h=>h
 generalize C11.redV T.data.toList k=R at CR HV HBD
 unfold C11.RdR at CR
 clear hn hm hd hk hL hA hB h hT hTs hS
 go_enter Tryz.func35,Tryz.ntmps35
 go_wp2_with fail
 refine C1.out.mono ?_
 rintro e w1 ⟨rfl,h1⟩
 have C4:=hide (CC.out w1 h1)
 have H1:=hide h1
 clear C1 h1 CC
 go_wp2_with fail
 refine C4.out.mono ?_
 rintro e w1' ⟨rfl,rfl⟩
 go_wp2_with fail
 cases R with
 | none=>
  refine (CR.out w1').mono ?_
  rintro e w3 ⟨rfl,h3⟩
  have h13:=below_t5 H1.out h3
  have hl3:=H.out.below h13
  have CM:=hide (must_no L 110 s _ _ _ _ _ _ 0 w3 hl3 (by omega))
  have HE:=hide (HO.out (thr 110) (w3.setCell ⟨L,15,none⟩ (.int .i64 110)) ⟨(But.of_below h13).trans (But.setCell _ _ _ _),by rw [HV.out];exact ⟨rfl,hl3.fault 110⟩⟩)
  clear hl3 h3 h13 HO HV C4 H1 CR HBD
  go_wp2_with fail
  refine CM.out.mono ?_
  rintro e w4 ⟨rfl,rfl⟩
  exact ⟨rfl,HE.out⟩
 | some cs=>
  refine (CR.out w1').mono ?_
  rintro e w3 ⟨v,rfl,hrow,h3⟩
  obtain ⟨ca,cc,hv,hcl⟩:=hrow.lst
  have hfr:cs=[]∨∃b,ca=some ⟨b,0,none⟩∧w.heap.size≤b:=by
   rcases Nat.eq_zero_or_pos cs.length with h0 | h0
   ·exact Or.inl (List.eq_nil_of_length_eq_zero h0)
   ·obtain ⟨g',cap',hv',hB',_⟩:=hrow.shape h0
    rw [hv] at hv'
    injection hv' with e1 _ _
    exact Or.inr ⟨g',e1,by have:=H1.out.size;omega⟩
  subst hv
  have h13:=below_t5 H1.out h3
  have hl3:=H.out.below h13
  have CM:=hide (must_ok L w3)
  have HE:=hide (HO.out (.returned (.tuple #[])) (w3.setCell ⟨L,14,none⟩ (.slice ca cs.length cc)) ⟨(But.of_below h13).trans (But.setCell _ _ _ _),by
   rw [HV.out]
   exact ⟨rfl,ca,cc,hfr,HBD.out cs rfl,hl3.chars _,clst_set hcl hl3 14 (fun x=>by simp [lcs]) _,slst_set (HLS.out.1.below h13) hl3 14 (fun x=>by simp [lcs]) _,lst_set (HLS.out.2.1.below h13) hl3 14 (fun x=>by simp [lcs]) _,lst_set (HLS.out.2.2.below h13) hl3 14 (fun x=>by simp [lcs]) _⟩⟩)
  have c14:=Blk.cell hl3 14
  simp [lcs] at c14
  have f14:=Blk.frozen hl3 14
  have hlt3:=hl3.lt
  clear hl3 h3 h13 HO HV C4 H1 CR HBD hrow hcl hfr
  go_wp2_with fail
  refine CM.out.mono ?_
  rintro e w4 ⟨rfl,rfl⟩
  go_wp2_with fail
  go_end0
  exact HE.out
def WhR (L:Nat) (s:ByteArray) (vt:Value) (m:Mt) (va vb vg vc:Value) (ck:Int) (w:World) (e:Ending) (w':World):Prop:=But L w w'∧((ck=0∧e=.returned (.tuple #[])∧Below w.heap.size w w')∨(ck≠0∧e=thr ck∧LB w' L s vt m va vb vg vc ck))
set_option maxRecDepth 8000 in
set_option maxHeartbeats 4000000 in
theorem whole_any (L:Nat) (s:ByteArray) (vt:Value) (m:Mt) (pa pb pg pc:Option Addr) (na nb ng nc ka kb kg kc:Nat) (gs:List ByteArray) (cs:List C11.Ch) (w:World) (h:LB w L s vt m (.slice pa na ka) (.slice pb nb kb) (.slice pg ng kg) (.slice pc nc kc) 0) (hna:m.ad.length=na) (hnb:m.be.length=nb) (hng:gs.length=ng) (hnc:cs.length=nc) (hma:na≤1000000) (hmb:nb≤1000000) (hmg:ng≤1000000) (hmc:nc≤1000000) (hz:∀g∈gs,g.size≤1000000) (hA:Lst w pa m.ad) (hB:Lst w pb m.be) (hG:G10.SLst w pg gs) (hC:C11.CLst w pc cs) :
  Calls Tryz.prog 36 #[.pointer (some ⟨L,0,none⟩)] w (WhR L s vt m (.slice pa na ka) (.slice pb nb kb) (.slice pg ng kg) (.slice pc nc kc) (ckV m gs cs) w):=by
 have CK:=hide (check_any m pa pb pg pc na nb ng nc ka kb kg kc gs cs w hna hnb hng hnc hma hmb hmg hmc hz hA hB hG hC)
 generalize ckV m gs cs=R at CK ⊢
 have H:=hide h
 obtain ⟨up,sc,de,ga,b0,b1,b2,b3,lg,ad,be⟩:=m
 have d2:=Blk.cell h 2
 have d3:=Blk.cell h 3
 have d4:=Blk.cell h 4
 have d5:=Blk.cell h 5
 have d6:=Blk.cell h 6
 have d7:=Blk.cell h 7
 have d8:=Blk.cell h 8
 have d9:=Blk.cell h 9
 have d10:=Blk.cell h 10
 have d11:=Blk.cell h 11
 have d12:=Blk.cell h 12
 have d13:=Blk.cell h 13
 have d14:=Blk.cell h 14
 simp [lcs] at d2 d3 d4 d5 d6 d7 d8 d9 d10 d11 d12 d13 d14
 have hlt:=h.lt
 clear h hna hnb hng hnc hma hmb hmg hmc hz hA hB hG hC
 simp only [fcs] at CK
 go_enter Tryz.func36,Tryz.ntmps36
 go_wp2_with fail
 refine CK.out.mono ?_
 rintro e w1 ⟨rfl,h1⟩
 have hl1:=H.out.below h1
 by_cases hR:R=0
 ·subst hR
  have CM:=hide (must_ok L w1)
  have HE:Hid (WhR L s vt ⟨up,sc,de,ga,b0,b1,b2,b3,lg,ad,be⟩ (.slice pa na ka) (.slice pb nb kb) (.slice pg ng kg) (.slice pc nc kc) 0 w (.returned (.tuple #[])) w1):=hide ⟨But.of_below h1,Or.inl ⟨rfl,rfl,h1⟩⟩
  clear d2 d3 d4 d5 d6 d7 d8 d9 d10 d11 d12 d13 d14 hlt hl1 h1 CK H
  go_wp2_with fail
  refine CM.out.mono ?_
  rintro e w4 ⟨rfl,rfl⟩
  go_wp2_with fail
  go_end0
  exact HE.out
 ·have CM:=hide (must_no L R s _ _ _ _ _ _ 0 w1 hl1 hR)
  have HE:Hid (WhR L s vt ⟨up,sc,de,ga,b0,b1,b2,b3,lg,ad,be⟩ (.slice pa na ka) (.slice pb nb kb) (.slice pg ng kg) (.slice pc nc kc) R w (thr R) (w1.setCell ⟨L,15,none⟩ (.int .i64 R))):=hide ⟨(But.of_below h1).trans (But.setCell _ _ _ _),Or.inr ⟨hR,rfl,hl1.fault R⟩⟩
  clear d2 d3 d4 d5 d6 d7 d8 d9 d10 d11 d12 d13 d14 hlt hl1 h1 CK H
  go_wp2_with fail
  refine CM.out.mono ?_
  rintro e w4 ⟨rfl,rfl⟩
  exact ⟨rfl,HE.out⟩
theorem steps_any (L:Nat) (w:World):Calls Tryz.prog 14 #[.pointer (some ⟨L,0,none⟩)] w fun e w'=>e=.returned (.slice (some ⟨w.heap.size,0,none⟩) 5 5)∧w'=w.alloc (.cells #[.func (.func 32) #[.pointer (some ⟨L,0,none⟩)] #[],.func (.func 33) #[.pointer (some ⟨L,0,none⟩)] #[],.func (.func 34) #[.pointer (some ⟨L,0,none⟩)] #[],.func (.func 35) #[.pointer (some ⟨L,0,none⟩)] #[],.func (.func 36) #[.pointer (some ⟨L,0,none⟩)] #[]] 1):=by
 have hmf:∀(fn:Fn) (first cap:Array Value) (w:World),(Instr.makeFunc fn first cap).run Tryz.prog w=.ok (.func fn first cap) w:=fun _ _ _ _=>rfl
 go_enter Tryz.func14,Tryz.ntmps14
 go_wp2_with fail
 go_ret
 exact ⟨rfl,rfl⟩
theorem catch_idle (p q r:Addr) (w:World) :
  CallsD Tryz.prog 13 #[.pointer (some p),.pointer (some q),.pointer (some r)] .returning w fun e u' w'=>e=.returned (.tuple #[])∧u'=.returning∧w'=w:=by
 refine callsD_of_wpS Tryz.func13 rfl fun c₀ cs hu=>?_
 apply wpS_seq
 apply wpS_region
 simp [wpOpsS,go_sem,recoverD,hu,Tryz.ntmps13,Exit.thenS]
 refine wpS_cond (t:=false) (by simp [Act.eval,Array.replicate]) ?_
 simp only [Bool.false_eq_true,if_false]
 refine wpS_of_wp (wp_skip ?_)
 cases c₀
 simp_all [bodyPostS,results,Tryz.results13]
abbrev zf:Array Value:=#[.int .i64 0,.int .i64 0,.int .i64 0,.int .i64 0,.int .i64 0,.int .i64 0,.int .i64 0,.int .i64 0,.bool false,.slice none 0 0,.slice none 0 0,.slice none 0 0,.slice none 0 0]
theorem store13 {w:World} {F:Nat} (h:Blk w F zf 30) (v0 v1 v2 v3 v4 v5 v6 v7 v8 v9 v10 v11 v12:Value) :
  Blk (((((((((((((w.setCell ⟨F,0,none⟩ v0).setCell ⟨F,1,none⟩ v1).setCell ⟨F,2,none⟩ v2).setCell ⟨F,3,none⟩ v3).setCell ⟨F,4,none⟩ v4).setCell ⟨F,5,none⟩ v5).setCell ⟨F,6,none⟩ v6).setCell ⟨F,7,none⟩ v7).setCell ⟨F,8,none⟩ v8).setCell ⟨F,9,none⟩ v9).setCell ⟨F,10,none⟩ v10).setCell ⟨F,11,none⟩ v11).setCell ⟨F,12,none⟩ v12) F #[v0,v1,v2,v3,v4,v5,v6,v7,v8,v9,v10,v11,v12] 30∧But F w (((((((((((((w.setCell ⟨F,0,none⟩ v0).setCell ⟨F,1,none⟩ v1).setCell ⟨F,2,none⟩ v2).setCell ⟨F,3,none⟩ v3).setCell ⟨F,4,none⟩ v4).setCell ⟨F,5,none⟩ v5).setCell ⟨F,6,none⟩ v6).setCell ⟨F,7,none⟩ v7).setCell ⟨F,8,none⟩ v8).setCell ⟨F,9,none⟩ v9).setCell ⟨F,10,none⟩ v10).setCell ⟨F,11,none⟩ v11).setCell ⟨F,12,none⟩ v12):=by
 refine ⟨?_,((((((((((((((But.refl F w).trans (But.setCell F _ 0 v0)).trans (But.setCell F _ 1 v1)).trans (But.setCell F _ 2 v2)).trans (But.setCell F _ 3 v3)).trans (But.setCell F _ 4 v4)).trans (But.setCell F _ 5 v5)).trans (But.setCell F _ 6 v6)).trans (But.setCell F _ 7 v7)).trans (But.setCell F _ 8 v8)).trans (But.setCell F _ 9 v9)).trans (But.setCell F _ 10 v10)).trans (But.setCell F _ 11 v11)).trans (But.setCell F _ 12 v12))⟩
 have:=(Blk.set (Blk.set (Blk.set (Blk.set (Blk.set (Blk.set (Blk.set (Blk.set (Blk.set (Blk.set (Blk.set (Blk.set (Blk.set h 0 v0) 1 v1) 2 v2) 3 v3) 4 v4) 5 v5) 6 v6) 7 v7) 8 v8) 9 v9) 10 v10) 11 v11) 12 v12)
 simpa [zf] using this
set_option maxHeartbeats 2000000 in
theorem catch_thrown (F E X L:Nat) (w:World) (er:Int) (y0:Value) (u:TypeId) (pv:Value) (hk:Blk w F zf 30) (he:Blk w E #[y0] 31) (hx:Blk w X #[.pointer (some ⟨L,0,none⟩)] 46) (hc:w.cell? ⟨L,15,none⟩=some (.int .i64 er)) (hLlt:L < w.heap.size) (hFE:E≠F) :
  CallsD Tryz.prog 13 #[.pointer (some ⟨X,0,none⟩),.pointer (some ⟨F,0,none⟩),.pointer (some ⟨E,0,none⟩)] (.panicking [{ v:=.iface u pv,recovered:=false }]) w fun e u' w'=>
   e=.returned (.tuple #[])∧u'=.panicking [{ v:=.iface u pv,recovered:=true }]∧w'=(((((((((((((w.setCell ⟨F,0,none⟩ (.int .i64 0)).setCell ⟨F,1,none⟩ (.int .i64 0)).setCell ⟨F,2,none⟩ (.int .i64 0)).setCell ⟨F,3,none⟩ (.int .i64 0)).setCell ⟨F,4,none⟩ (.int .i64 0)).setCell ⟨F,5,none⟩ (.int .i64 0)).setCell ⟨F,6,none⟩ (.int .i64 0)).setCell ⟨F,7,none⟩ (.int .i64 0)).setCell ⟨F,8,none⟩ (.bool false)).setCell ⟨F,9,none⟩ (.slice none 0 0)).setCell ⟨F,10,none⟩ (.slice none 0 0)).setCell ⟨F,11,none⟩ (.slice none 0 0)).setCell ⟨F,12,none⟩ (.slice none 0 0)).setCell ⟨E,0,none⟩ (.int .i64 er):=by
 have r0:=hk.cell 0
 have z0:=hk.frozen 0
 have r1:=hk.cell 1
 have z1:=hk.frozen 1
 have r2:=hk.cell 2
 have z2:=hk.frozen 2
 have r3:=hk.cell 3
 have z3:=hk.frozen 3
 have r4:=hk.cell 4
 have z4:=hk.frozen 4
 have r5:=hk.cell 5
 have z5:=hk.frozen 5
 have r6:=hk.cell 6
 have z6:=hk.frozen 6
 have r7:=hk.cell 7
 have z7:=hk.frozen 7
 have r8:=hk.cell 8
 have z8:=hk.frozen 8
 have r9:=hk.cell 9
 have z9:=hk.frozen 9
 have r10:=hk.cell 10
 have z10:=hk.frozen 10
 have r11:=hk.cell 11
 have z11:=hk.frozen 11
 have r12:=hk.cell 12
 have z12:=hk.frozen 12
 simp at r0 r1 r2 r3 r4 r5 r6 r7 r8 r9 r10 r11 r12
 have c1:=he.cell 0
 have f1:=he.frozen 0
 have x0:=hx.cell 0
 simp at c1 x0
 refine callsD_of_wpS Tryz.func13 rfl fun c₀ cs hu=>?_
 apply wpS_seq
 apply wpS_region
 simp [wpOpsS,go_sem,recoverD,hu,Tryz.ntmps13,Exit.thenS]
 refine wpS_cond (t:=true) (by simp [Act.eval,Array.replicate]) ?_
 simp only [if_true]
 refine wpS_of_wp ?_
 go_wp2_with fail
 simp [bodyPostS,results,Tryz.results13]
end Go.Proofs.YtpaadbnlhapdbaaGreatDoor.F12
