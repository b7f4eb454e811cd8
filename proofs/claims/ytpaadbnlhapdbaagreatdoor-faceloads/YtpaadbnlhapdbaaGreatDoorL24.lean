/-
  Joined: M9Rd.
-/
import Derived.Laws.EntriesVeiled
import Derived.Test.YtpaadbnlhapdbaaGreatDoorL23
namespace Go.Proofs.YtpaadbnlhapdbaaGreatDoor
open Go.RowKit Go.Deep
set_option linter.unusedVariables false
abbrev maxpS:ByteArray:=⟨#[109,97,120,112]⟩
abbrev headS:ByteArray:=⟨#[104,101,97,100]⟩
abbrev hheaS:ByteArray:=⟨#[104,104,101,97]⟩
abbrev hmtxS:ByteArray:=⟨#[104,109,116,120]⟩
def stepsC:Array Value:=
 #[.string maxpS,.int .i64 6,.func (Fn.func 147) #[] #[],.string headS,.int .i64 54,.func (Fn.func 148) #[] #[],
  .string hheaS,.int .i64 36,.func (Fn.func 149) #[] #[],.string hmtxS,.int .i64 0,.func (Fn.func 150) #[] #[]]
theorem steps_any (w:World):Calls Tryz.prog 116 #[] w fun e w'=>e=.returned (.slice (some ⟨w.heap.size,0,none⟩) 4 4)∧w'=w.alloc (.cells stepsC 165):=by
 go_enter Tryz.func116,Tryz.ntmps116
 go_wp2_with fail
 go_ret
 exact ⟨rfl,rfl⟩
abbrev nV (mx:ByteArray):Nat:=n2 mx.data.toList 4
abbrev hV (hh:ByteArray):Nat:=n2 hh.data.toList 34
def allB (mx hd hh hx:ByteArray):Bool:=
 (decide (6≤mx.size) && mxB mx) && ((decide (54≤hd.size) && hdB hd) && ((decide (36≤hh.size) && hhB hh (nV mx:Int)) && decide (4 * hV hh+2 * (nV mx - hV hh)≤hx.size)))
def readV (l:List Tab):Option (ByteArray × ByteArray × ByteArray × ByteArray):=
 match finV l maxpS,finV l headS,finV l hheaS,finV l hmtxS with
 | some mx,some hd,some hh,some hx=>if allB mx hd hh hx then some (mx,hd,hh,hx) else none
 | _,_,_,_=>none
def mval (mx hd hh:ByteArray) (va vb:Value):Value:=
 .agg #[.int .i64 ((n2 hd.data.toList 18:Nat):Int),.int .i64 (s2 hh.data.toList 4),.int .i64 (s2 hh.data.toList 6),.int .i64 (s2 hh.data.toList 8),
  .int .i64 (s2 hd.data.toList 36),.int .i64 (s2 hd.data.toList 38),.int .i64 (s2 hd.data.toList 40),.int .i64 (s2 hd.data.toList 42),.bool (((n2 hd.data.toList 50:Nat):Int) == 1),va,vb]
def zeroM:Value:=.agg #[.int .i64 0,.int .i64 0,.int .i64 0,.int .i64 0,.int .i64 0,.int .i64 0,.int .i64 0,.int .i64 0,.bool false,.slice none 0 0,.slice none 0 0]
abbrev zeroC:Array Value:=#[.int .i64 0,.int .i64 0,.int .i64 0,.int .i64 0,.int .i64 0,.int .i64 0,.int .i64 0,.int .i64 0,.bool false,.slice none 0 0,.slice none 0 0]
def RdR (l:List Tab) (w:World) (e:Ending) (w':World):Prop:=
 (readV l=none∧e=.returned (.tuple #[zeroM,.int .i64 90])∧Below w.heap.size w w')∨
 ∃mx hd hh hx p q,readV l=some (mx,hd,hh,hx)∧e=.returned (.tuple #[mval mx hd hh (.slice (some ⟨p,0,none⟩) (nV mx) (nV mx)) (.slice (some ⟨q,0,none⟩) (nV mx) (nV mx)),.int .i64 0])∧
  Below w.heap.size w w'∧w.heap.size≤p∧w.heap.size≤q∧p≠q∧Blk w' p (arr (advF hx (hV hh)) (nV mx) (nV mx)) 3∧Blk w' q (arr (beaF hx (hV hh)) (nV mx) (nV mx)) 3
theorem rdv_1 {l:List Tab} (h:finV l maxpS=none):readV l=none:=by unfold readV;rw [h]
theorem rdv_2 {l:List Tab} (h:finV l headS=none):readV l=none:=by unfold readV;rw [h];split <;> simp_all
theorem rdv_3 {l:List Tab} (h:finV l hheaS=none):readV l=none:=by unfold readV;rw [h];split <;> simp_all
theorem rdv_4 {l:List Tab} (h:finV l hmtxS=none):readV l=none:=by unfold readV;rw [h];split <;> simp_all
theorem rdv_no {l:List Tab} (h:∀mx hd hh hx,finV l maxpS=some mx→finV l headS=some hd→finV l hheaS=some hh→finV l hmtxS=some hx→allB mx hd hh hx=false):readV l=none:=by
 unfold readV
 split
 ·rename_i mx hd hh hx e1 e2 e3 e4
  rw [h mx hd hh hx e1 e2 e3 e4];simp
 ·rfl
theorem rdv_yes {l:List Tab} {mx hd hh hx:ByteArray} (e1:finV l maxpS=some mx) (e2:finV l headS=some hd) (e3:finV l hheaS=some hh) (e4:finV l hmtxS=some hx) (h:allB mx hd hh hx=true):readV l=some (mx,hd,hh,hx):=by
 unfold readV
 rw [e1,e2,e3,e4]
 simp [h]
structure Rst (w:World) (a:Option Addr) (l:List Tab) (r b g:Nat) (ct pr up sc de ga b0 b1 b2 b3:Int) (lg:Bool) (va vb:Value) (W:World):Prop where
 rb:RB W b ct pr up sc de ga b0 b1 b2 b3 lg va vb
 rr:Blk W r zeroC 26
 st:Blk W g stepsC 165
 bl:Below w.heap.size w W
 tl:TLst W a l
theorem Rst.below {w:World} {a:Option Addr} {l:List Tab} {r b g:Nat} {ct pr up sc de ga b0 b1 b2 b3:Int} {lg:Bool} {va vb:Value} {W W':World} (h:Rst w a l r b g ct pr up sc de ga b0 b1 b2 b3 lg va vb W) (hb:Below W.heap.size W W'):Rst w a l r b g ct pr up sc de ga b0 b1 b2 b3 lg va vb W':=
 ⟨h.rb.below hb,h.rr.below hb,h.st.below hb,below_t5 h.bl hb,h.tl.below hb⟩
theorem fin_size {l:List Tab} {t d:ByteArray} (hd:∀x∈l,x.2.size≤1073741824) (h:finV l t=some d):d.size≤1073741824:=by
 unfold finV at h
 obtain ⟨x,h1,h2⟩:=Option.map_eq_some_iff.1 h
 rw [←h2]
 exact hd x (List.mem_of_find?_eq_some h1)
theorem store11 {w:World} {r:Nat} (h:Blk w r zeroC 26) (v0 v1 v2 v3 v4 v5 v6 v7 v8 v9 v10:Value) :
  Blk (((((((((((w.setCell ⟨r,0,none⟩ v0).setCell ⟨r,1,none⟩ v1).setCell ⟨r,2,none⟩ v2).setCell ⟨r,3,none⟩ v3).setCell ⟨r,4,none⟩ v4).setCell ⟨r,5,none⟩ v5).setCell ⟨r,6,none⟩ v6).setCell ⟨r,7,none⟩ v7).setCell ⟨r,8,none⟩ v8).setCell ⟨r,9,none⟩ v9).setCell ⟨r,10,none⟩ v10) r #[v0,v1,v2,v3,v4,v5,v6,v7,v8,v9,v10] 26∧But r w (((((((((((w.setCell ⟨r,0,none⟩ v0).setCell ⟨r,1,none⟩ v1).setCell ⟨r,2,none⟩ v2).setCell ⟨r,3,none⟩ v3).setCell ⟨r,4,none⟩ v4).setCell ⟨r,5,none⟩ v5).setCell ⟨r,6,none⟩ v6).setCell ⟨r,7,none⟩ v7).setCell ⟨r,8,none⟩ v8).setCell ⟨r,9,none⟩ v9).setCell ⟨r,10,none⟩ v10):=by
 refine ⟨?_,((((((((((((But.refl r w).trans (But.setCell r _ 0 v0)).trans (But.setCell r _ 1 v1)).trans (But.setCell r _ 2 v2)).trans (But.setCell r _ 3 v3)).trans (But.setCell r _ 4 v4)).trans (But.setCell r _ 5 v5)).trans (But.setCell r _ 6 v6)).trans (But.setCell r _ 7 v7)).trans (But.setCell r _ 8 v8)).trans (But.setCell r _ 9 v9)).trans (But.setCell r _ 10 v10))⟩
 have:=(Blk.set (Blk.set (Blk.set (Blk.set (Blk.set (Blk.set (Blk.set (Blk.set (Blk.set (Blk.set (Blk.set h 0 v0) 1 v1) 2 v2) 3 v3) 4 v4) 5 v5) 6 v6) 7 v7) 8 v8) 9 v9) 10 v10)
 simpa [zeroC] using this
theorem mx_bd {mx:ByteArray} (h:mxB mx=true):1≤nV mx∧nV mx≤4096:=by
 unfold mxB at h
 rw [Bool.and_eq_true,wiB_one] at h
 have:=h.2
 simp at this
 constructor <;> (unfold nV;omega)
theorem hh_bd {hh:ByteArray} {N:Nat} (h:hhB hh (N:Int)=true):1≤hV hh∧hV hh≤N:=by
 unfold hhB at h
 rw [Bool.and_eq_true,wiB_one] at h
 have:=h.2
 simp at this
 constructor <;> (unfold hV;omega)
theorem Rst.step {w:World} {a:Option Addr} {l:List Tab} {r b g:Nat} {ct pr up sc de ga b0 b1 b2 b3:Int} {lg:Bool} {va vb:Value} {W W':World} {ct' pr' up' sc' de' ga' b0' b1' b2' b3':Int} {lg':Bool} {va' vb':Value}
  (h:Rst w a l r b g ct pr up sc de ga b0 b1 b2 b3 lg va vb W) (hb:But b W W') (hL:TLst w a l) (hn:w.heap.size≤r∧w.heap.size≤b∧w.heap.size≤g∧r≠b∧g≠b) (hr:RB W' b ct' pr' up' sc' de' ga' b0' b1' b2' b3' lg' va' vb') :
  Rst w a l r b g ct' pr' up' sc' de' ga' b0' b1' b2' b3' lg' va' vb' W':=
 ⟨hr,hb.blk h.rr hn.2.2.2.1,hb.blk h.st hn.2.2.2.2,hb.below h.bl hn.2.1,hL.below (hb.below h.bl hn.2.1)⟩
set_option maxHeartbeats 8000000 in
theorem rd_any (a:Option Addr) (l:List Tab) (n c:Nat) (w:World) (hn:l.length=n) (hm:n≤1073741824) (hd:∀x∈l,x.2.size≤1073741824) (hL:TLst w a l) :
  Calls Tryz.prog 75 #[.slice a n c] w fun e w'=>RdR l w e w':=by
 have CF:=hide (fun (t:ByteArray) (W:World) (h:TLst W a l)=>find_any a l n c t W hn hm (fun x hx=>by have:=hd x hx;omega) h)
 have HD:=hide hd
 have HL:=hide hL
 clear hn hm hd hL
 go_enter Tryz.func75,Tryz.ntmps75
 go_wp2_with fail
 refine (steps_any _).mono ?_
 rintro e w1 ⟨rfl,rfl⟩
 go_wp2_with fail
 have hS:Rst w a l w.heap.size (w.heap.size+1) (w.heap.size+1+1) 0 0 0 0 0 0 0 0 0 0 false (.slice none 0 0) (.slice none 0 0) (((w.alloc (.cells zeroC 26)).alloc (.cells (rcs 0 0 0 0 0 0 0 0 0 0 false (.slice none 0 0) (.slice none 0 0)) 160)).alloc (.cells stepsC 165)):=by
  have b1:=(Below.refl w.heap.size w).alloc (Nat.le_refl _) (.cells zeroC 26)
  have k1:=Blk.new w zeroC 26
  have z1:(w.alloc (.cells zeroC 26)).heap.size=w.heap.size+1:=by simp
  generalize w.alloc (.cells zeroC 26)=W1 at *
  have b2:=(Below.refl W1.heap.size W1).alloc (Nat.le_refl _) (.cells (rcs 0 0 0 0 0 0 0 0 0 0 false (.slice none 0 0) (.slice none 0 0)) 160)
  have k2:=Blk.new W1 (rcs 0 0 0 0 0 0 0 0 0 0 false (.slice none 0 0) (.slice none 0 0)) 160
  have z2:(W1.alloc (.cells (rcs 0 0 0 0 0 0 0 0 0 0 false (.slice none 0 0) (.slice none 0 0)) 160)).heap.size=w.heap.size+1+1:=by simp [z1]
  rw [z1] at k2
  generalize W1.alloc (.cells (rcs 0 0 0 0 0 0 0 0 0 0 false (.slice none 0 0) (.slice none 0 0)) 160)=W2 at *
  have b3:=(Below.refl W2.heap.size W2).alloc (Nat.le_refl _) (.cells stepsC 165)
  have k3:=Blk.new W2 stepsC 165
  rw [z2] at k3
  have bb:=below_t5 (below_t5 b1 b2) b3
  exact ⟨k2.below b3,(k1.below b2).below b3,k3,bb,HL.out.below bb⟩
 have HS0:=hide hS
 clear hS
 simp only [rcs] at HS0
 generalize ((w.alloc (.cells zeroC 26)).alloc _).alloc (.cells stepsC 165)=W0 at HS0 ⊢
 have HN:Hid (w.heap.size≤w.heap.size∧w.heap.size≤w.heap.size+1∧w.heap.size≤w.heap.size+1+1∧w.heap.size≠w.heap.size+1∧w.heap.size+1+1≠w.heap.size+1):=hide ⟨by omega,by omega,by omega,by omega,by omega⟩
 obtain ⟨g,hg⟩:∃g,w.heap.size+1+1=g:=⟨_,rfl⟩
 rw [hg] at HS0 HN ⊢
 obtain ⟨b,hb⟩:∃b,w.heap.size+1=b:=⟨_,rfl⟩
 rw [hb] at HS0 HN ⊢
 obtain ⟨r,hr⟩:∃r,w.heap.size=r:=⟨_,rfl⟩
 have HS0':Hid (Rst w a l r b g 0 0 0 0 0 0 0 0 0 0 false (.slice none 0 0) (.slice none 0 0) W0):=hr ▸ HS0
 have HN':Hid (w.heap.size≤r∧w.heap.size≤b∧w.heap.size≤g∧r≠b∧g≠b):=hide ⟨by omega,HN.out.2.1,HN.out.2.2.1,by have:=HN.out;omega,HN.out.2.2.2.2⟩
 rw [hr]
 clear HS0 HN hg hb hr
 refine wp_loop_rounds 5 ?_
 rw [rounds_succ]
 have t0:=HS0'.out.st.cell 0
 have t1:=HS0'.out.st.cell 1
 have t2:=HS0'.out.st.cell 2
 have glt:=HS0'.out.st.lt
 simp [stepsC] at t0 t1 t2
 have hne:g≠W0.heap.size:=by omega
 go_wp2_with fail
 have hal:=(Below.refl W0.heap.size W0).alloc (Nat.le_refl _) (.cells #[.string maxpS,.int .i64 6,.func (Fn.func 147) #[] #[]] 165)
 have hS1:=HS0'.out.below hal
 have k1:=Blk.new W0 #[.string maxpS,.int .i64 6,.func (Fn.func 147) #[] #[]] 165
 clear t0 t1 t2 glt hne hal
 generalize W0.alloc (.cells #[.string maxpS,.int .i64 6,.func (Fn.func 147) #[] #[]] 165)=U0 at hS1 k1 ⊢
 obtain ⟨x0,hx0⟩:∃x,W0.heap.size=x:=⟨_,rfl⟩
 rw [hx0] at k1 ⊢
 have CF1:=CF.out maxpS U0 hS1.tl
 have HS1:=hide hS1
 have HK1:=hide k1
 clear hS1 k1 HS0' hx0
 rcases hf0:finV l maxpS with _ | mx
 ·rw [hf0] at CF1
  have CF2:=hide CF1
  clear CF1
  refine CF2.out.mono ?_
  rintro e w1 ⟨rfl,hb1⟩
  have hS2:=HS1.out.below hb1
  have HS2:=hide hS2
  have z0:=hS2.rr.cell 0
  have z1:=hS2.rr.cell 1
  have z2:=hS2.rr.cell 2
  have z3:=hS2.rr.cell 3
  have z4:=hS2.rr.cell 4
  have z5:=hS2.rr.cell 5
  have z6:=hS2.rr.cell 6
  have z7:=hS2.rr.cell 7
  have z8:=hS2.rr.cell 8
  have z9:=hS2.rr.cell 9
  have z10:=hS2.rr.cell 10
  have y0:=hS2.rr.frozen 0
  have y1:=hS2.rr.frozen 1
  have y2:=hS2.rr.frozen 2
  have y3:=hS2.rr.frozen 3
  have y4:=hS2.rr.frozen 4
  have y5:=hS2.rr.frozen 5
  have y6:=hS2.rr.frozen 6
  have y7:=hS2.rr.frozen 7
  have y8:=hS2.rr.frozen 8
  have y9:=hS2.rr.frozen 9
  have y10:=hS2.rr.frozen 10
  simp at z0 z1 z2 z3 z4 z5 z6 z7 z8 z9 z10
  have zlt:=hS2.rr.lt
  clear hS2 hb1
  simp only [fnR]
  go_wp2_with fail
  have hst:=store11 HS2.out.rr (.int .i64 0) (.int .i64 0) (.int .i64 0) (.int .i64 0) (.int .i64 0) (.int .i64 0) (.int .i64 0) (.int .i64 0) (.bool false) (.slice none 0 0) (.slice none 0 0)
  have hbe:=hst.2.below HS2.out.bl HN'.out.1
  clear z0 y0 z1 y1 z2 y2 z3 y3 z4 y4 z5 y5 z6 y6 z7 y7 z8 y8 z9 y9 z10 y10 zlt
  generalize (((((((((((w1.setCell ⟨r,0,none⟩ (.int .i64 0)).setCell ⟨r,1,none⟩ (.int .i64 0)).setCell ⟨r,2,none⟩ (.int .i64 0)).setCell ⟨r,3,none⟩ (.int .i64 0)).setCell ⟨r,4,none⟩ (.int .i64 0)).setCell ⟨r,5,none⟩ (.int .i64 0)).setCell ⟨r,6,none⟩ (.int .i64 0)).setCell ⟨r,7,none⟩ (.int .i64 0)).setCell ⟨r,8,none⟩ (.bool false)).setCell ⟨r,9,none⟩ (.slice none 0 0)).setCell ⟨r,10,none⟩ (.slice none 0 0))=Z at hst hbe ⊢
  have q0:=hst.1.cell 0
  have q1:=hst.1.cell 1
  have q2:=hst.1.cell 2
  have q3:=hst.1.cell 3
  have q4:=hst.1.cell 4
  have q5:=hst.1.cell 5
  have q6:=hst.1.cell 6
  have q7:=hst.1.cell 7
  have q8:=hst.1.cell 8
  have q9:=hst.1.cell 9
  have q10:=hst.1.cell 10
  simp at q0 q1 q2 q3 q4 q5 q6 q7 q8 q9 q10
  refine bodyPost_ret (v:=.tuple #[zeroM,.int .i64 90]) (by simp [results,Tryz.results75,go_sem,zeroM,q0,q1,q2,q3,q4,q5,q6,q7,q8,q9,q10]) rfl (Or.inl ⟨rdv_1 hf0,rfl,hbe⟩)
 rw [hf0] at CF1
 have CF2:=hide CF1
 have hsz0:=fin_size HD.out hf0
 have hsz0':(mx.size:Int)≤1073741824:=by omega
 have HF0:=hide hf0
 clear CF1
 refine CF2.out.mono ?_
 rintro e w1 ⟨rfl,hb1⟩
 have hS2:=HS1.out.below hb1
 have hk2:=HK1.out.below hb1
 have u1:=hk2.cell 1
 have u2:=hk2.cell 2
 have ult:=hk2.lt
 simp at u1 u2
 have HS2:=hide hS2
 clear hb1 hk2 HS1 HK1 CF2 hf0
 simp only [fnR]
 by_cases hl:mx.size < 6
 ·have hl':(mx.size:Int) < 6:=by omega
  have hlz:decide (6≤mx.size)=false:=by simp;omega
  have HLZ:=hide hlz
  clear hl hsz0 hlz
  have z0:=hS2.rr.cell 0
  have z1:=hS2.rr.cell 1
  have z2:=hS2.rr.cell 2
  have z3:=hS2.rr.cell 3
  have z4:=hS2.rr.cell 4
  have z5:=hS2.rr.cell 5
  have z6:=hS2.rr.cell 6
  have z7:=hS2.rr.cell 7
  have z8:=hS2.rr.cell 8
  have z9:=hS2.rr.cell 9
  have z10:=hS2.rr.cell 10
  have y0:=hS2.rr.frozen 0
  have y1:=hS2.rr.frozen 1
  have y2:=hS2.rr.frozen 2
  have y3:=hS2.rr.frozen 3
  have y4:=hS2.rr.frozen 4
  have y5:=hS2.rr.frozen 5
  have y6:=hS2.rr.frozen 6
  have y7:=hS2.rr.frozen 7
  have y8:=hS2.rr.frozen 8
  have y9:=hS2.rr.frozen 9
  have y10:=hS2.rr.frozen 10
  simp at z0 z1 z2 z3 z4 z5 z6 z7 z8 z9 z10
  have zlt:=hS2.rr.lt
  clear hS2
  go_wp2_with fail
  have hst:=store11 HS2.out.rr (.int .i64 0) (.int .i64 0) (.int .i64 0) (.int .i64 0) (.int .i64 0) (.int .i64 0) (.int .i64 0) (.int .i64 0) (.bool false) (.slice none 0 0) (.slice none 0 0)
  have hbe:=hst.2.below HS2.out.bl HN'.out.1
  clear z0 y0 z1 y1 z2 y2 z3 y3 z4 y4 z5 y5 z6 y6 z7 y7 z8 y8 z9 y9 z10 y10 zlt
  generalize (((((((((((w1.setCell ⟨r,0,none⟩ (.int .i64 0)).setCell ⟨r,1,none⟩ (.int .i64 0)).setCell ⟨r,2,none⟩ (.int .i64 0)).setCell ⟨r,3,none⟩ (.int .i64 0)).setCell ⟨r,4,none⟩ (.int .i64 0)).setCell ⟨r,5,none⟩ (.int .i64 0)).setCell ⟨r,6,none⟩ (.int .i64 0)).setCell ⟨r,7,none⟩ (.int .i64 0)).setCell ⟨r,8,none⟩ (.bool false)).setCell ⟨r,9,none⟩ (.slice none 0 0)).setCell ⟨r,10,none⟩ (.slice none 0 0))=Z at hst hbe ⊢
  have q0:=hst.1.cell 0
  have q1:=hst.1.cell 1
  have q2:=hst.1.cell 2
  have q3:=hst.1.cell 3
  have q4:=hst.1.cell 4
  have q5:=hst.1.cell 5
  have q6:=hst.1.cell 6
  have q7:=hst.1.cell 7
  have q8:=hst.1.cell 8
  have q9:=hst.1.cell 9
  have q10:=hst.1.cell 10
  simp at q0 q1 q2 q3 q4 q5 q6 q7 q8 q9 q10
  refine bodyPost_ret (v:=.tuple #[zeroM,.int .i64 90]) (by simp [results,Tryz.results75,go_sem,zeroM,q0,q1,q2,q3,q4,q5,q6,q7,q8,q9,q10]) rfl (Or.inl ⟨rdv_no fun m1 m2 m3 m4 e1 e2 e3 e4=>by rw [HF0.out] at e1;injection e1 with e1;subst e1;unfold allB;rw [HLZ.out];simp,rfl,hbe⟩)
 have hl':¬(mx.size:Int) < 6:=by omega
 have hlz0:decide (6≤mx.size)=true:=by simp;omega
 have HLZ0:=hide hlz0
 have CM:=mx_any mx b w1 _ _ _ _ _ _ _ _ _ _ _ _ _ hS2.rb (by omega) hsz0
 clear hl hsz0 hlz0
 cases hq:mxB mx
 ·rw [hq] at CM
  have CM2:=hide CM
  have HQ:=hide hq
  clear CM hq
  go_wp2_with fail
  refine CM2.out.mono ?_
  rintro e w2 ⟨rfl,hrb,hbut⟩
  have hS3:=hS2.step hbut HL.out HN'.out hrb
  have HS3:=hide hS3
  have z0:=hS3.rr.cell 0
  have z1:=hS3.rr.cell 1
  have z2:=hS3.rr.cell 2
  have z3:=hS3.rr.cell 3
  have z4:=hS3.rr.cell 4
  have z5:=hS3.rr.cell 5
  have z6:=hS3.rr.cell 6
  have z7:=hS3.rr.cell 7
  have z8:=hS3.rr.cell 8
  have z9:=hS3.rr.cell 9
  have z10:=hS3.rr.cell 10
  have y0:=hS3.rr.frozen 0
  have y1:=hS3.rr.frozen 1
  have y2:=hS3.rr.frozen 2
  have y3:=hS3.rr.frozen 3
  have y4:=hS3.rr.frozen 4
  have y5:=hS3.rr.frozen 5
  have y6:=hS3.rr.frozen 6
  have y7:=hS3.rr.frozen 7
  have y8:=hS3.rr.frozen 8
  have y9:=hS3.rr.frozen 9
  have y10:=hS3.rr.frozen 10
  simp at z0 z1 z2 z3 z4 z5 z6 z7 z8 z9 z10
  have zlt:=hS3.rr.lt
  clear hS2 hS3 hrb hbut HS2 CM2
  go_wp2_with fail
  have hst:=store11 HS3.out.rr (.int .i64 0) (.int .i64 0) (.int .i64 0) (.int .i64 0) (.int .i64 0) (.int .i64 0) (.int .i64 0) (.int .i64 0) (.bool false) (.slice none 0 0) (.slice none 0 0)
  have hbe:=hst.2.below HS3.out.bl HN'.out.1
  clear z0 y0 z1 y1 z2 y2 z3 y3 z4 y4 z5 y5 z6 y6 z7 y7 z8 y8 z9 y9 z10 y10 zlt
  generalize (((((((((((w2.setCell ⟨r,0,none⟩ (.int .i64 0)).setCell ⟨r,1,none⟩ (.int .i64 0)).setCell ⟨r,2,none⟩ (.int .i64 0)).setCell ⟨r,3,none⟩ (.int .i64 0)).setCell ⟨r,4,none⟩ (.int .i64 0)).setCell ⟨r,5,none⟩ (.int .i64 0)).setCell ⟨r,6,none⟩ (.int .i64 0)).setCell ⟨r,7,none⟩ (.int .i64 0)).setCell ⟨r,8,none⟩ (.bool false)).setCell ⟨r,9,none⟩ (.slice none 0 0)).setCell ⟨r,10,none⟩ (.slice none 0 0))=Z at hst hbe ⊢
  have q0:=hst.1.cell 0
  have q1:=hst.1.cell 1
  have q2:=hst.1.cell 2
  have q3:=hst.1.cell 3
  have q4:=hst.1.cell 4
  have q5:=hst.1.cell 5
  have q6:=hst.1.cell 6
  have q7:=hst.1.cell 7
  have q8:=hst.1.cell 8
  have q9:=hst.1.cell 9
  have q10:=hst.1.cell 10
  simp at q0 q1 q2 q3 q4 q5 q6 q7 q8 q9 q10
  refine bodyPost_ret (v:=.tuple #[zeroM,.int .i64 90]) (by simp [results,Tryz.results75,go_sem,zeroM,q0,q1,q2,q3,q4,q5,q6,q7,q8,q9,q10]) rfl (Or.inl ⟨rdv_no fun m1 m2 m3 m4 e1 e2 e3 e4=>by rw [HF0.out] at e1;injection e1 with e1;subst e1;unfold allB;rw [HQ.out];simp,rfl,hbe⟩)
 rw [hq] at CM
 have CM2:=hide CM
 have HQ0:=hide hq
 clear CM hq
 go_wp2_with fail
 refine CM2.out.mono ?_
 rintro e W1 ⟨rfl,hrb,hbut⟩
 have HS1':=hide (hS2.step hbut HL.out HN'.out hrb)
 clear hS2 hrb hbut HS2 CM2 u1 u2 ult hl'
 go_wp2_with fail
 rw [rounds_succ]
 have t0:=HS1'.out.st.cell 3
 have t1:=HS1'.out.st.cell 4
 have t2:=HS1'.out.st.cell 5
 have glt:=HS1'.out.st.lt
 simp [stepsC] at t0 t1 t2
 have hne:g≠W1.heap.size:=by omega
 go_wp2_with fail
 have hal:=(Below.refl W1.heap.size W1).alloc (Nat.le_refl _) (.cells #[.string headS,.int .i64 54,.func (Fn.func 148) #[] #[]] 165)
 have hS1:=HS1'.out.below hal
 have k1:=Blk.new W1 #[.string headS,.int .i64 54,.func (Fn.func 148) #[] #[]] 165
 clear t0 t1 t2 glt hne hal
 generalize W1.alloc (.cells #[.string headS,.int .i64 54,.func (Fn.func 148) #[] #[]] 165)=U1 at hS1 k1 ⊢
 obtain ⟨x1,hx1⟩:∃x,W1.heap.size=x:=⟨_,rfl⟩
 rw [hx1] at k1 ⊢
 have CF1:=CF.out headS U1 hS1.tl
 have HS1:=hide hS1
 have HK1:=hide k1
 clear hS1 k1 HS1' hx1
 rcases hf1:finV l headS with _ | hd
 ·rw [hf1] at CF1
  have CF2:=hide CF1
  clear CF1
  refine CF2.out.mono ?_
  rintro e w1 ⟨rfl,hb1⟩
  have hS2:=HS1.out.below hb1
  have HS2:=hide hS2
  have z0:=hS2.rr.cell 0
  have z1:=hS2.rr.cell 1
  have z2:=hS2.rr.cell 2
  have z3:=hS2.rr.cell 3
  have z4:=hS2.rr.cell 4
  have z5:=hS2.rr.cell 5
  have z6:=hS2.rr.cell 6
  have z7:=hS2.rr.cell 7
  have z8:=hS2.rr.cell 8
  have z9:=hS2.rr.cell 9
  have z10:=hS2.rr.cell 10
  have y0:=hS2.rr.frozen 0
  have y1:=hS2.rr.frozen 1
  have y2:=hS2.rr.frozen 2
  have y3:=hS2.rr.frozen 3
  have y4:=hS2.rr.frozen 4
  have y5:=hS2.rr.frozen 5
  have y6:=hS2.rr.frozen 6
  have y7:=hS2.rr.frozen 7
  have y8:=hS2.rr.frozen 8
  have y9:=hS2.rr.frozen 9
  have y10:=hS2.rr.frozen 10
  simp at z0 z1 z2 z3 z4 z5 z6 z7 z8 z9 z10
  have zlt:=hS2.rr.lt
  clear hS2 hb1
  simp only [fnR]
  go_wp2_with fail
  have hst:=store11 HS2.out.rr (.int .i64 0) (.int .i64 0) (.int .i64 0) (.int .i64 0) (.int .i64 0) (.int .i64 0) (.int .i64 0) (.int .i64 0) (.bool false) (.slice none 0 0) (.slice none 0 0)
  have hbe:=hst.2.below HS2.out.bl HN'.out.1
  clear z0 y0 z1 y1 z2 y2 z3 y3 z4 y4 z5 y5 z6 y6 z7 y7 z8 y8 z9 y9 z10 y10 zlt
  generalize (((((((((((w1.setCell ⟨r,0,none⟩ (.int .i64 0)).setCell ⟨r,1,none⟩ (.int .i64 0)).setCell ⟨r,2,none⟩ (.int .i64 0)).setCell ⟨r,3,none⟩ (.int .i64 0)).setCell ⟨r,4,none⟩ (.int .i64 0)).setCell ⟨r,5,none⟩ (.int .i64 0)).setCell ⟨r,6,none⟩ (.int .i64 0)).setCell ⟨r,7,none⟩ (.int .i64 0)).setCell ⟨r,8,none⟩ (.bool false)).setCell ⟨r,9,none⟩ (.slice none 0 0)).setCell ⟨r,10,none⟩ (.slice none 0 0))=Z at hst hbe ⊢
  have q0:=hst.1.cell 0
  have q1:=hst.1.cell 1
  have q2:=hst.1.cell 2
  have q3:=hst.1.cell 3
  have q4:=hst.1.cell 4
  have q5:=hst.1.cell 5
  have q6:=hst.1.cell 6
  have q7:=hst.1.cell 7
  have q8:=hst.1.cell 8
  have q9:=hst.1.cell 9
  have q10:=hst.1.cell 10
  simp at q0 q1 q2 q3 q4 q5 q6 q7 q8 q9 q10
  refine bodyPost_ret (v:=.tuple #[zeroM,.int .i64 90]) (by simp [results,Tryz.results75,go_sem,zeroM,q0,q1,q2,q3,q4,q5,q6,q7,q8,q9,q10]) rfl (Or.inl ⟨rdv_2 hf1,rfl,hbe⟩)
 rw [hf1] at CF1
 have CF2:=hide CF1
 have hsz1:=fin_size HD.out hf1
 have hsz1':(hd.size:Int)≤1073741824:=by omega
 have HF1:=hide hf1
 clear CF1
 refine CF2.out.mono ?_
 rintro e w1 ⟨rfl,hb1⟩
 have hS2:=HS1.out.below hb1
 have hk2:=HK1.out.below hb1
 have u1:=hk2.cell 1
 have u2:=hk2.cell 2
 have ult:=hk2.lt
 simp at u1 u2
 have HS2:=hide hS2
 clear hb1 hk2 HS1 HK1 CF2 hf1
 simp only [fnR]
 by_cases hl:hd.size < 54
 ·have hl':(hd.size:Int) < 54:=by omega
  have hlz:decide (54≤hd.size)=false:=by simp;omega
  have HLZ:=hide hlz
  clear hl hsz1 hlz
  have z0:=hS2.rr.cell 0
  have z1:=hS2.rr.cell 1
  have z2:=hS2.rr.cell 2
  have z3:=hS2.rr.cell 3
  have z4:=hS2.rr.cell 4
  have z5:=hS2.rr.cell 5
  have z6:=hS2.rr.cell 6
  have z7:=hS2.rr.cell 7
  have z8:=hS2.rr.cell 8
  have z9:=hS2.rr.cell 9
  have z10:=hS2.rr.cell 10
  have y0:=hS2.rr.frozen 0
  have y1:=hS2.rr.frozen 1
  have y2:=hS2.rr.frozen 2
  have y3:=hS2.rr.frozen 3
  have y4:=hS2.rr.frozen 4
  have y5:=hS2.rr.frozen 5
  have y6:=hS2.rr.frozen 6
  have y7:=hS2.rr.frozen 7
  have y8:=hS2.rr.frozen 8
  have y9:=hS2.rr.frozen 9
  have y10:=hS2.rr.frozen 10
  simp at z0 z1 z2 z3 z4 z5 z6 z7 z8 z9 z10
  have zlt:=hS2.rr.lt
  clear hS2
  go_wp2_with fail
  have hst:=store11 HS2.out.rr (.int .i64 0) (.int .i64 0) (.int .i64 0) (.int .i64 0) (.int .i64 0) (.int .i64 0) (.int .i64 0) (.int .i64 0) (.bool false) (.slice none 0 0) (.slice none 0 0)
  have hbe:=hst.2.below HS2.out.bl HN'.out.1
  clear z0 y0 z1 y1 z2 y2 z3 y3 z4 y4 z5 y5 z6 y6 z7 y7 z8 y8 z9 y9 z10 y10 zlt
  generalize (((((((((((w1.setCell ⟨r,0,none⟩ (.int .i64 0)).setCell ⟨r,1,none⟩ (.int .i64 0)).setCell ⟨r,2,none⟩ (.int .i64 0)).setCell ⟨r,3,none⟩ (.int .i64 0)).setCell ⟨r,4,none⟩ (.int .i64 0)).setCell ⟨r,5,none⟩ (.int .i64 0)).setCell ⟨r,6,none⟩ (.int .i64 0)).setCell ⟨r,7,none⟩ (.int .i64 0)).setCell ⟨r,8,none⟩ (.bool false)).setCell ⟨r,9,none⟩ (.slice none 0 0)).setCell ⟨r,10,none⟩ (.slice none 0 0))=Z at hst hbe ⊢
  have q0:=hst.1.cell 0
  have q1:=hst.1.cell 1
  have q2:=hst.1.cell 2
  have q3:=hst.1.cell 3
  have q4:=hst.1.cell 4
  have q5:=hst.1.cell 5
  have q6:=hst.1.cell 6
  have q7:=hst.1.cell 7
  have q8:=hst.1.cell 8
  have q9:=hst.1.cell 9
  have q10:=hst.1.cell 10
  simp at q0 q1 q2 q3 q4 q5 q6 q7 q8 q9 q10
  refine bodyPost_ret (v:=.tuple #[zeroM,.int .i64 90]) (by simp [results,Tryz.results75,go_sem,zeroM,q0,q1,q2,q3,q4,q5,q6,q7,q8,q9,q10]) rfl (Or.inl ⟨rdv_no fun m1 m2 m3 m4 e1 e2 e3 e4=>by rw [HF0.out] at e1;injection e1 with e1;subst e1;rw [HF1.out] at e2;injection e2 with e2;subst e2;unfold allB;rw [HLZ.out];simp,rfl,hbe⟩)
 have hl':¬(hd.size:Int) < 54:=by omega
 have hlz1:decide (54≤hd.size)=true:=by simp;omega
 have HLZ1:=hide hlz1
 have CM:=hd_any hd b w1 _ _ _ _ _ _ _ _ _ _ _ _ _ hS2.rb (by omega) hsz1
 clear hl hsz1 hlz1
 cases hq:hdB hd
 ·rw [hq] at CM
  have CM2:=hide CM
  have HQ:=hide hq
  clear CM hq
  go_wp2_with fail
  refine CM2.out.mono ?_
  rintro e w2 ⟨rfl,hrb,hbut⟩
  have hS3:=hS2.step hbut HL.out HN'.out hrb
  have HS3:=hide hS3
  have z0:=hS3.rr.cell 0
  have z1:=hS3.rr.cell 1
  have z2:=hS3.rr.cell 2
  have z3:=hS3.rr.cell 3
  have z4:=hS3.rr.cell 4
  have z5:=hS3.rr.cell 5
  have z6:=hS3.rr.cell 6
  have z7:=hS3.rr.cell 7
  have z8:=hS3.rr.cell 8
  have z9:=hS3.rr.cell 9
  have z10:=hS3.rr.cell 10
  have y0:=hS3.rr.frozen 0
  have y1:=hS3.rr.frozen 1
  have y2:=hS3.rr.frozen 2
  have y3:=hS3.rr.frozen 3
  have y4:=hS3.rr.frozen 4
  have y5:=hS3.rr.frozen 5
  have y6:=hS3.rr.frozen 6
  have y7:=hS3.rr.frozen 7
  have y8:=hS3.rr.frozen 8
  have y9:=hS3.rr.frozen 9
  have y10:=hS3.rr.frozen 10
  simp at z0 z1 z2 z3 z4 z5 z6 z7 z8 z9 z10
  have zlt:=hS3.rr.lt
  clear hS2 hS3 hrb hbut HS2 CM2
  go_wp2_with fail
  have hst:=store11 HS3.out.rr (.int .i64 0) (.int .i64 0) (.int .i64 0) (.int .i64 0) (.int .i64 0) (.int .i64 0) (.int .i64 0) (.int .i64 0) (.bool false) (.slice none 0 0) (.slice none 0 0)
  have hbe:=hst.2.below HS3.out.bl HN'.out.1
  clear z0 y0 z1 y1 z2 y2 z3 y3 z4 y4 z5 y5 z6 y6 z7 y7 z8 y8 z9 y9 z10 y10 zlt
  generalize (((((((((((w2.setCell ⟨r,0,none⟩ (.int .i64 0)).setCell ⟨r,1,none⟩ (.int .i64 0)).setCell ⟨r,2,none⟩ (.int .i64 0)).setCell ⟨r,3,none⟩ (.int .i64 0)).setCell ⟨r,4,none⟩ (.int .i64 0)).setCell ⟨r,5,none⟩ (.int .i64 0)).setCell ⟨r,6,none⟩ (.int .i64 0)).setCell ⟨r,7,none⟩ (.int .i64 0)).setCell ⟨r,8,none⟩ (.bool false)).setCell ⟨r,9,none⟩ (.slice none 0 0)).setCell ⟨r,10,none⟩ (.slice none 0 0))=Z at hst hbe ⊢
  have q0:=hst.1.cell 0
  have q1:=hst.1.cell 1
  have q2:=hst.1.cell 2
  have q3:=hst.1.cell 3
  have q4:=hst.1.cell 4
  have q5:=hst.1.cell 5
  have q6:=hst.1.cell 6
  have q7:=hst.1.cell 7
  have q8:=hst.1.cell 8
  have q9:=hst.1.cell 9
  have q10:=hst.1.cell 10
  simp at q0 q1 q2 q3 q4 q5 q6 q7 q8 q9 q10
  refine bodyPost_ret (v:=.tuple #[zeroM,.int .i64 90]) (by simp [results,Tryz.results75,go_sem,zeroM,q0,q1,q2,q3,q4,q5,q6,q7,q8,q9,q10]) rfl (Or.inl ⟨rdv_no fun m1 m2 m3 m4 e1 e2 e3 e4=>by rw [HF0.out] at e1;injection e1 with e1;subst e1;rw [HF1.out] at e2;injection e2 with e2;subst e2;unfold allB;rw [HQ.out];simp,rfl,hbe⟩)
 rw [hq] at CM
 have CM2:=hide CM
 have HQ1:=hide hq
 clear CM hq
 go_wp2_with fail
 refine CM2.out.mono ?_
 rintro e W2 ⟨rfl,hrb,hbut⟩
 have HS2':=hide (hS2.step hbut HL.out HN'.out hrb)
 clear hS2 hrb hbut HS2 CM2 u1 u2 ult hl'
 go_wp2_with fail
 rw [rounds_succ]
 have t0:=HS2'.out.st.cell 6
 have t1:=HS2'.out.st.cell 7
 have t2:=HS2'.out.st.cell 8
 have glt:=HS2'.out.st.lt
 simp [stepsC] at t0 t1 t2
 have hne:g≠W2.heap.size:=by omega
 go_wp2_with fail
 have hal:=(Below.refl W2.heap.size W2).alloc (Nat.le_refl _) (.cells #[.string hheaS,.int .i64 36,.func (Fn.func 149) #[] #[]] 165)
 have hS1:=HS2'.out.below hal
 have k1:=Blk.new W2 #[.string hheaS,.int .i64 36,.func (Fn.func 149) #[] #[]] 165
 clear t0 t1 t2 glt hne hal
 generalize W2.alloc (.cells #[.string hheaS,.int .i64 36,.func (Fn.func 149) #[] #[]] 165)=U2 at hS1 k1 ⊢
 obtain ⟨x2,hx2⟩:∃x,W2.heap.size=x:=⟨_,rfl⟩
 rw [hx2] at k1 ⊢
 have CF1:=CF.out hheaS U2 hS1.tl
 have HS1:=hide hS1
 have HK1:=hide k1
 clear hS1 k1 HS2' hx2
 rcases hf2:finV l hheaS with _ | hh
 ·rw [hf2] at CF1
  have CF2:=hide CF1
  clear CF1
  refine CF2.out.mono ?_
  rintro e w1 ⟨rfl,hb1⟩
  have hS2:=HS1.out.below hb1
  have HS2:=hide hS2
  have z0:=hS2.rr.cell 0
  have z1:=hS2.rr.cell 1
  have z2:=hS2.rr.cell 2
  have z3:=hS2.rr.cell 3
  have z4:=hS2.rr.cell 4
  have z5:=hS2.rr.cell 5
  have z6:=hS2.rr.cell 6
  have z7:=hS2.rr.cell 7
  have z8:=hS2.rr.cell 8
  have z9:=hS2.rr.cell 9
  have z10:=hS2.rr.cell 10
  have y0:=hS2.rr.frozen 0
  have y1:=hS2.rr.frozen 1
  have y2:=hS2.rr.frozen 2
  have y3:=hS2.rr.frozen 3
  have y4:=hS2.rr.frozen 4
  have y5:=hS2.rr.frozen 5
  have y6:=hS2.rr.frozen 6
  have y7:=hS2.rr.frozen 7
  have y8:=hS2.rr.frozen 8
  have y9:=hS2.rr.frozen 9
  have y10:=hS2.rr.frozen 10
  simp at z0 z1 z2 z3 z4 z5 z6 z7 z8 z9 z10
  have zlt:=hS2.rr.lt
  clear hS2 hb1
  simp only [fnR]
  go_wp2_with fail
  have hst:=store11 HS2.out.rr (.int .i64 0) (.int .i64 0) (.int .i64 0) (.int .i64 0) (.int .i64 0) (.int .i64 0) (.int .i64 0) (.int .i64 0) (.bool false) (.slice none 0 0) (.slice none 0 0)
  have hbe:=hst.2.below HS2.out.bl HN'.out.1
  clear z0 y0 z1 y1 z2 y2 z3 y3 z4 y4 z5 y5 z6 y6 z7 y7 z8 y8 z9 y9 z10 y10 zlt
  generalize (((((((((((w1.setCell ⟨r,0,none⟩ (.int .i64 0)).setCell ⟨r,1,none⟩ (.int .i64 0)).setCell ⟨r,2,none⟩ (.int .i64 0)).setCell ⟨r,3,none⟩ (.int .i64 0)).setCell ⟨r,4,none⟩ (.int .i64 0)).setCell ⟨r,5,none⟩ (.int .i64 0)).setCell ⟨r,6,none⟩ (.int .i64 0)).setCell ⟨r,7,none⟩ (.int .i64 0)).setCell ⟨r,8,none⟩ (.bool false)).setCell ⟨r,9,none⟩ (.slice none 0 0)).setCell ⟨r,10,none⟩ (.slice none 0 0))=Z at hst hbe ⊢
  have q0:=hst.1.cell 0
  have q1:=hst.1.cell 1
  have q2:=hst.1.cell 2
  have q3:=hst.1.cell 3
  have q4:=hst.1.cell 4
  have q5:=hst.1.cell 5
  have q6:=hst.1.cell 6
  have q7:=hst.1.cell 7
  have q8:=hst.1.cell 8
  have q9:=hst.1.cell 9
  have q10:=hst.1.cell 10
  simp at q0 q1 q2 q3 q4 q5 q6 q7 q8 q9 q10
  refine bodyPost_ret (v:=.tuple #[zeroM,.int .i64 90]) (by simp [results,Tryz.results75,go_sem,zeroM,q0,q1,q2,q3,q4,q5,q6,q7,q8,q9,q10]) rfl (Or.inl ⟨rdv_3 hf2,rfl,hbe⟩)
 rw [hf2] at CF1
 have CF2:=hide CF1
 have hsz2:=fin_size HD.out hf2
 have hsz2':(hh.size:Int)≤1073741824:=by omega
 have HF2:=hide hf2
 clear CF1
 refine CF2.out.mono ?_
 rintro e w1 ⟨rfl,hb1⟩
 have hS2:=HS1.out.below hb1
 have hk2:=HK1.out.below hb1
 have u1:=hk2.cell 1
 have u2:=hk2.cell 2
 have ult:=hk2.lt
 simp at u1 u2
 have HS2:=hide hS2
 clear hb1 hk2 HS1 HK1 CF2 hf2
 simp only [fnR]
 by_cases hl:hh.size < 36
 ·have hl':(hh.size:Int) < 36:=by omega
  have hlz:decide (36≤hh.size)=false:=by simp;omega
  have HLZ:=hide hlz
  clear hl hsz2 hlz
  have z0:=hS2.rr.cell 0
  have z1:=hS2.rr.cell 1
  have z2:=hS2.rr.cell 2
  have z3:=hS2.rr.cell 3
  have z4:=hS2.rr.cell 4
  have z5:=hS2.rr.cell 5
  have z6:=hS2.rr.cell 6
  have z7:=hS2.rr.cell 7
  have z8:=hS2.rr.cell 8
  have z9:=hS2.rr.cell 9
  have z10:=hS2.rr.cell 10
  have y0:=hS2.rr.frozen 0
  have y1:=hS2.rr.frozen 1
  have y2:=hS2.rr.frozen 2
  have y3:=hS2.rr.frozen 3
  have y4:=hS2.rr.frozen 4
  have y5:=hS2.rr.frozen 5
  have y6:=hS2.rr.frozen 6
  have y7:=hS2.rr.frozen 7
  have y8:=hS2.rr.frozen 8
  have y9:=hS2.rr.frozen 9
  have y10:=hS2.rr.frozen 10
  simp at z0 z1 z2 z3 z4 z5 z6 z7 z8 z9 z10
  have zlt:=hS2.rr.lt
  clear hS2
  go_wp2_with fail
  have hst:=store11 HS2.out.rr (.int .i64 0) (.int .i64 0) (.int .i64 0) (.int .i64 0) (.int .i64 0) (.int .i64 0) (.int .i64 0) (.int .i64 0) (.bool false) (.slice none 0 0) (.slice none 0 0)
  have hbe:=hst.2.below HS2.out.bl HN'.out.1
  clear z0 y0 z1 y1 z2 y2 z3 y3 z4 y4 z5 y5 z6 y6 z7 y7 z8 y8 z9 y9 z10 y10 zlt
  generalize (((((((((((w1.setCell ⟨r,0,none⟩ (.int .i64 0)).setCell ⟨r,1,none⟩ (.int .i64 0)).setCell ⟨r,2,none⟩ (.int .i64 0)).setCell ⟨r,3,none⟩ (.int .i64 0)).setCell ⟨r,4,none⟩ (.int .i64 0)).setCell ⟨r,5,none⟩ (.int .i64 0)).setCell ⟨r,6,none⟩ (.int .i64 0)).setCell ⟨r,7,none⟩ (.int .i64 0)).setCell ⟨r,8,none⟩ (.bool false)).setCell ⟨r,9,none⟩ (.slice none 0 0)).setCell ⟨r,10,none⟩ (.slice none 0 0))=Z at hst hbe ⊢
  have q0:=hst.1.cell 0
  have q1:=hst.1.cell 1
  have q2:=hst.1.cell 2
  have q3:=hst.1.cell 3
  have q4:=hst.1.cell 4
  have q5:=hst.1.cell 5
  have q6:=hst.1.cell 6
  have q7:=hst.1.cell 7
  have q8:=hst.1.cell 8
  have q9:=hst.1.cell 9
  have q10:=hst.1.cell 10
  simp at q0 q1 q2 q3 q4 q5 q6 q7 q8 q9 q10
  refine bodyPost_ret (v:=.tuple #[zeroM,.int .i64 90]) (by simp [results,Tryz.results75,go_sem,zeroM,q0,q1,q2,q3,q4,q5,q6,q7,q8,q9,q10]) rfl (Or.inl ⟨rdv_no fun m1 m2 m3 m4 e1 e2 e3 e4=>by rw [HF0.out] at e1;injection e1 with e1;subst e1;rw [HF1.out] at e2;injection e2 with e2;subst e2;rw [HF2.out] at e3;injection e3 with e3;subst e3;unfold allB;rw [HLZ.out];simp,rfl,hbe⟩)
 have hl':¬(hh.size:Int) < 36:=by omega
 have hlz2:decide (36≤hh.size)=true:=by simp;omega
 have HLZ2:=hide hlz2
 have CM:=hh_any hh b w1 _ _ _ _ _ _ _ _ _ _ _ _ _ hS2.rb (by omega) hsz2
 clear hl hsz2 hlz2
 cases hq:hhB hh (nV mx:Int)
 ·rw [hq] at CM
  have CM2:=hide CM
  have HQ:=hide hq
  clear CM hq
  go_wp2_with fail
  refine CM2.out.mono ?_
  rintro e w2 ⟨rfl,hrb,hbut⟩
  have hS3:=hS2.step hbut HL.out HN'.out hrb
  have HS3:=hide hS3
  have z0:=hS3.rr.cell 0
  have z1:=hS3.rr.cell 1
  have z2:=hS3.rr.cell 2
  have z3:=hS3.rr.cell 3
  have z4:=hS3.rr.cell 4
  have z5:=hS3.rr.cell 5
  have z6:=hS3.rr.cell 6
  have z7:=hS3.rr.cell 7
  have z8:=hS3.rr.cell 8
  have z9:=hS3.rr.cell 9
  have z10:=hS3.rr.cell 10
  have y0:=hS3.rr.frozen 0
  have y1:=hS3.rr.frozen 1
  have y2:=hS3.rr.frozen 2
  have y3:=hS3.rr.frozen 3
  have y4:=hS3.rr.frozen 4
  have y5:=hS3.rr.frozen 5
  have y6:=hS3.rr.frozen 6
  have y7:=hS3.rr.frozen 7
  have y8:=hS3.rr.frozen 8
  have y9:=hS3.rr.frozen 9
  have y10:=hS3.rr.frozen 10
  simp at z0 z1 z2 z3 z4 z5 z6 z7 z8 z9 z10
  have zlt:=hS3.rr.lt
  clear hS2 hS3 hrb hbut HS2 CM2
  go_wp2_with fail
  have hst:=store11 HS3.out.rr (.int .i64 0) (.int .i64 0) (.int .i64 0) (.int .i64 0) (.int .i64 0) (.int .i64 0) (.int .i64 0) (.int .i64 0) (.bool false) (.slice none 0 0) (.slice none 0 0)
  have hbe:=hst.2.below HS3.out.bl HN'.out.1
  clear z0 y0 z1 y1 z2 y2 z3 y3 z4 y4 z5 y5 z6 y6 z7 y7 z8 y8 z9 y9 z10 y10 zlt
  generalize (((((((((((w2.setCell ⟨r,0,none⟩ (.int .i64 0)).setCell ⟨r,1,none⟩ (.int .i64 0)).setCell ⟨r,2,none⟩ (.int .i64 0)).setCell ⟨r,3,none⟩ (.int .i64 0)).setCell ⟨r,4,none⟩ (.int .i64 0)).setCell ⟨r,5,none⟩ (.int .i64 0)).setCell ⟨r,6,none⟩ (.int .i64 0)).setCell ⟨r,7,none⟩ (.int .i64 0)).setCell ⟨r,8,none⟩ (.bool false)).setCell ⟨r,9,none⟩ (.slice none 0 0)).setCell ⟨r,10,none⟩ (.slice none 0 0))=Z at hst hbe ⊢
  have q0:=hst.1.cell 0
  have q1:=hst.1.cell 1
  have q2:=hst.1.cell 2
  have q3:=hst.1.cell 3
  have q4:=hst.1.cell 4
  have q5:=hst.1.cell 5
  have q6:=hst.1.cell 6
  have q7:=hst.1.cell 7
  have q8:=hst.1.cell 8
  have q9:=hst.1.cell 9
  have q10:=hst.1.cell 10
  simp at q0 q1 q2 q3 q4 q5 q6 q7 q8 q9 q10
  refine bodyPost_ret (v:=.tuple #[zeroM,.int .i64 90]) (by simp [results,Tryz.results75,go_sem,zeroM,q0,q1,q2,q3,q4,q5,q6,q7,q8,q9,q10]) rfl (Or.inl ⟨rdv_no fun m1 m2 m3 m4 e1 e2 e3 e4=>by rw [HF0.out] at e1;injection e1 with e1;subst e1;rw [HF1.out] at e2;injection e2 with e2;subst e2;rw [HF2.out] at e3;injection e3 with e3;subst e3;unfold allB;rw [HQ.out];simp,rfl,hbe⟩)
 rw [hq] at CM
 have CM2:=hide CM
 have HQ2:=hide hq
 clear CM hq
 go_wp2_with fail
 refine CM2.out.mono ?_
 rintro e W3 ⟨rfl,hrb,hbut⟩
 have HS3':=hide (hS2.step hbut HL.out HN'.out hrb)
 clear hS2 hrb hbut HS2 CM2 u1 u2 ult hl'
 go_wp2_with fail
 rw [rounds_succ]
 have t0:=HS3'.out.st.cell 9
 have t1:=HS3'.out.st.cell 10
 have t2:=HS3'.out.st.cell 11
 have glt:=HS3'.out.st.lt
 simp [stepsC] at t0 t1 t2
 have hne:g≠W3.heap.size:=by omega
 go_wp2_with fail
 have hal:=(Below.refl W3.heap.size W3).alloc (Nat.le_refl _) (.cells #[.string hmtxS,.int .i64 0,.func (Fn.func 150) #[] #[]] 165)
 have hS1:=HS3'.out.below hal
 have k1:=Blk.new W3 #[.string hmtxS,.int .i64 0,.func (Fn.func 150) #[] #[]] 165
 clear t0 t1 t2 glt hne hal
 generalize W3.alloc (.cells #[.string hmtxS,.int .i64 0,.func (Fn.func 150) #[] #[]] 165)=U3 at hS1 k1 ⊢
 obtain ⟨x3,hx3⟩:∃x,W3.heap.size=x:=⟨_,rfl⟩
 rw [hx3] at k1 ⊢
 have CF1:=CF.out hmtxS U3 hS1.tl
 have HS1:=hide hS1
 have HK1:=hide k1
 clear hS1 k1 HS3' hx3
 rcases hf3:finV l hmtxS with _ | hx
 ·rw [hf3] at CF1
  have CF2:=hide CF1
  clear CF1
  refine CF2.out.mono ?_
  rintro e w1 ⟨rfl,hb1⟩
  have hS2:=HS1.out.below hb1
  have HS2:=hide hS2
  have z0:=hS2.rr.cell 0
  have z1:=hS2.rr.cell 1
  have z2:=hS2.rr.cell 2
  have z3:=hS2.rr.cell 3
  have z4:=hS2.rr.cell 4
  have z5:=hS2.rr.cell 5
  have z6:=hS2.rr.cell 6
  have z7:=hS2.rr.cell 7
  have z8:=hS2.rr.cell 8
  have z9:=hS2.rr.cell 9
  have z10:=hS2.rr.cell 10
  have y0:=hS2.rr.frozen 0
  have y1:=hS2.rr.frozen 1
  have y2:=hS2.rr.frozen 2
  have y3:=hS2.rr.frozen 3
  have y4:=hS2.rr.frozen 4
  have y5:=hS2.rr.frozen 5
  have y6:=hS2.rr.frozen 6
  have y7:=hS2.rr.frozen 7
  have y8:=hS2.rr.frozen 8
  have y9:=hS2.rr.frozen 9
  have y10:=hS2.rr.frozen 10
  simp at z0 z1 z2 z3 z4 z5 z6 z7 z8 z9 z10
  have zlt:=hS2.rr.lt
  clear hS2 hb1
  simp only [fnR]
  go_wp2_with fail
  have hst:=store11 HS2.out.rr (.int .i64 0) (.int .i64 0) (.int .i64 0) (.int .i64 0) (.int .i64 0) (.int .i64 0) (.int .i64 0) (.int .i64 0) (.bool false) (.slice none 0 0) (.slice none 0 0)
  have hbe:=hst.2.below HS2.out.bl HN'.out.1
  clear z0 y0 z1 y1 z2 y2 z3 y3 z4 y4 z5 y5 z6 y6 z7 y7 z8 y8 z9 y9 z10 y10 zlt
  generalize (((((((((((w1.setCell ⟨r,0,none⟩ (.int .i64 0)).setCell ⟨r,1,none⟩ (.int .i64 0)).setCell ⟨r,2,none⟩ (.int .i64 0)).setCell ⟨r,3,none⟩ (.int .i64 0)).setCell ⟨r,4,none⟩ (.int .i64 0)).setCell ⟨r,5,none⟩ (.int .i64 0)).setCell ⟨r,6,none⟩ (.int .i64 0)).setCell ⟨r,7,none⟩ (.int .i64 0)).setCell ⟨r,8,none⟩ (.bool false)).setCell ⟨r,9,none⟩ (.slice none 0 0)).setCell ⟨r,10,none⟩ (.slice none 0 0))=Z at hst hbe ⊢
  have q0:=hst.1.cell 0
  have q1:=hst.1.cell 1
  have q2:=hst.1.cell 2
  have q3:=hst.1.cell 3
  have q4:=hst.1.cell 4
  have q5:=hst.1.cell 5
  have q6:=hst.1.cell 6
  have q7:=hst.1.cell 7
  have q8:=hst.1.cell 8
  have q9:=hst.1.cell 9
  have q10:=hst.1.cell 10
  simp at q0 q1 q2 q3 q4 q5 q6 q7 q8 q9 q10
  refine bodyPost_ret (v:=.tuple #[zeroM,.int .i64 90]) (by simp [results,Tryz.results75,go_sem,zeroM,q0,q1,q2,q3,q4,q5,q6,q7,q8,q9,q10]) rfl (Or.inl ⟨rdv_4 hf3,rfl,hbe⟩)
 rw [hf3] at CF1
 have CF2:=hide CF1
 have hsz3:=fin_size HD.out hf3
 have hsz3':(hx.size:Int)≤1073741824:=by omega
 have HF3:=hide hf3
 clear CF1
 refine CF2.out.mono ?_
 rintro e w1 ⟨rfl,hb1⟩
 have hS2:=HS1.out.below hb1
 have hk2:=HK1.out.below hb1
 have u1:=hk2.cell 1
 have u2:=hk2.cell 2
 have ult:=hk2.lt
 simp at u1 u2
 have HS2:=hide hS2
 clear hb1 hk2 HS1 HK1 CF2 hf3
 simp only [fnR]
 have hl':¬(hx.size:Int) < 0:=by omega
 obtain ⟨p1,p2⟩:=mx_bd HQ0.out
 obtain ⟨p3,p4⟩:=hh_bd HQ2.out
 by_cases hq:hx.size < 4 * hV hh+2 * (nV mx - hV hh)
 ·have CM2:=hide (hx_short hx b (nV mx) (hV hh) w1 _ _ _ _ _ _ _ _ _ _ _ hS2.rb p3 p4 p2 hsz3 hq)
  have HQ:Hid (decide (4 * hV hh+2 * (nV mx - hV hh)≤hx.size)=false):=hide (by simp;omega)
  clear hq hsz3 p1 p2 p3 p4
  go_wp2_with fail
  refine CM2.out.mono ?_
  rintro e w2 ⟨rfl,m,rfl⟩
  have hS3:=hS2.below (below_drewN' w1 m)
  have HS3:=hide hS3
  have z0:=hS3.rr.cell 0
  have z1:=hS3.rr.cell 1
  have z2:=hS3.rr.cell 2
  have z3:=hS3.rr.cell 3
  have z4:=hS3.rr.cell 4
  have z5:=hS3.rr.cell 5
  have z6:=hS3.rr.cell 6
  have z7:=hS3.rr.cell 7
  have z8:=hS3.rr.cell 8
  have z9:=hS3.rr.cell 9
  have z10:=hS3.rr.cell 10
  have y0:=hS3.rr.frozen 0
  have y1:=hS3.rr.frozen 1
  have y2:=hS3.rr.frozen 2
  have y3:=hS3.rr.frozen 3
  have y4:=hS3.rr.frozen 4
  have y5:=hS3.rr.frozen 5
  have y6:=hS3.rr.frozen 6
  have y7:=hS3.rr.frozen 7
  have y8:=hS3.rr.frozen 8
  have y9:=hS3.rr.frozen 9
  have y10:=hS3.rr.frozen 10
  simp at z0 z1 z2 z3 z4 z5 z6 z7 z8 z9 z10
  have zlt:=hS3.rr.lt
  clear hS2 hS3 HS2 CM2
  go_wp2_with fail
  have hst:=store11 HS3.out.rr (.int .i64 0) (.int .i64 0) (.int .i64 0) (.int .i64 0) (.int .i64 0) (.int .i64 0) (.int .i64 0) (.int .i64 0) (.bool false) (.slice none 0 0) (.slice none 0 0)
  have hbe:=hst.2.below HS3.out.bl HN'.out.1
  clear z0 y0 z1 y1 z2 y2 z3 y3 z4 y4 z5 y5 z6 y6 z7 y7 z8 y8 z9 y9 z10 y10 zlt
  generalize ((((((((((((w1.drewN m).setCell ⟨r,0,none⟩ (.int .i64 0)).setCell ⟨r,1,none⟩ (.int .i64 0)).setCell ⟨r,2,none⟩ (.int .i64 0)).setCell ⟨r,3,none⟩ (.int .i64 0)).setCell ⟨r,4,none⟩ (.int .i64 0)).setCell ⟨r,5,none⟩ (.int .i64 0)).setCell ⟨r,6,none⟩ (.int .i64 0)).setCell ⟨r,7,none⟩ (.int .i64 0)).setCell ⟨r,8,none⟩ (.bool false)).setCell ⟨r,9,none⟩ (.slice none 0 0)).setCell ⟨r,10,none⟩ (.slice none 0 0))=Z at hst hbe ⊢
  have q0:=hst.1.cell 0
  have q1:=hst.1.cell 1
  have q2:=hst.1.cell 2
  have q3:=hst.1.cell 3
  have q4:=hst.1.cell 4
  have q5:=hst.1.cell 5
  have q6:=hst.1.cell 6
  have q7:=hst.1.cell 7
  have q8:=hst.1.cell 8
  have q9:=hst.1.cell 9
  have q10:=hst.1.cell 10
  simp at q0 q1 q2 q3 q4 q5 q6 q7 q8 q9 q10
  refine bodyPost_ret (v:=.tuple #[zeroM,.int .i64 90]) (by simp [results,Tryz.results75,go_sem,zeroM,q0,q1,q2,q3,q4,q5,q6,q7,q8,q9,q10]) rfl (Or.inl ⟨rdv_no fun m1 m2 m3 m4 e1 e2 e3 e4=>by rw [HF0.out] at e1;injection e1 with e1;subst e1;rw [HF1.out] at e2;injection e2 with e2;subst e2;rw [HF2.out] at e3;injection e3 with e3;subst e3;rw [HF3.out] at e4;injection e4 with e4;subst e4;unfold allB;rw [HQ.out];simp,rfl,hbe⟩)
 have CM2:=hide (hx_any hx b (nV mx) (hV hh) w1 _ _ _ _ _ _ _ _ _ _ _ hS2.rb p3 p4 p2 hsz3 (by omega))
 have HQ3:Hid (decide (4 * hV hh+2 * (nV mx - hV hh)≤hx.size)=true):=hide (by simp;omega)
 clear hq hsz3 p1 p2 p3 p4
 go_wp2_with fail
 refine CM2.out.mono ?_
 rintro e W4 ⟨rfl,p,q,hp,hq,hpq,kp,kq,hrb,hbut⟩
 have hS4:=hS2.step hbut HL.out HN'.out hrb
 have HS4:=hide hS4
 have HPR:Hid (p≠r∧q≠r):=hide (by have:=hS2.rr.lt;omega)
 have HPQ:=hide (And.intro (Nat.le_trans hS2.bl.size hp) (And.intro (Nat.le_trans hS2.bl.size hq) (And.intro hpq (And.intro kp kq))))
 have z0:=hS4.rr.cell 0
 have z1:=hS4.rr.cell 1
 have z2:=hS4.rr.cell 2
 have z3:=hS4.rr.cell 3
 have z4:=hS4.rr.cell 4
 have z5:=hS4.rr.cell 5
 have z6:=hS4.rr.cell 6
 have z7:=hS4.rr.cell 7
 have z8:=hS4.rr.cell 8
 have z9:=hS4.rr.cell 9
 have z10:=hS4.rr.cell 10
 have y0:=hS4.rr.frozen 0
 have y1:=hS4.rr.frozen 1
 have y2:=hS4.rr.frozen 2
 have y3:=hS4.rr.frozen 3
 have y4:=hS4.rr.frozen 4
 have y5:=hS4.rr.frozen 5
 have y6:=hS4.rr.frozen 6
 have y7:=hS4.rr.frozen 7
 have y8:=hS4.rr.frozen 8
 have y9:=hS4.rr.frozen 9
 have y10:=hS4.rr.frozen 10
 simp at z0 z1 z2 z3 z4 z5 z6 z7 z8 z9 z10
 have zlt:=hS4.rr.lt
 have w2:=hS4.rb.cell 2
 have w3:=hS4.rb.cell 3
 have w4:=hS4.rb.cell 4
 have w5:=hS4.rb.cell 5
 have w6:=hS4.rb.cell 6
 have w7:=hS4.rb.cell 7
 have w8:=hS4.rb.cell 8
 have w9:=hS4.rb.cell 9
 have w10:=hS4.rb.cell 10
 have w11:=hS4.rb.cell 11
 have w12:=hS4.rb.cell 12
 have wlt:=hS4.rb.lt
 simp [rcs] at w2 w3 w4 w5 w6 w7 w8 w9 w10 w11 w12
 have hrne:=HN'.out.2.2.2.1
 have ALL:Hid (readV l=some (mx,hd,hh,hx)):=hide (rdv_yes HF0.out HF1.out HF2.out HF3.out (by unfold allB;rw [HLZ0.out,HQ0.out,HLZ1.out,HQ1.out,HLZ2.out,HQ2.out,HQ3.out];rfl))
 clear hS2 hS4 hrb hbut HS2 CM2 u1 u2 ult hl' hp hq hpq kp kq
 go_wp2_with fail
 rw [rounds_succ]
 go_wp2_with fail
 have hst:=store11 HS4.out.rr (.int .i64 ((n2 hd.data.toList 18:Nat):Int)) (.int .i64 (s2 hh.data.toList 4)) (.int .i64 (s2 hh.data.toList 6)) (.int .i64 (s2 hh.data.toList 8)) (.int .i64 (s2 hd.data.toList 36)) (.int .i64 (s2 hd.data.toList 38)) (.int .i64 (s2 hd.data.toList 40)) (.int .i64 (s2 hd.data.toList 42)) (.bool (((n2 hd.data.toList 50:Nat):Int) == 1)) (.slice (some ⟨p,0,none⟩) (nV mx) (nV mx)) (.slice (some ⟨q,0,none⟩) (nV mx) (nV mx))
 have hbe:=hst.2.below HS4.out.bl HN'.out.1
 have kp:=hst.2.blk HPQ.out.2.2.2.1 HPR.out.1
 have kq:=hst.2.blk HPQ.out.2.2.2.2 HPR.out.2
 clear z0 y0 z1 y1 z2 y2 z3 y3 z4 y4 z5 y5 z6 y6 z7 y7 z8 y8 z9 y9 z10 y10 zlt w2 w3 w4 w5 w6 w7 w8 w9 w10 w11 w12
 generalize (((((((((((W4.setCell ⟨r,0,none⟩ (.int .i64 ((n2 hd.data.toList 18:Nat):Int))).setCell ⟨r,1,none⟩ (.int .i64 (s2 hh.data.toList 4))).setCell ⟨r,2,none⟩ (.int .i64 (s2 hh.data.toList 6))).setCell ⟨r,3,none⟩ (.int .i64 (s2 hh.data.toList 8))).setCell ⟨r,4,none⟩ (.int .i64 (s2 hd.data.toList 36))).setCell ⟨r,5,none⟩ (.int .i64 (s2 hd.data.toList 38))).setCell ⟨r,6,none⟩ (.int .i64 (s2 hd.data.toList 40))).setCell ⟨r,7,none⟩ (.int .i64 (s2 hd.data.toList 42))).setCell ⟨r,8,none⟩ (.bool (((n2 hd.data.toList 50:Nat):Int) == 1))).setCell ⟨r,9,none⟩ (.slice (some ⟨p,0,none⟩) (nV mx) (nV mx))).setCell ⟨r,10,none⟩ (.slice (some ⟨q,0,none⟩) (nV mx) (nV mx)))=Z at hst hbe kp kq ⊢
 have q0:=hst.1.cell 0
 have q1:=hst.1.cell 1
 have q2:=hst.1.cell 2
 have q3:=hst.1.cell 3
 have q4:=hst.1.cell 4
 have q5:=hst.1.cell 5
 have q6:=hst.1.cell 6
 have q7:=hst.1.cell 7
 have q8:=hst.1.cell 8
 have q9:=hst.1.cell 9
 have q10:=hst.1.cell 10
 simp at q0 q1 q2 q3 q4 q5 q6 q7 q8 q9 q10
 refine bodyPost_ret (v:=.tuple #[mval mx hd hh (.slice (some ⟨p,0,none⟩) (nV mx) (nV mx)) (.slice (some ⟨q,0,none⟩) (nV mx) (nV mx)),.int .i64 0]) (by simp [results,Tryz.results75,go_sem,mval,q0,q1,q2,q3,q4,q5,q6,q7,q8,q9,q10]) rfl (Or.inr ⟨mx,hd,hh,hx,p,q,ALL.out,rfl,hbe,HPQ.out.1,HPQ.out.2.1,HPQ.out.2.2.1,kp,kq⟩)
end Go.Proofs.YtpaadbnlhapdbaaGreatDoor
