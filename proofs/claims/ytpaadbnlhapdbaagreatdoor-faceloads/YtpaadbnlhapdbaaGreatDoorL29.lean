/-
  Joined: M9Tab, M9Hmx.
-/
import Derived.Lib.BufferWrite
import Derived.Lib.SlBuf
import Derived.Test.YtpaadbnlhapdbaaGreatDoorL23
namespace Go.Proofs.YtpaadbnlhapdbaaGreatDoor
open Go.RowKit Go.Deep
set_option linter.unusedVariables false
def cpy (ys:List UInt8) (o:Nat) (s:List UInt8):List UInt8:=ys.take o++s++ys.drop (o+s.length)
theorem cpy_len {ys:List UInt8} {o:Nat} {s:List UInt8} (h:o+s.length≤ys.length):(cpy ys o s).length=ys.length:=by
 unfold cpy;simp;omega
def zers (n:Nat):List UInt8:=List.replicate n 0
theorem copy_at {w:World} {g:Nat} {ys:List UInt8} (h:Blk w g (bcs ys) 5) (o n c:Nat) (s:ByteArray) (hs:s.size≤n) (hf:o+s.size≤ys.length) :
  ∃w',(Builtin.copy_ #[99,9] 3 #[.slice (some ⟨g,o,none⟩) n c,.string s]).run Tryz.prog w=.ok (goInt s.size) w'∧Blk w' g (bcs (cpy ys o s.data.toList)) 5∧But g w w':=by
 obtain ⟨i0,hi,hz0,hz1,hz2⟩:=info_parts5 info_u8
 have hr:=Lib.run_copy_row_string (P:=Tryz.prog) w 99 9 3 5 g o n c s (bcs ys) 5 Tryz.underlying99 (by rw [hi];simp [hz1]) h hs (by unfold bcs;simpa using hf)
 refine ⟨_,hr,?_,?_⟩
 ·have e:(bcs ys).toList.take o++Lib.byteCells s.data.toList++(bcs ys).toList.drop (o+s.size)=(cpy ys o s.data.toList).map bcell:=by
   unfold cpy bcs
   rw [←Lib.size_eq]
   simp [List.map_take,List.map_drop]
   rfl
  rw [e]
  unfold Blk at *
  simp [World.setRow,Array.getElem?_modify,h,bcs]
 ·refine ⟨rfl,rfl,rfl,by simp [World.setRow],fun k _ hn=>?_⟩
  simp [World.setRow,Array.getElem?_modify]
  intro e;exact absurd e.symm hn
theorem make_bytes (n:Nat) (hn:n≤100000) (x:World):(Instr.makeSlice 99 (.int .i64 (n:Int)) (.int .i64 (n:Int))).run Tryz.prog x=.ok (.slice (some ⟨x.heap.size,0,none⟩) n n) (x.alloc (.cells (bcs (zers n)) 5)):=by
 obtain ⟨i0,hi,hz0,hz1,hz2⟩:=info_parts5 info_u8
 have h:=run_make (P:=Tryz.prog) x 99 5 i0 (.int .u8 0) Tryz.underlying99 hi hz0 .i64 .i64 n n (by omega) (Int.le_refl _) (by rw [hz2];omega) (by omega)
 rw [hz1] at h
 simp only [Int.toNat_natCast,Nat.mul_one] at h
 have e:madeCells (Value.int .u8 0).cells n=bcs (zers n):=by
  apply Array.ext (by simp [madeCells,bcs,zers])
  intro j h1 h2
  simp [madeCells,Value.cells,Nat.mod_one,bcs,zers,bcell]
 rw [e] at h
 exact h
theorem src_new (W:World) (g H:Nat) (zs:List Int) (hH:W.heap.size=H) (hg:g < W.heap.size) :
  zs=[]∨∃b off,(some ⟨H,0,none⟩:Option Addr)=some ⟨b,off,none⟩∧b≠g∧b < (W.alloc (.cells (zs.map (Value.int .i64)).toArray 3)).heap.size∧∀i,i < zs.length→(W.alloc (.cells (zs.map (Value.int .i64)).toArray 3)).cell? ⟨b,off+i,none⟩=some (.int .i64 (zs.getD i 0)):=by
 subst hH
 refine Or.inr ⟨W.heap.size,0,rfl,by omega,by simp,fun i hi=>?_⟩
 rw [World.cell?_alloc_at _ _ _ _ rfl,Nat.zero_add]
 simp [hi,List.getD_eq_getElem?_getD]
theorem put_new (g:Nat) (ys:List UInt8) (z:Int) (k:Nat) (zs:List Int) (L n H:Nat) (W:World) (hz:z=(k:Int)) (hL:ys.length=L) (hn:zs.length=n) (hk:k+2 * n≤L) (hm:L≤1000000)
  (hx:∀x∈zs,-4611686018427387904≤x∧x≤4611686018427387904) (hB:Blk W g (bcs ys) 5) (hH:W.heap.size=H) :
  Calls Tryz.prog 96 #[.slice (some ⟨g,0,none⟩) L L,.int .i64 z,.slice (some ⟨H,0,none⟩) n n] (W.alloc (.cells (zs.map (Value.int .i64)).toArray 3)) fun e w'=>e=.returned (.tuple #[])∧Blk w' g (bcs (putL ys k zs)) 5∧But g W w':=by
 have hb:Below W.heap.size W (W.alloc (.cells (zs.map (Value.int .i64)).toArray 3)):=(Below.refl _ _).alloc (Nat.le_refl _) _
 refine (put_any g ys z k (some ⟨H,0,none⟩) zs L n n _ hz hL hn hk hm hx (hB.below hb) (src_new W g H zs hH hB.lt)).mono ?_
 rintro e w' ⟨rfl,h1,h2⟩
 exact ⟨rfl,h1,(But.of_below hb).trans h2⟩
def mxT (n:Nat):List UInt8:=putL (putL (cpy (zers 32) 0 verS.data.toList) 4 [(n:Int)]) 14 [2]
set_option maxRecDepth 8000 in
set_option maxHeartbeats 4000000 in
theorem mxp_any (m:Mt) (aa:Option Addr) (na ca:Nat) (vb:Value) (w:World) (hma:na≤100000) :
  Calls Tryz.prog 63 #[.agg (mcs m (.slice aa na ca) vb)] w fun e w'=>∃g,e=.returned (.slice (some ⟨g,0,none⟩) 32 32)∧Blk w' g (bcs (mxT na)) 5∧w.heap.size≤g∧Below w.heap.size w w':=by
 obtain ⟨up,sc,de,ga,b0,b1,b2,b3,lg,ad,be⟩:=m
 have hma':(na:Int)≤100000:=by omega
 have MK:∀x:World,(Instr.makeSlice 99 (.int .i64 32) (.int .i64 32)).run Tryz.prog x=.ok (.slice (some ⟨x.heap.size,0,none⟩) 32 32) (x.alloc (.cells (bcs (zers 32)) 5)):=make_bytes 32 (by omega)
 have k1:=Blk.new w (mcs ⟨up,sc,de,ga,b0,b1,b2,b3,lg,ad,be⟩ (.slice aa na ca) vb) 26
 have b1':=(Below.refl w.heap.size w).alloc (Nat.le_refl _) (.cells (mcs ⟨up,sc,de,ga,b0,b1,b2,b3,lg,ad,be⟩ (.slice aa na ca) vb) 26)
 simp only [mcs] at k1 b1' ⊢
 go_enter Tryz.func63,Tryz.ntmps63
 go_wp2_with fail
 have k2:=Blk.new (w.alloc (.cells #[.int .i64 up,.int .i64 sc,.int .i64 de,.int .i64 ga,.int .i64 b0,.int .i64 b1,.int .i64 b2,.int .i64 b3,.bool lg,.slice aa na ca,vb] 26)) (bcs (zers 32)) 5
 have bb2:=(Below.refl (w.alloc (.cells #[.int .i64 up,.int .i64 sc,.int .i64 de,.int .i64 ga,.int .i64 b0,.int .i64 b1,.int .i64 b2,.int .i64 b3,.bool lg,.slice aa na ca,vb] 26)).heap.size (w.alloc (.cells #[.int .i64 up,.int .i64 sc,.int .i64 de,.int .i64 ga,.int .i64 b0,.int .i64 b1,.int .i64 b2,.int .i64 b3,.bool lg,.slice aa na ca,vb] 26))).alloc (Nat.le_refl _) (.cells (bcs (zers 32)) 5)
 have z2:(w.alloc (.cells #[.int .i64 up,.int .i64 sc,.int .i64 de,.int .i64 ga,.int .i64 b0,.int .i64 b1,.int .i64 b2,.int .i64 b3,.bool lg,.slice aa na ca,vb] 26)).heap.size=w.heap.size+1:=by simp
 rw [z2] at k2
 have HK:=hide (k1.below bb2)
 have HG:=hide k2
 have HO:=hide (below_t5 b1' bb2)
 clear k1 b1' k2 bb2 z2 MK
 generalize (w.alloc (.cells #[.int .i64 up,.int .i64 sc,.int .i64 de,.int .i64 ga,.int .i64 b0,.int .i64 b1,.int .i64 b2,.int .i64 b3,.bool lg,.slice aa na ca,vb] 26)).alloc (.cells (bcs (zers 32)) 5)=W0 at HK HG HO ⊢
 have HN:Hid (w.heap.size≤w.heap.size∧w.heap.size≤w.heap.size+1∧w.heap.size≠w.heap.size+1):=hide ⟨by omega,by omega,by omega⟩
 obtain ⟨g,hg⟩:∃g,w.heap.size+1=g:=⟨_,rfl⟩
 rw [hg] at HG HN ⊢
 obtain ⟨x,hx⟩:∃x,w.heap.size=x:=⟨_,rfl⟩
 have HN':Hid (w.heap.size≤x∧w.heap.size≤g∧x≠g):=hide ⟨by omega,HN.out.2.1,by have:=HN.out;omega⟩
 rw [hx] at HK ⊢
 clear HN hg hx
 have HL:Hid ((zers 32).length=32):=hide (by simp [zers])
 generalize hT:zers 32=T0 at HG HL
 have HT0:=hide hT
 clear hT
 obtain ⟨W1,hr,hB,hO⟩:=copy_at HG.out 0 32 32 verS (by decide) (by rw [HL.out];decide)
 have HL1:=hide ((cpy_len (ys:=T0) (o:=0) (s:=verS.data.toList) (by rw [HL.out];decide)).trans HL.out)
 rw [hr]
 generalize hT:cpy T0 0 verS.data.toList=T1 at hB HL1
 have HT1:=hide hT
 replace HK:=hide (hO.blk HK.out HN'.out.2.2)
 replace HG:=hide hB
 replace HO:=hide (hO.below HO.out HN'.out.2.1)
 replace HL:=HL1
 clear hB hO hT HL1 hr
 have c9:=HK.out.cell 9
 simp at c9
 have xlt:=HK.out.lt
 have glt:=HG.out.lt
 go_wp2_with fail
 have HL2:=hide ((putL_len [(na:Int)] T1 4).trans HL.out)
 refine (put_new g T1 _ 4 [(na:Int)] 32 1 _ W1 rfl HL.out rfl (by omega) (by omega) (fun x hx=>by simp at hx;subst hx;omega) HG.out (by first | rfl | simp)).mono ?_
 rintro e W2 ⟨rfl,hB,hO⟩
 clear c9 xlt glt
 generalize hT:putL T1 4 [(na:Int)]=T2 at hB HL2
 have HT2:=hide hT
 replace HK:=hide (hO.blk HK.out HN'.out.2.2)
 replace HG:=hide hB
 replace HO:=hide (hO.below HO.out HN'.out.2.1)
 replace HL:=HL2
 clear hB hO hT HL2
 have c9:=HK.out.cell 9
 simp at c9
 have xlt:=HK.out.lt
 have glt:=HG.out.lt
 go_wp2_with fail
 have HL3:=hide ((putL_len [2] T2 14).trans HL.out)
 refine (put_new g T2 _ 14 [2] 32 1 _ W2 rfl HL.out rfl (by omega) (by omega) (fun x hx=>by simp at hx;subst hx;omega) HG.out (by first | rfl | simp)).mono ?_
 rintro e W3 ⟨rfl,hB,hO⟩
 clear c9 xlt glt
 generalize hT:putL T2 14 [2]=T3 at hB HL3
 have HT3:=hide hT
 replace HK:=hide (hO.blk HK.out HN'.out.2.2)
 replace HG:=hide hB
 replace HO:=hide (hO.below HO.out HN'.out.2.1)
 replace HL:=HL3
 clear hB hO hT HL3
 have c9:=HK.out.cell 9
 simp at c9
 have xlt:=HK.out.lt
 have glt:=HG.out.lt
 go_wp2_with fail
 go_ret
 refine ⟨g,rfl,?_,HN'.out.2.1,HO.out⟩
 have:=HG.out
 rw [←HT3.out,←HT2.out,←HT1.out,←HT0.out] at this
 exact this
def hhT (m:Mt) (n:Nat):List UInt8:=putL (putL (putL (putL (putL (cpy (zers 36) 0 verS.data.toList) 4 [m.sc]) 6 [m.de]) 8 [m.ga]) 10 [maxV m.ad]) 34 [(n:Int)]
set_option maxRecDepth 8000 in
set_option maxHeartbeats 4000000 in
theorem hhe_any (m:Mt) (aa:Option Addr) (na ca:Nat) (vb:Value) (w:World) (hma:na≤100000) (hA:m.ad.length=na) (h1:1≤na) (hL:Lst w aa m.ad) (hx:-4611686018427387904≤m.sc∧m.sc≤4611686018427387904∧-4611686018427387904≤m.de∧m.de≤4611686018427387904∧-4611686018427387904≤m.ga∧m.ga≤4611686018427387904∧-4611686018427387904≤maxV m.ad∧maxV m.ad≤4611686018427387904) :
  Calls Tryz.prog 61 #[.agg (mcs m (.slice aa na ca) vb)] w fun e w'=>∃g,e=.returned (.slice (some ⟨g,0,none⟩) 36 36)∧Blk w' g (bcs (hhT m na)) 5∧w.heap.size≤g∧Below w.heap.size w w':=by
 obtain ⟨up,sc,de,ga,b0,b1,b2,b3,lg,ad,be⟩:=m
 have hma':(na:Int)≤100000:=by omega
 have HAD:=hide (And.intro hA (And.intro h1 hL))
 simp only at HAD hx
 obtain ⟨x1,x2,x3,x4,x5,x6,x7,x8⟩:=hx
 have CMX:=hide (fun (W:World) (h:Below w.heap.size w W)=>max_any aa ad na ca W HAD.out.1 HAD.out.2.1 (by omega) (HAD.out.2.2.below h))
 generalize hM:maxV ad=M at CMX x7 x8
 have HM:=hide hM
 clear hA h1 hL hM HAD
 have MK:∀x:World,(Instr.makeSlice 99 (.int .i64 36) (.int .i64 36)).run Tryz.prog x=.ok (.slice (some ⟨x.heap.size,0,none⟩) 36 36) (x.alloc (.cells (bcs (zers 36)) 5)):=make_bytes 36 (by omega)
 have k1:=Blk.new w (mcs ⟨up,sc,de,ga,b0,b1,b2,b3,lg,ad,be⟩ (.slice aa na ca) vb) 26
 have b1':=(Below.refl w.heap.size w).alloc (Nat.le_refl _) (.cells (mcs ⟨up,sc,de,ga,b0,b1,b2,b3,lg,ad,be⟩ (.slice aa na ca) vb) 26)
 simp only [mcs] at k1 b1' ⊢
 go_enter Tryz.func61,Tryz.ntmps61
 go_wp2_with fail
 have k2:=Blk.new (w.alloc (.cells #[.int .i64 up,.int .i64 sc,.int .i64 de,.int .i64 ga,.int .i64 b0,.int .i64 b1,.int .i64 b2,.int .i64 b3,.bool lg,.slice aa na ca,vb] 26)) (bcs (zers 36)) 5
 have bb2:=(Below.refl (w.alloc (.cells #[.int .i64 up,.int .i64 sc,.int .i64 de,.int .i64 ga,.int .i64 b0,.int .i64 b1,.int .i64 b2,.int .i64 b3,.bool lg,.slice aa na ca,vb] 26)).heap.size (w.alloc (.cells #[.int .i64 up,.int .i64 sc,.int .i64 de,.int .i64 ga,.int .i64 b0,.int .i64 b1,.int .i64 b2,.int .i64 b3,.bool lg,.slice aa na ca,vb] 26))).alloc (Nat.le_refl _) (.cells (bcs (zers 36)) 5)
 have z2:(w.alloc (.cells #[.int .i64 up,.int .i64 sc,.int .i64 de,.int .i64 ga,.int .i64 b0,.int .i64 b1,.int .i64 b2,.int .i64 b3,.bool lg,.slice aa na ca,vb] 26)).heap.size=w.heap.size+1:=by simp
 rw [z2] at k2
 have HK:=hide (k1.below bb2)
 have HG:=hide k2
 have HO:=hide (below_t5 b1' bb2)
 clear k1 b1' k2 bb2 z2 MK
 generalize (w.alloc (.cells #[.int .i64 up,.int .i64 sc,.int .i64 de,.int .i64 ga,.int .i64 b0,.int .i64 b1,.int .i64 b2,.int .i64 b3,.bool lg,.slice aa na ca,vb] 26)).alloc (.cells (bcs (zers 36)) 5)=W0 at HK HG HO ⊢
 have HN:Hid (w.heap.size≤w.heap.size∧w.heap.size≤w.heap.size+1∧w.heap.size≠w.heap.size+1):=hide ⟨by omega,by omega,by omega⟩
 obtain ⟨g,hg⟩:∃g,w.heap.size+1=g:=⟨_,rfl⟩
 rw [hg] at HG HN ⊢
 obtain ⟨x,hx⟩:∃x,w.heap.size=x:=⟨_,rfl⟩
 have HN':Hid (w.heap.size≤x∧w.heap.size≤g∧x≠g):=hide ⟨by omega,HN.out.2.1,by have:=HN.out;omega⟩
 rw [hx] at HK ⊢
 clear HN hg hx
 have HL:Hid ((zers 36).length=36):=hide (by simp [zers])
 generalize hT:zers 36=T0 at HG HL
 have HT0:=hide hT
 clear hT
 obtain ⟨W1,hr,hB,hO⟩:=copy_at HG.out 0 36 36 verS (by decide) (by rw [HL.out];decide)
 have HL1:=hide ((cpy_len (ys:=T0) (o:=0) (s:=verS.data.toList) (by rw [HL.out];decide)).trans HL.out)
 rw [hr]
 generalize hT:cpy T0 0 verS.data.toList=T1 at hB HL1
 have HT1:=hide hT
 replace HK:=hide (hO.blk HK.out HN'.out.2.2)
 replace HG:=hide hB
 replace HO:=hide (hO.below HO.out HN'.out.2.1)
 replace HL:=HL1
 clear hB hO hT HL1 hr
 have c1:=HK.out.cell 1
 have c2:=HK.out.cell 2
 have c3:=HK.out.cell 3
 have c9:=HK.out.cell 9
 simp at c1 c2 c3 c9
 have xlt:=HK.out.lt
 have glt:=HG.out.lt
 go_wp2_with fail
 have HL2:=hide ((putL_len [sc] T1 4).trans HL.out)
 refine (put_new g T1 _ 4 [sc] 36 1 _ W1 rfl HL.out rfl (by omega) (by omega) (fun x hx=>by simp at hx;subst hx;omega) HG.out (by first | rfl | simp)).mono ?_
 rintro e W2 ⟨rfl,hB,hO⟩
 clear c1 c2 c3 c9 xlt glt
 generalize hT:putL T1 4 [sc]=T2 at hB HL2
 have HT2:=hide hT
 replace HK:=hide (hO.blk HK.out HN'.out.2.2)
 replace HG:=hide hB
 replace HO:=hide (hO.below HO.out HN'.out.2.1)
 replace HL:=HL2
 clear hB hO hT HL2
 have c1:=HK.out.cell 1
 have c2:=HK.out.cell 2
 have c3:=HK.out.cell 3
 have c9:=HK.out.cell 9
 simp at c1 c2 c3 c9
 have xlt:=HK.out.lt
 have glt:=HG.out.lt
 go_wp2_with fail
 have HL3:=hide ((putL_len [de] T2 6).trans HL.out)
 refine (put_new g T2 _ 6 [de] 36 1 _ W2 rfl HL.out rfl (by omega) (by omega) (fun x hx=>by simp at hx;subst hx;omega) HG.out (by first | rfl | simp)).mono ?_
 rintro e W3 ⟨rfl,hB,hO⟩
 clear c1 c2 c3 c9 xlt glt
 generalize hT:putL T2 6 [de]=T3 at hB HL3
 have HT3:=hide hT
 replace HK:=hide (hO.blk HK.out HN'.out.2.2)
 replace HG:=hide hB
 replace HO:=hide (hO.below HO.out HN'.out.2.1)
 replace HL:=HL3
 clear hB hO hT HL3
 have c1:=HK.out.cell 1
 have c2:=HK.out.cell 2
 have c3:=HK.out.cell 3
 have c9:=HK.out.cell 9
 simp at c1 c2 c3 c9
 have xlt:=HK.out.lt
 have glt:=HG.out.lt
 go_wp2_with fail
 have HL4:=hide ((putL_len [ga] T3 8).trans HL.out)
 refine (put_new g T3 _ 8 [ga] 36 1 _ W3 rfl HL.out rfl (by omega) (by omega) (fun x hx=>by simp at hx;subst hx;omega) HG.out (by first | rfl | simp)).mono ?_
 rintro e W4 ⟨rfl,hB,hO⟩
 clear c1 c2 c3 c9 xlt glt
 generalize hT:putL T3 8 [ga]=T4 at hB HL4
 have HT4:=hide hT
 replace HK:=hide (hO.blk HK.out HN'.out.2.2)
 replace HG:=hide hB
 replace HO:=hide (hO.below HO.out HN'.out.2.1)
 replace HL:=HL4
 clear hB hO hT HL4
 have c1:=HK.out.cell 1
 have c2:=HK.out.cell 2
 have c3:=HK.out.cell 3
 have c9:=HK.out.cell 9
 simp at c1 c2 c3 c9
 have xlt:=HK.out.lt
 have glt:=HG.out.lt
 go_wp2_with fail
 refine (CMX.out _ HO.out).mono ?_
 rintro e w1 ⟨rfl,hw⟩
 replace hw:=hw.symm
 subst hw
 go_wp2_with fail
 have HL5:=hide ((putL_len [M] T4 10).trans HL.out)
 refine (put_new g T4 _ 10 [M] 36 1 _ W4 rfl HL.out rfl (by omega) (by omega) (fun x hx=>by simp at hx;subst hx;omega) HG.out (by first | rfl | simp)).mono ?_
 rintro e W5 ⟨rfl,hB,hO⟩
 clear c1 c2 c3 c9 xlt glt
 generalize hT:putL T4 10 [M]=T5 at hB HL5
 have HT5:=hide hT
 replace HK:=hide (hO.blk HK.out HN'.out.2.2)
 replace HG:=hide hB
 replace HO:=hide (hO.below HO.out HN'.out.2.1)
 replace HL:=HL5
 clear hB hO hT HL5
 have c1:=HK.out.cell 1
 have c2:=HK.out.cell 2
 have c3:=HK.out.cell 3
 have c9:=HK.out.cell 9
 simp at c1 c2 c3 c9
 have xlt:=HK.out.lt
 have glt:=HG.out.lt
 go_wp2_with fail
 have HL6:=hide ((putL_len [(na:Int)] T5 34).trans HL.out)
 refine (put_new g T5 _ 34 [(na:Int)] 36 1 _ W5 rfl HL.out rfl (by omega) (by omega) (fun x hx=>by simp at hx;subst hx;omega) HG.out (by first | rfl | simp)).mono ?_
 rintro e W6 ⟨rfl,hB,hO⟩
 clear c1 c2 c3 c9 xlt glt
 generalize hT:putL T5 34 [(na:Int)]=T6 at hB HL6
 have HT6:=hide hT
 replace HK:=hide (hO.blk HK.out HN'.out.2.2)
 replace HG:=hide hB
 replace HO:=hide (hO.below HO.out HN'.out.2.1)
 replace HL:=HL6
 clear hB hO hT HL6
 have c1:=HK.out.cell 1
 have c2:=HK.out.cell 2
 have c3:=HK.out.cell 3
 have c9:=HK.out.cell 9
 simp at c1 c2 c3 c9
 have xlt:=HK.out.lt
 have glt:=HG.out.lt
 go_wp2_with fail
 go_ret
 refine ⟨g,rfl,?_,HN'.out.2.1,HO.out⟩
 have hM:=HM.out
 subst hM
 have:=HG.out
 rw [←HT6.out,←HT5.out,←HT4.out,←HT3.out,←HT2.out,←HT1.out,←HT0.out] at this
 exact this
theorem src_box {w:World} {b g:Nat} {up sc de ga b0 b1 b2 b3:Int} {lg:Bool} {va vb:Value} (h:Blk w b #[.int .i64 up,.int .i64 sc,.int .i64 de,.int .i64 ga,.int .i64 b0,.int .i64 b1,.int .i64 b2,.int .i64 b3,.bool lg,va,vb] 26) (hg:b≠g) :
  [b0,b1,b2,b3]=[]∨∃c off,(some ⟨b,4,none⟩:Option Addr)=some ⟨c,off,none⟩∧c≠g∧c < w.heap.size∧∀i,i < [b0,b1,b2,b3].length→w.cell? ⟨c,off+i,none⟩=some (.int .i64 ([b0,b1,b2,b3].getD i 0)):=by
 refine Or.inr ⟨b,4,rfl,hg,h.lt,fun i hi=>?_⟩
 rw [h.cell (4+i)]
 match i,hi with
 | 0,_=>rfl
 | 1,_=>rfl
 | 2,_=>rfl
 | 3,_=>rfl
def hdT (m:Mt):List UInt8:=if m.lg then putL (putL (putL (putL (cpy (cpy (cpy (zers 54) 0 verS.data.toList) 4 verS.data.toList) 12 magicS.data.toList) 18 [m.up]) 36 [m.b0,m.b1,m.b2,m.b3]) 48 [2]) 50 [1] else putL (putL (putL (cpy (cpy (cpy (zers 54) 0 verS.data.toList) 4 verS.data.toList) 12 magicS.data.toList) 18 [m.up]) 36 [m.b0,m.b1,m.b2,m.b3]) 48 [2]
set_option maxRecDepth 8000 in
set_option maxHeartbeats 4000000 in
theorem hed_f (m:Mt) (aa:Option Addr) (na ca:Nat) (vb:Value) (w:World) (hma:na≤100000) (hlg:m.lg=false) (hx:-4611686018427387904≤m.up∧m.up≤4611686018427387904) (hX:∀x∈[m.b0,m.b1,m.b2,m.b3],-4611686018427387904≤x∧x≤4611686018427387904) :
  Calls Tryz.prog 59 #[.agg (mcs m (.slice aa na ca) vb)] w fun e w'=>∃g,e=.returned (.slice (some ⟨g,0,none⟩) 54 54)∧Blk w' g (bcs (hdT m)) 5∧w.heap.size≤g∧Below w.heap.size w w':=by
 obtain ⟨up,sc,de,ga,b0,b1,b2,b3,lg,ad,be⟩:=m
 have hma':(na:Int)≤100000:=by omega
 have HBX:=hide hX
 simp only at HBX hx hlg
 obtain ⟨x1,x2⟩:=hx
 subst hlg
 clear hX
 have MK:∀x:World,(Instr.makeSlice 99 (.int .i64 54) (.int .i64 54)).run Tryz.prog x=.ok (.slice (some ⟨x.heap.size,0,none⟩) 54 54) (x.alloc (.cells (bcs (zers 54)) 5)):=make_bytes 54 (by omega)
 have k1:=Blk.new w (mcs ⟨up,sc,de,ga,b0,b1,b2,b3,false,ad,be⟩ (.slice aa na ca) vb) 26
 have b1':=(Below.refl w.heap.size w).alloc (Nat.le_refl _) (.cells (mcs ⟨up,sc,de,ga,b0,b1,b2,b3,false,ad,be⟩ (.slice aa na ca) vb) 26)
 simp only [mcs] at k1 b1' ⊢
 go_enter Tryz.func59,Tryz.ntmps59
 go_wp2_with fail
 have k2:=Blk.new (w.alloc (.cells #[.int .i64 up,.int .i64 sc,.int .i64 de,.int .i64 ga,.int .i64 b0,.int .i64 b1,.int .i64 b2,.int .i64 b3,.bool false,.slice aa na ca,vb] 26)) (bcs (zers 54)) 5
 have bb2:=(Below.refl (w.alloc (.cells #[.int .i64 up,.int .i64 sc,.int .i64 de,.int .i64 ga,.int .i64 b0,.int .i64 b1,.int .i64 b2,.int .i64 b3,.bool false,.slice aa na ca,vb] 26)).heap.size (w.alloc (.cells #[.int .i64 up,.int .i64 sc,.int .i64 de,.int .i64 ga,.int .i64 b0,.int .i64 b1,.int .i64 b2,.int .i64 b3,.bool false,.slice aa na ca,vb] 26))).alloc (Nat.le_refl _) (.cells (bcs (zers 54)) 5)
 have z2:(w.alloc (.cells #[.int .i64 up,.int .i64 sc,.int .i64 de,.int .i64 ga,.int .i64 b0,.int .i64 b1,.int .i64 b2,.int .i64 b3,.bool false,.slice aa na ca,vb] 26)).heap.size=w.heap.size+1:=by simp
 rw [z2] at k2
 have HK:=hide (k1.below bb2)
 have HG:=hide k2
 have HO:=hide (below_t5 b1' bb2)
 clear k1 b1' k2 bb2 z2 MK
 generalize (w.alloc (.cells #[.int .i64 up,.int .i64 sc,.int .i64 de,.int .i64 ga,.int .i64 b0,.int .i64 b1,.int .i64 b2,.int .i64 b3,.bool false,.slice aa na ca,vb] 26)).alloc (.cells (bcs (zers 54)) 5)=W0 at HK HG HO ⊢
 have HN:Hid (w.heap.size≤w.heap.size∧w.heap.size≤w.heap.size+1∧w.heap.size≠w.heap.size+1):=hide ⟨by omega,by omega,by omega⟩
 obtain ⟨g,hg⟩:∃g,w.heap.size+1=g:=⟨_,rfl⟩
 rw [hg] at HG HN ⊢
 obtain ⟨x,hx⟩:∃x,w.heap.size=x:=⟨_,rfl⟩
 have HN':Hid (w.heap.size≤x∧w.heap.size≤g∧x≠g):=hide ⟨by omega,HN.out.2.1,by have:=HN.out;omega⟩
 rw [hx] at HK ⊢
 clear HN hg hx
 have HL:Hid ((zers 54).length=54):=hide (by simp [zers])
 generalize hT:zers 54=T0 at HG HL
 have HT0:=hide hT
 clear hT
 obtain ⟨W1,hr,hB,hO⟩:=copy_at HG.out 0 54 54 verS (by decide) (by rw [HL.out];decide)
 have HL1:=hide ((cpy_len (ys:=T0) (o:=0) (s:=verS.data.toList) (by rw [HL.out];decide)).trans HL.out)
 rw [hr]
 generalize hT:cpy T0 0 verS.data.toList=T1 at hB HL1
 have HT1:=hide hT
 replace HK:=hide (hO.blk HK.out HN'.out.2.2)
 replace HG:=hide hB
 replace HO:=hide (hO.below HO.out HN'.out.2.1)
 replace HL:=HL1
 clear hB hO hT HL1 hr
 have c0:=HK.out.cell 0
 have c8:=HK.out.cell 8
 simp at c0 c8
 have xlt:=HK.out.lt
 have glt:=HG.out.lt
 go_wp2_with fail
 obtain ⟨W2,hr,hB,hO⟩:=copy_at HG.out 4 50 50 verS (by decide) (by rw [HL.out];decide)
 have HL2:=hide ((cpy_len (ys:=T1) (o:=4) (s:=verS.data.toList) (by rw [HL.out];decide)).trans HL.out)
 rw [hr]
 clear c0 c8 xlt glt
 generalize hT:cpy T1 4 verS.data.toList=T2 at hB HL2
 have HT2:=hide hT
 replace HK:=hide (hO.blk HK.out HN'.out.2.2)
 replace HG:=hide hB
 replace HO:=hide (hO.below HO.out HN'.out.2.1)
 replace HL:=HL2
 clear hB hO hT HL2 hr
 have c0:=HK.out.cell 0
 have c8:=HK.out.cell 8
 simp at c0 c8
 have xlt:=HK.out.lt
 have glt:=HG.out.lt
 go_wp2_with fail
 obtain ⟨W3,hr,hB,hO⟩:=copy_at HG.out 12 42 42 magicS (by decide) (by rw [HL.out];decide)
 have HL3:=hide ((cpy_len (ys:=T2) (o:=12) (s:=magicS.data.toList) (by rw [HL.out];decide)).trans HL.out)
 rw [hr]
 clear c0 c8 xlt glt
 generalize hT:cpy T2 12 magicS.data.toList=T3 at hB HL3
 have HT3:=hide hT
 replace HK:=hide (hO.blk HK.out HN'.out.2.2)
 replace HG:=hide hB
 replace HO:=hide (hO.below HO.out HN'.out.2.1)
 replace HL:=HL3
 clear hB hO hT HL3 hr
 have c0:=HK.out.cell 0
 have c8:=HK.out.cell 8
 simp at c0 c8
 have xlt:=HK.out.lt
 have glt:=HG.out.lt
 go_wp2_with fail
 have HL4:=hide ((putL_len [up] T3 18).trans HL.out)
 refine (put_new g T3 _ 18 [up] 54 1 _ W3 rfl HL.out rfl (by omega) (by omega) (fun x hx=>by simp at hx;subst hx;omega) HG.out (by first | rfl | simp)).mono ?_
 rintro e W4 ⟨rfl,hB,hO⟩
 clear c0 c8 xlt glt
 generalize hT:putL T3 18 [up]=T4 at hB HL4
 have HT4:=hide hT
 replace HK:=hide (hO.blk HK.out HN'.out.2.2)
 replace HG:=hide hB
 replace HO:=hide (hO.below HO.out HN'.out.2.1)
 replace HL:=HL4
 clear hB hO hT HL4
 have c0:=HK.out.cell 0
 have c8:=HK.out.cell 8
 simp at c0 c8
 have xlt:=HK.out.lt
 have glt:=HG.out.lt
 go_wp2_with fail
 have HL5:=hide ((putL_len [b0,b1,b2,b3] T4 36).trans HL.out)
 refine (put_any g T4 _ 36 (some ⟨x,4,none⟩) [b0,b1,b2,b3] 54 4 4 W4 rfl HL.out rfl (by omega) (by omega) (HBX.out) HG.out (src_box HK.out HN'.out.2.2)).mono ?_
 rintro e W5 ⟨rfl,hB,hO⟩
 clear c0 c8 xlt glt
 generalize hT:putL T4 36 [b0,b1,b2,b3]=T5 at hB HL5
 have HT5:=hide hT
 replace HK:=hide (hO.blk HK.out HN'.out.2.2)
 replace HG:=hide hB
 replace HO:=hide (hO.below HO.out HN'.out.2.1)
 replace HL:=HL5
 clear hB hO hT HL5
 have c0:=HK.out.cell 0
 have c8:=HK.out.cell 8
 simp at c0 c8
 have xlt:=HK.out.lt
 have glt:=HG.out.lt
 go_wp2_with fail
 have HL6:=hide ((putL_len [2] T5 48).trans HL.out)
 refine (put_new g T5 _ 48 [2] 54 1 _ W5 rfl HL.out rfl (by omega) (by omega) (fun x hx=>by simp at hx;subst hx;omega) HG.out (by first | rfl | simp)).mono ?_
 rintro e W6 ⟨rfl,hB,hO⟩
 clear c0 c8 xlt glt
 generalize hT:putL T5 48 [2]=T6 at hB HL6
 have HT6:=hide hT
 replace HK:=hide (hO.blk HK.out HN'.out.2.2)
 replace HG:=hide hB
 replace HO:=hide (hO.below HO.out HN'.out.2.1)
 replace HL:=HL6
 clear hB hO hT HL6
 have c0:=HK.out.cell 0
 have c8:=HK.out.cell 8
 simp at c0 c8
 have xlt:=HK.out.lt
 have glt:=HG.out.lt
 go_wp2_with fail
 go_ret
 refine ⟨g,rfl,?_,HN'.out.2.1,HO.out⟩
 have:=HG.out
 rw [←HT6.out,←HT5.out,←HT4.out,←HT3.out,←HT2.out,←HT1.out,←HT0.out] at this
 exact this
set_option maxRecDepth 8000 in
set_option maxHeartbeats 4000000 in
theorem hed_t (m:Mt) (aa:Option Addr) (na ca:Nat) (vb:Value) (w:World) (hma:na≤100000) (hlg:m.lg=true) (hx:-4611686018427387904≤m.up∧m.up≤4611686018427387904) (hX:∀x∈[m.b0,m.b1,m.b2,m.b3],-4611686018427387904≤x∧x≤4611686018427387904) :
  Calls Tryz.prog 59 #[.agg (mcs m (.slice aa na ca) vb)] w fun e w'=>∃g,e=.returned (.slice (some ⟨g,0,none⟩) 54 54)∧Blk w' g (bcs (hdT m)) 5∧w.heap.size≤g∧Below w.heap.size w w':=by
 obtain ⟨up,sc,de,ga,b0,b1,b2,b3,lg,ad,be⟩:=m
 have hma':(na:Int)≤100000:=by omega
 have HBX:=hide hX
 simp only at HBX hx hlg
 obtain ⟨x1,x2⟩:=hx
 subst hlg
 clear hX
 have MK:∀x:World,(Instr.makeSlice 99 (.int .i64 54) (.int .i64 54)).run Tryz.prog x=.ok (.slice (some ⟨x.heap.size,0,none⟩) 54 54) (x.alloc (.cells (bcs (zers 54)) 5)):=make_bytes 54 (by omega)
 have k1:=Blk.new w (mcs ⟨up,sc,de,ga,b0,b1,b2,b3,true,ad,be⟩ (.slice aa na ca) vb) 26
 have b1':=(Below.refl w.heap.size w).alloc (Nat.le_refl _) (.cells (mcs ⟨up,sc,de,ga,b0,b1,b2,b3,true,ad,be⟩ (.slice aa na ca) vb) 26)
 simp only [mcs] at k1 b1' ⊢
 go_enter Tryz.func59,Tryz.ntmps59
 go_wp2_with fail
 have k2:=Blk.new (w.alloc (.cells #[.int .i64 up,.int .i64 sc,.int .i64 de,.int .i64 ga,.int .i64 b0,.int .i64 b1,.int .i64 b2,.int .i64 b3,.bool true,.slice aa na ca,vb] 26)) (bcs (zers 54)) 5
 have bb2:=(Below.refl (w.alloc (.cells #[.int .i64 up,.int .i64 sc,.int .i64 de,.int .i64 ga,.int .i64 b0,.int .i64 b1,.int .i64 b2,.int .i64 b3,.bool true,.slice aa na ca,vb] 26)).heap.size (w.alloc (.cells #[.int .i64 up,.int .i64 sc,.int .i64 de,.int .i64 ga,.int .i64 b0,.int .i64 b1,.int .i64 b2,.int .i64 b3,.bool true,.slice aa na ca,vb] 26))).alloc (Nat.le_refl _) (.cells (bcs (zers 54)) 5)
 have z2:(w.alloc (.cells #[.int .i64 up,.int .i64 sc,.int .i64 de,.int .i64 ga,.int .i64 b0,.int .i64 b1,.int .i64 b2,.int .i64 b3,.bool true,.slice aa na ca,vb] 26)).heap.size=w.heap.size+1:=by simp
 rw [z2] at k2
 have HK:=hide (k1.below bb2)
 have HG:=hide k2
 have HO:=hide (below_t5 b1' bb2)
 clear k1 b1' k2 bb2 z2 MK
 generalize (w.alloc (.cells #[.int .i64 up,.int .i64 sc,.int .i64 de,.int .i64 ga,.int .i64 b0,.int .i64 b1,.int .i64 b2,.int .i64 b3,.bool true,.slice aa na ca,vb] 26)).alloc (.cells (bcs (zers 54)) 5)=W0 at HK HG HO ⊢
 have HN:Hid (w.heap.size≤w.heap.size∧w.heap.size≤w.heap.size+1∧w.heap.size≠w.heap.size+1):=hide ⟨by omega,by omega,by omega⟩
 obtain ⟨g,hg⟩:∃g,w.heap.size+1=g:=⟨_,rfl⟩
 rw [hg] at HG HN ⊢
 obtain ⟨x,hx⟩:∃x,w.heap.size=x:=⟨_,rfl⟩
 have HN':Hid (w.heap.size≤x∧w.heap.size≤g∧x≠g):=hide ⟨by omega,HN.out.2.1,by have:=HN.out;omega⟩
 rw [hx] at HK ⊢
 clear HN hg hx
 have HL:Hid ((zers 54).length=54):=hide (by simp [zers])
 generalize hT:zers 54=T0 at HG HL
 have HT0:=hide hT
 clear hT
 obtain ⟨W1,hr,hB,hO⟩:=copy_at HG.out 0 54 54 verS (by decide) (by rw [HL.out];decide)
 have HL1:=hide ((cpy_len (ys:=T0) (o:=0) (s:=verS.data.toList) (by rw [HL.out];decide)).trans HL.out)
 rw [hr]
 generalize hT:cpy T0 0 verS.data.toList=T1 at hB HL1
 have HT1:=hide hT
 replace HK:=hide (hO.blk HK.out HN'.out.2.2)
 replace HG:=hide hB
 replace HO:=hide (hO.below HO.out HN'.out.2.1)
 replace HL:=HL1
 clear hB hO hT HL1 hr
 have c0:=HK.out.cell 0
 have c8:=HK.out.cell 8
 simp at c0 c8
 have xlt:=HK.out.lt
 have glt:=HG.out.lt
 go_wp2_with fail
 obtain ⟨W2,hr,hB,hO⟩:=copy_at HG.out 4 50 50 verS (by decide) (by rw [HL.out];decide)
 have HL2:=hide ((cpy_len (ys:=T1) (o:=4) (s:=verS.data.toList) (by rw [HL.out];decide)).trans HL.out)
 rw [hr]
 clear c0 c8 xlt glt
 generalize hT:cpy T1 4 verS.data.toList=T2 at hB HL2
 have HT2:=hide hT
 replace HK:=hide (hO.blk HK.out HN'.out.2.2)
 replace HG:=hide hB
 replace HO:=hide (hO.below HO.out HN'.out.2.1)
 replace HL:=HL2
 clear hB hO hT HL2 hr
 have c0:=HK.out.cell 0
 have c8:=HK.out.cell 8
 simp at c0 c8
 have xlt:=HK.out.lt
 have glt:=HG.out.lt
 go_wp2_with fail
 obtain ⟨W3,hr,hB,hO⟩:=copy_at HG.out 12 42 42 magicS (by decide) (by rw [HL.out];decide)
 have HL3:=hide ((cpy_len (ys:=T2) (o:=12) (s:=magicS.data.toList) (by rw [HL.out];decide)).trans HL.out)
 rw [hr]
 clear c0 c8 xlt glt
 generalize hT:cpy T2 12 magicS.data.toList=T3 at hB HL3
 have HT3:=hide hT
 replace HK:=hide (hO.blk HK.out HN'.out.2.2)
 replace HG:=hide hB
 replace HO:=hide (hO.below HO.out HN'.out.2.1)
 replace HL:=HL3
 clear hB hO hT HL3 hr
 have c0:=HK.out.cell 0
 have c8:=HK.out.cell 8
 simp at c0 c8
 have xlt:=HK.out.lt
 have glt:=HG.out.lt
 go_wp2_with fail
 have HL4:=hide ((putL_len [up] T3 18).trans HL.out)
 refine (put_new g T3 _ 18 [up] 54 1 _ W3 rfl HL.out rfl (by omega) (by omega) (fun x hx=>by simp at hx;subst hx;omega) HG.out (by first | rfl | simp)).mono ?_
 rintro e W4 ⟨rfl,hB,hO⟩
 clear c0 c8 xlt glt
 generalize hT:putL T3 18 [up]=T4 at hB HL4
 have HT4:=hide hT
 replace HK:=hide (hO.blk HK.out HN'.out.2.2)
 replace HG:=hide hB
 replace HO:=hide (hO.below HO.out HN'.out.2.1)
 replace HL:=HL4
 clear hB hO hT HL4
 have c0:=HK.out.cell 0
 have c8:=HK.out.cell 8
 simp at c0 c8
 have xlt:=HK.out.lt
 have glt:=HG.out.lt
 go_wp2_with fail
 have HL5:=hide ((putL_len [b0,b1,b2,b3] T4 36).trans HL.out)
 refine (put_any g T4 _ 36 (some ⟨x,4,none⟩) [b0,b1,b2,b3] 54 4 4 W4 rfl HL.out rfl (by omega) (by omega) (HBX.out) HG.out (src_box HK.out HN'.out.2.2)).mono ?_
 rintro e W5 ⟨rfl,hB,hO⟩
 clear c0 c8 xlt glt
 generalize hT:putL T4 36 [b0,b1,b2,b3]=T5 at hB HL5
 have HT5:=hide hT
 replace HK:=hide (hO.blk HK.out HN'.out.2.2)
 replace HG:=hide hB
 replace HO:=hide (hO.below HO.out HN'.out.2.1)
 replace HL:=HL5
 clear hB hO hT HL5
 have c0:=HK.out.cell 0
 have c8:=HK.out.cell 8
 simp at c0 c8
 have xlt:=HK.out.lt
 have glt:=HG.out.lt
 go_wp2_with fail
 have HL6:=hide ((putL_len [2] T5 48).trans HL.out)
 refine (put_new g T5 _ 48 [2] 54 1 _ W5 rfl HL.out rfl (by omega) (by omega) (fun x hx=>by simp at hx;subst hx;omega) HG.out (by first | rfl | simp)).mono ?_
 rintro e W6 ⟨rfl,hB,hO⟩
 clear c0 c8 xlt glt
 generalize hT:putL T5 48 [2]=T6 at hB HL6
 have HT6:=hide hT
 replace HK:=hide (hO.blk HK.out HN'.out.2.2)
 replace HG:=hide hB
 replace HO:=hide (hO.below HO.out HN'.out.2.1)
 replace HL:=HL6
 clear hB hO hT HL6
 have c0:=HK.out.cell 0
 have c8:=HK.out.cell 8
 simp at c0 c8
 have xlt:=HK.out.lt
 have glt:=HG.out.lt
 go_wp2_with fail
 have HL7:=hide ((putL_len [1] T6 50).trans HL.out)
 refine (put_new g T6 _ 50 [1] 54 1 _ W6 rfl HL.out rfl (by omega) (by omega) (fun x hx=>by simp at hx;subst hx;omega) HG.out (by first | rfl | simp)).mono ?_
 rintro e W7 ⟨rfl,hB,hO⟩
 clear c0 c8 xlt glt
 generalize hT:putL T6 50 [1]=T7 at hB HL7
 have HT7:=hide hT
 replace HK:=hide (hO.blk HK.out HN'.out.2.2)
 replace HG:=hide hB
 replace HO:=hide (hO.below HO.out HN'.out.2.1)
 replace HL:=HL7
 clear hB hO hT HL7
 have c0:=HK.out.cell 0
 have c8:=HK.out.cell 8
 simp at c0 c8
 have xlt:=HK.out.lt
 have glt:=HG.out.lt
 go_wp2_with fail
 go_ret
 refine ⟨g,rfl,?_,HN'.out.2.1,HO.out⟩
 have:=HG.out
 rw [←HT7.out,←HT6.out,←HT5.out,←HT4.out,←HT3.out,←HT2.out,←HT1.out,←HT0.out] at this
 exact this
def ilv (ad be:List Int) (k:Nat):List Int:=(List.range k).flatMap fun i=>[ad.getD i 0,be.getD i 0]
theorem ilv_succ (ad be:List Int) (k:Nat):ilv ad be (k+1)=ilv ad be k++[ad.getD k 0,be.getD k 0]:=by
 unfold ilv;rw [List.range_succ,List.flatMap_append];simp
theorem ilv_len (ad be:List Int):∀k,(ilv ad be k).length=2 * k
 | 0=>rfl
 | k+1=>by rw [ilv_succ,List.length_append,ilv_len ad be k];simp;omega
theorem putL_app:∀(a b:List Int) (ys:List UInt8) (k:Nat),putL ys k (a++b)=putL (putL ys k a) (k+2 * a.length) b
 | [],b,ys,k=>rfl
 | x :: a,b,ys,k=>by rw [List.cons_append,putL,putL,putL_app a b,List.length_cons,show k+2+2 * a.length=k+2 * (a.length+1) by omega]
def hmT (ad be:List Int) (n:Nat):List UInt8:=putL (zers (4 * n)) 0 (ilv ad be n)
set_option maxRecDepth 8000 in
set_option maxHeartbeats 4000000 in
theorem hmx_any (m:Mt) (aa ab:Option Addr) (n ca cb:Nat) (w:World) (hma:n≤20000) (hA:m.ad.length=n) (hB:m.be.length=n) (hLA:Lst w aa m.ad) (hLB:Lst w ab m.be)
  (hxa:∀x∈m.ad,-4611686018427387904≤x∧x≤4611686018427387904) (hxb:∀x∈m.be,-4611686018427387904≤x∧x≤4611686018427387904) :
  Calls Tryz.prog 62 #[.agg (mcs m (.slice aa n ca) (.slice ab n cb))] w fun e w'=>∃g,e=.returned (.slice (some ⟨g,0,none⟩) (4 * n) (4 * n))∧Blk w' g (bcs (hmT m.ad m.be n)) 5∧w.heap.size≤g∧Below w.heap.size w w':=by
 obtain ⟨up,sc,de,ga,b0,b1,b2,b3,lg,ad,be⟩:=m
 have hma':(n:Int)≤20000:=by omega
 have h0':(0:Int)≤(n:Int):=by omega
 obtain ⟨N,hN⟩:∃N:Nat,N=4 * n:=⟨_,rfl⟩
 have MK:∀x:World,(Instr.makeSlice 99 (.int .i64 (4 * (n:Int))) (.int .i64 (4 * (n:Int)))).run Tryz.prog x=.ok (.slice (some ⟨x.heap.size,0,none⟩) N N) (x.alloc (.cells (bcs (zers N)) 5)):=fun x=>by
  have:=make_bytes N (by omega) x
  rw [show ((N:Nat):Int)=4 * (n:Int) by omega] at this
  exact this
 have k1:=Blk.new w (mcs ⟨up,sc,de,ga,b0,b1,b2,b3,lg,ad,be⟩ (.slice aa n ca) (.slice ab n cb)) 26
 have b1':=(Below.refl w.heap.size w).alloc (Nat.le_refl _) (.cells (mcs ⟨up,sc,de,ga,b0,b1,b2,b3,lg,ad,be⟩ (.slice aa n ca) (.slice ab n cb)) 26)
 have HA:=hide (And.intro hA (And.intro hB (And.intro hLA hLB)))
 have HX:=hide (And.intro hxa hxb)
 have HM:=hide hma
 have HNN:=hide hN
 simp only [mcs] at k1 b1' ⊢
 simp only at HA HX
 clear hma hA hB hLA hLB hxa hxb hN
 rw [←HNN.out]
 go_enter Tryz.func62,Tryz.ntmps62
 go_wp2_with fail
 have k2:=Blk.new (w.alloc (.cells #[.int .i64 up,.int .i64 sc,.int .i64 de,.int .i64 ga,.int .i64 b0,.int .i64 b1,.int .i64 b2,.int .i64 b3,.bool lg,.slice aa n ca,.slice ab n cb] 26)) (bcs (zers N)) 5
 have bb2:=(Below.refl (w.alloc (.cells #[.int .i64 up,.int .i64 sc,.int .i64 de,.int .i64 ga,.int .i64 b0,.int .i64 b1,.int .i64 b2,.int .i64 b3,.bool lg,.slice aa n ca,.slice ab n cb] 26)).heap.size (w.alloc (.cells #[.int .i64 up,.int .i64 sc,.int .i64 de,.int .i64 ga,.int .i64 b0,.int .i64 b1,.int .i64 b2,.int .i64 b3,.bool lg,.slice aa n ca,.slice ab n cb] 26))).alloc (Nat.le_refl _) (.cells (bcs (zers N)) 5)
 have z2:(w.alloc (.cells #[.int .i64 up,.int .i64 sc,.int .i64 de,.int .i64 ga,.int .i64 b0,.int .i64 b1,.int .i64 b2,.int .i64 b3,.bool lg,.slice aa n ca,.slice ab n cb] 26)).heap.size=w.heap.size+1:=by simp
 rw [z2] at k2
 have HK:=hide (k1.below bb2)
 have HG:=hide k2
 have HO:=hide (below_t5 b1' bb2)
 clear k1 b1' k2 bb2 z2 MK
 generalize (w.alloc (.cells #[.int .i64 up,.int .i64 sc,.int .i64 de,.int .i64 ga,.int .i64 b0,.int .i64 b1,.int .i64 b2,.int .i64 b3,.bool lg,.slice aa n ca,.slice ab n cb] 26)).alloc (.cells (bcs (zers N)) 5)=W0 at HK HG HO ⊢
 have HN:Hid (w.heap.size≤w.heap.size∧w.heap.size≤w.heap.size+1∧w.heap.size≠w.heap.size+1):=hide ⟨by omega,by omega,by omega⟩
 obtain ⟨g,hg⟩:∃g,w.heap.size+1=g:=⟨_,rfl⟩
 rw [hg] at HG HN ⊢
 obtain ⟨x,hx⟩:∃x,w.heap.size=x:=⟨_,rfl⟩
 have HN':Hid (w.heap.size≤x∧w.heap.size≤g∧x≠g):=hide ⟨by omega,HN.out.2.1,by have:=HN.out;omega⟩
 rw [hx] at HK ⊢
 clear HN hg hx
 go_loopw [14] (fun vi wr=>∃(k:Nat),vi=.int .i64 k∧Hid (k≤n∧Blk wr g (bcs (putL (zers N) 0 (ilv ad be k))) 5∧Blk wr x #[.int .i64 up,.int .i64 sc,.int .i64 de,.int .i64 ga,.int .i64 b0,.int .i64 b1,.int .i64 b2,.int .i64 b3,.bool lg,.slice aa n ca,.slice ab n cb] 26∧Below w.heap.size w wr)) (fun vi _=>n - (intOf vi).toNat)
 case atStart=>exact ⟨0,rfl,hide ⟨by omega,HG.out,HK.out,HO.out⟩⟩
 case round=>
  clear HG HK HO
  obtain ⟨k,rfl,HV⟩:=hrel
  obtain ⟨hk,hg,hkk,ho⟩:=HV.out
  have hk0:(0:Int)≤(k:Int):=by omega
  have HG:=hide hg
  have HK:=hide hkk
  have HO:=hide ho
  clear HV
  by_cases hlt:k < n
  case neg=>
   have hlt':¬(k:Int) < (n:Int):=by omega
   obtain rfl:k=n:=by omega
   clear hg hkk ho hlt
   go_wp2_with fail
   go_ret
   refine ⟨g,rfl,?_,HN'.out.2.1,HO.out⟩
   have:=HG.out
   rw [HNN.out] at this
   exact this
  have hlt':(k:Int) < (n:Int):=by omega
  obtain ⟨e1,e2,e3,e4⟩:=HA.out
  rcases e3.below ho with hz | ⟨p,po,rfl,hp,hcp⟩
  ·rw [hz] at e1;simp at e1;omega
  rcases e4.below ho with hz | ⟨q,qo,rfl,hq,hcq⟩
  ·rw [hz] at e2;simp at e2;omega
  have hc1:=hcp k (by omega)
  have hc2:=hcq k (by omega)
  have hxx:=HX.out.1 (ad.getD k 0) (by rw [List.getD_eq_getElem?_getD,List.getElem?_eq_getElem (by omega)];exact List.getElem_mem _)
  have hyy:=HX.out.2 (be.getD k 0) (by rw [List.getD_eq_getElem?_getD,List.getElem?_eq_getElem (by omega)];exact List.getElem_mem _)
  have c9:=hkk.cell 9
  have c10:=hkk.cell 10
  simp at c9 c10
  have xlt:=hkk.lt
  have glt:=hg.lt
  have hlen:(putL (zers N) 0 (ilv ad be k)).length=N:=by rw [putL_len];simp [zers]
  have E:Hid (putL (putL (zers N) 0 (ilv ad be k)) (4 * k) [ad.getD k 0,be.getD k 0]=putL (zers N) 0 (ilv ad be (k+1))):=hide (by
   rw [ilv_succ,putL_app,ilv_len,show 0+2 * (2 * k)=4 * k by omega])
  have hkN:4 * k+2 * 2≤N:=by have:=HNN.out;omega
  have hNm:N≤1000000:=by have:=HNN.out;have:=HM.out;omega
  generalize ad.getD k 0=X at hc1 hxx E
  generalize be.getD k 0=Y at hc2 hyy E
  generalize putL (zers N) 0 (ilv ad be k)=T at HG hg E hlen
  have CP:=hide (fun (H:Nat) (hH:wr.heap.size=H)=>put_new g T (4 * (k:Int)) (4 * k) [X,Y] N 2 H wr (by omega) hlen rfl hkN hNm (fun x hx=>by simp at hx;rcases hx with rfl | rfl;exact hxx;exact hyy) hg hH)
  clear hg hkk ho hcp hcq hlen e1 e2 e3 e4 hxx hyy hkN hNm
  go_wp2_with fail
  refine (CP.out _ rfl).mono ?_
  rintro e W1 ⟨rfl,hB,hO⟩
  have HB1:=hide hB
  have HO1:=hide hO
  clear hB hO hc1 hc2 c9 c10
  go_wp2_with fail
  go_roundw
  case rel=>exact ⟨k+1,by go_num,hide ⟨by omega,E.out ▸ HB1.out,HO1.out.blk HK.out HN'.out.2.2,HO1.out.below HO.out HN'.out.2.1⟩⟩
  case measure=>simp [intOf];omega
end Go.Proofs.YtpaadbnlhapdbaaGreatDoor
