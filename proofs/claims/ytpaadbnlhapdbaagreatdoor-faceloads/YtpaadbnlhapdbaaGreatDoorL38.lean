/-
  Joined: M9RRy, M9RRe, F12Rd.
-/
import Derived.BigQuiet
import Derived.Deep.RegionLaw
import Derived.SizedLaws
import Derived.SliceStrings
import Derived.Test.YtpaadbnlhapdbaaGreatDoorL17
import Derived.Test.YtpaadbnlhapdbaaGreatDoorL25
import Derived.Test.YtpaadbnlhapdbaaGreatDoorL33
import Derived.Test.YtpaadbnlhapdbaaGreatDoorL36
import Derived.Test.YtpaadbnlhapdbaaGreatDoorL37
namespace Go.Proofs.YtpaadbnlhapdbaaGreatDoor
open Go.RowKit Go.Deep
set_option linter.unusedVariables false
set_option linter.unusedSimpArgs false
theorem step_append_run {P:Program} (w:World) {ops:Array Oper} {o:Oper} {a:Act} {K:Act→World→Prop} {Q:Exit→Act→World→Prop} {E:Prop} (hgd:o.guard=none) (s x:Operand) (t tn:TypeId)
  (ho:o.op=.call { callee:=.builtin .append,args:=#[s,x],argTypes:=#[t,tn] }) (vs vx:Value) (hs:a.eval s=vs) (hx:a.eval x=vx)
  (v':Value) (w':World) (hr:(Builtin.append_ #[t,tn] o.type #[vs,vx]).run P w=.ok v' w') (h:K (a.put o.dst v') w') :
  if Region.wanted o (yielded ops a.tmps)=true then Oper.wp P o a w K Q else E:=by
 rw [if_pos (by simp [Region.wanted,hgd])]
 exact Lib.wp_append_run w s x t tn ho vs vx hs hx v' w' hr h
theorem s2_let (s:ByteArray) (k:Nat) (h:k+2≤s.size) (hm:s.size≤1073741824):∀w,Calls Tryz.prog 43 #[.string s,.int .i64 (k:Int)] w fun e w'=>e=.returned (.int .i64 (s2 s.data.toList k))∧∃n,w'=w.drewN n:=fun w=>rs2_any s k k w rfl h hm
theorem app_i2 {W:World} {B k:Nat} {v:Value} {zs:List Int} (x:Int) (h:IRow W B v zs) (hz:zs.length=k) (hB:B≤W.heap.size) (hl:k≤1000000) :
  ∃g cap w2,(Builtin.append_ #[24,24] 24 #[v,.slice (some ⟨W.heap.size,0,none⟩) 1 1]).run Tryz.prog (W.alloc (.cells #[.int .i64 x] 3))=.ok (.slice (some ⟨g,0,none⟩) (k+1) cap) w2∧
   IRow w2 B (.slice (some ⟨g,0,none⟩) (k+1) cap) (zs++[x])∧(v.ownBlock=some g∨W.heap.size≤g)∧W.heap.size≤w2.heap.size∧(∀j,j < W.heap.size→v.ownBlock≠some j→w2.heap[j]?=W.heap[j]?)∧Below B W w2:=by
 obtain ⟨i0,hi,hz0,hz1,hz2⟩:=info_parts5 info_int
 subst hz
 obtain ⟨g,cap,w2,hr,ho,hg,hat,_⟩:=run_append_lies (P:=Tryz.prog) (W.alloc (.cells #[.int .i64 x] 3)) 24 24 B 3 i0 _ 1 8 Tryz.underlying24 hi hz0 hz1 hz2 rfl (by decide) v zs.length (zs.map (Value.int .i64)) (World.ownsRow.alloc h _) ⟨W.heap.size,0,none⟩ 1 1 [.int .i64 x] (by simp)
  (fun j u hu=>by rw [Go.WideShapes.add_plain,Nat.zero_add,World.cell?_alloc_at _ _ _ _ rfl];simpa using hu) (fun u hu=>by simp at hu;subst hu;rfl) (by decide) (by unfold maxLen;omega) (by omega) (by simp;omega) (W.heap.size+1) (by simp)
 refine ⟨g,cap,w2,hr,?_,?_,?_,?_,((Below.refl B W).alloc hB _).grown hg (by simp;omega) fun k hk'=>(World.ownsRow.lt h k hk').1⟩
 ·unfold IRow
  rw [List.map_append,List.length_append]
  exact ho
 ·rcases hat with hat | hat
  ·exact Or.inl hat
  ·exact Or.inr (by omega)
 ·have:=hg.size;simp at this;omega
 ·intro j hj hne
  rw [hg.block j (by simp;omega) (Ne.symm hne)]
  exact ((Below.refl W.heap.size W).alloc (Nat.le_refl _) (.cells #[.int .i64 x] 3)).block j hj
structure Lp (w:World) (A1 A2:List Int) (r y B:Nat) (YF:Value→Value→Array Value) (k1 k2:Nat) (v1 v2:Value) (wr:World):Prop where
 kr:Blk wr r zeroC 26
 ky:Blk wr y (YF v1 v2) 26
 r1:IRow wr B v1 (A1.take k1)
 r2:IRow wr B v2 (A2.take k2)
 dj:∀g,v1.ownBlock=some g→v2.ownBlock≠some g
 bl:Below w.heap.size w wr
 yb:y < B
 rb:r < B
 ry:r≠y
 bb:B≤wr.heap.size
 wb:w.heap.size≤B
 rw:w.heap.size≤r
 yw:w.heap.size≤y
theorem Lp.same {w:World} {A1 A2:List Int} {r y B:Nat} {YF:Value→Value→Array Value} {k1 k2:Nat} {v1 v2:Value} {wr u:World} (L:Lp w A1 A2 r y B YF k1 k2 v1 v2 wr) (hb:Below wr.heap.size wr u):Lp w A1 A2 r y B YF k1 k2 v1 v2 u:=
 ⟨L.kr.below hb,L.ky.below hb,L.r1.kept fun g _ hl=>hb.block g hl,L.r2.kept fun g _ hl=>hb.block g hl,L.dj,below_t5 L.bl hb,L.yb,L.rb,L.ry,Nat.le_trans L.bb hb.size,L.wb,L.rw,L.yw⟩
theorem irow_set {w:World} {B y o:Nat} {v:Value} {zs:List Int} (h:IRow w B v zs) (hy:y < B) (x:Value):IRow (w.setCell ⟨y,o,none⟩ x) B v zs:=
 h.kept fun g hg _=>Below.heap_setCell _ _ _ _ (by have:=(h.own g hg).1;dsimp only;omega)
theorem Lp.app1 {w:World} {A1 A2:List Int} {r y B:Nat} {YF:Value→Value→Array Value} {k1 k2:Nat} {v1 v2:Value} {W:World} (L:Lp w A1 A2 r y B YF k1 k2 v1 v2 W) (X:Int) (hk:k1 < A1.length) (hN:A1.length≤5000) (hX:A1.getD k1 0=X)
  (hY:∀a b c,(YF a b).setIfInBounds 9 c=YF c b) :
  ∃g cap w',(Builtin.append_ #[24,24] 24 #[v1,.slice (some ⟨W.heap.size,0,none⟩) 1 1]).run Tryz.prog (W.alloc (.cells #[.int .i64 X] 3))=.ok (.slice (some ⟨g,0,none⟩) (k1+1) cap) w'∧
   Blk w' y (YF v1 v2) 26∧Lp w A1 A2 r y B YF (k1+1) k2 (.slice (some ⟨g,0,none⟩) (k1+1) cap) v2 (w'.setCell ⟨y,9,none⟩ (.slice (some ⟨g,0,none⟩) (k1+1) cap)):=by
 have hl:(A1.take k1).length=k1:=by rw [List.length_take];omega
 obtain ⟨g,cap,w',hr,hrow,hown,hsz,hfar,hbel⟩:=app_i2 X L.r1 hl L.bb (by omega)
 have ky':Blk w' y (YF v1 v2) 26:=by
  have hlt:=L.ky.lt
  unfold Blk
  rw [hfar y hlt (fun e=>by have:=L.r1.own y e;have:=L.yb;omega)]
  exact L.ky
 have kr':Blk w' r zeroC 26:=by
  have hlt:=L.kr.lt
  unfold Blk
  rw [hfar r hlt (fun e=>by have:=L.r1.own r e;have:=L.rb;omega)]
  exact L.kr
 have e:A1.take (k1+1)=A1.take k1++[X]:=by
  rw [List.take_succ_eq_append_getElem hk,←hX,List.getD_eq_getElem?_getD,List.getElem?_eq_getElem hk];rfl
 have hset:But y w' (w'.setCell ⟨y,9,none⟩ (.slice (some ⟨g,0,none⟩) (k1+1) cap)):=But.setCell _ _ _ _
 have hbw:Below w.heap.size w w':=L.bl.trans (hbel.mono L.wb)
 refine ⟨g,cap,w',hr,ky',⟨hset.blk kr' L.ry,?_,?_,?_,?_,hset.below hbw L.yw,L.yb,L.rb,L.ry,by simp [World.setCell];exact Nat.le_trans L.bb hsz,L.wb,L.rw,L.yw⟩⟩
 ·have:=Blk.set ky' 9 (.slice (some ⟨g,0,none⟩) (k1+1) cap)
  rw [hY] at this
  exact this
 ·rw [e];exact irow_set hrow L.yb _
 ·exact irow_set (L.r2.kept fun j hj hlt=>hfar j hlt (fun e'=>L.dj j e' hj)) L.yb _
 ·intro j hj hj2
  have hjg:g=j:=by simpa [Value.ownBlock] using hj
  subst hjg
  rcases hown with h1 | h1
  ·exact L.dj g h1 hj2
  ·have:=(L.r2.own g hj2).2;omega
theorem Lp.app2 {w:World} {A1 A2:List Int} {r y B:Nat} {YF:Value→Value→Array Value} {k1 k2:Nat} {v1 v2:Value} {W:World} (L:Lp w A1 A2 r y B YF k1 k2 v1 v2 W) (X:Int) (hk:k2 < A2.length) (hN:A2.length≤5000) (hX:A2.getD k2 0=X)
  (hY:∀a b c,(YF a b).setIfInBounds 10 c=YF a c) :
  ∃g cap w',(Builtin.append_ #[24,24] 24 #[v2,.slice (some ⟨W.heap.size,0,none⟩) 1 1]).run Tryz.prog (W.alloc (.cells #[.int .i64 X] 3))=.ok (.slice (some ⟨g,0,none⟩) (k2+1) cap) w'∧
   Blk w' y (YF v1 v2) 26∧Lp w A1 A2 r y B YF k1 (k2+1) v1 (.slice (some ⟨g,0,none⟩) (k2+1) cap) (w'.setCell ⟨y,10,none⟩ (.slice (some ⟨g,0,none⟩) (k2+1) cap)):=by
 have hl:(A2.take k2).length=k2:=by rw [List.length_take];omega
 obtain ⟨g,cap,w',hr,hrow,hown,hsz,hfar,hbel⟩:=app_i2 X L.r2 hl L.bb (by omega)
 have ky':Blk w' y (YF v1 v2) 26:=by
  have hlt:=L.ky.lt
  unfold Blk
  rw [hfar y hlt (fun e=>by have:=L.r2.own y e;have:=L.yb;omega)]
  exact L.ky
 have kr':Blk w' r zeroC 26:=by
  have hlt:=L.kr.lt
  unfold Blk
  rw [hfar r hlt (fun e=>by have:=L.r2.own r e;have:=L.rb;omega)]
  exact L.kr
 have e:A2.take (k2+1)=A2.take k2++[X]:=by
  rw [List.take_succ_eq_append_getElem hk,←hX,List.getD_eq_getElem?_getD,List.getElem?_eq_getElem hk];rfl
 have hset:But y w' (w'.setCell ⟨y,10,none⟩ (.slice (some ⟨g,0,none⟩) (k2+1) cap)):=But.setCell _ _ _ _
 have hbw:Below w.heap.size w w':=L.bl.trans (hbel.mono L.wb)
 refine ⟨g,cap,w',hr,ky',⟨hset.blk kr' L.ry,?_,?_,?_,?_,hset.below hbw L.yw,L.yb,L.rb,L.ry,by simp [World.setCell];exact Nat.le_trans L.bb hsz,L.wb,L.rw,L.yw⟩⟩
 ·have:=Blk.set ky' 10 (.slice (some ⟨g,0,none⟩) (k2+1) cap)
  rw [hY] at this
  exact this
 ·exact irow_set (L.r1.kept fun j hj hlt=>hfar j hlt (fun e'=>L.dj j hj e')) L.yb _
 ·rw [e];exact irow_set hrow L.yb _
 ·intro j hj hj2
  have hjg:g=j:=by simpa [Value.ownBlock] using hj2
  subst hjg
  rcases hown with h1 | h1
  ·exact L.dj g hj h1
  ·have:=(L.r1.own g hj).2;omega
theorem rdv_inv {l:List Tab} {mx hd hh hx:ByteArray} (h:readV l=some (mx,hd,hh,hx)):finV l maxpS=some mx∧finV l headS=some hd∧finV l hheaS=some hh∧finV l hmtxS=some hx∧allB mx hd hh hx=true:=by
 unfold readV at h
 split at h
 ·rename_i a b c d e1 e2 e3 e4
  split at h
  ·rename_i hb
   simp only [Option.some.injEq,Prod.mk.injEq] at h
   obtain ⟨rfl,rfl,rfl,rfl⟩:=h
   exact ⟨e1,e2,e3,e4,hb⟩
  ·cases h
 ·cases h
theorem all_inv {mx hd hh hx:ByteArray} (h:allB mx hd hh hx=true):6≤mx.size∧54≤hd.size∧36≤hh.size∧(sayB mx 0 halfS=true∨sayB mx 0 halfS=false∧sayB mx 0 verS=true)∧1≤nV mx∧nV mx≤4096∧
  sayB hd 0 verS=true∧sayB hd 12 magicS=true∧16≤n2 hd.data.toList 18∧n2 hd.data.toList 18≤16384∧n2 hd.data.toList 50≤1∧n2 hd.data.toList 52=0∧sayB hh 0 verS=true∧n2 hh.data.toList 32=0∧1≤hV hh∧hV hh≤nV mx∧4 * hV hh+2 * (nV mx - hV hh)≤hx.size:=by
 unfold allB at h
 simp only [Bool.and_eq_true,decide_eq_true_eq] at h
 obtain ⟨⟨a1,a2⟩,⟨b1,b2⟩,⟨c1,c2⟩,d⟩:=h
 obtain ⟨p1,p2⟩:=mx_bd a2
 obtain ⟨p3,p4⟩:=hh_bd c2
 unfold mxB at a2
 unfold hdB at b2
 unfold hhB at c2
 simp only [Bool.and_eq_true,wiB_one,Bool.or_eq_true,decide_eq_true_eq,beq_iff_eq] at a2 b2 c2
 refine ⟨a1,b1,c1,?_,p1,p2,b2.1.1.1.1,b2.1.1.1.2,by omega,by omega,by omega,by omega,c2.1.1,by omega,p3,p4,d⟩
 rcases a2.1 with h | h
 ·exact Or.inl h
 ·cases h0:sayB mx 0 halfS
  ·exact Or.inr ⟨rfl,h⟩
  ·exact Or.inl rfl
def RyR (mx hd hh hx:ByteArray) (w:World) (e:Ending) (w':World):Prop:=
 ∃a1 c1 a2 c2,e=.returned (.tuple #[mval mx hd hh (.slice a1 (nV mx) c1) (.slice a2 (nV mx) c2),.int .i64 0])∧
   Below w.heap.size w w'∧Lst w' a1 (advL hx (hV hh) (nV mx))∧Lst w' a2 (beaL hx (hV hh) (nV mx))∧(∀b o,a1=some ⟨b,o,none⟩→w.heap.size≤b)∧(∀b o,a2=some ⟨b,o,none⟩→w.heap.size≤b)
set_option maxRecDepth 8000 in
set_option maxHeartbeats 16000000 in
theorem rrd_yes (a:Option Addr) (l:List Tab) (n c:Nat) (w:World) (hn:l.length=n) (hm:n≤1073741824) (hd0:∀x∈l,x.2.size≤1073741824) (hL:TLst w a l) (mx hd hh hx:ByteArray) (hyes:readV l=some (mx,hd,hh,hx)) :
  Calls Tryz.prog 16 #[.slice a n c] w fun e w'=>RyR mx hd hh hx w e w':=by
 obtain ⟨gmx,ghd,ghh,ghx,hall⟩:=rdv_inv hyes
 have hbw:=(Below.refl w.heap.size w).alloc (Nat.le_refl _) (.cells zeroC 26)
 have hkv:=Blk.new w zeroC 26
 obtain ⟨V,hV⟩:∃V,w.alloc (.cells zeroC 26)=V:=⟨_,rfl⟩
 rw [hV] at hbw hkv
 have KV:=hide hkv
 have HVV:=hide hV
 clear hkv hV
 have CF0:=hide (rfind_any a l n c headS V hn hm (hL.below hbw))
 have CF1:=hide (rfind_any a l n c hheaS V hn hm (hL.below hbw))
 have CF2:=hide (rfind_any a l n c maxpS V hn hm (hL.below hbw))
 have CF3:=hide (rfind_any a l n c hmtxS V hn hm (hL.below hbw))
 rw [ghd] at CF0
 rw [ghh] at CF1
 rw [gmx] at CF2
 rw [ghx] at CF3
 simp only [fnR] at CF0 CF1 CF2 CF3
 have HB:=hide hbw
 have ymx:=fin_size hd0 gmx
 have yhd:=fin_size hd0 ghd
 have yhh:=fin_size hd0 ghh
 have yhx:=fin_size hd0 ghx
 obtain ⟨zmx,zhd,zhh,hAB,n1,n2',qC,qD,v1,v2,v3,v4,qE,y4,h1,h2,h3⟩:=all_inv hall
 clear hbw hn hm hL hd0 hyes gmx ghd ghh ghx hall
 have zmx':¬(mx.size:Int) < 6:=by omega
 have zhd':¬(hd.size:Int) < 54:=by omega
 have zhh':¬(hh.size:Int) < 36:=by omega
 have CN:=hide (u2_let mx 4 (by omega) ymx)
 have CH:=hide (u2_let hh 34 (by omega) yhh)
 have CU:=hide (u2_let hd 18 (by omega) yhd)
 have CO:=hide (u2_let hd 50 (by omega) yhd)
 have C52:=hide (u2_let hd 52 (by omega) yhd)
 have C32:=hide (u2_let hh 32 (by omega) yhh)
 have S4:=hide (s2_let hh 4 (by omega) yhh)
 have S6:=hide (s2_let hh 6 (by omega) yhh)
 have S8:=hide (s2_let hh 8 (by omega) yhh)
 have S36:=hide (s2_let hd 36 (by omega) yhd)
 have S38:=hide (s2_let hd 38 (by omega) yhd)
 have S40:=hide (s2_let hd 40 (by omega) yhd)
 have S42:=hide (s2_let hd 42 (by omega) yhd)
 have kmx:(4:Int)≤(mx.size:Int):=by omega
 have khd:(16:Int)≤(hd.size:Int):=by omega
 have khd4:(4:Int)≤(hd.size:Int):=by omega
 have khh:(4:Int)≤(hh.size:Int):=by omega
 have lmx:(mx.size:Int)≤1073741824:=by omega
 have lhd:(hd.size:Int)≤1073741824:=by omega
 have lhh:(hh.size:Int)≤1073741824:=by omega
 have lhx:(hx.size:Int)≤1073741824:=by omega
 have P1:=hide (say4 mx halfS 0 [0,0,80,0] (by decide) rfl)
 have P2:=hide (say4 mx verS 0 [0,1,0,0] (by decide) rfl)
 have P3:=hide (say4 hd verS 0 [0,1,0,0] (by decide) rfl)
 have P4:=hide (say4 hd magicS 12 [95,15,60,245] (by decide) rfl)
 have P5:=hide (say4 hh verS 0 [0,1,0,0] (by decide) rfl)
 have jC:((hd.extract 0 4).toList == [0,1,0,0])=true:=by have h:=P3.out;rw [qC] at h;exact h.symm
 have iC:((hd.extract 0 4).toList != [0,1,0,0])=false:=by unfold bne;rw [jC];rfl
 have jD:((hd.extract 12 16).toList == [95,15,60,245])=true:=by have h:=P4.out;rw [qD] at h;exact h.symm
 have iD:((hd.extract 12 16).toList != [95,15,60,245])=false:=by unfold bne;rw [jD];rfl
 have jE:((hh.extract 0 4).toList == [0,1,0,0])=true:=by have h:=P5.out;rw [qE] at h;exact h.symm
 have iE:((hh.extract 0 4).toList != [0,1,0,0])=false:=by unfold bne;rw [jE];rfl
 clear P3 P4 P5
 unfold nV at n1 n2' h2 h3
 unfold hV at h1 h2 h3
 have HMV:Hid (∀va vb,mval mx hd hh va vb=.agg #[.int .i64 ((n2 hd.data.toList 18:Nat):Int),.int .i64 (s2 hh.data.toList 4),.int .i64 (s2 hh.data.toList 6),.int .i64 (s2 hh.data.toList 8),
  .int .i64 (s2 hd.data.toList 36),.int .i64 (s2 hd.data.toList 38),.int .i64 (s2 hd.data.toList 40),.int .i64 (s2 hd.data.toList 42),.bool (((n2 hd.data.toList 50:Nat):Int) == 1),va,vb]):=hide fun _ _=>rfl
 have HNV:Hid (nV mx=n2 mx.data.toList 4∧hV hh=n2 hh.data.toList 34):=hide ⟨rfl,rfl⟩
 generalize s2 hh.data.toList 4=sa at S4 HMV
 generalize s2 hh.data.toList 6=sd at S6 HMV
 generalize s2 hh.data.toList 8=sg at S8 HMV
 generalize s2 hd.data.toList 36=s36 at S36 HMV
 generalize s2 hd.data.toList 38=s38 at S38 HMV
 generalize s2 hd.data.toList 40=s40 at S40 HMV
 generalize s2 hd.data.toList 42=s42 at S42 HMV
 generalize n2 mx.data.toList 4=N at CN n1 n2' h2 h3 HNV
 generalize n2 hh.data.toList 34=H at CH h1 h2 h3 HNV
 generalize n2 hd.data.toList 18=UU at CU v1 v2 HMV
 generalize n2 hd.data.toList 50=OO at CO v3 HMV
 rw [v4] at C52
 rw [y4] at C32
 have zz0:((0:Nat):Int)=0:=rfl
 rw [zz0] at C52 C32
 have n1':¬(N:Int) < 1:=by omega
 have n3:¬(4096:Int) < (N:Int):=by omega
 have v1':¬(UU:Int) < 16:=by omega
 have v2':¬(16384:Int) < (UU:Int):=by omega
 have v3':¬(1:Int) < (OO:Int):=by omega
 have h1':¬(H:Int) < 1:=by omega
 have h2':¬(N:Int) < (H:Int):=by omega
 have h3':¬(hx.size:Int) < 4 * (H:Int)+2 * ((N:Int) - (H:Int)):=by omega
 have bN':(N:Int)≤65535:=by omega
 have bH':(H:Int)≤65535:=by omega
 have bU':(UU:Int)≤65535:=by omega
 have bO':(OO:Int)≤65535:=by omega
 have HH:=hide (And.intro h1 (And.intro h2 (And.intro h3 (And.intro n2' yhx))))
 clear v4 y4 qC qD qE zmx zhd zhh ymx yhd yhh yhx n1 n2' v1 v2 v3 h1 h2 h3 zz0
 rcases hAB with qA | ⟨qA,qB⟩
 ·have jA:((mx.extract 0 4).toList == [0,0,80,0])=true:=by have h:=P1.out;rw [qA] at h;exact h.symm
  have iA:((mx.extract 0 4).toList != [0,0,80,0])=false:=by unfold bne;rw [jA];rfl
  clear P1 P2 qA
  go_enter Tryz.func16,Tryz.ntmps16
  go_wp2_with fail
  rw [HVV.out]
  refine CF0.out.mono ?_
  rintro e w1 ⟨rfl,hw⟩
  replace hw:=hw.symm
  subst hw
  go_wp2_with fail
  refine CF1.out.mono ?_
  rintro e w1 ⟨rfl,hw⟩
  replace hw:=hw.symm
  subst hw
  go_wp2_with fail
  refine CF2.out.mono ?_
  rintro e w1 ⟨rfl,hw⟩
  replace hw:=hw.symm
  subst hw
  go_wp2_with fail
  refine CF3.out.mono ?_
  rintro e w1 ⟨rfl,hw⟩
  replace hw:=hw.symm
  subst hw
  go_wp2_with fail
  refine (CN.out _).mono ?_
  rintro e w1 ⟨rfl,m,hw⟩
  have kvn:Blk w1 w.heap.size zeroC 26:=by rw [hw];exact KV.out.drewN m
  have hbn:Below w.heap.size w w1:=by rw [hw];exact below_drewN HB.out m
  replace KV:=hide kvn
  replace HB:=hide hbn
  clear hw kvn hbn
  go_wp2_with fail
  refine (CH.out _).mono ?_
  rintro e w1 ⟨rfl,m,hw⟩
  have kvn:Blk w1 w.heap.size zeroC 26:=by rw [hw];exact KV.out.drewN m
  have hbn:Below w.heap.size w w1:=by rw [hw];exact below_drewN HB.out m
  replace KV:=hide kvn
  replace HB:=hide hbn
  clear hw kvn hbn
  go_wp2_with fail
  refine (CU.out _).mono ?_
  rintro e w1 ⟨rfl,m,hw⟩
  have kvn:Blk w1 w.heap.size zeroC 26:=by rw [hw];exact KV.out.drewN m
  have hbn:Below w.heap.size w w1:=by rw [hw];exact below_drewN HB.out m
  replace KV:=hide kvn
  replace HB:=hide hbn
  clear hw kvn hbn
  go_wp2_with fail
  refine (CO.out _).mono ?_
  rintro e w1 ⟨rfl,m,hw⟩
  have kvn:Blk w1 w.heap.size zeroC 26:=by rw [hw];exact KV.out.drewN m
  have hbn:Below w.heap.size w w1:=by rw [hw];exact below_drewN HB.out m
  replace KV:=hide kvn
  replace HB:=hide hbn
  clear hw kvn hbn
  go_wp2_with fail
  refine (C52.out _).mono ?_
  rintro e w1 ⟨rfl,m,hw⟩
  have kvn:Blk w1 w.heap.size zeroC 26:=by rw [hw];exact KV.out.drewN m
  have hbn:Below w.heap.size w w1:=by rw [hw];exact below_drewN HB.out m
  replace KV:=hide kvn
  replace HB:=hide hbn
  clear hw kvn hbn
  go_wp2_with fail
  refine (C32.out _).mono ?_
  rintro e w1 ⟨rfl,m,hw⟩
  have kvn:Blk w1 w.heap.size zeroC 26:=by rw [hw];exact KV.out.drewN m
  have hbn:Below w.heap.size w w1:=by rw [hw];exact below_drewN HB.out m
  replace KV:=hide kvn
  replace HB:=hide hbn
  clear hw kvn hbn
  go_wp2_with fail
  refine (S4.out _).mono ?_
  rintro e w1 ⟨rfl,m,hw⟩
  have kvn:Blk w1 w.heap.size zeroC 26:=by rw [hw];exact KV.out.drewN m
  have hbn:Below w.heap.size w w1:=by rw [hw];exact below_drewN HB.out m
  replace KV:=hide kvn
  replace HB:=hide hbn
  clear hw kvn hbn
  go_wp2_with fail
  refine (S6.out _).mono ?_
  rintro e w1 ⟨rfl,m,hw⟩
  have kvn:Blk w1 w.heap.size zeroC 26:=by rw [hw];exact KV.out.drewN m
  have hbn:Below w.heap.size w w1:=by rw [hw];exact below_drewN HB.out m
  replace KV:=hide kvn
  replace HB:=hide hbn
  clear hw kvn hbn
  go_wp2_with fail
  refine (S8.out _).mono ?_
  rintro e w1 ⟨rfl,m,hw⟩
  have kvn:Blk w1 w.heap.size zeroC 26:=by rw [hw];exact KV.out.drewN m
  have hbn:Below w.heap.size w w1:=by rw [hw];exact below_drewN HB.out m
  replace KV:=hide kvn
  replace HB:=hide hbn
  clear hw kvn hbn
  go_wp2_with fail
  have hal:=(Below.refl w1.heap.size w1).alloc (Nat.le_refl _) (.cells #[.int .i64 (UU:Int),.int .i64 sa,.int .i64 sd,.int .i64 sg,.int .i64 0,.int .i64 0,.int .i64 0,.int .i64 0,.bool ((OO:Int) == 1),.slice none 0 0,.slice none 0 0] 26)
  have hky:=Blk.new w1 #[.int .i64 (UU:Int),.int .i64 sa,.int .i64 sd,.int .i64 sg,.int .i64 0,.int .i64 0,.int .i64 0,.int .i64 0,.bool ((OO:Int) == 1),.slice none 0 0,.slice none 0 0] 26
  have hkr:=KV.out.below hal
  have hbb:=below_t5 HB.out hal
  have hry:Hid (w.heap.size≠w1.heap.size∧w.heap.size≤w1.heap.size):=hide ⟨by have:=KV.out.lt;omega,HB.out.size⟩
  generalize w1.alloc (.cells #[.int .i64 (UU:Int),.int .i64 sa,.int .i64 sd,.int .i64 sg,.int .i64 0,.int .i64 0,.int .i64 0,.int .i64 0,.bool ((OO:Int) == 1),.slice none 0 0,.slice none 0 0] 26)=W0 at hky hkr hbb ⊢
  generalize w1.heap.size=y at hky hry ⊢
  clear hal KV HB
  have KY:=hide hky
  have KR:=hide hkr
  have HB:=hide hbb
  clear hky hkr hbb
  refine wp_loop_rounds 5 ?_
  rw [rounds_succ]
  go_wp2_with fail
  refine (S36.out _).mono ?_
  rintro e w1 ⟨rfl,m,hw⟩
  have hky:Blk w1 y #[.int .i64 (UU:Int),.int .i64 sa,.int .i64 sd,.int .i64 sg,.int .i64 0,.int .i64 0,.int .i64 0,.int .i64 0,.bool ((OO:Int) == 1),.slice none 0 0,.slice none 0 0] 26:=by rw [hw];exact KY.out.drewN m
  have hkr:Blk w1 w.heap.size zeroC 26:=by rw [hw];exact KR.out.drewN m
  have hbb:Below w.heap.size w w1:=by rw [hw];exact below_drewN HB.out m
  clear hw KY KR HB
  have c4:=hky.cell 4
  have f4:=hky.frozen 4
  have clt:=hky.lt
  simp at c4
  have hbt:=But.setCell y w1 4 (.int .i64 s36)
  have hky2:=Blk.set hky 4 (.int .i64 s36)
  simp at hky2
  have KY:=hide hky2
  have KR:=hide (hbt.blk hkr hry.out.1)
  have HB:=hide (hbt.below hbb hry.out.2)
  clear hbt hky2 hky hkr hbb
  go_wp2_with fail
  clear c4 f4 clt
  generalize w1.setCell ⟨y,4,none⟩ (.int .i64 s36)=W1 at KY KR HB ⊢
  rw [rounds_succ]
  go_wp2_with fail
  refine (S38.out _).mono ?_
  rintro e w1 ⟨rfl,m,hw⟩
  have hky:Blk w1 y #[.int .i64 (UU:Int),.int .i64 sa,.int .i64 sd,.int .i64 sg,.int .i64 s36,.int .i64 0,.int .i64 0,.int .i64 0,.bool ((OO:Int) == 1),.slice none 0 0,.slice none 0 0] 26:=by rw [hw];exact KY.out.drewN m
  have hkr:Blk w1 w.heap.size zeroC 26:=by rw [hw];exact KR.out.drewN m
  have hbb:Below w.heap.size w w1:=by rw [hw];exact below_drewN HB.out m
  clear hw KY KR HB
  have c5:=hky.cell 5
  have f5:=hky.frozen 5
  have clt:=hky.lt
  simp at c5
  have hbt:=But.setCell y w1 5 (.int .i64 s38)
  have hky2:=Blk.set hky 5 (.int .i64 s38)
  simp at hky2
  have KY:=hide hky2
  have KR:=hide (hbt.blk hkr hry.out.1)
  have HB:=hide (hbt.below hbb hry.out.2)
  clear hbt hky2 hky hkr hbb
  go_wp2_with fail
  clear c5 f5 clt
  generalize w1.setCell ⟨y,5,none⟩ (.int .i64 s38)=W2 at KY KR HB ⊢
  rw [rounds_succ]
  go_wp2_with fail
  refine (S40.out _).mono ?_
  rintro e w1 ⟨rfl,m,hw⟩
  have hky:Blk w1 y #[.int .i64 (UU:Int),.int .i64 sa,.int .i64 sd,.int .i64 sg,.int .i64 s36,.int .i64 s38,.int .i64 0,.int .i64 0,.bool ((OO:Int) == 1),.slice none 0 0,.slice none 0 0] 26:=by rw [hw];exact KY.out.drewN m
  have hkr:Blk w1 w.heap.size zeroC 26:=by rw [hw];exact KR.out.drewN m
  have hbb:Below w.heap.size w w1:=by rw [hw];exact below_drewN HB.out m
  clear hw KY KR HB
  have c6:=hky.cell 6
  have f6:=hky.frozen 6
  have clt:=hky.lt
  simp at c6
  have hbt:=But.setCell y w1 6 (.int .i64 s40)
  have hky2:=Blk.set hky 6 (.int .i64 s40)
  simp at hky2
  have KY:=hide hky2
  have KR:=hide (hbt.blk hkr hry.out.1)
  have HB:=hide (hbt.below hbb hry.out.2)
  clear hbt hky2 hky hkr hbb
  go_wp2_with fail
  clear c6 f6 clt
  generalize w1.setCell ⟨y,6,none⟩ (.int .i64 s40)=W3 at KY KR HB ⊢
  rw [rounds_succ]
  go_wp2_with fail
  refine (S42.out _).mono ?_
  rintro e w1 ⟨rfl,m,hw⟩
  have hky:Blk w1 y #[.int .i64 (UU:Int),.int .i64 sa,.int .i64 sd,.int .i64 sg,.int .i64 s36,.int .i64 s38,.int .i64 s40,.int .i64 0,.bool ((OO:Int) == 1),.slice none 0 0,.slice none 0 0] 26:=by rw [hw];exact KY.out.drewN m
  have hkr:Blk w1 w.heap.size zeroC 26:=by rw [hw];exact KR.out.drewN m
  have hbb:Below w.heap.size w w1:=by rw [hw];exact below_drewN HB.out m
  clear hw KY KR HB
  have c7:=hky.cell 7
  have f7:=hky.frozen 7
  have clt:=hky.lt
  simp at c7
  have hbt:=But.setCell y w1 7 (.int .i64 s42)
  have hky2:=Blk.set hky 7 (.int .i64 s42)
  simp at hky2
  have KY:=hide hky2
  have KR:=hide (hbt.blk hkr hry.out.1)
  have HB:=hide (hbt.below hbb hry.out.2)
  clear hbt hky2 hky hkr hbb
  go_wp2_with fail
  clear c7 f7 clt
  generalize w1.setCell ⟨y,7,none⟩ (.int .i64 s42)=W4 at KY KR HB ⊢
  rw [rounds_succ]
  go_wp2_with fail
  have hA1:(advL hx H N).length=N:=by simp [advL]
  have hA2:(beaL hx H N).length=N:=by simp [beaL]
  have HLP:Hid (Lp w (advL hx H N) (beaL hx H N) w.heap.size y W4.heap.size (fun va vb=>#[.int .i64 (UU:Int),.int .i64 sa,.int .i64 sd,.int .i64 sg,.int .i64 s36,.int .i64 s38,.int .i64 s40,.int .i64 s42,.bool ((OO:Int) == 1),va,vb]) 0 0 (.slice none 0 0) (.slice none 0 0) W4):=hide ⟨KR.out,KY.out,IRow.nil _ _,IRow.nil _ _,fun g hg=>by simp [Value.ownBlock] at hg,HB.out,KY.out.lt,KR.out.lt,hry.out.1,Nat.le_refl _,HB.out.size,Nat.le_refl _,hry.out.2⟩
  obtain ⟨YF,hYF⟩:∃YF:Value→Value→Array Value,(fun va vb=>#[.int .i64 (UU:Int),.int .i64 sa,.int .i64 sd,.int .i64 sg,.int .i64 s36,.int .i64 s38,.int .i64 s40,.int .i64 s42,.bool ((OO:Int) == 1),va,vb])=YF:=⟨_,rfl⟩
  have HY9:Hid (∀a b c,(YF a b).setIfInBounds 9 c=YF c b):=hide (by subst hYF;intro a b c;simp)
  have HY10:Hid (∀a b c,(YF a b).setIfInBounds 10 c=YF a c):=hide (by subst hYF;intro a b c;simp)
  have HG9:Hid (∀a b,(YF a b)[9]?=some a):=hide (by subst hYF;intro a b;rfl)
  have HG10:Hid (∀a b,(YF a b)[10]?=some b):=hide (by subst hYF;intro a b;rfl)
  have HYF:=hide hYF
  rw [hYF] at HLP
  generalize hBB:W4.heap.size=BB at HLP
  clear hBB hYF KR KY HB S4 S6 S8 S36 S38 S40 S42 CN CH CU CO C52 C32
  have HA:=hide (And.intro hA1 hA2)
  clear hA1 hA2 jA iA jC iC jD iD jE iE
  generalize Value.tuple #[.string hd,.bool true]=zt1
  generalize Value.tuple #[.string hh,.bool true]=zt2
  generalize Value.tuple #[.string mx,.bool true]=zt3
  generalize Value.tuple #[.string hx,.bool true]=zt4
  generalize Value.agg #[.int .i64 (UU:Int),.int .i64 sa,.int .i64 sd,.int .i64 sg,.int .i64 0,.int .i64 0,.int .i64 0,.int .i64 0,.bool ((OO:Int) == 1),.slice none 0 0,.slice none 0 0]=zt5
  try generalize Value.bool (decide ((H:Int) < 1))=zb1
  try generalize Value.bool (decide ((H:Int) < 1) || decide ((hx.size:Int) < 4 * (H:Int)+2 * ((N:Int) - (H:Int))))=zb2
  try generalize Value.bool (decide ((hx.size:Int) < 4 * (H:Int)+2 * ((N:Int) - (H:Int))))=zb3
  try generalize Value.int .i64 (4 * (H:Int)+2 * ((N:Int) - (H:Int)))=zb4
  try generalize Value.int .i64 (2 * ((N:Int) - (H:Int)))=zb5
  try generalize Value.int .i64 ((N:Int) - (H:Int))=zb6
  try generalize Value.int .i64 (4 * (H:Int))=zb7
  try generalize Value.bool ((OO:Int) == 1)=zb8
  generalize Value.bool true=zb9
  generalize Value.bool false=zb10
  generalize Value.string hd=zs1
  generalize Value.string hh=zs2
  generalize Value.string mx=zs3
  generalize Value.slice a n c=zs4
  generalize Value.int .i64 (UU:Int)=zs5
  generalize Value.int .i64 (OO:Int)=zs6
  generalize Value.int .i64 sa=zs7
  generalize Value.int .i64 sd=zs8
  generalize Value.int .i64 sg=zs9
  clear lmx lhd lhh kmx khd khd4 khh bU' bO' zmx' zhd' zhh' v1' v2' v3'
  go_loopw [18] (fun vi wr=>∃(k:Nat) (v1 v2:Value),vi=.int .i64 k∧k≤N∧Hid (Lp w (advL hx H N) (beaL hx H N) w.heap.size y BB YF k k v1 v2 wr)) (fun vi _=>N - (intOf vi).toNat)
  case atStart=>exact ⟨0,_,_,rfl,by omega,HLP⟩
  case round=>
   clear HLP
   obtain ⟨k,v1,v2,rfl,hkN,HL⟩:=hrel
   have c9:=HL.out.ky.cell 9
   have c10:=HL.out.ky.cell 10
   rw [HG9.out] at c9
   rw [HG10.out] at c10
   have ylt:=HL.out.ky.lt
   by_cases hlt:k < N
   case neg=>
    have hkn:N=k:=by omega
    subst hkn
    have hlt':¬(N:Int) < (N:Int):=by omega
    have hr1:=HL.out.r1
    have hr2:=HL.out.r2
    rw [List.take_of_length_le (by rw [HA.out.1];exact Nat.le_refl _)] at hr1
    rw [List.take_of_length_le (by rw [HA.out.2];exact Nat.le_refl _)] at hr2
    have HR1:=hide hr1
    have HR2:=hide hr2
    obtain ⟨a1,c1,e1,-⟩:=hr1.lst
    obtain ⟨a2,c2,e2,-⟩:=hr2.lst
    rw [HA.out.1] at e1
    rw [HA.out.2] at e2
    subst e1 e2
    have ky:=HL.out.ky
    rw [←HYF.out] at ky
    have x0:=ky.cell 0
    have z0:=HL.out.kr.cell 0
    have y0:=HL.out.kr.frozen 0
    have x1:=ky.cell 1
    have z1:=HL.out.kr.cell 1
    have y1:=HL.out.kr.frozen 1
    have x2:=ky.cell 2
    have z2:=HL.out.kr.cell 2
    have y2:=HL.out.kr.frozen 2
    have x3:=ky.cell 3
    have z3:=HL.out.kr.cell 3
    have y3:=HL.out.kr.frozen 3
    have x4:=ky.cell 4
    have z4:=HL.out.kr.cell 4
    have y4:=HL.out.kr.frozen 4
    have x5:=ky.cell 5
    have z5:=HL.out.kr.cell 5
    have y5:=HL.out.kr.frozen 5
    have x6:=ky.cell 6
    have z6:=HL.out.kr.cell 6
    have y6:=HL.out.kr.frozen 6
    have x7:=ky.cell 7
    have z7:=HL.out.kr.cell 7
    have y7:=HL.out.kr.frozen 7
    have x8:=ky.cell 8
    have z8:=HL.out.kr.cell 8
    have y8:=HL.out.kr.frozen 8
    have x9:=ky.cell 9
    have z9:=HL.out.kr.cell 9
    have y9:=HL.out.kr.frozen 9
    have x10:=ky.cell 10
    have z10:=HL.out.kr.cell 10
    have y10:=HL.out.kr.frozen 10
    simp at x0 z0 x1 z1 x2 z2 x3 z3 x4 z4 x5 z5 x6 z6 x7 z7 x8 z8 x9 z9 x10 z10
    have zlt:=HL.out.kr.lt
    have hne:=hry.out.1
    clear hr1 hr2 ky c9 c10 hlt
    go_wp2_with fail
    have hst:=store11 HL.out.kr (.int .i64 (UU:Int)) (.int .i64 sa) (.int .i64 sd) (.int .i64 sg) (.int .i64 s36) (.int .i64 s38) (.int .i64 s40) (.int .i64 s42) (.bool ((OO:Int) == 1)) (.slice a1 N c1) (.slice a2 N c2)
    have hbe:=hst.2.below HL.out.bl (Nat.le_refl _)
    clear x0 z0 y0 x1 z1 y1 x2 z2 y2 x3 z3 y3 x4 z4 y4 x5 z5 y5 x6 z6 y6 x7 z7 y7 x8 z8 y8 x9 z9 y9 x10 z10 y10 zlt
    generalize (((((((((((wr.setCell ⟨w.heap.size,0,none⟩ (.int .i64 (UU:Int))).setCell ⟨w.heap.size,1,none⟩ (.int .i64 sa)).setCell ⟨w.heap.size,2,none⟩ (.int .i64 sd)).setCell ⟨w.heap.size,3,none⟩ (.int .i64 sg)).setCell ⟨w.heap.size,4,none⟩ (.int .i64 s36)).setCell ⟨w.heap.size,5,none⟩ (.int .i64 s38)).setCell ⟨w.heap.size,6,none⟩ (.int .i64 s40)).setCell ⟨w.heap.size,7,none⟩ (.int .i64 s42)).setCell ⟨w.heap.size,8,none⟩ (.bool ((OO:Int) == 1))).setCell ⟨w.heap.size,9,none⟩ (.slice a1 N c1)).setCell ⟨w.heap.size,10,none⟩ (.slice a2 N c2))=ZZ at hst hbe ⊢
    have q0:=hst.1.cell 0
    have q1:=hst.1.cell 1
    have q2:=hst.1.cell 2
    have q3:=hst.1.cell 3
    have q4:=hst.1.cell 4
    have q5:=hst.1.cell 5
    have q6:=hst.1.cell 6
    have q7:=hst.1.cell 7
    have q8:=hst.1.cell 8
    have q9:=hst.1.cell 9
    have q10:=hst.1.cell 10
    simp at q0 q1 q2 q3 q4 q5 q6 q7 q8 q9 q10
    have l1:IRow ZZ BB (.slice a1 N c1) (advL hx H N):=HR1.out.kept fun g hg hl=>hst.2.block g hl (by have:=(HR1.out.own g hg).1;have:=HL.out.rb;omega)
    have l2:IRow ZZ BB (.slice a2 N c2) (beaL hx H N):=HR2.out.kept fun g hg hl=>hst.2.block g hl (by have:=(HR2.out.own g hg).1;have:=HL.out.rb;omega)
    obtain ⟨b1,d1,f1,m1⟩:=l1.lst
    obtain ⟨b2,d2,f2,m2⟩:=l2.lst
    simp only [Value.slice.injEq] at f1 f2
    obtain ⟨rfl,-,rfl⟩:=f1
    obtain ⟨rfl,-,rfl⟩:=f2
    refine bodyPost_ret (v:=.tuple #[mval mx hd hh (.slice a1 (nV mx) c1) (.slice a2 (nV mx) c2),.int .i64 0]) (by simp [results,Tryz.results16,go_sem,HMV.out,HNV.out.1,q0,q1,q2,q3,q4,q5,q6,q7,q8,q9,q10]) rfl ⟨a1,c1,a2,c2,rfl,hbe,?_,?_,?_,?_⟩
    ·rw [HNV.out.1,HNV.out.2];exact m1.1
    ·rw [HNV.out.1,HNV.out.2];exact m2.1
    ·intro b o hb;have h1:=(HR1.out.own b (by rw [hb];rfl)).1;have h2:=HL.out.wb;omega
    ·intro b o hb;have h1:=(HR2.out.own b (by rw [hb];rfl)).1;have h2:=HL.out.wb;omega
   have hlt':(k:Int) < (N:Int):=by omega
   have hk0:(0:Int)≤(k:Int):=by omega
   obtain ⟨X1,hX1⟩:∃X,advF hx H k=X:=⟨_,rfl⟩
   obtain ⟨X2,hX2⟩:∃X,beaF hx H k=X:=⟨_,rfl⟩
   have G1:Hid ((advL hx H N).getD k 0=X1):=hide (by rw [←hX1];simp [advL,List.getD_eq_getElem?_getD,hlt])
   have G2:Hid ((beaL hx H N).getD k 0=X2):=hide (by rw [←hX2];simp [beaL,List.getD_eq_getElem?_getD,hlt])
   have HK1:Hid (k < (advL hx H N).length∧(advL hx H N).length≤5000):=hide (by have:=HH.out;have:=HA.out;omega)
   have HK2:Hid (k < (beaL hx H N).length∧(beaL hx H N).length≤5000):=hide (by have:=HH.out;have:=HA.out;omega)
   by_cases hkH:k < H
   ·have hkH':(k:Int) < (H:Int):=by omega
    have CA:Hid (∀x,Calls Tryz.prog 37 #[.string hx,.int .i64 (4 * (k:Int))] x fun e w'=>e=.returned (.int .i64 X1)∧∃n,w'=x.drewN n):=hide fun x=>by
     have h:=ru2_any hx (4 * k) (4 * (k:Int)) x (by omega) (by have:=HH.out;omega) HH.out.2.2.2.2
     rw [←hX1];unfold advF;rw [if_pos hkH];exact h
    have CB:Hid (∀x,Calls Tryz.prog 43 #[.string hx,.int .i64 (4 * (k:Int)+2)] x fun e w'=>e=.returned (.int .i64 X2)∧∃n,w'=x.drewN n):=hide fun x=>by
     have h:=rs2_any hx (4 * k+2) (4 * (k:Int)+2) x (by omega) (by have:=HH.out;omega) HH.out.2.2.2.2
     rw [←hX2];unfold beaF;rw [if_pos hkH];exact h
    have hw1:IntKind.i64.wrap (4 * (k:Int))=4 * (k:Int):=by rw [IntKind.wrap_i64];omega
    have hw2:IntKind.i64.wrap (4 * (k:Int)+2)=4 * (k:Int)+2:=by rw [IntKind.wrap_i64];omega
    clear hX1 hX2 hlt hkH
    go_wp2_with fail
    rename_i k0
    have HKK1:=hide k0
    clear k0
    go_region_law ((first | (go_simp;go_at_call 37;refine (CA.out _).mono ?_;rintro e wy ⟨rfl,m,hw⟩;have hLy:=Lp.same HL.out (u:=wy) (by rw [hw];first | exact below_drewN' _ m | exact below_t5 (below_drewN' _ _) (below_drewN' _ m) | exact below_t5 (Below.refl _ _).drew (below_drewN' _ m));clear hw;obtain ⟨g,cap,w4,hr,hk4,hl4⟩:=Lp.app1 hLy X1 HK1.out.1 HK1.out.2 G1.out HY9.out;have HR:=hide hr;have q9:=hLy.ky.cell 9;rw [HG9.out] at q9;have hszy:=hLy.ky.lt;have HQ:=hide (hk4.cell 9);have HZ:=hide (hk4.frozen 9);have HT:=hide hk4.lt;have HL4:=hide hl4;clear hLy hr hk4 hl4) | (refine step_append_run _ (by rfl) _ _ _ _ rfl _ _ (by rfl) (by rfl) _ _ HR.out ?_;clear q9;have q9:=HQ.out;rw [HG9.out] at q9;have z9:=HZ.out;have t9:=HT.out)))
    all_goals
     refine HKK1.out _ _ ?_
     clear HKK1 q9 z9 t9 HQ HZ HT HR
     generalize w4.setCell ⟨y,9,none⟩ (.slice (some ⟨g,0,none⟩) (k+1) cap)=wa at HL4 ⊢
     generalize (.slice (some ⟨g,0,none⟩) (k+1) cap:Value)=v1n at HL4 ⊢
     have HLa:=HL4
     clear HL4
     have c9:=HLa.out.ky.cell 9
     have c10:=HLa.out.ky.cell 10
     rw [HG9.out] at c9
     rw [HG10.out] at c10
     have ylt:=HLa.out.ky.lt
     clear HL
     go_wp2_with fail
     go_region_law ((first | (go_simp;go_at_call 43;refine (CB.out _).mono ?_;rintro e wy ⟨rfl,m,hw⟩;have hLy:=Lp.same HLa.out (u:=wy) (by rw [hw];first | exact below_drewN' _ m | exact below_t5 (below_drewN' _ _) (below_drewN' _ m) | exact below_t5 (Below.refl _ _).drew (below_drewN' _ m));clear hw;obtain ⟨g,cap,w4,hr,hk4,hl4⟩:=Lp.app2 hLy X2 HK2.out.1 HK2.out.2 G2.out HY10.out;have HR:=hide hr;have q9:=hLy.ky.cell 10;rw [HG10.out] at q9;have hszy:=hLy.ky.lt;have HQ:=hide (hk4.cell 10);have HZ:=hide (hk4.frozen 10);have HT:=hide hk4.lt;have HL4:=hide hl4;clear hLy hr hk4 hl4) | (refine step_append_run _ (by rfl) _ _ _ _ rfl _ _ (by rfl) (by rfl) _ _ HR.out ?_;clear q9;have q9:=HQ.out;rw [HG10.out] at q9;have z9:=HZ.out;have t9:=HT.out)))
     all_goals
      clear q9 z9 t9 HQ HZ HT HR
      generalize w4.setCell ⟨y,10,none⟩ (.slice (some ⟨g,0,none⟩) (k+1) cap)=wb at HL4 ⊢
      generalize (.slice (some ⟨g,0,none⟩) (k+1) cap:Value)=v2n at HL4 ⊢
      have HLb:=HL4
      clear HL4
      have c9:=HLb.out.ky.cell 9
      have c10:=HLb.out.ky.cell 10
      rw [HG9.out] at c9
      rw [HG10.out] at c10
      have ylt:=HLb.out.ky.lt
      clear HLa
      go_wp2_with fail
      go_roundw
      case rel=>exact ⟨k+1,_,_,by go_num,by omega,HLb⟩
      case measure=>simp [intOf];omega
   ·have hkH':¬(k:Int) < (H:Int):=by omega
    have CA:Hid (∀x,Calls Tryz.prog 37 #[.string hx,.int .i64 (4 * (H:Int) - 4)] x fun e w'=>e=.returned (.int .i64 X1)∧∃n,w'=x.drewN n):=hide fun x=>by
     have h:=ru2_any hx (4 * H - 4) (4 * (H:Int) - 4) x (by omega) (by have:=HH.out;omega) HH.out.2.2.2.2
     rw [←hX1];unfold advF;rw [if_neg hkH];exact h
    have CB:Hid (∀x,Calls Tryz.prog 43 #[.string hx,.int .i64 (4 * (H:Int)+2 * ((k:Int) - (H:Int)))] x fun e w'=>e=.returned (.int .i64 X2)∧∃n,w'=x.drewN n):=hide fun x=>by
     have h:=rs2_any hx (4 * H+2 * (k - H)) (4 * (H:Int)+2 * ((k:Int) - (H:Int))) x (by omega) (by have:=HH.out;omega) HH.out.2.2.2.2
     rw [←hX2];unfold beaF;rw [if_neg hkH];exact h
    have hw1:IntKind.i64.wrap (4 * (H:Int))=4 * (H:Int):=by rw [IntKind.wrap_i64];omega
    have hw2:IntKind.i64.wrap (4 * (H:Int) - 4)=4 * (H:Int) - 4:=by rw [IntKind.wrap_i64];omega
    have hw3:IntKind.i64.wrap ((k:Int) - (H:Int))=(k:Int) - (H:Int):=by rw [IntKind.wrap_i64];omega
    have hw4:IntKind.i64.wrap (2 * ((k:Int) - (H:Int)))=2 * ((k:Int) - (H:Int)):=by rw [IntKind.wrap_i64];omega
    have hw5:IntKind.i64.wrap (4 * (H:Int)+2 * ((k:Int) - (H:Int)))=4 * (H:Int)+2 * ((k:Int) - (H:Int)):=by rw [IntKind.wrap_i64];omega
    clear hX1 hX2 hlt hkH
    go_wp2_with fail
    rename_i k0
    have HKK1:=hide k0
    clear k0
    go_region_law ((first | (go_simp;go_at_call 37;refine (CA.out _).mono ?_;rintro e wy ⟨rfl,m,hw⟩;have hLy:=Lp.same HL.out (u:=wy) (by rw [hw];first | exact below_drewN' _ m | exact below_t5 (below_drewN' _ _) (below_drewN' _ m) | exact below_t5 (Below.refl _ _).drew (below_drewN' _ m));clear hw;obtain ⟨g,cap,w4,hr,hk4,hl4⟩:=Lp.app1 hLy X1 HK1.out.1 HK1.out.2 G1.out HY9.out;have HR:=hide hr;have q9:=hLy.ky.cell 9;rw [HG9.out] at q9;have hszy:=hLy.ky.lt;have HQ:=hide (hk4.cell 9);have HZ:=hide (hk4.frozen 9);have HT:=hide hk4.lt;have HL4:=hide hl4;clear hLy hr hk4 hl4) | (refine step_append_run _ (by rfl) _ _ _ _ rfl _ _ (by rfl) (by rfl) _ _ HR.out ?_;clear q9;have q9:=HQ.out;rw [HG9.out] at q9;have z9:=HZ.out;have t9:=HT.out)))
    all_goals
     refine HKK1.out _ _ ?_
     clear HKK1 q9 z9 t9 HQ HZ HT HR
     generalize w4.setCell ⟨y,9,none⟩ (.slice (some ⟨g,0,none⟩) (k+1) cap)=wa at HL4 ⊢
     generalize (.slice (some ⟨g,0,none⟩) (k+1) cap:Value)=v1n at HL4 ⊢
     have HLa:=HL4
     clear HL4
     have c9:=HLa.out.ky.cell 9
     have c10:=HLa.out.ky.cell 10
     rw [HG9.out] at c9
     rw [HG10.out] at c10
     have ylt:=HLa.out.ky.lt
     clear HL
     go_wp2_with fail
     go_region_law ((first | (go_simp;go_at_call 43;refine (CB.out _).mono ?_;rintro e wy ⟨rfl,m,hw⟩;have hLy:=Lp.same HLa.out (u:=wy) (by rw [hw];first | exact below_drewN' _ m | exact below_t5 (below_drewN' _ _) (below_drewN' _ m) | exact below_t5 (Below.refl _ _).drew (below_drewN' _ m));clear hw;obtain ⟨g,cap,w4,hr,hk4,hl4⟩:=Lp.app2 hLy X2 HK2.out.1 HK2.out.2 G2.out HY10.out;have HR:=hide hr;have q9:=hLy.ky.cell 10;rw [HG10.out] at q9;have hszy:=hLy.ky.lt;have HQ:=hide (hk4.cell 10);have HZ:=hide (hk4.frozen 10);have HT:=hide hk4.lt;have HL4:=hide hl4;clear hLy hr hk4 hl4) | (refine step_append_run _ (by rfl) _ _ _ _ rfl _ _ (by rfl) (by rfl) _ _ HR.out ?_;clear q9;have q9:=HQ.out;rw [HG10.out] at q9;have z9:=HZ.out;have t9:=HT.out)))
     all_goals
      clear q9 z9 t9 HQ HZ HT HR
      generalize w4.setCell ⟨y,10,none⟩ (.slice (some ⟨g,0,none⟩) (k+1) cap)=wb at HL4 ⊢
      generalize (.slice (some ⟨g,0,none⟩) (k+1) cap:Value)=v2n at HL4 ⊢
      have HLb:=HL4
      clear HL4
      have c9:=HLb.out.ky.cell 9
      have c10:=HLb.out.ky.cell 10
      rw [HG9.out] at c9
      rw [HG10.out] at c10
      have ylt:=HLb.out.ky.lt
      clear HLa
      go_wp2_with fail
      go_roundw
      case rel=>exact ⟨k+1,_,_,by go_num,by omega,HLb⟩
      case measure=>simp [intOf];omega
 ·have jA:((mx.extract 0 4).toList == [0,0,80,0])=false:=by have h:=P1.out;rw [qA] at h;exact h.symm
  have iA:((mx.extract 0 4).toList != [0,0,80,0])=true:=by unfold bne;rw [jA];rfl
  have jB:((mx.extract 0 4).toList == [0,1,0,0])=true:=by have h:=P2.out;rw [qB] at h;exact h.symm
  have iB:((mx.extract 0 4).toList != [0,1,0,0])=false:=by unfold bne;rw [jB];rfl
  clear P1 P2 qA qB
  go_enter Tryz.func16,Tryz.ntmps16
  go_wp2_with fail
  rw [HVV.out]
  refine CF0.out.mono ?_
  rintro e w1 ⟨rfl,hw⟩
  replace hw:=hw.symm
  subst hw
  go_wp2_with fail
  refine CF1.out.mono ?_
  rintro e w1 ⟨rfl,hw⟩
  replace hw:=hw.symm
  subst hw
  go_wp2_with fail
  refine CF2.out.mono ?_
  rintro e w1 ⟨rfl,hw⟩
  replace hw:=hw.symm
  subst hw
  go_wp2_with fail
  refine CF3.out.mono ?_
  rintro e w1 ⟨rfl,hw⟩
  replace hw:=hw.symm
  subst hw
  go_wp2_with fail
  refine (CN.out _).mono ?_
  rintro e w1 ⟨rfl,m,hw⟩
  have kvn:Blk w1 w.heap.size zeroC 26:=by rw [hw];exact KV.out.drewN m
  have hbn:Below w.heap.size w w1:=by rw [hw];exact below_drewN HB.out m
  replace KV:=hide kvn
  replace HB:=hide hbn
  clear hw kvn hbn
  go_wp2_with fail
  refine (CH.out _).mono ?_
  rintro e w1 ⟨rfl,m,hw⟩
  have kvn:Blk w1 w.heap.size zeroC 26:=by rw [hw];exact KV.out.drewN m
  have hbn:Below w.heap.size w w1:=by rw [hw];exact below_drewN HB.out m
  replace KV:=hide kvn
  replace HB:=hide hbn
  clear hw kvn hbn
  go_wp2_with fail
  refine (CU.out _).mono ?_
  rintro e w1 ⟨rfl,m,hw⟩
  have kvn:Blk w1 w.heap.size zeroC 26:=by rw [hw];exact KV.out.drewN m
  have hbn:Below w.heap.size w w1:=by rw [hw];exact below_drewN HB.out m
  replace KV:=hide kvn
  replace HB:=hide hbn
  clear hw kvn hbn
  go_wp2_with fail
  refine (CO.out _).mono ?_
  rintro e w1 ⟨rfl,m,hw⟩
  have kvn:Blk w1 w.heap.size zeroC 26:=by rw [hw];exact KV.out.drewN m
  have hbn:Below w.heap.size w w1:=by rw [hw];exact below_drewN HB.out m
  replace KV:=hide kvn
  replace HB:=hide hbn
  clear hw kvn hbn
  go_wp2_with fail
  refine (C52.out _).mono ?_
  rintro e w1 ⟨rfl,m,hw⟩
  have kvn:Blk w1 w.heap.size zeroC 26:=by rw [hw];exact KV.out.drewN m
  have hbn:Below w.heap.size w w1:=by rw [hw];exact below_drewN HB.out m
  replace KV:=hide kvn
  replace HB:=hide hbn
  clear hw kvn hbn
  go_wp2_with fail
  refine (C32.out _).mono ?_
  rintro e w1 ⟨rfl,m,hw⟩
  have kvn:Blk w1 w.heap.size zeroC 26:=by rw [hw];exact KV.out.drewN m
  have hbn:Below w.heap.size w w1:=by rw [hw];exact below_drewN HB.out m
  replace KV:=hide kvn
  replace HB:=hide hbn
  clear hw kvn hbn
  go_wp2_with fail
  refine (S4.out _).mono ?_
  rintro e w1 ⟨rfl,m,hw⟩
  have kvn:Blk w1 w.heap.size zeroC 26:=by rw [hw];exact KV.out.drewN m
  have hbn:Below w.heap.size w w1:=by rw [hw];exact below_drewN HB.out m
  replace KV:=hide kvn
  replace HB:=hide hbn
  clear hw kvn hbn
  go_wp2_with fail
  refine (S6.out _).mono ?_
  rintro e w1 ⟨rfl,m,hw⟩
  have kvn:Blk w1 w.heap.size zeroC 26:=by rw [hw];exact KV.out.drewN m
  have hbn:Below w.heap.size w w1:=by rw [hw];exact below_drewN HB.out m
  replace KV:=hide kvn
  replace HB:=hide hbn
  clear hw kvn hbn
  go_wp2_with fail
  refine (S8.out _).mono ?_
  rintro e w1 ⟨rfl,m,hw⟩
  have kvn:Blk w1 w.heap.size zeroC 26:=by rw [hw];exact KV.out.drewN m
  have hbn:Below w.heap.size w w1:=by rw [hw];exact below_drewN HB.out m
  replace KV:=hide kvn
  replace HB:=hide hbn
  clear hw kvn hbn
  go_wp2_with fail
  have hal:=(Below.refl w1.heap.size w1).alloc (Nat.le_refl _) (.cells #[.int .i64 (UU:Int),.int .i64 sa,.int .i64 sd,.int .i64 sg,.int .i64 0,.int .i64 0,.int .i64 0,.int .i64 0,.bool ((OO:Int) == 1),.slice none 0 0,.slice none 0 0] 26)
  have hky:=Blk.new w1 #[.int .i64 (UU:Int),.int .i64 sa,.int .i64 sd,.int .i64 sg,.int .i64 0,.int .i64 0,.int .i64 0,.int .i64 0,.bool ((OO:Int) == 1),.slice none 0 0,.slice none 0 0] 26
  have hkr:=KV.out.below hal
  have hbb:=below_t5 HB.out hal
  have hry:Hid (w.heap.size≠w1.heap.size∧w.heap.size≤w1.heap.size):=hide ⟨by have:=KV.out.lt;omega,HB.out.size⟩
  generalize w1.alloc (.cells #[.int .i64 (UU:Int),.int .i64 sa,.int .i64 sd,.int .i64 sg,.int .i64 0,.int .i64 0,.int .i64 0,.int .i64 0,.bool ((OO:Int) == 1),.slice none 0 0,.slice none 0 0] 26)=W0 at hky hkr hbb ⊢
  generalize w1.heap.size=y at hky hry ⊢
  clear hal KV HB
  have KY:=hide hky
  have KR:=hide hkr
  have HB:=hide hbb
  clear hky hkr hbb
  refine wp_loop_rounds 5 ?_
  rw [rounds_succ]
  go_wp2_with fail
  refine (S36.out _).mono ?_
  rintro e w1 ⟨rfl,m,hw⟩
  have hky:Blk w1 y #[.int .i64 (UU:Int),.int .i64 sa,.int .i64 sd,.int .i64 sg,.int .i64 0,.int .i64 0,.int .i64 0,.int .i64 0,.bool ((OO:Int) == 1),.slice none 0 0,.slice none 0 0] 26:=by rw [hw];exact KY.out.drewN m
  have hkr:Blk w1 w.heap.size zeroC 26:=by rw [hw];exact KR.out.drewN m
  have hbb:Below w.heap.size w w1:=by rw [hw];exact below_drewN HB.out m
  clear hw KY KR HB
  have c4:=hky.cell 4
  have f4:=hky.frozen 4
  have clt:=hky.lt
  simp at c4
  have hbt:=But.setCell y w1 4 (.int .i64 s36)
  have hky2:=Blk.set hky 4 (.int .i64 s36)
  simp at hky2
  have KY:=hide hky2
  have KR:=hide (hbt.blk hkr hry.out.1)
  have HB:=hide (hbt.below hbb hry.out.2)
  clear hbt hky2 hky hkr hbb
  go_wp2_with fail
  clear c4 f4 clt
  generalize w1.setCell ⟨y,4,none⟩ (.int .i64 s36)=W1 at KY KR HB ⊢
  rw [rounds_succ]
  go_wp2_with fail
  refine (S38.out _).mono ?_
  rintro e w1 ⟨rfl,m,hw⟩
  have hky:Blk w1 y #[.int .i64 (UU:Int),.int .i64 sa,.int .i64 sd,.int .i64 sg,.int .i64 s36,.int .i64 0,.int .i64 0,.int .i64 0,.bool ((OO:Int) == 1),.slice none 0 0,.slice none 0 0] 26:=by rw [hw];exact KY.out.drewN m
  have hkr:Blk w1 w.heap.size zeroC 26:=by rw [hw];exact KR.out.drewN m
  have hbb:Below w.heap.size w w1:=by rw [hw];exact below_drewN HB.out m
  clear hw KY KR HB
  have c5:=hky.cell 5
  have f5:=hky.frozen 5
  have clt:=hky.lt
  simp at c5
  have hbt:=But.setCell y w1 5 (.int .i64 s38)
  have hky2:=Blk.set hky 5 (.int .i64 s38)
  simp at hky2
  have KY:=hide hky2
  have KR:=hide (hbt.blk hkr hry.out.1)
  have HB:=hide (hbt.below hbb hry.out.2)
  clear hbt hky2 hky hkr hbb
  go_wp2_with fail
  clear c5 f5 clt
  generalize w1.setCell ⟨y,5,none⟩ (.int .i64 s38)=W2 at KY KR HB ⊢
  rw [rounds_succ]
  go_wp2_with fail
  refine (S40.out _).mono ?_
  rintro e w1 ⟨rfl,m,hw⟩
  have hky:Blk w1 y #[.int .i64 (UU:Int),.int .i64 sa,.int .i64 sd,.int .i64 sg,.int .i64 s36,.int .i64 s38,.int .i64 0,.int .i64 0,.bool ((OO:Int) == 1),.slice none 0 0,.slice none 0 0] 26:=by rw [hw];exact KY.out.drewN m
  have hkr:Blk w1 w.heap.size zeroC 26:=by rw [hw];exact KR.out.drewN m
  have hbb:Below w.heap.size w w1:=by rw [hw];exact below_drewN HB.out m
  clear hw KY KR HB
  have c6:=hky.cell 6
  have f6:=hky.frozen 6
  have clt:=hky.lt
  simp at c6
  have hbt:=But.setCell y w1 6 (.int .i64 s40)
  have hky2:=Blk.set hky 6 (.int .i64 s40)
  simp at hky2
  have KY:=hide hky2
  have KR:=hide (hbt.blk hkr hry.out.1)
  have HB:=hide (hbt.below hbb hry.out.2)
  clear hbt hky2 hky hkr hbb
  go_wp2_with fail
  clear c6 f6 clt
  generalize w1.setCell ⟨y,6,none⟩ (.int .i64 s40)=W3 at KY KR HB ⊢
  rw [rounds_succ]
  go_wp2_with fail
  refine (S42.out _).mono ?_
  rintro e w1 ⟨rfl,m,hw⟩
  have hky:Blk w1 y #[.int .i64 (UU:Int),.int .i64 sa,.int .i64 sd,.int .i64 sg,.int .i64 s36,.int .i64 s38,.int .i64 s40,.int .i64 0,.bool ((OO:Int) == 1),.slice none 0 0,.slice none 0 0] 26:=by rw [hw];exact KY.out.drewN m
  have hkr:Blk w1 w.heap.size zeroC 26:=by rw [hw];exact KR.out.drewN m
  have hbb:Below w.heap.size w w1:=by rw [hw];exact below_drewN HB.out m
  clear hw KY KR HB
  have c7:=hky.cell 7
  have f7:=hky.frozen 7
  have clt:=hky.lt
  simp at c7
  have hbt:=But.setCell y w1 7 (.int .i64 s42)
  have hky2:=Blk.set hky 7 (.int .i64 s42)
  simp at hky2
  have KY:=hide hky2
  have KR:=hide (hbt.blk hkr hry.out.1)
  have HB:=hide (hbt.below hbb hry.out.2)
  clear hbt hky2 hky hkr hbb
  go_wp2_with fail
  clear c7 f7 clt
  generalize w1.setCell ⟨y,7,none⟩ (.int .i64 s42)=W4 at KY KR HB ⊢
  rw [rounds_succ]
  go_wp2_with fail
  have hA1:(advL hx H N).length=N:=by simp [advL]
  have hA2:(beaL hx H N).length=N:=by simp [beaL]
  have HLP:Hid (Lp w (advL hx H N) (beaL hx H N) w.heap.size y W4.heap.size (fun va vb=>#[.int .i64 (UU:Int),.int .i64 sa,.int .i64 sd,.int .i64 sg,.int .i64 s36,.int .i64 s38,.int .i64 s40,.int .i64 s42,.bool ((OO:Int) == 1),va,vb]) 0 0 (.slice none 0 0) (.slice none 0 0) W4):=hide ⟨KR.out,KY.out,IRow.nil _ _,IRow.nil _ _,fun g hg=>by simp [Value.ownBlock] at hg,HB.out,KY.out.lt,KR.out.lt,hry.out.1,Nat.le_refl _,HB.out.size,Nat.le_refl _,hry.out.2⟩
  obtain ⟨YF,hYF⟩:∃YF:Value→Value→Array Value,(fun va vb=>#[.int .i64 (UU:Int),.int .i64 sa,.int .i64 sd,.int .i64 sg,.int .i64 s36,.int .i64 s38,.int .i64 s40,.int .i64 s42,.bool ((OO:Int) == 1),va,vb])=YF:=⟨_,rfl⟩
  have HY9:Hid (∀a b c,(YF a b).setIfInBounds 9 c=YF c b):=hide (by subst hYF;intro a b c;simp)
  have HY10:Hid (∀a b c,(YF a b).setIfInBounds 10 c=YF a c):=hide (by subst hYF;intro a b c;simp)
  have HG9:Hid (∀a b,(YF a b)[9]?=some a):=hide (by subst hYF;intro a b;rfl)
  have HG10:Hid (∀a b,(YF a b)[10]?=some b):=hide (by subst hYF;intro a b;rfl)
  have HYF:=hide hYF
  rw [hYF] at HLP
  generalize hBB:W4.heap.size=BB at HLP
  clear hBB hYF KR KY HB S4 S6 S8 S36 S38 S40 S42 CN CH CU CO C52 C32
  have HA:=hide (And.intro hA1 hA2)
  clear hA1 hA2 jA iA jC iC jD iD jE iE
  generalize Value.tuple #[.string hd,.bool true]=zt1
  generalize Value.tuple #[.string hh,.bool true]=zt2
  generalize Value.tuple #[.string mx,.bool true]=zt3
  generalize Value.tuple #[.string hx,.bool true]=zt4
  generalize Value.agg #[.int .i64 (UU:Int),.int .i64 sa,.int .i64 sd,.int .i64 sg,.int .i64 0,.int .i64 0,.int .i64 0,.int .i64 0,.bool ((OO:Int) == 1),.slice none 0 0,.slice none 0 0]=zt5
  try generalize Value.bool (decide ((H:Int) < 1))=zb1
  try generalize Value.bool (decide ((H:Int) < 1) || decide ((hx.size:Int) < 4 * (H:Int)+2 * ((N:Int) - (H:Int))))=zb2
  try generalize Value.bool (decide ((hx.size:Int) < 4 * (H:Int)+2 * ((N:Int) - (H:Int))))=zb3
  try generalize Value.int .i64 (4 * (H:Int)+2 * ((N:Int) - (H:Int)))=zb4
  try generalize Value.int .i64 (2 * ((N:Int) - (H:Int)))=zb5
  try generalize Value.int .i64 ((N:Int) - (H:Int))=zb6
  try generalize Value.int .i64 (4 * (H:Int))=zb7
  try generalize Value.bool ((OO:Int) == 1)=zb8
  generalize Value.bool true=zb9
  generalize Value.bool false=zb10
  generalize Value.string hd=zs1
  generalize Value.string hh=zs2
  generalize Value.string mx=zs3
  generalize Value.slice a n c=zs4
  generalize Value.int .i64 (UU:Int)=zs5
  generalize Value.int .i64 (OO:Int)=zs6
  generalize Value.int .i64 sa=zs7
  generalize Value.int .i64 sd=zs8
  generalize Value.int .i64 sg=zs9
  clear lmx lhd lhh kmx khd khd4 khh bU' bO' zmx' zhd' zhh' v1' v2' v3'
  go_loopw [18] (fun vi wr=>∃(k:Nat) (v1 v2:Value),vi=.int .i64 k∧k≤N∧Hid (Lp w (advL hx H N) (beaL hx H N) w.heap.size y BB YF k k v1 v2 wr)) (fun vi _=>N - (intOf vi).toNat)
  case atStart=>exact ⟨0,_,_,rfl,by omega,HLP⟩
  case round=>
   clear HLP
   obtain ⟨k,v1,v2,rfl,hkN,HL⟩:=hrel
   have c9:=HL.out.ky.cell 9
   have c10:=HL.out.ky.cell 10
   rw [HG9.out] at c9
   rw [HG10.out] at c10
   have ylt:=HL.out.ky.lt
   by_cases hlt:k < N
   case neg=>
    have hkn:N=k:=by omega
    subst hkn
    have hlt':¬(N:Int) < (N:Int):=by omega
    have hr1:=HL.out.r1
    have hr2:=HL.out.r2
    rw [List.take_of_length_le (by rw [HA.out.1];exact Nat.le_refl _)] at hr1
    rw [List.take_of_length_le (by rw [HA.out.2];exact Nat.le_refl _)] at hr2
    have HR1:=hide hr1
    have HR2:=hide hr2
    obtain ⟨a1,c1,e1,-⟩:=hr1.lst
    obtain ⟨a2,c2,e2,-⟩:=hr2.lst
    rw [HA.out.1] at e1
    rw [HA.out.2] at e2
    subst e1 e2
    have ky:=HL.out.ky
    rw [←HYF.out] at ky
    have x0:=ky.cell 0
    have z0:=HL.out.kr.cell 0
    have y0:=HL.out.kr.frozen 0
    have x1:=ky.cell 1
    have z1:=HL.out.kr.cell 1
    have y1:=HL.out.kr.frozen 1
    have x2:=ky.cell 2
    have z2:=HL.out.kr.cell 2
    have y2:=HL.out.kr.frozen 2
    have x3:=ky.cell 3
    have z3:=HL.out.kr.cell 3
    have y3:=HL.out.kr.frozen 3
    have x4:=ky.cell 4
    have z4:=HL.out.kr.cell 4
    have y4:=HL.out.kr.frozen 4
    have x5:=ky.cell 5
    have z5:=HL.out.kr.cell 5
    have y5:=HL.out.kr.frozen 5
    have x6:=ky.cell 6
    have z6:=HL.out.kr.cell 6
    have y6:=HL.out.kr.frozen 6
    have x7:=ky.cell 7
    have z7:=HL.out.kr.cell 7
    have y7:=HL.out.kr.frozen 7
    have x8:=ky.cell 8
    have z8:=HL.out.kr.cell 8
    have y8:=HL.out.kr.frozen 8
    have x9:=ky.cell 9
    have z9:=HL.out.kr.cell 9
    have y9:=HL.out.kr.frozen 9
    have x10:=ky.cell 10
    have z10:=HL.out.kr.cell 10
    have y10:=HL.out.kr.frozen 10
    simp at x0 z0 x1 z1 x2 z2 x3 z3 x4 z4 x5 z5 x6 z6 x7 z7 x8 z8 x9 z9 x10 z10
    have zlt:=HL.out.kr.lt
    have hne:=hry.out.1
    clear hr1 hr2 ky c9 c10 hlt
    go_wp2_with fail
    have hst:=store11 HL.out.kr (.int .i64 (UU:Int)) (.int .i64 sa) (.int .i64 sd) (.int .i64 sg) (.int .i64 s36) (.int .i64 s38) (.int .i64 s40) (.int .i64 s42) (.bool ((OO:Int) == 1)) (.slice a1 N c1) (.slice a2 N c2)
    have hbe:=hst.2.below HL.out.bl (Nat.le_refl _)
    clear x0 z0 y0 x1 z1 y1 x2 z2 y2 x3 z3 y3 x4 z4 y4 x5 z5 y5 x6 z6 y6 x7 z7 y7 x8 z8 y8 x9 z9 y9 x10 z10 y10 zlt
    generalize (((((((((((wr.setCell ⟨w.heap.size,0,none⟩ (.int .i64 (UU:Int))).setCell ⟨w.heap.size,1,none⟩ (.int .i64 sa)).setCell ⟨w.heap.size,2,none⟩ (.int .i64 sd)).setCell ⟨w.heap.size,3,none⟩ (.int .i64 sg)).setCell ⟨w.heap.size,4,none⟩ (.int .i64 s36)).setCell ⟨w.heap.size,5,none⟩ (.int .i64 s38)).setCell ⟨w.heap.size,6,none⟩ (.int .i64 s40)).setCell ⟨w.heap.size,7,none⟩ (.int .i64 s42)).setCell ⟨w.heap.size,8,none⟩ (.bool ((OO:Int) == 1))).setCell ⟨w.heap.size,9,none⟩ (.slice a1 N c1)).setCell ⟨w.heap.size,10,none⟩ (.slice a2 N c2))=ZZ at hst hbe ⊢
    have q0:=hst.1.cell 0
    have q1:=hst.1.cell 1
    have q2:=hst.1.cell 2
    have q3:=hst.1.cell 3
    have q4:=hst.1.cell 4
    have q5:=hst.1.cell 5
    have q6:=hst.1.cell 6
    have q7:=hst.1.cell 7
    have q8:=hst.1.cell 8
    have q9:=hst.1.cell 9
    have q10:=hst.1.cell 10
    simp at q0 q1 q2 q3 q4 q5 q6 q7 q8 q9 q10
    have l1:IRow ZZ BB (.slice a1 N c1) (advL hx H N):=HR1.out.kept fun g hg hl=>hst.2.block g hl (by have:=(HR1.out.own g hg).1;have:=HL.out.rb;omega)
    have l2:IRow ZZ BB (.slice a2 N c2) (beaL hx H N):=HR2.out.kept fun g hg hl=>hst.2.block g hl (by have:=(HR2.out.own g hg).1;have:=HL.out.rb;omega)
    obtain ⟨b1,d1,f1,m1⟩:=l1.lst
    obtain ⟨b2,d2,f2,m2⟩:=l2.lst
    simp only [Value.slice.injEq] at f1 f2
    obtain ⟨rfl,-,rfl⟩:=f1
    obtain ⟨rfl,-,rfl⟩:=f2
    refine bodyPost_ret (v:=.tuple #[mval mx hd hh (.slice a1 (nV mx) c1) (.slice a2 (nV mx) c2),.int .i64 0]) (by simp [results,Tryz.results16,go_sem,HMV.out,HNV.out.1,q0,q1,q2,q3,q4,q5,q6,q7,q8,q9,q10]) rfl ⟨a1,c1,a2,c2,rfl,hbe,?_,?_,?_,?_⟩
    ·rw [HNV.out.1,HNV.out.2];exact m1.1
    ·rw [HNV.out.1,HNV.out.2];exact m2.1
    ·intro b o hb;have h1:=(HR1.out.own b (by rw [hb];rfl)).1;have h2:=HL.out.wb;omega
    ·intro b o hb;have h1:=(HR2.out.own b (by rw [hb];rfl)).1;have h2:=HL.out.wb;omega
   have hlt':(k:Int) < (N:Int):=by omega
   have hk0:(0:Int)≤(k:Int):=by omega
   obtain ⟨X1,hX1⟩:∃X,advF hx H k=X:=⟨_,rfl⟩
   obtain ⟨X2,hX2⟩:∃X,beaF hx H k=X:=⟨_,rfl⟩
   have G1:Hid ((advL hx H N).getD k 0=X1):=hide (by rw [←hX1];simp [advL,List.getD_eq_getElem?_getD,hlt])
   have G2:Hid ((beaL hx H N).getD k 0=X2):=hide (by rw [←hX2];simp [beaL,List.getD_eq_getElem?_getD,hlt])
   have HK1:Hid (k < (advL hx H N).length∧(advL hx H N).length≤5000):=hide (by have:=HH.out;have:=HA.out;omega)
   have HK2:Hid (k < (beaL hx H N).length∧(beaL hx H N).length≤5000):=hide (by have:=HH.out;have:=HA.out;omega)
   by_cases hkH:k < H
   ·have hkH':(k:Int) < (H:Int):=by omega
    have CA:Hid (∀x,Calls Tryz.prog 37 #[.string hx,.int .i64 (4 * (k:Int))] x fun e w'=>e=.returned (.int .i64 X1)∧∃n,w'=x.drewN n):=hide fun x=>by
     have h:=ru2_any hx (4 * k) (4 * (k:Int)) x (by omega) (by have:=HH.out;omega) HH.out.2.2.2.2
     rw [←hX1];unfold advF;rw [if_pos hkH];exact h
    have CB:Hid (∀x,Calls Tryz.prog 43 #[.string hx,.int .i64 (4 * (k:Int)+2)] x fun e w'=>e=.returned (.int .i64 X2)∧∃n,w'=x.drewN n):=hide fun x=>by
     have h:=rs2_any hx (4 * k+2) (4 * (k:Int)+2) x (by omega) (by have:=HH.out;omega) HH.out.2.2.2.2
     rw [←hX2];unfold beaF;rw [if_pos hkH];exact h
    have hw1:IntKind.i64.wrap (4 * (k:Int))=4 * (k:Int):=by rw [IntKind.wrap_i64];omega
    have hw2:IntKind.i64.wrap (4 * (k:Int)+2)=4 * (k:Int)+2:=by rw [IntKind.wrap_i64];omega
    clear hX1 hX2 hlt hkH
    go_wp2_with fail
    rename_i k0
    have HKK1:=hide k0
    clear k0
    go_region_law ((first | (go_simp;go_at_call 37;refine (CA.out _).mono ?_;rintro e wy ⟨rfl,m,hw⟩;have hLy:=Lp.same HL.out (u:=wy) (by rw [hw];first | exact below_drewN' _ m | exact below_t5 (below_drewN' _ _) (below_drewN' _ m) | exact below_t5 (Below.refl _ _).drew (below_drewN' _ m));clear hw;obtain ⟨g,cap,w4,hr,hk4,hl4⟩:=Lp.app1 hLy X1 HK1.out.1 HK1.out.2 G1.out HY9.out;have HR:=hide hr;have q9:=hLy.ky.cell 9;rw [HG9.out] at q9;have hszy:=hLy.ky.lt;have HQ:=hide (hk4.cell 9);have HZ:=hide (hk4.frozen 9);have HT:=hide hk4.lt;have HL4:=hide hl4;clear hLy hr hk4 hl4) | (refine step_append_run _ (by rfl) _ _ _ _ rfl _ _ (by rfl) (by rfl) _ _ HR.out ?_;clear q9;have q9:=HQ.out;rw [HG9.out] at q9;have z9:=HZ.out;have t9:=HT.out)))
    all_goals
     refine HKK1.out _ _ ?_
     clear HKK1 q9 z9 t9 HQ HZ HT HR
     generalize w4.setCell ⟨y,9,none⟩ (.slice (some ⟨g,0,none⟩) (k+1) cap)=wa at HL4 ⊢
     generalize (.slice (some ⟨g,0,none⟩) (k+1) cap:Value)=v1n at HL4 ⊢
     have HLa:=HL4
     clear HL4
     have c9:=HLa.out.ky.cell 9
     have c10:=HLa.out.ky.cell 10
     rw [HG9.out] at c9
     rw [HG10.out] at c10
     have ylt:=HLa.out.ky.lt
     clear HL
     go_wp2_with fail
     go_region_law ((first | (go_simp;go_at_call 43;refine (CB.out _).mono ?_;rintro e wy ⟨rfl,m,hw⟩;have hLy:=Lp.same HLa.out (u:=wy) (by rw [hw];first | exact below_drewN' _ m | exact below_t5 (below_drewN' _ _) (below_drewN' _ m) | exact below_t5 (Below.refl _ _).drew (below_drewN' _ m));clear hw;obtain ⟨g,cap,w4,hr,hk4,hl4⟩:=Lp.app2 hLy X2 HK2.out.1 HK2.out.2 G2.out HY10.out;have HR:=hide hr;have q9:=hLy.ky.cell 10;rw [HG10.out] at q9;have hszy:=hLy.ky.lt;have HQ:=hide (hk4.cell 10);have HZ:=hide (hk4.frozen 10);have HT:=hide hk4.lt;have HL4:=hide hl4;clear hLy hr hk4 hl4) | (refine step_append_run _ (by rfl) _ _ _ _ rfl _ _ (by rfl) (by rfl) _ _ HR.out ?_;clear q9;have q9:=HQ.out;rw [HG10.out] at q9;have z9:=HZ.out;have t9:=HT.out)))
     all_goals
      clear q9 z9 t9 HQ HZ HT HR
      generalize w4.setCell ⟨y,10,none⟩ (.slice (some ⟨g,0,none⟩) (k+1) cap)=wb at HL4 ⊢
      generalize (.slice (some ⟨g,0,none⟩) (k+1) cap:Value)=v2n at HL4 ⊢
      have HLb:=HL4
      clear HL4
      have c9:=HLb.out.ky.cell 9
      have c10:=HLb.out.ky.cell 10
      rw [HG9.out] at c9
      rw [HG10.out] at c10
      have ylt:=HLb.out.ky.lt
      clear HLa
      go_wp2_with fail
      go_roundw
      case rel=>exact ⟨k+1,_,_,by go_num,by omega,HLb⟩
      case measure=>simp [intOf];omega
   ·have hkH':¬(k:Int) < (H:Int):=by omega
    have CA:Hid (∀x,Calls Tryz.prog 37 #[.string hx,.int .i64 (4 * (H:Int) - 4)] x fun e w'=>e=.returned (.int .i64 X1)∧∃n,w'=x.drewN n):=hide fun x=>by
     have h:=ru2_any hx (4 * H - 4) (4 * (H:Int) - 4) x (by omega) (by have:=HH.out;omega) HH.out.2.2.2.2
     rw [←hX1];unfold advF;rw [if_neg hkH];exact h
    have CB:Hid (∀x,Calls Tryz.prog 43 #[.string hx,.int .i64 (4 * (H:Int)+2 * ((k:Int) - (H:Int)))] x fun e w'=>e=.returned (.int .i64 X2)∧∃n,w'=x.drewN n):=hide fun x=>by
     have h:=rs2_any hx (4 * H+2 * (k - H)) (4 * (H:Int)+2 * ((k:Int) - (H:Int))) x (by omega) (by have:=HH.out;omega) HH.out.2.2.2.2
     rw [←hX2];unfold beaF;rw [if_neg hkH];exact h
    have hw1:IntKind.i64.wrap (4 * (H:Int))=4 * (H:Int):=by rw [IntKind.wrap_i64];omega
    have hw2:IntKind.i64.wrap (4 * (H:Int) - 4)=4 * (H:Int) - 4:=by rw [IntKind.wrap_i64];omega
    have hw3:IntKind.i64.wrap ((k:Int) - (H:Int))=(k:Int) - (H:Int):=by rw [IntKind.wrap_i64];omega
    have hw4:IntKind.i64.wrap (2 * ((k:Int) - (H:Int)))=2 * ((k:Int) - (H:Int)):=by rw [IntKind.wrap_i64];omega
    have hw5:IntKind.i64.wrap (4 * (H:Int)+2 * ((k:Int) - (H:Int)))=4 * (H:Int)+2 * ((k:Int) - (H:Int)):=by rw [IntKind.wrap_i64];omega
    clear hX1 hX2 hlt hkH
    go_wp2_with fail
    rename_i k0
    have HKK1:=hide k0
    clear k0
    go_region_law ((first | (go_simp;go_at_call 37;refine (CA.out _).mono ?_;rintro e wy ⟨rfl,m,hw⟩;have hLy:=Lp.same HL.out (u:=wy) (by rw [hw];first | exact below_drewN' _ m | exact below_t5 (below_drewN' _ _) (below_drewN' _ m) | exact below_t5 (Below.refl _ _).drew (below_drewN' _ m));clear hw;obtain ⟨g,cap,w4,hr,hk4,hl4⟩:=Lp.app1 hLy X1 HK1.out.1 HK1.out.2 G1.out HY9.out;have HR:=hide hr;have q9:=hLy.ky.cell 9;rw [HG9.out] at q9;have hszy:=hLy.ky.lt;have HQ:=hide (hk4.cell 9);have HZ:=hide (hk4.frozen 9);have HT:=hide hk4.lt;have HL4:=hide hl4;clear hLy hr hk4 hl4) | (refine step_append_run _ (by rfl) _ _ _ _ rfl _ _ (by rfl) (by rfl) _ _ HR.out ?_;clear q9;have q9:=HQ.out;rw [HG9.out] at q9;have z9:=HZ.out;have t9:=HT.out)))
    all_goals
     refine HKK1.out _ _ ?_
     clear HKK1 q9 z9 t9 HQ HZ HT HR
     generalize w4.setCell ⟨y,9,none⟩ (.slice (some ⟨g,0,none⟩) (k+1) cap)=wa at HL4 ⊢
     generalize (.slice (some ⟨g,0,none⟩) (k+1) cap:Value)=v1n at HL4 ⊢
     have HLa:=HL4
     clear HL4
     have c9:=HLa.out.ky.cell 9
     have c10:=HLa.out.ky.cell 10
     rw [HG9.out] at c9
     rw [HG10.out] at c10
     have ylt:=HLa.out.ky.lt
     clear HL
     go_wp2_with fail
     go_region_law ((first | (go_simp;go_at_call 43;refine (CB.out _).mono ?_;rintro e wy ⟨rfl,m,hw⟩;have hLy:=Lp.same HLa.out (u:=wy) (by rw [hw];first | exact below_drewN' _ m | exact below_t5 (below_drewN' _ _) (below_drewN' _ m) | exact below_t5 (Below.refl _ _).drew (below_drewN' _ m));clear hw;obtain ⟨g,cap,w4,hr,hk4,hl4⟩:=Lp.app2 hLy X2 HK2.out.1 HK2.out.2 G2.out HY10.out;have HR:=hide hr;have q9:=hLy.ky.cell 10;rw [HG10.out] at q9;have hszy:=hLy.ky.lt;have HQ:=hide (hk4.cell 10);have HZ:=hide (hk4.frozen 10);have HT:=hide hk4.lt;have HL4:=hide hl4;clear hLy hr hk4 hl4) | (refine step_append_run _ (by rfl) _ _ _ _ rfl _ _ (by rfl) (by rfl) _ _ HR.out ?_;clear q9;have q9:=HQ.out;rw [HG10.out] at q9;have z9:=HZ.out;have t9:=HT.out)))
     all_goals
      clear q9 z9 t9 HQ HZ HT HR
      generalize w4.setCell ⟨y,10,none⟩ (.slice (some ⟨g,0,none⟩) (k+1) cap)=wb at HL4 ⊢
      generalize (.slice (some ⟨g,0,none⟩) (k+1) cap:Value)=v2n at HL4 ⊢
      have HLb:=HL4
      clear HL4
      have c9:=HLb.out.ky.cell 9
      have c10:=HLb.out.ky.cell 10
      rw [HG9.out] at c9
      rw [HG10.out] at c10
      have ylt:=HLb.out.ky.lt
      clear HLa
      go_wp2_with fail
      go_roundw
      case rel=>exact ⟨k+1,_,_,by go_num,by omega,HLb⟩
      case measure=>simp [intOf];omega
end Go.Proofs.YtpaadbnlhapdbaaGreatDoor
namespace Go.Proofs.YtpaadbnlhapdbaaGreatDoor.F12
open Go.RowKit Go.Deep
set_option linter.unusedVariables false
set_option linter.unusedSimpArgs false
set_option maxHeartbeats 1000000 in
theorem schars_any (a b:Option Addr) (ca cb:Nat) (n:Nat) (cs:List C11.Ch) (w:World) (hz:cs.length=n) (hn:n≤1073741824) (hA:C11.CLst w a cs) (hB:C11.CLst w b cs) :
  Calls Tryz.prog 23 #[.slice a n ca,.slice b n cb] w fun e w'=>e=.returned (.bool true)∧Below w.heap.size w w':=by
 have hn':(n:Int)≤1073741824:=by omega
 have HA:=hide hA
 have HB:=hide hB
 have HZ:=hide hz
 clear hA hB hz hn
 go_enter Tryz.func23,Tryz.ntmps23
 go_wp2_with fail
 go_loopw [5] (fun vi wr=>∃(k:Nat),vi=.int .i64 k∧Hid (k≤n∧Below w.heap.size w wr)) (fun vi _=>n - (intOf vi).toNat)
 case atStart=>exact ⟨0,rfl,hide ⟨by omega,Below.refl _ _⟩⟩
 case round=>
  obtain ⟨k,rfl,HV⟩:=hrel
  obtain ⟨hk,hb⟩:=HV.out
  have hk0:(0:Int)≤(k:Int):=by omega
  have HBB:=hide hb
  clear HV
  by_cases hlt:k < n
  case neg=>
   have hlt':¬(k:Int) < (n:Int):=by omega
   clear hb
   go_wp2_with fail
   go_ret
   exact ⟨rfl,HBB.out⟩
  have hlt':(k:Int) < (n:Int):=by omega
  rcases HA.out.below hb with hz | ⟨ba,oa,rfl,hla,hca⟩
  ·have:=HZ.out;rw [hz] at this;simp at this;omega
  rcases HB.out.below hb with hz | ⟨bb,ob,rfl,hlb,hcb⟩
  ·have:=HZ.out;rw [hz] at this;simp at this;omega
  obtain ⟨x0,x1,x2⟩:=hca k (by have:=HZ.out;omega)
  obtain ⟨y0,y1,y2⟩:=hcb k (by have:=HZ.out;omega)
  generalize (cs.getD k C11.c0).f=f at *
  generalize (cs.getD k C11.c0).l=l at *
  generalize (cs.getD k C11.c0).g=g at *
  clear hca hcb hb
  go_wp2_with fail
  go_quiet (fail)
  go_wp2_with fail
  go_roundw
  case rel=>exact ⟨k+1,by go_num,hide ⟨by omega,below_drewN HBB.out _⟩⟩
  case measure=>simp [intOf];omega
set_option maxRecDepth 8000 in
set_option maxHeartbeats 4000000 in
theorem rsame_any (m:Mt) (a1 a2 b1 b2 g1 g2 c1 c2:Option Addr) (na nb ng nc k1 k2 k3 k4 k5 k6 k7 k8:Nat) (gs:List ByteArray) (cs:List C11.Ch) (w:World) (hna:m.ad.length=na) (hnb:m.be.length=nb) (hng:gs.length=ng) (hnc:cs.length=nc) (hma:na≤1048576) (hmb:nb≤1048576) (hmg:ng≤1048576) (hmc:nc≤1048576)
  (hA1:Lst w a1 m.ad) (hA2:Lst w a2 m.ad) (hB1:Lst w b1 m.be) (hB2:Lst w b2 m.be) (hG1:G10.SLst w g1 gs) (hG2:G10.SLst w g2 gs) (hC1:C11.CLst w c1 cs) (hC2:C11.CLst w c2 cs) :
  Calls Tryz.prog 7 #[.agg (fcs m (.slice a1 na k1) (.slice b1 nb k2) (.slice g1 ng k3) (.slice c1 nc k4)),.agg (fcs m (.slice a2 na k5) (.slice b2 nb k6) (.slice g2 ng k7) (.slice c2 nc k8))] w fun e w'=>e=.returned (.bool true)∧Below w.heap.size w w':=by
 have CM:=hide (fun (u:World) (hu:Below w.heap.size w u)=>msame_any m a1 a2 b1 b2 na nb k1 k5 k2 k6 u hna hnb hma hmb (hA1.below hu) (hA2.below hu) (hB1.below hu) (hB2.below hu))
 have CT:=hide (fun (u:World) (hu:Below w.heap.size w u)=>G10.ktexts_any g1 g2 ng k3 k7 gs u hng hmg (hG1.below hu) (hG2.below hu))
 have CC:=hide (fun (u:World) (hu:Below w.heap.size w u)=>schars_any c1 c2 k4 k8 nc cs u hnc (by omega) (hC1.below hu) (hC2.below hu))
 have bA:=(Below.refl w.heap.size w).alloc (Nat.le_refl _) (.cells (fcs m (.slice a1 na k1) (.slice b1 nb k2) (.slice g1 ng k3) (.slice c1 nc k4)) 30)
 have kA:=Blk.new w (fcs m (.slice a1 na k1) (.slice b1 nb k2) (.slice g1 ng k3) (.slice c1 nc k4)) 30
 have zA:(w.alloc (.cells (fcs m (.slice a1 na k1) (.slice b1 nb k2) (.slice g1 ng k3) (.slice c1 nc k4)) 30)).heap.size=w.heap.size+1:=by simp
 obtain ⟨up,sc,de,gap,b0,b1',b2',b3,lg,ad,be⟩:=m
 simp only [mcs,fcs] at CM bA kA zA ⊢
 clear hna hnb hng hnc hma hmb hmg hmc hA1 hA2 hB1 hB2 hG1 hG2 hC1 hC2
 go_enter Tryz.func7,Tryz.ntmps7
 go_upto_region 1 with (fail)
 rw [←zA]
 generalize w.alloc (.cells #[.int .i64 up,.int .i64 sc,.int .i64 de,.int .i64 gap,.int .i64 b0,.int .i64 b1',.int .i64 b2',.int .i64 b3,.bool lg,.slice a1 na k1,.slice b1 nb k2,.slice g1 ng k3,.slice c1 nc k4] 30)=U at bA kA zA ⊢
 have bB:=(Below.refl U.heap.size U).alloc (Nat.le_refl _) (.cells #[.int .i64 up,.int .i64 sc,.int .i64 de,.int .i64 gap,.int .i64 b0,.int .i64 b1',.int .i64 b2',.int .i64 b3,.bool lg,.slice a2 na k5,.slice b2 nb k6,.slice g2 ng k7,.slice c2 nc k8] 30)
 have kB:=Blk.new U #[.int .i64 up,.int .i64 sc,.int .i64 de,.int .i64 gap,.int .i64 b0,.int .i64 b1',.int .i64 b2',.int .i64 b3,.bool lg,.slice a2 na k5,.slice b2 nb k6,.slice g2 ng k7,.slice c2 nc k8] 30
 have kA2:=kA.below bB
 have bV:=below_t5 bA bB
 generalize U.alloc (.cells #[.int .i64 up,.int .i64 sc,.int .i64 de,.int .i64 gap,.int .i64 b0,.int .i64 b1',.int .i64 b2',.int .i64 b3,.bool lg,.slice a2 na k5,.slice b2 nb k6,.slice g2 ng k7,.slice c2 nc k8] 30)=V at bB kB kA2 bV ⊢
 have HKA:=hide kA2
 have HKB:=hide kB
 have HBV:=hide bV
 have x0:=kA2.cell 0
 have x1:=kA2.cell 1
 have x2:=kA2.cell 2
 have x3:=kA2.cell 3
 have x4:=kA2.cell 4
 have x5:=kA2.cell 5
 have x6:=kA2.cell 6
 have x7:=kA2.cell 7
 have x8:=kA2.cell 8
 have x9:=kA2.cell 9
 have x10:=kA2.cell 10
 have x11:=kA2.cell 11
 have x12:=kA2.cell 12
 simp at x0 x1 x2 x3 x4 x5 x6 x7 x8 x9 x10 x11 x12
 have y0:=kB.cell 0
 have y1:=kB.cell 1
 have y2:=kB.cell 2
 have y3:=kB.cell 3
 have y4:=kB.cell 4
 have y5:=kB.cell 5
 have y6:=kB.cell 6
 have y7:=kB.cell 7
 have y8:=kB.cell 8
 have y9:=kB.cell 9
 have y10:=kB.cell 10
 have y11:=kB.cell 11
 have y12:=kB.cell 12
 simp at y0 y1 y2 y3 y4 y5 y6 y7 y8 y9 y10 y11 y12
 have alt:=kA2.lt
 have blt:=kB.lt
 clear kA kB kA2 bA bB bV zA
 go_wp2_with fail
 refine (CM.out _ HBV.out).mono ?_
 rintro e w1 ⟨rfl,h1⟩
 have HB1:=hide (below_t5 HBV.out h1)
 have ka:=HKA.out.below h1
 have kb:=HKB.out.below h1
 clear x0 y0 x1 y1 x2 y2 x3 y3 x4 y4 x5 y5 x6 y6 x7 y7 x8 y8 x9 y9 x10 y10 x11 y11 x12 y12 alt blt
 have x11:=ka.cell 11
 have x12:=ka.cell 12
 simp at x11 x12
 have y11:=kb.cell 11
 have y12:=kb.cell 12
 simp at y11 y12
 have alt:=ka.lt
 have blt:=kb.lt
 have HKA1:=hide ka
 have HKB1:=hide kb
 clear ka kb h1 HKA HKB HBV CM
 go_wp2_with fail
 refine (CT.out _ HB1.out).mono ?_
 rintro e w2 ⟨rfl,n2,hw2⟩
 have h2:Below w1.heap.size w1 w2:=by rw [hw2];exact below_d (Below.refl _ _) (Below.refl _ _) rfl rfl rfl rfl
 have HB2:=hide (below_t5 HB1.out h2)
 have ka:=HKA1.out.below h2
 have kb:=HKB1.out.below h2
 clear x11 x12 y11 y12 alt blt hw2
 have x12:=ka.cell 12
 simp at x12
 have y12:=kb.cell 12
 simp at y12
 have alt:=ka.lt
 have blt:=kb.lt
 clear ka kb h2 HKA1 HKB1 HB1 CT
 go_wp2_with fail
 refine (CC.out _ HB2.out).mono ?_
 rintro e w3 ⟨rfl,h3⟩
 have HB3:=hide (below_t5 HB2.out h3)
 clear x12 y12 alt blt h3
 go_wp2_with fail
 go_ret
 exact ⟨rfl,HB3.out⟩
end Go.Proofs.YtpaadbnlhapdbaaGreatDoor.F12
