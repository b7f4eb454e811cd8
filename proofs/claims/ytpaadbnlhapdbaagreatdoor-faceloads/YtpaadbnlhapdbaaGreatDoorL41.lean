/-
  Joined: S8Tgr, S8Fau, S8Gp, S8Dir, S8Rd, S8App.
-/
import Derived.BigQuiet
import Derived.Deep.QuietTactic
import Derived.WalkMore
import Derived.Test.YtpaadbnlhapdbaaGreatDoorL40
namespace Go.Proofs.YtpaadbnlhapdbaaGreatDoor.S8
open Go.RowKit Go.Deep
set_option linter.unusedVariables false
theorem tx_0 (x0 x1 x2 x3:Int) (w:World):(Instr.index 148 (.agg #[.int .u8 x0,.int .u8 x1,.int .u8 x2,.int .u8 x3]) (.int .i64 0)).run Tryz.prog w=.ok (.int .u8 x0) w:=by kernel_rfl
theorem tx_1 (x0 x1 x2 x3:Int) (w:World):(Instr.index 148 (.agg #[.int .u8 x0,.int .u8 x1,.int .u8 x2,.int .u8 x3]) (.int .i64 1)).run Tryz.prog w=.ok (.int .u8 x1) w:=by kernel_rfl
theorem tx_2 (x0 x1 x2 x3:Int) (w:World):(Instr.index 148 (.agg #[.int .u8 x0,.int .u8 x1,.int .u8 x2,.int .u8 x3]) (.int .i64 2)).run Tryz.prog w=.ok (.int .u8 x2) w:=by kernel_rfl
theorem tx_3 (x0 x1 x2 x3:Int) (w:World):(Instr.index 148 (.agg #[.int .u8 x0,.int .u8 x1,.int .u8 x2,.int .u8 x3]) (.int .i64 3)).run Tryz.prog w=.ok (.int .u8 x3) w:=by kernel_rfl
abbrev c1 (sum pl ln:Int):Array Value:=#[.int .u8 97,.int .u8 98,.int .u8 99,.int .u8 100,.int .i64 sum,.int .i64 pl,.int .i64 ln]
abbrev t1:Array Value:=#[.int .u8 97,.int .u8 98,.int .u8 99,.int .u8 100]
theorem cmp4 (a0 a1 a2 a3 b0 b1 b2 b3:UInt8):decide (0≤Extern.BytealgCompare.cmp ⟨[a0,a1,a2,a3].toArray⟩ ⟨[b0,b1,b2,b3].toArray⟩)=!Op.bytesLess [a0,a1,a2,a3] [b0,b1,b2,b3]:=by
 have e:∀(x0 x1 x2 x3:UInt8),(⟨[x0,x1,x2,x3].toArray⟩:ByteArray)[0]! =x0∧(⟨[x0,x1,x2,x3].toArray⟩:ByteArray)[1]! =x1∧(⟨[x0,x1,x2,x3].toArray⟩:ByteArray)[2]! =x2∧(⟨[x0,x1,x2,x3].toArray⟩:ByteArray)[3]! =x3:=fun _ _ _ _=>⟨rfl,rfl,rfl,rfl⟩
 obtain ⟨p0,p1,p2,p3⟩:=e a0 a1 a2 a3
 obtain ⟨q0,q1,q2,q3⟩:=e b0 b1 b2 b3
 have hr:List.range (min (ByteArray.size ⟨[a0,a1,a2,a3].toArray⟩) (ByteArray.size ⟨[b0,b1,b2,b3].toArray⟩))=[0,1,2,3]:=rfl
 have hs:∀(x0 x1 x2 x3:UInt8),ByteArray.size ⟨[x0,x1,x2,x3].toArray⟩=4:=fun _ _ _ _=>rfl
 unfold Extern.BytealgCompare.cmp
 rw [hr,hs,hs]
 simp only [List.find?,p0,p1,p2,p3,q0,q1,q2,q3,Op.bytesLess]
 by_cases h0:a0=b0
 ·subst h0
  by_cases h1:a1=b1
  ·subst h1
   by_cases h2:a2=b2
   ·subst h2
    by_cases h3:a3=b3
    ·subst h3;simp
    ·have hn:(a3 != b3)=true:=by simp [h3]
     simp only [hn]
     by_cases h:a3 < b3 <;> simp [h,p3,q3]
   ·have hn:(a2 != b2)=true:=by simp [h2]
    simp only [hn]
    by_cases h:a2 < b2 <;> simp [h,h2,p2,q2]
  ·have hn:(a1 != b1)=true:=by simp [h1]
   simp only [hn]
   by_cases h:a1 < b1 <;> simp [h,h1,p1,q1]
 ·have hn:(a0 != b0)=true:=by simp [h0]
  simp only [hn]
  by_cases h:a0 < b0 <;> simp [h,h0,p0,q0]
theorem less_total:∀(a b:List UInt8),(Op.bytesLess a b || a == b)=!Op.bytesLess b a
 | [],[]=>by simp [Op.bytesLess]
 | [],b :: y=>by simp [Op.bytesLess]
 | a :: x,[]=>by simp [Op.bytesLess]
 | a :: x,b :: y=>by
  have ih:=less_total x y
  simp only [Op.bytesLess]
  by_cases h:a=b
  ·subst h
   have : ¬a < a:=by rw [UInt8.lt_iff_toNat_lt];omega
   simp [this]
   simpa using ih
  ·by_cases h1:a < b
   ·have h2:¬b < a:=by rw [UInt8.lt_iff_toNat_lt] at *;omega
    have h3:¬b=a:=fun e=>h e.symm
    simp [h1,h2,h3]
   ·have h2:b < a:=by
     rw [UInt8.lt_iff_toNat_lt] at *
     have : a.toNat≠b.toNat:=fun e=>h (UInt8.toNat_inj.1 e)
     omega
    simp [h,h1,h2]
def tgT (r:Rw):List UInt8:=[r.b0,r.b1,r.b2,r.b3]
def gdB (c:UInt8):Bool:=decide (32≤c.toNat) && decide (c.toNat≤126)
def goodT (r:Rw):Bool:=gdB r.b0 && (gdB r.b1 && (gdB r.b2 && gdB r.b3))
def riseB:List UInt8→List Rw→Bool
 | _,[]=>true
 | a,r :: rs=>goodT r && (Op.bytesLess a (tgT r) && riseB (tgT r) rs)
def smdT (r:Rw) (d:List UInt8):List UInt8:=if isHd r.b0 r.b1 r.b2 r.b3 && decide (12≤d.length) then d.take 8++([0,0,0,0]++d.drop 12) else d
def dtT (l:List UInt8) (r:Rw):List UInt8:=(l.drop r.pl.toNat).take r.ln.toNat
def smB (l:List UInt8) (r:Rw):Bool:=r.sum == ((sumV (smdT r (dtT l r)):Nat):Int)
def plB (N n:Nat) (r:Rw):Bool:=decide (r.pl % 4=0) && (decide ((12:Int)+16 * n≤r.pl) && decide (r.pl+r.ln≤N))
def fauG (l:List UInt8) (N n:Nat):List Rw→List Rw→Int→Int
 | _,[],e=>e
 | ds,r :: rs,e=>if plB N n r then (if ds.any (fun q=>meetB r q) then 80 else fauG l N n (ds++[r]) rs (if smB l r then e else 81)) else 80
def okG (N n:Nat):List Rw→List Rw→Bool
 | _,[]=>true
 | ds,r :: rs=>plB N n r && (!(ds.any fun q=>meetB r q) && okG N n (ds++[r]) rs)
theorem fauG_eq (l:List UInt8) (N n:Nat):∀(rs ds:List Rw) (e:Int),fauG l N n ds rs e=if okG N n ds rs then (if rs.all (smB l) then e else 81) else 80
 | [],ds,e=>rfl
 | r :: rs,ds,e=>by
  rw [fauG,okG]
  cases plB N n r with
  | false=>rfl
  | true=>
   cases hm:ds.any (fun q=>meetB r q) with
   | true=>rfl
   | false=>
    rw [fauG_eq l N n rs,List.all_cons]
    obtain ⟨C,hC⟩:∃C,rs.all (smB l)=C:=⟨_,rfl⟩
    obtain ⟨D,hD⟩:∃D,okG N n (ds++[r]) rs=D:=⟨_,rfl⟩
    obtain ⟨A,hA⟩:∃A,smB l r=A:=⟨_,rfl⟩
    rw [hC,hD,hA]
    cases A <;> cases C <;> cases D <;> rfl
def nTab (l:List UInt8):Nat:=numV ((l.drop 4).take 2)
def rwAt (l:List UInt8) (i:Nat):Rw:=rowV (l.drop (12+16 * i))
def rowsV (l:List UInt8) (n:Nat):List Rw:=(List.range n).map (rwAt l)
theorem rowsV_len (l:List UInt8) (n:Nat):(rowsV l n).length=n:=by unfold rowsV;simp
theorem rowsV_at (l:List UInt8) (n i:Nat) (h:i < n):(rowsV l n)[i]?=some (rwAt l i):=by unfold rowsV;simp [h]
def hdB (l:List UInt8):Bool:=decide (12≤l.length) && (decide (1≤nTab l) && (decide (nTab l≤32) && ((l.take 12 == openT (nTab l)) && decide (12+16 * nTab l≤l.length))))
def errV (l:List UInt8):Int:=
 if 1048576 < l.length then 2
 else if hdB l && riseB [0,0,0,0] (rowsV l (nTab l)) then fauG l l.length (nTab l) [] (rowsV l (nTab l)) 0 else 80
def tbOf (s:ByteArray) (r:Rw):ByteArray × ByteArray:=(⟨(tgT r).toArray⟩,s.extract r.pl.toNat (r.pl.toNat+r.ln.toNat))
def tabV (s:ByteArray):List (ByteArray × ByteArray):=if errV s.data.toList=0 then (rowsV s.data.toList (nTab s.data.toList)).map (tbOf s) else []
theorem rwAt_ok (l:List UInt8) (i:Nat):RwOk (rwAt l i):=rowV_ok _
theorem drop_at {α:Type} (rs:List α) (k:Nat) {r:α} (h:rs[k]?=some r):rs.drop k=r :: rs.drop (k+1):=by
 obtain ⟨hk,rfl⟩:=List.getElem?_eq_some_iff.1 h
 exact List.drop_eq_getElem_cons hk
theorem take_at {α:Type} (rs:List α) (k:Nat) {r:α} (h:rs[k]?=some r):rs.take (k+1)=rs.take k++[r]:=by
 obtain ⟨hk,rfl⟩:=List.getElem?_eq_some_iff.1 h
 exact List.take_succ_eq_append_getElem hk
structure RAt (w:World) (b o:Nat) (r:Rw):Prop where
 g0:w.cell? ⟨b,o,none⟩=some (.int .u8 (r.b0.toNat:Int))
 g1:w.cell? ⟨b,o+1,none⟩=some (.int .u8 (r.b1.toNat:Int))
 g2:w.cell? ⟨b,o+2,none⟩=some (.int .u8 (r.b2.toNat:Int))
 g3:w.cell? ⟨b,o+3,none⟩=some (.int .u8 (r.b3.toNat:Int))
 g4:w.cell? ⟨b,o+4,none⟩=some (.int .i64 r.sum)
 g5:w.cell? ⟨b,o+5,none⟩=some (.int .i64 r.pl)
 g6:w.cell? ⟨b,o+6,none⟩=some (.int .i64 r.ln)
def RLst (w:World) (b:Nat) (rs:List Rw):Prop:=b < w.heap.size∧∀i r,rs[i]?=some r→RAt w b (i * 7) r
theorem RLst.below {w w':World} {b:Nat} {rs:List Rw} (h:RLst w b rs) (hb:Below w.heap.size w w'):RLst w' b rs:=by
 have e:∀o,w'.cell? ⟨b,o,none⟩=w.cell? ⟨b,o,none⟩:=fun o=>hb.cell (p:=⟨b,o,none⟩) h.1
 refine ⟨Nat.lt_of_lt_of_le h.1 hb.size,fun i r hi=>?_⟩
 obtain ⟨g0,g1,g2,g3,g4,g5,g6⟩:=h.2 i r hi
 exact ⟨by rw [e];exact g0,by rw [e];exact g1,by rw [e];exact g2,by rw [e];exact g3,by rw [e];exact g4,by rw [e];exact g5,by rw [e];exact g6⟩
theorem RLst.kept {w w':World} {b B:Nat} {rs:List Rw} (h:RLst w b rs) (hb:Below B w w') (hB:b < B):RLst w' b rs:=by
 have e:∀o,w'.cell? ⟨b,o,none⟩=w.cell? ⟨b,o,none⟩:=fun o=>hb.cell (p:=⟨b,o,none⟩) hB
 refine ⟨Nat.lt_of_lt_of_le h.1 hb.size,fun i r hi=>?_⟩
 obtain ⟨g0,g1,g2,g3,g4,g5,g6⟩:=h.2 i r hi
 exact ⟨by rw [e];exact g0,by rw [e];exact g1,by rw [e];exact g2,by rw [e];exact g3,by rw [e];exact g4,by rw [e];exact g5,by rw [e];exact g6⟩
theorem info_row:(Tryz.prog.info? 150).map (fun i=>(i.zero,i.size,i.bytes))=some (some (.agg #[.int .u8 0,.int .u8 0,.int .u8 0,.int .u8 0,.int .i64 0,.int .i64 0,.int .i64 0]),7,32):=by kernel_rfl
end Go.Proofs.YtpaadbnlhapdbaaGreatDoor.S8
namespace Go.Proofs.YtpaadbnlhapdbaaGreatDoor.S8
open Go.RowKit Go.Deep
set_option linter.unusedVariables false
set_option linter.unusedSimpArgs false
theorem step_append_run {P:Program} (w:World) {ops:Array Oper} {o:Oper} {a:Act} {K:Act→World→Prop} {Q:Exit→Act→World→Prop} {E:Prop} (hgd:o.guard=none) (s x:Operand) (t tn:TypeId)
  (ho:o.op=.call { callee:=.builtin .append,args:=#[s,x],argTypes:=#[t,tn] }) (vs vx:Value) (hs:a.eval s=vs) (hx:a.eval x=vx)
  (v':Value) (w':World) (hr:(Builtin.append_ #[t,tn] o.type #[vs,vx]).run P w=.ok v' w') (h:K (a.put o.dst v') w') :
  if Region.wanted o (yielded ops a.tmps)=true then Oper.wp P o a w K Q else E:=by
 rw [if_pos (by simp [Region.wanted,hgd])]
 exact Lib.wp_append_run w s x t tn ho vs vx hs hx v' w' hr h
theorem info_tab:(Tryz.prog.info? 79).map (fun i=>(i.zero,i.size,i.bytes))=some (some (.agg #[.string ByteArray.empty,.string ByteArray.empty]),2,32):=by kernel_rfl
def tcs (l:List (ByteArray × ByteArray)):List Value:=l.flatMap fun x=>[.string x.1,.string x.2]
theorem tcs_len:∀l,(tcs l).length=l.length * 2
 | []=>rfl
 | x :: l=>by
  have:=tcs_len l
  unfold tcs at *
  rw [List.flatMap_cons,List.length_append,this,List.length_cons]
  simp
  omega
theorem tcs_one (l:List (ByteArray × ByteArray)):∀u∈tcs l,u.oneCell'=true:=fun u hu=>by
 unfold tcs at hu
 obtain ⟨x,_,h⟩:=List.mem_flatMap.1 hu
 simp at h
 rcases h with rfl | rfl <;> rfl
def TbRow (w:World) (B:Nat) (v:Value) (l:List (ByteArray × ByteArray)):Prop:=w.ownsRow B 79 2 v l.length (tcs l)
theorem TbRow.nil (w:World) (B:Nat):TbRow w B (.slice none 0 0) []:=World.ownsRow_nil _ _ _ _
theorem TbRow.mono {w:World} {B B':Nat} {v:Value} {l:List (ByteArray × ByteArray)} (h:TbRow w B v l) (hB:B'≤B):TbRow w B' v l:=by
 obtain ⟨h1,h2 | ⟨g,cap,cur,hv,hg,hr⟩⟩:=h
 ·exact ⟨h1,Or.inl h2⟩
 ·exact ⟨h1,Or.inr ⟨g,cap,cur,hv,Nat.le_trans hB hg,hr⟩⟩
theorem TbRow.cell {w:World} {B g cap:Nat} {l:List (ByteArray × ByteArray)} (h:TbRow w B (.slice (some ⟨g,0,none⟩) l.length cap) l) (j:Nat) (hj:j < l.length * 2):w.cell? ⟨g,j,none⟩=(tcs l)[j]?:=by
 have:=World.ownsRow.cellAt h j (by omega)
 exact this
theorem clone_any (s:ByteArray) (w:World) (hs:s.size≤281474976710656):Calls Tryz.prog 97 #[.string s] w fun e w'=>e=.returned (.string s)∧Below w.heap.size w w':=by
 have C:=hide (show Calls Tryz.prog 130 #[.string s] w fun e w'=>e=.returned (.string s)∧Below w.heap.size w w' from Any.stringslite_Clone laysM316 s w hs)
 go_enter Tryz.func97,Tryz.ntmps97
 go_wp2_with (go_at_call 130;refine C.out.mono ?_;rintro e w1 ⟨rfl,h1⟩)
 go_ret
 exact ⟨rfl,h1⟩
end Go.Proofs.YtpaadbnlhapdbaaGreatDoor.S8
namespace Go.Proofs.YtpaadbnlhapdbaaGreatDoor.S8
open Go.RowKit Go.Deep
set_option linter.unusedVariables false
theorem app_src {W:World} {B:Nat} {v:Value} {ys:List UInt8} (news:List UInt8) (b c:Nat) (h:BRow W B v ys) (hB:B≤W.heap.size) (hm:0 < news.length) (hl:ys.length+news.length≤140737488355328)
  (hc:∀j u,(news.map bcell)[j]?=some u→W.cell? ⟨b,j,none⟩=some u) (hcap:news.length≤c) :
  ∃v' w2,(Builtin.append_ #[97,97] 97 #[v,.slice (some ⟨b,0,none⟩) news.length c]).run Tryz.prog W=.ok v' w2∧BRow w2 B v' (ys++news)∧KB B W w2:=by
 obtain ⟨i0,hi,hz0,hz1,hz2⟩:=info_parts5 info_u8
 obtain ⟨g,cap,w2,hr,ho,hg,_,_⟩:=run_append_lies (P:=Tryz.prog) W 97 97 B 5 i0 _ 1 1 Tryz.underlying97 hi hz0 hz1 hz2 rfl (by decide) v ys.length (ys.map bcell) h ⟨b,0,none⟩ news.length c (news.map bcell) (by simp)
  (fun j u hu=>by rw [Go.WideShapes.add_plain,Nat.zero_add];exact hc j u hu) (bcells_one _) hm (by unfold maxLen;omega) (by omega) hB W.heap.size rfl
 refine ⟨_,w2,hr,?_,(Below.refl B W).grown hg hB fun k hk'=>(World.ownsRow.lt h k hk').1,NB.grown h hg⟩
 unfold BRow
 rw [List.map_append,List.length_append]
 exact ho
theorem ix3_0 (x0 x1 x2:Int) (w:World):(Instr.index 196 (.agg #[.int .i64 x0,.int .i64 x1,.int .i64 x2]) (.int .i64 0)).run Tryz.prog w=.ok (.int .i64 x0) w:=by kernel_rfl
theorem ix3_1 (x0 x1 x2:Int) (w:World):(Instr.index 196 (.agg #[.int .i64 x0,.int .i64 x1,.int .i64 x2]) (.int .i64 1)).run Tryz.prog w=.ok (.int .i64 x1) w:=by kernel_rfl
theorem ix3_2 (x0 x1 x2:Int) (w:World):(Instr.index 196 (.agg #[.int .i64 x0,.int .i64 x1,.int .i64 x2]) (.int .i64 2)).run Tryz.prog w=.ok (.int .i64 x2) w:=by kernel_rfl
theorem tr_ne:(150:TypeId)≠5:=by decide
end Go.Proofs.YtpaadbnlhapdbaaGreatDoor.S8
