/-
  Joined: M9Fnd, M9Rdr, M9Put, M9Gd, M9Drf, M9Hd, M9Hh, M9Hx.
-/
import Derived.Deep.RegionWith
import Derived.Lib.MinMax
import Derived.Test.YtpaadbnlhapdbaaGreatDoorL10
import Derived.Test.YtpaadbnlhapdbaaGreatDoorL11
import Derived.Test.YtpaadbnlhapdbaaGreatDoorL21
namespace Go.Proofs.YtpaadbnlhapdbaaGreatDoor
open Go.RowKit Go.Deep
set_option linter.unusedVariables false
abbrev Tab:=ByteArray × ByteArray
def TLst (w:World) (a:Option Addr) (l:List Tab):Prop:=
 l=[]∨∃b off,a=some ⟨b,off,none⟩∧b < w.heap.size∧∀i x,l[i]?=some x→w.cell? ⟨b,off+i * 2,none⟩=some (.string x.1)∧w.cell? ⟨b,off+i * 2+1,none⟩=some (.string x.2)
theorem TLst.below {w w':World} {a:Option Addr} {l:List Tab} (h:TLst w a l) (hb:Below w.heap.size w w'):TLst w' a l:=by
 rcases h with h | ⟨b,off,h1,h2,h3⟩
 ·exact Or.inl h
 ·exact Or.inr ⟨b,off,h1,Nat.lt_of_lt_of_le h2 hb.size,fun i x hi=>by rw [hb.cell (p:=⟨b,off+i * 2,none⟩) h2,hb.cell (p:=⟨b,off+i * 2+1,none⟩) h2];exact h3 i x hi⟩
def finV (l:List Tab) (t:ByteArray):Option ByteArray:=(l.find? fun x=>eqS x.1 t).map (·.2)
theorem finV_none {l:List Tab} {t:ByteArray} (h:∀(i:Nat) (x:Tab),l[i]?=some x→eqS x.1 t=false):finV l t=none:=by
 unfold finV
 rw [List.find?_eq_none.2]
 ·rfl
 ·intro x hx
  obtain ⟨i,hi,rfl⟩:=List.getElem_of_mem hx
  have:=h i l[i] (List.getElem?_eq_getElem hi);rw [this];simp
theorem finV_at:∀(l:List Tab) {t:ByteArray} (k:Nat) {x:Tab},(∀(i:Nat) (y:Tab),i < k→l[i]?=some y→eqS y.1 t=false)→l[k]?=some x→eqS x.1 t=true→finV l t=some x.2
 | [],t,k,x,_,h,_=>by simp at h
 | y :: l,t,0,x,_,h,e=>by
  simp at h;subst h
  unfold finV
  rw [List.find?_cons_of_pos (by exact e)];rfl
 | y :: l,t,k+1,x,hp,h,e=>by
  have h0:=hp 0 y (by omega) rfl
  have ih:=finV_at l (t:=t) k (x:=x) (fun i z hi hz=>hp (i+1) z (by omega) (by simpa using hz)) (by simpa using h) e
  unfold finV at *
  rw [List.find?_cons_of_neg (by rw [h0];simp)]
  exact ih
def fnR:Option ByteArray→Value
 | none=>.tuple #[.string ⟨#[]⟩,.bool false]
 | some d=>.tuple #[.string d,.bool true]
set_option maxHeartbeats 1000000 in
theorem find_any (a:Option Addr) (l:List Tab) (n c:Nat) (t:ByteArray) (w:World) (hn:l.length=n) (hm:n≤1073741824) (hd:∀x∈l,x.2.size≤281474976710656) (hL:TLst w a l) :
  Calls Tryz.prog 117 #[.slice a n c,.string t] w fun e w'=>e=.returned (fnR (finV l t))∧Below w.heap.size w w':=by
 have hm':(n:Int)≤1073741824:=by omega
 have HL:=hide hL
 have HN:=hide hn
 have HD:=hide hd
 clear hL hn hm hd
 go_enter Tryz.func117,Tryz.ntmps117
 go_wp2_with fail
 go_loopw [10] (fun vi wr=>∃(k:Nat),vi=.int .i64 k∧Hid (k≤n∧(∀(j:Nat) (y:Tab),j < k→l[j]?=some y→eqS y.1 t=false)∧Below w.heap.size w wr)) (fun vi _=>n - (intOf vi).toNat)
 case atStart=>exact ⟨0,rfl,hide ⟨by omega,fun j _ hj=>by omega,Below.refl _ _⟩⟩
 case round=>
  obtain ⟨k,rfl,HV⟩:=hrel
  obtain ⟨hk,hv,hb⟩:=HV.out
  have hk0:(0:Int)≤(k:Int):=by omega
  have HVV:=hide hv
  have HB:=hide hb
  clear HV hv
  by_cases hlt:k < n
  case neg=>
   have hlt':¬(k:Int) < (n:Int):=by omega
   have E:Hid (finV l t=none):=hide (finV_none fun i x hi=>by
    have h1:=(List.getElem?_eq_some_iff.1 hi).1
    have h2:=HN.out
    exact HVV.out i x (by omega) hi)
   clear HVV hb
   go_wp2_with fail
   go_ret2
   exact ⟨by rw [E.out];rfl,HB.out⟩
  have hlt':(k:Int) < (n:Int):=by omega
  obtain ⟨x,hx⟩:∃x,l[k]?=some x:=⟨_,List.getElem?_eq_getElem (by have:=HN.out;omega)⟩
  rcases HL.out.below hb with hz | ⟨b,o,rfl,hbl,hcell⟩
  ·rw [hz] at hx;simp at hx
  obtain ⟨c0,c1⟩:=hcell k x hx
  have hdx:x.2.size≤281474976710656:=HD.out x (List.mem_of_getElem? hx)
  have CC:=hide (fun w=>clone_any x.2 w hdx)
  have HX:=hide hx
  obtain ⟨x1,x2⟩:=x
  have hne:b≠wr.heap.size:=by omega
  have hal:=(Below.refl wr.heap.size wr).alloc (Nat.le_refl _) (.cells #[.string x1,.string x2] 79)
  have HAL:=hide (below_t5 hb hal)
  clear hcell hb hx hal hdx
  by_cases q:eqS x1 t=true
  ·have q':(x1.toList == t.toList)=true:=q
   have E:=hide (finV_at l k HVV.out HX.out q)
   clear HVV q
   go_wp2_with (go_at_call 97;refine (CC.out _).mono ?_;rintro e w1 ⟨rfl,h1⟩)
   go_ret2
   exact ⟨by rw [E.out];rfl,below_t5 HAL.out h1⟩
  ·have q0:eqS x1 t=false:=by simpa using q
   have q':(x1.toList == t.toList)=false:=q0
   have E:Hid (∀(j:Nat) (y:Tab),j < k+1→l[j]?=some y→eqS y.1 t=false):=hide fun j y hj hy=>by
    rcases Nat.lt_or_ge j k with h' | h'
    ·exact HVV.out j y h' hy
    ·obtain rfl:j=k:=by omega
     rw [HX.out] at hy
     injection hy with hy
     rw [←hy];exact q0
   clear HVV q q0
   go_wp2_with fail
   go_roundw
   case rel=>exact ⟨k+1,by go_num,hide ⟨by omega,E.out,HAL.out⟩⟩
   case measure=>simp [intOf];omega
set_option maxHeartbeats 1000000 in
theorem rfind_any (a:Option Addr) (l:List Tab) (n c:Nat) (t:ByteArray) (w:World) (hn:l.length=n) (hm:n≤1073741824) (hL:TLst w a l) :
  Calls Tryz.prog 17 #[.slice a n c,.string t] w fun e w'=>e=.returned (fnR (finV l t))∧w'=w:=by
 have hm':(n:Int)≤1073741824:=by omega
 have HL:=hide hL
 have HN:=hide hn
 clear hL hn hm
 go_enter Tryz.func17,Tryz.ntmps17
 go_wp2_with fail
 go_loop [6] (fun vi=>∃(k:Nat),vi=.int .i64 k∧Hid (k≤n∧(∀(j:Nat) (y:Tab),j < k→l[j]?=some y→eqS y.1 t=false))) (fun vi=>n - (intOf vi).toNat)
 case atStart=>exact ⟨0,rfl,hide ⟨by omega,fun j _ hj=>by omega⟩⟩
 case round=>
  obtain ⟨k,rfl,HV⟩:=hrel
  obtain ⟨hk,hv⟩:=HV.out
  have hk0:(0:Int)≤(k:Int):=by omega
  have HVV:=hide hv
  clear HV hv
  by_cases hlt:k < n
  case neg=>
   have hlt':¬(k:Int) < (n:Int):=by omega
   have E:Hid (finV l t=none):=hide (finV_none fun i x hi=>by
    have h1:=(List.getElem?_eq_some_iff.1 hi).1
    have h2:=HN.out
    exact HVV.out i x (by omega) hi)
   clear HVV
   go_wp2_with fail
   go_ret2
   exact ⟨by rw [E.out];rfl,rfl⟩
  have hlt':(k:Int) < (n:Int):=by omega
  obtain ⟨x,hx⟩:∃x,l[k]?=some x:=⟨_,List.getElem?_eq_getElem (by have:=HN.out;omega)⟩
  rcases HL.out with hz | ⟨b,o,rfl,hbl,hcell⟩
  ·rw [hz] at hx;simp at hx
  obtain ⟨c0,c1⟩:=hcell k x hx
  have HX:=hide hx
  obtain ⟨x1,x2⟩:=x
  clear hcell hx
  by_cases q:eqS x1 t=true
  ·have q':(x1.toList == t.toList)=true:=q
   have E:=hide (finV_at l k HVV.out HX.out q)
   clear HVV q
   go_wp2_with fail
   go_ret2
   exact ⟨by rw [E.out];rfl,rfl⟩
  ·have q0:eqS x1 t=false:=by simpa using q
   have q':(x1.toList == t.toList)=false:=q0
   have E:Hid (∀(j:Nat) (y:Tab),j < k+1→l[j]?=some y→eqS y.1 t=false):=hide fun j y hj hy=>by
    rcases Nat.lt_or_ge j k with h' | h'
    ·exact HVV.out j y h' hy
    ·obtain rfl:j=k:=by omega
     rw [HX.out] at hy
     injection hy with hy
     rw [←hy];exact q0
   clear HVV q q0
   go_wp2_with fail
   go_round
   case rel=>exact ⟨k+1,by go_num,hide ⟨by omega,E.out⟩⟩
   case measure=>simp [intOf];omega
structure But (b:Nat) (w w':World):Prop where
 os:w'.os=w.os
 tape:w'.tape=w.tape
 output:w'.output=w.output
 size:w.heap.size≤w'.heap.size
 block:∀k,k < w.heap.size→k≠b→w'.heap[k]?=w.heap[k]?
theorem But.refl (b:Nat) (w:World):But b w w:=⟨rfl,rfl,rfl,Nat.le_refl _,fun _ _ _=>rfl⟩
theorem But.trans {b:Nat} {u v w:World} (h:But b u v) (k:But b v w):But b u w:=
 ⟨k.os.trans h.os,k.tape.trans h.tape,k.output.trans h.output,Nat.le_trans h.size k.size,fun i hi hn=>by rw [k.block i (Nat.lt_of_lt_of_le hi h.size) hn,h.block i hi hn]⟩
theorem But.of_below {b:Nat} {w w':World} (h:Below w.heap.size w w'):But b w w':=⟨h.os,h.tape,h.output,h.size,fun k hk _=>h.block k hk⟩
theorem But.setCell (b:Nat) (w:World) (o:Nat) (v:Value):But b w (w.setCell ⟨b,o,none⟩ v):=
 ⟨rfl,rfl,rfl,by simp [World.setCell],fun k _ hn=>Below.heap_setCell _ _ _ _ hn⟩
theorem But.below {b:Nat} {w w' W:World} (h:But b w w') (h0:Below W.heap.size W w) (hb:W.heap.size≤b):Below W.heap.size W w':=
 h0.trans ⟨h.os,h.tape,h.output,h.size,fun k hk=>h.block k (Nat.lt_of_lt_of_le hk h0.size) (by omega)⟩
theorem But.drewL {b:Nat} {w w':World} {n:Nat} (h:But b (w.drewN n) w'):But b w w':=⟨h.os,h.tape,h.output,h.size,h.block⟩
theorem But.blk {b k:Nat} {w w':World} {cs:Array Value} {t:TypeId} (h:But b w w') (hk:Blk w k cs t) (hne:k≠b):Blk w' k cs t:=by
 have:=hk.lt
 unfold Blk at *;rw [h.block k this hne];exact hk
theorem lst_one (W:World) (x:Int) (H:Nat) (hH:W.heap.size=H):Lst (W.alloc (.cells #[.int .i64 x] 3)) (some ⟨H,0,none⟩) [x]:=by
 subst hH
 refine Or.inr ⟨W.heap.size,0,rfl,by simp,fun i hi=>?_⟩
 obtain rfl:i=0:=by simpa using hi
 rw [World.cell?_alloc_at _ _ _ _ rfl];rfl
def sayB (s:ByteArray) (k:Nat) (t:ByteArray):Bool:=eqS (s.extract k (k+t.size)) t
theorem says_c (s t:ByteArray) (k:Nat) (z:Int) (w:World) (hz:z=(k:Int)) (h:k+t.size≤s.size) (hm:s.size≤1073741824) :
  Calls Tryz.prog 181 #[.string s,.int .i64 z,.string t] w fun e w'=>e=.returned (.bool (sayB s k t))∧w'=w:=says_any s t k z w hz h hm
abbrev verS:ByteArray:=⟨#[0,1,0,0]⟩
abbrev halfS:ByteArray:=⟨#[0,0,80,0]⟩
abbrev magicS:ByteArray:=⟨#[95,15,60,245]⟩
def rcs (ct pr up sc de ga b0 b1 b2 b3:Int) (lg:Bool) (va vb:Value):Array Value:=
 #[.int .i64 ct,.int .i64 pr,.int .i64 up,.int .i64 sc,.int .i64 de,.int .i64 ga,.int .i64 b0,.int .i64 b1,.int .i64 b2,.int .i64 b3,.bool lg,va,vb]
def RB (w:World) (b:Nat) (ct pr up sc de ga b0 b1 b2 b3:Int) (lg:Bool) (va vb:Value):Prop:=
 Blk w b (rcs ct pr up sc de ga b0 b1 b2 b3 lg va vb) 160
def mxB (s:ByteArray):Bool:=(sayB s 0 halfS || sayB s 0 verS) && wiB 1 4096 [((n2 s.data.toList 4:Nat):Int)]
set_option maxHeartbeats 1000000 in
theorem mx_any (s:ByteArray) (b:Nat) (w:World) (ct pr up sc de ga b0 b1 b2 b3:Int) (lg:Bool) (va vb:Value) (h:RB w b ct pr up sc de ga b0 b1 b2 b3 lg va vb) (hs:6≤s.size) (hm:s.size≤1073741824) :
  Calls Tryz.prog 147 #[.pointer (some ⟨b,0,none⟩),.string s] w fun e w'=>e=.returned (.bool (mxB s))∧RB w' b ((n2 s.data.toList 4:Nat):Int) pr up sc de ga b0 b1 b2 b3 lg va vb∧But b w w':=by
 have CN:=hide (number_any s 4 4 w rfl (by omega) hm)
 have CS:=hide (fun (t:ByteArray) (w:World) (ht:t.size=4)=>says_c s t 0 0 w rfl (by omega) hm)
 have g0:=h.cell 0
 have f0:=h.frozen 0
 have hlt:=h.lt
 have H:=hide h
 have E:=hide (show mxB s=((sayB s 0 halfS || sayB s 0 verS) && wiB 1 4096 [((n2 s.data.toList 4:Nat):Int)]) from rfl)
 simp [rcs] at g0
 generalize ((n2 s.data.toList 4:Nat):Int)=N at CN E ⊢
 clear h hs hm
 go_enter Tryz.func147,Tryz.ntmps147
 go_wp2_with fail
 refine CN.out.mono ?_
 rintro e w1 ⟨rfl,n,rfl⟩
 go_wp2_with fail
 have hB:RB ((w.drewN n).setCell ⟨b,0,none⟩ (.int .i64 N)) b N pr up sc de ga b0 b1 b2 b3 lg va vb:=by
  have:=Blk.set (H.out.drewN n) 0 (.int .i64 N)
  simpa [rcs,RB] using this
 have hW:But b w ((w.drewN n).setCell ⟨b,0,none⟩ (.int .i64 N)):=(But.setCell b (w.drewN n) 0 _).drewL
 clear g0 f0 H
 generalize (w.drewN n).setCell ⟨b,0,none⟩ (.int .i64 N)=W at hB hW ⊢
 have g0:=hB.cell 0
 have hlt:=hB.lt
 simp [rcs] at g0
 have HBB:=hide hB
 have HW:=hide hW
 have CW:=hide (fun (H:Nat) (hH:W.heap.size=H)=>within_any 1 4096 (some ⟨H,0,none⟩) [N] 1 1 (W.alloc (.cells #[.int .i64 N] 3)) rfl (by omega) (lst_one W N H hH))
 have hal:Below W.heap.size W (W.alloc (.cells #[.int .i64 N] 3)):=(Below.refl _ _).alloc (Nat.le_refl _) _
 have HAL:=hide hal
 clear hB hW hal
 cases q1:sayB s 0 halfS
 ·cases q2:sayB s 0 verS
  ·go_wp2_with (go_at_call 181;refine (CS.out _ _ (by decide)).mono ?_;rintro e w1 ⟨rfl,rfl⟩)
   go_ret
   exact ⟨by rw [E.out,q1,q2];rfl,HBB.out,HW.out⟩
  ·go_wp2_with (first | (go_at_call 181;refine (CS.out _ _ (by decide)).mono ?_;rintro e w1 ⟨rfl,rfl⟩) | (go_at_call 87;refine (CW.out _ rfl).mono ?_;rintro e w1 ⟨rfl,rfl⟩))
   go_ret
   exact ⟨by rw [E.out,q1,q2];rfl,HBB.out.below HAL.out,HW.out.trans (But.of_below HAL.out)⟩
 ·go_wp2_with (first | (go_at_call 181;refine (CS.out _ _ (by decide)).mono ?_;rintro e w1 ⟨rfl,rfl⟩) | (go_at_call 87;refine (CW.out _ rfl).mono ?_;rintro e w1 ⟨rfl,rfl⟩))
  go_ret
  exact ⟨by rw [E.out,q1];rfl,HBB.out.below HAL.out,HW.out.trans (But.of_below HAL.out)⟩
def hiB (x:Int):UInt8:=UInt8.ofNat (x / 256 % 256).toNat
def loB (x:Int):UInt8:=UInt8.ofNat (x % 256).toNat
theorem hiB_cell (x:Int):bcell (hiB x)=.int .u8 (x / 256 % 256):=by
 unfold bcell hiB
 have h0:0≤x / 256 % 256:=Int.emod_nonneg _ (by omega)
 have h1:x / 256 % 256 < 256:=Int.emod_lt_of_pos _ (by omega)
 rw [UInt8.toNat_ofNat']
 congr 1
 omega
theorem loB_cell (x:Int):bcell (loB x)=.int .u8 (x % 256):=by
 unfold bcell loB
 have h0:0≤x % 256:=Int.emod_nonneg _ (by omega)
 have h1:x % 256 < 256:=Int.emod_lt_of_pos _ (by omega)
 rw [UInt8.toNat_ofNat']
 congr 1
 omega
def put1 (ys:List UInt8) (k:Nat) (x:Int):List UInt8:=(ys.set k (hiB x)).set (k+1) (loB x)
def putL (ys:List UInt8) (k:Nat):List Int→List UInt8
 | []=>ys
 | x :: r=>putL (put1 ys k x) (k+2) r
theorem putL_snoc:∀(zs:List Int) (ys:List UInt8) (k:Nat) (x:Int),putL ys k (zs++[x])=put1 (putL ys k zs) (k+2 * zs.length) x
 | [],ys,k,x=>rfl
 | z :: zs,ys,k,x=>by
  rw [List.cons_append,putL,putL,putL_snoc zs,List.length_cons,show k+2+2 * zs.length=k+2 * (zs.length+1) by omega]
theorem put1_len (ys:List UInt8) (k:Nat) (x:Int):(put1 ys k x).length=ys.length:=by simp [put1]
theorem putL_len:∀(zs:List Int) (ys:List UInt8) (k:Nat),(putL ys k zs).length=ys.length
 | [],ys,k=>rfl
 | z :: zs,ys,k=>by rw [putL,putL_len zs,put1_len]
def bcs (ys:List UInt8):Array Value:=(ys.map bcell).toArray
theorem bcs_set (ys:List UInt8) (k:Nat) (c:UInt8):(bcs ys).setIfInBounds k (bcell c)=bcs (ys.set k c):=by
 unfold bcs
 rw [List.setIfInBounds_toArray,List.map_set]
theorem bcs_at (ys:List UInt8) (k:Nat) (h:k < ys.length):(bcs ys)[k]?=some (bcell ys[k]):=by
 unfold bcs;simp [h]
theorem bcell_form (c:UInt8):bcell c=.int .u8 (c.toNat:Int):=rfl
theorem blk_put1 {w:World} {g:Nat} {ys:List UInt8} (h:Blk w g (bcs ys) 5) (k:Nat) (x:Int) :
  Blk ((w.setCell ⟨g,k,none⟩ (.int .u8 (x / 256 % 256))).setCell ⟨g,k+1,none⟩ (.int .u8 (x % 256))) g (bcs (put1 ys k x)) 5:=by
 rw [←hiB_cell,←loB_cell]
 have:=Blk.set (Blk.set h k (bcell (hiB x))) (k+1) (bcell (loB x))
 rw [bcs_set,bcs_set] at this
 exact this
set_option maxHeartbeats 4000000 in
theorem put_any (g:Nat) (ys:List UInt8) (z:Int) (k:Nat) (a:Option Addr) (zs:List Int) (L n c:Nat) (w:World) (hz:z=(k:Int)) (hL:ys.length=L) (hn:zs.length=n) (hk:k+2 * n≤L) (hm:L≤1000000)
  (hx:∀x∈zs,-4611686018427387904≤x∧x≤4611686018427387904) (hB:Blk w g (bcs ys) 5) (hA:zs=[]∨∃b off,a=some ⟨b,off,none⟩∧b≠g∧b < w.heap.size∧∀i,i < zs.length→w.cell? ⟨b,off+i,none⟩=some (.int .i64 (zs.getD i 0))) :
  Calls Tryz.prog 96 #[.slice (some ⟨g,0,none⟩) L L,.int .i64 z,.slice a n c] w fun e w'=>e=.returned (.tuple #[])∧Blk w' g (bcs (putL ys k zs)) 5∧But g w w':=by
 subst hz
 have hm':(L:Int)≤1000000:=by omega
 have hn':(n:Int)≤1000000:=by omega
 have hk':(k:Int)+2 * (n:Int)≤(L:Int):=by omega
 have hk0:(0:Int)≤(k:Int):=by omega
 have HF:=hide (And.intro hL (And.intro hn (And.intro hk hm)))
 have HX:=hide hx
 have HB:=hide hB
 have HA:=hide hA
 clear hL hn hk hm hx hB hA
 go_enter Tryz.func96,Tryz.ntmps96
 go_wp2_with fail
 go_loopw [10] (fun vi wr=>∃(i:Nat),vi=.int .i64 i∧Hid (i≤n∧Blk wr g (bcs (putL ys k (zs.take i))) 5∧But g w wr)) (fun vi _=>n - (intOf vi).toNat)
 case atStart=>exact ⟨0,rfl,hide ⟨by omega,HB.out,But.refl _ _⟩⟩
 case round=>
  obtain ⟨i,rfl,HV⟩:=hrel
  obtain ⟨hi,hb,ho⟩:=HV.out
  have hi0:(0:Int)≤(i:Int):=by omega
  have HBB:=hide hb
  have HO:=hide ho
  clear HV
  by_cases hlt:i < n
  case neg=>
   have hlt':¬(i:Int) < (n:Int):=by omega
   have E:Hid (zs.take i=zs):=hide (List.take_of_length_le (by have:=HF.out;omega))
   clear hb ho hlt
   go_wp2_with fail
   refine bodyPost_end (results_none rfl _ _ _) rfl ⟨rfl,?_,HO.out⟩
   have:=HBB.out
   rw [E.out] at this
   exact this
  have hlt':(i:Int) < (n:Int):=by omega
  obtain ⟨f1,f2,f3,f4⟩:=HF.out
  rcases HA.out with hz | ⟨b,o,rfl,hbg,hbl,hcell⟩
  ·rw [hz] at f2;simp at f2;omega
  have hc0:=hcell i (by omega)
  have hc:wr.cell? ⟨b,o+i,none⟩=some (.int .i64 (zs.getD i 0)):=by
   rw [World.cell?_of_block (w:=w) (ho.block _ hbl hbg)];exact hc0
  have hbl':b < wr.heap.size:=Nat.lt_of_lt_of_le hbl ho.size
  have hxx:=HX.out (zs.getD i 0) (by
   rw [List.getD_eq_getElem?_getD,List.getElem?_eq_getElem (by omega)];exact List.getElem_mem _)
  obtain ⟨J,hJ⟩:∃J:Nat,J=k+2 * i:=⟨_,rfl⟩
  have hJ1:(k:Int)+2 * (i:Int)=(J:Int):=by omega
  have hJ2:(J:Int)+1 < (L:Int):=by omega
  have hJ3:(J:Int) < (L:Int):=by omega
  have hJ4:(0:Int)≤(J:Int):=by omega
  have hlen:(putL ys k (zs.take i)).length=L:=by rw [putL_len];exact f1
  have c1:∃v,wr.cell? ⟨g,J,none⟩=some (.int .u8 v):=⟨_,by rw [hb.cell J,bcs_at _ _ (by omega),bcell_form]⟩
  have c2:∃v,wr.cell? ⟨g,J+1,none⟩=some (.int .u8 v):=⟨_,by rw [hb.cell (J+1),bcs_at _ _ (by omega),bcell_form]⟩
  obtain ⟨v1,c1⟩:=c1
  obtain ⟨v2,c2⟩:=c2
  have q1:=hb.frozen J
  have q2:=hb.frozen (J+1)
  have hglt:=hb.lt
  have E:Hid (Blk ((wr.setCell ⟨g,J,none⟩ (.int .u8 (zs.getD i 0 / 256 % 256))).setCell ⟨g,J+1,none⟩ (.int .u8 (zs.getD i 0 % 256))) g (bcs (putL ys k (zs.take (i+1)))) 5):=hide (by
   have:=blk_put1 hb J (zs.getD i 0)
   have e:zs.take (i+1)=zs.take i++[zs.getD i 0]:=by
    rw [List.take_succ_eq_append_getElem (by omega),List.getD_eq_getElem?_getD,List.getElem?_eq_getElem (by omega)];rfl
   rw [e,putL_snoc,List.length_take,Nat.min_eq_left (by omega),←hJ]
   exact this)
  have EO:Hid (But g w ((wr.setCell ⟨g,J,none⟩ (.int .u8 (zs.getD i 0 / 256 % 256))).setCell ⟨g,J+1,none⟩ (.int .u8 (zs.getD i 0 % 256)))):=hide (ho.trans ((But.setCell g _ J _).trans (But.setCell g _ (J+1) _)))
  generalize zs.getD i 0=x at hc hxx E EO
  obtain ⟨hx0,hx1⟩:=hxx
  clear hb ho hcell hc0 hbl hbg f1 f2 f3 f4 hJ hlen HA
  go_wp2_with fail
  go_roundw
  case rel=>exact ⟨i+1,by go_num,hide ⟨by omega,E.out,EO.out⟩⟩
  case measure=>simp [intOf];omega
structure Mt where
 up:Int
 sc:Int
 de:Int
 ga:Int
 b0:Int
 b1:Int
 b2:Int
 b3:Int
 lg:Bool
 ad:List Int
 be:List Int
def mcs (m:Mt) (va vb:Value):Array Value:=
 #[.int .i64 m.up,.int .i64 m.sc,.int .i64 m.de,.int .i64 m.ga,.int .i64 m.b0,.int .i64 m.b1,.int .i64 m.b2,.int .i64 m.b3,.bool m.lg,va,vb]
def goodB (m:Mt):Bool:=
 wiB 16 16384 [m.up] && (wiB (-32768) 32767 [m.sc,m.de,m.ga] && (wiB (-32768) 32767 [m.b0,m.b1,m.b2,m.b3] && (wiB 1 4096 [(m.ad.length:Int)] && (((m.be.length:Int) == (m.ad.length:Int)) && (wiB 0 65535 m.ad && wiB (-32768) 32767 m.be)))))
theorem lst_new (W:World) (zs:List Int) (H:Nat) (hH:W.heap.size=H):Lst (W.alloc (.cells (zs.map (Value.int .i64)).toArray 3)) (some ⟨H,0,none⟩) zs:=by
 subst hH
 refine Or.inr ⟨W.heap.size,0,rfl,by simp,fun i hi=>?_⟩
 rw [World.cell?_alloc_at _ _ _ _ rfl,Nat.zero_add]
 simp [hi,List.getD_eq_getElem?_getD]
theorem lst_box {w:World} {b:Nat} {m:Mt} {va vb:Value} (h:Blk w b (mcs m va vb) 26):Lst w (some ⟨b,4,none⟩) [m.b0,m.b1,m.b2,m.b3]:=by
 refine Or.inr ⟨b,4,rfl,h.lt,fun i hi=>?_⟩
 rw [h.cell (4+i)]
 match i,hi with
 | 0,_=>rfl
 | 1,_=>rfl
 | 2,_=>rfl
 | 3,_=>rfl
set_option maxHeartbeats 4000000 in
theorem good_any (m:Mt) (aa ab:Option Addr) (na nb ca cb:Nat) (w:World) (hna:m.ad.length=na) (hnb:m.be.length=nb) (hma:na≤1000000) (hmb:nb≤1000000) (hA:Lst w aa m.ad) (hB:Lst w ab m.be) :
  Calls Tryz.prog 53 #[.agg (mcs m (.slice aa na ca) (.slice ab nb cb))] w fun e w'=>e=.returned (.bool (goodB m))∧Below w.heap.size w w':=by
 obtain ⟨up,sc,de,ga,b0,b1,b2,b3,lg,ad,be⟩:=m
 have hma':(na:Int)≤1000000:=by omega
 have hmb':(nb:Int)≤1000000:=by omega
 have E:=hide (show goodB ⟨up,sc,de,ga,b0,b1,b2,b3,lg,ad,be⟩=(wiB 16 16384 [up] && (wiB (-32768) 32767 [sc,de,ga] && (wiB (-32768) 32767 [b0,b1,b2,b3] && (wiB 1 4096 [(na:Int)] && (((nb:Int) == (na:Int)) && (wiB 0 65535 ad && wiB (-32768) 32767 be)))))) by unfold goodB;simp only at hna hnb;simp only [hna,hnb])
 have HA:=hide hA
 have HB:=hide hB
 have HN:=hide (And.intro hna (And.intro hnb (And.intro hma hmb)))
 have b1':=(Below.refl w.heap.size w).alloc (Nat.le_refl _) (.cells (mcs ⟨up,sc,de,ga,b0,b1,b2,b3,lg,ad,be⟩ (.slice aa na ca) (.slice ab nb cb)) 26)
 have k1:=Blk.new w (mcs ⟨up,sc,de,ga,b0,b1,b2,b3,lg,ad,be⟩ (.slice aa na ca) (.slice ab nb cb)) 26
 have z1:(w.alloc (.cells (mcs ⟨up,sc,de,ga,b0,b1,b2,b3,lg,ad,be⟩ (.slice aa na ca) (.slice ab nb cb)) 26)).heap.size=w.heap.size+1:=by simp
 have HB1:=hide b1'
 have HK1:=hide k1
 have HZ1:=hide z1
 clear hA hB hna hnb hma hmb b1' k1 z1
 simp only [mcs] at HB1 HK1 HZ1 ⊢
 go_enter Tryz.func53,Tryz.ntmps53
 go_wp2_with fail
 rw [←HZ1.out]
 generalize w.alloc (.cells #[.int .i64 up,.int .i64 sc,.int .i64 de,.int .i64 ga,.int .i64 b0,.int .i64 b1,.int .i64 b2,.int .i64 b3,.bool lg,.slice aa na ca,.slice ab nb cb] 26)=V at HB1 HK1 HZ1 ⊢
 obtain ⟨x,hx⟩:∃x,w.heap.size=x:=⟨_,rfl⟩
 have HK2:Hid (Blk V x (mcs ⟨up,sc,de,ga,b0,b1,b2,b3,lg,ad,be⟩ (.slice aa na ca) (.slice ab nb cb)) 26):=hx ▸ HK1
 rw [hx]
 clear HK1 hx HZ1
 have c0:=HK2.out.cell 0
 have c1:=HK2.out.cell 1
 have c2:=HK2.out.cell 2
 have c3:=HK2.out.cell 3
 have c4:=HK2.out.cell 4
 have c5:=HK2.out.cell 5
 have c6:=HK2.out.cell 6
 have c7:=HK2.out.cell 7
 have c8:=HK2.out.cell 8
 have c9:=HK2.out.cell 9
 have c10:=HK2.out.cell 10
 simp [mcs] at c0 c1 c2 c3 c4 c5 c6 c7 c8 c9 c10
 have xlt:=HK2.out.lt
 have xn1:x≠V.heap.size:=by omega
 have xn2:x≠V.heap.size+1:=by omega
 have xn3:x≠V.heap.size+1+1:=by omega
 have FIN:=hide (show ∀W',Below V.heap.size V W'→Below w.heap.size w W' from fun W' h=>below_t5 HB1.out h)
 refine (within_any 16 16384 _ [up] 1 1 _ rfl (by omega) (lst_one _ up _ (by simp))).mono ?_
 rintro e w1 ⟨rfl,rfl⟩
 cases q1:wiB 16 16384 [up]
 ·go_wp2_with fail
  go_ret
  exact ⟨by rw [E.out,q1];rfl,FIN.out _ (((Below.refl _ _).alloc (by first | exact Nat.le_refl _ | (simp;omega) | simp) _))⟩
 go_wp2_with fail
 refine (within_any (-32768) 32767 _ [sc,de,ga] 3 3 _ rfl (by omega) (lst_new _ [sc,de,ga] _ (by simp))).mono ?_
 rintro e w1 ⟨rfl,rfl⟩
 cases q2:wiB (-32768) 32767 [sc,de,ga]
 ·go_wp2_with fail
  go_ret
  exact ⟨by rw [E.out,q1,q2];rfl,FIN.out _ ((((Below.refl _ _).alloc (by first | exact Nat.le_refl _ | (simp;omega) | simp) _).alloc (by first | exact Nat.le_refl _ | (simp;omega) | simp) _))⟩
 go_wp2_with fail
 refine (within_any (-32768) 32767 _ [b0,b1,b2,b3] 4 _ _ rfl (by omega) (lst_box (HK2.out.below (((Below.refl _ _).alloc (by first | exact Nat.le_refl _ | (simp;omega) | simp) _).alloc (by first | exact Nat.le_refl _ | (simp;omega) | simp) _)))).mono ?_
 rintro e w1 ⟨rfl,rfl⟩
 cases q3:wiB (-32768) 32767 [b0,b1,b2,b3]
 ·go_wp2_with fail
  go_ret
  exact ⟨by rw [E.out,q1,q2,q3];rfl,FIN.out _ ((((Below.refl _ _).alloc (by first | exact Nat.le_refl _ | (simp;omega) | simp) _).alloc (by first | exact Nat.le_refl _ | (simp;omega) | simp) _))⟩
 go_wp2_with fail
 refine (within_any 1 4096 _ [(na:Int)] 1 1 _ rfl (by omega) (lst_one _ (na:Int) _ (by simp))).mono ?_
 rintro e w1 ⟨rfl,rfl⟩
 have hb3:Below V.heap.size V (((V.alloc (.cells #[.int .i64 up] 3)).alloc (.cells #[.int .i64 sc,.int .i64 de,.int .i64 ga] 3)).alloc (.cells #[.int .i64 (na:Int)] 3)):=((((Below.refl _ _).alloc (by first | exact Nat.le_refl _ | (simp;omega) | simp) _).alloc (by first | exact Nat.le_refl _ | (simp;omega) | simp) _).alloc (by first | exact Nat.le_refl _ | (simp;omega) | simp) _)
 have k3:=HK2.out.below hb3
 have HB3:=hide hb3
 clear c0 c1 c2 c3 c4 c5 c6 c7 c8 c9 c10 xlt xn1 xn2 xn3
 generalize ((V.alloc (.cells #[.int .i64 up] 3)).alloc (.cells #[.int .i64 sc,.int .i64 de,.int .i64 ga] 3)).alloc (.cells #[.int .i64 (na:Int)] 3)=V3 at hb3 HB3 k3 ⊢
 have c9:=k3.cell 9
 have c10:=k3.cell 10
 simp [mcs] at c9 c10
 have xlt:=k3.lt
 clear hb3 k3
 cases q4:wiB 1 4096 [(na:Int)]
 ·go_wp2_with fail
  go_ret
  exact ⟨by rw [E.out,q1,q2,q3,q4];rfl,FIN.out _ HB3.out⟩
 cases q5:(nb:Int) == (na:Int)
 ·have q5n:¬nb=na:=by intro h;simp [h] at q5
  have q5b:(nb == na)=false:=by simp [q5n]
  go_wp2_with fail
  go_ret
  exact ⟨by rw [E.out,q1,q2,q3,q4,q5];rfl,FIN.out _ HB3.out⟩
 have q5e:na=nb:=by simp at q5;omega
 subst q5e
 go_wp2_with fail
 refine (within_any 0 65535 aa ad _ ca _ HN.out.1 (by have:=HN.out;omega) (HA.out.below (FIN.out _ HB3.out))).mono ?_
 rintro e w1 ⟨rfl,rfl⟩
 cases q6:wiB 0 65535 ad
 ·go_wp2_with fail
  go_ret
  exact ⟨by rw [E.out,q1,q2,q3,q4,q5,q6];rfl,FIN.out _ HB3.out⟩
 go_wp2_with fail
 refine (within_any (-32768) 32767 ab be _ cb _ HN.out.2.1 (by have:=HN.out;omega) (HB.out.below (FIN.out _ HB3.out))).mono ?_
 rintro e w1 ⟨rfl,rfl⟩
 go_wp2_with fail
 go_ret
 exact ⟨by rw [E.out,q1,q2,q3,q4,q5,q6];rfl,FIN.out _ HB3.out⟩
def maxV:List Int→Int
 | []=>0
 | x :: r=>r.foldl max x
theorem maxV_snoc (x:Int) (r:List Int) (z:Int):maxV ((x :: r)++[z])=max (maxV (x :: r)) z:=by
 show List.foldl max x (r++[z])=max (List.foldl max x r) z
 rw [List.foldl_append]
 rfl
set_option maxHeartbeats 1000000 in
theorem max_any (a:Option Addr) (zs:List Int) (n c:Nat) (w:World) (hn:zs.length=n) (h0:1≤n) (hm:n≤1073741824) (hL:Lst w a zs) :
  Calls Tryz.prog 89 #[.slice a n c] w fun e w'=>e=.returned (.int .i64 (maxV zs))∧w'=w:=by
 have hm':(n:Int)≤1073741824:=by omega
 have h0':¬(n:Int) < 1:=by omega
 have h1':(0:Int) < (n:Int):=by omega
 rcases hL with hz | ⟨b,o,rfl,hb,hcell⟩
 ·rw [hz] at hn;simp at hn;omega
 have HC:=hide hcell
 have HN:=hide hn
 obtain ⟨x,r,rfl⟩:∃x r,zs=x :: r:=by
  cases zs with
  | nil=>simp at hn;omega
  | cons x r=>exact ⟨x,r,rfl⟩
 have hc0:=hcell 0 (by simp)
 simp at hc0
 clear hcell hn h0 hm
 go_enter Tryz.func89,Tryz.ntmps89
 go_wp2_with fail
 go_loop [3,4] (fun vm vi=>∃(k:Nat) (M:Int),vi=.int .i64 k∧vm=.int .i64 M∧Hid (1≤k∧k≤n∧M=maxV ((x :: r).take k))) (fun _ vi=>n - (intOf vi).toNat)
 case atStart=>exact ⟨1,x,rfl,rfl,hide ⟨by omega,by omega,by simp [maxV]⟩⟩
 case round=>
  obtain ⟨k,M,rfl,rfl,HV⟩:=hrel
  obtain ⟨hk1,hk,hM⟩:=HV.out
  have hk0:(0:Int)≤(k:Int):=by omega
  have HM:=hide hM
  clear HV hM hc0
  by_cases hlt:k < n
  case neg=>
   have hlt':¬(k:Int) < (n:Int):=by omega
   have E:Hid (M=maxV (x :: r)):=hide (by rw [HM.out,List.take_of_length_le (by have:=HN.out;omega)])
   clear HM
   go_wp2_with fail
   go_ret
   exact ⟨by rw [←E.out];rfl,rfl⟩
  have hlt':(k:Int) < (n:Int):=by omega
  have hc:=HC.out k (by have:=HN.out;omega)
  have E:Hid (∀z,z=(x :: r).getD k 0→max M z=maxV ((x :: r).take (k+1))):=hide fun z hz=>by
   have hl:=HN.out
   rw [HM.out,hz,List.take_succ_eq_append_getElem (by omega)]
   obtain ⟨j,rfl⟩:∃j,k=j+1:=⟨k - 1,by omega⟩
   rw [List.take_succ_cons,maxV_snoc]
   rw [List.getD_eq_getElem?_getD,List.getElem?_eq_getElem (by omega)]
   rfl
  have HX:Hid ((x :: r).getD k 0=(x :: r).getD k 0):=hide rfl
  generalize (x :: r).getD k 0=z at hc E
  clear HM HX
  go_wp2_with fail
  go_round
  case rel=>exact ⟨k+1,_,by go_num,rfl,hide ⟨by omega,by omega,E.out z rfl⟩⟩
  case measure=>simp [intOf];omega
theorem drf_text {w:World} {g L:Nat} {ys:List UInt8} (h:Blk w g (bcs ys) 5) (hL:ys.length=L) :
  (convert 99 9 (.slice (some ⟨g,0,none⟩) L L)).run Tryz.prog w=.ok (.string ⟨ys.toArray⟩) w:=by
 subst hL
 refine run_convert_bytes_back (P:=Tryz.prog) w 99 9 5 ⟨g,0,none⟩ ys.length ys Tryz.underlying99 Tryz.underlying5 Tryz.underlying9 ?_
 intro k hk
 rw [Go.WideShapes.add_plain,Nat.zero_add,h.cell k,bcs_at ys k hk]
 rfl
theorem below_d {V a b x:World} (h:Below V.heap.size V a) (hx:Below b.heap.size b x) (e0:b.os=a.os) (e1:b.tape=a.tape) (e2:b.output=a.output) (e3:b.heap=a.heap):Below V.heap.size V x:=
 h.trans ⟨hx.os.trans e0,hx.tape.trans e1,hx.output.trans e2,e3 ▸ hx.size,fun k hk=>by rw [hx.block k (by rw [e3];exact Nat.lt_of_lt_of_le hk h.size),e3]⟩
set_option maxRecDepth 8000 in
set_option maxHeartbeats 1000000 in
theorem named_any (g L:Nat) (ys:List UInt8) (t:ByteArray) (w:World) (hL:ys.length=L) (ht:t.size=4) (h:Blk w g (bcs ys) 5) :
  Calls Tryz.prog 60 #[.slice (some ⟨g,0,none⟩) L L,.string t] w fun e w'=>e=.returned (.agg #[.string t,.string ⟨ys.toArray⟩])∧Below w.heap.size w w':=by
 have CC:=hide (fun w=>clone_any t w (by omega))
 have H:=hide h
 have hlt:=h.lt
 have KT:=hide (fun x (hx:Below w.heap.size w x)=>drf_text (h.below hx) hL)
 clear h hL ht
 go_enter Tryz.func60,Tryz.ntmps60
 go_wp2_with fail
 have HB:=hide ((Below.refl w.heap.size w).alloc (Nat.le_refl _) (.cells #[.string ⟨#[]⟩,.string ⟨#[]⟩] 79))
 have k1:=Blk.new w #[.string ⟨#[]⟩,.string ⟨#[]⟩] 79
 generalize w.alloc (.cells #[.string ⟨#[]⟩,.string ⟨#[]⟩] 79)=V at HB k1 ⊢
 obtain ⟨x,hx⟩:∃x,w.heap.size=x:=⟨_,rfl⟩
 have hxw:w.heap.size≤x:=by omega
 have HX:=hide hxw
 rw [hx] at k1 ⊢
 clear hx hxw hlt H
 have HK:=hide k1
 have z0:=k1.cell 0
 have z1:=k1.cell 1
 have y0:=k1.frozen 0
 have y1:=k1.frozen 1
 have xlt:=k1.lt
 simp at z0 z1
 clear k1
 have HV:=hide (Below.refl V.heap.size V)
 go_region_held3 (fun u=>(convert 99 9 (.slice (some ⟨g,0,none⟩) L L)).run Tryz.prog u=.ok (.string ⟨ys.toArray⟩) u) (first | exact KT.out _ (below_t5 HB.out HV.out) | exact KT.out _ (below_drewN (below_t5 HB.out HV.out) 1) | exact KT.out _ (((below_t5 HB.out HV.out).setCell HX.out _).setCell HX.out _)) ((go_at_call 97;refine (CC.out _).mono ?_;rintro e w1 ⟨rfl,h1⟩;replace HV:=hide (below_d HV.out h1 rfl rfl rfl rfl);have z0':=(HV.out.cell (p:=⟨x,0,none⟩) xlt).trans z0;have z1':=(HV.out.cell (p:=⟨x,1,none⟩) xlt).trans z1;have y0':=(HV.out.frozen (p:=⟨x,0,none⟩) xlt).trans y0;have y1':=(HV.out.frozen (p:=⟨x,1,none⟩) xlt).trans y1;have xlt':=Nat.lt_of_lt_of_le xlt HV.out.size;clear h1))
 all_goals
  have k2:=Blk.set (Blk.set (HK.out.below HV.out) 0 (.string t)) 1 (.string ⟨ys.toArray⟩)
  simp at k2
  have hb:=((below_t5 HB.out HV.out).setCell (p:=⟨x,0,none⟩) HX.out (.string t)).setCell (p:=⟨x,1,none⟩) HX.out (.string ⟨ys.toArray⟩)
  clear z0 z1 y0 y1 z0' z1' y0' y1'
  go_wp2_with fail
  generalize (w1.setCell ⟨x,0,none⟩ (.string t)).setCell ⟨x,1,none⟩ (.string ⟨ys.toArray⟩)=Z at k2 hb ⊢
  have q0:=k2.cell 0
  have q1:=k2.cell 1
  simp at q0 q1
  exact bodyPost_ret (v:=.agg #[.string t,.string ⟨ys.toArray⟩]) (by simp [results,Tryz.results60,go_sem,q0,q1]) rfl ⟨rfl,hb⟩
def hdB (s:ByteArray):Bool:=sayB s 0 verS && sayB s 12 magicS && wiB 16 16384 [((n2 s.data.toList 18:Nat):Int)] && wiB 0 1 [((n2 s.data.toList 50:Nat):Int)] && (((n2 s.data.toList 52:Nat):Int) == 0)
set_option maxHeartbeats 8000000 in
theorem hd_any (s:ByteArray) (b:Nat) (w:World) (ct pr up sc de ga b0 b1 b2 b3:Int) (lg:Bool) (va vb:Value) (h:RB w b ct pr up sc de ga b0 b1 b2 b3 lg va vb) (hs:54≤s.size) (hm:s.size≤1073741824) :
  Calls Tryz.prog 148 #[.pointer (some ⟨b,0,none⟩),.string s] w fun e w'=>e=.returned (.bool (hdB s))∧
   RB w' b ct pr ((n2 s.data.toList 18:Nat):Int) sc de ga (s2 s.data.toList 36) (s2 s.data.toList 38) (s2 s.data.toList 40) (s2 s.data.toList 42) (((n2 s.data.toList 50:Nat):Int) == 1) va vb∧But b w w':=by
 have CN:=hide (fun (k:Nat) (z:Int) (w:World) (hz:z=(k:Int)) (hk:k+2≤54)=>number_any s k z w hz (by omega) hm)
 have CG:=hide (fun (k:Nat) (z:Int) (w:World) (hz:z=(k:Int)) (hk:k+2≤54)=>signed_any s k z w hz (by omega) hm)
 have CS:=hide (fun (t:ByteArray) (z:Int) (w:World) (hz:0≤z) (ht:t.size=4) (hk:z.toNat+4≤54)=>says_c s t z.toNat z w (by omega) (by omega) hm)
 have H:=hide h
 have E:=hide (show hdB s=(sayB s 0 verS && sayB s 12 magicS && wiB 16 16384 [((n2 s.data.toList 18:Nat):Int)] && wiB 0 1 [((n2 s.data.toList 50:Nat):Int)] && (((n2 s.data.toList 52:Nat):Int) == 0)) from rfl)
 have hlt:=h.lt
 have g2:=h.cell 2
 have f2:=h.frozen 2
 have g10:=h.cell 10
 have f10:=h.frozen 10
 simp [rcs] at g2 g10
 clear h hs hm
 go_enter Tryz.func148,Tryz.ntmps148
 go_wp2_with fail
 refine (CN.out 50 _ _ rfl (by omega)).mono ?_
 rintro e w1 ⟨rfl,n,rfl⟩
 go_wp2_with fail
 refine (CN.out 18 _ _ rfl (by omega)).mono ?_
 rintro e w1 ⟨rfl,n',rfl⟩
 go_wp2_with fail
 have hB:RB (((w.drewN (n+n')).setCell ⟨b,2,none⟩ (.int .i64 ((n2 s.data.toList 18:Nat):Int))).setCell ⟨b,10,none⟩ (.bool (((n2 s.data.toList 50:Nat):Int) == 1))) b ct pr ((n2 s.data.toList 18:Nat):Int) sc de ga b0 b1 b2 b3 (((n2 s.data.toList 50:Nat):Int) == 1) va vb:=by
  have:=Blk.set (Blk.set (H.out.drewN (n+n')) 2 (.int .i64 ((n2 s.data.toList 18:Nat):Int))) 10 (.bool (((n2 s.data.toList 50:Nat):Int) == 1))
  simpa [rcs,RB] using this
 have hW:But b w (((w.drewN (n+n')).setCell ⟨b,2,none⟩ (.int .i64 ((n2 s.data.toList 18:Nat):Int))).setCell ⟨b,10,none⟩ (.bool (((n2 s.data.toList 50:Nat):Int) == 1))):=((But.setCell b (w.drewN (n+n')) 2 _).trans (But.setCell b _ 10 _)).drewL
 clear g2 g10 f2 f10 H
 generalize ((w.drewN (n+n')).setCell ⟨b,2,none⟩ (.int .i64 ((n2 s.data.toList 18:Nat):Int))).setCell ⟨b,10,none⟩ (.bool (((n2 s.data.toList 50:Nat):Int) == 1))=W0 at hB hW ⊢
 have HB0:=hide hB
 have HW0:=hide hW
 clear hB hW
 refine wp_loop_rounds 5 ?_
 rw [rounds_succ]
 have g:=HB0.out.cell 6
 have f:=HB0.out.frozen 6
 have hlt:=HB0.out.lt
 simp [rcs] at g
 go_wp2_with fail
 go_region_with ((go_at_call 182;refine (CG.out 36 _ _ rfl (by omega)).mono ?_;rintro e w1 ⟨rfl,m,rfl⟩))
 have hB:RB ((W0.drewN (1+m)).setCell ⟨b,6,none⟩ (.int .i64 (s2 s.data.toList 36))) b ct pr ((n2 s.data.toList 18:Nat):Int) sc de ga (s2 s.data.toList 36) b1 b2 b3 (((n2 s.data.toList 50:Nat):Int) == 1) va vb:=by
  have:=Blk.set (HB0.out.drewN (1+m)) 6 (.int .i64 (s2 s.data.toList 36))
  simpa [rcs,RB] using this
 have hW:But b w ((W0.drewN (1+m)).setCell ⟨b,6,none⟩ (.int .i64 (s2 s.data.toList 36))):=HW0.out.trans (But.setCell b (W0.drewN (1+m)) 6 _).drewL
 clear g f hlt
 generalize (W0.drewN (1+m)).setCell ⟨b,6,none⟩ (.int .i64 (s2 s.data.toList 36))=W1 at hB hW ⊢
 have HB1:=hide hB
 have HW1:=hide hW
 clear hB hW HB0 HW0
 go_wp2_with fail
 rw [rounds_succ]
 have g:=HB1.out.cell 7
 have f:=HB1.out.frozen 7
 have hlt:=HB1.out.lt
 simp [rcs] at g
 go_wp2_with fail
 go_region_with ((go_at_call 182;refine (CG.out 38 _ _ rfl (by omega)).mono ?_;rintro e w1 ⟨rfl,m,rfl⟩))
 have hB:RB ((W1.drewN (1+m)).setCell ⟨b,7,none⟩ (.int .i64 (s2 s.data.toList 38))) b ct pr ((n2 s.data.toList 18:Nat):Int) sc de ga (s2 s.data.toList 36) (s2 s.data.toList 38) b2 b3 (((n2 s.data.toList 50:Nat):Int) == 1) va vb:=by
  have:=Blk.set (HB1.out.drewN (1+m)) 7 (.int .i64 (s2 s.data.toList 38))
  simpa [rcs,RB] using this
 have hW:But b w ((W1.drewN (1+m)).setCell ⟨b,7,none⟩ (.int .i64 (s2 s.data.toList 38))):=HW1.out.trans (But.setCell b (W1.drewN (1+m)) 7 _).drewL
 clear g f hlt
 generalize (W1.drewN (1+m)).setCell ⟨b,7,none⟩ (.int .i64 (s2 s.data.toList 38))=W2 at hB hW ⊢
 have HB2:=hide hB
 have HW2:=hide hW
 clear hB hW HB1 HW1
 go_wp2_with fail
 rw [rounds_succ]
 have g:=HB2.out.cell 8
 have f:=HB2.out.frozen 8
 have hlt:=HB2.out.lt
 simp [rcs] at g
 go_wp2_with fail
 go_region_with ((go_at_call 182;refine (CG.out 40 _ _ rfl (by omega)).mono ?_;rintro e w1 ⟨rfl,m,rfl⟩))
 have hB:RB ((W2.drewN (1+m)).setCell ⟨b,8,none⟩ (.int .i64 (s2 s.data.toList 40))) b ct pr ((n2 s.data.toList 18:Nat):Int) sc de ga (s2 s.data.toList 36) (s2 s.data.toList 38) (s2 s.data.toList 40) b3 (((n2 s.data.toList 50:Nat):Int) == 1) va vb:=by
  have:=Blk.set (HB2.out.drewN (1+m)) 8 (.int .i64 (s2 s.data.toList 40))
  simpa [rcs,RB] using this
 have hW:But b w ((W2.drewN (1+m)).setCell ⟨b,8,none⟩ (.int .i64 (s2 s.data.toList 40))):=HW2.out.trans (But.setCell b (W2.drewN (1+m)) 8 _).drewL
 clear g f hlt
 generalize (W2.drewN (1+m)).setCell ⟨b,8,none⟩ (.int .i64 (s2 s.data.toList 40))=W3 at hB hW ⊢
 have HB3:=hide hB
 have HW3:=hide hW
 clear hB hW HB2 HW2
 go_wp2_with fail
 rw [rounds_succ]
 have g:=HB3.out.cell 9
 have f:=HB3.out.frozen 9
 have hlt:=HB3.out.lt
 simp [rcs] at g
 go_wp2_with fail
 go_region_with ((go_at_call 182;refine (CG.out 42 _ _ rfl (by omega)).mono ?_;rintro e w1 ⟨rfl,m,rfl⟩))
 have hB:RB ((W3.drewN (1+m)).setCell ⟨b,9,none⟩ (.int .i64 (s2 s.data.toList 42))) b ct pr ((n2 s.data.toList 18:Nat):Int) sc de ga (s2 s.data.toList 36) (s2 s.data.toList 38) (s2 s.data.toList 40) (s2 s.data.toList 42) (((n2 s.data.toList 50:Nat):Int) == 1) va vb:=by
  have:=Blk.set (HB3.out.drewN (1+m)) 9 (.int .i64 (s2 s.data.toList 42))
  simpa [rcs,RB] using this
 have hW:But b w ((W3.drewN (1+m)).setCell ⟨b,9,none⟩ (.int .i64 (s2 s.data.toList 42))):=HW3.out.trans (But.setCell b (W3.drewN (1+m)) 9 _).drewL
 clear g f hlt
 generalize (W3.drewN (1+m)).setCell ⟨b,9,none⟩ (.int .i64 (s2 s.data.toList 42))=W4 at hB hW ⊢
 have HB4:=hide hB
 have HW4:=hide hW
 clear hB hW HB3 HW3
 go_wp2_with fail
 rw [rounds_succ]
 have g:=HB4.out.cell 2
 have hlt:=HB4.out.lt
 simp [rcs] at g
 have CW:=hide (fun (W:World) (x lo hi:Int) (H:Nat) (hH:W.heap.size=H)=>within_any lo hi (some ⟨H,0,none⟩) [x] 1 1 (W.alloc (.cells #[.int .i64 x] 3)) rfl (by omega) (lst_one W x H hH))
 have FIN:=hide (show ∀W',Below W4.heap.size W4 W'→RB W' b ct pr ((n2 s.data.toList 18:Nat):Int) sc de ga (s2 s.data.toList 36) (s2 s.data.toList 38) (s2 s.data.toList 40) (s2 s.data.toList 42) (((n2 s.data.toList 50:Nat):Int) == 1) va vb∧But b w W' from fun W' h=>⟨HB4.out.below h,HW4.out.trans (But.of_below h)⟩)
 clear CG HB4 HW4
 cases q1:sayB s 0 verS
 ·go_wp2_with (first | (go_at_call 181;refine (CS.out _ _ _ (by decide) (by decide) (by decide)).mono ?_;rintro e w1 ⟨rfl,rfl⟩) | (go_at_call 87;refine (CW.out _ _ _ _ _ (by simp)).mono ?_;rintro e w1 ⟨rfl,rfl⟩) | (go_at_call 180;refine (CN.out 52 _ _ rfl (by omega)).mono ?_;rintro e w1 ⟨rfl,m,rfl⟩))
  go_ret
  exact ⟨by rw [E.out,q1];rfl,FIN.out _ (Below.refl _ _)⟩
 cases q2:sayB s 12 magicS
 ·go_wp2_with (first | (go_at_call 181;refine (CS.out _ _ _ (by decide) (by decide) (by decide)).mono ?_;rintro e w1 ⟨rfl,rfl⟩) | (go_at_call 87;refine (CW.out _ _ _ _ _ (by simp)).mono ?_;rintro e w1 ⟨rfl,rfl⟩) | (go_at_call 180;refine (CN.out 52 _ _ rfl (by omega)).mono ?_;rintro e w1 ⟨rfl,m,rfl⟩))
  go_ret
  exact ⟨by rw [E.out,q1,q2];rfl,FIN.out _ (Below.refl _ _)⟩
 cases q3:wiB 16 16384 [((n2 s.data.toList 18:Nat):Int)]
 ·go_wp2_with (first | (go_at_call 181;refine (CS.out _ _ _ (by decide) (by decide) (by decide)).mono ?_;rintro e w1 ⟨rfl,rfl⟩) | (go_at_call 87;refine (CW.out _ _ _ _ _ (by simp)).mono ?_;rintro e w1 ⟨rfl,rfl⟩) | (go_at_call 180;refine (CN.out 52 _ _ rfl (by omega)).mono ?_;rintro e w1 ⟨rfl,m,rfl⟩))
  go_ret
  exact ⟨by rw [E.out,q1,q2,q3];rfl,FIN.out _ ((Below.refl _ _).alloc (Nat.le_refl _) _)⟩
 cases q4:wiB 0 1 [((n2 s.data.toList 50:Nat):Int)]
 ·go_wp2_with (first | (go_at_call 181;refine (CS.out _ _ _ (by decide) (by decide) (by decide)).mono ?_;rintro e w1 ⟨rfl,rfl⟩) | (go_at_call 87;refine (CW.out _ _ _ _ _ (by simp)).mono ?_;rintro e w1 ⟨rfl,rfl⟩) | (go_at_call 180;refine (CN.out 52 _ _ rfl (by omega)).mono ?_;rintro e w1 ⟨rfl,m,rfl⟩))
  go_ret
  exact ⟨by rw [E.out,q1,q2,q3,q4];rfl,FIN.out _ (((Below.refl _ _).alloc (Nat.le_refl _) _).alloc (by simp) _)⟩
 ·go_wp2_with (first | (go_at_call 181;refine (CS.out _ _ _ (by decide) (by decide) (by decide)).mono ?_;rintro e w1 ⟨rfl,rfl⟩) | (go_at_call 87;refine (CW.out _ _ _ _ _ (by simp)).mono ?_;rintro e w1 ⟨rfl,rfl⟩) | (go_at_call 180;refine (CN.out 52 _ _ rfl (by omega)).mono ?_;rintro e w1 ⟨rfl,m,rfl⟩))
  go_ret
  exact ⟨by rw [E.out,q1,q2,q3,q4];rfl,FIN.out _ (below_drewN (((Below.refl _ _).alloc (Nat.le_refl _) _).alloc (by simp) _) _)⟩
def hhB (s:ByteArray) (ct:Int):Bool:=sayB s 0 verS && (((n2 s.data.toList 32:Nat):Int) == 0) && wiB 1 ct [((n2 s.data.toList 34:Nat):Int)]
set_option maxHeartbeats 8000000 in
theorem hh_any (s:ByteArray) (b:Nat) (w:World) (ct pr up sc de ga b0 b1 b2 b3:Int) (lg:Bool) (va vb:Value) (h:RB w b ct pr up sc de ga b0 b1 b2 b3 lg va vb) (hs:36≤s.size) (hm:s.size≤1073741824) :
  Calls Tryz.prog 149 #[.pointer (some ⟨b,0,none⟩),.string s] w fun e w'=>e=.returned (.bool (hhB s ct))∧
   RB w' b ct ((n2 s.data.toList 34:Nat):Int) up (s2 s.data.toList 4) (s2 s.data.toList 6) (s2 s.data.toList 8) b0 b1 b2 b3 lg va vb∧But b w w':=by
 have CN:=hide (fun (k:Nat) (z:Int) (w:World) (hz:z=(k:Int)) (hk:k+2≤36)=>number_any s k z w hz (by omega) hm)
 have CG:=hide (fun (k:Nat) (z:Int) (w:World) (hz:z=(k:Int)) (hk:k+2≤36)=>signed_any s k z w hz (by omega) hm)
 have hv4:verS.size=4:=by decide
 have CS:=hide (fun (w:World)=>says_c s verS 0 0 w rfl (by omega) hm)
 have H:=hide h
 have E:=hide (show hhB s ct=(sayB s 0 verS && (((n2 s.data.toList 32:Nat):Int) == 0) && wiB 1 ct [((n2 s.data.toList 34:Nat):Int)]) from rfl)
 have hlt:=h.lt
 have g1:=h.cell 1
 have f1:=h.frozen 1
 have g3:=h.cell 3
 have f3:=h.frozen 3
 have g4:=h.cell 4
 have f4:=h.frozen 4
 have g5:=h.cell 5
 have f5:=h.frozen 5
 simp [rcs] at g1 g3 g4 g5
 clear h hs hm
 go_enter Tryz.func149,Tryz.ntmps149
 go_wp2_with fail
 refine (CN.out 34 _ _ rfl (by omega)).mono ?_
 rintro e w1 ⟨rfl,n0,rfl⟩
 go_wp2_with fail
 refine (CG.out 4 _ _ rfl (by omega)).mono ?_
 rintro e w1 ⟨rfl,n1,rfl⟩
 go_wp2_with fail
 refine (CG.out 6 _ _ rfl (by omega)).mono ?_
 rintro e w1 ⟨rfl,n2',rfl⟩
 go_wp2_with fail
 refine (CG.out 8 _ _ rfl (by omega)).mono ?_
 rintro e w1 ⟨rfl,n3,rfl⟩
 go_wp2_with fail
 have hB:RB ((((((((w.drewN n0).setCell ⟨b,1,none⟩ (.int .i64 ((n2 s.data.toList 34:Nat):Int))).drewN n1).setCell ⟨b,3,none⟩ (.int .i64 (s2 s.data.toList 4))).drewN n2').setCell ⟨b,4,none⟩ (.int .i64 (s2 s.data.toList 6))).drewN n3).setCell ⟨b,5,none⟩ (.int .i64 (s2 s.data.toList 8))) b ct ((n2 s.data.toList 34:Nat):Int) up (s2 s.data.toList 4) (s2 s.data.toList 6) (s2 s.data.toList 8) b0 b1 b2 b3 lg va vb:=by
  have:=Blk.set (Blk.drewN (Blk.set (Blk.drewN (Blk.set (Blk.drewN (Blk.set (H.out.drewN n0) 1 (.int .i64 ((n2 s.data.toList 34:Nat):Int))) n1) 3 (.int .i64 (s2 s.data.toList 4))) n2') 4 (.int .i64 (s2 s.data.toList 6))) n3) 5 (.int .i64 (s2 s.data.toList 8))
  simpa [rcs,RB] using this
 have hW:But b w ((((((((w.drewN n0).setCell ⟨b,1,none⟩ (.int .i64 ((n2 s.data.toList 34:Nat):Int))).drewN n1).setCell ⟨b,3,none⟩ (.int .i64 (s2 s.data.toList 4))).drewN n2').setCell ⟨b,4,none⟩ (.int .i64 (s2 s.data.toList 6))).drewN n3).setCell ⟨b,5,none⟩ (.int .i64 (s2 s.data.toList 8))):=(But.setCell b (w.drewN n0) 1 _).drewL.trans ((But.setCell b _ 3 _).drewL.trans ((But.setCell b _ 4 _).drewL.trans (But.setCell b _ 5 _).drewL))
 clear g1 g3 g4 g5 f1 f3 f4 f5 H hlt CG
 generalize ((((((((w.drewN n0).setCell ⟨b,1,none⟩ (.int .i64 ((n2 s.data.toList 34:Nat):Int))).drewN n1).setCell ⟨b,3,none⟩ (.int .i64 (s2 s.data.toList 4))).drewN n2').setCell ⟨b,4,none⟩ (.int .i64 (s2 s.data.toList 6))).drewN n3).setCell ⟨b,5,none⟩ (.int .i64 (s2 s.data.toList 8)))=W4 at hB hW ⊢
 have g0:=hB.cell 0
 have g1:=hB.cell 1
 have hlt:=hB.lt
 simp [rcs] at g0 g1
 have CW:=hide (fun (W:World) (x lo hi:Int) (H:Nat) (hH:W.heap.size=H)=>within_any lo hi (some ⟨H,0,none⟩) [x] 1 1 (W.alloc (.cells #[.int .i64 x] 3)) rfl (by omega) (lst_one W x H hH))
 have FIN:=hide (show ∀W',Below W4.heap.size W4 W'→RB W' b ct ((n2 s.data.toList 34:Nat):Int) up (s2 s.data.toList 4) (s2 s.data.toList 6) (s2 s.data.toList 8) b0 b1 b2 b3 lg va vb∧But b w W' from fun W' h=>⟨hB.below h,hW.trans (But.of_below h)⟩)
 clear hB hW
 cases q1:sayB s 0 verS
 ·rw [q1] at CS
  go_quiet ((go_at_call 181;exact Calls.quiet_of_same (CS.out _)))
  go_wp2_with fail
  go_ret
  exact ⟨by rw [E.out,q1];rfl,FIN.out _ (below_drewN (Below.refl _ _) _)⟩
 rw [q1] at CS
 cases q2:((n2 s.data.toList 32:Nat):Int) == 0
 ·go_quiet ((first | (go_at_call 181;exact Calls.quiet_of_same (CS.out _)) | (go_at_call 180;exact Calls.quiet_of (CN.out 32 _ _ rfl (by omega)))))
  go_wp2_with fail
  go_ret
  exact ⟨by rw [E.out,q1,q2];rfl,FIN.out _ (below_drewN (Below.refl _ _) _)⟩
 have hn1:=World.new_ne W4 ⟨b,0,none⟩ g0
 have hn2:=World.new_ne W4 ⟨b,1,none⟩ g1
 go_region_held3 (fun x=>x.cell? ⟨b,0,none⟩=some (.int .i64 ct)∧x.cell? ⟨b,1,none⟩=some (.int .i64 ((n2 s.data.toList 34:Nat):Int))) (go_keep) ((first | (go_at_call 181;refine (CS.out _).mono ?_;rintro e w1 ⟨rfl,rfl⟩) | (go_at_call 180;refine (CN.out 32 _ _ rfl (by omega)).mono ?_;rintro e w1 ⟨rfl,m,rfl⟩) | (go_at_call 87;refine (CW.out _ _ _ _ _ (by simp)).mono ?_;rintro e w1 ⟨rfl,rfl⟩)))
 all_goals
  go_wp2_with fail
  go_ret
  exact ⟨by rw [E.out,q1,q2];rfl,FIN.out _ ((below_drewN (Below.refl _ _) _).alloc (Nat.le_refl _) _)⟩
def advF (s:ByteArray) (h i:Nat):Int:=if i < h then ((n2 s.data.toList (4 * i):Nat):Int) else ((n2 s.data.toList (4 * h - 4):Nat):Int)
def beaF (s:ByteArray) (h i:Nat):Int:=if i < h then s2 s.data.toList (4 * i+2) else s2 s.data.toList (4 * h+2 * (i - h))
def arr (f:Nat→Int) (n k:Nat):Array Value:=((List.range n).map fun i=>Value.int .i64 (if i < k then f i else 0)).toArray
theorem arr_size (f:Nat→Int) (n k:Nat):(arr f n k).size=n:=by simp [arr]
theorem arr_at (f:Nat→Int) (n k j:Nat) (h:j < n):(arr f n k)[j]?=some (.int .i64 (if j < k then f j else 0)):=by
 simp [arr,h]
theorem arr_set (f:Nat→Int) (n k:Nat) (h:k < n):(arr f n k).setIfInBounds k (.int .i64 (f k))=arr f n (k+1):=by
 apply Array.ext_getElem?
 intro j
 rw [Array.getElem?_setIfInBounds]
 by_cases hj:j < n
 ·rw [arr_at _ _ _ _ hj,arr_at _ _ _ _ hj]
  by_cases e:k=j
  ·subst e;simp [arr_size,hj]
  ·rw [if_neg e]
   by_cases h1:j < k
   ·rw [if_pos h1,if_pos (by omega)]
   ·rw [if_neg h1,if_neg (by omega)]
 ·rw [if_neg (by rintro rfl;exact hj h)]
  rw [Array.getElem?_eq_none (by rw [arr_size];omega),Array.getElem?_eq_none (by rw [arr_size];omega)]
theorem arr_zero (f:Nat→Int) (n:Nat):arr f n 0=Array.replicate n (.int .i64 0):=by
 apply Array.ext_getElem?
 intro j
 by_cases hj:j < n
 ·rw [arr_at _ _ _ _ hj];simp [hj]
 ·rw [Array.getElem?_eq_none (by rw [arr_size];omega),Array.getElem?_eq_none (by simp;omega)]
theorem make_ints (n:Nat) (hn:n≤100000) (x:World):(Instr.makeSlice 24 (.int .i64 (n:Int)) (.int .i64 (n:Int))).run Tryz.prog x=.ok (.slice (some ⟨x.heap.size,0,none⟩) n n) (x.alloc (.cells (Array.replicate n (.int .i64 0)) 3)):=by
 obtain ⟨i0,hi,hz0,hz1,hz2⟩:=info_parts5 info_int
 have h:=run_make (P:=Tryz.prog) x 24 3 i0 (.int .i64 0) Tryz.underlying24 hi hz0 .i64 .i64 n n (by omega) (Int.le_refl _) (by rw [hz2];omega) (by omega)
 rw [hz1] at h
 simp only [Int.toNat_natCast,Nat.mul_one] at h
 have e:madeCells (Value.int .i64 0).cells n=Array.replicate n (.int .i64 0):=by
  apply Array.ext (by simp [madeCells])
  intro j h1 h2
  simp [madeCells,Value.cells,Nat.mod_one]
 rw [e] at h
 exact h
theorem But.far {b p:Nat} {w w':World} (h:But b w w') (hp:w.heap.size≤p) (o:Nat) (v:Value):But b w (w'.setCell ⟨p,o,none⟩ v):=
 ⟨h.os,h.tape,h.output,by simp [World.setCell];exact h.size,fun k hk hn=>by rw [Below.heap_setCell _ _ _ _ (show k≠p by omega)];exact h.block k hk hn⟩
theorem But.drewR {b:Nat} {w w':World} (h:But b w w') (n:Nat):But b w (w'.drewN n):=⟨h.os,h.tape,h.output,h.size,h.block⟩
structure Two (s:ByteArray) (w:World) (b p q n h k:Nat) (R:World→Prop) (wr:World):Prop where
 a:Blk wr p (arr (advF s h) n k) 3
 c:Blk wr q (arr (beaF s h) n k) 3
 r:R wr
 o:But b w wr
theorem Two.step {s:ByteArray} {w:World} {b p q n h k:Nat} {cs:Array Value} {t:TypeId} {wr:World} (T:Two s w b p q n h k (fun x=>Blk x b cs t) wr) (hk:k < n) (hpq:p≠q) (hp:w.heap.size≤p) (hq:w.heap.size≤q) (hb:b < w.heap.size) (m:Nat) :
  Two s w b p q n h (k+1) (fun x=>Blk x b cs t) (((wr.drewN m).setCell ⟨p,k,none⟩ (.int .i64 (advF s h k))).setCell ⟨q,k,none⟩ (.int .i64 (beaF s h k))):=by
 refine ⟨?_,?_,?_,((T.o.drewR m).far hp k _).far hq k _⟩
 ·have:=(Blk.set (T.a.drewN m) k (.int .i64 (advF s h k)))
  rw [arr_set _ _ _ hk] at this
  exact Blk.other this hpq k _
 ·have:=Blk.set (Blk.other (T.c.drewN m) (Ne.symm hpq) k (.int .i64 (advF s h k))) k (.int .i64 (beaF s h k))
  rw [arr_set _ _ _ hk] at this
  exact this
 ·exact Blk.other (Blk.other (Blk.drewN T.r m) (by omega) k _) (by omega) k _
theorem Two.cells {s:ByteArray} {w:World} {b p q n h k:Nat} {R:World→Prop} {wr:World} (T:Two s w b p q n h k R wr) (hk:k < n) :
  wr.cell? ⟨p,k,none⟩=some (.int .i64 0)∧wr.frozen? ⟨p,k,none⟩=false∧wr.cell? ⟨q,k,none⟩=some (.int .i64 0)∧wr.frozen? ⟨q,k,none⟩=false∧p < wr.heap.size∧q < wr.heap.size:=by
 refine ⟨?_,T.a.frozen k,?_,T.c.frozen k,T.a.lt,T.c.lt⟩
 ·rw [T.a.cell k,arr_at _ _ _ _ hk];simp
 ·rw [T.c.cell k,arr_at _ _ _ _ hk];simp
set_option maxHeartbeats 8000000 in
theorem hx_short (s:ByteArray) (b n h:Nat) (w:World) (up sc de ga b0 b1 b2 b3:Int) (lg:Bool) (va vb:Value) (hR:RB w b n h up sc de ga b0 b1 b2 b3 lg va vb) (h1:1≤h) (h2:h≤n) (h3:n≤4096) (hm:s.size≤1073741824) (hs:s.size < 4 * h+2 * (n - h)) :
  Calls Tryz.prog 150 #[.pointer (some ⟨b,0,none⟩),.string s] w fun e w'=>e=.returned (.bool false)∧∃m,w'=w.drewN m:=by
 have g0:=hR.cell 0
 have g1:=hR.cell 1
 have hlt:=hR.lt
 simp [rcs] at g0 g1
 have c1:(1:Int)≤(h:Int):=by omega
 have c2:(h:Int)≤(n:Int):=by omega
 have c3:(n:Int)≤4096:=by omega
 have c4:(s.size:Int) < 4 * (h:Int)+2 * ((n:Int) - (h:Int)):=by omega
 have c5:(s.size:Int)≤1073741824:=by omega
 clear hR h1 h2 h3 hm hs
 go_enter Tryz.func150,Tryz.ntmps150
 go_wp2_with fail
 go_quiet (fail)
 go_wp2_with fail
 go_ret
 exact ⟨rfl,_,rfl⟩
def HxR (s:ByteArray) (b n h:Nat) (w:World) (up sc de ga b0 b1 b2 b3:Int) (lg:Bool) (w':World):Prop:=
 ∃p q,w.heap.size≤p∧w.heap.size≤q∧p≠q∧Blk w' p (arr (advF s h) n n) 3∧Blk w' q (arr (beaF s h) n n) 3∧
  RB w' b n h up sc de ga b0 b1 b2 b3 lg (.slice (some ⟨p,0,none⟩) n n) (.slice (some ⟨q,0,none⟩) n n)∧But b w w'
set_option maxHeartbeats 8000000 in
theorem hx_any (s:ByteArray) (b n h:Nat) (w:World) (up sc de ga b0 b1 b2 b3:Int) (lg:Bool) (va vb:Value) (hR:RB w b n h up sc de ga b0 b1 b2 b3 lg va vb) (h1:1≤h) (h2:h≤n) (h3:n≤4096) (hm:s.size≤1073741824) (hs:4 * h+2 * (n - h)≤s.size) :
  Calls Tryz.prog 150 #[.pointer (some ⟨b,0,none⟩),.string s] w fun e w'=>e=.returned (.bool true)∧HxR s b n h w up sc de ga b0 b1 b2 b3 lg w':=by
 have CN:=hide (fun (k:Nat) (z:Int) (w:World) (hz:z=(k:Int)) (hk:k+2≤s.size)=>number_any s k z w hz (by omega) hm)
 have CG:=hide (fun (k:Nat) (z:Int) (w:World) (hz:z=(k:Int)) (hk:k+2≤s.size)=>signed_any s k z w hz (by omega) hm)
 have g0:=hR.cell 0
 have g1:=hR.cell 1
 have hlt:=hR.lt
 simp [rcs] at g0 g1
 have c1:(1:Int)≤(h:Int):=by omega
 have c2:(h:Int)≤(n:Int):=by omega
 have c3:(n:Int)≤4096:=by omega
 have c4:¬(s.size:Int) < 4 * (h:Int)+2 * ((n:Int) - (h:Int)):=by omega
 have c5:(s.size:Int)≤1073741824:=by omega
 have HR:=hide hR
 have HF:=hide (And.intro h1 (And.intro h2 (And.intro h3 (And.intro hm hs))))
 have c6:(0:Int)≤(n:Int):=by omega
 have MK:=make_ints n (by omega)
 generalize hZ:Array.replicate n (Value.int .i64 0)=Z at MK
 have HZ:=hide hZ
 clear hR h1 h2 h3 hm hs hZ
 go_enter Tryz.func150,Tryz.ntmps150
 go_wp2_with fail
 go_quiet (fail)
 go_wp2_with fail
 have hn1:=World.new_ne w ⟨b,0,none⟩ g0
 go_region_held3 (fun x=>x.cell? ⟨b,0,none⟩=some (.int .i64 n)∧x.cell? ⟨b,1,none⟩=some (.int .i64 h)) (go_keep) ((fail))
 generalize hq:w.heap.size+1=q
 generalize hp:w.heap.size=p
 have hpq:p≠q:=by omega
 rotate_left
 generalize hp:w.heap.size+1=p
 generalize hq:w.heap.size=q
 have hpq:p≠q:=by omega
 all_goals
  have hp0:w.heap.size≤p:=by omega
  have hq0:w.heap.size≤q:=by omega
  have hT:Two s w b p q n h 0 (fun x=>RB x b n h up sc de ga b0 b1 b2 b3 lg va vb) (((w.drewN (nq+1)).alloc (.cells Z 3)).alloc (.cells Z 3)):=by
   have k1:Blk (((w.drewN (nq+1)).alloc (.cells Z 3)).alloc (.cells Z 3)) w.heap.size Z 3:=(Blk.new (w.drewN (nq+1)) Z 3).below ((Below.refl _ _).alloc (Nat.le_refl _) _)
   have k2:Blk (((w.drewN (nq+1)).alloc (.cells Z 3)).alloc (.cells Z 3)) (w.heap.size+1) Z 3:=by
    have:=Blk.new ((w.drewN (nq+1)).alloc (.cells Z 3)) Z 3
    simpa using this
   have hb:Below w.heap.size w (((w.drewN (nq+1)).alloc (.cells Z 3)).alloc (.cells Z 3)):=((below_drewN (Below.refl _ _) _).alloc (Nat.le_refl _) _).alloc (by simp) _
   refine ⟨?_,?_,HR.out.below hb,But.of_below hb⟩
   ·rw [arr_zero,HZ.out];first | (rw [←hp];exact k1) | (rw [←hp];exact k2)
   ·rw [arr_zero,HZ.out];first | (rw [←hq];exact k1) | (rw [←hq];exact k2)
  have HP:=hide (And.intro hpq (And.intro hp0 hq0))
  have HT0:=hide hT
  generalize ((w.drewN (nq+1)).alloc (.cells Z 3)).alloc (.cells Z 3)=W0 at HT0 ⊢
  have r0:=HT0.out.r.cell 0
  have r1:=HT0.out.r.cell 1
  have hltw:=HT0.out.r.lt
  simp [rcs] at r0 r1
  clear hT g0 g1 MK HZ hp hq hpq hp0 hq0 hn1
  go_wp2_with fail
  go_loopw [44] (fun vi wr=>∃(k:Nat),vi=.int .i64 k∧Hid (k≤h∧Two s w b p q n h k (fun x=>RB x b n h up sc de ga b0 b1 b2 b3 lg va vb) wr)) (fun vi _=>h - (intOf vi).toNat)
  case atStart=>exact ⟨0,rfl,hide ⟨by omega,HT0.out⟩⟩
  case round=>
   obtain ⟨k,rfl,HV⟩:=hrel
   clear HT0 r0 r1 hltw
   obtain ⟨hk,ht⟩:=HV.out
   have hk0:(0:Int)≤(k:Int):=by omega
   have HT:=hide ht
   clear HV
   by_cases hlt':k < h
   ·have hlt2:(k:Int) < (h:Int):=by omega
    have e4:advF s h k=((n2 s.data.toList (4 * k):Nat):Int):=if_pos hlt'
    have e5:beaF s h k=s2 s.data.toList (4 * k+2):=if_pos hlt'
    obtain ⟨f1,f2,f3,f4,f5⟩:=HF.out
    have C1:=hide (fun w=>CN.out (4 * k) (4 * (k:Int)) w (by omega) (by omega))
    have C2:=hide (fun w=>CG.out (4 * k+2) (4 * (k:Int)+2) w (by omega) (by omega))
    rw [←e4] at C1
    rw [←e5] at C2
    obtain ⟨x1,x2,x3,x4,x5,x6⟩:=ht.cells (show k < n by omega)
    have hk':(k:Int)≤4096:=by omega
    have hkn:(k:Int) < (n:Int):=by omega
    have HST:=hide (fun m=>ht.step (show k < n by omega) HP.out.1 HP.out.2.1 HP.out.2.2 hlt m)
    have HPQ:=HP.out.1
    clear ht e4 e5 f1 f2 f3 f4 f5 HT
    generalize advF s h k=A at C1 HST
    generalize beaF s h k=B at C2 HST
    go_wp2_with (first | (go_at_call 180;refine (C1.out _).mono ?_;rintro e w1 ⟨rfl,m,rfl⟩) | (go_at_call 182;refine (C2.out _).mono ?_;rintro e w1 ⟨rfl,m',rfl⟩))
    go_roundw
    case rel=>exact ⟨k+1,by go_num,hide ⟨by omega,HST.out _⟩⟩
    case measure=>simp [intOf];omega
   ·have hlt2:¬(k:Int) < (h:Int):=by omega
    obtain rfl:k=h:=by omega
    have r0:=ht.r.cell 0
    have r1:=ht.r.cell 1
    have hltw:=ht.r.lt
    simp [rcs] at r0 r1
    clear ht hlt' hk
    go_wp2_with fail
    go_loopw [9] (fun vi wr=>∃(i:Nat),vi=.int .i64 i∧Hid (k≤i∧i≤n∧Two s w b p q n k i (fun x=>RB x b n k up sc de ga b0 b1 b2 b3 lg va vb) wr)) (fun vi _=>n - (intOf vi).toNat)
    case atStart=>exact ⟨k,rfl,hide ⟨by omega,HF.out.2.1,HT.out⟩⟩
    case round=>
     obtain ⟨i,rfl,HV⟩:=hrel
     clear HT r0 r1 hltw
     obtain ⟨hki,hin,ht⟩:=HV.out
     have HT:=hide ht
     have HI:=hide (And.intro hki hin)
     have r0:=ht.r.cell 0
     have r1:=ht.r.cell 1
     have hltw:=ht.r.lt
     simp [rcs] at r0 r1
     clear HV
     by_cases hlt':i < n
     ·have hlt3:(i:Int) < (n:Int):=by omega
      obtain ⟨f1,f2,f3,f4,f5⟩:=HF.out
      obtain ⟨j,hj⟩:∃j,k=j+1:=⟨k - 1,by omega⟩
      obtain ⟨d,hd⟩:∃d,d=i - k:=⟨_,rfl⟩
      have e4:advF s k i=advF s k j:=by
       unfold advF
       rw [if_neg (by omega),if_pos (by omega),show 4 * k - 4=4 * j by omega]
      have e5:beaF s k i=s2 s.data.toList (4 * k+2 * d):=by
       unfold beaF
       rw [if_neg (by omega),hd]
      have C2:=hide (fun w=>CG.out (4 * k+2 * d) (4 * (k:Int)+2 * (d:Int)) w (by omega) (by omega))
      rw [←e5] at C2
      obtain ⟨x1,x2,x3,x4,x5,x6⟩:=ht.cells hlt'
      have y1:wr.cell? ⟨p,j,none⟩=some (.int .i64 (advF s k i)):=by
       rw [ht.a.cell j,arr_at _ _ _ _ (by omega),if_pos (by omega),e4]
      have HST:=hide (fun m=>ht.step hlt' HP.out.1 HP.out.2.1 HP.out.2.2 hlt m)
      have HPQ:=HP.out.1
      have hji:j≠i:=by omega
      have m1:(k:Int) - 1=(j:Int):=by omega
      have m2:(i:Int) - (k:Int)=(d:Int):=by omega
      have m3:(d:Int)≤4096:=by omega
      have m4:(i:Int)≤4096:=by omega
      have m5:IntKind.i64.wrap (2 * (d:Int))=2 * (d:Int):=by rw [IntKind.wrap_i64];omega
      have m6:IntKind.i64.wrap (4 * (k:Int)+2 * (d:Int))=4 * (k:Int)+2 * (d:Int):=by rw [IntKind.wrap_i64];omega
      have m7:(j:Int) < (n:Int):=by omega
      have m8:IntKind.i64.wrap (j:Int)=(j:Int):=by rw [IntKind.wrap_i64];omega
      have m9:IntKind.i64.wrap (d:Int)=(d:Int):=by rw [IntKind.wrap_i64];omega
      have m10:(0:Int)≤(j:Int):=by omega
      have m11:(0:Int)≤(i:Int):=by omega
      clear ht e4 e5 f1 f2 f3 f4 f5 HT hd hj hki hin
      generalize advF s k i=A at y1 HST
      generalize beaF s k i=B at C2 HST
      go_wp2_with fail
      go_region_with ((go_at_call 182;refine (C2.out _).mono ?_;rintro e w1 ⟨rfl,m,rfl⟩))
      all_goals
       go_wp2_with fail
       go_roundw
       case rel=>exact ⟨i+1,by go_num,hide ⟨by have:=HI.out;omega,by omega,HST.out _⟩⟩
       case measure=>simp [intOf];omega
     ·have hlt3:¬(i:Int) < (n:Int):=by omega
      obtain rfl:i=n:=by omega
      have r11:=ht.r.cell 11
      have r12:=ht.r.cell 12
      have s11:=ht.r.frozen 11
      have s12:=ht.r.frozen 12
      simp [rcs] at r11 r12
      clear ht hlt'
      go_wp2_with fail
      go_ret
      refine ⟨rfl,p,q,HP.out.2.1,HP.out.2.2,HP.out.1,?_,?_,?_,?_⟩
      ·exact Blk.other (Blk.other HT.out.a (by have:=HP.out;omega) 11 _) (by have:=HP.out;omega) 12 _
      ·exact Blk.other (Blk.other HT.out.c (by have:=HP.out;omega) 11 _) (by have:=HP.out;omega) 12 _
      ·have:=Blk.set (Blk.set HT.out.r 11 (.slice (some ⟨p,0,none⟩) i i)) 12 (.slice (some ⟨q,0,none⟩) i i)
       simpa [rcs,RB] using this
      ·exact HT.out.o.trans ((But.setCell b _ 11 _).trans (But.setCell b _ 12 _))
end Go.Proofs.YtpaadbnlhapdbaaGreatDoor
