/-
  Joined: C11W, C11Wt, C11Wk.
-/
import Derived.Deep.AppendSrc
import Derived.Lib.AppendZeros
import Derived.Lib.SlBytesConst
import Derived.Test.YtpaadbnlhapdbaaGreatDoorL13
namespace Go.Proofs.YtpaadbnlhapdbaaGreatDoor.C11
open Go.RowKit Go.Deep
set_option linter.unusedVariables false
def hiB (x:Int):UInt8:=UInt8.ofNat (x / 256 % 256).toNat
def loB (x:Int):UInt8:=UInt8.ofNat (x % 256).toNat
theorem hiB_cell (x:Int):bcell (hiB x)=.int .u8 (x / 256 % 256):=by
 unfold bcell hiB
 have h0:0≤x / 256 % 256:=Int.emod_nonneg _ (by omega)
 have h1:x / 256 % 256 < 256:=Int.emod_lt_of_pos _ (by omega)
 rw [UInt8.toNat_ofNat']
 congr 1
 omega
theorem loB_cell (x:Int):bcell (loB x)=.int .u8 (x % 256):=by
 unfold bcell loB
 have h0:0≤x % 256:=Int.emod_nonneg _ (by omega)
 have h1:x % 256 < 256:=Int.emod_lt_of_pos _ (by omega)
 rw [UInt8.toNat_ofNat']
 congr 1
 omega
def t2 (x:Int):List UInt8:=[hiB x,loB x]
def tw (zs:List Int):List UInt8:=zs.flatMap t2
def t4 (x:Int):List UInt8:=t2 (x / 65536)++t2 x
def fo (zs:List Int):List UInt8:=zs.flatMap t4
theorem tw_len (zs:List Int):(tw zs).length=2 * zs.length:=by
 induction zs with
 | nil=>rfl
 | cons x r ih=>unfold tw at *;rw [List.flatMap_cons,List.length_append,ih];simp [t2];omega
theorem fo_len (zs:List Int):(fo zs).length=4 * zs.length:=by
 induction zs with
 | nil=>rfl
 | cons x r ih=>unfold fo at *;rw [List.flatMap_cons,List.length_append,ih];simp [t4,t2];omega
theorem take_int (zs:List Int) (k:Nat) (h:k < zs.length):zs.take (k+1)=zs.take k++[zs.getD k 0]:=by
 rw [List.take_succ_eq_append_getElem h,List.getD_eq_getElem?_getD,List.getElem?_eq_getElem h];rfl
theorem tw_take (zs:List Int) (k:Nat) (h:k < zs.length):tw (zs.take (k+1))=tw (zs.take k)++t2 (zs.getD k 0):=by
 rw [take_int zs k h];unfold tw;rw [List.flatMap_append];simp
theorem fo_take (zs:List Int) (k:Nat) (h:k < zs.length):fo (zs.take (k+1))=fo (zs.take k)++t4 (zs.getD k 0):=by
 rw [take_int zs k h];unfold fo;rw [List.flatMap_append];simp
def IL (w:World) (a:Option Addr) (zs:List Int):Prop:=
 zs=[]∨∃b off cs f,a=some ⟨b,off,none⟩∧w.heap[b]?=some (.cells cs 3 f)∧∀i,i < zs.length→w.cell? ⟨b,off+i,none⟩=some (.int .i64 (zs.getD i 0))
theorem cell_of_block {w w':World} {b:Nat} (h:w'.heap[b]?=w.heap[b]?) (j:Nat):w'.cell? ⟨b,j,none⟩=w.cell? ⟨b,j,none⟩:=by
 unfold World.cell?;rw [h]
theorem IL.nb {w w':World} {a:Option Addr} {zs:List Int} (h:IL w a zs) (hn:NB w w'):IL w' a zs:=by
 rcases h with h | ⟨b,off,cs,f,h1,h2,h3⟩
 ·exact Or.inl h
 ·have hl:b < w.heap.size:=by
   rcases Nat.lt_or_ge b w.heap.size with hl | hl
   ·exact hl
   ·rw [Array.getElem?_eq_none hl] at h2;cases h2
  have e:=hn.block b hl (fun c f e=>by rw [h2] at e;injection e with e;injection e with _ e _;cases e)
  exact Or.inr ⟨b,off,cs,f,h1,by rw [e];exact h2,fun i hi=>by rw [cell_of_block e];exact h3 i hi⟩
theorem IL.blk {w:World} {b:Nat} {zs:List Int} (h:Blk w b ((zs.map (Value.int .i64)).toArray) 3):IL w (some ⟨b,0,none⟩) zs:=by
 refine Or.inr ⟨b,0,_,_,rfl,h,fun i hi=>?_⟩
 rw [Nat.zero_add,h.cell i]
 simp [List.getElem?_eq_getElem hi,List.getD_eq_getElem?_getD]
def Mark (w:World) (B:Nat) (v:Value) (ys:List UInt8):Prop:=
 ys=[0,0]∧∃g,B≤g∧v=.slice (some ⟨g,0,none⟩) 2 2∧w.heap[g]?=some (.cells #[.int .u8 0,.int .u8 0] 5 (2,3))
theorem Mark.cell {w:World} {B:Nat} {v:Value} {ys:List UInt8} (h:Mark w B v ys):∃g,B≤g∧g < w.heap.size∧v=.slice (some ⟨g,0,none⟩) 2 2∧ys=[0,0]∧w.cell? ⟨g,0,none⟩=some (bcell 0)∧w.cell? ⟨g,1,none⟩=some (bcell 0):=by
 obtain ⟨h1,g,hg,hv,hh⟩:=h
 refine ⟨g,hg,?_,hv,h1,?_,?_⟩
 ·rcases Nat.lt_or_ge g w.heap.size with h | h
  ·exact h
  ·rw [Array.getElem?_eq_none h] at hh;simp at hh
 ·unfold World.cell?;rw [hh];rfl
 ·unfold World.cell?;rw [hh];rfl
def Buf (w:World) (B:Nat) (v:Value) (ys:List UInt8):Prop:=BRow w B v ys∨Mark w B v ys
theorem Buf.later {w w':World} {B:Nat} {v:Value} {ys:List UInt8} (h:Buf w B v ys) (hb:Below w.heap.size w w'):Buf w' B v ys:=by
 rcases h with h | h
 ·exact Or.inl (h.later hb)
 ·have h0:=h.cell
  obtain ⟨h1,g,hg,hv,hh⟩:=h
  have hl:g < w.heap.size:=by
   rcases Nat.lt_or_ge g w.heap.size with h | h
   ·exact h
   ·rw [Array.getElem?_eq_none h] at hh;simp at hh
  exact Or.inr ⟨h1,g,hg,hv,by rw [hb.block g hl];exact hh⟩
theorem append_mark (w:World) (B g:Nat) (hB:B≤w.heap.size) (b0 b1:UInt8) (hg:g < w.heap.size) (c0:w.cell? ⟨g,0,none⟩=some (bcell 0)) (c1:w.cell? ⟨g,1,none⟩=some (bcell 0)) :
  ∃v' w',(Builtin.append_ #[97,97] 97 #[.slice (some ⟨g,0,none⟩) 2 2,.slice (some ⟨w.heap.size,0,none⟩) 2 2]).run Tryz.prog (w.alloc (.cells #[bcell b0,bcell b1] 5))=.ok v' w'∧
   BRow w' B v' ([0,0]++[b0,b1])∧Below w.heap.size w w':=by
 obtain ⟨i0,hi,hz0,hz1,hz2⟩:=info_parts5 info_u8
 have hs:Src Tryz.prog i0.size 97 (.slice (some ⟨w.heap.size,0,none⟩) 2 2) 2 [bcell b0,bcell b1] (w.alloc (.cells #[bcell b0,bcell b1] 5)):=by
  refine Src.ofSlice (w.alloc (.cells #[bcell b0,bcell b1] 5)) Tryz.underlying97 ⟨w.heap.size,0,none⟩ 2 2 _ (by rw [hz1];rfl) ?_ ?_
  ·intro j u hu
   rw [Go.WideShapes.add_plain,Nat.zero_add,World.cell?_alloc_at _ _ _ _ rfl]
   simpa using hu
  ·intro u hu
   simp at hu
   rcases hu with rfl | rfl <;> rfl
 have hf:(Builtin.firstCells i0.size 2 (.slice (some ⟨g,0,none⟩) 2 2)).run Tryz.prog (w.alloc (.cells #[bcell b0,bcell b1] 5)).drew=.ok [bcell 0,bcell 0].toArray (w.alloc (.cells #[bcell b0,bcell b1] 5)).drew:=by
  refine run_firstCells_some _ i0.size 2 _ 2 2 [bcell 0,bcell 0] (by rw [hz1];rfl) ?_
  intro j u hu
  show (w.alloc (.cells #[bcell b0,bcell b1] 5)).cell? _=_
  rw [Go.WideShapes.add_plain,Nat.zero_add,World.cell?_alloc_lt _ _ _ hg]
  match j,hu with
  | 0,hu=>simp at hu;rw [c0,hu]
  | 1,hu=>simp at hu;rw [c1,hu]
 have hr:=run_append_grow_src (P:=Tryz.prog) (w.alloc (.cells #[bcell b0,bcell b1] 5)) 97 97 97 5 i0 (.int .u8 0) Tryz.underlying97 hi hz0 (some ⟨g,0,none⟩) 2 2 [bcell 0,bcell 0] hf _ 2 _ hs (by omega) (by omega)
  (by rw [hz2];have:=growslice_fits (need:=2+2) (old:=2) (bytes:=1) (by omega) (by omega);exact this)
 refine ⟨_,_,hr,?_,?_⟩
 ·have hcl:=grownCap_le_maxLen (w.alloc (.cells #[bcell b0,bcell b1] 5)) 4 2 5 (by simp only [maxLen];omega)
  have hcg:=grownCap_ge (w.alloc (.cells #[bcell b0,bcell b1] 5)) 4 2 5
  unfold BRow
  refine ⟨by simp,Or.inr ⟨_,_,_,rfl,by simp;omega,heap_alloc_new _ _,hcg,hcl,?_,?_⟩⟩
  ·rw [Array.size_append,size_zeroCells]
   simp [Value.cells]
   omega
  ·simp
 ·exact ((Below.refl _ _).alloc (Nat.le_refl _) _).drew.alloc (by simp) _
theorem app_two {W:World} {B:Nat} {v:Value} {ys:List UInt8} (b0 b1:UInt8) (h:Buf W B v ys) (hB:B≤W.heap.size) (hl:ys.length+2≤140737488355328) :
  ∃v' w2,(Builtin.append_ #[97,97] 97 #[v,.slice (some ⟨W.heap.size,0,none⟩) 2 2]).run Tryz.prog (W.alloc (.cells #[bcell b0,bcell b1] 5))=.ok v' w2∧BRow w2 B v' (ys++[b0,b1])∧KB B W w2:=by
 rcases h with h | h
 ·exact app_b3 (W:=W) [b0,b1] h hB (by simp) (by simpa using hl) _ rfl
 ·obtain ⟨g,hg0,hg,rfl,rfl,c0,c1⟩:=h.cell
  obtain ⟨v',w',hr,hb,hw⟩:=append_mark W B g hB b0 b1 hg c0 c1
  exact ⟨v',w',hr,hb,hw.mono hB,NB.below hw⟩
set_option maxHeartbeats 1000000 in
theorem atwo_buf (B:Nat) (v:Value) (ys:List UInt8) (a:Option Addr) (zs:List Int) (n c:Nat) (w:World) (hn:zs.length=n) (hz:n≤100000) (hl:ys.length≤1000000000) (hB:B≤w.heap.size) (h:Buf w B v ys) (hL:IL w a zs)
  (hr:∀i,i < zs.length→-4611686018427387904≤zs.getD i 0∧zs.getD i 0≤4611686018427387904) :
  Calls Tryz.prog 101 #[v,.slice a n c] w fun e w'=>∃v',e=.returned v'∧Buf w' B v' (ys++tw zs)∧((0 < n∨BRow w B v ys)→BRow w' B v' (ys++tw zs))∧KB B w w':=by
 have hz':(n:Int)≤100000:=by omega
 have HN:=hide hn
 have HL:=hide hL
 have HR:=hide hr
 have HLL:=hide hl
 have HBB:=hide hB
 have HV0:=hide h
 clear hn hL hr hl hB h
 go_enter Tryz.func101,Tryz.ntmps101
 go_wp2_with fail
 go_loopw [0,9] (fun vt vi wr=>∃(k:Nat),vi=.int .i64 k∧Hid (k≤n∧(Buf wr B vt (ys++tw (zs.take k))∧((0 < k∨BRow w B v ys)→BRow wr B vt (ys++tw (zs.take k))))∧KB B w wr)) (fun _ vi _=>n - (intOf vi).toNat)
 case atStart=>exact ⟨0,rfl,hide ⟨by omega,⟨by simpa [tw] using HV0.out,fun h=>by rcases h with h | h;omega;simpa [tw] using h⟩,KB.refl _ _⟩⟩
 case round=>
  obtain ⟨k,rfl,HV⟩:=hrel
  obtain ⟨hk,hrow,hkb⟩:=HV.out
  have hk0:(0:Int)≤(k:Int):=by omega
  have HRW:=hide hrow
  have HKB:=hide hkb
  clear HV hrow hkb
  by_cases hlt:k < n
  case neg=>
   have hlt':¬(k:Int) < (n:Int):=by omega
   have E:Hid (zs.take k=zs):=hide (List.take_of_length_le (by have:=HN.out;omega))
   go_wp2_with fail
   go_ret
   exact ⟨_,rfl,by have:=HRW.out.1;rw [E.out] at this;exact this,fun h=>by have:=HRW.out.2 (by rcases h with h | h;exact Or.inl (by omega);exact Or.inr h);rw [E.out] at this;exact this,HKB.out⟩
  have hlt':(k:Int) < (n:Int):=by omega
  rcases HL.out.nb HKB.out.nb with hz | ⟨b,o,cs,f,rfl,hblk,hcell⟩
  ·have:=HN.out;rw [hz] at this;simp at this;omega
  have hc:=hcell k (by have:=HN.out;omega)
  have HT:=hide (tw_take zs k (by have:=HN.out;omega))
  have hlen:(ys++tw (zs.take k)).length≤1000200000:=by
   rw [List.length_append,tw_len,List.length_take];have:=HLL.out;omega
  obtain ⟨x0,x1⟩:=HR.out k (by have:=HN.out;omega)
  have zb:b < wr.heap.size:=by
   rcases Nat.lt_or_ge b wr.heap.size with hl | hl
   ·exact hl
   ·rw [Array.getElem?_eq_none hl] at hblk;cases hblk
  obtain ⟨x,hx⟩:∃x,zs.getD k 0=x:=⟨_,rfl⟩
  rw [hx] at hc HT x0 x1
  obtain ⟨v2,w2,hrun,hb2,hk2⟩:=app_two (W:=wr) (hiB x) (loB x) HRW.out.1 (Nat.le_trans HBB.out HKB.out.size) (by omega)
  rw [hiB_cell,loB_cell] at hrun
  have HRUN:=hide hrun
  have HB2:=hide hb2
  have HK2:=hide (HKB.out.trans hk2)
  clear hcell hblk hx hlen hrun hb2 hk2
  go_wp2_with (at_builtin;refine Lib.wpList_append_run _ rfl _ _ _ _ rfl _ _ rfl rfl _ _ HRUN.out ?_)
  go_roundw
  case rel=>exact ⟨k+1,by go_num,hide ⟨by omega,⟨by rw [HT.out,←List.append_assoc];exact Or.inl HB2.out,fun _=>by rw [HT.out,←List.append_assoc];exact HB2.out⟩,HK2.out⟩⟩
  case measure=>simp [intOf];omega
theorem atwo_any (B:Nat) (v:Value) (ys:List UInt8) (a:Option Addr) (zs:List Int) (n c:Nat) (w:World) (hn:zs.length=n) (hz:n≤100000) (hl:ys.length≤1000000000) (hB:B≤w.heap.size) (h:BRow w B v ys) (hL:IL w a zs)
  (hr:∀i,i < zs.length→-4611686018427387904≤zs.getD i 0∧zs.getD i 0≤4611686018427387904) :
  Calls Tryz.prog 101 #[v,.slice a n c] w fun e w'=>∃v',e=.returned v'∧BRow w' B v' (ys++tw zs)∧KB B w w':=
 (atwo_buf B v ys a zs n c w hn hz hl hB (Or.inl h) hL hr).mono fun e w' ⟨v',h1,_,h3,h4⟩=>⟨v',h1,h3 (Or.inr h),h4⟩
set_option maxHeartbeats 1000000 in
theorem afour_any (B:Nat) (v:Value) (ys:List UInt8) (a:Option Addr) (zs:List Int) (n c:Nat) (w:World) (hn:zs.length=n) (hz:n≤100000) (hl:ys.length≤999000000) (hB:B≤w.heap.size) (h:BRow w B v ys) (hL:IL w a zs)
  (hr:∀i,i < zs.length→-4611686018427387904≤zs.getD i 0∧zs.getD i 0≤4611686018427387904) :
  Calls Tryz.prog 99 #[v,.slice a n c] w fun e w'=>∃v',e=.returned v'∧BRow w' B v' (ys++fo zs)∧KB B w w':=by
 have hz':(n:Int)≤100000:=by omega
 have HN:=hide hn
 have HL:=hide hL
 have HR:=hide hr
 have HLL:=hide hl
 have HBB:=hide hB
 have HV0:=hide h
 clear hn hL hr hl hB h
 go_enter Tryz.func99,Tryz.ntmps99
 go_wp2_with fail
 go_loopw [0,9] (fun vt vi wr=>∃(k:Nat),vi=.int .i64 k∧Hid (k≤n∧BRow wr B vt (ys++fo (zs.take k))∧KB B w wr)) (fun _ vi _=>n - (intOf vi).toNat)
 case atStart=>exact ⟨0,rfl,hide ⟨by omega,by simpa [fo] using HV0.out,KB.refl _ _⟩⟩
 case round=>
  obtain ⟨k,rfl,HV⟩:=hrel
  obtain ⟨hk,hrow,hkb⟩:=HV.out
  have hk0:(0:Int)≤(k:Int):=by omega
  have HRW:=hide hrow
  have HKB:=hide hkb
  clear HV hrow hkb
  by_cases hlt:k < n
  case neg=>
   have hlt':¬(k:Int) < (n:Int):=by omega
   have E:Hid (zs.take k=zs):=hide (List.take_of_length_le (by have:=HN.out;omega))
   go_wp2_with fail
   go_ret
   exact ⟨_,rfl,by have:=HRW.out;rw [E.out] at this;exact this,HKB.out⟩
  have hlt':(k:Int) < (n:Int):=by omega
  rcases HL.out.nb HKB.out.nb with hz | ⟨b,o,cs,f,rfl,hblk,hcell⟩
  ·have:=HN.out;rw [hz] at this;simp at this;omega
  have hc:=hcell k (by have:=HN.out;omega)
  have HT:=hide (fo_take zs k (by have:=HN.out;omega))
  have hlen:(ys++fo (zs.take k)).length≤999400000:=by
   rw [List.length_append,fo_len,List.length_take];have:=HLL.out;omega
  obtain ⟨x0,x1⟩:=HR.out k (by have:=HN.out;omega)
  have zb:b < wr.heap.size:=by
   rcases Nat.lt_or_ge b wr.heap.size with hl | hl
   ·exact hl
   ·rw [Array.getElem?_eq_none hl] at hblk;cases hblk
  obtain ⟨x,hx⟩:∃x,zs.getD k 0=x:=⟨_,rfl⟩
  rw [hx] at hc HT x0 x1
  have hal:Below B wr (wr.alloc (.cells #[.int .i64 (x / 65536),.int .i64 x] 3)):=(Below.refl B wr).alloc (Nat.le_trans HBB.out HKB.out.size) _
  have hnb:NB wr (wr.alloc (.cells #[.int .i64 (x / 65536),.int .i64 x] 3)):=NB.below ((Below.refl _ _).alloc (Nat.le_refl _) _)
  have C:=hide (atwo_any B u0 (ys++fo (zs.take k)) (some ⟨wr.heap.size,0,none⟩) [x / 65536,x] 2 2 (wr.alloc (.cells #[.int .i64 (x / 65536),.int .i64 x] 3)) rfl (by omega) (by omega) (Nat.le_trans HBB.out (Nat.le_trans HKB.out.size hal.size)) (World.ownsRow.alloc HRW.out _) (IL.blk (Blk.new _ _ _)) (by
   intro i hi
   match i,hi with
   | 0,_=>simp;omega
   | 1,_=>simp;omega))
  have HK2:=hide (HKB.out.trans ⟨hal,hnb⟩)
  clear hcell hblk hx hlen hal hnb
  go_wp2_with (go_at_call 101;refine C.out.mono ?_;rintro e w2 ⟨v2,rfl,hb2,hk2⟩;have HB2:=hide hb2;have HK3:=hide (HK2.out.trans hk2);clear hb2 hk2)
  go_roundw
  case rel=>exact ⟨k+1,by go_num,hide ⟨by omega,by rw [HT.out,←List.append_assoc];have:=HB2.out;simpa [tw,t4] using this,HK3.out⟩⟩
  case measure=>simp [intOf];omega
def opT (e:Int):List UInt8:=[0,0]++tw [1,3,e]++fo [12]
theorem opening_any (x:Int) (w:World) (x0:0≤x) (x1:x≤100) :
  Calls Tryz.prog 98 #[.int .i64 x] w fun e w'=>∃v',e=.returned v'∧BRow w' w.heap.size v' (opT x)∧KB w.heap.size w w':=by
 have kc:=fun (w:World) (C:Array Value) (n c:Nat)=>Lib.run_convert_bytes_const (P:=Tryz.prog) w 97 5 C n c Tryz.underlying97 Tryz.underlying5
 have hr:Buf (w.alloc (.cells #[.int .u8 0,.int .u8 0] 5 (2,3))) w.heap.size (.slice (some ⟨w.heap.size,0,none⟩) 2 2) [0,0]:=Or.inr ⟨rfl,w.heap.size,Nat.le_refl _,rfl,heap_alloc_new _ _⟩
 have hs:(w.alloc (.cells #[.int .u8 0,.int .u8 0] 5 (2,3))).heap.size=w.heap.size+1:=by simp
 have k1:KB w.heap.size w (w.alloc (.cells #[.int .u8 0,.int .u8 0] 5 (2,3))):=⟨(Below.refl _ _).alloc (Nat.le_refl _) _,NB.below ((Below.refl _ _).alloc (Nat.le_refl _) _)⟩
 have k2:KB w.heap.size (w.alloc (.cells #[.int .u8 0,.int .u8 0] 5 (2,3))) ((w.alloc (.cells #[.int .u8 0,.int .u8 0] 5 (2,3))).alloc (.cells #[.int .i64 1,.int .i64 3,.int .i64 x] 3)):=⟨(Below.refl _ _).alloc k1.size _,NB.below ((Below.refl _ _).alloc (Nat.le_refl _) _)⟩
 have il:IL ((w.alloc (.cells #[.int .u8 0,.int .u8 0] 5 (2,3))).alloc (.cells #[.int .i64 1,.int .i64 3,.int .i64 x] 3)) (some ⟨w.heap.size+1,0,none⟩) [1,3,x]:=by
  have:=IL.blk (zs:=[1,3,x]) (Blk.new (w.alloc (.cells #[.int .u8 0,.int .u8 0] 5 (2,3))) #[.int .i64 1,.int .i64 3,.int .i64 x] 3)
  rw [hs] at this
  exact this
 have C1:=hide (atwo_buf w.heap.size _ [0,0] (some ⟨w.heap.size+1,0,none⟩) [1,3,x] 3 3 _ rfl (by omega) (by simp) (Nat.le_trans k1.size k2.size) (hr.later ((Below.refl _ _).alloc (Nat.le_refl _) _)) il (by
  intro i hi
  match i,hi with
  | 0,_=>simp
  | 1,_=>simp
  | 2,_=>simp;omega))
 have K2:=hide (k1.trans k2)
 have C2:=hide (fun (v:Value) (W:World) (h:BRow W w.heap.size v ([0,0]++tw [1,3,x])) (hB:w.heap.size≤W.heap.size)=>afour_any w.heap.size v ([0,0]++tw [1,3,x]) (some ⟨W.heap.size,0,none⟩) [12] 1 1 (W.alloc (.cells #[.int .i64 12] 3)) rfl (by omega) (by simp [tw,t2]) (Nat.le_trans hB (by simp)) (World.ownsRow.alloc h _) (IL.blk (Blk.new _ _ _)) (by
  intro i hi
  match i,hi with
  | 0,_=>simp))
 clear hr k1 k2 il hs
 go_enter Tryz.func98,Tryz.ntmps98
 go_wp2_with fail
 refine C1.out.mono ?_
 rintro e w2 ⟨v2,rfl,_,hb2,hk2⟩
 have HB2:=hide (hb2 (Or.inl (by omega)))
 have HK2:=hide (K2.out.trans hk2)
 clear hb2 hk2
 go_wp2_with fail
 refine (C2.out _ _ HB2.out HK2.out.size).mono ?_
 rintro e w3 ⟨v3,rfl,hb3,hk3⟩
 have HB3:=hide hb3
 have HK3:=hide (HK2.out.trans (KB.trans ⟨(Below.refl _ _).alloc HK2.out.size _,NB.below ((Below.refl _ _).alloc (Nat.le_refl _) _)⟩ hk3))
 clear hb3 hk3
 go_wp2_with fail
 go_ret
 exact ⟨_,rfl,HB3.out,HK3.out⟩
def g3 (x:Ch):List UInt8:=fo [x.f,x.l,x.g]
def wiT (cs:List Ch):List UInt8:=opT 10++[0,12,0,0]++fo [16+12 * (cs.length:Int),0,(cs.length:Int)]++cs.flatMap g3
theorem take_ch (cs:List Ch) (k:Nat) (h:k < cs.length):cs.take (k+1)=cs.take k++[cs.getD k c0]:=by
 rw [List.take_succ_eq_append_getElem h,List.getD_eq_getElem?_getD,List.getElem?_eq_getElem h];rfl
theorem g3_take (cs:List Ch) (k:Nat) (h:k < cs.length):(cs.take (k+1)).flatMap g3=(cs.take k).flatMap g3++g3 (cs.getD k c0):=by
 rw [take_ch cs k h,List.flatMap_append];simp
theorem g3_len (cs:List Ch):(cs.flatMap g3).length=12 * cs.length:=by
 induction cs with
 | nil=>rfl
 | cons x r ih=>rw [List.flatMap_cons,List.length_append,ih,g3,fo_len];simp;omega
def small (z:Int):Prop:=-4611686018427387904≤z∧z≤4611686018427387904
def SC (x:Ch):Prop:=small x.f∧small x.l∧small x.g
set_option maxHeartbeats 1000000 in
theorem wide_any (a:Option Addr) (cs:List Ch) (len cap:Nat) (w:World) (hl:cs.length=len) (hm:len≤5000) (hr:∀i,i < cs.length→SC (cs.getD i c0)) (hL:CLst w a cs) :
  Calls Tryz.prog 64 #[.slice a len cap] w fun e w'=>∃v',e=.returned v'∧BRow w' w.heap.size v' (wiT cs)∧KB w.heap.size w w':=by
 have hm':(len:Int)≤5000:=by omega
 have hm0:(0:Int)≤(len:Int):=by omega
 have HL:=hide hL
 have HN:=hide hl
 have HR:=hide hr
 have HM:=hide hm
 have CO:=hide (opening_any 10 w (by omega) (by omega))
 obtain ⟨HD,hHD⟩:∃HD,opT 10++[0,12,0,0]++fo [16+12 * (len:Int),0,(len:Int)]=HD:=⟨_,rfl⟩
 have hHL:HD.length=28:=by rw [←hHD];simp [fo_len,opT,tw_len]
 have HWT:=hide (show wiT cs=HD++cs.flatMap g3 by unfold wiT;rw [hl,hHD])
 have CF0:=hide (fun (v:Value) (W:World) (h:BRow W w.heap.size v (opT 10++[0,12,0,0])) (hB:w.heap.size≤W.heap.size)=>afour_any w.heap.size v (opT 10++[0,12,0,0]) (some ⟨W.heap.size,0,none⟩) [16+12 * (len:Int),0,(len:Int)] 3 3 (W.alloc (.cells #[.int .i64 (16+12 * (len:Int)),.int .i64 0,.int .i64 (len:Int)] 3)) rfl (by omega) (by simp [opT,tw_len,fo_len]) (Nat.le_trans hB (by simp)) (World.ownsRow.alloc h _) (IL.blk (Blk.new _ _ _)) (by
  intro i hi
  match i,hi with
  | 0,_=>simp;omega
  | 1,_=>simp
  | 2,_=>simp;omega))
 rw [hHD] at CF0
 have HHL:=hide hHL
 clear hL hl hr hHD hHL hm
 go_enter Tryz.func64,Tryz.ntmps64
 go_wp2_with fail
 refine CO.out.mono ?_
 rintro e w1 ⟨v1,rfl,hb1,hk1⟩
 obtain ⟨v2,w2,hr2,hb2,hk2⟩:=app_s3 ⟨#[0,12,0,0]⟩ hb1 hk1.size (by simp [opT,tw_len,fo_len,ByteArray.size])
 have HR2:=hide hr2
 have HB2:=hide hb2
 have HK2:=hide (hk1.trans hk2)
 clear hb1 hk1 hr2 hb2 hk2
 go_wp2_with (at_builtin;refine Lib.wpList_append_run _ rfl _ _ _ _ rfl _ _ rfl rfl _ _ HR2.out ?_)
 refine (CF0.out _ _ HB2.out HK2.out.size).mono ?_
 rintro e w3 ⟨v3,rfl,hb3,hk3⟩
 have HB3:=hide hb3
 have HK3:=hide (HK2.out.trans (KB.trans ⟨(Below.refl _ _).alloc HK2.out.size _,NB.below ((Below.refl _ _).alloc (Nat.le_refl _) _)⟩ hk3))
 clear hb3 hk3
 go_wp2_with fail
 go_loopw [3,19] (fun vt vi wr=>∃(k:Nat),vi=.int .i64 k∧Hid (k≤len∧BRow wr w.heap.size vt (HD++(cs.take k).flatMap g3)∧KB w.heap.size w wr)) (fun _ vi _=>len - (intOf vi).toNat)
 case atStart=>exact ⟨0,rfl,hide ⟨by omega,by simpa using HB3.out,HK3.out⟩⟩
 case round=>
  obtain ⟨k,rfl,HV⟩:=hrel
  obtain ⟨hk,hrow,hkb⟩:=HV.out
  have hk0:(0:Int)≤(k:Int):=by omega
  have HRW:=hide hrow
  have HKB:=hide hkb
  clear HV hrow hkb HB2 HB3
  by_cases hlt:k < len
  case neg=>
   have hlt':¬(k:Int) < (len:Int):=by omega
   have E:Hid (cs.take k=cs):=hide (List.take_of_length_le (by have:=HN.out;omega))
   go_wp2_with fail
   go_ret
   exact ⟨_,rfl,by have:=HRW.out;rw [E.out,←HWT.out] at this;exact this,HKB.out⟩
  have hlt':(k:Int) < (len:Int):=by omega
  rcases HL.out with hz | ⟨b,o,rfl,hbl,hcell⟩
  ·have:=HN.out;rw [hz] at this;simp at this;omega
  obtain ⟨z0,z1,z2⟩:=hcell k (by have:=HN.out;omega)
  rw [←HKB.out.below.cell (p:=⟨b,_,none⟩) hbl] at z0 z1 z2
  have zb:b < wr.heap.size:=Nat.lt_of_lt_of_le hbl HKB.out.size
  have HT:=hide (g3_take cs k (by have:=HN.out;omega))
  obtain ⟨⟨x0,x1⟩,⟨x2,x3⟩,x4,x5⟩:=HR.out k (by have:=HN.out;omega)
  have hlen:(HD++(cs.take k).flatMap g3).length≤100000:=by
   rw [List.length_append,g3_len,List.length_take,HHL.out];have:=HM.out;omega
  obtain ⟨x,hx⟩:∃x,cs.getD k c0=x:=⟨_,rfl⟩
  rw [hx] at z0 z1 z2 HT x0 x1 x2 x3 x4 x5
  obtain ⟨f,l,g⟩:=x
  simp only at z0 z1 z2 x0 x1 x2 x3 x4 x5
  obtain ⟨wb,hwb⟩:∃wb,wr.alloc (.cells #[.int .i64 f,.int .i64 l,.int .i64 g] 68)=wb:=⟨_,rfl⟩
  have kb1:KB w.heap.size wr wb:=by rw [←hwb];exact ⟨(Below.refl _ _).alloc HKB.out.size _,NB.below ((Below.refl _ _).alloc (Nat.le_refl _) _)⟩
  have hrw:BRow wb w.heap.size u3 (HD++(cs.take k).flatMap g3):=by rw [←hwb];exact World.ownsRow.alloc HRW.out _
  have hs:wb.heap.size=wr.heap.size+1:=by rw [←hwb];simp
  have il:IL (wb.alloc (.cells #[.int .i64 f,.int .i64 l,.int .i64 g] 3)) (some ⟨wr.heap.size+1,0,none⟩) [f,l,g]:=by
   have:=IL.blk (zs:=[f,l,g]) (Blk.new wb #[.int .i64 f,.int .i64 l,.int .i64 g] 3)
   rw [hs] at this
   exact this
  have kb2:KB w.heap.size wb (wb.alloc (.cells #[.int .i64 f,.int .i64 l,.int .i64 g] 3)):=⟨(Below.refl _ _).alloc (Nat.le_trans HKB.out.size kb1.size) _,NB.below ((Below.refl _ _).alloc (Nat.le_refl _) _)⟩
  have C:=afour_any w.heap.size u3 (HD++(cs.take k).flatMap g3) (some ⟨wr.heap.size+1,0,none⟩) [f,l,g] 3 3 _ rfl (by omega) (by omega) (Nat.le_trans HKB.out.size (Nat.le_trans kb1.size kb2.size)) (World.ownsRow.alloc hrw _) il (by
   intro i hi
   match i,hi with
   | 0,_=>simp;omega
   | 1,_=>simp;omega
   | 2,_=>simp;omega)
  have HK4:=hide ((HKB.out.trans kb1).trans kb2)
  rw [←hwb] at C HK4
  have C:=hide C
  clear hcell hx hlen hwb kb1 kb2 hrw hs il
  go_wp2_with fail
  refine C.out.mono ?_
  rintro e w4 ⟨v4,rfl,hb4,hk4⟩
  have HB4:=hide hb4
  have HK5:=hide (HK4.out.trans hk4)
  clear hb4 hk4
  go_wp2_with fail
  go_roundw
  case rel=>exact ⟨k+1,by go_num,hide ⟨by omega,by rw [HT.out,←List.append_assoc];exact HB4.out,HK5.out⟩⟩
  case measure=>simp [intOf];omega
theorem good_small {cs:List Ch} {n:Int} (h:gooB cs n=true) (hn:n≤4096):cs.length≤4096∧∀i,i < cs.length→(0≤(cs.getD i c0).f∧(cs.getD i c0).f≤(cs.getD i c0).l∧(cs.getD i c0).l≤1114111∧1≤(cs.getD i c0).g∧(cs.getD i c0).g < 4096):=by
 obtain ⟨h1,h2⟩:=gooB_iff.1 h
 refine ⟨h1,fun i hi=>?_⟩
 have:=h2 i hi
 unfold okB at this
 rw [Bool.and_eq_true] at this
 obtain ⟨a,b,c,d,e,f,g⟩:=fitB_t.1 this.1
 refine ⟨b,a,c,e,by omega⟩
theorem good_sc {cs:List Ch} (h:gooB cs 4096=true):∀i,i < cs.length→SC (cs.getD i c0):=fun i hi=>by
 obtain ⟨a,b,c,d,e⟩:=(good_small h (by omega)).2 i hi
 unfold SC small
 omega
theorem build_bad (a:Option Addr) (cs:List Ch) (len cap:Nat) (wd:Bool) (w:World) (hl:cs.length=len) (hm:len≤1073741824) (hL:CLst w a cs) (hg:gooB cs 4096=false) :
  Calls Tryz.prog 30 #[.slice a len cap,.bool wd] w fun e w'=>e=.returned (.tuple #[.string ⟨#[]⟩,.int .i64 110])∧Below w.heap.size w w':=by
 have C:=hide (good_any a cs len cap 4096 w hl hm ⟨by omega,by omega⟩ hL)
 rw [hg] at C
 clear hl hm hL hg
 go_enter Tryz.func30,Tryz.ntmps30
 go_wp2_with fail
 refine C.out.mono ?_
 rintro e w1 ⟨rfl,h1⟩
 have H1:=hide h1
 clear h1
 go_wp2_with fail
 go_ret2
 exact ⟨rfl,H1.out⟩
theorem build_wide (a:Option Addr) (cs:List Ch) (len cap:Nat) (w:World) (hl:cs.length=len) (hL:CLst w a cs) (hg:gooB cs 4096=true) :
  Calls Tryz.prog 30 #[.slice a len cap,.bool true] w fun e w'=>e=.returned (.tuple #[.string ⟨(wiT cs).toArray⟩,.int .i64 0])∧Below w.heap.size w w':=by
 have hm:=(good_small hg (by omega)).1
 have C:=hide (good_any a cs len cap 4096 w hl (by omega) ⟨by omega,by omega⟩ hL)
 rw [hg] at C
 have CW:=hide (fun (w1:World) (h:Below w.heap.size w w1)=>wide_any a cs len cap w1 hl (by omega) (good_sc hg) (hL.below h))
 obtain ⟨TT,hTT⟩:∃TT,(⟨(wiT cs).toArray⟩:ByteArray)=TT:=⟨_,rfl⟩
 rw [hTT]
 have HTT:=hide hTT
 clear hl hm hL hg hTT
 go_enter Tryz.func30,Tryz.ntmps30
 go_wp2_with fail
 refine C.out.mono ?_
 rintro e w1 ⟨rfl,h1⟩
 have H1:=hide h1
 clear h1
 go_wp2_with fail
 refine (CW.out _ H1.out).mono ?_
 rintro e w2 ⟨v,rfl,hb2,hk2⟩
 have hcv:=BRow.text hb2
 have H2:=hide (H1.out.trans (hk2.below.mono H1.out.size))
 clear hb2 hk2
 rw [HTT.out] at hcv
 go_wp2_with fail
 go_ret2
 exact ⟨rfl,H2.out⟩
def ab:List Ch:=[⟨97,99,5⟩]
end Go.Proofs.YtpaadbnlhapdbaaGreatDoor.C11
