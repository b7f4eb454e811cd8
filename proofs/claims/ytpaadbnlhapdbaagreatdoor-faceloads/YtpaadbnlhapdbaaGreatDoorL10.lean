/-
  Joined: S8Row, S8Num, F12Bd, G10J0.
-/
import Derived.Deep.AppendLies
import Derived.Deep.Draws
import Derived.Deep.Trees
import Derived.Lib.AppendStr
import Derived.Lib.AppendZeros
import Derived.Lib.Strings
import Derived.Test.YtpaadbnlhapdbaaGreatDoorL05
import Derived.Test.YtpaadbnlhapdbaaGreatDoorL09
namespace Go.Proofs.YtpaadbnlhapdbaaGreatDoor
open Go.RowKit Go.Deep
set_option linter.unusedVariables false
theorem info_parts5 {t:TypeId} {z:Value} {a b:Nat} (h:(Tryz.prog.info? t).map (fun i=>(i.zero,i.size,i.bytes))=some (some z,a,b)):∃i,Tryz.prog.info? t=some i∧i.zero=some z∧i.size=a∧i.bytes=b:=by
 cases hi:Tryz.prog.info? t with
 | none=>rw [hi] at h;cases h
 | some i=>rw [hi] at h;simp at h;exact ⟨i,rfl,h.1,h.2.1,h.2.2⟩
theorem ownsRow_kept {w w':World} {B:Nat} {e:TypeId} {size n:Nat} {v:Value} {xs:List Value} (h:w.ownsRow B e size v n xs) (hk:∀k,B≤k→k < w.heap.size→w'.heap[k]?=w.heap[k]?):w'.ownsRow B e size v n xs:=by
 obtain ⟨h1,h2 | ⟨g,cap,cur,hv,hg,hh,hr⟩⟩:=h
 ·exact ⟨h1,Or.inl h2⟩
 ·have hlt:g < w.heap.size:=by
   rcases Nat.lt_or_ge g w.heap.size with h | h
   ·exact h
   ·rw [Array.getElem?_eq_none h] at hh;simp at hh
  exact ⟨h1,Or.inr ⟨g,cap,cur,hv,hg,by rw [hk g hg hlt];exact hh,hr⟩⟩
theorem bcells_one (l:List UInt8):∀u∈l.map bcell,u.oneCell'=true:=fun u hu=>by
 obtain ⟨_,_,rfl⟩:=List.mem_map.1 hu
 rfl
theorem below_t5 {V a x:World} (h:Below V.heap.size V a) (hx:Below a.heap.size a x):Below V.heap.size V x:=
 h.trans ⟨hx.os,hx.tape,hx.output,hx.size,fun k hk=>hx.block k (Nat.lt_of_lt_of_le hk h.size)⟩
theorem BRow.shape {w:World} {B:Nat} {v:Value} {ys:List UInt8} (h:BRow w B v ys):∃a cap,v=.slice a ys.length cap:=by
 obtain ⟨_,⟨h0,h1⟩ | ⟨g,cap,cur,hv,_⟩⟩:=h
 ·exact ⟨none,0,by rw [h0,h1]⟩
 ·exact ⟨_,cap,hv⟩
def Blk (w:World) (b:Nat) (cs:Array Value) (t:TypeId):Prop:=w.heap[b]?=some (.cells cs t (0,0))
theorem Blk.new (w:World) (cs:Array Value) (t:TypeId):Blk (w.alloc (.cells cs t)) w.heap.size cs t:=by
 unfold Blk
 show (w.heap.push (.cells cs t))[w.heap.size]?=_
 simp
theorem Blk.lt {w:World} {b:Nat} {cs:Array Value} {t:TypeId} (h:Blk w b cs t):b < w.heap.size:=by
 rcases Nat.lt_or_ge b w.heap.size with hl | hl
 ·exact hl
 ·unfold Blk at h;rw [Array.getElem?_eq_none hl] at h;cases h
theorem Blk.below {w w':World} {b:Nat} {cs:Array Value} {t:TypeId} (h:Blk w b cs t) (hb:Below w.heap.size w w'):Blk w' b cs t:=by
 have hl:=h.lt;unfold Blk at *;rw [hb.block b hl];exact h
theorem Blk.cell {w:World} {b:Nat} {cs:Array Value} {t:TypeId} (h:Blk w b cs t) (j:Nat):w.cell? ⟨b,j,none⟩=cs[j]?:=by
 unfold Blk at h;unfold World.cell?;simp [h]
theorem Blk.frozen {w:World} {b:Nat} {cs:Array Value} {t:TypeId} (h:Blk w b cs t) (j:Nat):w.frozen? ⟨b,j,none⟩=false:=by
 unfold Blk at h;unfold World.frozen?;simp [h]
theorem Blk.set {w:World} {b:Nat} {cs:Array Value} {t:TypeId} (h:Blk w b cs t) (j:Nat) (v:Value):Blk (w.setCell ⟨b,j,none⟩ v) b (cs.setIfInBounds j v) t:=by
 unfold Blk at *
 simp [World.setCell,Array.getElem?_modify,h]
theorem Blk.other {w:World} {b b':Nat} {cs:Array Value} {t:TypeId} (h:Blk w b cs t) (hne:b≠b') (j:Nat) (v:Value):Blk (w.setCell ⟨b',j,none⟩ v) b cs t:=by
 unfold Blk at *
 rw [Below.heap_setCell _ _ _ _ hne];exact h
theorem Blk.kept {w w':World} {b B:Nat} {cs:Array Value} {t:TypeId} (h:Blk w b cs t) (hb:Below B w w') (hl:b < B):Blk w' b cs t:=by
 unfold Blk at *;rw [hb.block b hl];exact h
theorem strCells_b (s:ByteArray):Lib.strCells s=s.data.toList.map bcell:=rfl
structure NB (w w':World):Prop where
 size:w.heap.size≤w'.heap.size
 block:∀k,k < w.heap.size→(∀c f,w.heap[k]?≠some (.cells c 5 f))→w'.heap[k]?=w.heap[k]?
theorem NB.refl (w:World):NB w w:=⟨Nat.le_refl _,fun _ _ _=>rfl⟩
theorem NB.trans {a b c:World} (h:NB a b) (k:NB b c):NB a c:=
 ⟨Nat.le_trans h.size k.size,fun i hi hn=>by
  have e:=h.block i hi hn
  rw [k.block i (Nat.lt_of_lt_of_le hi h.size) (by rw [e];exact hn),e]⟩
theorem NB.below {w w':World} (h:Below w.heap.size w w'):NB w w':=⟨h.size,fun k hk _=>h.block k hk⟩
theorem NB.grown {w w':World} {B:Nat} {v:Value} {ys:List UInt8} (h:BRow w B v ys) (hg:w.grownBy w' v.ownBlock):NB w w':=
 ⟨hg.size,fun k hk hn=>hg.block k hk (fun e=>by
  obtain ⟨_,⟨h0,_⟩ | ⟨g,cap,cur,hv,_,hh,_⟩⟩:=h
  ·rw [h0] at e;simp [Value.ownBlock] at e
  ·rw [hv] at e
   have : k=g:=by simpa [Value.ownBlock] using e
   subst this
   exact hn _ _ hh)⟩
theorem app_b2 {W:World} {B:Nat} {v:Value} {ys:List UInt8} (news:List UInt8) (h:BRow W B v ys) (hB:B≤W.heap.size) (hm:0 < news.length) (hl:ys.length+news.length≤140737488355328) (H:Nat) (hH:W.heap.size=H) :
  ∃v' w2,(Builtin.append_ #[97,97] 97 #[v,.slice (some ⟨H,0,none⟩) news.length news.length]).run Tryz.prog (W.alloc (.cells (news.map bcell).toArray 5))=.ok v' w2∧
   BRow w2 B v' (ys++news)∧Below B W w2∧NB W w2:=by
 obtain ⟨i0,hi,hz0,hz1,hz2⟩:=info_parts5 info_u8
 subst hH
 obtain ⟨g,cap,w2,hr,ho,hg,_,_⟩:=run_append_lies (P:=Tryz.prog) (W.alloc (.cells (news.map bcell).toArray 5)) 97 97 B 5 i0 _ 1 1 Tryz.underlying97 hi hz0 hz1 hz2 rfl (by decide) v ys.length (ys.map bcell) (World.ownsRow.alloc h _) ⟨W.heap.size,0,none⟩ news.length news.length (news.map bcell) (by simp)
  (fun j u hu=>by rw [Go.WideShapes.add_plain,Nat.zero_add,World.cell?_alloc_at _ _ _ _ rfl];simpa using hu) (bcells_one _) hm (by unfold maxLen;omega) (by omega) (by simp;omega) (W.heap.size+1) (by simp)
 refine ⟨_,w2,hr,?_,((Below.refl B W).alloc hB _).grown hg (by simp;omega) fun k hk'=>(World.ownsRow.lt h k hk').1,NB.trans (NB.below ((Below.refl _ _).alloc (Nat.le_refl _) _)) (NB.grown (World.ownsRow.alloc h _) hg)⟩
 unfold BRow
 rw [List.map_append,List.length_append]
 exact ho
theorem app_s2 {W:World} {B:Nat} {v:Value} {ys:List UInt8} (s:ByteArray) (h:BRow W B v ys) (hB:B≤W.heap.size) (hl:ys.length+s.size≤140737488355328) :
  ∃v' w2,(Builtin.append_ #[97,9] 97 #[v,.string s]).run Tryz.prog W=.ok v' w2∧BRow w2 B v' (ys++s.data.toList)∧Below B W w2∧NB W w2:=by
 obtain ⟨i0,hi,hz0,hz1,hz2⟩:=info_parts5 info_u8
 obtain ⟨v',w2,hr,ho,hg,_⟩:=Lib.run_append_own_string (P:=Tryz.prog) W B 97 9 97 5 i0 Tryz.underlying97 Tryz.underlying9 hi hz0 hz1 hz2 v ys.length (ys.map bcell) h s (by unfold maxLen;omega) hl hB
 refine ⟨v',w2,hr,?_,(Below.refl B W).grown hg (by omega) fun k hk'=>(World.ownsRow.lt h k hk').1,NB.grown h hg⟩
 unfold BRow
 rw [List.map_append,List.length_append,←Lib.size_eq,←strCells_b]
 exact ho
structure KB (B:Nat) (w w':World):Prop where
 below:Below B w w'
 nb:NB w w'
theorem KB.size {B:Nat} {w w':World} (h:KB B w w'):w.heap.size≤w'.heap.size:=h.nb.size
theorem KB.refl (B:Nat) (w:World):KB B w w:=⟨Below.refl _ _,NB.refl _⟩
theorem KB.trans {B:Nat} {a b c:World} (h:KB B a b) (k:KB B b c):KB B a c:=⟨h.below.trans k.below,h.nb.trans k.nb⟩
theorem app_b3 {W:World} {B:Nat} {v:Value} {ys:List UInt8} (news:List UInt8) (h:BRow W B v ys) (hB:B≤W.heap.size) (hm:0 < news.length) (hl:ys.length+news.length≤140737488355328) (H:Nat) (hH:W.heap.size=H) :
  ∃v' w2,(Builtin.append_ #[97,97] 97 #[v,.slice (some ⟨H,0,none⟩) news.length news.length]).run Tryz.prog (W.alloc (.cells (news.map bcell).toArray 5))=.ok v' w2∧BRow w2 B v' (ys++news)∧KB B W w2:=by
 obtain ⟨v',w2,a,b,c,d⟩:=app_b2 news h hB hm hl H hH
 exact ⟨v',w2,a,b,c,d⟩
theorem app_s3 {W:World} {B:Nat} {v:Value} {ys:List UInt8} (s:ByteArray) (h:BRow W B v ys) (hB:B≤W.heap.size) (hl:ys.length+s.size≤140737488355328) :
  ∃v' w2,(Builtin.append_ #[97,9] 97 #[v,.string s]).run Tryz.prog W=.ok v' w2∧BRow w2 B v' (ys++s.data.toList)∧KB B W w2:=by
 obtain ⟨v',w2,a,b,c,d⟩:=app_s2 s h hB hl
 exact ⟨v',w2,a,b,c,d⟩
theorem BRow.later {w w':World} {B:Nat} {v:Value} {ys:List UInt8} (h:BRow w B v ys) (hb:Below w.heap.size w w'):BRow w' B v ys:=ownsRow_kept h (fun k _ hk=>hb.block k hk)
theorem Blk.nb {w w':World} {b:Nat} {cs:Array Value} {t:TypeId} (h:Blk w b cs t) (hn:NB w w') (ht:t≠5):Blk w' b cs t:=by
 have hl:=h.lt
 unfold Blk at *
 rw [hn.block b hl (fun c f e=>by rw [h] at e;injection e with e;injection e with _ e _;exact ht e)]
 exact h
end Go.Proofs.YtpaadbnlhapdbaaGreatDoor
namespace Go.Proofs.YtpaadbnlhapdbaaGreatDoor.S8
open Go.RowKit Go.Deep
set_option linter.unusedVariables false
def numV (l:List UInt8):Nat:=l.foldl (fun x c=>x * 256+c.toNat) 0
theorem numV_snoc (l:List UInt8) (c:UInt8):numV (l++[c])=numV l * 256+c.toNat:=by
 unfold numV;rw [List.foldl_append];rfl
theorem numV_lt:∀(n:Nat) (l:List UInt8),l.length=n→numV l < 256 ^ n:=by
 intro n
 induction n with
 | zero=>intro l h;rw [List.eq_nil_of_length_eq_zero h];decide
 | succ n ih=>
  intro l h
  obtain ⟨a,c,rfl⟩:∃a c,l=a++[c]:=by
   rcases List.eq_nil_or_concat l with h0 | ⟨a,c,h0⟩
   ·rw [h0] at h;simp at h
   ·exact ⟨a,c,by simpa using h0⟩
  rw [numV_snoc,Nat.pow_succ]
  have h1:=ih a (by simpa using h)
  have h2:=c.toNat_lt
  omega
theorem or_256 (x:Int) (c:Int) (h0:0≤x) (h1:x≤16777216) (h2:0≤c) (h3:c < 256):bits BinOp.or .i64 (x * 256) c=x * 256+c:=
 bits_join .i64 63 (by decide) wraps_i64 8 (x * 256) c (by omega) (by omega) (by omega) h2 (by omega) (by omega)
set_option maxHeartbeats 1000000 in
theorem number_any (s:ByteArray) (w:World) (hs:s.size≤4) :
  Calls Tryz.prog 144 #[.string s] w fun e w'=>e=.returned (.int .i64 ((numV s.data.toList:Nat):Int))∧w'=w:=by
 have hs':(s.size:Int)≤4:=by omega
 go_enter Tryz.func144,Tryz.ntmps144
 go_wp2_with fail
 go_loop [3,7] (fun vs vi=>∃(k S:Nat),vi=.int .i64 k∧vs=.int .i64 S∧Hid (k≤s.size∧S=numV (s.data.toList.take k))) (fun _ vi=>s.size - (intOf vi).toNat)
 case atStart=>exact ⟨0,0,rfl,rfl,hide ⟨by omega,by simp [numV]⟩⟩
 case round=>
  obtain ⟨k,S,rfl,rfl,HV⟩:=hrel
  obtain ⟨hk,hS⟩:=HV.out
  have hk0:(0:Int)≤(k:Int):=by omega
  have hS0:(0:Int)≤(S:Int):=by omega
  have HS:=hide hS
  by_cases hlt:k < s.size
  case neg=>
   have hlt':¬(k:Int) < (s.size:Int):=by omega
   have e:S=numV s.data.toList:=by
    rw [hS,List.take_of_length_le (by rw [←Lib.size_eq];omega)]
   clear hlt HS HV hS
   subst e
   go_wp2_with fail
   go_ret
   exact ⟨rfl,rfl⟩
  have hlt':(k:Int) < (s.size:Int):=by omega
  have hc:=s[k].toNat_lt
  have hb:(S:Int)≤16777216:=by
   have h1:=numV_lt k (s.data.toList.take k) (by rw [List.length_take,Nat.min_eq_left (by rw [←Lib.size_eq];omega)])
   have h2:256 ^ k≤256 ^ 3:=Nat.pow_le_pow_right (by omega) (by omega)
   omega
  have ho:=or_256 S (s[k].toNat:Int) hS0 hb (by omega) (by omega)
  have st:numV (s.data.toList.take (k+1))=numV (s.data.toList.take k) * 256+s[k].toNat:=by rw [take_snoc8 s k hlt,numV_snoc]
  have HST:=hide st
  clear st HV hS
  go_wp2_with fail
  go_round
  case rel=>
   refine ⟨k+1,numV (s.data.toList.take (k+1)),by go_num,?_,hide ⟨hlt,rfl⟩⟩
   rw [HST.out,←HS.out]
   congr 1
  case measure=>simp [intOf];omega
def nbB (x:Int) (j:Nat):UInt8:=UInt8.ofNat (x / 256 ^ j % 256).toNat
def nbT (x:Int):Nat→List UInt8
 | 0=>[]
 | j+1=>nbB x j :: nbT x j
theorem nbT_len (x:Int):∀j,(nbT x j).length=j
 | 0=>rfl
 | j+1=>by rw [nbT,List.length_cons,nbT_len x j]
theorem nbB_cell (x:Int) (j:Nat):bcell (nbB x j)=.int .u8 (x / 256 ^ j % 256):=by
 unfold bcell nbB
 have h0:0≤x / 256 ^ j % 256:=Int.emod_nonneg _ (by omega)
 have h1:x / 256 ^ j % 256 < 256:=Int.emod_lt_of_pos _ (by omega)
 rw [UInt8.toNat_ofNat']
 congr 1
 omega
set_option maxRecDepth 8000 in
set_option maxHeartbeats 2000000 in
theorem appendNumber_any (v:Value) (ys:List UInt8) (x:Int) (n B:Nat) (w:World) (hn:n≤4) (hx0:-4611686018427387904≤x) (hx1:x≤4611686018427387904) (h:BRow w B v ys) (hB:B≤w.heap.size) (hl:ys.length≤1000000000000) :
  Calls Tryz.prog 112 #[v,.int .i64 x,.int .i64 n] w fun e w'=>∃v',e=.returned v'∧BRow w' B v' (ys++nbT x n)∧KB B w w':=by
 have H0:=hide h
 clear h
 go_enter Tryz.func112,Tryz.ntmps112
 go_wp2_with fail
 go_loopw [0,9] (fun vb vi wr=>∃(k:Nat) (zs:List UInt8),vi=.int .i64 k∧Hid (k≤n∧zs++nbT x (n - k)=ys++nbT x n∧zs.length=ys.length+k∧BRow wr B vb zs∧KB B w wr)) (fun _ vi _=>n - (intOf vi).toNat)
 case atStart=>exact ⟨0,ys,rfl,hide ⟨by omega,rfl,by omega,H0.out,KB.refl _ _⟩⟩
 case round=>
  clear H0
  obtain ⟨k,zs,rfl,HV⟩:=hrel
  obtain ⟨hk,hz,hzl,hb,hkb⟩:=HV.out
  have hk0:(0:Int)≤(k:Int):=by omega
  have HZ:=hide hz
  by_cases hlt:k < n
  case neg=>
   have hlt':¬(k:Int) < (n:Int):=by omega
   have e:zs=ys++nbT x n:=by
    rw [show n - k=0 by omega] at hz
    simpa [nbT] using hz
   have HB:=hide hb
   have HKB:=hide hkb
   have E:=hide e
   clear HV hz hb hkb e hlt HZ
   go_wp2_with fail
   go_ret
   refine ⟨_,rfl,?_,HKB.out⟩
   rw [←E.out]
   exact HB.out
  have hlt':(k:Int) < (n:Int):=by omega
  obtain ⟨v',w2,hr,hb2,hw2⟩:=app_b3 [nbB x (n - 1 - k)] hb (Nat.le_trans hB hkb.size) (by simp) (by simp;omega) _ rfl
  rw [show [nbB x (n - 1 - k)].map bcell=[bcell (nbB x (n - 1 - k))] from rfl,nbB_cell] at hr
  have e:zs++[nbB x (n - 1 - k)]++nbT x (n - (k+1))=ys++nbT x n:=by
   rw [←hz,show n - k=(n - 1 - k)+1 by omega,nbT,show n - (k+1)=n - 1 - k by omega,List.append_assoc]
   rfl
  have HR:=hide hr
  have HB2:=hide hb2
  have HK2:=hide (hkb.trans hw2)
  have E:=hide e
  have HZL:=hide hzl
  have hj:∃j:Nat,j=n - 1 - k∧j≤3:=⟨_,rfl,by omega⟩
  obtain ⟨j,hj,hj3⟩:=hj
  rw [←hj] at HR HB2 E
  have hjn:(n:Int) - 1 - (k:Int)=(j:Int):=by omega
  clear HV hz hb hkb e hr hb2 hw2 hzl hj HZ
  rcases (show j=0∨j=1∨j=2∨j=3 by omega) with rfl | rfl | rfl | rfl
  all_goals
   have hr1:=HR.out
   first | rw [show (256:Int) ^ 0=1 from rfl,Int.ediv_one] at hr1 | rw [show (256:Int) ^ 1=256 from rfl] at hr1 | rw [show (256:Int) ^ 2=65536 from rfl] at hr1 | rw [show (256:Int) ^ 3=16777216 from rfl] at hr1
   replace HR:=hide hr1
   clear hr1
   go_wp2_with (at_builtin;refine Lib.wpList_append_run _ rfl _ _ _ _ rfl _ _ rfl rfl _ _ HR.out ?_)
   go_roundw
   case rel=>exact ⟨k+1,_,by go_num,hide ⟨by omega,E.out,by rw [List.length_append,HZL.out,List.length_singleton];omega,HB2.out,HK2.out⟩⟩
   case measure=>simp [intOf];omega
end Go.Proofs.YtpaadbnlhapdbaaGreatDoor.S8
namespace Go.Proofs.YtpaadbnlhapdbaaGreatDoor
open Go.RowKit Go.Deep
theorem Blk.drewN {w:World} {b:Nat} {cs:Array Value} {t:TypeId} (h:Blk w b cs t) (n:Nat):Blk (w.drewN n) b cs t:=h
end Go.Proofs.YtpaadbnlhapdbaaGreatDoor
namespace Go.Proofs.YtpaadbnlhapdbaaGreatDoor
open Go.RowKit Go.Deep
set_option linter.unusedVariables false
def Grew (W w2:World) (B:Nat) (v v':Value) (ys:List UInt8):Prop:=
 BRow w2 B v' ys∧(v'.ownBlock=v.ownBlock∨v'.ownBlock=some W.heap.size)∧W.heap.size≤w2.heap.size∧(∀k,k < W.heap.size→v.ownBlock≠some k→w2.heap[k]?=W.heap[k]?)∧Below B W w2
theorem app_s4 {W:World} {B:Nat} {v:Value} {ys:List UInt8} (s:ByteArray) (h:BRow W B v ys) (hB:B≤W.heap.size) (hl:ys.length+s.size≤140737488355328) :
  ∃v' w2,(Builtin.append_ #[97,9] 97 #[v,.string s]).run Tryz.prog W=.ok v' w2∧Grew W w2 B v v' (ys++s.data.toList):=by
 obtain ⟨i0,hi,hz0,hz1,hz2⟩:=info_parts5 info_u8
 obtain ⟨v',w2,hr,ho,hg,hnil⟩:=Lib.run_append_own_string (P:=Tryz.prog) W B 97 9 97 5 i0 Tryz.underlying97 Tryz.underlying9 hi hz0 hz1 hz2 v ys.length (ys.map bcell) h s (by unfold maxLen;omega) hl hB
 refine ⟨v',w2,hr,?_,?_,hg.size,fun k hk hne=>hg.block k hk (Ne.symm hne),(Below.refl B W).grown hg (by omega) fun k hk'=>(World.ownsRow.lt h k hk').1⟩
 ·unfold BRow
  rw [List.map_append,List.length_append,←Lib.size_eq,←strCells_b]
  exact ho
 ·obtain ⟨hxl,⟨rfl,h0⟩ | ⟨g,cap,cur,rfl,hbg,hgc,hnc,hcm,hcs,htake⟩⟩:=h
  ·by_cases hm:s.size=0
   ·left
    rw [hnil.2 ⟨rfl,hm⟩]
   ·right
    have hr2:=run_append_nil_string (P:=Tryz.prog) W 97 9 97 5 i0 (.int .u8 0) Tryz.underlying97 Tryz.underlying9 hi hz0 s (by omega) (by omega) (by rw [hz2];omega)
    rw [hr] at hr2
    rw [(Result.ok.inj hr2).1];rfl
  ·by_cases hroom:ys.length+s.size≤cap
   ·left
    have hr2:=Lib.run_append_room_string (P:=Tryz.prog) W 97 9 97 5 i0 Tryz.underlying97 Tryz.underlying9 hi hz1 g ys.length cap cur hgc s hroom (by omega)
    rw [hr] at hr2
    rw [(Result.ok.inj hr2).1];rfl
   ·right
    have hc:∀j u,(ys.map bcell)[j]?=some u→W.cell? ((⟨g,0,none⟩:Addr).add j)=some u:=World.ownsRow.cells (g:=g) (show W.ownsRow B 5 1 (.slice (some ⟨g,0,none⟩) ys.length cap) ys.length (ys.map bcell) from ⟨hxl,Or.inr ⟨g,cap,cur,rfl,hbg,hgc,hnc,hcm,hcs,htake⟩⟩) rfl
    have hr2:=Lib.run_append_grow_string (P:=Tryz.prog) W 97 9 97 5 i0 (.int .u8 0) Tryz.underlying97 Tryz.underlying9 hi hz0 ⟨g,0,none⟩ ys.length cap (ys.map bcell) (by rw [hz1];simp) hc s (by omega) (by omega) (by rw [hz2];exact growslice_fits (by omega) (by omega))
    rw [hr] at hr2
    rw [(Result.ok.inj hr2).1];rfl
theorem app_b4 {W:World} {B:Nat} {v:Value} {ys:List UInt8} (news:List UInt8) (h:BRow W B v ys) (hB:B≤W.heap.size) (hm:0 < news.length) (hl:ys.length+news.length≤140737488355328) (H:Nat) (hH:W.heap.size=H) :
  ∃v' w2,(Builtin.append_ #[97,97] 97 #[v,.slice (some ⟨H,0,none⟩) news.length news.length]).run Tryz.prog (W.alloc (.cells (news.map bcell).toArray 5))=.ok v' w2∧
   Grew (W.alloc (.cells (news.map bcell).toArray 5)) w2 B v v' (ys++news):=by
 obtain ⟨i0,hi,hz0,hz1,hz2⟩:=info_parts5 info_u8
 subst hH
 have hB':B≤(W.alloc (.cells (news.map bcell).toArray 5)).heap.size:=by simp;omega
 obtain ⟨g,cap,w2,hr,ho,hg,hat,_⟩:=run_append_lies (P:=Tryz.prog) (W.alloc (.cells (news.map bcell).toArray 5)) 97 97 B 5 i0 _ 1 1 Tryz.underlying97 hi hz0 hz1 hz2 rfl (by decide) v ys.length (ys.map bcell) (World.ownsRow.alloc h _) ⟨W.heap.size,0,none⟩ news.length news.length (news.map bcell) (by simp)
  (fun j u hu=>by rw [Go.WideShapes.add_plain,Nat.zero_add,World.cell?_alloc_at _ _ _ _ rfl];simpa using hu) (bcells_one _) hm (by unfold maxLen;omega) (by omega) hB' _ rfl
 refine ⟨_,w2,hr,?_,?_,hg.size,fun k hk hne=>hg.block k hk (Ne.symm hne),(Below.refl B _).grown hg hB' fun k hk'=>(World.ownsRow.lt h k hk').1⟩
 ·unfold BRow
  rw [List.map_append,List.length_append]
  exact ho
 ·rcases hat with hat | hat
  ·exact Or.inl (by rw [hat];rfl)
  ·exact Or.inr (by rw [hat];rfl)
def zeS (k:Nat):ByteArray:=⟨(List.replicate k (0:UInt8)).toArray⟩
set_option maxHeartbeats 1000000 in
theorem zeros_0 (base:Option Addr) (sLen sCap:Nat) (w:World) (h1:sLen≤1000000000000) (h0:sLen≤sCap) (h2:¬sLen+0≤sCap→Builtin.nextslicecap (sLen+0) sCap≤281474976710656) :
  (Builtin.append_ #[97,3] 97 #[.slice base sLen sCap,.int .i64 0]).run Tryz.prog w=(Builtin.append_ #[97,9] 97 #[.slice base sLen sCap,.string ⟨#[]⟩]).run Tryz.prog w:=by
 obtain ⟨i,hi,hz,hs,hb⟩:=info_parts5 info_u8
 have hw:IntKind.i64.wrap (0:Int)=0:=by rw [IntKind.wrap_i64];omega
 have e1:(Builtin.zeroCells (Value.int IntKind.u8 0).cells 0)=#[]:=by kernel_rfl
 have e2:(ByteArray.mk #[]).size=0:=rfl
 simp [Builtin.append_,run_underlying Tryz.underlying97,run_underlying Tryz.underlying3,run_underlying Tryz.underlying9,sizeOf,typeInfo,zeroValue,hi,hz,hs,hb,asInt,asIntOf,hw,Builtin.lenOf,e2,h0,Builtin.firstCells,e1]
set_option maxHeartbeats 1000000 in
theorem zeros_1 (base:Option Addr) (sLen sCap:Nat) (w:World) (h1:sLen≤1000000000000) (h0:sLen≤sCap) (h2:¬sLen+1≤sCap→Builtin.nextslicecap (sLen+1) sCap≤281474976710656) :
  (Builtin.append_ #[97,3] 97 #[.slice base sLen sCap,.int .i64 1]).run Tryz.prog w=(Builtin.append_ #[97,9] 97 #[.slice base sLen sCap,.string ⟨#[0]⟩]).run Tryz.prog w:=by
 obtain ⟨i,hi,hz,hs,hb⟩:=info_parts5 info_u8
 have hw:IntKind.i64.wrap (1:Int)=1:=by rw [IntKind.wrap_i64];omega
 have e1:(Builtin.zeroCells (Value.int IntKind.u8 0).cells 1)=#[.int .u8 0]:=by kernel_rfl
 have e2:(ByteArray.mk #[0]).size=1:=rfl
 have n1:¬(9223372036854775807 < ((sLen:Int)+1)):=by omega
 by_cases hr:sLen+1≤sCap
 ·simp [Builtin.append_,run_underlying Tryz.underlying97,run_underlying Tryz.underlying3,run_underlying Tryz.underlying9,sizeOf,typeInfo,zeroValue,hi,hz,hs,hb,asInt,asIntOf,hw,Builtin.lenOf,e2,hr,Builtin.firstCells,e1]
 ·have n2:¬(281474976710656 < Builtin.nextslicecap (sLen+1) sCap):=by have:=h2 hr;omega
  simp [Builtin.append_,run_underlying Tryz.underlying97,run_underlying Tryz.underlying3,run_underlying Tryz.underlying9,sizeOf,typeInfo,zeroValue,hi,hz,hs,hb,asInt,asIntOf,hw,Builtin.lenOf,e2,hr,Builtin.firstCells,e1,n1,n2]
  intro h
  exact absurd h (by omega)
set_option maxHeartbeats 1000000 in
theorem zeros_2 (base:Option Addr) (sLen sCap:Nat) (w:World) (h1:sLen≤1000000000000) (h0:sLen≤sCap) (h2:¬sLen+2≤sCap→Builtin.nextslicecap (sLen+2) sCap≤281474976710656) :
  (Builtin.append_ #[97,3] 97 #[.slice base sLen sCap,.int .i64 2]).run Tryz.prog w=(Builtin.append_ #[97,9] 97 #[.slice base sLen sCap,.string ⟨#[0,0]⟩]).run Tryz.prog w:=by
 obtain ⟨i,hi,hz,hs,hb⟩:=info_parts5 info_u8
 have hw:IntKind.i64.wrap (2:Int)=2:=by rw [IntKind.wrap_i64];omega
 have e1:(Builtin.zeroCells (Value.int IntKind.u8 0).cells 2)=#[.int .u8 0,.int .u8 0]:=by kernel_rfl
 have e2:(ByteArray.mk #[0,0]).size=2:=rfl
 have n1:¬(9223372036854775807 < ((sLen:Int)+2)):=by omega
 by_cases hr:sLen+2≤sCap
 ·simp [Builtin.append_,run_underlying Tryz.underlying97,run_underlying Tryz.underlying3,run_underlying Tryz.underlying9,sizeOf,typeInfo,zeroValue,hi,hz,hs,hb,asInt,asIntOf,hw,Builtin.lenOf,e2,hr,Builtin.firstCells,e1]
 ·have n2:¬(281474976710656 < Builtin.nextslicecap (sLen+2) sCap):=by have:=h2 hr;omega
  simp [Builtin.append_,run_underlying Tryz.underlying97,run_underlying Tryz.underlying3,run_underlying Tryz.underlying9,sizeOf,typeInfo,zeroValue,hi,hz,hs,hb,asInt,asIntOf,hw,Builtin.lenOf,e2,hr,Builtin.firstCells,e1,n1,n2]
  intro h
  exact absurd h (by omega)
set_option maxHeartbeats 1000000 in
theorem zeros_3 (base:Option Addr) (sLen sCap:Nat) (w:World) (h1:sLen≤1000000000000) (h0:sLen≤sCap) (h2:¬sLen+3≤sCap→Builtin.nextslicecap (sLen+3) sCap≤281474976710656) :
  (Builtin.append_ #[97,3] 97 #[.slice base sLen sCap,.int .i64 3]).run Tryz.prog w=(Builtin.append_ #[97,9] 97 #[.slice base sLen sCap,.string ⟨#[0,0,0]⟩]).run Tryz.prog w:=by
 obtain ⟨i,hi,hz,hs,hb⟩:=info_parts5 info_u8
 have hw:IntKind.i64.wrap (3:Int)=3:=by rw [IntKind.wrap_i64];omega
 have e1:(Builtin.zeroCells (Value.int IntKind.u8 0).cells 3)=#[.int .u8 0,.int .u8 0,.int .u8 0]:=by kernel_rfl
 have e2:(ByteArray.mk #[0,0,0]).size=3:=rfl
 have n1:¬(9223372036854775807 < ((sLen:Int)+3)):=by omega
 by_cases hr:sLen+3≤sCap
 ·simp [Builtin.append_,run_underlying Tryz.underlying97,run_underlying Tryz.underlying3,run_underlying Tryz.underlying9,sizeOf,typeInfo,zeroValue,hi,hz,hs,hb,asInt,asIntOf,hw,Builtin.lenOf,e2,hr,Builtin.firstCells,e1]
 ·have n2:¬(281474976710656 < Builtin.nextslicecap (sLen+3) sCap):=by have:=h2 hr;omega
  simp [Builtin.append_,run_underlying Tryz.underlying97,run_underlying Tryz.underlying3,run_underlying Tryz.underlying9,sizeOf,typeInfo,zeroValue,hi,hz,hs,hb,asInt,asIntOf,hw,Builtin.lenOf,e2,hr,Builtin.firstCells,e1,n1,n2]
  intro h
  exact absurd h (by omega)
theorem BRow.cap {w:World} {B:Nat} {v:Value} {ys:List UInt8} (h:BRow w B v ys):∃a cap,v=.slice a ys.length cap∧ys.length≤cap:=by
 obtain ⟨_,⟨h0,h1⟩ | ⟨g,cap,cur,hv,_,_,hc,_⟩⟩:=h
 ·exact ⟨none,0,by rw [h0,h1],by omega⟩
 ·exact ⟨_,cap,hv,hc⟩
theorem app_z4 {W:World} {B:Nat} {v:Value} {ys:List UInt8} (k:Nat) (h:BRow W B v ys) (hB:B≤W.heap.size) (hk:k≤3) (hl:ys.length≤1000000000) :
  ∃v' w2,(Builtin.append_ #[97,3] 97 #[v,.int .i64 (k:Int)]).run Tryz.prog W=.ok v' w2∧Grew W w2 B v v' (ys++List.replicate k 0):=by
 have e2:(zeS k).size=k:=by rw [Lib.size_eq];simp [zeS]
 obtain ⟨v',w2,hr,hg⟩:=app_s4 (zeS k) h hB (by rw [e2];omega)
 obtain ⟨a,cap,rfl,hcap⟩:=h.cap
 refine ⟨v',w2,?_,hg⟩
 have hf:∀m,¬ys.length+m≤cap→m≤3→Builtin.nextslicecap (ys.length+m) cap≤281474976710656:=fun m hn hm=>by
  have h:=growslice_fits (need:=ys.length+m) (old:=cap) (bytes:=1) (by omega) (by omega)
  omega
 rcases (show k=0∨k=1∨k=2∨k=3 by omega) with rfl | rfl | rfl | rfl
 ·exact (zeros_0 a ys.length cap W (by omega) hcap (fun hn=>hf 0 hn (by omega))).trans hr
 ·exact (zeros_1 a ys.length cap W (by omega) hcap (fun hn=>hf 1 hn (by omega))).trans hr
 ·exact (zeros_2 a ys.length cap W (by omega) hcap (fun hn=>hf 2 hn (by omega))).trans hr
 ·exact (zeros_3 a ys.length cap W (by omega) hcap (fun hn=>hf 3 hn (by omega))).trans hr
def Apart (v v':Value):Prop:=∀k,v.ownBlock=some k→v'.ownBlock≠some k
structure B2 (w u:World) (v1 v2:Value) (y1 y2:List UInt8):Prop where
 i1:BRow u w.heap.size v1 y1
 i2:BRow u w.heap.size v2 y2
 ap:Apart v1 v2
 low:Below w.heap.size w u
theorem BRow.keep {w w':World} {B:Nat} {v:Value} {ys:List UInt8} (h:BRow w B v ys) (hk:∀k,v.ownBlock=some k→k < w.heap.size→w'.heap[k]?=w.heap[k]?):BRow w' B v ys:=by
 obtain ⟨h1,h2 | ⟨g,cap,cur,hv,hg,hh,hr⟩⟩:=h
 ·exact ⟨h1,Or.inl h2⟩
 ·have hlt:g < w.heap.size:=by
   rcases Nat.lt_or_ge g w.heap.size with h | h
   ·exact h
   ·rw [Array.getElem?_eq_none h] at hh;simp at hh
  exact ⟨h1,Or.inr ⟨g,cap,cur,hv,hg,by rw [hk g (by rw [hv];rfl) hlt];exact hh,hr⟩⟩
theorem B2.swap {w u:World} {v1 v2:Value} {y1 y2:List UInt8} (h:B2 w u v1 v2 y1 y2):B2 w u v2 v1 y2 y1:=⟨h.i2,h.i1,fun k h1 h2=>h.ap k h2 h1,h.low⟩
theorem B2.later {w u u':World} {v1 v2:Value} {y1 y2:List UInt8} (h:B2 w u v1 v2 y1 y2) (hb:Below u.heap.size u u'):B2 w u' v1 v2 y1 y2:=
 ⟨h.i1.later hb,h.i2.later hb,h.ap,h.low.trans (hb.mono h.low.size)⟩
theorem B2.grew {w u w2:World} {v1 v2 v':Value} {y1 y2 ys:List UInt8} (h:B2 w u v1 v2 y1 y2) (hg:Grew u w2 w.heap.size v1 v' ys):B2 w w2 v' v2 ys y2:=by
 obtain ⟨h1,h2,h3,h4,h5⟩:=hg
 refine ⟨h1,h.i2.keep (fun k hk hl=>h4 k hl (fun e=>h.ap k e hk)),fun k e1 e2=>?_,h.low.trans h5⟩
 rcases h2 with h2 | h2
 ·rw [h2] at e1;exact h.ap k e1 e2
 ·rw [h2] at e1
  injection e1 with e1
  have:=(World.ownsRow.lt h.i2 k e2).2
  omega
end Go.Proofs.YtpaadbnlhapdbaaGreatDoor
