/-
  Joined: G10Rs.
-/
import Derived.Test.YtpaadbnlhapdbaaGreatDoorL26
namespace Go.Proofs.YtpaadbnlhapdbaaGreatDoor.G10
open Go.RowKit Go.Deep
set_option linter.unusedVariables false
set_option linter.unusedSimpArgs false
theorem or_two (x y:Int) (hx0:0≤x) (hx:x < 65536) (hy0:0≤y) (hy:y < 65536):bits .or .i64 (x * 65536) y=x * 65536+y:=
 bits_join .i64 62 (by decide) (fun n h0 h1=>by rw [IntKind.wrap_i64];omega) 16 (x * 65536) y (by omega) (by omega) (by omega) hy0 (by omega) (by omega)
theorem ru4_any (s:ByteArray) (k:Nat) (z:Int) (w:World) (hz:z=(k:Int)) (h:k+4≤s.size) (hm:s.size≤1073741824) :
  Calls Tryz.prog 39 #[.string s,.int .i64 z] w fun e w'=>e=.returned (.int .i64 ((n4 s.data.toList k:Nat):Int))∧∃n,w'=w.drewN n:=by
 subst hz
 have C1:=hide (fun z w (hz:z=(k:Int))=>ru2_any s k z w hz (by omega) hm)
 have C2:=hide (fun z w (hz:z=((k+2:Nat):Int))=>ru2_any s (k+2) z w hz (by omega) hm)
 have h1:=n2_lt s.data.toList k
 have h2:=n2_lt s.data.toList (k+2)
 have HV:Hid (((n4 s.data.toList k:Nat):Int)=((n2 s.data.toList k:Nat):Int) * 65536+((n2 s.data.toList (k+2):Nat):Int)):=hide (by unfold n4;omega)
 generalize n4 s.data.toList k=R at HV ⊢
 generalize n2 s.data.toList k=A at C1 h1 HV
 generalize n2 s.data.toList (k+2)=B at C2 h2 HV
 have ho:=or_two (A:Int) (B:Int) (by omega) (by omega) (by omega) (by omega)
 have hv:=HV.out
 rw [←hv] at ho
 have k0:(0:Int)≤(k:Int):=by omega
 have k1:(k:Int)≤1073741824:=by omega
 have a1:(A:Int)≤65535:=by omega
 have a0:(0:Int)≤(A:Int):=by omega
 clear h1 h2 hv h hm
 go_enter Tryz.func39,Tryz.ntmps39
 go_wp2_with fail
 refine (C1.out _ _ rfl).mono ?_
 rintro e wy ⟨rfl,m1,hy⟩
 subst wy
 go_wp2_with fail
 refine (C2.out _ _ (by omega)).mono ?_
 rintro e wy ⟨rfl,m2,hy⟩
 subst wy
 go_wp2_with fail
 go_ret
 exact ⟨rfl,_,rfl⟩
def SRw (w:World) (B:Nat) (v:Value) (zs:List ByteArray):Prop:=w.ownsRow B 9 1 v zs.length (zs.map Value.string)
theorem SRw.nil (w:World) (B:Nat):SRw w B (.slice none 0 0) []:=World.ownsRow_nil _ _ _ _
theorem SRw.lst {w:World} {B:Nat} {v:Value} {zs:List ByteArray} (h:SRw w B v zs):∃a cap,v=.slice a zs.length cap∧SLst w a zs:=by
 have h':=h
 obtain ⟨_,⟨h0,h1⟩ | ⟨g,cap,cur,hv,hg,hh,hc,hm,_⟩⟩:=h'
 ·exact ⟨none,0,by rw [h0,h1],Or.inl (List.eq_nil_of_length_eq_zero h1)⟩
 ·refine ⟨some ⟨g,0,none⟩,cap,hv,?_⟩
  rw [hv] at h
  refine Or.inr ⟨g,0,rfl,(World.ownsRow.lt h g rfl).2,fun i hi=>?_⟩
  rw [Nat.zero_add,World.ownsRow.cellAt h i (by omega),List.getElem?_map,List.getElem?_eq_getElem hi,List.getD_eq_getElem?_getD,List.getElem?_eq_getElem hi]
  rfl
theorem SRw.kept {w w':World} {B:Nat} {v:Value} {zs:List ByteArray} (h:SRw w B v zs) (hb:Below w.heap.size w w'):SRw w' B v zs:=ownsRow_kept h fun k _ hl=>hb.block k hl
theorem app_t1 {W:World} {B:Nat} {v:Value} {zs:List ByteArray} (x:ByteArray) (h:SRw W B v zs) (hB:B≤W.heap.size) (hl:zs.length≤1000000) (H:Nat) (hH:W.heap.size=H) :
  ∃v' w2,(Builtin.append_ #[27,27] 27 #[v,.slice (some ⟨H,0,none⟩) 1 1]).run Tryz.prog (W.alloc (.cells #[.string x] 9))=.ok v' w2∧SRw w2 B v' (zs++[x])∧Below B W w2:=by
 obtain ⟨i0,hi,hz0,hz1,hz2⟩:=info_parts5 info_str
 subst hH
 obtain ⟨g,cap,w2,hr,ho,hg,hat,_⟩:=run_append_lies (P:=Tryz.prog) (W.alloc (.cells #[.string x] 9)) 27 27 B 9 i0 _ 1 16 Tryz.underlying27 hi hz0 hz1 hz2 rfl (by decide) v zs.length (zs.map Value.string) (World.ownsRow.alloc h _) ⟨W.heap.size,0,none⟩ 1 1 [.string x] (by simp)
  (fun j u hu=>by rw [Go.WideShapes.add_plain,Nat.zero_add,World.cell?_alloc_at _ _ _ _ rfl];simpa using hu) (fun u hu=>by simp at hu;subst hu;rfl) (by decide) (by unfold maxLen;omega) (by omega) (by simp;omega) (W.heap.size+1) (by simp)
 refine ⟨_,w2,hr,?_,((Below.refl B W).alloc hB _).grown hg (by simp;omega) fun k hk'=>(World.ownsRow.lt h k hk').1⟩
 unfold SRw
 rw [List.map_append,List.length_append]
 exact ho
def RsR (w:World) (l:List UInt8) (g:ByteArray) (n:Int) (lg:Bool) (e:Ending) (w':World):Prop:=
 if splB l g.size n lg=true then ∃v,e=.returned (.tuple #[v,.int .i64 0])∧SRw w' w.heap.size v (splV l g n.toNat lg)∧Below w.heap.size w w'
 else e=.returned (.tuple #[.slice none 0 0,.int .i64 100])∧Below w.heap.size w w'
theorem splV_snoc (l:List UInt8) (g:ByteArray) (k:Nat) (lg:Bool):splV l g (k+1) lg=splV l g k lg++[splG l g lg k]:=by
 unfold splV;rw [List.range_succ,List.map_append];rfl
theorem splV_len (l:List UInt8) (g:ByteArray) (k:Nat) (lg:Bool):(splV l g k lg).length=k:=by simp [splV]
set_option maxHeartbeats 1000000 in
theorem rspl_bad_t (l g:ByteArray) (n:Int) (w:World) (hl:l.size≤1000000) (hn0:-9223372036854775808≤n) (hn1:n≤9223372036854775807) (h:¬(1≤n∧n≤4096∧4 * (n.toNat+1)≤l.size)) :
  Calls Tryz.prog 18 #[.string l,.string g,.int .i64 n,.bool true] w fun e w'=>e=.returned (.tuple #[.slice none 0 0,.int .i64 100])∧w'=w:=by
 have hl':(l.size:Int)≤1000000:=by omega
 by_cases h1:n < 1
 ·have t1:decide (n < 1)=true:=by simpa using h1
  clear h
  go_enter Tryz.func18,Tryz.ntmps18
  go_wp2_with fail
  go_ret2
  exact ⟨rfl,rfl⟩
 have t1:decide (n < 1)=false:=by simpa using h1
 by_cases h2:4096 < n
 ·have t2:decide (4096 < n)=true:=by simpa using h2
  clear h
  go_enter Tryz.func18,Tryz.ntmps18
  go_wp2_with fail
  go_ret2
  exact ⟨rfl,rfl⟩
 have t2:decide (4096 < n)=false:=by simpa using h2
 have h3:(l.size:Int) < 4 * (n+1):=by omega
 have t3:decide ((l.size:Int) < 4 * (n+1))=true:=by simpa using h3
 have b1:1≤n:=by omega
 have b2:n≤4096:=by omega
 clear h h1 h2
 go_enter Tryz.func18,Tryz.ntmps18
 go_wp2_with fail
 go_ret2
 exact ⟨rfl,rfl⟩
set_option maxHeartbeats 1000000 in
theorem rspl_bad_f (l g:ByteArray) (n:Int) (w:World) (hl:l.size≤1000000) (hn0:-9223372036854775808≤n) (hn1:n≤9223372036854775807) (h:¬(1≤n∧n≤4096∧2 * (n.toNat+1)≤l.size)) :
  Calls Tryz.prog 18 #[.string l,.string g,.int .i64 n,.bool false] w fun e w'=>e=.returned (.tuple #[.slice none 0 0,.int .i64 100])∧w'=w:=by
 have hl':(l.size:Int)≤1000000:=by omega
 by_cases h1:n < 1
 ·have t1:decide (n < 1)=true:=by simpa using h1
  clear h
  go_enter Tryz.func18,Tryz.ntmps18
  go_wp2_with fail
  go_ret2
  exact ⟨rfl,rfl⟩
 have t1:decide (n < 1)=false:=by simpa using h1
 by_cases h2:4096 < n
 ·have t2:decide (4096 < n)=true:=by simpa using h2
  clear h
  go_enter Tryz.func18,Tryz.ntmps18
  go_wp2_with fail
  go_ret2
  exact ⟨rfl,rfl⟩
 have t2:decide (4096 < n)=false:=by simpa using h2
 have h3:(l.size:Int) < 2 * (n+1):=by omega
 have t3:decide ((l.size:Int) < 2 * (n+1))=true:=by simpa using h3
 have b1:1≤n:=by omega
 have b2:n≤4096:=by omega
 clear h h1 h2
 go_enter Tryz.func18,Tryz.ntmps18
 go_wp2_with fail
 go_ret2
 exact ⟨rfl,rfl⟩
set_option maxRecDepth 8000 in
set_option maxHeartbeats 4000000 in
theorem rspl_t (l g:ByteArray) (n:Nat) (w:World) (hl:l.size≤1000000) (hg:g.size≤1000000) (h1:1≤n) (h2:n≤4096) (h3:4 * (n+1)≤l.size) :
  Calls Tryz.prog 18 #[.string l,.string g,.int .i64 (n:Int),.bool true] w (RsR w l.data.toList g (n:Int) true):=by
 have hl':(l.size:Int)≤1000000:=by omega
 have hg':(g.size:Int)≤1000000:=by omega
 have t1:decide ((n:Int) < 1)=false:=by simp;omega
 have t2:decide (4096 < (n:Int))=false:=by simp;omega
 have t3:decide ((l.size:Int) < 4 * ((n:Int)+1))=false:=by simp;omega
 have b1:(1:Int)≤(n:Int):=by omega
 have b2:(n:Int)≤4096:=by omega
 have HF:=hide (And.intro hl (And.intro hg (And.intro h1 (And.intro h2 h3))))
 have HSB:Hid (splB l.data.toList g.size (n:Int) true=(srtB (plI l.data.toList true) (n+1) && decide (plc l.data.toList true n≤g.size))):=hide (by
  unfold splB
  rw [Int.toNat_natCast,decide_eq_true (show 1≤(n:Int)∧(n:Int)≤4096∧szV true * (n+1)≤l.data.toList.length from ⟨b1,b2,by rw [←Lib.size_eq];exact h3⟩)]
  rfl)
 have HNO:Hid (∀k,k≤n→(g.size < plc l.data.toList true k∨(0 < k∧plc l.data.toList true k < plc l.data.toList true (k - 1)))→splB l.data.toList g.size (n:Int) true=false):=hide fun k hk h=>by
  cases e:splB l.data.toList g.size (n:Int) true with
  | false=>rfl
  | true=>
   exfalso
   rw [HSB.out,Bool.and_eq_true] at e
   have e2:plc l.data.toList true n≤g.size:=by simpa using e.2
   rcases h with h | ⟨h0,h⟩
   ·have:=srt_mono e.1 (n - k) k (by omega)
    rw [show k+(n - k)=n by omega] at this
    unfold plI at this
    omega
   ·have:=srt_mono e.1 1 (k - 1) (by omega)
    rw [show k - 1+1=k by omega] at this
    unfold plI at this
    omega
 have CU:=hide (fun (k:Nat) (z:Int) (w:World) (hz:z=(k:Int)) (h:k+2≤l.size)=>ru2_any l k z w hz h (by omega))
 have CV:=hide (fun (k:Nat) (z:Int) (w:World) (hz:z=(k:Int)) (h:k+4≤l.size)=>ru4_any l k z w hz h (by omega))
 have HPL:=hide (plc_le l.data.toList true)
 clear hl hg h1 h2 h3
 go_enter Tryz.func18,Tryz.ntmps18
 go_wp2_with fail
 go_loopw [11,12,13] (fun vo vl vi wr=>∃(k L:Nat),vi=.int .i64 (k:Int)∧vl=.int .i64 (L:Int)∧Hid (k≤n+1∧(k=0→L=0)∧(0 < k→L=plc l.data.toList true (k - 1))∧(∀i,i < k→plc l.data.toList true i≤g.size)∧(∀i,i+1 < k→plc l.data.toList true i≤plc l.data.toList true (i+1))∧SRw wr w.heap.size vo (splV l.data.toList g (k - 1) true)∧Below w.heap.size w wr)) (fun _ _ vi _=>n+1 - (intOf vi).toNat)
 case atStart=>exact ⟨0,0,rfl,rfl,hide ⟨by omega,fun _=>rfl,fun h=>by omega,fun i h=>by omega,fun i h=>by omega,SRw.nil _ _,Below.refl _ _⟩⟩
 case round=>
  obtain ⟨k,L,rfl,rfl,HV⟩:=hrel
  obtain ⟨k1,l0,l1,k3,k4,k5,k6⟩:=HV.out
  have hk0:(0:Int)≤(k:Int):=by omega
  have K3:=hide k3
  have K4:=hide k4
  have K5:=hide k5
  have K6:=hide k6
  have HL0:=hide (And.intro l0 l1)
  have hf:=HF.out
  have hLg:L≤g.size:=by
   by_cases e:k=0
   ·rw [l0 e];omega
   ·rw [l1 (by omega)];exact k3 _ (by omega)
  have hLi:(L:Int)≤(g.size:Int):=by omega
  have hL0:(0:Int)≤(L:Int):=by omega
  have HFR:=hide hf
  clear HV k3 k4 k5 k6
  by_cases hk:k≤n
  case neg=>
   obtain rfl:k=n+1:=by omega
   have hk':¬((n+1:Nat):Int)≤(n:Int):=by omega
   have E:=hide (show splB l.data.toList g.size (n:Int) true=true by
    rw [HSB.out,Bool.and_eq_true,srt_iff]
    refine ⟨fun i hi=>?_,by simpa using K3.out n (by omega)⟩
    have:=K4.out i hi
    unfold plI
    omega)
   obtain ⟨ad,cap,hv,_⟩:=K5.out.lst
   subst hv
   clear hf hk hLg l0 l1
   go_wp2_with fail
   go_ret2
   unfold RsR
   rw [E.out,Int.toNat_natCast]
   exact ⟨_,rfl,K5.out,K6.out⟩
  have hk':(k:Int)≤(n:Int):=by omega
  have hn2:=n2_lt l.data.toList (2 * k)
  have CA:=hide (fun z w (hz:z=((2 * k:Nat):Int))=>CU.out (2 * k) z w hz (by omega))
  have CB:=hide (fun z w (hz:z=((4 * k:Nat):Int))=>CV.out (4 * k) z w hz (by omega))
  have hpl:n4 l.data.toList (4 * k)=plc l.data.toList true k:=by unfold plc;rfl
  rw [hpl] at CB
  have hn2i:((n2 l.data.toList (2 * k):Nat):Int)≤65535:=by omega
  generalize n2 l.data.toList (2 * k)=Y at CA hn2i
  clear hpl hn2
  have hP:=HPL.out k
  have HPE:Hid (plc l.data.toList true k=plc l.data.toList true (k+1 - 1)):=hide (by rw [Nat.add_sub_cancel])
  have K7:Hid (plc l.data.toList true k≤g.size→(0 < k→L≤plc l.data.toList true k)→(∀i,i < k+1→plc l.data.toList true i≤g.size)∧(∀i,i+1 < k+1→plc l.data.toList true i≤plc l.data.toList true (i+1))):=hide fun q1 q2=>by
   refine ⟨fun i hi=>?_,fun i hi=>?_⟩
   ·by_cases e:i=k
    ·subst e;exact q1
    ·exact K3.out i (by omega)
   ·by_cases e:i+1=k
    ·subst e
     have:=q2 (by omega)
     rw [HL0.out.2 (by omega)] at this
     exact this
    ·exact K4.out i (by omega)
  have HNK:=hide (HNO.out k hk)
  have HNX:Hid (0 < k→plc l.data.toList true (k - 1)=L):=hide fun h=>(HL0.out.2 h).symm
  have HSN:Hid (0 < k→splV l.data.toList g (k - 1) true++[g.extract L (plc l.data.toList true k)]=splV l.data.toList g (k+1 - 1) true):=hide fun h=>by
   obtain ⟨j,rfl⟩:∃j,k=j+1:=⟨k - 1,by omega⟩
   rw [show j+1+1 - 1=j+1 by omega,splV_snoc,HL0.out.2 h]
   rfl
  generalize plc l.data.toList true k=P at CB HPE hP K7 HNK HSN
  have hPi:(P:Int)≤4294967295:=by omega
  have hP0:(0:Int)≤(P:Int):=by omega
  clear hf
  by_cases hPg:P≤g.size
  case neg=>
   have hPg':(g.size:Int) < (P:Int):=by omega
   have hPd:decide ((g.size:Int) < (P:Int))=true:=by simpa using hPg'
   have E:=hide (HNK.out (Or.inl (by omega)))
   go_wp2_with fail
   refine (CA.out _ _ (by omega)).mono ?_
   rintro e wy ⟨rfl,m1,hy⟩
   have HBy:Hid (Below wr.heap.size wr wy):=hide (by rw [hy];exact below_drewN' _ _)
   clear hy
   go_wp2_with fail
   refine (CB.out _ _ (by omega)).mono ?_
   rintro e wz ⟨rfl,m2,hy⟩
   replace HBy:Hid (Below wr.heap.size wr wz):=hide (below_t5 HBy.out (by rw [hy];exact below_drewN' _ _))
   clear hy
   go_wp2_with fail
   go_ret2
   unfold RsR
   rw [E.out]
   exact ⟨rfl,below_t5 K6.out HBy.out⟩
  have hPg':¬(g.size:Int) < (P:Int):=by omega
  have hPd:decide ((g.size:Int) < (P:Int))=false:=by simpa using hPg'
  by_cases hkz:k=0
  ·subst hkz
   have hd0:decide ((0:Int) < ((0:Nat):Int))=false:=by simp
   have K8:=hide (K7.out hPg (fun h=>by omega))
   go_wp2_with fail
   refine (CA.out _ _ (by omega)).mono ?_
   rintro e wy ⟨rfl,m1,hy⟩
   have HBy:Hid (Below wr.heap.size wr wy):=hide (by rw [hy];exact below_drewN' _ _)
   clear hy
   go_wp2_with fail
   refine (CB.out _ _ (by omega)).mono ?_
   rintro e wz ⟨rfl,m2,hy⟩
   replace HBy:Hid (Below wr.heap.size wr wz):=hide (below_t5 HBy.out (by rw [hy];exact below_drewN' _ _))
   clear hy
   go_wp2_with fail
   go_roundw
   case rel=>exact ⟨1,P,rfl,by first | rfl | exact congrArg (Value.int .i64) (by omega),hide ⟨by omega,fun h=>by omega,fun _=>HPE.out,K8.out.1,K8.out.2,K5.out.kept HBy.out,below_t5 K6.out HBy.out⟩⟩
   case measure=>first | (simp [intOf];done) | (simp [intOf];omega)
  have hkp:(0:Int) < (k:Int):=by omega
  have hkd:decide ((0:Int) < (k:Int))=true:=by simpa using hkp
  have hkd2:decide (0 < k)=true:=by simp;omega
  by_cases hfl:P < L
  ·have hfl':(P:Int) < (L:Int):=by omega
   have hfd:decide ((P:Int) < (L:Int))=true:=by simpa using hfl'
   have hfd2:decide (P < L)=true:=by simpa using hfl
   have E:=hide (HNK.out (Or.inr ⟨by omega,by rw [HNX.out (by omega)];exact hfl⟩))
   go_wp2_with fail
   refine (CA.out _ _ (by omega)).mono ?_
   rintro e wy ⟨rfl,m1,hy⟩
   have HBy:Hid (Below wr.heap.size wr wy):=hide (by rw [hy];exact below_drewN' _ _)
   clear hy
   go_wp2_with fail
   refine (CB.out _ _ (by omega)).mono ?_
   rintro e wz ⟨rfl,m2,hy⟩
   replace HBy:Hid (Below wr.heap.size wr wz):=hide (below_t5 HBy.out (by rw [hy];exact below_drewN' _ _))
   clear hy
   go_wp2_with fail
   go_ret2
   unfold RsR
   rw [E.out]
   exact ⟨rfl,below_t5 K6.out HBy.out⟩
  ·have hfl':¬(P:Int) < (L:Int):=by omega
   have hfd:decide ((P:Int) < (L:Int))=false:=by simpa using hfl'
   have hfd2:decide (P < L)=false:=by simpa using hfl
   have hle:(L:Int)≤(P:Int):=by omega
   have hle2:(P:Int)≤(g.size:Int):=by omega
   have K8:=hide (K7.out hPg (fun h=>by omega))
   have HS:=hide (HSN.out (by omega))
   go_wp2_with fail
   refine (CA.out _ _ (by omega)).mono ?_
   rintro e wy ⟨rfl,m1,hy⟩
   have HBy:Hid (Below wr.heap.size wr wy):=hide (by rw [hy];exact below_drewN' _ _)
   clear hy
   go_wp2_with fail
   refine (CB.out _ _ (by omega)).mono ?_
   rintro e wz ⟨rfl,m2,hy⟩
   replace HBy:Hid (Below wr.heap.size wr wz):=hide (below_t5 HBy.out (by rw [hy];exact below_drewN' _ _))
   clear hy
   obtain ⟨ad,cap,hv,_⟩:=K5.out.lst
   obtain ⟨v',w2,hr,r1,r2⟩:=app_t1 (g.extract L P) (K5.out.kept HBy.out) (Nat.le_trans K6.out.size HBy.out.size) (by rw [splV_len];omega) wz.heap.size rfl
   have HRU:=hide hr
   have H1:Hid (SRw w2 w.heap.size v' (splV l.data.toList g (k+1 - 1) true)):=hide (by rw [←HS.out];exact r1)
   have H2:Hid (Below w.heap.size w w2):=hide ((below_t5 K6.out HBy.out).trans r2)
   clear hr r1 r2 hv
   go_wp2_with (at_builtin;refine Lib.wpList_append_run _ rfl _ _ _ _ rfl _ _ rfl rfl _ _ HRU.out ?_)
   go_roundw
   case rel=>exact ⟨k+1,P,by go_num,by first | rfl | exact congrArg (Value.int .i64) (by omega),hide ⟨by omega,fun h=>by omega,fun _=>HPE.out,K8.out.1,K8.out.2,H1.out,H2.out⟩⟩
   case measure=>simp [intOf];omega
set_option maxRecDepth 8000 in
set_option maxHeartbeats 4000000 in
theorem rspl_f (l g:ByteArray) (n:Nat) (w:World) (hl:l.size≤1000000) (hg:g.size≤1000000) (h1:1≤n) (h2:n≤4096) (h3:2 * (n+1)≤l.size) :
  Calls Tryz.prog 18 #[.string l,.string g,.int .i64 (n:Int),.bool false] w (RsR w l.data.toList g (n:Int) false):=by
 have hl':(l.size:Int)≤1000000:=by omega
 have hg':(g.size:Int)≤1000000:=by omega
 have t1:decide ((n:Int) < 1)=false:=by simp;omega
 have t2:decide (4096 < (n:Int))=false:=by simp;omega
 have t3:decide ((l.size:Int) < 2 * ((n:Int)+1))=false:=by simp;omega
 have b1:(1:Int)≤(n:Int):=by omega
 have b2:(n:Int)≤4096:=by omega
 have HF:=hide (And.intro hl (And.intro hg (And.intro h1 (And.intro h2 h3))))
 have HSB:Hid (splB l.data.toList g.size (n:Int) false=(srtB (plI l.data.toList false) (n+1) && decide (plc l.data.toList false n≤g.size))):=hide (by
  unfold splB
  rw [Int.toNat_natCast,decide_eq_true (show 1≤(n:Int)∧(n:Int)≤4096∧szV false * (n+1)≤l.data.toList.length from ⟨b1,b2,by rw [←Lib.size_eq];exact h3⟩)]
  rfl)
 have HNO:Hid (∀k,k≤n→(g.size < plc l.data.toList false k∨(0 < k∧plc l.data.toList false k < plc l.data.toList false (k - 1)))→splB l.data.toList g.size (n:Int) false=false):=hide fun k hk h=>by
  cases e:splB l.data.toList g.size (n:Int) false with
  | false=>rfl
  | true=>
   exfalso
   rw [HSB.out,Bool.and_eq_true] at e
   have e2:plc l.data.toList false n≤g.size:=by simpa using e.2
   rcases h with h | ⟨h0,h⟩
   ·have:=srt_mono e.1 (n - k) k (by omega)
    rw [show k+(n - k)=n by omega] at this
    unfold plI at this
    omega
   ·have:=srt_mono e.1 1 (k - 1) (by omega)
    rw [show k - 1+1=k by omega] at this
    unfold plI at this
    omega
 have CU:=hide (fun (k:Nat) (z:Int) (w:World) (hz:z=(k:Int)) (h:k+2≤l.size)=>ru2_any l k z w hz h (by omega))
 have CV:=hide (fun (k:Nat) (z:Int) (w:World) (hz:z=(k:Int)) (h:k+4≤l.size)=>ru4_any l k z w hz h (by omega))
 have HPL:=hide (plc_le l.data.toList false)
 clear hl hg h1 h2 h3
 go_enter Tryz.func18,Tryz.ntmps18
 go_wp2_with fail
 go_loopw [11,12,13] (fun vo vl vi wr=>∃(k L:Nat),vi=.int .i64 (k:Int)∧vl=.int .i64 (L:Int)∧Hid (k≤n+1∧(k=0→L=0)∧(0 < k→L=plc l.data.toList false (k - 1))∧(∀i,i < k→plc l.data.toList false i≤g.size)∧(∀i,i+1 < k→plc l.data.toList false i≤plc l.data.toList false (i+1))∧SRw wr w.heap.size vo (splV l.data.toList g (k - 1) false)∧Below w.heap.size w wr)) (fun _ _ vi _=>n+1 - (intOf vi).toNat)
 case atStart=>exact ⟨0,0,rfl,rfl,hide ⟨by omega,fun _=>rfl,fun h=>by omega,fun i h=>by omega,fun i h=>by omega,SRw.nil _ _,Below.refl _ _⟩⟩
 case round=>
  obtain ⟨k,L,rfl,rfl,HV⟩:=hrel
  obtain ⟨k1,l0,l1,k3,k4,k5,k6⟩:=HV.out
  have hk0:(0:Int)≤(k:Int):=by omega
  have K3:=hide k3
  have K4:=hide k4
  have K5:=hide k5
  have K6:=hide k6
  have HL0:=hide (And.intro l0 l1)
  have hf:=HF.out
  have hLg:L≤g.size:=by
   by_cases e:k=0
   ·rw [l0 e];omega
   ·rw [l1 (by omega)];exact k3 _ (by omega)
  have hLi:(L:Int)≤(g.size:Int):=by omega
  have hL0:(0:Int)≤(L:Int):=by omega
  have HFR:=hide hf
  clear HV k3 k4 k5 k6
  by_cases hk:k≤n
  case neg=>
   obtain rfl:k=n+1:=by omega
   have hk':¬((n+1:Nat):Int)≤(n:Int):=by omega
   have E:=hide (show splB l.data.toList g.size (n:Int) false=true by
    rw [HSB.out,Bool.and_eq_true,srt_iff]
    refine ⟨fun i hi=>?_,by simpa using K3.out n (by omega)⟩
    have:=K4.out i hi
    unfold plI
    omega)
   obtain ⟨ad,cap,hv,_⟩:=K5.out.lst
   subst hv
   clear hf hk hLg l0 l1
   go_wp2_with fail
   go_ret2
   unfold RsR
   rw [E.out,Int.toNat_natCast]
   exact ⟨_,rfl,K5.out,K6.out⟩
  have hk':(k:Int)≤(n:Int):=by omega
  have hn2:=n2_lt l.data.toList (2 * k)
  have CA:=hide (fun z w (hz:z=((2 * k:Nat):Int))=>CU.out (2 * k) z w hz (by omega))
  have hpl:2 * n2 l.data.toList (2 * k)=plc l.data.toList false k:=by unfold plc;rfl
  obtain ⟨Y,hY⟩:∃Y,n2 l.data.toList (2 * k)=Y:=⟨_,rfl⟩
  rw [hY] at CA hpl hn2
  have hn2i:(Y:Int)≤65535:=by omega
  have hpi:2 * (Y:Int)=((plc l.data.toList false k:Nat):Int):=by omega
  clear hpl hn2 hY
  have hP:=HPL.out k
  have HPE:Hid (plc l.data.toList false k=plc l.data.toList false (k+1 - 1)):=hide (by rw [Nat.add_sub_cancel])
  have K7:Hid (plc l.data.toList false k≤g.size→(0 < k→L≤plc l.data.toList false k)→(∀i,i < k+1→plc l.data.toList false i≤g.size)∧(∀i,i+1 < k+1→plc l.data.toList false i≤plc l.data.toList false (i+1))):=hide fun q1 q2=>by
   refine ⟨fun i hi=>?_,fun i hi=>?_⟩
   ·by_cases e:i=k
    ·subst e;exact q1
    ·exact K3.out i (by omega)
   ·by_cases e:i+1=k
    ·subst e
     have:=q2 (by omega)
     rw [HL0.out.2 (by omega)] at this
     exact this
    ·exact K4.out i (by omega)
  have HNK:=hide (HNO.out k hk)
  have HNX:Hid (0 < k→plc l.data.toList false (k - 1)=L):=hide fun h=>(HL0.out.2 h).symm
  have HSN:Hid (0 < k→splV l.data.toList g (k - 1) false++[g.extract L (plc l.data.toList false k)]=splV l.data.toList g (k+1 - 1) false):=hide fun h=>by
   obtain ⟨j,rfl⟩:∃j,k=j+1:=⟨k - 1,by omega⟩
   rw [show j+1+1 - 1=j+1 by omega,splV_snoc,HL0.out.2 h]
   rfl
  generalize plc l.data.toList false k=P at hpi HPE hP K7 HNK HSN
  have hPi:(P:Int)≤4294967295:=by omega
  have hP0:(0:Int)≤(P:Int):=by omega
  clear hf
  by_cases hPg:P≤g.size
  case neg=>
   have hPg':(g.size:Int) < (P:Int):=by omega
   have hPd:decide ((g.size:Int) < (P:Int))=true:=by simpa using hPg'
   have E:=hide (HNK.out (Or.inl (by omega)))
   go_wp2_with fail
   refine (CA.out _ _ (by omega)).mono ?_
   rintro e wy ⟨rfl,m1,hy⟩
   have HBy:Hid (Below wr.heap.size wr wy):=hide (by rw [hy];exact below_drewN' _ _)
   clear hy
   go_wp2_with fail
   go_ret2
   unfold RsR
   rw [E.out]
   exact ⟨rfl,below_t5 K6.out HBy.out⟩
  have hPg':¬(g.size:Int) < (P:Int):=by omega
  have hPd:decide ((g.size:Int) < (P:Int))=false:=by simpa using hPg'
  by_cases hkz:k=0
  ·subst hkz
   have hd0:decide ((0:Int) < ((0:Nat):Int))=false:=by simp
   have K8:=hide (K7.out hPg (fun h=>by omega))
   go_wp2_with fail
   refine (CA.out _ _ (by omega)).mono ?_
   rintro e wy ⟨rfl,m1,hy⟩
   have HBy:Hid (Below wr.heap.size wr wy):=hide (by rw [hy];exact below_drewN' _ _)
   clear hy
   go_wp2_with fail
   go_roundw
   case rel=>exact ⟨1,P,rfl,by first | rfl | exact congrArg (Value.int .i64) (by omega),hide ⟨by omega,fun h=>by omega,fun _=>HPE.out,K8.out.1,K8.out.2,K5.out.kept HBy.out,below_t5 K6.out HBy.out⟩⟩
   case measure=>first | (simp [intOf];done) | (simp [intOf];omega)
  have hkp:(0:Int) < (k:Int):=by omega
  have hkd:decide ((0:Int) < (k:Int))=true:=by simpa using hkp
  have hkd2:decide (0 < k)=true:=by simp;omega
  by_cases hfl:P < L
  ·have hfl':(P:Int) < (L:Int):=by omega
   have hfd:decide ((P:Int) < (L:Int))=true:=by simpa using hfl'
   have hfd2:decide (P < L)=true:=by simpa using hfl
   have E:=hide (HNK.out (Or.inr ⟨by omega,by rw [HNX.out (by omega)];exact hfl⟩))
   go_wp2_with fail
   refine (CA.out _ _ (by omega)).mono ?_
   rintro e wy ⟨rfl,m1,hy⟩
   have HBy:Hid (Below wr.heap.size wr wy):=hide (by rw [hy];exact below_drewN' _ _)
   clear hy
   go_wp2_with fail
   go_ret2
   unfold RsR
   rw [E.out]
   exact ⟨rfl,below_t5 K6.out HBy.out⟩
  ·have hfl':¬(P:Int) < (L:Int):=by omega
   have hfd:decide ((P:Int) < (L:Int))=false:=by simpa using hfl'
   have hfd2:decide (P < L)=false:=by simpa using hfl
   have hle:(L:Int)≤(P:Int):=by omega
   have hle2:(P:Int)≤(g.size:Int):=by omega
   have K8:=hide (K7.out hPg (fun h=>by omega))
   have HS:=hide (HSN.out (by omega))
   go_wp2_with fail
   refine (CA.out _ _ (by omega)).mono ?_
   rintro e wy ⟨rfl,m1,hy⟩
   have HBy:Hid (Below wr.heap.size wr wy):=hide (by rw [hy];exact below_drewN' _ _)
   clear hy
   obtain ⟨ad,cap,hv,_⟩:=K5.out.lst
   obtain ⟨v',w2,hr,r1,r2⟩:=app_t1 (g.extract L P) (K5.out.kept HBy.out) (Nat.le_trans K6.out.size HBy.out.size) (by rw [splV_len];omega) wy.heap.size rfl
   have HRU:=hide hr
   have H1:Hid (SRw w2 w.heap.size v' (splV l.data.toList g (k+1 - 1) false)):=hide (by rw [←HS.out];exact r1)
   have H2:Hid (Below w.heap.size w w2):=hide ((below_t5 K6.out HBy.out).trans r2)
   clear hr r1 r2 hv
   go_wp2_with (at_builtin;refine Lib.wpList_append_run _ rfl _ _ _ _ rfl _ _ rfl rfl _ _ HRU.out ?_)
   go_roundw
   case rel=>exact ⟨k+1,P,by go_num,by first | rfl | exact congrArg (Value.int .i64) (by omega),hide ⟨by omega,fun h=>by omega,fun _=>HPE.out,K8.out.1,K8.out.2,H1.out,H2.out⟩⟩
   case measure=>simp [intOf];omega
theorem rsplit_any (l g:ByteArray) (n:Int) (lg:Bool) (w:World) (hl:l.size≤1000000) (hg:g.size≤1000000) (hn0:-9223372036854775808≤n) (hn1:n≤9223372036854775807) :
  Calls Tryz.prog 18 #[.string l,.string g,.int .i64 n,.bool lg] w (RsR w l.data.toList g n lg):=by
 have hsz:=Lib.size_eq l
 by_cases h:1≤n∧n≤4096∧szV lg * (n.toNat+1)≤l.data.toList.length
 ·obtain ⟨m,rfl⟩:∃m:Nat,n=(m:Int):=⟨n.toNat,by omega⟩
  rw [←hsz,Int.toNat_natCast] at h
  cases lg
  ·exact rspl_f l g m w hl hg (by omega) (by omega) h.2.2
  ·exact rspl_t l g m w hl hg (by omega) (by omega) h.2.2
 ·have e:=spl_no (G:=g.size) h
  have C:Calls Tryz.prog 18 #[.string l,.string g,.int .i64 n,.bool lg] w fun e w'=>e=.returned (.tuple #[.slice none 0 0,.int .i64 100])∧w'=w:=by
   rw [←hsz] at h
   cases lg
   ·exact rspl_bad_f l g n w hl hn0 hn1 h
   ·exact rspl_bad_t l g n w hl hn0 hn1 h
  refine C.mono ?_
  rintro e' w' ⟨rfl,rfl⟩
  unfold RsR
  rw [e]
  exact ⟨rfl,Below.refl _ _⟩
end Go.Proofs.YtpaadbnlhapdbaaGreatDoor.G10
