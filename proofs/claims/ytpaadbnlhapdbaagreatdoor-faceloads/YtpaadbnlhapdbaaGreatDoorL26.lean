/-
  Joined: G10Sp, G10Ja, G10Jl, G10Qa.
-/
import Derived.BigQuiet
import Derived.Deep.CutRange
import Derived.Deep.QuietTactic
import Derived.Test.YtpaadbnlhapdbaaGreatDoorL10
import Derived.Test.YtpaadbnlhapdbaaGreatDoorL25
namespace Go.Proofs.YtpaadbnlhapdbaaGreatDoor.G10
open Go.RowKit Go.Deep
set_option linter.unusedVariables false
set_option linter.unusedSimpArgs false
theorem below_d {V a b x:World} (h:Below V.heap.size V a) (hx:Below b.heap.size b x) (e0:b.os=a.os) (e1:b.tape=a.tape) (e2:b.output=a.output) (e3:b.heap=a.heap):Below V.heap.size V x:=
 h.trans ⟨hx.os.trans e0,hx.tape.trans e1,hx.output.trans e2,e3 ▸ hx.size,fun k hk=>by rw [hx.block k (by rw [e3];exact Nat.lt_of_lt_of_le hk h.size),e3]⟩
theorem cell_other {w:World} {G H o j:Nat} {v:Value} (h:G≠H):(w.setCell ⟨H,o,none⟩ v).cell? ⟨G,j,none⟩=w.cell? ⟨G,j,none⟩:=World.cell?_of_block (w:=w) (Below.heap_setCell _ _ _ _ h)
theorem srt_mono {f:Nat→Int} {n:Nat} (h:srtB f n=true):∀d i,i+d < n→f i≤f (i+d):=by
 intro d
 induction d with
 | zero=>intro i _;simp
 | succ d ih=>
  intro i hi
  have h1:=ih i (by omega)
  have h2:=(srt_iff f n).1 h (i+d) (by omega)
  have : i+(d+1)=i+d+1:=by omega
  rw [this];omega
def szV (lg:Bool):Nat:=if lg then 4 else 2
def plc (l:List UInt8) (lg:Bool) (i:Nat):Nat:=if lg then n4 l (4 * i) else 2 * n2 l (2 * i)
def plI (l:List UInt8) (lg:Bool) (i:Nat):Int:=((plc l lg i:Nat):Int)
theorem plc_le (l:List UInt8) (lg:Bool) (i:Nat):plc l lg i≤4294967295:=by
 have h1:=n4_lt l (4 * i)
 have h2:=n2_lt l (2 * i)
 unfold plc
 split <;> omega
def splB (l:List UInt8) (G:Nat) (n:Int) (lg:Bool):Bool:=
 decide (1≤n∧n≤4096∧szV lg * (n.toNat+1)≤l.length) && (srtB (plI l lg) (n.toNat+1) && decide (plc l lg n.toNat≤G))
def splG (l:List UInt8) (g:ByteArray) (lg:Bool) (i:Nat):ByteArray:=g.extract (plc l lg i) (plc l lg (i+1))
def splV (l:List UInt8) (g:ByteArray) (n:Nat) (lg:Bool):List ByteArray:=(List.range n).map (splG l g lg)
def SpR (w:World) (l:List UInt8) (g:ByteArray) (n:Int) (lg:Bool) (e:Ending) (w':World):Prop:=
 if splB l g.size n lg=true then ∃q,e=.returned (.tuple #[.slice (some ⟨q,0,none⟩) n.toNat n.toNat,.int .i64 0])∧SLst w' (some ⟨q,0,none⟩) (splV l g n.toNat lg)∧Below w.heap.size w w'
 else e=.returned (.tuple #[.slice none 0 0,.int .i64 100])∧Below w.heap.size w w'
theorem spl_no {l:List UInt8} {G:Nat} {n:Int} {lg:Bool} (h:¬(1≤n∧n≤4096∧szV lg * (n.toNat+1)≤l.length)):splB l G n lg=false:=by
 unfold splB;rw [decide_eq_false h];rfl
set_option maxHeartbeats 1000000 in
theorem spl_bad_t (l g:ByteArray) (n:Int) (w:World) (hl:l.size≤1000000) (hn0:-9223372036854775808≤n) (hn1:n≤9223372036854775807) (h:¬(1≤n∧n≤4096∧4 * (n.toNat+1)≤l.size)) :
  Calls Tryz.prog 77 #[.string l,.string g,.int .i64 n,.bool true] w fun e w'=>e=.returned (.tuple #[.slice none 0 0,.int .i64 100])∧w'=w:=by
 have hl':(l.size:Int)≤1000000:=by omega
 by_cases h1:n < 1
 ·have t1:decide (n < 1)=true:=by simpa using h1
  clear h
  go_enter Tryz.func77,Tryz.ntmps77
  go_wp2_with fail
  go_ret2
  exact ⟨rfl,rfl⟩
 have t1:decide (n < 1)=false:=by simpa using h1
 by_cases h2:4096 < n
 ·have t2:decide (4096 < n)=true:=by simpa using h2
  clear h
  go_enter Tryz.func77,Tryz.ntmps77
  go_wp2_with fail
  go_ret2
  exact ⟨rfl,rfl⟩
 have t2:decide (4096 < n)=false:=by simpa using h2
 have h3:(l.size:Int) < 4 * (n+1):=by omega
 have t3:decide ((l.size:Int) < 4 * (n+1))=true:=by simpa using h3
 have b1:1≤n:=by omega
 have b2:n≤4096:=by omega
 clear h h1 h2
 go_enter Tryz.func77,Tryz.ntmps77
 go_wp2_with fail
 go_ret2
 exact ⟨rfl,rfl⟩
set_option maxHeartbeats 1000000 in
theorem spl_bad_f (l g:ByteArray) (n:Int) (w:World) (hl:l.size≤1000000) (hn0:-9223372036854775808≤n) (hn1:n≤9223372036854775807) (h:¬(1≤n∧n≤4096∧2 * (n.toNat+1)≤l.size)) :
  Calls Tryz.prog 77 #[.string l,.string g,.int .i64 n,.bool false] w fun e w'=>e=.returned (.tuple #[.slice none 0 0,.int .i64 100])∧w'=w:=by
 have hl':(l.size:Int)≤1000000:=by omega
 by_cases h1:n < 1
 ·have t1:decide (n < 1)=true:=by simpa using h1
  clear h
  go_enter Tryz.func77,Tryz.ntmps77
  go_wp2_with fail
  go_ret2
  exact ⟨rfl,rfl⟩
 have t1:decide (n < 1)=false:=by simpa using h1
 by_cases h2:4096 < n
 ·have t2:decide (4096 < n)=true:=by simpa using h2
  clear h
  go_enter Tryz.func77,Tryz.ntmps77
  go_wp2_with fail
  go_ret2
  exact ⟨rfl,rfl⟩
 have t2:decide (4096 < n)=false:=by simpa using h2
 have h3:(l.size:Int) < 2 * (n+1):=by omega
 have t3:decide ((l.size:Int) < 2 * (n+1))=true:=by simpa using h3
 have b1:1≤n:=by omega
 have b2:n≤4096:=by omega
 clear h h1 h2
 go_enter Tryz.func77,Tryz.ntmps77
 go_wp2_with fail
 go_ret2
 exact ⟨rfl,rfl⟩
set_option maxRecDepth 8000 in
set_option maxHeartbeats 4000000 in
theorem spl_t (l g:ByteArray) (n:Nat) (w:World) (hl:l.size≤1000000) (hg:g.size≤1000000) (h1:1≤n) (h2:n≤4096) (h3:4 * (n+1)≤l.size) :
  Calls Tryz.prog 77 #[.string l,.string g,.int .i64 (n:Int),.bool true] w (SpR w l.data.toList g (n:Int) true):=by
 have hl':(l.size:Int)≤1000000:=by omega
 have hg':(g.size:Int)≤1000000:=by omega
 have t1:decide ((n:Int) < 1)=false:=by simp;omega
 have t2:decide (4096 < (n:Int))=false:=by simp;omega
 have t3:decide ((l.size:Int) < 4 * ((n:Int)+1))=false:=by simp;omega
 have b1:(1:Int)≤(n:Int):=by omega
 have b2:(n:Int)≤4096:=by omega
 have HF:=hide (And.intro hl (And.intro hg (And.intro h1 (And.intro h2 h3))))
 have MK:=make_ints (n+1) ((n:Int)+1) (by omega) (by omega)
 have hZ:Array.replicate (n+1) (Value.int .i64 0)=arw (fun i=>.int .i64 (plI l.data.toList true i)) (.int .i64 0) (n+1) 0:=(arw_zero _ _ _).symm
 rw [hZ] at MK
 have HSB:Hid (splB l.data.toList g.size (n:Int) true=(srtB (plI l.data.toList true) (n+1) && decide (plc l.data.toList true n≤g.size))):=hide (by
  unfold splB
  rw [Int.toNat_natCast,decide_eq_true (show 1≤(n:Int)∧(n:Int)≤4096∧szV true * (n+1)≤l.data.toList.length from ⟨b1,b2,by rw [←Lib.size_eq];exact h3⟩)]
  rfl)
 have HPF:Hid (∀k,k < n+1→1 * numV (l.extract (4 * k) (4 * k+4)).data.toList=plc l.data.toList true k):=hide fun k hk=>by
  rw [ext4 l _ (by omega)]
  unfold plc
  simp
 have HPL:=hide (plc_le l.data.toList true)
 generalize hpf:plI l.data.toList true=pf at MK HSB
 have HPI:=hide hpf
 generalize hA0:arw (fun i=>.int .i64 (pf i)) (.int .i64 0) (n+1) 0=Z at MK
 have HZ:=hide hA0
 have hb0:Below w.heap.size w (w.alloc (.cells Z 3)):=(Below.refl _ _).alloc (Nat.le_refl _) _
 have HB0:=hide hb0
 have HK0:=hide (Blk.new w Z 3)
 clear hl hg h1 h2 h3 hZ hpf hA0 hb0
 go_enter Tryz.func77,Tryz.ntmps77
 go_wp2_with fail
 generalize hG:w.heap.size=G at HB0 HK0 ⊢
 have HG:=hide hG
 clear hG
 go_loopw [37] (fun v wr=>∃k:Nat,v=.int .i64 (k:Int)∧Hid (k≤n+1∧Blk wr G (arw (fun i=>.int .i64 (pf i)) (.int .i64 0) (n+1) k) 3∧Below G w wr)) (fun v _=>n+1 - (intOf v).toNat)
 case atStart=>exact ⟨0,rfl,hide ⟨by omega,by rw [HZ.out];exact HK0.out,HB0.out⟩⟩
 case round=>
  obtain ⟨k,rfl,HV⟩:=hrel
  obtain ⟨k1,k2,k3⟩:=HV.out
  have hk0:(0:Int)≤(k:Int):=by omega
  have K3:=hide k3
  have hlt:=k2.lt
  clear HV HK0 HB0
  by_cases hk:k < n+1
  ·have hk':(k:Int) < (n:Int)+1:=by omega
   have hf:=HF.out
   have c0:wr.cell? ⟨G,k,none⟩=some (.int .i64 0):=by rw [k2.cell k,arw_at _ _ _ _ _ hk,if_neg (by omega)]
   have f0:=k2.frozen k
   have K2:Hid (Blk (wr.setCell ⟨G,k,none⟩ (.int .i64 (pf k))) G (arw (fun i=>.int .i64 (pf i)) (.int .i64 0) (n+1) (k+1)) 3):=hide (by
    have:=Blk.set k2 k (.int .i64 (pf k))
    rw [show (Value.int .i64 (pf k))=(fun i=>Value.int .i64 (pf i)) k from rfl,arw_set _ _ _ _ hk] at this
    exact this)
   obtain ⟨A,hA⟩:∃A:Int,4 * (k:Int)=A:=⟨_,rfl⟩
   obtain ⟨B,hB⟩:∃B:Int,4 * ((k:Int)+1)=B:=⟨_,rfl⟩
   have m1:(0:Int)≤A:=by omega
   have m2:A≤B:=by omega
   have m3:B≤(l.size:Int):=by omega
   have m4:A.toNat=4 * k:=by omega
   have m5:B.toNat=4 * k+4:=by omega
   have CN:=hide (fun w=>num_any (l.extract (4 * k) (4 * k+4)) w (by rw [ext_size l _ 4 (by omega)];omega))
   have hpk:(pf k)=((plc l.data.toList true k:Nat):Int):=by rw [←HPI.out];rfl
   have HP:=hide (HPF.out k hk)
   have hb:=HPL.out k
   have HQ:Hid ((1:Int) * ((numV (l.extract (4 * k) (4 * k+4)).data.toList:Nat):Int)=pf k):=hide (by rw [hpk,←HP.out];simp)
   have hb2:((numV (l.extract (4 * k) (4 * k+4)).data.toList:Nat):Int)≤4294967295:=by have:=HP.out;omega
   have hb3:(0:Int)≤((numV (l.extract (4 * k) (4 * k+4)).data.toList:Nat):Int):=by omega
   generalize ((numV (l.extract (4 * k) (4 * k+4)).data.toList:Nat):Int)=Y at CN HQ hb2 hb3
   clear hf k2 k3 hpk HP hb
   go_wp2_with fail
   refine (CN.out _).mono ?_
   rintro e wy ⟨rfl,hy⟩
   subst wy
   have hq:=HQ.out
   go_wp2_with fail
   go_roundw
   case rel=>exact ⟨k+1,by go_num,hide ⟨by omega,K2.out,K3.out.setCell (p:=⟨G,k,none⟩) (Nat.le_refl _) _⟩⟩
   case measure=>simp [intOf];omega
  ·obtain rfl:k=n+1:=by omega
   have hk':¬((n+1:Nat):Int) < (n:Int)+1:=by omega
   have hf:=HF.out
   have hcell:∀i,i < n+1→wr.cell? ⟨G,i,none⟩=some (.int .i64 (pf i)):=fun i hi=>by rw [k2.cell i,arw_at _ _ _ _ _ hi,if_pos hi]
   have CS:=hide (sorted_any G (n+1) pf wr (by omega) (by omega) hlt hcell)
   have HCL:=hide hcell
   clear k2 k3 hk hcell
   go_wp2_with fail
   refine CS.out.mono ?_
   rintro e wy ⟨rfl,m,hw⟩
   subst wy
   cases hsr:srtB pf (n+1)
   case false=>
    have E:=hide (show splB l.data.toList g.size (n:Int) true=false by rw [HSB.out,hsr];rfl)
    go_wp2_with fail
    go_ret2
    unfold SpR
    rw [E.out]
    exact ⟨rfl,by rw [HG.out];exact below_drewN K3.out m⟩
   have HSR:=hide hsr
   have c0:=HCL.out n (by omega)
   have n0:(0:Int)≤(n:Int):=by omega
   have n1:(n:Int) < (n:Int)+1:=by omega
   have hpn:pf n=((plc l.data.toList true n:Nat):Int):=by rw [←HPI.out];rfl
   by_cases hle:plc l.data.toList true n≤g.size
   case neg=>
    have E:=hide (show splB l.data.toList g.size (n:Int) true=false by rw [HSB.out,decide_eq_false hle,Bool.and_false])
    have hq:(g.size:Int) < pf n:=by omega
    have hq':decide ((g.size:Int) < pf n)=true:=by simpa using hq
    generalize pf n=X at c0 hq hq'
    clear hpn hsr
    go_wp2_with fail
    go_ret2
    unfold SpR
    rw [E.out]
    exact ⟨rfl,by rw [HG.out];exact below_drewN K3.out m⟩
   have E:=hide (show splB l.data.toList g.size (n:Int) true=true by rw [HSB.out,hsr,decide_eq_true hle];rfl)
   have hq:¬(g.size:Int) < pf n:=by omega
   have hq':decide ((g.size:Int) < pf n)=false:=by simpa using hq
   have MS:=make_strs n (by omega)
   rw [show Array.replicate n (Value.string ⟨#[]⟩)=arw (fun i=>.string (splG l.data.toList g true i)) (.string ⟨#[]⟩) n 0 from (arw_zero _ _ _).symm] at MS
   generalize hA0:arw (fun i=>.string (splG l.data.toList g true i)) (.string ⟨#[]⟩) n 0=Z2 at MS
   have HZ2:=hide hA0
   have HQN:=hide (show pf n≤(g.size:Int) by omega)
   generalize hX:pf n=X at c0 hq hq'
   clear hpn hsr hX hA0 MK
   go_wp2_with fail
   clear c0 hq hq' MS
   have HV0:Hid (Below G w (wr.drewN m)):=hide (below_drewN K3.out m)
   have HC0:Hid (∀i,i < n+1→(wr.drewN m).cell? ⟨G,i,none⟩=some (.int .i64 (pf i))):=hide HCL.out
   have hGV:G < (wr.drewN m).heap.size:=hlt
   have e0:(wr.drewN m).heap.size=wr.heap.size:=rfl
   generalize hVV:wr.drewN m=V at HV0 HC0 hGV e0 ⊢
   rw [←e0]
   have hb1:Below V.heap.size V (V.alloc (.cells Z2 9)):=(Below.refl _ _).alloc (Nat.le_refl _) _
   have HB1:=hide hb1
   have HK1:=hide (Blk.new V Z2 9)
   clear e0 hVV hb1 HCL K3 CS
   generalize hHV:V.heap.size=H at HB1 HK1 hGV ⊢
   have HH:=hide hHV
   clear hHV
   go_loopw [72] (fun v wr=>∃k:Nat,v=.int .i64 (k:Int)∧Hid (k≤n∧Blk wr H (arw (fun i=>.string (splG l.data.toList g true i)) (.string ⟨#[]⟩) n k) 9∧Below H V wr)) (fun v _=>n - (intOf v).toNat)
   case atStart=>exact ⟨0,rfl,hide ⟨by omega,by rw [HZ2.out];exact HK1.out,HB1.out⟩⟩
   case round=>
    obtain ⟨k,rfl,HV⟩:=hrel
    obtain ⟨k1,k2,k3⟩:=HV.out
    have hk0:(0:Int)≤(k:Int):=by omega
    have K3:=hide k3
    have K2:=hide k2
    have hlt2:=k2.lt
    clear HV HK1 HB1
    by_cases hk:k < n
    ·have hkn:(k:Int) < (n:Int):=by omega
     have hk1:(k:Int) < (n:Int)+1:=by omega
     have hk2:(k:Int)+1 < (n:Int)+1:=by omega
     have hk3:(0:Int)≤(k:Int)+1:=by omega
     have hk4:((k:Int)+1).toNat=k+1:=by omega
     have hk5:IntKind.i64.wrap ((k:Int)+1)=(k:Int)+1:=by rw [IntKind.wrap_i64];omega
     have hf:=HF.out
     have hmk:=srt_mono HSR.out 1 k (by omega)
     have hmn:=srt_mono HSR.out (n - (k+1)) (k+1) (by omega)
     rw [show k+1+(n - (k+1))=n by omega] at hmn
     have hgn:=HQN.out
     have hX:pf k=((plc l.data.toList true k:Nat):Int):=by rw [←HPI.out];rfl
     have hY:pf (k+1)=((plc l.data.toList true (k+1):Nat):Int):=by rw [←HPI.out];rfl
     have CC:=hide (fun w=>clone_any (splG l.data.toList g true k) w (by unfold splG;rw [ByteArray.size_extract];omega))
     have HGE:Hid (g.extract (plc l.data.toList true k) (plc l.data.toList true (k+1))=splG l.data.toList g true k):=hide rfl
     have p1:=HC0.out k (by omega)
     have p2:=HC0.out (k+1) (by omega)
     rw [←k3.cell (p:=⟨G,k,none⟩) hGV] at p1
     rw [←k3.cell (p:=⟨G,k+1,none⟩) hGV] at p2
     have y1:pf k≤pf (k+1):=hmk
     have y2:(0:Int)≤pf k:=by omega
     have y3:pf (k+1)≤(g.size:Int):=by omega
     have y4:(pf k).toNat=plc l.data.toList true k:=by omega
     have y5:(pf (k+1)).toNat=plc l.data.toList true (k+1):=by omega
     have y6:(0:Int)≤pf (k+1):=by omega
     have K4:Hid (Blk wr H (arw (fun i=>.string (splG l.data.toList g true i)) (.string ⟨#[]⟩) n k) 9∧k < n):=hide ⟨k2,hk⟩
     generalize pf k=X at p1 y1 y2 y4
     generalize pf (k+1)=Y at p2 y1 y3 y5 y6
     generalize plc l.data.toList true k=PA at y4 HGE
     generalize plc l.data.toList true (k+1)=PB at y5 HGE
     have hge:=HGE.out
     have hne:G≠H:=by omega
     have KS:Hid (∀x,Below wr.heap.size wr x→(x.cell? ⟨G,k,none⟩=some (.int .i64 X)∧x.cell? ⟨G,k+1,none⟩=some (.int .i64 Y))∧x.cell? ⟨H,k,none⟩=some (.string ⟨#[]⟩)∧x.frozen? ⟨H,k,none⟩=false):=hide fun x hx=>by
      have hk2':=K4.out.1.below hx
      refine ⟨⟨?_,?_⟩,?_,hk2'.frozen k⟩
      ·rw [hx.cell (p:=⟨G,k,none⟩) (show G < wr.heap.size by omega)];exact p1
      ·rw [hx.cell (p:=⟨G,k+1,none⟩) (show G < wr.heap.size by omega)];exact p2
      ·rw [hk2'.cell k,arw_at _ _ _ _ _ hk,if_neg (by omega)]
     have HX:Hid (Below wr.heap.size wr wr):=hide (Below.refl _ _)
     clear hf hmk hmn hgn hX hY k2 k3 HC0
     go_wp2_with fail
     go_region_held3 (fun x=>x.cell? ⟨G,k,none⟩=some (.int .i64 X)∧x.cell? ⟨G,k+1,none⟩=some (.int .i64 Y)) (first | exact (KS.out _ (below_d HX.out (Below.refl _ _) rfl rfl rfl rfl)).1 | exact ⟨(cell_other hne).trans x0,(cell_other hne).trans x1⟩ | go_keep) ((go_at_call 97;refine (CC.out _).mono ?_;rintro e wy ⟨rfl,hy⟩;replace HX:=hide (below_d HX.out hy rfl rfl rfl rfl);clear hy;obtain ⟨⟨x0,x1⟩,x2,x3⟩:=KS.out _ HX.out))
     have K5:Hid (Blk (wy.setCell ⟨H,k,none⟩ (.string (splG l.data.toList g true k))) H (arw (fun i=>.string (splG l.data.toList g true i)) (.string ⟨#[]⟩) n (k+1)) 9):=hide (by
      have:=Blk.set (K4.out.1.below HX.out) k (.string (splG l.data.toList g true k))
      rw [show (Value.string (splG l.data.toList g true k))=(fun i=>Value.string (splG l.data.toList g true i)) k from rfl,arw_set _ _ _ _ hk] at this
      exact this)
     have K6:Hid (Below H V (wy.setCell ⟨H,k,none⟩ (.string (splG l.data.toList g true k)))):=hide ((K3.out.trans (HX.out.mono (by omega))).setCell (p:=⟨H,k,none⟩) (Nat.le_refl _) _)
     go_wp2_with fail
     go_roundw
     case rel=>exact ⟨k+1,by go_num,hide ⟨by omega,K5.out,K6.out⟩⟩
     case measure=>simp [intOf];omega
    ·obtain rfl:k=n:=by omega
     have hk':¬(k:Int) < (k:Int):=by omega
     have HS:Hid (SLst wr (some ⟨H,0,none⟩) (splV l.data.toList g k true)):=hide (Or.inr ⟨H,0,rfl,hlt2,fun i hi=>by
      have hi':i < k:=by simpa [splV] using hi
      rw [Nat.zero_add,k2.cell i,arw_at _ _ _ _ _ hi',if_pos hi']
      simp [splV,hi',List.getD_eq_getElem?_getD]⟩)
     clear k2 k3 hk
     go_wp2_with fail
     go_ret2
     unfold SpR
     rw [E.out,Int.toNat_natCast]
     refine ⟨H,rfl,HS.out,?_⟩
     rw [HG.out]
     exact HV0.out.trans (K3.out.mono (by omega))
set_option maxRecDepth 8000 in
set_option maxHeartbeats 4000000 in
theorem spl_f (l g:ByteArray) (n:Nat) (w:World) (hl:l.size≤1000000) (hg:g.size≤1000000) (h1:1≤n) (h2:n≤4096) (h3:2 * (n+1)≤l.size) :
  Calls Tryz.prog 77 #[.string l,.string g,.int .i64 (n:Int),.bool false] w (SpR w l.data.toList g (n:Int) false):=by
 have hl':(l.size:Int)≤1000000:=by omega
 have hg':(g.size:Int)≤1000000:=by omega
 have t1:decide ((n:Int) < 1)=false:=by simp;omega
 have t2:decide (4096 < (n:Int))=false:=by simp;omega
 have t3:decide ((l.size:Int) < 2 * ((n:Int)+1))=false:=by simp;omega
 have b1:(1:Int)≤(n:Int):=by omega
 have b2:(n:Int)≤4096:=by omega
 have HF:=hide (And.intro hl (And.intro hg (And.intro h1 (And.intro h2 h3))))
 have MK:=make_ints (n+1) ((n:Int)+1) (by omega) (by omega)
 have hZ:Array.replicate (n+1) (Value.int .i64 0)=arw (fun i=>.int .i64 (plI l.data.toList false i)) (.int .i64 0) (n+1) 0:=(arw_zero _ _ _).symm
 rw [hZ] at MK
 have HSB:Hid (splB l.data.toList g.size (n:Int) false=(srtB (plI l.data.toList false) (n+1) && decide (plc l.data.toList false n≤g.size))):=hide (by
  unfold splB
  rw [Int.toNat_natCast,decide_eq_true (show 1≤(n:Int)∧(n:Int)≤4096∧szV false * (n+1)≤l.data.toList.length from ⟨b1,b2,by rw [←Lib.size_eq];exact h3⟩)]
  rfl)
 have HPF:Hid (∀k,k < n+1→2 * numV (l.extract (2 * k) (2 * k+2)).data.toList=plc l.data.toList false k):=hide fun k hk=>by
  rw [ext2 l _ (by omega)]
  unfold plc
  simp
 have HPL:=hide (plc_le l.data.toList false)
 generalize hpf:plI l.data.toList false=pf at MK HSB
 have HPI:=hide hpf
 generalize hA0:arw (fun i=>.int .i64 (pf i)) (.int .i64 0) (n+1) 0=Z at MK
 have HZ:=hide hA0
 have hb0:Below w.heap.size w (w.alloc (.cells Z 3)):=(Below.refl _ _).alloc (Nat.le_refl _) _
 have HB0:=hide hb0
 have HK0:=hide (Blk.new w Z 3)
 clear hl hg h1 h2 h3 hZ hpf hA0 hb0
 go_enter Tryz.func77,Tryz.ntmps77
 go_wp2_with fail
 generalize hG:w.heap.size=G at HB0 HK0 ⊢
 have HG:=hide hG
 clear hG
 go_loopw [37] (fun v wr=>∃k:Nat,v=.int .i64 (k:Int)∧Hid (k≤n+1∧Blk wr G (arw (fun i=>.int .i64 (pf i)) (.int .i64 0) (n+1) k) 3∧Below G w wr)) (fun v _=>n+1 - (intOf v).toNat)
 case atStart=>exact ⟨0,rfl,hide ⟨by omega,by rw [HZ.out];exact HK0.out,HB0.out⟩⟩
 case round=>
  obtain ⟨k,rfl,HV⟩:=hrel
  obtain ⟨k1,k2,k3⟩:=HV.out
  have hk0:(0:Int)≤(k:Int):=by omega
  have K3:=hide k3
  have hlt:=k2.lt
  clear HV HK0 HB0
  by_cases hk:k < n+1
  ·have hk':(k:Int) < (n:Int)+1:=by omega
   have hf:=HF.out
   have c0:wr.cell? ⟨G,k,none⟩=some (.int .i64 0):=by rw [k2.cell k,arw_at _ _ _ _ _ hk,if_neg (by omega)]
   have f0:=k2.frozen k
   have K2:Hid (Blk (wr.setCell ⟨G,k,none⟩ (.int .i64 (pf k))) G (arw (fun i=>.int .i64 (pf i)) (.int .i64 0) (n+1) (k+1)) 3):=hide (by
    have:=Blk.set k2 k (.int .i64 (pf k))
    rw [show (Value.int .i64 (pf k))=(fun i=>Value.int .i64 (pf i)) k from rfl,arw_set _ _ _ _ hk] at this
    exact this)
   obtain ⟨A,hA⟩:∃A:Int,2 * (k:Int)=A:=⟨_,rfl⟩
   obtain ⟨B,hB⟩:∃B:Int,2 * ((k:Int)+1)=B:=⟨_,rfl⟩
   have m1:(0:Int)≤A:=by omega
   have m2:A≤B:=by omega
   have m3:B≤(l.size:Int):=by omega
   have m4:A.toNat=2 * k:=by omega
   have m5:B.toNat=2 * k+2:=by omega
   have CN:=hide (fun w=>num_any (l.extract (2 * k) (2 * k+2)) w (by rw [ext_size l _ 2 (by omega)];omega))
   have hpk:(pf k)=((plc l.data.toList false k:Nat):Int):=by rw [←HPI.out];rfl
   have HP:=hide (HPF.out k hk)
   have hb:=HPL.out k
   have HQ:Hid ((2:Int) * ((numV (l.extract (2 * k) (2 * k+2)).data.toList:Nat):Int)=pf k):=hide (by rw [hpk,←HP.out];simp)
   have hb2:((numV (l.extract (2 * k) (2 * k+2)).data.toList:Nat):Int)≤4294967295:=by have:=HP.out;omega
   have hb3:(0:Int)≤((numV (l.extract (2 * k) (2 * k+2)).data.toList:Nat):Int):=by omega
   generalize ((numV (l.extract (2 * k) (2 * k+2)).data.toList:Nat):Int)=Y at CN HQ hb2 hb3
   clear hf k2 k3 hpk HP hb
   go_wp2_with fail
   refine (CN.out _).mono ?_
   rintro e wy ⟨rfl,hy⟩
   subst wy
   have hq:=HQ.out
   go_wp2_with fail
   go_roundw
   case rel=>exact ⟨k+1,by go_num,hide ⟨by omega,K2.out,K3.out.setCell (p:=⟨G,k,none⟩) (Nat.le_refl _) _⟩⟩
   case measure=>simp [intOf];omega
  ·obtain rfl:k=n+1:=by omega
   have hk':¬((n+1:Nat):Int) < (n:Int)+1:=by omega
   have hf:=HF.out
   have hcell:∀i,i < n+1→wr.cell? ⟨G,i,none⟩=some (.int .i64 (pf i)):=fun i hi=>by rw [k2.cell i,arw_at _ _ _ _ _ hi,if_pos hi]
   have CS:=hide (sorted_any G (n+1) pf wr (by omega) (by omega) hlt hcell)
   have HCL:=hide hcell
   clear k2 k3 hk hcell
   go_wp2_with fail
   refine CS.out.mono ?_
   rintro e wy ⟨rfl,m,hw⟩
   subst wy
   cases hsr:srtB pf (n+1)
   case false=>
    have E:=hide (show splB l.data.toList g.size (n:Int) false=false by rw [HSB.out,hsr];rfl)
    go_wp2_with fail
    go_ret2
    unfold SpR
    rw [E.out]
    exact ⟨rfl,by rw [HG.out];exact below_drewN K3.out m⟩
   have HSR:=hide hsr
   have c0:=HCL.out n (by omega)
   have n0:(0:Int)≤(n:Int):=by omega
   have n1:(n:Int) < (n:Int)+1:=by omega
   have hpn:pf n=((plc l.data.toList false n:Nat):Int):=by rw [←HPI.out];rfl
   by_cases hle:plc l.data.toList false n≤g.size
   case neg=>
    have E:=hide (show splB l.data.toList g.size (n:Int) false=false by rw [HSB.out,decide_eq_false hle,Bool.and_false])
    have hq:(g.size:Int) < pf n:=by omega
    have hq':decide ((g.size:Int) < pf n)=true:=by simpa using hq
    generalize pf n=X at c0 hq hq'
    clear hpn hsr
    go_wp2_with fail
    go_ret2
    unfold SpR
    rw [E.out]
    exact ⟨rfl,by rw [HG.out];exact below_drewN K3.out m⟩
   have E:=hide (show splB l.data.toList g.size (n:Int) false=true by rw [HSB.out,hsr,decide_eq_true hle];rfl)
   have hq:¬(g.size:Int) < pf n:=by omega
   have hq':decide ((g.size:Int) < pf n)=false:=by simpa using hq
   have MS:=make_strs n (by omega)
   rw [show Array.replicate n (Value.string ⟨#[]⟩)=arw (fun i=>.string (splG l.data.toList g false i)) (.string ⟨#[]⟩) n 0 from (arw_zero _ _ _).symm] at MS
   generalize hA0:arw (fun i=>.string (splG l.data.toList g false i)) (.string ⟨#[]⟩) n 0=Z2 at MS
   have HZ2:=hide hA0
   have HQN:=hide (show pf n≤(g.size:Int) by omega)
   generalize hX:pf n=X at c0 hq hq'
   clear hpn hsr hX hA0 MK
   go_wp2_with fail
   clear c0 hq hq' MS
   have HV0:Hid (Below G w (wr.drewN m)):=hide (below_drewN K3.out m)
   have HC0:Hid (∀i,i < n+1→(wr.drewN m).cell? ⟨G,i,none⟩=some (.int .i64 (pf i))):=hide HCL.out
   have hGV:G < (wr.drewN m).heap.size:=hlt
   have e0:(wr.drewN m).heap.size=wr.heap.size:=rfl
   generalize hVV:wr.drewN m=V at HV0 HC0 hGV e0 ⊢
   rw [←e0]
   have hb1:Below V.heap.size V (V.alloc (.cells Z2 9)):=(Below.refl _ _).alloc (Nat.le_refl _) _
   have HB1:=hide hb1
   have HK1:=hide (Blk.new V Z2 9)
   clear e0 hVV hb1 HCL K3 CS
   generalize hHV:V.heap.size=H at HB1 HK1 hGV ⊢
   have HH:=hide hHV
   clear hHV
   go_loopw [72] (fun v wr=>∃k:Nat,v=.int .i64 (k:Int)∧Hid (k≤n∧Blk wr H (arw (fun i=>.string (splG l.data.toList g false i)) (.string ⟨#[]⟩) n k) 9∧Below H V wr)) (fun v _=>n - (intOf v).toNat)
   case atStart=>exact ⟨0,rfl,hide ⟨by omega,by rw [HZ2.out];exact HK1.out,HB1.out⟩⟩
   case round=>
    obtain ⟨k,rfl,HV⟩:=hrel
    obtain ⟨k1,k2,k3⟩:=HV.out
    have hk0:(0:Int)≤(k:Int):=by omega
    have K3:=hide k3
    have K2:=hide k2
    have hlt2:=k2.lt
    clear HV HK1 HB1
    by_cases hk:k < n
    ·have hkn:(k:Int) < (n:Int):=by omega
     have hk1:(k:Int) < (n:Int)+1:=by omega
     have hk2:(k:Int)+1 < (n:Int)+1:=by omega
     have hk3:(0:Int)≤(k:Int)+1:=by omega
     have hk4:((k:Int)+1).toNat=k+1:=by omega
     have hk5:IntKind.i64.wrap ((k:Int)+1)=(k:Int)+1:=by rw [IntKind.wrap_i64];omega
     have hf:=HF.out
     have hmk:=srt_mono HSR.out 1 k (by omega)
     have hmn:=srt_mono HSR.out (n - (k+1)) (k+1) (by omega)
     rw [show k+1+(n - (k+1))=n by omega] at hmn
     have hgn:=HQN.out
     have hX:pf k=((plc l.data.toList false k:Nat):Int):=by rw [←HPI.out];rfl
     have hY:pf (k+1)=((plc l.data.toList false (k+1):Nat):Int):=by rw [←HPI.out];rfl
     have CC:=hide (fun w=>clone_any (splG l.data.toList g false k) w (by unfold splG;rw [ByteArray.size_extract];omega))
     have HGE:Hid (g.extract (plc l.data.toList false k) (plc l.data.toList false (k+1))=splG l.data.toList g false k):=hide rfl
     have p1:=HC0.out k (by omega)
     have p2:=HC0.out (k+1) (by omega)
     rw [←k3.cell (p:=⟨G,k,none⟩) hGV] at p1
     rw [←k3.cell (p:=⟨G,k+1,none⟩) hGV] at p2
     have y1:pf k≤pf (k+1):=hmk
     have y2:(0:Int)≤pf k:=by omega
     have y3:pf (k+1)≤(g.size:Int):=by omega
     have y4:(pf k).toNat=plc l.data.toList false k:=by omega
     have y5:(pf (k+1)).toNat=plc l.data.toList false (k+1):=by omega
     have y6:(0:Int)≤pf (k+1):=by omega
     have K4:Hid (Blk wr H (arw (fun i=>.string (splG l.data.toList g false i)) (.string ⟨#[]⟩) n k) 9∧k < n):=hide ⟨k2,hk⟩
     generalize pf k=X at p1 y1 y2 y4
     generalize pf (k+1)=Y at p2 y1 y3 y5 y6
     generalize plc l.data.toList false k=PA at y4 HGE
     generalize plc l.data.toList false (k+1)=PB at y5 HGE
     have hge:=HGE.out
     have hne:G≠H:=by omega
     have KS:Hid (∀x,Below wr.heap.size wr x→(x.cell? ⟨G,k,none⟩=some (.int .i64 X)∧x.cell? ⟨G,k+1,none⟩=some (.int .i64 Y))∧x.cell? ⟨H,k,none⟩=some (.string ⟨#[]⟩)∧x.frozen? ⟨H,k,none⟩=false):=hide fun x hx=>by
      have hk2':=K4.out.1.below hx
      refine ⟨⟨?_,?_⟩,?_,hk2'.frozen k⟩
      ·rw [hx.cell (p:=⟨G,k,none⟩) (show G < wr.heap.size by omega)];exact p1
      ·rw [hx.cell (p:=⟨G,k+1,none⟩) (show G < wr.heap.size by omega)];exact p2
      ·rw [hk2'.cell k,arw_at _ _ _ _ _ hk,if_neg (by omega)]
     have HX:Hid (Below wr.heap.size wr wr):=hide (Below.refl _ _)
     clear hf hmk hmn hgn hX hY k2 k3 HC0
     go_wp2_with fail
     go_region_held3 (fun x=>x.cell? ⟨G,k,none⟩=some (.int .i64 X)∧x.cell? ⟨G,k+1,none⟩=some (.int .i64 Y)) (first | exact (KS.out _ (below_d HX.out (Below.refl _ _) rfl rfl rfl rfl)).1 | exact ⟨(cell_other hne).trans x0,(cell_other hne).trans x1⟩ | go_keep) ((go_at_call 97;refine (CC.out _).mono ?_;rintro e wy ⟨rfl,hy⟩;replace HX:=hide (below_d HX.out hy rfl rfl rfl rfl);clear hy;obtain ⟨⟨x0,x1⟩,x2,x3⟩:=KS.out _ HX.out))
     have K5:Hid (Blk (wy.setCell ⟨H,k,none⟩ (.string (splG l.data.toList g false k))) H (arw (fun i=>.string (splG l.data.toList g false i)) (.string ⟨#[]⟩) n (k+1)) 9):=hide (by
      have:=Blk.set (K4.out.1.below HX.out) k (.string (splG l.data.toList g false k))
      rw [show (Value.string (splG l.data.toList g false k))=(fun i=>Value.string (splG l.data.toList g false i)) k from rfl,arw_set _ _ _ _ hk] at this
      exact this)
     have K6:Hid (Below H V (wy.setCell ⟨H,k,none⟩ (.string (splG l.data.toList g false k)))):=hide ((K3.out.trans (HX.out.mono (by omega))).setCell (p:=⟨H,k,none⟩) (Nat.le_refl _) _)
     go_wp2_with fail
     go_roundw
     case rel=>exact ⟨k+1,by go_num,hide ⟨by omega,K5.out,K6.out⟩⟩
     case measure=>simp [intOf];omega
    ·obtain rfl:k=n:=by omega
     have hk':¬(k:Int) < (k:Int):=by omega
     have HS:Hid (SLst wr (some ⟨H,0,none⟩) (splV l.data.toList g k false)):=hide (Or.inr ⟨H,0,rfl,hlt2,fun i hi=>by
      have hi':i < k:=by simpa [splV] using hi
      rw [Nat.zero_add,k2.cell i,arw_at _ _ _ _ _ hi',if_pos hi']
      simp [splV,hi',List.getD_eq_getElem?_getD]⟩)
     clear k2 k3 hk
     go_wp2_with fail
     go_ret2
     unfold SpR
     rw [E.out,Int.toNat_natCast]
     refine ⟨H,rfl,HS.out,?_⟩
     rw [HG.out]
     exact HV0.out.trans (K3.out.mono (by omega))
theorem split_any (l g:ByteArray) (n:Int) (lg:Bool) (w:World) (hl:l.size≤1000000) (hg:g.size≤1000000) (hn0:-9223372036854775808≤n) (hn1:n≤9223372036854775807) :
  Calls Tryz.prog 77 #[.string l,.string g,.int .i64 n,.bool lg] w (SpR w l.data.toList g n lg):=by
 have hsz:=Lib.size_eq l
 by_cases h:1≤n∧n≤4096∧szV lg * (n.toNat+1)≤l.data.toList.length
 ·obtain ⟨m,rfl⟩:∃m:Nat,n=(m:Int):=⟨n.toNat,by omega⟩
  rw [←hsz,Int.toNat_natCast] at h
  cases lg
  ·exact spl_f l g m w hl hg (by omega) (by omega) h.2.2
  ·exact spl_t l g m w hl hg (by omega) (by omega) h.2.2
 ·have e:=spl_no (G:=g.size) h
  have C:Calls Tryz.prog 77 #[.string l,.string g,.int .i64 n,.bool lg] w fun e w'=>e=.returned (.tuple #[.slice none 0 0,.int .i64 100])∧w'=w:=by
   rw [←hsz] at h
   cases lg
   ·exact spl_bad_f l g n w hl hn0 hn1 h
   ·exact spl_bad_t l g n w hl hn0 hn1 h
  refine C.mono ?_
  rintro e' w' ⟨rfl,rfl⟩
  unfold SpR
  rw [e]
  exact ⟨rfl,Below.refl _ _⟩
def byI (x d:Int):UInt8:=UInt8.ofNat (x / d % 256).toNat
theorem byI_cell (x d:Int):bcell (byI x d)=.int .u8 (x / d % 256):=by
 unfold bcell byI
 have h0:0≤x / d % 256:=Int.emod_nonneg _ (by omega)
 have h1:x / d % 256 < 256:=Int.emod_lt_of_pos _ (by omega)
 rw [UInt8.toNat_ofNat']
 congr 1
 omega
def p4 (x:Int):List UInt8:=[byI x 16777216,byI x 65536,byI x 256,byI x 1]
def lck (n:Nat):Nat:=(4 - n % 4) % 4
def pdT (l:List UInt8):List UInt8:=l++List.replicate (lck l.length) 0
theorem pdT_len (l:List UInt8):(pdT l).length=l.length+lck l.length:=by unfold pdT;simp
def jg (ss:List ByteArray):List UInt8:=ss.flatMap fun s=>pdT s.data.toList
def jl:Nat→List ByteArray→List UInt8
 | _,[]=>[]
 | a,s :: ss=>p4 (a:Int)++jl (a+(pdT s.data.toList).length) ss
theorem jg_snoc (ss:List ByteArray) (s:ByteArray):jg (ss++[s])=jg ss++pdT s.data.toList:=by unfold jg;simp
theorem jl_snoc:∀(ss:List ByteArray) (a:Nat) (s:ByteArray),jl a (ss++[s])=jl a ss++p4 ((a+(jg ss).length:Nat):Int)
 | [],a,s=>by simp [jl,jg]
 | t :: ss,a,s=>by
  rw [List.cons_append,jl,jl,jl_snoc ss _ s,List.append_assoc]
  have : jg (t :: ss)=pdT t.data.toList++jg ss:=by unfold jg;simp
  rw [this,List.length_append,Nat.add_assoc]
theorem jg_take (ss:List ByteArray) (k:Nat):(jg (ss.take k)).length≤(jg ss).length:=by
 conv=>rhs;rw [←List.take_append_drop k ss]
 unfold jg
 rw [List.flatMap_append,List.length_append]
 omega
theorem take_s (ss:List ByteArray) (k:Nat) (h:k < ss.length):ss.take (k+1)=ss.take k++[ss.getD k ⟨#[]⟩]:=by
 rw [List.take_succ_eq_append_getElem h,List.getD_eq_getElem?_getD,List.getElem?_eq_getElem h];rfl
theorem lack_any (n:Nat) (w:World) (hn:n≤1000000000):Calls Tryz.prog 57 #[.int .i64 (n:Int)] w fun e w'=>e=.returned (.int .i64 ((lck n:Nat):Int))∧w'=w:=by
 have h0:(0:Int)≤(n:Int):=by omega
 have h1:(n:Int)≤1000000000:=by omega
 have e:(4 - (n:Int) % 4) % 4=((lck n:Nat):Int):=by unfold lck;omega
 have HE:=hide e
 clear e
 go_enter Tryz.func57,Tryz.ntmps57
 go_wp2_with fail
 go_ret
 exact ⟨by rw [←HE.out];rfl,rfl⟩
def PlR (B:Nat) (w:World) (v:Value) (ys:List UInt8) (e:Ending) (w':World):Prop:=∃v' W1,e=.returned v'∧Below w.heap.size w W1∧Grew W1 w' B v v' ys
set_option maxRecDepth 8000 in
theorem place_any (v:Value) (ys:List UInt8) (x B:Nat) (w:World) (hx:x≤1000000000) (h:BRow w B v ys) (hB:B≤w.heap.size) (hl:ys.length≤1000000000) :
  Calls Tryz.prog 58 #[v,.int .i64 (x:Int)] w (PlR B w v (ys++p4 (x:Int))):=by
 obtain ⟨v',w2,hr,hg⟩:=app_b4 (p4 (x:Int)) h hB (by simp [p4]) (by simp [p4];omega) _ rfl
 have ec:(p4 (x:Int)).map bcell=[.int .u8 ((x:Int) / 16777216),.int .u8 ((x:Int) / 65536 % 256),.int .u8 ((x:Int) / 256 % 256),.int .u8 ((x:Int) % 256)]:=by
  unfold p4
  simp only [List.map_cons,List.map_nil,byI_cell,Int.ediv_one]
  rw [show (x:Int) / 16777216 % 256=(x:Int) / 16777216 by omega]
 have el:(p4 (x:Int)).length=4:=rfl
 have HB:=hide ((Below.refl w.heap.size w).alloc (Nat.le_refl _) (.cells ((p4 (x:Int)).map bcell).toArray 5))
 rw [el] at hr
 have HG:=hide hg
 rw [ec] at hr HB HG
 have HR:=hide hr
 have h0:(0:Int)≤(x:Int):=by omega
 have h1:(x:Int)≤1000000000:=by omega
 clear hr hg ec el h hB hl hx
 go_enter Tryz.func58,Tryz.ntmps58
 go_wp2_with (at_builtin;refine Lib.wpList_append_run _ rfl _ _ _ _ rfl _ _ rfl rfl _ _ HR.out ?_)
 go_ret
 exact ⟨_,_,rfl,HB.out,HG.out⟩
theorem jl_len:∀(ss:List ByteArray) (a:Nat),(jl a ss).length=4 * ss.length
 | [],_=>rfl
 | s :: ss,a=>by rw [jl,List.length_append,jl_len ss,List.length_cons];show 4+_=_;omega
def JnR (w:World) (ss:List ByteArray) (e:Ending) (w':World):Prop:=
 if 1≤ss.length∧ss.length≤4096 then e=.returned (.tuple #[.string ⟨(jl 0 ss++p4 (((jg ss).length:Nat):Int)).toArray⟩,.string ⟨(jg ss).toArray⟩,.int .i64 0])∧Below w.heap.size w w'
 else e=.returned (.tuple #[.string ⟨#[]⟩,.string ⟨#[]⟩,.int .i64 100])∧Below w.heap.size w w'
theorem made_row (x:World) (B m:Nat) (hB:B≤x.heap.size) (hm:m≤1000000000):BRow (x.alloc (.cells (madeCells (Value.int .u8 0).cells m) 5)) B (.slice (some ⟨x.heap.size,0,none⟩) 0 m) []:=by
 refine ⟨rfl,Or.inr ⟨x.heap.size,m,_,rfl,hB,heap_alloc_new x _,Nat.zero_le _,by unfold maxLen;omega,by rw [size_madeCells];omega,?_⟩⟩
 simp
theorem make_bytes (m:Nat) (hm:m≤1000000000) (x:World):(Instr.makeSlice 97 (.int .i64 0) (.int .i64 (m:Int))).run Tryz.prog x=.ok (.slice (some ⟨x.heap.size,0,none⟩) 0 m) (x.alloc (.cells (madeCells (Value.int .u8 0).cells m) 5)):=by
 obtain ⟨i0,hi,hz0,hz1,hz2⟩:=info_parts5 info_u8
 have h:=run_make (P:=Tryz.prog) x 97 5 i0 (.int .u8 0) Tryz.underlying97 hi hz0 .i64 .i64 0 (m:Int) (by omega) (by omega) (by rw [hz2];omega) (by omega)
 rw [hz1] at h
 simp only [Int.toNat_natCast,Nat.mul_one] at h
 exact h
theorem made_two (w x:World) (m1 m2:Nat) (hw:Below w.heap.size w x) (h1:m1≤1000000000) (h2:m2≤1000000000) :
  B2 w ((x.alloc (.cells (madeCells (Value.int .u8 0).cells m1) 5)).alloc (.cells (madeCells (Value.int .u8 0).cells m2) 5)) (.slice (some ⟨x.heap.size,0,none⟩) 0 m1) (.slice (some ⟨x.heap.size+1,0,none⟩) 0 m2) [] []:=by
 have hs:(x.alloc (.cells (madeCells (Value.int .u8 0).cells m1) 5)).heap.size=x.heap.size+1:=by simp
 have r2:=made_row (x.alloc (.cells (madeCells (Value.int .u8 0).cells m1) 5)) w.heap.size m2 (by rw [hs];have:=hw.size;omega) h2
 rw [hs] at r2
 refine ⟨World.ownsRow.alloc (made_row x w.heap.size m1 hw.size h1) _,r2,fun k e1 e2=>?_,(hw.alloc hw.size _).alloc (by rw [hs];have:=hw.size;omega) _⟩
 simp [Value.ownBlock] at e1 e2
 omega
set_option maxRecDepth 8000 in
set_option maxHeartbeats 4000000 in
theorem join_any (a:Option Addr) (ss:List ByteArray) (n c:Nat) (w:World) (hn:ss.length=n) (hm:n≤1000000) (hg:(jg ss).length≤1048576) (hL:SLst w a ss) :
  Calls Tryz.prog 28 #[.slice a n c] w (JnR w ss):=by
 have hm':(n:Int)≤1000000:=by omega
 have HN:=hide hn
 by_cases h1:n < 1
 ·have h1':(n:Int) < 1:=by omega
  have HC:Hid (¬(1≤ss.length∧ss.length≤4096)):=hide (by omega)
  clear hn hm hg hL h1
  go_enter Tryz.func28,Tryz.ntmps28
  go_wp2_with fail
  go_ret3
  unfold JnR
  rw [if_neg HC.out]
  exact ⟨rfl,Below.refl _ _⟩
 have h1':¬(n:Int) < 1:=by omega
 by_cases h2:4096 < n
 ·have h2':(4096:Int) < (n:Int):=by omega
  have HC:Hid (¬(1≤ss.length∧ss.length≤4096)):=hide (by omega)
  clear hn hm hg hL h1 h2
  go_enter Tryz.func28,Tryz.ntmps28
  go_wp2_with fail
  go_ret3
  unfold JnR
  rw [if_neg HC.out]
  exact ⟨rfl,Below.refl _ _⟩
 have h2':¬(4096:Int) < (n:Int):=by omega
 have HC:Hid (1≤ss.length∧ss.length≤4096):=hide (by omega)
 have HGS:=hide hg
 have HL:=hide hL
 have CK:=hide (fun (m:Nat) (w:World) (h:m≤1000000000)=>lack_any m w h)
 have CP:=hide (fun v ys x B w hx h hB hl=>place_any v ys x B w hx h hB hl)
 obtain ⟨Z,hZ⟩:∃Z,(jg ss).length=Z:=⟨_,rfl⟩
 have HZ:=hide hZ
 have hZ1:(Z:Int)≤1048576:=by omega
 have HSZ:Hid (∀k,k < n→(ss.getD k ⟨#[]⟩).size≤1048576∧(jg (ss.take (k+1))).length=(jg (ss.take k)).length+((ss.getD k ⟨#[]⟩).size+lck (ss.getD k ⟨#[]⟩).size)∧(jg (ss.take (k+1))).length≤1048576):=hide (fun k hk=>by
  have e:(jg (ss.take (k+1))).length=(jg (ss.take k)).length+((ss.getD k ⟨#[]⟩).size+lck (ss.getD k ⟨#[]⟩).size):=by
   rw [take_s ss k (by omega),jg_snoc,List.length_append,pdT_len,←Lib.size_eq]
  have:=jg_take ss (k+1)
  exact ⟨by omega,e,by omega⟩)
 have HCELL:Hid (∀k,k < n→∃b off,a=some ⟨b,off,none⟩∧∀x,Below w.heap.size w x→x.cell? ⟨b,off+k,none⟩=some (.string (ss.getD k ⟨#[]⟩))):=hide (fun k hk=>by
  rcases hL with hz | ⟨b,off,h1,h2,h3⟩
  ·rw [hz] at hn;simp at hn;omega
  ·exact ⟨b,off,h1,fun x hx=>by rw [hx.cell (p:=⟨b,off+k,none⟩) h2];exact h3 k (by omega)⟩)
 clear hn hg hL hZ
 go_enter Tryz.func28,Tryz.ntmps28
 go_wp2_with fail
 go_loop [5,22] (fun vs vi=>∃k:Nat,vi=.int .i64 k∧vs=.int .i64 (((jg (ss.take k)).length:Nat):Int)∧Hid (k≤n)) (fun _ vi=>n - (intOf vi).toNat)
 case atStart=>exact ⟨0,rfl,rfl,hide (by omega)⟩
 case round=>
  obtain ⟨k,rfl,rfl,HV⟩:=hrel
  have hk:=HV.out
  have hk0:(0:Int)≤(k:Int):=by omega
  clear HV
  by_cases hlt:k < n
  ·have hlt':(k:Int) < (n:Int):=by omega
   obtain ⟨b,off,rfl,hcell⟩:=HCELL.out k hlt
   have hc:=hcell w (Below.refl _ _)
   obtain ⟨z1,z2,z3⟩:=HSZ.out k hlt
   obtain ⟨L0,hL0⟩:∃L0,(jg (ss.take k)).length=L0:=⟨_,rfl⟩
   obtain ⟨g,hg⟩:∃g,ss.getD k ⟨#[]⟩=g:=⟨_,rfl⟩
   rw [hg] at hc z1 z2
   rw [hL0] at z2 ⊢
   have C1:=hide (fun w=>CK.out g.size w (by omega))
   have l0:(0:Int)≤((lck g.size:Nat):Int):=by omega
   have l1:((lck g.size:Nat):Int)≤3:=by unfold lck;omega
   have g1:(g.size:Int)≤1048576:=by omega
   have L1:(L0:Int)≤1048576:=by omega
   have Z2:=hide z2
   clear hcell z1 z2 z3 hL0 hg
   generalize hlk:lck g.size=lk at C1 l0 l1 Z2
   clear hlk
   go_wp2_with (go_at_call 57;refine (C1.out _).mono ?_;rintro e wy ⟨rfl,hy⟩;subst wy)
   go_round
   case rel=>exact ⟨k+1,by go_num,by rw [Z2.out];congr 1,hide (by omega)⟩
   case measure=>simp [intOf];omega
  ·have hlt':¬(k:Int) < (n:Int):=by omega
   obtain rfl:k=n:=by omega
   have eZ:(jg (ss.take k)).length=Z:=by rw [List.take_of_length_le (by rw [HN.out];omega),HZ.out]
   rw [eZ]
   have hz':¬(1048576:Int) < (Z:Int):=by omega
   obtain ⟨M1,hM1⟩:∃M1:Nat,M1=4 * (k+1):=⟨_,rfl⟩
   have hM1':(4:Int) * ((k:Int)+1)=(M1:Int):=by omega
   have hw1:IntKind.i64.wrap ((k:Int)+1)=(k:Int)+1:=by rw [IntKind.wrap_i64];omega
   have hw2:IntKind.i64.wrap (M1:Int)=(M1:Int):=by rw [IntKind.wrap_i64];omega
   have mk1:=fun x=>make_bytes M1 (by omega) x
   have mk2:=fun x=>make_bytes Z (by omega) x
   have HT1:=hide (fun (x:World) (hx:Below w.heap.size w x)=>made_two w x M1 Z hx (by omega) (by omega))
   have HT2:=hide (fun (x:World) (hx:Below w.heap.size w x)=>(made_two w x Z M1 hx (by omega) (by omega)).swap)
   generalize madeCells (Value.int .u8 0).cells M1=MA at mk1 HT1 HT2
   generalize madeCells (Value.int .u8 0).cells Z=MB at mk2 HT1 HT2
   clear eZ hlt hM1
   go_upto_region 11 with (fail)
   go_cut [8,9] from 37 to 43 (fun s8 s9 wc=>Hid (B2 w wc s8 s9 [] []))
   case first=>
    go_region
    all_goals
     go_wp2_with fail
     go_meet
     first | exact hide (HT1.out _ (Below.refl _ _).drew) | exact hide (HT2.out _ (Below.refl _ _).drew)
   case rest=>
    have HB0:=hcut
    clear hcut mk1 mk2 HT1 HT2 hw1 hw2 hM1'
    go_wp2_with fail
    go_loopw [8,9,46] (fun v8 v9 vi wr=>∃j:Nat,vi=.int .i64 j∧Hid (j≤k∧B2 w wr v8 v9 (jl 0 (ss.take j)) (jg (ss.take j)))) (fun _ _ vi _=>k - (intOf vi).toNat)
    case atStart=>exact ⟨0,rfl,hide ⟨by omega,HB0.out⟩⟩
    case round=>
     clear HB0
     obtain ⟨v8,hv8⟩:∃v8,v8=u8:=⟨_,rfl⟩
     subst hv8
     obtain ⟨v9,hv9⟩:∃v9,v9=u9:=⟨_,rfl⟩
     subst hv9
     obtain ⟨j,rfl,HV⟩:=hrel
     obtain ⟨hj,hB⟩:=HV.out
     have hj0:(0:Int)≤(j:Int):=by omega
     clear HV
     have hjt:=jg_take ss j
     obtain ⟨L0,hL0⟩:∃L0,(jg (ss.take j)).length=L0:=⟨_,rfl⟩
     have hL1:L0≤1048576:=by have:=HGS.out;omega
     have hjl:(jl 0 (ss.take j)).length≤20000:=by have:=jl_len (ss.take j) 0;rw [List.length_take] at this;have:=HC.out;omega
     obtain ⟨a9,cap9,hv9⟩:=hB.i2.shape
     rw [hL0] at hv9
     have C1:=hide (CP.out v8 _ L0 w.heap.size wr (by omega) hB.i1 hB.low.size (by omega))
     by_cases hlj:j < k
     case neg=>
      have hlj':¬(j:Int) < (k:Int):=by omega
      obtain rfl:j=k:=by omega
      have eT:ss.take j=ss:=List.take_of_length_le (by rw [HN.out];omega)
      rw [eT] at hB C1 hL0
      have HB:=hide hB
      have HL0:=hide hL0
      subst hv9
      clear hB hL0 hjt hjl hlj eT
      go_wp2_with fail
      refine C1.out.mono ?_
      rintro e w1 ⟨v',W1,rfl,hb1,hg1⟩
      have hB1:=(HB.out.later hb1).grew hg1
      have HLW:=hide hB1.low
      have t1:=fun m=>BRow.text (w:=w1.drewN m) hB1.i1
      have t2:=fun m=>BRow.text (w:=w1.drewN m) hB1.i2
      have HE:Hid (∀S1 S2:ByteArray,S1=⟨(jl 0 ss++p4 (L0:Int)).toArray⟩→S2=⟨(jg ss).toArray⟩→JnR w ss (.returned (.tuple #[.string S1,.string S2,.int .i64 0])) w1):=hide (fun S1 S2 e1 e2=>by
       unfold JnR
       rw [if_pos HC.out,e1,e2,HL0.out]
       exact ⟨rfl,HLW.out⟩)
      obtain ⟨S1,hS1⟩:∃S1:ByteArray,S1=⟨(jl 0 ss++p4 (L0:Int)).toArray⟩:=⟨_,rfl⟩
      obtain ⟨S2,hS2⟩:∃S2:ByteArray,S2=⟨(jg ss).toArray⟩:=⟨_,rfl⟩
      rw [←hS1] at t1
      rw [←hS2] at t2
      have HE2:=hide (HE.out S1 S2 hS1 hS2)
      clear hS1 hS2 HE hB1 hb1 hg1
      go_wp2_with fail
      rename_i kk1
      have HA:=hide kk1
      clear kk1
      go_quiet (fail)
      refine HA.out _ _ ?_
      go_wp2_with fail
      go_ret3
      have h:=HE2.out
      unfold JnR at h ⊢
      rw [if_pos HC.out] at h ⊢
      exact ⟨h.1,below_drewN h.2 _⟩
     have hlj':(j:Int) < (k:Int):=by omega
     obtain ⟨b,off,rfl,hcell⟩:=HCELL.out j hlj
     have hc:=hcell wr hB.low
     obtain ⟨z1,z2,z3⟩:=HSZ.out j hlj
     obtain ⟨g,hg⟩:∃g,ss.getD j ⟨#[]⟩=g:=⟨_,rfl⟩
     rw [hg] at hc z1 z2
     have C2:=hide (fun w=>CK.out g.size w (by omega))
     have l1:lck g.size≤3:=by unfold lck;omega
     have e1:jl 0 (ss.take (j+1))=jl 0 (ss.take j)++p4 (L0:Int):=by
      rw [take_s ss j (by rw [HN.out];exact hlj),jl_snoc,hL0,Nat.zero_add]
     have e2:jg (ss.take (j+1))=jg (ss.take j)++g.data.toList++List.replicate (lck g.size) 0:=by
      rw [take_s ss j (by rw [HN.out];exact hlj),hg,jg_snoc]
      unfold pdT
      rw [←Lib.size_eq,List.append_assoc]
     have HE1:=hide e1
     have HE2:=hide e2
     have HB:=hide hB
     have g1:(g.size:Int)≤1048576:=by omega
     have HLG:=hide (And.intro hL0 (And.intro hL1 (And.intro z1 l1)))
     subst hv9
     generalize hlk:lck g.size=lk at C2 l1 HE2 HLG
     clear hcell z1 z2 z3 hL0 hg e1 e2 hB hjt hjl hlk
     go_wp2_with fail
     refine C1.out.mono ?_
     rintro e w1 ⟨v8',W1,rfl,hb1,hg1⟩
     have hB1:=(HB.out.later hb1).grew hg1
     obtain ⟨v9a,w2,hr2,hg2⟩:=app_s4 g hB1.i2 hB1.low.size (by rw [HLG.out.1];have:=HLG.out;omega)
     have hB2:=hB1.swap.grew hg2
     obtain ⟨v9b,w3,hr3,hg3⟩:=app_z4 lk hB2.i1 hB2.low.size l1 (by rw [List.length_append,HLG.out.1,←Lib.size_eq];have:=HLG.out;omega)
     have HB3:=hide (hB2.grew hg3).swap
     have HR2:=hide hr2
     have HR3:=hide hr3
     clear hr2 hr3 hg2 hg3 hB1 hB2 hb1 hg1 hc HB C1
     go_wp2_with (at_builtin;first | (refine Lib.wpList_append_run _ rfl _ _ _ _ rfl _ _ rfl rfl _ _ HR2.out ?_;clear HR2) | (refine Lib.wpList_append_run _ rfl _ _ _ _ rfl _ _ rfl rfl _ _ HR3.out ?_;clear HR3))
     refine (C2.out _).mono ?_
     rintro e wy ⟨rfl,hy⟩
     subst wy
     go_wp2_with (at_builtin;first | (refine Lib.wpList_append_run _ rfl _ _ _ _ rfl _ _ rfl rfl _ _ HR2.out ?_;clear HR2) | (refine Lib.wpList_append_run _ rfl _ _ _ _ rfl _ _ rfl rfl _ _ HR3.out ?_;clear HR3))
     go_roundw
     case rel=>exact ⟨j+1,by go_num,hide ⟨by omega,by rw [HE1.out,HE2.out];exact HB3.out⟩⟩
     case measure=>simp [intOf];omega
theorem rone_any (f o n:Nat) (w:World) (hf:f≤65535) (ho:o≤65535) (hn:n≤65535) :
  Calls Tryz.prog 161 #[.int .i64 (f:Int),.int .i64 (o:Int),.int .i64 (n:Int)] w fun e w'=>e=.returned (.int .i64 ((wid f o n:Nat):Int))∧w'=w:=by
 cases h1:hb f o
 ·cases h2:hb f n
  ·have hv:wid f o n=2:=by unfold wid;simp [h1,h2]
   rw [hv]
   have e1:=bit_f hf ho h1
   have e2:=bit_f hf hn h2
   clear hv h1 h2 hf ho hn
   go_enter Tryz.func161,Tryz.ntmps161
   go_wp2_with fail
   go_ret
   exact ⟨rfl,rfl⟩
  ·have hv:wid f o n=0:=by unfold wid;simp [h1,h2]
   rw [hv]
   have e1:=bit_f hf ho h1
   obtain ⟨x,e2,e3,e4⟩:=bit_t hf hn h2
   clear hv h1 h2 hf ho hn
   go_enter Tryz.func161,Tryz.ntmps161
   go_wp2_with fail
   go_ret
   exact ⟨rfl,rfl⟩
 ·have hv:wid f o n=1:=by unfold wid;simp [h1]
  rw [hv]
  obtain ⟨x,e2,e3,e4⟩:=bit_t hf ho h1
  clear hv h1 hf ho hn
  go_enter Tryz.func161,Tryz.ntmps161
  go_wp2_with fail
  go_ret
  exact ⟨rfl,rfl⟩
def scV (f:Nat):Int:=match mtx f with | some k=>(k:Int) | none=>-1
theorem rscaled_any (f:Nat) (w:World) (hf:f≤65535):Calls Tryz.prog 159 #[.int .i64 (f:Int)] w fun e w'=>e=.returned (.int .i64 (scV f))∧w'=w:=by
 have hm:scV f=match mtxB (hb f 8) (hb f 64) (hb f 128) with | some k=>(k:Int) | none=>-1:=by unfold scV;rw [mtx_bits]
 have HM:=hide hm
 clear hm
 by_cases qttt:hb f 8=true∧hb f 64=true∧hb f 128=true
 ·obtain ⟨h1,h2,h3⟩:=qttt
  obtain ⟨x1,e1,d1,c1⟩:=bit_t (f:=f) (m:=8) hf (by omega) h1
  have e1:bits .and .i64 (f:Int) 8=x1:=e1
  obtain ⟨x2,e2,d2,c2⟩:=bit_t (f:=f) (m:=64) hf (by omega) h2
  have e2:bits .and .i64 (f:Int) 64=x2:=e2
  obtain ⟨x3,e3,d3,c3⟩:=bit_t (f:=f) (m:=128) hf (by omega) h3
  have e3:bits .and .i64 (f:Int) 128=x3:=e3
  rw [show scV f=-1 by rw [HM.out,h1,h2,h3];rfl]
  clear h1 h2 h3 hf HM
  go_enter Tryz.func159,Tryz.ntmps159
  go_wp2_with fail
  go_ret
  exact ⟨rfl,rfl⟩
 by_cases qttf:hb f 8=true∧hb f 64=true∧hb f 128=false
 ·obtain ⟨h1,h2,h3⟩:=qttf
  obtain ⟨x1,e1,d1,c1⟩:=bit_t (f:=f) (m:=8) hf (by omega) h1
  have e1:bits .and .i64 (f:Int) 8=x1:=e1
  obtain ⟨x2,e2,d2,c2⟩:=bit_t (f:=f) (m:=64) hf (by omega) h2
  have e2:bits .and .i64 (f:Int) 64=x2:=e2
  have e3:bits .and .i64 (f:Int) 128=0:=bit_f (m:=128) hf (by omega) h3
  rw [show scV f=-1 by rw [HM.out,h1,h2,h3];rfl]
  clear h1 h2 h3 hf HM
  go_enter Tryz.func159,Tryz.ntmps159
  go_wp2_with fail
  go_ret
  exact ⟨rfl,rfl⟩
 by_cases qtft:hb f 8=true∧hb f 64=false∧hb f 128=true
 ·obtain ⟨h1,h2,h3⟩:=qtft
  obtain ⟨x1,e1,d1,c1⟩:=bit_t (f:=f) (m:=8) hf (by omega) h1
  have e1:bits .and .i64 (f:Int) 8=x1:=e1
  have e2:bits .and .i64 (f:Int) 64=0:=bit_f (m:=64) hf (by omega) h2
  obtain ⟨x3,e3,d3,c3⟩:=bit_t (f:=f) (m:=128) hf (by omega) h3
  have e3:bits .and .i64 (f:Int) 128=x3:=e3
  rw [show scV f=-1 by rw [HM.out,h1,h2,h3];rfl]
  clear h1 h2 h3 hf HM
  go_enter Tryz.func159,Tryz.ntmps159
  go_wp2_with fail
  go_ret
  exact ⟨rfl,rfl⟩
 by_cases qtff:hb f 8=true∧hb f 64=false∧hb f 128=false
 ·obtain ⟨h1,h2,h3⟩:=qtff
  obtain ⟨x1,e1,d1,c1⟩:=bit_t (f:=f) (m:=8) hf (by omega) h1
  have e1:bits .and .i64 (f:Int) 8=x1:=e1
  have e2:bits .and .i64 (f:Int) 64=0:=bit_f (m:=64) hf (by omega) h2
  have e3:bits .and .i64 (f:Int) 128=0:=bit_f (m:=128) hf (by omega) h3
  rw [show scV f=2 by rw [HM.out,h1,h2,h3];rfl]
  clear h1 h2 h3 hf HM
  go_enter Tryz.func159,Tryz.ntmps159
  go_wp2_with fail
  go_ret
  exact ⟨rfl,rfl⟩
 by_cases qftt:hb f 8=false∧hb f 64=true∧hb f 128=true
 ·obtain ⟨h1,h2,h3⟩:=qftt
  have e1:bits .and .i64 (f:Int) 8=0:=bit_f (m:=8) hf (by omega) h1
  obtain ⟨x2,e2,d2,c2⟩:=bit_t (f:=f) (m:=64) hf (by omega) h2
  have e2:bits .and .i64 (f:Int) 64=x2:=e2
  obtain ⟨x3,e3,d3,c3⟩:=bit_t (f:=f) (m:=128) hf (by omega) h3
  have e3:bits .and .i64 (f:Int) 128=x3:=e3
  rw [show scV f=-1 by rw [HM.out,h1,h2,h3];rfl]
  clear h1 h2 h3 hf HM
  go_enter Tryz.func159,Tryz.ntmps159
  go_wp2_with fail
  go_ret
  exact ⟨rfl,rfl⟩
 by_cases qftf:hb f 8=false∧hb f 64=true∧hb f 128=false
 ·obtain ⟨h1,h2,h3⟩:=qftf
  have e1:bits .and .i64 (f:Int) 8=0:=bit_f (m:=8) hf (by omega) h1
  obtain ⟨x2,e2,d2,c2⟩:=bit_t (f:=f) (m:=64) hf (by omega) h2
  have e2:bits .and .i64 (f:Int) 64=x2:=e2
  have e3:bits .and .i64 (f:Int) 128=0:=bit_f (m:=128) hf (by omega) h3
  rw [show scV f=4 by rw [HM.out,h1,h2,h3];rfl]
  clear h1 h2 h3 hf HM
  go_enter Tryz.func159,Tryz.ntmps159
  go_wp2_with fail
  go_ret
  exact ⟨rfl,rfl⟩
 by_cases qfft:hb f 8=false∧hb f 64=false∧hb f 128=true
 ·obtain ⟨h1,h2,h3⟩:=qfft
  have e1:bits .and .i64 (f:Int) 8=0:=bit_f (m:=8) hf (by omega) h1
  have e2:bits .and .i64 (f:Int) 64=0:=bit_f (m:=64) hf (by omega) h2
  obtain ⟨x3,e3,d3,c3⟩:=bit_t (f:=f) (m:=128) hf (by omega) h3
  have e3:bits .and .i64 (f:Int) 128=x3:=e3
  rw [show scV f=8 by rw [HM.out,h1,h2,h3];rfl]
  clear h1 h2 h3 hf HM
  go_enter Tryz.func159,Tryz.ntmps159
  go_wp2_with fail
  go_ret
  exact ⟨rfl,rfl⟩
 by_cases qfff:hb f 8=false∧hb f 64=false∧hb f 128=false
 ·obtain ⟨h1,h2,h3⟩:=qfff
  have e1:bits .and .i64 (f:Int) 8=0:=bit_f (m:=8) hf (by omega) h1
  have e2:bits .and .i64 (f:Int) 64=0:=bit_f (m:=64) hf (by omega) h2
  have e3:bits .and .i64 (f:Int) 128=0:=bit_f (m:=128) hf (by omega) h3
  rw [show scV f=0 by rw [HM.out,h1,h2,h3];rfl]
  clear h1 h2 h3 hf HM
  go_enter Tryz.func159,Tryz.ntmps159
  go_wp2_with fail
  go_ret
  exact ⟨rfl,rfl⟩
 exfalso
 cases h1:hb f 8 <;> cases h2:hb f 64 <;> cases h3:hb f 128 <;> simp_all
theorem all_at (l:List UInt8) (a:Nat):((l.drop a).all (fun c=>c.toNat == 0))=true↔∀i,a≤i→i < l.length→bt l i=0:=by
 rw [List.all_eq_true]
 constructor
 ·intro h i h1 h2
  have hm:l.getD i 0∈l.drop a:=by
   rw [List.getD_eq_getElem?_getD,List.getElem?_eq_getElem h2]
   show l[i]∈l.drop a
   rw [List.mem_drop_iff_getElem]
   exact ⟨i - a,by omega,by congr 1;omega⟩
  simpa [bt] using h _ hm
 ·intro h c hc
  rw [List.mem_drop_iff_getElem] at hc
  obtain ⟨i,hi,rfl⟩:=hc
  have:=h (a+i) (by omega) (by omega)
  unfold bt at this
  rw [List.getD_eq_getElem?_getD,List.getElem?_eq_getElem (by omega)] at this
  simpa using this
theorem rzeros_any (s:ByteArray) (a:Nat) (z:Int) (w:World) (hz:z=(a:Int)) (hs:s.size≤1000000) (ha:a≤10000000):Calls Tryz.prog 160 #[.string s,.int .i64 z] w fun e w'=>e=.returned (.bool (tailB s.data.toList a))∧w'=w:=by
 subst hz
 have hs':(s.size:Int)≤1000000:=by omega
 have ha':(a:Int)≤10000000:=by omega
 have ha0:(0:Int)≤(a:Int):=by omega
 by_cases h:a≤s.size
 case neg=>
  have hv:tailB s.data.toList a=false:=by unfold tailB;rw [decide_eq_false (by rw [←Lib.size_eq];exact h)];rfl
  rw [hv]
  have hlt:(s.size:Int) < (a:Int):=by omega
  clear hv h
  go_enter Tryz.func160,Tryz.ntmps160
  go_wp2_with fail
  go_ret
  exact ⟨rfl,rfl⟩
 have hv:tailB s.data.toList a=(s.data.toList.drop a).all (fun c=>c.toNat == 0):=by unfold tailB;rw [decide_eq_true (by rw [←Lib.size_eq];exact h)];rfl
 have HV:=hide hv
 have hle:¬(s.size:Int) < (a:Int):=by omega
 clear hv
 go_enter Tryz.func160,Tryz.ntmps160
 go_wp2_with fail
 go_loop [5] (fun v=>∃k:Nat,v=.int .i64 (k:Int)∧Hid (a≤k∧k≤s.size∧∀i,a≤i→i < k→bt s.data.toList i=0)) (fun v=>s.size - (intOf v).toNat)
 case atStart=>exact ⟨a,rfl,hide ⟨Nat.le_refl _,h,fun i h1 h2=>by omega⟩⟩
 case round=>
  obtain ⟨k,rfl,HK⟩:=hrel
  obtain ⟨k0,k1,k2⟩:=HK.out
  have hk0:(0:Int)≤(k:Int):=by omega
  have K2:=hide k2
  clear HK k2
  by_cases hk:k < s.size
  ·have hk':(k:Int) < (s.size:Int):=by omega
   have hbt:=bt_at s k hk
   by_cases h0:s[k].toNat=0
   ·have h0':((s[k].toNat:Int) == 0)=true:=by rw [beq_iff_eq];omega
    have K3:Hid (∀i,a≤i→i < k+1→bt s.data.toList i=0):=hide fun i h1 h2=>by
     by_cases e:i=k
     ·subst e;omega
     ·exact K2.out i h1 (by omega)
    clear hbt h0
    go_wp2_with fail
    go_round
    case rel=>exact ⟨k+1,by go_num,hide ⟨by omega,by omega,K3.out⟩⟩
    case measure=>simp [intOf];omega
   ·have h0':((s[k].toNat:Int) == 0)=false:=by rw [beq_eq_false_iff_ne];omega
    have E:=hide (show tailB s.data.toList a=false by
     rw [HV.out]
     cases e:(s.data.toList.drop a).all (fun c=>c.toNat == 0) with
     | false=>rfl
     | true=>exact absurd ((all_at _ _).1 e k k0 (by rw [←Lib.size_eq];exact hk)) (by omega))
    clear hbt h0
    go_wp2_with fail
    go_ret
    exact ⟨by rw [E.out];rfl,rfl⟩
  ·have hk':¬(k:Int) < (s.size:Int):=by omega
   have E:=hide (show tailB s.data.toList a=true by
    rw [HV.out,all_at]
    intro i h1 h2
    rw [←Lib.size_eq] at h2
    exact K2.out i h1 (by omega))
   go_wp2_with fail
   go_ret
   exact ⟨by rw [E.out];rfl,rfl⟩
abbrev zs3:Array Value:=#[.int .i64 0,.slice none 0 0,.slice none 0 0]
theorem _root_.Go.Proofs.YtpaadbnlhapdbaaGreatDoor.Blk.three {w:World} {b:Nat} {u v x:Value} {t:TypeId} (h:Blk w b #[u,v,x] t):(w.cell? ⟨b,0,none⟩=some u∧w.cell? ⟨b,1,none⟩=some v∧w.cell? ⟨b,2,none⟩=some x)∧w.frozen? ⟨b,0,none⟩=false∧w.frozen? ⟨b,1,none⟩=false∧w.frozen? ⟨b,2,none⟩=false:=
 ⟨⟨h.cell 0,h.cell 1,h.cell 2⟩,h.frozen 0,h.frozen 1,h.frozen 2⟩
theorem st3 {V:World} {B:Nat} {u0 u1 u2:Value} {t:TypeId} (hk:Blk V B #[u0,u1,u2] t) (x y z:Value):Blk (((V.setCell ⟨B,0,none⟩ x).setCell ⟨B,1,none⟩ y).setCell ⟨B,2,none⟩ z) B #[x,y,z] t:=by
 have:=((hk.set 0 x).set 1 y).set 2 z
 simpa using this
theorem st3_below {w V:World} {B:Nat} (h:Below w.heap.size w V) (hB:w.heap.size≤B) (x y z:Value):Below w.heap.size w (((V.setCell ⟨B,0,none⟩ x).setCell ⟨B,1,none⟩ y).setCell ⟨B,2,none⟩ z):=
 ((h.setCell (p:=⟨B,0,none⟩) hB x).setCell (p:=⟨B,1,none⟩) hB y).setCell (p:=⟨B,2,none⟩) hB z
theorem below_same {w a b:World} (h:Below w.heap.size w a) (e0:b.os=a.os) (e1:b.tape=a.tape) (e2:b.output=a.output) (e3:b.heap=a.heap):Below w.heap.size w b:=
 ⟨e0.trans h.os,e1.trans h.tape,e2.trans h.output,e3 ▸ h.size,fun k hk=>by rw [e3];exact h.block k hk⟩
end Go.Proofs.YtpaadbnlhapdbaaGreatDoor.G10
