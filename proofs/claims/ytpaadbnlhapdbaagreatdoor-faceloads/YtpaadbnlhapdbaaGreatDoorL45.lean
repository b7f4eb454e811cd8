/-
  Joined: S8Td.
-/
import Derived.Test.YtpaadbnlhapdbaaGreatDoorL44
namespace Go.Proofs.YtpaadbnlhapdbaaGreatDoor.S8
open Go.RowKit Go.Deep
set_option linter.unusedVariables false
set_option linter.unusedSimpArgs false
theorem nb_f4 (x:Int):f4 x=nbT x 4:=by
 unfold f4
 simp only [nbT,nbB,List.cons_append,List.nil_append]
 have e1:x / 65536 / 256 ^ 1 % 256=x / 256 ^ 3 % 256:=by omega
 have e2:x / 65536 / 256 ^ 0 % 256=x / 256 ^ 2 % 256:=by omega
 rw [e1,e2]
theorem nb_mod (x:Int):nbT (x % 4294967296) 4=nbT x 4:=by
 simp only [nbT,nbB]
 have e0:x % 4294967296 / 256 ^ 0 % 256=x / 256 ^ 0 % 256:=by omega
 have e1:x % 4294967296 / 256 ^ 1 % 256=x / 256 ^ 1 % 256:=by omega
 have e2:x % 4294967296 / 256 ^ 2 % 256=x / 256 ^ 2 % 256:=by omega
 have e3:x % 4294967296 / 256 ^ 3 % 256=x / 256 ^ 3 % 256:=by omega
 rw [e0,e1,e2,e3]
theorem make_textG (T:Nat) (w:World) (hT:T≤1048576):∃w1,(Instr.makeSlice 97 (.int .i64 0) (.int .i64 (T:Int))).run Tryz.prog w=.ok (.slice (some ⟨w.heap.size,0,none⟩) 0 T) w1∧BRow w1 w.heap.size (.slice (some ⟨w.heap.size,0,none⟩) 0 T) []∧Below w.heap.size w w1:=by
 obtain ⟨i,hi,hz,h1,h2⟩:=info_parts5 info_u8
 obtain ⟨w1,a,b,c⟩:=run_make_own (P:=Tryz.prog) w w.heap.size 97 5 i _ 1 Tryz.underlying97 hi hz h1 .i64 .i64 T (by rw [h2];omega) (by unfold maxLen;omega) (Nat.le_refl _)
 exact ⟨w1,a,b,(Below.refl _ _).grown c (Nat.le_refl _) (fun k hk=>by cases hk)⟩
theorem openT_len (n:Nat):(openT n).length=12:=by
 unfold openT opNums
 simp [nbT_len]
theorem brow_own {w:World} {B k:Nat} {v:Value} {ys:List UInt8} (h:BRow w B v ys) (e:v.ownBlock=some k):∃cs,w.heap[k]?=some (.cells cs 5 (0,0)):=by
 obtain ⟨_,⟨h0,_⟩ | ⟨g,cap,cur,hv,_,hg,_⟩⟩:=h
 ·rw [h0] at e;simp [Value.ownBlock] at e
 ·rw [hv] at e
  have : g=k:=by simpa [Value.ownBlock] using e
  subst this
  exact ⟨_,hg⟩
theorem brow_shape {w:World} {B:Nat} {v:Value} {ys:List UInt8} (h:BRow w B v ys) (hl:0 < ys.length):∃g cap,v=.slice (some ⟨g,0,none⟩) ys.length cap∧B≤g∧g < w.heap.size∧ys.length≤cap∧cap≤9223372036854775807:=by
 have h':=h
 obtain ⟨_,⟨h0,h1⟩ | ⟨g,cap,cur,hv,hb,hg,hc,hm,_⟩⟩:=h'
 ·omega
 ·refine ⟨g,cap,hv,hb,?_,hc,by unfold maxLen at hm;exact hm⟩
  rw [hv] at h
  exact (World.ownsRow.lt h g rfl).2
def txK (s:List UInt8) (o:Int):List UInt8:=if 0≤o then s.take o.toNat++(f4 ((2981146554 - ((sumV s:Nat):Int)) % 4294967296)++s.drop (o.toNat+4)) else s
theorem ow_none (m:List Tab) (hgo:goM m):∀k,k < m.length→eqS (m.getD k tz).1 ⟨#[104,101,97,100]⟩=true→owK m k=-1:=by
 have key:∀k,owK m k=-1∨∃j,j < k∧eqS (m.getD j tz).1 ⟨#[104,101,97,100]⟩=true:=by
  intro k
  induction k with
  | zero=>exact Or.inl rfl
  | succ k ih=>
   rw [owK]
   split
   ·rename_i h
    rw [Bool.and_eq_true] at h
    exact Or.inr ⟨k,by omega,h.1⟩
   ·rcases ih with h | ⟨j,h1,h2⟩
    ·exact Or.inl h
    ·exact Or.inr ⟨j,by omega,h2⟩
 intro k hk he
 rcases key k with h | ⟨j,h1,h2⟩
 ·exact h
 ·exfalso
  rw [getD_some m j (by omega),eqS_iff] at h2
  rw [getD_some m k hk,eqS_iff] at he
  exact st_ne ((go_iff m).1 hgo).2 h1 hk (h2.trans he.symm)
theorem row_facts (m:List Tab) (n k:Nat) (hn:m.length=n) (h4:∀x∈m,x.1.size=4) (hsz:plT m n≤1048576) (hk:k < n) :
  ∃(x1 x2:ByteArray) (b0 b1 b2 b3:UInt8) (P L:Nat) (D:ByteArray),m[k]?=some (x1,x2)∧x1=tgS b0 b1 b2 b3∧lyRw m k=⟨b0,b1,b2,b3,0,(P:Int),(L:Int)⟩∧plT m k=P∧x2.size=L∧smS b0 b1 b2 b3 x2=D∧dOf m k=D∧P+L≤1048576:=by
 have hkl:k < m.length:=by omega
 have hx:m[k]?=some m[k]:=List.getElem?_eq_getElem hkl
 have hd:=getD_some m k hkl
 obtain ⟨b0,b1,b2,b3,e⟩:=four_of (h4 m[k] (List.getElem_mem hkl))
 refine ⟨m[k].1,m[k].2,b0,b1,b2,b3,plT m k,m[k].2.size,_,hx,e,?_,rfl,rfl,rfl,?_,?_⟩
 ·unfold lyRw;rw [hd,e];rfl
 ·unfold dOf ownS;rw [hd,e]
 ·have h1:=pl_next m k
  have h2:=pl_mono m (k+1) (n - (k+1))
  rw [show k+1+(n - (k+1))=n by omega] at h2
  have h3:(dOf m k).size=m[k].2.size:=by unfold dOf;rw [ownS_size,hd]
  omega
set_option maxRecDepth 8000 in
set_option maxHeartbeats 8000000 in
theorem write_any (g c b cap n:Nat) (m:List Tab) (w:World) (hn:m.length=n) (h1:1≤n) (h2:n≤32) (hgo:goM m) (hsz:plT m n≤1048576) (hg:g < w.heap.size)
  (hL:∀i x,m[i]?=some x→w.cell? ⟨g,i * 2,none⟩=some (.string x.1)∧w.cell? ⟨g,i * 2+1,none⟩=some (.string x.2)) (hR:RLst w b (lyRs m n)) (hG:Glo8 w) :
  Calls Tryz.prog 72 #[.slice (some ⟨g,0,none⟩) n c,.slice (some ⟨b,0,none⟩) n cap,.int .i64 (plT m n:Int)] w fun e w'=>e=.returned (.string ⟨(txtV m).toArray⟩)∧Below w.heap.size w w':=by
 have h1':(1:Int)≤(n:Int):=by omega
 have h2':(n:Int)≤32:=by omega
 have hol:(openT n).length=12:=openT_len n
 have hT1:(plT m n:Int)≤1048576:=by omega
 obtain ⟨w1,hmk,hb1,hB1⟩:=make_textG (plT m n) w hsz
 have CO:=hide (opening_any n w1 (by omega) (by omega))
 have CF:=hide (fun (x:Int) (w:World) h0 h1=>filled_any x w h0 h1)
 have HROW:=hide (fun k hk=>row_facts m n k hn hgo.1 hsz hk)
 have HROWL:=hide (fun k (hk:k≤n)=>row_len m (go_ok m hgo) k (by omega))
 have HG:=hide hG
 have HRL:=hide hR
 have HL:=hide hL
 have HGO:=hide hgo
 have HN:=hide hn
 have HSZ:=hide hsz
 have H12:=hide (And.intro h1 h2)
 have hbb:=hR.1
 have HB1:=hide hB1
 have Hb1:=hide hb1
 have hTX:txtV m=txtV m:=rfl
 obtain ⟨FIN,hFIN⟩:∃F,txtV m=F:=⟨_,rfl⟩
 rw [hFIN]
 have HFIN:=hide hFIN
 obtain ⟨OT,hOT⟩:∃O,openT n=O:=⟨_,rfl⟩
 rw [hOT] at CO hol
 have HOT:=hide hOT
 have HOL:=hide hol
 obtain ⟨TT,hTT⟩:∃T,plT m n=T:=⟨_,rfl⟩
 rw [hTT] at hmk hT1 Hb1 ⊢
 have HTT:=hide hTT
 clear hG hL hB1 hb1 hR hgo hn hsz h1 h2 hTX hFIN hOT hTT
 go_enter Tryz.func72,Tryz.ntmps72
 go_wp2_with fail
 refine CO.out.mono ?_
 rintro e w2 ⟨rfl,hB2⟩
 obtain ⟨v3,w3,hr3,hb3,hk3⟩:=app_s3 ⟨OT.toArray⟩ (Hb1.out.later hB2) (Nat.le_trans HB1.out.size hB2.size) (by rw [Lib.size_eq];show _+OT.length≤_;rw [hol];simp)
 have HR3:=hide hr3
 have HB3:=hide ((below_t5 HB1.out hB2).trans hk3.below)
 have Hb3:=hide (show BRow w3 w.heap.size v3 OT by simpa using hb3)
 clear hB2 hr3 hb3 hk3 hmk hol
 generalize (⟨OT.toArray⟩:ByteArray)=OB at HR3 ⊢
 go_wp2_with (at_builtin;refine Lib.wpList_append_run _ rfl _ _ _ _ rfl _ _ rfl rfl _ _ HR3.out ?_)
 clear HR3 HB1 Hb1
 go_loopw [7,24] (fun vt vi wr=>∃k:Nat,vi=.int .i64 k∧Hid (k≤n∧BRow wr w.heap.size vt (OT++rowT m k)∧Below w.heap.size w wr)) (fun _ vi _=>n - (intOf vi).toNat)
 case atStart=>exact ⟨0,rfl,hide ⟨by omega,by rw [rowT,List.append_nil];exact Hb3.out,HB3.out⟩⟩
 case round=>
  obtain ⟨vt,hvt⟩:∃v,v=u7:=⟨_,rfl⟩
  subst hvt
  obtain ⟨k,rfl,HV⟩:=hrel
  obtain ⟨hk,hT,hbw⟩:=HV.out
  have hk0:(0:Int)≤(k:Int):=by omega
  clear HV
  by_cases hlt:k < n
  case pos=>
   have hlt':(k:Int) < (n:Int):=by omega
   obtain ⟨x1,x2,b0,b1,b2,b3,P,L,D,hx,rfl,hly,hP,hL2,hD,hDk,hPL⟩:=HROW.out k hlt
   obtain ⟨g0,g1,g2,g3,g4,g5,g6⟩:=(HRL.out.kept hbw hbb).2 k _ (lyRs_at m n k hlt)
   rw [hly] at g0 g1 g2 g3 g4 g5 g6
   simp only at g0 g1 g2 g3 g4 g5 g6
   obtain ⟨_,c1⟩:=HL.out k _ hx
   have hgw:g < wr.heap.size:=Nat.lt_of_lt_of_le hg hbw.size
   have hbr:b < wr.heap.size:=Nat.lt_of_lt_of_le hbb hbw.size
   have hne1:b≠wr.heap.size:=by omega
   have hP':(P:Int)≤1048576:=by omega
   have hL':(L:Int)≤1048576:=by omega
   have HC1:=hide (show ∀y:World,Below w.heap.size w y→y.cell? ⟨g,k * 2+1,none⟩=some (.string x2) from fun y hy=>by rw [hy.cell (p:=⟨g,k * 2+1,none⟩) hg];exact c1)
   have HBW:=hide hbw
   have HT:=hide hT
   obtain ⟨SU,hSU⟩:∃SU:Nat,sumV D.data.toList=SU:=⟨_,rfl⟩
   have hSUb:(SU:Int)≤4294967295:=by have:=sumV_lt D.data.toList;omega
   have CSu:=hide (show ∀(w:World),Calls Tryz.prog 108 #[.string D] w fun e w'=>e=.returned (.int .i64 (SU:Int))∧w'=w from fun w=>by
    have hh:=sum_any D w (by rw [←hD,smS_size];omega)
    rw [hSU] at hh
    exact hh)
   have CS:=hide (show ∀(w:World),Glo8 w→Calls Tryz.prog 109 #[.agg (tgC b0 b1 b2 b3),.string x2] w fun e w'=>e=.returned (.string D)∧Below w.heap.size w w' from fun w hg=>by
    have hh:=summed_any b0 b1 b2 b3 x2 w hg (by omega)
    rw [hD] at hh
    exact hh)
   have CA:=hide (fun v ys w'=>appendTo_any ⟨b0,b1,b2,b3,(SU:Int),(P:Int),(L:Int)⟩ v ys w.heap.size w' (by unfold RwOk;simp only;omega))
   have HTX:=hide (show OT++rowT m (k+1)=OT++rowT m k++tgT ⟨b0,b1,b2,b3,(SU:Int),(P:Int),(L:Int)⟩++nbT (SU:Int) 4++nbT (P:Int) 4++nbT (L:Int) 4 by
    rw [rowT,hDk,hSU,hP,nb_f4,nb_f4,nb_f4,show (D.size:Int)=(L:Int) by rw [←hD,smS_size];omega,show (m.getD k tz).1=tgS b0 b1 b2 b3 by rw [List.getD_eq_getElem?_getD,hx];rfl]
    simp [tgT])
   have HRT:=hide (show (OT++rowT m k).length≤100000000 by rw [List.length_append,HROWL.out k hk];have:=HOL.out;omega)
   clear hT hbw hx hly hP hL2 hD hDk hPL c1 hSU hk hlt
   go_wp2_with fail
   rename_i kk0
   have HA:=hide kk0
   clear kk0
   have kb:=Blk.new wr (rC b0 b1 b2 b3 0 (P:Int) (L:Int)) 150
   have hbv:Below wr.heap.size wr (wr.alloc (.cells (rC b0 b1 b2 b3 0 (P:Int) (L:Int)) 150)):=(Below.refl _ _).alloc (Nat.le_refl _) _
   generalize wr.alloc (.cells (rC b0 b1 b2 b3 0 (P:Int) (L:Int)) 150)=V at kb hbv ⊢
   have KS:=hide (show ∀y,Below V.heap.size V y→(fun y=>y.cell? ⟨wr.heap.size,0,none⟩=some (.int .u8 (b0.toNat:Int))∧y.cell? ⟨wr.heap.size,1,none⟩=some (.int .u8 (b1.toNat:Int))∧y.cell? ⟨wr.heap.size,2,none⟩=some (.int .u8 (b2.toNat:Int))∧y.cell? ⟨wr.heap.size,3,none⟩=some (.int .u8 (b3.toNat:Int))∧y.cell? ⟨g,k * 2+1,none⟩=some (.string x2)) y from fun y hy=>⟨(kb.below hy).cell 0,(kb.below hy).cell 1,(kb.below hy).cell 2,(kb.below hy).cell 3,HC1.out _ (HBW.out.trans ((below_t5 hbv hy).mono HBW.out.size))⟩)
   have HGV:=hide (HG.out.below (HBW.out.trans (hbv.mono HBW.out.size)))
   have HB:=hide (Below.refl V.heap.size V)
   have HBV:=hide hbv
   have HKV:=hide kb
   clear kb hbv g0 g1 g2 g3 g4 g5 g6
   refine wp_region_held_drew (S:=(fun y=>y.cell? ⟨wr.heap.size,0,none⟩=some (.int .u8 (b0.toNat:Int))∧y.cell? ⟨wr.heap.size,1,none⟩=some (.int .u8 (b1.toNat:Int))∧y.cell? ⟨wr.heap.size,2,none⟩=some (.int .u8 (b2.toNat:Int))∧y.cell? ⟨wr.heap.size,3,none⟩=some (.int .u8 (b3.toNat:Int))∧y.cell? ⟨g,k * 2+1,none⟩=some (.string x2))) (by kernel_rfl) (KS.out _ ((Below.refl _ _).drew)) (fun hHeld=>?_)
   refine takeW (i:=0) (d:=29) (v:=.pointer (some ⟨wr.heap.size,0,none⟩)) rfl rfl (by kernel_rfl) (by kernel_rfl) (by kernel_rfl) (fun _ _ _ h=>h) (by rfl) ?_ (by assumption) ?_
   ·intro x hSx
    obtain ⟨q0,q1,q2,q3,q4⟩:=hSx
    go_simp
   simp only [Act.put,List.setIfInBounds_toArray,List.set_cons_zero,List.set_cons_succ]
   refine takeW (i:=1) (d:=30) (v:=.agg (tgC b0 b1 b2 b3)) rfl rfl (by kernel_rfl) (by kernel_rfl) (by kernel_rfl) (fun _ _ _ h=>h) (by rfl) ?_ (by assumption) ?_
   ·intro x hSx
    obtain ⟨q0,q1,q2,q3,q4⟩:=hSx
    go_simp
   simp only [Act.put,List.setIfInBounds_toArray,List.set_cons_zero,List.set_cons_succ]
   refine takeW (i:=2) (d:=31) (v:=.slice (some ⟨g,0,none⟩) n c) rfl rfl (by kernel_rfl) (by kernel_rfl) (by kernel_rfl) (fun _ _ _ h=>h) (by rfl) ?_ (by assumption) ?_
   ·intro x hSx
    obtain ⟨q0,q1,q2,q3,q4⟩:=hSx
    go_simp
   simp only [Act.put,List.setIfInBounds_toArray,List.set_cons_zero,List.set_cons_succ]
   refine takeW (i:=3) (d:=32) (v:=.int .i64 (k:Int)) rfl rfl (by kernel_rfl) (by kernel_rfl) (by kernel_rfl) (fun _ _ _ h=>h) (by rfl) ?_ (by assumption) ?_
   ·intro x hSx
    obtain ⟨q0,q1,q2,q3,q4⟩:=hSx
    go_simp
   simp only [Act.put,List.setIfInBounds_toArray,List.set_cons_zero,List.set_cons_succ]
   refine takeW (i:=4) (d:=33) (v:=.pointer (some ⟨g,k * 2,none⟩)) rfl rfl (by kernel_rfl) (by kernel_rfl) (by kernel_rfl) (fun _ _ _ h=>h) (by rfl) ?_ (by assumption) ?_
   ·intro x hSx
    obtain ⟨q0,q1,q2,q3,q4⟩:=hSx
    go_simp
   simp only [Act.put,List.setIfInBounds_toArray,List.set_cons_zero,List.set_cons_succ]
   refine takeW (i:=5) (d:=34) (v:=.pointer (some ⟨g,k * 2+1,none⟩)) rfl rfl (by kernel_rfl) (by kernel_rfl) (by kernel_rfl) (fun _ _ _ h=>h) (by rfl) ?_ (by assumption) ?_
   ·intro x hSx
    obtain ⟨q0,q1,q2,q3,q4⟩:=hSx
    go_simp
   simp only [Act.put,List.setIfInBounds_toArray,List.set_cons_zero,List.set_cons_succ]
   refine takeW (i:=6) (d:=35) (v:=.string x2) rfl rfl (by kernel_rfl) (by kernel_rfl) (by kernel_rfl) (fun _ _ _ h=>h) (by rfl) ?_ (by assumption) ?_
   ·intro x hSx
    obtain ⟨q0,q1,q2,q3,q4⟩:=hSx
    go_simp
   simp only [Act.put,List.setIfInBounds_toArray,List.set_cons_zero,List.set_cons_succ]
   refine wpAnyH_ready (rs:=[7]) (by kernel_rfl) (by simp) ?_
   refine AllReadyH.cons rfl (fun K hK=>?_) AllReadyH.nil
   rw [if_pos (by rfl)]
   go_simp
   go_at_call 109
   refine (CS.out _ ?_).mono ?_
   ·exact HGV.out.below (below_d HB.out (Below.refl _ _) rfl rfl rfl rfl)
   rintro e y ⟨rfl,hbx⟩
   replace HB:=hide (below_d HB.out hbx rfl rfl rfl rfl)
   clear hbx
   refine hK.out _ _ (KS.out _ HB.out) (fun hHeld=>?_)
   clear hK K
   refine wpAnyH_ready (rs:=[8]) (by kernel_rfl) (by simp) ?_
   refine AllReadyH.cons rfl (fun K hK=>?_) AllReadyH.nil
   rw [if_pos (by rfl)]
   go_simp
   go_at_call 108
   refine (CSu.out _).mono ?_
   rintro e y9 ⟨rfl,hy9⟩
   replace hy9:=hy9.symm
   subst hy9
   refine hK.out _ _ (KS.out _ HB.out) (fun hHeld=>?_)
   clear hK K
   refine takeW (i:=9) (d:=38) (v:=.pointer (some ⟨wr.heap.size,4,none⟩)) rfl rfl (by kernel_rfl) (by kernel_rfl) (by kernel_rfl) (fun _ _ _ h=>h) (by rfl) ?_ (by assumption) ?_
   ·intro x hSx
    obtain ⟨q0,q1,q2,q3,q4⟩:=hSx
    go_simp
   simp only [Act.put,List.setIfInBounds_toArray,List.set_cons_zero,List.set_cons_succ]
   refine wpAnyH_ready (rs:=[10]) (by kernel_rfl) (by simp) ?_
   refine AllReadyH.cons rfl (fun K hK=>?_) AllReadyH.nil
   have ky:=HKV.out.below HB.out
   have f4:=ky.frozen 4
   have y4:=ky.cell 4
   simp at y4
   rw [if_pos (by rfl)]
   go_simp
   have K5:=ky.set 4 (.int .i64 (SU:Int))
   have B5:Below wr.heap.size wr (y.setCell ⟨wr.heap.size,4,none⟩ (.int .i64 (SU:Int))):=(below_t5 HBV.out HB.out).setCell (p:=⟨wr.heap.size,4,none⟩) (Nat.le_refl _) _
   clear y4 f4 ky
   generalize y.setCell ⟨wr.heap.size,4,none⟩ (.int .i64 (SU:Int))=W5 at K5 B5 ⊢
   replace K5:Blk W5 wr.heap.size (rwC ⟨b0,b1,b2,b3,(SU:Int),(P:Int),(L:Int)⟩) 150:=K5
   refine hK.out _ _ ⟨K5.cell 0,K5.cell 1,K5.cell 2,K5.cell 3,HC1.out _ (HBW.out.trans (B5.mono HBW.out.size))⟩ (fun hHeld=>?_)
   clear hK K
   refine wpAnyH_done (by kernel_rfl) ?_ _
   refine HA.out _ _ ?_
   clear HA KS HGV HB HKV
   obtain ⟨_,g0,g1,g2,g3,g4,g5,g6⟩:=RAt.of K5
   simp only at g0 g1 g2 g3 g4 g5 g6
   have Hb5:=hide (HT.out.later B5)
   have HB5:=hide (HBW.out.trans (B5.mono HBW.out.size))
   clear K5 B5 HBV
   go_wp2_with fail
   refine (CA.out _ _ _ Hb5.out HB5.out.size HRT.out).mono ?_
   rintro e w6 ⟨v6,rfl,hb6,hk6⟩
   have Hb6:=hide hb6
   have HB6:=hide (HB5.out.trans hk6.below)
   clear hb6 hk6 g0 g1 g2 g3 g4 g5 g6
   go_wp2_with fail
   go_roundw
   case rel=>exact ⟨k+1,by go_num,hide ⟨by omega,by rw [HTX.out];exact Hb6.out,HB6.out⟩⟩
   case measure=>simp [intOf];omega
  case neg=>
  obtain rfl:n=k:=by omega
  have hlt':¬(n:Int) < (n:Int):=by omega
  have Hb4:=hide hT
  have HB4:=hide hbw
  clear hT hbw hk
  go_wp2_with fail
  go_loopw [7,45] (fun vt vi wr=>∃k:Nat,vi=.int .i64 k∧Hid (k≤n∧BRow wr w.heap.size vt (OT++rowT m n++bodT m k)∧Below w.heap.size w wr)) (fun _ vi _=>n - (intOf vi).toNat)
  case atStart=>exact ⟨0,rfl,hide ⟨by omega,by rw [bodT,List.append_nil];exact Hb4.out,HB4.out⟩⟩
  case round=>
   clear Hb4 HB4 Hb3 HB3
   obtain ⟨vt,hvt⟩:∃v,v=u7:=⟨_,rfl⟩
   subst hvt
   obtain ⟨k,rfl,HV⟩:=hrel
   obtain ⟨hk,hT,hbw⟩:=HV.out
   have hk0:(0:Int)≤(k:Int):=by omega
   clear HV
   by_cases hlt:k < n
   case pos=>
    have hlt':(k:Int) < (n:Int):=by omega
    obtain ⟨x1,x2,b0,b1,b2,b3,P,L,D,hx,rfl,hly,hP,hL2,hD,hDk,hPL⟩:=HROW.out k hlt
    obtain ⟨g0,g1,g2,g3,g4,g5,g6⟩:=(HRL.out.kept hbw hbb).2 k _ (lyRs_at m n k hlt)
    rw [hly] at g0 g1 g2 g3 g4 g5 g6
    simp only at g0 g1 g2 g3 g4 g5 g6
    obtain ⟨_,c1⟩:=HL.out k _ hx
    have hgw:g < wr.heap.size:=Nat.lt_of_lt_of_le hg hbw.size
    have hbr:b < wr.heap.size:=Nat.lt_of_lt_of_le hbb hbw.size
    have hne1:b≠wr.heap.size:=by omega
    have hP':(P:Int)≤1048576:=by omega
    have hL':(L:Int)≤1048576:=by omega
    have HC1:=hide (show ∀y:World,Below w.heap.size w y→y.cell? ⟨g,k * 2+1,none⟩=some (.string x2) from fun y hy=>by rw [hy.cell (p:=⟨g,k * 2+1,none⟩) hg];exact c1)
    have HBW:=hide hbw
    have HT:=hide hT
    have CS:=hide (show ∀(w:World),Glo8 w→Calls Tryz.prog 109 #[.agg (tgC b0 b1 b2 b3),.string x2] w fun e w'=>e=.returned (.string D)∧Below w.heap.size w w' from fun w hg=>by
     have hh:=summed_any b0 b1 b2 b3 x2 w hg (by omega)
     rw [hD] at hh
     exact hh)
    have hDs:D.size=L:=by rw [←hD,smS_size];exact hL2
    obtain ⟨Z,hZ⟩:∃Z,(4 - L % 4) % 4=Z:=⟨_,rfl⟩
    have hZ3:Z≤3:=by omega
    obtain ⟨FL,hFL⟩:∃F:Int,((L:Int)+3) / 4 * 4=F:=⟨_,rfl⟩
    have hFZ:FL - (L:Int)=(Z:Int):=by omega
    have hFb:FL≤2000000:=by omega
    have hFb0:0≤FL:=by omega
    have CFl:=hide (show ∀(w:World),Calls Tryz.prog 105 #[.int .i64 (L:Int)] w fun e w'=>e=.returned (.int .i64 FL)∧w'=w from fun w=>by
     have hh:=CF.out (L:Int) w (by omega) (by omega)
     rw [hFL] at hh
     exact hh)
    have HTX:=hide (show OT++rowT m n++bodT m (k+1)=OT++rowT m n++bodT m k++D.data.toList++List.replicate Z 0 by
     rw [bodT,hDk]
     unfold padT
     rw [←Lib.size_eq,hDs,hZ]
     simp)
    have HTL:=hide (show (OT++rowT m n++bodT m k).length+D.size≤3000000 by
     have e:=HROWL.out n (Nat.le_refl _)
     have e2:plT m k=12+16 * m.length+(bodT m k).length:=rfl
     rw [List.length_append,List.length_append,e,HOL.out]
     have:=H12.out
     omega)
    clear hT hbw hx hly hP hL2 hD hDk hPL c1 hk hlt hDs hZ hFL
    go_wp2_with fail
    rename_i kk0
    have HA:=hide kk0
    clear kk0
    have kb:=Blk.new wr (rC b0 b1 b2 b3 0 (P:Int) (L:Int)) 150
    have hbv:Below wr.heap.size wr (wr.alloc (.cells (rC b0 b1 b2 b3 0 (P:Int) (L:Int)) 150)):=(Below.refl _ _).alloc (Nat.le_refl _) _
    generalize wr.alloc (.cells (rC b0 b1 b2 b3 0 (P:Int) (L:Int)) 150)=V at kb hbv ⊢
    have KS:=hide (show ∀y,Below V.heap.size V y→(fun y=>y.cell? ⟨wr.heap.size,0,none⟩=some (.int .u8 (b0.toNat:Int))∧y.cell? ⟨wr.heap.size,1,none⟩=some (.int .u8 (b1.toNat:Int))∧y.cell? ⟨wr.heap.size,2,none⟩=some (.int .u8 (b2.toNat:Int))∧y.cell? ⟨wr.heap.size,3,none⟩=some (.int .u8 (b3.toNat:Int))∧y.cell? ⟨g,k * 2+1,none⟩=some (.string x2)) y from fun y hy=>⟨(kb.below hy).cell 0,(kb.below hy).cell 1,(kb.below hy).cell 2,(kb.below hy).cell 3,HC1.out _ (HBW.out.trans ((below_t5 hbv hy).mono HBW.out.size))⟩)
    have HGV:=hide (HG.out.below (HBW.out.trans (hbv.mono HBW.out.size)))
    have HB:=hide (Below.refl V.heap.size V)
    have HBV:=hide hbv
    have HKV:=hide kb
    clear kb hbv g0 g1 g2 g3 g4 g5 g6
    refine wp_region_held_drew (S:=(fun y=>y.cell? ⟨wr.heap.size,0,none⟩=some (.int .u8 (b0.toNat:Int))∧y.cell? ⟨wr.heap.size,1,none⟩=some (.int .u8 (b1.toNat:Int))∧y.cell? ⟨wr.heap.size,2,none⟩=some (.int .u8 (b2.toNat:Int))∧y.cell? ⟨wr.heap.size,3,none⟩=some (.int .u8 (b3.toNat:Int))∧y.cell? ⟨g,k * 2+1,none⟩=some (.string x2))) (by kernel_rfl) (KS.out _ ((Below.refl _ _).drew)) (fun hHeld=>?_)
    refine takeW (i:=0) (d:=50) (v:=vt) rfl rfl (by kernel_rfl) (by kernel_rfl) (by kernel_rfl) (fun _ _ _ h=>h) (by rfl) ?_ (by assumption) ?_
    ·intro x hSx
     obtain ⟨q0,q1,q2,q3,q4⟩:=hSx
     go_simp
    simp only [Act.put,List.setIfInBounds_toArray,List.set_cons_zero,List.set_cons_succ]
    refine takeW (i:=1) (d:=51) (v:=.pointer (some ⟨wr.heap.size,0,none⟩)) rfl rfl (by kernel_rfl) (by kernel_rfl) (by kernel_rfl) (fun _ _ _ h=>h) (by rfl) ?_ (by assumption) ?_
    ·intro x hSx
     obtain ⟨q0,q1,q2,q3,q4⟩:=hSx
     go_simp
    simp only [Act.put,List.setIfInBounds_toArray,List.set_cons_zero,List.set_cons_succ]
    refine takeW (i:=2) (d:=52) (v:=.agg (tgC b0 b1 b2 b3)) rfl rfl (by kernel_rfl) (by kernel_rfl) (by kernel_rfl) (fun _ _ _ h=>h) (by rfl) ?_ (by assumption) ?_
    ·intro x hSx
     obtain ⟨q0,q1,q2,q3,q4⟩:=hSx
     go_simp
    simp only [Act.put,List.setIfInBounds_toArray,List.set_cons_zero,List.set_cons_succ]
    refine takeW (i:=3) (d:=53) (v:=.slice (some ⟨g,0,none⟩) n c) rfl rfl (by kernel_rfl) (by kernel_rfl) (by kernel_rfl) (fun _ _ _ h=>h) (by rfl) ?_ (by assumption) ?_
    ·intro x hSx
     obtain ⟨q0,q1,q2,q3,q4⟩:=hSx
     go_simp
    simp only [Act.put,List.setIfInBounds_toArray,List.set_cons_zero,List.set_cons_succ]
    refine takeW (i:=4) (d:=54) (v:=.int .i64 (k:Int)) rfl rfl (by kernel_rfl) (by kernel_rfl) (by kernel_rfl) (fun _ _ _ h=>h) (by rfl) ?_ (by assumption) ?_
    ·intro x hSx
     obtain ⟨q0,q1,q2,q3,q4⟩:=hSx
     go_simp
    simp only [Act.put,List.setIfInBounds_toArray,List.set_cons_zero,List.set_cons_succ]
    refine takeW (i:=5) (d:=55) (v:=.pointer (some ⟨g,k * 2,none⟩)) rfl rfl (by kernel_rfl) (by kernel_rfl) (by kernel_rfl) (fun _ _ _ h=>h) (by rfl) ?_ (by assumption) ?_
    ·intro x hSx
     obtain ⟨q0,q1,q2,q3,q4⟩:=hSx
     go_simp
    simp only [Act.put,List.setIfInBounds_toArray,List.set_cons_zero,List.set_cons_succ]
    refine takeW (i:=6) (d:=56) (v:=.pointer (some ⟨g,k * 2+1,none⟩)) rfl rfl (by kernel_rfl) (by kernel_rfl) (by kernel_rfl) (fun _ _ _ h=>h) (by rfl) ?_ (by assumption) ?_
    ·intro x hSx
     obtain ⟨q0,q1,q2,q3,q4⟩:=hSx
     go_simp
    simp only [Act.put,List.setIfInBounds_toArray,List.set_cons_zero,List.set_cons_succ]
    refine takeW (i:=7) (d:=57) (v:=.string x2) rfl rfl (by kernel_rfl) (by kernel_rfl) (by kernel_rfl) (fun _ _ _ h=>h) (by rfl) ?_ (by assumption) ?_
    ·intro x hSx
     obtain ⟨q0,q1,q2,q3,q4⟩:=hSx
     go_simp
    simp only [Act.put,List.setIfInBounds_toArray,List.set_cons_zero,List.set_cons_succ]
    refine wpAnyH_ready (rs:=[8]) (by kernel_rfl) (by simp) ?_
    refine AllReadyH.cons rfl (fun K hK=>?_) AllReadyH.nil
    rw [if_pos (by rfl)]
    go_simp
    go_at_call 109
    refine (CS.out _ ?_).mono ?_
    ·exact HGV.out.below (below_d HB.out (Below.refl _ _) rfl rfl rfl rfl)
    rintro e y ⟨rfl,hbx⟩
    replace HB:=hide (below_d HB.out hbx rfl rfl rfl rfl)
    clear hbx
    refine hK.out _ _ (KS.out _ HB.out) (fun hHeld=>?_)
    clear hK K
    refine wpAnyH_ready (rs:=[9]) (by kernel_rfl) (by simp) ?_
    refine AllReadyH.cons rfl (fun K hK=>?_) AllReadyH.nil
    have hyw:=below_t5 HBV.out HB.out
    obtain ⟨v7,w7,hr7,hb7,hk7⟩:=app_s3 D (HT.out.later hyw) (Nat.le_trans HBW.out.size hyw.size) (by have:=HTL.out;omega)
    have HR7:=hide hr7
    have k7:=(HKV.out.below HB.out).nb hk7.nb tr_ne
    have B7:Below w.heap.size w w7:=(HBW.out.trans (hyw.mono HBW.out.size)).trans hk7.below
    have Hb7:=hide hb7
    clear hr7 hb7 hk7 hyw
    refine step_append_run _ (by rfl) _ _ _ _ (by rfl) _ _ (by rfl) (by rfl) _ _ HR7.out ?_
    refine hK.out _ _ ⟨k7.cell 0,k7.cell 1,k7.cell 2,k7.cell 3,HC1.out _ B7⟩ (fun hHeld=>?_)
    simp only [List.getElem_toArray,List.getElem_cons_succ,List.getElem_cons_zero,Act.put,List.setIfInBounds_toArray,List.set_cons_zero,List.set_cons_succ]
    clear hK K
    refine takeW (i:=10) (d:=7) (v:=v7) rfl rfl (by kernel_rfl) (by kernel_rfl) (by kernel_rfl) (fun _ _ _ h=>h) (by rfl) ?_ (by assumption) ?_
    ·intro x hSx
     obtain ⟨q0,q1,q2,q3,q4⟩:=hSx
     go_simp
    simp only [Act.put,List.setIfInBounds_toArray,List.set_cons_zero,List.set_cons_succ]
    refine wpAnyH_done (by kernel_rfl) ?_ _
    refine HA.out _ _ ?_
    clear HA KS HGV HB HKV HBV
    have l6:=k7.cell 6
    simp at l6
    have HL7:=hide (show w7.drew.cell? ⟨wr.heap.size,6,none⟩=some (.int .i64 (L:Int)) from l6)
    obtain ⟨v8,w8,hr8,hg8⟩:=app_z4 (W:=w7.drew) Z Hb7.out B7.size hZ3 (by rw [List.length_append,←Lib.size_eq];have:=HTL.out;omega)
    have HR8:=hide hr8
    have Hb8:=hide hg8.1
    have m6:w8.cell? ⟨wr.heap.size,6,none⟩=some (.int .i64 (L:Int)):=by
     have h8:=hg8.2.2.2.1 wr.heap.size (show wr.heap.size < w7.drew.heap.size from k7.lt) (fun e=>by
      have hc:=brow_own Hb7.out e
      rw [show w7.heap[wr.heap.size]?=_ from k7] at hc
      obtain ⟨cs,hc⟩:=hc
      injection hc with hc
      injection hc with _ hc _
      exact tr_ne hc)
     unfold World.cell? at l6 ⊢
     rw [h8];exact l6
    have HL8:=hide m6
    have HB8:=hide (B7.drew.trans hg8.2.2.2.2)
    clear k7 l6 m6 hr8 hg8 B7
    go_wp2_with fail
    rename_i kk0 kk1 kk2 kk3
    have HA:=hide kk0
    clear kk0
    refine wp_region_held_drew (S:=(fun y=>y.cell? ⟨wr.heap.size,6,none⟩=some (.int .i64 (L:Int)))) (by kernel_rfl) (HL7.out) (fun hHeld=>?_)
    refine takeW (i:=0) (d:=60) (v:=v7) rfl rfl (by kernel_rfl) (by kernel_rfl) (by kernel_rfl) (fun _ _ _ h=>h) (by rfl) ?_ (by assumption) ?_
    ·intro x hSx
     have q0:=hSx
     go_simp
    simp only [Act.put,List.setIfInBounds_toArray,List.set_cons_zero,List.set_cons_succ]
    refine takeW (i:=1) (d:=61) (v:=.pointer (some ⟨wr.heap.size,6,none⟩)) rfl rfl (by kernel_rfl) (by kernel_rfl) (by kernel_rfl) (fun _ _ _ h=>h) (by rfl) ?_ (by assumption) ?_
    ·intro x hSx
     have q0:=hSx
     go_simp
    simp only [Act.put,List.setIfInBounds_toArray,List.set_cons_zero,List.set_cons_succ]
    refine takeW (i:=2) (d:=62) (v:=.int .i64 (L:Int)) rfl rfl (by kernel_rfl) (by kernel_rfl) (by kernel_rfl) (fun _ _ _ h=>h) (by rfl) ?_ (by assumption) ?_
    ·intro x hSx
     have q0:=hSx
     go_simp
    simp only [Act.put,List.setIfInBounds_toArray,List.set_cons_zero,List.set_cons_succ]
    refine takeW (i:=4) (d:=64) (v:=.pointer (some ⟨wr.heap.size,6,none⟩)) rfl rfl (by kernel_rfl) (by kernel_rfl) (by kernel_rfl) (fun _ _ _ h=>h) (by rfl) ?_ (by assumption) ?_
    ·intro x hSx
     have q0:=hSx
     go_simp
    simp only [Act.put,List.setIfInBounds_toArray,List.set_cons_zero,List.set_cons_succ]
    refine takeW (i:=5) (d:=65) (v:=.int .i64 (L:Int)) rfl rfl (by kernel_rfl) (by kernel_rfl) (by kernel_rfl) (fun _ _ _ h=>h) (by rfl) ?_ (by assumption) ?_
    ·intro x hSx
     have q0:=hSx
     go_simp
    simp only [Act.put,List.setIfInBounds_toArray,List.set_cons_zero,List.set_cons_succ]
    refine wpAnyH_ready (rs:=[3]) (by kernel_rfl) (by simp) ?_
    refine AllReadyH.cons rfl (fun K hK=>?_) AllReadyH.nil
    rw [if_pos (by rfl)]
    go_simp
    go_at_call 105
    refine (CFl.out _).mono ?_
    rintro e y9 ⟨rfl,hy9⟩
    replace hy9:=hy9.symm
    subst hy9
    refine hK.out _ _ hHeld (fun hHeld=>?_)
    clear hK K
    refine takeW (i:=6) (d:=66) (v:=.int .i64 (Z:Int)) rfl rfl (by kernel_rfl) (by kernel_rfl) (by kernel_rfl) (fun _ _ _ h=>h) (by rfl) ?_ (by assumption) ?_
    ·intro x hSx
     have q0:=hSx
     go_simp
     exact wraps_i64 _ (by omega) (by omega)
    simp only [Act.put,List.setIfInBounds_toArray,List.set_cons_zero,List.set_cons_succ]
    refine wpAnyH_ready (rs:=[7]) (by kernel_rfl) (by simp) ?_
    refine AllReadyH.cons rfl (fun K hK=>?_) AllReadyH.nil
    refine step_append_run _ (by rfl) _ _ _ _ (by rfl) _ _ (by rfl) (by rfl) _ _ HR8.out ?_
    refine hK.out _ _ HL8.out (fun hHeld=>?_)
    simp only [List.getElem_toArray,List.getElem_cons_succ,List.getElem_cons_zero,Act.put,List.setIfInBounds_toArray,List.set_cons_zero,List.set_cons_succ]
    clear hK K
    refine takeW (i:=8) (d:=7) (v:=v8) rfl rfl (by kernel_rfl) (by kernel_rfl) (by kernel_rfl) (fun _ _ _ h=>h) (by rfl) ?_ (by assumption) ?_
    ·intro x hSx
     have q0:=hSx
     go_simp
    simp only [Act.put,List.setIfInBounds_toArray,List.set_cons_zero,List.set_cons_succ]
    refine wpAnyH_done (by kernel_rfl) ?_ _
    refine HA.out _ _ ?_
    clear HA
    go_wp2_with fail
    go_roundw
    case rel=>exact ⟨k+1,by go_num,hide ⟨by omega,by rw [HTX.out];exact Hb8.out,HB8.out⟩⟩
    case measure=>simp [intOf];omega
   case neg=>
   obtain rfl:n=k:=by omega
   have hlt':¬(n:Int) < (n:Int):=by omega
   have Hb5:=hide hT
   have HB5:=hide hbw
   clear hT hbw hk
   go_wp2_with fail
   obtain ⟨SS,hSS⟩:∃S,OT++rowT m n++bodT m n=S:=⟨_,rfl⟩
   rw [hSS] at Hb5
   have hSL:SS.length=TT:=by
    have e:=HROWL.out n (Nat.le_refl _)
    have e2:plT m n=12+16 * m.length+(bodT m n).length:=rfl
    rw [←hSS,List.length_append,List.length_append,e,HOL.out,←HTT.out,e2,HN.out]
   have hTT12:12≤TT:=by
    have e2:plT m n=12+16 * m.length+(bodT m n).length:=rfl
    rw [←HTT.out,e2];omega
   obtain ⟨gt,ct,hvt,hgt1,hgt2,hct1,hct2⟩:=brow_shape Hb5.out (by rw [hSL];omega)
   rw [hSL] at hvt hct1
   subst hvt
   have hct1':(TT:Int)≤(ct:Int):=by omega
   have hct2':(ct:Int)≤9223372036854775807:=by omega
   have HSS:=hide hSS
   have HSL:=hide hSL
   have HGT:=hide (And.intro hgt1 hct1)
   have HFN:=hide (show txK SS (owK m n)=FIN by
    rw [←HFIN.out]
    unfold txtV txK
    rw [HN.out,HOT.out,←hSS,List.append_assoc])
   clear hSS hSL hgt1 hct1 hct2 hTT12
   go_loopw [71] (fun vi wr=>∃k:Nat,vi=.int .i64 k∧Hid (k≤n∧BRow wr w.heap.size (.slice (some ⟨gt,0,none⟩) TT ct) (txK SS (owK m k))∧Below w.heap.size w wr)) (fun vi _=>n - (intOf vi).toNat)
   case atStart=>exact ⟨0,rfl,hide ⟨by omega,by rw [owK];exact Hb5.out,HB5.out⟩⟩
   case round=>
    clear Hb5 HB5
    obtain ⟨k,rfl,HV⟩:=hrel
    obtain ⟨hk,hT,hbw⟩:=HV.out
    have hk0:(0:Int)≤(k:Int):=by omega
    clear HV
    by_cases hlt:k < n
    case neg=>
     obtain rfl:n=k:=by omega
     have hlt':¬(n:Int) < (n:Int):=by omega
     have hcv:=BRow.text hT
     rw [HFN.out] at hcv
     have HB9:=hide hbw
     clear hT hbw hk
     go_wp2_with fail
     go_ret
     exact ⟨rfl,HB9.out⟩
    have hlt':(k:Int) < (n:Int):=by omega
    obtain ⟨x1,x2,b0,b1,b2,b3,P,L,D,hx,rfl,hly,hP,hL2,hD,hDk,hPL⟩:=HROW.out k hlt
    obtain ⟨g0,g1,g2,g3,g4,g5,g6⟩:=(HRL.out.kept hbw hbb).2 k _ (lyRs_at m n k hlt)
    rw [hly] at g0 g1 g2 g3 g4 g5 g6
    simp only at g0 g1 g2 g3 g4 g5 g6
    have hbr:b < wr.heap.size:=Nat.lt_of_lt_of_le hbb hbw.size
    have hne1:b≠wr.heap.size:=by omega
    have hP':(P:Int)≤1048576:=by omega
    have hL':(L:Int)≤1048576:=by omega
    have hgd:(m.getD k tz).1=tgS b0 b1 b2 b3:=by rw [List.getD_eq_getElem?_getD,hx];rfl
    have how:owK m (k+1)=if (isHd b0 b1 b2 b3 && decide (12≤L))=true then (P:Int)+8 else owK m k:=by
     rw [owK,hgd,eqS_hd,hd_eq,hDk,hP,←hD,smS_size,hL2]
    have HBW:=hide hbw
    have HT:=hide hT
    have hal:=(Below.refl wr.heap.size wr).alloc (Nat.le_refl _) (.cells (rC b0 b1 b2 b3 0 (P:Int) (L:Int)) 150)
    cases hBB:(isHd b0 b1 b2 b3 && decide (12≤L)) with
    | false=>
     rw [hBB,if_neg (by simp)] at how
     have CH:=hide (fun w hg=>holdsS (n:=L) hBB w hg (by omega))
     have HOW:=hide how
     have HAL:=hide hal
     clear hT hbw hx hly hP hL2 hD hDk hPL hk hlt hgd hBB how hal
     go_wp2_with fail
     refine (CH.out _ ?_).mono ?_
     ·exact HG.out.below (HBW.out.trans (HAL.out.mono HBW.out.size))
     rintro e w9 ⟨rfl,h9⟩
     have hw9:=below_t5 HAL.out h9
     have Hb9:=hide (HT.out.later hw9)
     have HB9:=hide (HBW.out.trans (hw9.mono HBW.out.size))
     clear h9 hw9 g0 g1 g2 g3 g4 g5 g6
     go_wp2_with fail
     go_roundw
     case rel=>exact ⟨k+1,by go_num,hide ⟨by omega,by rw [HOW.out];exact Hb9.out,HB9.out⟩⟩
     case measure=>simp [intOf];omega
    | true=>
     rw [hBB,if_pos rfl] at how
     have hBB':=hBB
     rw [Bool.and_eq_true,decide_eq_true_eq] at hBB'
     have hold:owK m k=-1:=ow_none m HGO.out k (by rw [HN.out];exact hlt) (by rw [hgd,eqS_hd,hd_eq];exact hBB'.1)
     have hT0:BRow wr w.heap.size (.slice (some ⟨gt,0,none⟩) TT ct) SS:=by
      rw [hold] at hT
      exact hT
     have hPT:P+L≤TT:=by
      have h1:=pl_next m k
      have h2:=pl_mono m (k+1) (n - (k+1))
      rw [show k+1+(n - (k+1))=n by omega,HTT.out] at h2
      rw [hDk,hP,←hD,smS_size,hL2] at h1
      omega
     obtain ⟨Q,hQ⟩:∃Q,P+8=Q:=⟨_,rfl⟩
     have hQ':(P:Int)+8=(Q:Int):=by omega
     have hQT:(Q:Int)≤(TT:Int):=by omega
     have hQ4:Q+4≤TT:=by omega
     obtain ⟨SU,hSU⟩:∃SU:Nat,sumV SS=SU:=⟨_,rfl⟩
     have hSUb:(SU:Int)≤4294967295:=by have:=sumV_lt SS;omega
     obtain ⟨LK,hLK⟩:∃K:Int,2981146554 - (SU:Int)=K:=⟨_,rfl⟩
     have hLK1:-4294967296≤LK:=by omega
     have hLK2:LK≤4294967296:=by omega
     have CH:=hide (fun w hg=>holdsS (n:=L) hBB w hg (by omega))
     have CSu:=hide (show ∀(w:World),Calls Tryz.prog 108 #[.string ⟨SS.toArray⟩] w fun e w'=>e=.returned (.int .i64 (SU:Int))∧w'=w from fun w=>by
      have hh:=sum_any ⟨SS.toArray⟩ w (by rw [Lib.size_eq];show SS.length≤_;rw [HSL.out];omega)
      rw [show sumV (⟨SS.toArray⟩:ByteArray).data.toList=SU from hSU] at hh
      exact hh)
     have HTX:=hide (show txK SS (owK m (k+1))=SS.take Q++(nbT LK 4++SS.drop (Q+4)) by
      rw [how]
      unfold txK
      rw [if_pos (by omega),hQ',Int.toNat_natCast,nb_f4,nb_mod,hSU,hLK])
     have HSP:=hide (show SS=SS.take Q++((SS.drop Q).take 4++SS.drop (Q+4)) by
      rw [←List.drop_drop,List.take_append_drop,List.take_append_drop])
     have HT0:=hide hT0
     have HQ4:=hide hQ4
     have HAL:=hide hal
     have hbw9:wr.heap.size < (wr.alloc (.cells (rC b0 b1 b2 b3 0 (P:Int) (L:Int)) 150)).heap.size:=by simp
     have hkb:=Blk.new wr (rC b0 b1 b2 b3 0 (P:Int) (L:Int)) 150
     have HKB:=hide hkb
     clear hT hT0 hbw hx hly hP hL2 hD hDk hPL hk hlt hgd hBB how hal hBB' hold hSU hPT hQ hQ4 hbw9 hkb
     go_wp2_with fail
     refine (CH.out _ ?_).mono ?_
     ·exact HG.out.below (HBW.out.trans (HAL.out.mono HBW.out.size))
     rintro e w9 ⟨rfl,h9⟩
     have hw9:=below_t5 HAL.out h9
     have hT9:=HT0.out.later hw9
     have hcv:=BRow.text hT9
     have Hb9:=hide hT9
     have HB9:=hide (HBW.out.trans (hw9.mono HBW.out.size))
     have K9:=hide (HKB.out.below h9)
     clear h9 hw9 hT9 g0 g1 g2 g3 g4 g5 g6 HAL HKB
     go_wp2_with (go_at_call 108;refine (CSu.out _).mono ?_;rintro e wz ⟨rfl,hwz⟩;replace hwz:=hwz.symm;subst hwz)
     clear hcv
     rename_i kk0
     have HA:=hide kk0
     clear kk0
     have HS0:=hide (show ∀y:World,Below w9.heap.size w9 y→y.cell? ⟨wr.heap.size,5,none⟩=some (.int .i64 (P:Int)) from fun y hy=>(K9.out.below hy).cell 5)
     have hgb:gt < wr.heap.size:=by
      obtain ⟨_,h⟩:=World.ownsRow.lt HT0.out gt rfl
      exact h
     have CA:=hide (fun w'=>appendNumber_any (.slice none 0 0) [] LK 4 w9.heap.size w' (by omega) (by omega) (by omega))
     refine wp_region_held_drew (S:=(fun y=>y.cell? ⟨wr.heap.size,5,none⟩=some (.int .i64 (P:Int)))) (by kernel_rfl) (HS0.out _ ((Below.refl _ _).drew)) (fun hHeld=>?_)
     refine takeW (i:=0) (d:=84) (v:=.slice (some ⟨gt,0,none⟩) TT ct) rfl rfl (by kernel_rfl) (by kernel_rfl) (by kernel_rfl) (fun _ _ _ h=>h) (by rfl) ?_ (by assumption) ?_
     ·intro x hSx
      have q0:=hSx
      go_simp
     simp only [Act.put,List.setIfInBounds_toArray,List.set_cons_zero,List.set_cons_succ]
     refine takeW (i:=1) (d:=85) (v:=.pointer (some ⟨wr.heap.size,5,none⟩)) rfl rfl (by kernel_rfl) (by kernel_rfl) (by kernel_rfl) (fun _ _ _ h=>h) (by rfl) ?_ (by assumption) ?_
     ·intro x hSx
      have q0:=hSx
      go_simp
     simp only [Act.put,List.setIfInBounds_toArray,List.set_cons_zero,List.set_cons_succ]
     refine takeW (i:=2) (d:=86) (v:=.int .i64 (P:Int)) rfl rfl (by kernel_rfl) (by kernel_rfl) (by kernel_rfl) (fun _ _ _ h=>h) (by rfl) ?_ (by assumption) ?_
     ·intro x hSx
      have q0:=hSx
      go_simp
     simp only [Act.put,List.setIfInBounds_toArray,List.set_cons_zero,List.set_cons_succ]
     refine takeW (i:=3) (d:=87) (v:=.int .i64 (Q:Int)) rfl rfl (by kernel_rfl) (by kernel_rfl) (by kernel_rfl) (fun _ _ _ h=>h) (by rfl) ?_ (by assumption) ?_
     ·intro x hSx
      have q0:=hSx
      go_simp
      exact wraps_i64 _ (by omega) (by omega)
     simp only [Act.put,List.setIfInBounds_toArray,List.set_cons_zero,List.set_cons_succ]
     refine takeW (i:=4) (d:=88) (v:=.slice (some ⟨gt,Q,none⟩) (TT - Q) (ct - Q)) rfl rfl (by kernel_rfl) (by kernel_rfl) (by kernel_rfl) (fun _ _ _ h=>h) (by rfl) ?_ (by assumption) ?_
     ·intro x hSx
      have q0:=hSx
      go_simp
      have:=HQ4.out
      omega
     simp only [Act.put,List.setIfInBounds_toArray,List.set_cons_zero,List.set_cons_succ]
     refine takeW (i:=5) (d:=89) (v:=.int .i64 LK) rfl rfl (by kernel_rfl) (by kernel_rfl) (by kernel_rfl) (fun _ _ _ h=>h) (by rfl) ?_ (by assumption) ?_
     ·intro x hSx
      have q0:=hSx
      go_simp
     simp only [Act.put,List.setIfInBounds_toArray,List.set_cons_zero,List.set_cons_succ]
     refine wpAnyH_ready (rs:=[6]) (by kernel_rfl) (by simp) ?_
     refine AllReadyH.cons rfl (fun K hK=>?_) AllReadyH.nil
     rw [if_pos (by rfl)]
     go_simp
     go_at_call 112
     refine (CA.out _ (BRow.nil _ _) ?_ (by simp)).mono ?_
     ·exact Nat.le_refl _
     rintro e y ⟨vn,rfl,hbn,hkn⟩
     have hyB:Below w9.heap.size w9 y:=below_d (b:=w9.drew) (Below.refl _ _) (show Below w9.drew.heap.size w9.drew y from hkn.below) rfl rfl rfl rfl
     rw [List.nil_append] at hbn
     refine hK.out _ _ (HS0.out _ hyB) (fun hHeld=>?_)
     clear hK K
     refine wpAnyH_ready (rs:=[7]) (by kernel_rfl) (by simp) ?_
     refine AllReadyH.cons rfl (fun K hK=>?_) AllReadyH.nil
     have hTy:=Hb9.out.later hyB
     have hSL:=HSL.out
     have hQ4:Q+4≤TT:=HQ4.out
     rw [HSP.out] at hTy
     obtain ⟨w10,hcp,hb10,hs10,hk10,ho1,ho2,ho3⟩:=copy_row (cap2:=ct - Q) (p:=Q) (q:=TT - Q) (zs:=nbT LK 4) hTy (by rw [←HSP.out];exact hSL) (by rw [List.length_take];omega) (by rw [nbT_len,List.length_take,List.length_drop];omega) rfl (by rw [nbT_len];omega) hbn
     have HCP:=hide hcp
     have hB10:Below w.heap.size w w10:=(HB9.out.trans (hyB.mono HB9.out.size)).trans ⟨ho1,ho2,ho3,Nat.le_of_eq hs10.symm,fun k hk=>hk10 k (by have:=HGT.out.1;omega)⟩
     have HB10:=hide hB10
     have Hb10:=hide hb10
     have HC5:=hide (show w10.cell? ⟨wr.heap.size,5,none⟩=some (.int .i64 (P:Int)) by
      have e:w10.heap[wr.heap.size]?=y.heap[wr.heap.size]?:=hk10 _ (by omega)
      have h:=HS0.out _ hyB
      unfold World.cell? at h ⊢
      rw [e];exact h)
     clear hTy hSL hQ4 hcp hb10 hs10 hk10 ho1 ho2 ho3 hB10 hbn hkn hyB
     rw [if_pos (by rfl)]
     refine Lib.wp_copy_run _ _ _ _ _ rfl _ _ rfl rfl HCP.out ?_
     refine hK.out _ _ HC5.out (fun hHeld=>?_)
     clear hK K
     refine wpAnyH_done (by kernel_rfl) ?_ _
     refine HA.out _ _ ?_
     clear HA
     go_wp2_with fail
     go_roundw
     case rel=>exact ⟨k+1,by go_num,hide ⟨by omega,by rw [HTX.out];exact Hb10.out,HB10.out⟩⟩
     case measure=>simp [intOf];omega
end Go.Proofs.YtpaadbnlhapdbaaGreatDoor.S8
