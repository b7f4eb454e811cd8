/-
  Joined: F12L, F12M, F12N, F12P, F12Re.
-/
import Derived.Deep.AppendSrc
import Derived.Test.YtpaadbnlhapdbaaGreatDoorL15
import Derived.Test.YtpaadbnlhapdbaaGreatDoorL28
import Derived.Test.YtpaadbnlhapdbaaGreatDoorL37
import Derived.Test.YtpaadbnlhapdbaaGreatDoorL38
import Derived.Test.YtpaadbnlhapdbaaGreatDoorL44
import Derived.Test.YtpaadbnlhapdbaaGreatDoorL47
namespace Go.Proofs.YtpaadbnlhapdbaaGreatDoor.F12
open Go.RowKit Go.Deep
set_option linter.unusedVariables false
set_option linter.unusedSimpArgs false
def ldV (s:ByteArray):Except Int (Mt × List ByteArray × List C11.Ch):=
 if S8.errV s.data.toList=0 then
  match rdO (S8.tabV s) with
  | none=>.error 90
  | some m=>match ouV (S8.tabV s) m.ad.length m.lg with
   | none=>.error 100
   | some gs=>match chV (S8.tabV s) m.ad.length with
    | none=>.error 110
    | some cs=>if ckV m gs cs=0 then .ok (m,gs,cs) else .error (ckV m gs cs)
 else .error (S8.errV s.data.toList)
def LdR (w:World) (s:ByteArray) (e:Ending) (w':World):Prop:=Below w.heap.size w w'∧match ldV s with
 | .error er=>er≠0∧e=.returned (.tuple #[.agg zf,.int .i64 er])
 | .ok (m,gs,cs)=>∃p q g ca cc k,m.ad.length=k∧m.be.length=k∧(1≤k∧k≤4096)∧gs.length=k∧cs.length≤4096∧ckV m gs cs=0∧e=.returned (.tuple #[.agg (fcs m (.slice (some ⟨p,0,none⟩) k k) (.slice (some ⟨q,0,none⟩) k k) (.slice (some ⟨g,0,none⟩) k k) (.slice ca cs.length cc)),.int .i64 0])∧Lst w' (some ⟨p,0,none⟩) m.ad∧Lst w' (some ⟨q,0,none⟩) m.be∧G10.SLst w' (some ⟨g,0,none⟩) gs∧C11.CLst w' ca cs
theorem ou_size {l:List Tab} {k:Nat} {lg:Bool} {gs:List ByteArray} (hd:∀x∈l,x.2.size≤1000000) (h:ouV l k lg=some gs):gs.length=k∧∀g∈gs,g.size≤1000000:=by
 unfold ouV at h
 split at h
 ·rename_i A B hA hB
  split at h
  ·injection h with h
   subst h
   refine ⟨by simp [G10.splV],fun g hg=>?_⟩
   unfold G10.splV at hg
   obtain ⟨i,_,rfl⟩:=List.mem_map.1 hg
   obtain ⟨x,hx,rfl⟩:=fin_mem hB
   have:=hd x hx
   unfold G10.splG
   rw [ByteArray.size_extract]
   omega
  ·cases h
 ·cases h
theorem slst_but {w w':World} {L:Nat} {cs:Array Value} {t:TypeId} {a:Option Addr} {l:List ByteArray} (h:G10.SLst w a l) (hb:But L w w') (hk:Blk w L cs t) (hj:∀(j:Nat) (x:ByteArray),cs[j]?≠some (Value.string x)):G10.SLst w' a l:=by
 rcases h with h | ⟨b,o,h1,h2,h3⟩
 ·exact Or.inl h
 ·refine Or.inr ⟨b,o,h1,Nat.lt_of_lt_of_le h2 hb.size,fun i hi=>?_⟩
  have hne:b≠L:=by
   intro e
   subst e
   have:=h3 i hi
   rw [hk.cell] at this
   exact hj _ _ this
  rw [World.cell?_of_block (w:=w) (hb.block b h2 hne)]
  exact h3 i hi
theorem clst_but {w w':World} {L:Nat} {a:Option Addr} {l:List C11.Ch} (h:C11.CLst w a l) (hb:But L w w') (hne:l=[]∨∃b,a=some ⟨b,0,none⟩∧b≠L):C11.CLst w' a l:=by
 rcases h with h | ⟨b,o,h1,h2,h3⟩
 ·exact Or.inl h
 ·rcases hne with hn | ⟨b',h4,h5⟩
  ·exact Or.inl hn
  ·rw [h1] at h4
   injection h4 with h4
   injection h4 with h6 h7
   subst h6
   exact Or.inr ⟨b,o,h1,Nat.lt_of_lt_of_le h2 hb.size,fun i hi=>by
    have key:∀k,w'.cell? ⟨b,k,none⟩=w.cell? ⟨b,k,none⟩:=fun k=>World.cell?_of_block (w:=w) (a:=⟨b,k,none⟩) (hb.block b h2 h5)
    rw [key,key,key]
    exact h3 i hi⟩
theorem nos {j:Nat} {x:ByteArray}:zf[j]?≠some (Value.string x):=by
 intro h
 match j,h with
 | 0,h=>simp at h
 | 1,h=>simp at h
 | 2,h=>simp at h
 | 3,h=>simp at h
 | 4,h=>simp at h
 | 5,h=>simp at h
 | 6,h=>simp at h
 | 7,h=>simp at h
 | 8,h=>simp at h
 | 9,h=>simp at h
 | 10,h=>simp at h
 | 11,h=>simp at h
 | 12,h=>simp at h
 | j+13,h=>simp at h
structure St (w:World) (F E L X G:Nat) (W:World):Prop where
 kF:Blk W F zf 30
 kE:Blk W E #[.int .i64 0] 31
 kX:Blk W X #[.pointer (some ⟨L,0,none⟩)] 46
 kG:Blk W G #[.func (.func 32) #[.pointer (some ⟨L,0,none⟩)] #[],.func (.func 33) #[.pointer (some ⟨L,0,none⟩)] #[],.func (.func 34) #[.pointer (some ⟨L,0,none⟩)] #[],.func (.func 35) #[.pointer (some ⟨L,0,none⟩)] #[],.func (.func 36) #[.pointer (some ⟨L,0,none⟩)] #[]] 1
 bl:Below w.heap.size w W
 n1:w.heap.size≤F
 n2:w.heap.size≤E
 n3:w.heap.size≤L
 e1:F≠L
 e2:E≠L
 e3:X≠L
 e4:G≠L
 e5:E≠F
theorem St.but {w W W':World} {F E L X G:Nat} (h:St w F E L X G W) (hb:But L W W'):St w F E L X G W':=
 ⟨hb.blk h.kF h.e1,hb.blk h.kE h.e2,hb.blk h.kX h.e3,hb.blk h.kG h.e4,hb.below h.bl h.n3,h.n1,h.n2,h.n3,h.e1,h.e2,h.e3,h.e4,h.e5⟩
theorem ld_begin (s:ByteArray) (w:World):∃V,V=((((w.alloc (.cells zf 30)).alloc (.cells #[.int .i64 0] 31)).alloc (.cells (lcs s vn zM vn vn vn vn 0) 49)).alloc (.cells #[.pointer (some ⟨w.heap.size+1+1,0,none⟩)] 46)).alloc (.cells #[.func (.func 32) #[.pointer (some ⟨w.heap.size+1+1,0,none⟩)] #[],.func (.func 33) #[.pointer (some ⟨w.heap.size+1+1,0,none⟩)] #[],.func (.func 34) #[.pointer (some ⟨w.heap.size+1+1,0,none⟩)] #[],.func (.func 35) #[.pointer (some ⟨w.heap.size+1+1,0,none⟩)] #[],.func (.func 36) #[.pointer (some ⟨w.heap.size+1+1,0,none⟩)] #[]] 1)∧St w w.heap.size (w.heap.size+1) (w.heap.size+1+1) (w.heap.size+1+1+1) (w.heap.size+1+1+1+1) V∧LB V (w.heap.size+1+1) s vn zM vn vn vn vn 0:=by
 have hal:∀(u:World) (o:Obj),Below u.heap.size u (u.alloc o):=fun u o=>(Below.refl _ _).alloc (Nat.le_refl _) _
 have sz:∀(u:World) (o:Obj),(u.alloc o).heap.size=u.heap.size+1:=fun u o=>by simp
 have k1:=Blk.new w zf 30
 have b1:=hal w (.cells zf 30)
 have z1:=sz w (.cells zf 30)
 generalize w.alloc (.cells zf 30)=W1 at *
 have k2:=Blk.new W1 #[.int .i64 0] 31
 have b2:=hal W1 (.cells #[.int .i64 0] 31)
 have z2:=sz W1 (.cells #[.int .i64 0] 31)
 rw [z1] at k2 z2
 generalize W1.alloc (.cells #[.int .i64 0] 31)=W2 at *
 have k3:=Blk.new W2 (lcs s vn zM vn vn vn vn 0) 49
 have b3:=hal W2 (.cells (lcs s vn zM vn vn vn vn 0) 49)
 have z3:=sz W2 (.cells (lcs s vn zM vn vn vn vn 0) 49)
 rw [z2] at k3 z3
 generalize W2.alloc (.cells (lcs s vn zM vn vn vn vn 0) 49)=W3 at *
 have k4:=Blk.new W3 #[.pointer (some ⟨w.heap.size+1+1,0,none⟩)] 46
 have b4:=hal W3 (.cells #[.pointer (some ⟨w.heap.size+1+1,0,none⟩)] 46)
 have z4:=sz W3 (.cells #[.pointer (some ⟨w.heap.size+1+1,0,none⟩)] 46)
 rw [z3] at k4 z4
 generalize W3.alloc (.cells #[.pointer (some ⟨w.heap.size+1+1,0,none⟩)] 46)=W4 at *
 have k5:=Blk.new W4 #[.func (.func 32) #[.pointer (some ⟨w.heap.size+1+1,0,none⟩)] #[],.func (.func 33) #[.pointer (some ⟨w.heap.size+1+1,0,none⟩)] #[],.func (.func 34) #[.pointer (some ⟨w.heap.size+1+1,0,none⟩)] #[],.func (.func 35) #[.pointer (some ⟨w.heap.size+1+1,0,none⟩)] #[],.func (.func 36) #[.pointer (some ⟨w.heap.size+1+1,0,none⟩)] #[]] 1
 have b5:=hal W4 (.cells #[.func (.func 32) #[.pointer (some ⟨w.heap.size+1+1,0,none⟩)] #[],.func (.func 33) #[.pointer (some ⟨w.heap.size+1+1,0,none⟩)] #[],.func (.func 34) #[.pointer (some ⟨w.heap.size+1+1,0,none⟩)] #[],.func (.func 35) #[.pointer (some ⟨w.heap.size+1+1,0,none⟩)] #[],.func (.func 36) #[.pointer (some ⟨w.heap.size+1+1,0,none⟩)] #[]] 1)
 rw [z4] at k5
 refine ⟨_,rfl,⟨(((k1.below b2).below b3).below b4).below b5,((k2.below b3).below b4).below b5,k4.below b5,k5,below_t5 (below_t5 (below_t5 (below_t5 b1 b2) b3) b4) b5,by omega,by omega,by omega,by omega,by omega,by omega,by omega,by omega⟩,(k3.below b4).below b5⟩
set_option maxRecDepth 8000 in
set_option maxHeartbeats 16000000 in
theorem load_any (s:ByteArray) (w:World) (hs:s.size≤1000000) (hG:S8.Glo8 w):Calls Tryz.prog 5 #[.string s] w (LdR w s):=by
 have hmf:∀(fn:Fn) (first cap:Array Value) (w:World),(Instr.makeFunc fn first cap).run Tryz.prog w=.ok (.func fn first cap) w:=fun _ _ _ _=>rfl
 obtain ⟨V,hV,hS0,hL0⟩:=ld_begin s w
 have hlen:=S8.tabV_len s
 have HD:=hide (fun (x:Tab) (hx:x∈S8.tabV s)=>show x.2.size≤1000000 by have:=S8.tabV_bd s x hx;omega)
 have HR:Hid (∀(e:Ending) (w':World),(Below w.heap.size w w'∧match ldV s with
   | .error er=>er≠0∧e=.returned (.tuple #[.agg zf,.int .i64 er])
   | .ok (m,gs,cs)=>∃p q g ca cc k,m.ad.length=k∧m.be.length=k∧(1≤k∧k≤4096)∧gs.length=k∧cs.length≤4096∧ckV m gs cs=0∧e=.returned (.tuple #[.agg (fcs m (.slice (some ⟨p,0,none⟩) k k) (.slice (some ⟨q,0,none⟩) k k) (.slice (some ⟨g,0,none⟩) k k) (.slice ca cs.length cc)),.int .i64 0])∧Lst w' (some ⟨p,0,none⟩) m.ad∧Lst w' (some ⟨q,0,none⟩) m.be∧G10.SLst w' (some ⟨g,0,none⟩) gs∧C11.CLst w' ca cs)→LdR w s e w'):=hide fun e w' h=>h
 have HG:=hide hG
 have HSZ:=hide hs
 have HLEN:=hide hlen
 clear hs hG hlen
 simp only [lcs,zM] at hV
 go_enter_defers Tryz.func5,Tryz.ntmps5
 go_wp2_with fail
 refine (steps_any _ _).mono ?_
 rintro e w1 ⟨rfl,rfl⟩
 go_wp2_with fail
 rw [←hV]
 clear hV
 obtain ⟨G,hg⟩:∃g,w.heap.size+1+1+1+1=g:=⟨_,rfl⟩
 rw [hg] at hS0 ⊢
 obtain ⟨X,hx⟩:∃g,w.heap.size+1+1+1=g:=⟨_,rfl⟩
 rw [hx] at hS0 ⊢
 obtain ⟨L,hl⟩:∃g,w.heap.size+1+1=g:=⟨_,rfl⟩
 rw [hl] at hS0 hL0 ⊢
 obtain ⟨E,he⟩:∃g,w.heap.size+1=g:=⟨_,rfl⟩
 rw [he] at hS0 ⊢
 obtain ⟨F,hf⟩:∃F,F=w.heap.size:=⟨_,rfl⟩
 have HS0:Hid (St w F E L X G V):=hide (by rw [hf];exact hS0)
 rw [←hf]
 have HL0:=hide hL0
 clear hg hx hl he hf hS0 hL0
 refine wp_loop_rounds 6 ?_
 rw [rounds_succ]
 have t:=HS0.out.kG.cell 0
 have glt:=HS0.out.kG.lt
 simp at t
 go_wp2_with fail
 clear t glt
 refine (directory_any L s none 0 0 zM vn vn vn vn 0 V HL0.out HSZ.out (HG.out.below HS0.out.bl)).mono ?_
 rintro e w1 ⟨hbt,hc⟩
 have HST:=hide (HS0.out.but hbt)
 clear hbt HS0 HL0
 rcases hc with ⟨hE,rfl,a,n,c,hn,hlb,hT⟩ | ⟨hE,rfl,hlb⟩
 case inr=>
  have HLB:=hide hlb
  have hev:ldV s=.error (S8.errV s.data.toList):=by unfold ldV;rw [if_neg hE]
  generalize S8.errV s.data.toList=er at hE HLB hev ⊢
  clear hlb
  have hst:=store13 HST.out.kF (.int .i64 0) (.int .i64 0) (.int .i64 0) (.int .i64 0) (.int .i64 0) (.int .i64 0) (.int .i64 0) (.int .i64 0) (.bool false) (.slice none 0 0) (.slice none 0 0) (.slice none 0 0) (.slice none 0 0)
  have kF2:=hst.1.other (b':=E) (Ne.symm HST.out.e5) 0 (.int .i64 er)
  have kE2:=Blk.set (hst.2.blk HST.out.kE HST.out.e5) 0 (.int .i64 er)
  have hFB:=(hst.2.below HST.out.bl HST.out.n1).setCell (p:=⟨E,0,none⟩) HST.out.n2 (.int .i64 er)
  have c15:=Blk.cell HLB.out 15
  simp [lcs] at c15
  refine leaves_cons (f:=13) (args:=#[.pointer (some ⟨X,0,none⟩),.pointer (some ⟨F,0,none⟩),.pointer (some ⟨E,0,none⟩)]) (by simp) (by simp [go_sem]) ?_
  refine (catch_thrown F E X L w1 er _ _ _ HST.out.kF HST.out.kE HST.out.kX c15 (LB.lt HLB.out) HST.out.e5).mono ?_
  rintro e u' w'' ⟨rfl,rfl,rfl⟩
  generalize (((((((((((((w1.setCell ⟨F,0,none⟩ (.int .i64 0)).setCell ⟨F,1,none⟩ (.int .i64 0)).setCell ⟨F,2,none⟩ (.int .i64 0)).setCell ⟨F,3,none⟩ (.int .i64 0)).setCell ⟨F,4,none⟩ (.int .i64 0)).setCell ⟨F,5,none⟩ (.int .i64 0)).setCell ⟨F,6,none⟩ (.int .i64 0)).setCell ⟨F,7,none⟩ (.int .i64 0)).setCell ⟨F,8,none⟩ (.bool false)).setCell ⟨F,9,none⟩ (.slice none 0 0)).setCell ⟨F,10,none⟩ (.slice none 0 0)).setCell ⟨F,11,none⟩ (.slice none 0 0)).setCell ⟨F,12,none⟩ (.slice none 0 0)).setCell ⟨E,0,none⟩ (.int .i64 er)=wf at kF2 kE2 hFB ⊢
  have q0:=kF2.cell 0
  have q1:=kF2.cell 1
  have q2:=kF2.cell 2
  have q3:=kF2.cell 3
  have q4:=kF2.cell 4
  have q5:=kF2.cell 5
  have q6:=kF2.cell 6
  have q7:=kF2.cell 7
  have q8:=kF2.cell 8
  have q9:=kF2.cell 9
  have q10:=kF2.cell 10
  have q11:=kF2.cell 11
  have q12:=kF2.cell 12
  have q13:=kE2.cell 0
  simp at q0 q1 q2 q3 q4 q5 q6 q7 q8 q9 q10 q11 q12 q13
  show Leaves _ _ _ _ [] (settle (.panicking [{ v:=.iface 31 (.int .i64 er),recovered:=true }])) wf
  rw [show settle (.panicking [{ v:=.iface 31 (.int .i64 er),recovered:=true }])=.returning from rfl]
  refine ⟨.tuple #[.agg zf,.int .i64 er],?_,HR.out _ _ ⟨hFB,by rw [hev];exact ⟨hE,rfl⟩⟩⟩
  simp [results,Tryz.results5,go_sem,q0,q1,q2,q3,q4,q5,q6,q7,q8,q9,q10,q11,q12,q13]
 have HS1:=HST
 have HLB1:=hide hlb
 have HT1:=hide hT
 have HN:=hide hn
 have HM:Hid (n≤1000):=hide (by have:=HLEN.out;omega)
 have HE1:Hid (ldV s=match rdO (S8.tabV s) with
  | none=>.error 90
  | some m=>match ouV (S8.tabV s) m.ad.length m.lg with
   | none=>.error 100
   | some gs=>match chV (S8.tabV s) m.ad.length with
    | none=>.error 110
    | some cs=>if ckV m gs cs=0 then .ok (m,gs,cs) else .error (ckV m gs cs)):=hide (by unfold ldV;rw [if_pos hE])
 generalize S8.tabV s=l at HD HN HT1 HE1
 clear HST hE hlb hT hn HLEN
 go_wp2_with fail
 rw [rounds_succ]
 have t:=HS1.out.kG.cell 1
 have glt:=HS1.out.kG.lt
 simp at t
 go_wp2_with fail
 clear t glt
 refine (metrics_any L s a l n c w1 HLB1.out HN.out HM.out HD.out HT1.out).mono ?_
 rintro e w2 ⟨hbt,hc⟩
 have FLT:=hide (And.intro HS1.out.kF.lt HS1.out.kE.lt)
 have HST:=hide (HS1.out.but hbt)
 clear hbt HS1 HLB1 HT1
 cases hr:rdO l with
 | none=>
  rw [hr] at hc
  obtain ⟨rfl,hlb⟩:=hc
  have HLB:=hide hlb
  have hev:ldV s=.error 90:=by rw [HE1.out,hr]
  clear hlb HE1 hr
  have hst:=store13 HST.out.kF (.int .i64 0) (.int .i64 0) (.int .i64 0) (.int .i64 0) (.int .i64 0) (.int .i64 0) (.int .i64 0) (.int .i64 0) (.bool false) (.slice none 0 0) (.slice none 0 0) (.slice none 0 0) (.slice none 0 0)
  have kF2:=hst.1.other (b':=E) (Ne.symm HST.out.e5) 0 (.int .i64 90)
  have kE2:=Blk.set (hst.2.blk HST.out.kE HST.out.e5) 0 (.int .i64 90)
  have hFB:=(hst.2.below HST.out.bl HST.out.n1).setCell (p:=⟨E,0,none⟩) HST.out.n2 (.int .i64 90)
  have c15:=Blk.cell HLB.out 15
  simp [lcs] at c15
  refine leaves_cons (f:=13) (args:=#[.pointer (some ⟨X,0,none⟩),.pointer (some ⟨F,0,none⟩),.pointer (some ⟨E,0,none⟩)]) (by simp) (by simp [go_sem]) ?_
  refine (catch_thrown F E X L w2 90 _ _ _ HST.out.kF HST.out.kE HST.out.kX c15 (LB.lt HLB.out) HST.out.e5).mono ?_
  rintro e u' w'' ⟨rfl,rfl,rfl⟩
  generalize (((((((((((((w2.setCell ⟨F,0,none⟩ (.int .i64 0)).setCell ⟨F,1,none⟩ (.int .i64 0)).setCell ⟨F,2,none⟩ (.int .i64 0)).setCell ⟨F,3,none⟩ (.int .i64 0)).setCell ⟨F,4,none⟩ (.int .i64 0)).setCell ⟨F,5,none⟩ (.int .i64 0)).setCell ⟨F,6,none⟩ (.int .i64 0)).setCell ⟨F,7,none⟩ (.int .i64 0)).setCell ⟨F,8,none⟩ (.bool false)).setCell ⟨F,9,none⟩ (.slice none 0 0)).setCell ⟨F,10,none⟩ (.slice none 0 0)).setCell ⟨F,11,none⟩ (.slice none 0 0)).setCell ⟨F,12,none⟩ (.slice none 0 0)).setCell ⟨E,0,none⟩ (.int .i64 90)=wf at kF2 kE2 hFB ⊢
  have q0:=kF2.cell 0
  have q1:=kF2.cell 1
  have q2:=kF2.cell 2
  have q3:=kF2.cell 3
  have q4:=kF2.cell 4
  have q5:=kF2.cell 5
  have q6:=kF2.cell 6
  have q7:=kF2.cell 7
  have q8:=kF2.cell 8
  have q9:=kF2.cell 9
  have q10:=kF2.cell 10
  have q11:=kF2.cell 11
  have q12:=kF2.cell 12
  have q13:=kE2.cell 0
  simp at q0 q1 q2 q3 q4 q5 q6 q7 q8 q9 q10 q11 q12 q13
  show Leaves _ _ _ _ [] (settle (.panicking [{ v:=.iface 31 (.int .i64 90),recovered:=true }])) wf
  rw [show settle (.panicking [{ v:=.iface 31 (.int .i64 90),recovered:=true }])=.returning from rfl]
  refine ⟨.tuple #[.agg zf,.int .i64 90],?_,HR.out _ _ ⟨hFB,by rw [hev];exact ⟨by omega,rfl⟩⟩⟩
  simp [results,Tryz.results5,go_sem,q0,q1,q2,q3,q4,q5,q6,q7,q8,q9,q10,q11,q12,q13]
 | some m=>
 rw [hr] at hc
 obtain ⟨rfl,p,q,k,hpq,hak,hbk,hk,hlb,hA,hB,hT⟩:=hc
 have HPQ:Hid ((p≠F∧q≠F)∧(p≠E∧q≠E)):=hide (by have:=FLT.out;omega)
 have HE2:Hid (ldV s=match ouV l k m.lg with
   | none=>.error 100
   | some gs=>match chV l k with
    | none=>.error 110
    | some cs=>if ckV m gs cs=0 then .ok (m,gs,cs) else .error (ckV m gs cs)):=hide (by rw [HE1.out,hr];simp only [hak])
 have HS2:=HST
 have HLB2:=hide hlb
 have HT2:=hide (And.intro hT (And.intro hA hB))
 have HK:=hide (And.intro hak (And.intro hbk hk))
 clear HST HE1 hr hak hbk hk hlb hA hB hT hpq FLT
 go_wp2_with fail
 rw [rounds_succ]
 have t:=HS2.out.kG.cell 2
 have glt:=HS2.out.kG.lt
 simp at t
 go_wp2_with fail
 clear t glt
 refine (outlines_any L s a l n c m p q k w2 HLB2.out HN.out HM.out HD.out HK.out.2.2 HT2.out.1 HT2.out.2.1 HT2.out.2.2).mono ?_
 rintro e w3 ⟨hbt,hc⟩
 have HST:=hide (HS2.out.but hbt)
 clear hbt HS2 HLB2 HT2
 cases hr:ouV l k m.lg with
 | none=>
  rw [hr] at hc
  obtain ⟨rfl,hlb⟩:=hc
  have HLB:=hide hlb
  have hev:ldV s=.error 100:=by rw [HE2.out,hr]
  clear hlb HE2 hr
  have hst:=store13 HST.out.kF (.int .i64 0) (.int .i64 0) (.int .i64 0) (.int .i64 0) (.int .i64 0) (.int .i64 0) (.int .i64 0) (.int .i64 0) (.bool false) (.slice none 0 0) (.slice none 0 0) (.slice none 0 0) (.slice none 0 0)
  have kF2:=hst.1.other (b':=E) (Ne.symm HST.out.e5) 0 (.int .i64 100)
  have kE2:=Blk.set (hst.2.blk HST.out.kE HST.out.e5) 0 (.int .i64 100)
  have hFB:=(hst.2.below HST.out.bl HST.out.n1).setCell (p:=⟨E,0,none⟩) HST.out.n2 (.int .i64 100)
  have c15:=Blk.cell HLB.out 15
  simp [lcs] at c15
  refine leaves_cons (f:=13) (args:=#[.pointer (some ⟨X,0,none⟩),.pointer (some ⟨F,0,none⟩),.pointer (some ⟨E,0,none⟩)]) (by simp) (by simp [go_sem]) ?_
  refine (catch_thrown F E X L w3 100 _ _ _ HST.out.kF HST.out.kE HST.out.kX c15 (LB.lt HLB.out) HST.out.e5).mono ?_
  rintro e u' w'' ⟨rfl,rfl,rfl⟩
  generalize (((((((((((((w3.setCell ⟨F,0,none⟩ (.int .i64 0)).setCell ⟨F,1,none⟩ (.int .i64 0)).setCell ⟨F,2,none⟩ (.int .i64 0)).setCell ⟨F,3,none⟩ (.int .i64 0)).setCell ⟨F,4,none⟩ (.int .i64 0)).setCell ⟨F,5,none⟩ (.int .i64 0)).setCell ⟨F,6,none⟩ (.int .i64 0)).setCell ⟨F,7,none⟩ (.int .i64 0)).setCell ⟨F,8,none⟩ (.bool false)).setCell ⟨F,9,none⟩ (.slice none 0 0)).setCell ⟨F,10,none⟩ (.slice none 0 0)).setCell ⟨F,11,none⟩ (.slice none 0 0)).setCell ⟨F,12,none⟩ (.slice none 0 0)).setCell ⟨E,0,none⟩ (.int .i64 100)=wf at kF2 kE2 hFB ⊢
  have q0:=kF2.cell 0
  have q1:=kF2.cell 1
  have q2:=kF2.cell 2
  have q3:=kF2.cell 3
  have q4:=kF2.cell 4
  have q5:=kF2.cell 5
  have q6:=kF2.cell 6
  have q7:=kF2.cell 7
  have q8:=kF2.cell 8
  have q9:=kF2.cell 9
  have q10:=kF2.cell 10
  have q11:=kF2.cell 11
  have q12:=kF2.cell 12
  have q13:=kE2.cell 0
  simp at q0 q1 q2 q3 q4 q5 q6 q7 q8 q9 q10 q11 q12 q13
  show Leaves _ _ _ _ [] (settle (.panicking [{ v:=.iface 31 (.int .i64 100),recovered:=true }])) wf
  rw [show settle (.panicking [{ v:=.iface 31 (.int .i64 100),recovered:=true }])=.returning from rfl]
  refine ⟨.tuple #[.agg zf,.int .i64 100],?_,HR.out _ _ ⟨hFB,by rw [hev];exact ⟨by omega,rfl⟩⟩⟩
  simp [results,Tryz.results5,go_sem,q0,q1,q2,q3,q4,q5,q6,q7,q8,q9,q10,q11,q12,q13]
 | some gs=>
 rw [hr] at hc
 obtain ⟨rfl,g,hlb,hS,hA,hB,hT⟩:=hc
 have HE3:Hid (ldV s=match chV l k with
    | none=>.error 110
    | some cs=>if ckV m gs cs=0 then .ok (m,gs,cs) else .error (ckV m gs cs)):=hide (by rw [HE2.out,hr])
 have HGS:=hide (ou_size HD.out hr)
 have HS3:=HST
 have HLB3:=hide hlb
 have HT3:=hide (And.intro hT (And.intro hA (And.intro hB hS)))
 clear HST HE2 hr hlb hA hB hT hS
 go_wp2_with fail
 rw [rounds_succ]
 have t:=HS3.out.kG.cell 3
 have glt:=HS3.out.kG.lt
 simp at t
 go_wp2_with fail
 clear t glt
 refine (characters_any L s a l n c m p q g k gs w3 HLB3.out HN.out HM.out HD.out HK.out.2.2 HT3.out.1 HT3.out.2.1 HT3.out.2.2.1 HT3.out.2.2.2).mono ?_
 rintro e w4 ⟨hbt,hc⟩
 have FLT:=hide (And.intro HS3.out.kF.lt HS3.out.kE.lt)
 have HST:=hide (HS3.out.but hbt)
 clear hbt HS3 HLB3 HT3
 cases hr:chV l k with
 | none=>
  rw [hr] at hc
  obtain ⟨rfl,hlb⟩:=hc
  have HLB:=hide hlb
  have hev:ldV s=.error 110:=by rw [HE3.out,hr]
  clear hlb HE3 hr
  have hst:=store13 HST.out.kF (.int .i64 0) (.int .i64 0) (.int .i64 0) (.int .i64 0) (.int .i64 0) (.int .i64 0) (.int .i64 0) (.int .i64 0) (.bool false) (.slice none 0 0) (.slice none 0 0) (.slice none 0 0) (.slice none 0 0)
  have kF2:=hst.1.other (b':=E) (Ne.symm HST.out.e5) 0 (.int .i64 110)
  have kE2:=Blk.set (hst.2.blk HST.out.kE HST.out.e5) 0 (.int .i64 110)
  have hFB:=(hst.2.below HST.out.bl HST.out.n1).setCell (p:=⟨E,0,none⟩) HST.out.n2 (.int .i64 110)
  have c15:=Blk.cell HLB.out 15
  simp [lcs] at c15
  refine leaves_cons (f:=13) (args:=#[.pointer (some ⟨X,0,none⟩),.pointer (some ⟨F,0,none⟩),.pointer (some ⟨E,0,none⟩)]) (by simp) (by simp [go_sem]) ?_
  refine (catch_thrown F E X L w4 110 _ _ _ HST.out.kF HST.out.kE HST.out.kX c15 (LB.lt HLB.out) HST.out.e5).mono ?_
  rintro e u' w'' ⟨rfl,rfl,rfl⟩
  generalize (((((((((((((w4.setCell ⟨F,0,none⟩ (.int .i64 0)).setCell ⟨F,1,none⟩ (.int .i64 0)).setCell ⟨F,2,none⟩ (.int .i64 0)).setCell ⟨F,3,none⟩ (.int .i64 0)).setCell ⟨F,4,none⟩ (.int .i64 0)).setCell ⟨F,5,none⟩ (.int .i64 0)).setCell ⟨F,6,none⟩ (.int .i64 0)).setCell ⟨F,7,none⟩ (.int .i64 0)).setCell ⟨F,8,none⟩ (.bool false)).setCell ⟨F,9,none⟩ (.slice none 0 0)).setCell ⟨F,10,none⟩ (.slice none 0 0)).setCell ⟨F,11,none⟩ (.slice none 0 0)).setCell ⟨F,12,none⟩ (.slice none 0 0)).setCell ⟨E,0,none⟩ (.int .i64 110)=wf at kF2 kE2 hFB ⊢
  have q0:=kF2.cell 0
  have q1:=kF2.cell 1
  have q2:=kF2.cell 2
  have q3:=kF2.cell 3
  have q4:=kF2.cell 4
  have q5:=kF2.cell 5
  have q6:=kF2.cell 6
  have q7:=kF2.cell 7
  have q8:=kF2.cell 8
  have q9:=kF2.cell 9
  have q10:=kF2.cell 10
  have q11:=kF2.cell 11
  have q12:=kF2.cell 12
  have q13:=kE2.cell 0
  simp at q0 q1 q2 q3 q4 q5 q6 q7 q8 q9 q10 q11 q12 q13
  show Leaves _ _ _ _ [] (settle (.panicking [{ v:=.iface 31 (.int .i64 110),recovered:=true }])) wf
  rw [show settle (.panicking [{ v:=.iface 31 (.int .i64 110),recovered:=true }])=.returning from rfl]
  refine ⟨.tuple #[.agg zf,.int .i64 110],?_,HR.out _ _ ⟨hFB,by rw [hev];exact ⟨by omega,rfl⟩⟩⟩
  simp [results,Tryz.results5,go_sem,q0,q1,q2,q3,q4,q5,q6,q7,q8,q9,q10,q11,q12,q13]
 | some cs=>
 rw [hr] at hc
 obtain ⟨rfl,ca,cc,hfr,hcl,hlb,hC,hS,hA,hB⟩:=hc
 have HFR:Hid (cs=[]∨∃b,ca=some ⟨b,0,none⟩∧b≠F∧b≠E):=hide (by
  rcases hfr with h | ⟨b,h1,h2⟩
  ·exact Or.inl h
  ·exact Or.inr ⟨b,h1,by have:=FLT.out;omega,by have:=FLT.out;omega⟩)
 have HE4:Hid (ldV s=if ckV m gs cs=0 then .ok (m,gs,cs) else .error (ckV m gs cs)):=hide (by rw [HE3.out,hr])
 have HS4:=HST
 have HLB4:=hide hlb
 have HT4:=hide (And.intro hC (And.intro hA (And.intro hB hS)))
 have HCL:=hide hcl
 clear HST HE3 hr hlb hA hB hC hS hcl hfr FLT
 go_wp2_with fail
 rw [rounds_succ]
 have t:=HS4.out.kG.cell 4
 have glt:=HS4.out.kG.lt
 simp at t
 go_wp2_with fail
 clear t glt
 refine (whole_any L s (.slice a n c) m (some ⟨p,0,none⟩) (some ⟨q,0,none⟩) (some ⟨g,0,none⟩) ca k k k cs.length k k k cc gs cs w4 HLB4.out HK.out.1 HK.out.2.1 HGS.out.1 rfl (by have:=HK.out.2.2;omega) (by have:=HK.out.2.2;omega) (by have:=HK.out.2.2;omega) (by have:=HCL.out;omega) HGS.out.2 HT4.out.2.1 HT4.out.2.2.1 HT4.out.2.2.2 HT4.out.1).mono ?_
 rintro e w5 ⟨hbt,hc⟩
 have HST:=hide (HS4.out.but hbt)
 clear hbt HS4
 rcases hc with ⟨hck,rfl,h5⟩ | ⟨hck,rfl,hlb⟩
 case inr=>
  have HLB:=hide hlb
  have hev:ldV s=.error (ckV m gs cs):=by rw [HE4.out,if_neg hck]
  generalize ckV m gs cs=er at hck HLB hev ⊢
  clear hlb HE4 HLB4 HT4
  have hst:=store13 HST.out.kF (.int .i64 0) (.int .i64 0) (.int .i64 0) (.int .i64 0) (.int .i64 0) (.int .i64 0) (.int .i64 0) (.int .i64 0) (.bool false) (.slice none 0 0) (.slice none 0 0) (.slice none 0 0) (.slice none 0 0)
  have kF2:=hst.1.other (b':=E) (Ne.symm HST.out.e5) 0 (.int .i64 er)
  have kE2:=Blk.set (hst.2.blk HST.out.kE HST.out.e5) 0 (.int .i64 er)
  have hFB:=(hst.2.below HST.out.bl HST.out.n1).setCell (p:=⟨E,0,none⟩) HST.out.n2 (.int .i64 er)
  have c15:=Blk.cell HLB.out 15
  simp [lcs] at c15
  refine leaves_cons (f:=13) (args:=#[.pointer (some ⟨X,0,none⟩),.pointer (some ⟨F,0,none⟩),.pointer (some ⟨E,0,none⟩)]) (by simp) (by simp [go_sem]) ?_
  refine (catch_thrown F E X L w5 er _ _ _ HST.out.kF HST.out.kE HST.out.kX c15 (LB.lt HLB.out) HST.out.e5).mono ?_
  rintro e u' w'' ⟨rfl,rfl,rfl⟩
  generalize (((((((((((((w5.setCell ⟨F,0,none⟩ (.int .i64 0)).setCell ⟨F,1,none⟩ (.int .i64 0)).setCell ⟨F,2,none⟩ (.int .i64 0)).setCell ⟨F,3,none⟩ (.int .i64 0)).setCell ⟨F,4,none⟩ (.int .i64 0)).setCell ⟨F,5,none⟩ (.int .i64 0)).setCell ⟨F,6,none⟩ (.int .i64 0)).setCell ⟨F,7,none⟩ (.int .i64 0)).setCell ⟨F,8,none⟩ (.bool false)).setCell ⟨F,9,none⟩ (.slice none 0 0)).setCell ⟨F,10,none⟩ (.slice none 0 0)).setCell ⟨F,11,none⟩ (.slice none 0 0)).setCell ⟨F,12,none⟩ (.slice none 0 0)).setCell ⟨E,0,none⟩ (.int .i64 er)=wf at kF2 kE2 hFB ⊢
  have q0:=kF2.cell 0
  have q1:=kF2.cell 1
  have q2:=kF2.cell 2
  have q3:=kF2.cell 3
  have q4:=kF2.cell 4
  have q5:=kF2.cell 5
  have q6:=kF2.cell 6
  have q7:=kF2.cell 7
  have q8:=kF2.cell 8
  have q9:=kF2.cell 9
  have q10:=kF2.cell 10
  have q11:=kF2.cell 11
  have q12:=kF2.cell 12
  have q13:=kE2.cell 0
  simp at q0 q1 q2 q3 q4 q5 q6 q7 q8 q9 q10 q11 q12 q13
  show Leaves _ _ _ _ [] (settle (.panicking [{ v:=.iface 31 (.int .i64 er),recovered:=true }])) wf
  rw [show settle (.panicking [{ v:=.iface 31 (.int .i64 er),recovered:=true }])=.returning from rfl]
  refine ⟨.tuple #[.agg zf,.int .i64 er],?_,HR.out _ _ ⟨hFB,by rw [hev];exact ⟨hck,rfl⟩⟩⟩
  simp [results,Tryz.results5,go_sem,q0,q1,q2,q3,q4,q5,q6,q7,q8,q9,q10,q11,q12,q13]
 have hev:ldV s=.ok (m,gs,cs):=by rw [HE4.out,if_pos hck]
 have HEV:=hide hev
 have HCK:=hide hck
 have hlb:=HLB4.out.below h5
 have HT5:=hide (And.intro (HT4.out.1.below h5) (And.intro (HT4.out.2.1.below h5) (And.intro (HT4.out.2.2.1.below h5) (HT4.out.2.2.2.below h5))))
 clear HE4 hev hck h5 HLB4 HT4
 have HSV:=HST
 have kF:=HST.out.kF
 have kE:=HST.out.kE
 obtain ⟨up,sc,de,ga,b0,b1,b2,b3,lg,ad,be⟩:=m
 have d2:=Blk.cell hlb 2
 have d3:=Blk.cell hlb 3
 have d4:=Blk.cell hlb 4
 have d5:=Blk.cell hlb 5
 have d6:=Blk.cell hlb 6
 have d7:=Blk.cell hlb 7
 have d8:=Blk.cell hlb 8
 have d9:=Blk.cell hlb 9
 have d10:=Blk.cell hlb 10
 have d11:=Blk.cell hlb 11
 have d12:=Blk.cell hlb 12
 have d13:=Blk.cell hlb 13
 have d14:=Blk.cell hlb 14
 simp [lcs] at d2 d3 d4 d5 d6 d7 d8 d9 d10 d11 d12 d13 d14
 have r0:=kF.cell 0
 have z0:=kF.frozen 0
 have r1:=kF.cell 1
 have z1:=kF.frozen 1
 have r2:=kF.cell 2
 have z2:=kF.frozen 2
 have r3:=kF.cell 3
 have z3:=kF.frozen 3
 have r4:=kF.cell 4
 have z4:=kF.frozen 4
 have r5:=kF.cell 5
 have z5:=kF.frozen 5
 have r6:=kF.cell 6
 have z6:=kF.frozen 6
 have r7:=kF.cell 7
 have z7:=kF.frozen 7
 have r8:=kF.cell 8
 have z8:=kF.frozen 8
 have r9:=kF.cell 9
 have z9:=kF.frozen 9
 have r10:=kF.cell 10
 have z10:=kF.frozen 10
 have r11:=kF.cell 11
 have z11:=kF.frozen 11
 have r12:=kF.cell 12
 have z12:=kF.frozen 12
 simp at r0 r1 r2 r3 r4 r5 r6 r7 r8 r9 r10 r11 r12
 have x0:=HST.out.kX.cell 0
 have y0:=kE.cell 0
 have yf:=kE.frozen 0
 simp at x0 y0
 have l1:=hlb.lt
 have l2:=kF.lt
 have l3:=kE.lt
 have l4:=HST.out.kX.lt
 have hEF:=HST.out.e5
 have hst:=store13 kF (.int .i64 up) (.int .i64 sc) (.int .i64 de) (.int .i64 ga) (.int .i64 b0) (.int .i64 b1) (.int .i64 b2) (.int .i64 b3) (.bool lg) (.slice (some ⟨p,0,none⟩) k k) (.slice (some ⟨q,0,none⟩) k k) (.slice (some ⟨g,0,none⟩) k k) (.slice ca cs.length cc)
 have hsE:But E _ _:=But.setCell E (((((((((((((w5.setCell ⟨F,0,none⟩ (.int .i64 up)).setCell ⟨F,1,none⟩ (.int .i64 sc)).setCell ⟨F,2,none⟩ (.int .i64 de)).setCell ⟨F,3,none⟩ (.int .i64 ga)).setCell ⟨F,4,none⟩ (.int .i64 b0)).setCell ⟨F,5,none⟩ (.int .i64 b1)).setCell ⟨F,6,none⟩ (.int .i64 b2)).setCell ⟨F,7,none⟩ (.int .i64 b3)).setCell ⟨F,8,none⟩ (.bool lg)).setCell ⟨F,9,none⟩ (.slice (some ⟨p,0,none⟩) k k)).setCell ⟨F,10,none⟩ (.slice (some ⟨q,0,none⟩) k k)).setCell ⟨F,11,none⟩ (.slice (some ⟨g,0,none⟩) k k)).setCell ⟨F,12,none⟩ (.slice ca cs.length cc)) 0 (.int .i64 0)
 have kF2:=hst.1.other (b':=E) (Ne.symm hEF) 0 (.int .i64 0)
 have kE1:=hst.2.blk kE hEF
 have kE2:=Blk.set kE1 0 (.int .i64 0)
 have hFB:=(hst.2.below HST.out.bl HST.out.n1).setCell (p:=⟨E,0,none⟩) HST.out.n2 (.int .i64 0)
 have u1:=clst_but (clst_but HT5.out.1 hst.2 (by rcases HFR.out with h | ⟨b,h1,h2,h3⟩;exact Or.inl h;exact Or.inr ⟨b,h1,h2⟩)) hsE (by rcases HFR.out with h | ⟨b,h1,h2,h3⟩;exact Or.inl h;exact Or.inr ⟨b,h1,h3⟩)
 have u2:=(HT5.out.2.1.but hst.2 HPQ.out.1.1).but hsE HPQ.out.2.1
 have u3:=(HT5.out.2.2.1.but hst.2 HPQ.out.1.2).but hsE HPQ.out.2.2
 have u4:=slst_but (slst_but HT5.out.2.2.2 hst.2 kF (fun _ _=>nos)) hsE kE1 (fun j x h=>by
  match j,h with
  | 0,h=>simp at h
  | j+1,h=>simp at h)
 have HU:=hide (And.intro kF2 (And.intro kE2 (And.intro hFB (And.intro u1 (And.intro u2 (And.intro u3 u4))))))
 clear hlb HST kF kE hst hsE kF2 kE1 kE2 hFB u1 u2 u3 u4 HSV HT5 HFR HPQ
 go_wp2_with fail
 rw [rounds_succ]
 go_wp2_with fail
 clear d2 d3 d4 d5 d6 d7 d8 d9 d10 d11 d12 d13 d14 r0 z0 r1 z1 r2 z2 r3 z3 r4 z4 r5 z5 r6 z6 r7 z7 r8 z8 r9 z9 r10 z10 r11 z11 r12 z12 x0 y0 yf l1 l2 l3 l4
 generalize (((((((((((((w5.setCell ⟨F,0,none⟩ (.int .i64 up)).setCell ⟨F,1,none⟩ (.int .i64 sc)).setCell ⟨F,2,none⟩ (.int .i64 de)).setCell ⟨F,3,none⟩ (.int .i64 ga)).setCell ⟨F,4,none⟩ (.int .i64 b0)).setCell ⟨F,5,none⟩ (.int .i64 b1)).setCell ⟨F,6,none⟩ (.int .i64 b2)).setCell ⟨F,7,none⟩ (.int .i64 b3)).setCell ⟨F,8,none⟩ (.bool lg)).setCell ⟨F,9,none⟩ (.slice (some ⟨p,0,none⟩) k k)).setCell ⟨F,10,none⟩ (.slice (some ⟨q,0,none⟩) k k)).setCell ⟨F,11,none⟩ (.slice (some ⟨g,0,none⟩) k k)).setCell ⟨F,12,none⟩ (.slice ca cs.length cc)).setCell ⟨E,0,none⟩ (.int .i64 0)=wf at HU ⊢
 obtain ⟨kF2,kE2,hFB,u1,u2,u3,u4⟩:=HU.out
 have q0:=kF2.cell 0
 have q1:=kF2.cell 1
 have q2:=kF2.cell 2
 have q3:=kF2.cell 3
 have q4:=kF2.cell 4
 have q5:=kF2.cell 5
 have q6:=kF2.cell 6
 have q7:=kF2.cell 7
 have q8:=kF2.cell 8
 have q9:=kF2.cell 9
 have q10:=kF2.cell 10
 have q11:=kF2.cell 11
 have q12:=kF2.cell 12
 have q13:=kE2.cell 0
 simp at q0 q1 q2 q3 q4 q5 q6 q7 q8 q9 q10 q11 q12 q13
 refine leaves_cons (f:=13) (args:=#[.pointer (some ⟨X,0,none⟩),.pointer (some ⟨F,0,none⟩),.pointer (some ⟨E,0,none⟩)]) (by simp) (by simp [go_sem]) ?_
 refine (catch_idle _ _ _ _).mono ?_
 rintro e u' w'' ⟨rfl,rfl,hw⟩
 subst w''
 refine ⟨.tuple #[.agg (fcs ⟨up,sc,de,ga,b0,b1,b2,b3,lg,ad,be⟩ (.slice (some ⟨p,0,none⟩) k k) (.slice (some ⟨q,0,none⟩) k k) (.slice (some ⟨g,0,none⟩) k k) (.slice ca cs.length cc)),.int .i64 0],?_,HR.out _ _ ⟨hFB,by rw [HEV.out];exact ⟨p,q,g,ca,cc,k,HK.out.1,HK.out.2.1,HK.out.2.2,HGS.out.1,HCL.out,HCK.out,rfl,u2,u3,u4,u1⟩⟩⟩
 simp [results,Tryz.results5,go_sem,q0,q1,q2,q3,q4,q5,q6,q7,q8,q9,q10,q11,q12,q13]
def smM:Mt:=⟨1000,0,0,0,0,0,0,0,false,[0,500],[0,0]⟩
def smG:List ByteArray:=[⟨#[]⟩,⟨#[]⟩]
def smC:List C11.Ch:=[⟨97,97,1⟩]
theorem sm_show : shI smC [97,97]=none:=by kernel_rfl
theorem sm_long:lgF smM.up smM.ad 655360 [1,1] 0=some 655360:=by kernel_rfl
theorem sm_err:svE smM smG smC=0:=by kernel_rfl
def okL (r:Except Int (Mt × List ByteArray × List C11.Ch)):Bool:=match r with
 | .ok (m,gs,_)=>m.lg && (gs.length == 2)
 | _=>false
theorem sm_load:okL (ldV (svS smM smG smC))=true:=by kernel_rfl
theorem sm_size:decide ((svS smM smG smC).size≤1000000)=true:=by kernel_rfl
theorem sm_begin (w:World):∃V,V=(((((w.alloc (.cells #[.int .i64 1000,.int .i64 0,.int .i64 0,.int .i64 0,.int .i64 0,.int .i64 0,.int .i64 0,.int .i64 0,.bool false,.slice (some ⟨w.heap.size+1,0,none⟩) 2 2,.slice (some ⟨w.heap.size+1+1,0,none⟩) 2 2,.slice (some ⟨w.heap.size+1+1+1,0,none⟩) 2 2,.slice (some ⟨w.heap.size+1+1+1+1,0,none⟩) 1 1] 30)).alloc (.cells #[.int .i64 0,.int .i64 500] 3)).alloc (.cells #[.int .i64 0,.int .i64 0] 3)).alloc (.cells #[.string ⟨#[]⟩,.string ⟨#[]⟩] 9)).alloc (.cells #[.int .i64 97,.int .i64 97,.int .i64 1] 68))∧Lst V (some ⟨w.heap.size+1,0,none⟩) smM.ad∧Lst V (some ⟨w.heap.size+1+1,0,none⟩) smM.be∧G10.SLst V (some ⟨w.heap.size+1+1+1,0,none⟩) smG∧C11.CLst V (some ⟨w.heap.size+1+1+1+1,0,none⟩) smC∧Below w.heap.size w V:=by
 have hal:∀(u:World) (o:Obj),Below u.heap.size u (u.alloc o):=fun u o=>(Below.refl _ _).alloc (Nat.le_refl _) _
 have sz:∀(u:World) (o:Obj),(u.alloc o).heap.size=u.heap.size+1:=fun u o=>by simp
 have k1:=Blk.new w #[.int .i64 1000,.int .i64 0,.int .i64 0,.int .i64 0,.int .i64 0,.int .i64 0,.int .i64 0,.int .i64 0,.bool false,.slice (some ⟨w.heap.size+1,0,none⟩) 2 2,.slice (some ⟨w.heap.size+1+1,0,none⟩) 2 2,.slice (some ⟨w.heap.size+1+1+1,0,none⟩) 2 2,.slice (some ⟨w.heap.size+1+1+1+1,0,none⟩) 1 1] 30
 have b1:=hal w (.cells #[.int .i64 1000,.int .i64 0,.int .i64 0,.int .i64 0,.int .i64 0,.int .i64 0,.int .i64 0,.int .i64 0,.bool false,.slice (some ⟨w.heap.size+1,0,none⟩) 2 2,.slice (some ⟨w.heap.size+1+1,0,none⟩) 2 2,.slice (some ⟨w.heap.size+1+1+1,0,none⟩) 2 2,.slice (some ⟨w.heap.size+1+1+1+1,0,none⟩) 1 1] 30)
 have z1:=sz w (.cells #[.int .i64 1000,.int .i64 0,.int .i64 0,.int .i64 0,.int .i64 0,.int .i64 0,.int .i64 0,.int .i64 0,.bool false,.slice (some ⟨w.heap.size+1,0,none⟩) 2 2,.slice (some ⟨w.heap.size+1+1,0,none⟩) 2 2,.slice (some ⟨w.heap.size+1+1+1,0,none⟩) 2 2,.slice (some ⟨w.heap.size+1+1+1+1,0,none⟩) 1 1] 30)
 generalize w.alloc (.cells #[.int .i64 1000,.int .i64 0,.int .i64 0,.int .i64 0,.int .i64 0,.int .i64 0,.int .i64 0,.int .i64 0,.bool false,.slice (some ⟨w.heap.size+1,0,none⟩) 2 2,.slice (some ⟨w.heap.size+1+1,0,none⟩) 2 2,.slice (some ⟨w.heap.size+1+1+1,0,none⟩) 2 2,.slice (some ⟨w.heap.size+1+1+1+1,0,none⟩) 1 1] 30)=W1 at *
 have k2:=Blk.new W1 #[.int .i64 0,.int .i64 500] 3
 have b2:=hal W1 (.cells #[.int .i64 0,.int .i64 500] 3)
 have z2:=sz W1 (.cells #[.int .i64 0,.int .i64 500] 3)
 rw [z1] at k2 z2
 generalize W1.alloc (.cells #[.int .i64 0,.int .i64 500] 3)=W2 at *
 have k3:=Blk.new W2 #[.int .i64 0,.int .i64 0] 3
 have b3:=hal W2 (.cells #[.int .i64 0,.int .i64 0] 3)
 have z3:=sz W2 (.cells #[.int .i64 0,.int .i64 0] 3)
 rw [z2] at k3 z3
 generalize W2.alloc (.cells #[.int .i64 0,.int .i64 0] 3)=W3 at *
 have k4:=Blk.new W3 #[.string ⟨#[]⟩,.string ⟨#[]⟩] 9
 have b4:=hal W3 (.cells #[.string ⟨#[]⟩,.string ⟨#[]⟩] 9)
 have z4:=sz W3 (.cells #[.string ⟨#[]⟩,.string ⟨#[]⟩] 9)
 rw [z3] at k4 z4
 generalize W3.alloc (.cells #[.string ⟨#[]⟩,.string ⟨#[]⟩] 9)=W4 at *
 have k5:=Blk.new W4 #[.int .i64 97,.int .i64 97,.int .i64 1] 68
 have b5:=hal W4 (.cells #[.int .i64 97,.int .i64 97,.int .i64 1] 68)
 rw [z4] at k5
 have k2':=((k2.below b3).below b4).below b5
 have k3':=(k3.below b4).below b5
 have k4':=k4.below b5
 refine ⟨_,rfl,Or.inr ⟨_,0,rfl,k2'.lt,fun i hi=>?_⟩,Or.inr ⟨_,0,rfl,k3'.lt,fun i hi=>?_⟩,Or.inr ⟨_,0,rfl,k4'.lt,fun i hi=>?_⟩,Or.inr ⟨_,0,rfl,k5.lt,fun i hi=>?_⟩,below_t5 (below_t5 (below_t5 (below_t5 b1 b2) b3) b4) b5⟩
 ·match i,hi with
  | 0,_=>exact k2'.cell 0
  | 1,_=>exact k2'.cell 1
 ·match i,hi with
  | 0,_=>exact k3'.cell 0
  | 1,_=>exact k3'.cell 1
 ·match i,hi with
  | 0,_=>exact k4'.cell 0
  | 1,_=>exact k4'.cell 1
 ·match i,hi with
  | 0,_=>exact ⟨k5.cell 0,k5.cell 1,k5.cell 2⟩
theorem small_any (w:World):Calls Tryz.prog 9 #[] w fun e w'=>∃p q g c,e=.returned (.agg (fcs smM (.slice (some ⟨p,0,none⟩) 2 2) (.slice (some ⟨q,0,none⟩) 2 2) (.slice (some ⟨g,0,none⟩) 2 2) (.slice (some ⟨c,0,none⟩) 1 1)))∧Lst w' (some ⟨p,0,none⟩) smM.ad∧Lst w' (some ⟨q,0,none⟩) smM.be∧G10.SLst w' (some ⟨g,0,none⟩) smG∧C11.CLst w' (some ⟨c,0,none⟩) smC∧Below w.heap.size w w':=by
 obtain ⟨V,hV,h1,h2,h3,h4,h5⟩:=sm_begin w
 go_enter Tryz.func9,Tryz.ntmps9
 go_wp2_with fail
 refine bodyPost_ret (v:=.agg (fcs smM (.slice (some ⟨w.heap.size+1,0,none⟩) 2 2) (.slice (some ⟨w.heap.size+1+1,0,none⟩) 2 2) (.slice (some ⟨w.heap.size+1+1+1,0,none⟩) 2 2) (.slice (some ⟨w.heap.size+1+1+1+1,0,none⟩) 1 1))) (by simp [results,Tryz.results9,go_sem,fcs,smM]) rfl ?_
 rw [←hV]
 exact ⟨_,_,_,_,rfl,h1,h2,h3,h4,h5⟩
set_option maxRecDepth 8000 in
set_option maxHeartbeats 8000000 in
theorem wakes12_any (w:World) (hG:S8.Glo8 w):Calls Tryz.prog 4 #[] w fun e w'=>e=.returned (.bool true)∧Below w.heap.size w w':=by
 have CS:=hide small_any
 have CSh:=hide (fun (va vb vg:Value) (c la lc:Nat) (u:World) (hC:C11.CLst u (some ⟨c,0,none⟩) smC) (hL:Lst u (some ⟨la,0,none⟩) [97,97])=>show_any smM va vb vg (some ⟨c,0,none⟩) 1 1 smC (some ⟨la,0,none⟩) 2 lc [97,97] u rfl (by omega) (fun z hz=>by simp at hz;subst hz;exact ⟨by decide,by decide⟩) rfl (by omega) (fun i hi=>by
  match i,hi with
  | 0,_=>exact ⟨⟨by decide,by decide⟩,⟨by decide,by decide⟩,by decide,by decide⟩) hC hL)
 have CLg:=hide (fun (p q la lc:Nat) (vg vc:Value) (u:World) (hA:Lst u (some ⟨p,0,none⟩) smM.ad) (hL:Lst u (some ⟨la,0,none⟩) [1,1])=>long_any smM (some ⟨p,0,none⟩) 2 2 (some ⟨q,0,none⟩) 2 2 vg vc (some ⟨la,0,none⟩) 2 lc [1,1] 655360 u rfl (by omega) (by show i64 1000;unfold i64;omega) (fun x hx=>by simp [smM] at hx;rcases hx with rfl | rfl <;> (unfold i64;omega)) (by unfold i64;omega) rfl (by omega) hA hL)
 have CSv:=hide (fun (p q g c:Nat) (u:World) (hA:Lst u (some ⟨p,0,none⟩) smM.ad) (hB:Lst u (some ⟨q,0,none⟩) smM.be) (hS:G10.SLst u (some ⟨g,0,none⟩) smG) (hC:C11.CLst u (some ⟨c,0,none⟩) smC) (hW:S8.Glo8 u)=>save_any smM (some ⟨p,0,none⟩) (some ⟨q,0,none⟩) (some ⟨g,0,none⟩) (some ⟨c,0,none⟩) 2 2 2 1 2 2 2 1 smG smC u rfl rfl rfl rfl (by omega) (by omega) (by omega) (by omega) (fun x hx=>by simp [smG] at hx;subst hx;decide) (by decide +kernel) hA hB hS hC hW)
 have CLd:=hide (fun (u:World) (hW:S8.Glo8 u)=>load_any (svS smM smG smC) u (of_decide_eq_true sm_size) hW)
 unfold LdR at CLd
 unfold ShR at CSh
 rw [sm_long] at CLg
 rw [sm_err] at CSv
 have HOK:=hide sm_load
 generalize svS smM smG smC=SF at CSv CLd HOK
 have HW:=hide hG
 clear hG
 have KSM:=hide (fun (a b:Option Addr) (ca cb:Nat) (u:World) (h1:Lst u a [1,1]) (h2:Lst u b [1,1])=>G10.ksame_any a b 2 ca cb [1,1] u rfl (by omega) h1 h2)
 have E97:(#[.int .i64 97,.int .i64 97]:Array Value)=([97,97].map (Value.int .i64)).toArray:=rfl
 have E11:(#[.int .i64 1,.int .i64 1]:Array Value)=([1,1].map (Value.int .i64)).toArray:=rfl
 have L97:=hide (fun (u:World)=>lst_new u [97,97] u.heap.size rfl)
 have L11:=hide (fun (u:World)=>lst_new u [1,1] u.heap.size rfl)
 rw [←E97] at L97
 rw [←E11] at L11
 have hal:=hide (fun (u:World) (o:Obj)=>(Below.refl u.heap.size u).alloc (Nat.le_refl _) o)
 clear E97 E11
 simp only [fcs,smM] at CS CSh CLg CSv
 go_enter Tryz.func4,Tryz.ntmps4
 go_wp2_with fail
 refine (CS.out _).mono ?_
 rintro e w1 ⟨p,q,g,c,rfl,hA,hB,hS,hC,hb1⟩
 have C1:=hide (CSh.out (.slice (some ⟨p,0,none⟩) 2 2) (.slice (some ⟨q,0,none⟩) 2 2) (.slice (some ⟨g,0,none⟩) 2 2) c w1.heap.size 2 _ (hC.below (hal.out w1 (.cells #[.int .i64 97,.int .i64 97] 3))) (L97.out w1))
 have HB1:=hide (below_t5 hb1 (hal.out w1 (.cells #[.int .i64 97,.int .i64 97] 3)))
 clear hA hB hS hC hb1 CSh L97
 go_wp2_with fail
 refine C1.out.mono ?_
 rintro e w2 ⟨hb2,h | ⟨hsn,gg,rfl,hgg,hbk⟩⟩
 ·obtain ⟨k,hk,_⟩:=h
  rw [sm_show] at hk
  cases hk
 have hl1:Lst w2 (some ⟨gg,0,none⟩) [1,1]:=by
  have:=arr_lst hbk
  have e0:(List.range 2).map (shF smC [97,97])=[1,1]:=by kernel_rfl
  rw [e0] at this
  exact this
 have HL1:=hide hl1
 have HB2:=hide (below_t5 HB1.out hb2)
 clear hb2 hsn hgg hbk hl1 C1 HB1
 go_wp2_with fail
 refine (CS.out _).mono ?_
 rintro e w3 ⟨p,q,g,c,rfl,hA,hB,hS,hC,hb3⟩
 have C1:=hide (CLg.out p q w3.heap.size 2 (.slice (some ⟨g,0,none⟩) 2 2) (.slice (some ⟨c,0,none⟩) 1 1) _ (hA.below (hal.out w3 (.cells #[.int .i64 1,.int .i64 1] 3))) (L11.out w3))
 have hx3:=below_t5 hb3 (hal.out w3 (.cells #[.int .i64 1,.int .i64 1] 3))
 have HB3:=hide (below_t5 HB2.out hx3)
 have HL3:=hide (HL1.out.below hx3)
 clear hA hB hS hC hb3 hx3 CLg HL1 HB2
 go_wp2_with fail
 refine C1.out.mono ?_
 rintro e w4 ⟨rfl,hb4⟩
 have HB4:=hide (below_t5 HB3.out hb4)
 have HL4:=hide (HL3.out.below hb4)
 clear hb4 C1 HB3 HL3
 simp only [lgV]
 go_wp2_with fail
 refine (CS.out _).mono ?_
 rintro e w5 ⟨p,q,g,c,rfl,hA,hB,hS,hC,hb5⟩
 have hx5:=below_t5 HB4.out hb5
 have C1:=hide (CSv.out p q g c w5 hA hB hS hC (HW.out.below hx5))
 have HB5:=hide hx5
 have HL5:=hide (HL4.out.below hb5)
 clear hA hB hS hC hb5 hx5 CSv HL4 HB4 CS
 go_wp2_with fail
 refine C1.out.mono ?_
 rintro e w6 ⟨rfl,hb6⟩
 have hx6:=below_t5 HB5.out hb6
 have C2:=hide (CLd.out w6 (HW.out.below hx6))
 have HB6:=hide hx6
 have HL6:=hide (HL5.out.below hb6)
 clear hb6 hx6 HL5 HB5 C1 CLd
 generalize ldV SF=R at C2 HOK
 go_wp2_with fail
 refine C2.out.mono ?_
 rintro e w7 ⟨hb7,hm⟩
 have HB7:=hide (below_t5 HB6.out hb7)
 have HL7:=hide (HL6.out.below hb7)
 clear hb7 C2 HB6 HL6
 cases R with
 | error er=>have:=HOK.out;simp [okL] at this
 | ok r=>
 obtain ⟨m,gs,cs⟩:=r
 obtain ⟨p,q,g,ca,cc,k,h1,h2,h3,h4,h5,h6,rfl,h8,h9,h10,h11⟩:=hm
 have ho:=HOK.out
 simp only [okL,Bool.and_eq_true,beq_iff_eq] at ho
 obtain ⟨up,sc,de,ga,b0,b1,b2,b3,lg,ad,be⟩:=m
 simp only at ho
 obtain ⟨rfl,hk⟩:=ho
 have hk2:k=2:=by omega
 subst hk2
 clear HOK h1 h2 h3 h4 h5 h6 h8 h9 h10 h11 hk
 simp only [fcs]
 go_wp2_with fail
 have kf:=Blk.new w7 #[.int .i64 up,.int .i64 sc,.int .i64 de,.int .i64 ga,.int .i64 b0,.int .i64 b1,.int .i64 b2,.int .i64 b3,.bool true,.slice (some ⟨p,0,none⟩) 2 2,.slice (some ⟨q,0,none⟩) 2 2,.slice (some ⟨g,0,none⟩) 2 2,.slice ca cs.length cc] 30
 have hb8:=hal.out w7 (.cells #[.int .i64 up,.int .i64 sc,.int .i64 de,.int .i64 ga,.int .i64 b0,.int .i64 b1,.int .i64 b2,.int .i64 b3,.bool true,.slice (some ⟨p,0,none⟩) 2 2,.slice (some ⟨q,0,none⟩) 2 2,.slice (some ⟨g,0,none⟩) 2 2,.slice ca cs.length cc] 30)
 have hsz:(w7.alloc (.cells #[.int .i64 up,.int .i64 sc,.int .i64 de,.int .i64 ga,.int .i64 b0,.int .i64 b1,.int .i64 b2,.int .i64 b3,.bool true,.slice (some ⟨p,0,none⟩) 2 2,.slice (some ⟨q,0,none⟩) 2 2,.slice (some ⟨g,0,none⟩) 2 2,.slice ca cs.length cc] 30)).heap.size=w7.heap.size+1:=by simp
 rw [←hsz]
 generalize w7.alloc (.cells #[.int .i64 up,.int .i64 sc,.int .i64 de,.int .i64 ga,.int .i64 b0,.int .i64 b1,.int .i64 b2,.int .i64 b3,.bool true,.slice (some ⟨p,0,none⟩) 2 2,.slice (some ⟨q,0,none⟩) 2 2,.slice (some ⟨g,0,none⟩) 2 2,.slice ca cs.length cc] 30)=U at kf hb8 hsz ⊢
 have hb9:=hal.out U (.cells #[.int .i64 1,.int .i64 1] 3)
 have C:=KSM.out _ _ 2 2 _ ((HL7.out.below hb8).below hb9) (L11.out U)
 have kf2:=kf.below hb9
 have hbz:=below_t5 (below_t5 HB7.out hb8) hb9
 generalize U.alloc (.cells #[.int .i64 1,.int .i64 1] 3)=U2 at C kf2 hbz ⊢
 refine C.mono ?_
 rintro e w8 ⟨rfl,n,rfl⟩
 have kf3:=kf2.drewN n
 have HBZ:Hid (Below w.heap.size w (U2.drewN n)):=hide ⟨hbz.os,hbz.tape,hbz.output,hbz.size,hbz.block⟩
 obtain ⟨y,hy⟩:∃y,w7.heap.size=y:=⟨_,rfl⟩
 rw [hy] at kf3 ⊢
 have e8:=kf3.cell 8
 have e11:=kf3.cell 11
 simp only [List.getElem?_toArray,List.getElem?_cons_succ,List.getElem?_cons_zero] at e8 e11
 have ylt:=kf3.lt
 generalize U2.drewN n=U3 at HBZ e8 e11 ylt ⊢
 clear kf hb8 hsz hb9 C kf2 hbz kf3 hy HB7 HL7 KSM L11 hal
 go_wp2_with fail
 go_ret
 exact ⟨rfl,HBZ.out⟩
theorem ba {w u:World} (h:Below w.heap.size w u) (o:Obj):Below w.heap.size w (u.alloc o):=h.alloc h.size o
def RmR (l:List Tab) (w:World) (e:Ending) (w':World):Prop:=Below w.heap.size w w'∧match rdO l with
 | none=>e=.returned (.tuple #[zeroM,.int .i64 90])
 | some m=>∃a1 c1 a2 c2,e=.returned (.tuple #[.agg (mcs m (.slice a1 m.ad.length c1) (.slice a2 m.ad.length c2)),.int .i64 0])∧Lst w' a1 m.ad∧Lst w' a2 m.be∧(∀b o,a1=some ⟨b,o,none⟩→w.heap.size≤b)∧(∀b o,a2=some ⟨b,o,none⟩→w.heap.size≤b)
theorem rmet_any (a:Option Addr) (l:List Tab) (n c:Nat) (w:World) (hn:l.length=n) (hm:n≤1073741824) (hd0:∀x∈l,x.2.size≤1073741824) (hL:TLst w a l):Calls Tryz.prog 16 #[.slice a n c] w (RmR l w):=by
 cases h:readV l with
 | none=>
  refine (rrd_no a l n c w hn hm hd0 hL h).mono ?_
  rintro e w' ⟨he,hb⟩
  exact ⟨hb,by unfold rdO;rw [h];exact he⟩
 | some r=>
  obtain ⟨mx,hd,hh,hx⟩:=r
  refine (rrd_yes a l n c w hn hm hd0 hL mx hd hh hx h).mono ?_
  rintro e w' ⟨a1,c1,a2,c2,he,hb,l1,l2,l3,l4⟩
  refine ⟨hb,?_⟩
  unfold rdO
  rw [h]
  have e1:(rdM mx hd hh hx).ad.length=nV mx:=by unfold rdM;simp
  exact ⟨a1,c1,a2,c2,by simp only;rw [e1,he];rfl,l1,l2,l3,l4⟩
theorem rdO_in {l:List Tab} {m:Mt} (h:rdO l=some m):m.be.length=m.ad.length∧(1≤m.ad.length∧m.ad.length≤4096)∧i64 m.up∧(∀x∈m.ad,i64 x)∧(∀x∈m.be,i64 x):=by
 unfold rdO at h
 cases h2:readV l with
 | none=>rw [h2] at h;cases h
 | some r=>
  obtain ⟨mx,hd,hh,hx⟩:=r
  rw [h2] at h
  injection h with h
  subst h
  have hn:=read_n h2
  have n2b:∀(l:List UInt8) k,i64 ((n2 l k:Nat):Int):=fun l k=>by have:=n2_lt l k;unfold i64;omega
  have s2b:∀(l:List UInt8) k,i64 (s2 l k):=fun l k=>by have:=s2_bd l k;unfold i64;omega
  refine ⟨by unfold rdM;simp,by unfold rdM;simpa using hn,n2b _ _,fun x hx'=>?_,fun x hx'=>?_⟩
  ·obtain ⟨i,_,rfl⟩:=List.mem_map.1 hx'
   unfold advF
   split <;> exact n2b _ _
  ·obtain ⟨i,_,rfl⟩:=List.mem_map.1 hx'
   unfold beaF
   split <;> exact s2b _ _
theorem splV_size {l:List UInt8} {g:ByteArray} {k:Nat} {lg:Bool} {N:Nat} (h:g.size≤N):∀x∈G10.splV l g k lg,x.size≤N:=fun x hx=>by
 unfold G10.splV at hx
 obtain ⟨i,_,rfl⟩:=List.mem_map.1 hx
 unfold G10.splG
 rw [ByteArray.size_extract]
 omega
theorem lst_butO {w w':World} {L:Nat} {a:Option Addr} {zs:List Int} (h:Lst w a zs) (hb:But L w w') (hne:∀b o,a=some ⟨b,o,none⟩→b≠L):Lst w' a zs:=by
 rcases h with h | ⟨b,o,h1,h2,h3⟩
 ·exact Or.inl h
 ·refine Or.inr ⟨b,o,h1,Nat.lt_of_lt_of_le h2 hb.size,fun i hi=>?_⟩
  rw [World.cell?_of_block (w:=w) (hb.block b h2 (hne b o h1))]
  exact h3 i hi
theorem crow_fr {w:World} {B:Nat} {v:Value} {cs:List C11.Ch} (h:C11.CRow w B v cs):∃a cap,v=.slice a cs.length cap∧C11.CLst w a cs∧(cs=[]∨∃b,a=some ⟨b,0,none⟩∧B≤b):=by
 obtain ⟨a,cap,hv,hL⟩:=h.lst
 refine ⟨a,cap,hv,hL,?_⟩
 have h':=h
 obtain ⟨_,⟨h0,h1⟩ | ⟨b,cap2,cur,hv2,hb,_⟩⟩:=h'
 ·exact Or.inl (List.eq_nil_of_length_eq_zero h1)
 ·rw [hv] at hv2
  simp only [Value.slice.injEq] at hv2
  exact Or.inr ⟨b,hv2.1,hb⟩
theorem blk13 {V:World} {r:Nat} (h:Blk V r zf 30):V.cell? ⟨r,0,none⟩=some (.int .i64 0)∧V.frozen? ⟨r,0,none⟩=false∧V.cell? ⟨r,1,none⟩=some (.int .i64 0)∧V.frozen? ⟨r,1,none⟩=false∧V.cell? ⟨r,2,none⟩=some (.int .i64 0)∧V.frozen? ⟨r,2,none⟩=false∧V.cell? ⟨r,3,none⟩=some (.int .i64 0)∧V.frozen? ⟨r,3,none⟩=false∧V.cell? ⟨r,4,none⟩=some (.int .i64 0)∧V.frozen? ⟨r,4,none⟩=false∧V.cell? ⟨r,5,none⟩=some (.int .i64 0)∧V.frozen? ⟨r,5,none⟩=false∧V.cell? ⟨r,6,none⟩=some (.int .i64 0)∧V.frozen? ⟨r,6,none⟩=false∧V.cell? ⟨r,7,none⟩=some (.int .i64 0)∧V.frozen? ⟨r,7,none⟩=false∧V.cell? ⟨r,8,none⟩=some (.bool false)∧V.frozen? ⟨r,8,none⟩=false∧V.cell? ⟨r,9,none⟩=some (.slice none 0 0)∧V.frozen? ⟨r,9,none⟩=false∧V.cell? ⟨r,10,none⟩=some (.slice none 0 0)∧V.frozen? ⟨r,10,none⟩=false∧V.cell? ⟨r,11,none⟩=some (.slice none 0 0)∧V.frozen? ⟨r,11,none⟩=false∧V.cell? ⟨r,12,none⟩=some (.slice none 0 0)∧V.frozen? ⟨r,12,none⟩=false∧r < V.heap.size:=⟨by simpa using h.cell 0,h.frozen 0,by simpa using h.cell 1,h.frozen 1,by simpa using h.cell 2,h.frozen 2,by simpa using h.cell 3,h.frozen 3,by simpa using h.cell 4,h.frozen 4,by simpa using h.cell 5,h.frozen 5,by simpa using h.cell 6,h.frozen 6,by simpa using h.cell 7,h.frozen 7,by simpa using h.cell 8,h.frozen 8,by simpa using h.cell 9,h.frozen 9,by simpa using h.cell 10,h.frozen 10,by simpa using h.cell 11,h.frozen 11,by simpa using h.cell 12,h.frozen 12,h.lt⟩
theorem rl_end {w V:World} {a:Act} {er:Int} {Q:Ending→World→Prop} (hk:Blk V w.heap.size zf 30) (hb:Below w.heap.size w V) (h2:a.tmps[2]?.getD undef=.pointer (some ⟨w.heap.size,0,none⟩)) (h3:a.tmps[3]?.getD undef=.int .i64 er) (hd:a.defers=[]) (hQ:∀Z,Below w.heap.size w Z→Q (.returned (.tuple #[.agg zf,.int .i64 er])) Z) :
  bodyPost Tryz.prog Tryz.f6 Q Exit.ret a (((((((((((((V.setCell ⟨w.heap.size,0,none⟩ (.int .i64 0)).setCell ⟨w.heap.size,1,none⟩ (.int .i64 0)).setCell ⟨w.heap.size,2,none⟩ (.int .i64 0)).setCell ⟨w.heap.size,3,none⟩ (.int .i64 0)).setCell ⟨w.heap.size,4,none⟩ (.int .i64 0)).setCell ⟨w.heap.size,5,none⟩ (.int .i64 0)).setCell ⟨w.heap.size,6,none⟩ (.int .i64 0)).setCell ⟨w.heap.size,7,none⟩ (.int .i64 0)).setCell ⟨w.heap.size,8,none⟩ (.bool false)).setCell ⟨w.heap.size,9,none⟩ (.slice none 0 0)).setCell ⟨w.heap.size,10,none⟩ (.slice none 0 0)).setCell ⟨w.heap.size,11,none⟩ (.slice none 0 0)).setCell ⟨w.heap.size,12,none⟩ (.slice none 0 0)):=by
 have h:=store13 hk (.int .i64 0) (.int .i64 0) (.int .i64 0) (.int .i64 0) (.int .i64 0) (.int .i64 0) (.int .i64 0) (.int .i64 0) (.bool false) (.slice none 0 0) (.slice none 0 0) (.slice none 0 0) (.slice none 0 0)
 have hbe:=h.2.below hb (Nat.le_refl _)
 generalize (((((((((((((V.setCell ⟨w.heap.size,0,none⟩ (.int .i64 0)).setCell ⟨w.heap.size,1,none⟩ (.int .i64 0)).setCell ⟨w.heap.size,2,none⟩ (.int .i64 0)).setCell ⟨w.heap.size,3,none⟩ (.int .i64 0)).setCell ⟨w.heap.size,4,none⟩ (.int .i64 0)).setCell ⟨w.heap.size,5,none⟩ (.int .i64 0)).setCell ⟨w.heap.size,6,none⟩ (.int .i64 0)).setCell ⟨w.heap.size,7,none⟩ (.int .i64 0)).setCell ⟨w.heap.size,8,none⟩ (.bool false)).setCell ⟨w.heap.size,9,none⟩ (.slice none 0 0)).setCell ⟨w.heap.size,10,none⟩ (.slice none 0 0)).setCell ⟨w.heap.size,11,none⟩ (.slice none 0 0)).setCell ⟨w.heap.size,12,none⟩ (.slice none 0 0))=Z at h hbe ⊢
 have q0:=h.1.cell 0
 have q1:=h.1.cell 1
 have q2:=h.1.cell 2
 have q3:=h.1.cell 3
 have q4:=h.1.cell 4
 have q5:=h.1.cell 5
 have q6:=h.1.cell 6
 have q7:=h.1.cell 7
 have q8:=h.1.cell 8
 have q9:=h.1.cell 9
 have q10:=h.1.cell 10
 have q11:=h.1.cell 11
 have q12:=h.1.cell 12
 simp at q0 q1 q2 q3 q4 q5 q6 q7 q8 q9 q10 q11 q12
 exact bodyPost_ret (v:=.tuple #[.agg zf,.int .i64 er]) (by simp [results,Tryz.results6,go_sem,h2,h3,q0,q1,q2,q3,q4,q5,q6,q7,q8,q9,q10,q11,q12]) hd (hQ Z hbe)
def LdQ (w:World) (s:ByteArray) (e:Ending) (w':World):Prop:=Below w.heap.size w w'∧match ldV s with
 | .error er=>er≠0∧e=.returned (.tuple #[.agg zf,.int .i64 er])
 | .ok (m,gs,cs)=>∃a1 c1 a2 c2 ga gc ca cc k nc,m.ad.length=k∧m.be.length=k∧k≤4096∧gs.length=k∧cs.length=nc∧e=.returned (.tuple #[.agg (fcs m (.slice a1 k c1) (.slice a2 k c2) (.slice ga k gc) (.slice ca nc cc)),.int .i64 0])∧Lst w' a1 m.ad∧Lst w' a2 m.be∧G10.SLst w' ga gs∧C11.CLst w' ca cs
theorem fn_let2 (l:List Tab) (t:ByteArray):∃(d:ByteArray) (b:Bool),S8.fnR (S8.finV l t)=.tuple #[.string d,.bool b]∧((b=true∧finV l t=some d)∨(b=false∧finV l t=none)):=by
 show ∃(d:ByteArray) (b:Bool),S8.fnR (finV l t)=.tuple #[.string d,.bool b]∧_
 cases h:finV l t with
 | none=>exact ⟨⟨#[]⟩,false,rfl,Or.inr ⟨rfl,rfl⟩⟩
 | some d=>exact ⟨d,true,rfl,Or.inl ⟨rfl,rfl⟩⟩
set_option maxRecDepth 8000 in
set_option maxHeartbeats 16000000 in
theorem rload_any (s:ByteArray) (w:World) (hs:s.size≤1000000):Calls Tryz.prog 6 #[.string s] w (LdQ w s):=by
 have hlen:=S8.tabV_len s
 have hbd:∀x∈S8.tabV s,x.2.size≤1000000:=fun x hx=>Nat.le_trans (S8.tabV_bd s x hx) hs
 have C1:Hid (∀u:World,Calls Tryz.prog 15 #[.string s] u fun e w'=>∃a c,e=.returned (.tuple #[.slice a (S8.tabV s).length c,.int .i64 (S8.errV s.data.toList)])∧TLst w' a (S8.tabV s)∧Below u.heap.size u w'):=hide fun u=>(S8.rread_gen s u (by omega)).mono fun e w' ⟨v,he,hT,hb⟩=>by
  obtain ⟨a,c,hv,hTL⟩:=hT.lst
  exact ⟨a,c,by rw [←hv];exact he,hTL,hb⟩
 have HERR:Hid (∀(er:Int) (w':World),ldV s=.error er→er≠0→Below w.heap.size w w'→LdQ w s (.returned (.tuple #[.agg zf,.int .i64 er])) w'):=hide fun er w' h1 h2 h3=>⟨h3,by rw [h1];exact ⟨h2,rfl⟩⟩
 have HOK:Hid (∀(m:Mt) (gs:List ByteArray) (cs:List C11.Ch) (a1:Option Addr) (c1:Nat) (a2:Option Addr) (c2:Nat) (ga:Option Addr) (gc:Nat) (ca:Option Addr) (cc k nc:Nat) (w':World),ldV s=.ok (m,gs,cs)→m.ad.length=k→m.be.length=k→k≤4096→gs.length=k→cs.length=nc→Below w.heap.size w w'→Lst w' a1 m.ad→Lst w' a2 m.be→G10.SLst w' ga gs→C11.CLst w' ca cs→LdQ w s (.returned (.tuple #[.agg (fcs m (.slice a1 k c1) (.slice a2 k c2) (.slice ga k gc) (.slice ca nc cc)),.int .i64 0])) w'):=hide fun m gs cs a1 c1 a2 c2 ga gc ca cc k nc w' h1 h2 h3 h4 h5 h6 hb i1 i2 i3 i4=>⟨hb,by rw [h1];exact ⟨a1,c1,a2,c2,ga,gc,ca,cc,k,nc,h2,h3,h4,h5,h6,rfl,i1,i2,i3,i4⟩⟩
 have HLD:Hid (ldV s=if S8.errV s.data.toList=0 then (match rdO (S8.tabV s) with | none=>.error 90 | some m=>match ouV (S8.tabV s) m.ad.length m.lg with | none=>.error 100 | some gs=>match chV (S8.tabV s) m.ad.length with | none=>.error 110 | some cs=>if ckV m gs cs=0 then .ok (m,gs,cs) else .error (ckV m gs cs)) else .error (S8.errV s.data.toList)):=hide (by unfold ldV;rfl)
 obtain ⟨l,hl⟩:∃l,S8.tabV s=l:=⟨_,rfl⟩
 obtain ⟨E,hE⟩:∃E,S8.errV s.data.toList=E:=⟨_,rfl⟩
 rw [hl] at C1 HLD hlen hbd
 rw [hE] at C1 HLD
 obtain ⟨n,hn⟩:∃n,l.length=n:=⟨_,rfl⟩
 rw [hn] at C1 hlen
 have C2:=hide (fun (a:Option Addr) (c:Nat) (u:World) (hL:TLst u a l)=>rmet_any a l n c u hn (by omega) (fun x hx=>Nat.le_trans (hbd x hx) (by omega)) hL)
 have CF:=hide (fun (a:Option Addr) (c:Nat) (t:ByteArray) (u:World) (hL:TLst u a l)=>S8.rfind_any a l n c t u hn (by omega) hL)
 have HBD:=hide (show ∀t d,finV l t=some d→d.size≤1000000 from fun t d h=>by obtain ⟨x,hx,rfl⟩:=fin_mem h;exact hbd x hx)
 have CK:=hide (fun (m:Mt) (a1 a2 ga ca:Option Addr) (k nc c1 c2 gc cc:Nat) (gs:List ByteArray) (cs:List C11.Ch) (u:World) (hM:MIn u m a1 k a2 k) (hg:gs.length=k) (hk:k≤4096) (hc:cs.length=nc) (hc2:nc≤1000000) (hz:∀g∈gs,g.size≤1000000) (hG:G10.SLst u ga gs) (hC:C11.CLst u ca cs)=>rcheck_any m a1 a2 ga ca k k k nc c1 c2 gc cc gs cs u hM hg hc (by omega) (by omega) (by omega) hc2 hz hG hC)
 have kF:=Blk.new w zf 30
 have bF:=(Below.refl w.heap.size w).alloc (Nat.le_refl _) (.cells zf 30)
 have HK0:=hide kF
 have HB0:=hide bF
 clear hlen hbd hl hE hn hs kF bF
 go_enter Tryz.func6,Tryz.ntmps6
 go_wp2_with fail
 refine (C1.out _).mono ?_
 rintro e w1 ⟨ta,tc,rfl,hT1,h1⟩
 have HK1:=hide (HK0.out.below h1)
 have HB1:=hide (below_t5 HB0.out h1)
 have HT1:=hide hT1
 clear h1 hT1 HK0 HB0 C1
 by_cases hE0:E=0
 case neg=>
  have hE1:(E == 0)=false:=by simpa using hE0
  have HLE:=hide (show ldV s=.error E by rw [HLD.out,if_neg hE0])
  have HNE:=hide hE0
  clear hE0 HLD C2 CF CK
  obtain ⟨r0,z0,r1,z1,r2,z2,r3,z3,r4,z4,r5,z5,r6,z6,r7,z7,r8,z8,r9,z9,r10,z10,r11,z11,r12,z12,rlt⟩:=blk13 HK1.out
  go_wp2_with fail
  exact rl_end HK1.out HB1.out rfl rfl rfl (fun Z hZ=>HERR.out _ Z (HLE.out) (HNE.out) hZ)
 subst hE0
 have hld:=HLD.out
 rw [if_pos rfl] at hld
 have C2a:=hide (C2.out ta tc w1 HT1.out)
 unfold RmR at C2a
 cases hrd:rdO l with
 | none=>
  rw [hrd] at hld C2a
  dsimp only at C2a
  simp only [zeroM] at C2a
  have HLE:=hide hld
  clear hld HLD C2 CF CK hrd
  go_wp2_with fail
  refine C2a.out.mono ?_
  rintro e w2 ⟨h2,rfl⟩
  have hk2:=(HK1.out.below h2).below ((Below.refl w2.heap.size w2).alloc (Nat.le_refl _) (.cells zeroC 26))
  have hb2:=(below_t5 HB1.out h2).alloc (below_t5 HB1.out h2).size (.cells zeroC 26)
  go_upto_region 5 with (fail)
  generalize w2.alloc (.cells zeroC 26)=W2 at hk2 hb2 ⊢
  have HK2:=hide hk2
  have HB2:=hide hb2
  clear hk2 hb2 h2 HK1 HB1 HT1 C2a
  obtain ⟨r0,z0,r1,z1,r2,z2,r3,z3,r4,z4,r5,z5,r6,z6,r7,z7,r8,z8,r9,z9,r10,z10,r11,z11,r12,z12,rlt⟩:=blk13 HK2.out
  go_wp2_with fail
  exact rl_end HK2.out HB2.out rfl rfl rfl (fun Z hZ=>HERR.out _ Z (HLE.out) (by decide) hZ)
 | some m=>
  obtain ⟨hbl,⟨hk1,hk2⟩,hup,hxa,hxb⟩:=rdO_in hrd
  rw [hrd] at hld C2a
  dsimp only at C2a hld
  obtain ⟨k,hk⟩:∃k,m.ad.length=k:=⟨_,rfl⟩
  rw [hk] at hbl hk1 hk2 hld C2a
  have HMI:=hide (fun (u:World) (a1 a2:Option Addr) (h1:Lst u a1 m.ad) (h2:Lst u a2 m.be)=>(⟨hup,hk,hbl,by omega,by omega,h1,h2,hxa,hxb⟩:MIn u m a1 k a2 k))
  have HKK:=hide (And.intro hk (And.intro hbl (And.intro hk1 hk2)))
  have hk2':(k:Int)≤4096:=by omega
  have HLD2:=hide hld
  obtain ⟨up,sc,de,gap,b0,b1,b2,b3,lg,ad,be⟩:=m
  simp only [mcs] at C2a HLD2 HMI HKK
  clear hld HLD C2 hrd hup hxa hxb hk hbl hk1 hk2
  go_wp2_with fail
  refine C2a.out.mono ?_
  rintro e w2 ⟨h2,a1,c1,a2,c2,rfl,hl1,hl2,hf1,hf2⟩
  have HFR:=hide (show (∀b o,a1=some ⟨b,o,none⟩→b≠w.heap.size)∧(∀b o,a2=some ⟨b,o,none⟩→b≠w.heap.size) from ⟨fun b o hb=>by have:=hf1 b o hb;have:=HK1.out.lt;omega,fun b o hb=>by have:=hf2 b o hb;have:=HK1.out.lt;omega⟩)
  clear hf1 hf2
  have bX:=(Below.refl w2.heap.size w2).alloc (Nat.le_refl _) (.cells #[.int .i64 up,.int .i64 sc,.int .i64 de,.int .i64 gap,.int .i64 b0,.int .i64 b1,.int .i64 b2,.int .i64 b3,.bool lg,.slice a1 k c1,.slice a2 k c2] 26)
  have kX:=Blk.new w2 #[.int .i64 up,.int .i64 sc,.int .i64 de,.int .i64 gap,.int .i64 b0,.int .i64 b1,.int .i64 b2,.int .i64 b3,.bool lg,.slice a1 k c1,.slice a2 k c2] 26
  have hk2:=(HK1.out.below h2).below bX
  have hb2:=(below_t5 HB1.out h2).alloc (below_t5 HB1.out h2).size (.cells #[.int .i64 up,.int .i64 sc,.int .i64 de,.int .i64 gap,.int .i64 b0,.int .i64 b1,.int .i64 b2,.int .i64 b3,.bool lg,.slice a1 k c1,.slice a2 k c2] 26)
  have ht2:=(HT1.out.below h2).below bX
  have hm1:=hl1.below bX
  have hm2:=hl2.below bX
  go_upto_region 5 with (fail)
  obtain ⟨X,hX⟩:∃X,w2.heap.size=X:=⟨_,rfl⟩
  generalize w2.alloc (.cells #[.int .i64 up,.int .i64 sc,.int .i64 de,.int .i64 gap,.int .i64 b0,.int .i64 b1,.int .i64 b2,.int .i64 b3,.bool lg,.slice a1 k c1,.slice a2 k c2] 26)=W2 at bX kX hk2 hb2 ht2 hm1 hm2 ⊢
  rw [hX] at kX ⊢
  have HK2:=hide hk2
  have HB2:=hide hb2
  have HKX:=hide kX
  have HM:=hide (And.intro hm1 hm2)
  have CF1:=hide (fun t=>CF.out ta tc t W2 ht2)
  obtain ⟨d1,t1,e1,hd1⟩:=fn_let2 l locaS
  obtain ⟨d2,t2,e2,hd2⟩:=fn_let2 l glyfS
  obtain ⟨d3,t3,e3,hd3⟩:=fn_let2 l cmapS
  have CA:=CF1.out locaS
  have CB:=CF1.out glyfS
  rw [e1] at CA
  rw [e2] at CB
  have HCA:=hide CA
  have HCB:=hide CB
  have HT2:=hide ht2
  clear CF1 CA CB e1 e2 bX kX hk2 hb2 ht2 hm1 hm2 h2 hl1 hl2 HK1 HB1 HT1 C2a hX
  have hx8:=HKX.out.cell 8
  have hx9:=HKX.out.cell 9
  simp at hx8 hx9
  have xlt:=HKX.out.lt
  go_wp2_with fail
  refine HCA.out.mono ?_
  rintro e w3 ⟨rfl,hw3⟩
  replace hw3:=hw3.symm
  subst hw3
  clear HCA
  go_wp2_with fail
  refine HCB.out.mono ?_
  rintro e w3 ⟨rfl,hw3⟩
  replace hw3:=hw3.symm
  subst hw3
  clear HCB
  rcases hd1 with ⟨rfl,f1⟩ | ⟨rfl,f1⟩
  case inr=>
   have HLE:=hide (show ldV s=.error 100 by rw [HLD2.out,show ouV l k lg=none by unfold ouV;rw [f1]])
   clear f1 hd2 hd3 e3 CF CK HLD2 hx8 hx9 xlt
   obtain ⟨r0,z0,r1,z1,r2,z2,r3,z3,r4,z4,r5,z5,r6,z6,r7,z7,r8,z8,r9,z9,r10,z10,r11,z11,r12,z12,rlt⟩:=blk13 HK2.out
   go_wp2_with fail
   exact rl_end HK2.out HB2.out rfl rfl rfl (fun Z hZ=>HERR.out _ Z (HLE.out) (by decide) hZ)
  rcases hd2 with ⟨rfl,f2⟩ | ⟨rfl,f2⟩
  case inr=>
   have HLE:=hide (show ldV s=.error 100 by rw [HLD2.out,show ouV l k lg=none by unfold ouV;rw [f1,f2]])
   clear f1 f2 hd3 e3 CF CK HLD2 hx8 hx9 xlt
   obtain ⟨r0,z0,r1,z1,r2,z2,r3,z3,r4,z4,r5,z5,r6,z6,r7,z7,r8,z8,r9,z9,r10,z10,r11,z11,r12,z12,rlt⟩:=blk13 HK2.out
   go_wp2_with fail
   exact rl_end HK2.out HB2.out rfl rfl rfl (fun Z hZ=>HERR.out _ Z (HLE.out) (by decide) hZ)
  have hou:ouV l k lg=if G10.splB d1.data.toList d2.size (k:Int) lg then some (G10.splV d1.data.toList d2 k lg) else none:=by unfold ouV;rw [f1,f2]
  have CSP:=hide (G10.rsplit_any d1 d2 (k:Int) lg W2 (HBD.out _ _ f1) (HBD.out _ _ f2) (by omega) (by omega))
  have HSZ:=hide (show ∀x∈G10.splV d1.data.toList d2 k lg,x.size≤1000000 from splV_size (HBD.out _ _ f2))
  have HSL:=hide (G10.splV_len d1.data.toList d2 k lg)
  unfold G10.RsR at CSP
  rw [Int.toNat_natCast] at CSP
  obtain ⟨gs,hgs⟩:∃gs,G10.splV d1.data.toList d2 k lg=gs:=⟨_,rfl⟩
  rw [hgs] at CSP hou HSZ HSL
  cases hsb:G10.splB d1.data.toList d2.size (k:Int) lg with
  | false=>
   rw [hsb] at hou CSP
   simp only [Bool.false_eq_true,↓reduceIte] at hou CSP
   have HLE:=hide (show ldV s=.error 100 by rw [HLD2.out,hou])
   clear hou hsb hgs f1 f2 hd3 e3 CF CK HLD2 HSZ HSL
   go_wp2_with fail
   refine CSP.out.mono ?_
   rintro e w3 ⟨rfl,h3⟩
   have HK3:=hide (HK2.out.below h3)
   have HB3:=hide (below_t5 HB2.out h3)
   clear h3 HK2 HB2 hx8 hx9 xlt CSP
   obtain ⟨r0,z0,r1,z1,r2,z2,r3,z3,r4,z4,r5,z5,r6,z6,r7,z7,r8,z8,r9,z9,r10,z10,r11,z11,r12,z12,rlt⟩:=blk13 HK3.out
   go_wp2_with fail
   exact rl_end HK3.out HB3.out rfl rfl rfl (fun Z hZ=>HERR.out _ Z (HLE.out) (by decide) hZ)
  | true=>
   rw [hsb] at hou CSP
   simp only [↓reduceIte] at hou CSP
   have hld3:=HLD2.out
   rw [hou] at hld3
   dsimp only at hld3
   have HLD3:=hide hld3
   clear hou hsb hgs f1 f2 HLD2 hld3
   go_wp2_with fail
   refine CSP.out.mono ?_
   rintro e w3 ⟨v,rfl,hSR,h3⟩
   obtain ⟨ga,gc,hv,hG⟩:=hSR.lst
   rw [HSL.out] at hv
   subst hv
   have HK3:=hide (HK2.out.below h3)
   have HB3:=hide (below_t5 HB2.out h3)
   have HKX3:=hide (HKX.out.below h3)
   have HM3:=hide (And.intro (HM.out.1.below h3) (HM.out.2.below h3))
   have HG3:=hide hG
   have CA:=CF.out ta tc cmapS w3 (HT2.out.below h3)
   rw [e3] at CA
   have HCA:=hide CA
   clear CA e3 h3 hSR hG HK2 HB2 HKX HM HT2 CSP hx8 hx9 xlt CF
   go_wp2_with fail
   refine HCA.out.mono ?_
   rintro e w4 ⟨rfl,hw4⟩
   replace hw4:=hw4.symm
   subst hw4
   clear HCA
   rcases hd3 with ⟨rfl,f3⟩ | ⟨rfl,f3⟩
   case inr=>
    have HLE:=hide (show ldV s=.error 110 by rw [HLD3.out,show chV l k=none by unfold chV;rw [f3]])
    clear f3 CK HLD3
    obtain ⟨r0,z0,r1,z1,r2,z2,r3,z3,r4,z4,r5,z5,r6,z6,r7,z7,r8,z8,r9,z9,r10,z10,r11,z11,r12,z12,rlt⟩:=blk13 HK3.out
    go_wp2_with fail
    exact rl_end HK3.out HB3.out rfl rfl rfl (fun Z hZ=>HERR.out _ Z (HLE.out) (by decide) hZ)
   have hch:chV l k=C11.redV d3.data.toList k:=by unfold chV;rw [f3]
   have CR:=hide (C11.rread_any d3 k w3 (Nat.le_trans (HBD.out _ _ f3) (by omega)) HKK.out.2.2.1 HKK.out.2.2.2)
   unfold C11.RrR at CR
   cases hred:C11.redV d3.data.toList k with
   | none=>
    rw [hred] at CR hch
    dsimp only at CR
    have HLE:=hide (show ldV s=.error 110 by rw [HLD3.out,hch])
    clear hch hred f3 CK HLD3
    go_wp2_with fail
    refine CR.out.mono ?_
    rintro e w4 ⟨rfl,h4⟩
    have HK4:=hide (HK3.out.below h4)
    have HB4:=hide (below_t5 HB3.out h4)
    clear h4 HK3 HB3 CR
    obtain ⟨r0,z0,r1,z1,r2,z2,r3,z3,r4,z4,r5,z5,r6,z6,r7,z7,r8,z8,r9,z9,r10,z10,r11,z11,r12,z12,rlt⟩:=blk13 HK4.out
    go_wp2_with fail
    exact rl_end HK4.out HB4.out rfl rfl rfl (fun Z hZ=>HERR.out _ Z (HLE.out) (by decide) hZ)
   | some cs=>
    have hcl:=(C11.redV_bd HKK.out.2.2.2 hred).1
    rw [hred] at CR hch
    dsimp only at CR
    have hld4:=HLD3.out
    rw [hch] at hld4
    dsimp only at hld4
    have HLD4:=hide hld4
    have HCL:=hide hcl
    clear hch hred f3 HLD3 hld4 hcl
    go_wp2_with fail
    refine CR.out.mono ?_
    rintro e w4 ⟨v,rfl,hCR,h4⟩
    obtain ⟨ca,cc,hv,hC,hCf⟩:=crow_fr hCR
    have HCF:=hide (show cs=[]∨∃b,ca=some ⟨b,0,none⟩∧b≠w.heap.size from hCf.imp id (fun ⟨b,h1,h2⟩=>⟨b,h1,by have:=HK3.out.lt;omega⟩))
    clear hCf
    obtain ⟨nc,hnc⟩:∃n,cs.length=n:=⟨_,rfl⟩
    rw [hnc] at hv
    subst hv
    have HNC:=hide hnc
    have hkx:=HKX3.out.below h4
    have x0:=hkx.cell 0
    have x1:=hkx.cell 1
    have x2:=hkx.cell 2
    have x3:=hkx.cell 3
    have x4:=hkx.cell 4
    have x5:=hkx.cell 5
    have x6:=hkx.cell 6
    have x7:=hkx.cell 7
    have x8:=hkx.cell 8
    have x9:=hkx.cell 9
    have x10:=hkx.cell 10
    simp at x0 x1 x2 x3 x4 x5 x6 x7 x8 x9 x10
    have xlt:=hkx.lt
    have HB4:=hide (below_t5 HB3.out h4)
    have bG:=(Below.refl w4.heap.size w4).alloc (Nat.le_refl _) (.cells #[.int .i64 up,.int .i64 sc,.int .i64 de,.int .i64 gap,.int .i64 b0,.int .i64 b1,.int .i64 b2,.int .i64 b3,.bool lg,.slice a1 k c1,.slice a2 k c2,.slice ga k gc,.slice ca nc cc] 30)
    have kG:=Blk.new w4 #[.int .i64 up,.int .i64 sc,.int .i64 de,.int .i64 gap,.int .i64 b0,.int .i64 b1,.int .i64 b2,.int .i64 b3,.bool lg,.slice a1 k c1,.slice a2 k c2,.slice ga k gc,.slice ca nc cc] 30
    have hk5:=(HK3.out.below h4).below bG
    have hb5:=below_t5 HB4.out bG
    have hm1:=(HM3.out.1.below h4).below bG
    have hm2:=(HM3.out.2.below h4).below bG
    have hg5:=(HG3.out.below h4).below bG
    have hc5:=hC.below bG
    clear h4 hCR hC hkx HKX3 HK3 HB3 HM3 HG3 CR
    go_upto_region 21 with (fail)
    obtain ⟨G,hGe⟩:∃G,w4.heap.size=G:=⟨_,rfl⟩
    generalize w4.alloc (.cells #[.int .i64 up,.int .i64 sc,.int .i64 de,.int .i64 gap,.int .i64 b0,.int .i64 b1,.int .i64 b2,.int .i64 b3,.bool lg,.slice a1 k c1,.slice a2 k c2,.slice ga k gc,.slice ca nc cc] 30)=V at bG kG hk5 hb5 hm1 hm2 hg5 hc5 ⊢
    rw [hGe] at kG ⊢
    have CK1:=hide (CK.out _ a1 a2 ga ca k nc c1 c2 gc cc gs cs V (HMI.out V a1 a2 hm1 hm2) HSL.out HKK.out.2.2.2 hnc (by have:=HCL.out;omega) HSZ.out hg5 hc5)
    simp only [fcs] at CK1
    obtain ⟨R,hR⟩:∃R,ckV ⟨up,sc,de,gap,b0,b1,b2,b3,lg,ad,be⟩ gs cs=R:=⟨_,rfl⟩
    rw [hR] at CK1
    have hld5:=HLD4.out
    rw [hR] at hld5
    have HLD5:=hide hld5
    have HKG:=hide kG
    have HK5:=hide hk5
    have HB5:=hide hb5
    have HL5:=hide (And.intro hm1 (And.intro hm2 (And.intro hg5 hc5)))
    clear x0 x1 x2 x3 x4 x5 x6 x7 x8 x9 x10 xlt
    have y0:=kG.cell 0
    have y1:=kG.cell 1
    have y2:=kG.cell 2
    have y3:=kG.cell 3
    have y4:=kG.cell 4
    have y5:=kG.cell 5
    have y6:=kG.cell 6
    have y7:=kG.cell 7
    have y8:=kG.cell 8
    have y9:=kG.cell 9
    have y10:=kG.cell 10
    have y11:=kG.cell 11
    have y12:=kG.cell 12
    simp at y0 y1 y2 y3 y4 y5 y6 y7 y8 y9 y10 y11 y12
    have ylt:=kG.lt
    clear bG kG hk5 hb5 hm1 hm2 hg5 hc5 hGe hnc hR hld5 HLD4 CK HB4 HMI
    go_wp2_with fail
    refine CK1.out.mono ?_
    rintro e w6 ⟨rfl,h6⟩
    have HK6:=hide (HK5.out.below h6)
    have HB6:=hide (below_t5 HB5.out h6)
    have HKG6:=hide (HKG.out.below h6)
    clear CK1 ylt y0 y1 y2 y3 y4 y5 y6 y7 y8 y9 y10 y11 y12 HK5 HB5 HKG
    by_cases hR0:R=0
    case neg=>
     have hR1:(R == 0)=false:=by simpa using hR0
     have HLE:=hide (show ldV s=.error R by rw [HLD5.out,if_neg hR0])
     have HNE:=hide hR0
     clear hR0 HLD5 h6
     obtain ⟨r0,z0,r1,z1,r2,z2,r3,z3,r4,z4,r5,z5,r6,z6,r7,z7,r8,z8,r9,z9,r10,z10,r11,z11,r12,z12,rlt⟩:=blk13 HK6.out
     go_wp2_with fail
     exact rl_end HK6.out HB6.out rfl rfl rfl (fun Z hZ=>HERR.out _ Z (HLE.out) (HNE.out) hZ)
    subst hR0
    have HLE:=hide (show ldV s=.ok (⟨up,sc,de,gap,b0,b1,b2,b3,lg,ad,be⟩,gs,cs) by rw [HLD5.out,if_pos rfl])
    have hl6:=HL5.out
    have HL6:=hide (And.intro (hl6.1.below h6) (And.intro (hl6.2.1.below h6) (And.intro (hl6.2.2.1.below h6) (hl6.2.2.2.below h6))))
    have kg:=HKG6.out
    have y0:=kg.cell 0
    have y1:=kg.cell 1
    have y2:=kg.cell 2
    have y3:=kg.cell 3
    have y4:=kg.cell 4
    have y5:=kg.cell 5
    have y6:=kg.cell 6
    have y7:=kg.cell 7
    have y8:=kg.cell 8
    have y9:=kg.cell 9
    have y10:=kg.cell 10
    have y11:=kg.cell 11
    have y12:=kg.cell 12
    simp at y0 y1 y2 y3 y4 y5 y6 y7 y8 y9 y10 y11 y12
    have ylt:=kg.lt
    have hk:=HK6.out
    clear kg HLD5 hl6 HL5 h6
    have r0:=hk.cell 0
    have r1:=hk.cell 1
    have r2:=hk.cell 2
    have r3:=hk.cell 3
    have r4:=hk.cell 4
    have r5:=hk.cell 5
    have r6:=hk.cell 6
    have r7:=hk.cell 7
    have r8:=hk.cell 8
    have r9:=hk.cell 9
    have r10:=hk.cell 10
    have r11:=hk.cell 11
    have r12:=hk.cell 12
    simp at r0 r1 r2 r3 r4 r5 r6 r7 r8 r9 r10 r11 r12
    have z0:=hk.frozen 0
    have z1:=hk.frozen 1
    have z2:=hk.frozen 2
    have z3:=hk.frozen 3
    have z4:=hk.frozen 4
    have z5:=hk.frozen 5
    have z6:=hk.frozen 6
    have z7:=hk.frozen 7
    have z8:=hk.frozen 8
    have z9:=hk.frozen 9
    have z10:=hk.frozen 10
    have z11:=hk.frozen 11
    have z12:=hk.frozen 12
    have rlt:=hk.lt
    have HST:=hide (store13 hk (.int .i64 up) (.int .i64 sc) (.int .i64 de) (.int .i64 gap) (.int .i64 b0) (.int .i64 b1) (.int .i64 b2) (.int .i64 b3) (.bool lg) (.slice a1 k c1) (.slice a2 k c2) (.slice ga k gc) (.slice ca nc cc))
    clear hk
    go_wp2_with fail
    have h:=HST.out
    clear HST r0 r1 r2 r3 r4 r5 r6 r7 r8 r9 r10 r11 r12 z0 z1 z2 z3 z4 z5 z6 z7 z8 z9 z10 z11 z12 rlt
    generalize (((((((((((((w6.setCell ⟨w.heap.size,0,none⟩ (.int .i64 up)).setCell ⟨w.heap.size,1,none⟩ (.int .i64 sc)).setCell ⟨w.heap.size,2,none⟩ (.int .i64 de)).setCell ⟨w.heap.size,3,none⟩ (.int .i64 gap)).setCell ⟨w.heap.size,4,none⟩ (.int .i64 b0)).setCell ⟨w.heap.size,5,none⟩ (.int .i64 b1)).setCell ⟨w.heap.size,6,none⟩ (.int .i64 b2)).setCell ⟨w.heap.size,7,none⟩ (.int .i64 b3)).setCell ⟨w.heap.size,8,none⟩ (.bool lg)).setCell ⟨w.heap.size,9,none⟩ (.slice a1 k c1)).setCell ⟨w.heap.size,10,none⟩ (.slice a2 k c2)).setCell ⟨w.heap.size,11,none⟩ (.slice ga k gc)).setCell ⟨w.heap.size,12,none⟩ (.slice ca nc cc))=Z at h ⊢
    clear ylt y0 y1 y2 y3 y4 y5 y6 y7 y8 y9 y10 y11 y12
    have hl6:=HL6.out
    have v1:=lst_butO hl6.1 h.2 HFR.out.1
    have v2:=lst_butO hl6.2.1 h.2 HFR.out.2
    have v3:=slst_but hl6.2.2.1 h.2 HK6.out (fun _ _=>nos)
    have v4:=clst_but hl6.2.2.2 h.2 HCF.out
    have v5:=h.2.below HB6.out (Nat.le_refl _)
    have q0:=h.1.cell 0
    have q1:=h.1.cell 1
    have q2:=h.1.cell 2
    have q3:=h.1.cell 3
    have q4:=h.1.cell 4
    have q5:=h.1.cell 5
    have q6:=h.1.cell 6
    have q7:=h.1.cell 7
    have q8:=h.1.cell 8
    have q9:=h.1.cell 9
    have q10:=h.1.cell 10
    have q11:=h.1.cell 11
    have q12:=h.1.cell 12
    simp at q0 q1 q2 q3 q4 q5 q6 q7 q8 q9 q10 q11 q12
    exact bodyPost_ret (v:=.tuple #[.agg #[.int .i64 up,.int .i64 sc,.int .i64 de,.int .i64 gap,.int .i64 b0,.int .i64 b1,.int .i64 b2,.int .i64 b3,.bool lg,.slice a1 k c1,.slice a2 k c2,.slice ga k gc,.slice ca nc cc],.int .i64 0]) (by simp [results,Tryz.results6,go_sem,q0,q1,q2,q3,q4,q5,q6,q7,q8,q9,q10,q11,q12]) rfl (HOK.out _ gs cs a1 c1 a2 c2 ga gc ca cc k nc Z HLE.out HKK.out.1 HKK.out.2.1 HKK.out.2.2.2 HSL.out HNC.out v5 v1 v2 v3 v4)
end Go.Proofs.YtpaadbnlhapdbaaGreatDoor.F12
