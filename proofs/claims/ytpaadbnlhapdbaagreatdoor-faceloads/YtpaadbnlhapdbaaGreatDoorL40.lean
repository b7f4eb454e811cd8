/-
  Joined: S8Rof, S8Eq4, S8Hld, S8Cmp.
-/
import Derived.ChangeKeysEq
import Derived.Lib.Bytealg
import Derived.Lib.BytesEntry
import Derived.Lib.LazyBuf
import Derived.Lib.SlBuf
import Derived.LoopN
import Derived.Test.YtpaadbnlhapdbaaGreatDoorL35
namespace Go.Proofs.YtpaadbnlhapdbaaGreatDoor.S8
open Go.RowKit Go.Deep
set_option linter.unusedVariables false
theorem run_copy_str8 (w:World) (ty:TypeId) (b o n cap:Nat) (t:ByteArray) (hle:n≤t.size)
  (hc:∀j,j < n→(w.cell? ⟨b,o+j,none⟩).isSome=true) (hf:∀j,j < n→w.frozen? ⟨b,o+j,none⟩=false) :
  (Builtin.copy_ #[97,9] ty #[.slice (some ⟨b,o,none⟩) n cap,.string t]).run Tryz.prog w=.ok (goInt n) (w.setCells b o ((t.data.toList.take n).map bcell)):=by
 have hmin:Nat.min t.size n=n:=Nat.min_eq_right hle
 have hl:((t.data.toList.take n).map bcell).length=n:=by rw [List.length_map,List.length_take,Nat.min_eq_left (by rw [←Lib.size_eq];exact hle)]
 have hst:=run_storeCells_cells (P:=Tryz.prog) b o ((t.data.toList.take n).map bcell) 0 w (by rw [hl];simpa using hc) (by rw [hl];simpa using hf) (by
  intro v hv
  obtain ⟨x,_,rfl⟩:=List.mem_map.1 hv
  rfl)
 simp [Builtin.copy_,run_underlying Tryz.underlying97,Builtin.lenOf,Builtin.firstCells,Tryz.sizeOf5,hmin]
 rw [←List.map_take]
 have hst':(storeCells ⟨b,o,none⟩ (List.map (fun b:UInt8=>Value.int IntKind.u8 (b.toNat:Int)) (List.take n t.data.toList))).run Tryz.prog w=.ok () (w.setCells b o ((t.data.toList.take n).map bcell)):=hst
 rw [hst',List.map_take]
 rfl
def rowV (l:List UInt8):Rw:=⟨l.getD 0 0,l.getD 1 0,l.getD 2 0,l.getD 3 0,(numV ((l.drop 4).take 4):Nat),(numV ((l.drop 8).take 4):Nat),(numV ((l.drop 12).take 4):Nat)⟩
theorem rowV_ok (l:List UInt8):RwOk (rowV l):=by
 have h:∀k,numV ((l.drop k).take 4)≤4294967295:=by
  intro k
  have h1:=numV_lt _ ((l.drop k).take 4) rfl
  have h2:256 ^ ((l.drop k).take 4).length≤256 ^ 4:=Nat.pow_le_pow_right (by omega) (by rw [List.length_take];omega)
  omega
 have h1:=h 4
 have h2:=h 8
 have h3:=h 12
 unfold RwOk rowV
 simp only
 omega
theorem four8 (l:List UInt8) (h:4≤l.length):(l.take 4).map bcell=[.int .u8 ((rowV l).b0.toNat:Int),.int .u8 ((rowV l).b1.toNat:Int),.int .u8 ((rowV l).b2.toNat:Int),.int .u8 ((rowV l).b3.toNat:Int)]:=by
 match l,h with
 | a :: b :: c :: d :: r,_=>rfl
theorem slice_list (s:ByteArray) (a b:Nat) (h:b≤s.size):(s.extract a b).data.toList=(s.data.toList.drop a).take (b - a):=by
 rw [ByteArray.data_extract,Array.toList_extract,List.extract_eq_take_drop]
theorem st7_blk {W:World} {b:Nat} {x0 x1 x2 x3 x4 x5 x6:Value} {t:TypeId} (h:Blk W b #[x0,x1,x2,x3,x4,x5,x6] t) (v0 v1 v2 v3 v4 v5 v6:Value):Blk (((((((W.setCell ⟨b,0,none⟩ v0).setCell ⟨b,1,none⟩ v1).setCell ⟨b,2,none⟩ v2).setCell ⟨b,3,none⟩ v3).setCell ⟨b,4,none⟩ v4).setCell ⟨b,5,none⟩ v5).setCell ⟨b,6,none⟩ v6) b #[v0,v1,v2,v3,v4,v5,v6] t:=by
 have h0:Blk (W.setCell ⟨b,0,none⟩ v0) b #[v0,x1,x2,x3,x4,x5,x6] t:=h.set 0 v0
 have h1:Blk ((W.setCell ⟨b,0,none⟩ v0).setCell ⟨b,1,none⟩ v1) b #[v0,v1,x2,x3,x4,x5,x6] t:=h0.set 1 v1
 have h2:Blk (((W.setCell ⟨b,0,none⟩ v0).setCell ⟨b,1,none⟩ v1).setCell ⟨b,2,none⟩ v2) b #[v0,v1,v2,x3,x4,x5,x6] t:=h1.set 2 v2
 have h3:Blk ((((W.setCell ⟨b,0,none⟩ v0).setCell ⟨b,1,none⟩ v1).setCell ⟨b,2,none⟩ v2).setCell ⟨b,3,none⟩ v3) b #[v0,v1,v2,v3,x4,x5,x6] t:=h2.set 3 v3
 have h4:Blk (((((W.setCell ⟨b,0,none⟩ v0).setCell ⟨b,1,none⟩ v1).setCell ⟨b,2,none⟩ v2).setCell ⟨b,3,none⟩ v3).setCell ⟨b,4,none⟩ v4) b #[v0,v1,v2,v3,v4,x5,x6] t:=h3.set 4 v4
 have h5:Blk ((((((W.setCell ⟨b,0,none⟩ v0).setCell ⟨b,1,none⟩ v1).setCell ⟨b,2,none⟩ v2).setCell ⟨b,3,none⟩ v3).setCell ⟨b,4,none⟩ v4).setCell ⟨b,5,none⟩ v5) b #[v0,v1,v2,v3,v4,v5,x6] t:=h4.set 5 v5
 have h6:Blk (((((((W.setCell ⟨b,0,none⟩ v0).setCell ⟨b,1,none⟩ v1).setCell ⟨b,2,none⟩ v2).setCell ⟨b,3,none⟩ v3).setCell ⟨b,4,none⟩ v4).setCell ⟨b,5,none⟩ v5).setCell ⟨b,6,none⟩ v6) b #[v0,v1,v2,v3,v4,v5,v6] t:=h5.set 6 v6
 exact h6
theorem st7_other {W:World} {b b':Nat} {cs:Array Value} {t:TypeId} (h:Blk W b' cs t) (hne:b'≠b) (v0 v1 v2 v3 v4 v5 v6:Value):Blk (((((((W.setCell ⟨b,0,none⟩ v0).setCell ⟨b,1,none⟩ v1).setCell ⟨b,2,none⟩ v2).setCell ⟨b,3,none⟩ v3).setCell ⟨b,4,none⟩ v4).setCell ⟨b,5,none⟩ v5).setCell ⟨b,6,none⟩ v6) b' cs t:=
 (((((((h.other hne 0 v0).other hne 1 v1).other hne 2 v2).other hne 3 v3).other hne 4 v4).other hne 5 v5).other hne 6 v6)
theorem st7_below {V W:World} {b B:Nat} (hb:Below B V W) (hB:B≤b) (v0 v1 v2 v3 v4 v5 v6:Value):Below B V (((((((W.setCell ⟨b,0,none⟩ v0).setCell ⟨b,1,none⟩ v1).setCell ⟨b,2,none⟩ v2).setCell ⟨b,3,none⟩ v3).setCell ⟨b,4,none⟩ v4).setCell ⟨b,5,none⟩ v5).setCell ⟨b,6,none⟩ v6):=
 (((((((hb.setCell (p:=⟨b,0,none⟩) hB v0).setCell (p:=⟨b,1,none⟩) hB v1).setCell (p:=⟨b,2,none⟩) hB v2).setCell (p:=⟨b,3,none⟩) hB v3).setCell (p:=⟨b,4,none⟩) hB v4).setCell (p:=⟨b,5,none⟩) hB v5).setCell (p:=⟨b,6,none⟩) hB v6)
set_option maxRecDepth 8000 in
set_option maxHeartbeats 2000000 in
theorem rowOf_any (s:ByteArray) (w:World) (h:16≤s.size) (hs:s.size≤1000000000000) :
  Calls Tryz.prog 145 #[.string s] w fun e w'=>e=.returned (.agg (rwC (rowV s.data.toList)))∧Below w.heap.size w w':=by
 have hs1:(16:Int)≤(s.size:Int):=by omega
 have hs2:(s.size:Int)≤1000000000000:=by omega
 have hs3:(4:Int)≤(s.size:Int):=by omega
 have hs4:(8:Int)≤(s.size:Int):=by omega
 have hs5:(12:Int)≤(s.size:Int):=by omega
 have hs6:4≤s.size:=by omega
 have hs7:8≤s.size:=by omega
 have hs8:12≤s.size:=by omega
 have C:=hide (fun (t:ByteArray) (w:World) (ht:t.size≤4)=>number_any t w ht)
 obtain ⟨r,hr⟩:∃r,rowV s.data.toList=r:=⟨_,rfl⟩
 have hlen:s.data.toList.length=s.size:=(Lib.size_eq s).symm
 have k0:=Blk.new w (rwC ⟨0,0,0,0,0,0,0⟩) 150
 have hb0:Below w.heap.size w ((w.alloc (.cells (rwC ⟨0,0,0,0,0,0,0⟩) 150)).alloc (.cells #[.int .u8 0,.int .u8 0,.int .u8 0,.int .u8 0] 148)):=((Below.refl _ _).alloc (Nat.le_refl _) _).alloc (by simp) _
 have k1:Blk ((w.alloc (.cells (rwC ⟨0,0,0,0,0,0,0⟩) 150)).alloc (.cells #[.int .u8 0,.int .u8 0,.int .u8 0,.int .u8 0] 148)) (w.heap.size+1) #[.int .u8 0,.int .u8 0,.int .u8 0,.int .u8 0] 148:=by
  have:=Blk.new (w.alloc (.cells (rwC ⟨0,0,0,0,0,0,0⟩) 150)) #[.int .u8 0,.int .u8 0,.int .u8 0,.int .u8 0] 148
  rwa [show (w.alloc (.cells (rwC ⟨0,0,0,0,0,0,0⟩) 150)).heap.size=w.heap.size+1 by simp] at this
 replace k0:=k0.below ((Below.refl _ _).alloc (Nat.le_refl _) (.cells #[.int .u8 0,.int .u8 0,.int .u8 0,.int .u8 0] 148))
 have hcp:=run_copy_str8 _ 3 (w.heap.size+1) 0 4 4 s (by omega) (fun j hj=>by rw [Nat.zero_add,k1.cell j];simp;omega) (fun j hj=>k1.frozen _)
 rw [four8 _ (by omega),hr] at hcp
 have k2:=(((k1.set 0 (.int .u8 (r.b0.toNat:Int))).set 1 (.int .u8 (r.b1.toNat:Int))).set 2 (.int .u8 (r.b2.toNat:Int))).set 3 (.int .u8 (r.b3.toNat:Int))
 have k3:=(((k0.other (b':=w.heap.size+1) (by omega) 0 (.int .u8 (r.b0.toNat:Int))).other (b':=w.heap.size+1) (by omega) 1 (.int .u8 (r.b1.toNat:Int))).other (b':=w.heap.size+1) (by omega) 2 (.int .u8 (r.b2.toNat:Int))).other (b':=w.heap.size+1) (by omega) 3 (.int .u8 (r.b3.toNat:Int))
 have hb2:=(((hb0.setCell (p:=⟨w.heap.size+1,0,none⟩) (by simp) (.int .u8 (r.b0.toNat:Int))).setCell (p:=⟨w.heap.size+1,1,none⟩) (by simp) (.int .u8 (r.b1.toNat:Int))).setCell (p:=⟨w.heap.size+1,2,none⟩) (by simp) (.int .u8 (r.b2.toNat:Int))).setCell (p:=⟨w.heap.size+1,3,none⟩) (by simp) (.int .u8 (r.b3.toNat:Int))
 obtain ⟨W2,hW2⟩:∃W2,((((((w.alloc (.cells (rwC ⟨0,0,0,0,0,0,0⟩) 150)).alloc (.cells #[.int .u8 0,.int .u8 0,.int .u8 0,.int .u8 0] 148)).setCell ⟨w.heap.size+1,0,none⟩ (.int .u8 (r.b0.toNat:Int))).setCell ⟨w.heap.size+1,1,none⟩ (.int .u8 (r.b1.toNat:Int))).setCell ⟨w.heap.size+1,2,none⟩ (.int .u8 (r.b2.toNat:Int))).setCell ⟨w.heap.size+1,3,none⟩ (.int .u8 (r.b3.toNat:Int)))=W2:=⟨_,rfl⟩
 replace hcp:=hcp.trans (congrArg (Result.ok (goInt 4)) hW2)
 replace hcp:(Builtin.copy_ #[97,9] 3 #[.slice (some ⟨w.heap.size+1,0,none⟩) 4 4,.string s]).run Tryz.prog ((w.alloc (.cells #[.int .u8 0,.int .u8 0,.int .u8 0,.int .u8 0,.int .i64 0,.int .i64 0,.int .i64 0] 150)).alloc (.cells #[.int .u8 0,.int .u8 0,.int .u8 0,.int .u8 0] 148))=.ok (.int .i64 4) W2:=hcp
 rw [hW2] at k2 k3 hb2
 have K2:Blk W2 (w.heap.size+1) (tagC r) 148:=k2
 clear k0 k1 k2 hb0 hW2
 have HK2:=hide K2
 have HK3:=hide k3
 have HB2:=hide hb2
 have q1:r.sum=((numV (List.take 4 (List.drop 4 s.data.toList)):Nat):Int):=by rw [←hr];rfl
 have q2:r.pl=((numV (List.take 4 (List.drop 8 s.data.toList)):Nat):Int):=by rw [←hr];rfl
 have q3:r.ln=((numV (List.take 4 (List.drop 12 s.data.toList)):Nat):Int):=by rw [←hr];rfl
 have HQ:=hide (And.intro q1 (And.intro q2 q3))
 have hok:=rowV_ok s.data.toList
 rw [hr] at hok ⊢
 clear K2 k3 hb2 hlen hr q1 q2 q3
 go_enter Tryz.func145,Tryz.ntmps145
 have KS:=hide (fun x (hx:Below W2.heap.size W2 x)=>(show x.cell? ⟨w.heap.size+1,0,none⟩=some (.int .u8 (r.b0.toNat:Int))∧x.cell? ⟨w.heap.size+1,1,none⟩=some (.int .u8 (r.b1.toNat:Int))∧x.cell? ⟨w.heap.size+1,2,none⟩=some (.int .u8 (r.b2.toNat:Int))∧x.cell? ⟨w.heap.size+1,3,none⟩=some (.int .u8 (r.b3.toNat:Int)) from ⟨(HK2.out.below hx).cell 0,(HK2.out.below hx).cell 1,(HK2.out.below hx).cell 2,(HK2.out.below hx).cell 3⟩))
 obtain ⟨⟨p1,p2⟩,⟨p3,p4⟩,⟨p5,p6⟩⟩:=hok
 obtain ⟨⟨z0,z1,z2,z3,z4,z5,z6⟩⟩:=And.intro HK3.out.seven8 trivial
 have f0:=HK3.out.frozen 0
 have f1:=HK3.out.frozen 1
 have f2:=HK3.out.frozen 2
 have f3:=HK3.out.frozen 3
 have f4:=HK3.out.frozen 4
 have f5:=HK3.out.frozen 5
 have f6:=HK3.out.frozen 6
 have HB:=hide (Below.refl W2.heap.size W2)
 go_wp2_with fail
 rename_i q0
 have HA:=hide q0
 clear q0
 obtain ⟨c0,c1,c2,c3⟩:=KS.out W2 (Below.refl _ _)
 refine wp_region_held_drew (S:=(fun x=>x.cell? ⟨w.heap.size+1,0,none⟩=some (.int .u8 (r.b0.toNat:Int))∧x.cell? ⟨w.heap.size+1,1,none⟩=some (.int .u8 (r.b1.toNat:Int))∧x.cell? ⟨w.heap.size+1,2,none⟩=some (.int .u8 (r.b2.toNat:Int))∧x.cell? ⟨w.heap.size+1,3,none⟩=some (.int .u8 (r.b3.toNat:Int)))) (by kernel_rfl) (KS.out _ ((Below.refl _ _).drew)) (fun hHeld=>?_)
 refine takeW (i:=0) (d:=7) (v:=.agg (tagC r)) rfl rfl (by kernel_rfl) (by kernel_rfl) (by kernel_rfl) (fun _ _ _ h=>h) (by rfl) ?_ (by assumption) ?_
 ·intro x hSx
  obtain ⟨q0,q1,q2,q3⟩:=hSx
  go_simp
 simp only [Act.put,List.setIfInBounds_toArray,List.set_cons_zero,List.set_cons_succ]
 refine takeW (i:=1) (d:=8) (v:=.string s) rfl rfl (by kernel_rfl) (by kernel_rfl) (by kernel_rfl) (fun _ _ _ h=>h) (by rfl) ?_ (by assumption) ?_
 ·intro x hSx
  obtain ⟨q0,q1,q2,q3⟩:=hSx
  go_simp
 simp only [Act.put,List.setIfInBounds_toArray,List.set_cons_zero,List.set_cons_succ]
 refine takeW (i:=2) (d:=9) (v:=.string (s.extract 4 8)) rfl rfl (by kernel_rfl) (by kernel_rfl) (by kernel_rfl) (fun _ _ _ h=>h) (by rfl) ?_ (by assumption) ?_
 ·intro x hSx
  obtain ⟨q0,q1,q2,q3⟩:=hSx
  go_simp
 simp only [Act.put,List.setIfInBounds_toArray,List.set_cons_zero,List.set_cons_succ]
 refine takeW (i:=4) (d:=11) (v:=.string s) rfl rfl (by kernel_rfl) (by kernel_rfl) (by kernel_rfl) (fun _ _ _ h=>h) (by rfl) ?_ (by assumption) ?_
 ·intro x hSx
  obtain ⟨q0,q1,q2,q3⟩:=hSx
  go_simp
 simp only [Act.put,List.setIfInBounds_toArray,List.set_cons_zero,List.set_cons_succ]
 refine takeW (i:=5) (d:=12) (v:=.string (s.extract 8 12)) rfl rfl (by kernel_rfl) (by kernel_rfl) (by kernel_rfl) (fun _ _ _ h=>h) (by rfl) ?_ (by assumption) ?_
 ·intro x hSx
  obtain ⟨q0,q1,q2,q3⟩:=hSx
  go_simp
 simp only [Act.put,List.setIfInBounds_toArray,List.set_cons_zero,List.set_cons_succ]
 refine takeW (i:=7) (d:=14) (v:=.string s) rfl rfl (by kernel_rfl) (by kernel_rfl) (by kernel_rfl) (fun _ _ _ h=>h) (by rfl) ?_ (by assumption) ?_
 ·intro x hSx
  obtain ⟨q0,q1,q2,q3⟩:=hSx
  go_simp
 simp only [Act.put,List.setIfInBounds_toArray,List.set_cons_zero,List.set_cons_succ]
 refine takeW (i:=8) (d:=15) (v:=.string (s.extract 12 16)) rfl rfl (by kernel_rfl) (by kernel_rfl) (by kernel_rfl) (fun _ _ _ h=>h) (by rfl) ?_ (by assumption) ?_
 ·intro x hSx
  obtain ⟨q0,q1,q2,q3⟩:=hSx
  go_simp
 simp only [Act.put,List.setIfInBounds_toArray,List.set_cons_zero,List.set_cons_succ]
 refine wpAnyH_ready (rs:=[3]) (by kernel_rfl) (by simp) ?_
 refine AllReadyH.cons rfl (fun K hK=>?_) AllReadyH.nil
 rw [if_pos (by rfl)]
 go_simp
 go_at_call 144
 refine (C.out _ _ (by rw [ByteArray.size_extract];omega)).mono ?_
 rintro e x ⟨rfl,hx⟩
 replace hx:=hx.symm
 subst hx
 refine hK.out _ _ hHeld (fun hHeld=>?_)
 clear hK K
 refine wpAnyH_ready (rs:=[6]) (by kernel_rfl) (by simp) ?_
 refine AllReadyH.cons rfl (fun K hK=>?_) AllReadyH.nil
 rw [if_pos (by rfl)]
 go_simp
 go_at_call 144
 refine (C.out _ _ (by rw [ByteArray.size_extract];omega)).mono ?_
 rintro e x ⟨rfl,hx⟩
 replace hx:=hx.symm
 subst hx
 refine hK.out _ _ hHeld (fun hHeld=>?_)
 clear hK K
 refine wpAnyH_ready (rs:=[9]) (by kernel_rfl) (by simp) ?_
 refine AllReadyH.cons rfl (fun K hK=>?_) AllReadyH.nil
 rw [if_pos (by rfl)]
 go_simp
 go_at_call 144
 refine (C.out _ _ (by rw [ByteArray.size_extract];omega)).mono ?_
 rintro e x ⟨rfl,hx⟩
 replace hx:=hx.symm
 subst hx
 refine hK.out _ _ hHeld (fun hHeld=>?_)
 clear hK K
 refine takeW (i:=10) (d:=17) (v:=.agg #[.int .u8 (r.b0.toNat:Int),.int .u8 (r.b1.toNat:Int),.int .u8 (r.b2.toNat:Int),.int .u8 (r.b3.toNat:Int),.int .i64 ((numV (List.take 4 (List.drop 4 s.data.toList)):Nat):Int),.int .i64 ((numV (List.take 4 (List.drop 8 s.data.toList)):Nat):Int),.int .i64 ((numV (List.take 4 (List.drop 12 s.data.toList)):Nat):Int)]) rfl rfl (by kernel_rfl) (by kernel_rfl) (by kernel_rfl) (fun _ _ _ h=>h) (by rfl) ?_ (by assumption) ?_
 ·intro x hSx
  obtain ⟨q0,q1,q2,q3⟩:=hSx
  go_simp
 simp only [Act.put,List.setIfInBounds_toArray,List.set_cons_zero,List.set_cons_succ]
 refine wpAnyH_ready (rs:=[11]) (by kernel_rfl) (by simp) ?_
 refine AllReadyH.cons rfl (fun K hK=>?_) AllReadyH.nil
 rw [if_pos (by rfl)]
 go_simp
 have KO:=st7_other HK2.out (b:=w.heap.size) (by omega) (.int .u8 (r.b0.toNat:Int)) (.int .u8 (r.b1.toNat:Int)) (.int .u8 (r.b2.toNat:Int)) (.int .u8 (r.b3.toNat:Int)) (.int .i64 ((numV (List.take 4 (List.drop 4 s.data.toList)):Nat):Int)) (.int .i64 ((numV (List.take 4 (List.drop 8 s.data.toList)):Nat):Int)) (.int .i64 ((numV (List.take 4 (List.drop 12 s.data.toList)):Nat):Int))
 have K7:=st7_blk HK3.out (.int .u8 (r.b0.toNat:Int)) (.int .u8 (r.b1.toNat:Int)) (.int .u8 (r.b2.toNat:Int)) (.int .u8 (r.b3.toNat:Int)) (.int .i64 ((numV (List.take 4 (List.drop 4 s.data.toList)):Nat):Int)) (.int .i64 ((numV (List.take 4 (List.drop 8 s.data.toList)):Nat):Int)) (.int .i64 ((numV (List.take 4 (List.drop 12 s.data.toList)):Nat):Int))
 have B7:=st7_below HB2.out (Nat.le_refl _) (.int .u8 (r.b0.toNat:Int)) (.int .u8 (r.b1.toNat:Int)) (.int .u8 (r.b2.toNat:Int)) (.int .u8 (r.b3.toNat:Int)) (.int .i64 ((numV (List.take 4 (List.drop 4 s.data.toList)):Nat):Int)) (.int .i64 ((numV (List.take 4 (List.drop 8 s.data.toList)):Nat):Int)) (.int .i64 ((numV (List.take 4 (List.drop 12 s.data.toList)):Nat):Int))
 generalize (((((((W2.setCell ⟨w.heap.size,0,none⟩ (.int .u8 (r.b0.toNat:Int))).setCell ⟨w.heap.size,1,none⟩ (.int .u8 (r.b1.toNat:Int))).setCell ⟨w.heap.size,2,none⟩ (.int .u8 (r.b2.toNat:Int))).setCell ⟨w.heap.size,3,none⟩ (.int .u8 (r.b3.toNat:Int))).setCell ⟨w.heap.size,4,none⟩ (.int .i64 ((numV (List.take 4 (List.drop 4 s.data.toList)):Nat):Int))).setCell ⟨w.heap.size,5,none⟩ (.int .i64 ((numV (List.take 4 (List.drop 8 s.data.toList)):Nat):Int))).setCell ⟨w.heap.size,6,none⟩ (.int .i64 ((numV (List.take 4 (List.drop 12 s.data.toList)):Nat):Int)))=W7 at KO K7 B7 ⊢
 have hS7:∀x:World,x.heap=W7.heap→x.cell? ⟨w.heap.size+1,0,none⟩=some (.int .u8 (r.b0.toNat:Int))∧x.cell? ⟨w.heap.size+1,1,none⟩=some (.int .u8 (r.b1.toNat:Int))∧x.cell? ⟨w.heap.size+1,2,none⟩=some (.int .u8 (r.b2.toNat:Int))∧x.cell? ⟨w.heap.size+1,3,none⟩=some (.int .u8 (r.b3.toNat:Int)):=fun x hx=>by
  have KX:Blk x (w.heap.size+1) (tagC r) 148:=by unfold Blk at *;rw [hx];exact KO
  exact ⟨KX.cell 0,KX.cell 1,KX.cell 2,KX.cell 3⟩
 refine hK.out _ _ (hS7 _ rfl) (fun hHeld=>?_)
 clear KO hS7
 clear hK K
 refine wpAnyH_done (by kernel_rfl) ?_ _
 all_goals
  refine HA.out _ _ ?_
  go_wp2
  obtain ⟨q1,q2,q3⟩:=HQ.out
  rw [←q1,←q2,←q3] at K7
  have K8:Blk W7 w.heap.size (rwC r) 150:=K7
  obtain ⟨s0,s1,s2,s3,s4,s5,s6⟩:=K8.seven8
  clear K7 K8 z0 z1 z2 z3 z4 z5 z6 f0 f1 f2 f3 f4 f5 f6 c0 c1 c2 c3 hcp q1 q2 q3
  exact bodyPost_ret (v:=.agg (rwC r)) (by simp [results,Tryz.results145,go_sem,s0,s1,s2,s3,s4,s5,s6]) rfl ⟨rfl,B7.drew⟩
end Go.Proofs.YtpaadbnlhapdbaaGreatDoor.S8
namespace Go.Proofs.YtpaadbnlhapdbaaGreatDoor.S8
open Go.RowKit Go.Deep
theorem eq1_d (d:Nat) (x y:Int) (w:World):(Op.equalIn (d+1) 5 (.int .u8 x) (.int .u8 y)).run Tryz.prog w=.ok (x == y) w:=by
 simp [Op.equalIn,run_underlying Tryz.underlying5,go_sem]
theorem info_ex8:∃i,Tryz.prog.info? 5=some i:=⟨_,(info_parts5 info_u8).choose_spec.1⟩
set_option linter.unusedSimpArgs false in
theorem eq4_d (d:Nat) (a0 a1 a2 a3 c0 c1 c2 c3:Int) (w:World):(Op.equalIn (d+1+1) 148 (.agg #[.int .u8 a0,.int .u8 a1,.int .u8 a2,.int .u8 a3]) (.agg #[.int .u8 c0,.int .u8 c1,.int .u8 c2,.int .u8 c3])).run Tryz.prog w=.ok (a0 == c0 && (a1 == c1 && (a2 == c2 && a3 == c3))) w:=by
 obtain ⟨i,hi⟩:=info_ex8
 have hc:Tryz.prog.cellsOf 5=1:=by kernel_rfl
 have hp0:∀(b0 b1 b2 b3:Int) (w:World),(part 5 #[.int .u8 b0,.int .u8 b1,.int .u8 b2,.int .u8 b3] 0).run Tryz.prog w=.ok (.int .u8 b0) w:=fun _ _ _ _ _=>by kernel_rfl
 have hp1:∀(b0 b1 b2 b3:Int) (w:World),(part 5 #[.int .u8 b0,.int .u8 b1,.int .u8 b2,.int .u8 b3] 1).run Tryz.prog w=.ok (.int .u8 b1) w:=fun _ _ _ _ _=>by kernel_rfl
 have hp2:∀(b0 b1 b2 b3:Int) (w:World),(part 5 #[.int .u8 b0,.int .u8 b1,.int .u8 b2,.int .u8 b3] 2).run Tryz.prog w=.ok (.int .u8 b2) w:=fun _ _ _ _ _=>by kernel_rfl
 have hp3:∀(b0 b1 b2 b3:Int) (w:World),(part 5 #[.int .u8 b0,.int .u8 b1,.int .u8 b2,.int .u8 b3] 3).run Tryz.prog w=.ok (.int .u8 b3) w:=fun _ _ _ _ _=>by kernel_rfl
 rw [run_equalIn_array (P:=Tryz.prog) (d:=d+1) (hu:=Tryz.underlying148) (hi:=hi),hc]
 cases h0:(a0 == c0) <;> cases h1:(a1 == c1) <;> cases h2:(a2 == c2) <;> cases h3:(a3 == c3) <;>
  simp [List.range,List.range.loop,Op.eqItems,hp0,hp1,hp2,hp3,eq1_d,h0,h1,h2,h3,-beq_iff_eq,-beq_eq_false_iff_ne]
theorem eq4 (a0 a1 a2 a3 c0 c1 c2 c3:Int) (w:World):(Op.equalIn 10000 148 (.agg #[.int .u8 a0,.int .u8 a1,.int .u8 a2,.int .u8 a3]) (.agg #[.int .u8 c0,.int .u8 c1,.int .u8 c2,.int .u8 c3])).run Tryz.prog w=.ok (a0 == c0 && (a1 == c1 && (a2 == c2 && a3 == c3))) w:=eq4_d 9998 a0 a1 a2 a3 c0 c1 c2 c3 w
end Go.Proofs.YtpaadbnlhapdbaaGreatDoor.S8
namespace Go.Proofs.YtpaadbnlhapdbaaGreatDoor.S8
open Go.RowKit Go.Deep
set_option linter.unusedVariables false
structure Glo8 (w:World):Prop where
 lt:1 < w.heap.size
 c0:w.cell? ⟨1,0,none⟩=some (.int .u8 104)
 c1:w.cell? ⟨1,1,none⟩=some (.int .u8 101)
 c2:w.cell? ⟨1,2,none⟩=some (.int .u8 97)
 c3:w.cell? ⟨1,3,none⟩=some (.int .u8 100)
theorem Glo8.below {w w':World} (h:Glo8 w) (hb:Below w.heap.size w w'):Glo8 w':=by
 have e:∀o,w'.cell? ⟨1,o,none⟩=w.cell? ⟨1,o,none⟩:=fun o=>hb.cell (p:=⟨1,o,none⟩) h.lt
 exact ⟨Nat.lt_of_lt_of_le h.lt hb.size,by rw [e];exact h.c0,by rw [e];exact h.c1,by rw [e];exact h.c2,by rw [e];exact h.c3⟩
def isHd (b0 b1 b2 b3:UInt8):Bool:=b0 == 104 && b1 == 101 && b2 == 97 && b3 == 100
theorem u8_ne (b:UInt8) (n:Nat) (hn:n < 256) (h:¬b=UInt8.ofNat n):((b.toNat:Int) == (n:Int))=false:=by
 rw [beq_eq_false_iff_ne]
 intro e
 apply h
 have : b.toNat=n:=by omega
 rw [←this]
 simp
abbrev tgC (b0 b1 b2 b3:UInt8):Array Value:=#[.int .u8 (b0.toNat:Int),.int .u8 (b1.toNat:Int),.int .u8 (b2.toNat:Int),.int .u8 (b3.toNat:Int)]
set_option maxRecDepth 8000 in
set_option maxHeartbeats 1000000 in
theorem holds_any (b0 b1 b2 b3:UInt8) (n:Int) (w:World) (hg:Glo8 w) (h0:0≤n) (h1:n≤140737488355328) :
  Calls Tryz.prog 111 #[.agg (tgC b0 b1 b2 b3),.int .i64 n] w fun e w'=>e=.returned (.bool (isHd b0 b1 b2 b3 && decide (12≤n)))∧Below w.heap.size w w':=by
 have hb:=(Below.refl w.heap.size w).alloc (Nat.le_refl _) (.cells (tgC b0 b1 b2 b3) 148)
 obtain ⟨g,g0,g1,g2,g3⟩:=hg
 have hne:w.heap.size≠1:=by omega
 have HB:=hide hb
 clear hb
 have hq:=eq4
 by_cases h0:b0=104
 case neg=>
  have e:isHd b0 b1 b2 b3=false:=by unfold isHd;simp [h0]
  have q:((b0.toNat:Int) == 104)=false:=u8_ne b0 104 (by decide) h0
  rw [e]
  clear e h0
  go_enter Tryz.func111,Tryz.ntmps111
  go_wp2_with fail
  go_ret
  exact ⟨by first | rfl | simp | (simp only [Bool.false_and];rfl),HB.out⟩
 by_cases h1:b1=101
 case neg=>
  have e:isHd b0 b1 b2 b3=false:=by unfold isHd;simp [h1]
  have q:((b1.toNat:Int) == 101)=false:=u8_ne b1 101 (by decide) h1
  rw [e]
  clear e h1
  subst h0
  go_enter Tryz.func111,Tryz.ntmps111
  go_wp2_with fail
  go_ret
  exact ⟨by first | rfl | simp | (simp only [Bool.false_and];rfl),HB.out⟩
 by_cases h2:b2=97
 case neg=>
  have e:isHd b0 b1 b2 b3=false:=by unfold isHd;simp [h2]
  have q:((b2.toNat:Int) == 97)=false:=u8_ne b2 97 (by decide) h2
  rw [e]
  clear e h2
  subst h0 h1
  go_enter Tryz.func111,Tryz.ntmps111
  go_wp2_with fail
  go_ret
  exact ⟨by first | rfl | simp | (simp only [Bool.false_and];rfl),HB.out⟩
 by_cases h3:b3=100
 case neg=>
  have e:isHd b0 b1 b2 b3=false:=by unfold isHd;simp [h3]
  have q:((b3.toNat:Int) == 100)=false:=u8_ne b3 100 (by decide) h3
  rw [e]
  clear e h3
  subst h0 h1 h2
  go_enter Tryz.func111,Tryz.ntmps111
  go_wp2_with fail
  go_ret
  exact ⟨by first | rfl | simp | (simp only [Bool.false_and];rfl),HB.out⟩
 subst h0 h1 h2 h3
 have e:isHd 104 101 97 100=true:=by decide
 rw [e]
 clear e
 by_cases h12:12≤n
 ·go_enter Tryz.func111,Tryz.ntmps111
  go_wp2_with fail
  go_ret
  exact ⟨by simp [h12],HB.out⟩
 ·go_enter Tryz.func111,Tryz.ntmps111
  go_wp2_with fail
  go_ret
  exact ⟨by simp [h12],HB.out⟩
theorem cmp_run (b o b' o':Nat) (c c':Nat) (l l':List UInt8) (w:World) (h:∀j x,l[j]?=some x→w.cell? ⟨b,o+j,none⟩=some (.int .u8 x.toNat)) (h':∀j x,l'[j]?=some x→w.cell? ⟨b',o'+j,none⟩=some (.int .u8 x.toNat)) :
  (Extern.BytealgCompare.compare #[.slice (some ⟨b,o,none⟩) l.length c,.slice (some ⟨b',o',none⟩) l'.length c']).run Tryz.prog w=.ok (.int .i64 (Extern.BytealgCompare.cmp ⟨l.toArray⟩ ⟨l'.toArray⟩)) w:=by
 have hx:∀l:List UInt8,(Lib.bytesOf (l.map fun x=>(x.toNat:Int)))=l:=by
  intro l
  unfold Lib.bytesOf
  rw [List.map_map]
  conv=>rhs;rw [←List.map_id l]
  apply List.map_congr_left
  intro x _
  simp
 have key:∀(l:List UInt8) (b o:Nat),(∀j x,l[j]?=some x→w.cell? ⟨b,o+j,none⟩=some (.int .u8 x.toNat))→(Extern.Bytes.loadBytes ⟨b,o,none⟩ l.length .empty).run Tryz.prog w=.ok ⟨l.toArray⟩ w:=by
  intro l b o h
  have e1:=Lib.run_loadBytesX (P:=Tryz.prog) w (l.map fun x=>(x.toNat:Int)) ⟨b,o,none⟩ .empty (fun j x hx=>by
   rw [Go.WideShapes.add_plain]
   rw [List.getElem?_map] at hx
   obtain ⟨y,hy,rfl⟩:=Option.map_eq_some_iff.1 hx
   exact h j y hy)
  rw [List.length_map,hx] at e1
  rw [e1]
  congr 1
  apply ByteArray.ext
  simp
 change Sem.run Tryz.prog (do pure (goInt (Extern.BytealgCompare.cmp (←Extern.Bytes.bytesOf (.slice (some ⟨b,o,none⟩) l.length c)) (←Extern.Bytes.bytesOf (.slice (some ⟨b',o',none⟩) l'.length c'))))) w=_
 simp only [Extern.Bytes.bytesOf,Sem.run_bind,Sem.run_pure,key l b o h,key l' b' o' h',Result.andThen]
 rfl
set_option maxRecDepth 100000 in
set_option maxHeartbeats 1000000 in
theorem compare_any (b o b' o':Nat) (c c':Nat) (l l':List UInt8) (w:World) (h:∀j x,l[j]?=some x→w.cell? ⟨b,o+j,none⟩=some (.int .u8 x.toNat)) (h':∀j x,l'[j]?=some x→w.cell? ⟨b',o'+j,none⟩=some (.int .u8 x.toNat)) :
  Calls Tryz.prog 142 #[.slice (some ⟨b,o,none⟩) l.length c,.slice (some ⟨b',o',none⟩) l'.length c'] w fun e w'=>e=.returned (.int .i64 (Extern.BytealgCompare.cmp ⟨l.toArray⟩ ⟨l'.toArray⟩))∧w'=w:=by
 have hr:=cmp_run b o b' o' c c' l l' w h h'
 have HR:=hide hr
 clear hr h h'
 go_enter Tryz.func142,Tryz.ntmps142
 go_wp2_with fail
 rw [run_callFunc_extern Tryz.func174 (by kernel_rfl) (by kernel_rfl) (by kernel_rfl) (e:=Extern.BytealgCompare.compare) (by kernel_rfl),HR.out]
 simp only [Result.andThen]
 rw [Oper.upon_value]
 go_wp2
 go_ret
 exact ⟨rfl,rfl⟩
end Go.Proofs.YtpaadbnlhapdbaaGreatDoor.S8
