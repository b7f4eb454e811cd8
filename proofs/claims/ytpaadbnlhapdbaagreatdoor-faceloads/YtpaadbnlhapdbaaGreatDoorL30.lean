/-
  Joined: M9Bld, M9Bq.
-/
import Derived.WalkKit
import Derived.Test.YtpaadbnlhapdbaaGreatDoorL24
import Derived.Test.YtpaadbnlhapdbaaGreatDoorL29
namespace Go.Proofs.YtpaadbnlhapdbaaGreatDoor
open Go.RowKit Go.Deep
set_option linter.unusedVariables false
theorem zers_len (n:Nat):(zers n).length=n:=by simp [zers]
theorem mxT_len (n:Nat):(mxT n).length=32:=by
 unfold mxT;rw [putL_len,putL_len,cpy_len (by rw [zers_len];decide),zers_len]
theorem hhT_len (m:Mt) (n:Nat):(hhT m n).length=36:=by
 unfold hhT;rw [putL_len,putL_len,putL_len,putL_len,putL_len,cpy_len (by rw [zers_len];decide),zers_len]
theorem hdT_len (m:Mt):(hdT m).length=54:=by
 have h1:(cpy (zers 54) 0 verS.data.toList).length=54:=by rw [cpy_len (by rw [zers_len];decide),zers_len]
 have h2:(cpy (cpy (zers 54) 0 verS.data.toList) 4 verS.data.toList).length=54:=by rw [cpy_len (by rw [h1];decide),h1]
 have h3:(cpy (cpy (cpy (zers 54) 0 verS.data.toList) 4 verS.data.toList) 12 magicS.data.toList).length=54:=by rw [cpy_len (by rw [h2];decide),h2]
 unfold hdT
 split
 ·rw [putL_len,putL_len,putL_len,putL_len,h3]
 ·rw [putL_len,putL_len,putL_len,h3]
theorem hmT_len (ad be:List Int) (n:Nat):(hmT ad be n).length=4 * n:=by
 unfold hmT;rw [putL_len,zers_len]
theorem good_in {m:Mt} (h:goodB m=true):(16≤m.up∧m.up≤16384)∧(∀x∈[m.sc,m.de,m.ga],-32768≤x∧x≤32767)∧(∀x∈[m.b0,m.b1,m.b2,m.b3],-32768≤x∧x≤32767)∧(1≤m.ad.length∧m.ad.length≤4096)∧m.be.length=m.ad.length∧(∀x∈m.ad,0≤x∧x≤65535)∧(∀x∈m.be,-32768≤x∧x≤32767):=by
 have al:∀(lo hi:Int) (zs:List Int),wiB lo hi zs=true→∀x∈zs,lo≤x∧x≤hi:=fun lo hi zs h x hx=>by
  unfold wiB at h
  rw [List.all_eq_true] at h
  simpa using h x hx
 unfold goodB at h
 simp only [Bool.and_eq_true] at h
 obtain ⟨h1,h2,h3,h4,h5,h6,h7⟩:=h
 refine ⟨al _ _ _ h1 _ (by simp),al _ _ _ h2,al _ _ _ h3,?_,by simp at h5;omega,al _ _ _ h6,al _ _ _ h7⟩
 have:=al _ _ _ h4 (m.ad.length:Int) (by simp)
 omega
theorem maxV_in:∀(r:List Int) (x lo hi:Int),(∀y∈x :: r,lo≤y∧y≤hi)→lo≤r.foldl max x∧r.foldl max x≤hi
 | [],x,lo,hi,h=>h x (by simp)
 | y :: r,x,lo,hi,h=>by
  rw [List.foldl_cons]
  refine maxV_in r (max x y) lo hi fun z hz=>?_
  rcases List.mem_cons.1 hz with rfl | hz
  ·have h1:=h x (by simp)
   have h2:=h y (by simp)
   omega
  ·exact h z (by simp [hz])
theorem max_in {l:List Int} {lo hi:Int} (h:∀y∈l,lo≤y∧y≤hi) (hn:1≤l.length):lo≤maxV l∧maxV l≤hi:=by
 cases l with
 | nil=>simp at hn
 | cons x r=>exact maxV_in r x lo hi h
def tabs (m:Mt):List Tab:=[(headS,⟨(hdT m).toArray⟩),(hheaS,⟨(hhT m m.ad.length).toArray⟩),(hmtxS,⟨(hmT m.ad m.be m.ad.length).toArray⟩),(maxpS,⟨(mxT m.ad.length).toArray⟩)]
def tabC (m:Mt) (n:Nat):Array Value:=#[.string headS,.string ⟨(hdT m).toArray⟩,.string hheaS,.string ⟨(hhT m n).toArray⟩,.string hmtxS,.string ⟨(hmT m.ad m.be n).toArray⟩,.string maxpS,.string ⟨(mxT n).toArray⟩]
set_option maxRecDepth 8000 in
set_option maxHeartbeats 8000000 in
theorem bld_any (m:Mt) (aa ab:Option Addr) (n ca cb:Nat) (w:World) (hna:m.ad.length=n) (hnb:m.be.length=n) (hA:Lst w aa m.ad) (hB:Lst w ab m.be) (hg:goodB m=true) :
  Calls Tryz.prog 29 #[.agg (mcs m (.slice aa n ca) (.slice ab n cb))] w fun e w'=>∃g,e=.returned (.tuple #[.slice (some ⟨g,0,none⟩) 4 4,.int .i64 0])∧Blk w' g (tabC m n) 79∧w.heap.size≤g∧Below w.heap.size w w':=by
 obtain ⟨g1,g2,g3,g4,g5,g6,g7⟩:=good_in hg
 have hn1:n≤4096:=by omega
 have bw:=(Below.refl w.heap.size w).alloc (Nat.le_refl _) (.cells (mcs m (.slice aa n ca) (.slice ab n cb)) 26)
 have CG:=good_any m aa ab n n ca cb _ hna hnb (by omega) (by omega) (hA.below bw) (hB.below bw)
 rw [hg] at CG
 have CG2:=hide CG
 have s1:=g2 m.sc (by simp)
 have s2:=g2 m.de (by simp)
 have s3:=g2 m.ga (by simp)
 have s4:=max_in g6 (by omega)
 have C31:Hid (∀u:World,Calls Tryz.prog 59 #[.agg (mcs m (.slice aa n ca) (.slice ab n cb))] u fun e w'=>∃g,e=.returned (.slice (some ⟨g,0,none⟩) 54 54)∧Blk w' g (bcs (hdT m)) 5∧u.heap.size≤g∧Below u.heap.size u w'):=hide fun u=>by
  cases hlg:m.lg
  ·exact hed_f m aa n ca _ u (by omega) hlg (by omega) (fun x hx=>by have:=g3 x hx;omega)
  ·exact hed_t m aa n ca _ u (by omega) hlg (by omega) (fun x hx=>by have:=g3 x hx;omega)
 have C33:=hide (fun (u:World) (hu:Below w.heap.size w u)=>hhe_any m aa n ca (.slice ab n cb) u (by omega) hna (by omega) (hA.below hu) (by omega))
 have C34:=hide (fun (u:World) (hu:Below w.heap.size w u)=>hmx_any m aa ab n ca cb u (by omega) hna hnb (hA.below hu) (hB.below hu) (fun x hx=>by have:=g6 x hx;omega) (fun x hx=>by have:=g7 x hx;omega))
 have C35:=hide (fun (u:World)=>mxp_any m aa n ca (.slice ab n cb) u (by omega))
 have HB1:=hide bw
 have k1:=Blk.new w (mcs m (.slice aa n ca) (.slice ab n cb)) 26
 have T1:=hide (hdT_len m)
 have T2:=hide (hhT_len m n)
 have T3:=hide (hmT_len m.ad m.be n)
 have T4:=hide (mxT_len n)
 have HTC:=hide (show tabC m n=#[.string headS,.string ⟨(hdT m).toArray⟩,.string hheaS,.string ⟨(hhT m n).toArray⟩,.string hmtxS,.string ⟨(hmT m.ad m.be n).toArray⟩,.string maxpS,.string ⟨(mxT n).toArray⟩] from rfl)
 generalize hdT m=D1 at C31 T1 HTC
 generalize hhT m n=D2 at C33 T2 HTC
 generalize hmT m.ad m.be n=D3 at C34 T3 HTC
 generalize mxT n=D4 at C35 T4 HTC
 generalize tabC m n=TC at HTC ⊢
 clear CG g1 g2 g3 g4 g5 g6 g7 s1 s2 s3 s4 hg hna hnb hA hB bw hn1
 obtain ⟨up,sc,de,ga,b0,b1,b2,b3,lg,ad,be⟩:=m
 have HK:=hide k1
 clear k1
 simp only [mcs] at CG2 C31 C33 C34 C35 HB1 HK ⊢
 go_enter Tryz.func29,Tryz.ntmps29
 go_wp2_with fail
 refine CG2.out.mono ?_
 rintro e V ⟨rfl,h1⟩
 have HBV:=hide (below_t5 HB1.out h1)
 have k2:=HK.out.below h1
 have xlt:=k2.lt
 obtain ⟨x,hx⟩:∃x,w.heap.size=x:=⟨_,rfl⟩
 rw [hx] at k2 xlt ⊢
 have KS:=hide (fun (u:World) (hu:Below V.heap.size V u)=>k2.below hu)
 clear HK HB1 CG2 h1 hx k2
 go_wp2_with fail
 have KSS:=hide (show ∀u,Below V.heap.size V u→(fun u:World=>u.cell? ⟨x,0,none⟩=some (.int .i64 up)∧u.cell? ⟨x,1,none⟩=some (.int .i64 sc)∧u.cell? ⟨x,2,none⟩=some (.int .i64 de)∧u.cell? ⟨x,3,none⟩=some (.int .i64 ga)∧u.cell? ⟨x,4,none⟩=some (.int .i64 b0)∧u.cell? ⟨x,5,none⟩=some (.int .i64 b1)∧u.cell? ⟨x,6,none⟩=some (.int .i64 b2)∧u.cell? ⟨x,7,none⟩=some (.int .i64 b3)∧u.cell? ⟨x,8,none⟩=some (.bool lg)∧u.cell? ⟨x,9,none⟩=some (.slice aa n ca)∧u.cell? ⟨x,10,none⟩=some (.slice ab n cb)) u from fun u hu=>by
  have k:=KS.out u hu
  exact ⟨k.cell 0,k.cell 1,k.cell 2,k.cell 3,k.cell 4,k.cell 5,k.cell 6,k.cell 7,k.cell 8,k.cell 9,k.cell 10⟩)
 have HV:=hide (Below.refl V.heap.size V)
 go_region_held3 (fun u=>u.cell? ⟨x,0,none⟩=some (.int .i64 up)∧u.cell? ⟨x,1,none⟩=some (.int .i64 sc)∧u.cell? ⟨x,2,none⟩=some (.int .i64 de)∧u.cell? ⟨x,3,none⟩=some (.int .i64 ga)∧u.cell? ⟨x,4,none⟩=some (.int .i64 b0)∧u.cell? ⟨x,5,none⟩=some (.int .i64 b1)∧u.cell? ⟨x,6,none⟩=some (.int .i64 b2)∧u.cell? ⟨x,7,none⟩=some (.int .i64 b3)∧u.cell? ⟨x,8,none⟩=some (.bool lg)∧u.cell? ⟨x,9,none⟩=some (.slice aa n ca)∧u.cell? ⟨x,10,none⟩=some (.slice ab n cb)) (first | exact KSS.out _ (below_d HV.out (Below.refl _ _) rfl rfl rfl rfl) | exact KSS.out _ (HV.out.alloc HV.out.size _)) ((first | (go_at_call 59;refine (C31.out _).mono ?_;rintro e w1 ⟨p1,rfl,hD1,hp1,hb⟩;replace HV:=hide (below_d HV.out hb rfl rfl rfl rfl);clear hb hp1) | (go_at_call 61;refine (C33.out _ ?_).mono ?_;exact below_d HBV.out HV.out rfl rfl rfl rfl;rintro e w1 ⟨p2,rfl,hD2,hp2,hb⟩;replace HV:=hide (below_d HV.out hb rfl rfl rfl rfl);clear hb hp2) | (go_at_call 62;refine (C34.out _ ?_).mono ?_;exact below_d HBV.out HV.out rfl rfl rfl rfl;rintro e w1 ⟨p3,rfl,hD3,hp3,hb⟩;replace HV:=hide (below_d HV.out hb rfl rfl rfl rfl);clear hb hp3) | (go_at_call 63;refine (C35.out _).mono ?_;rintro e w1 ⟨p4,rfl,hD4,hp4,hb⟩;replace HV:=hide (below_d HV.out hb rfl rfl rfl rfl);clear hb hp4) | (go_at_call 60;refine (named_any _ _ _ _ _ T4.out (by decide) hD4).mono ?_;rintro e w1 ⟨rfl,hb⟩;replace HV:=hide (below_d HV.out hb rfl rfl rfl rfl);clear hb hD4) | (go_at_call 60;refine (named_any _ _ _ _ _ T3.out (by decide) hD3).mono ?_;rintro e w1 ⟨rfl,hb⟩;replace HV:=hide (below_d HV.out hb rfl rfl rfl rfl);clear hb hD3) | (go_at_call 60;refine (named_any _ _ _ _ _ T2.out (by decide) hD2).mono ?_;rintro e w1 ⟨rfl,hb⟩;replace HV:=hide (below_d HV.out hb rfl rfl rfl rfl);clear hb hD2) | (go_at_call 60;refine (named_any _ _ _ _ _ T1.out (by decide) hD1).mono ?_;rintro e w1 ⟨rfl,hb⟩;replace HV:=hide (below_d HV.out hb rfl rfl rfl rfl);clear hb hD1)))
 all_goals
  have hal:=HV.out.alloc HV.out.size (.cells TC 79)
  have kt:=Blk.new w1 TC 79
  rw [HTC.out] at hal kt
  have HAL:=hide (below_t5 HBV.out hal)
  have HKT:=hide kt
  have HSZ:Hid (w.heap.size≤w1.heap.size):=hide (Nat.le_trans HBV.out.size HV.out.size)
  clear hal kt
  go_wp2_with fail
  go_ret2
  exact ⟨w1.heap.size,rfl,by rw [HTC.out];exact HKT.out,HSZ.out,HAL.out⟩
end Go.Proofs.YtpaadbnlhapdbaaGreatDoor
namespace Go.Proofs.YtpaadbnlhapdbaaGreatDoor
set_option linter.unusedVariables false
theorem ty (a b:ByteArray) (h:a=b):eqS a b=true:=(eqS_iff a b).2 h
end Go.Proofs.YtpaadbnlhapdbaaGreatDoor
