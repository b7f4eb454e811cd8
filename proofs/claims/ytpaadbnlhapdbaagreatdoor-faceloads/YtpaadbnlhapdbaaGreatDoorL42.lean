/-
  Joined: S8Gt, S8Gd, S8Ta.
-/
import Derived.Deep.LoopGhost
import Derived.Laws.CopyRow
import Derived.Test.YtpaadbnlhapdbaaGreatDoorL10
import Derived.Test.YtpaadbnlhapdbaaGreatDoorL41
namespace Go.Proofs.YtpaadbnlhapdbaaGreatDoor.S8
open Go.RowKit Go.Deep
set_option linter.unusedVariables false
abbrev rC (b0 b1 b2 b3:UInt8) (sum pl ln:Int):Array Value:=#[.int .u8 (b0.toNat:Int),.int .u8 (b1.toNat:Int),.int .u8 (b2.toNat:Int),.int .u8 (b3.toNat:Int),.int .i64 sum,.int .i64 pl,.int .i64 ln]
theorem gd_no {c:UInt8} (h:(c.toNat:Int) < 32∨(126:Int) < (c.toNat:Int)):gdB c=false:=by
 unfold gdB
 rcases h with h | h
 ·rw [show decide (32≤c.toNat)=false by rw [decide_eq_false_iff_not];omega];rfl
 ·rw [show decide (c.toNat≤126)=false by rw [decide_eq_false_iff_not];omega];simp
theorem gd_yes {c:UInt8} (h:¬(c.toNat:Int) < 32) (h':¬(126:Int) < (c.toNat:Int)):gdB c=true:=by
 unfold gdB
 rw [Bool.and_eq_true,decide_eq_true_eq,decide_eq_true_eq]
 omega
set_option maxRecDepth 8000 in
set_option maxHeartbeats 4000000 in
theorem tagsRise_any (rs:List Rw) (b n c:Nat) (w:World) (hn:rs.length=n) (hm:n≤1000000) (h:RLst w b rs) :
  Calls Tryz.prog 106 #[.slice (some ⟨b,0,none⟩) n c] w fun e w'=>e=.returned (.bool (riseB [0,0,0,0] rs))∧Below w.heap.size w w':=by
 have i0:=tx_0
 have i1:=tx_1
 have i2:=tx_2
 have i3:=tx_3
 obtain ⟨R,hR⟩:∃R,riseB [0,0,0,0] rs=R:=⟨_,rfl⟩
 rw [hR]
 have hm':(n:Int)≤1000000:=by omega
 have HL:=hide h
 have HN:=hide hn
 have HR:=hide hR
 have hb:=h.1
 clear h hn hR hm
 go_enter Tryz.func106,Tryz.ntmps106
 go_wp2_with fail
 go_step3
 go_wp2_with fail
 go_step3
 go_wp2_with fail
 go_loopg [3,11] n (fun g vr vi wr=>∃(k:Nat) (a0 a1 a2 a3:UInt8),vi=.int .i64 k∧vr=.bool true∧Hid (g+k=n∧riseB [a0,a1,a2,a3] (rs.drop k)=R∧Below w.heap.size w wr∧Blk wr w.heap.size (tgC a0 a1 a2 a3) 148))
 case atStart=>exact ⟨0,0,0,0,0,rfl,rfl,hide ⟨by omega,by rw [List.drop_zero];exact HR.out,(Below.refl _ _).alloc (Nat.le_refl _) _,Blk.new _ _ _⟩⟩
 case round=>
  obtain ⟨k,a0,a1,a2,a3,rfl,rfl,HV⟩:=hrel
  obtain ⟨hg,hr,hbw,hK⟩:=HV.out
  have hk0:(0:Int)≤(k:Int):=by omega
  clear HV
  have HBW:=hide hbw
  have HK:=hide hK
  have HG:=hide hg
  by_cases hlt:k < n
  case neg=>
   have hlt':¬(k:Int) < (n:Int):=by omega
   have e:R=true:=by rw [←hr,List.drop_eq_nil_of_le (by have:=HN.out;omega)];rfl
   subst e
   clear hr hbw hK hg HK
   go_wp2_with fail
   go_ret
   exact ⟨rfl,HBW.out⟩
  have hlt':(k:Int) < (n:Int):=by omega
  obtain ⟨r,hx⟩:∃r,rs[k]?=some r:=⟨_,List.getElem?_eq_getElem (by have:=HN.out;omega)⟩
  obtain ⟨g0,g1,g2,g3,g4,g5,g6⟩:=(HL.out.kept hbw hb).2 k r hx
  rw [drop_at rs k hx,riseB] at hr
  have hbr:b < wr.heap.size:=Nat.lt_of_lt_of_le hb hbw.size
  have hne1:b≠wr.heap.size:=by omega
  have hwr:w.heap.size < wr.heap.size:=hK.lt
  have hne2:w.heap.size≠wr.heap.size:=by omega
  obtain ⟨b0,b1,b2,b3,sum,pl,ln⟩:=r
  simp only [goodT,tgT] at g0 g1 g2 g3 g4 g5 g6 hr
  have u0:(b0.toNat:Int)≤255:=by have:=b0.toNat_lt;omega
  have u1:(b1.toNat:Int)≤255:=by have:=b1.toNat_lt;omega
  have u2:(b2.toNat:Int)≤255:=by have:=b2.toNat_lt;omega
  have u3:(b3.toNat:Int)≤255:=by have:=b3.toNat_lt;omega
  have HX:=hide hr
  have HBV:=hide (show Below w.heap.size w (wr.alloc (.cells (rC b0 b1 b2 b3 sum pl ln) 150)) from hbw.alloc hbw.size _)
  clear hr hbw hK hx hg
  by_cases h0:(b0.toNat:Int) < 32
  case pos=>
   have e:R=false:=by
    rw [←HX.out,gd_no (Or.inl h0)]
    simp
   subst e
   clear HX HK
   go_wp2_with fail
   refine wp_loop_rounds 5 ?_
   rw [rounds_succ];go_wp2_with fail
   rw [Exit.noGoto_ret]
   go_ret
   exact ⟨rfl,HBV.out⟩
  by_cases l0:(126:Int) < (b0.toNat:Int)
  case pos=>
   have e:R=false:=by
    rw [←HX.out,gd_no (Or.inr l0)]
    simp
   subst e
   clear HX HK
   go_wp2_with fail
   refine wp_loop_rounds 5 ?_
   rw [rounds_succ];go_wp2_with fail
   rw [Exit.noGoto_ret]
   go_ret
   exact ⟨rfl,HBV.out⟩
  by_cases h1:(b1.toNat:Int) < 32
  case pos=>
   have e:R=false:=by
    rw [←HX.out,gd_no (Or.inl h1)]
    simp
   subst e
   clear HX HK
   go_wp2_with fail
   refine wp_loop_rounds 5 ?_
   rw [rounds_succ];go_wp2_with fail
   rw [rounds_succ];go_wp2_with fail
   rw [Exit.noGoto_ret]
   go_ret
   exact ⟨rfl,HBV.out⟩
  by_cases l1:(126:Int) < (b1.toNat:Int)
  case pos=>
   have e:R=false:=by
    rw [←HX.out,gd_no (Or.inr l1)]
    simp
   subst e
   clear HX HK
   go_wp2_with fail
   refine wp_loop_rounds 5 ?_
   rw [rounds_succ];go_wp2_with fail
   rw [rounds_succ];go_wp2_with fail
   rw [Exit.noGoto_ret]
   go_ret
   exact ⟨rfl,HBV.out⟩
  by_cases h2:(b2.toNat:Int) < 32
  case pos=>
   have e:R=false:=by
    rw [←HX.out,gd_no (Or.inl h2)]
    simp
   subst e
   clear HX HK
   go_wp2_with fail
   refine wp_loop_rounds 5 ?_
   rw [rounds_succ];go_wp2_with fail
   rw [rounds_succ];go_wp2_with fail
   rw [rounds_succ];go_wp2_with fail
   rw [Exit.noGoto_ret]
   go_ret
   exact ⟨rfl,HBV.out⟩
  by_cases l2:(126:Int) < (b2.toNat:Int)
  case pos=>
   have e:R=false:=by
    rw [←HX.out,gd_no (Or.inr l2)]
    simp
   subst e
   clear HX HK
   go_wp2_with fail
   refine wp_loop_rounds 5 ?_
   rw [rounds_succ];go_wp2_with fail
   rw [rounds_succ];go_wp2_with fail
   rw [rounds_succ];go_wp2_with fail
   rw [Exit.noGoto_ret]
   go_ret
   exact ⟨rfl,HBV.out⟩
  by_cases h3:(b3.toNat:Int) < 32
  case pos=>
   have e:R=false:=by
    rw [←HX.out,gd_no (Or.inl h3)]
    simp
   subst e
   clear HX HK
   go_wp2_with fail
   refine wp_loop_rounds 5 ?_
   rw [rounds_succ];go_wp2_with fail
   rw [rounds_succ];go_wp2_with fail
   rw [rounds_succ];go_wp2_with fail
   rw [rounds_succ];go_wp2_with fail
   rw [Exit.noGoto_ret]
   go_ret
   exact ⟨rfl,HBV.out⟩
  by_cases l3:(126:Int) < (b3.toNat:Int)
  case pos=>
   have e:R=false:=by
    rw [←HX.out,gd_no (Or.inr l3)]
    simp
   subst e
   clear HX HK
   go_wp2_with fail
   refine wp_loop_rounds 5 ?_
   rw [rounds_succ];go_wp2_with fail
   rw [rounds_succ];go_wp2_with fail
   rw [rounds_succ];go_wp2_with fail
   rw [rounds_succ];go_wp2_with fail
   rw [Exit.noGoto_ret]
   go_ret
   exact ⟨rfl,HBV.out⟩
  have hgood:(gdB b0 && (gdB b1 && (gdB b2 && gdB b3)))=true:=by rw [gd_yes h0 l0,gd_yes h1 l1,gd_yes h2 l2,gd_yes h3 l3];rfl
  have hr:=HX.out
  rw [hgood,Bool.true_and] at hr
  clear HX hgood
  obtain ⟨z,hz⟩:∃z,Extern.BytealgCompare.cmp ⟨([a0,a1,a2,a3]:List UInt8).toArray⟩ ⟨([b0,b1,b2,b3]:List UInt8).toArray⟩=z:=⟨_,rfl⟩
  have hc4:=cmp4 a0 a1 a2 a3 b0 b1 b2 b3
  rw [hz] at hc4
  have k0:=HK.out.below ((Below.refl _ _).alloc (Nat.le_refl _) (.cells (rC b0 b1 b2 b3 sum pl ln) 150))
  have k1:=Blk.new wr (rC b0 b1 b2 b3 sum pl ln) 150
  have hbx:b < (wr.alloc (.cells (rC b0 b1 b2 b3 sum pl ln) 150)).heap.size:=by simp;omega
  go_wp2_with fail
  refine wp_loop_rounds 5 ?_
  rw [rounds_succ];go_wp2_with fail
  rw [rounds_succ];go_wp2_with fail
  rw [rounds_succ];go_wp2_with fail
  rw [rounds_succ];go_wp2_with fail
  rw [rounds_succ];go_wp2_with fail
  rename_i kk0
  have HA:=hide kk0
  clear kk0
  generalize wr.alloc (.cells (rC b0 b1 b2 b3 sum pl ln) 150)=V at k0 k1 HBV hbx ⊢
  have CC:=hide (fun m=>compare_any w.heap.size 0 wr.heap.size 0 4 4 [a0,a1,a2,a3] [b0,b1,b2,b3] (V.drewN m) (fun j x hx=>by
    have hc:(V.drewN m).cell? ⟨w.heap.size,0+j,none⟩=V.cell? ⟨w.heap.size,0+j,none⟩:=rfl
    rw [hc,k0.cell]
    match j,hx with
    | 0,hx=>cases hx;rfl
    | 1,hx=>cases hx;rfl
    | 2,hx=>cases hx;rfl
    | 3,hx=>cases hx;rfl
    | j+4,hx=>cases hx) (fun j x hx=>by
    have hc:(V.drewN m).cell? ⟨wr.heap.size,0+j,none⟩=V.cell? ⟨wr.heap.size,0+j,none⟩:=rfl
    rw [hc,k1.cell]
    match j,hx with
    | 0,hx=>cases hx;rfl
    | 1,hx=>cases hx;rfl
    | 2,hx=>cases hx;rfl
    | 3,hx=>cases hx;rfl
    | j+4,hx=>cases hx))
  rw [hz] at CC
  obtain ⟨q0,q1,q2,q3⟩:(V.cell? ⟨w.heap.size,0,none⟩=some (.int .u8 (a0.toNat:Int))∧V.cell? ⟨w.heap.size,1,none⟩=some (.int .u8 (a1.toNat:Int))∧V.cell? ⟨w.heap.size,2,none⟩=some (.int .u8 (a2.toNat:Int))∧V.cell? ⟨w.heap.size,3,none⟩=some (.int .u8 (a3.toNat:Int))):=⟨k0.cell 0,k0.cell 1,k0.cell 2,k0.cell 3⟩
  obtain ⟨r0,r1,r2,r3⟩:(V.cell? ⟨wr.heap.size,0,none⟩=some (.int .u8 (b0.toNat:Int))∧V.cell? ⟨wr.heap.size,1,none⟩=some (.int .u8 (b1.toNat:Int))∧V.cell? ⟨wr.heap.size,2,none⟩=some (.int .u8 (b2.toNat:Int))∧V.cell? ⟨wr.heap.size,3,none⟩=some (.int .u8 (b3.toNat:Int))):=⟨k1.cell 0,k1.cell 1,k1.cell 2,k1.cell 3⟩
  have f0:=k0.frozen 0
  have f1:=k0.frozen 1
  have f2:=k0.frozen 2
  have f3:=k0.frozen 3
  have K0:=hide k0
  clear k0 k1 g0 g1 g2 g3 g4 g5 g6 hne1 hne2 hz HK h0 h1 h2 h3 l0 l1 l2 l3
  cases hl:Op.bytesLess [a0,a1,a2,a3] [b0,b1,b2,b3] with
  | false=>
   rw [hl] at hr hc4
   have hz0:(0:Int)≤z:=by simpa using hc4
   have e:R=false:=by rw [←hr];rfl
   subst e
   clear hr hc4 hl
   go_quiet ((go_at_call 142;exact Calls.quiet_of_same (CC.out _)))
   refine HA.out _ _ ?_
   go_wp2_with fail
   rw [Exit.noGoto_ret]
   go_ret
   exact ⟨rfl,below_drewN HBV.out _⟩
  | true=>
   rw [hl,Bool.true_and] at hr
   rw [hl] at hc4
   have hz0:¬(0:Int)≤z:=by simpa using hc4
   have HR2:=hide hr
   clear hr hc4 hl
   go_quiet ((go_at_call 142;exact Calls.quiet_of_same (CC.out _)))
   refine HA.out _ _ ?_
   go_wp2_with fail
   go_roundg (n - (k+1))
   case rel=>
    refine ⟨k+1,b0,b1,b2,b3,by go_num,rfl,hide ⟨by have:=HG.out;omega,HR2.out,?_,?_⟩⟩
    ·exact ((((below_drewN HBV.out _).setCell (p:=⟨w.heap.size,0,none⟩) (Nat.le_refl _) _).setCell (p:=⟨w.heap.size,1,none⟩) (Nat.le_refl _) _).setCell (p:=⟨w.heap.size,2,none⟩) (Nat.le_refl _) _).setCell (p:=⟨w.heap.size,3,none⟩) (Nat.le_refl _) _
    ·exact (((K0.out.set 0 (.int .u8 (b0.toNat:Int))).set 1 (.int .u8 (b1.toNat:Int))).set 2 (.int .u8 (b2.toNat:Int))).set 3 (.int .u8 (b3.toNat:Int))
   case measure=>have:=HG.out;omega
def rcs (rs:List Rw):List Value:=rs.flatMap fun r=>(rwC r).toList
def zRw:Rw:=⟨0,0,0,0,0,0,0⟩
theorem rcs_len:∀rs,(rcs rs).length=rs.length * 7
 | []=>rfl
 | r :: rs=>by
  have:=rcs_len rs
  unfold rcs at *
  rw [List.flatMap_cons,List.length_append,this,List.length_cons]
  simp
  omega
theorem rcs_app (a b:List Rw):rcs (a++b)=rcs a++rcs b:=by unfold rcs;simp
theorem rcs_at:∀(rs:List Rw) (i:Nat) (r:Rw) (j:Nat),rs[i]?=some r→j < 7→(rcs rs)[i * 7+j]?=(rwC r)[j]?
 | [],i,r,j,h,_=>by simp at h
 | q :: rs,0,r,j,h,hj=>by
  simp at h;subst h
  show ((rwC q).toList++rcs rs)[0 * 7+j]?=_
  rw [Nat.zero_mul,Nat.zero_add,List.getElem?_append_left (by simpa using hj)]
  simp
 | q :: rs,i+1,r,j,h,hj=>by
  have ih:=rcs_at rs i r j (by simpa using h) hj
  show ((rwC q).toList++rcs rs)[(i+1) * 7+j]?=_
  rw [List.getElem?_append_right (by simp;omega)]
  rw [←ih]
  congr 1
  simp
  omega
theorem _root_.Go.Proofs.YtpaadbnlhapdbaaGreatDoor.Blk.rows {w:World} {b:Nat} {rs:List Rw} {t:TypeId} (h:Blk w b (rcs rs).toArray t):RLst w b rs:=by
 refine ⟨h.lt,fun i r hi=>?_⟩
 have e:∀j,j < 7→w.cell? ⟨b,i * 7+j,none⟩=(rwC r)[j]?:=fun j hj=>by
  rw [h.cell,List.getElem?_toArray,rcs_at rs i r j hi hj]
 exact ⟨e 0 (by omega),e 1 (by omega),e 2 (by omega),e 3 (by omega),e 4 (by omega),e 5 (by omega),e 6 (by omega)⟩
theorem set7 (A C:List Value) (k:Nat) (hk:A.length=k) (x0 x1 x2 x3 x4 x5 x6 v0 v1 v2 v3 v4 v5 v6:Value) :
  ((((((((A++([x0,x1,x2,x3,x4,x5,x6]++C)).toArray.setIfInBounds k v0).setIfInBounds (k+1) v1).setIfInBounds (k+2) v2).setIfInBounds (k+3) v3).setIfInBounds (k+4) v4).setIfInBounds (k+5) v5).setIfInBounds (k+6) v6)=(A++([v0,v1,v2,v3,v4,v5,v6]++C)).toArray:=by
 subst hk
 have e:∀(L:List Value) (j:Nat) (v:Value),(A++L).toArray.setIfInBounds (A.length+j) v=(A++L.set j v).toArray:=fun L j v=>by
  rw [List.setIfInBounds_toArray,List.set_append_right _ _ (by omega),show A.length+j - A.length=j by omega]
 have e0:=e ([x0,x1,x2,x3,x4,x5,x6]++C) 0 v0
 rw [Nat.add_zero] at e0
 rw [e0,e,e,e,e,e,e]
 rfl
theorem st7_row {W:World} {b:Nat} {ds rs:List Rw} {z:Rw} {t:TypeId} (k:Nat) (h:Blk W b (rcs (ds++z :: rs)).toArray t) (hk:ds.length=k) (r:Rw) :
  Blk (((((((W.setCell ⟨b,k * 7,none⟩ (.int .u8 (r.b0.toNat:Int))).setCell ⟨b,k * 7+1,none⟩ (.int .u8 (r.b1.toNat:Int))).setCell ⟨b,k * 7+2,none⟩ (.int .u8 (r.b2.toNat:Int))).setCell ⟨b,k * 7+3,none⟩ (.int .u8 (r.b3.toNat:Int))).setCell ⟨b,k * 7+4,none⟩ (.int .i64 r.sum)).setCell ⟨b,k * 7+5,none⟩ (.int .i64 r.pl)).setCell ⟨b,k * 7+6,none⟩ (.int .i64 r.ln)) b (rcs (ds++r :: rs)).toArray t:=by
 have e1:rcs (ds++z :: rs)=rcs ds++([.int .u8 (z.b0.toNat:Int),.int .u8 (z.b1.toNat:Int),.int .u8 (z.b2.toNat:Int),.int .u8 (z.b3.toNat:Int),.int .i64 z.sum,.int .i64 z.pl,.int .i64 z.ln]++rcs rs):=by rw [rcs_app];rfl
 have e2:rcs (ds++r :: rs)=rcs ds++([.int .u8 (r.b0.toNat:Int),.int .u8 (r.b1.toNat:Int),.int .u8 (r.b2.toNat:Int),.int .u8 (r.b3.toNat:Int),.int .i64 r.sum,.int .i64 r.pl,.int .i64 r.ln]++rcs rs):=by rw [rcs_app];rfl
 rw [e1] at h
 rw [e2,←set7 (rcs ds) (rcs rs) (k * 7) (by rw [rcs_len,hk])]
 exact ((((((h.set _ _).set _ _).set _ _).set _ _).set _ _).set _ _).set _ _
theorem made_at (c:Array Value) (m j:Nat) (h:j < (madeCells c m).size):(madeCells c m)[j]=c[j % c.size]!:=by simp [madeCells]
theorem make_rows (n:Nat) (hn:n≤32) (w:World):(Instr.makeSlice 108 (.int .i64 (n:Int)) (.int .i64 (n:Int))).run Tryz.prog w=.ok (.slice (some ⟨w.heap.size,0,none⟩) n n) (w.alloc (.cells (rcs (List.replicate n zRw)).toArray 150)):=by
 obtain ⟨i,hi,hz,h1,h2⟩:=info_parts5 info_row
 have h:=run_make (P:=Tryz.prog) w 108 150 i _ Tryz.underlying108 hi hz .i64 .i64 (n:Int) (n:Int) (by omega) (by omega) (by rw [h2];omega) (by omega)
 rw [h1] at h
 rw [Int.toNat_natCast] at h
 have e:madeCells (Value.agg #[.int .u8 0,.int .u8 0,.int .u8 0,.int .u8 0,.int .i64 0,.int .i64 0,.int .i64 0]).cells (n * 7)=(rcs (List.replicate n zRw)).toArray:=by
  apply Array.ext (by simp [madeCells,rcs_len])
  intro j h1 h2
  have hj:j < n * 7:=by simpa [madeCells] using h1
  have h3:=rcs_at (List.replicate n zRw) (j / 7) zRw (j % 7) (by rw [List.getElem?_replicate,if_pos (by omega)]) (by omega)
  rw [show j / 7 * 7+j % 7=j by omega] at h3
  have h4:(rcs (List.replicate n zRw)).toArray[j]?=(rwC zRw)[j % 7]?:=by rw [List.getElem?_toArray];exact h3
  rw [Array.getElem?_eq_getElem h2] at h4
  have h5:j % 7 < (rwC zRw).size:=by show j % 7 < 7;omega
  rw [Array.getElem?_eq_getElem h5] at h4
  rw [Option.some.inj h4]
  have hs7:(Value.agg #[.int .u8 0,.int .u8 0,.int .u8 0,.int .u8 0,.int .i64 0,.int .i64 0,.int .i64 0]).cells.size=7:=by rfl
  rw [made_at,hs7]
  exact (getElem!_pos (rwC zRw) (j % 7) h5)
 rw [e] at h
 exact h
def DirR (w:World) (s:ByteArray) (e:Ending) (w':World):Prop:=
 if hdB s.data.toList=true then ∃b,e=.returned (.tuple #[.slice (some ⟨b,0,none⟩) (nTab s.data.toList) (nTab s.data.toList),.bool (riseB [0,0,0,0] (rowsV s.data.toList (nTab s.data.toList)))])∧RLst w' b (rowsV s.data.toList (nTab s.data.toList))∧Below w.heap.size w w'
 else e=.returned (.tuple #[.slice none 0 0,.bool false])∧Below w.heap.size w w'
theorem hd_no {l:List UInt8} (h:¬(12≤l.length∧1≤nTab l∧nTab l≤32∧l.take 12=openT (nTab l)∧12+16 * nTab l≤l.length)):hdB l=false:=by
 cases e:hdB l with
 | false=>rfl
 | true=>
  exfalso;apply h
  unfold hdB at e
  rw [Bool.and_eq_true,Bool.and_eq_true,Bool.and_eq_true,Bool.and_eq_true,decide_eq_true_eq,decide_eq_true_eq,decide_eq_true_eq,decide_eq_true_eq,beq_iff_eq] at e
  exact ⟨e.1,e.2.1,e.2.2.1,e.2.2.2.1,e.2.2.2.2⟩
theorem hd_yes {l:List UInt8} (h:12≤l.length∧1≤nTab l∧nTab l≤32∧l.take 12=openT (nTab l)∧12+16 * nTab l≤l.length):hdB l=true:=by
 unfold hdB
 rw [Bool.and_eq_true,Bool.and_eq_true,Bool.and_eq_true,Bool.and_eq_true,decide_eq_true_eq,decide_eq_true_eq,decide_eq_true_eq,decide_eq_true_eq,beq_iff_eq]
 exact ⟨h.1,h.2.1,h.2.2.1,h.2.2.2.1,h.2.2.2.2⟩
theorem map_range_succ {α:Type} (f:Nat→α) (k:Nat):(List.range (k+1)).map f=(List.range k).map f++[f k]:=by rw [List.range_succ,List.map_append];rfl
set_option maxRecDepth 8000 in
set_option maxHeartbeats 4000000 in
theorem directory_any (s:ByteArray) (w:World) (hs:s.size≤1048576):Calls Tryz.prog 113 #[.string s] w (DirR w s):=by
 have hs':(s.size:Int)≤1048576:=by omega
 have hlen:s.data.toList.length=s.size:=(Lib.size_eq s).symm
 by_cases h12:s.size < 12
 ·have h12':(s.size:Int) < 12:=by omega
  have HF:=hide (hd_no (l:=s.data.toList) (fun h=>by omega))
  clear hlen hs h12
  go_enter Tryz.func113,Tryz.ntmps113
  go_wp2_with fail
  go_ret2
  unfold DirR
  rw [HF.out]
  exact ⟨rfl,Below.refl _ _⟩
 have h12':¬(s.size:Int) < 12:=by omega
 have z6:(6:Int)≤(s.size:Int):=by omega
 have z6':6≤s.size:=by omega
 have z12:(12:Int)≤(s.size:Int):=by omega
 have z12':12≤s.size:=by omega
 obtain ⟨n,hn⟩:∃n,nTab s.data.toList=n:=⟨_,rfl⟩
 have hnum:numV (s.extract 4 6).data.toList=n:=by rw [slice_list _ _ _ z6',←hn];rfl
 have hn16:n≤65535:=by
  have h1:=numV_lt _ (s.extract 4 6).data.toList rfl
  have h2:(s.extract 4 6).data.toList.length=2:=by rw [←Lib.size_eq,ByteArray.size_extract];omega
  rw [hnum,h2] at h1
  have : (256:Nat) ^ 2=65536:=by decide
  omega
 have hn16':(n:Int)≤65535:=by omega
 have CN:=hide (show ∀(t:ByteArray) (w:World),t=s.extract 4 6→Calls Tryz.prog 144 #[.string t] w fun e w'=>e=.returned (.int .i64 (n:Int))∧w'=w from fun t w ht=>by
  have hh:=number_any t w (by rw [ht,ByteArray.size_extract];omega)
  have e:numV t.data.toList=n:=by rw [ht];exact hnum
  rw [e] at hh
  exact hh)
 have HB:=hide (Below.refl w.heap.size w)
 clear hnum
 by_cases q1:n < 1
 ·have q1':(n:Int) < 1:=by omega
  have HF:=hide (hd_no (l:=s.data.toList) (fun h=>by rw [hn] at h;omega))
  clear hlen hs hn q1
  go_enter Tryz.func113,Tryz.ntmps113
  go_wp2_with (go_at_call 144;refine (CN.out _ _ rfl).mono ?_;rintro e w' ⟨rfl,hw'⟩;replace hw':=hw'.symm;subst hw')
  rename_i kk0
  have HA:=hide kk0
  clear kk0
  go_quiet (fail)
  refine HA.out _ _ ?_
  go_wp2_with fail
  go_ret2
  unfold DirR
  rw [HF.out]
  exact ⟨rfl,below_drewN (Below.refl _ _) _⟩
 have q1':¬(n:Int) < 1:=by omega
 have q1d:decide ((n:Int) < 1)=false:=by simpa using q1'
 by_cases q2:32 < n
 ·have q2':(32:Int) < (n:Int):=by omega
  have HF:=hide (hd_no (l:=s.data.toList) (fun h=>by rw [hn] at h;omega))
  clear hlen hs hn q1 q2
  go_enter Tryz.func113,Tryz.ntmps113
  go_wp2_with (go_at_call 144;refine (CN.out _ _ rfl).mono ?_;rintro e w' ⟨rfl,hw'⟩;replace hw':=hw'.symm;subst hw')
  rename_i kk0
  have HA:=hide kk0
  clear kk0
  go_quiet (fail)
  refine HA.out _ _ ?_
  go_wp2_with fail
  go_ret2
  unfold DirR
  rw [HF.out]
  exact ⟨rfl,below_drewN (Below.refl _ _) _⟩
 have q2':¬(32:Int) < (n:Int):=by omega
 have q2d:decide ((32:Int) < (n:Int))=false:=by simpa using q2'
 obtain ⟨OT,hOT⟩:∃OT:ByteArray,(⟨(openT n).toArray⟩:ByteArray)=OT:=⟨_,rfl⟩
 have CO:=hide (show ∀(w:World),Calls Tryz.prog 107 #[.int .i64 (n:Int)] w fun e w'=>e=.returned (.string OT)∧Below w.heap.size w w' from fun w=>by
  have hh:=opening_any n w (by omega) (by omega)
  rw [hOT] at hh
  exact hh)
 have CDn:=hide (fun (w:World)=>dsize_any (n:Int) w (by omega) (by omega))
 have htk:s.data.toList.take 12=(s.extract 0 12).data.toList:=by rw [slice_list _ _ _ z12',List.drop_zero]
 by_cases q3:s.extract 0 12=OT
 case neg=>
  have q3':((s.extract 0 12).toList == OT.toList)=false:=by
   rw [beq_eq_false_iff_ne,Lib.toList_data,Lib.toList_data]
   intro e
   apply q3
   cases hx:s.extract 0 12 with | mk a=>cases hy:OT with | mk b=>rw [hx,hy] at e;simp at e;rw [e]
  have HF:=hide (hd_no (l:=s.data.toList) (fun h=>by
   rw [hn,htk] at h
   apply q3
   rw [←hOT,←h.2.2.2.1]))
  clear hlen hs hn q1 q2 q3 hOT htk
  go_enter Tryz.func113,Tryz.ntmps113
  go_wp2_with (go_at_call 144;refine (CN.out _ _ rfl).mono ?_;rintro e w' ⟨rfl,hw'⟩;replace hw':=hw'.symm;subst hw')
  rename_i kk0
  have HA:=hide kk0
  clear kk0
  refine wp_region_held_drew (S:=(fun _=>True)) (by kernel_rfl) (trivial) (fun hHeld=>?_)
  refine takeW (i:=0) (d:=13) (v:=.int .i64 (n:Int)) rfl rfl (by kernel_rfl) (by kernel_rfl) (by kernel_rfl) (fun _ _ _ h=>h) (by rfl) ?_ (by assumption) ?_
  ·intro x hSx
   have q0:=hSx
   go_simp
  simp only [Act.put,List.setIfInBounds_toArray,List.set_cons_zero,List.set_cons_succ]
  refine takeW (i:=1) (d:=14) (v:=.bool false) rfl rfl (by kernel_rfl) (by kernel_rfl) (by kernel_rfl) (fun _ _ _ h=>h) (by rfl) ?_ (by assumption) ?_
  ·intro x hSx
   have q0:=hSx
   go_simp
  simp only [Act.put,List.setIfInBounds_toArray,List.set_cons_zero,List.set_cons_succ]
  refine takeW (i:=2) (d:=15) (v:=.bool false) rfl rfl (by kernel_rfl) (by kernel_rfl) (by kernel_rfl) (fun _ _ _ h=>h) (by rfl) ?_ (by assumption) ?_
  ·intro x hSx
   have q0:=hSx
   go_simp
  simp only [Act.put,List.setIfInBounds_toArray,List.set_cons_zero,List.set_cons_succ]
  refine takeW (i:=3) (d:=16) (v:=.int .i64 (n:Int)) rfl rfl (by kernel_rfl) (by kernel_rfl) (by kernel_rfl) (fun _ _ _ h=>h) (by rfl) ?_ (by assumption) ?_
  ·intro x hSx
   have q0:=hSx
   go_simp
  simp only [Act.put,List.setIfInBounds_toArray,List.set_cons_zero,List.set_cons_succ]
  refine takeW (i:=4) (d:=17) (v:=.bool false) rfl rfl (by kernel_rfl) (by kernel_rfl) (by kernel_rfl) (fun _ _ _ h=>h) (by rfl) ?_ (by assumption) ?_
  ·intro x hSx
   have q0:=hSx
   go_simp
  simp only [Act.put,List.setIfInBounds_toArray,List.set_cons_zero,List.set_cons_succ]
  refine takeW (i:=5) (d:=18) (v:=.bool false) rfl rfl (by kernel_rfl) (by kernel_rfl) (by kernel_rfl) (fun _ _ _ h=>h) (by rfl) ?_ (by assumption) ?_
  ·intro x hSx
   have q0:=hSx
   go_simp
  simp only [Act.put,List.setIfInBounds_toArray,List.set_cons_zero,List.set_cons_succ]
  refine takeW (i:=6) (d:=19) (v:=.bool false) rfl rfl (by kernel_rfl) (by kernel_rfl) (by kernel_rfl) (fun _ _ _ h=>h) (by rfl) ?_ (by assumption) ?_
  ·intro x hSx
   have q0:=hSx
   go_simp
  simp only [Act.put,List.setIfInBounds_toArray,List.set_cons_zero,List.set_cons_succ]
  refine takeW (i:=7) (d:=20) (v:=.string s) rfl rfl (by kernel_rfl) (by kernel_rfl) (by kernel_rfl) (fun _ _ _ h=>h) (by rfl) ?_ (by assumption) ?_
  ·intro x hSx
   have q0:=hSx
   go_simp
  simp only [Act.put,List.setIfInBounds_toArray,List.set_cons_zero,List.set_cons_succ]
  refine takeW (i:=8) (d:=21) (v:=.string (s.extract 0 12)) rfl rfl (by kernel_rfl) (by kernel_rfl) (by kernel_rfl) (fun _ _ _ h=>h) (by rfl) ?_ (by assumption) ?_
  ·intro x hSx
   have q0:=hSx
   go_simp
  simp only [Act.put,List.setIfInBounds_toArray,List.set_cons_zero,List.set_cons_succ]
  refine takeW (i:=9) (d:=22) (v:=.int .i64 (n:Int)) rfl rfl (by kernel_rfl) (by kernel_rfl) (by kernel_rfl) (fun _ _ _ h=>h) (by rfl) ?_ (by assumption) ?_
  ·intro x hSx
   have q0:=hSx
   go_simp
  simp only [Act.put,List.setIfInBounds_toArray,List.set_cons_zero,List.set_cons_succ]
  refine wpAnyH_ready (rs:=[10]) (by kernel_rfl) (by simp) ?_
  refine AllReadyH.cons rfl (fun K hK=>?_) AllReadyH.nil
  rw [if_pos (by rfl)]
  go_simp
  go_at_call 107
  refine (CO.out _).mono ?_
  rintro e x ⟨rfl,hbx⟩
  replace HB:=hide (below_d HB.out hbx rfl rfl rfl rfl)
  clear hbx
  refine hK.out _ _ trivial (fun hHeld=>?_)
  clear hK K
  refine takeW (i:=11) (d:=24) (v:=.bool true) rfl rfl (by kernel_rfl) (by kernel_rfl) (by kernel_rfl) (fun _ _ _ h=>h) (by rfl) ?_ (by assumption) ?_
  ·intro x hSx
   have q0:=hSx
   go_simp
  simp only [Act.put,List.setIfInBounds_toArray,List.set_cons_zero,List.set_cons_succ]
  refine takeW (i:=12) (d:=25) (v:=.bool true) rfl rfl (by kernel_rfl) (by kernel_rfl) (by kernel_rfl) (fun _ _ _ h=>h) (by rfl) ?_ (by assumption) ?_
  ·intro x hSx
   have q0:=hSx
   go_simp
  simp only [Act.put,List.setIfInBounds_toArray,List.set_cons_zero,List.set_cons_succ]
  refine takeW (i:=13) (d:=26) (v:=.bool true) rfl rfl (by kernel_rfl) (by kernel_rfl) (by kernel_rfl) (fun _ _ _ h=>h) (by rfl) ?_ (by assumption) ?_
  ·intro x hSx
   have q0:=hSx
   go_simp
  simp only [Act.put,List.setIfInBounds_toArray,List.set_cons_zero,List.set_cons_succ]
  refine takeN (i:=14) (d:=27) rfl rfl (by kernel_rfl) (by kernel_rfl) (by kernel_rfl) (fun _ _ _ h=>h) (by rfl) (by assumption) ?_
  simp only [Act.put,List.setIfInBounds_toArray,List.set_cons_zero,List.set_cons_succ]
  refine takeN (i:=15) (d:=28) rfl rfl (by kernel_rfl) (by kernel_rfl) (by kernel_rfl) (fun _ _ _ h=>h) (by rfl) (by assumption) ?_
  simp only [Act.put,List.setIfInBounds_toArray,List.set_cons_zero,List.set_cons_succ]
  refine takeN (i:=16) (d:=29) rfl rfl (by kernel_rfl) (by kernel_rfl) (by kernel_rfl) (fun _ _ _ h=>h) (by rfl) (by assumption) ?_
  simp only [Act.put,List.setIfInBounds_toArray,List.set_cons_zero,List.set_cons_succ]
  refine takeN (i:=17) (d:=30) rfl rfl (by kernel_rfl) (by kernel_rfl) (by kernel_rfl) (fun _ _ _ h=>h) (by rfl) (by assumption) ?_
  simp only [Act.put,List.setIfInBounds_toArray,List.set_cons_zero,List.set_cons_succ]
  refine takeN (i:=18) (d:=31) rfl rfl (by kernel_rfl) (by kernel_rfl) (by kernel_rfl) (fun _ _ _ h=>h) (by rfl) (by assumption) ?_
  simp only [Act.put,List.setIfInBounds_toArray,List.set_cons_zero,List.set_cons_succ]
  refine takeW (i:=19) (d:=32) (v:=.bool true) rfl rfl (by kernel_rfl) (by kernel_rfl) (by kernel_rfl) (fun _ _ _ h=>h) (by rfl) ?_ (by assumption) ?_
  ·intro x hSx
   have q0:=hSx
   go_simp
  simp only [Act.put,List.setIfInBounds_toArray,List.set_cons_zero,List.set_cons_succ]
  refine wpAnyH_done (by kernel_rfl) ?_ _
  all_goals
   refine HA.out _ _ ?_
   go_wp2_with fail
   go_ret2
   unfold DirR
   rw [HF.out]
   exact ⟨rfl,below_d HB.out (Below.refl _ _) rfl rfl rfl rfl⟩
 have q3':((s.extract 0 12).toList == OT.toList)=true:=by rw [q3];simp
 by_cases q4:s.size < 12+16 * n
 ·have q4':(s.size:Int) < 12+16 * (n:Int):=by omega
  have q4d:decide ((s.size:Int) < 12+16 * (n:Int))=true:=by simpa using q4'
  have HF:=hide (hd_no (l:=s.data.toList) (fun h=>by rw [hn] at h;omega))
  clear hlen hs hn q1 q2 q3 q4 hOT htk
  go_enter Tryz.func113,Tryz.ntmps113
  go_wp2_with (go_at_call 144;refine (CN.out _ _ rfl).mono ?_;rintro e w' ⟨rfl,hw'⟩;replace hw':=hw'.symm;subst hw')
  rename_i kk0
  have HA:=hide kk0
  clear kk0
  go_region_held3 (fun _=>True) (first | trivial | go_keep) ((first | (go_at_call 107;refine (CO.out _).mono ?_;rintro e x ⟨rfl,hbx⟩;replace HB:=hide (below_d HB.out hbx rfl rfl rfl rfl);clear hbx) | (go_at_call 104;refine (CDn.out _).mono ?_;rintro e x ⟨rfl,rfl⟩)))
  all_goals
   refine HA.out _ _ ?_
   go_wp2_with fail
   go_ret2
   unfold DirR
   rw [HF.out]
   exact ⟨rfl,below_d HB.out (Below.refl _ _) rfl rfl rfl rfl⟩
 have q4':¬(s.size:Int) < 12+16 * (n:Int):=by omega
 have q4d:decide ((s.size:Int) < 12+16 * (n:Int))=false:=by simpa using q4'
 have HT:=hide (hd_yes (l:=s.data.toList) ⟨by omega,by omega,by omega,by rw [hn,htk,←hOT] at *;rw [q3],by rw [hn];omega⟩)
 have HN:=hide hn
 have CDk:=hide (fun (k:Nat) (w:World) (hk:k≤32)=>dsize_any (k:Int) w (by omega) (by omega))
 have CR:=hide (show ∀(k:Nat) (t:ByteArray) (w:World),k < n→t=s.extract (12+16 * k) s.size→Calls Tryz.prog 145 #[.string t] w fun e w'=>e=.returned (.agg (rwC (rwAt s.data.toList k)))∧Below w.heap.size w w' from fun k t w hk ht=>by
  have hh:=rowOf_any t w (by rw [ht,ByteArray.size_extract];omega) (by rw [ht,ByteArray.size_extract];omega)
  have e:t.data.toList=s.data.toList.drop (12+16 * k):=by
   rw [ht,slice_list _ _ _ (Nat.le_refl _),List.take_of_length_le (by rw [List.length_drop];omega)]
  rw [e] at hh
  exact hh)
 have CT:=hide (fun b w h=>tagsRise_any (rowsV s.data.toList n) b n n w (rowsV_len _ _) (by omega) h)
 have hmk:=fun x=>make_rows n (by omega) x
 have HQ4:=hide q4
 have HN32:=hide (show n≤32 by omega)
 clear hlen hs hn q1 q2 q3 q4 hOT htk
 go_enter Tryz.func113,Tryz.ntmps113
 go_wp2_with (go_at_call 144;refine (CN.out _ _ rfl).mono ?_;rintro e w' ⟨rfl,hw'⟩;replace hw':=hw'.symm;subst hw')
 rename_i kk0
 have HA:=hide kk0
 clear kk0
 go_region_held3 (fun _=>True) (first | trivial | go_keep) ((first | (go_at_call 107;refine (CO.out _).mono ?_;rintro e x ⟨rfl,hbx⟩;replace HB:=hide (below_d HB.out hbx rfl rfl rfl rfl);clear hbx) | (go_at_call 104;refine (CDn.out _).mono ?_;rintro e x ⟨rfl,rfl⟩)))
 refine HA.out _ _ ?_
 clear HA
 have hx0:=below_d HB.out (Below.refl x.heap.size x) rfl rfl rfl rfl
 have HX0:=hide hx0
 clear hx0
 go_wp2_with fail
 go_loopw [37] (fun vi wr=>∃k:Nat,vi=.int .i64 k∧Hid (k≤n∧Blk wr x.heap.size (rcs ((List.range k).map (rwAt s.data.toList)++List.replicate (n - k) zRw)).toArray 150∧Below w.heap.size w wr)) (fun vi _=>n - (intOf vi).toNat)
 case atStart=>exact ⟨0,rfl,hide ⟨by omega,Blk.new _ _ _,HX0.out.alloc HX0.out.size _⟩⟩
 case round=>
  obtain ⟨k,rfl,HV⟩:=hrel
  obtain ⟨hk,hK,hbw⟩:=HV.out
  have hk0:(0:Int)≤(k:Int):=by omega
  clear HV hmk
  by_cases hlt:k < n
  case neg=>
   have hlt':¬(k:Int) < (n:Int):=by omega
   obtain rfl:k=n:=by omega
   rw [Nat.sub_self,List.replicate_zero,List.append_nil] at hK
   have hRL:RLst wr x.heap.size (rowsV s.data.toList k):=hK.rows
   have CT1:=hide (CT.out x.heap.size wr hRL)
   have HRL:=hide hRL
   have HBW:=hide hbw
   clear hK hbw hRL hlt
   go_wp2_with (go_at_call 106;refine CT1.out.mono ?_;rintro e w9 ⟨rfl,h9⟩)
   go_ret2
   unfold DirR
   rw [HT.out,HN.out]
   exact ⟨x.heap.size,rfl,HRL.out.below h9,below_t5 HBW.out h9⟩
  have hlt':(k:Int) < (n:Int):=by omega
  have e0:(List.range k).map (rwAt s.data.toList)++List.replicate (n - k) zRw=(List.range k).map (rwAt s.data.toList)++zRw :: List.replicate (n - (k+1)) zRw:=by
   rw [show n - k=(n - (k+1))+1 by omega,List.replicate_succ]
  rw [e0] at hK
  have t1:((12:Int)+16 * (k:Int)).toNat=12+16 * k:=by omega
  have t2:(12:Int)+16 * (k:Int)≤(s.size:Int):=by have:=HQ4.out;omega
  have t3:(0:Int)≤(12:Int)+16 * (k:Int):=by omega
  have t4:12+16 * k≤s.size:=by have:=HQ4.out;omega
  have CK:=hide (fun w=>CDk.out k w (by have:=HN32.out;omega))
  have CRk:=hide (fun t w ht=>CR.out k t w hlt ht)
  obtain ⟨r,hr⟩:∃r,rwAt s.data.toList k=r:=⟨_,rfl⟩
  rw [hr] at CRk
  have HR:=hide hr
  have HKK:=hide hK
  have HBW:=hide hbw
  clear hr hK hbw e0 hlt
  go_wp2_with fail
  refine (CK.out _).mono ?_
  rintro e w1 ⟨rfl,hw1⟩
  replace hw1:=hw1.symm
  subst hw1
  go_wp2_with fail
  refine (CRk.out _ _ rfl).mono ?_
  rintro e y ⟨rfl,hy⟩
  have ky:=HKK.out.below hy
  have hbx:=ky.lt
  obtain ⟨g0,g1,g2,g3,g4,g5,g6⟩:=ky.rows.2 k zRw (by rw [List.getElem?_append_right (by simp)];simp)
  have f0:=ky.frozen (k * 7)
  have f1:=ky.frozen (k * 7+1)
  have f2:=ky.frozen (k * 7+2)
  have f3:=ky.frozen (k * 7+3)
  have f4:=ky.frozen (k * 7+4)
  have f5:=ky.frozen (k * 7+5)
  have f6:=ky.frozen (k * 7+6)
  have HKY:=hide ky
  have HBY:=hide (below_t5 HBW.out hy)
  have HXS:=hide HX0.out.size
  clear hy ky
  go_wp2_with fail
  go_roundw
  case rel=>
   refine ⟨k+1,by go_num,hide ⟨by omega,?_,?_⟩⟩
   ·have h:=st7_row k HKY.out (by simp) r
    rw [map_range_succ,HR.out,List.append_assoc]
    exact h
   ·exact ((((((HBY.out.setCell (p:=⟨x.heap.size,k * 7,none⟩) HXS.out _).setCell (p:=⟨x.heap.size,k * 7+1,none⟩) HXS.out _).setCell (p:=⟨x.heap.size,k * 7+2,none⟩) HXS.out _).setCell (p:=⟨x.heap.size,k * 7+3,none⟩) HXS.out _).setCell (p:=⟨x.heap.size,k * 7+4,none⟩) HXS.out _).setCell (p:=⟨x.heap.size,k * 7+5,none⟩) HXS.out _).setCell (p:=⟨x.heap.size,k * 7+6,none⟩) HXS.out _
  case measure=>simp [intOf];omega
end Go.Proofs.YtpaadbnlhapdbaaGreatDoor.S8
namespace Go.Proofs.YtpaadbnlhapdbaaGreatDoor.S8
open Go.RowKit Go.Deep
set_option linter.unusedVariables false
set_option linter.unusedSimpArgs false
def RRow (w:World) (B:Nat) (v:Value) (rs:List Rw):Prop:=w.ownsRow B 150 7 v rs.length (rcs rs)
theorem RRow.nil (w:World) (B:Nat):RRow w B (.slice none 0 0) []:=World.ownsRow_nil _ _ _ _
theorem RRow.later {w w':World} {B:Nat} {v:Value} {rs:List Rw} (h:RRow w B v rs) (hb:Below w.heap.size w w'):RRow w' B v rs:=ownsRow_kept h (fun k _ hk=>hb.block k hk)
theorem RRow.shape {w:World} {B:Nat} {v:Value} {rs:List Rw} (h:RRow w B v rs):∃a cap,v=.slice a rs.length cap:=by
 obtain ⟨_,⟨h0,h1⟩ | ⟨g,cap,cur,hv,_⟩⟩:=h
 ·exact ⟨none,0,by rw [h0,h1]⟩
 ·exact ⟨_,cap,hv⟩
theorem RRow.lst {w:World} {B:Nat} {v:Value} {rs:List Rw} (h:RRow w B v rs) (hn:0 < rs.length):∃g cap,v=.slice (some ⟨g,0,none⟩) rs.length cap∧RLst w g rs:=by
 have h':=h
 obtain ⟨_,⟨h0,h1⟩ | ⟨g,cap,cur,hv,hg,hh,hc,hm,_⟩⟩:=h'
 ·omega
 ·refine ⟨g,cap,hv,?_⟩
  rw [hv] at h
  refine ⟨(World.ownsRow.lt h g rfl).2,fun i r hi=>?_⟩
  have hil:=(List.getElem?_eq_some_iff.1 hi).1
  have q:∀j,j < 7→w.cell? ⟨g,i * 7+j,none⟩=(rwC r)[j]?:=fun j hj=>by
   rw [World.ownsRow.cellAt h (i * 7+j) (by omega)]
   exact rcs_at rs i r j hi hj
  exact ⟨q 0 (by omega),q 1 (by omega),q 2 (by omega),q 3 (by omega),q 4 (by omega),q 5 (by omega),q 6 (by omega)⟩
theorem rcs_one (r:Rw):rcs [r]=(rwC r).toList:=by unfold rcs;simp
theorem app_rowG {W:World} {B:Nat} {v:Value} {rs:List Rw} {LT:Nat} (r:Rw) (h:RRow W B v rs) (hB:B≤W.heap.size) (hl:rs.length=LT∧LT≤1000) (H:Nat) (hH:W.heap.size=H) :
  ∃g cap w2,(Builtin.append_ #[108,108] 108 #[v,.slice (some ⟨H,0,none⟩) 1 1]).run Tryz.prog (W.alloc (.cells (rwC r) 150))=.ok (.slice (some ⟨g,0,none⟩) (LT+1) cap) w2∧RRow w2 B (.slice (some ⟨g,0,none⟩) (LT+1) cap) (rs++[r])∧Below B W w2∧(∀k,k < W.heap.size→some k≠v.ownBlock→w2.heap[k]?=W.heap[k]?):=by
 obtain ⟨hLT,hl⟩:=hl
 subst hLT
 obtain ⟨i0,hi,hz0,hz1,hz2⟩:=info_parts5 info_row
 subst hH
 obtain ⟨g,cap,w2,hr,ho,hg,_,_⟩:=run_append_lies (P:=Tryz.prog) (W.alloc (.cells (rwC r) 150)) 108 108 B 150 i0 _ 7 32 Tryz.underlying108 hi hz0 hz1 hz2 rfl (by decide) v rs.length (rcs rs) (World.ownsRow.alloc h _) ⟨W.heap.size,0,none⟩ 1 1 (rwC r).toList (by simp)
  (fun j u hu=>by rw [Go.WideShapes.add_plain,Nat.zero_add,World.cell?_alloc_at _ _ _ _ rfl];simpa using hu) (fun u hu=>by simp at hu;rcases hu with rfl | rfl | rfl | rfl | rfl | rfl | rfl <;> rfl) (by decide) (by unfold maxLen;omega) (by omega) (by simp;omega) (W.heap.size+1) (by simp)
 refine ⟨g,cap,w2,hr,?_,((Below.refl B W).alloc hB _).grown hg (by simp;omega) fun k hk'=>(World.ownsRow.lt h k hk').1,fun k hk hne=>?_⟩
 ·unfold RRow
  rw [rcs_app,rcs_one,List.length_append]
  exact ho
 ·rw [hg.block k (by simp;omega) (fun e=>hne e)]
  show (W.heap.push _)[k]?=_
  rw [Array.getElem?_push,if_neg (by omega)]
theorem RRow.own_lt {w:World} {B k:Nat} {v:Value} {rs:List Rw} (h:RRow w B v rs) (e:some k=v.ownBlock):k < w.heap.size:=(World.ownsRow.lt h k e.symm).2
set_option maxRecDepth 8000 in
set_option maxHeartbeats 2000000 in
theorem appendTo_any (r:Rw) (v:Value) (ys:List UInt8) (B:Nat) (w:World) (hr:RwOk r) (h:BRow w B v ys) (hB:B≤w.heap.size) (hl:ys.length≤100000000) :
  Calls Tryz.prog 110 #[.agg (rwC r),v] w fun e w'=>∃v',e=.returned v'∧BRow w' B v' (ys++tgT r++nbT r.sum 4++nbT r.pl 4++nbT r.ln 4)∧KB B w w':=by
 obtain ⟨h1,h2,h3⟩:=hr
 obtain ⟨b0,b1,b2,b3,sum,pl,ln⟩:=r
 simp only at h1 h2 h3
 simp only [tgT]
 have hb0:=(Below.refl w.heap.size w).alloc (Nat.le_refl _) (.cells (rC b0 b1 b2 b3 sum pl ln) 150)
 have k0:=Blk.new w (rC b0 b1 b2 b3 sum pl ln) 150
 have hn0:=NB.below hb0
 have hkb0:KB B w (w.alloc (.cells (rC b0 b1 b2 b3 sum pl ln) 150)):=⟨(Below.refl B w).alloc hB _,hn0⟩
 obtain ⟨v1,w1,hr1,hb1,hk1⟩:=app_src [b0,b1,b2,b3] w.heap.size 4 (h.later hb0) (Nat.le_trans hB hb0.size) (by simp) (by simp;omega) (fun j u hu=>by
  rw [k0.cell j]
  match j,hu with
  | 0,hu=>exact hu
  | 1,hu=>exact hu
  | 2,hu=>exact hu
  | 3,hu=>exact hu
  | j+4,hu=>cases hu) (by simp)
 have K1:=k0.nb hk1.nb tr_ne
 have HR1:=hide hr1
 have HB1:=hide hb1
 have HK1:=hide (hkb0.trans hk1)
 have c4:=K1.cell 4
 have c5:=K1.cell 5
 have c6:=K1.cell 6
 simp at c4 c5 c6
 have CA:=hide (fun (v:Value) (ys:List UInt8) (x:Int) w'=>appendNumber_any v ys x 4 B w' (by omega))
 have i0:=ix3_0
 have i1:=ix3_1
 have i2:=ix3_2
 clear hr1 hb1 hk1 K1 h hb0 k0 hn0 hkb0
 go_enter Tryz.func110,Tryz.ntmps110
 go_wp2_with (at_builtin;refine Lib.wpList_append_run _ rfl _ _ _ _ rfl _ _ rfl rfl _ _ HR1.out ?_)
 refine wp_loop_rounds 4 ?_
 rw [rounds_succ]
 go_wp2_with fail
 refine (CA.out _ _ _ _ ?_ ?_ HB1.out (Nat.le_trans hB HK1.out.size) (by simp;omega)).mono ?_
 ·omega
 ·omega
 rintro e w2 ⟨v2,rfl,hb2,hk2⟩
 have HB2:=hide hb2
 have HK2:=hide (HK1.out.trans hk2)
 clear hb2 hk2
 go_wp2_with fail
 rw [rounds_succ]
 go_wp2_with fail
 refine (CA.out _ _ _ _ ?_ ?_ HB2.out (Nat.le_trans hB HK2.out.size) (by simp [nbT_len];omega)).mono ?_
 ·omega
 ·omega
 rintro e w3 ⟨v3,rfl,hb3,hk3⟩
 have HB3:=hide hb3
 have HK3:=hide (HK2.out.trans hk3)
 clear hb3 hk3
 go_wp2_with fail
 rw [rounds_succ]
 go_wp2_with fail
 refine (CA.out _ _ _ _ ?_ ?_ HB3.out (Nat.le_trans hB HK3.out.size) (by simp [nbT_len];omega)).mono ?_
 ·omega
 ·omega
 rintro e w4 ⟨v4,rfl,hb4,hk4⟩
 have HB4:=hide hb4
 have HK4:=hide (HK3.out.trans hk4)
 clear hb4 hk4
 go_wp2_with fail
 rw [rounds_succ]
 go_wp2_with fail
 go_ret
 exact ⟨_,rfl,HB4.out,HK4.out⟩
theorem copy_row {w:World} {B B2 g cap n p cap2 q:Nat} {v2:Value} {A M D zs:List UInt8} (h:BRow w B (.slice (some ⟨g,0,none⟩) n cap) (A++(M++D))) (hn:(A++(M++D)).length=n) (hp:A.length=p) (hM:M.length=zs.length) (hq:n - p=q) (hz:0 < zs.length)
  (h2:BRow w B2 v2 zs) :
  ∃w2,(Builtin.copy_ #[97,97] 3 #[.slice (some ⟨g,p,none⟩) q cap2,v2]).run Tryz.prog w=.ok (goInt zs.length) w2∧BRow w2 B (.slice (some ⟨g,0,none⟩) n cap) (A++(zs++D))∧w2.heap.size=w.heap.size∧(∀k,k≠g→w2.heap[k]?=w.heap[k]?)∧w2.os=w.os∧w2.tape=w.tape∧w2.output=w.output:=by
 obtain ⟨i0,hi,hz0,hz1,hz2⟩:=info_parts5 info_u8
 unfold BRow at h
 rw [hn] at h
 obtain ⟨hxl,⟨h0,_⟩ | ⟨g',cap',cur,hv,hbg,hgc,hnc,hcm,hcs,htake⟩⟩:=h
 ·cases h0
 injection hv with hv1 hv2 hv3
 injection hv1 with hv1
 injection hv1 with hv1
 subst hv1
 subst hv3
 have h2':=h2
 obtain ⟨_,⟨_,h20⟩ | ⟨g2,cap3,cur2,hv2,_,hg2,_⟩⟩:=h2'
 ·omega
 subst hv2
 simp only [List.length_append] at hn
 have hr:=run_copy_row (P:=Tryz.prog) w 97 97 3 5 g p q cap2 ⟨g2,0,none⟩ zs.length cap3 cur 5 (zs.map bcell) Tryz.underlying97 (by rw [hi];simp [hz1]) hgc (by rw [List.length_map];exact (Nat.min_eq_left (by omega)).symm)
  (fun j u hu=>by
   have hjl:j < zs.length:=by have:=(List.getElem?_eq_some_iff.1 hu).1;simpa using this
   rw [Go.WideShapes.add_plain,Nat.zero_add,World.ownsRow.cellAt h2 j (by omega)];exact hu) (by rw [List.length_map,hcs];omega) (bcells_one _)
 rw [List.length_map] at hr
 refine ⟨_,hr,?_,by simp,fun k hk=>setRow_other _ _ _ _ hk,rfl,rfl,rfl⟩
 unfold BRow
 have hln:(A++(zs++D)).length=n:=by simp;omega
 rw [hln]
 refine ⟨by rw [List.length_map,hln];omega,Or.inr ⟨g,cap,_,rfl,hbg,setRow_heap _ _ _ _ _ _ hgc,hnc,hcm,?_,?_⟩⟩
 ·simp;rw [hcs];omega
 ·rw [Nat.mul_one] at htake ⊢
  have e1:cur.toList.take p=A.map bcell:=by
   have:=congrArg (List.take p) htake
   rw [List.take_take,Nat.min_eq_left (by omega),List.map_append,List.take_left' (by simp [hp])] at this
   exact this
  have e2:(cur.toList.drop (p+zs.length)).take (n - (p+zs.length))=D.map bcell:=by
   have:=congrArg (List.drop (p+zs.length)) htake
   rw [List.drop_take,List.map_append,List.map_append,←List.append_assoc,List.drop_left' (by simp;omega)] at this
   exact this
  rw [List.toList_toArray,e1]
  have hl1:(A.map bcell++zs.map bcell).length=p+zs.length:=by simp;omega
  rw [List.take_append,hl1,List.take_of_length_le (by rw [hl1];omega),e2,List.map_append,List.map_append,List.append_assoc]
end Go.Proofs.YtpaadbnlhapdbaaGreatDoor.S8
