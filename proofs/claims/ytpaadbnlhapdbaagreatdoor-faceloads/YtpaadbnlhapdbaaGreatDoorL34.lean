/-
  Joined: F12E.
-/
import Derived.Test.YtpaadbnlhapdbaaGreatDoorL32
import Derived.Test.YtpaadbnlhapdbaaGreatDoorL33
namespace Go.Proofs.YtpaadbnlhapdbaaGreatDoor.F12
open Go.RowKit Go.Deep
set_option linter.unusedVariables false
set_option linter.unusedSimpArgs false
def ckV (m:Mt) (gs:List ByteArray) (cs:List C11.Ch):Int:=
 if goodB m then (if gs.length=m.ad.length then (match cpV gs with | none=>100 | some pss=>if deepB pss then 101 else if C11.gooB cs (gs.length:Int) then 0 else 110) else 100) else 90
theorem cp_bd {gs:List ByteArray} {pss:List (List Nat)} (h:cpV gs=some pss):pss.length=gs.length∧∀ps∈pss,ps.length≤1000000∧∀p∈ps,p < gs.length:=by
 unfold cpV at h
 split at h
 ·rename_i ho
  injection h with h
  subst h
  refine ⟨by simp,fun ps hps=>?_⟩
  obtain ⟨i,hi,rfl⟩:=List.mem_map.1 hps
  unfold okC at ho
  have h1:=List.all_eq_true.1 ho i hi
  obtain ⟨q,hq⟩:=Option.isSome_iff_exists.1 h1
  have e:qf gs i=q:=by unfold qf;rw [hq];rfl
  rw [e]
  refine ⟨?_,gp_bd hq⟩
  unfold gpV at hq
  split at hq
  ·rename_i r ps hs
   split at hq
   ·injection hq with hq
    rw [←hq]
    unfold G10.prV
    rw [List.length_map]
    have:=(G10.shV_bd hs).2.2
    omega
   ·cases hq
  ·cases hq
 ·cases h
set_option maxRecDepth 8000 in
set_option maxHeartbeats 8000000 in
theorem check_any (m:Mt) (aa ab ga ca:Option Addr) (na nb ng nc ka kb kg kc:Nat) (gs:List ByteArray) (cs:List C11.Ch) (w:World) (hna:m.ad.length=na) (hnb:m.be.length=nb) (hng:gs.length=ng) (hnc:cs.length=nc) (hma:na≤1000000) (hmb:nb≤1000000) (hmg:ng≤1000000) (hmc:nc≤1000000) (hz:∀g∈gs,g.size≤1000000) (hA:Lst w aa m.ad) (hB:Lst w ab m.be) (hG:G10.SLst w ga gs) (hC:C11.CLst w ca cs) :
  Calls Tryz.prog 27 #[.agg (fcs m (.slice aa na ka) (.slice ab nb kb) (.slice ga ng kg) (.slice ca nc kc))] w fun e w'=>e=.returned (.int .i64 (ckV m gs cs))∧Below w.heap.size w w':=by
 have hma':(na:Int)≤1000000:=by omega
 have hmg':(ng:Int)≤1000000:=by omega
 have bw:=(Below.refl w.heap.size w).alloc (Nat.le_refl _) (.cells (fcs m (.slice aa na ka) (.slice ab nb kb) (.slice ga ng kg) (.slice ca nc kc)) 30)
 have k1:=Blk.new w (fcs m (.slice aa na ka) (.slice ab nb kb) (.slice ga ng kg) (.slice ca nc kc)) 30
 have CG:=hide (good_any m aa ab na nb ka kb _ hna hnb hma hmb (hA.below bw) (hB.below bw))
 have CP:=hide (fun (u:World) (hu:Below w.heap.size w u) (h:ng≤4096)=>comp_any ga ng kg gs u hng h hz (hG.below hu))
 have CD:=hide (fun (p:Option Addr) (c:Nat) (pss:List (List Nat)) (u:World) (h1:1≤ng) (h2:ng≤4096) (hp:cpV gs=some pss) (hL:PLst u p pss)=>tooDeep_any p ng c pss u (by rw [(cp_bd hp).1];exact hng) h1 h2 (by rw [←hng];exact (cp_bd hp).2) hL)
 have CC:=hide (fun (u:World) (hu:Below w.heap.size w u)=>C11.good_any ca cs nc kc (ng:Int) u hnc (by omega) ⟨by omega,by omega⟩ (hC.below hu))
 have HIN:=hide (fun h:goodB m=true=>good_in h)
 have E:=hide (show ckV m gs cs=if goodB m then (if ng=na then (match cpV gs with | none=>100 | some pss=>if deepB pss then 101 else if C11.gooB cs (ng:Int) then 0 else 110) else 100) else 90 by unfold ckV;rw [hna,hng])
 have HNA:=hide hna
 generalize ckV m gs cs=R at E ⊢
 obtain ⟨gb,hgb⟩:∃gb,goodB m=gb:=⟨_,rfl⟩
 rw [hgb] at CG E HIN
 obtain ⟨up,sc,de,gap,b0,b1,b2,b3,lg,ad,be⟩:=m
 have HB1:=hide bw
 have HK1:=hide k1
 clear hna hnb hng hnc hz hA hB hG hC bw k1 hgb
 simp only [mcs,fcs] at CG HB1 HK1 HNA HIN ⊢
 go_enter Tryz.func27,Tryz.ntmps27
 go_wp2_with fail
 refine CG.out.mono ?_
 rintro e w1 ⟨rfl,h1⟩
 have hk:=HK1.out.below h1
 have e9:=hk.cell 9
 have e11:=hk.cell 11
 have e12:=hk.cell 12
 simp at e9 e11 e12
 have xlt:=hk.lt
 have HB2:=hide (below_t5 HB1.out h1)
 have HK2:=hide hk
 clear h1 hk HB1 HK1
 cases gb with
 | false=>
  have E0:=E.out
  simp only [↓reduceIte,Bool.false_eq_true] at E0
  subst E0
  go_wp2_with fail
  go_ret
  exact ⟨rfl,HB2.out⟩
 | true=>
  by_cases hne:ng=na
  case neg=>
   have E0:=E.out
   simp only [↓reduceIte,Bool.false_eq_true,hne] at E0
   subst E0
   have hne1:((ng:Int) == (na:Int))=false:=by rw [beq_eq_false_iff_ne];omega
   have hne2:(ng:Int)≠(na:Int):=by omega
   go_wp2_with fail
   go_ret
   exact ⟨rfl,HB2.out⟩
  subst hne
  have h4:1≤ng∧ng≤4096:=by have:=(HIN.out rfl).2.2.2.1;have:=HNA.out;omega
  have CP1:=hide (CP.out w1 HB2.out h4.2)
  have hne1:((ng:Int) == (ng:Int))=true:=by simp
  go_wp2_with fail
  refine CP1.out.mono ?_
  rintro e w2 ⟨h2,h3⟩
  have hk:=HK2.out.below h2
  have f11:=hk.cell 11
  have f12:=hk.cell 12
  simp at f11 f12
  have xlt2:=hk.lt
  have HB3:=hide (below_t5 HB2.out h2)
  have HK3:=hide hk
  clear hk h2 e9 e11 e12 xlt HB2 HK2 CP CP1 CG
  rcases h3 with ⟨hcp,rfl⟩ | ⟨pss,hcp,g,rfl,hPL⟩
  ·have E0:=E.out
   simp only [hcp,↓reduceIte,Bool.false_eq_true] at E0
   subst E0
   clear hcp
   go_wp2_with fail
   go_ret
   exact ⟨rfl,HB3.out⟩
  ·have CD1:=hide (CD.out (some ⟨g,0,none⟩) ng pss w2 h4.1 h4.2 hcp hPL)
   have E0:=E.out
   simp only [hcp,↓reduceIte,Bool.false_eq_true] at E0
   have HE0:=hide E0
   obtain ⟨db,hdb⟩:∃d,deepB pss=d:=⟨_,rfl⟩
   rw [hdb] at CD1 HE0
   clear hcp hPL E0 E hdb CD
   go_wp2_with fail
   refine CD1.out.mono ?_
   rintro e w3 ⟨rfl,h3⟩
   have hk:=HK3.out.below h3
   have f11:=hk.cell 11
   have f12:=hk.cell 12
   simp at f11 f12
   have xlt3:=hk.lt
   have HB4:=hide (below_t5 HB3.out h3)
   clear hk h3 HB3 HK3
   cases db with
   | true=>
    have E0:=HE0.out
    simp only [↓reduceIte,Bool.false_eq_true] at E0
    subst E0
    go_wp2_with fail
    go_ret
    exact ⟨rfl,HB4.out⟩
   | false=>
    have CC1:=hide (CC.out w3 HB4.out)
    obtain ⟨cb,hcb⟩:∃d,C11.gooB cs (ng:Int)=d:=⟨_,rfl⟩
    rw [hcb] at CC1 HE0
    clear hcb CC
    go_wp2_with fail
    refine CC1.out.mono ?_
    rintro e w4 ⟨rfl,h4'⟩
    have HB5:=hide (below_t5 HB4.out h4')
    clear h4'
    cases cb with
    | true=>
     have E0:=HE0.out
     simp only [↓reduceIte,Bool.false_eq_true] at E0
     subst E0
     go_wp2_with fail
     go_ret
     exact ⟨rfl,HB5.out⟩
    | false=>
     have E0:=HE0.out
     simp only [↓reduceIte,Bool.false_eq_true] at E0
     subst E0
     go_wp2_with fail
     go_ret
     exact ⟨rfl,HB5.out⟩
end Go.Proofs.YtpaadbnlhapdbaaGreatDoor.F12
