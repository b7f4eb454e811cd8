/-
  Joined: S8Sml.
-/
import Derived.Deep.RegionHeld3
import Derived.Lib.MinMax
import Derived.Lib.SmallJoins
import Derived.Test.YtpaadbnlhapdbaaGreatDoorL10
namespace Go.Proofs.YtpaadbnlhapdbaaGreatDoor.S8
open Go.RowKit Go.Deep
set_option linter.unusedVariables false
section
variable {P:Program} {md:Region.Mode} {ops:Array Oper} {Q:Exit→Act→World→Prop} {S:World→Prop}
theorem takeW {i d:Nat} {oi:Oper} {v:Value} {fuel:Nat} {listed:Array Bool} {a:Act} {w:World} (hi:ops[i]?=some oi) (hd:oi.dst=some d)
  (hs:Region.noSelect ops=true) (hf:Region.free md ops listed i=true) (hr:(Region.ready md ops listed).contains i=true)
  (hQ:∀c a w,Q (.panic c) (a.put (some d) v) w→Q (.panic c) a w) (hw:Region.wanted oi (yielded ops a.tmps)=true) (hy:∀w,S w→(execOp a.eval oi).run P w=.ok (.value v) w) (hS:S w)
  (h:wpAnyH P md ops Q S fuel (listed.setIfInBounds i true) (a.put (some d) v) w):wpAnyH P md ops Q S (fuel+1) listed a w:=
 wpAnyH_take hi hs hf hr (by rw [hd];exact hQ) (Or.inl ⟨hw,hy⟩) hS (by rw [hd];exact h)
theorem takeN {i d:Nat} {oi:Oper} {fuel:Nat} {listed:Array Bool} {a:Act} {w:World} (hi:ops[i]?=some oi) (hd:oi.dst=some d)
  (hs:Region.noSelect ops=true) (hf:Region.free md ops listed i=true) (hr:(Region.ready md ops listed).contains i=true)
  (hQ:∀c a w,Q (.panic c) (a.put (some d) undef) w→Q (.panic c) a w) (hw:Region.wanted oi (yielded ops a.tmps)=false) (hS:S w)
  (h:wpAnyH P md ops Q S fuel (listed.setIfInBounds i true) (a.put (some d) undef) w):wpAnyH P md ops Q S (fuel+1) listed a w:=
 wpAnyH_take hi hs hf hr (by rw [hd];exact hQ) (Or.inr ⟨hw,rfl⟩) hS (by rw [hd];exact h)
end
structure Rw where
 b0:UInt8
 b1:UInt8
 b2:UInt8
 b3:UInt8
 sum:Int
 pl:Int
 ln:Int
abbrev rwC (r:Rw):Array Value:=#[.int .u8 (r.b0.toNat:Int),.int .u8 (r.b1.toNat:Int),.int .u8 (r.b2.toNat:Int),.int .u8 (r.b3.toNat:Int),.int .i64 r.sum,.int .i64 r.pl,.int .i64 r.ln]
abbrev tagC (r:Rw):Array Value:=#[.int .u8 (r.b0.toNat:Int),.int .u8 (r.b1.toNat:Int),.int .u8 (r.b2.toNat:Int),.int .u8 (r.b3.toNat:Int)]
def RwOk (r:Rw):Prop:=(0≤r.sum∧r.sum≤4294967295)∧(0≤r.pl∧r.pl≤4294967295000000)∧(0≤r.ln∧r.ln≤140737488355328)
theorem _root_.Go.Proofs.YtpaadbnlhapdbaaGreatDoor.Blk.seven8 {w:World} {b:Nat} {r:Rw} {t:TypeId} (h:Blk w b (rwC r) t):w.cell? ⟨b,0,none⟩=some (.int .u8 (r.b0.toNat:Int))∧w.cell? ⟨b,1,none⟩=some (.int .u8 (r.b1.toNat:Int))∧w.cell? ⟨b,2,none⟩=some (.int .u8 (r.b2.toNat:Int))∧w.cell? ⟨b,3,none⟩=some (.int .u8 (r.b3.toNat:Int))∧w.cell? ⟨b,4,none⟩=some (.int .i64 r.sum)∧w.cell? ⟨b,5,none⟩=some (.int .i64 r.pl)∧w.cell? ⟨b,6,none⟩=some (.int .i64 r.ln):=
 ⟨h.cell 0,h.cell 1,h.cell 2,h.cell 3,h.cell 4,h.cell 5,h.cell 6⟩
theorem below_d {V a b x:World} (h:Below V.heap.size V a) (hx:Below b.heap.size b x) (e0:b.os=a.os) (e1:b.tape=a.tape) (e2:b.output=a.output) (e3:b.heap=a.heap):Below V.heap.size V x:=
 h.trans ⟨hx.os.trans e0,hx.tape.trans e1,hx.output.trans e2,e3 ▸ hx.size,fun k hk=>by rw [hx.block k (by rw [e3];exact Nat.lt_of_lt_of_le hk h.size),e3]⟩
theorem dsize_any (n:Int) (w:World) (h0:0≤n) (h1:n≤1000000000000) :
  Calls Tryz.prog 104 #[.int .i64 n] w fun e w'=>e=.returned (.int .i64 (12+16 * n))∧w'=w:=by
 go_enter Tryz.func104,Tryz.ntmps104
 go_wp2_with fail
 go_ret
 exact ⟨rfl,rfl⟩
theorem filled_any (n:Int) (w:World) (h0:0≤n) (h1:n≤281474976710656) :
  Calls Tryz.prog 105 #[.int .i64 n] w fun e w'=>e=.returned (.int .i64 ((n+3) / 4 * 4))∧w'=w:=by
 go_enter Tryz.func105,Tryz.ntmps105
 go_wp2_with fail
 go_ret
 exact ⟨rfl,rfl⟩
theorem end_any (r:Rw) (w:World) (h:RwOk r) :
  Calls Tryz.prog 115 #[.agg (rwC r)] w fun e w'=>e=.returned (.int .i64 (r.pl+r.ln))∧Below w.heap.size w w':=by
 obtain ⟨_,h1,h2⟩:=h
 obtain ⟨b0,b1,b2,b3,sum,pl,ln⟩:=r
 simp only at h1 h2
 go_enter Tryz.func115,Tryz.ntmps115
 go_wp2_with fail
 go_ret
 exact ⟨rfl,(Below.refl _ _).alloc (Nat.le_refl _) _⟩
def meetB (r q:Rw):Bool:=decide (max r.pl q.pl < min (r.pl+r.ln) (q.pl+q.ln))
set_option maxHeartbeats 2000000 in
set_option maxRecDepth 8000 in
theorem meets_any (r q:Rw) (w:World) (h:RwOk r) (h':RwOk q) :
  Calls Tryz.prog 146 #[.agg (rwC r),.agg (rwC q)] w fun e w'=>e=.returned (.bool (meetB r q))∧Below w.heap.size w w':=by
 have C1:=hide (fun w=>end_any r w h)
 have C2:=hide (fun w=>end_any q w h')
 obtain ⟨_,h1,h2⟩:=h
 obtain ⟨_,h3,h4⟩:=h'
 have hb1:Below w.heap.size w ((w.alloc (.cells (rwC r) 150)).alloc (.cells (rwC q) 150)):=((Below.refl _ _).alloc (Nat.le_refl _) _).alloc (by simp) _
 have K1:Blk ((w.alloc (.cells (rwC r) 150)).alloc (.cells (rwC q) 150)) w.heap.size (rwC r) 150:=(Blk.new w _ _).below ((Below.refl _ _).alloc (Nat.le_refl _) _)
 have K2:Blk ((w.alloc (.cells (rwC r) 150)).alloc (.cells (rwC q) 150)) (w.heap.size+1) (rwC q) 150:=by
  have:=Blk.new (w.alloc (.cells (rwC r) 150)) (rwC q) 150
  rwa [show (w.alloc (.cells (rwC r) 150)).heap.size=w.heap.size+1 by simp] at this
 have HB1:=hide hb1
 obtain ⟨V,hV⟩:∃V,V=(w.alloc (.cells (rwC r) 150)).alloc (.cells (rwC q) 150):=⟨_,rfl⟩
 rw [←hV] at HB1 K1 K2
 have KS:=hide (fun x (hx:Below V.heap.size V x)=>And.intro (K1.below hx).seven8 (K2.below hx).seven8)
 unfold meetB
 clear hb1 K1 K2
 go_enter Tryz.func146,Tryz.ntmps146
 go_wp2_with fail
 rename_i k0
 have HA:=hide k0
 clear k0
 rw [←hV]
 have HB:=hide (Below.refl V.heap.size V)
 clear hV
 go_region_held3 (fun x=>(x.cell? ⟨w.heap.size,0,none⟩=some (.int .u8 (r.b0.toNat:Int))∧x.cell? ⟨w.heap.size,1,none⟩=some (.int .u8 (r.b1.toNat:Int))∧x.cell? ⟨w.heap.size,2,none⟩=some (.int .u8 (r.b2.toNat:Int))∧x.cell? ⟨w.heap.size,3,none⟩=some (.int .u8 (r.b3.toNat:Int))∧x.cell? ⟨w.heap.size,4,none⟩=some (.int .i64 r.sum)∧x.cell? ⟨w.heap.size,5,none⟩=some (.int .i64 r.pl)∧x.cell? ⟨w.heap.size,6,none⟩=some (.int .i64 r.ln))∧(x.cell? ⟨w.heap.size+1,0,none⟩=some (.int .u8 (q.b0.toNat:Int))∧x.cell? ⟨w.heap.size+1,1,none⟩=some (.int .u8 (q.b1.toNat:Int))∧x.cell? ⟨w.heap.size+1,2,none⟩=some (.int .u8 (q.b2.toNat:Int))∧x.cell? ⟨w.heap.size+1,3,none⟩=some (.int .u8 (q.b3.toNat:Int))∧x.cell? ⟨w.heap.size+1,4,none⟩=some (.int .i64 q.sum)∧x.cell? ⟨w.heap.size+1,5,none⟩=some (.int .i64 q.pl)∧x.cell? ⟨w.heap.size+1,6,none⟩=some (.int .i64 q.ln))) (first | exact KS.out _ (below_d HB.out (Below.refl _ _) rfl rfl rfl rfl) | go_keep) ((go_at_call 115;first | (refine (C1.out _).mono ?_;rintro e x ⟨rfl,hbx⟩;replace HB:=hide (below_d HB.out hbx rfl rfl rfl rfl);clear hbx) | (refine (C2.out _).mono ?_;rintro e x ⟨rfl,hbx⟩;replace HB:=hide (below_d HB.out hbx rfl rfl rfl rfl);clear hbx)))
 all_goals
  refine HA.out _ _ ?_
  go_wp2
  go_ret
  exact ⟨rfl,below_t5 HB1.out (below_d HB.out (Below.refl _ _) rfl rfl rfl rfl)⟩
end Go.Proofs.YtpaadbnlhapdbaaGreatDoor.S8
