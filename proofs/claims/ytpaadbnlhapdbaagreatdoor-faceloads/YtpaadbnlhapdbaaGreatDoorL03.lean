/-
  Joined: Hide, S8P, M9P, G10P, C11P.
-/
import Derived.WalkKit
namespace Go.Proofs.YtpaadbnlhapdbaaGreatDoor
open Go.RowKit
theorem hide {p:Prop} (h:p):Hid p:=h
end Go.Proofs.YtpaadbnlhapdbaaGreatDoor
namespace Go.Proofs.YtpaadbnlhapdbaaGreatDoor.S8
def sumA:List UInt8→Nat→Nat
 | [],_=>0
 | c :: r,i=>c.toNat * 2 ^ (24 - 8 * (i % 4))+sumA r (i+1)
def sumV (l:List UInt8):Nat:=sumA l 0 % 4294967296
theorem sumA_append:∀(a b:List UInt8) (i:Nat),sumA (a++b) i=sumA a i+sumA b (i+a.length)
 | [],b,i=>by simp [sumA]
 | c :: r,b,i=>by
  rw [List.cons_append,sumA,sumA,sumA_append r b (i+1),List.length_cons,show i+1+r.length=i+(r.length+1) by omega]
  omega
theorem sumV_lt (l:List UInt8):sumV l < 4294967296:=Nat.mod_lt _ (by omega)
def padT (l:List UInt8):List UInt8:=l++List.replicate ((4 - l.length % 4) % 4) 0
theorem sumA_snoc (l:List UInt8) (c:UInt8):sumA (l++[c]) 0=sumA l 0+c.toNat * 2 ^ (24 - 8 * (l.length % 4)):=by
 rw [sumA_append];simp [sumA]
end Go.Proofs.YtpaadbnlhapdbaaGreatDoor.S8
namespace Go.Proofs.YtpaadbnlhapdbaaGreatDoor
def bt (l:List UInt8) (k:Nat):Nat:=(l.getD k 0).toNat
def n2 (l:List UInt8) (k:Nat):Nat:=bt l k * 256+bt l (k+1)
def s2 (l:List UInt8) (k:Nat):Int:=if n2 l k < 32768 then (n2 l k:Int) else (n2 l k:Int) - 65536
theorem bt_lt (l:List UInt8) (k:Nat):bt l k < 256:=by unfold bt;exact UInt8.toNat_lt _
theorem n2_lt (l:List UInt8) (k:Nat):n2 l k < 65536:=by
 have h1:=bt_lt l k;have h2:=bt_lt l (k+1);unfold n2;omega
theorem s2_bd (l:List UInt8) (k:Nat):-32768≤s2 l k∧s2 l k≤32767:=by
 have h:=n2_lt l k
 unfold s2
 split <;> omega
def wiB (lo hi:Int) (zs:List Int):Bool:=zs.all fun x=>decide (lo≤x) && decide (x≤hi)
theorem wiB_one (lo hi x:Int):wiB lo hi [x]=(decide (lo≤x) && decide (x≤hi)):=by simp [wiB]
theorem wiB_at {lo hi:Int} {zs:List Int} (h:wiB lo hi zs=true) {k:Nat} (hk:k < zs.length):lo≤zs.getD k 0∧zs.getD k 0≤hi:=by
 unfold wiB at h
 rw [List.all_eq_true] at h
 have:=h zs[k] (List.getElem_mem hk)
 rw [List.getD_eq_getElem?_getD,List.getElem?_eq_getElem hk]
 simpa using this
theorem wiB_not {lo hi:Int} {zs:List Int} {k:Nat} (hk:k < zs.length) (h:¬(lo≤zs.getD k 0∧zs.getD k 0≤hi)):wiB lo hi zs=false:=by
 cases e:wiB lo hi zs with
 | false=>rfl
 | true=>exact absurd (wiB_at e hk) h
theorem wiB_of {lo hi:Int} {zs:List Int} (h:∀k,k < zs.length→lo≤zs.getD k 0∧zs.getD k 0≤hi):wiB lo hi zs=true:=by
 unfold wiB
 rw [List.all_eq_true]
 intro x hx
 obtain ⟨k,hk,rfl⟩:=List.getElem_of_mem hx
 have:=h k hk
 rw [List.getD_eq_getElem?_getD,List.getElem?_eq_getElem hk] at this
 simpa using this
end Go.Proofs.YtpaadbnlhapdbaaGreatDoor
namespace Go.Proofs.YtpaadbnlhapdbaaGreatDoor.G10
set_option linter.unusedVariables false
def n4 (l:List UInt8) (k:Nat):Nat:=n2 l k * 65536+n2 l (k+2)
theorem n4_lt (l:List UInt8) (k:Nat):n4 l k < 4294967296:=by
 have h1:=n2_lt l k;have h2:=n2_lt l (k+2);unfold n4;omega
def hb (f m:Nat):Bool:=!decide (f &&& m=0)
def wid (f one non:Nat):Nat:=if hb f one then 1 else if hb f non then 0 else 2
def wxy (f:Nat):Nat:=wid f 2 16+wid f 4 32
theorem wid_le (f a b:Nat):wid f a b≤2:=by unfold wid;split <;> (try split) <;> omega
theorem wxy_le (f:Nat):wxy f≤4:=by have:=wid_le f 2 16;have:=wid_le f 4 32;unfold wxy;omega
def flg (l:List UInt8) (N:Nat):Nat→Nat→Nat→Nat→Option (Nat × Nat)
 | 0,left,a,z=>if left=0 then some (a,z) else none
 | m+1,left,a,z=>
  if left=0 then some (a,z) else
  if a < N then
   if hb (bt l a) 8 then
    if a+1 < N then
     if bt l (a+1)+1≤left then flg l N m (left - (bt l (a+1)+1)) (a+2) (z+(bt l (a+1)+1) * wxy (bt l a)) else none
    else none
   else flg l N m (left - 1) (a+1) (z+wxy (bt l a))
  else none
theorem flg_zero (l:List UInt8) (N m a z:Nat):flg l N m 0 a z=some (a,z):=by cases m <;> simp [flg]
theorem flg_end (l:List UInt8) (N m left a z:Nat) (h:left≠0) (ha:¬a < N):flg l N m left a z=none:=by cases m <;> simp [flg,h,ha]
theorem flg_one (l:List UInt8) (N m left a z:Nat) (h:left≠0) (ha:a < N) (hb8:hb (bt l a) 8=false):flg l N (m+1) left a z=flg l N m (left - 1) (a+1) (z+wxy (bt l a)):=by
 simp [flg,h,ha,hb8]
theorem flg_short (l:List UInt8) (N m left a z:Nat) (h:left≠0) (hb8:hb (bt l a) 8=true) (ha1:¬a+1 < N):flg l N m left a z=none:=by
 cases m
 ·simp [flg,h]
 ·simp [flg,h,hb8,ha1]
theorem flg_many (l:List UInt8) (N m left a z:Nat) (h:left≠0) (hb8:hb (bt l a) 8=true) (ha1:a+1 < N) (hk:bt l (a+1)+1≤left):flg l N (m+1) left a z=flg l N m (left - (bt l (a+1)+1)) (a+2) (z+(bt l (a+1)+1) * wxy (bt l a)):=by
 have : a < N:=by omega
 simp [flg,h,hb8,ha1,this]
 omega
theorem flg_over (l:List UInt8) (N m left a z:Nat) (h:left≠0) (hb8:hb (bt l a) 8=true) (hk:¬bt l (a+1)+1≤left):flg l N m left a z=none:=by
 cases m
 ·simp [flg,h]
 ·simp [flg,h,hb8]
  omega
theorem flg_bd (l:List UInt8) (N:Nat):∀(m left a z:Nat) (r:Nat × Nat),flg l N m left a z=some r→a≤r.1∧(a≤N→r.1≤N)∧r.2≤z+4 * left:=by
 intro m
 induction m with
 | zero=>
  intro left a z r h
  by_cases h0:left=0
  ·simp [flg,h0] at h;subst h;omega
  ·simp [flg,h0] at h
 | succ m ih=>
  intro left a z r h
  by_cases h0:left=0
  ·simp [flg,h0] at h;subst h;omega
  by_cases ha:a < N
  ·cases h8:hb (bt l a) 8
   ·rw [flg_one l N m left a z h0 ha h8] at h
    have:=ih _ _ _ _ h
    have:=wxy_le (bt l a)
    omega
   ·by_cases ha1:a+1 < N
    ·by_cases hk:bt l (a+1)+1≤left
     ·rw [flg_many l N m left a z h0 h8 ha1 hk] at h
      have h1:=ih _ _ _ _ h
      have h2:(bt l (a+1)+1) * wxy (bt l a)≤(bt l (a+1)+1) * 4:=Nat.mul_le_mul_left _ (wxy_le _)
      omega
     ·rw [flg_over l N _ left a z h0 h8 hk] at h;cases h
    ·rw [flg_short l N _ left a z h0 h8 ha1] at h;cases h
  ·rw [flg_end l N _ left a z h0 ha] at h;cases h
def riseB (l:List UInt8) (c:Nat):Bool:=(List.range (c - 1)).all fun i=>decide (n2 l (10+2 * i) < n2 l (12+2 * i))
theorem rise_iff (l:List UInt8) (c:Nat):riseB l c=true↔∀i,i+1 < c→n2 l (10+2 * i) < n2 l (12+2 * i):=by
 unfold riseB
 rw [List.all_eq_true]
 constructor
 ·intro h i hi
  simpa using h i (by simp;omega)
 ·intro h i hi
  simp at hi
  simpa using h i (by omega)
def tailB (l:List UInt8) (a:Nat):Bool:=decide (a≤l.length) && (l.drop a).all (fun c=>c.toNat == 0)
def simV (l:List UInt8) (c:Nat):Option Nat:=
 if 12+2 * c≤l.length∧riseB l c=true then
  match flg l l.length (n2 l (8+2 * c)+1) (n2 l (8+2 * c)+1) (12+2 * c+n2 l (10+2 * c)) 0 with
  | none=>none
  | some (a,z)=>if tailB l (a+z) then some (n2 l (8+2 * c)+1) else none
 else none
def mtx (f:Nat):Option Nat:=if f &&& 200=8 then some 2 else if f &&& 200=64 then some 4 else if f &&& 200=128 then some 8 else if f &&& 200=0 then some 0 else none
def offs (f:Nat):Nat:=if hb f 1 then 4 else 2
theorem mtx_le {f k:Nat} (h:mtx f=some k):k≤8:=by
 unfold mtx at h
 repeat' split at h
 all_goals first | (cases h;done) | (injection h;omega)
theorem offs_bd (f:Nat):2≤offs f∧offs f≤4:=by unfold offs;split <;> omega
def cmpA (l:List UInt8) (N:Nat):Nat→Nat→List Nat→Option (List Nat × Nat)
 | 0,_,_=>none
 | m+1,a,acc=>
  if a+4≤N then
   match mtx (n2 l a) with
   | none=>none
   | some k=>
    if a+4+offs (n2 l a)+k≤N then
     if hb (n2 l a) 32 then cmpA l N m (a+4+offs (n2 l a)+k) (acc++[a+2])
     else if hb (n2 l a) 256 then
      if a+4+offs (n2 l a)+k+2≤N∧a+4+offs (n2 l a)+k+2+n2 l (a+4+offs (n2 l a)+k)≤N then some (acc++[a+2],a+4+offs (n2 l a)+k+2+n2 l (a+4+offs (n2 l a)+k)) else none
     else some (acc++[a+2],a+4+offs (n2 l a)+k)
    else none
  else none
def comV (l:List UInt8):Option (List Nat):=
 match cmpA l l.length 64 10 [] with
 | none=>none
 | some (ps,e)=>if tailB l e then some ps else none
def shV (l:List UInt8):Option (Nat × List Nat):=
 if l.length=0 then some (0,[])
 else if l.length < 10 then none
 else if n2 l 0=65535 then (comV l).map fun ps=>(0,ps)
 else if 1≤n2 l 0∧n2 l 0≤32767 then (simV l (n2 l 0)).map fun p=>(p,[])
 else none
theorem cmp_bd (l:List UInt8) (N:Nat):∀(m a:Nat) (acc:List Nat) (r:List Nat × Nat),cmpA l N m a acc=some r→(∀x∈acc,x+2≤N)→(∀x∈r.1,x+2≤N)∧r.1.length≤acc.length+m∧r.2≤N:=by
 intro m
 induction m with
 | zero=>intro a acc r h;simp [cmpA] at h
 | succ m ih=>
  intro a acc r h hacc
  unfold cmpA at h
  split at h
  case isFalse=>cases h
  case isTrue h4=>
   have hacc':∀x∈acc++[a+2],x+2≤N:=by
    intro x hx
    rcases List.mem_append.1 hx with hx | hx
    ·exact hacc x hx
    ·simp at hx;omega
   split at h
   case h_1=>cases h
   case h_2 k hk=>
    split at h
    case isFalse=>cases h
    case isTrue hN=>
     split at h
     case isTrue=>
      have:=ih _ _ _ h hacc'
      simp at this
      exact ⟨this.1,by omega,this.2.2⟩
     case isFalse=>
      split at h
      case isTrue=>
       split at h
       case isTrue hh=>injection h with h;subst h;exact ⟨hacc',by simp,hh.2⟩
       case isFalse=>cases h
      case isFalse=>injection h with h;subst h;exact ⟨hacc',by simp,hN⟩
theorem shV_bd {l:List UInt8} {p:Nat} {ps:List Nat} (h:shV l=some (p,ps)):p≤65536∧(∀x∈ps,x+2≤l.length)∧ps.length≤64:=by
 unfold shV at h
 split at h
 ·injection h with h;injection h with h1 h2;subst h1;subst h2;simp
 split at h
 ·cases h
 split at h
 ·unfold comV at h
  split at h
  ·simp at h
  ·rename_i ps' e hc
   split at h
   ·simp at h
    obtain ⟨rfl,rfl⟩:=h
    have:=cmp_bd l _ _ _ _ _ hc (by simp)
    simp at this
    exact ⟨by omega,this.1,this.2.1⟩
   ·simp at h
 split at h
 ·unfold simV at h
  have hn:=n2_lt l (8+2 * n2 l 0)
  split at h
  ·split at h
   ·simp at h
   ·split at h
    ·simp at h
     obtain ⟨rfl,rfl⟩:=h
     simp
     omega
    ·simp at h
  ·simp at h
 ·cases h
theorem and_mod (f m:Nat) (hm:m < 256):f &&& m=(f % 256) &&& m:=by
 apply Nat.eq_of_testBit_eq
 intro i
 rw [Nat.testBit_and,Nat.testBit_and,show (256:Nat)=2 ^ 8 from rfl,Nat.testBit_mod_two_pow]
 by_cases hi:i < 8
 ·simp [hi]
 ·have : m.testBit i=false:=Nat.testBit_lt_two_pow (Nat.lt_of_lt_of_le hm (by
   have : 2 ^ 8≤2 ^ i:=Nat.pow_le_pow_right (by omega) (by omega)
   simpa using this))
  simp [this]
def mtxB (a b c:Bool):Option Nat:=if a then (if b || c then none else some 2) else if b then (if c then none else some 4) else if c then some 8 else some 0
theorem mtx_256:∀x,x < 256→mtx x=mtxB (hb x 8) (hb x 64) (hb x 128):=by decide +kernel
theorem mtx_bits (f:Nat):mtx f=mtxB (hb f 8) (hb f 64) (hb f 128):=by
 have h:=mtx_256 (f % 256) (Nat.mod_lt _ (by omega))
 unfold mtx hb at *
 rw [and_mod f 200 (by omega),and_mod f 8 (by omega),and_mod f 64 (by omega),and_mod f 128 (by omega)]
 exact h
def numV (l:List UInt8):Nat:=l.foldl (fun x c=>x * 256+c.toNat) 0
theorem numV_snoc (l:List UInt8) (c:UInt8):numV (l++[c])=numV l * 256+c.toNat:=by simp [numV]
theorem numV_lt:∀(l:List UInt8),numV l < 256 ^ l.length:=by
 intro l
 rw [←List.reverse_reverse l]
 generalize l.reverse=r
 induction r with
 | nil=>simp [numV]
 | cons c r ih=>
  rw [List.reverse_cons,numV_snoc,List.length_append,List.length_singleton,Nat.pow_succ]
  have:=c.toNat_lt
  omega
end Go.Proofs.YtpaadbnlhapdbaaGreatDoor.G10
namespace Go.Proofs.YtpaadbnlhapdbaaGreatDoor.C11
set_option linter.unusedVariables false
def n4 (l:List UInt8) (k:Nat):Nat:=n2 l k * 65536+n2 l (k+2)
theorem n4_lt (l:List UInt8) (k:Nat):n4 l k < 4294967296:=by
 have h1:=n2_lt l k;have h2:=n2_lt l (k+2);unfold n4;omega
def isP (c:Int):Bool:=decide (0≤c∧c≤1114111∧¬(55296≤c∧c≤57343))
theorem isP_t {c:Int}:isP c=true↔(0≤c∧c≤1114111∧¬(55296≤c∧c≤57343)):=by unfold isP;exact decide_eq_true_iff
theorem isP_f {c:Int}:isP c=false↔¬(0≤c∧c≤1114111∧¬(55296≤c∧c≤57343)):=by unfold isP;exact decide_eq_false_iff_not
structure Ch where
 f:Int
 l:Int
 g:Int
def c0:Ch:=⟨0,0,0⟩
def hpB (x:Ch):Bool:=isP x.f && isP x.l && (decide (x.f < 55296) == decide (x.l < 55296))
def fitB (x:Ch) (n:Int):Bool:=decide (x.f≤x.l∧0≤x.f∧x.l≤1114111∧¬(x.f≤57343∧55296≤x.l)∧1≤x.g∧x.g < n∧x.l - x.f < n - x.g)
theorem fitB_hp {x:Ch} {n:Int}:fitB x n=true↔(x.f≤x.l∧hpB x=true∧1≤x.g∧x.g < n∧x.l - x.f < n - x.g):=by
 unfold fitB hpB
 rw [decide_eq_true_iff,Bool.and_eq_true,Bool.and_eq_true,isP_t,isP_t,beq_iff_eq,decide_eq_decide]
 constructor
 ·intro h;refine ⟨by omega,⟨⟨by omega,by omega⟩,by omega⟩,by omega,by omega,by omega⟩
 ·rintro ⟨h1,⟨⟨h2,h3⟩,h4⟩,h5,h6,h7⟩;refine ⟨by omega,by omega,by omega,by omega,by omega,by omega,by omega⟩
theorem fitB_t {x:Ch} {n:Int}:fitB x n=true↔(x.f≤x.l∧0≤x.f∧x.l≤1114111∧¬(x.f≤57343∧55296≤x.l)∧1≤x.g∧x.g < n∧x.l - x.f < n - x.g):=by unfold fitB;exact decide_eq_true_iff
theorem fitB_f {x:Ch} {n:Int}:fitB x n=false↔¬(x.f≤x.l∧0≤x.f∧x.l≤1114111∧¬(x.f≤57343∧55296≤x.l)∧1≤x.g∧x.g < n∧x.l - x.f < n - x.g):=by unfold fitB;exact decide_eq_false_iff_not
def goB (x:Ch) (c g:Int):Bool:=decide (c=x.l+1∧g=x.g+x.l - x.f+1)
theorem goB_t {x:Ch} {c g:Int}:goB x c g=true↔(c=x.l+1∧g=x.g+x.l - x.f+1):=by unfold goB;exact decide_eq_true_iff
theorem goB_f {x:Ch} {c g:Int}:goB x c g=false↔¬(c=x.l+1∧g=x.g+x.l - x.f+1):=by unfold goB;exact decide_eq_false_iff_not
def nxB (x y:Ch):Bool:=!(decide (y.f≤x.l) || goB x y.f y.g)
def okB (cs:List Ch) (n:Int) (i:Nat):Bool:=fitB (cs.getD i c0) n && (decide (i=0) || nxB (cs.getD (i - 1) c0) (cs.getD i c0))
def gooB (cs:List Ch) (n:Int):Bool:=decide (cs.length≤4096) && (List.range cs.length).all (okB cs n)
theorem gooB_iff {cs:List Ch} {n:Int}:gooB cs n=true↔cs.length≤4096∧∀i,i < cs.length→okB cs n i=true:=by
 unfold gooB
 rw [Bool.and_eq_true,decide_eq_true_iff,List.all_eq_true]
 simp
theorem gooB_no {cs:List Ch} {n:Int} {i:Nat} (hi:i < cs.length) (h:okB cs n i=false):gooB cs n=false:=by
 cases e:gooB cs n with
 | false=>rfl
 | true=>rw [(gooB_iff.1 e).2 i hi] at h;cases h
theorem gooB_long {cs:List Ch} {n:Int} (h:¬cs.length≤4096):gooB cs n=false:=by
 unfold gooB;rw [decide_eq_false h];rfl
def hit (x:Ch) (c:Int):Bool:=decide (x.f≤c∧c≤x.l)
def hitV (x:Ch) (c:Int):Int:=if 1≤x.g+c - x.f∧x.g+c - x.f≤4095 then x.g+c - x.f else 0
def finV:List Ch→Int→Int
 | [],_=>0
 | x :: r,c=>if hit x c then hitV x c else finV r c
theorem finV_cons (x:Ch) (r:List Ch) (c:Int):finV (x :: r) c=if hit x c then hitV x c else finV r c:=rfl
theorem dropC (cs:List Ch) (k:Nat) (h:k < cs.length):cs.drop k=cs.getD k c0 :: cs.drop (k+1):=by
 rw [List.drop_eq_getElem_cons h,List.getD_eq_getElem?_getD,List.getElem?_eq_getElem h];rfl
def newC (cs:List Ch) (c g:Int):Option (List Ch):=if cs.length < 4096 then some (cs++[⟨c,c,g⟩]) else none
def addC (cs:List Ch) (c g:Int):Option (List Ch):=
 if g=0 then some cs else
 match cs.getLast? with
 | some x=>if goB x c g then some (cs.dropLast++[⟨x.f,c,x.g⟩]) else newC cs c g
 | none=>newC cs c g
theorem addC_zero (cs:List Ch) (c:Int):addC cs c 0=some cs:=by unfold addC;rw [if_pos rfl]
theorem addC_nil (c g:Int) (h:g≠0):addC [] c g=some [⟨c,c,g⟩]:=by
 unfold addC;rw [if_neg h];simp [newC]
theorem addC_go (cs:List Ch) (x:Ch) (c g:Int) (h:g≠0) (hg:goB x c g=true):addC (cs++[x]) c g=some (cs++[⟨x.f,c,x.g⟩]):=by
 unfold addC;rw [if_neg h];simp [hg]
theorem addC_new (cs:List Ch) (x:Ch) (c g:Int) (h:g≠0) (hg:goB x c g=false) (hl:cs.length+1 < 4096):addC (cs++[x]) c g=some (cs++[x]++[⟨c,c,g⟩]):=by
 unfold addC;rw [if_neg h];simp [hg,newC,hl]
theorem addC_full (cs:List Ch) (x:Ch) (c g:Int) (h:g≠0) (hg:goB x c g=false) (hl:¬cs.length+1 < 4096):addC (cs++[x]) c g=none:=by
 unfold addC;rw [if_neg h];simp [hg,newC,hl]
def BD (cs:List Ch):Prop:=cs.length≤4096∧∀x∈cs,0≤x.f∧x.f≤x.l∧x.l≤1114111∧1≤x.g∧x.g≤4294967296
theorem BD.nil:BD []:=⟨by simp,fun x h=>by cases h⟩
theorem BD.last {cs:List Ch} {x:Ch} (h:BD (cs++[x])):cs.length+1≤4096∧0≤x.f∧x.f≤x.l∧x.l≤1114111∧1≤x.g∧x.g≤4294967296:=by
 have h1:=h.1
 have h2:=h.2 x (by simp)
 simp at h1
 exact ⟨by omega,h2⟩
theorem BD.add {cs cs':List Ch} {c g:Int} (h:BD cs) (hc0:0≤c) (hc:c≤1114111) (hg0:0≤g) (hg:g≤4294967296) (e:addC cs c g=some cs'):BD cs':=by
 by_cases hz:g=0
 ·subst hz;rw [addC_zero] at e;cases e;exact h
 rcases List.eq_nil_or_concat cs with rfl | ⟨ini,x,rfl⟩
 ·rw [addC_nil c g hz] at e
  cases e
  refine ⟨by simp,fun y hy=>?_⟩
  simp at hy;subst hy
  exact ⟨hc0,Int.le_refl _,hc,show 1≤g by omega,hg⟩
 ·rw [List.concat_eq_append] at e h
  obtain ⟨l1,x1,x2,x3,x4,x5⟩:=h.last
  cases hgo:goB x c g
  ·by_cases hl:ini.length+1 < 4096
   ·rw [addC_new ini x c g hz hgo hl] at e
    cases e
    refine ⟨by simp;omega,fun y hy=>?_⟩
    rcases List.mem_append.1 hy with hy | hy
    ·exact h.2 y hy
    ·simp at hy;subst hy
     exact ⟨hc0,Int.le_refl _,hc,show 1≤g by omega,hg⟩
   ·rw [addC_full ini x c g hz hgo hl] at e;cases e
  ·rw [addC_go ini x c g hz hgo] at e
   cases e
   rw [goB_t] at hgo
   refine ⟨by simp;omega,fun y hy=>?_⟩
   rcases List.mem_append.1 hy with hy | hy
   ·exact h.2 y (List.mem_append.2 (Or.inl hy))
   ·simp at hy;subst hy
    exact ⟨x1,show x.f≤c by omega,hc,x4,x5⟩
def stP (cs:List Ch) (c g:Int):Option (List Ch):=if isP c then addC cs c g else some cs
theorem BD.stP {cs cs':List Ch} {c g:Int} (h:BD cs) (hg0:0≤g) (hg:g≤4294967296) (e:stP cs c g=some cs'):BD cs':=by
 unfold Go.Proofs.YtpaadbnlhapdbaaGreatDoor.C11.stP at e
 cases hp:isP c
 ·rw [hp] at e;simp at e;subst e;exact h
 ·rw [hp] at e
  rw [isP_t] at hp
  exact BD.add (c:=c) (g:=g) h (by omega) (by omega) hg0 hg (by simpa using e)
def grpF (a g:Nat) (cs:List Ch):Nat→Option (List Ch)
 | 0=>some cs
 | j+1=>(grpF a g cs j).bind fun x=>stP x ((a+j:Nat):Int) ((g+j:Nat):Int)
theorem grpF_none {a g:Nat} {cs:List Ch} {j:Nat} (h:grpF a g cs j=none):∀d,grpF a g cs (j+d)=none
 | 0=>h
 | d+1=>by rw [←Nat.add_assoc,grpF,grpF_none h d];rfl
theorem grpF_end {a g:Nat} {cs:List Ch} {j k:Nat} (h:grpF a g cs j=none) (hk:j≤k):grpF a g cs k=none:=by
 have:=grpF_none h (k - j)
 rwa [show j+(k - j)=k by omega] at this
def ga (s:List UInt8) (i:Nat):Nat:=n4 s (16+12 * i)
def gb (s:List UInt8) (i:Nat):Nat:=n4 s (20+12 * i)
def gg (s:List UInt8) (i:Nat):Nat:=n4 s (24+12 * i)
def lea (s:List UInt8):Nat→Nat
 | 0=>0
 | i+1=>gb s i+1
def okG (s:List UInt8) (n:Nat) (i:Nat):Bool:=decide (lea s i≤ga s i∧ga s i≤gb s i∧gb s i≤1114111∧gg s i+(gb s i - ga s i) < n)
def accG (s:List UInt8):Nat→Option (List Ch)
 | 0=>some []
 | i+1=>(accG s i).bind fun x=>grpF (ga s i) (gg s i) x (gb s i - ga s i+1)
theorem accG_none {s:List UInt8} {j:Nat} (h:accG s j=none):∀d,accG s (j+d)=none
 | 0=>h
 | d+1=>by rw [←Nat.add_assoc,accG,accG_none h d];rfl
def twB (s:List UInt8):Bool:=decide (16≤s.length∧s.take 4=[0,12,0,0]∧n4 s 12≤4096∧n4 s 4=16+12 * n4 s 12∧16+12 * n4 s 12≤s.length)
def twA (s:List UInt8) (n:Nat):Bool:=(List.range (n4 s 12)).all (okG s n)
def twV (s:List UInt8) (n:Nat):Option (List Ch):=if twB s && twA s n then accG s (n4 s 12) else none
theorem twB_t {s:List UInt8}:twB s=true↔(16≤s.length∧s.take 4=[0,12,0,0]∧n4 s 12≤4096∧n4 s 4=16+12 * n4 s 12∧16+12 * n4 s 12≤s.length):=by unfold twB;exact decide_eq_true_iff
theorem twA_iff {s:List UInt8} {n:Nat}:twA s n=true↔∀i,i < n4 s 12→okG s n i=true:=by
 unfold twA;rw [List.all_eq_true];simp
theorem twV_head {s:List UInt8} {n:Nat} (h:twB s=false):twV s n=none:=by unfold twV;rw [h];rfl
theorem twV_bad {s:List UInt8} {n i:Nat} (hi:i < n4 s 12) (h:okG s n i=false):twV s n=none:=by
 unfold twV
 cases e:twA s n with
 | false=>rw [Bool.and_false];rfl
 | true=>rw [twA_iff.1 e i hi] at h;cases h
theorem twV_full {s:List UInt8} {n i:Nat} (hi:i≤n4 s 12) (h:accG s i=none):twV s n=none:=by
 unfold twV
 have:=accG_none h (n4 s 12 - i)
 rw [show i+(n4 s 12 - i)=n4 s 12 by omega] at this
 rw [this];simp
theorem twV_ok {s:List UInt8} {n:Nat} (h:twB s=true) (ha:∀i,i < n4 s 12→okG s n i=true):twV s n=accG s (n4 s 12):=by
 unfold twV;rw [h,twA_iff.2 ha];rfl
def sa (s:List UInt8) (m i:Nat):Nat:=n2 s (16+2 * m+2 * i)
def sb (s:List UInt8) (i:Nat):Nat:=n2 s (14+2 * i)
def sdl (s:List UInt8) (m i:Nat):Nat:=n2 s (16+4 * m+2 * i)
def spl (m i:Nat):Nat:=16+6 * m+2 * i
def sof (s:List UInt8) (m i:Nat):Nat:=n2 s (spl m i)
def glV (s:List UInt8) (m i c:Nat):Option Nat:=
 if sof s m i=0 then some ((c+sdl s m i) % 65536) else
 if sof s m i % 2≠0∨s.length < spl m i+sof s m i+2 * (c - sa s m i)+2 then none else
 if n2 s (spl m i+sof s m i+2 * (c - sa s m i))=0 then some 0 else
 some ((n2 s (spl m i+sof s m i+2 * (c - sa s m i))+sdl s m i) % 65536)
def stS (s:List UInt8) (m n i:Nat) (cs:List Ch) (c:Nat):Option (List Ch):=
 if c=65535∨isP (c:Int)=false then some cs else
 match glV s m i c with
 | none=>none
 | some g=>if g < n then addC cs (c:Int) (g:Int) else none
def segF (s:List UInt8) (m n i:Nat) (cs:List Ch):Nat→Option (List Ch)
 | 0=>some cs
 | j+1=>(segF s m n i cs j).bind fun x=>stS s m n i x (sa s m i+j)
def leS (s:List UInt8):Nat→Nat
 | 0=>0
 | i+1=>sb s i+1
def okS (s:List UInt8) (m i:Nat):Bool:=decide (leS s i≤sa s m i∧sa s m i≤sb s i)
def accS (s:List UInt8) (m n:Nat):Nat→Option (List Ch)
 | 0=>some []
 | i+1=>(accS s m n i).bind fun x=>segF s m n i x (sb s i - sa s m i+1)
theorem accS_none {s:List UInt8} {m n j:Nat} (h:accS s m n j=none):∀d,accS s m n (j+d)=none
 | 0=>h
 | d+1=>by rw [←Nat.add_assoc,accS,accS_none h d];rfl
def foB (s:List UInt8):Bool:=decide (16≤s.length∧s.take 2=[0,4]∧n2 s 6 % 2=0∧1≤n2 s 6 / 2∧16+8 * (n2 s 6 / 2)≤n2 s 2∧n2 s 2≤s.length)
def foA (s:List UInt8) (m:Nat):Bool:=(List.range m).all (okS s m) && decide (leS s m=65536)
def foW (s:List UInt8) (m n:Nat):Option (List Ch):=if foA s m then accS s m n m else none
def foV (s:List UInt8) (n:Nat):Option (List Ch):=if foB s then foW (s.take (n2 s 2)) (n2 s 6 / 2) n else none
theorem foB_t {s:List UInt8}:foB s=true↔(16≤s.length∧s.take 2=[0,4]∧n2 s 6 % 2=0∧1≤n2 s 6 / 2∧16+8 * (n2 s 6 / 2)≤n2 s 2∧n2 s 2≤s.length):=by unfold foB;exact decide_eq_true_iff
theorem foA_iff {s:List UInt8} {m:Nat}:foA s m=true↔(∀i,i < m→okS s m i=true)∧leS s m=65536:=by
 unfold foA;rw [Bool.and_eq_true,List.all_eq_true,decide_eq_true_iff];simp
theorem foW_bad {s:List UInt8} {m n i:Nat} (hi:i < m) (h:okS s m i=false):foW s m n=none:=by
 unfold foW
 cases e:foA s m with
 | false=>rfl
 | true=>rw [(foA_iff.1 e).1 i hi] at h;cases h
theorem foW_last {s:List UInt8} {m n:Nat} (h:leS s m≠65536):foW s m n=none:=by
 unfold foW
 cases e:foA s m with
 | false=>rfl
 | true=>exact absurd (foA_iff.1 e).2 h
theorem foW_full {s:List UInt8} {m n i:Nat} (hi:i≤m) (h:accS s m n i=none):foW s m n=none:=by
 unfold foW
 have:=accS_none h (m - i)
 rw [show i+(m - i)=m by omega] at this
 rw [this];simp
theorem foW_ok {s:List UInt8} {m n:Nat} (ha:∀i,i < m→okS s m i=true) (hl:leS s m=65536):foW s m n=accS s m n m:=by
 unfold foW;rw [foA_iff.2 ⟨ha,hl⟩];rfl
def wiR (p e:Nat):Bool:=(decide (p=3) && decide (e=10)) || (decide (p=0) && decide (e=4))
def naR (p e:Nat):Bool:=(decide (p=3) && decide (e=1)) || (decide (p=0) && decide (e≤3))
def rp (l:List UInt8) (i:Nat):Nat:=n2 l (4+8 * i)
def re (l:List UInt8) (i:Nat):Nat:=n2 l (6+8 * i)
def rpl (l:List UInt8) (i:Nat):Nat:=n4 l (8+8 * i)
def fstI (p:Nat→Bool) (k:Nat):Option Nat:=(List.range k).find? p
theorem fstI_some {p:Nat→Bool} {k i:Nat} (hi:i < k) (h:p i=true) (hn:∀j,j < i→p j=false):fstI p k=some i:=by
 unfold fstI
 rw [List.find?_eq_some_iff_getElem]
 refine ⟨h,i,by simpa using hi,by simp,fun j hj=>?_⟩
 simp [hn j hj]
theorem fstI_none {p:Nat→Bool} {k:Nat} (hn:∀j,j < k→p j=false):fstI p k=none:=by
 unfold fstI
 rw [List.find?_eq_none]
 intro x hx
 rw [hn x (by simpa using hx)];simp
theorem fstI_get {p:Nat→Bool} {k i:Nat} (h:fstI p k=some i):i < k∧p i=true∧∀j,j < i→p j=false:=by
 unfold fstI at h
 rw [List.find?_eq_some_iff_getElem] at h
 obtain ⟨h1,j,hj,h2,h3⟩:=h
 simp at h2 hj
 subst h2
 exact ⟨hj,h1,fun k hk=>by have:=h3 k hk;simpa using this⟩
def rowB (l:List UInt8):Bool:=decide (4≤l.length∧l.take 2=[0,0]∧4+8 * n2 l 2≤l.length)
theorem rowB_t {l:List UInt8}:rowB l=true↔(4≤l.length∧l.take 2=[0,0]∧4+8 * n2 l 2≤l.length):=by unfold rowB;exact decide_eq_true_iff
def wiI (l:List UInt8):Option Nat:=fstI (fun i=>wiR (rp l i) (re l i)) (n2 l 2)
def naI (l:List UInt8):Option Nat:=fstI (fun i=>naR (rp l i) (re l i)) (n2 l 2)
def redW (l:List UInt8) (n:Nat):Option (List Ch):=match wiI l with
 | some i=>twV (l.drop (rpl l i)) n
 | none=>match naI l with
  | some i=>foV (l.drop (rpl l i)) n
  | none=>none
def redV (l:List UInt8) (n:Nat):Option (List Ch):=if rowB l then redW l n else none
end Go.Proofs.YtpaadbnlhapdbaaGreatDoor.C11
