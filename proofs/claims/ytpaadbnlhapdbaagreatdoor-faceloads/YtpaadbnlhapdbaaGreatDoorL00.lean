/-
  Joined: DivMath.
-/
namespace Go.Proofs.YtpaadbnlhapdbaaGreatDoor.DivMath
structure Step (B a b U d:Nat):Prop where
 ha:B≤2 * a
 hb:b < B
 hU:U < a * B+b
 hd:d < B
theorem prodY (q a b B:Nat):q * (a * B+b)=(q * a) * B+q * b:=by
 rw [Nat.mul_add,Nat.mul_assoc]
theorem Step.le {B a b U d q r:Nat} (h:Step B a b U d) (hq:q * a+r=U) (ht:q * b≤B * r+d):q≤(U * B+d) / (a * B+b):=by
 have:=h.hU
 rw [Nat.le_div_iff_mul_le (by omega),prodY]
 have e:U * B=q * a * B+B * r:=by rw [←hq,Nat.add_mul,Nat.mul_comm r B]
 omega
theorem Step.lt {B a b U d q r:Nat} (h:Step B a b U d) (hq:q * a+r=U) (ht:B * r+d < q * b):(U * B+d) / (a * B+b) < q:=by
 have:=h.hU
 rw [Nat.div_lt_iff_lt_mul (by omega),prodY]
 have e:U * B=q * a * B+B * r:=by rw [←hq,Nat.add_mul,Nat.mul_comm r B]
 omega
theorem Step.digit {B a b U d:Nat} (h:Step B a b U d):(U * B+d) / (a * B+b) < B:=by
 have:=h.hU
 have hd:=h.hd
 rw [Nat.div_lt_iff_lt_mul (by omega)]
 have : U * B+B≤(a * B+b) * B:=by
  have:=Nat.mul_le_mul_right B (show U+1≤a * B+b by omega)
  rw [Nat.add_mul,Nat.one_mul] at this
  exact this
 rw [Nat.mul_comm B]
 omega
theorem Step.start {B a b U d:Nat} (h:Step B a b U d):(U * B+d) / (a * B+b)≤U / a:=by
 have hU:=h.hU
 have hd:=h.hd
 have ha:=h.ha
 have hb:=h.hb
 rw [Nat.le_div_iff_mul_le (by omega)]
 generalize hQ:(U * B+d) / (a * B+b)=Q
 have h1:Q * (a * B+b)≤U * B+d:=by rw [←hQ];exact Nat.div_mul_le_self _ _
 rw [prodY] at h1
 have h2:Q * a * B < (U+1) * B:=by rw [Nat.add_mul,Nat.one_mul];omega
 exact Nat.lt_succ_iff.1 (Nat.lt_of_mul_lt_mul_right h2)
theorem Step.start_hi {B a b U d:Nat} (h:Step B a b U d):U / a≤B+1:=by
 have hU:=h.hU
 have ha:=h.ha
 have hb:=h.hb
 have : U / a < B+2:=by
  rw [Nat.div_lt_iff_lt_mul (by omega)]
  have e:(B+2) * a=a * B+2 * a:=by rw [Nat.add_mul,Nat.mul_comm B]
  omega
 omega
theorem Step.le_break {B a b U d q r:Nat} (h:Step B a b U d) (hq:q * a+r=U) (hqB:q≤B) (hr:B≤r):q≤(U * B+d) / (a * B+b):=by
 refine h.le hq ?_
 have hb:=h.hb
 have h1:q * b≤B * b:=Nat.mul_le_mul_right b hqB
 have h2:B * b≤B * r:=Nat.mul_le_mul_left B (by omega)
 omega
theorem Step.way {a b U d:Nat} (h:Step 4294967296 a b U d) (q r p:Nat) (hq:q * a+r=U) (hp:q * b=p)
  (r1:(U * 4294967296+d) / (a * 4294967296+b)≤q) (r2:q≤4294967297) :
  (q < 4294967296∧p≤4294967296 * r+d∧(U * 4294967296+d) / (a * 4294967296+b)=q)∨
  ((4294967296≤q∨q < 4294967296∧4294967296 * r+d < p)∧r+a < 4294967296∧(U * 4294967296+d) / (a * 4294967296+b)≤q - 1∧1≤q∧(q - 1) * a+(r+a)=U)∨
  ((4294967296≤q∨q < 4294967296∧4294967296 * r+d < p)∧4294967296≤r+a∧q=(U * 4294967296+d) / (a * 4294967296+b)+1):=by
 have hlt:=h.lt hq
 have hle:=h.le hq
 have hdg:=h.digit
 have hbr:=h.le_break (q:=q - 1) (r:=r+a)
 rw [hp] at hlt hle
 generalize (U * 4294967296+d) / (a * 4294967296+b)=Q at *
 by_cases ht:q < 4294967296∧p≤4294967296 * r+d
 ·exact Or.inl ⟨ht.1,ht.2,by have:=hle ht.2;omega⟩
 ·have hgt:Q < q:=by
   by_cases h:q < 4294967296
   ·exact hlt (by omega)
   ·omega
  have hqq:q * a=(q - 1) * a+a:=by
   obtain ⟨k,rfl⟩:∃k,q=k+1:=⟨q - 1,by omega⟩
   rw [Nat.add_sub_cancel,Nat.add_mul,Nat.one_mul]
  have HQ':(q - 1) * a+(r+a)=U:=by omega
  by_cases hra:r+a < 4294967296
  ·exact Or.inr (Or.inl ⟨by omega,hra,by omega,by omega,HQ'⟩)
  ·have:=hbr HQ' (by omega) (by omega)
   exact Or.inr (Or.inr ⟨by omega,by omega,by omega⟩)
theorem two (u1 u0 y B:Nat) (hy:0 < y) :
  (u1 * B+u0) / y=u1 / y * B+((u1 % y) * B+u0) / y∧(u1 * B+u0) % y=((u1 % y) * B+u0) % y:=by
 have e:u1 * B+u0=(u1 % y) * B+u0+(u1 / y * B) * y:=by
  have e0:=Nat.div_add_mod u1 y
  have e1:u1 * B=(y * (u1 / y)+u1 % y) * B:=by rw [e0]
  rw [Nat.add_mul] at e1
  have e2:y * (u1 / y) * B=u1 / y * B * y:=by rw [Nat.mul_comm y,Nat.mul_right_comm]
  omega
 constructor
 ·rw [e,Nat.add_mul_div_right _ _ hy];omega
 ·rw [e,Nat.add_mul_mod_self_right]
theorem scaled (v y s:Nat):(v * 2 ^ s) / (y * 2 ^ s)=v / y∧(v * 2 ^ s) % (y * 2 ^ s) / 2 ^ s=v % y:=by
 have hp:0 < 2 ^ s:=Nat.two_pow_pos s
 refine ⟨Nat.mul_div_mul_right v y hp,?_⟩
 rw [Nat.mul_mod_mul_right,Nat.mul_div_cancel _ hp]
theorem words (hi lo s:Nat) (hs:s≤64) :
  (hi * 18446744073709551616+lo) * 2 ^ s=(hi * 2 ^ s+lo / 2 ^ (64 - s)) * 18446744073709551616+lo * 2 ^ s % 18446744073709551616:=by
 have e64:(18446744073709551616:Nat)=2 ^ (64 - s) * 2 ^ s:=by rw [←Nat.pow_add,Nat.sub_add_cancel hs]
 have hp:0 < 2 ^ s:=Nat.two_pow_pos s
 have hq:lo * 2 ^ s / 18446744073709551616=lo / 2 ^ (64 - s):=by
  rw [e64,Nat.mul_div_mul_right _ _ hp]
 have hm:=Nat.div_add_mod (lo * 2 ^ s) 18446744073709551616
 rw [hq] at hm
 rw [Nat.add_mul,Nat.mul_right_comm,Nat.add_mul]
 omega
theorem low_lt (lo s:Nat) (hs:s≤64) (hlo:lo < 18446744073709551616):lo / 2 ^ (64 - s) < 2 ^ s:=by
 rw [Nat.div_lt_iff_lt_mul (Nat.two_pow_pos _),←Nat.pow_add,Nat.add_sub_cancel' hs]
 exact hlo
theorem or_words (hi x s:Nat) (h:x < 2 ^ s):(hi * 2 ^ s) ||| x=hi * 2 ^ s+x:=by
 rw [Nat.mul_comm,Nat.two_pow_add_eq_or_of_lt h]
end Go.Proofs.YtpaadbnlhapdbaaGreatDoor.DivMath
