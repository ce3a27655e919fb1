import Derived.Test.YtlmcodagfhdncaaGreatA5
set_option linter.unusedVariables false
set_option linter.unusedSimpArgs false

namespace Go.Vm.Mo
open Go
def pr(r:Rat):Int×Int×Unit:=(r.num,(r.den:Int),())
theorem pr_inj{a b:Rat}(h:pr a=pr b):a=b:=by
 unfold pr at h
 simp only[Prod.mk.injEq]at h
 exact Rat.ext h.1 (by have:=h.2.1;omega)
theorem qoo(n:Int)(d:Nat)(hd:d≠0)(M:Nat)(h:n.natAbs≤M*d):(Rat.normalize n d hd).num.natAbs≤M*(Rat.normalize n d hd).den∧(Rat.normalize n d hd).den≤d:=by
 have hg:0<Nat.gcd n.natAbs d:=Nat.gcd_pos_of_pos_right _ (by omega)
 rw[Rat.normalize_eq]
 simp only
 refine⟨?_,Nat.div_le_self _ _⟩
 obtain⟨q,hq⟩:=Nat.gcd_dvd_right n.natAbs d
 obtain⟨p,hp⟩:=Nat.gcd_dvd_left n.natAbs d
 generalize hgg:Nat.gcd n.natAbs d=g at *
 have e1:d/g=q:=by rw[hq];exact Nat.mul_div_cancel_left q hg
 have e2:(n/(g:Int)).natAbs=p:=by
  rw[Int.natAbs_ediv_of_dvd (Int.ofNat_dvd_left.2 ⟨p,hp⟩)]
  rw[hp];exact Nat.mul_div_cancel_left p hg
 rw[e1,e2]
 rw[hp,hq]at h
 have h2:g*p≤g*(M*q):=by
  have:M*(g*q)=g*(M*q):=by rw[←Nat.mul_assoc,Nat.mul_comm M g,Nat.mul_assoc]
  omega
 exact Nat.le_of_mul_le_mul_left h2 hg
structure Bd(r:Rat)(k:Nat):Prop where
 den:r.den≤20^k
 num:r.num.natAbs≤6000*k*r.den
theorem qhg:Bd 0 0:=⟨by decide,by decide⟩
theorem qoZ{a b:Nat}(ha:a≠0)(hb:b≠0):a*b≠0:=Nat.mul_ne_zero ha hb
theorem qsX(F:Int)(K:Nat)(hK:K≠0)(hF:F.natAbs≤6000)(hK2:K≤20):(Rat.normalize F K hK).den≤20∧(Rat.normalize F K hK).num.natAbs≤6000*(Rat.normalize F K hK).den:=by
 have h:=qoo F K hK 6000 (by have:6000*1≤6000*K:=Nat.mul_le_mul_left _ (by omega);omega)
 exact⟨by omega,h.1⟩
theorem quH{a b:Rat}{k:Nat}(ha:Bd a k)(hb1:b.den≤20)(hb2:b.num.natAbs≤6000*b.den):Bd (a+b) (k+1):=by
 rw[Rat.add_def]
 have hd:a.den*b.den≤20^(k+1):=by
  rw[Nat.pow_succ];exact Nat.mul_le_mul ha.den hb1
 have hn:(a.num*(b.den:Int)+b.num*(a.den:Int)).natAbs≤6000*(k+1)*(a.den*b.den):=by
  have h1:(a.num*(b.den:Int)).natAbs≤6000*k*(a.den*b.den):=by
   rw[Int.natAbs_mul,Int.natAbs_natCast,←Nat.mul_assoc]
   exact Nat.mul_le_mul_right _ ha.num
  have h2:(b.num*(a.den:Int)).natAbs≤6000*(a.den*b.den):=by
   rw[Int.natAbs_mul,Int.natAbs_natCast,Nat.mul_comm a.den,←Nat.mul_assoc]
   exact Nat.mul_le_mul_right _ hb2
  have h3:6000*(k+1)*(a.den*b.den)=6000*k*(a.den*b.den)+6000*(a.den*b.den):=by
   rw[Nat.mul_add,Nat.add_mul,Nat.mul_one]
  omega
 have h:=qoo (a.num*(b.den:Int)+b.num*(a.den:Int)) (a.den*b.den) (qoZ a.den_nz b.den_nz) (6000*(k+1)) hn
 exact⟨Nat.le_trans h.2 hd,h.1⟩
theorem qn8(w1 w2 f:Int)(r1 r2:Rat)(h1:0≤r1)(h2:r1<1)(h3:0≤r2)(h4:r2<1):(r1=r2∧w1-w2=f)↔((w1:Rat)+r1)-((w2:Rat)+r2)=(f:Rat):=by
 constructor
 ·rintro⟨e,e2⟩
  subst e e2
  grind
 ·intro h
  have e:r1-r2=((f-w1+w2:Int):Rat):=by grind
  have b1:((-1:Int):Rat)<((f-w1+w2:Int):Rat):=by rw[←e];grind
  have b2:((f-w1+w2:Int):Rat)<((1:Int):Rat):=by rw[←e];grind
  rw[Rat.intCast_lt_intCast]at b1 b2
  have e0:f-w1+w2=0:=by omega
  rw[e0]at e
  exact⟨by grind,by omega⟩
theorem qrM(k:Int):(k:Rat)=Rat.normalize k 1 (by decide):=by
 rw[Rat.normalize_eq]
 apply Rat.ext
 ·simp
 ·simp
theorem qgg(n:Int)(d:Nat)(hd:d≠0):(Rat.normalize n d hd).num*(d:Int)=n*((Rat.normalize n d hd).den:Int):=by
 have h:=Rat.normalize_self (Rat.normalize n d hd)
 exact(Rat.normalize_eq_iff _ hd).1 h
theorem qt4(n:Int)(d:Nat)(hd:d≠0):0≤Rat.normalize (n%(d:Int)) d hd∧Rat.normalize (n%(d:Int)) d hd<1∧((n/(d:Int):Int):Rat)+Rat.normalize (n%(d:Int)) d hd=Rat.normalize n d hd:=by
 have h0:=Int.emod_nonneg n (show(d:Int)≠0 by omega)
 have h1:=Int.emod_lt_of_pos n (show 0<(d:Int)by omega)
 have h2:=Int.mul_ediv_add_emod n (d:Int)
 have e:=qgg (n%(d:Int)) d hd
 have hden:=Rat.den_pos (Rat.normalize (n%(d:Int)) d hd)
 refine⟨?_,?_,?_⟩
 ·rw[←Rat.num_nonneg]
  rcases Int.lt_or_le (Rat.normalize (n%(d:Int)) d hd).num 0 with h|h
  ·have k1:(Rat.normalize (n%(d:Int)) d hd).num*(d:Int)<0:=Int.mul_neg_of_neg_of_pos h (by omega)
   have k2:0≤n%(d:Int)*((Rat.normalize (n%(d:Int)) d hd).den:Int):=Int.mul_nonneg h0 (by omega)
   omega
  ·exact h
 ·rw[Rat.lt_iff]
  show(Rat.normalize (n%(d:Int)) d hd).num*1<1*((Rat.normalize (n%(d:Int)) d hd).den:Int)
  rw[Int.mul_one,Int.one_mul]
  have k2:n%(d:Int)*((Rat.normalize (n%(d:Int)) d hd).den:Int)<(d:Int)*((Rat.normalize (n%(d:Int)) d hd).den:Int):=Int.mul_lt_mul_of_pos_right h1 (by omega)
  rw[←e,Int.mul_comm (d:Int)]at k2
  exact Int.lt_of_mul_lt_mul_right k2 (by omega)
 ·rw[qrM,Rat.normalize_add_normalize,Rat.normalize_eq_iff]
  rw[Int.natCast_mul]
  have h3:n/(d:Int)*(d:Int)+n%(d:Int)*((1:Nat):Int)=n:=by
   rw[Int.mul_comm];simp;omega
  rw[h3];simp
end Go.Vm.Mo
