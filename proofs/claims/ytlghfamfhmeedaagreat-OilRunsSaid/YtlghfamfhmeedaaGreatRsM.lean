import Derived.Test.YtlghfamfhmeedaaGreatRsFc
import Derived.Test.YtlghfamfhmeedaaGreatRsS
import Derived.Test.YtlghfamfhmeedaaGreatA5
set_option linter.unusedVariables false
set_option linter.unusedSimpArgs false

namespace Go.Vm.Mo
open Go
set_option linter.unusedVariables false
set_option linter.unusedSimpArgs false
theorem dT{p:Prop}[Decidable p](h:p):decide p=true:=decide_eq_true h
theorem dF{p:Prop}[Decidable p](h:¬p):decide p=false:=decide_eq_false h
theorem nT{p:Prop}[Decidable p](h:¬p):(!decide p)=true:=by rw[decide_eq_false h];rfl
theorem nF{p:Prop}[Decidable p](h:p):(!decide p)=false:=by rw[decide_eq_true h];rfl
theorem dA{p q:Prop}[Decidable p][Decidable q](h:p)(k:q):(decide p&&decide q)=true:=by rw[decide_eq_true h,decide_eq_true k];rfl
def low(a b:Int):Int×Int×Unit:=(a.tdiv (Int.gcd a b),b.tdiv (Int.gcd a b),())
theorem qe4{n:Int}(h1:-9223372036854775808≤n)(h2:n≤9223372036854775807):IntKind.wrap .i64 n=n:=by rw[←qcA,qac h1 h2]
theorem qqG(a b:Int)(ha:a.natAbs≤9223372036854775807)(hb:b.natAbs≤9223372036854775807):IntKind.wrap .i64 (a.tdiv (Int.gcd a b))=(low a b).1∧IntKind.wrap .i64 (b.tdiv (Int.gcd a b))=(low a b).2.1:=by
 have h1:=qhq a (Int.gcd a b)
 have h2:=qhq b (Int.gcd a b)
 exact⟨qe4 (by omega) (by omega),qe4 (by omega) (by omega)⟩
theorem qtM(x:Int)(h:x.natAbs≤9223372036854775807):f185 (x,())=some ((x.natAbs:Int),()):=by
 simp only[f185,t185,Tr.val_fin]
 rw[qe4 (by omega) (by omega)]
 have e:(if x<0-x then 0-x else x)=(x.natAbs:Int):=by split<;>omega
 rw[e]
theorem qtQ{n:Nat}(h:n≤9223372036854775808):n<rounds:=by unfold rounds;omega
theorem qkj(bad:Nat→Bool):∀(n i:Nat),first bad n (i+1)=(first (fun k=>bad (k+1)) n i).map (·+1)
 |0,_=>rfl
 |n+1,i=>by
  simp only[first]
  split
  ·rfl
  ·exact qkj bad n (i+1)
def qaj:List Int→Int
 |[]=>0
 |a::l=>if a=0 then qaj l else a
theorem qiE:∀l:List Int,(match first (fun i=>!decide (l.getD i 0=0)) l.length 0 with
  |some k=>l.getD k 0
  |none=>0)=qaj l
 |[]=>rfl
 |a::l=>by
  simp only[List.length,first,qaj]
  by_cases ha:a=0
  ·subst ha
   have e:=qiE l
   have hf:first (fun i=>!decide (((0:Int)::l).getD i 0=0)) l.length (0+1)=(first (fun i=>!decide (l.getD i 0=0)) l.length 0).map (·+1):=by
    rw[qkj];rfl
   simp only[hf,List.getD_cons_zero,decide_true,Bool.not_true,Bool.false_eq_true,if_false,if_true]
   rw[←e]
   cases first (fun i=>!decide (l.getD i 0=0)) l.length 0 with
   |none=>rfl
   |some k=>rfl
  ·simp[ha]
theorem l94(l:List Int)(h:l.length≤1000000000):l94_0 ((l,(l.length:Int),(0:Int),()),())=match first (fun i=>!decide (l.getD i 0=0)) l.length 0 with
  |some k=>some (.inr ((l.getD k 0,()),()))
  |none=>some (.inl ((),())):=by
 refine qbX (fun i=>((l,(l.length:Int),(i:Int),()),())) (fun i=>!decide (l.getD i 0=0)) (fun k=>((l.getD k 0,()),())) (n:=l.length) ?_ ?_ (qal (by omega))
 ·intro i hi
  simp only[s94_0,t94_0,Tr.val_test,qag,qam]
  rw[if_pos (by simp;omega),if_pos (by simp;omega)]
  simp only[Int.toNat_natCast,qaw (show i≤9223372036854775806 by omega)]
  rfl
 ·simp[s94_0,t94_0,qag]
theorem qfX(l:List Int)(h:l.length≤1000000000):f94 (l,())=some (qaj l,()):=by
 simp only[f94,t94,Tr.val_test,r94_0,l94 l h,←qiE l]
 cases first (fun i=>!decide (l.getD i 0=0)) l.length 0 with
 |none=>rfl
 |some k=>rfl
theorem qd3(d:Tys.data as95):f95 d=some (if d.1=true then d.2.1 else(0:Int),()):=by
 simp only[f95,t95,Tr.val_test]
 split<;>rfl
def wi(lo hi x:Int):Bool:=decide (lo≤x)&&decide (x≤hi)
theorem wi_iff{lo hi x:Int}:wi lo hi x=true↔lo≤x∧x≤hi:=by simp[wi]
theorem qmw(d:Tys.data as20):f20 d=some (wi d.2.1 d.2.2.1 d.1,()):=by
 simp only[f20,t20,Tr.val_test,Tr.val_fin,qag,decide_eq_true_eq,wi]
 split<;>simp[*]
theorem l93(lo hi:Int)(l:List Int)(h:l.length≤1000000000):l93_0 ((lo,hi,l,(l.length:Int),(0:Int),()),())=match first (fun i=>!wi lo hi (l.getD i 0)) l.length 0 with
  |some _=>some (.inr ((false,()),()))
  |none=>some (.inl ((),())):=by
 refine qbX (fun i=>((lo,hi,l,(l.length:Int),(i:Int),()),())) (fun i=>!wi lo hi (l.getD i 0)) (fun _=>((false,()),())) (n:=l.length) ?_ ?_ (qal (by omega))
 ·intro i hi'
  simp only[s93_0,t93_0,Tr.val_test,Tr.val_fin,qag,Int.toNat_natCast,qaw (show i≤9223372036854775806 by omega)]
  rw[if_pos (by simp;omega),if_pos (by simp;omega)]
  by_cases a0:lo≤l.getD i 0
  ·by_cases a1:l.getD i 0≤hi
   ·simp only[wi,a0,a1,decide_true,Bool.and_self,Bool.not_true,if_true,if_false,Bool.false_eq_true]
   ·simp only[wi,a0,a1,decide_true,decide_false,Bool.and_false,Bool.not_false,Bool.not_true,if_true,if_false,Bool.false_eq_true]
  ·simp only[wi,a0,decide_false,Bool.false_and,Bool.not_false,if_true,if_false,Bool.false_eq_true]
 ·simp[s93_0,t93_0,qag]
theorem qpA(lo hi:Int)(l:List Int)(h:l.length≤1000000000):f93 (lo,hi,l,())=some ((first (fun i=>!wi lo hi (l.getD i 0)) l.length 0).isNone,()):=by
 have hl:=l93 lo hi l h
 cases hf:first (fun i=>!wi lo hi (l.getD i 0)) l.length 0 with
 |none=>
  rw[hf]at hl
  simp only[f93,t93,Tr.val_test,Tr.val_fin,hl,qa8,Option.isSome_some,Option.isNone_none,if_true,Bool.false_eq_true,if_false]
 |some k=>
  rw[hf]at hl
  simp only[f93,t93,Tr.val_test,Tr.val_fin,hl,qa8,r93_0,outR,Option.isSome_some,Option.isNone_some,if_true]
theorem qfO(lo hi a:Int):f93 (lo,hi,[a],())=some (wi lo hi a,()):=by
 rw[qpA lo hi _ (by simp)]
 simp only[first,List.length,List.getD_cons_zero]
 by_cases h1:wi lo hi a=true
 ·simp[h1]
 ·simp[h1]
theorem qos(lo hi a b:Int):f93 (lo,hi,[a,b],())=some (wi lo hi a&&wi lo hi b,()):=by
 rw[qpA lo hi _ (by simp)]
 simp only[first,List.length,List.getD_cons_zero,List.getD_cons_succ]
 by_cases h1:wi lo hi a=true
 ·by_cases h2:wi lo hi b=true
  ·simp[h1,h2]
  ·simp[h1,h2]
 ·simp[h1]
theorem qtv(l:List Int)(h:l.length≤1000):f29 (l,())=some (l,()):=by
 simp only[f29,t29,Tr.val_test,Tr.val_fin,Tr.val_stop,List.nil_append,Nat.zero_add]
 rw[if_pos (by simp only[Bool.and_eq_true,qaK];omega),if_pos (by rw[qgj])]
theorem wn64{x:Int}(h1:-9223372036854775807≤x)(h2:x≤9223372036854775807):IntKind.wrap .i64 (0-x)=-x:=by
 rw[←qcA,qac (by omega) (by omega)]
 omega
end Go.Vm.Mo

namespace Go.Vm.Mo
open Go
set_option linter.unusedVariables false
set_option linter.unusedSimpArgs false
theorem qp0{n:Int}(h1:-9223372036854775808≤n)(h2:n≤9223372036854775807):IntKind.wrap .i64 n=n:=by rw[←qcA,qac h1 h2]
theorem qqz(x:Int)(h:x.natAbs≤9223372036854775807):f185 (x,())=some ((x.natAbs:Int),()):=by
 simp only[f185,t185,Tr.val_fin]
 rw[qp0 (by omega) (by omega)]
 have e:(if x<0-x then 0-x else x)=(x.natAbs:Int):=by split<;>omega
 rw[e]
theorem l199(l:List Int)(h:l.length≤1000000000):l199_0 ((l,(l.length:Int),()),())=some (.inl ((l,(qdN l l.length:Int),()),())):=by
 have hle:=qgv l l.length
 refine qcD (fun i=>((l,((l.length-i:Nat):Int),()),())) (n:=l.length-qdN l l.length) ?_ ?_ (qal (by omega))
 ·intro i hi
  have h0:=qiB l l.length (l.length-i-1) (by omega) (by omega)
  have e:wrap64 (((l.length-i:Nat):Int)-1)=((l.length-i-1:Nat):Int):=by rw[qac (by omega) (by omega)];omega
  simp only[s199_0,t199_0,Tr.val_test,Tr.val_fin,qag,qam,e,Int.toNat_natCast,h0]
  rw[if_pos (by simp<;>omega),if_pos (by simp<;>omega),if_pos (by simp)]
  rfl
 ·have e0:l.length-(l.length-qdN l l.length)=qdN l l.length:=by omega
  dsimp only
  rw[e0]
  cases hk:qdN l l.length with
  |zero=>simp[s199_0,t199_0,qag]
  |succ m=>
   have h0:=qfB l l.length m hk
   have e:wrap64 (((m+1:Nat):Int)-1)=((m:Nat):Int):=by rw[qac (by omega) (by omega)];omega
   simp only[s199_0,t199_0,Tr.val_test,Tr.val_fin,qag,qam,e,Int.toNat_natCast]
   rw[if_pos (by simp<;>omega),if_pos (by simp<;>omega),if_neg (by simpa using h0)]
theorem ql3(l:List Int)(h:l.length≤1000000000)(hd:Dg l):f199 (l,())=some (dig (dval l).toNat,()):=by
 have hle:=qgv l l.length
 simp only[f199,t199,b199_0,l199 l h,Tr.val_test,Tr.val_fin,qbl,if_true,outB,Int.toNat_natCast]
 rw[if_pos (by simp<;>omega),qqy hd]
def mkN(s n:Int):Int×List Int×PUnit:=if n=0 then(0,[],())else(s,dig n.toNat,())
theorem qeU(s:Int)(l:List Int)(h:l.length≤1000000000)(hd:Dg l):f186 (s,l,())=some (mkN s (dval l),()):=by
 have h0:=qce hd
 simp only[f186,t186,g199,ql3 l h hd,Option.isSome_some,Option.getD_some,Tr.val_test,Tr.val_fin,qam,if_true,mkN]
 by_cases e:dval l=0
 ·rw[if_pos (by rw[e];simp[qaS]),if_pos e,e]
  simp[qaS]
 ·rw[if_neg e,if_neg]
  intro h2
  simp only[decide_eq_true_eq]at h2
  have h3:(dig (dval l).toNat).length=0:=by omega
  have:=dig_nil.1 (List.eq_nil_of_length_eq_zero h3)
  omega
theorem qhd{s z:Int}(h:z≠0→s=z.sign):mkN s z.natAbs=enc z:=by
 unfold mkN enc
 by_cases e:z=0
 ·subst e;simp[qaS]
 ·rw[if_neg (by omega),h e];simp
theorem qk9(l:List Int)(i:Nat):f211 (l,(i:Int),())=some (l.getD i 0,()):=by
 simp only[f211,t211,Tr.val_test,Tr.val_fin,qag]
 by_cases h:i<l.length
 ·rw[if_pos (by simp<;>omega),if_pos (by simp<;>omega)];simp
 ·rw[if_neg (by simp<;>omega)]
  simp[List.getD,List.getElem?_eq_none (Nat.le_of_not_lt h)]
theorem qtw(s b:Int):∀(k:Nat)(x:Int)(acc:List Int)(m:Nat),(x.natAbs:Int)<pw k→x.natAbs≤9223372036854775807→acc.length+k≤1000000→k<m →
  itr s164_0 m ((x,s,acc,()),((b,()),()))=some (.inl ((s,acc++dig x.natAbs,()),((b,()),())))
 |0,x,acc,m,h1,_,_,hm=>by
  have:x=0:=by simp only[pw]at h1;omega
  subst this
  obtain⟨m,rfl⟩:∃j,m=j+1:=⟨m-1,by omega⟩
  simp[itr,s164_0,t164_0,qam,qaS]
 |k+1,x,acc,m,h1,h2,h3,hm=>by
  obtain⟨m,rfl⟩:∃j,m=j+1:=⟨m-1,by omega⟩
  by_cases hx:x=0
  ·subst hx
   simp[itr,s164_0,t164_0,qam,qaS]
  ·have e1:(Int.tmod x 1000000000).natAbs=x.natAbs%1000000000:=by rw[Int.natAbs_tmod];rfl
   have e2:(Int.tdiv x 1000000000).natAbs=x.natAbs/1000000000:=by rw[Int.natAbs_tdiv];rfl
   have e3:IntKind.wrap .i64 (Int.tdiv x 1000000000)=Int.tdiv x 1000000000:=qp0 (by omega) (by omega)
   have st:s164_0 ((x,s,acc,()),((b,()),()))=some (.again ((Int.tdiv x 1000000000,s,acc++[((x.natAbs%1000000000:Nat):Int)],()),((b,()),()))):=by
    simp only[s164_0,t164_0,g185,qqz (Int.tmod x 1000000000) (by omega),Option.isSome_some,Option.getD_some,Tr.val_test,Tr.val_fin,qam,e3,e1,if_true]
    rw[if_pos (by simpa using hx),if_pos (by simp<;>omega)]
   simp only[pw]at h1
   rw[itr,st]
   dsimp only
   rw[qtw s b k (Int.tdiv x 1000000000) _ m (by omega) (by omega) (by simp<;>omega) (by omega),qeJ (show x.natAbs≠0 by omega),e2]
   simp
theorem qeg(x:Int)(h:x.natAbs≤9223372036854775807):f164 (x,())=some (enc x,()):=by
 have hl:∀s:Int,l164_0 ((x,s,[],()),(((0:Int),()),()))=some (.inl ((s,dig x.natAbs,()),(((0:Int),()),()))):=fun s=>by
  have:=qtw s 0 3 x [] rounds (by simp only[pw];omega) h (by simp) (qal (by omega))
  simpa[l164_0]using this
 have hg:(dig x.natAbs).length≤3:=qaD (by simp only[pw];omega)
 have e:=qbS x.natAbs
 simp only[f164,t164,b164_0,hl,g186,qeU _ (dig x.natAbs) (by omega) (qbT _),e,Option.isSome_some,Option.getD_some,Tr.val_test,Tr.val_fin,qbl,outB,if_true,qag]
 by_cases hx:0≤x
 ·rw[if_neg (by simp<;>omega)]
  have:mkN 1 (x.natAbs:Int)=enc x:=qhd fun h=>by rw[Int.sign_eq_one_of_pos (by omega)]
  rw[this]
 ·rw[if_pos (by simp<;>omega)]
  have:mkN (-1) (x.natAbs:Int)=enc x:=qhd fun h=>by rw[Int.sign_eq_neg_one_of_neg (by omega)]
  rw[this]
def cA(a b:List Int):Nat→Int
 |0=>0
 |i+1=>(a.getD i 0+b.getD i 0+cA a b i)/1000000000
def oA(a b:List Int):Nat→List Int
 |0=>[]
 |i+1=>oA a b i++[(a.getD i 0+b.getD i 0+cA a b i)%1000000000]
theorem qqo{a b:List Int}(ha:Dg a)(hb:Dg b):∀i,0≤cA a b i∧cA a b i≤1
 |0=>by simp[cA]
 |i+1=>by
  have:=qqo ha hb i;have:=ha.getD i;have:=hb.getD i
  simp only[cA];omega
theorem qmJ(a b:List Int):∀i,(oA a b i).length=i
 |0=>rfl
 |i+1=>by simp[oA,qmJ a b i]
theorem qs5(a b:List Int):∀i,Dg (oA a b i)
 |0=>Dg.nil
 |i+1=>(qs5 a b i).push (by omega) (by omega)
theorem qtE(a b:List Int):∀i,dval (oA a b i)+pw i*cA a b i=dval (a.take i)+dval (b.take i)
 |0=>by simp[oA,cA,dval,pw]
 |i+1=>by
  have ih:=qtE a b i
  rw[oA,qlT,qmJ,qbD,qbD,cA,pw]
  generalize hs:a.getD i 0+b.getD i 0+cA a b i=s at *
  have e:s%1000000000=s-1000000000*(s/1000000000):=by omega
  have e2:pw i*(s%1000000000)+1000000000*pw i*(s/1000000000)=pw i*s:=by
   rw[e,Int.mul_sub,Int.mul_comm 1000000000 (pw i),Int.mul_assoc];omega
  have e3:pw i*s=pw i*a.getD i 0+pw i*b.getD i 0+pw i*cA a b i:=by rw[←hs,Int.mul_add,Int.mul_add]
  omega
def nA(a b:List Int):Nat:=if cA a b (max a.length b.length)=0 then max a.length b.length else max a.length b.length+1
theorem qro{a b:List Int}(ha:Dg a)(hb:Dg b):cA a b (nA a b)=0:=by
 unfold nA
 split
 ·assumption
 ·have:=qqo ha hb (max a.length b.length)
  have e1:a.getD (max a.length b.length) 0=0:=by simp[List.getD,List.getElem?_eq_none (Nat.le_max_left a.length b.length)]
  have e2:b.getD (max a.length b.length) 0=0:=by simp[List.getD,List.getElem?_eq_none (Nat.le_max_right a.length b.length)]
  simp only[cA,e1,e2];omega
theorem qm8{a b:List Int}(ha:Dg a)(hb:Dg b){i:Nat}(hl:i≤1000000)(h:i<a.length∨i<b.length∨0<cA a b i):
  s204_0 ((a,b,oA a b i,cA a b i,(i:Int),()),())=some (.again ((a,b,oA a b (i+1),cA a b (i+1),((i+1:Nat):Int),()),())):=by
 have h1:=qqo ha hb i;have h2:=ha.getD i;have h3:=hb.getD i
 have e1:wrap64 (wrap64 (a.getD i 0+b.getD i 0)+cA a b i)=a.getD i 0+b.getD i 0+cA a b i:=by
  rw[qac (n:=a.getD i 0+b.getD i 0) (by omega) (by omega),qac (by omega) (by omega)]
 have e2:IntKind.wrap .i64 (Int.tdiv (a.getD i 0+b.getD i 0+cA a b i) 1000000000)=cA a b (i+1):=by
  rw[Int.tdiv_eq_ediv_of_nonneg (by omega),qp0 (by omega) (by omega),cA]
 have e3:Int.tmod (a.getD i 0+b.getD i 0+cA a b i) 1000000000=(a.getD i 0+b.getD i 0+cA a b i)%1000000000:=Int.tmod_eq_emod_of_nonneg (by omega)
 have e4:wrap64 ((i:Int)+1)=((i+1:Nat):Int):=qaw (by omega)
 have e5:(Nat.ble ((2*((oA a b i).length+1)+192)*8) 281474976710656&&Nat.ble ((oA a b i).length+1) 281474976710656)=true:=by
  rw[qmJ];simp;omega
 simp only[s204_0,t204_0,g211,qk9 a i,qk9 b i,Option.isSome_some,Option.getD_some,Tr.val_test,Tr.val_fin,qag,if_true,e1,e2,e3,e4,e5]
 by_cases c1:i<a.length
 ·rw[if_pos (by simp<;>omega)];rfl
 ·rw[if_neg (by simp<;>omega)]
  by_cases c2:i<b.length
  ·rw[if_pos (by simp<;>omega)];rfl
  ·rw[if_neg (by simp<;>omega),if_pos (by simp<;>omega)];rfl
theorem qr7(a b:List Int)(ha:Dg a)(hb:Dg b)(h1:a.length≤100000)(h2:b.length≤100000):f204 (a,b,())=some (oA a b (nA a b),()):=by
 have hn:nA a b≤max a.length b.length+1:=by unfold nA;split<;>omega
 have hl:l204_0 ((a,b,[],(0:Int),(0:Int),()),())=some (.inl ((oA a b (nA a b),()),())):=by
  refine qcD (fun i=>((a,b,oA a b i,cA a b i,(i:Int),()),())) (n:=nA a b) ?_ ?_ (qal (by omega))
  ·intro i hi
   refine qm8 ha hb (by omega) ?_
   have:=qqo ha hb i
   unfold nA at hi
   split at hi
   ·omega
   ·rename_i hc
    by_cases e:i=max a.length b.length
    ·rw[←e]at hc;omega
    ·omega
  ·have hc:=qro ha hb
   have hm:max a.length b.length≤nA a b:=by unfold nA;split<;>omega
   simp only[s204_0,t204_0,Tr.val_test,Tr.val_fin,qag,hc]
   rw[if_neg (by simp<;>omega),if_neg (by simp<;>omega),if_neg (by simp)]
 simp only[f204,t204,b204_0,hl,Tr.val_test,Tr.val_fin,qbl,if_true,outB]
theorem qta{a b:List Int}(ha:Dg a)(hb:Dg b):dval (oA a b (nA a b))=dval a+dval b:=by
 have h:=qtE a b (nA a b)
 have hm:max a.length b.length≤nA a b:=by unfold nA;split<;>omega
 rw[qro ha hb,qaP a (by omega),qaP b (by omega)]at h
 omega
def cS(a b:List Int):Nat→Int
 |0=>0
 |i+1=>if a.getD i 0-b.getD i 0-cS a b i<0 then 1 else 0
def oS(a b:List Int):Nat→List Int
 |0=>[]
 |i+1=>oS a b i++[if a.getD i 0-b.getD i 0-cS a b i<0 then a.getD i 0-b.getD i 0-cS a b i+1000000000 else a.getD i 0-b.getD i 0-cS a b i]
theorem qr9(a b:List Int):∀i,0≤cS a b i∧cS a b i≤1
 |0=>by simp[cS]
 |i+1=>by simp only[cS];split<;>omega
theorem qkL(a b:List Int):∀i,(oS a b i).length=i
 |0=>rfl
 |i+1=>by simp[oS,qkL a b i]
theorem qs6{a b:List Int}(ha:Dg a)(hb:Dg b):∀i,Dg (oS a b i)
 |0=>Dg.nil
 |i+1=>by
  have:=qr9 a b i;have:=ha.getD i;have:=hb.getD i
  exact(qs6 ha hb i).push (by split<;>omega) (by split<;>omega)
theorem qsR(a b:List Int):∀i,dval (oS a b i)-pw i*cS a b i=dval (a.take i)-dval (b.take i)
 |0=>by simp[oS,cS,dval,pw]
 |i+1=>by
  have ih:=qsR a b i
  rw[oS,qlT,qkL,qbD,qbD,cS,pw]
  generalize hs:a.getD i 0-b.getD i 0-cS a b i=s at *
  have e3:pw i*s=pw i*a.getD i 0-pw i*b.getD i 0-pw i*cS a b i:=by rw[←hs,Int.mul_sub,Int.mul_sub]
  by_cases h:s<0
  ·rw[if_pos h,if_pos h,Int.mul_add];omega
  ·rw[if_neg h,if_neg h];omega
theorem qk6(a b:List Int)(ha:Dg a)(hb:Dg b)(h1:a.length≤1000000)(h2:b.length≤a.length)(h3:dval b≤dval a):f201 (a,b,())=some (dig (dval a-dval b).toNat,()):=by
 have hl:l201_0 ((a,b,[],(0:Int),(0:Int),()),())=some (.inl ((oS a b a.length,()),())):=by
  refine qcD (fun i=>((a,b,oS a b i,cS a b i,(i:Int),()),())) (n:=a.length) ?_ ?_ (qal (by omega))
  ·intro i hi
   have h1:=qr9 a b i;have h2:=ha.getD i;have h3:=hb.getD i
   have e0:wrap64 (a.getD i 0-b.getD i 0)=a.getD i 0-b.getD i 0:=qac (by omega) (by omega)
   have e1:wrap64 (wrap64 (a.getD i 0-b.getD i 0)-cS a b i)=a.getD i 0-b.getD i 0-cS a b i:=by
    rw[e0,qac (by omega) (by omega)]
   have e2:wrap64 (a.getD i 0-b.getD i 0-cS a b i+1000000000)=a.getD i 0-b.getD i 0-cS a b i+1000000000:=qac (by omega) (by omega)
   have e4:wrap64 ((i:Int)+1)=((i+1:Nat):Int):=qaw (by omega)
   have e5:(Nat.ble ((2*((oS a b i).length+1)+192)*8) 281474976710656&&Nat.ble ((oS a b i).length+1) 281474976710656)=true:=by
    rw[qkL];simp;omega
   simp only[s201_0,t201_0,g211,qk9 b i,Option.isSome_some,Option.getD_some,Tr.val_test,Tr.val_fin,qag,if_true,e1,e2,e4,e5,Int.toNat_natCast,oS,cS]
   rw[if_pos (by simp<;>omega),if_pos (by simp<;>omega)]
   by_cases h:a.getD i 0-b.getD i 0-cS a b i<0
   ·rw[if_pos (by simp only[Bool.not_eq_true',decide_eq_false_iff_not];omega),if_pos h,if_pos h]
   ·rw[if_neg (by simp only[Bool.not_eq_true',decide_eq_false_iff_not];omega),if_neg h,if_neg h]
  ·simp[s201_0,t201_0,qag]
 have hd:=qs6 ha hb a.length
 have hv:=qsR a b a.length
 rw[qaP a (Nat.le_refl _),qaP b h2]at hv
 have hlt:=qjx hd
 rw[qkL]at hlt
 have hc:=qr9 a b a.length
 have hc0:cS a b a.length=0:=by
  by_cases e:cS a b a.length=1
  ·rw[e]at hv;omega
  ·omega
 rw[hc0,Int.mul_zero,Int.sub_zero]at hv
 simp only[f201,t201,b201_0,hl,g199,ql3 _ (show(oS a b a.length).length≤1000000000 by rw[qkL];omega) hd,hv,Option.isSome_some,Option.getD_some,Tr.val_test,Tr.val_fin,qbl,if_true,outB]
theorem qpX{l:List Int}(hd:Dg l)(hc:Can l){m:Nat}(hm:l.length=m+1):pw m≤dval l:=by
 have h3:=qbD l m
 rw[qaP _ (by omega)]at h3
 have h2:=hc m hm
 have h4:=qce (hd.take m)
 have h5:=hd.getD m
 have h7:pw m*1≤pw m*l.getD m 0:=Int.mul_le_mul_of_nonneg_left (by omega) (Int.le_of_lt (qeI m))
 omega
theorem qoK{a b:List Int}(ha:Dg a)(hb:Dg b){j:Nat}(hlt:a.getD j 0<b.getD j 0):∀n,(∀i,j<i→i<j+1+n→a.getD i 0=b.getD i 0)→dval (a.take (j+1+n))<dval (b.take (j+1+n))
 |0,_=>by
  rw[Nat.add_zero,qbD,qbD]
  have h1:=qjx (ha.take j)
  have h2:=qce (hb.take j)
  have h3:pw (a.take j).length≤pw j:=ql1 (by simp;omega)
  have h7:pw j*(a.getD j 0+1)≤pw j*b.getD j 0:=Int.mul_le_mul_of_nonneg_left (by omega) (Int.le_of_lt (qeI j))
  rw[Int.mul_add]at h7
  omega
 |n+1,h=>by
  have ih:=qoK ha hb hlt n fun i h1 h2=>h i h1 (by omega)
  have e:=h (j+1+n) (by omega) (by omega)
  rw[←Nat.add_assoc,qbD,qbD,e]
  omega
theorem qow(a b:List Int)(ha:Dg a)(hb:Dg b)(ca:Can a)(cb:Can b)(h1:a.length≤1000000):f200 (a,b,())=some ((dval a-dval b).sign,()):=by
 simp only[f200,t200,Tr.val_test,Tr.val_fin,qag,qam]
 by_cases hle:a.length=b.length
 ·rw[if_neg (by simp;omega)]
  have e0:wrap64 ((a.length:Int)-1)=(a.length:Int)-1:=qac (by omega) (by omega)
  have hl:l200_0 ((a,b,(a.length:Int)-1,()),())=match first (fun k=>!decide (a.getD (a.length-1-k) 0=b.getD (a.length-1-k) 0)) a.length 0 with
    |some k=>some (.inr (((if a.getD (a.length-1-k) 0<b.getD (a.length-1-k) 0 then(-1:Int)else 1),()),()))
    |none=>some (.inl ((),())):=by
   have:=qbX (step:=s200_0) (m:=rounds) (n:=a.length) (fun k=>((a,b,(a.length:Int)-1-(k:Int),()),())) (fun k=>!decide (a.getD (a.length-1-k) 0=b.getD (a.length-1-k) 0))
    (fun k=>(((if a.getD (a.length-1-k) 0<b.getD (a.length-1-k) 0 then(-1:Int)else 1),()),())) (b:=((),())) ?_ ?_ (qal (by omega))
   ·rw[l200_0,show(a.length:Int)-1=(a.length:Int)-1-((0:Nat):Int)by omega];exact this
   ·intro k hk
    have e1:(a.length:Int)-1-(k:Int)=((a.length-1-k:Nat):Int):=by omega
    have e2:wrap64 (((a.length-1-k:Nat):Int)-1)=(a.length:Int)-1-((k+1:Nat):Int):=by rw[qac (by omega) (by omega)];omega
    simp only[e1,s200_0,t200_0,Tr.val_test,Tr.val_fin,qag,Int.toNat_natCast,e2]
    rw[if_pos (by simp),if_pos (by simp;omega),if_pos (by simp;omega)]
    generalize a.getD (a.length-1-k) 0=x
    generalize b.getD (a.length-1-k) 0=y
    rcases Int.lt_trichotomy x y with h|h|h
    ·rw[if_pos (by simp;omega),if_pos (by simp;omega),if_pos h]
    ·rw[if_neg (by simp;omega),if_neg (by simp;omega),if_neg (by simp;omega)]
    ·rw[if_neg (by simp;omega),if_pos (by simp;omega),if_pos (by simp;omega),if_neg (by omega)]
   ·simp only[s200_0,t200_0,Tr.val_test,Tr.val_fin,qag]
    rw[if_neg (by simp;omega)]
  rw[e0,r200_0,hl]
  have hta:=qaP a (Nat.le_refl _)
  have htb:=qaP b (Nat.le_of_eq hle.symm)
  cases hf:first (fun k=>!decide (a.getD (a.length-1-k) 0=b.getD (a.length-1-k) 0)) a.length 0 with
  |none=>
   have hn:=qcw hf
   have:∀n,n≤a.length→dval (a.take n)=dval (b.take n):=by
    intro n
    induction n with
    |zero=>intro _;simp
    |succ n ih=>
     intro h
     have:=hn (a.length-1-n) (by omega) (by omega)
     rw[show a.length-1-(a.length-1-n)=n by omega]at this
     rw[qbD,qbD,ih (by omega),show a.getD n 0=b.getD n 0 by simpa using this]
   have e:=this a.length (Nat.le_refl _)
   rw[hta,htb]at e
   simp[e,qa8]
  |some k=>
   obtain⟨q1,q2,q3,q4⟩:=first_some hf
   have hne:a.getD (a.length-1-k) 0≠b.getD (a.length-1-k) 0:=by simpa using q3
   have heq:∀i,a.length-1-k<i→i<a.length-1-k+1+k→a.getD i 0=b.getD i 0:=fun i h1 h2=>by
    have:=q4 (a.length-1-i) (by omega) (by omega)
    rw[show a.length-1-(a.length-1-i)=i by omega]at this
    simpa using this
   have hN:a.length-1-k+1+k=a.length:=by omega
   simp only[qa8,Option.isSome_some,if_true,outR]
   by_cases h:a.getD (a.length-1-k) 0<b.getD (a.length-1-k) 0
   ·have:=qoK ha hb h k heq
    rw[hN,hta,htb]at this
    rw[if_pos h,Int.sign_eq_neg_one_of_neg (by omega)]
   ·have:=qoK hb ha (j:=a.length-1-k) (by omega) k fun i h1 h2=>(heq i h1 h2).symm
    rw[hN,hta,htb]at this
    rw[if_neg h,Int.sign_eq_one_of_pos (by omega)]
 ·rw[if_pos (by simp;omega)]
  by_cases h:a.length<b.length
  ·rw[if_pos (by simp;omega)]
   have hx:=qjx ha
   obtain⟨m,hm⟩:∃m,b.length=m+1:=⟨b.length-1,by omega⟩
   have hy:=qpX hb cb hm
   have:pw a.length≤pw m:=ql1 (by omega)
   rw[Int.sign_eq_neg_one_of_neg (by omega)]
  ·rw[if_neg (by simp;omega)]
   have hx:=qjx hb
   obtain⟨m,hm⟩:∃m,a.length=m+1:=⟨a.length-1,by omega⟩
   have hy:=qpX ha ca hm
   have:pw b.length≤pw m:=ql1 (by omega)
   rw[Int.sign_eq_one_of_pos (by omega)]
theorem qnQ(n c i:Nat)(s0 s1 z:Int)(a b buf:List Int)(hi:i<a.length)(ha:Dg a)(hb:Dg b)(hbuf:Dg buf)(hlen:buf.length=n)(hn:i+b.length≤n)(hs:n≤1000000):
  l167_2 (((n,c),((i:Int),(0:Int),(0:Int),())),((s0,a,()),(s1,b,()),(z,()),buf,())) =
   some (.inl (((n,c),((i:Int),(mI (a.getD i 0) b i buf b.length).2,())),((s0,a,()),(s1,b,()),(z,()),(mI (a.getD i 0) b i buf b.length).1,()))):=by
 refine qcD (fun j=>(((n,c),((i:Int),(mI (a.getD i 0) b i buf j).2,(j:Int),())),((s0,a,()),(s1,b,()),(z,()),(mI (a.getD i 0) b i buf j).1,()))) (n:=b.length) ?_ ?_ (qal (by omega))
 ·intro j hj
  obtain⟨h1,h2,h3⟩:=qql (i:=i) (ha.getD i) hb hbuf j
  have h4:=h1.getD (i+j)
  have h5:=qrk (ha.getD i) (hb.getD j)
  have hml:=qip (a.getD i 0) b i buf j
  have e0:wrap64 ((i:Int)+(j:Int))=((i+j:Nat):Int):=by rw[qac (by omega) (by omega)];omega
  have e1:wrap64 (a.getD i 0*b.getD j 0)=a.getD i 0*b.getD j 0:=qac (by omega) (by omega)
  have e2:wrap64 (wrap64 ((mI (a.getD i 0) b i buf j).1.getD (i+j) 0+a.getD i 0*b.getD j 0)+(mI (a.getD i 0) b i buf j).2)=(mI (a.getD i 0) b i buf j).1.getD (i+j) 0+a.getD i 0*b.getD j 0+(mI (a.getD i 0) b i buf j).2:=by
   rw[qac (n:=(mI (a.getD i 0) b i buf j).1.getD (i+j) 0+a.getD i 0*b.getD j 0) (by omega) (by omega),qac (by omega) (by omega)]
  have e3:Int.tmod ((mI (a.getD i 0) b i buf j).1.getD (i+j) 0+a.getD i 0*b.getD j 0+(mI (a.getD i 0) b i buf j).2) 1000000000=((mI (a.getD i 0) b i buf j).1.getD (i+j) 0+a.getD i 0*b.getD j 0+(mI (a.getD i 0) b i buf j).2)%1000000000:=Int.tmod_eq_emod_of_nonneg (by omega)
  have e4:IntKind.wrap .i64 (Int.tdiv ((mI (a.getD i 0) b i buf j).1.getD (i+j) 0+a.getD i 0*b.getD j 0+(mI (a.getD i 0) b i buf j).2) 1000000000)=((mI (a.getD i 0) b i buf j).1.getD (i+j) 0+a.getD i 0*b.getD j 0+(mI (a.getD i 0) b i buf j).2)/1000000000:=by
   rw[Int.tdiv_eq_ediv_of_nonneg (by omega),qp0 (by omega) (by omega)]
  have e5:wrap64 ((j:Int)+1)=((j+1:Nat):Int):=qaw (by omega)
  simp only[s167_2,t167_2,Tr.val_test,Tr.val_fin,qag,e0,Int.toNat_natCast,Nat.zero_add,e1,e2,e3,e4,e5]
  rw[if_pos (by simp;omega),if_pos (by simp;omega),if_pos (by rw[hml,qaK];omega),if_pos (by simp;omega),if_pos (by simp;omega)]
  rfl
 ·simp[s167_2,t167_2,qag]
theorem qol(s0 s1 z:Int)(a b:List Int)(n:Nat)(ha:Dg a)(hb:Dg b)(hn:n=a.length+b.length+1)(hs:n≤1000000):
  l167_0 (((n,n),((0:Int),())),((s0,a,()),(s1,b,()),(z,()),List.replicate n 0,()))=some (.inl (((n,n),()),((s0,a,()),(s1,b,()),(z,()),mO a b a.length,()))):=by
 subst hn
 refine qcD (fun i=>(((a.length+b.length+1,a.length+b.length+1),((i:Int),())),((s0,a,()),(s1,b,()),(z,()),mO a b i,()))) (n:=a.length) ?_ ?_ (qal (by omega))
 ·intro i hi
  have hl:=qnQ (a.length+b.length+1) (a.length+b.length+1) i s0 s1 z a b (mO a b i) hi ha hb (qq9 ha hb i) (qis a b i) (by omega) hs
  obtain⟨h1,h2,h3⟩:=qql (i:=i) (ha.getD i) hb (qq9 ha hb i) b.length
  have e0:wrap64 ((i:Int)+(b.length:Int))=((i+b.length:Nat):Int):=by rw[qac (by omega) (by omega)];omega
  have e1:wrap64 ((mI (a.getD i 0) b i (mO a b i) b.length).1.getD (i+b.length) 0+(mI (a.getD i 0) b i (mO a b i) b.length).2)=(mI (a.getD i 0) b i (mO a b i) b.length).1.getD (i+b.length) 0+(mI (a.getD i 0) b i (mO a b i) b.length).2:=by
   rw[qpb];exact qac (by omega) (by omega)
  have e5:wrap64 ((i:Int)+1)=((i+1:Nat):Int):=qaw (by omega)
  have hml:(mI (a.getD i 0) b i (mO a b i) b.length).1.length=a.length+b.length+1:=by rw[qip,qis]
  simp only[s167_0,t167_0,b167_2,hl,qbl,outB,Tr.val_test,Tr.val_fin,qag,e0,Int.toNat_natCast,Nat.zero_add,e1,e5,if_true]
  rw[if_pos (by simp;omega),if_pos (by simp;omega),if_pos (by rw[hml,qaK];omega)]
  rfl
 ·simp[s167_0,t167_0,qag]
theorem qqm(s0 s1:Int)(a b:List Int)(ha:Dg a)(hb:Dg b)(h:a.length+b.length+1≤1000000):f167 ((s0,a,()),(s1,b,()),())=some (mkN (wrap64 (s0*s1)) (dval a*dval b),()):=by
 have e0:wrap64 (wrap64 ((a.length:Int)+(b.length:Int))+1)=((a.length+b.length+1:Nat):Int):=by
  rw[qac (n:=(a.length:Int)+(b.length:Int)) (by omega) (by omega),qac (by omega) (by omega)];omega
 have hl:=qol s0 s1 0 a b _ ha hb rfl h
 have hd:=qq9 ha hb a.length
 have hv:=qsO a b a.length (Nat.le_refl _)
 rw[qaP a (Nat.le_refl _)]at hv
 have hlen:=qis a b a.length
 have hf:f186 (wrap64 (s0*s1),mO a b a.length,())=some (mkN (wrap64 (s0*s1)) (dval a*dval b),()):=by rw[qeU _ _ (by omega) hd,hv]
 simp only[f167,t167,e0,Int.toNat_natCast,b167_0,hl,qbl,outB,Tr.val_test,Tr.val_fin,if_true,hlen,g186,hf,Option.isSome_some,Option.getD_some]
 rw[if_pos (by simp;omega),if_pos (by simp)]
theorem qeX(x y:Int)(h:(dig x.natAbs).length+(dig y.natAbs).length+1≤1000000):f167 (enc x,enc y,())=some (enc (x*y),()):=by
 have hf:=qqm x.sign y.sign (dig x.natAbs) (dig y.natAbs) (qbT _) (qbT _) h
 rw[qbS,qbS]at hf
 have hw:wrap64 (x.sign*y.sign)=(x*y).sign:=by
  rw[←Int.sign_mul]
  have:(x*y).sign=-1∨(x*y).sign=0∨(x*y).sign=1:=by
   rcases Int.lt_trichotomy (x*y) 0 with h|h|h
   ·left;exact Int.sign_eq_neg_one_of_neg h
   ·right;left;rw[h];rfl
   ·right;right;exact Int.sign_eq_one_of_pos h
  exact qac (by omega) (by omega)
 rw[hw]at hf
 have he:mkN (x*y).sign ((x.natAbs:Int)*(y.natAbs:Int))=enc (x*y):=by
  rw[←Int.natCast_mul,←Int.natAbs_mul]
  exact qhd fun _=>rfl
 rw[he]at hf
 exact hf
theorem qbr(x:Int):(x<0∧x.sign=-1)∨(x=0∧x.sign=0)∨(0<x∧x.sign=1):=by
 rcases Int.lt_trichotomy x 0 with h|h|h
 ·exact .inl ⟨h,Int.sign_eq_neg_one_of_neg h⟩
 ·exact .inr (.inl ⟨h,by rw[h];rfl⟩)
 ·exact .inr (.inr ⟨h,Int.sign_eq_one_of_pos h⟩)
theorem qqL(s0 s1:Int)(a b:List Int)(ha:Dg a)(hb:Dg b)(ca:Can a)(cb:Can b)(h1:a.length≤100000)(h2:b.length≤100000):f184 ((s0,a,()),(s1,b,()),()) =
  if s0=0 then some ((s1,b,()),())else if s1=0 then some ((s0,a,()),())else if s0=s1 then some (mkN s0 (dval a+dval b),())else
  if dval a=dval b then some ((0,[],()),())else if dval b<dval a then some (mkN s0 (dval a-dval b),())else some (mkN s1 (dval b-dval a),()):=by
 have hle:∀{l:List Int}{n:Int},Dg l→Can l→dval l≤n→∀{l2:List Int},Dg l2→n=dval l2→l.length≤l2.length:=fun{l n} hd hc hn {l2} hd2 e=>by
  rcases Nat.lt_or_ge l2.length l.length with h|h
  ·exfalso
   obtain⟨m,hm⟩:∃m,l.length=m+1:=⟨l.length-1,by omega⟩
   have:=qpX hd hc hm
   have:=qjx hd2
   have:pw l2.length≤pw m:=ql1 (by omega)
   omega
  ·exact h
 have hn:nA a b≤max a.length b.length+1:=by unfold nA;split<;>omega
 simp only[f184,t184,Tr.val_test,Tr.val_fin,qam,qag,decide_eq_true_eq]
 by_cases c1:s0=0
 ·rw[if_pos c1,if_pos c1]
 rw[if_neg c1,if_neg c1]
 by_cases c2:s1=0
 ·rw[if_pos c2,if_pos c2]
 rw[if_neg c2,if_neg c2]
 by_cases c3:s0=s1
 ·rw[if_pos c3,if_pos c3]
  simp only[g204,qr7 a b ha hb h1 h2,Option.isSome_some,Option.getD_some,if_true,g186,qeU s0 (oA a b (nA a b)) (by rw[qmJ];omega) (qs5 a b _),qta ha hb]
 rw[if_neg c3,if_neg c3]
 simp only[g200,qow a b ha hb ca cb (by omega),Option.isSome_some,Option.getD_some,if_true]
 rcases qbr (dval a-dval b)with⟨hs,e⟩|⟨hs,e⟩|⟨hs,e⟩
 ·have hl:=hle ha ca (show dval a≤dval b by omega) hb rfl
  have hv:((dval b-dval a).toNat:Int)=dval b-dval a:=by omega
  have hlen:(dig (dval b-dval a).toNat).length≤b.length:=qaD (by have:=qjx hb;have:=qce ha;omega)
  rw[if_neg (by rw[e];omega),if_neg (by rw[e];simp)]
  simp only[g201,qk6 b a hb ha (by omega) hl (by omega),Option.isSome_some,Option.getD_some,if_true,g186,qeU s1 (dig (dval b-dval a).toNat) (by omega) (qbT _),qbS,hv]
  rw[if_neg (by omega),if_neg (by omega)]
 ·rw[if_pos (by rw[e]),if_pos (by omega)]
 ·have hl:=hle hb cb (show dval b≤dval a by omega) ha rfl
  have hv:((dval a-dval b).toNat:Int)=dval a-dval b:=by omega
  have hlen:(dig (dval a-dval b).toNat).length≤a.length:=qaD (by have:=qjx ha;have:=qce hb;omega)
  rw[if_neg (by rw[e];omega),if_pos (by rw[e];simp)]
  simp only[g201,qk6 a b ha hb (by omega) hl (by omega),Option.isSome_some,Option.getD_some,if_true,g186,qeU s0 (dig (dval a-dval b).toNat) (by omega) (qbT _),qbS,hv]
  rw[if_neg (by omega),if_pos (by omega)]
theorem qf4{s n z:Int}(h:n=z.natAbs)(hs:z≠0→s=z.sign):mkN s n=enc z:=by rw[h];exact qhd hs
theorem qou(x y:Int)(h1:(dig x.natAbs).length≤100000)(h2:(dig y.natAbs).length≤100000):f184 (enc x,enc y,())=some (enc (x+y),()):=by
 have hf:=qqL x.sign y.sign (dig x.natAbs) (dig y.natAbs) (qbT _) (qbT _) (qhz _) (qhz _) h1 h2
 rw[qbS,qbS]at hf
 refine hf.trans ?_
 have t0:(0:Int).sign=0:=rfl
 rcases qbr x with⟨hx,ex⟩|⟨hx,ex⟩|⟨hx,ex⟩
 ·rcases qbr y with⟨hy,ey⟩|⟨hy,ey⟩|⟨hy,ey⟩
  ·rw[ex,ey,if_neg (by omega),if_neg (by omega),if_pos rfl,qf4 (z:=x+y) (by omega) fun _=>by rw[Int.sign_eq_neg_one_of_neg (by omega)]]
  ·rw[ex,ey,if_neg (by omega),if_pos rfl];subst hy;rw[Int.add_zero,enc,ex]
  ·rw[ex,ey,if_neg (by omega),if_neg (by omega),if_neg (by omega)]
   split
   ·have:x+y=0:=by omega
    rw[this];simp[enc,qaS]
   ·split
    ·rw[qf4 (z:=x+y) (by omega) fun _=>by rw[Int.sign_eq_neg_one_of_neg (by omega)]]
    ·rw[qf4 (z:=x+y) (by omega) fun _=>by rw[Int.sign_eq_one_of_pos (by omega)]]
 ·rw[ex,if_pos rfl];subst hx;rw[Int.zero_add,enc]
 ·rcases qbr y with⟨hy,ey⟩|⟨hy,ey⟩|⟨hy,ey⟩
  ·rw[ex,ey,if_neg (by omega),if_neg (by omega),if_neg (by omega)]
   split
   ·have:x+y=0:=by omega
    rw[this];simp[enc,qaS]
   ·split
    ·rw[qf4 (z:=x+y) (by omega) fun _=>by rw[Int.sign_eq_one_of_pos (by omega)]]
    ·rw[qf4 (z:=x+y) (by omega) fun _=>by rw[Int.sign_eq_neg_one_of_neg (by omega)]]
  ·rw[ex,ey,if_neg (by omega),if_pos rfl];subst hy;rw[Int.add_zero,enc,ex]
  ·rw[ex,ey,if_neg (by omega),if_neg (by omega),if_pos rfl,qf4 (z:=x+y) (by omega) fun _=>by rw[Int.sign_eq_one_of_pos (by omega)]]
theorem qr8(x:Int):(IntKind.wrap .i64 (0-x.sign),dig x.natAbs,())=enc (-x):=by
 have:IntKind.wrap .i64 (0-x.sign)=(-x).sign:=by
  rw[Int.sign_neg]
  rcases qbr x with⟨_,e⟩|⟨_,e⟩|⟨_,e⟩<;>rw[e]<;>rfl
 rw[this,enc,Int.natAbs_neg]
theorem qo8(x:Int):f179 (enc x,())=some (enc (-x),()):=by
 rw[←qr8];rfl
theorem qlg(x y:Int)(h1:(dig x.natAbs).length≤100000)(h2:(dig y.natAbs).length≤100000):f187 (enc x,enc y,())=some (enc (x-y),()):=by
 have e0:f179 ((y.sign,dig y.natAbs,()),())=some (enc (-y),()):=qo8 y
 have e1:f184 ((x.sign,dig x.natAbs,()),((enc (-y)).1,(enc (-y)).2.1,()),())=some (enc (x-y),()):=qou x (-y) h1 (by rw[Int.natAbs_neg];exact h2)
 show f187 ((x.sign,dig x.natAbs,()),(y.sign,dig y.natAbs,()),())=_
 simp only[f187,t187,g179,e0,g184,e1,Option.isSome_some,Option.getD_some,Tr.val_test,Tr.val_fin,if_true]
theorem qpY(x y:Int)(h1:(dig x.natAbs).length≤100000)(h2:(dig y.natAbs).length≤100000):f166 (enc x,enc y,())=some ((x-y).sign,()):=by
 have e0:f187 ((x.sign,dig x.natAbs,()),(y.sign,dig y.natAbs,()),())=some (enc (x-y),()):=qlg x y h1 h2
 show f166 ((x.sign,dig x.natAbs,()),(y.sign,dig y.natAbs,()),())=_
 simp only[f166,t166,g187,e0,Option.isSome_some,Option.getD_some,Tr.val_test,Tr.val_fin,if_true]
 rfl
theorem qqa(x:Int):f212 (enc x,())=some (enc x.natAbs,()):=by
 have e0:f179 ((x.sign,dig x.natAbs,()),())=some (enc (-x),()):=qo8 x
 show f212 ((x.sign,dig x.natAbs,()),())=_
 simp only[f212,t212,g179,e0,Option.isSome_some,Option.getD_some,Tr.val_test,Tr.val_fin,qag,if_true]
 rcases qbr x with⟨h,e⟩|⟨h,e⟩|⟨h,e⟩
 ·rw[if_pos (by rw[e];simp),show((x.natAbs:Nat):Int)=-x by omega]
 ·subst h;rfl
 ·rw[if_neg (by rw[e];simp),show((x.natAbs:Nat):Int)=x by omega];rfl
theorem qcS{m n:Nat}(h:m≤n):(dig m).length≤(dig n).length:=qaD (by have:=qbF n;omega)
theorem qpr{x:Int}(h:0<x):f186 (1,dig x.natAbs,())=f186 (x.sign,dig x.natAbs,()):=by rw[Int.sign_eq_one_of_pos h]
theorem ql8(x:Int)(h:(dig x.natAbs).length≤1000000000):f186 (x.sign,dig x.natAbs,())=some (enc x,()):=by
 rw[qeU _ _ h (qbT _),qbS,qhd fun _=>rfl]
theorem qg4{x:Int}(h0:0≤x)(h:x<1000000000):(dig x.natAbs).length≤1:=qaD (by simp only[pw];omega)
theorem qmo{x y:Int}(hx:(dig x.natAbs).length≤10000)(h0:0≤y)(h:y<1000000000):f167 (((enc x).1,(enc x).2.1,()),((enc y).1,(enc y).2.1,()),())=some (enc (x*y),()):=
 qeX x y (by have:=qg4 h0 h;omega)
theorem qrH(n c:Nat)(i s0 s1 z:Int)(a buf:List Int)(V Y:Int)(hV:0≤V)(hY:0<Y)(hl:(dig Y.natAbs).length≤10000)(hq:V/Y≤999999999):
  ∀(k:Nat)(lo hi:Int)(m:Nat),(hi-lo).toNat≤k→0≤lo→lo≤V/Y→V/Y≤hi→hi≤999999999→k<m →
   itr s178_2 m (((n,c),(dig V.toNat,i,lo,hi,())),((s0,a,()),(s1,dig Y.natAbs,()),(z,()),buf,())) =
    some (.inl (((n,c),(dig V.toNat,i,V/Y,())),((s0,a,()),(s1,dig Y.natAbs,()),(z,()),buf,())))
 |k,lo,hi,m,hk,h1,h2,h3,h4,hm=>by
  obtain⟨m,rfl⟩:∃j,m=j+1:=⟨m-1,by omega⟩
  by_cases h:lo<hi
  ·obtain⟨k,rfl⟩:∃j,k=j+1:=⟨k-1,by omega⟩
   have e0:IntKind.wrap .i64 (Int.tdiv (wrap64 (wrap64 (lo+hi)+1)) 2)=(lo+hi+1)/2:=by
    rw[qac (n:=lo+hi) (by omega) (by omega),qac (by omega) (by omega),Int.tdiv_eq_ediv_of_nonneg (by omega),qp0 (by omega) (by omega)]
   have e5:wrap64 ((lo+hi+1)/2-1)=(lo+hi+1)/2-1:=qac (by omega) (by omega)
   generalize hmid:(lo+hi+1)/2=mid at *
   have b1:0≤mid:=by omega
   have b2:mid<1000000000:=by omega
   have e1:f186 (1,dig Y.natAbs,())=some (enc Y,()):=by rw[qpr hY,ql8 Y (by omega)]
   have e2:=qeg mid (by omega)
   have e3:=qmo (x:=Y) hl b1 b2
   have hnn:0≤Y*mid:=Int.mul_nonneg (by omega) b1
   have hvn:((V.toNat:Nat):Int)=V:=by omega
   have hlm:(dig (Y*mid).natAbs).length≤(dig Y.natAbs).length+1:=qaD (by
    have q1:=qbF Y.natAbs
    have q3:Y*mid<Y*1000000000:=Int.mul_lt_mul_of_pos_left b2 hY
    simp only[pw]
    omega)
   have e4:f200 ((enc (Y*mid)).2.1,dig V.toNat,())=some ((Y*mid-V).sign,()):=by
    have:=qow (dig (Y*mid).natAbs) (dig V.toNat) (qbT _) (qbT _) (qhz _) (qhz _) (by omega)
    rw[qbS,qbS,hvn,show(((Y*mid).natAbs:Nat):Int)=Y*mid by omega]at this
    exact this
   have hiff:mid≤V/Y↔Y*mid≤V:=by rw[Int.le_ediv_iff_mul_le hY,Int.mul_comm]
   have hstep:s178_2 (((n,c),(dig V.toNat,i,lo,hi,())),((s0,a,()),(s1,dig Y.natAbs,()),(z,()),buf,())) =
     some (.again (((n,c),(dig V.toNat,i,(if mid≤V/Y then mid else lo),(if mid≤V/Y then hi else mid-1),())),((s0,a,()),(s1,dig Y.natAbs,()),(z,()),buf,()))):=by
    simp only[s178_2,t178_2,e0,e5,g186,e1,g164,e2,g167,e3,g200,e4,Option.isSome_some,Option.getD_some,Tr.val_test,Tr.val_fin,qag,if_true]
    rw[if_pos (by simp;omega)]
    rcases qbr (Y*mid-V)with⟨w,es⟩|⟨w,es⟩|⟨w,es⟩
    ·have:=hiff.2 (by omega)
     rw[if_pos (by rw[es];simp),if_pos this,if_pos this]
    ·have:=hiff.2 (by omega)
     rw[if_pos (by rw[es];simp),if_pos this,if_pos this]
    ·have:¬mid≤V/Y:=fun t=>by have:=hiff.1 t;omega
     rw[if_neg (by rw[es];simp),if_neg this,if_neg this]
   rw[itr,hstep]
   dsimp only
   by_cases hc:mid≤V/Y
   ·rw[if_pos hc,if_pos hc]
    exact qrH n c i s0 s1 z a buf V Y hV hY hl hq k mid hi m (by omega) b1 hc h3 h4 (by omega)
   ·rw[if_neg hc,if_neg hc]
    exact qrH n c i s0 s1 z a buf V Y hV hY hl hq k lo (mid-1) m (by omega) h1 h2 (by omega) (by omega) (by omega)
  ·have:lo=V/Y:=by omega
   rw[itr]
   simp only[s178_2,t178_2,Tr.val_test,Tr.val_fin,qag]
   rw[if_neg (by simp;omega),this]
theorem qj9(q:Int)(d:List Int):∀j,(List.replicate (j+1) 0++d).set j q=List.replicate j 0++q::d
 |0=>by simp
 |j+1=>by
  rw[List.replicate_succ,List.cons_append,List.set_cons_succ,qj9 q d j,List.replicate_succ,List.cons_append]
def upA(a:List Int):Nat→Int
 |0=>0
 |k+1=>a.getD (a.length-1-k) 0+1000000000*upA a k
theorem qmL(a:List Int):∀k,k≤a.length→upA a k=dval (a.drop (a.length-k))
 |0,_=>by simp[upA,dval]
 |k+1,h=>by
  have e:a.length-(k+1)+1=a.length-k:=by omega
  rw[upA,qmL a k (by omega),List.drop_eq_getElem_cons (show a.length-(k+1)<a.length by omega),dval,e]
  congr 1
  have:a.length-1-k=a.length-(k+1):=by omega
  rw[this]
  simp[List.getD,show a.length-(k+1)<a.length by omega]
def dQ(a:List Int)(Y:Int):Nat→List Int
 |0=>[]
 |k+1=>((a.getD (a.length-1-k) 0+1000000000*(upA a k%Y))/Y)::dQ a Y k
theorem qoG(a:List Int)(Y:Int):∀k,(dQ a Y k).length=k
 |0=>rfl
 |k+1=>by simp[dQ,qoG a Y k]
theorem qmP{a:List Int}(ha:Dg a){Y:Int}(hY:0<Y)(k:Nat):0≤(a.getD (a.length-1-k) 0+1000000000*(upA a k%Y))/Y∧(a.getD (a.length-1-k) 0+1000000000*(upA a k%Y))/Y<1000000000:=by
 have h1:=ha.getD (a.length-1-k)
 have h2:=Int.emod_nonneg (upA a k) (show Y≠0 by omega)
 have h3:=Int.emod_lt_of_pos (upA a k) hY
 refine⟨Int.ediv_nonneg (by omega) (by omega),Int.ediv_lt_of_lt_mul hY (by omega)⟩
theorem qsW{a:List Int}(ha:Dg a){Y:Int}(hY:0<Y):∀k,Dg (dQ a Y k)
 |0=>Dg.nil
 |k+1=>fun d hd=>by
  rcases List.mem_cons.1 hd with rfl|hd
  ·exact qmP ha hY k
  ·exact qsW ha hY k d hd
theorem qkZ(a:List Int){Y:Int}(k:Nat):upA a (k+1)=a.getD (a.length-1-k) 0+1000000000*(upA a k%Y)+Y*(1000000000*(upA a k/Y)):=by
 have:=Int.emod_add_mul_ediv (upA a k) Y
 rw[upA]
 have e:Y*(1000000000*(upA a k/Y))=1000000000*(Y*(upA a k/Y)):=by rw[Int.mul_left_comm]
 omega
theorem qtm(a:List Int){Y:Int}(hY:0<Y):∀k,dval (dQ a Y k)=upA a k/Y
 |0=>by simp[dQ,dval,upA]
 |k+1=>by
  rw[dQ,dval,qtm a hY k,qkZ a (Y:=Y) k,Int.add_mul_ediv_left _ _ (by omega)]
theorem qsf(a:List Int){Y:Int}(k:Nat):upA a (k+1)%Y=(a.getD (a.length-1-k) 0+1000000000*(upA a k%Y))%Y:=by
 rw[qkZ a (Y:=Y) k,Int.add_mul_emod_self_left]
theorem qsY(V Y:Int)(hV:0≤V)(hY:0<Y):f201 (dig V.toNat,(enc (Y*(V/Y))).2.1,())=f201 (dig V.toNat,dig (Y*(V/Y)).toNat,()):=by
 have h:0≤Y*(V/Y):=Int.mul_nonneg (by omega) (Int.ediv_nonneg hV (by omega))
 rw[show(Y*(V/Y)).toNat=(Y*(V/Y)).natAbs by omega];rfl
theorem qqU(V Y:Int)(hV:0≤V)(hY:0<Y)(h:(dig V.toNat).length≤1000000):f201 (dig V.toNat,(enc (Y*(V/Y))).2.1,())=some (dig (V%Y).toNat,()):=by
 have h0:0≤Y*(V/Y):=Int.mul_nonneg (by omega) (Int.ediv_nonneg hV (by omega))
 have h1:=Int.emod_add_mul_ediv V Y
 have h2:=Int.emod_nonneg V (show Y≠0 by omega)
 have e1:((V.toNat:Nat):Int)=V:=by omega
 have e2:(((Y*(V/Y)).toNat:Nat):Int)=Y*(V/Y):=by omega
 rw[qsY V Y hV hY,qk6 _ _ (qbT _) (qbT _) h (qcS (by omega)) (by rw[qbS,qbS];omega),qbS,qbS,e1,e2,show V-Y*(V/Y)=V%Y by omega]
theorem l178(s0 s1 z:Int)(a:List Int)(Y:Int)(ha:Dg a)(hY:0<Y)(hl:(dig Y.natAbs).length≤10000)(h:a.length≤10000):
  l178_0 (((a.length,a.length),([],(a.length:Int)-1,())),((s0,a,()),(s1,dig Y.natAbs,()),(z,()),List.replicate a.length 0,())) =
   some (.inl (((a.length,a.length),(dig (upA a a.length%Y).toNat,())),((s0,a,()),(s1,dig Y.natAbs,()),(z,()),dQ a Y a.length,()))):=by
 have key:=qcD (step:=s178_0) (m:=rounds) (n:=a.length) (b:=(((a.length,a.length),(dig (upA a a.length%Y).toNat,())),((s0,a,()),(s1,dig Y.natAbs,()),(z,()),dQ a Y a.length,())))
  (fun k=>(((a.length,a.length),(dig (upA a k%Y).toNat,(a.length:Int)-1-(k:Int),())),((s0,a,()),(s1,dig Y.natAbs,()),(z,()),List.replicate (a.length-k) 0++dQ a Y k,()))) ?_ ?_ (qal (by omega))
 ·have h0:dig (upA a 0%Y).toNat=[]:=by simp[upA,qaS]
  have h1:List.replicate (a.length-0) (0:Int)++dQ a Y 0=List.replicate a.length 0:=by simp[dQ]
  have h2:(a.length:Int)-1-((0:Nat):Int)=(a.length:Int)-1:=by omega
  simp only[h0,h1,h2]at key
  exact key
 ·intro k hk
  have hidx:(a.length:Int)-1-(k:Int)=((a.length-1-k:Nat):Int):=by omega
  have hnext:wrap64 (((a.length-1-k:Nat):Int)-1)=(a.length:Int)-1-((k+1:Nat):Int):=by rw[qac (by omega) (by omega)];omega
  have hrep:List.replicate (a.length-k) (0:Int)=List.replicate ((a.length-1-k)+1) 0:=by congr 1;omega
  have hset:(List.replicate (a.length-k) 0++dQ a Y k).set (a.length-1-k) ((a.getD (a.length-1-k) 0+1000000000*(upA a k%Y))/Y)=List.replicate (a.length-(k+1)) 0++dQ a Y (k+1):=by
   rw[hrep,qj9,dQ,show a.length-(k+1)=a.length-1-k by omega]
  have hblen:(List.replicate (a.length-k) (0:Int)++dQ a Y k).length=a.length:=by rw[List.length_append,List.length_replicate,qoG];omega
  have hb:=qmP ha hY k
  have hd:=ha.getD (a.length-1-k)
  have hr0:=Int.emod_nonneg (upA a k) (show Y≠0 by omega)
  have hr1:=Int.emod_lt_of_pos (upA a k) hY
  have hmod:=qsf a (Y:=Y) k
  generalize hR:upA a k%Y=R at *
  generalize hV:a.getD (a.length-1-k) 0+1000000000*R=V at *
  have hV0:0≤V:=by omega
  have hRl:(dig R.toNat).length≤10000:=Nat.le_trans (qcS (by omega)) hl
  have hVl:(dig V.toNat).length≤10001:=by
   refine Nat.le_trans (m:=(dig Y.natAbs).length+1) (qaD ?_) (by omega)
   have q1:=qbF Y.natAbs
   simp only[pw];omega
  have hdg:Dg ([a.getD (a.length-1-k) 0]++dig R.toNat):=Dg.append (fun x hx=>by rw[List.mem_singleton]at hx;subst hx;exact hd) (qbT _)
  have hf:f199 ([a.getD (a.length-1-k) 0]++dig R.toNat,())=some (dig V.toNat,()):=by
   rw[ql3 _ (by simp;omega) hdg]
   congr 3
   have:dval ([a.getD (a.length-1-k) 0]++dig R.toNat)=V:=by
    show a.getD (a.length-1-k) 0+1000000000*dval (dig R.toNat)=V
    rw[qbS];omega
   rw[this]
  have hin:l178_2 (((a.length,a.length),(dig V.toNat,((a.length-1-k:Nat):Int),(0:Int),(999999999:Int),())),((s0,a,()),(s1,dig Y.natAbs,()),(z,()),List.replicate (a.length-k) 0++dQ a Y k,())) =
    some (.inl (((a.length,a.length),(dig V.toNat,((a.length-1-k:Nat):Int),V/Y,())),((s0,a,()),(s1,dig Y.natAbs,()),(z,()),List.replicate (a.length-k) 0++dQ a Y k,()))):=
   qrH _ _ _ s0 s1 z a _ V Y hV0 hY hl (by omega) 999999999 0 999999999 rounds (by omega) (by omega) hb.1 (by omega) (by omega) (qal (by omega))
  have e1:f186 (1,dig Y.natAbs,())=some (enc Y,()):=by rw[qpr hY,ql8 Y (by omega)]
  have e2:=qeg (V/Y) (by omega)
  have e3:=qmo (x:=Y) hl hb.1 hb.2
  have e4:=qqU V Y hV0 hY (by omega)
  rw[hidx]
  dsimp only
  simp only[s178_0,t178_0,Tr.val_test,Tr.val_fin,qag,Int.toNat_natCast]
  rw[if_pos (by simp),if_pos (by simp;omega)]
  simp only[g199,hf,b178_2,hin,qbl,outB,g186,e1,g164,e2,g167,e3,g201,e4,Option.isSome_some,Option.getD_some,if_true,Int.toNat_natCast,Nat.zero_add,hset,hnext,hmod,hblen]
  rw[if_pos (by simp only[Bool.and_eq_true,qaK];omega),if_pos (by simp;omega),if_pos (by rw[qaK];omega)]
 ·have e:(a.length:Int)-1-(a.length:Int)=-1:=by omega
  simp only[e,Nat.sub_self,List.replicate_zero,List.nil_append]
  simp[s178_0,t178_0,qag]
theorem qhO{x Y:Int}(hY:0<Y):x/Y=if(-x)%Y=0 then -((-x)/Y)else -((-x)/Y)-1:=by
 have h1:=Int.emod_add_mul_ediv (-x) Y
 have h2:=Int.emod_nonneg (-x) (show Y≠0 by omega)
 have h3:=Int.emod_lt_of_pos (-x) hY
 split
 ·rename_i h
  refine((Int.ediv_emod_unique (r:=0) hY).2 ⟨?_,by omega,hY⟩).1
  rw[Int.mul_neg];omega
 ·refine((Int.ediv_emod_unique (r:=Y-(-x)%Y) hY).2 ⟨?_,by omega,by omega⟩).1
  rw[Int.mul_sub,Int.mul_neg];omega
theorem qlc(x Y:Int)(hY:0<Y)(hl:(dig Y.natAbs).length≤10000)(h:(dig x.natAbs).length≤10000):f178 (enc x,enc Y,())=some (enc (x/Y),()):=by
 show f178 ((x.sign,dig x.natAbs,()),(Y.sign,dig Y.natAbs,()),())=_
 have hL:=l178 x.sign Y.sign 0 (dig x.natAbs) Y (qbT _) hY hl h
 have hup:upA (dig x.natAbs) (dig x.natAbs).length=(x.natAbs:Int):=by
  rw[qmL _ _ (Nat.le_refl _),Nat.sub_self,List.drop_zero,qbS]
 rw[hup]at hL
 have hdq:=qtm (dig x.natAbs) hY (dig x.natAbs).length
 rw[hup]at hdq
 have hw:wrap64 (((dig x.natAbs).length:Int)-1)=((dig x.natAbs).length:Int)-1:=qac (by omega) (by omega)
 have hql:=qoG (dig x.natAbs) Y (dig x.natAbs).length
 have hf:f186 (x.sign,dQ (dig x.natAbs) Y (dig x.natAbs).length,())=some (mkN x.sign ((x.natAbs:Int)/Y),()):=by
  rw[qeU _ _ (by omega) (qsW (qbT _) hY _),hdq]
 have h0:=Int.ediv_nonneg (show(0:Int)≤(x.natAbs:Int)by omega) (show 0≤Y by omega)
 have hle:(x.natAbs:Int)/Y≤x.natAbs:=Int.ediv_le_self _ (by omega)
 simp only[f178,t178,Tr.val_test,Tr.val_fin,qam,qag,hw,Int.toNat_natCast,b178_0,hL,qbl,outB,if_true,g186,hf,hql,Option.isSome_some,Option.getD_some]
 rcases qbr x with⟨hx,e⟩|⟨hx,e⟩|⟨hx,e⟩
 ·have ex:(x.natAbs:Int)=-x:=by omega
  rw[if_neg (by rw[e];simp),if_pos (by simp;omega),if_pos (by simp),if_pos (by rw[e];simp)]
  have hm:mkN x.sign ((x.natAbs:Int)/Y)=enc (-((-x)/Y)):=qf4 (by rw[ex]at h0 ⊢;omega) fun hz=>by
   rw[ex]at h0;rw[e,Int.sign_eq_neg_one_of_neg (by omega)]
  have hfl:=qhO (x:=x) hY
  have hr0:=Int.emod_nonneg (-x) (show Y≠0 by omega)
  rw[hm,ex]
  by_cases hr:(-x)%Y=0
  ·rw[if_pos hr]at hfl
   rw[if_neg (by rw[hr];simp[qaS]),hfl]
  ·rw[if_neg hr]at hfl
   have hne:(dig ((-x)%Y).toNat).length≠0:=fun t=>by
    have:=dig_nil.1 (List.eq_nil_of_length_eq_zero t);omega
   have e1:=qeg 1 (by decide)
   have hlq:(dig (-((-x)/Y)).natAbs).length≤10000:=Nat.le_trans (qcS (by rw[ex]at h0 hle;omega)) h
   have e2:f187 (((enc (-((-x)/Y))).1,(enc (-((-x)/Y))).2.1,()),((enc 1).1,(enc 1).2.1,()),())=some (enc (-((-x)/Y)-1),()):=qlg _ 1 (by omega) (by have:=qg4 (x:=1) (by omega) (by omega);omega)
   rw[if_pos (by simp only[Bool.not_eq_true',decide_eq_false_iff_not];omega)]
   simp only[g164,e1,g187,e2,Option.isSome_some,Option.getD_some,if_true]
   rw[hfl]
 ·subst hx
  rw[if_pos (by simp),Int.zero_ediv];simp[enc,qaS]
 ·have ex:(x.natAbs:Int)=x:=by omega
  rw[if_neg (by rw[e];simp),if_pos (by simp;omega),if_pos (by simp),if_neg (by rw[e];simp)]
  rw[qf4 (z:=x/Y) (by rw[ex]at h0 ⊢;omega) fun hz=>by
   rw[ex]at h0;rw[e,Int.sign_eq_one_of_pos (by omega)]]
theorem qrD:∀n,pw n≤(((2^(30*n):Nat)):Int)
 |0=>by simp[pw]
 |n+1=>by
  have:=qrD n
  have e:(2:Nat)^(30*(n+1))=1073741824*2^(30*n):=by rw[Nat.mul_add,Nat.pow_add,Nat.mul_comm]
  rw[e,pw]
  omega
theorem qq6{b r:Nat}(h0:0<r)(h:r<b):2*(b%r)<b:=by
 have h1:=Nat.mod_lt b h0
 have h2:=Nat.div_add_mod b r
 have h3:1≤b/r:=(Nat.one_le_div_iff h0).2 (Nat.le_of_lt h)
 have h4:r*1≤r*(b/r):=Nat.mul_le_mul_left r h3
 omega
theorem qkG(a b:Nat)(z:Int)(hb:b≠0)(h1:(dig a).length≤10000)(h2:(dig b).length≤10000):
  s203_0 ((),(((a:Int).sign,dig a,()),((b:Int).sign,dig b,()),(z,()),()))=some (.again ((),(((b:Int).sign,dig b,()),(((a%b:Nat):Int).sign,dig (a%b),()),(z,()),()))):=by
 have e0:f202 (((b:Int).sign,dig b,()),())=some ((b:Int).sign,()):=rfl
 have e1:f178 (((a:Int).sign,dig a,()),((b:Int).sign,dig b,()),())=some (enc ((a:Int)/(b:Int)),()):=qlc a b (by omega) h2 h1
 have hd:(dig ((a:Int)/(b:Int)).natAbs).length≤10000:=Nat.le_trans (qcS (by
  have:((a:Int)/(b:Int)).natAbs=a/b:=by rw[←Int.natCast_ediv];rfl
  rw[this];exact Nat.div_le_self _ _)) h1
 have e2:f167 (((enc ((a:Int)/(b:Int))).1,(enc ((a:Int)/(b:Int))).2.1,()),((b:Int).sign,dig b,()),())=some (enc ((a:Int)/(b:Int)*(b:Int)),()):=qeX _ b (by simp only[Int.natAbs_natCast];omega)
 have hm:=Int.emod_add_mul_ediv (a:Int) b
 have hle:0≤(a:Int)/(b:Int)*(b:Int):=Int.mul_nonneg (Int.ediv_nonneg (by omega) (by omega)) (by omega)
 have hmn:=Int.emod_nonneg (a:Int) (show(b:Int)≠0 by omega)
 have hcm:(a:Int)/(b:Int)*(b:Int)=(b:Int)*((a:Int)/(b:Int)):=Int.mul_comm _ _
 have e3:f187 (((a:Int).sign,dig a,()),((enc ((a:Int)/(b:Int)*(b:Int))).1,(enc ((a:Int)/(b:Int)*(b:Int))).2.1,()),())=some (enc ((a%b:Nat):Int),()):=by
  have h:=qlg a ((a:Int)/(b:Int)*(b:Int)) (by simp only[Int.natAbs_natCast];omega) (Nat.le_trans (qcS (n:=a) (by omega)) (by omega))
  rw[show(a:Int)-(a:Int)/(b:Int)*(b:Int)=((a%b:Nat):Int)by rw[Int.natCast_emod];omega]at h
  exact h
 have hs:(b:Int).sign=1:=Int.sign_eq_one_of_pos (by omega)
 simp only[s203_0,t203_0,g202,e0,g178,e1,g167,e2,g187,e3,Option.isSome_some,Option.getD_some,Tr.val_test,Tr.val_fin,qam,if_true]
 rw[if_pos (by rw[hs];simp)]
 rfl
theorem qms(a:Nat)(z:Int):s203_0 ((),(((a:Int).sign,dig a,()),(((0:Nat):Int).sign,dig 0,()),(z,()),()))=some (.brk ((),(((a:Int).sign,dig a,()),(((0:Nat):Int).sign,dig 0,()),(z,()),()))):=by
 have e0:f202 ((((0:Nat):Int).sign,dig 0,()),())=some (((0:Nat):Int).sign,()):=rfl
 simp only[s203_0,t203_0,g202,e0,Option.isSome_some,Option.getD_some,Tr.val_test,Tr.val_fin,qam,if_true]
 rw[if_neg (by simp)]
theorem qtp(z:Int):∀(k a b m:Nat),b<2^k→(dig a).length≤10000→(dig b).length≤10000→2*k<m →
  itr s203_0 m ((),(((a:Int).sign,dig a,()),((b:Int).sign,dig b,()),(z,()),())) =
   some (.inl ((),(((Nat.gcd a b:Nat):Int).sign,dig (Nat.gcd a b),()),(((0:Nat):Int).sign,dig 0,()),(z,()),()))
 |k,a,b,m,h,h1,h2,hm=>by
  obtain⟨m,rfl⟩:∃j,m=j+1:=⟨m-1,by omega⟩
  by_cases hb:b=0
  ·subst hb
   rw[itr,qms,Nat.gcd_zero_right]
  ·rw[itr,qkG a b z hb h1 h2]
   dsimp only
   have hr:=Nat.mod_lt a (Nat.pos_of_ne_zero hb)
   have hrl:(dig (a%b)).length≤10000:=Nat.le_trans (qcS (Nat.le_of_lt hr)) h2
   have hg:Nat.gcd a b=Nat.gcd b (a%b):=by rw[Nat.gcd_comm,Nat.gcd_rec,Nat.gcd_comm]
   obtain⟨m,rfl⟩:∃j,m=j+1:=⟨m-1,by
    cases k with
    |zero=>simp at h;omega
    |succ k=>omega⟩
   by_cases hr0:a%b=0
   ·rw[hg,hr0,itr,qms,Nat.gcd_zero_right]
   ·rw[itr,qkG b (a%b) z hr0 h2 hrl]
    dsimp only
    have hh:=qq6 (Nat.pos_of_ne_zero hr0) hr
    have hg2:Nat.gcd b (a%b)=Nat.gcd (a%b) (b%(a%b)):=by rw[Nat.gcd_comm,Nat.gcd_rec,Nat.gcd_comm]
    cases k with
    |zero=>simp at h;omega
    |succ k=>
     rw[hg,hg2]
     have h3:=Nat.mod_lt b (Nat.pos_of_ne_zero hr0)
     exact qtp z k (a%b) (b%(a%b)) m (by rw[Nat.pow_succ]at h;omega) hrl (Nat.le_trans (qcS (by omega)) hrl) (by omega)
theorem qsx(x y:Int)(h1:(dig x.natAbs).length≤10000)(h2:(dig y.natAbs).length≤10000):f203 (enc x,enc y,())=some (enc (Nat.gcd x.natAbs y.natAbs:Nat),()):=by
 have e0:f212 ((x.sign,dig x.natAbs,()),())=some (enc x.natAbs,()):=qqa x
 have e1:f212 ((y.sign,dig y.natAbs,()),())=some (enc y.natAbs,()):=qqa y
 have hlt:y.natAbs<2^(30*(dig y.natAbs).length):=by
  have q1:=qbF y.natAbs
  have q2:=qrD (dig y.natAbs).length
  omega
 have hl:l203_0 ((),(((enc x.natAbs).1,(enc x.natAbs).2.1,()),((enc y.natAbs).1,(enc y.natAbs).2.1,()),((0:Int),()),())) =
   some (.inl ((),(((Nat.gcd x.natAbs y.natAbs:Nat):Int).sign,dig (Nat.gcd x.natAbs y.natAbs),()),(((0:Nat):Int).sign,dig 0,()),((0:Int),()),())):=
  qtp 0 _ x.natAbs y.natAbs rounds hlt h1 h2 (qal (by omega))
 show f203 ((x.sign,dig x.natAbs,()),(y.sign,dig y.natAbs,()),())=_
 simp only[f203,t203,g212,e0,e1,b203_0,hl,Option.isSome_some,Option.getD_some,Tr.val_test,Tr.val_fin,qbl,outB,if_true]
 rfl
def encR(r:Rat):(Int×List Int×PUnit)×(Int×List Int×PUnit)×PUnit:=(enc r.num,enc (r.den:Int),())
def rsz(r:Rat)(n:Nat):Prop:=(dig r.num.natAbs).length≤n∧(dig r.den).length≤n
theorem qp5(m n:Nat):(dig (m*n)).length≤(dig m).length+(dig n).length:=qaD (by
 have h1:=qbF m;have h2:=qbF n
 rw[qpk,Int.natCast_mul]
 rcases Nat.eq_zero_or_pos n with h|h
 ·subst h
  have:=qeI (dig m).length;have:=qeI (dig 0).length
  have:=Int.mul_pos (qeI (dig m).length) (qeI (dig 0).length)
  simpa using this
 ·exact Int.lt_of_lt_of_le (Int.mul_lt_mul_of_pos_right h1 (by omega)) (Int.mul_le_mul_of_nonneg_left (Int.le_of_lt h2) (Int.le_of_lt (qeI _))))
theorem qsA(x y:Int){k:Nat}(h1:(dig x.natAbs).length≤k)(h2:(dig y.natAbs).length≤k):(dig (x+y).natAbs).length≤k+1:=qaD (by
 have q1:=qbF x.natAbs;have q2:=qbF y.natAbs
 have q3:pw (dig x.natAbs).length≤pw k:=ql1 h1
 have q4:pw (dig y.natAbs).length≤pw k:=ql1 h2
 simp only[pw];omega)
theorem qgz(x y:Int):(dig (x*y).natAbs).length≤(dig x.natAbs).length+(dig y.natAbs).length:=by rw[Int.natAbs_mul];exact qp5 _ _
theorem qo6(x:Int)(y:Nat)(hy:y≠0)(h1:(dig x.natAbs).length≤10000)(h2:(dig y).length≤10000):f183 (enc x,enc (y:Int),())=some (encR (Rat.normalize x y hy),()):=by
 have hs:(y:Int).sign=1:=Int.sign_eq_one_of_pos (by omega)
 have e0:f202 (((y:Int).sign,dig (y:Int).natAbs,()),())=some ((y:Int).sign,()):=rfl
 have e1:f203 ((x.sign,dig x.natAbs,()),((y:Int).sign,dig (y:Int).natAbs,()),())=some (enc (Nat.gcd x.natAbs y:Nat),()):=qsx x y h1 h2
 have e2:=qeg 1 (by decide)
 have hg:0<Nat.gcd x.natAbs y:=Nat.gcd_pos_of_pos_right _ (by omega)
 have hgl:(dig (Nat.gcd x.natAbs y)).length≤10000:=Nat.le_trans (qcS (Nat.gcd_le_right _ (by omega))) h2
 have hnum:(Rat.normalize x y hy).num=x/((Nat.gcd x.natAbs y:Nat):Int):=by rw[Rat.normalize_eq]
 have hden:(Rat.normalize x y hy).den=y/Nat.gcd x.natAbs y:=by rw[Rat.normalize_eq]
 generalize hgg:Nat.gcd x.natAbs y=g at *
 have e3:f166 (((enc (g:Nat)).1,(enc (g:Nat)).2.1,()),((enc 1).1,(enc 1).2.1,()),())=some (((g:Int)-1).sign,()):=qpY (g:Int) 1 (by simp only[Int.natAbs_natCast];omega) (by have:=qg4 (x:=1) (by omega) (by omega);omega)
 have e4:f178 ((x.sign,dig x.natAbs,()),((enc (g:Nat)).1,(enc (g:Nat)).2.1,()),())=some (enc (x/(g:Int)),()):=qlc x g (by omega) hgl h1
 have e5:f178 (((y:Int).sign,dig (y:Int).natAbs,()),((enc (g:Nat)).1,(enc (g:Nat)).2.1,()),())=some (enc ((y:Int)/(g:Int)),()):=qlc y g (by omega) hgl h2
 show f183 ((x.sign,dig x.natAbs,()),((y:Int).sign,dig (y:Int).natAbs,()),())=_
 simp only[f183,t183,g202,e0,g203,e1,g164,e2,g166,e3,Option.isSome_some,Option.getD_some,Tr.val_test,Tr.val_fin,qag,qam,if_true]
 rw[if_neg (by rw[hs];simp)]
 by_cases h:g=1
 ·subst h
  rw[if_pos (by simp),encR,hnum,hden]
  simp[enc]
 ·rw[if_neg (by rw[Int.sign_eq_one_of_pos (by omega)];simp)]
  simp only[g178,e4,e5,Option.isSome_some,Option.getD_some,if_true]
  rw[encR,hnum,hden,Int.natCast_ediv]
theorem qlV(x:Int)(h:x.natAbs≤9223372036854775807):f106 (x,())=some (encR (x:Rat),()):=by
 have e1:=qeg x h
 have e2:=qeg 1 (by decide)
 simp only[f106,t106,g164,e1,e2,Option.isSome_some,Option.getD_some,Tr.val_test,Tr.val_fin,if_true]
 rfl
theorem qsD(x:Int)(y:Nat)(hy:y≠0)(h:x.natAbs≤9223372036854775807)(h2:y≤9223372036854775807):f163 (x,(y:Int),())=some (encR (Rat.normalize x y hy),()):=by
 have e1:=qeg x h
 have e2:=qeg (y:Int) (by omega)
 have e3:f183 (((enc x).1,(enc x).2.1,()),((enc (y:Int)).1,(enc (y:Int)).2.1,()),())=some (encR (Rat.normalize x y hy),()):=qo6 x y hy
  (Nat.le_trans (qaD (k:=3) (by simp only[pw];omega)) (by omega)) (Nat.le_trans (qaD (k:=3) (by simp only[pw];omega)) (by omega))
 simp only[f163,t163,g164,e1,e2,g183,e3,Option.isSome_some,Option.getD_some,Tr.val_test,Tr.val_fin,if_true]
theorem qr2(r s:Rat)(hr:rsz r 2000)(hs:rsz s 2000):f162 (encR r,encR s,())=some (encR (r+s),()):=by
 obtain⟨r1,r2⟩:=hr
 obtain⟨s1,s2⟩:=hs
 have m1:=qgz r.num (s.den:Int)
 have m2:=qgz s.num (r.den:Int)
 have m3:=qp5 r.den s.den
 simp only[Int.natAbs_natCast]at m1 m2
 have m4:=qsA (r.num*(s.den:Int)) (s.num*(r.den:Int)) (k:=4000) (by omega) (by omega)
 have e1:f167 ((r.num.sign,dig r.num.natAbs,()),((s.den:Int).sign,dig s.den,()),())=some (enc (r.num*(s.den:Int)),()):=qeX _ _ (by simp only[Int.natAbs_natCast];omega)
 have e2:f167 ((s.num.sign,dig s.num.natAbs,()),((r.den:Int).sign,dig r.den,()),())=some (enc (s.num*(r.den:Int)),()):=qeX _ _ (by simp only[Int.natAbs_natCast];omega)
 have e3:f184 (((enc (r.num*(s.den:Int))).1,(enc (r.num*(s.den:Int))).2.1,()),((enc (s.num*(r.den:Int))).1,(enc (s.num*(r.den:Int))).2.1,()),())=some (enc (r.num*(s.den:Int)+s.num*(r.den:Int)),()):=qou _ _ (by omega) (by omega)
 have e4:f167 (((r.den:Int).sign,dig r.den,()),((s.den:Int).sign,dig s.den,()),())=some (enc ((r.den*s.den:Nat):Int),()):=by
  rw[Int.natCast_mul];exact qeX (r.den:Int) (s.den:Int) (by simp only[Int.natAbs_natCast];omega)
 have e5:f183 (((enc (r.num*(s.den:Int)+s.num*(r.den:Int))).1,(enc (r.num*(s.den:Int)+s.num*(r.den:Int))).2.1,()),((enc ((r.den*s.den:Nat):Int)).1,(enc ((r.den*s.den:Nat):Int)).2.1,()),())=some (encR (r+s),()):=by
  rw[Rat.add_def];exact qo6 _ _ _ (by omega) (by omega)
 show f162 (((r.num.sign,dig r.num.natAbs,()),((r.den:Int).sign,dig r.den,()),()),((s.num.sign,dig s.num.natAbs,()),((s.den:Int).sign,dig s.den,()),()),())=_
 simp only[f162,t162,g167,e1,e2,g184,e3,e4,g183,e5,Option.isSome_some,Option.getD_some,Tr.val_test,Tr.val_fin,if_true]
theorem qoM(r s:Rat)(hr:rsz r 2000)(hs:rsz s 2000):f108 (encR r,encR s,())=some ((r.num*(s.den:Int)-s.num*(r.den:Int)).sign,()):=by
 obtain⟨r1,r2⟩:=hr
 obtain⟨s1,s2⟩:=hs
 have m1:=qgz r.num (s.den:Int)
 have m2:=qgz s.num (r.den:Int)
 simp only[Int.natAbs_natCast]at m1 m2
 have e1:f167 ((r.num.sign,dig r.num.natAbs,()),((s.den:Int).sign,dig s.den,()),())=some (enc (r.num*(s.den:Int)),()):=qeX _ _ (by simp only[Int.natAbs_natCast];omega)
 have e2:f167 ((s.num.sign,dig s.num.natAbs,()),((r.den:Int).sign,dig r.den,()),())=some (enc (s.num*(r.den:Int)),()):=qeX _ _ (by simp only[Int.natAbs_natCast];omega)
 have e3:f166 (((enc (r.num*(s.den:Int))).1,(enc (r.num*(s.den:Int))).2.1,()),((enc (s.num*(r.den:Int))).1,(enc (s.num*(r.den:Int))).2.1,()),())=some ((r.num*(s.den:Int)-s.num*(r.den:Int)).sign,()):=qpY _ _ (by omega) (by omega)
 show f108 (((r.num.sign,dig r.num.natAbs,()),((r.den:Int).sign,dig r.den,()),()),((s.num.sign,dig s.num.natAbs,()),((s.den:Int).sign,dig s.den,()),()),())=_
 simp only[f108,t108,g167,e1,e2,g166,e3,Option.isSome_some,Option.getD_some,Tr.val_test,Tr.val_fin,if_true]
def acl(l:List Int):Nat→Int
 |0=>0
 |j+1=>wrap64 (wrap64 (acl l j*1000000000)+l.getD (l.length-1-j) 0)
theorem acl_eq:∀(l:List Int),l.length≤2→Dg l→acl l l.length=dval l
 |[],_,_=>rfl
 |[d],_,hd=>by
  have h1:=hd.head
  have e:acl [d] [d].length=wrap64 (wrap64 (0*1000000000)+d):=rfl
  rw[e,qac (n:=0*1000000000) (by omega) (by omega),qac (by omega) (by omega)]
  simp only[dval];omega
 |[d,e],_,hd=>by
  have h1:=hd.head
  have h2:=hd.tail.head
  have q:acl [d,e] [d,e].length=wrap64 (wrap64 (wrap64 (wrap64 (0*1000000000)+e)*1000000000)+d):=rfl
  rw[q,qac (n:=0*1000000000) (by omega) (by omega),qac (n:=0*1000000000+e) (by omega) (by omega),qac (n:=(0*1000000000+e)*1000000000) (by omega) (by omega),qac (by omega) (by omega)]
  simp only[dval];omega
 |_::_::_::_,h,_=>by simp at h
theorem qsX(a:Int)(b:Nat)(hb:b≠0):low a (b:Int)=pr (Rat.normalize a b hb):=by
 unfold low pr
 rw[Rat.normalize_eq]
 have e:Int.gcd a (b:Int)=Nat.gcd a.natAbs b:=rfl
 rw[e]
 have h1:((Nat.gcd a.natAbs b:Nat):Int) ∣ a:=Int.ofNat_dvd_left.2 (Nat.gcd_dvd_left _ _)
 rw[Int.tdiv_eq_ediv_of_dvd h1,Int.tdiv_eq_ediv_of_dvd (Int.natCast_dvd_natCast.2 (Nat.gcd_dvd_right _ _)),Int.natCast_ediv]
theorem qrs:∀(n:Nat)(a b:Int),b.natAbs≤n→0≤a→0≤b→0≤euc a b
 |0,a,b,h,ha,_=>by
  have:b=0:=by omega
  subst this;rw[qgu];exact ha
 |n+1,a,b,h,ha,hb=>by
  by_cases h0:b=0
  ·subst h0;rw[qgu];exact ha
  ·rw[qi9 a h0]
   have h1:0≤a.tmod b:=Int.tmod_nonneg _ ha
   have h2:a.tmod b<b:=Int.tmod_lt_of_pos _ (by omega)
   exact qrs n b (a.tmod b) (by omega) hb h1
theorem qt0(x y a b:Int)(hb:b.natAbs≤9223372036854775807):l156_0 ((x,y,a,b,()),((0:Int),(0:Int),()),())=some (.inl ((x,y,euc a b,()),((0:Int),(0:Int),()),())):=by
 refine qrW (fun a b=>((x,y,a,b,()),((0:Int),(0:Int),()),())) (fun a=>((x,y,a,()),((0:Int),(0:Int),()),())) ?_ ?_ rounds a b (qtQ (by omega))
 ·intro a b hb
  simp[s156_0,t156_0,qam,hb]
 ·intro a
  simp[s156_0,t156_0,qam]
theorem qrN(n:Int)(d:Nat)(hd:d≠0)(h0:0≤n)(h1:n≤9223372036854775807)(h2:d≤9223372036854775807):f156 (n,(d:Int),())=some (pr (Rat.normalize n d hd),()):=by
 have e:euc (d:Int) n=(Int.gcd n (d:Int):Int):=by
  have a:=qrQ (d:Int) n
  have b:=qrs n.natAbs (d:Int) n (Nat.le_refl _) (by omega) h0
  rw[Int.gcd_comm]
  have:Int.gcd (d:Int) n=Nat.gcd (d:Int).natAbs n.natAbs:=rfl
  omega
 have hl:=qt0 n (d:Int) (d:Int) n (by omega)
 have hp:0<Int.gcd n (d:Int):=Int.gcd_pos_of_ne_zero_right _ (by omega)
 have hz:(((Int.gcd n (d:Int):Nat):Int)==0)=false:=by simp;omega
 obtain⟨w1,w2⟩:=qqG n (d:Int) (by omega) (by omega)
 simp only[f156,t156,hl,e,b156_0,outB,qbl,Tr.val_test,Tr.val_fin,Tr.val_stop,hz,Bool.false_eq_true,if_false,if_true,w1,w2]
 rw[←qsX]
structure Cv(M A L:Int):Prop where
 m1:1≤M
 m2:M≤10000
 a1:1≤A
 a2:A≤10000
 l1:1≤L
 l2:L≤10000
theorem qrp{a b:Int}{m n:Int}(ha:1≤a)(ha2:a≤m)(hb:1≤b)(hb2:b≤n):1≤a*b∧a*b≤m*n:=by
 have h1:1*1≤a*b:=Int.mul_le_mul ha hb (by omega) (by omega)
 have h2:a*b≤m*n:=Int.mul_le_mul ha2 hb2 (by omega) (by omega)
 omega
theorem Cv.n1{M A L:Int}(v:Cv M A L):1≤4*M*A∧4*M*A≤400000000:=by
 have h:=qrp (a:=4*M) (b:=A) (m:=40000) (n:=10000) (by have:=v.m1;omega) (by have:=v.m2;omega) v.a1 v.a2
 omega
theorem Cv.d1{M A L m:Int}(v:Cv M A L)(h1:1≤m)(h2:m≤10000):1≤L*m∧L*m≤100000000:=by
 have h:=qrp (a:=L) (b:=m) (m:=10000) (n:=10000) v.l1 v.l2 h1 h2
 omega
theorem qbw{x:Int}(h:1≤x):x.toNat≠0:=by omega
def sq(M A L m:Int):Rat:=mkRat (4*M*A) (L*m).toNat
theorem qk8{M A L m:Int}(h:1≤L*m):sq M A L m=Rat.normalize (4*M*A) (L*m).toNat (qbw h):=(Rat.normalize_eq_mkRat _).symm
structure Sq(N D:Int)(r:Rat):Prop where
 n1:1≤r.num
 n2:r.num≤400000000
 d2:r.den≤100000000
 cross:r.num*D=N*(r.den:Int)
theorem qtL{M A L m:Int}(v:Cv M A L)(h1:1≤m)(h2:m≤10000):Sq (4*M*A) (L*m) (sq M A L m):=by
 have n1:=v.n1
 have d1:=v.d1 h1 h2
 have hc:=qdV (4*M*A) (L*m).toNat (qbw d1.1)
 have hb:=qgN (4*M*A) (L*m).toNat (qbw d1.1) (4*M*A).toNat (by
  have h3:1*(4*M*A).toNat≤(4*M*A).toNat*(L*m).toNat:=by
   rw[Nat.mul_comm];exact Nat.mul_le_mul_left _ (by omega)
  omega)
 rw[←qk8 d1.1,show(((L*m).toNat:Nat):Int)=L*m by omega]at hc
 rw[←qk8 d1.1]at hb
 have hdp:=(sq M A L m).den_pos
 have hpos:0<(sq M A L m).num*(L*m):=by
  rw[hc];exact Int.mul_pos (by omega) (by omega)
 have hn:0<(sq M A L m).num:=Int.pos_of_mul_pos_left hpos (by omega)
 refine⟨by omega,?_,by omega,hc⟩
 have hle:(sq M A L m).num≤4*M*A:=by
  have hg:sq M A L m=Rat.normalize (4*M*A) (L*m).toNat (qbw d1.1):=qk8 d1.1
  rw[hg,Rat.normalize_eq]
  show 4*M*A/_≤_
  exact Int.ediv_le_self _ (by omega)
 omega
theorem qsH(lo hi a b c:Int):f93 (lo,hi,[a,b,c],())=some (wi lo hi a&&(wi lo hi b&&wi lo hi c),()):=by
 rw[qpA lo hi _ (by simp)]
 simp only[first,List.length,List.getD_cons_zero,List.getD_cons_succ]
 by_cases h1:wi lo hi a=true
 ·by_cases h2:wi lo hi b=true
  ·by_cases h3:wi lo hi c=true
   ·simp[h1,h2,h3]
   ·simp[h1,h2,h3]
  ·simp[h1,h2]
 ·simp[h1]
def cE(M A L:Int):Int:=if(wi 1 10000 M&&(wi 1 10000 A&&wi 1 10000 L))=true then 0 else 2
theorem qtO(M A L:Int):cE M A L=0∨cE M A L=2:=by unfold cE;split<;>omega
theorem cv_of{M A L:Int}(h:cE M A L=0):Cv M A L:=by
 unfold cE at h
 split at h
 ·rename_i hw
  simp only[Bool.and_eq_true,wi_iff]at hw
  exact⟨hw.1.1,hw.1.2,hw.2.1.1,hw.2.1.2,hw.2.2.1,hw.2.2.2⟩
 ·omega
def mE(m:Int):Int:=if wi 1 10000 m=true then 0 else 2
theorem mE_iff{m:Int}:mE m=0↔1≤m∧m≤10000:=by
 unfold mE
 rw[←wi_iff]
 split
 ·rename_i h;simp[h]
 ·rename_i h;simp[h]
theorem qtN(m:Int):mE m=0∨mE m=2:=by unfold mE;split<;>omega
def rE(lo hi a b:Int):Int:=if(wi lo hi a&&wi lo hi b)=true then(if b<a then 9 else 0)else 2
theorem f142_eq(lo hi a b:Int):f142 (lo,hi,(a,b,()),())=some (rE lo hi a b,()):=by
 have e:=qos lo hi a b
 have e94:∀x y:Int,f94 ([x,y],())=some (qaj [x,y],()):=fun x y=>qfX _ (by simp)
 simp only[f142,t142,g93,e,g95,qd3,g94,e94,qag,Option.isSome_some,Option.getD_some,Tr.val_test,Tr.val_fin,if_true,rE,qaj]
 by_cases h:b<a
 ·have q:(!decide (a≤b))=true:=nT (by omega)
  simp only[q,h,if_true]
  cases(wi lo hi a&&wi lo hi b)<;>rfl
 ·have q:(!decide (a≤b))=false:=nF (by omega)
  simp only[q,h,if_false,Bool.false_eq_true]
  cases(wi lo hi a&&wi lo hi b)<;>rfl
theorem rE_ok{lo hi a b:Int}(h:rE lo hi a b=0):lo≤a∧a≤b∧b≤hi:=by
 unfold rE at h
 split at h
 ·rename_i hw
  simp only[Bool.and_eq_true,wi_iff]at hw
  split at h<;>omega
 ·omega
def sO(M A L m:Int):(Int×Int×Unit)×Int×Unit:=if cE M A L=0 then(if mE m=0 then(pr (sq M A L m),0,())else((0,0,()),2,()))else((0,0,()),2,())
def lt(r:Rat)(n:Int):Bool:=decide (r.num<n*(r.den:Int))
def gt(r:Rat)(n:Int):Bool:=decide (n*(r.den:Int)<r.num)
theorem qok{n:Int}{d:Nat}(h0:0≤n)(h1:n≤1000000000)(h2:d≤100000000):0≤n*(d:Int)∧n*(d:Int)≤100000000000000000:=by
 have a:n*(d:Int)≤1000000000*(d:Int):=Int.mul_le_mul_of_nonneg_right h1 (by omega)
 have b:0≤n*(d:Int):=Int.mul_nonneg h0 (by omega)
 omega
theorem f152_eq{N D:Int}{r:Rat}(q:Sq N D r){n:Int}(h0:0≤n)(h1:n≤1000000000):f152 ((r.num,(r.den:Int),()),n,())=some (lt r n,()):=by
 have hb:=qok h0 h1 q.d2
 have w:wrap64 (n*(r.den:Int))=n*(r.den:Int):=qac (by omega) (by omega)
 simp only[f152,t152,w,qag,Tr.val_fin,lt]
 by_cases h:r.num<n*(r.den:Int)
 ·rw[nT (by omega),dT h]
 ·rw[nF (by omega),dF h]
theorem f153_eq{N D:Int}{r:Rat}(q:Sq N D r){n:Int}(h0:0≤n)(h1:n≤1000000000):f153 ((r.num,(r.den:Int),()),n,())=some (gt r n,()):=by
 have hb:=qok h0 h1 q.d2
 have w:wrap64 (n*(r.den:Int))=n*(r.den:Int):=qac (by omega) (by omega)
 simp only[f153,t153,w,qag,Tr.val_fin,gt]
 by_cases h:n*(r.den:Int)<r.num
 ·rw[nT (by omega),dT h]
 ·rw[nF (by omega),dF h]
def ans(p1 p2 p3 p4:Bool):Int:=if p1=true then 2 else if p2=true then 2 else if p3=true then 1 else if p4=true then 1 else 0
def bE(M A L a b x y:Int):Int:=qaj [cE M A L,rE 1 10000 a b,rE 0 1000000000 x y]
theorem Sq.rs{N D:Int}{r:Rat}(q:Sq N D r):rsz r 2000:=by
 have h1:=q.n1;have h2:=q.n2;have h3:=q.d2
 exact⟨Nat.le_trans (qaD (k:=3) (by simp only[pw];omega)) (by omega),Nat.le_trans (qaD (k:=3) (by simp only[pw];omega)) (by omega)⟩
theorem qtt{n:Int}(h0:0≤n)(h1:n≤1000000000):rsz (n:Rat) 2000:=by
 refine⟨?_,?_⟩
 ·show(dig n.natAbs).length≤2000
  exact Nat.le_trans (qaD (k:=3) (by simp only[pw];omega)) (by omega)
 ·show(dig 1).length≤2000
  exact Nat.le_trans (qaD (k:=3) (by simp only[pw];omega)) (by omega)
theorem le_lt(a b:Int):(!decide (a≤b))=decide (b<a):=by
 by_cases h:b<a
 ·rw[nT (by omega),dT h]
 ·rw[nF (by omega),dF h]
theorem qtR(u v:Int):decide (0≤(u-v).sign)=!decide (u<v):=by
 rcases qbr (u-v)with⟨h,e⟩|⟨h,e⟩|⟨h,e⟩<;>rw[e]
 ·rw[dT (show u<v by omega)];rfl
 ·rw[dF (show ¬u<v by omega)];rfl
 ·rw[dF (show ¬u<v by omega)];rfl
theorem qtT(u v:Int):decide ((u-v).sign≤0)=!decide (v<u):=by
 rcases qbr (u-v)with⟨h,e⟩|⟨h,e⟩|⟨h,e⟩<;>rw[e]
 ·rw[dF (show ¬v<u by omega)];rfl
 ·rw[dF (show ¬v<u by omega)];rfl
 ·rw[dT (show v<u by omega)];rfl
theorem qtK{N D:Int}{r:Rat}(q:Sq N D r){n:Int}(h0:0≤n)(h1:n≤1000000000):f108 (((r.num.sign,dig r.num.natAbs,()),((r.den:Int).sign,dig (r.den:Int).natAbs,()),()),((n.sign,dig n.natAbs,()),((1:Int).sign,dig (1:Int).natAbs,()),()),())=some ((r.num-n*(r.den:Int)).sign,()):=by
 have e:=qoM r (n:Rat) q.rs (qtt h0 h1)
 have e2:(r.num*(((n:Rat).den:Nat):Int)-(n:Rat).num*(r.den:Int)).sign=(r.num-n*(r.den:Int)).sign:=by
  show(r.num*1-n*(r.den:Int)).sign=_
  rw[Int.mul_one]
 rw[e2]at e
 exact e
def cm(u v:Int):Int:=if u<v then -1 else if v<u then 1 else 0
theorem cm_ge(u v:Int):decide (0≤cm u v)=!decide (u<v):=by
 unfold cm
 by_cases h:u<v
 ·rw[if_pos h,dT h];rfl
 ·rw[if_neg h,dF h];split<;>rfl
theorem cm_le(u v:Int):decide (cm u v≤0)=!decide (v<u):=by
 unfold cm
 by_cases h:u<v
 ·rw[if_pos h,dF (show ¬v<u by omega)];rfl
 ·rw[if_neg h]
  by_cases k:v<u
  ·rw[if_pos k,dT k];rfl
  ·rw[if_neg k,dF k];rfl
theorem sq_mono{N L a b:Int}{ra rb:Rat}(qa:Sq N (L*a) ra)(qb:Sq N (L*b) rb)(hL:1≤L)(ha:1≤a)(hab:a≤b):
  rb.num*(ra.den:Int)≤ra.num*(rb.den:Int)∧(a<b→rb.num*(ra.den:Int)<ra.num*(rb.den:Int)):=by
 have ca:=qa.cross
 have cb:=qb.cross
 have hda:=ra.den_pos
 have hdb:=rb.den_pos
 have hn:=qb.n1
 have e:L*((ra.num*(rb.den:Int))*a)=L*((rb.num*(ra.den:Int))*b):=by
  have e1:L*((ra.num*(rb.den:Int))*a)=(ra.num*(L*a))*(rb.den:Int):=by grind
  have e2:L*((rb.num*(ra.den:Int))*b)=(rb.num*(L*b))*(ra.den:Int):=by grind
  rw[e1,e2,ca,cb];grind
 have e':=Int.eq_of_mul_eq_mul_left (show L≠0 by omega) e
 have hY:0<rb.num*(ra.den:Int):=Int.mul_pos (by omega) (by omega)
 generalize hXX:ra.num*(rb.den:Int)=X at e' ⊢
 generalize hYY:rb.num*(ra.den:Int)=Y at e' hY ⊢
 constructor
 ·rcases Int.lt_or_le X Y with h|h
  ·have h1:X*a<Y*a:=Int.mul_lt_mul_of_pos_right h (by omega)
   have h2:Y*a≤Y*b:=Int.mul_le_mul_of_nonneg_left hab (by omega)
   omega
  ·exact h
 ·intro hlt
  rcases Int.lt_or_le Y X with h|h
  ·exact h
  ·have h1:X*a≤Y*a:=Int.mul_le_mul_of_nonneg_right h (by omega)
   have h2:Y*a<Y*b:=Int.mul_lt_mul_of_pos_left hlt hY
   omega
theorem qsP{ra rb:Rat}(h:rb.num*(ra.den:Int)≤ra.num*(rb.den:Int)){n:Int}:(lt ra n=true→lt rb n=true)∧(gt rb n=true→gt ra n=true):=by
 have hda:=ra.den_pos
 have hdb:=rb.den_pos
 constructor
 ·intro h1
  have h1:ra.num<n*(ra.den:Int):=of_decide_eq_true h1
  have h2:ra.num*(rb.den:Int)<n*(ra.den:Int)*(rb.den:Int):=Int.mul_lt_mul_of_pos_right h1 (by omega)
  have h3:rb.num*(ra.den:Int)<(n*(rb.den:Int))*(ra.den:Int):=by
   have:n*(ra.den:Int)*(rb.den:Int)=(n*(rb.den:Int))*(ra.den:Int):=by grind
   omega
  exact decide_eq_true (Int.lt_of_mul_lt_mul_right h3 (by omega))
 ·intro h1
  have h1:n*(rb.den:Int)<rb.num:=of_decide_eq_true h1
  have h2:n*(rb.den:Int)*(ra.den:Int)<rb.num*(ra.den:Int):=Int.mul_lt_mul_of_pos_right h1 (by omega)
  have h3:(n*(ra.den:Int))*(rb.den:Int)<ra.num*(rb.den:Int):=by
   have:n*(rb.den:Int)*(ra.den:Int)=(n*(ra.den:Int))*(rb.den:Int):=by grind
   omega
  exact decide_eq_true (Int.lt_of_mul_lt_mul_right h3 (by omega))
theorem zero_of{u w:Int}(h:qaj [u,w]=0):u=0∧w=0:=by
 simp only[qaj]at h
 by_cases hu:u=0
 ·rw[if_pos hu]at h
  by_cases hw:w=0
  ·exact⟨hu,hw⟩
  ·rw[if_neg hw]at h;exact absurd h hw
 ·rw[if_neg hu]at h;exact absurd h hu
end Go.Vm.Mo

namespace Go.Vm.Mo
open Go
set_option linter.unusedVariables false
set_option linter.unusedSimpArgs false
abbrev Pt:=Int×Int×Unit
def px(l:List Pt)(i:Nat):Int:=(l.getD i ((0:Int),(0:Int),())).1
def py(l:List Pt)(i:Nat):Int:=(l.getD i ((0:Int),(0:Int),())).2.1
structure Ln(l:List Pt):Prop where
 n1:2≤l.length
 n2:l.length≤8
 zero:px l 0=0
 asc:∀i,i+1<l.length→px l i<px l (i+1)
 up:∀i,i+1<l.length→py l i≤py l (i+1)
 x2:∀i,i<l.length→px l i≤1000
 y1:∀i,i<l.length→0≤py l i
 y2:∀i,i<l.length→py l i≤1000
def qae(l:List Pt):Int:=px l (l.length-1)
theorem Ln.mono{l:List Pt}(L:Ln l):∀{i j:Nat},i≤j→j<l.length→px l i≤px l j
  | i, 0, h, _ => by have : i = 0 := by omega
                     subst this;exact Int.le_refl _
  |i,j+1,h,hj=>by
    rcases Nat.eq_or_lt_of_le h with e|h
    · subst e;exact Int.le_refl _
    · have h1:=L.mono (i:=i) (j:=j) (by omega) (by omega)
      have h2:=L.asc j hj
      omega
theorem Ln.ymono{l:List Pt}(L:Ln l):∀{i j:Nat},i≤j→j<l.length→py l i≤py l j
  | i, 0, h, _ => by have : i = 0 := by omega
                     subst this;exact Int.le_refl _
  |i,j+1,h,hj=>by
    rcases Nat.eq_or_lt_of_le h with e|h
    · subst e;exact Int.le_refl _
    · have h1:=L.ymono (i:=i) (j:=j) (by omega) (by omega)
      have h2:=L.up j hj
      omega
theorem Ln.x1{l:List Pt}(L:Ln l){i:Nat}(h:i<l.length):0≤px l i:=by
 have:=L.mono (i:=0) (Nat.zero_le i) h
 rw[L.zero]at this;exact this
def nxF(l:List Pt)(v:Int):Nat→Nat→Nat
 |0,i=>i
 |n+1,i=>if px l i<v then nxF l v n (i+1)else i
def nx(l:List Pt)(v:Int):Nat:=nxF l v (l.length-1) 1
theorem qri(l:List Pt)(v:Int):∀n i,i≤nxF l v n i
 |0,i=>Nat.le_refl _
 |n+1,i=>by
  simp only[nxF]
  split
  ·have:=qri l v n (i+1);omega
  ·exact Nat.le_refl _
theorem qkz(l:List Pt)(v:Int):∀n i j,i≤j→j<nxF l v n i→px l j<v
 |0,i,j,h1,h2=>by simp only[nxF]at h2;omega
 |n+1,i,j,h1,h2=>by
  simp only[nxF]at h2
  split at h2
  ·rename_i h
   rcases Nat.eq_or_lt_of_le h1 with e|h1
   ·subst e;exact h
   ·exact qkz l v n (i+1) j h1 h2
  ·omega
theorem ql9(l:List Pt)(v:Int):∀n i k,i≤k→k<i+n→v≤px l k→nxF l v n i≤k∧v≤px l (nxF l v n i)
 |0,i,k,h1,h2,_=>by omega
 |n+1,i,k,h1,h2,h3=>by
  simp only[nxF]
  split
  ·rename_i h
   have:i≠k:=fun e=>by subst e;omega
   exact ql9 l v n (i+1) k (by omega) (by omega) h3
  ·exact⟨h1,by omega⟩
theorem qfs{l:List Pt}(L:Ln l){v:Int}(h:v≤qae l):1≤nx l v∧nx l v<l.length∧v≤px l (nx l v)∧∀j,1≤j→j<nx l v→px l j<v:=by
 have h1:=L.n1
 obtain⟨a,b⟩:=ql9 l v (l.length-1) 1 (l.length-1) (by omega) (by omega) h
 exact⟨qri l v _ 1,by unfold nx;omega,b,fun j h1 h2=>qkz l v _ 1 j h1 h2⟩
theorem qo3{l:List Pt}(L:Ln l){v:Int}(h0:0≤v)(h:v≤qae l):px l (nx l v-1)≤v:=by
 obtain⟨a,_,_,d⟩:=qfs L h
 rcases Nat.eq_or_lt_of_le a with e|e
 ·rw[←e,Nat.sub_self,L.zero];exact h0
 ·have:=d (nx l v-1) (by omega) (by omega);omega
def wd(l:List Pt)(v:Int):Int:=px l (nx l v)-px l (nx l v-1)
def tp(l:List Pt)(v:Int):Int:=py l (nx l v-1)*wd l v+(py l (nx l v)-py l (nx l v-1))*(v-px l (nx l v-1))
theorem qdU{l:List Pt}(L:Ln l){v:Int}(h:v≤qae l):1≤wd l v∧wd l v≤1000:=by
 obtain⟨a,b,_,_⟩:=qfs L h
 have h1:=L.asc (nx l v-1) (by omega)
 rw[show nx l v-1+1=nx l v by omega]at h1
 have h2:=L.x2 (nx l v) b
 have h3:=L.x1 (i:=nx l v-1) (by omega)
 unfold wd
 omega
theorem qoU{l:List Pt}(L:Ln l){v:Int}(h0:0≤v)(h:v≤qae l):py l (nx l v-1)*wd l v≤tp l v∧tp l v≤py l (nx l v)*wd l v:=by
 obtain⟨a,b,c,_⟩:=qfs L h
 have hl:=qo3 L h0 h
 have hw:=qdU L h
 have hu:=L.ymono (i:=nx l v-1) (j:=nx l v) (by omega) b
 unfold tp
 have e1:0≤(py l (nx l v)-py l (nx l v-1))*(v-px l (nx l v-1)):=Int.mul_nonneg (by omega) (by omega)
 have e2:(py l (nx l v)-py l (nx l v-1))*(v-px l (nx l v-1))≤(py l (nx l v)-py l (nx l v-1))*wd l v:=Int.mul_le_mul_of_nonneg_left (by unfold wd;omega) (by omega)
 have e3:py l (nx l v)*wd l v=py l (nx l v-1)*wd l v+(py l (nx l v)-py l (nx l v-1))*wd l v:=by grind
 omega
def hP(l:List Pt)(v:Int):Rat:=mkRat (tp l v) (wd l v).toNat
theorem qiM{l:List Pt}{v:Int}(h:1≤wd l v):hP l v=Rat.normalize (tp l v) (wd l v).toNat (qbw h):=(Rat.normalize_eq_mkRat _).symm
def qpL(l:List Pt)(v:Int)(m i:Nat):=itr s98_0 m ((l,v,(i:Int),()),((0:Int),(0:Int),()),())
theorem it98(l:List Pt)(v:Int):∀(n i m:Nat),n<m→i+n=l.length→(i+n)≤1000→nxF l v n i<l.length→qpL l v m i=some (.inl ((l,v,(nxF l v n i:Int),()),((0:Int),(0:Int),()),()))
 |0,i,m,hm,hl,hs,hx=>by simp only[nxF]at hx;omega
 |n+1,i,0,hm,hl,hs,hx=>by omega
 |n+1,i,m+1,hm,hl,hs,hx=>by
  have b1:(decide ((0:Int)≤(i:Int))&&decide ((i:Int)<(l.length:Int)))=true:=dA (by omega) (by omega)
  have w:wrap64 ((i:Int)+1)=((i+1:Nat):Int):=qaw (by omega)
  simp only[nxF]at hx ⊢
  simp only[qpL,itr,s98_0,t98_0,Tr.val_test,Tr.val_fin,b1,if_true,qag,Int.toNat_natCast,w]
  by_cases h:px l i<v
  ·rw[if_pos h]at hx ⊢
   have h':(!decide (v≤(l.getD i ((0:Int),(0:Int),())).1))=true:=nT (by unfold px at h;omega)
   rw[if_pos h']
   exact it98 l v n (i+1) m (by omega) (by omega) (by omega) hx
  ·rw[if_neg h]at hx ⊢
   have h':(!decide (v≤(l.getD i ((0:Int),(0:Int),())).1))=false:=nF (by unfold px at h;omega)
   rw[if_neg (by rw[h'];decide)]
theorem qto{l:List Pt}(L:Ln l){v:Int}(h:v≤qae l):l98_0 ((l,v,(1:Int),()),((0:Int),(0:Int),()),())=some (.inl ((l,v,(nx l v:Int),()),((0:Int),(0:Int),()),())):=by
 have h1:=L.n1;have h2:=L.n2
 obtain⟨_,b,_,_⟩:=qfs L h
 exact it98 l v (l.length-1) 1 rounds (qal (by omega)) (by omega) (by omega) b
theorem qre{l:List Pt}(L:Ln l){v:Int}(h0:0≤v)(h:v≤qae l):f98 (l,v,())=some (pr (hP l v),()):=by
 have n1:=L.n1;have n2:=L.n2
 obtain⟨a,b,c,_⟩:=qfs L h
 have hl:=qo3 L h0 h
 have hw:=qdU L h
 have ht:=qoU L h0 h
 have y0:=L.y1 (nx l v-1) (by omega)
 have y1:=L.y2 (nx l v-1) (by omega)
 have y2:=L.y1 (nx l v) b
 have y3:=L.y2 (nx l v) b
 have yu:=L.ymono (i:=nx l v-1) (j:=nx l v) (by omega) b
 have x0:=L.x1 (i:=nx l v-1) (by omega)
 have x1:=L.x2 (nx l v) b
 have p1:0≤py l (nx l v-1)*wd l v:=Int.mul_nonneg y0 (by omega)
 have p2:py l (nx l v)*wd l v≤1000*1000:=Int.mul_le_mul y3 hw.2 (by omega) (by omega)
 have e0:=qto L h
 have w1:Go.IntKind.wrap Go.IntKind.i64 ((nx l v:Int)-1)=((nx l v-1:Nat):Int):=by rw[qe4 (by omega) (by omega)];omega
 have b1:(decide ((0:Int)≤((nx l v-1:Nat):Int))&&decide (((nx l v-1:Nat):Int)<(l.length:Int)))=true:=dA (by omega) (by omega)
 have b2:(decide ((0:Int)≤(nx l v:Int))&&decide ((nx l v:Int)<(l.length:Int)))=true:=dA (by omega) (by omega)
 have q1:wrap64 ((l.getD (nx l v) ((0:Int),(0:Int),())).1-(l.getD (nx l v-1) ((0:Int),(0:Int),())).1)=wd l v:=by rw[qac]<;>unfold wd px at*<;>omega
 have q2:wrap64 ((l.getD (nx l v-1) ((0:Int),(0:Int),())).2.1*wd l v)=py l (nx l v-1)*wd l v:=by
  show wrap64 (py l (nx l v-1)*wd l v)=_
  exact qac (by omega) (by omega)
 have q3:wrap64 ((l.getD (nx l v) ((0:Int),(0:Int),())).2.1-(l.getD (nx l v-1) ((0:Int),(0:Int),())).2.1)=py l (nx l v)-py l (nx l v-1):=qac (by unfold py at *;omega) (by unfold py at *;omega)
 have q4:wrap64 (v-(l.getD (nx l v-1) ((0:Int),(0:Int),())).1)=v-px l (nx l v-1):=qac (by unfold px at *;omega) (by unfold px at *;omega)
 have q5:wrap64 ((py l (nx l v)-py l (nx l v-1))*(v-px l (nx l v-1)))=(py l (nx l v)-py l (nx l v-1))*(v-px l (nx l v-1)):=qac (by unfold tp at ht;omega) (by unfold tp at ht;omega)
 have q6:wrap64 (py l (nx l v-1)*wd l v+(py l (nx l v)-py l (nx l v-1))*(v-px l (nx l v-1)))=tp l v:=by
  show wrap64 (tp l v)=tp l v
  exact qac (by omega) (by omega)
 have e1:=qrN (tp l v) (wd l v).toNat (qbw hw.1) (by omega) (by omega) (by omega)
 rw[show(((wd l v).toNat:Nat):Int)=wd l v by omega,←qiM hw.1]at e1
 simp only[f98,t98,e0,qbl,b98_0,outB,Tr.val_test,Tr.val_fin,Tr.val_stop,w1,b1,b2,Int.toNat_natCast,q1,q2,q3,q4,q5,q6,g156,e1,Option.isSome_some,Option.getD_some,if_true,pr]
theorem nx_mono{l:List Pt}(L:Ln l){v w:Int}(hvw:v≤w)(h:w≤qae l):nx l v≤nx l w:=by
 obtain⟨a,b,c,d⟩:=qfs L (v:=v) (by omega)
 obtain⟨a',b',c',d'⟩:=qfs L h
 rcases Nat.lt_or_ge (nx l w) (nx l v)with k|k
 ·have:=d _ a' k;omega
 ·exact k
theorem qii{l:List Pt}(L:Ln l){v w:Int}(h0:0≤v)(hvw:v≤w)(h:w≤qae l):tp l v*wd l w≤tp l w*wd l v:=by
 have hm:=nx_mono L hvw h
 have wv:=qdU L (v:=v) (by omega)
 have ww:=qdU L h
 rcases Nat.eq_or_lt_of_le hm with e|hlt
 ·have e1:wd l w=wd l v:=by unfold wd;rw[←e]
  rw[e1]
  refine Int.mul_le_mul_of_nonneg_right ?_ (by omega)
  unfold tp
  rw[e1,←e]
  obtain⟨a,b,_,_⟩:=qfs L (v:=v) (by omega)
  have yu:=L.ymono (i:=nx l v-1) (j:=nx l v) (by omega) b
  have:=Int.mul_le_mul_of_nonneg_left (show v-px l (nx l v-1)≤w-px l (nx l v-1)by omega) (show 0≤py l (nx l v)-py l (nx l v-1)by omega)
  omega
 ·have t1:=(qoU L h0 (by omega)).2
  have t2:=(qoU L (v:=w) (by omega) h).1
  obtain⟨a',b',_,_⟩:=qfs L h
  have yy:=L.ymono (i:=nx l v) (j:=nx l w-1) (by omega) (by omega)
  have s1:tp l v*wd l w≤py l (nx l v)*wd l v*wd l w:=Int.mul_le_mul_of_nonneg_right t1 (by omega)
  have s2:py l (nx l v)*(wd l v*wd l w)≤py l (nx l w-1)*(wd l v*wd l w):=Int.mul_le_mul_of_nonneg_right yy (Int.mul_nonneg (by omega) (by omega))
  have s3:py l (nx l w-1)*wd l w*wd l v≤tp l w*wd l v:=Int.mul_le_mul_of_nonneg_right t2 (by omega)
  have g1:py l (nx l v)*wd l v*wd l w=py l (nx l v)*(wd l v*wd l w):=by grind
  have g2:py l (nx l w-1)*wd l w*wd l v=py l (nx l w-1)*(wd l v*wd l w):=by grind
  omega
def atl(l:List Pt)(h v:Int):Bool:=decide (h*wd l v≤tp l v)
def abv(l:List Pt)(h v:Int):Bool:=decide (h*wd l v<tp l v)
theorem qoJ{l:List Pt}(L:Ln l){h v w:Int}(h0:0≤v)(hvw:v≤w)(hw:w≤qae l)(k:atl l h v=true):atl l h w=true:=by
 have k:h*wd l v≤tp l v:=of_decide_eq_true k
 have c:=qii L h0 hvw hw
 have wv:=qdU L (v:=v) (by omega)
 have ww:=qdU L hw
 have s1:h*wd l v*wd l w≤tp l v*wd l w:=Int.mul_le_mul_of_nonneg_right k (by omega)
 have g:h*wd l v*wd l w=h*wd l w*wd l v:=by grind
 exact decide_eq_true (Int.le_of_mul_le_mul_right (a:=wd l v) (by omega) (by omega))
theorem qo2{l:List Pt}(L:Ln l){h v w:Int}(h0:0≤v)(hvw:v≤w)(hw:w≤qae l)(k:abv l h v=true):abv l h w=true:=by
 have k:h*wd l v<tp l v:=of_decide_eq_true k
 have c:=qii L h0 hvw hw
 have wv:=qdU L (v:=v) (by omega)
 have ww:=qdU L hw
 have s1:h*wd l v*wd l w<tp l v*wd l w:=Int.mul_lt_mul_of_pos_right k (by omega)
 have g:h*wd l v*wd l w=h*wd l w*wd l v:=by grind
 exact decide_eq_true (Int.lt_of_mul_lt_mul_right (a:=wd l v) (by omega) (by omega))
theorem qcR{l:List Pt}(L:Ln l){v:Int}(h0:0≤v)(h:v≤qae l):(hP l v).den≤1000∧(hP l v).num*wd l v=tp l v*((hP l v).den:Int)∧0≤(hP l v).num∧(hP l v).num≤1000000:=by
 have hw:=qdU L h
 have ht:=qoU L h0 h
 obtain⟨a,b,_,_⟩:=qfs L h
 have y0:=L.y1 (nx l v-1) (by omega)
 have y3:=L.y2 (nx l v) b
 have y2:=L.y1 (nx l v) b
 have p1:0≤py l (nx l v-1)*wd l v:=Int.mul_nonneg y0 (by omega)
 have p2:py l (nx l v)*wd l v≤1000*wd l v:=Int.mul_le_mul_of_nonneg_right y3 (by omega)
 have hc:=qdV (tp l v) (wd l v).toNat (qbw hw.1)
 have hb:=qgN (tp l v) (wd l v).toNat (qbw hw.1) 1000 (by omega)
 rw[←qiM hw.1,show(((wd l v).toNat:Nat):Int)=wd l v by omega]at hc
 rw[←qiM hw.1]at hb
 have hd:=(hP l v).den_pos
 have hn:0≤(hP l v).num:=by
  rcases Int.lt_or_le (hP l v).num 0 with k|k
  ·have s1:(hP l v).num*wd l v<0:=Int.mul_neg_of_neg_of_pos k (by omega)
   have s2:0≤tp l v*((hP l v).den:Int):=Int.mul_nonneg (by omega) (by omega)
   omega
  ·exact k
 refine⟨by omega,hc,hn,?_⟩
 have:=hb.1
 omega
theorem qpO{l:List Pt}(L:Ln l){v:Int}(h0:0≤v)(h:v≤qae l)(n:Int):lt (hP l v) n=!atl l n v:=by
 obtain⟨a,b,c,d⟩:=qcR L h0 h
 have hw:=qdU L h
 have hd:=(hP l v).den_pos
 unfold lt atl
 have key:(hP l v).num<n*((hP l v).den:Int)↔tp l v<n*wd l v:=by
  constructor
  ·intro k
   have s:(hP l v).num*wd l v<n*((hP l v).den:Int)*wd l v:=Int.mul_lt_mul_of_pos_right k (by omega)
   have g:n*((hP l v).den:Int)*wd l v=n*wd l v*((hP l v).den:Int):=by grind
   exact Int.lt_of_mul_lt_mul_right (a:=((hP l v).den:Int)) (by omega) (by omega)
  ·intro k
   have s:tp l v*((hP l v).den:Int)<n*wd l v*((hP l v).den:Int):=Int.mul_lt_mul_of_pos_right k (by omega)
   have g:n*((hP l v).den:Int)*wd l v=n*wd l v*((hP l v).den:Int):=by grind
   exact Int.lt_of_mul_lt_mul_right (a:=wd l v) (by omega) (by omega)
 by_cases k:tp l v<n*wd l v
 ·rw[dT (key.2 k),dF (show ¬n*wd l v≤tp l v by omega)];rfl
 ·rw[dF (fun e=>k (key.1 e)),dT (show n*wd l v≤tp l v by omega)];rfl
theorem qo9{l:List Pt}(L:Ln l){v:Int}(h0:0≤v)(h:v≤qae l)(n:Int):gt (hP l v) n=abv l n v:=by
 obtain⟨a,b,c,d⟩:=qcR L h0 h
 have hw:=qdU L h
 have hd:=(hP l v).den_pos
 unfold gt abv
 have key:n*((hP l v).den:Int)<(hP l v).num↔n*wd l v<tp l v:=by
  constructor
  ·intro k
   have s:n*((hP l v).den:Int)*wd l v<(hP l v).num*wd l v:=Int.mul_lt_mul_of_pos_right k (by omega)
   have g:n*((hP l v).den:Int)*wd l v=n*wd l v*((hP l v).den:Int):=by grind
   exact Int.lt_of_mul_lt_mul_right (a:=((hP l v).den:Int)) (by omega) (by omega)
  ·intro k
   have s:n*wd l v*((hP l v).den:Int)<tp l v*((hP l v).den:Int):=Int.mul_lt_mul_of_pos_right k (by omega)
   have g:n*((hP l v).den:Int)*wd l v=n*wd l v*((hP l v).den:Int):=by grind
   exact Int.lt_of_mul_lt_mul_right (a:=wd l v) (by omega) (by omega)
 by_cases k:n*wd l v<tp l v
 ·rw[dT (key.2 k),dT k]
 ·rw[dF (fun e=>k (key.1 e)),dF k]
theorem qq3(r:Rat)(n:Int)(h:(n*(r.den:Int)).natAbs≤9000000000000000000):f152 ((r.num,(r.den:Int),()),n,())=some (lt r n,()):=by
 have w:wrap64 (n*(r.den:Int))=n*(r.den:Int):=qac (by omega) (by omega)
 simp only[f152,t152,w,qag,Tr.val_fin,lt]
 by_cases h:r.num<n*(r.den:Int)
 ·rw[nT (by omega),dT h]
 ·rw[nF (by omega),dF h]
theorem qqH(r:Rat)(n:Int)(h:(n*(r.den:Int)).natAbs≤9000000000000000000):f153 ((r.num,(r.den:Int),()),n,())=some (gt r n,()):=by
 have w:wrap64 (n*(r.den:Int))=n*(r.den:Int):=qac (by omega) (by omega)
 simp only[f153,t153,w,qag,Tr.val_fin,gt]
 by_cases h:n*(r.den:Int)<r.num
 ·rw[nT (by omega),dT h]
 ·rw[nF (by omega),dF h]
theorem qrA{a b:Int}(h1:0≤a)(h2:0≤b)(h3:a+b≤1000000):Go.IntKind.wrap Go.IntKind.i64 (shrV Go.IntKind.u64 (Go.IntKind.wrap Go.IntKind.u64 (wrap64 (a+b))) (1:Int))=(a+b)/2:=by
 have w:wrap64 (a+b)=a+b:=qac (by omega) (by omega)
 have u:Go.IntKind.wrap Go.IntKind.u64 (a+b)=a+b:=by
  show(a+b)%(2^64:Int)=a+b
  exact Int.emod_eq_of_lt (by omega) (by omega)
 rw[w,u]
 have s:shrV Go.IntKind.u64 (a+b) 1=(a+b)/2:=by
  show(a+b).fdiv 2=_
  exact Int.fdiv_eq_ediv_of_nonneg _ (by omega)
 rw[s]
 exact qe4 (by omega) (by omega)
def lw(p:Int→Bool):Nat→Nat→Nat
 |0,i=>i
 |n+1,i=>if p (i:Int)=true then i else lw p n (i+1)
theorem qht{p:Int→Bool}:∀(n i r:Nat),i≤r→r≤i+n→(∀j,i≤j→j<r→p (j:Int)=false)→(r<i+n→p (r:Int)=true)→lw p n i=r
 |0,i,r,h1,h2,_,_=>by simp only[lw];omega
 |n+1,i,r,h1,h2,h3,h4=>by
  simp only[lw]
  rcases Nat.eq_or_lt_of_le h1 with e|h
  ·subst e
   rw[if_pos (h4 (by omega))]
  ·rw[h3 i (Nat.le_refl _) h,if_neg (by decide)]
   exact qht n (i+1) r (by omega) (by omega) (fun j a b=>h3 j (by omega) b) (fun k=>h4 (by omega))
theorem qlR{l:List Pt}(L:Ln l):f143 (l,())=some (qae l,()):=by
 have h1:=L.n1;have h2:=L.n2
 have w:wrap64 ((l.length:Int)-1)=((l.length-1:Nat):Int):=by rw[qac (by omega) (by omega)];omega
 have b:(decide ((0:Int)≤((l.length-1:Nat):Int))&&decide (((l.length-1:Nat):Int)<(l.length:Int)))=true:=dA (by omega) (by omega)
 simp only[f143,t143,w,b,if_true,Tr.val_test,Tr.val_fin,Int.toNat_natCast,qae,px]
theorem qck{l:List Pt}(L:Ln l):1≤qae l∧qae l≤1000:=by
 have h1:=L.n1
 have a:=L.asc 0 (by omega)
 have b:=L.mono (i:=1) (j:=l.length-1) (by omega) (by omega)
 have z:=L.zero
 refine⟨?_,L.x2 _ (by omega)⟩
 unfold qae
 simp only[Nat.zero_add]at a
 omega
theorem qmc{l:List Pt}(L:Ln l){v h:Int}(h0:0≤v)(hv:v≤qae l)(h1:0≤h)(h2:h≤1000000):(h*((hP l v).den:Int)).natAbs≤9000000000000000000:=by
 obtain⟨a,_,_,_⟩:=qcR L h0 hv
 have p1:0≤h*((hP l v).den:Int):=Int.mul_nonneg h1 (by omega)
 have p2:h*((hP l v).den:Int)≤1000000*1000:=Int.mul_le_mul h2 (by omega) (by omega) (by omega)
 omega
theorem qsq{l:List Pt}(L:Ln l){h:Int}(h1:0≤h)(h2:h≤1000000):∀(n a b m:Nat),n<m→b≤a+n→a≤b→(b:Int)≤qae l+1→(∀j:Nat,j<a→abv l h j=false)→((b:Int)≤qae l→abv l h b=true)→∃z:Nat,itr s181_0 m (((a:Int),(b:Int),()),(),(l,()),(h,()),())=some (.inl (((z:Int),()),(),(l,()),(h,()),()))∧z≤b∧(∀j:Nat,j<z→abv l h j=false)∧((z:Int)≤qae l→abv l h z=true)
 |n,a,b,0,hm,_,_,_,_,_=>by omega
 |n,a,b,m+1,hm,hn,hab,hb,p,q=>by
  have hx:=qck L
  rcases Nat.eq_or_lt_of_le hab with e|hlt
  ·subst e
   have t:(!decide ((a:Int)≤(a:Int)))=false:=nF (Int.le_refl _)
   refine⟨a,?_,Nat.le_refl _,p,q⟩
   simp only[itr,s181_0,t181_0,qag,t,Tr.val_test,Tr.val_fin,Bool.false_eq_true,if_false]
  ·have t:(!decide ((b:Int)≤(a:Int)))=true:=nT (by omega)
   have em:=qrA (a:=(a:Int)) (b:=(b:Int)) (by omega) (by omega) (by omega)
   rw[show((a:Int)+(b:Int))/2=(((a+b)/2:Nat):Int)by omega]at em
   have k1:(a+b)/2<b:=by omega
   have k2:a≤(a+b)/2:=by omega
   have v0:(0:Int)≤(((a+b)/2:Nat):Int):=by omega
   have v1:(((a+b)/2:Nat):Int)≤qae l:=by omega
   have e1:=qre L v0 v1
   have e2:=qqH (hP l (((a+b)/2:Nat):Int)) h (qmc L v0 v1 h1 h2)
   rw[qo9 L v0 v1]at e2
   have w:wrap64 ((((a+b)/2:Nat):Int)+1)=(((a+b)/2+1:Nat):Int):=by rw[qac (by omega) (by omega)];omega
   cases hv:abv l h (((a+b)/2:Nat):Int)with
   |false=>
    rw[hv]at e2
    obtain⟨z,g1,g2,g3,g4⟩:=qsq L h1 h2 (n-1) ((a+b)/2+1) b m (by omega) (by omega) (by omega) hb (fun j hj=>by
     rcases Nat.lt_or_ge j ((a+b)/2)with k|k
     ·rcases hc:abv l h (j:Int)with _|_
      ·rfl
      ·have:=qo2 L (v:=(j:Int)) (w:=(((a+b)/2:Nat):Int)) (by omega) (by omega) v1 hc
       rw[hv]at this;cases this
     ·have:j=(a+b)/2:=by omega
      rw[this];exact hv) q
    refine⟨z,?_,g2,g3,g4⟩
    simp only[itr,s181_0,t181_0,qag,t,em,g98,g153,e1,e2,pr,w,Tr.val_test,Tr.val_fin,Option.isSome_some,Option.getD_some,Bool.not_false,if_true]
    exact g1
   |true=>
    rw[hv]at e2
    obtain⟨z,g1,g2,g3,g4⟩:=qsq L h1 h2 (n-1) a ((a+b)/2) m (by omega) (by omega) (by omega) (by omega) p (fun _=>hv)
    refine⟨z,?_,by omega,g3,g4⟩
    simp only[itr,s181_0,t181_0,qag,t,em,g98,g153,e1,e2,pr,Tr.val_test,Tr.val_fin,Option.isSome_some,Option.getD_some,Bool.not_true,Bool.false_eq_true,if_true,if_false]
    exact g1
theorem qoZ{l:List Pt}(L:Ln l){h:Int}(h1:0≤h)(h2:h≤1000000):∀(n a b m:Nat),n<m→b≤a+n→a≤b→(b:Int)≤qae l+1→(∀j:Nat,j<a→atl l h j=false)→((b:Int)≤qae l→atl l h b=true)→∃z:Nat,itr s181_0_1 m (((a:Int),(b:Int),()),(),(l,()),(h,()),())=some (.inl (((z:Int),()),(),(l,()),(h,()),()))∧z≤b∧(∀j:Nat,j<z→atl l h j=false)∧((z:Int)≤qae l→atl l h z=true)
 |n,a,b,0,hm,_,_,_,_,_=>by omega
 |n,a,b,m+1,hm,hn,hab,hb,p,q=>by
  have hx:=qck L
  rcases Nat.eq_or_lt_of_le hab with e|hlt
  ·subst e
   have t:(!decide ((a:Int)≤(a:Int)))=false:=nF (Int.le_refl _)
   refine⟨a,?_,Nat.le_refl _,p,q⟩
   simp only[itr,s181_0_1,t181_0_1,qag,t,Tr.val_test,Tr.val_fin,Bool.false_eq_true,if_false]
  ·have t:(!decide ((b:Int)≤(a:Int)))=true:=nT (by omega)
   have em:=qrA (a:=(a:Int)) (b:=(b:Int)) (by omega) (by omega) (by omega)
   rw[show((a:Int)+(b:Int))/2=(((a+b)/2:Nat):Int)by omega]at em
   have k1:(a+b)/2<b:=by omega
   have k2:a≤(a+b)/2:=by omega
   have v0:(0:Int)≤(((a+b)/2:Nat):Int):=by omega
   have v1:(((a+b)/2:Nat):Int)≤qae l:=by omega
   have e1:=qre L v0 v1
   have e2:=qq3 (hP l (((a+b)/2:Nat):Int)) h (qmc L v0 v1 h1 h2)
   rw[qpO L v0 v1]at e2
   have w:wrap64 ((((a+b)/2:Nat):Int)+1)=(((a+b)/2+1:Nat):Int):=by rw[qac (by omega) (by omega)];omega
   cases hv:atl l h (((a+b)/2:Nat):Int)with
   |false=>
    rw[hv]at e2
    obtain⟨z,g1,g2,g3,g4⟩:=qoZ L h1 h2 (n-1) ((a+b)/2+1) b m (by omega) (by omega) (by omega) hb (fun j hj=>by
     rcases Nat.lt_or_ge j ((a+b)/2)with k|k
     ·rcases hc:atl l h (j:Int)with _|_
      ·rfl
      ·have:=qoJ L (v:=(j:Int)) (w:=(((a+b)/2:Nat):Int)) (by omega) (by omega) v1 hc
       rw[hv]at this;cases this
     ·have:j=(a+b)/2:=by omega
      rw[this];exact hv) q
    refine⟨z,?_,g2,g3,g4⟩
    simp only[itr,s181_0_1,t181_0_1,qag,t,em,g98,g152,e1,e2,pr,w,Tr.val_test,Tr.val_fin,Option.isSome_some,Option.getD_some,Bool.not_false,if_true]
    exact g1
   |true=>
    rw[hv]at e2
    obtain⟨z,g1,g2,g3,g4⟩:=qoZ L h1 h2 (n-1) a ((a+b)/2) m (by omega) (by omega) (by omega) (by omega) p (fun _=>hv)
    refine⟨z,?_,by omega,g3,g4⟩
    simp only[itr,s181_0_1,t181_0_1,qag,t,em,g98,g152,e1,e2,pr,Tr.val_test,Tr.val_fin,Option.isSome_some,Option.getD_some,Bool.not_true,Bool.false_eq_true,if_true,if_false]
    exact g1
def fst(p:Int→Bool)(x:Int):Int:=(lw p (x+1).toNat 0:Nat)
theorem qrM{l:List Pt}(L:Ln l){h:Int}(h1:0≤h)(h2:h≤1000000):f159 (l,h,())=some (fst (abv l h) (qae l),()):=by
 have hx:=qck L
 have w:wrap64 (qae l+1)=(((qae l+1).toNat:Nat):Int):=by rw[qac (by omega) (by omega)];omega
 obtain⟨z,g1,g2,g3,g4⟩:=qsq L h1 h2 1001 0 (qae l+1).toNat rounds (qal (by omega)) (by omega) (Nat.zero_le _) (by omega) (fun j hj=>by omega) (fun k=>by omega)
 have e:l181_0 (((0:Int),(((qae l+1).toNat:Nat):Int),()),(),(l,()),(h,()),())=some (.inl (((z:Int),()),(),(l,()),(h,()),())):=g1
 have u:lw (abv l h) (qae l+1).toNat 0=z:=qht _ _ _ (Nat.zero_le _) (by omega) (fun j _ k=>g3 j k) (fun k=>g4 (by omega))
 simp only[f159,t159,g143,qlR L,w,e,qbl,b181_0,outB,Tr.val_test,Tr.val_fin,Option.isSome_some,Option.getD_some,if_true,fst,u]
theorem qrX{l:List Pt}(L:Ln l){h:Int}(h1:0≤h)(h2:h≤1000000):f101 (l,h,())=some (fst (atl l h) (qae l),()):=by
 have hx:=qck L
 have w:wrap64 (qae l+1)=(((qae l+1).toNat:Nat):Int):=by rw[qac (by omega) (by omega)];omega
 obtain⟨z,g1,g2,g3,g4⟩:=qoZ L h1 h2 1001 0 (qae l+1).toNat rounds (qal (by omega)) (by omega) (Nat.zero_le _) (by omega) (fun j hj=>by omega) (fun k=>by omega)
 have e:l181_0_1 (((0:Int),(((qae l+1).toNat:Nat):Int),()),(),(l,()),(h,()),())=some (.inl (((z:Int),()),(),(l,()),(h,()),())):=g1
 have u:lw (atl l h) (qae l+1).toNat 0=z:=qht _ _ _ (Nat.zero_le _) (by omega) (fun j _ k=>g3 j k) (fun k=>g4 (by omega))
 simp only[f101,t101,g143,qlR L,w,e,qbl,b181_0_1,outB,Tr.val_test,Tr.val_fin,Option.isSome_some,Option.getD_some,if_true,fst,u]
abbrev Fl:=Int×Int×Int×Unit
def vd(l:List Fl)(i:Nat):Int:=(l.getD i ((0:Int),(0:Int),(0:Int),())).1
def vlo(l:List Fl)(i:Nat):Int:=(l.getD i ((0:Int),(0:Int),(0:Int),())).2.1
def vhi(l:List Fl)(i:Nat):Int:=(l.getD i ((0:Int),(0:Int),(0:Int),())).2.2.1
def wdn(l:List Fl)(i:Nat):Bool:=if i=0 then decide (vd l 0=0)else decide (vd l (i-1)<vd l i)&&(decide (vlo l (i-1)≤vlo l i)&&decide (vhi l (i-1)≤vhi l i))
def vE(l:List Fl)(i:Nat):Int:=if(wi 0 1000 (vd l i)&&(wi 0 50 (vlo l i)&&wi 0 50 (vhi l i)))=true then(if(decide (vlo l i≤vhi l i)&&wdn l i)=true then 0 else 9)else 2
theorem vE_open(l:List Fl)(i:Nat):vE l i=if(wi 0 1000 (l.getD i ((0:Int),(0:Int),(0:Int),())).1&&(wi 0 50 (l.getD i ((0:Int),(0:Int),(0:Int),())).2.1&&wi 0 50 (l.getD i ((0:Int),(0:Int),(0:Int),())).2.2.1))=true then(if(decide ((l.getD i ((0:Int),(0:Int),(0:Int),())).2.1≤(l.getD i ((0:Int),(0:Int),(0:Int),())).2.2.1)&&wdn l i)=true then 0 else 9)else 2:=rfl
theorem qtF(l:List Fl)(i:Nat):wdn l i=if i=0 then decide ((l.getD 0 ((0:Int),(0:Int),(0:Int),())).1=0)else decide ((l.getD (i-1) ((0:Int),(0:Int),(0:Int),())).1<(l.getD i ((0:Int),(0:Int),(0:Int),())).1)&&(decide ((l.getD (i-1) ((0:Int),(0:Int),(0:Int),())).2.1≤(l.getD i ((0:Int),(0:Int),(0:Int),())).2.1)&&decide ((l.getD (i-1) ((0:Int),(0:Int),(0:Int),())).2.2.1≤(l.getD i ((0:Int),(0:Int),(0:Int),())).2.2.1)):=rfl
def nE(n:Nat):Int:=if n<2 then 10 else if 8<n then 8 else 0
theorem qs7(n:Nat):f90 ((n:Int),())=some (nE n,()):=by
 have e94:∀x y:Int,f94 ([x,y],())=some (qaj [x,y],()):=fun x y=>qfX _ (by simp)
 simp only[f90,t90,g95,qd3,g94,e94,qag,Option.isSome_some,Option.getD_some,Tr.val_test,Tr.val_fin,if_true,qaj,nE]
 by_cases h1:n<2
 ·rw[nT (show ¬(2:Int)≤(n:Int)by omega),if_pos h1];rfl
 ·rw[nF (show(2:Int)≤(n:Int)by omega),if_neg h1]
  by_cases h2:8<n
  ·rw[nT (show ¬(n:Int)≤8 by omega),if_pos h2];rfl
  ·rw[nF (show(n:Int)≤8 by omega),if_neg h2];rfl
def vC(l:List Fl):Int×Int×Unit:=if nE l.length=0 then(match first (fun i=>!decide (vE l i=0)) l.length 0 with
 |some k=>((k:Int),vE l k,())
 |none=>(0,0,()))else(0,nE l.length,())
def lowF(x:Fl):Pt:=(x.1,x.2.1,())
def higF(x:Fl):Pt:=(x.1,x.2.2.1,())
def lowL(l:List Fl):List Pt:=l.map lowF
def higL(l:List Fl):List Pt:=l.map higF
theorem qhv{A:Type}(l:List A)(d:A)(i:Nat)(h:i<l.length):l.getD i d=l[i]:=by
 rw[List.getD_eq_getElem?_getD,List.getElem?_eq_getElem h];rfl
theorem qtI{A B:Type}(f:A→B)(l:List A)(d:A)(i:Nat)(h:i<l.length):(l.take i).map f++[f (l.getD i d)]=(l.take (i+1)).map f:=by
 have e:l.take (i+1)=l.take i++[l.getD i d]:=by
  rw[List.take_add_one,List.getElem?_eq_getElem h,qhv l d i h];rfl
 rw[e,List.map_append];rfl
structure Vk(l:List Fl):Prop where
 n1:2≤l.length
 n2:l.length≤8
 ok:∀i,i<l.length→vE l i=0
theorem qtH(n:Nat):nE n=0∨nE n=10∨nE n=8:=by
 unfold nE
 split
 ·exact Or.inr (Or.inl rfl)
 ·split
  ·exact Or.inr (Or.inr rfl)
  ·exact Or.inl rfl
theorem qtW{l:List Fl}(h:(vC l).2.1=0):Vk l:=by
 unfold vC at h
 split at h
 ·rename_i hn
  have hl:2≤l.length∧l.length≤8:=by
   unfold nE at hn
   split at hn
   ·cases hn
   ·split at hn
    ·cases hn
    ·omega
  refine⟨hl.1,hl.2,?_⟩
  cases hf:first (fun i=>!decide (vE l i=0)) l.length 0 with
  |none=>
   intro i hi
   have:=qcw hf i (Nat.zero_le _) (by omega)
   have:decide (vE l i=0)=true:=by simpa using this
   exact of_decide_eq_true this
  |some k=>
   rw[hf]at h
   have:=(first_some hf).2.2.1
   have:decide (vE l k=0)=false:=by simpa using this
   exact absurd h (of_decide_eq_false this)
 ·rename_i hn
  exact absurd h hn
theorem vC_zero{l:List Fl}(h:(vC l).2.1=0):vC l=(0,0,()):=by
 have v:=qtW h
 unfold vC
 have hn:nE l.length=0:=by have:=v.n1;have:=v.n2;unfold nE;rw[if_neg (by omega),if_neg (by omega)]
 rw[if_pos hn,qdH (fun j _ hj=>by rw[v.ok j (by omega)];rfl)]
theorem Vk.at{l:List Fl}(V:Vk l){i:Nat}(h:i<l.length):(0≤vd l i∧vd l i≤1000)∧(0≤vlo l i∧vlo l i≤50)∧(0≤vhi l i∧vhi l i≤50)∧vlo l i≤vhi l i∧wdn l i=true:=by
 have:=V.ok i h
 unfold vE at this
 split at this
 ·rename_i h1
  split at this
  ·rename_i h2
   simp only[Bool.and_eq_true,wi_iff,decide_eq_true_eq]at h1 h2
   exact⟨h1.1,h1.2.1,h1.2.2,h2.1,h2.2⟩
  ·cases this
 ·cases this
theorem getD_map{A B:Type}(f:A→B)(l:List A)(d:A)(d':B)(i:Nat)(h:i<l.length):(l.map f).getD i d'=f (l.getD i d):=by
 rw[qhv (l.map f) d' i (by rw[List.length_map];exact h),qhv l d i h,List.getElem_map]
theorem qig{l:List Fl}{i:Nat}(h:i<l.length):px (lowL l) i=vd l i:=by
 unfold px lowL;rw[getD_map lowF l ((0:Int),(0:Int),(0:Int),()) _ i h];rfl
theorem qkh{l:List Fl}{i:Nat}(h:i<l.length):py (lowL l) i=vlo l i:=by
 unfold py lowL;rw[getD_map lowF l ((0:Int),(0:Int),(0:Int),()) _ i h];rfl
theorem qh7{l:List Fl}{i:Nat}(h:i<l.length):px (higL l) i=vd l i:=by
 unfold px higL;rw[getD_map higF l ((0:Int),(0:Int),(0:Int),()) _ i h];rfl
theorem qkM{l:List Fl}{i:Nat}(h:i<l.length):py (higL l) i=vhi l i:=by
 unfold py higL;rw[getD_map higF l ((0:Int),(0:Int),(0:Int),()) _ i h];rfl
theorem qmb{l:List Fl}(h:wdn l 0=true):vd l 0=0:=of_decide_eq_true h
theorem qgr{l:List Fl}{i:Nat}(h:wdn l (i+1)=true):vd l i<vd l (i+1)∧vlo l i≤vlo l (i+1)∧vhi l i≤vhi l (i+1):=by
 unfold wdn at h
 rw[if_neg (by omega)]at h
 simp only[Bool.and_eq_true,decide_eq_true_eq,Nat.add_sub_cancel]at h
 exact h
theorem Vk.low{l:List Fl}(V:Vk l):Ln (lowL l):=by
 have n1:=V.n1;have n2:=V.n2
 have e:(lowL l).length=l.length:=List.length_map _
 refine⟨by omega,by omega,?_,?_,?_,?_,?_,?_⟩
 ·rw[qig (by omega)];exact qmb (V.at (i:=0) (by omega)).2.2.2.2
 ·intro i hi;rw[e]at hi;rw[qig (by omega),qig hi];exact(qgr (V.at hi).2.2.2.2).1
 ·intro i hi;rw[e]at hi;rw[qkh (by omega),qkh hi];exact(qgr (V.at hi).2.2.2.2).2.1
 ·intro i hi;rw[e]at hi;rw[qig hi];exact(V.at hi).1.2
 ·intro i hi;rw[e]at hi;rw[qkh hi];exact(V.at hi).2.1.1
 ·intro i hi;rw[e]at hi;rw[qkh hi];have:=(V.at hi).2.1.2;omega
theorem Vk.hig{l:List Fl}(V:Vk l):Ln (higL l):=by
 have n1:=V.n1;have n2:=V.n2
 have e:(higL l).length=l.length:=List.length_map _
 refine⟨by omega,by omega,?_,?_,?_,?_,?_,?_⟩
 ·rw[qh7 (by omega)];exact qmb (V.at (i:=0) (by omega)).2.2.2.2
 ·intro i hi;rw[e]at hi;rw[qh7 (by omega),qh7 hi];exact(qgr (V.at hi).2.2.2.2).1
 ·intro i hi;rw[e]at hi;rw[qkM (by omega),qkM hi];exact(qgr (V.at hi).2.2.2.2).2.2
 ·intro i hi;rw[e]at hi;rw[qh7 hi];exact(V.at hi).1.2
 ·intro i hi;rw[e]at hi;rw[qkM hi];exact(V.at hi).2.2.1.1
 ·intro i hi;rw[e]at hi;rw[qkM hi];have:=(V.at hi).2.2.1.2;omega
theorem qqO{l:List Fl}(V:Vk l):qae (lowL l)=vd l (l.length-1):=by
 have n1:=V.n1
 have e:(lowL l).length=l.length:=List.length_map _
 unfold qae;rw[e,qig (by omega)]
theorem qq5{l:List Fl}(V:Vk l):qae (higL l)=vd l (l.length-1):=by
 have n1:=V.n1
 have e:(higL l).length=l.length:=List.length_map _
 unfold qae;rw[e,qh7 (by omega)]
def dn(r:Rat):Int:=r.num/(r.den:Int)
def upp(r:Rat):Int:=-(-r.num/(r.den:Int))
theorem qt2(r:Rat)(n:Int):n≤dn r↔n*(r.den:Int)≤r.num:=by
 have:=r.den_pos
 unfold dn
 exact Int.le_ediv_iff_mul_le (by omega)
theorem qp8(r:Rat)(n:Int):upp r≤n↔r.num≤n*(r.den:Int):=by
 have hd:=r.den_pos
 unfold upp
 have h:=Int.le_ediv_iff_mul_le (a:=-n) (b:=-r.num) (c:=(r.den:Int)) (by omega)
 have g:-n*(r.den:Int)=-(n*(r.den:Int)):=Int.neg_mul _ _
 rw[g]at h
 constructor
 ·intro k
  have:=h.1 (by omega)
  omega
 ·intro k
  have:=h.2 (by omega)
  omega
theorem qtP(r:Rat):(r.num+(r.den:Int)-1)/(r.den:Int)=upp r:=by
 have hd:=r.den_pos
 apply Int.le_antisymm
 ·have h1:=(qp8 r (upp r)).1 (Int.le_refl _)
  have h2:(r.num+(r.den:Int)-1)/(r.den:Int)<upp r+1:=(Int.ediv_lt_iff_lt_mul (by omega)).2 (by rw[Int.add_mul,Int.one_mul];omega)
  omega
 ·rw[qp8]
  have h2:(r.num+(r.den:Int)-1)/(r.den:Int)<(r.num+(r.den:Int)-1)/(r.den:Int)+1:=by omega
  have h3:=(Int.ediv_lt_iff_lt_mul (show(0:Int)<(r.den:Int)by omega)).1 h2
  rw[Int.add_mul,Int.one_mul]at h3
  omega
theorem qs8{l:List Pt}(L:Ln l){v:Int}(h0:0≤v)(h:v≤qae l):rsz (hP l v) 2000:=by
 obtain⟨a,b,c,d⟩:=qcR L h0 h
 exact⟨Nat.le_trans (qaD (k:=1) (by simp only[pw];omega)) (by omega),Nat.le_trans (qaD (k:=1) (by simp only[pw];omega)) (by omega)⟩
theorem qrR{l:List Pt}(L:Ln l){v:Int}(h0:0≤v)(h:v≤qae l):f105 (px l (nx l v-1),py l (nx l v-1),px l (nx l v),py l (nx l v),v,())=some (encR (hP l v),()):=by
 obtain⟨a,b,c,_⟩:=qfs L h
 have hl:=qo3 L h0 h
 have hw:=qdU L h
 have y0:=L.y1 (nx l v-1) (by omega)
 have y1:=L.y2 (nx l v-1) (by omega)
 have y2:=L.y1 (nx l v) b
 have y3:=L.y2 (nx l v) b
 have yu:=L.ymono (i:=nx l v-1) (j:=nx l v) (by omega) b
 have x0:=L.x1 (i:=nx l v-1) (by omega)
 have x1:=L.x2 (nx l v) b
 have p0:0≤(py l (nx l v)-py l (nx l v-1))*(v-px l (nx l v-1)):=Int.mul_nonneg (by omega) (by omega)
 have p1:(py l (nx l v)-py l (nx l v-1))*(v-px l (nx l v-1))≤1000*1000:=Int.mul_le_mul (by omega) (by omega) (by omega) (by omega)
 have q3:wrap64 (py l (nx l v)-py l (nx l v-1))=py l (nx l v)-py l (nx l v-1):=qac (by omega) (by omega)
 have q4:wrap64 (v-px l (nx l v-1))=v-px l (nx l v-1):=qac (by omega) (by omega)
 have q5:wrap64 ((py l (nx l v)-py l (nx l v-1))*(v-px l (nx l v-1)))=(py l (nx l v)-py l (nx l v-1))*(v-px l (nx l v-1)):=qac (by omega) (by omega)
 have q1:wrap64 (px l (nx l v)-px l (nx l v-1))=(((wd l v).toNat:Nat):Int):=by rw[qac (by omega) (by omega)];unfold wd at *;omega
 have e1:=qlV (py l (nx l v-1)) (by omega)
 have e2:=qsD ((py l (nx l v)-py l (nx l v-1))*(v-px l (nx l v-1))) (wd l v).toNat (qbw hw.1) (by omega) (by omega)
 have hb:=qgN ((py l (nx l v)-py l (nx l v-1))*(v-px l (nx l v-1))) (wd l v).toNat (qbw hw.1) 1000000 (by omega)
 have s1:rsz ((py l (nx l v-1):Int):Rat) 2000:=⟨Nat.le_trans (qaD (k:=1) (by simp only[pw,Rat.num_intCast];omega)) (by omega),Nat.le_trans (qaD (k:=1) (by simp only[pw,Rat.den_intCast];omega)) (by omega)⟩
 have s2:rsz (Rat.normalize ((py l (nx l v)-py l (nx l v-1))*(v-px l (nx l v-1))) (wd l v).toNat (qbw hw.1)) 2000:=⟨Nat.le_trans (qaD (k:=2) (by simp only[pw];omega)) (by omega),Nat.le_trans (qaD (k:=1) (by simp only[pw];omega)) (by omega)⟩
 have key:((py l (nx l v-1):Int):Rat)+Rat.normalize ((py l (nx l v)-py l (nx l v-1))*(v-px l (nx l v-1))) (wd l v).toNat (qbw hw.1)=hP l v:=by
  have:((py l (nx l v-1):Int):Rat)=Rat.normalize (py l (nx l v-1)) 1 (by decide):=by
   rw[Rat.normalize_eq_mkRat];exact(Rat.mkRat_one _).symm
  rw[this,Rat.normalize_add_normalize,qiM hw.1]
  congr 1
  ·unfold tp
   have:(((wd l v).toNat:Nat):Int)=wd l v:=by omega
   rw[this];omega
  ·omega
 have e3:=qr2 _ _ s1 s2
 rw[key]at e3
 simp only[f105,t105,q3,q4,q5,q1,g106,e1,g163,e2,Option.isSome_some,Option.getD_some,Tr.val_test,Tr.val_fin,if_true]
 have e4:∀r s:Rat,f162 (((((encR r).1.1,(encR r).1.2.1,()),((encR r).2.1.1,(encR r).2.1.2.1,()),()),(((encR s).1.1,(encR s).1.2.1,()),((encR s).2.1.1,(encR s).2.1.2.1,()),()),()))=f162 (encR r,encR s,()):=fun _ _=>rfl
 simp only[g162,e4,e3,Option.isSome_some,Option.getD_some,if_true]
def lnb(l:List Fl)(b:Bool):List Pt:=cond b (higL l) (lowL l)
def vy(l:List Fl)(b:Bool)(i:Nat):Int:=cond b (vhi l i) (vlo l i)
theorem px_lnb{l:List Fl}(b:Bool){i:Nat}(h:i<l.length):px (lnb l b) i=vd l i:=by
 cases b
 ·exact qig h
 ·exact qh7 h
theorem py_lnb{l:List Fl}(b:Bool){i:Nat}(h:i<l.length):py (lnb l b) i=vy l b i:=by
 cases b
 ·exact qkh h
 ·exact qkM h
theorem len_lnb(l:List Fl)(b:Bool):(lnb l b).length=l.length:=by
 cases b
 ·exact List.length_map _
 ·exact List.length_map _
theorem Vk.ln{l:List Fl}(V:Vk l)(b:Bool):Ln (lnb l b):=by
 cases b
 ·exact V.low
 ·exact V.hig
theorem qtG{l:List Fl}(V:Vk l)(b:Bool):qae (lnb l b)=vd l (l.length-1):=by
 cases b
 ·exact qqO V
 ·exact qq5 V
theorem dn_bd{l:List Pt}(L:Ln l){v:Int}(h0:0≤v)(h:v≤qae l):0≤dn (hP l v)∧dn (hP l v)≤1000000:=by
 obtain⟨a,b,c,d⟩:=qcR L h0 h
 exact⟨Int.ediv_nonneg c (by omega),Int.le_trans (Int.ediv_le_self _ c) d⟩
theorem upp_bd{l:List Pt}(L:Ln l){v:Int}(h0:0≤v)(h:v≤qae l):0≤upp (hP l v)∧upp (hP l v)≤1001000:=by
 obtain⟨a,b,c,d⟩:=qcR L h0 h
 have hd:=(hP l v).den_pos
 rw[←qtP]
 exact⟨Int.ediv_nonneg (by omega) (by omega),Int.le_trans (Int.ediv_le_self _ (by omega)) (by omega)⟩
theorem qsi(x:Int):f146 (x,())=some (if wi 0 50 x=true then(0:Int)else 2,()):=by
 have e:=qfO 0 50 x
 simp only[f146,t146,g93,e,g95,qd3,Option.isSome_some,Option.getD_some,Tr.val_test,Tr.val_fin,if_true]
 rcases Bool.eq_false_or_eq_true (wi 0 50 x)with h|h<;>simp only[h]<;>rfl
theorem qov(x y:Int):qaj [x,y]=if x=0 then y else x:=by
 simp only[qaj]
 split
 ·split
  ·rename_i h;exact h.symm
  ·rfl
 ·rfl
theorem qra(p:Int→Bool)(q:Nat→Bool)(h:∀i:Nat,q i=p (i:Int)):∀n i:Nat,first q n i=if lw p n i<i+n then some (lw p n i)else none
 |0,i=>(if_neg (show ¬lw p 0 i<i+0 from Nat.lt_irrefl i)).symm
 |n+1,i=>by
  by_cases k:p (i:Int)=true
  ·have e:lw p (n+1) i=i:=if_pos k
   have e':first q (n+1) i=some i:=by simp only[first,h i,if_pos k]
   rw[e,e',if_pos (by omega)]
  ·have e:lw p (n+1) i=lw p n (i+1):=if_neg k
   have e':first q (n+1) i=first q n (i+1):=by simp only[first,h i,if_neg k]
   rw[e,e',qra p q h n (i+1)]
   by_cases c:lw p n (i+1)<i+1+n
   ·rw[if_pos c,if_pos (by omega)]
   ·rw[if_neg c,if_neg (by omega)]
theorem qoQ(p:Int→Bool):∀n i:Nat,i≤lw p n i∧lw p n i≤i+n∧(∀j:Nat,i≤j→j<lw p n i→p (j:Int)=false)∧(lw p n i<i+n→p ((lw p n i:Nat):Int)=true)
 |0,i=>⟨Nat.le_refl _,Nat.le_refl _,fun j h1 h2=>absurd (Nat.lt_of_le_of_lt h1 h2) (Nat.lt_irrefl i),fun h=>absurd h (Nat.lt_irrefl i)⟩
 |n+1,i=>by
  by_cases k:p (i:Int)=true
  ·have e:lw p (n+1) i=i:=if_pos k
   rw[e]
   exact⟨Nat.le_refl _,by omega,fun j h1 h2=>by omega,fun _=>k⟩
  ·have e:lw p (n+1) i=lw p n (i+1):=if_neg k
   obtain⟨a,b,c,d⟩:=qoQ p n (i+1)
   rw[e]
   refine⟨by omega,by omega,fun j h1 h2=>?_,fun h=>d (by omega)⟩
   rcases Nat.eq_or_lt_of_le h1 with q|q
   ·subst q
    cases hp:p (i:Int)
    ·rfl
    ·exact absurd hp k
   ·exact c j q h2
theorem qke{l:List Pt}(L:Ln l){v:Int}(h0:0≤v)(h:v≤qae l)(x:Int):x≤dn (hP l v)↔atl l x v=true:=by
 have e:=qpO L h0 h x
 rw[qt2]
 unfold lt at e
 constructor
 ·intro k
  rw[dF (by omega)]at e
  cases q:atl l x v
  ·rw[q]at e;cases e
  ·rfl
 ·intro k
  rw[k]at e
  have:=of_decide_eq_false e
  omega
theorem qio{l:List Pt}(L:Ln l){v:Int}(h0:0≤v)(h:v≤qae l)(x:Int):upp (hP l v)≤x↔abv l x v=false:=by
 have e:=qo9 L h0 h x
 rw[qp8]
 unfold gt at e
 constructor
 ·intro k
  rw[dF (by omega)]at e
  exact e.symm
 ·intro k
  rw[k]at e
  have:=of_decide_eq_false e
  omega
theorem dn_mono{l:List Pt}(L:Ln l){v w:Int}(h0:0≤v)(hvw:v≤w)(h:w≤qae l):dn (hP l v)≤dn (hP l w):=by
 rw[qke L (by omega) h]
 exact qoJ L h0 hvw h ((qke L h0 (by omega) _).1 (Int.le_refl _))
theorem qtJ{l:List Pt}(L:Ln l){v w:Int}(h0:0≤v)(hvw:v≤w)(h:w≤qae l):upp (hP l v)≤upp (hP l w):=by
 rw[qio L h0 (by omega)]
 have k:=(qio L (by omega) h (upp (hP l w))).1 (Int.le_refl _)
 cases q:abv l (upp (hP l w)) v
 ·rfl
 ·have:=qo2 L h0 hvw h q
  rw[k]at this;cases this
end Go.Vm.Mo

namespace Go.Vm.Mo
open Go
set_option linter.unusedVariables false
set_option linter.unusedSimpArgs false
def asc(l:List Pt)(i:Nat):Bool:=if i=0 then decide (px l 0=0)else decide (px l (i-1)<px l i)&&decide (py l (i-1)<py l i)
def pE(l:List Pt)(i:Nat):Int:=if(wi 0 200 (px l i)&&wi 0 1000 (py l i))=true then(if asc l i=true then 0 else 9)else 2
theorem qpV(l:List Pt)(i:Nat):pE l i=if(wi 0 200 (l.getD i ((0:Int),(0:Int),())).1&&wi 0 1000 (l.getD i ((0:Int),(0:Int),())).2.1)=true then(if asc l i=true then 0 else 9)else 2:=rfl
theorem qqq(l:List Pt)(i:Nat):asc l i=if i=0 then decide ((l.getD 0 ((0:Int),(0:Int),())).1=0)else decide ((l.getD (i-1) ((0:Int),(0:Int),())).1<(l.getD i ((0:Int),(0:Int),())).1)&&decide ((l.getD (i-1) ((0:Int),(0:Int),())).2.1<(l.getD i ((0:Int),(0:Int),())).2.1):=rfl
def oE(a b c:Int):Int:=if(wi 0 50 a&&(wi 0 1000 b&&wi 0 1000 c))=true then(if b<c then 0 else 9)else 2
def pC(l:List Pt)(a b c:Int):Int×Int×Unit:=if nE l.length=0 then(match first (fun i=>!decide (pE l i=0)) l.length 0 with
 |some k=>((k:Int),pE l k,())
 |none=>(0,oE a b c,()))else(0,nE l.length,())
structure Pl(l:List Pt)(a b c:Int):Prop where
 n1:2≤l.length
 n2:l.length≤8
 ok:∀i,i<l.length→pE l i=0
 a1:0≤a∧a≤50
 b1:0≤b∧b≤1000
 c1:0≤c∧c≤1000
 bc:b<c
theorem qtX{a b c:Int}(h:oE a b c=0):(0≤a∧a≤50)∧(0≤b∧b≤1000)∧(0≤c∧c≤1000)∧b<c:=by
 unfold oE at h
 split at h
 ·rename_i h1
  simp only[Bool.and_eq_true,wi_iff]at h1
  split at h
  ·rename_i h2
   exact⟨h1.1,h1.2.1,h1.2.2,h2⟩
  ·cases h
 ·cases h
theorem qj0{l:List Pt}{a b c:Int}(h:(pC l a b c).2.1=0):Pl l a b c:=by
 unfold pC at h
 split at h
 ·rename_i hn
  have hl:2≤l.length∧l.length≤8:=by
   unfold nE at hn
   split at hn
   ·cases hn
   ·split at hn
    ·cases hn
    ·omega
  cases hf:first (fun i=>!decide (pE l i=0)) l.length 0 with
  |none=>
   rw[hf]at h
   obtain⟨q1,q2,q3,q4⟩:=qtX h
   refine⟨hl.1,hl.2,?_,q1,q2,q3,q4⟩
   intro i hi
   have:=qcw hf i (Nat.zero_le _) (by omega)
   have:decide (pE l i=0)=true:=by simpa using this
   exact of_decide_eq_true this
  |some k=>
   rw[hf]at h
   have:=(first_some hf).2.2.1
   have:decide (pE l k=0)=false:=by simpa using this
   exact absurd h (of_decide_eq_false this)
 ·rename_i hn
  exact absurd h hn
theorem pC_zero{l:List Pt}{a b c:Int}(h:(pC l a b c).2.1=0):pC l a b c=(0,0,()):=by
 have v:=qj0 h
 have hn:nE l.length=0:=by have:=v.n1;have:=v.n2;unfold nE;rw[if_neg (by omega),if_neg (by omega)]
 have hf:first (fun i=>!decide (pE l i=0)) l.length 0=none:=qdH (fun j _ hj=>by rw[v.ok j (by omega)];rfl)
 have ho:oE a b c=0:=by
  unfold oE
  rw[if_pos (by simp only[Bool.and_eq_true,wi_iff];exact⟨v.a1,v.b1,v.c1⟩),if_pos v.bc]
 unfold pC
 rw[if_pos hn,hf,ho]
theorem Pl.at{l:List Pt}{a b c:Int}(V:Pl l a b c){i:Nat}(h:i<l.length):(0≤px l i∧px l i≤200)∧(0≤py l i∧py l i≤1000)∧asc l i=true:=by
 have:=V.ok i h
 unfold pE at this
 split at this
 ·rename_i h1
  split at this
  ·rename_i h2
   simp only[Bool.and_eq_true,wi_iff]at h1
   exact⟨h1.1,h1.2,h2⟩
  ·cases this
 ·cases this
theorem qqM{l:List Pt}(h:asc l 0=true):px l 0=0:=of_decide_eq_true h
theorem qiX{l:List Pt}{i:Nat}(h:asc l (i+1)=true):px l i<px l (i+1)∧py l i<py l (i+1):=by
 unfold asc at h
 rw[if_neg (by omega)]at h
 simp only[Bool.and_eq_true,decide_eq_true_eq,Nat.add_sub_cancel]at h
 exact h
theorem Pl.ln{l:List Pt}{a b c:Int}(V:Pl l a b c):Ln l:=by
 have n1:=V.n1;have n2:=V.n2
 refine⟨n1,n2,qqM (V.at (i:=0) (by omega)).2.2,fun i hi=>(qiX (V.at hi).2.2).1,fun i hi=>Int.le_of_lt (qiX (V.at hi).2.2).2,fun i hi=>?_,fun i hi=>(V.at hi).2.1.1,fun i hi=>(V.at hi).2.1.2⟩
 have:=(V.at hi).1.2;omega
def Up(l:List Pt):Prop:=∀i,i+1<l.length→py l i<py l (i+1)
theorem Pl.up{l:List Pt}{a b c:Int}(V:Pl l a b c):Up l:=fun _ hi=>(qiX (V.at hi).2.2).2
theorem Pl.cap{l:List Pt}{a b c:Int}(V:Pl l a b c):1≤qae l∧qae l≤200:=by
 have n1:=V.n1
 exact⟨(qck V.ln).1,(V.at (i:=l.length-1) (by omega)).1.2⟩
theorem qqR{l:List Pt}(L:Ln l)(U:Up l){v w:Int}(h0:0≤v)(hvw:v<w)(h:w≤qae l):tp l v*wd l w<tp l w*wd l v:=by
 have hm:=nx_mono L (Int.le_of_lt hvw) h
 have wv:=qdU L (v:=v) (by omega)
 have ww:=qdU L h
 obtain⟨a',b',c',d'⟩:=qfs L h
 obtain⟨a,b,c,d⟩:=qfs L (v:=v) (by omega)
 rcases Nat.eq_or_lt_of_le hm with e|hlt
 ·have e1:wd l w=wd l v:=by unfold wd;rw[←e]
  rw[e1]
  refine Int.mul_lt_mul_of_pos_right ?_ (by omega)
  unfold tp
  rw[e1,←e]
  have yu:=U (nx l v-1) (by omega)
  rw[show nx l v-1+1=nx l v by omega]at yu
  have:=Int.mul_lt_mul_of_pos_left (show v-px l (nx l v-1)<w-px l (nx l v-1)by omega) (show 0<py l (nx l v)-py l (nx l v-1)by omega)
  omega
 ·have t1:=(qoU L h0 (by omega:v≤qae l)).2
  have t2:py l (nx l w-1)*wd l w<tp l w:=by
   have yu:=U (nx l w-1) (by omega)
   rw[show nx l w-1+1=nx l w by omega]at yu
   have lw:=d' (nx l w-1) (by omega) (by omega)
   have:=Int.mul_pos (show 0<py l (nx l w)-py l (nx l w-1)by omega) (show 0<w-px l (nx l w-1)by omega)
   unfold tp
   omega
  have yy:=L.ymono (i:=nx l v) (j:=nx l w-1) (by omega) (by omega)
  have s1:tp l v*wd l w≤py l (nx l v)*wd l v*wd l w:=Int.mul_le_mul_of_nonneg_right t1 (by omega)
  have s2:py l (nx l v)*(wd l v*wd l w)≤py l (nx l w-1)*(wd l v*wd l w):=Int.mul_le_mul_of_nonneg_right yy (Int.mul_nonneg (by omega) (by omega))
  have s3:py l (nx l w-1)*wd l w*wd l v<tp l w*wd l v:=Int.mul_lt_mul_of_pos_right t2 (by omega)
  have g1:py l (nx l v)*wd l v*wd l w=py l (nx l v)*(wd l v*wd l w):=by grind
  have g2:py l (nx l w-1)*wd l w*wd l v=py l (nx l w-1)*(wd l v*wd l w):=by grind
  omega
theorem hP_lt{l:List Pt}(L:Ln l)(U:Up l){v w:Int}(h0:0≤v)(hvw:v<w)(h:w≤qae l):(hP l v).num*((hP l w).den:Int)<(hP l w).num*((hP l v).den:Int):=by
 have k:=qqR L U h0 hvw h
 obtain⟨_,b1,_,_⟩:=qcR L h0 (by omega:v≤qae l)
 obtain⟨_,b2,_,_⟩:=qcR L (by omega:0≤w) h
 have wv:=qdU L (v:=v) (by omega)
 have ww:=qdU L h
 have d1:=(hP l v).den_pos
 have d2:=(hP l w).den_pos
 have s:tp l v*wd l w*(((hP l v).den:Int)*((hP l w).den:Int))<tp l w*wd l v*(((hP l v).den:Int)*((hP l w).den:Int)):=Int.mul_lt_mul_of_pos_right k (Int.mul_pos (by omega) (by omega))
 have g1:tp l v*wd l w*(((hP l v).den:Int)*((hP l w).den:Int))=(hP l v).num*((hP l w).den:Int)*(wd l v*wd l w):=by
  have:tp l v*wd l w*(((hP l v).den:Int)*((hP l w).den:Int))=(tp l v*((hP l v).den:Int))*(wd l w*((hP l w).den:Int)):=by grind
  rw[this,←b1];grind
 have g2:tp l w*wd l v*(((hP l v).den:Int)*((hP l w).den:Int))=(hP l w).num*((hP l v).den:Int)*(wd l v*wd l w):=by
  have:tp l w*wd l v*(((hP l v).den:Int)*((hP l w).den:Int))=(tp l w*((hP l w).den:Int))*(wd l v*((hP l v).den:Int)):=by grind
  rw[this,←b2];grind
 rw[g1,g2]at s
 exact Int.lt_of_mul_lt_mul_right s (Int.mul_nonneg (by omega) (by omega))
theorem qsT(l:List Pt)(i:Nat)(h:i<l.length)(hs:l.length≤1000000):f96 (l,(i:Int),())=some (asc l i,()):=by
 have b1:(decide ((0:Int)≤(i:Int))&&decide ((i:Int)<(l.length:Int)))=true:=dA (by omega) (by omega)
 rcases Nat.eq_zero_or_pos i with e|e
 ·subst e
  have b0:(decide ((0:Int)≤((0:Nat):Int))&&decide (((0:Nat):Int)<(l.length:Int)))=true:=dA (by omega) (by omega)
  simp only[f96,t96,qam,b0,Tr.val_test,Tr.val_fin,asc,if_true,px,Int.toNat_natCast]
  rfl
 ·have z:decide ((i:Int)=0)=false:=dF (by omega)
  have w:wrap64 ((i:Int)-1)=((i-1:Nat):Int):=by rw[qac (by omega) (by omega)];omega
  have b2:(decide ((0:Int)≤((i-1:Nat):Int))&&decide (((i-1:Nat):Int)<(l.length:Int)))=true:=dA (by omega) (by omega)
  simp only[f96,t96,qam,qag,z,b1,w,b2,Tr.val_test,Tr.val_fin,if_true,Bool.false_eq_true,if_false,Int.toNat_natCast,asc,if_neg (show ¬i=0 by omega)]
  show(if(!decide (px l i≤px l (i-1)))=true then some (!decide (py l i≤py l (i-1)),())else some (false,()))=_
  by_cases h1:px l (i-1)<px l i
  ·rw[nT (show ¬px l i≤px l (i-1)by omega),dT h1,if_pos rfl,Bool.true_and]
   by_cases h2:py l (i-1)<py l i
   ·rw[nT (show ¬py l i≤py l (i-1)by omega),dT h2]
   ·rw[nF (show py l i≤py l (i-1)by omega),dF h2]
  ·rw[nF (show px l i≤px l (i-1)by omega),dF h1,if_neg (by decide),Bool.false_and]
theorem f100_eq(x:Int):f100 (x,())=some (if wi 0 1000 x=true then(0:Int)else 2,()):=by
 have e:=qfO 0 1000 x
 simp only[f100,t100,g93,e,g95,qd3,Option.isSome_some,Option.getD_some,Tr.val_test,Tr.val_fin,if_true]
 rcases Bool.eq_false_or_eq_true (wi 0 1000 x)with h|h<;>simp only[h]<;>rfl
theorem qti(d:Tys.data as25):f25 d=some (if wi 0 1000 d.1=true then(0:Int)else 2,()):=by
 simp only[f25,t25,g20,qmw,Option.isSome_some,Option.getD_some,Tr.val_test,Tr.val_fin,if_true]
 rcases Bool.eq_false_or_eq_true (wi 0 1000 d.1)with h|h<;>simp only[h]<;>rfl
theorem qo0(d:Tys.data as36):f36 d=some (if wi 0 50 d.1=true then(0:Int)else 2,()):=by
 simp only[f36,t36,g20,qmw,Option.isSome_some,Option.getD_some,Tr.val_test,Tr.val_fin,if_true]
 rcases Bool.eq_false_or_eq_true (wi 0 50 d.1)with h|h<;>simp only[h]<;>rfl
theorem l91(l:List Pt)(a b c:Int)(h:l.length≤1000000):l91_0 ((l,(l.length:Int),(0:Int),()),(l,a,b,c,()),())=match first (fun i=>!decide (pE l i=0)) l.length 0 with
  |some k=>some (.inr (((k:Int),pE l k,()),(l,a,b,c,()),()))
  |none=>some (.inl ((),(l,a,b,c,()),())):=by
 refine qbX (fun i=>((l,(l.length:Int),(i:Int),()),(l,a,b,c,()),())) (fun i=>!decide (pE l i=0)) (fun k=>(((k:Int),pE l k,()),(l,a,b,c,()),())) (n:=l.length) ?_ ?_ (qal (by omega))
 ·intro i hi
  have e96:=qsT l i hi h
  have e1:=qfO 0 200 (px l i)
  have e2:=qfO 0 1000 (py l i)
  have e94:∀x y:Int,f94 ([x,y],())=some (qaj [x,y],()):=fun x y=>qfX _ (by simp)
  simp only[px,py]at e1 e2
  have hv:=qpV l i
  have q1:(!decide ((l.length:Int)≤(i:Int)))=true:=nT (by omega)
  have b1:(decide ((0:Int)≤(i:Int))&&decide ((i:Int)<(l.length:Int)))=true:=dA (by omega) (by omega)
  simp only[s91_0,t91_0,q1,b1,Tr.val_test,Tr.val_fin,Tr.val_stop,if_true,Int.toNat_natCast,qaw (show i≤9223372036854775806 by omega),g93,e1,e2,g95,qd3,g94,e94,g96,e96,Option.isSome_some,Option.getD_some,qam,qag,qaj,hv]
  rcases Bool.eq_false_or_eq_true (wi 0 200 (l.getD i ((0:Int),(0:Int),())).1)with hA|hA<;>rcases Bool.eq_false_or_eq_true (wi 0 1000 (l.getD i ((0:Int),(0:Int),())).2.1)with hB|hB<;>rcases Bool.eq_false_or_eq_true (asc l i)with hD|hD<;>simp only[hA,hB,hD]<;>rfl
 ·have q1:(!decide ((l.length:Int)≤(l.length:Int)))=false:=nF (by omega)
  simp only[s91_0,t91_0,qag,q1,Tr.val_test,Tr.val_fin,Bool.false_eq_true,if_false]
theorem qsU(a b c:Int):oE a b c=qaj [if(!(wi 0 50 a&&(wi 0 1000 b&&wi 0 1000 c)))=true then(2:Int)else 0,if decide (c≤b)=true then(9:Int)else 0]:=by
 unfold oE
 by_cases k:b<c
 ·rw[if_pos k,dF (show ¬c≤b by omega)]
  rcases Bool.eq_false_or_eq_true (wi 0 50 a&&(wi 0 1000 b&&wi 0 1000 c))with hA|hA<;>rw[hA]<;>rfl
 ·rw[if_neg k,dT (show c≤b by omega)]
  rcases Bool.eq_false_or_eq_true (wi 0 50 a&&(wi 0 1000 b&&wi 0 1000 c))with hA|hA<;>rw[hA]<;>rfl
theorem qsL(l:List Pt)(a b c:Int)(h:l.length≤1000000):f15 ((l,a,b,c,()),())=some (pC l a b c):=by
 have e:=qs7 l.length
 have e1:=l91 l a b c h
 have e2:=qfO 0 50 a
 have e3:=qos 0 1000 b c
 have e94:∀x y:Int,f94 ([x,y],())=some (qaj [x,y],()):=fun x y=>qfX _ (by simp)
 have ho:=qsU a b c
 simp only[f15,t15,g90,e,qam,Option.isSome_some,Option.getD_some,Tr.val_test,Tr.val_fin,if_true,pC]
 by_cases z:nE l.length=0
 ·rw[nF z,if_neg (by decide),if_pos z]
  cases hf:first (fun i=>!decide (pE l i=0)) l.length 0 with
  |none=>
   rw[hf]at e1
   simp only[e1,qa8,b91_0,outB,g93,e2,e3,g95,qd3,g94,e94,qag,Option.isSome_some,Option.getD_some,Tr.val_test,Tr.val_fin,if_true,Bool.false_eq_true,if_false,ho]
   rcases Bool.eq_false_or_eq_true (wi 0 50 a)with hA|hA<;>rcases Bool.eq_false_or_eq_true (wi 0 1000 b&&wi 0 1000 c)with hB|hB<;>simp only[hA,hB]<;>rfl
  |some k=>
   rw[hf]at e1
   have hk:=(first_some hf).2.2.1
   simp only[e1,qa8,r91_0,outR,hk,Option.isSome_some,Tr.val_test,Tr.val_fin,if_true]
 ·rw[nT z,if_pos rfl,if_neg z]
theorem l19(l:List Pt)(a b c:Int)(h:l.length≤1000000):l19_0 ((l,(0:Int),()),(l,a,b,c,()),())=match first (fun i=>!decide (pE l i=0)) l.length 0 with
  |some k=>some (.inr (((k:Int),pE l k,()),(l,a,b,c,()),()))
  |none=>some (.inl ((),(l,a,b,c,()),())):=by
 refine qbX (fun i=>((l,(i:Int),()),(l,a,b,c,()),())) (fun i=>!decide (pE l i=0)) (fun k=>(((k:Int),pE l k,()),(l,a,b,c,()),())) (n:=l.length) ?_ ?_ (qal (by omega))
 ·intro i hi
  have hv:=qpV l i
  have hw:=qqq l i
  have q1:(!decide ((l.length:Int)≤(i:Int)))=true:=nT (by omega)
  have b1:(decide ((0:Int)≤(i:Int))&&decide ((i:Int)<(l.length:Int)))=true:=dA (by omega) (by omega)
  simp only[s19_0,t19_0,q1,b1,Tr.val_test,Tr.val_fin,Tr.val_stop,if_true,Int.toNat_natCast,qaw (show i≤9223372036854775806 by omega),g20,qmw,Option.isSome_some,Option.getD_some,qam,qag,hv,hw]
  rcases Nat.eq_zero_or_pos i with e|e
  ·subst e
   have z:decide (((0:Nat):Int)=0)=true:=rfl
   have z2:(!decide (((0:Nat):Int)≤0))=false:=rfl
   simp only[z,z2,if_true,Bool.false_eq_true,if_false]
   rcases Bool.eq_false_or_eq_true (wi 0 200 (l.getD 0 ((0:Int),(0:Int),())).1)with hA|hA<;>rcases Bool.eq_false_or_eq_true (wi 0 1000 (l.getD 0 ((0:Int),(0:Int),())).2.1)with hB|hB<;>rcases Bool.eq_false_or_eq_true (decide ((l.getD 0 ((0:Int),(0:Int),())).1=0))with hD|hD<;>simp only[hA,hB,hD]<;>rfl
  ·have z:decide ((i:Int)=0)=false:=dF (by omega)
   have z2:(!decide ((i:Int)≤0))=true:=nT (by omega)
   have w:wrap64 ((i:Int)-1)=((i-1:Nat):Int):=by rw[qac (by omega) (by omega)];omega
   have b2:(decide ((0:Int)≤((i-1:Nat):Int))&&decide (((i-1:Nat):Int)<(l.length:Int)))=true:=dA (by omega) (by omega)
   simp only[z,z2,w,b2,if_true,Bool.false_eq_true,if_false,Int.toNat_natCast,if_neg (show ¬i=0 by omega)]
   have hlt:∀x y:Int,decide (x<y)=!decide (y≤x):=fun x y=>by
    by_cases k:y≤x
    ·rw[nF k,dF (by omega)]
    ·rw[nT k,dT (by omega)]
   simp only[hlt]
   rcases Bool.eq_false_or_eq_true (wi 0 200 (l.getD i ((0:Int),(0:Int),())).1)with hA|hA<;>rcases Bool.eq_false_or_eq_true (wi 0 1000 (l.getD i ((0:Int),(0:Int),())).2.1)with hB|hB<;>rcases Bool.eq_false_or_eq_true (decide ((l.getD i ((0:Int),(0:Int),())).1≤(l.getD (i-1) ((0:Int),(0:Int),())).1))with hD|hD<;>rcases Bool.eq_false_or_eq_true (decide ((l.getD i ((0:Int),(0:Int),())).2.1≤(l.getD (i-1) ((0:Int),(0:Int),())).2.1))with hE|hE<;>simp only[hA,hB,hD,hE]<;>rfl
 ·have q1:(!decide ((l.length:Int)≤(l.length:Int)))=false:=nF (by omega)
  simp only[s19_0,t19_0,qag,q1,Tr.val_test,Tr.val_fin,Bool.false_eq_true,if_false]
theorem qts(l:List Pt)(a b c:Int)(h:l.length≤1000000):f19 ((l,a,b,c,()),())=some (pC l a b c):=by
 have e1:=l19 l a b c h
 simp only[f19,t19,qag,Tr.val_test,Tr.val_fin,pC]
 by_cases h1:l.length<2
 ·have z:nE l.length=10:=if_pos h1
  rw[nT (show ¬(2:Int)≤(l.length:Int)by omega),if_pos rfl,if_neg (by rw[z];decide),z]
 ·rw[nF (show(2:Int)≤(l.length:Int)by omega),if_neg (by decide)]
  by_cases h2:8<l.length
  ·have z:nE l.length=8:=by unfold nE;rw[if_neg h1,if_pos h2]
   rw[nT (show ¬(l.length:Int)≤8 by omega),if_pos rfl,if_neg (by rw[z];decide),z]
  ·have z:nE l.length=0:=by unfold nE;rw[if_neg h1,if_neg h2]
   rw[nF (show(l.length:Int)≤8 by omega),if_neg (by decide),if_pos z]
   cases hf:first (fun i=>!decide (pE l i=0)) l.length 0 with
   |none=>
    rw[hf]at e1
    simp only[e1,qa8,b19_0,outB,g36,qo0,g25,qti,qam,Option.isSome_some,Option.getD_some,if_true,Bool.false_eq_true,if_false,oE]
    by_cases k:b<c
    ·rw[if_pos k,dF (show ¬c≤b by omega)]
     rcases Bool.eq_false_or_eq_true (wi 0 50 a)with hA|hA<;>rcases Bool.eq_false_or_eq_true (wi 0 1000 b)with hB|hB<;>rcases Bool.eq_false_or_eq_true (wi 0 1000 c)with hC|hC<;>simp only[hA,hB,hC]<;>rfl
    ·rw[if_neg k,dT (show c≤b by omega)]
     rcases Bool.eq_false_or_eq_true (wi 0 50 a)with hA|hA<;>rcases Bool.eq_false_or_eq_true (wi 0 1000 b)with hB|hB<;>rcases Bool.eq_false_or_eq_true (wi 0 1000 c)with hC|hC<;>simp only[hA,hB,hC]<;>rfl
   |some k=>
    rw[hf]at e1
    simp only[e1,qa8,r19_0,outR,Option.isSome_some,if_true]
theorem qrt(l:List Pt)(a b c:Int)(h:l.length≤1000):f16 ((l,a,b,c,()),())=some ((l,a,b,c,()),()):=by
 simp only[f16,t16,Tr.val_test,Tr.val_fin,Tr.val_stop,List.nil_append,Nat.zero_add]
 rw[if_pos (by simp only[Bool.and_eq_true,qaK];omega),if_pos (by rw[qgj])]
theorem qrS(l:List Pt)(i:Nat)(h:i<l.length):l.take i++[l.getD i ((0:Int),(0:Int),())]=l.take (i+1):=by
 rw[List.take_add_one,List.getElem?_eq_getElem h,qhv l _ i h];rfl
theorem l157(l:List Pt)(h:l.length≤1000):l157_0 (([],l,(l.length:Int),(0:Int),()),())=some (.inl ((l,()),())):=by
 have hb:s157_0 ((l.take l.length,l,(l.length:Int),(l.length:Int),()),())=some (.brk ((l,()),())):=by
  have q1:(!decide ((l.length:Int)≤(l.length:Int)))=false:=nF (by omega)
  simp only[s157_0,t157_0,qag,q1,Tr.val_test,Tr.val_fin,Bool.false_eq_true,if_false,List.take_length]
 refine qcD (fun i=>((l.take i,l,(l.length:Int),(i:Int),()),())) (n:=l.length) ?_ hb (qal (by omega))
 intro i hi
 have q1:(!decide ((l.length:Int)≤(i:Int)))=true:=nT (by omega)
 have b1:(decide ((0:Int)≤(i:Int))&&decide ((i:Int)<(l.length:Int)))=true:=dA (by omega) (by omega)
 have hl:(l.take i).length=i:=by rw[List.length_take];omega
 have b2:(Nat.ble ((2*(i+1)+192)*16) 281474976710656&&Nat.ble (i+1) 281474976710656)=true:=by simp only[Bool.and_eq_true,qaK];omega
 have e:=qrS l i hi
 simp only[s157_0,t157_0,q1,b1,b2,hl,qag,Tr.val_test,Tr.val_fin,if_true,Int.toNat_natCast,qaw (show i≤9223372036854775806 by omega),g158,f158,t158,Option.isSome_some,Option.getD_some]
 rw[←e]
def plD(l:List Pt)(a b c:Int):(List Pt×Int×Int×Int×Unit)×List Pt×Int×Int×Unit:=((l,a,b,c,()),l,fst (abv l b) (qae l),fst (atl l c) (qae l),())
def plZ:(List Pt×Int×Int×Int×Unit)×List Pt×Int×Int×Unit:=(([],0,0,0,()),[],0,0,())
theorem qrC(l:List Pt)(a b c:Int)(es:List Int)(h:l.length≤1000)(hs:es.length≤1000):f99 ((l,a,b,c,()),es,())=some (if qaj [(pC l a b c).2.1,qaj es]=0 then(plD l a b c,(0:Int),())else(plZ,qaj [(pC l a b c).2.1,qaj es],())):=by
 have e:=qsL l a b c (by omega)
 have e1:=qfX es (by omega)
 have e94:∀x y:Int,f94 ([x,y],())=some (qaj [x,y],()):=fun x y=>qfX _ (by simp)
 have e2:=l157 l h
 simp only[f99,t99,g15,e,g94,e1,e94,e2,qam,Option.isSome_some,Option.getD_some,Tr.val_test,Tr.val_fin,Tr.val_stop,qbl,b157_0,outB,if_true]
 by_cases z:qaj [(pC l a b c).2.1,qaj es]=0
 ·rw[nF z,if_neg (by decide),if_pos z]
  have zz:(pC l a b c).2.1=0:=by
   rw[qov]at z
   split at z
   ·assumption
   ·rename_i q;exact absurd z q
  have V:=qj0 zz
  have b1:=V.b1;have c1:=V.c1
  have e3:=qrM V.ln (h:=b) (by omega) (by omega)
  have e4:=qrX V.ln (h:=c) (by omega) (by omega)
  simp only[g159,e3,g101,e4,Option.isSome_some,Option.getD_some,if_true,plD]
 ·rw[nT z,if_pos rfl,if_neg z];rfl
def sE(l:List Pt)(v:Int):Int:=if wi 0 (qae l) v=true then 0 else 2
theorem qo1{l:List Pt}(L:Ln l)(p:List Pt×Int×Int×Int×Unit)(x y:Int):f102 ((p,l,x,y,()),())=some (qae l,()):=by
 simp only[f102,t102,g143,qlR L,Option.isSome_some,Option.getD_some,Tr.val_test,Tr.val_fin,if_true]
theorem qrL{l:List Pt}(L:Ln l)(p:List Pt×Int×Int×Int×Unit)(x y v:Int)(r:Bool):f132 ((p,l,x,y,()),(v,r,()),())=some (sE l v,()):=by
 have e:=qo1 L p x y
 have e1:=qfO 0 (qae l) v
 have e0:f102 (((p.1,p.2.1,p.2.2.1,p.2.2.2.1,()),l,x,y,()),())=some (qae l,()):=e
 simp only[f132,t132,g102,e0,g93,e1,g95,qd3,Option.isSome_some,Option.getD_some,Tr.val_test,Tr.val_fin,if_true,sE]
 rcases Bool.eq_false_or_eq_true (wi 0 (qae l) v)with hA|hA<;>simp only[hA]<;>rfl
theorem qoX{l:List Pt}{a b c:Int}(h:l.length≤1000)(z:¬(pC l a b c).2.1=0)(s:Int×Bool×Unit)(es:List Int):f97 ((l,a,b,c,()),s,es,())=some (plZ,(pC l a b c).2.1,()):=by
 have e:=qrC l a b c [] h (by simp)
 have z1:qaj [(pC l a b c).2.1,qaj []]=(pC l a b c).2.1:=by rw[qov,if_neg z]
 rw[z1,if_neg z]at e
 simp only[f97,t97,g99,e,qam,nT z,Option.isSome_some,Option.getD_some,Tr.val_test,Tr.val_fin,if_true]
 rfl
theorem qmr{l:List Pt}{a b c:Int}(h:l.length≤1000)(z:(pC l a b c).2.1=0)(v:Int)(r:Bool)(es:List Int)(hs:es.length≤1000):f97 ((l,a,b,c,()),(v,r,()),es,())=some (if qaj [sE l v,qaj es]=0 then(plD l a b c,(0:Int),())else(plZ,qaj [sE l v,qaj es],())):=by
 have V:=qj0 z
 have e:=qrC l a b c [] h (by simp)
 have z1:qaj [(pC l a b c).2.1,qaj []]=0:=by rw[qov,if_pos z];rfl
 rw[if_pos z1]at e
 have e1:=qrL V.ln (l,a,b,c,()) (fst (abv l b) (qae l)) (fst (atl l c) (qae l)) v r
 have e2:=qfX es (by omega)
 have e94:∀x y:Int,f94 ([x,y],())=some (qaj [x,y],()):=fun x y=>qfX _ (by simp)
 have z0:(!decide ((0:Int)=0))=false:=rfl
 simp only[f97,t97,g99,e,plD,qam,z0,g132,e1,g94,e2,e94,Option.isSome_some,Option.getD_some,Tr.val_test,Tr.val_fin,if_true,Bool.false_eq_true,if_false]
 by_cases k:qaj [sE l v,qaj es]=0
 ·rw[nF k,if_pos k];rfl
 ·rw[nT k,if_pos rfl,if_neg k];rfl
end Go.Vm.Mo

namespace Go.Vm.Mo
open Go
set_option linter.unusedVariables false
set_option linter.unusedSimpArgs false
theorem qrJ:qaj []=0:=rfl
theorem qq2{l:List Pt}{v:Int}(h0:0≤v)(h:v≤qae l):sE l v=0:=by
 unfold sE;rw[if_pos (wi_iff.2 ⟨h0,h⟩)]
theorem qpw{l:List Pt}{v:Int}(h:¬(0≤v∧v≤qae l)):sE l v=2:=by
 unfold sE;rw[if_neg (fun q=>h (wi_iff.1 q))]
theorem qrj{l:List Pt}(L:Ln l)(a b c:Int):f21 ((l,a,b,c,()),())=some (qae l,()):=by
 have h1:=L.n1;have h2:=L.n2
 have w:wrap64 ((l.length:Int)-1)=((l.length-1:Nat):Int):=by rw[qac (by omega) (by omega)];omega
 have q:(decide ((0:Int)≤((l.length-1:Nat):Int))&&decide (((l.length-1:Nat):Int)<(l.length:Int)))=true:=dA (by omega) (by omega)
 simp only[f21,t21,w,q,if_true,Tr.val_test,Tr.val_fin,Int.toNat_natCast,qae,px]
theorem l23{l:List Pt}(L:Ln l){v:Int}(h0:0≤v)(h:v≤qae l):
  l23_0 ((v,l,(1:Int),()),((0:Int),(0:Int),()),())=some (.inr ((),((encR (hP l v)).1.1,(encR (hP l v)).1.2.1,(encR (hP l v)).2.1.1,(encR (hP l v)).2.1.2.1,()),())):=by
 have n1:=L.n1;have n2:=L.n2
 obtain⟨a1,a2,a3,a4⟩:=qfs L h
 have e105:=qrR L h0 h
 obtain⟨k,hk⟩:∃k,nx l v=k+1:=⟨nx l v-1,by omega⟩
 rw[hk,Nat.add_sub_cancel]at e105
 rw[hk]at a2 a3
 refine qpe (fun i=>((v,l,((i+1:Nat):Int),()),((0:Int),(0:Int),()),())) (n:=k) ?_ ?_ (qal (by omega))
 ·intro i hi
  have a5:=a4 (i+1) (by omega) (by omega)
  have q1:(!decide ((l.length:Int)≤((i+1:Nat):Int)))=true:=nT (by omega)
  have b1:(decide ((0:Int)≤((i+1:Nat):Int))&&decide (((i+1:Nat):Int)<(l.length:Int)))=true:=dA (by omega) (by omega)
  have q2:decide (v≤(l.getD (i+1) ((0:Int),(0:Int),())).1)=false:=dF (by unfold px at a5;omega)
  simp only[s23_0,t23_0,qag,q1,b1,q2,Int.toNat_natCast,qaw (show i+1≤9223372036854775806 by omega),Tr.val_test,Tr.val_fin,if_true,Bool.false_eq_true,if_false]
 ·have q1:(!decide ((l.length:Int)≤((k+1:Nat):Int)))=true:=nT (by omega)
  have b1:(decide ((0:Int)≤((k+1:Nat):Int))&&decide (((k+1:Nat):Int)<(l.length:Int)))=true:=dA (by omega) (by omega)
  have q2:decide (v≤(l.getD (k+1) ((0:Int),(0:Int),())).1)=true:=dT (by unfold px at a3;omega)
  have w:wrap64 (((k+1:Nat):Int)-1)=(k:Int):=by rw[qac (by omega) (by omega)];omega
  have b2:(decide ((0:Int)≤(k:Int))&&decide ((k:Int)<(l.length:Int)))=true:=dA (by omega) (by omega)
  simp only[px,py]at e105
  simp only[s23_0,t23_0,qag,q1,b1,q2,w,b2,Int.toNat_natCast,Tr.val_test,Tr.val_fin,if_true,g105,e105,Option.isSome_some,Option.getD_some]
theorem qtb{l:List Pt}(L:Ln l)(a b c:Int){v:Int}(h0:0≤v)(h:v≤qae l):f23 ((l,a,b,c,()),v,())=some (encR (hP l v),()):=by
 have e:=l23 L h0 h
 simp only[f23,t23,e,qa8,r23_0,outR,Option.isSome_some,Tr.val_test,Tr.val_fin,if_true]
theorem qru{l:List Pt}(L:Ln l){v x:Int}(h0:0≤v)(h:v≤qae l)(hx:x.natAbs≤1000000):f108 (encR (hP l v),encR (x:Rat),())=some (((hP l v).num*((1:Nat):Int)-x*((hP l v).den:Int)).sign,()):=by
 have sx:rsz ((x:Int):Rat) 2000:=⟨Nat.le_trans (qaD (k:=1) (by simp only[pw,Rat.num_intCast];omega)) (by omega),Nat.le_trans (qaD (k:=1) (by simp only[pw,Rat.den_intCast];omega)) (by omega)⟩
 have e3:=qoM (hP l v) ((x:Int):Rat) (qs8 L h0 h) sx
 rw[Rat.num_intCast,Rat.den_intCast]at e3
 exact e3
end Go.Vm.Mo

namespace Go.Vm.Mo
open Go
set_option linter.unusedVariables false
set_option linter.unusedSimpArgs false
abbrev Stt:=Int×Bool×Unit
theorem qoe{p:Int→Bool}{X v:Int}(h0:0≤v)(h:v≤X)(up:∀u,0≤u→u≤v→p u=true→p v=true):(!decide (fst p X≤v))=!p v:=by
 obtain⟨_,s2,s3,s4⟩:=qoQ p (X+1).toNat 0
 have hd:fst p X=((lw p (X+1).toNat 0:Nat):Int):=rfl
 rw[hd]
 generalize lw p (X+1).toNat 0=g at *
 by_cases k:v.toNat<g
 ·have:=s3 v.toNat (Nat.zero_le _) k
  rw[show((v.toNat:Nat):Int)=v by omega]at this
  rw[nT (by omega),this];rfl
 ·have t:=s4 (by omega)
  have:=up (g:Int) (by omega) (by omega) t
  rw[nF (by omega),this];rfl
def wv(a:Int)(s:Stt)(d:Int):Int:=if s.2.1=true then s.1-d+a else s.1-d
def mnV(X w:Int):Int:=if w<X then w else X
theorem qot(X w:Int):(if X<w then X else w)=mnV X w:=by
 unfold mnV;split<;>split<;>omega
theorem qmM{X w:Int}(hX:0≤X)(h:0≤w):0≤mnV X w∧mnV X w≤X:=by
 unfold mnV;split<;>omega
def nst(l:List Pt)(a b c:Int)(s:Stt)(d:Int):Stt:=(mnV (qae l) (wv a s d),(if atl l c (mnV (qae l) (wv a s d))=true then false else if abv l b (mnV (qae l) (wv a s d))=true then s.2.1 else true),())
theorem qty{l:List Pt}(L:Ln l){v:Int}(h0:0≤v)(h:v≤qae l)(x:Int):decide (((hP l v).num*((1:Nat):Int)-x*((hP l v).den:Int)).sign≤0)=!abv l x v:=by
 have e:=qo9 L h0 h x
 unfold gt at e
 rw[←e]
 have:=qtT ((hP l v).num*((1:Nat):Int)) (x*((hP l v).den:Int))
 rw[this];simp
theorem qtx{l:List Pt}(L:Ln l){v:Int}(h0:0≤v)(h:v≤qae l)(x:Int):decide (0≤((hP l v).num*((1:Nat):Int)-x*((hP l v).den:Int)).sign)=atl l x v:=by
 have e:=qpO L h0 h x
 unfold lt at e
 have:=qtR ((hP l v).num*((1:Nat):Int)) (x*((hP l v).den:Int))
 rw[this]
 rw[show(hP l v).num*((1:Nat):Int)=(hP l v).num by simp,e,Bool.not_not]
theorem qpM{l:List Pt}{a b c:Int}(V:Pl l a b c){v d:Int}(r:Bool)(h0:0≤v)(h1:v≤qae l)(d0:0≤d)(d1:d≤50):
  f35 ((l,a,b,c,()),(v,r,()),d,())=some (if wv a (v,r,()) d<0 then((0,false,()),false,())else(nst l a b c (v,r,()) d,true,())):=by
 have L:=V.ln
 have hx:=qck L
 have ha:=V.a1;have hb:=V.b1;have hc:=V.c1
 have w1:wrap64 (v-d)=v-d:=qac (by omega) (by omega)
 have w2:wrap64 (v-d+a)=v-d+a:=qac (by omega) (by omega)
 have e21:=qrj L a b c
 have e106:=qlV b (by omega)
 have e106c:=qlV c (by omega)
 have e4:∀r s:Rat,f108 (((((encR r).1.1,(encR r).1.2.1,()),((encR r).2.1.1,(encR r).2.1.2.1,()),()),(((encR s).1.1,(encR s).1.2.1,()),((encR s).2.1.1,(encR s).2.1.2.1,()),()),()))=f108 (encR r,encR s,()):=fun _ _=>rfl
 have main:∀w:Int,0≤w→(f23 ((l,a,b,c,()),mnV (qae l) w,())=some (encR (hP l (mnV (qae l) w)),()))∧(f108 (encR (hP l (mnV (qae l) w)),encR (b:Rat),())=some (((hP l (mnV (qae l) w)).num*((1:Nat):Int)-b*((hP l (mnV (qae l) w)).den:Int)).sign,()))∧(f108 (encR (hP l (mnV (qae l) w)),encR (c:Rat),())=some (((hP l (mnV (qae l) w)).num*((1:Nat):Int)-c*((hP l (mnV (qae l) w)).den:Int)).sign,()))∧decide (((hP l (mnV (qae l) w)).num*((1:Nat):Int)-b*((hP l (mnV (qae l) w)).den:Int)).sign≤0)=(!abv l b (mnV (qae l) w))∧decide (0≤((hP l (mnV (qae l) w)).num*((1:Nat):Int)-c*((hP l (mnV (qae l) w)).den:Int)).sign)=atl l c (mnV (qae l) w):=by
  intro w hw
  obtain⟨m0,m1⟩:=qmM (X:=qae l) (by omega) hw
  exact⟨qtb L a b c m0 m1,qru L m0 m1 (by omega),qru L m0 m1 (by omega),qty L m0 m1 b,qtx L m0 m1 c⟩
 cases r with
 |true=>
  have hw:wv a (v,true,()) d=v-d+a:=rfl
  have hn:nst l a b c (v,true,()) d=(mnV (qae l) (v-d+a),(if atl l c (mnV (qae l) (v-d+a))=true then false else if abv l b (mnV (qae l) (v-d+a))=true then true else true),()):=rfl
  rw[hw,hn]
  by_cases k:v-d+a<0
  ·simp only[f35,t35,w1,w2,qag,nT (show ¬0≤v-d+a by omega),if_pos k,Tr.val_test,Tr.val_fin,if_true]
  ·obtain⟨m1,m2,m3,m4,m5⟩:=main (v-d+a) (by omega)
   rw[if_neg k]
   simp only[f35,t35,w1,w2,qag,nF (show 0≤v-d+a by omega),qot,g21,e21,g23,m1,g106,e106,e106c,g108,e4,m2,m3,m4,m5,Option.isSome_some,Option.getD_some,Tr.val_test,Tr.val_fin,if_true,Bool.false_eq_true,if_false]
   rcases Bool.eq_false_or_eq_true (abv l b (mnV (qae l) (v-d+a)))with q1|q1<;>rcases Bool.eq_false_or_eq_true (atl l c (mnV (qae l) (v-d+a)))with q2|q2<;>simp only[q1,q2]<;>rfl
 |false=>
  have hw:wv a (v,false,()) d=v-d:=rfl
  have hn:nst l a b c (v,false,()) d=(mnV (qae l) (v-d),(if atl l c (mnV (qae l) (v-d))=true then false else if abv l b (mnV (qae l) (v-d))=true then false else true),()):=rfl
  rw[hw,hn]
  by_cases k:v-d<0
  ·simp only[f35,t35,w1,qag,nT (show ¬0≤v-d by omega),if_pos k,Tr.val_test,Tr.val_fin,if_true,Bool.false_eq_true,if_false]
  ·obtain⟨m1,m2,m3,m4,m5⟩:=main (v-d) (by omega)
   rw[if_neg k]
   simp only[f35,t35,w1,qag,nF (show 0≤v-d by omega),qot,g21,e21,g23,m1,g106,e106,e106c,g108,e4,m2,m3,m4,m5,Option.isSome_some,Option.getD_some,Tr.val_test,Tr.val_fin,if_true,Bool.false_eq_true,if_false]
   rcases Bool.eq_false_or_eq_true (abv l b (mnV (qae l) (v-d)))with q1|q1<;>rcases Bool.eq_false_or_eq_true (atl l c (mnV (qae l) (v-d)))with q2|q2<;>simp only[q1,q2]<;>rfl
def pv(X w:Int):Int:=if -1<mnV X w then mnV X w else -1
theorem qtf{X w:Int}(hX:0≤X)(h:w<0):pv X w=-1:=by
 unfold pv mnV;rw[if_pos (show w<X by omega)];split<;>omega
theorem qtg{X w:Int}(hX:0≤X)(h:0≤w):pv X w=mnV X w:=by
 have:=qmM hX h
 unfold pv;rw[if_pos (by omega)]
def mv(l:List Pt)(a b c:Int)(s:Stt)(d:Int):Stt×Int×Unit:=if wi 0 50 d=true then(if wv a s d<0 then((0,false,()),22,())else(nst l a b c s d,0,()))else((0,false,()),2,())
theorem qss{l:List Pt}{a b c:Int}(V:Pl l a b c){v d:Int}(r:Bool)(h0:0≤v)(h1:v≤qae l)(d0:0≤d)(d1:d≤50)(x y:Int):
  f165 (((l,a,b,c,()),l,x,y,()),(v,r,()),d,())=some ((pv (qae l) (wv a (v,r,()) d),(if(!decide (x≤pv (qae l) (wv a (v,r,()) d)))=true then true else if r=true then !decide (y≤pv (qae l) (wv a (v,r,()) d))else false),()),()):=by
 have L:=V.ln
 have hx:=qck L
 have ha:=V.a1
 have w1:wrap64 (v-d)=v-d:=qac (by omega) (by omega)
 have w2:wrap64 (v-d+a)=v-d+a:=qac (by omega) (by omega)
 have e:=qo1 L (l,a,b,c,()) x y
 have hp:∀X w:Int,(if -1<if w<X then w else X then if w<X then w else X else -1)=pv X w:=fun _ _=>rfl
 cases r with
 |true=>
  have hw:wv a (v,true,()) d=v-d+a:=rfl
  rw[hw]
  simp only[f165,t165,g102,e,w1,w2,hp,qag,Option.isSome_some,Option.getD_some,Tr.val_test,Tr.val_fin,if_true]
  split<;>rfl
 |false=>
  have hw:wv a (v,false,()) d=v-d:=rfl
  rw[hw]
  simp only[f165,t165,g102,e,w1,hp,qag,Option.isSome_some,Option.getD_some,Tr.val_test,Tr.val_fin,if_true,Bool.false_eq_true,if_false]
  split<;>rfl
theorem qn7{l:List Pt}{a b c:Int}(V:Pl l a b c){v:Int}(r:Bool)(h0:0≤v)(h1:v≤qae l)(d:Int):
  f107 (plD l a b c,(v,r,()),d,())=some (mv l a b c (v,r,()) d):=by
 have L:=V.ln
 have hx:=qck L
 have ha:=V.a1;have hb:=V.b1;have hc:=V.c1
 have e:=qsi d
 unfold mv
 rcases Bool.eq_false_or_eq_true (wi 0 50 d)with k|k
 ·have hk:=wi_iff.1 k
  rw[if_pos k]at e ⊢
  have e1:=qss V r h0 h1 hk.1 hk.2 (fst (abv l b) (qae l)) (fst (atl l c) (qae l))
  have z0:(!decide ((0:Int)=0))=false:=rfl
  by_cases q:wv a (v,r,()) d<0
  ·rw[qtf (by omega) q]at e1
   have y:decide ((-1:Int)=-1)=true:=rfl
   rw[if_pos q]
   simp only[f107,t107,plD,g146,e,qam,decide_true,Bool.not_true,g165,e1,Option.isSome_some,Option.getD_some,Tr.val_test,Tr.val_fin,if_true,Bool.false_eq_true,if_false]
  ·have hm:=qmM (X:=qae l) (w:=wv a (v,r,()) d) (by omega) (by omega)
   rw[qtg (by omega) (by omega),qoe hm.1 hm.2 (fun u u0 u1=>qo2 L u0 u1 hm.2),qoe hm.1 hm.2 (fun u u0 u1=>qoJ L u0 u1 hm.2)]at e1
   rw[if_neg q]
   simp only[f107,t107,plD,g146,e,qam,decide_true,Bool.not_true,g165,e1,dF (show ¬mnV (qae l) (wv a (v,r,()) d)=-1 by omega),Option.isSome_some,Option.getD_some,Tr.val_test,Tr.val_fin,if_true,Bool.false_eq_true,if_false,nst]
   have hbc:atl l c (mnV (qae l) (wv a (v,r,()) d))=true→abv l b (mnV (qae l) (wv a (v,r,()) d))=true:=by
    intro t
    have t:c*wd l (mnV (qae l) (wv a (v,r,()) d))≤tp l (mnV (qae l) (wv a (v,r,()) d)):=of_decide_eq_true t
    have wp:=qdU L hm.2
    have:=Int.mul_lt_mul_of_pos_right V.bc (show 0<wd l (mnV (qae l) (wv a (v,r,()) d))by omega)
    exact decide_eq_true (by omega)
   rcases Bool.eq_false_or_eq_true (abv l b (mnV (qae l) (wv a (v,r,()) d)))with q1|q1<;>rcases Bool.eq_false_or_eq_true (atl l c (mnV (qae l) (wv a (v,r,()) d)))with q2|q2
   ·rw[q1,q2];cases r<;>rfl
   ·rw[q1,q2];cases r<;>rfl
   ·rw[hbc q2]at q1;cases q1
   ·rw[q1,q2];cases r<;>rfl
 ·rw[k]at e
  have e:f146 (d,())=some ((2:Int),()):=e
  rw[k,if_neg (by decide)]
  have z2:(!decide ((2:Int)=0))=true:=rfl
  simp only[f107,t107,g146,e,qam,z2,Option.isSome_some,Option.getD_some,Tr.val_test,Tr.val_fin,if_true]
theorem qsc{l:List Pt}{a b c:Int}(h:l.length≤1000)(z:¬(pC l a b c).2.1=0)(v d:Int)(r:Bool):f32 ((l,a,b,c,()),(v,r,()),d,())=some ((0,false,()),(pC l a b c).2.1,()):=by
 have e:=qoX h z (v,r,()) []
 simp only[f32,t32,g97,e,qam,nT z,Option.isSome_some,Option.getD_some,Tr.val_test,Tr.val_fin,if_true]
theorem qsa{l:List Pt}{a b c:Int}(h:l.length≤1000)(z:(pC l a b c).2.1=0){v:Int}(k:¬(0≤v∧v≤qae l))(d:Int)(r:Bool):f32 ((l,a,b,c,()),(v,r,()),d,())=some ((0,false,()),2,()):=by
 have e:=qmr h z v r [] (by simp)
 have z1:qaj [sE l v,qaj []]=2:=by rw[qpw k];rfl
 rw[z1,if_neg (by decide)]at e
 have z2:(!decide ((2:Int)=0))=true:=rfl
 simp only[f32,t32,g97,e,qam,z2,Option.isSome_some,Option.getD_some,Tr.val_test,Tr.val_fin,if_true]
theorem qrh{l:List Pt}{a b c:Int}(h:l.length≤1000)(z:(pC l a b c).2.1=0){v:Int}(h0:0≤v)(h1:v≤qae l)(d:Int)(r:Bool):f32 ((l,a,b,c,()),(v,r,()),d,())=some (mv l a b c (v,r,()) d):=by
 have V:=qj0 z
 have e:=qmr h z v r [] (by simp)
 have z1:qaj [sE l v,qaj []]=0:=by rw[qq2 h0 h1];rfl
 rw[if_pos z1]at e
 have e1:f107 (((l,a,b,c,()),l,fst (abv l b) (qae l),fst (atl l c) (qae l),()),(v,r,()),d,())=some (mv l a b c (v,r,()) d):=qn7 V r h0 h1 d
 simp only[f32,t32,g97,e,plD,qam,decide_true,Bool.not_true,g107,e1,Option.isSome_some,Option.getD_some,Tr.val_test,Tr.val_fin,if_true,Bool.false_eq_true,if_false]
end Go.Vm.Mo

namespace Go.Vm.Mo
open Go
set_option linter.unusedVariables false
set_option linter.unusedSimpArgs false
def sqn(l:List Pt)(a b c:Int)(s:Stt)(ds:List Int):Nat→Stt
 |0=>s
 |k+1=>(mv l a b c (sqn l a b c s ds k) (ds.getD k 0)).1
def ern(l:List Pt)(a b c:Int)(s:Stt)(ds:List Int)(k:Nat):Int:=(mv l a b c (sqn l a b c s ds k) (ds.getD k 0)).2.1
def acc(l:List Pt)(a b c:Int)(s:Stt)(ds:List Int)(k:Nat):List Stt:=(List.range (k+1)).map (sqn l a b c s ds)
theorem qtU{l:List Pt}(L:Ln l)(a b c:Int)(s:Stt)(d:Int):0≤(mv l a b c s d).1.1∧(mv l a b c s d).1.1≤qae l:=by
 have hx:=qck L
 unfold mv
 split
 ·split
  ·exact⟨Int.le_refl _,by show(0:Int)≤qae l;omega⟩
  ·exact qmM (by omega) (by omega)
 ·exact⟨Int.le_refl _,by show(0:Int)≤qae l;omega⟩
theorem qnR{l:List Pt}(L:Ln l)(a b c:Int){s:Stt}(ds:List Int)(h:0≤s.1∧s.1≤qae l):∀k,0≤(sqn l a b c s ds k).1∧(sqn l a b c s ds k).1≤qae l
 |0=>h
 |k+1=>qtU L a b c _ _
theorem qiL(l:List Pt)(a b c:Int)(s:Stt)(ds:List Int)(k:Nat):(acc l a b c s ds k).length=k+1:=by
 unfold acc;rw[List.length_map,List.length_range]
theorem qoW(l:List Pt)(a b c:Int)(s:Stt)(ds:List Int){i k:Nat}(h:i≤k)(d:Stt):(acc l a b c s ds k).getD i d=sqn l a b c s ds i:=by
 unfold acc
 rw[getD_map _ _ 0 _ _ (by rw[List.length_range];omega),qhv _ _ _ (by rw[List.length_range];omega),List.getElem_range]
theorem qmV(l:List Pt)(a b c:Int)(s:Stt)(ds:List Int)(k:Nat):acc l a b c s ds (k+1)=acc l a b c s ds k++[sqn l a b c s ds (k+1)]:=by
 unfold acc
 rw[List.range_succ,List.map_append];rfl
theorem qrz(l:List Pt)(a b c:Int)(s:Stt)(d:Int):(wi 0 50 d=false∧mv l a b c s d=((0,false,()),2,()))∨(wi 0 50 d=true∧wv a s d<0∧mv l a b c s d=((0,false,()),22,()))∨(wi 0 50 d=true∧¬wv a s d<0∧mv l a b c s d=(nst l a b c s d,0,())):=by
 unfold mv
 rcases Bool.eq_false_or_eq_true (wi 0 50 d)with k|k
 ·right
  by_cases q:wv a s d<0
  ·left;rw[if_pos k,if_pos q];exact⟨k,q,rfl⟩
  ·right;rw[if_pos k,if_neg q];exact⟨k,q,rfl⟩
 ·left;rw[k];exact⟨rfl,rfl⟩
theorem l28{l:List Pt}{a b c:Int}(V:Pl l a b c){v:Int}(r:Bool)(h0:0≤v)(h1:v≤qae l)(ds:List Int)(hs:ds.length≤1000):
  l28_0 (([(v,r,())],ds,(ds.length:Int),(0:Int),()),(v,r,()),(l,a,b,c,l,fst (abv l b) (qae l),fst (atl l c) (qae l),()),()) =
  match first (fun k=>!decide (ern l a b c (v,r,()) ds k=0)) ds.length 0 with
  |some k=>some (.inr ((ern l a b c (v,r,()) ds k,()),((sqn l a b c (v,r,()) ds (k+1)).1,(sqn l a b c (v,r,()) ds (k+1)).2.1,()),(l,a,b,c,l,fst (abv l b) (qae l),fst (atl l c) (qae l),()),()))
  |none=>some (.inl ((acc l a b c (v,r,()) ds ds.length,()),((sqn l a b c (v,r,()) ds ds.length).1,(sqn l a b c (v,r,()) ds ds.length).2.1,()),(l,a,b,c,l,fst (abv l b) (qae l),fst (atl l c) (qae l),()),())):=by
 refine qbX (fun i=>((acc l a b c (v,r,()) ds i,ds,(ds.length:Int),(i:Int),()),((sqn l a b c (v,r,()) ds i).1,(sqn l a b c (v,r,()) ds i).2.1,()),(l,a,b,c,l,fst (abv l b) (qae l),fst (atl l c) (qae l),()),())) (fun k=>!decide (ern l a b c (v,r,()) ds k=0)) (fun k=>((ern l a b c (v,r,()) ds k,()),((sqn l a b c (v,r,()) ds (k+1)).1,(sqn l a b c (v,r,()) ds (k+1)).2.1,()),(l,a,b,c,l,fst (abv l b) (qae l),fst (atl l c) (qae l),()),())) (n:=ds.length) ?_ ?_ (qal (by omega))
 ·intro i hi
  obtain⟨s0,s1⟩:=qnR V.ln a b c (s:=(v,r,())) ds ⟨h0,h1⟩ i
  have e:f107 (((l,a,b,c,()),l,fst (abv l b) (qae l),fst (atl l c) (qae l),()),((sqn l a b c (v,r,()) ds i).1,(sqn l a b c (v,r,()) ds i).2.1,()),ds.getD i 0,())=some (mv l a b c (sqn l a b c (v,r,()) ds i) (ds.getD i 0)):=qn7 V (sqn l a b c (v,r,()) ds i).2.1 s0 s1 (ds.getD i 0)
  have q1:(!decide ((ds.length:Int)≤(i:Int)))=true:=nT (by omega)
  have b1:(decide ((0:Int)≤(i:Int))&&decide ((i:Int)<(ds.length:Int)))=true:=dA (by omega) (by omega)
  have hl:=qiL l a b c (v,r,()) ds i
  have b2:(Nat.ble ((2*(i+1+1)+192)*16) 281474976710656&&Nat.ble (i+1+1) 281474976710656)=true:=by simp only[Bool.and_eq_true,qaK];omega
  have hn:=qmV l a b c (v,r,()) ds i
  have hq:sqn l a b c (v,r,()) ds (i+1)=(mv l a b c (sqn l a b c (v,r,()) ds i) (ds.getD i 0)).1:=rfl
  simp only[s28_0,t28_0,q1,b1,hl,b2,qag,qam,Int.toNat_natCast,qaw (show i≤9223372036854775806 by omega),g107,e,Option.isSome_some,Option.getD_some,Tr.val_test,Tr.val_fin,if_true]
  rw[hn,hq]
  show _=if(!decide ((mv l a b c (sqn l a b c (v,r,()) ds i) (ds.getD i 0)).2.1=0))=true then _ else _
  split<;>rfl
 ·have q1:(!decide ((ds.length:Int)≤(ds.length:Int)))=false:=nF (by omega)
  simp only[s28_0,t28_0,qag,q1,Tr.val_test,Tr.val_fin,Bool.false_eq_true,if_false]
def rnO(l:List Pt)(a b c:Int)(s:Stt)(ds:List Int):List Stt×Int×Unit:=if 20<ds.length then([],8,())else match first (fun k=>!decide (ern l a b c s ds k=0)) ds.length 0 with
 |some k=>([],ern l a b c s ds k,())
 |none=>(acc l a b c s ds ds.length,0,())
theorem qsh{l:List Pt}{a b c:Int}(h:l.length≤1000)(z:¬(pC l a b c).2.1=0)(v:Int)(r:Bool)(ds:List Int):f28 ((l,a,b,c,()),(v,r,()),ds,())=some ([],(pC l a b c).2.1,()):=by
 have e:=fun es=>qoX h z (v,r,()) es
 simp only[f28,t28,g95,qd3,g97,e,qam,nT z,Option.isSome_some,Option.getD_some,Tr.val_test,Tr.val_fin,if_true]
theorem qrK{l:List Pt}{a b c:Int}(h:l.length≤1000)(z:(pC l a b c).2.1=0){v:Int}(k:¬(0≤v∧v≤qae l))(r:Bool)(ds:List Int):f28 ((l,a,b,c,()),(v,r,()),ds,())=some ([],2,()):=by
 have e:∀x:Int,f97 ((l,a,b,c,()),(v,r,()),[x],())=some (plZ,2,()):=by
  intro x
  have e:=qmr h z v r [x] (by simp)
  have z1:qaj [sE l v,qaj [x]]=2:=by rw[qpw k];rfl
  rw[z1,if_neg (by decide)]at e
  exact e
 have z2:(!decide ((2:Int)=0))=true:=rfl
 simp only[f28,t28,g95,qd3,g97,e,qam,z2,Option.isSome_some,Option.getD_some,Tr.val_test,Tr.val_fin,if_true]
theorem qtA{l:List Pt}{a b c:Int}(h:l.length≤1000)(z:(pC l a b c).2.1=0){v:Int}(h0:0≤v)(h1:v≤qae l)(r:Bool)(ds:List Int)(hs:ds.length≤1000):f28 ((l,a,b,c,()),(v,r,()),ds,())=some (rnO l a b c (v,r,()) ds):=by
 have V:=qj0 z
 have e:=fun x:Int=>qmr h z v r [x] (by simp)
 by_cases k:20<ds.length
 ·have q:(!decide ((ds.length:Int)≤20))=true:=nT (by omega)
  have e1:=e 8
  have z1:qaj [sE l v,qaj [8]]=8:=by rw[qq2 h0 h1];rfl
  rw[z1,if_neg (by decide)]at e1
  have z2:(!decide ((8:Int)=0))=true:=rfl
  simp only[f28,t28,g95,qd3,qag,q,g97,e1,qam,z2,Option.isSome_some,Option.getD_some,Tr.val_test,Tr.val_fin,if_true,rnO,if_pos k]
 ·have q:(!decide ((ds.length:Int)≤20))=false:=nF (by omega)
  have e1:=e 0
  have z1:qaj [sE l v,qaj [0]]=0:=by rw[qq2 h0 h1];rfl
  rw[if_pos z1]at e1
  have e2:=l28 V r h0 h1 ds hs
  simp only[f28,t28,g95,qd3,qag,q,g97,e1,plD,qam,decide_true,Bool.not_true,Option.isSome_some,Option.getD_some,Tr.val_test,Tr.val_fin,if_true,Bool.false_eq_true,if_false,rnO,if_neg k]
  cases hf:first (fun k=>!decide (ern l a b c (v,r,()) ds k=0)) ds.length 0 with
  |none=>
   rw[hf]at e2
   simp only[e2,qa8,b28_0,outB,Option.isSome_some,if_true,Bool.false_eq_true,if_false]
  |some k=>
   rw[hf]at e2
   simp only[e2,qa8,r28_0,outR,Option.isSome_some,if_true]
theorem l33{l:List Pt}{a b c:Int}(V:Pl l a b c){v:Int}(r:Bool)(h0:0≤v)(h1:v≤qae l)(ds:List Int)(hs:ds.length≤1000):
  l33_0 ((ds,[(v,r,())],(0:Int),()),(l,a,b,c,()),()) =
  match first (fun k=>!decide (ern l a b c (v,r,()) ds k=0)) ds.length 0 with
  |some k=>some (.inr ((ern l a b c (v,r,()) ds k,()),(l,a,b,c,()),()))
  |none=>some (.inl ((acc l a b c (v,r,()) ds ds.length,()),(l,a,b,c,()),())):=by
 refine qbX (fun i=>((ds,acc l a b c (v,r,()) ds i,(i:Int),()),(l,a,b,c,()),())) (fun k=>!decide (ern l a b c (v,r,()) ds k=0)) (fun k=>((ern l a b c (v,r,()) ds k,()),(l,a,b,c,()),())) (n:=ds.length) ?_ ?_ (qal (by omega))
 ·intro i hi
  obtain⟨s0,s1⟩:=qnR V.ln a b c (s:=(v,r,())) ds ⟨h0,h1⟩ i
  have q1:(!decide ((ds.length:Int)≤(i:Int)))=true:=nT (by omega)
  have b1:(decide ((0:Int)≤(i:Int))&&decide ((i:Int)<(ds.length:Int)))=true:=dA (by omega) (by omega)
  have hl:=qiL l a b c (v,r,()) ds i
  have ha:=qoW l a b c (v,r,()) ds (Nat.le_refl i) ((0:Int),false,())
  have b3:(decide ((0:Int)≤(i:Int))&&decide ((i:Int)<((i+1:Nat):Int)))=true:=dA (by omega) (by omega)
  have b2:(Nat.ble ((2*(i+1+1)+192)*16) 281474976710656&&Nat.ble (i+1+1) 281474976710656)=true:=by simp only[Bool.and_eq_true,qaK];omega
  have hn:=qmV l a b c (v,r,()) ds i
  have hq:sqn l a b c (v,r,()) ds (i+1)=(mv l a b c (sqn l a b c (v,r,()) ds i) (ds.getD i 0)).1:=rfl
  have e36:=qo0 ((ds.getD i 0,()):Tys.data as36)
  have hE:ern l a b c (v,r,()) ds i=(mv l a b c (sqn l a b c (v,r,()) ds i) (ds.getD i 0)).2.1:=rfl
  rcases qrz l a b c (sqn l a b c (v,r,()) ds i) (ds.getD i 0)with⟨k,m⟩|⟨k,q,m⟩|⟨k,q,m⟩
  ·have e:f36 (ds.getD i 0,())=some ((2:Int),()):=by rw[e36];show some ((if wi 0 50 (ds.getD i 0)=true then(0:Int)else 2),())=_;rw[k];rfl
   have z2:(!decide ((2:Int)=0))=true:=rfl
   rw[hE,m]
   simp only[s33_0,t33_0,q1,b1,qag,qam,Int.toNat_natCast,g36,e,z2,Option.isSome_some,Option.getD_some,Tr.val_test,Tr.val_fin,if_true]
  ·have hk:=wi_iff.1 k
   have e:f36 (ds.getD i 0,())=some ((0:Int),()):=by rw[e36];show some ((if wi 0 50 (ds.getD i 0)=true then(0:Int)else 2),())=_;rw[k];rfl
   have e35:f35 ((l,a,b,c,()),((sqn l a b c (v,r,()) ds i).1,(sqn l a b c (v,r,()) ds i).2.1,()),ds.getD i 0,())=some (if wv a (sqn l a b c (v,r,()) ds i) (ds.getD i 0)<0 then((0,false,()),false,())else(nst l a b c (sqn l a b c (v,r,()) ds i) (ds.getD i 0),true,())):=qpM V (sqn l a b c (v,r,()) ds i).2.1 s0 s1 hk.1 hk.2
   rw[if_pos q]at e35
   have z22:(!decide ((22:Int)=0))=true:=rfl
   rw[hE,m]
   simp only[s33_0,t33_0,q1,b1,hl,ha,b3,qag,qam,Int.toNat_natCast,g36,e,decide_true,Bool.not_true,g35,e35,z22,Bool.not_false,Option.isSome_some,Option.getD_some,Tr.val_test,Tr.val_fin,if_true,Bool.false_eq_true,if_false]
  ·have hk:=wi_iff.1 k
   have e:f36 (ds.getD i 0,())=some ((0:Int),()):=by rw[e36];show some ((if wi 0 50 (ds.getD i 0)=true then(0:Int)else 2),())=_;rw[k];rfl
   have e35:f35 ((l,a,b,c,()),((sqn l a b c (v,r,()) ds i).1,(sqn l a b c (v,r,()) ds i).2.1,()),ds.getD i 0,())=some (if wv a (sqn l a b c (v,r,()) ds i) (ds.getD i 0)<0 then((0,false,()),false,())else(nst l a b c (sqn l a b c (v,r,()) ds i) (ds.getD i 0),true,())):=qpM V (sqn l a b c (v,r,()) ds i).2.1 s0 s1 hk.1 hk.2
   rw[if_neg q]at e35
   rw[hn,hq,hE,m]
   simp only[s33_0,t33_0,q1,b1,hl,ha,b3,b2,qag,qam,Int.toNat_natCast,qaw (show i≤9223372036854775806 by omega),g36,e,decide_true,Bool.not_true,g35,e35,Option.isSome_some,Option.getD_some,Tr.val_test,Tr.val_fin,if_true,Bool.false_eq_true,if_false]
 ·have q1:(!decide ((ds.length:Int)≤(ds.length:Int)))=false:=nF (by omega)
  simp only[s33_0,t33_0,qag,q1,Tr.val_test,Tr.val_fin,Bool.false_eq_true,if_false]
theorem qtz{l:List Pt}{a b c:Int}(V:Pl l a b c){v:Int}(h0:0≤v)(h1:v≤qae l)(r:Bool)(ds:List Int)(hs:ds.length≤1000):f33 ((l,a,b,c,()),(v,r,()),ds,())=some (rnO l a b c (v,r,()) ds):=by
 by_cases k:20<ds.length
 ·have q:(!decide ((ds.length:Int)≤20))=true:=nT (by omega)
  simp only[f33,t33,qag,q,Tr.val_test,Tr.val_fin,if_true,rnO,if_pos k]
 ·have q:(!decide ((ds.length:Int)≤20))=false:=nF (by omega)
  have e2:=l33 V r h0 h1 ds hs
  simp only[f33,t33,qag,q,Tr.val_test,Tr.val_fin,if_true,Bool.false_eq_true,if_false,rnO,if_neg k]
  cases hf:first (fun k=>!decide (ern l a b c (v,r,()) ds k=0)) ds.length 0 with
  |none=>
   rw[hf]at e2
   simp only[e2,qa8,b33_0,outB,Option.isSome_some,if_true,Bool.false_eq_true,if_false]
  |some k=>
   rw[hf]at e2
   simp only[e2,qa8,r33_0,outR,Option.isSome_some,if_true]
theorem qqg(l:List Stt)(h:l.length≤1000000):l34_0 ((l,l,(0:Int),()),())=some (.inl ((),())):=by
 refine qcD (fun i=>((l,l,(i:Int),()),())) (n:=l.length) ?_ ?_ (qal (by omega))
 ·intro i hi
  have q1:(!decide ((l.length:Int)≤(i:Int)))=true:=nT (by omega)
  have b1:(decide ((0:Int)≤(i:Int))&&decide ((i:Int)<(l.length:Int)))=true:=dA (by omega) (by omega)
  have bx:∀c:Int,(c==c)=true:=fun c=>beq_self_eq_true c
  have by':∀c:Bool,(c==c)=true:=fun c=>beq_self_eq_true c
  simp only[s34_0,t34_0,q1,b1,qag,bx,by',Bool.and_self,Bool.not_true,Int.toNat_natCast,qaw (show i≤9223372036854775806 by omega),Tr.val_test,Tr.val_fin,if_true,Bool.false_eq_true,if_false]
 ·have q1:(!decide ((l.length:Int)≤(l.length:Int)))=false:=nF (by omega)
  simp only[s34_0,t34_0,qag,q1,Tr.val_test,Tr.val_fin,Bool.false_eq_true,if_false]
theorem qqY(l:List Stt)(h:l.length≤1000000):f34 (l,l,())=some (true,()):=by
 have e:=qqg l h
 simp only[f34,t34,qam,decide_true,Bool.not_true,e,qa8,Option.isSome_some,Tr.val_test,Tr.val_fin,if_true,Bool.false_eq_true,if_false]
theorem qk0(l:List Pt)(a b c:Int)(s:Stt)(ds:List Int):(∃e:Int,rnO l a b c s ds=([],e,()))∨(rnO l a b c s ds=(acc l a b c s ds ds.length,0,())∧∀k,k<ds.length→ern l a b c s ds k=0):=by
 unfold rnO
 split
 ·exact Or.inl ⟨_,rfl⟩
 ·cases hf:first (fun k=>!decide (ern l a b c s ds k=0)) ds.length 0 with
  |none=>
   refine Or.inr ⟨rfl,fun k hk=>?_⟩
   have:=qcw hf k (Nat.zero_le _) (by omega)
   have:decide (ern l a b c s ds k=0)=true:=by simpa using this
   exact of_decide_eq_true this
  |some k=>exact Or.inl ⟨_,rfl⟩
theorem l41{l:List Pt}{a b c:Int}(h:l.length≤1000)(z:(pC l a b c).2.1=0){v:Int}(h0:0≤v)(h1:v≤qae l)(r:Bool)(ds:List Int)(hs:ds.length≤1000):
  l4_1 ((ds,(rnO l a b c (v,r,()) ds).1,(0:Int),()),(l,a,b,c,()),())=some (.inl ((),(l,a,b,c,()),())):=by
 have V:=qj0 z
 have e16:=qrt l a b c h
 rcases qk0 l a b c (v,r,()) ds with⟨e,q⟩|⟨q,hz⟩
 ·rw[q]
  have w:wrap64 (((0:Nat):Int)+1)=1:=rfl
  have q1:(!decide ((([]:List Stt).length:Int)≤(1:Int)))=false:=rfl
  refine qcD (fun i=>((ds,([]:List Stt),(i:Int),()),(l,a,b,c,()),())) (n:=0) (fun i hi=>absurd hi (Nat.not_lt_zero i)) ?_ (qal (by omega))
  simp only[s4_1,t4_1,qag,w,q1,Tr.val_test,Tr.val_fin,Bool.false_eq_true,if_false]
 ·rw[q]
  have hl:=qiL l a b c (v,r,()) ds ds.length
  refine qcD (fun i=>((ds,acc l a b c (v,r,()) ds ds.length,(i:Int),()),(l,a,b,c,()),())) (n:=ds.length) ?_ ?_ (qal (by omega))
  ·intro i hi
   obtain⟨s0,s1⟩:=qnR V.ln a b c (s:=(v,r,())) ds ⟨h0,h1⟩ i
   have w:=qaw (show i≤9223372036854775806 by omega)
   have q1:(!decide (((ds.length+1:Nat):Int)≤((i+1:Nat):Int)))=true:=nT (by omega)
   have b1:(decide ((0:Int)≤(i:Int))&&decide ((i:Int)<((ds.length+1:Nat):Int)))=true:=dA (by omega) (by omega)
   have b2:(decide ((0:Int)≤(i:Int))&&decide ((i:Int)<(ds.length:Int)))=true:=dA (by omega) (by omega)
   have b3:(decide ((0:Int)≤((i+1:Nat):Int))&&decide (((i+1:Nat):Int)<((ds.length+1:Nat):Int)))=true:=dA (by omega) (by omega)
   have a1:=qoW l a b c (v,r,()) ds (show i≤ds.length by omega) ((0:Int),false,())
   have a2:=qoW l a b c (v,r,()) ds (show i+1≤ds.length by omega) ((0:Int),false,())
   have e32:f32 ((l,a,b,c,()),((sqn l a b c (v,r,()) ds i).1,(sqn l a b c (v,r,()) ds i).2.1,()),ds.getD i 0,())=some (mv l a b c (sqn l a b c (v,r,()) ds i) (ds.getD i 0)):=qrh h z s0 s1 (ds.getD i 0) (sqn l a b c (v,r,()) ds i).2.1
   have hE:(mv l a b c (sqn l a b c (v,r,()) ds i) (ds.getD i 0)).2.1=0:=hz i hi
   have hq:sqn l a b c (v,r,()) ds (i+1)=(mv l a b c (sqn l a b c (v,r,()) ds i) (ds.getD i 0)).1:=rfl
   have bx:∀c:Int,(c==c)=true:=fun c=>beq_self_eq_true c
   have by':∀c:Bool,(c==c)=true:=fun c=>beq_self_eq_true c
   simp only[s4_1,t4_1,qag,qam,w,hl,q1,b1,b2,b3,a1,a2,hq,g16,e16,Int.toNat_natCast,g32,e32,hE,decide_true,Bool.not_true,bx,by',Bool.and_self,Option.isSome_some,Option.getD_some,Tr.val_test,Tr.val_fin,if_true,Bool.false_eq_true,if_false]
  ·have w:=qaw (show ds.length≤9223372036854775806 by omega)
   have q1:(!decide (((ds.length+1:Nat):Int)≤((ds.length+1:Nat):Int)))=false:=nF (by omega)
   simp only[s4_1,t4_1,qag,w,hl,q1,Tr.val_test,Tr.val_fin,Bool.false_eq_true,if_false]
end Go.Vm.Mo

namespace Go.Vm.Mo
open Go
set_option linter.unusedVariables false
set_option linter.unusedSimpArgs false
theorem qsM(l:List Pt)(a b c:Int)(h:l.length≤1000000):f30 ((l,a,b,c,()),())=some ((pC l a b c).2.1,()):=by
 simp only[f30,t30,g19,qts l a b c h,Option.isSome_some,Option.getD_some,Tr.val_test,Tr.val_fin,if_true]
theorem qs4{l:List Pt}(L:Ln l)(a b c v:Int)(r:Bool):f31 ((l,a,b,c,()),(v,r,()),())=some (sE l v,()):=by
 have e:=qrj L a b c
 have e1:f20 (v,0,qae l,())=some (wi 0 (qae l) v,()):=qmw _
 simp only[f31,t31,g21,e,g20,e1,Option.isSome_some,Option.getD_some,Tr.val_test,Tr.val_fin,if_true,sE]
 rcases Bool.eq_false_or_eq_true (wi 0 (qae l) v)with hA|hA<;>simp only[hA]<;>rfl
def cl(d:Int):Int:=if 50<if d<0 then 0 else d then 50 else if d<0 then 0 else d
theorem qsQ(d:Int):0≤cl d∧cl d≤50:=by
 unfold cl
 by_cases k:d<0
 ·rw[if_pos k];exact⟨by decide,by decide⟩
 ·rw[if_neg k];split<;>omega
theorem qqh{d:Int}(h:wi 0 50 d=true):cl d=d:=by
 have:=wi_iff.1 h
 unfold cl
 rw[if_neg (show ¬d<0 by omega),if_neg (by omega)]
theorem head4{l:List Pt}{a b c:Int}(h:l.length≤1000)(z:(pC l a b c).2.1=0){v:Int}(h0:0≤v)(h1:v≤qae l)(r:Bool)(d:Int):
  (∃o,f36 (d,())=some ((2:Int),())∧f32 ((l,a,b,c,()),(v,r,()),d,())=some ((0,false,()),2,())∧f35 ((l,a,b,c,()),(v,r,()),cl d,())=some o) ∨
  (f36 (d,())=some ((0:Int),())∧f32 ((l,a,b,c,()),(v,r,()),d,())=some ((0,false,()),22,())∧f35 ((l,a,b,c,()),(v,r,()),cl d,())=some ((0,false,()),false,())) ∨
  (∃(n:Int)(q:Bool),f36 (d,())=some ((0:Int),())∧f32 ((l,a,b,c,()),(v,r,()),d,())=some ((n,q,()),0,())∧f35 ((l,a,b,c,()),(v,r,()),cl d,())=some ((n,q,()),true,())):=by
 have V:=qj0 z
 have e36:=qo0 ((d,()):Tys.data as36)
 have e32:=qrh h z h0 h1 d r
 have e35:=qpM V r h0 h1 (qsQ d).1 (qsQ d).2
 rcases qrz l a b c (v,r,()) d with⟨k,m⟩|⟨k,q,m⟩|⟨k,q,m⟩
 ·left
  rw[m]at e32
  refine⟨_,?_,e32,e35⟩
  rw[e36];show some ((if wi 0 50 d=true then(0:Int)else 2),())=_;rw[k];rfl
 ·right;left
  rw[m]at e32
  rw[qqh k,if_pos q]at e35
  refine⟨?_,e32,by rw[qqh k];exact e35⟩
  rw[e36];show some ((if wi 0 50 d=true then(0:Int)else 2),())=_;rw[k];rfl
 ·right;right
  rw[m]at e32
  rw[qqh k,if_neg q]at e35
  refine⟨(nst l a b c (v,r,()) d).1,(nst l a b c (v,r,()) d).2.1,?_,e32,by rw[qqh k];exact e35⟩
  rw[e36];show some ((if wi 0 50 d=true then(0:Int)else 2),())=_;rw[k];rfl
theorem qtC(l:List Pt)(a b c v:Int)(r:Bool)(ds:List Int):f4 ((l,a,b,c,()),(v,r,()),ds,())=some (true,()):=by
 by_cases hb:l.length≤10
 ·have h:l.length≤1000:=by omega
  have q0:decide ((l.length:Int)≤10)=true:=dT (by omega)
  by_cases hd:ds.length≤22
  ·have q1:(!decide ((ds.length:Int)≤22))=false:=nF (by omega)
   have hs:ds.length≤1000:=by omega
   have e16:=qrt l a b c h
   have e29:=qtv ds hs
   have e30:=qsM l a b c (by omega)
   by_cases z:(pC l a b c).2.1=0
   ·have V:=qj0 z
    have L:=V.ln
    rw[z]at e30
    have e31:=qs4 L a b c v r
    by_cases k:0≤v∧v≤qae l
    ·rw[qq2 k.1 k.2]at e31
     have e28:=qtA h z k.1 k.2 r ds hs
     have e33:=qtz V k.1 k.2 r ds hs
     have e41:=l41 h z k.1 k.2 r ds hs
     have hl:(rnO l a b c (v,r,()) ds).1.length≤1000000:=by
      rcases qk0 l a b c (v,r,()) ds with⟨e,q⟩|⟨q,_⟩
      ·rw[q];exact Nat.zero_le _
      ·rw[q];show(acc l a b c (v,r,()) ds ds.length).length≤1000000;rw[qiL];omega
     have e34:=qqY _ hl
     generalize rnO l a b c (v,r,()) ds=R at *
     have bx:∀c:Int,(c==c)=true:=fun c=>beq_self_eq_true c
     have by':∀c:Bool,(c==c)=true:=fun c=>beq_self_eq_true c
     have hcl:∀d:Int,(if 50<if d<0 then 0 else d then 50 else if d<0 then 0 else d)=cl d:=fun _=>rfl
     have z2:(!decide ((2:Int)=0))=true:=rfl
     by_cases hn:ds.length=0
     ·have q2:(!decide ((ds.length:Int)≤0))=false:=nF (by omega)
      simp only[f4,t4,g14,f14,t14,qag,q0,q1,g16,e16,g29,e29,g28,e28,g30,e30,qam,decide_true,Bool.not_true,g31,e31,g33,e33,g34,e34,q2,e41,qa8,Option.isSome_some,Option.getD_some,Tr.val_test,Tr.val_fin,if_true,Bool.false_eq_true,if_false]
     ·have q2:(!decide ((ds.length:Int)≤0))=true:=nT (by omega)
      have q3:(true&&decide ((0:Int)<(ds.length:Int)))=true:=by rw[dT (show(0:Int)<(ds.length:Int)by omega)];rfl
      rcases head4 h z k.1 k.2 r (ds.getD 0 0)with⟨o,u1,u2,u3⟩|⟨u1,u2,u3⟩|⟨n,q,u1,u2,u3⟩
      ·simp only[f4,t4,g14,f14,t14,qag,q0,q1,g16,e16,g29,e29,g28,e28,g30,e30,qam,decide_true,Bool.not_true,g31,e31,g33,e33,g34,e34,q2,q3,hcl,g36,u1,g32,u2,g35,u3,z2,bx,by',Bool.and_self,e41,qa8,Option.isSome_some,Option.getD_some,Tr.val_test,Tr.val_fin,if_true,Bool.false_eq_true,if_false]
      ·simp only[f4,t4,g14,f14,t14,qag,q0,q1,g16,e16,g29,e29,g28,e28,g30,e30,qam,decide_true,Bool.not_true,Bool.not_false,g31,e31,g33,e33,g34,e34,q2,q3,hcl,g36,u1,g32,u2,g35,u3,bx,by',Bool.and_self,e41,qa8,Option.isSome_some,Option.getD_some,Tr.val_test,Tr.val_fin,if_true,Bool.false_eq_true,if_false]
      ·simp only[f4,t4,g14,f14,t14,qag,q0,q1,g16,e16,g29,e29,g28,e28,g30,e30,qam,decide_true,Bool.not_true,g31,e31,g33,e33,g34,e34,q2,q3,hcl,g36,u1,g32,u2,g35,u3,bx,by',Bool.and_self,e41,qa8,Option.isSome_some,Option.getD_some,Tr.val_test,Tr.val_fin,if_true,Bool.false_eq_true,if_false]
    ·rw[qpw k]at e31
     have e28:=qrK h z k r ds
     have e32:=qsa h z k 0 r
     have z2:(!decide ((2:Int)=0))=true:=rfl
     have zl:decide ((([]:List Stt).length:Int)=0)=true:=rfl
     simp only[f4,t4,g14,f14,t14,qag,q0,q1,g16,e16,g29,e29,g28,e28,g30,e30,qam,decide_true,Bool.not_true,g31,e31,z2,zl,g32,e32,Option.isSome_some,Option.getD_some,Tr.val_test,Tr.val_fin,if_true,Bool.false_eq_true,if_false]
   ·have e28:=qsh h z v r ds
    have e32:=qsc h z v 0 r
    have y1:decide ((pC l a b c).2.1=0)=false:=dF z
    have y2:(!decide ((pC l a b c).2.1=0))=true:=nT z
    have zl:decide ((([]:List Stt).length:Int)=0)=true:=rfl
    simp only[f4,t4,g14,f14,t14,qag,q0,q1,g16,e16,g29,e29,g28,e28,g30,e30,qam,y1,y2,decide_true,Bool.not_true,zl,g32,e32,Option.isSome_some,Option.getD_some,Tr.val_test,Tr.val_fin,if_true,Bool.false_eq_true,if_false]
  ·have q1:(!decide ((ds.length:Int)≤22))=true:=nT (by omega)
   simp only[f4,t4,g14,f14,t14,qag,q0,q1,Bool.not_true,Option.isSome_some,Option.getD_some,Tr.val_test,Tr.val_fin,if_true,Bool.false_eq_true,if_false]
 ·have q0:decide ((l.length:Int)≤10)=false:=dF (by omega)
  simp only[f4,t4,g14,f14,t14,qag,q0,Option.isSome_some,Option.getD_some,Tr.val_test,Tr.val_fin,if_true,Bool.not_false]
theorem law4(d:Tys.data as4)(hw:Tys.Wf as4 d):qna Go.Proofs.Tryz.prog 4 as4 [.bool] d (true,()):=by
 have h:f4 d=some (true,()):=qtC d.1.1 d.1.2.1 d.1.2.2.1 d.1.2.2.2.1 d.2.1.1 d.2.1.2.1 d.2.2.1
 have hp:p4.pre d=true:=by
  show Option.isSome (f4 d)=true
  rw[h];rfl
 have hg:p4.fn d=(true,()):=by
  show(f4 d).getD _=_
  rw[h];rfl
 have:=ok4.runs d hp
 rw[hg]at this
 exact this
end Go.Vm.Mo
