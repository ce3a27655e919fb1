import Derived.Test.YtlmcodagfhdncaaGreatRsFd
import Derived.Test.YtlmcodagfhdncaaGreatRsS
import Derived.Test.YtlmcodagfhdncaaGreatA5
set_option linter.unusedVariables false
set_option linter.unusedSimpArgs false

namespace Go.Vm.Mo
open Go
set_option linter.unusedVariables false
set_option linter.unusedSimpArgs false
theorem dT{p:Prop}[Decidable p](h:p):decide p=true:=decide_eq_true h
theorem dF{p:Prop}[Decidable p](h:¬p):decide p=false:=decide_eq_false h
theorem nT{p:Prop}[Decidable p](h:¬p):(!decide p)=true:=by rw[decide_eq_false h];rfl
theorem nF{p:Prop}[Decidable p](h:p):(!decide p)=false:=by rw[decide_eq_true h];rfl
theorem dA{p q:Prop}[Decidable p][Decidable q](h:p)(k:q):(decide p&&decide q)=true:=by rw[decide_eq_true h,decide_eq_true k];rfl
theorem qj6(bad:Nat→Bool):∀(n i:Nat),first bad n (i+1)=(first (fun k=>bad (k+1)) n i).map (·+1)
 |0,_=>rfl
 |n+1,i=>by
  simp only[first]
  split
  ·rfl
  ·exact qj6 bad n (i+1)
def qgT:List Int→Int
 |[]=>0
 |a::l=>if a=0 then qgT l else a
theorem qiD:∀l:List Int,(match first (fun i=>!decide (l.getD i 0=0)) l.length 0 with
  |some k=>l.getD k 0
  |none=>0)=qgT l
 |[]=>rfl
 |a::l=>by
  simp only[List.length,first,qgT]
  by_cases ha:a=0
  ·subst ha
   have e:=qiD l
   have hf:first (fun i=>!decide (((0:Int)::l).getD i 0=0)) l.length (0+1)=(first (fun i=>!decide (l.getD i 0=0)) l.length 0).map (·+1):=by
    rw[qj6];rfl
   simp only[hf,List.getD_cons_zero,decide_true,Bool.not_true,Bool.false_eq_true,if_false,if_true]
   rw[←e]
   cases first (fun i=>!decide (l.getD i 0=0)) l.length 0 with
   |none=>rfl
   |some k=>rfl
  ·simp[ha]
theorem l64(l:List Int)(h:l.length≤1000000000):l64_0 ((l,(l.length:Int),(0:Int),()),())=match first (fun i=>!decide (l.getD i 0=0)) l.length 0 with
  |some k=>some (.inr ((l.getD k 0,()),()))
  |none=>some (.inl ((),())):=by
 refine qbl (fun i=>((l,(l.length:Int),(i:Int),()),())) (fun i=>!decide (l.getD i 0=0)) (fun k=>((l.getD k 0,()),())) (n:=l.length) ?_ ?_ (qal (by omega))
 ·intro i hi
  simp only[s64_0,t64_0,Tr.val_test,qad,qag]
  rw[if_pos (by simp;omega),if_pos (by simp;omega)]
  simp only[Int.toNat_natCast,qai (show i≤9223372036854775806 by omega)]
  rfl
 ·simp[s64_0,t64_0,qad]
theorem quK(l:List Int)(h:l.length≤1000000000):f64 (l,())=some (qgT l,()):=by
 simp only[f64,t64,Tr.val_test,r64_0,l64 l h,←qiD l]
 cases first (fun i=>!decide (l.getD i 0=0)) l.length 0 with
 |none=>rfl
 |some k=>rfl
theorem qe9(d:Tys.data as60):f60 d=some (if d.1=true then d.2.1 else(0:Int),()):=by
 simp only[f60,t60,Tr.val_test]
 split<;>rfl
def wi(lo hi x:Int):Bool:=decide (lo≤x)&&decide (x≤hi)
theorem wi_iff{lo hi x:Int}:wi lo hi x=true↔lo≤x∧x≤hi:=by simp[wi]
theorem qsa(d:Tys.data as32):f32 d=some (wi d.2.1 d.2.2.1 d.1,()):=by
 simp only[f32,t32,Tr.val_test,Tr.val_fin,qad,decide_eq_true_eq,wi]
 split<;>simp[*]
theorem l77(lo hi:Int)(l:List Int)(h:l.length≤1000000000):l77_0 ((lo,hi,l,(l.length:Int),(0:Int),()),())=match first (fun i=>!wi lo hi (l.getD i 0)) l.length 0 with
  |some _=>some (.inr ((false,()),()))
  |none=>some (.inl ((),())):=by
 refine qbl (fun i=>((lo,hi,l,(l.length:Int),(i:Int),()),())) (fun i=>!wi lo hi (l.getD i 0)) (fun _=>((false,()),())) (n:=l.length) ?_ ?_ (qal (by omega))
 ·intro i hi'
  simp only[s77_0,t77_0,Tr.val_test,Tr.val_fin,qad,Int.toNat_natCast,qai (show i≤9223372036854775806 by omega)]
  rw[if_pos (by simp;omega),if_pos (by simp;omega)]
  by_cases a0:lo≤l.getD i 0
  ·by_cases a1:l.getD i 0≤hi
   ·simp only[wi,a0,a1,decide_true,Bool.and_self,Bool.not_true,if_true,if_false,Bool.false_eq_true]
   ·simp only[wi,a0,a1,decide_true,decide_false,Bool.and_false,Bool.not_false,Bool.not_true,if_true,if_false,Bool.false_eq_true]
  ·simp only[wi,a0,decide_false,Bool.false_and,Bool.not_false,if_true,if_false,Bool.false_eq_true]
 ·simp[s77_0,t77_0,qad]
theorem qsj(lo hi:Int)(l:List Int)(h:l.length≤1000000000):f77 (lo,hi,l,())=some ((first (fun i=>!wi lo hi (l.getD i 0)) l.length 0).isNone,()):=by
 have hl:=l77 lo hi l h
 cases hf:first (fun i=>!wi lo hi (l.getD i 0)) l.length 0 with
 |none=>
  rw[hf]at hl
  simp only[f77,t77,Tr.val_test,Tr.val_fin,hl,qas,Option.isSome_some,Option.isNone_none,if_true,Bool.false_eq_true,if_false]
 |some k=>
  rw[hf]at hl
  simp only[f77,t77,Tr.val_test,Tr.val_fin,hl,qas,r77_0,outR,Option.isSome_some,Option.isNone_some,if_true]
theorem qms(lo hi a:Int):f77 (lo,hi,[a],())=some (wi lo hi a,()):=by
 rw[qsj lo hi _ (by simp)]
 simp only[first,List.length,List.getD_cons_zero]
 by_cases h1:wi lo hi a=true
 ·simp[h1]
 ·simp[h1]
theorem qsB(lo hi a b:Int):f77 (lo,hi,[a,b],())=some (wi lo hi a&&wi lo hi b,()):=by
 rw[qsj lo hi _ (by simp)]
 simp only[first,List.length,List.getD_cons_zero,List.getD_cons_succ]
 by_cases h1:wi lo hi a=true
 ·by_cases h2:wi lo hi b=true
  ·simp[h1,h2]
  ·simp[h1,h2]
 ·simp[h1]
theorem qvr(l:List Int)(h:l.length≤1000000):l17_0 ((l,l,(0:Int),()),())=some (.inl ((),())):=by
 refine qbp (fun i=>((l,l,(i:Int),()),())) (n:=l.length) ?_ ?_ (qal (by omega))
 ·intro i hi
  simp only[s17_0,t17_0,Tr.val_test,Tr.val_fin,Tr.val_stop,qad,qag,Int.toNat_natCast,qai (show i≤9223372036854775806 by omega)]
  rw[if_pos (by simp;omega),if_pos (by simp;omega),if_pos (by simp;omega)]
  simp
 ·simp[s17_0,t17_0,qad]
theorem qvc(l:List Int)(h:l.length≤1000000):f17 (l,l,())=some (true,()):=by
 simp only[f17,t17,Tr.val_test,Tr.val_fin,Tr.val_stop,qvr l h,qas,qag,decide_true,Bool.not_true,Bool.false_eq_true,if_false,Option.isSome_some,if_true]
theorem wn64{x:Int}(h1:-9223372036854775807≤x)(h2:x≤9223372036854775807):IntKind.wrap .i64 (0-x)=-x:=by
 rw[←qcK,qab (by omega) (by omega)]
 omega
theorem qsx(b x:Int)(h0:0≤b)(h1:b≤9223372036854775807):f78 (b,[x],())=some (!wi (-b) b x,()):=by
 have e:=qms (-b) b x
 simp only[f78,t78,Tr.val_test,Tr.val_fin,g77,wn64 (show -9223372036854775807≤b by omega) h1,e,Option.isSome_some,Option.getD_some,if_true]
def low(a b:Int):Int×Int×Unit:=(a.tdiv (Int.gcd a b),b.tdiv (Int.gcd a b),())
theorem qdK{n:Int}(h1:-9223372036854775808≤n)(h2:n≤9223372036854775807):IntKind.wrap .i64 n=n:=by rw[←qcK,qab h1 h2]
theorem qns(a b:Int)(ha:a.natAbs≤9223372036854775807)(hb:b.natAbs≤9223372036854775807):IntKind.wrap .i64 (a.tdiv (Int.gcd a b))=(low a b).1∧IntKind.wrap .i64 (b.tdiv (Int.gcd a b))=(low a b).2.1:=by
 have h1:=qhb a (Int.gcd a b)
 have h2:=qhb b (Int.gcd a b)
 exact⟨qdK (by omega) (by omega),qdK (by omega) (by omega)⟩
theorem qtl(x:Int)(h:x.natAbs≤9223372036854775807):f46 (x,())=some ((x.natAbs:Int),()):=by
 simp only[f46,t46,Tr.val_fin]
 rw[qdK (by omega) (by omega)]
 have e:(if x<0-x then 0-x else x)=(x.natAbs:Int):=by split<;>omega
 rw[e]
theorem qsF{n:Nat}(h:n≤9223372036854775808):n<rounds:=by unfold rounds;omega
theorem l91q(a b:Int)(hb:b.natAbs≤9223372036854775808):l91_0 ((a,b,()),())=some (.inl ((euc a b,()),())):=by
 refine qpx (fun a b=>((a,b,()),())) (fun a=>((a,()),())) ?_ ?_ rounds a b (qsF hb)
 ·intro a b hb
  simp[s91_0,t91_0,qag,hb]
 ·intro a
  simp[s91_0,t91_0,qag]
theorem qps(a b:Int)(hb:b.natAbs≤9223372036854775808)(hg:Int.gcd a b≤9223372036854775807):f91 (a,b,())=some ((Int.gcd a b:Int),()):=by
 have e:(euc a b).natAbs=Int.gcd a b:=qoC a b
 have e2:=qtl (euc a b) (by omega)
 simp only[f91,t91,b91_0,l91q a b hb,Tr.val_test,Tr.val_fin,Tr.val_stop,qax,if_true,outB,g46,e2,Option.isSome_some,Option.getD_some,e]
theorem qrW(a b:Int)(ha:a.natAbs≤9223372036854775807)(hb:b.natAbs≤9223372036854775807):f91 (a,b,())=some ((Int.gcd a b:Int),()):=by
 refine qps a b (by omega) ?_
 by_cases h:b=0
 ·subst h;simp only[Int.gcd_zero_right];omega
 ·have:Int.gcd a b≤b.natAbs:=Nat.gcd_le_right _ (by omega)
  omega
theorem qt8(a b:Int)(ha:a.natAbs≤9223372036854775807)(hb:b.natAbs≤9223372036854775807)(h0:0<b):f41 (a,b,())=some (low a b,()):=by
 obtain⟨e1,e2⟩:=qns a b ha hb
 simp only[f41,t41,g91,qrW a b ha hb,Tr.val_test,Tr.val_fin,qad,Option.isSome_some,Option.getD_some,if_true,e1,e2]
 rw[if_neg (by simp;omega),if_neg (by simpa using qjc (show b≠0 by omega))]
def sF(F:List Int)(i:Nat):Int:=(F.drop i).sum
theorem qea(F:List Int)(i:Nat)(h:i<F.length):sF F i=F.getD i 0+sF F (i+1):=by
 unfold sF
 rw[List.drop_eq_getElem_cons h,List.sum_cons]
 simp[List.getD,List.getElem?_eq_getElem h]
theorem qp6(F:List Int)(i:Nat)(h:F.length≤i):sF F i=0:=by
 unfold sF
 rw[List.drop_eq_nil_of_le h];rfl
theorem qp0(B:Int):∀l:List Int,(∀i,i<l.length→-B≤l.getD i 0∧l.getD i 0≤B)→-(B*(l.length:Int))≤l.sum∧l.sum≤B*(l.length:Int)
 |[],_=>by simp
 |a::l,h=>by
  have h0:=h 0 (by simp)
  have ih:=qp0 B l (fun i hi=>by have:=h (i+1) (by simp;omega);simpa using this)
  simp only[List.getD_cons_zero]at h0
  simp only[List.sum_cons,List.length_cons]
  have e:B*((l.length+1:Nat):Int)=B*(l.length:Int)+B:=by
   rw[Int.natCast_add,Int.mul_add];simp
  omega
theorem qjD(l:List Int)(i:Nat)(h:i<l.length):(l.take (i+1)).sum=(l.take i).sum+l.getD i 0:=by
 rw[List.take_succ_eq_append_getElem h,List.sum_append]
 simp[List.getD,List.getElem?_eq_getElem h]
theorem qby(l:List Int)(n i:Nat):(l.drop n).getD i 0=l.getD (n+i) 0:=by
 simp[List.getD]
theorem qfF(l:List Int)(n i:Nat)(h:i<n):(l.take n).getD i 0=l.getD i 0:=by
 simp[List.getD,h]
structure VC(K F:List Int):Prop where
 n0:0<K.length
 n6:K.length≤6
 fl:F.length=K.length
 k1:∀i,i<K.length→1≤K.getD i 0
 k2:∀i,i<K.length→K.getD i 0≤20
 f1:∀i,i<K.length→-1000≤F.getD i 0
 f2:∀i,i<K.length→F.getD i 0≤1000
theorem qtq{F:List Int}(h6:F.length≤6)(hb:∀i,i<F.length→-6000≤F.getD i 0∧F.getD i 0≤6000)(n i:Nat):-36000≤((F.drop n).take i).sum∧((F.drop n).take i).sum≤36000:=by
 have hl:((F.drop n).take i).length≤6:=by simp;omega
 have h:=qp0 6000 ((F.drop n).take i) (fun j hj=>by
  have h1:j<i:=by simp at hj;omega
  have h2:n+j<F.length:=by simp at hj;omega
  rw[qfF _ _ _ h1,qby]
  exact hb _ h2)
 omega
theorem qve{F:List Int}(h6:F.length≤6)(hb:∀i,i<F.length→-1000≤F.getD i 0∧F.getD i 0≤1000)(n:Nat):-6000≤sF F n∧sF F n≤6000:=by
 have hl:(F.drop n).length≤6:=by simp;omega
 have h:=qp0 1000 (F.drop n) (fun j hj=>by
  have h2:n+j<F.length:=by simp at hj;omega
  rw[qby]
  exact hb _ h2)
 unfold sF
 omega
theorem qrR(a:Int)(b:Nat)(hb:b≠0):low a (b:Int)=pr (Rat.normalize a b hb):=by
 unfold low pr
 rw[Rat.normalize_eq]
 have e:Int.gcd a (b:Int)=Nat.gcd a.natAbs b:=rfl
 rw[e]
 have h1:((Nat.gcd a.natAbs b:Nat):Int) ∣ a:=Int.ofNat_dvd_left.2 (Nat.gcd_dvd_left _ _)
 rw[Int.tdiv_eq_ediv_of_dvd h1,Int.tdiv_eq_ediv_of_dvd (Int.natCast_dvd_natCast.2 (Nat.gcd_dvd_right _ _)),Int.natCast_ediv]
theorem quF(a b:Int):Int.gcd a b=Int.gcd b a:=Int.gcd_comm a b
def mvR(K F:List Int)(g:Rat):Nat→Rat
 |0=>g
 |i+1=>mvR K F g i+mkRat (sF F i) (K.getD i 0).toNat
theorem qdN(n:Int)(d:Nat)(hd:d≠0):mkRat n d=Rat.normalize n d hd:=(Rat.normalize_eq_mkRat hd).symm
theorem qkG(a b:Int):f64 ([a,b],())=some (if a=0 then b else a,()):=by
 rw[quK _ (by simp)]
 simp only[qgT]
 by_cases h0:b=0<;>simp[h0]
theorem qo4(b x y:Int)(h0:0≤b)(h1:b≤9223372036854775807):f78 (b,[x,y],())=some (!(wi (-b) b x&&wi (-b) b y),()):=by
 have e:=qsB (-b) b x y
 simp only[f78,t78,Tr.val_test,Tr.val_fin,Tr.val_stop,g77,wn64 (show -9223372036854775807≤b by omega) h1,e,Option.isSome_some,Option.getD_some,if_true]
def okN(K F:List Int)(i:Nat):Bool:=wi 1 20 (K.getD i 0)&&wi (-1000) 1000 (F.getD i 0)
def cN(K F:List Int):Option Nat:=first (fun i=>!okN K F i) K.length 0
def cK(K F:List Int):Int×Int:=if K.length=0∨F.length≠K.length then(0,10)else if 6<K.length then(0,8)else match cN K F with
 |some k=>((k:Int),2)
 |none=>(0,0)
theorem l75(K F:List Int)(h:K.length≤1000000)(hf:F.length=K.length):l75_0 ((K,(K.length:Int),(0:Int),()),(K,F,()),())=match cN K F with
  |some k=>some (.inr (((k:Int),(2:Int),()),(K,F,()),()))
  |none=>some (.inl ((),(K,F,()),())):=by
 refine qbl (fun i=>((K,(K.length:Int),(i:Int),()),(K,F,()),())) (fun i=>!okN K F i) (fun k=>(((k:Int),(2:Int),()),(K,F,()),())) (n:=K.length) ?_ ?_ (qal (by omega))
 ·intro i hi
  have b0:(!decide ((K.length:Int)≤(i:Int)))=true:=nT (by omega)
  have b1:(decide ((0:Int)≤(i:Int))&&decide ((i:Int)<(K.length:Int)))=true:=dA (by omega) (by omega)
  have b2:(decide ((0:Int)≤(i:Int))&&decide ((i:Int)<(F.length:Int)))=true:=dA (by omega) (by omega)
  have c77:∀a b x:Int,f77 (a,b,[x],())=some (wi a b x,()):=qms
  have c78:=qsx 1000 (F.getD i 0) (by omega) (by omega)
  simp only[s75_0,t75_0,Tr.val_test,Tr.val_fin,Tr.val_stop,qad,qag,b0,b1,b2,if_true,g77,c77,g78,c78,g60,qe9,Option.isSome_some,Option.getD_some,Int.toNat_natCast,qai (show i≤9223372036854775806 by omega),okN]
  rcases Bool.eq_false_or_eq_true (wi 1 20 (List.getD K i 0))with hA|hA<;>rcases Bool.eq_false_or_eq_true (wi (-1000) 1000 (List.getD F i 0))with hB|hB<;>simp only[hA,hB]<;>rfl
 ·simp[s75_0,t75_0,qad]
theorem qrI(K F:List Int)(h:K.length=0∨F.length≠K.length):cK K F=(0,10):=by unfold cK;rw[if_pos h]
theorem qr8(K F:List Int)(h0:K.length≠0)(h1:F.length=K.length)(h2:6<K.length):cK K F=(0,8):=by unfold cK;rw[if_neg (by omega),if_pos h2]
theorem qtH(K F:List Int)(h0:K.length≠0)(h1:F.length=K.length)(h2:¬6<K.length):cK K F=(match cN K F with
 |some k=>((k:Int),2)
 |none=>(0,0)):=by unfold cK;rw[if_neg (by omega),if_neg h2]
theorem quh(K F:List Int)(h:K.length≤1000000):f20 ((K,F,()),())=some ((cK K F).1,(cK K F).2,()):=by
 have c64:∀a b:Int,f64 ([a,b],())=some (if a=0 then b else a,()):=qkG
 simp only[f20,t20,Tr.val_test,Tr.val_fin,Tr.val_stop,qad,qag,g60,qe9,g64,c64,Option.isSome_some,Option.getD_some,if_true]
 by_cases h0:K.length=0
 ·have e0:decide ((K.length:Int)=0)=true:=dT (by omega)
  rw[qrI K F (.inl h0)]
  simp only[e0,if_true];rfl
 ·have e0:decide ((K.length:Int)=0)=false:=dF (by omega)
  by_cases h1:F.length=K.length
  ·have e1:(!decide ((F.length:Int)=(K.length:Int)))=false:=nF (by omega)
   by_cases h2:6<K.length
   ·have e2:(!decide ((K.length:Int)≤6))=true:=nT (by omega)
    rw[qr8 K F h0 h1 h2]
    simp only[e0,e1,e2,if_true,if_false,Bool.false_eq_true];rfl
   ·have e2:(!decide ((K.length:Int)≤6))=false:=nF (by omega)
    have hl:=l75 K F h h1
    have z:(!decide ((0:Int)=0))=false:=by decide
    rw[qtH K F h0 h1 h2]
    simp only[e0,e1,e2,z,if_true,if_false,Bool.false_eq_true]
    cases hf:cN K F with
    |none=>
     rw[hf]at hl
     simp only[hl,qas,decide_true,Bool.not_true,Option.isSome_some,if_true,Bool.false_eq_true,if_false]
    |some k=>
     rw[hf]at hl
     simp only[hl,qas,r75_0,outR,decide_true,Bool.not_true,Option.isSome_some,if_true,Bool.false_eq_true,if_false]
  ·have e1:(!decide ((F.length:Int)=(K.length:Int)))=true:=nT (by omega)
   rw[qrI K F (.inr h1)]
   simp only[e0,e1,if_true,if_false,Bool.false_eq_true];rfl
theorem l27(K F:List Int)(h:K.length≤1000000)(hf:F.length=K.length):l27_0 (((0:Int),()),(K,F,()),())=match cN K F with
  |some k=>some (.inr (((k:Int),(2:Int),()),(K,F,()),()))
  |none=>some (.inl ((),(K,F,()),())):=by
 refine qbl (fun i=>(((i:Int),()),(K,F,()),())) (fun i=>!okN K F i) (fun k=>(((k:Int),(2:Int),()),(K,F,()),())) (n:=K.length) ?_ ?_ (qal (by omega))
 ·intro i hi
  have b0:(!decide ((K.length:Int)≤(i:Int)))=true:=nT (by omega)
  have b1:(decide ((0:Int)≤(i:Int))&&decide ((i:Int)<(K.length:Int)))=true:=dA (by omega) (by omega)
  have b2:(decide ((0:Int)≤(i:Int))&&decide ((i:Int)<(F.length:Int)))=true:=dA (by omega) (by omega)
  simp only[s27_0,t27_0,Tr.val_test,Tr.val_fin,Tr.val_stop,qad,qag,b0,b1,b2,if_true,g32,qsa,Option.isSome_some,Option.getD_some,Int.toNat_natCast,qai (show i≤9223372036854775806 by omega),okN]
  rcases Bool.eq_false_or_eq_true (wi 1 20 (List.getD K i 0))with hA|hA<;>rcases Bool.eq_false_or_eq_true (wi (-1000) 1000 (List.getD F i 0))with hB|hB<;>simp only[hA,hB]<;>rfl
 ·simp[s27_0,t27_0,qad]
theorem qu4(K F:List Int)(h:K.length≤1000000):f27 ((K,F,()),())=some ((cK K F).1,(cK K F).2,()):=by
 simp only[f27,t27,Tr.val_test,Tr.val_fin,Tr.val_stop,qad,qag]
 by_cases h0:K.length=0
 ·have e0:decide ((K.length:Int)=0)=true:=dT (by omega)
  rw[qrI K F (.inl h0)]
  simp only[e0,if_true]
 ·have e0:decide ((K.length:Int)=0)=false:=dF (by omega)
  by_cases h1:F.length=K.length
  ·have e1:(!decide ((F.length:Int)=(K.length:Int)))=false:=nF (by omega)
   by_cases h2:6<K.length
   ·have e2:(!decide ((K.length:Int)≤6))=true:=nT (by omega)
    rw[qr8 K F h0 h1 h2]
    simp only[e0,e1,e2,if_true,if_false,Bool.false_eq_true]
   ·have e2:(!decide ((K.length:Int)≤6))=false:=nF (by omega)
    have hl:=l27 K F h h1
    rw[qtH K F h0 h1 h2]
    simp only[e0,e1,e2,if_true,if_false,Bool.false_eq_true]
    cases hf:cN K F with
    |none=>
     rw[hf]at hl
     simp only[hl,qas,Option.isSome_some,if_true,Bool.false_eq_true,if_false]
    |some k=>
     rw[hf]at hl
     simp only[hl,qas,r27_0,outR,Option.isSome_some,if_true]
  ·have e1:(!decide ((F.length:Int)=(K.length:Int)))=true:=nT (by omega)
   rw[qrI K F (.inr h1)]
   simp only[e0,e1,if_true,if_false,Bool.false_eq_true]
theorem qqf{K F:List Int}(h:(cK K F).2=0):VC K F:=by
 unfold cK at h
 split at h
 ·cases h
 ·rename_i h0
  split at h
  ·cases h
  ·rename_i h1
   have hf:F.length=K.length:=Decidable.byContradiction fun e=>h0 (.inr e)
   cases hn:cN K F with
   |some k=>rw[hn]at h;cases h
   |none=>
    have key:∀i,i<K.length→okN K F i=true:=fun i hi=>by
     have:=qaZ hn i (Nat.zero_le _) (by omega)
     simpa using this
    have key2:∀i,i<K.length→(1≤K.getD i 0∧K.getD i 0≤20)∧(-1000≤F.getD i 0∧F.getD i 0≤1000):=fun i hi=>by
     have:=key i hi
     simp only[okN,Bool.and_eq_true,wi_iff]at this
     exact this
    exact⟨by omega,by omega,hf,fun i hi=>(key2 i hi).1.1,fun i hi=>(key2 i hi).1.2,fun i hi=>(key2 i hi).2.1,fun i hi=>(key2 i hi).2.2⟩
theorem qsS:f118 ()=some (((0:Int),(1:Int),()),()):=rfl
theorem qmU(K F:List Int)(h:K.length≤1000000):f79 ((K,F,()),())=some (if(cK K F).2=0 then(((K,F,()),((0:Int),(1:Int),()),()),(0:Int),())else((([],[],()),((0:Int),(0:Int),()),()),(cK K F).2,())):=by
 have e0:=quh K F h
 simp only[f79,t79,Tr.val_test,Tr.val_fin,Tr.val_stop,g20,e0,qag,g118,qsS,Option.isSome_some,Option.getD_some,if_true]
 by_cases h0:(cK K F).2=0
 ·simp[h0]
 ·simp[h0]
theorem qmG(K F:List Int)(g:Int×Int×Unit)(n:Nat)(h6:F.length≤6)(hb:∀i,i<F.length→-6000≤F.getD i 0∧F.getD i 0≤6000)(hn:n≤F.length):f85 (((K,F,()),(g.1,g.2.1,()),()),(n:Int),())=some (sF F n,()):=by
 have key:l85_0 (((0:Int),F.drop n,((F.drop n).length:Int),(0:Int),()),())=some (.inl ((sF F n,()),())):=by
  refine qbp (fun i=>((((F.drop n).take i).sum,F.drop n,((F.drop n).length:Int),(i:Int),()),())) (n:=(F.drop n).length) ?_ ?_ (qal (by simp;omega))
  ·intro i hi
   have hl:(F.drop n).length≤6:=by simp;omega
   have b0:(!decide (((F.drop n).length:Int)≤(i:Int)))=true:=nT (by omega)
   have b1:(decide ((0:Int)≤(i:Int))&&decide ((i:Int)<((F.drop n).length:Int)))=true:=dA (by omega) (by omega)
   have hp:=qtq h6 hb n (i+1)
   have hs:=qjD (F.drop n) i hi
   have w:wrap64 (((F.drop n).take i).sum+(F.drop n).getD i 0)=((F.drop n).take (i+1)).sum:=by rw[←hs];exact qab (by omega) (by omega)
   simp only[s85_0,t85_0,Tr.val_test,Tr.val_fin,Tr.val_stop,qad,b0,b1,if_true,Int.toNat_natCast,w,qai (show i≤9223372036854775806 by omega)]
  ·have b0:(!decide (((F.drop n).length:Int)≤((F.drop n).length:Int)))=false:=nF (by omega)
   simp only[s85_0,t85_0,Tr.val_test,Tr.val_fin,qad,b0,Bool.false_eq_true,if_false,List.take_length]
   rfl
 have b2:(decide ((0:Int)≤(n:Int))&&decide ((n:Int)≤(F.length:Int)))=true:=dA (by omega) (by omega)
 simp only[f85,t85,Tr.val_test,Tr.val_fin,Tr.val_stop,b2,Int.toNat_natCast,key,qax,b85_0,outB,if_true]
theorem l123(a b:Int)(hb:b.natAbs≤9223372036854775808):l123_0 ((a,b,()),())=some (.inl ((euc a b,()),())):=by
 refine qpx (fun a b=>((a,b,()),())) (fun a=>((a,()),())) ?_ ?_ rounds a b (qsF hb)
 ·intro a b hb
  simp[s123_0,t123_0,qag,hb]
 ·intro a
  simp[s123_0,t123_0,qag]
theorem qnc(a b:Int)(hb:b.natAbs≤9223372036854775808)(hg:Int.gcd a b≤9223372036854775807):f123 (a,b,())=some ((Int.gcd a b:Int),()):=by
 have e:(euc a b).natAbs=Int.gcd a b:=qoC a b
 have w:IntKind.wrap .i64 (0-euc a b)=0-euc a b:=qdK (by omega) (by omega)
 have e2:(if euc a b<0-euc a b then 0-euc a b else euc a b)=(Int.gcd a b:Int):=by split<;>omega
 simp only[f123,t123,b123_0,l123 a b hb,Tr.val_test,Tr.val_fin,Tr.val_stop,qax,if_true,outB,w,e2]
theorem qfT(n:Int)(d:Nat)(hd:d≠0):Int.gcd (d:Int) n≤d:=by
 have:Int.gcd (d:Int) n=Nat.gcd d n.natAbs:=rfl
 rw[this];exact Nat.gcd_le_left _ (by omega)
theorem ql5(n:Int)(d:Nat)(hd:d≠0)(hn:n.natAbs≤9223372036854775807)(h2:d≤9223372036854775807):f120 (n,(d:Int),())=some (pr (Rat.normalize n d hd),()):=by
 have hg:=qfT n d hd
 have e:=qnc (d:Int) n (by omega) (by omega)
 have hp:0<Int.gcd n (d:Int):=Int.gcd_pos_of_ne_zero_right _ (by omega)
 rw[Int.gcd_comm]at e
 obtain⟨w1,w2⟩:=qns n (d:Int) hn (by omega)
 have hz:(((Int.gcd n (d:Int):Nat):Int)==0)=false:=by simp;omega
 simp only[f120,t120,g123,e,Tr.val_test,Tr.val_fin,Tr.val_stop,Option.isSome_some,Option.getD_some,if_true,hz,Bool.false_eq_true,if_false,w1,w2]
 rw[←qrR]
theorem qou(n:Int)(d:Nat)(hd:d≠0)(hn:n.natAbs≤9223372036854775807)(h2:d≤9223372036854775807):f41 (n,(d:Int),())=some (pr (Rat.normalize n d hd),()):=by
 rw[qt8 n (d:Int) hn (by omega) (by omega),qrR n d hd]
theorem qsO(a b:Rat)(h1:(a.num*(b.den:Int)+b.num*(a.den:Int)).natAbs≤9000000000000000000)(h2:a.den*b.den≤9000000000000000000)
  (h3:(a.num*(b.den:Int)).natAbs≤9000000000000000000) (h4:(b.num*(a.den:Int)).natAbs≤9000000000000000000):f119 ((a.num,(a.den:Int),()),(b.num,(b.den:Int),()),())=some (pr (a+b),()):=by
 have e:=ql5 (a.num*(b.den:Int)+b.num*(a.den:Int)) (a.den*b.den) (qoZ a.den_nz b.den_nz) (by omega) (by omega)
 rw[Int.natCast_mul]at e
 have w1:wrap64 (wrap64 (a.num*(b.den:Int))+wrap64 (b.num*(a.den:Int)))=a.num*(b.den:Int)+b.num*(a.den:Int):=by
  rw[qab (n:=a.num*(b.den:Int)) (by omega) (by omega),qab (n:=b.num*(a.den:Int)) (by omega) (by omega),qab (by omega) (by omega)]
 have w2:wrap64 ((a.den:Int)*(b.den:Int))=(a.den:Int)*(b.den:Int):=by
  rw[←Int.natCast_mul];exact qab (by omega) (by omega)
 simp only[f119,t119,Tr.val_test,Tr.val_fin,Tr.val_stop,w1,w2,g120,e,Option.isSome_some,Option.getD_some,if_true]
 rw[←Rat.add_def]
theorem qs6{a b:Rat}{k:Nat}(ha:Bd a k)(hk:k≤6)(hb1:b.den≤20)(hb2:b.num.natAbs≤6000*b.den):
  (a.num*(b.den:Int)).natAbs≤1000000000000000∧(b.num*(a.den:Int)).natAbs≤1000000000000000∧a.den*b.den≤1000000000000000:=by
 have hd:a.den≤64000000:=Nat.le_trans ha.den (Nat.le_trans (Nat.pow_le_pow_right (by omega) hk) (by decide))
 have hn:a.num.natAbs≤6000*6*64000000:=Nat.le_trans ha.num (Nat.mul_le_mul (Nat.mul_le_mul_left _ hk) hd)
 rw[Int.natAbs_mul,Int.natAbs_mul,Int.natAbs_natCast,Int.natAbs_natCast]
 have h1:=Nat.mul_le_mul hn hb1
 have h2:b.num.natAbs≤120000:=by omega
 have h3:=Nat.mul_le_mul h2 hd
 have h4:=Nat.mul_le_mul hd hb1
 omega
theorem qpD(F:Int)(K:Int)(hK:1≤K)(hF:-6000≤F∧F≤6000)(hK2:K≤20):(mkRat F K.toNat).den≤20∧(mkRat F K.toNat).num.natAbs≤6000*(mkRat F K.toNat).den:=by
 rw[qdN _ _ (show K.toNat≠0 by omega)]
 exact qsX F K.toNat (by omega) (by omega) (by omega)
structure Row(K F:List Int):Prop where
 n6:K.length≤6
 fl:F.length=K.length
 k1:∀i,i<K.length→1≤K.getD i 0
 k2:∀i,i<K.length→K.getD i 0≤20
 s:∀i,i<K.length→-6000≤sF F i∧sF F i≤6000
theorem qnn{K F:List Int}(R:Row K F){g:Rat}{k:Nat}(hg:Bd g k):∀i,i≤K.length→Bd (mvR K F g i) (k+i)
 |0,_=>hg
 |i+1,h=>by
  have ih:=qnn R hg i (by omega)
  obtain⟨h1,h2⟩:=qpD (sF F i) (K.getD i 0) (R.k1 i (by omega)) (R.s i (by omega)) (R.k2 i (by omega))
  exact quH ih h1 h2
abbrev Fr:=Int×Int×Unit
abbrev fz:Fr:=((0:Int),(0:Int),())
def mvL(K F:List Int)(g:Rat):Nat→List Fr
 |0=>[]
 |i+1=>mvL K F g i++[pr (mvR K F g (i+1))]
theorem qam(K F:List Int)(g:Rat):∀i,(mvL K F g i).length=i
 |0=>rfl
 |i+1=>by simp[mvL,qam K F g i]
theorem qhB(K F:List Int)(g:Rat):∀(n i:Nat),i<n→(mvL K F g n)[i]?=some (pr (mvR K F g (i+1)))
 |0,i,h=>by omega
 |n+1,i,h=>by
  have hl:=qam K F g n
  rw[mvL]
  by_cases e:i=n
  ·subst e
   rw[List.getElem?_append_right (by omega),hl];simp
  ·rw[List.getElem?_append_left (by omega)]
   exact qhB K F g n i (by omega)
theorem qbb(K F:List Int)(g:Rat)(n i:Nat)(h:i<n):(mvL K F g n).getD i ((0:Int),(0:Int),())=pr (mvR K F g (i+1)):=by
 simp only[List.getD,qhB K F g n i h,Option.getD_some]
theorem qse{l:List Fr}{K F:List Int}{g:Rat}{n:Nat}(hl:l.length=n)(h:∀i,i<n→l[i]?=some (pr (mvR K F g (i+1)))):l=mvL K F g n:=by
 apply List.ext_getElem?
 intro i
 rcases Nat.lt_or_ge i n with hi|hi
 ·rw[h i hi,qhB K F g n i hi]
 ·rw[List.getElem?_eq_none (by omega),List.getElem?_eq_none (by rw[qam];omega)]
theorem row_of{K F:List Int}(v:VC K F):Row K F:=
 ⟨v.n6,v.fl,v.k1,v.k2,fun i _=>qve (by have:=v.fl;have:=v.n6;omega) (fun j hj=>⟨v.f1 j (by have:=v.fl;omega),v.f2 j (by have:=v.fl;omega)⟩) i⟩
theorem qoi{K F:List Int}(v:VC K F):∀i,i<F.length→-6000≤F.getD i 0∧F.getD i 0≤6000:=fun i hi=>by
 have h1:=v.f1 i (by have:=v.fl;omega)
 have h2:=v.f2 i (by have:=v.fl;omega)
 omega
theorem qnq{K F:List Int}(R:Row K F)(hF:∀i,i<F.length→-6000≤F.getD i 0∧F.getD i 0≤6000){g:Rat}{k:Nat}(hg:Bd g k)(hk:k+K.length≤6):
  f80 (((K,F,()),(g.num,(g.den:Int),()),()),())=some (mvL K F g K.length,()):=by
 have h6:=R.n6
 have hfl:=R.fl
 have key:l80_0 (((K.length,K.length),K,(K.length:Int),(0:Int),()),(K,F,g.num,(g.den:Int),()),List.replicate K.length fz,(g.num,(g.den:Int),()),()) =
   some (.inl (((K.length,K.length),()),(K,F,g.num,(g.den:Int),()),mvL K F g K.length,((mvR K F g K.length).num,((mvR K F g K.length).den:Int),()),())):=by
  refine qbp (fun i=>(((K.length,K.length),K,(K.length:Int),(i:Int),()),(K,F,g.num,(g.den:Int),()),mvL K F g i++List.replicate (K.length-i) fz,((mvR K F g i).num,((mvR K F g i).den:Int),()),())) (n:=K.length) ?_ ?_ (qal (by omega))
  ·intro i hi
   have b0:(!decide ((K.length:Int)≤(i:Int)))=true:=nT (by omega)
   have b1:(decide ((0:Int)≤(i:Int))&&decide ((i:Int)<(K.length:Int)))=true:=dA (by omega) (by omega)
   have e85:=qmG K F (g.num,(g.den:Int),()) i (by omega) hF (by omega)
   have hs:=R.s i hi
   have k1:=R.k1 i hi
   have k2:=R.k2 i hi
   have hK:K.getD i 0=((K.getD i 0).toNat:Int):=by omega
   have hK0:(K.getD i 0).toNat≠0:=by omega
   have e120:=ql5 (sF F i) (K.getD i 0).toNat hK0 (by omega) (by omega)
   rw[←hK,←qdN]at e120
   obtain⟨p1,p2⟩:=qpD (sF F i) (K.getD i 0) k1 hs k2
   have hbd:=qnn R hg i (by omega)
   obtain⟨q1,q2,q3⟩:=qs6 hbd (by omega) p1 p2
   have e119:=qsO (mvR K F g i) (mkRat (sF F i) (K.getD i 0).toNat) (by omega) (by omega) (by omega) (by omega)
   have hml:=qam K F g i
   have b2:Nat.ble (0+i+1) (mvL K F g i++List.replicate (K.length-i) fz).length=true:=ble_eq_true'.2 (by simp[hml];omega)
   have hset:(mvL K F g i++List.replicate (K.length-i) fz).set (0+i) ((pr (mvR K F g (i+1))).1,(pr (mvR K F g (i+1))).2.1,())=mvL K F g (i+1)++List.replicate (K.length-(i+1)) fz:=by
    rw[Nat.zero_add,List.set_append_right _ _ (by omega),hml,Nat.sub_self,show K.length-i=(K.length-(i+1))+1 by omega,List.replicate_succ,List.set_cons_zero,mvL,List.append_assoc]
    rfl
   simp only[pr]at e120
   simp only[s80_0,t80_0,Tr.val_test,Tr.val_fin,Tr.val_stop,qad,b0,b1,if_true,g85,e85,g120,e120,g119,e119,Int.toNat_natCast,b2,qai (show i≤9223372036854775806 by omega),Option.isSome_some,Option.getD_some]
   rw[show pr (mvR K F g i+mkRat (sF F i) (K.getD i 0).toNat)=pr (mvR K F g (i+1))from rfl,hset]
   rfl
  ·have b0:(!decide ((K.length:Int)≤(K.length:Int)))=false:=nF (by omega)
   simp only[s80_0,t80_0,Tr.val_test,Tr.val_fin,qad,b0,Bool.false_eq_true,if_false,Nat.sub_self,List.replicate_zero,List.append_nil]
 have b0:(decide ((0:Int)≤(K.length:Int))&&decide ((K.length:Int)≤(K.length:Int))&&decide ((16:Int)*(K.length:Int)≤281474976710656)&&decide ((K.length:Int)≤281474976710656))=true:=by
  rw[dA (by omega) (by omega),Bool.true_and,dA (by omega) (by omega)]
 have hb:Nat.beq K.length (mvL K F g K.length).length=true:=by rw[qam];exact Nat.beq_refl _
 simp only[f80,t80,Tr.val_test,Tr.val_fin,Tr.val_stop,b0,Int.toNat_natCast,key,qax,b80_0,outB,hb,if_true]
def lgI(l:List Fr)(i:Nat):Bool:=wi (-1000000000) 1000000000 (l.getD i ((0:Int),(0:Int),())).1&&wi (-1000000000) 1000000000 (l.getD i ((0:Int),(0:Int),())).2.1
def lgF(l:List Fr):Option Nat:=first (fun i=>!lgI l i) l.length 0
def lgE(l:List Fr):Int:=if(lgF l).isNone=true then 0 else 8
theorem qoG(l:List Fr)(h:l.length≤1000000):f81 (l,())=some (lgE l,()):=by
 have key:l86_0 ((l,(l.length:Int),(0:Int),()),())=match lgF l with
   |some k=>some (.inr (((k:Int),(8:Int),()),()))
   |none=>some (.inl ((),())):=by
  refine qbl (fun i=>((l,(l.length:Int),(i:Int),()),())) (fun i=>!lgI l i) (fun k=>(((k:Int),(8:Int),()),())) (n:=l.length) ?_ ?_ (qal (by omega))
  ·intro i hi
   have b0:(!decide ((l.length:Int)≤(i:Int)))=true:=nT (by omega)
   have b1:(decide ((0:Int)≤(i:Int))&&decide ((i:Int)<(l.length:Int)))=true:=dA (by omega) (by omega)
   have e78:=qo4 1000000000 (l.getD i ((0:Int),(0:Int),())).1 (l.getD i ((0:Int),(0:Int),())).2.1 (by omega) (by omega)
   simp only[s86_0,t86_0,Tr.val_test,Tr.val_fin,Tr.val_stop,qad,qag,b0,b1,if_true,g78,e78,g60,qe9,Int.toNat_natCast,qai (show i≤9223372036854775806 by omega),Option.isSome_some,Option.getD_some,lgI]
   rcases Bool.eq_false_or_eq_true (wi (-1000000000) 1000000000 (l.getD i ((0:Int),(0:Int),())).1&&wi (-1000000000) 1000000000 (l.getD i ((0:Int),(0:Int),())).2.1)with hA|hA<;>simp only[hA]<;>rfl
  ·simp[s86_0,t86_0,qad]
 simp only[f81,t81,Tr.val_test,Tr.val_fin,Tr.val_stop,lgE]
 cases hf:lgF l with
 |none=>
  rw[hf]at key
  simp only[key,qas,Option.isSome_some,Option.isNone_none,if_true,Bool.false_eq_true,if_false]
 |some k=>
  rw[hf]at key
  simp only[key,qas,r86_0,outR,Option.isSome_some,Option.isNone_some,if_true,Bool.false_eq_true,if_false]
theorem qsY:((0:Rat).num,((0:Rat).den:Int),())=((0:Int),(1:Int),()):=rfl
theorem qua(K F:List Int)(h:K.length≤1000000):f22 ((K,F,()),())=some (if(cK K F).2=0 then if lgE (mvL K F 0 K.length)=0 then(mvL K F 0 K.length,(0:Int),())else([],lgE (mvL K F 0 K.length),())else([],(cK K F).2,())):=by
 have e79:=qmU K F h
 simp only[f22,t22,Tr.val_test,Tr.val_fin,Tr.val_stop,g79,e79,qag,Option.isSome_some,Option.getD_some,if_true]
 by_cases h0:(cK K F).2=0
 ·have v:=qqf h0
  have e80:=qnq (row_of v) (qoi v) qhg (by have:=v.n6;omega)
  rw[show((0:Rat).num,((0:Rat).den:Int),())=((0:Int),(1:Int),())from rfl]at e80
  have e81:=qoG (mvL K F 0 K.length) (by rw[qam];omega)
  simp only[h0,if_true,decide_true,Bool.not_true,Bool.false_eq_true,if_false,g80,e80,g81,e81,Option.isSome_some,Option.getD_some]
  by_cases h1:lgE (mvL K F 0 K.length)=0
  ·simp only[h1,decide_true,Bool.not_true,Bool.false_eq_true,if_false,if_true]
  ·simp only[h1,decide_false,Bool.not_false,if_false,if_true]
 ·simp only[h0,if_false,decide_false,Bool.not_false,if_true]
def lowF(F:List Int)(n:Nat):List Int:=(F.take (n+1)).set n (sF F n)
theorem qdM(F:List Int)(n:Nat)(h:n<F.length):(lowF F n).length=n+1:=by simp[lowF];omega
theorem qfk(F:List Int)(n i:Nat)(h:n<F.length)(hi:i≤n):(lowF F n).getD i 0=if i=n then sF F n else F.getD i 0:=by
 unfold lowF
 simp only[List.getD,List.getElem?_set]
 by_cases e:n=i
 ·subst e
  have hlt:n<(F.take (n+1)).length:=by simp;omega
  rw[if_pos rfl,if_pos hlt,if_pos rfl];rfl
 ·rw[if_neg e,if_neg (fun h=>e h.symm),List.getElem?_take,if_pos (by omega)]
theorem ql3(F:List Int)(n:Nat)(h:n<F.length):∀d i,i+d=n→sF (lowF F n) i=sF F i
 |0,i,e=>by
  have hl:=qdM F n h
  rw[qea _ _ (by omega),qp6 _ (i+1) (by omega),qfk F n i h (by omega),if_pos (by omega),show n=i by omega];omega
 |d+1,i,e=>by
  have hl:=qdM F n h
  rw[qea _ _ (by omega),qea F i (by omega),ql3 F n h d (i+1) (by omega),qfk F n i h (by omega),if_neg (by omega)]
theorem qll{K F K' F':List Int}{g:Rat}:∀n,(∀i,i<n→sF F i=sF F' i∧K.getD i 0=K'.getD i 0)→mvR K F g n=mvR K' F' g n
 |0,_=>rfl
 |n+1,h=>by
  obtain⟨h1,h2⟩:=h n (by omega)
  simp only[mvR,qll n (fun i hi=>h i (by omega)),h1,h2]
theorem qtw(K F:List Int)(n:Nat)(g:Rat)(h:n<F.length)(i:Nat)(hi:i≤n+1):mvR (K.take (n+1)) (lowF F n) g i=mvR K F g i:=
 qll i fun j hj=>⟨ql3 F n h (n-j) j (by omega),qfF K (n+1) j (by omega)⟩
theorem qpQ(F:List Int)(m j:Nat):sF (F.drop m) j=sF F (m+j):=by
 unfold sF;rw[List.drop_drop]
theorem qqm(K F:List Int)(m:Nat)(g:Rat):∀i,mvR (K.drop m) (F.drop m) (mvR K F g m) i=mvR K F g (m+i)
 |0=>rfl
 |i+1=>by
  show mvR (K.drop m) (F.drop m) (mvR K F g m) i+mkRat (sF (F.drop m) i) ((K.drop m).getD i 0).toNat=mvR K F g (m+i)+mkRat (sF F (m+i)) (K.getD (m+i) 0).toNat
  rw[qqm K F m g i,qpQ,qby]
theorem qtL(K F:List Int)(n:Nat)(h:n<K.length)(hf:F.length=K.length):mvL (K.take (n+1)) (lowF F n) 0 (n+1)=(mvL K F 0 K.length).take (n+1):=by
 refine(qse (by rw[List.length_take,qam];omega) fun i hi=>?_).symm
 rw[List.getElem?_take,if_pos hi,qhB _ _ _ _ _ (by omega),qtw K F n 0 (by omega) (i+1) (by omega)]
theorem quz(K F:List Int)(m:Nat)(h:m≤K.length):mvL (K.drop m) (F.drop m) (mvR K F 0 m) (K.length-m)=(mvL K F 0 K.length).drop m:=by
 refine(qse (by rw[List.length_drop,qam]) fun i hi=>?_).symm
 rw[List.getElem?_drop,qhB _ _ _ _ _ (by omega),qqm];rfl
theorem qpq{K F:List Int}(v:VC K F){n:Nat}(h:n<K.length):Row (K.take (n+1)) (lowF F n):=by
 have hf:=v.fl
 have h6:=v.n6
 have hK:(K.take (n+1)).length=n+1:=by simp;omega
 refine⟨by omega,by rw[qdM F n (by omega),hK],fun i hi=>?_,fun i hi=>?_,fun i hi=>?_⟩
 ·rw[qfF K (n+1) i (by omega)];exact v.k1 i (by omega)
 ·rw[qfF K (n+1) i (by omega)];exact v.k2 i (by omega)
 ·rw[ql3 F n (by omega) (n-i) i (by omega)];exact(row_of v).s i (by omega)
theorem qsm{K F:List Int}(v:VC K F)(m:Nat):Row (K.drop m) (F.drop m):=by
 have hf:=v.fl
 have h6:=v.n6
 refine⟨by simp;omega,by simp;omega,fun i hi=>?_,fun i hi=>?_,fun i hi=>?_⟩
 ·rw[qby];exact v.k1 _ (by simp at hi;omega)
 ·rw[qby];exact v.k2 _ (by simp at hi;omega)
 ·rw[qpQ];exact(row_of v).s _ (by simp at hi;omega)
theorem quJ{K F:List Int}(v:VC K F){n:Nat}(h:n<K.length):∀i,i<(lowF F n).length→-6000≤(lowF F n).getD i 0∧(lowF F n).getD i 0≤6000:=fun i hi=>by
 have hf:=v.fl
 rw[qdM F n (by omega)]at hi
 rw[qfk F n i (by omega) (by omega)]
 split
 ·exact(row_of v).s n h
 ·exact qoi v i (by omega)
theorem qvf{K F:List Int}(v:VC K F)(m:Nat):∀i,i<(F.drop m).length→-6000≤(F.drop m).getD i 0∧(F.drop m).getD i 0≤6000:=fun i hi=>by
 rw[qby];exact qoi v _ (by simp at hi;omega)
theorem qit(K F:List Int)(g1 g2:Int)(x:Int)(h:K.length≤1000000):f82 (((K,F,()),(g1,g2,()),()),x,())=some (if wi 0 ((K.length:Int)-1) x=true then(0:Int)else 6,()):=by
 have w:wrap64 ((K.length:Int)-1)=(K.length:Int)-1:=qab (by omega) (by omega)
 have c:=qms 0 ((K.length:Int)-1) x
 simp only[f82,t82,Tr.val_test,Tr.val_fin,Tr.val_stop,w,g77,c,g60,qe9,Option.isSome_some,Option.getD_some,if_true]
 cases wi 0 ((K.length:Int)-1) x<;>rfl
theorem qst{K F:List Int}(v:VC K F){n:Nat}(h:n<K.length)(g:Int×Int×Unit):f83 (((K,F,()),(g.1,g.2.1,()),()),(n:Int),())=some (((K.take (n+1),lowF F n,()),(g.1,g.2.1,()),()),()):=by
 have hf:=v.fl
 have h6:=v.n6
 have w0:wrap64 ((n:Int)+1)=((n+1:Nat):Int):=qai (by omega)
 have e85:=qmG K F g n (by omega) (qoi v) (by omega)
 have b0:(decide ((0:Int)≤((n+1:Nat):Int))&&decide (((n+1:Nat):Int)≤((n+1:Nat):Int))&&decide ((8:Int)*((n+1:Nat):Int)≤281474976710656)&&decide (((n+1:Nat):Int)≤281474976710656))=true:=by
  rw[dA (by omega) (by omega),Bool.true_and,dA (by omega) (by omega)]
 have b1:(decide ((0:Int)≤(n:Int))&&decide ((n:Int)<((n+1:Nat):Int)))=true:=dA (by omega) (by omega)
 have b2:(decide ((0:Int)≤((n+1:Nat):Int))&&decide (((n+1:Nat):Int)≤(K.length:Int)))=true:=dA (by omega) (by omega)
 have hll:=qdM F n (by omega)
 have hrep:(List.replicate (n+1) (0:Int)).length=n+1:=by simp
 have dn:(List.replicate (n+1) (0:Int)).drop (0+(n+1))=[]:=List.drop_eq_nil_of_le (by simp)
 have key:List.take 0 (List.replicate (n+1) (0:Int))++(F.take (n+1)++[])=F.take (n+1):=by simp
 have hlen:(F.take (n+1)).length=n+1:=by simp;omega
 have bq:Nat.beq (n+1) (lowF F n).length=true:=by rw[hll];exact Nat.beq_refl _
 have b4:Nat.ble (0+n+1) (n+1)=true:=ble_eq_true'.2 (by omega)
 have b5:Nat.ble (0+(n+1)) (n+1)=true:=ble_eq_true'.2 (by omega)
 have hset:(F.take (n+1)).set (0+n) (sF F n)=lowF F n:=by rw[Nat.zero_add];rfl
 by_cases hb:F.length≤n+1
 ·have bb:Nat.ble F.length (n+1)=true:=ble_eq_true'.2 hb
  have e:F.length=n+1:=by omega
  have dn':(List.replicate (n+1) (0:Int)).drop (0+F.length)=[]:=List.drop_eq_nil_of_le (by simp;omega)
  have tk:F.take F.length=F.take (n+1):=by rw[e]
  have b6:Nat.ble (0+F.length) (n+1)=true:=ble_eq_true'.2 (by omega)
  simp only[f83,t83,Tr.val_test,Tr.val_fin,Tr.val_stop,w0,b0,Int.toNat_natCast,bb,hrep,dn',tk,key,hlen,b6,g85,e85,b1,b4,b2,hset,bq,Option.isSome_some,Option.getD_some,if_true]
 ·have bb:Nat.ble F.length (n+1)=false:=by
   cases hq:Nat.ble F.length (n+1)with
   |false=>rfl
   |true=>exact absurd (ble_eq_true'.1 hq) hb
  simp only[f83,t83,Tr.val_test,Tr.val_fin,Tr.val_stop,w0,b0,Int.toNat_natCast,bb,hrep,dn,key,hlen,b5,g85,e85,b1,b4,b2,hset,bq,Option.isSome_some,Option.getD_some,if_true,Bool.false_eq_true,if_false]
theorem qrX(K F:List Int)(g1 g2 x y:Int)(n:Nat)(h:n<K.length)(hf:F.length=K.length)(h6:K.length≤1000000):f84 (((K,F,()),(g1,g2,()),()),(n:Int),(x,y,()),())=some (((K.drop (n+1),F.drop (n+1),()),(x,y,()),()),()):=by
 have w0:wrap64 ((n:Int)+1)=((n+1:Nat):Int):=qai (by omega)
 have b2:(decide ((0:Int)≤((n+1:Nat):Int))&&decide (((n+1:Nat):Int)≤(K.length:Int)))=true:=dA (by omega) (by omega)
 have b3:(decide ((0:Int)≤((n+1:Nat):Int))&&decide (((n+1:Nat):Int)≤(F.length:Int)))=true:=dA (by omega) (by omega)
 simp only[f84,t84,Tr.val_test,Tr.val_fin,Tr.val_stop,w0,b2,b3,Int.toNat_natCast,if_true]
def nE(K F:List Int)(x:Int):Int:=if(cK K F).2=0 then if wi 0 ((K.length:Int)-1) x=true then 0 else 6 else(cK K F).2
theorem qq9(l:List Fr)(n:Nat):(lgE l=0)↔(lgE (l.take n)=0∧lgE (l.drop n)=0):=by
 have key:∀l:List Fr,lgE l=0↔∀i,i<l.length→lgI l i=true:=fun l=>by
  unfold lgE
  constructor
  ·intro h i hi
   split at h
   ·rename_i h2
    have:=qaZ (Option.isNone_iff_eq_none.1 h2) i (Nat.zero_le _) (by omega)
    simpa using this
   ·cases h
  ·intro h
   rw[if_pos]
   rw[Option.isNone_iff_eq_none]
   exact qbR fun j _ hj=>by simp[h j (by omega)]
 have t:∀i,i<n→lgI (l.take n) i=lgI l i:=fun i hi=>by
  unfold lgI;simp only[List.getD,List.getElem?_take,if_pos hi]
 have d:∀i,lgI (l.drop n) i=lgI l (n+i):=fun i=>by
  unfold lgI;simp only[List.getD,List.getElem?_drop]
 rw[key,key,key]
 constructor
 ·intro h
  refine⟨fun i hi=>?_,fun i hi=>?_⟩
  ·rw[t i (by simp at hi;omega)];exact h i (by simp at hi;omega)
  ·rw[d];exact h _ (by simp at hi;omega)
 ·rintro⟨h1,h2⟩ i hi
  by_cases e:i<n
  ·rw[←t i e];exact h1 i (by simp;omega)
  ·have:=h2 (i-n) (by simp;omega)
   rw[d,show n+(i-n)=i by omega]at this
   exact this
theorem qaA(l:List Fr):lgE l=0∨lgE l=8:=by unfold lgE;split<;>simp
theorem quE(K F:List Int)(x:Int)(h:K.length≤1000000):f23 ((K,F,()),x,())=some (
  if nE K F x=0 then if lgE (mvL K F 0 K.length)=0 then(((mvL K F 0 K.length).take (x.toNat+1),(mvL K F 0 K.length).drop (x.toNat+1),sF F (x.toNat+1),()),(0:Int),())else(([],[],(0:Int),()),(8:Int),())
  else(([],[],(0:Int),()),nE K F x,())):=by
 have e79:=qmU K F h
 have c64:∀a b:Int,f64 ([a,b],())=some (if a=0 then b else a,()):=qkG
 by_cases h0:(cK K F).2=0
 ·rw[if_pos h0]at e79
  have v:=qqf h0
  have hf:=v.fl
  have h6:=v.n6
  have e82:=qit K F 0 1 x h
  have hn:nE K F x=if wi 0 ((K.length:Int)-1) x=true then 0 else 6:=by unfold nE;rw[if_pos h0]
  rw[hn]
  simp only[f23,t23,Tr.val_test,Tr.val_fin,Tr.val_stop,g79,e79,g82,e82,g64,c64,qag,Option.isSome_some,Option.getD_some,if_true]
  rcases Bool.eq_false_or_eq_true (wi 0 ((K.length:Int)-1) x)with hw|hw
  ·have hw':=wi_iff.1 hw
   obtain⟨n,rfl⟩:∃n:Nat,x=(n:Int):=⟨x.toNat,by omega⟩
   have hnK:n<K.length:=by omega
   have e83:=qst v hnK ((0:Int),(1:Int),())
   have hKl:(K.take (n+1)).length=n+1:=by simp;omega
   have e80:=qnq (qpq v hnK) (quJ v hnK) qhg (by rw[hKl];omega)
   rw[hKl,qtL K F n hnK hf]at e80
   rw[show((0:Rat).num,((0:Rat).den:Int),())=((0:Int),(1:Int),())from rfl]at e80
   have hml:=qam K F 0 K.length
   have htl:((mvL K F 0 K.length).take (n+1)).length=n+1:=by simp[hml];omega
   have b1:(decide ((0:Int)≤(n:Int))&&decide ((n:Int)<((n+1:Nat):Int)))=true:=dA (by omega) (by omega)
   have gd:((mvL K F 0 K.length).take (n+1)).getD n ((0:Int),(0:Int),())=pr (mvR K F 0 (n+1)):=by
    have:=qbb K F 0 K.length n (by omega)
    simp only[List.getD,List.getElem?_take,if_pos (show n<n+1 by omega)]at this ⊢
    exact this
   have e84:=qrX K F 0 1 (pr (mvR K F 0 (n+1))).1 (pr (mvR K F 0 (n+1))).2.1 n hnK hf (by omega)
   have hbd:=qnn (row_of v) qhg (n+1) (by omega)
   have hKd:(K.drop (n+1)).length=K.length-(n+1):=by simp
   have e80u:=qnq (qsm v (n+1)) (qvf v (n+1)) hbd (by rw[hKd];omega)
   rw[hKd,quz K F (n+1) (by omega)]at e80u
   have e80u':f80 (((K.drop (n+1),F.drop (n+1),()),((pr (mvR K F 0 (n+1))).1,(pr (mvR K F 0 (n+1))).2.1,()),()),())=_:=e80u
   have e81:=qoG ((mvL K F 0 K.length).take (n+1)) (by omega)
   have e81u:=qoG ((mvL K F 0 K.length).drop (n+1)) (by simp[hml];omega)
   have w0:wrap64 ((n:Int)+1)=((n+1:Nat):Int):=qai (by omega)
   have e85:=qmG K F ((0:Int),(1:Int),()) (n+1) (by omega) (qoi v) (by omega)
   have z:(!decide ((0:Int)=0))=false:=by decide
   have hs:=qq9 (mvL K F 0 K.length) (n+1)
   simp only[hw,if_true,z,Bool.false_eq_true,if_false,g83,e83,g80,e80,htl,b1,gd,Int.toNat_natCast,g84,e84,e80u',g81,e81,e81u,c64,Option.isSome_some,Option.getD_some,w0,g85,e85]
   by_cases k1:lgE ((mvL K F 0 K.length).take (n+1))=0
   ·by_cases k2:lgE ((mvL K F 0 K.length).drop (n+1))=0
    ·have k3:=hs.2 ⟨k1,k2⟩
     simp only[k1,k2,k3,decide_true,Bool.not_true,Bool.false_eq_true,if_true,if_false]
    ·have k3:¬lgE (mvL K F 0 K.length)=0:=fun e=>k2 (hs.1 e).2
     have k4:lgE ((mvL K F 0 K.length).drop (n+1))=8:=(qaA _).resolve_left k2
     simp only[k1,k4,k3,if_true,if_false];rfl
   ·have k3:¬lgE (mvL K F 0 K.length)=0:=fun e=>k1 (hs.1 e).1
    have k4:lgE ((mvL K F 0 K.length).take (n+1))=8:=(qaA _).resolve_left k1
    simp only[k4,k3,if_true,if_false];rfl
  ·simp only[hw,Bool.false_eq_true,if_false,if_true];rfl
 ·rw[if_neg h0]at e79
  have e82:=qit [] [] 0 0 x (by simp)
  have hn:nE K F x=(cK K F).2:=by unfold nE;rw[if_neg h0]
  rw[hn]
  simp only[f23,t23,Tr.val_test,Tr.val_fin,Tr.val_stop,g79,e79,g82,e82,g64,c64,qag,Option.isSome_some,Option.getD_some,if_true,h0,if_false,decide_false,Bool.not_false]
def cmn(K:List Int):Nat→Nat
 |0=>1
 |i+1=>cmn K i/Nat.gcd (cmn K i) (K.getD i 0).toNat*(K.getD i 0).toNat
theorem qra(a k:Nat)(ha:0<a)(hk:0<k):0<a/Nat.gcd a k*k∧a ∣ a/Nat.gcd a k*k∧k ∣ a/Nat.gcd a k*k∧a/Nat.gcd a k*k≤a*k:=by
 have hg:0<Nat.gcd a k:=Nat.gcd_pos_of_pos_left _ ha
 obtain⟨p,hp⟩:=Nat.gcd_dvd_left a k
 obtain⟨q,hq⟩:=Nat.gcd_dvd_right a k
 generalize hgg:Nat.gcd a k=g at *
 have e:a/g=p:=by rw[hp];exact Nat.mul_div_cancel_left p hg
 rw[e]
 refine⟨?_,⟨q,?_⟩,Nat.dvd_mul_left _ _,?_⟩
 ·rcases Nat.eq_zero_or_pos p with h|h
  ·subst h;simp at hp;omega
  ·exact Nat.mul_pos h hk
 ·rw[hq,hp,Nat.mul_comm g p,Nat.mul_assoc]
 ·exact Nat.mul_le_mul_right _ (by rw[hp];exact Nat.le_mul_of_pos_left _ hg)
theorem qkV{K F:List Int}(R:Row K F):∀i,i≤K.length→0<cmn K i∧cmn K i≤20^i∧∀j,j<i→(K.getD j 0).toNat ∣ cmn K i
 |0,_=>⟨Nat.one_pos,Nat.le_refl _,fun j h=>by omega⟩
 |i+1,h=>by
  obtain⟨h1,h2,h3⟩:=qkV R i (by omega)
  have k1:=R.k1 i (by omega)
  have k2:=R.k2 i (by omega)
  obtain⟨s1,s2,s3,s4⟩:=qra (cmn K i) (K.getD i 0).toNat h1 (by omega)
  refine⟨s1,?_,fun j hj=>?_⟩
  ·rw[Nat.pow_succ]
   exact Nat.le_trans s4 (Nat.mul_le_mul h2 (by omega))
  ·by_cases e:j=i
   ·subst e;exact s3
   ·exact Nat.dvd_trans (h3 j (by omega)) s2
theorem qpz{K F:List Int}(R:Row K F){i:Nat}(h:i≤K.length):cmn K i≤64000000:=
 Nat.le_trans (qkV R i h).2.1 (Nat.le_trans (Nat.pow_le_pow_right (by omega) (Nat.le_trans h R.n6)) (by decide))
theorem wrapN{q:Nat}(h:q≤64000000000):IntKind.wrap .i64 (q:Int)=(q:Int):=qdK (by omega) (by omega)
theorem qja{l:List Fr}(h:lgE l=0):lgF l=none:=by
 unfold lgE at h
 split at h
 ·rename_i h2;exact Option.isNone_iff_eq_none.1 h2
 ·cases h
theorem qva{l:List Fr}(h:¬lgE l=0):∃k,lgF l=some k:=by
 cases hf:lgF l with
 |none=>exact absurd (by unfold lgE;rw[hf];rfl) h
 |some k=>exact⟨k,rfl⟩
theorem qu3{K F:List Int}(R:Row K F){i:Nat}(h:i<K.length):f91 ((cmn K i:Int),K.getD i 0,())=some (((Nat.gcd (cmn K i) (K.getD i 0).toNat:Nat):Int),())∧(((Nat.gcd (cmn K i) (K.getD i 0).toNat:Nat):Int)==0)=false ∧
  wrap64 (IntKind.wrap .i64 (Int.tdiv (cmn K i:Int) ((Nat.gcd (cmn K i) (K.getD i 0).toNat:Nat):Int))*K.getD i 0)=(cmn K (i+1):Int):=by
 have k1:=R.k1 i h
 have k2:=R.k2 i h
 have hc:=qpz R (i:=i) (by omega)
 have hc1:=qpz R (i:=i+1) (by omega)
 have hp:=(qkV R i (by omega)).1
 have hg:0<Nat.gcd (cmn K i) (K.getD i 0).toNat:=Nat.gcd_pos_of_pos_left _ hp
 have hK:((K.getD i 0).toNat:Int)=K.getD i 0:=by omega
 refine⟨?_,beq_false_of_ne (by omega),?_⟩
 ·have e:=qrW (cmn K i:Int) (K.getD i 0) (by omega) (by omega)
  have eg:Int.gcd (cmn K i:Int) (K.getD i 0)=Nat.gcd (cmn K i) (K.getD i 0).toNat:=by
   rw[←hK];rfl
  rw[eg]at e;exact e
 ·have e1:Int.tdiv (cmn K i:Int) ((Nat.gcd (cmn K i) (K.getD i 0).toNat:Nat):Int)=((cmn K i/Nat.gcd (cmn K i) (K.getD i 0).toNat:Nat):Int):=by
   rw[Int.tdiv_eq_ediv_of_nonneg (by omega)];rfl
  have hle:cmn K i/Nat.gcd (cmn K i) (K.getD i 0).toNat≤cmn K i:=Nat.div_le_self _ _
  rw[e1,wrapN (by omega)]
  have e2:((cmn K i/Nat.gcd (cmn K i) (K.getD i 0).toNat:Nat):Int)*K.getD i 0=(cmn K (i+1):Int):=by
   rw[cmn,Int.natCast_mul,hK]
  rw[e2];exact qab (by omega) (by omega)
def SS(K F:List Int):Nat→Int
 |0=>0
 |i+1=>SS K F i+sF F i*((cmn K K.length/(K.getD i 0).toNat:Nat):Int)
theorem qvd{K F:List Int}(R:Row K F):∀i,i≤K.length→-(6000*64000000*(i:Int))≤SS K F i∧SS K F i≤6000*64000000*(i:Int)
 |0,_=>by simp[SS]
 |i+1,h=>by
  have ih:=qvd R i (by omega)
  have hs:=R.s i (by omega)
  have hc:=qpz R (i:=K.length) (Nat.le_refl _)
  have hq:cmn K K.length/(K.getD i 0).toNat≤64000000:=Nat.le_trans (Nat.div_le_self _ _) hc
  have hm:-(6000*64000000)≤sF F i*((cmn K K.length/(K.getD i 0).toNat:Nat):Int)∧sF F i*((cmn K K.length/(K.getD i 0).toNat:Nat):Int)≤6000*64000000:=by
   have h1:(sF F i*((cmn K K.length/(K.getD i 0).toNat:Nat):Int)).natAbs≤6000*64000000:=by
    rw[Int.natAbs_mul,Int.natAbs_natCast]
    exact Nat.mul_le_mul (by omega) hq
   omega
  simp only[SS]
  omega
theorem quW{K F:List Int}(R:Row K F)(hC:cmn K K.length≠0):∀i,i≤K.length→Rat.normalize (SS K F i) (cmn K K.length) hC=mvR K F 0 i
 |0,_=>by
  show Rat.normalize 0 _ _=0
  simp
 |i+1,h=>by
  have ih:=quW R hC i (by omega)
  have k1:=R.k1 i (by omega)
  have hK:(K.getD i 0).toNat≠0:=by omega
  obtain⟨q,hq⟩:=(qkV R K.length (Nat.le_refl _)).2.2 i (by omega)
  show _=mvR K F 0 i+mkRat (sF F i) (K.getD i 0).toNat
  rw[←ih,qdN _ _ hK,Rat.normalize_add_normalize,Rat.normalize_eq_iff]
  have hdiv:cmn K K.length/(K.getD i 0).toNat=q:=by rw[hq];exact Nat.mul_div_cancel_left q (by omega)
  simp only[SS,hdiv,hq,Int.natCast_mul]
  grind
def okP(r:Rat):Bool:=wi (-1000000000) 1000000000 r.num&&wi (-1000000000) 1000000000 (r.den:Int)
theorem qqF(K F:List Int)(g:Rat)(n:Nat):lgF (mvL K F g n)=first (fun i=>!okP (mvR K F g (i+1))) n 0:=by
 unfold lgF
 rw[qam]
 refine qdS fun j _ hj=>?_
 unfold lgI
 rw[qbb K F g n j (by omega)];rfl
def oneF(n:Nat):List Int:=(List.replicate n (0:Int)).set (n-1) 1
theorem qjL(n i:Nat)(hi:i<n):(oneF n).getD i 0=if i=n-1 then 1 else 0:=by
 unfold oneF
 simp only[List.getD,List.getElem?_set]
 by_cases e:n-1=i
 ·subst e
  have hlt:n-1<(List.replicate n (0:Int)).length:=by simp;omega
  rw[if_pos rfl,if_pos hlt,if_pos rfl];rfl
 ·rw[if_neg e,if_neg (fun h=>e h.symm),List.getElem?_replicate,if_pos hi];rfl
theorem qfg(n:Nat):(oneF n).length=n:=by simp[oneF]
theorem qnf(n:Nat):∀d i,i+d+1=n→sF (oneF n) i=1
 |0,i,e=>by
  have hl:=qfg n
  rw[qea _ _ (by omega),qp6 _ _ (by omega),qjL n i (by omega),if_pos (by omega)];rfl
 |d+1,i,e=>by
  have hl:=qfg n
  rw[qea _ _ (by omega),qnf n d (i+1) (by omega),qjL n i (by omega),if_neg (by omega)];rfl
theorem row_one{K F:List Int}(v:VC K F):Row K (oneF K.length):=
 ⟨v.n6,qfg _,v.k1,v.k2,fun i hi=>by rw[qnf K.length (K.length-1-i) i (by omega)];omega⟩
theorem qup(n:Nat):∀i,i<(oneF n).length→-6000≤(oneF n).getD i 0∧(oneF n).getD i 0≤6000:=fun i hi=>by
 rw[qfg]at hi
 rw[qjL n i hi]
 split<;>omega
def yld(K:List Int):Rat:=mvR K (oneF K.length) 0 K.length
theorem qt7(K F:List Int)(h:K.length≤1000000):f26 ((K,F,()),())=some (if(cK K F).2=0 then((((yld K).den:Int),(yld K).num,()),(0:Int),())else(((0:Int),(0:Int),()),(cK K F).2,())):=by
 have e79:=qmU K F h
 by_cases h0:(cK K F).2=0
 ·rw[if_pos h0]at e79
  have v:=qqf h0
  have hf:=v.fl
  have h6:=v.n6
  have hn0:=v.n0
  have w0:wrap64 ((K.length:Int)-1)=((K.length-1:Nat):Int):=by rw[qab (by omega) (by omega)];omega
  have w1:wrap64 (((K.length-1:Nat):Int)+1)=(K.length:Int):=by rw[qab (by omega) (by omega)];omega
  have b0:(decide ((0:Int)≤(K.length:Int))&&decide ((K.length:Int)≤(K.length:Int))&&decide ((8:Int)*(K.length:Int)≤281474976710656)&&decide ((K.length:Int)≤281474976710656))=true:=by
   rw[dA (by omega) (by omega),Bool.true_and,dA (by omega) (by omega)]
  have b1:(decide ((0:Int)≤((K.length-1:Nat):Int))&&decide (((K.length-1:Nat):Int)<(K.length:Int)))=true:=dA (by omega) (by omega)
  have b2:Nat.ble (0+(K.length-1)+1) (List.replicate K.length (0:Int)).length=true:=ble_eq_true'.2 (by simp;omega)
  have hs:(List.replicate K.length (0:Int)).set (0+(K.length-1)) 1=oneF K.length:=by rw[Nat.zero_add];rfl
  have bq:Nat.beq K.length (oneF K.length).length=true:=by rw[qfg];exact Nat.beq_refl _
  have e80:=qnq (row_one v) (qup K.length) qhg (by omega)
  rw[show((0:Rat).num,((0:Rat).den:Int),())=((0:Int),(1:Int),())from rfl]at e80
  have hml:=qam K (oneF K.length) 0 K.length
  have gd:(mvL K (oneF K.length) 0 K.length).getD (K.length-1) ((0:Int),(0:Int),())=pr (yld K):=by
   rw[qbb _ _ _ _ _ (by omega),show K.length-1+1=K.length by omega];rfl
  simp only[f26,t26,Tr.val_test,Tr.val_fin,Tr.val_stop,g79,e79,qag,h0,w0,w1,b0,Int.toNat_natCast,b1,b2,hs,bq,g80,e80,hml,gd,Option.isSome_some,Option.getD_some,if_true,if_false,decide_true,Bool.not_true,Bool.false_eq_true]
  rfl
 ·rw[if_neg h0]at e79
  simp only[f26,t26,Tr.val_test,Tr.val_fin,Tr.val_stop,g79,e79,qag,h0,Option.isSome_some,Option.getD_some,if_true,if_false,decide_false,Bool.not_false]
theorem qtY{K F:List Int}(v:VC K F):∀i,i≤K.length→(i:Int)≤SS K (oneF K.length) i
 |0,_=>by simp[SS]
 |i+1,h=>by
  have ih:=qtY v i (by omega)
  have k1:=v.k1 i (by omega)
  obtain⟨c1,_,c3⟩:=qkV (row_one v) K.length (Nat.le_refl _)
  have hq:0<cmn K K.length/(K.getD i 0).toNat:=Nat.div_pos (Nat.le_of_dvd c1 (c3 i (by omega))) (by omega)
  simp only[SS]
  rw[qnf K.length (K.length-1-i) i (by omega)]
  omega
theorem qsd{n d:Int}:(Int.gcd d n=1)↔(Int.gcd n d=1):=by rw[Int.gcd_comm]
def perr(n d:Int):Int:=if d≤0 then 3 else if Int.gcd d n=1 then(if(wi (-1000000000) 1000000000 n&&wi (-1000000000) 1000000000 d)=true then 0 else 2)else 3
theorem quu(n d:Int)(h1:-9223372036854775808≤n)(h2:n≤9223372036854775807)(h3:-9223372036854775808≤d)(h4:d≤9223372036854775807):f89 ((n,d,()),())=some (perr n d,()):=by
 have e78:=qo4 1000000000 n d (by omega) (by omega)
 have c64:∀a b:Int,f64 ([a,b],())=some (if a=0 then b else a,()):=qkG
 by_cases h0:d≤0
 ·have b0:decide (d≤0)=true:=dT h0
  simp only[f89,t89,Tr.val_test,Tr.val_fin,Tr.val_stop,qad,qag,b0,if_true,g60,qe9,g78,e78,g64,c64,Option.isSome_some,Option.getD_some,perr,h0]
  rfl
 ·have b0:decide (d≤0)=false:=dF h0
  have hg:Int.gcd d n≤9223372036854775807:=by
   have:=qfT n d.toNat (by omega)
   rw[show((d.toNat:Nat):Int)=d by omega]at this
   omega
  have e123:=qnc d n (by omega) hg
  simp only[f89,t89,Tr.val_test,Tr.val_fin,Tr.val_stop,qad,qag,b0,if_true,g60,qe9,g78,e78,g64,c64,g123,e123,Option.isSome_some,Option.getD_some,perr,h0,if_false,Bool.false_eq_true]
  by_cases h5:Int.gcd d n=1
  ·have b1:(!decide ((Int.gcd d n:Int)=1))=false:=nF (by omega)
   simp only[b1,h5,if_true,Bool.false_eq_true,if_false]
   rcases Bool.eq_false_or_eq_true (wi (-1000000000) 1000000000 n&&wi (-1000000000) 1000000000 d)with hA|hA<;>simp only[hA]<;>rfl
  ·have b1:(!decide ((Int.gcd d n:Int)=1))=true:=nT (by omega)
   simp only[b1,h5,if_true,if_false]
   rfl
theorem qtK{n d:Int}(h:perr n d=0):0<d∧Int.gcd n d=1∧n.natAbs≤1000000000∧d≤1000000000:=by
 unfold perr at h
 split at h
 ·cases h
 ·split at h
  ·rename_i h0 h1
   split at h
   ·rename_i h2
    simp only[Bool.and_eq_true,wi_iff]at h2
    rw[Int.gcd_comm]at h1
    exact⟨by omega,h1,by omega,by omega⟩
   ·cases h
  ·cases h
def uR(p:Fr):Rat:=mkRat p.1 p.2.1.toNat
abbrev z3:Fr:=((0:Int),(0:Int),())
def pe(l:List Fr)(i:Nat):Int:=perr (l.getD i z3).1 (l.getD i z3).2.1
def peF(l:List Fr):Option Nat:=first (fun i=>!decide (pe l i=0)) l.length 0
def W64(l:List Fr):Prop:=∀i,i<l.length→(-9223372036854775808≤(l.getD i z3).1∧(l.getD i z3).1≤9223372036854775807)∧(-9223372036854775808≤(l.getD i z3).2.1∧(l.getD i z3).2.1≤9223372036854775807)
theorem qrj(l:List Fr)(h:l.length≤1000000)(hw:W64 l):l86_0_1 ((l,(l.length:Int),(0:Int),()),())=match peF l with
  |some k=>some (.inr (((k:Int),pe l k,()),()))
  |none=>some (.inl ((),())):=by
 refine qbl (fun i=>((l,(l.length:Int),(i:Int),()),())) (fun i=>!decide (pe l i=0)) (fun k=>(((k:Int),pe l k,()),())) (n:=l.length) ?_ ?_ (qal (by omega))
 ·intro i hi
  have b0:(!decide ((l.length:Int)≤(i:Int)))=true:=nT (by omega)
  have b1:(decide ((0:Int)≤(i:Int))&&decide ((i:Int)<(l.length:Int)))=true:=dA (by omega) (by omega)
  have h1:=hw i hi
  have e89:f89 (((l.getD i ((0:Int),(0:Int),())).1,(l.getD i ((0:Int),(0:Int),())).2.1,()),())=some (pe l i,()):=quu _ _ h1.1.1 h1.1.2 h1.2.1 h1.2.2
  simp only[s86_0_1,t86_0_1,Tr.val_test,Tr.val_fin,Tr.val_stop,qad,qag,b0,b1,if_true,g89,e89,Int.toNat_natCast,qai (show i≤9223372036854775806 by omega),Option.isSome_some,Option.getD_some]
 ·simp[s86_0_1,t86_0_1,qad]
theorem quR(L U:List Fr)(h1:L.length≤1000000)(h2:U.length≤1000000):f87 (([L,U],()):Tys.data as87)=some (L++U,()):=by
 have w0:wrap64 ((0:Int)+(L.length:Int))=(L.length:Int):=by rw[Int.zero_add];exact qab (by omega) (by omega)
 have w1:wrap64 ((L.length:Int)+(U.length:Int))=((L.length+U.length:Nat):Int):=by rw[qab (by omega) (by omega)];rfl
 have w2:wrap64 (((L.length+U.length:Nat):Int)-0)=((L.length+U.length:Nat):Int):=by rw[qab (by omega) (by omega)];omega
 have b0:(true&&decide ((0:Int)<2))=true:=by decide
 have b1:(true&&decide ((1:Int)<2))=true:=by decide
 have b2:(!decide ((0:Int)≤(L.length:Int)))=false:=nF (by omega)
 have b3:(!decide ((0:Int)≤((L.length+U.length:Nat):Int)))=false:=nF (by omega)
 have eT:T87 ([L,U],())=t87 L U:=rfl
 by_cases hn:L.length+U.length=0
 ·have eL:L=[]:=List.eq_nil_of_length_eq_zero (by omega)
  have eU:U=[]:=List.eq_nil_of_length_eq_zero (by omega)
  subst eL eU
  rfl
 ·have b4:(!decide (((L.length+U.length:Nat):Int)≤0))=true:=nT (by omega)
  have b5:(decide ((0:Int)<((L.length+U.length:Nat):Int))&&decide ((2*((L.length+U.length:Nat):Int)+192)*16≤281474976710656)&&decide (((L.length+U.length:Nat):Int)≤281474976710656))=true:=by
   rw[dA (by omega) (by omega),Bool.true_and,dT (by omega)]
  have b6:(true&&decide ((0:Int)≤((L.length+U.length:Nat):Int)))=true:=by rw[Bool.true_and];exact dT (by omega)
  have b7:Nat.beq 0 (List.replicate (L.length+U.length) ((0:Int),(0:Int),())).length=false:=by
   rw[List.length_replicate]
   cases h:Nat.beq 0 (L.length+U.length)with
   |false=>rfl
   |true=>exact absurd (beq_eq_true'.1 h) (by omega)
  have b8:Nat.ble 0 (List.replicate (L.length+U.length) ((0:Int),(0:Int),())).length=true:=ble_eq_true'.2 (by omega)
  have t0:List.take 0 (List.replicate (L.length+U.length) ((0:Int),(0:Int),()))=[]:=rfl
  by_cases hL:L.length=0
  ·have eL:L=[]:=List.eq_nil_of_length_eq_zero hL
   have c0:Nat.beq L.length 0=true:=beq_eq_true'.2 hL
   have c1:Nat.beq U.length 0=false:=by
    cases h:Nat.beq U.length 0 with
    |false=>rfl
    |true=>exact absurd (beq_eq_true'.1 h) (by omega)
   have c2:(Nat.ble ((2*(0+U.length)+192)*16) 281474976710656&&Nat.ble (0+U.length) 281474976710656)=true:=by
    simp only[Bool.and_eq_true,ble_eq_true'];omega
   have c3:Nat.beq (0+U.length) ([]++U).length=true:=beq_eq_true'.2 (by simp)
   simp only[f87,eT,t87,Tr.val_test,Tr.val_fin,Tr.val_stop,w0,w1,w2,b0,b1,b2,b3,b4,b5,b6,b7,b8,t0,c0,c1,c2,c3,qad,Int.toNat_natCast,if_true,if_false,Bool.false_eq_true]
   subst eL
   rfl
  ·have c0:Nat.beq L.length 0=false:=by
    cases h:Nat.beq L.length 0 with
    |false=>rfl
    |true=>exact absurd (beq_eq_true'.1 h) (by omega)
   have c2:(Nat.ble ((2*(0+L.length)+192)*16) 281474976710656&&Nat.ble (0+L.length) 281474976710656)=true:=by
    simp only[Bool.and_eq_true,ble_eq_true'];omega
   have c3:Nat.beq (0+L.length) ([]++L).length=true:=beq_eq_true'.2 (by simp)
   by_cases hU:U.length=0
   ·have eU:U=[]:=List.eq_nil_of_length_eq_zero hU
    have c1:Nat.beq U.length 0=true:=beq_eq_true'.2 hU
    simp only[f87,eT,t87,Tr.val_test,Tr.val_fin,Tr.val_stop,w0,w1,w2,b0,b1,b2,b3,b4,b5,b6,b7,b8,t0,c0,c1,c2,c3,qad,Int.toNat_natCast,if_true,if_false,Bool.false_eq_true]
    subst eU
    simp
   ·have c1:Nat.beq U.length 0=false:=by
     cases h:Nat.beq U.length 0 with
     |false=>rfl
     |true=>exact absurd (beq_eq_true'.1 h) (by omega)
    have c4:(Nat.ble ((2*(0+L.length+U.length)+192)*16) 281474976710656&&Nat.ble (0+L.length+U.length) 281474976710656)=true:=by
     simp only[Bool.and_eq_true,ble_eq_true'];omega
    have c5:Nat.beq (0+L.length+U.length) ([]++L++U).length=true:=beq_eq_true'.2 (by simp)
    simp only[f87,eT,t87,Tr.val_test,Tr.val_fin,Tr.val_stop,w0,w1,w2,b0,b1,b2,b3,b4,b5,b6,b7,b8,t0,c0,c1,c2,c3,c4,c5,qad,Int.toNat_natCast,if_true,if_false,Bool.false_eq_true]
    rfl
theorem qsZ(n:Int)(d:Nat)(hd:d≠0)(hn:n.natAbs≤4000000000000000000):f164 (n,(d:Int),())=some (n/(d:Int),()):=by
 have z0:((d:Int)==0)=false:=beq_false_of_ne (by omega)
 have hb:=Int.natAbs_ediv_le_natAbs n (d:Int)
 have hc:=Int.natAbs_tdiv_le_natAbs n (d:Int)
 have w1:IntKind.wrap .i64 (Int.tdiv n (d:Int))=Int.tdiv n (d:Int):=qdK (by omega) (by omega)
 have h0:=Int.emod_nonneg n (show(d:Int)≠0 by omega)
 have h1:=Int.emod_lt_of_pos n (show 0<(d:Int)by omega)
 have e1:=@Int.tdiv_eq_ediv n (d:Int)
 have e2:=@Int.tmod_eq_emod n (d:Int)
 simp only[f164,t164,Tr.val_test,Tr.val_fin,Tr.val_stop,z0,Bool.false_eq_true,if_false,qad,w1]
 by_cases h:0≤n∨(d:Int) ∣ n
 ·rw[if_pos h]at e1 e2
  have b:(!decide (0≤Int.tmod n (d:Int)))=false:=nF (by omega)
  simp only[b,Bool.false_eq_true,if_false,e1,Int.add_zero]
 ·rw[if_neg h]at e1 e2
  have b:(!decide (0≤Int.tmod n (d:Int)))=true:=nT (by omega)
  have hs:(d:Int).sign=1:=Int.sign_eq_one_of_pos (by omega)
  rw[hs]at e1
  have w2:wrap64 (Int.tdiv n (d:Int)-1)=n/(d:Int):=by rw[qab (by omega) (by omega)];omega
  simp only[b,if_true,w2]
theorem qsD(n:Int)(d:Nat)(hd:d≠0)(hn:n.natAbs≤2000000000000000000)(h2:d≤2000000000000000000):f158 (n,(d:Int),())=some ((n/(d:Int),pr (Rat.normalize (n%(d:Int)) d hd),()),()):=by
 have e0:=qsZ n d hd (by omega)
 have h0:=Int.emod_nonneg n (show(d:Int)≠0 by omega)
 have h1:=Int.emod_lt_of_pos n (show 0<(d:Int)by omega)
 have e1:=Int.emod_add_mul_ediv n (d:Int)
 rw[Int.mul_comm]at e1
 have w1:wrap64 (n-wrap64 (n/(d:Int)*(d:Int)))=n%(d:Int):=by
  rw[qab (n:=n/(d:Int)*(d:Int)) (by omega) (by omega),qab (by omega) (by omega)];omega
 have e2:=ql5 (n%(d:Int)) d hd (by omega) (by omega)
 simp only[f158,t158,Tr.val_test,Tr.val_fin,Tr.val_stop,g164,e0,Option.isSome_some,Option.getD_some,if_true,w1,g120,e2]
structure Mx(w:Int)(r q:Rat):Prop where
 eq:(w:Rat)+r=q
 nn:0≤r
 lt:r<1
theorem qma(n:Int)(d:Nat)(hd:d≠0)(hn:n.natAbs≤2000000000000000000)(h2:d≤2000000000000000000):
  ∃w r,f158 (n,(d:Int),())=some ((w,pr r,()),())∧Mx w r (mkRat n d)∧w.natAbs≤n.natAbs∧r.den≤d:=by
 obtain⟨q1,q2,q3⟩:=qt4 n d hd
 exact⟨_,_,qsD n d hd hn h2,⟨by rw[q3,qdN],q1,q2⟩,Int.natAbs_ediv_le_natAbs _ _,by rw[Rat.normalize_eq];exact Nat.div_le_self _ _⟩
theorem qr7{r:Rat}(h0:0≤r)(h1:r<1):0≤r.num∧r.num<(r.den:Int):=by
 refine⟨Rat.num_nonneg.2 h0,?_⟩
 rw[Rat.lt_iff]at h1
 have h1:r.num*1<1*(r.den:Int):=h1
 omega
theorem qpm{w1 w2:Int}{r1 r2 q1 q2:Rat}(m1:Mx w1 r1 q1)(m2:Mx w2 r2 q2)(b1:r1.den≤1000000000)(b2:r2.den≤1000000000)(c1:w1.natAbs≤1000000000000)(c2:w2.natAbs≤1000000000000):
  ∃w r,f159 ((w1,pr r1,()),(w2,pr r2,()),())=some ((w,pr r,()),())∧Mx w r (q1-q2)∧w.natAbs≤2000000000000000000:=by
 obtain⟨n1,l1⟩:=qr7 m1.nn m1.lt
 obtain⟨n2,l2⟩:=qr7 m2.nn m2.lt
 have p1:(r1.num*(r2.den:Int)).natAbs≤1000000000*1000000000:=by
  rw[Int.natAbs_mul,Int.natAbs_natCast];exact Nat.mul_le_mul (by omega) b2
 have p2:(r2.num*(r1.den:Int)).natAbs≤1000000000*1000000000:=by
  rw[Int.natAbs_mul,Int.natAbs_natCast];exact Nat.mul_le_mul (by omega) b1
 have p3:r1.den*r2.den≤1000000000*1000000000:=Nat.mul_le_mul b1 b2
 have s1:0≤r1.num*(r2.den:Int):=Int.mul_nonneg n1 (by omega)
 have s2:0≤r2.num*(r1.den:Int):=Int.mul_nonneg n2 (by omega)
 have w3:wrap64 (wrap64 (r1.num*(r2.den:Int))-wrap64 (r2.num*(r1.den:Int)))=r1.num*(r2.den:Int)-r2.num*(r1.den:Int):=by
  rw[qab (n:=r1.num*(r2.den:Int)) (by omega) (by omega),qab (n:=r2.num*(r1.den:Int)) (by omega) (by omega),qab (by omega) (by omega)]
 have w4:wrap64 ((r1.den:Int)*(r2.den:Int))=((r1.den*r2.den:Nat):Int):=by
  rw[←Int.natCast_mul];exact qab (by omega) (by omega)
 have hne:r1.den*r2.den≠0:=qoZ r1.den_nz r2.den_nz
 obtain⟨w,r,e,m,hw,hd⟩:=qma (r1.num*(r2.den:Int)-r2.num*(r1.den:Int)) (r1.den*r2.den) hne (by omega) (by omega)
 have hsub:mkRat (r1.num*(r2.den:Int)-r2.num*(r1.den:Int)) (r1.den*r2.den)=r1-r2:=by
  rw[qdN _ _ hne,Rat.sub_def]
 rw[hsub]at m
 have w5:wrap64 (wrap64 (w1-w2)+w)=w1-w2+w:=by
  rw[qab (n:=w1-w2) (by omega) (by omega),qab (by omega) (by omega)]
 refine⟨w1-w2+w,r,?_,⟨?_,m.nn,m.lt⟩,by omega⟩
 ·simp only[f159,t159,Tr.val_test,Tr.val_fin,Tr.val_stop,pr,w3,w4,g158,e,w5,Option.isSome_some,Option.getD_some,if_true]
 ·have e1:=m1.eq
  have e2:=m2.eq
  have e3:=m.eq
  rw[←e1,←e2,Rat.intCast_add,Rat.intCast_sub]
  grind
structure Gp(p:Fr):Prop where
 d0:0<p.2.1
 d1:p.2.1≤1000000000
 n1:p.1.natAbs≤1000000000
def tens(K:List Int)(g:Fr)(U:List Fr)(k:Nat):Rat:=if k=U.length then 0 else(K.getD k 0:Rat)*(uR (U.getD k z3)-if k=0 then uR g else uR (U.getD (k-1) z3))
theorem qox(k n:Int)(d:Nat):mkRat (k*n) d=(k:Rat)*mkRat n d:=by
 rw[Rat.mkRat_eq_div,Rat.mkRat_eq_div,Rat.intCast_mul]
 grind
theorem qg0{K:List Int}{k:Nat}(k1:1≤K.getD k 0)(k2:K.getD k 0≤20){p:Fr}(hp:Gp p):
  ∃w r,f158 (wrap64 (K.getD k 0*p.1),p.2.1,())=some ((w,pr r,()),())∧Mx w r ((K.getD k 0:Rat)*uR p)∧w.natAbs≤1000000000000∧r.den≤1000000000:=by
 have h1:=hp.d0
 have h2:=hp.d1
 have h3:=hp.n1
 have hm:(K.getD k 0*p.1).natAbs≤20*1000000000:=by rw[Int.natAbs_mul];exact Nat.mul_le_mul (by omega) h3
 have w1:wrap64 (K.getD k 0*p.1)=K.getD k 0*p.1:=qab (by omega) (by omega)
 obtain⟨w,r,e,m,hw,hd⟩:=qma (K.getD k 0*p.1) p.2.1.toNat (by omega) (by omega) (by omega)
 rw[show((p.2.1.toNat:Nat):Int)=p.2.1 by omega]at e
 rw[qox]at m
 exact⟨w,r,by rw[w1];exact e,m,by omega,by omega⟩
theorem qpT{K F:List Int}{g:Fr}{U:List Fr}(h6:U.length≤1000000)(hl:K.length=U.length)(k1:∀i,i<K.length→1≤K.getD i 0)(k2:∀i,i<K.length→K.getD i 0≤20)
  (hg:Gp g) (hU:∀i,i<U.length→Gp (U.getD i z3)) {k:Nat} (hk:k≤U.length):
  ∃w r,f125 (((K,F,()),(g.1,g.2.1,()),()),(k:Int),U,())=some ((w,pr r,()),())∧Mx w r (tens K g U k)∧w.natAbs≤2000000000000000000:=by
 unfold tens
 by_cases hlast:k=U.length
 ·rw[if_pos hlast]
  have b0:decide ((k:Int)=(U.length:Int))=true:=dT (by omega)
  obtain⟨w,r,e,m,hw,hd⟩:=qma 0 1 (by omega) (by simp) (by omega)
  have e:f158 ((0:Int),(1:Int),())=some ((w,pr r,()),()):=e
  refine⟨w,r,?_,?_,?_⟩
  ·simp only[f125,t125,Tr.val_test,Tr.val_fin,Tr.val_stop,qag,b0,if_true,g158,e,Option.isSome_some,Option.getD_some]
  ·rw[Rat.zero_mkRat]at m;exact m
  ·have:w.natAbs≤0:=hw
   omega
 ·rw[if_neg hlast]
  have b0:decide ((k:Int)=(U.length:Int))=false:=dF (by omega)
  obtain⟨w1,r1,e1,m1,hw1,hd1⟩:=qg0 (K:=K) (k1 k (by omega)) (k2 k (by omega)) (hU k (by omega))
  have b1:(decide ((0:Int)≤(k:Int))&&decide ((k:Int)<(K.length:Int)))=true:=dA (by omega) (by omega)
  have b2:(decide ((0:Int)≤(k:Int))&&decide ((k:Int)<(U.length:Int)))=true:=dA (by omega) (by omega)
  have rw3:∀a b c:Rat,a*(b-c)=a*b-a*c:=fun a b c=>by grind
  by_cases h0:k=0
  ·subst h0
   rw[if_pos rfl,rw3]
   obtain⟨w2,r2,e2,m2,hw2,hd2⟩:=qg0 (K:=K) (k1 0 (by omega)) (k2 0 (by omega)) hg
   obtain⟨w,r,e,m,hw⟩:=qpm m1 m2 hd1 hd2 hw1 hw2
   have b3:(!decide (((0:Nat):Int)≤0))=false:=by decide
   refine⟨w,r,?_,m,hw⟩
   simp only[pr]at e1 e2 e ⊢
   simp only[f125,t125,Tr.val_test,Tr.val_fin,Tr.val_stop,qag,qad,b0,b1,b2,b3,if_true,if_false,Bool.false_eq_true,Int.toNat_natCast,g158,e1,e2,g159,e,Option.isSome_some,Option.getD_some]
  ·rw[if_neg h0,rw3]
   obtain⟨w2,r2,e2,m2,hw2,hd2⟩:=qg0 (K:=K) (k1 k (by omega)) (k2 k (by omega)) (hU (k-1) (by omega))
   obtain⟨w,r,e,m,hw⟩:=qpm m1 m2 hd1 hd2 hw1 hw2
   have b3:(!decide ((k:Int)≤0))=true:=nT (by omega)
   have w0:wrap64 ((k:Int)-1)=((k-1:Nat):Int):=by rw[qab (by omega) (by omega)];omega
   have b4:(decide ((0:Int)≤((k-1:Nat):Int))&&decide (((k-1:Nat):Int)<(U.length:Int)))=true:=dA (by omega) (by omega)
   refine⟨w,r,?_,m,hw⟩
   simp only[pr]at e1 e2 e ⊢
   simp only[f125,t125,Tr.val_test,Tr.val_fin,Tr.val_stop,qag,qad,b0,b1,b2,b3,b4,w0,if_true,if_false,Bool.false_eq_true,Int.toNat_natCast,g158,e1,e2,g159,e,Option.isSome_some,Option.getD_some]
def balB(K F:List Int)(g:Fr)(U:List Fr)(i:Nat):Bool:=!decide (tens K g U i-tens K g U (i+1)=((F.getD i 0:Int):Rat))
def bal(K F:List Int)(g:Fr)(U:List Fr):Option Nat:=first (balB K F g U) F.length 0
theorem qrE{K F:List Int}{g:Fr}{U:List Fr}(h6:U.length≤1000000)(hl:K.length=U.length)(hf:F.length=U.length)(k1:∀i,i<K.length→1≤K.getD i 0)(k2:∀i,i<K.length→K.getD i 0≤20)
  (hg:Gp g) (hU:∀i,i<U.length→Gp (U.getD i z3)):l75_0_1 ((F,(F.length:Int),(0:Int),()),(K,F,g.1,g.2.1,()),(U,()),())=match bal K F g U with
  |some k=>some (.inr (((k:Int),(19:Int),()),(K,F,g.1,g.2.1,()),(U,()),()))
  |none=>some (.inl ((),(K,F,g.1,g.2.1,()),(U,()),())):=by
 refine qbl (fun i=>((F,(F.length:Int),(i:Int),()),(K,F,g.1,g.2.1,()),(U,()),())) (balB K F g U) (fun k=>(((k:Int),(19:Int),()),(K,F,g.1,g.2.1,()),(U,()),())) (n:=F.length) ?_ ?_ (qal (by omega))
 ·intro i hi
  have b0:(!decide ((F.length:Int)≤(i:Int)))=true:=nT (by omega)
  have b1:(decide ((0:Int)≤(i:Int))&&decide ((i:Int)<(F.length:Int)))=true:=dA (by omega) (by omega)
  obtain⟨w1,r1,e1,m1,hw1⟩:=qpT (F:=F) h6 hl k1 k2 hg hU (k:=i) (by omega)
  obtain⟨w2,r2,e2,m2,hw2⟩:=qpT (F:=F) h6 hl k1 k2 hg hU (k:=i+1) (by omega)
  have hw0:wrap64 ((i:Int)+1)=((i+1:Nat):Int):=qai (by omega)
  have hiff:=qn8 w1 w2 (F.getD i 0) r1 r2 m1.nn m1.lt m2.nn m2.lt
  rw[m1.eq,m2.eq]at hiff
  have hw3:wrap64 (w1-w2)=w1-w2:=qab (by omega) (by omega)
  simp only[pr]at e1 e2
  simp only[s75_0_1,t75_0_1,Tr.val_test,Tr.val_fin,Tr.val_stop,qad,qag,b0,b1,if_true,g125,e1,hw0,e2,hw3,g60,qe9,Int.toNat_natCast,Option.isSome_some,Option.getD_some,balB]
  by_cases hb:tens K g U i-tens K g U (i+1)=((F.getD i 0:Int):Rat)
  ·obtain⟨q1,q2⟩:=hiff.2 hb
   subst q1
   have b2:(r1.num==r1.num&&((r1.den:Int)==(r1.den:Int)&&true))=true:=by simp
   have b3:(!decide (w1-w2=F.getD i 0))=false:=nF q2
   simp only[b2,b3,hb,decide_true,Bool.not_true,if_true,Bool.false_eq_true,if_false]
  ·by_cases hr:r1=r2
   ·subst hr
    have b2:(r1.num==r1.num&&((r1.den:Int)==(r1.den:Int)&&true))=true:=by simp
    have b3:(!decide (w1-w2=F.getD i 0))=true:=nT fun e=>hb (hiff.1 ⟨rfl,e⟩)
    have b4:(!decide ((19:Int)=0))=true:=by decide
    simp only[b2,b3,b4,hb,decide_false,Bool.not_false,if_true]
   ·have b2:(r1.num==r2.num&&((r1.den:Int)==(r2.den:Int)&&true))=false:=by
     cases hq:(r1.num==r2.num&&((r1.den:Int)==(r2.den:Int)&&true))with
     |false=>rfl
     |true=>
      simp only[Bool.and_eq_true,beq_iff_eq,Bool.and_true]at hq
      exact absurd (Rat.ext hq.1 (by omega)) hr
    have b4:(!decide ((19:Int)=0))=true:=by decide
    simp only[b2,b4,hb,decide_false,Bool.not_false,if_true,Bool.false_eq_true,if_false]
 ·have b0:(!decide ((F.length:Int)≤(F.length:Int)))=false:=nF (by omega)
  simp only[s75_0_1,t75_0_1,Tr.val_test,Tr.val_fin,qad,b0,Bool.false_eq_true,if_false]
theorem qr6{K F:List Int}{g:Fr}{U:List Fr}(h6:U.length≤1000000)(hl:K.length=U.length)(hf:F.length=U.length)(k1:∀i,i<K.length→1≤K.getD i 0)(k2:∀i,i<K.length→K.getD i 0≤20)
  (hg:Gp g) (hU:∀i,i<U.length→Gp (U.getD i z3)):f90 (((K,F,()),(g.1,g.2.1,()),()),U,())=some (match bal K F g U with
  |some k=>((k:Int),(19:Int),())
  |none=>((0:Int),(0:Int),())):=by
 have e:=qrE h6 hl hf k1 k2 hg hU
 cases hb:bal K F g U with
 |none=>
  rw[hb]at e
  simp only[f90,t90,Tr.val_test,Tr.val_fin,Tr.val_stop,e,qas,Option.isSome_some,if_true,Bool.false_eq_true,if_false]
 |some k=>
  rw[hb]at e
  simp only[f90,t90,Tr.val_test,Tr.val_fin,Tr.val_stop,e,qas,r75_0_1,outR,Option.isSome_some,if_true]
theorem qu7{p:Fr}(h:perr p.1 p.2.1=0):Gp p:=by
 obtain⟨h1,h2,h3,h4⟩:=qtK h
 exact⟨h1,h4,h3⟩
theorem qsn{l:List Fr}(h:peF l=none):∀i,i<l.length→pe l i=0:=fun i hi=>by
 have:=qaZ h i (Nat.zero_le _) (by omega)
 simpa using this
theorem qrU{l:List Fr}{k:Nat}(h:peF l=some k):k<l.length∧pe l k≠0:=by
 obtain⟨h1,h2,h3,_⟩:=first_some h
 refine⟨by omega,?_⟩
 simpa using h3
theorem qgP(L U:List Fr)(i:Nat)(h:i<L.length):(L++U).getD i z3=L.getD i z3:=by
 simp only[List.getD,List.getElem?_append_left h]
theorem qhl(L U:List Fr)(i:Nat):(L++U).getD (L.length+i) z3=U.getD i z3:=by
 simp only[List.getD,List.getElem?_append_right (Nat.le_add_right _ _),Nat.add_sub_cancel_left]
theorem qtS{L U:List Fr}(h:peF (L++U)=none):∀i,i<L.length→Gp (L.getD i z3):=fun i hi=>by
 have:=qsn h i (by simp;omega)
 unfold pe at this
 rw[qgP L U i hi]at this
 exact qu7 this
theorem qqU{L U:List Fr}(h:peF (L++U)=none):∀i,i<U.length→Gp (U.getD i z3):=fun i hi=>by
 have:=qsn h (L.length+i) (by simp;omega)
 unfold pe at this
 rw[qhl L U i]at this
 exact qu7 this
def chk(K F:List Int)(n:Nat)(L U:List Fr)(Lo:Int):Int×Int:=
 match peF (L++U)with
 |some j=>((j:Int),pe (L++U) j)
 |none=>if Lo=sF F (n+1)then match bal (K.take (n+1)) (lowF F n) ((0:Int),(1:Int),()) L with
   |some j=>((j:Int),19)
   |none=>match bal (K.drop (n+1)) (F.drop (n+1)) (L.getD n z3) U with
    |some j=>((n+1+j:Nat),19)
    |none=>(0,0)
  else(0,13)
def cH(K F:List Int)(x:Int)(L U:List Fr)(Lo:Int):Int×Int:=
 if nE K F x=0 then if L.length=x.toNat+1∧U.length=K.length-(x.toNat+1)then chk K F x.toNat L U Lo else(0,10)else(0,nE K F x)
theorem qul{K F:List Int}(v:VC K F){n:Nat}(hn:n<K.length)(L U:List Fr)(Lo:Int)(hL:L.length=n+1)(hU:U.length=K.length-(n+1))(hw:W64 (L++U))(e79:f79 ((K,F,()),())=some (((K,F,()),((0:Int),(1:Int),()),()),(0:Int),())):
  f24 ((K,F,()),(n:Int),(L,U,Lo,()),())=some ((chk K F n L U Lo).1,(chk K F n L U Lo).2,()):=by
 have h6:=v.n6
 have hf:=v.fl
 have c64:∀a b:Int,f64 ([a,b],())=some (if a=0 then b else a,()):=qkG
 have e82:=qit K F 0 1 (n:Int) (by omega)
 have hwi:wi 0 ((K.length:Int)-1) (n:Int)=true:=wi_iff.2 ⟨by omega,by omega⟩
 rw[if_pos hwi]at e82
 have w0:wrap64 ((n:Int)+1)=((n+1:Nat):Int):=qai (by omega)
 have w1:wrap64 ((K.length:Int)-((n+1:Nat):Int))=((K.length-(n+1):Nat):Int):=by rw[qab (by omega) (by omega)];omega
 have b0:(!decide ((L.length:Int)=((n+1:Nat):Int)))=false:=nF (by omega)
 have b1:(!decide ((U.length:Int)=((K.length-(n+1):Nat):Int)))=false:=nF (by omega)
 have z:(!decide ((0:Int)=0))=false:=by decide
 have e87:=quR L U (by omega) (by omega)
 have e85:=qmG K F ((0:Int),(1:Int),()) (n+1) (by omega) (qoi v) (by omega)
 have e86:=qrj (L++U) (by simp;omega) hw
 have e83:=qst v hn ((0:Int),(1:Int),())
 have bI:(decide ((0:Int)≤(n:Int))&&decide ((n:Int)<(L.length:Int)))=true:=dA (by omega) (by omega)
 have e84:=qrX K F 0 1 (L.getD n ((0:Int),(0:Int),())).1 (L.getD n ((0:Int),(0:Int),())).2.1 n hn hf (by omega)
 have g1:Gp ((0:Int),(1:Int),()):=⟨by decide,by decide,by decide⟩
 simp only[f24,t24,Tr.val_test,Tr.val_fin,Tr.val_stop,decide_true,Bool.not_true,g79,e79,g82,e82,g64,c64,qag,z,w0,w1,b0,b1,g87,e87,Option.isSome_some,Option.getD_some,if_true,if_false,Bool.false_eq_true,chk]
 cases hp:peF (L++U)with
 |some j=>
  rw[hp]at e86
  have hj:=(qrU hp).2
  have bz:(!decide (pe (L++U) j=0))=true:=nT hj
  simp only[e86,qas,r86_0_1,outR,Option.isSome_some,if_true,g85,e85,g60,qe9,Option.getD_some,c64,hj,if_false,bz,decide_false,Bool.not_false,Bool.false_eq_true]
 |none=>
  rw[hp]at e86
  have p1:=qtS hp
  have p2:=qqU hp
  have R1:=qpq v hn
  have R2:=qsm v (n+1)
  have hK1:(K.take (n+1)).length=L.length:=by simp;omega
  have hK2:(K.drop (n+1)).length=U.length:=by simp;omega
  have e90:=qr6 (g:=((0:Int),(1:Int),())) (U:=L) (by omega) hK1 (by rw[R1.fl];exact hK1) R1.k1 R1.k2 g1 p1
  have gn:=p1 n (by omega)
  have e90u:=qr6 (g:=L.getD n z3) (U:=U) (by omega) hK2 (by rw[R2.fl];exact hK2) R2.k1 R2.k2 gn p2
  simp only[e86,qas,Option.isSome_some,if_true,g85,e85,g60,qe9,Option.getD_some,c64,Bool.false_eq_true,if_false]
  by_cases hq:Lo=sF F (n+1)
  ·have b5:(!decide (Lo=sF F (n+1)))=false:=nF hq
   simp only[b5,hq,Bool.false_eq_true,if_false,z,decide_true,Bool.not_true,g83,e83,g90,e90,Option.isSome_some,Option.getD_some,if_true]
   cases hb:bal (K.take (n+1)) (lowF F n) ((0:Int),(1:Int),()) L with
   |some j=>
    have z19:(!decide ((19:Int)=0))=true:=by decide
    simp only[z19,if_true]
   |none=>
    simp only[z,decide_true,Bool.not_true,Bool.false_eq_true,if_false,bI,if_true,Int.toNat_natCast,g84,e84,Option.isSome_some,Option.getD_some,e90u]
    cases hc:bal (K.drop (n+1)) (F.drop (n+1)) (L.getD n z3) U with
    |some j=>
     have hjl:=first_some hc
     have z19:(!decide ((19:Int)=0))=true:=by decide
     have w3:wrap64 (((n+1:Nat):Int)+(j:Int))=((n+1+j:Nat):Int):=by
      have hj2:=hjl.2.1
      simp at hj2
      rw[qab (by omega) (by omega)];omega
     simp only[z19,if_true,w3]
    |none=>
     simp only[z,decide_true,Bool.not_true,Bool.false_eq_true,if_false]
  ·have b5:(!decide (Lo=sF F (n+1)))=true:=nT hq
   have z13:(!decide ((13:Int)=0))=true:=by decide
   simp only[b5,hq,if_true,if_false,z13,decide_false,Bool.not_false,decide_true,Bool.not_true,Bool.false_eq_true]
theorem qsp(K F:List Int)(x:Int)(L U:List Fr)(Lo:Int)(h:K.length≤1000000)(hx1:-9223372036854775808≤x)(hx2:x≤9223372036854775807)(hL:L.length≤1000)(hU:U.length≤1000)(hw:W64 (L++U)):
  f24 ((K,F,()),x,(L,U,Lo,()),())=some ((cH K F x L U Lo).1,(cH K F x L U Lo).2,()):=by
 have e79:=qmU K F h
 have c64:∀a b:Int,f64 ([a,b],())=some (if a=0 then b else a,()):=qkG
 unfold cH
 by_cases h0:(cK K F).2=0
 ·rw[if_pos h0]at e79
  have v:=qqf h0
  have h6:=v.n6
  have hnE:nE K F x=if wi 0 ((K.length:Int)-1) x=true then 0 else 6:=by unfold nE;rw[if_pos h0]
  rcases Bool.eq_false_or_eq_true (wi 0 ((K.length:Int)-1) x)with hw'|hw'
  ·have hwi:=wi_iff.1 hw'
   obtain⟨n,rfl⟩:∃n:Nat,x=(n:Int):=⟨x.toNat,by omega⟩
   have hn:n<K.length:=by omega
   rw[hnE,if_pos hw',if_pos rfl,Int.toNat_natCast]
   by_cases hlen:L.length=n+1∧U.length=K.length-(n+1)
   ·rw[if_pos hlen]
    exact qul v hn L U Lo hlen.1 hlen.2 hw e79
   ·rw[if_neg hlen]
    have e82:=qit K F 0 1 (n:Int) (by omega)
    rw[if_pos hw']at e82
    have w0:wrap64 ((n:Int)+1)=((n+1:Nat):Int):=qai (by omega)
    have w1:wrap64 ((K.length:Int)-((n+1:Nat):Int))=((K.length-(n+1):Nat):Int):=by rw[qab (by omega) (by omega)];omega
    have z:(!decide ((0:Int)=0))=false:=by decide
    simp only[f24,t24,Tr.val_test,Tr.val_fin,Tr.val_stop,decide_true,Bool.not_true,g79,e79,g82,e82,g64,c64,qag,z,w0,w1,Option.isSome_some,Option.getD_some,if_true,if_false,Bool.false_eq_true]
    by_cases hq:L.length=n+1
    ·have b0:(!decide ((L.length:Int)=((n+1:Nat):Int)))=false:=nF (by omega)
     have b1:(!decide ((U.length:Int)=((K.length-(n+1):Nat):Int)))=true:=nT (by omega)
     simp only[b0,b1,Bool.false_eq_true,if_false,if_true]
    ·have b0:(!decide ((L.length:Int)=((n+1:Nat):Int)))=true:=nT (by omega)
     simp only[b0,if_true]
  ·have e82:=qit K F 0 1 x h
   rw[hw']at e82
   rw[hnE,hw']
   simp only[f24,t24,Tr.val_test,Tr.val_fin,Tr.val_stop,decide_true,Bool.not_true,g79,e79,g82,e82,g64,c64,qag,Option.isSome_some,Option.getD_some,if_true,if_false,Bool.false_eq_true]
   rfl
 ·rw[if_neg h0]at e79
  have e82:=qit [] [] 0 0 x (by simp)
  have hnE:nE K F x=(cK K F).2:=by unfold nE;rw[if_neg h0]
  rw[hnE,if_neg h0]
  simp only[f24,t24,Tr.val_test,Tr.val_fin,Tr.val_stop,decide_true,Bool.not_true,g79,e79,g82,e82,g64,c64,qag,Option.isSome_some,Option.getD_some,if_true,h0,if_false,decide_false,Bool.not_false]
theorem qqL{n:Int}(h1:-9223372036854775808≤n)(h2:n≤9223372036854775807):IntKind.wrap .i64 n=n:=by rw[←qcK,qab h1 h2]
theorem qpd(x:Int)(h:x.natAbs≤9223372036854775807):f46 (x,())=some ((x.natAbs:Int),()):=by
 simp only[f46,t46,Tr.val_fin]
 rw[qqL (by omega) (by omega)]
 have e:(if x<0-x then 0-x else x)=(x.natAbs:Int):=by split<;>omega
 rw[e]
theorem l161(l:List Int)(h:l.length≤1000000000):l161_0 ((l,(l.length:Int),()),())=some (.inl ((l,(qdY l l.length:Int),()),())):=by
 have hle:=qgF l l.length
 refine qbp (fun i=>((l,((l.length-i:Nat):Int),()),())) (n:=l.length-qdY l l.length) ?_ ?_ (qal (by omega))
 ·intro i hi
  have h0:=qiX l l.length (l.length-i-1) (by omega) (by omega)
  have e:wrap64 (((l.length-i:Nat):Int)-1)=((l.length-i-1:Nat):Int):=by rw[qab (by omega) (by omega)];omega
  simp only[s161_0,t161_0,Tr.val_test,Tr.val_fin,qad,qag,e,Int.toNat_natCast,h0]
  rw[if_pos (by simp<;>omega),if_pos (by simp<;>omega),if_pos (by simp)]
  rfl
 ·have e0:l.length-(l.length-qdY l l.length)=qdY l l.length:=by omega
  dsimp only
  rw[e0]
  cases hk:qdY l l.length with
  |zero=>simp[s161_0,t161_0,qad]
  |succ m=>
   have h0:=qf0 l l.length m hk
   have e:wrap64 (((m+1:Nat):Int)-1)=((m:Nat):Int):=by rw[qab (by omega) (by omega)];omega
   simp only[s161_0,t161_0,Tr.val_test,Tr.val_fin,qad,qag,e,Int.toNat_natCast]
   rw[if_pos (by simp<;>omega),if_pos (by simp<;>omega),if_neg (by simpa using h0)]
theorem qlF(l:List Int)(h:l.length≤1000000000)(hd:Dg l):f161 (l,())=some (dig (dval l).toNat,()):=by
 have hle:=qgF l l.length
 simp only[f161,t161,b161_0,l161 l h,Tr.val_test,Tr.val_fin,qax,if_true,outB,Int.toNat_natCast]
 rw[if_pos (by simp<;>omega),qru hd]
def mkN(s n:Int):Int×List Int×PUnit:=if n=0 then(0,[],())else(s,dig n.toNat,())
theorem qe5(s:Int)(l:List Int)(h:l.length≤1000000000)(hd:Dg l):f130 (s,l,())=some (mkN s (dval l),()):=by
 have h0:=qcj hd
 simp only[f130,t130,g161,qlF l h hd,Option.isSome_some,Option.getD_some,Tr.val_test,Tr.val_fin,qag,if_true,mkN]
 by_cases e:dval l=0
 ·rw[if_pos (by rw[e];simp[qaV]),if_pos e,e]
  simp[qaV]
 ·rw[if_neg e,if_neg]
  intro h2
  simp only[decide_eq_true_eq]at h2
  have h3:(dig (dval l).toNat).length=0:=by omega
  have:=dig_nil.1 (List.eq_nil_of_length_eq_zero h3)
  omega
theorem qhy{s z:Int}(h:z≠0→s=z.sign):mkN s z.natAbs=enc z:=by
 unfold mkN enc
 by_cases e:z=0
 ·subst e;simp[qaV]
 ·rw[if_neg (by omega),h e];simp
theorem qlo(l:List Int)(i:Nat):f163 (l,(i:Int),())=some (l.getD i 0,()):=by
 simp only[f163,t163,Tr.val_test,Tr.val_fin,qad]
 by_cases h:i<l.length
 ·rw[if_pos (by simp<;>omega),if_pos (by simp<;>omega)];simp
 ·rw[if_neg (by simp<;>omega)]
  simp[List.getD,List.getElem?_eq_none (Nat.le_of_not_lt h)]
theorem qtX(s b:Int):∀(k:Nat)(x:Int)(acc:List Int)(m:Nat),(x.natAbs:Int)<pw k→x.natAbs≤9223372036854775807→acc.length+k≤1000000→k<m →
  itr s126_0 m ((x,s,acc,()),((b,()),()))=some (.inl ((s,acc++dig x.natAbs,()),((b,()),())))
 |0,x,acc,m,h1,_,_,hm=>by
  have:x=0:=by simp only[pw]at h1;omega
  subst this
  obtain⟨m,rfl⟩:∃j,m=j+1:=⟨m-1,by omega⟩
  simp[itr,s126_0,t126_0,qag,qaV]
 |k+1,x,acc,m,h1,h2,h3,hm=>by
  obtain⟨m,rfl⟩:∃j,m=j+1:=⟨m-1,by omega⟩
  by_cases hx:x=0
  ·subst hx
   simp[itr,s126_0,t126_0,qag,qaV]
  ·have e1:(Int.tmod x 1000000000).natAbs=x.natAbs%1000000000:=by rw[Int.natAbs_tmod];rfl
   have e2:(Int.tdiv x 1000000000).natAbs=x.natAbs/1000000000:=by rw[Int.natAbs_tdiv];rfl
   have e3:IntKind.wrap .i64 (Int.tdiv x 1000000000)=Int.tdiv x 1000000000:=qqL (by omega) (by omega)
   have st:s126_0 ((x,s,acc,()),((b,()),()))=some (.again ((Int.tdiv x 1000000000,s,acc++[((x.natAbs%1000000000:Nat):Int)],()),((b,()),()))):=by
    simp only[s126_0,t126_0,g46,qpd (Int.tmod x 1000000000) (by omega),Option.isSome_some,Option.getD_some,Tr.val_test,Tr.val_fin,qag,e3,e1,if_true]
    rw[if_pos (by simpa using hx),if_pos (by simp<;>omega)]
   simp only[pw]at h1
   rw[itr,st]
   dsimp only
   rw[qtX s b k (Int.tdiv x 1000000000) _ m (by omega) (by omega) (by simp<;>omega) (by omega),qe4 (show x.natAbs≠0 by omega),e2]
   simp
theorem qfM(x:Int)(h:x.natAbs≤9223372036854775807):f126 (x,())=some (enc x,()):=by
 have hl:∀s:Int,l126_0 ((x,s,[],()),(((0:Int),()),()))=some (.inl ((s,dig x.natAbs,()),(((0:Int),()),()))):=fun s=>by
  have:=qtX s 0 3 x [] rounds (by simp only[pw];omega) h (by simp) (qal (by omega))
  simpa[l126_0]using this
 have hg:(dig x.natAbs).length≤3:=qbG (by simp only[pw];omega)
 have e:=qbZ x.natAbs
 simp only[f126,t126,b126_0,hl,g130,qe5 _ (dig x.natAbs) (by omega) (qb0 _),e,Option.isSome_some,Option.getD_some,Tr.val_test,Tr.val_fin,qax,outB,if_true,qad]
 by_cases hx:0≤x
 ·rw[if_neg (by simp<;>omega)]
  have:mkN 1 (x.natAbs:Int)=enc x:=qhy fun h=>by rw[Int.sign_eq_one_of_pos (by omega)]
  rw[this]
 ·rw[if_pos (by simp<;>omega)]
  have:mkN (-1) (x.natAbs:Int)=enc x:=qhy fun h=>by rw[Int.sign_eq_neg_one_of_neg (by omega)]
  rw[this]
def cA(a b:List Int):Nat→Int
 |0=>0
 |i+1=>(a.getD i 0+b.getD i 0+cA a b i)/1000000000
def oA(a b:List Int):Nat→List Int
 |0=>[]
 |i+1=>oA a b i++[(a.getD i 0+b.getD i 0+cA a b i)%1000000000]
theorem qqP{a b:List Int}(ha:Dg a)(hb:Dg b):∀i,0≤cA a b i∧cA a b i≤1
 |0=>by simp[cA]
 |i+1=>by
  have:=qqP ha hb i;have:=ha.getD i;have:=hb.getD i
  simp only[cA];omega
theorem qmw(a b:List Int):∀i,(oA a b i).length=i
 |0=>rfl
 |i+1=>by simp[oA,qmw a b i]
theorem quD(a b:List Int):∀i,Dg (oA a b i)
 |0=>Dg.nil
 |i+1=>(quD a b i).push (by omega) (by omega)
theorem qui(a b:List Int):∀i,dval (oA a b i)+pw i*cA a b i=dval (a.take i)+dval (b.take i)
 |0=>by simp[oA,cA,dval,pw]
 |i+1=>by
  have ih:=qui a b i
  rw[oA,qlH,qmw,qbH,qbH,cA,pw]
  generalize hs:a.getD i 0+b.getD i 0+cA a b i=s at *
  have e:s%1000000000=s-1000000000*(s/1000000000):=by omega
  have e2:pw i*(s%1000000000)+1000000000*pw i*(s/1000000000)=pw i*s:=by
   rw[e,Int.mul_sub,Int.mul_comm 1000000000 (pw i),Int.mul_assoc];omega
  have e3:pw i*s=pw i*a.getD i 0+pw i*b.getD i 0+pw i*cA a b i:=by rw[←hs,Int.mul_add,Int.mul_add]
  omega
def nA(a b:List Int):Nat:=if cA a b (max a.length b.length)=0 then max a.length b.length else max a.length b.length+1
theorem qr2{a b:List Int}(ha:Dg a)(hb:Dg b):cA a b (nA a b)=0:=by
 unfold nA
 split
 ·assumption
 ·have:=qqP ha hb (max a.length b.length)
  have e1:a.getD (max a.length b.length) 0=0:=by simp[List.getD,List.getElem?_eq_none (Nat.le_max_left a.length b.length)]
  have e2:b.getD (max a.length b.length) 0=0:=by simp[List.getD,List.getElem?_eq_none (Nat.le_max_right a.length b.length)]
  simp only[cA,e1,e2];omega
theorem qnV{a b:List Int}(ha:Dg a)(hb:Dg b){i:Nat}(hl:i≤1000000)(h:i<a.length∨i<b.length∨0<cA a b i):
  s135_0 ((a,b,oA a b i,cA a b i,(i:Int),()),())=some (.again ((a,b,oA a b (i+1),cA a b (i+1),((i+1:Nat):Int),()),())):=by
 have h1:=qqP ha hb i;have h2:=ha.getD i;have h3:=hb.getD i
 have e1:wrap64 (wrap64 (a.getD i 0+b.getD i 0)+cA a b i)=a.getD i 0+b.getD i 0+cA a b i:=by
  rw[qab (n:=a.getD i 0+b.getD i 0) (by omega) (by omega),qab (by omega) (by omega)]
 have e2:IntKind.wrap .i64 (Int.tdiv (a.getD i 0+b.getD i 0+cA a b i) 1000000000)=cA a b (i+1):=by
  rw[Int.tdiv_eq_ediv_of_nonneg (by omega),qqL (by omega) (by omega),cA]
 have e3:Int.tmod (a.getD i 0+b.getD i 0+cA a b i) 1000000000=(a.getD i 0+b.getD i 0+cA a b i)%1000000000:=Int.tmod_eq_emod_of_nonneg (by omega)
 have e4:wrap64 ((i:Int)+1)=((i+1:Nat):Int):=qai (by omega)
 have e5:(Nat.ble ((2*((oA a b i).length+1)+192)*8) 281474976710656&&Nat.ble ((oA a b i).length+1) 281474976710656)=true:=by
  rw[qmw];simp;omega
 simp only[s135_0,t135_0,g163,qlo a i,qlo b i,Option.isSome_some,Option.getD_some,Tr.val_test,Tr.val_fin,qad,if_true,e1,e2,e3,e4,e5]
 by_cases c1:i<a.length
 ·rw[if_pos (by simp<;>omega)];rfl
 ·rw[if_neg (by simp<;>omega)]
  by_cases c2:i<b.length
  ·rw[if_pos (by simp<;>omega)];rfl
  ·rw[if_neg (by simp<;>omega),if_pos (by simp<;>omega)];rfl
theorem qsI(a b:List Int)(ha:Dg a)(hb:Dg b)(h1:a.length≤100000)(h2:b.length≤100000):f135 (a,b,())=some (oA a b (nA a b),()):=by
 have hn:nA a b≤max a.length b.length+1:=by unfold nA;split<;>omega
 have hl:l135_0 ((a,b,[],(0:Int),(0:Int),()),())=some (.inl ((oA a b (nA a b),()),())):=by
  refine qbp (fun i=>((a,b,oA a b i,cA a b i,(i:Int),()),())) (n:=nA a b) ?_ ?_ (qal (by omega))
  ·intro i hi
   refine qnV ha hb (by omega) ?_
   have:=qqP ha hb i
   unfold nA at hi
   split at hi
   ·omega
   ·rename_i hc
    by_cases e:i=max a.length b.length
    ·rw[←e]at hc;omega
    ·omega
  ·have hc:=qr2 ha hb
   have hm:max a.length b.length≤nA a b:=by unfold nA;split<;>omega
   simp only[s135_0,t135_0,Tr.val_test,Tr.val_fin,qad,hc]
   rw[if_neg (by simp<;>omega),if_neg (by simp<;>omega),if_neg (by simp)]
 simp only[f135,t135,b135_0,hl,Tr.val_test,Tr.val_fin,qax,if_true,outB]
theorem quZ{a b:List Int}(ha:Dg a)(hb:Dg b):dval (oA a b (nA a b))=dval a+dval b:=by
 have h:=qui a b (nA a b)
 have hm:max a.length b.length≤nA a b:=by unfold nA;split<;>omega
 rw[qr2 ha hb,qaQ a (by omega),qaQ b (by omega)]at h
 omega
def cS(a b:List Int):Nat→Int
 |0=>0
 |i+1=>if a.getD i 0-b.getD i 0-cS a b i<0 then 1 else 0
def oS(a b:List Int):Nat→List Int
 |0=>[]
 |i+1=>oS a b i++[if a.getD i 0-b.getD i 0-cS a b i<0 then a.getD i 0-b.getD i 0-cS a b i+1000000000 else a.getD i 0-b.getD i 0-cS a b i]
theorem qtr(a b:List Int):∀i,0≤cS a b i∧cS a b i≤1
 |0=>by simp[cS]
 |i+1=>by simp only[cS];split<;>omega
theorem qkn(a b:List Int):∀i,(oS a b i).length=i
 |0=>rfl
 |i+1=>by simp[oS,qkn a b i]
theorem quI{a b:List Int}(ha:Dg a)(hb:Dg b):∀i,Dg (oS a b i)
 |0=>Dg.nil
 |i+1=>by
  have:=qtr a b i;have:=ha.getD i;have:=hb.getD i
  exact(quI ha hb i).push (by split<;>omega) (by split<;>omega)
theorem qt9(a b:List Int):∀i,dval (oS a b i)-pw i*cS a b i=dval (a.take i)-dval (b.take i)
 |0=>by simp[oS,cS,dval,pw]
 |i+1=>by
  have ih:=qt9 a b i
  rw[oS,qlH,qkn,qbH,qbH,cS,pw]
  generalize hs:a.getD i 0-b.getD i 0-cS a b i=s at *
  have e3:pw i*s=pw i*a.getD i 0-pw i*b.getD i 0-pw i*cS a b i:=by rw[←hs,Int.mul_sub,Int.mul_sub]
  by_cases h:s<0
  ·rw[if_pos h,if_pos h,Int.mul_add];omega
  ·rw[if_neg h,if_neg h];omega
theorem qme(a b:List Int)(ha:Dg a)(hb:Dg b)(h1:a.length≤1000000)(h2:b.length≤a.length)(h3:dval b≤dval a):f137 (a,b,())=some (dig (dval a-dval b).toNat,()):=by
 have hl:l137_0 ((a,b,[],(0:Int),(0:Int),()),())=some (.inl ((oS a b a.length,()),())):=by
  refine qbp (fun i=>((a,b,oS a b i,cS a b i,(i:Int),()),())) (n:=a.length) ?_ ?_ (qal (by omega))
  ·intro i hi
   have h1:=qtr a b i;have h2:=ha.getD i;have h3:=hb.getD i
   have e0:wrap64 (a.getD i 0-b.getD i 0)=a.getD i 0-b.getD i 0:=qab (by omega) (by omega)
   have e1:wrap64 (wrap64 (a.getD i 0-b.getD i 0)-cS a b i)=a.getD i 0-b.getD i 0-cS a b i:=by
    rw[e0,qab (by omega) (by omega)]
   have e2:wrap64 (a.getD i 0-b.getD i 0-cS a b i+1000000000)=a.getD i 0-b.getD i 0-cS a b i+1000000000:=qab (by omega) (by omega)
   have e4:wrap64 ((i:Int)+1)=((i+1:Nat):Int):=qai (by omega)
   have e5:(Nat.ble ((2*((oS a b i).length+1)+192)*8) 281474976710656&&Nat.ble ((oS a b i).length+1) 281474976710656)=true:=by
    rw[qkn];simp;omega
   simp only[s137_0,t137_0,g163,qlo b i,Option.isSome_some,Option.getD_some,Tr.val_test,Tr.val_fin,qad,if_true,e1,e2,e4,e5,Int.toNat_natCast,oS,cS]
   rw[if_pos (by simp<;>omega),if_pos (by simp<;>omega)]
   by_cases h:a.getD i 0-b.getD i 0-cS a b i<0
   ·rw[if_pos (by simp only[Bool.not_eq_true',decide_eq_false_iff_not];omega),if_pos h,if_pos h]
   ·rw[if_neg (by simp only[Bool.not_eq_true',decide_eq_false_iff_not];omega),if_neg h,if_neg h]
  ·simp[s137_0,t137_0,qad]
 have hd:=quI ha hb a.length
 have hv:=qt9 a b a.length
 rw[qaQ a (Nat.le_refl _),qaQ b h2]at hv
 have hlt:=qjo hd
 rw[qkn]at hlt
 have hc:=qtr a b a.length
 have hc0:cS a b a.length=0:=by
  by_cases e:cS a b a.length=1
  ·rw[e]at hv;omega
  ·omega
 rw[hc0,Int.mul_zero,Int.sub_zero]at hv
 simp only[f137,t137,b137_0,hl,g161,qlF _ (show(oS a b a.length).length≤1000000000 by rw[qkn];omega) hd,hv,Option.isSome_some,Option.getD_some,Tr.val_test,Tr.val_fin,qax,if_true,outB]
theorem qpg{l:List Int}(hd:Dg l)(hc:Can l){m:Nat}(hm:l.length=m+1):pw m≤dval l:=by
 have h3:=qbH l m
 rw[qaQ _ (by omega)]at h3
 have h2:=hc m hm
 have h4:=qcj (hd.take m)
 have h5:=hd.getD m
 have h7:pw m*1≤pw m*l.getD m 0:=Int.mul_le_mul_of_nonneg_left (by omega) (Int.le_of_lt (qeJ m))
 omega
theorem qpA{a b:List Int}(ha:Dg a)(hb:Dg b){j:Nat}(hlt:a.getD j 0<b.getD j 0):∀n,(∀i,j<i→i<j+1+n→a.getD i 0=b.getD i 0)→dval (a.take (j+1+n))<dval (b.take (j+1+n))
 |0,_=>by
  rw[Nat.add_zero,qbH,qbH]
  have h1:=qjo (ha.take j)
  have h2:=qcj (hb.take j)
  have h3:pw (a.take j).length≤pw j:=qls (by simp;omega)
  have h7:pw j*(a.getD j 0+1)≤pw j*b.getD j 0:=Int.mul_le_mul_of_nonneg_left (by omega) (Int.le_of_lt (qeJ j))
  rw[Int.mul_add]at h7
  omega
 |n+1,h=>by
  have ih:=qpA ha hb hlt n fun i h1 h2=>h i h1 (by omega)
  have e:=h (j+1+n) (by omega) (by omega)
  rw[←Nat.add_assoc,qbH,qbH,e]
  omega
theorem qpJ(a b:List Int)(ha:Dg a)(hb:Dg b)(ca:Can a)(cb:Can b)(h1:a.length≤1000000):f136 (a,b,())=some ((dval a-dval b).sign,()):=by
 simp only[f136,t136,Tr.val_test,Tr.val_fin,qad,qag]
 by_cases hle:a.length=b.length
 ·rw[if_neg (by simp;omega)]
  have e0:wrap64 ((a.length:Int)-1)=(a.length:Int)-1:=qab (by omega) (by omega)
  have hl:l136_0 ((a,b,(a.length:Int)-1,()),())=match first (fun k=>!decide (a.getD (a.length-1-k) 0=b.getD (a.length-1-k) 0)) a.length 0 with
    |some k=>some (.inr (((if a.getD (a.length-1-k) 0<b.getD (a.length-1-k) 0 then(-1:Int)else 1),()),()))
    |none=>some (.inl ((),())):=by
   have:=qbl (step:=s136_0) (m:=rounds) (n:=a.length) (fun k=>((a,b,(a.length:Int)-1-(k:Int),()),())) (fun k=>!decide (a.getD (a.length-1-k) 0=b.getD (a.length-1-k) 0))
    (fun k=>(((if a.getD (a.length-1-k) 0<b.getD (a.length-1-k) 0 then(-1:Int)else 1),()),())) (b:=((),())) ?_ ?_ (qal (by omega))
   ·rw[l136_0,show(a.length:Int)-1=(a.length:Int)-1-((0:Nat):Int)by omega];exact this
   ·intro k hk
    have e1:(a.length:Int)-1-(k:Int)=((a.length-1-k:Nat):Int):=by omega
    have e2:wrap64 (((a.length-1-k:Nat):Int)-1)=(a.length:Int)-1-((k+1:Nat):Int):=by rw[qab (by omega) (by omega)];omega
    simp only[e1,s136_0,t136_0,Tr.val_test,Tr.val_fin,qad,Int.toNat_natCast,e2]
    rw[if_pos (by simp),if_pos (by simp;omega),if_pos (by simp;omega)]
    generalize a.getD (a.length-1-k) 0=x
    generalize b.getD (a.length-1-k) 0=y
    rcases Int.lt_trichotomy x y with h|h|h
    ·rw[if_pos (by simp;omega),if_pos (by simp;omega),if_pos h]
    ·rw[if_neg (by simp;omega),if_neg (by simp;omega),if_neg (by simp;omega)]
    ·rw[if_neg (by simp;omega),if_pos (by simp;omega),if_pos (by simp;omega),if_neg (by omega)]
   ·simp only[s136_0,t136_0,Tr.val_test,Tr.val_fin,qad]
    rw[if_neg (by simp;omega)]
  rw[e0,r136_0,hl]
  have hta:=qaQ a (Nat.le_refl _)
  have htb:=qaQ b (Nat.le_of_eq hle.symm)
  cases hf:first (fun k=>!decide (a.getD (a.length-1-k) 0=b.getD (a.length-1-k) 0)) a.length 0 with
  |none=>
   have hn:=qaZ hf
   have:∀n,n≤a.length→dval (a.take n)=dval (b.take n):=by
    intro n
    induction n with
    |zero=>intro _;simp
    |succ n ih=>
     intro h
     have:=hn (a.length-1-n) (by omega) (by omega)
     rw[show a.length-1-(a.length-1-n)=n by omega]at this
     rw[qbH,qbH,ih (by omega),show a.getD n 0=b.getD n 0 by simpa using this]
   have e:=this a.length (Nat.le_refl _)
   rw[hta,htb]at e
   simp[e,qas]
  |some k=>
   obtain⟨q1,q2,q3,q4⟩:=first_some hf
   have hne:a.getD (a.length-1-k) 0≠b.getD (a.length-1-k) 0:=by simpa using q3
   have heq:∀i,a.length-1-k<i→i<a.length-1-k+1+k→a.getD i 0=b.getD i 0:=fun i h1 h2=>by
    have:=q4 (a.length-1-i) (by omega) (by omega)
    rw[show a.length-1-(a.length-1-i)=i by omega]at this
    simpa using this
   have hN:a.length-1-k+1+k=a.length:=by omega
   simp only[qas,Option.isSome_some,if_true,outR]
   by_cases h:a.getD (a.length-1-k) 0<b.getD (a.length-1-k) 0
   ·have:=qpA ha hb h k heq
    rw[hN,hta,htb]at this
    rw[if_pos h,Int.sign_eq_neg_one_of_neg (by omega)]
   ·have:=qpA hb ha (j:=a.length-1-k) (by omega) k fun i h1 h2=>(heq i h1 h2).symm
    rw[hN,hta,htb]at this
    rw[if_neg h,Int.sign_eq_one_of_pos (by omega)]
 ·rw[if_pos (by simp;omega)]
  by_cases h:a.length<b.length
  ·rw[if_pos (by simp;omega)]
   have hx:=qjo ha
   obtain⟨m,hm⟩:∃m,b.length=m+1:=⟨b.length-1,by omega⟩
   have hy:=qpg hb cb hm
   have:pw a.length≤pw m:=qls (by omega)
   rw[Int.sign_eq_neg_one_of_neg (by omega)]
  ·rw[if_neg (by simp;omega)]
   have hx:=qjo hb
   obtain⟨m,hm⟩:∃m,a.length=m+1:=⟨a.length-1,by omega⟩
   have hy:=qpg ha ca hm
   have:pw b.length≤pw m:=qls (by omega)
   rw[Int.sign_eq_one_of_pos (by omega)]
theorem qrh(n c i:Nat)(s0 s1 z:Int)(a b buf:List Int)(hi:i<a.length)(ha:Dg a)(hb:Dg b)(hbuf:Dg buf)(hlen:buf.length=n)(hn:i+b.length≤n)(hs:n≤1000000):
  l98_2 (((n,c),((i:Int),(0:Int),(0:Int),())),((s0,a,()),(s1,b,()),(z,()),buf,())) =
   some (.inl (((n,c),((i:Int),(mI (a.getD i 0) b i buf b.length).2,())),((s0,a,()),(s1,b,()),(z,()),(mI (a.getD i 0) b i buf b.length).1,()))):=by
 refine qbp (fun j=>(((n,c),((i:Int),(mI (a.getD i 0) b i buf j).2,(j:Int),())),((s0,a,()),(s1,b,()),(z,()),(mI (a.getD i 0) b i buf j).1,()))) (n:=b.length) ?_ ?_ (qal (by omega))
 ·intro j hj
  obtain⟨h1,h2,h3⟩:=qrt (i:=i) (ha.getD i) hb hbuf j
  have h4:=h1.getD (i+j)
  have h5:=qrY (ha.getD i) (hb.getD j)
  have hml:=qiY (a.getD i 0) b i buf j
  have e0:wrap64 ((i:Int)+(j:Int))=((i+j:Nat):Int):=by rw[qab (by omega) (by omega)];omega
  have e1:wrap64 (a.getD i 0*b.getD j 0)=a.getD i 0*b.getD j 0:=qab (by omega) (by omega)
  have e2:wrap64 (wrap64 ((mI (a.getD i 0) b i buf j).1.getD (i+j) 0+a.getD i 0*b.getD j 0)+(mI (a.getD i 0) b i buf j).2)=(mI (a.getD i 0) b i buf j).1.getD (i+j) 0+a.getD i 0*b.getD j 0+(mI (a.getD i 0) b i buf j).2:=by
   rw[qab (n:=(mI (a.getD i 0) b i buf j).1.getD (i+j) 0+a.getD i 0*b.getD j 0) (by omega) (by omega),qab (by omega) (by omega)]
  have e3:Int.tmod ((mI (a.getD i 0) b i buf j).1.getD (i+j) 0+a.getD i 0*b.getD j 0+(mI (a.getD i 0) b i buf j).2) 1000000000=((mI (a.getD i 0) b i buf j).1.getD (i+j) 0+a.getD i 0*b.getD j 0+(mI (a.getD i 0) b i buf j).2)%1000000000:=Int.tmod_eq_emod_of_nonneg (by omega)
  have e4:IntKind.wrap .i64 (Int.tdiv ((mI (a.getD i 0) b i buf j).1.getD (i+j) 0+a.getD i 0*b.getD j 0+(mI (a.getD i 0) b i buf j).2) 1000000000)=((mI (a.getD i 0) b i buf j).1.getD (i+j) 0+a.getD i 0*b.getD j 0+(mI (a.getD i 0) b i buf j).2)/1000000000:=by
   rw[Int.tdiv_eq_ediv_of_nonneg (by omega),qqL (by omega) (by omega)]
  have e5:wrap64 ((j:Int)+1)=((j+1:Nat):Int):=qai (by omega)
  simp only[s98_2,t98_2,Tr.val_test,Tr.val_fin,qad,e0,Int.toNat_natCast,Nat.zero_add,e1,e2,e3,e4,e5]
  rw[if_pos (by simp;omega),if_pos (by simp;omega),if_pos (by rw[hml,ble_eq_true'];omega),if_pos (by simp;omega),if_pos (by simp;omega)]
  rfl
 ·simp[s98_2,t98_2,qad]
theorem qrC(s0 s1 z:Int)(a b:List Int)(n:Nat)(ha:Dg a)(hb:Dg b)(hn:n=a.length+b.length+1)(hs:n≤1000000):
  l98_0 (((n,n),((0:Int),())),((s0,a,()),(s1,b,()),(z,()),List.replicate n 0,()))=some (.inl (((n,n),()),((s0,a,()),(s1,b,()),(z,()),mO a b a.length,()))):=by
 subst hn
 refine qbp (fun i=>(((a.length+b.length+1,a.length+b.length+1),((i:Int),())),((s0,a,()),(s1,b,()),(z,()),mO a b i,()))) (n:=a.length) ?_ ?_ (qal (by omega))
 ·intro i hi
  have hl:=qrh (a.length+b.length+1) (a.length+b.length+1) i s0 s1 z a b (mO a b i) hi ha hb (qq0 ha hb i) (qiO a b i) (by omega) hs
  obtain⟨h1,h2,h3⟩:=qrt (i:=i) (ha.getD i) hb (qq0 ha hb i) b.length
  have e0:wrap64 ((i:Int)+(b.length:Int))=((i+b.length:Nat):Int):=by rw[qab (by omega) (by omega)];omega
  have e1:wrap64 ((mI (a.getD i 0) b i (mO a b i) b.length).1.getD (i+b.length) 0+(mI (a.getD i 0) b i (mO a b i) b.length).2)=(mI (a.getD i 0) b i (mO a b i) b.length).1.getD (i+b.length) 0+(mI (a.getD i 0) b i (mO a b i) b.length).2:=by
   rw[qpU];exact qab (by omega) (by omega)
  have e5:wrap64 ((i:Int)+1)=((i+1:Nat):Int):=qai (by omega)
  have hml:(mI (a.getD i 0) b i (mO a b i) b.length).1.length=a.length+b.length+1:=by rw[qiY,qiO]
  simp only[s98_0,t98_0,b98_2,hl,qax,outB,Tr.val_test,Tr.val_fin,qad,e0,Int.toNat_natCast,Nat.zero_add,e1,e5,if_true]
  rw[if_pos (by simp;omega),if_pos (by simp;omega),if_pos (by rw[hml,ble_eq_true'];omega)]
  rfl
 ·simp[s98_0,t98_0,qad]
theorem qtN(s0 s1:Int)(a b:List Int)(ha:Dg a)(hb:Dg b)(h:a.length+b.length+1≤1000000):f98 ((s0,a,()),(s1,b,()),())=some (mkN (wrap64 (s0*s1)) (dval a*dval b),()):=by
 have e0:wrap64 (wrap64 ((a.length:Int)+(b.length:Int))+1)=((a.length+b.length+1:Nat):Int):=by
  rw[qab (n:=(a.length:Int)+(b.length:Int)) (by omega) (by omega),qab (by omega) (by omega)];omega
 have hl:=qrC s0 s1 0 a b _ ha hb rfl h
 have hd:=qq0 ha hb a.length
 have hv:=qur a b a.length (Nat.le_refl _)
 rw[qaQ a (Nat.le_refl _)]at hv
 have hlen:=qiO a b a.length
 have hf:f130 (wrap64 (s0*s1),mO a b a.length,())=some (mkN (wrap64 (s0*s1)) (dval a*dval b),()):=by rw[qe5 _ _ (by omega) hd,hv]
 simp only[f98,t98,e0,Int.toNat_natCast,b98_0,hl,qax,outB,Tr.val_test,Tr.val_fin,if_true,hlen,g130,hf,Option.isSome_some,Option.getD_some]
 rw[if_pos (by simp;omega),if_pos (by simp)]
theorem qhj(x y:Int)(h:(dig x.natAbs).length+(dig y.natAbs).length+1≤1000000):f98 (enc x,enc y,())=some (enc (x*y),()):=by
 have hf:=qtN x.sign y.sign (dig x.natAbs) (dig y.natAbs) (qb0 _) (qb0 _) h
 rw[qbZ,qbZ]at hf
 have hw:wrap64 (x.sign*y.sign)=(x*y).sign:=by
  rw[←Int.sign_mul]
  have:(x*y).sign=-1∨(x*y).sign=0∨(x*y).sign=1:=by
   rcases Int.lt_trichotomy (x*y) 0 with h|h|h
   ·left;exact Int.sign_eq_neg_one_of_neg h
   ·right;left;rw[h];rfl
   ·right;right;exact Int.sign_eq_one_of_pos h
  exact qab (by omega) (by omega)
 rw[hw]at hf
 have he:mkN (x*y).sign ((x.natAbs:Int)*(y.natAbs:Int))=enc (x*y):=by
  rw[←Int.natCast_mul,←Int.natAbs_mul]
  exact qhy fun _=>rfl
 rw[he]at hf
 exact hf
theorem qcm(x:Int):(x<0∧x.sign=-1)∨(x=0∧x.sign=0)∨(0<x∧x.sign=1):=by
 rcases Int.lt_trichotomy x 0 with h|h|h
 ·exact .inl ⟨h,Int.sign_eq_neg_one_of_neg h⟩
 ·exact .inr (.inl ⟨h,by rw[h];rfl⟩)
 ·exact .inr (.inr ⟨h,Int.sign_eq_one_of_pos h⟩)
theorem qrz(s0 s1:Int)(a b:List Int)(ha:Dg a)(hb:Dg b)(ca:Can a)(cb:Can b)(h1:a.length≤100000)(h2:b.length≤100000):f100 ((s0,a,()),(s1,b,()),()) =
  if s0=0 then some ((s1,b,()),())else if s1=0 then some ((s0,a,()),())else if s0=s1 then some (mkN s0 (dval a+dval b),())else
  if dval a=dval b then some ((0,[],()),())else if dval b<dval a then some (mkN s0 (dval a-dval b),())else some (mkN s1 (dval b-dval a),()):=by
 have hle:∀{l:List Int}{n:Int},Dg l→Can l→dval l≤n→∀{l2:List Int},Dg l2→n=dval l2→l.length≤l2.length:=fun{l n} hd hc hn {l2} hd2 e=>by
  rcases Nat.lt_or_ge l2.length l.length with h|h
  ·exfalso
   obtain⟨m,hm⟩:∃m,l.length=m+1:=⟨l.length-1,by omega⟩
   have:=qpg hd hc hm
   have:=qjo hd2
   have:pw l2.length≤pw m:=qls (by omega)
   omega
  ·exact h
 have hn:nA a b≤max a.length b.length+1:=by unfold nA;split<;>omega
 simp only[f100,t100,Tr.val_test,Tr.val_fin,qag,qad,decide_eq_true_eq]
 by_cases c1:s0=0
 ·rw[if_pos c1,if_pos c1]
 rw[if_neg c1,if_neg c1]
 by_cases c2:s1=0
 ·rw[if_pos c2,if_pos c2]
 rw[if_neg c2,if_neg c2]
 by_cases c3:s0=s1
 ·rw[if_pos c3,if_pos c3]
  simp only[g135,qsI a b ha hb h1 h2,Option.isSome_some,Option.getD_some,if_true,g130,qe5 s0 (oA a b (nA a b)) (by rw[qmw];omega) (quD a b _),quZ ha hb]
 rw[if_neg c3,if_neg c3]
 simp only[g136,qpJ a b ha hb ca cb (by omega),Option.isSome_some,Option.getD_some,if_true]
 rcases qcm (dval a-dval b)with⟨hs,e⟩|⟨hs,e⟩|⟨hs,e⟩
 ·have hl:=hle ha ca (show dval a≤dval b by omega) hb rfl
  have hv:((dval b-dval a).toNat:Int)=dval b-dval a:=by omega
  have hlen:(dig (dval b-dval a).toNat).length≤b.length:=qbG (by have:=qjo hb;have:=qcj ha;omega)
  rw[if_neg (by rw[e];omega),if_neg (by rw[e];simp)]
  simp only[g137,qme b a hb ha (by omega) hl (by omega),Option.isSome_some,Option.getD_some,if_true,g130,qe5 s1 (dig (dval b-dval a).toNat) (by omega) (qb0 _),qbZ,hv]
  rw[if_neg (by omega),if_neg (by omega)]
 ·rw[if_pos (by rw[e]),if_pos (by omega)]
 ·have hl:=hle hb cb (show dval b≤dval a by omega) ha rfl
  have hv:((dval a-dval b).toNat:Int)=dval a-dval b:=by omega
  have hlen:(dig (dval a-dval b).toNat).length≤a.length:=qbG (by have:=qjo ha;have:=qcj hb;omega)
  rw[if_neg (by rw[e];omega),if_pos (by rw[e];simp)]
  simp only[g137,qme a b ha hb (by omega) hl (by omega),Option.isSome_some,Option.getD_some,if_true,g130,qe5 s0 (dig (dval a-dval b).toNat) (by omega) (qb0 _),qbZ,hv]
  rw[if_neg (by omega),if_pos (by omega)]
theorem qgh{s n z:Int}(h:n=z.natAbs)(hs:z≠0→s=z.sign):mkN s n=enc z:=by rw[h];exact qhy hs
theorem qoK(x y:Int)(h1:(dig x.natAbs).length≤100000)(h2:(dig y.natAbs).length≤100000):f100 (enc x,enc y,())=some (enc (x+y),()):=by
 have hf:=qrz x.sign y.sign (dig x.natAbs) (dig y.natAbs) (qb0 _) (qb0 _) (qhz _) (qhz _) h1 h2
 rw[qbZ,qbZ]at hf
 refine hf.trans ?_
 have t0:(0:Int).sign=0:=rfl
 rcases qcm x with⟨hx,ex⟩|⟨hx,ex⟩|⟨hx,ex⟩
 ·rcases qcm y with⟨hy,ey⟩|⟨hy,ey⟩|⟨hy,ey⟩
  ·rw[ex,ey,if_neg (by omega),if_neg (by omega),if_pos rfl,qgh (z:=x+y) (by omega) fun _=>by rw[Int.sign_eq_neg_one_of_neg (by omega)]]
  ·rw[ex,ey,if_neg (by omega),if_pos rfl];subst hy;rw[Int.add_zero,enc,ex]
  ·rw[ex,ey,if_neg (by omega),if_neg (by omega),if_neg (by omega)]
   split
   ·have:x+y=0:=by omega
    rw[this];simp[enc,qaV]
   ·split
    ·rw[qgh (z:=x+y) (by omega) fun _=>by rw[Int.sign_eq_neg_one_of_neg (by omega)]]
    ·rw[qgh (z:=x+y) (by omega) fun _=>by rw[Int.sign_eq_one_of_pos (by omega)]]
 ·rw[ex,if_pos rfl];subst hx;rw[Int.zero_add,enc]
 ·rcases qcm y with⟨hy,ey⟩|⟨hy,ey⟩|⟨hy,ey⟩
  ·rw[ex,ey,if_neg (by omega),if_neg (by omega),if_neg (by omega)]
   split
   ·have:x+y=0:=by omega
    rw[this];simp[enc,qaV]
   ·split
    ·rw[qgh (z:=x+y) (by omega) fun _=>by rw[Int.sign_eq_one_of_pos (by omega)]]
    ·rw[qgh (z:=x+y) (by omega) fun _=>by rw[Int.sign_eq_neg_one_of_neg (by omega)]]
  ·rw[ex,ey,if_neg (by omega),if_pos rfl];subst hy;rw[Int.add_zero,enc,ex]
  ·rw[ex,ey,if_neg (by omega),if_neg (by omega),if_pos rfl,qgh (z:=x+y) (by omega) fun _=>by rw[Int.sign_eq_one_of_pos (by omega)]]
theorem qtF(x:Int):(IntKind.wrap .i64 (0-x.sign),dig x.natAbs,())=enc (-x):=by
 have:IntKind.wrap .i64 (0-x.sign)=(-x).sign:=by
  rw[Int.sign_neg]
  rcases qcm x with⟨_,e⟩|⟨_,e⟩|⟨_,e⟩<;>rw[e]<;>rfl
 rw[this,enc,Int.natAbs_neg]
theorem qpV(x:Int):f132 (enc x,())=some (enc (-x),()):=by
 rw[←qtF];rfl
theorem qmf(x y:Int)(h1:(dig x.natAbs).length≤100000)(h2:(dig y.natAbs).length≤100000):f129 (enc x,enc y,())=some (enc (x-y),()):=by
 have e0:f132 ((y.sign,dig y.natAbs,()),())=some (enc (-y),()):=qpV y
 have e1:f100 ((x.sign,dig x.natAbs,()),((enc (-y)).1,(enc (-y)).2.1,()),())=some (enc (x-y),()):=qoK x (-y) h1 (by rw[Int.natAbs_neg];exact h2)
 show f129 ((x.sign,dig x.natAbs,()),(y.sign,dig y.natAbs,()),())=_
 simp only[f129,t129,g132,e0,g100,e1,Option.isSome_some,Option.getD_some,Tr.val_test,Tr.val_fin,if_true]
theorem qsl(x y:Int)(h1:(dig x.natAbs).length≤100000)(h2:(dig y.natAbs).length≤100000):f97 (enc x,enc y,())=some ((x-y).sign,()):=by
 have e0:f129 ((x.sign,dig x.natAbs,()),(y.sign,dig y.natAbs,()),())=some (enc (x-y),()):=qmf x y h1 h2
 show f97 ((x.sign,dig x.natAbs,()),(y.sign,dig y.natAbs,()),())=_
 simp only[f97,t97,g129,e0,Option.isSome_some,Option.getD_some,Tr.val_test,Tr.val_fin,if_true]
 rfl
theorem qqy(x:Int):f162 (enc x,())=some (enc x.natAbs,()):=by
 have e0:f132 ((x.sign,dig x.natAbs,()),())=some (enc (-x),()):=qpV x
 show f162 ((x.sign,dig x.natAbs,()),())=_
 simp only[f162,t162,g132,e0,Option.isSome_some,Option.getD_some,Tr.val_test,Tr.val_fin,qad,if_true]
 rcases qcm x with⟨h,e⟩|⟨h,e⟩|⟨h,e⟩
 ·rw[if_pos (by rw[e];simp),show((x.natAbs:Nat):Int)=-x by omega]
 ·subst h;rfl
 ·rw[if_neg (by rw[e];simp),show((x.natAbs:Nat):Int)=x by omega];rfl
theorem qcb{m n:Nat}(h:m≤n):(dig m).length≤(dig n).length:=qbG (by have:=qbL n;omega)
theorem qpa{x:Int}(h:0<x):f130 (1,dig x.natAbs,())=f130 (x.sign,dig x.natAbs,()):=by rw[Int.sign_eq_one_of_pos h]
theorem qm7(x:Int)(h:(dig x.natAbs).length≤1000000000):f130 (x.sign,dig x.natAbs,())=some (enc x,()):=by
 rw[qe5 _ _ h (qb0 _),qbZ,qhy fun _=>rfl]
theorem qg8{x:Int}(h0:0≤x)(h:x<1000000000):(dig x.natAbs).length≤1:=qbG (by simp only[pw];omega)
theorem qqG{x y:Int}(hx:(dig x.natAbs).length≤10000)(h0:0≤y)(h:y<1000000000):f98 (((enc x).1,(enc x).2.1,()),((enc y).1,(enc y).2.1,()),())=some (enc (x*y),()):=
 qhj x y (by have:=qg8 h0 h;omega)
theorem qtc(n c:Nat)(i s0 s1 z:Int)(a buf:List Int)(V Y:Int)(hV:0≤V)(hY:0<Y)(hl:(dig Y.natAbs).length≤10000)(hq:V/Y≤999999999):
  ∀(k:Nat)(lo hi:Int)(m:Nat),(hi-lo).toNat≤k→0≤lo→lo≤V/Y→V/Y≤hi→hi≤999999999→k<m →
   itr s134_2 m (((n,c),(dig V.toNat,i,lo,hi,())),((s0,a,()),(s1,dig Y.natAbs,()),(z,()),buf,())) =
    some (.inl (((n,c),(dig V.toNat,i,V/Y,())),((s0,a,()),(s1,dig Y.natAbs,()),(z,()),buf,())))
 |k,lo,hi,m,hk,h1,h2,h3,h4,hm=>by
  obtain⟨m,rfl⟩:∃j,m=j+1:=⟨m-1,by omega⟩
  by_cases h:lo<hi
  ·obtain⟨k,rfl⟩:∃j,k=j+1:=⟨k-1,by omega⟩
   have e0:IntKind.wrap .i64 (Int.tdiv (wrap64 (wrap64 (lo+hi)+1)) 2)=(lo+hi+1)/2:=by
    rw[qab (n:=lo+hi) (by omega) (by omega),qab (by omega) (by omega),Int.tdiv_eq_ediv_of_nonneg (by omega),qqL (by omega) (by omega)]
   have e5:wrap64 ((lo+hi+1)/2-1)=(lo+hi+1)/2-1:=qab (by omega) (by omega)
   generalize hmid:(lo+hi+1)/2=mid at *
   have b1:0≤mid:=by omega
   have b2:mid<1000000000:=by omega
   have e1:f130 (1,dig Y.natAbs,())=some (enc Y,()):=by rw[qpa hY,qm7 Y (by omega)]
   have e2:=qfM mid (by omega)
   have e3:=qqG (x:=Y) hl b1 b2
   have hnn:0≤Y*mid:=Int.mul_nonneg (by omega) b1
   have hvn:((V.toNat:Nat):Int)=V:=by omega
   have hlm:(dig (Y*mid).natAbs).length≤(dig Y.natAbs).length+1:=qbG (by
    have q1:=qbL Y.natAbs
    have q3:Y*mid<Y*1000000000:=Int.mul_lt_mul_of_pos_left b2 hY
    simp only[pw]
    omega)
   have e4:f136 ((enc (Y*mid)).2.1,dig V.toNat,())=some ((Y*mid-V).sign,()):=by
    have:=qpJ (dig (Y*mid).natAbs) (dig V.toNat) (qb0 _) (qb0 _) (qhz _) (qhz _) (by omega)
    rw[qbZ,qbZ,hvn,show(((Y*mid).natAbs:Nat):Int)=Y*mid by omega]at this
    exact this
   have hiff:mid≤V/Y↔Y*mid≤V:=by rw[Int.le_ediv_iff_mul_le hY,Int.mul_comm]
   have hstep:s134_2 (((n,c),(dig V.toNat,i,lo,hi,())),((s0,a,()),(s1,dig Y.natAbs,()),(z,()),buf,())) =
     some (.again (((n,c),(dig V.toNat,i,(if mid≤V/Y then mid else lo),(if mid≤V/Y then hi else mid-1),())),((s0,a,()),(s1,dig Y.natAbs,()),(z,()),buf,()))):=by
    simp only[s134_2,t134_2,e0,e5,g130,e1,g126,e2,g98,e3,g136,e4,Option.isSome_some,Option.getD_some,Tr.val_test,Tr.val_fin,qad,if_true]
    rw[if_pos (by simp;omega)]
    rcases qcm (Y*mid-V)with⟨w,es⟩|⟨w,es⟩|⟨w,es⟩
    ·have:=hiff.2 (by omega)
     rw[if_pos (by rw[es];simp),if_pos this,if_pos this]
    ·have:=hiff.2 (by omega)
     rw[if_pos (by rw[es];simp),if_pos this,if_pos this]
    ·have:¬mid≤V/Y:=fun t=>by have:=hiff.1 t;omega
     rw[if_neg (by rw[es];simp),if_neg this,if_neg this]
   rw[itr,hstep]
   dsimp only
   by_cases hc:mid≤V/Y
   ·rw[if_pos hc,if_pos hc]
    exact qtc n c i s0 s1 z a buf V Y hV hY hl hq k mid hi m (by omega) b1 hc h3 h4 (by omega)
   ·rw[if_neg hc,if_neg hc]
    exact qtc n c i s0 s1 z a buf V Y hV hY hl hq k lo (mid-1) m (by omega) h1 h2 (by omega) (by omega) (by omega)
  ·have:lo=V/Y:=by omega
   rw[itr]
   simp only[s134_2,t134_2,Tr.val_test,Tr.val_fin,qad]
   rw[if_neg (by simp;omega),this]
theorem qkl(q:Int)(d:List Int):∀j,(List.replicate (j+1) 0++d).set j q=List.replicate j 0++q::d
 |0=>by simp
 |j+1=>by
  rw[List.replicate_succ,List.cons_append,List.set_cons_succ,qkl q d j,List.replicate_succ,List.cons_append]
def upA(a:List Int):Nat→Int
 |0=>0
 |k+1=>a.getD (a.length-1-k) 0+1000000000*upA a k
theorem qnv(a:List Int):∀k,k≤a.length→upA a k=dval (a.drop (a.length-k))
 |0,_=>by simp[upA,dval]
 |k+1,h=>by
  have e:a.length-(k+1)+1=a.length-k:=by omega
  rw[upA,qnv a k (by omega),List.drop_eq_getElem_cons (show a.length-(k+1)<a.length by omega),dval,e]
  congr 1
  have:a.length-1-k=a.length-(k+1):=by omega
  rw[this]
  simp[List.getD,show a.length-(k+1)<a.length by omega]
def dQ(a:List Int)(Y:Int):Nat→List Int
 |0=>[]
 |k+1=>((a.getD (a.length-1-k) 0+1000000000*(upA a k%Y))/Y)::dQ a Y k
theorem qpy(a:List Int)(Y:Int):∀k,(dQ a Y k).length=k
 |0=>rfl
 |k+1=>by simp[dQ,qpy a Y k]
theorem qmY{a:List Int}(ha:Dg a){Y:Int}(hY:0<Y)(k:Nat):0≤(a.getD (a.length-1-k) 0+1000000000*(upA a k%Y))/Y∧(a.getD (a.length-1-k) 0+1000000000*(upA a k%Y))/Y<1000000000:=by
 have h1:=ha.getD (a.length-1-k)
 have h2:=Int.emod_nonneg (upA a k) (show Y≠0 by omega)
 have h3:=Int.emod_lt_of_pos (upA a k) hY
 refine⟨Int.ediv_nonneg (by omega) (by omega),Int.ediv_lt_of_lt_mul hY (by omega)⟩
theorem quY{a:List Int}(ha:Dg a){Y:Int}(hY:0<Y):∀k,Dg (dQ a Y k)
 |0=>Dg.nil
 |k+1=>fun d hd=>by
  rcases List.mem_cons.1 hd with rfl|hd
  ·exact qmY ha hY k
  ·exact quY ha hY k d hd
theorem qjY(a:List Int){Y:Int}(k:Nat):upA a (k+1)=a.getD (a.length-1-k) 0+1000000000*(upA a k%Y)+Y*(1000000000*(upA a k/Y)):=by
 have:=Int.emod_add_mul_ediv (upA a k) Y
 rw[upA]
 have e:Y*(1000000000*(upA a k/Y))=1000000000*(Y*(upA a k/Y)):=by rw[Int.mul_left_comm]
 omega
theorem quP(a:List Int){Y:Int}(hY:0<Y):∀k,dval (dQ a Y k)=upA a k/Y
 |0=>by simp[dQ,dval,upA]
 |k+1=>by
  rw[dQ,dval,quP a hY k,qjY a (Y:=Y) k,Int.add_mul_ediv_left _ _ (by omega)]
theorem qs3(a:List Int){Y:Int}(k:Nat):upA a (k+1)%Y=(a.getD (a.length-1-k) 0+1000000000*(upA a k%Y))%Y:=by
 rw[qjY a (Y:=Y) k,Int.add_mul_emod_self_left]
theorem qug(V Y:Int)(hV:0≤V)(hY:0<Y):f137 (dig V.toNat,(enc (Y*(V/Y))).2.1,())=f137 (dig V.toNat,dig (Y*(V/Y)).toNat,()):=by
 have h:0≤Y*(V/Y):=Int.mul_nonneg (by omega) (Int.ediv_nonneg hV (by omega))
 rw[show(Y*(V/Y)).toNat=(Y*(V/Y)).natAbs by omega];rfl
theorem qrL(V Y:Int)(hV:0≤V)(hY:0<Y)(h:(dig V.toNat).length≤1000000):f137 (dig V.toNat,(enc (Y*(V/Y))).2.1,())=some (dig (V%Y).toNat,()):=by
 have h0:0≤Y*(V/Y):=Int.mul_nonneg (by omega) (Int.ediv_nonneg hV (by omega))
 have h1:=Int.emod_add_mul_ediv V Y
 have h2:=Int.emod_nonneg V (show Y≠0 by omega)
 have e1:((V.toNat:Nat):Int)=V:=by omega
 have e2:(((Y*(V/Y)).toNat:Nat):Int)=Y*(V/Y):=by omega
 rw[qug V Y hV hY,qme _ _ (qb0 _) (qb0 _) h (qcb (by omega)) (by rw[qbZ,qbZ];omega),qbZ,qbZ,e1,e2,show V-Y*(V/Y)=V%Y by omega]
theorem l134(s0 s1 z:Int)(a:List Int)(Y:Int)(ha:Dg a)(hY:0<Y)(hl:(dig Y.natAbs).length≤10000)(h:a.length≤10000):
  l134_0 (((a.length,a.length),([],(a.length:Int)-1,())),((s0,a,()),(s1,dig Y.natAbs,()),(z,()),List.replicate a.length 0,())) =
   some (.inl (((a.length,a.length),(dig (upA a a.length%Y).toNat,())),((s0,a,()),(s1,dig Y.natAbs,()),(z,()),dQ a Y a.length,()))):=by
 have key:=qbp (step:=s134_0) (m:=rounds) (n:=a.length) (b:=(((a.length,a.length),(dig (upA a a.length%Y).toNat,())),((s0,a,()),(s1,dig Y.natAbs,()),(z,()),dQ a Y a.length,())))
  (fun k=>(((a.length,a.length),(dig (upA a k%Y).toNat,(a.length:Int)-1-(k:Int),())),((s0,a,()),(s1,dig Y.natAbs,()),(z,()),List.replicate (a.length-k) 0++dQ a Y k,()))) ?_ ?_ (qal (by omega))
 ·have h0:dig (upA a 0%Y).toNat=[]:=by simp[upA,qaV]
  have h1:List.replicate (a.length-0) (0:Int)++dQ a Y 0=List.replicate a.length 0:=by simp[dQ]
  have h2:(a.length:Int)-1-((0:Nat):Int)=(a.length:Int)-1:=by omega
  simp only[h0,h1,h2]at key
  exact key
 ·intro k hk
  have hidx:(a.length:Int)-1-(k:Int)=((a.length-1-k:Nat):Int):=by omega
  have hnext:wrap64 (((a.length-1-k:Nat):Int)-1)=(a.length:Int)-1-((k+1:Nat):Int):=by rw[qab (by omega) (by omega)];omega
  have hrep:List.replicate (a.length-k) (0:Int)=List.replicate ((a.length-1-k)+1) 0:=by congr 1;omega
  have hset:(List.replicate (a.length-k) 0++dQ a Y k).set (a.length-1-k) ((a.getD (a.length-1-k) 0+1000000000*(upA a k%Y))/Y)=List.replicate (a.length-(k+1)) 0++dQ a Y (k+1):=by
   rw[hrep,qkl,dQ,show a.length-(k+1)=a.length-1-k by omega]
  have hblen:(List.replicate (a.length-k) (0:Int)++dQ a Y k).length=a.length:=by rw[List.length_append,List.length_replicate,qpy];omega
  have hb:=qmY ha hY k
  have hd:=ha.getD (a.length-1-k)
  have hr0:=Int.emod_nonneg (upA a k) (show Y≠0 by omega)
  have hr1:=Int.emod_lt_of_pos (upA a k) hY
  have hmod:=qs3 a (Y:=Y) k
  generalize hR:upA a k%Y=R at *
  generalize hV:a.getD (a.length-1-k) 0+1000000000*R=V at *
  have hV0:0≤V:=by omega
  have hRl:(dig R.toNat).length≤10000:=Nat.le_trans (qcb (by omega)) hl
  have hVl:(dig V.toNat).length≤10001:=by
   refine Nat.le_trans (m:=(dig Y.natAbs).length+1) (qbG ?_) (by omega)
   have q1:=qbL Y.natAbs
   simp only[pw];omega
  have hdg:Dg ([a.getD (a.length-1-k) 0]++dig R.toNat):=Dg.append (fun x hx=>by rw[List.mem_singleton]at hx;subst hx;exact hd) (qb0 _)
  have hf:f161 ([a.getD (a.length-1-k) 0]++dig R.toNat,())=some (dig V.toNat,()):=by
   rw[qlF _ (by simp;omega) hdg]
   congr 3
   have:dval ([a.getD (a.length-1-k) 0]++dig R.toNat)=V:=by
    show a.getD (a.length-1-k) 0+1000000000*dval (dig R.toNat)=V
    rw[qbZ];omega
   rw[this]
  have hin:l134_2 (((a.length,a.length),(dig V.toNat,((a.length-1-k:Nat):Int),(0:Int),(999999999:Int),())),((s0,a,()),(s1,dig Y.natAbs,()),(z,()),List.replicate (a.length-k) 0++dQ a Y k,())) =
    some (.inl (((a.length,a.length),(dig V.toNat,((a.length-1-k:Nat):Int),V/Y,())),((s0,a,()),(s1,dig Y.natAbs,()),(z,()),List.replicate (a.length-k) 0++dQ a Y k,()))):=
   qtc _ _ _ s0 s1 z a _ V Y hV0 hY hl (by omega) 999999999 0 999999999 rounds (by omega) (by omega) hb.1 (by omega) (by omega) (qal (by omega))
  have e1:f130 (1,dig Y.natAbs,())=some (enc Y,()):=by rw[qpa hY,qm7 Y (by omega)]
  have e2:=qfM (V/Y) (by omega)
  have e3:=qqG (x:=Y) hl hb.1 hb.2
  have e4:=qrL V Y hV0 hY (by omega)
  rw[hidx]
  dsimp only
  simp only[s134_0,t134_0,Tr.val_test,Tr.val_fin,qad,Int.toNat_natCast]
  rw[if_pos (by simp),if_pos (by simp;omega)]
  simp only[g161,hf,b134_2,hin,qax,outB,g130,e1,g126,e2,g98,e3,g137,e4,Option.isSome_some,Option.getD_some,if_true,Int.toNat_natCast,Nat.zero_add,hset,hnext,hmod,hblen]
  rw[if_pos (by simp only[Bool.and_eq_true,ble_eq_true'];omega),if_pos (by simp;omega),if_pos (by rw[ble_eq_true'];omega)]
 ·have e:(a.length:Int)-1-(a.length:Int)=-1:=by omega
  simp only[e,Nat.sub_self,List.replicate_zero,List.nil_append]
  simp[s134_0,t134_0,qad]
theorem qh7{x Y:Int}(hY:0<Y):x/Y=if(-x)%Y=0 then -((-x)/Y)else -((-x)/Y)-1:=by
 have h1:=Int.emod_add_mul_ediv (-x) Y
 have h2:=Int.emod_nonneg (-x) (show Y≠0 by omega)
 have h3:=Int.emod_lt_of_pos (-x) hY
 split
 ·rename_i h
  refine((Int.ediv_emod_unique (r:=0) hY).2 ⟨?_,by omega,hY⟩).1
  rw[Int.mul_neg];omega
 ·refine((Int.ediv_emod_unique (r:=Y-(-x)%Y) hY).2 ⟨?_,by omega,by omega⟩).1
  rw[Int.mul_sub,Int.mul_neg];omega
theorem ql6(x Y:Int)(hY:0<Y)(hl:(dig Y.natAbs).length≤10000)(h:(dig x.natAbs).length≤10000):f134 (enc x,enc Y,())=some (enc (x/Y),()):=by
 show f134 ((x.sign,dig x.natAbs,()),(Y.sign,dig Y.natAbs,()),())=_
 have hL:=l134 x.sign Y.sign 0 (dig x.natAbs) Y (qb0 _) hY hl h
 have hup:upA (dig x.natAbs) (dig x.natAbs).length=(x.natAbs:Int):=by
  rw[qnv _ _ (Nat.le_refl _),Nat.sub_self,List.drop_zero,qbZ]
 rw[hup]at hL
 have hdq:=quP (dig x.natAbs) hY (dig x.natAbs).length
 rw[hup]at hdq
 have hw:wrap64 (((dig x.natAbs).length:Int)-1)=((dig x.natAbs).length:Int)-1:=qab (by omega) (by omega)
 have hql:=qpy (dig x.natAbs) Y (dig x.natAbs).length
 have hf:f130 (x.sign,dQ (dig x.natAbs) Y (dig x.natAbs).length,())=some (mkN x.sign ((x.natAbs:Int)/Y),()):=by
  rw[qe5 _ _ (by omega) (quY (qb0 _) hY _),hdq]
 have h0:=Int.ediv_nonneg (show(0:Int)≤(x.natAbs:Int)by omega) (show 0≤Y by omega)
 have hle:(x.natAbs:Int)/Y≤x.natAbs:=Int.ediv_le_self _ (by omega)
 simp only[f134,t134,Tr.val_test,Tr.val_fin,qag,qad,hw,Int.toNat_natCast,b134_0,hL,qax,outB,if_true,g130,hf,hql,Option.isSome_some,Option.getD_some]
 rcases qcm x with⟨hx,e⟩|⟨hx,e⟩|⟨hx,e⟩
 ·have ex:(x.natAbs:Int)=-x:=by omega
  rw[if_neg (by rw[e];simp),if_pos (by simp;omega),if_pos (by simp),if_pos (by rw[e];simp)]
  have hm:mkN x.sign ((x.natAbs:Int)/Y)=enc (-((-x)/Y)):=qgh (by rw[ex]at h0 ⊢;omega) fun hz=>by
   rw[ex]at h0;rw[e,Int.sign_eq_neg_one_of_neg (by omega)]
  have hfl:=qh7 (x:=x) hY
  have hr0:=Int.emod_nonneg (-x) (show Y≠0 by omega)
  rw[hm,ex]
  by_cases hr:(-x)%Y=0
  ·rw[if_pos hr]at hfl
   rw[if_neg (by rw[hr];simp[qaV]),hfl]
  ·rw[if_neg hr]at hfl
   have hne:(dig ((-x)%Y).toNat).length≠0:=fun t=>by
    have:=dig_nil.1 (List.eq_nil_of_length_eq_zero t);omega
   have e1:=qfM 1 (by decide)
   have hlq:(dig (-((-x)/Y)).natAbs).length≤10000:=Nat.le_trans (qcb (by rw[ex]at h0 hle;omega)) h
   have e2:f129 (((enc (-((-x)/Y))).1,(enc (-((-x)/Y))).2.1,()),((enc 1).1,(enc 1).2.1,()),())=some (enc (-((-x)/Y)-1),()):=qmf _ 1 (by omega) (by have:=qg8 (x:=1) (by omega) (by omega);omega)
   rw[if_pos (by simp only[Bool.not_eq_true',decide_eq_false_iff_not];omega)]
   simp only[g126,e1,g129,e2,Option.isSome_some,Option.getD_some,if_true]
   rw[hfl]
 ·subst hx
  rw[if_pos (by simp),Int.zero_ediv];simp[enc,qaV]
 ·have ex:(x.natAbs:Int)=x:=by omega
  rw[if_neg (by rw[e];simp),if_pos (by simp;omega),if_pos (by simp),if_neg (by rw[e];simp)]
  rw[qgh (z:=x/Y) (by rw[ex]at h0 ⊢;omega) fun hz=>by
   rw[ex]at h0;rw[e,Int.sign_eq_one_of_pos (by omega)]]
theorem qsr:∀n,pw n≤(((2^(30*n):Nat)):Int)
 |0=>by simp[pw]
 |n+1=>by
  have:=qsr n
  have e:(2:Nat)^(30*(n+1))=1073741824*2^(30*n):=by rw[Nat.mul_add,Nat.pow_add,Nat.mul_comm]
  rw[e,pw]
  omega
theorem qrx{b r:Nat}(h0:0<r)(h:r<b):2*(b%r)<b:=by
 have h1:=Nat.mod_lt b h0
 have h2:=Nat.div_add_mod b r
 have h3:1≤b/r:=(Nat.one_le_div_iff h0).2 (Nat.le_of_lt h)
 have h4:r*1≤r*(b/r):=Nat.mul_le_mul_left r h3
 omega
theorem qkK(a b:Nat)(z:Int)(hb:b≠0)(h1:(dig a).length≤10000)(h2:(dig b).length≤10000):
  s133_0 ((),(((a:Int).sign,dig a,()),((b:Int).sign,dig b,()),(z,()),()))=some (.again ((),(((b:Int).sign,dig b,()),(((a%b:Nat):Int).sign,dig (a%b),()),(z,()),()))):=by
 have e0:f131 (((b:Int).sign,dig b,()),())=some ((b:Int).sign,()):=rfl
 have e1:f134 (((a:Int).sign,dig a,()),((b:Int).sign,dig b,()),())=some (enc ((a:Int)/(b:Int)),()):=ql6 a b (by omega) h2 h1
 have hd:(dig ((a:Int)/(b:Int)).natAbs).length≤10000:=Nat.le_trans (qcb (by
  have:((a:Int)/(b:Int)).natAbs=a/b:=by rw[←Int.natCast_ediv];rfl
  rw[this];exact Nat.div_le_self _ _)) h1
 have e2:f98 (((enc ((a:Int)/(b:Int))).1,(enc ((a:Int)/(b:Int))).2.1,()),((b:Int).sign,dig b,()),())=some (enc ((a:Int)/(b:Int)*(b:Int)),()):=qhj _ b (by simp only[Int.natAbs_natCast];omega)
 have hm:=Int.emod_add_mul_ediv (a:Int) b
 have hle:0≤(a:Int)/(b:Int)*(b:Int):=Int.mul_nonneg (Int.ediv_nonneg (by omega) (by omega)) (by omega)
 have hmn:=Int.emod_nonneg (a:Int) (show(b:Int)≠0 by omega)
 have hcm:(a:Int)/(b:Int)*(b:Int)=(b:Int)*((a:Int)/(b:Int)):=Int.mul_comm _ _
 have e3:f129 (((a:Int).sign,dig a,()),((enc ((a:Int)/(b:Int)*(b:Int))).1,(enc ((a:Int)/(b:Int)*(b:Int))).2.1,()),())=some (enc ((a%b:Nat):Int),()):=by
  have h:=qmf a ((a:Int)/(b:Int)*(b:Int)) (by simp only[Int.natAbs_natCast];omega) (Nat.le_trans (qcb (n:=a) (by omega)) (by omega))
  rw[show(a:Int)-(a:Int)/(b:Int)*(b:Int)=((a%b:Nat):Int)by rw[Int.natCast_emod];omega]at h
  exact h
 have hs:(b:Int).sign=1:=Int.sign_eq_one_of_pos (by omega)
 simp only[s133_0,t133_0,g131,e0,g134,e1,g98,e2,g129,e3,Option.isSome_some,Option.getD_some,Tr.val_test,Tr.val_fin,qag,if_true]
 rw[if_pos (by rw[hs];simp)]
 rfl
theorem qmK(a:Nat)(z:Int):s133_0 ((),(((a:Int).sign,dig a,()),(((0:Nat):Int).sign,dig 0,()),(z,()),()))=some (.brk ((),(((a:Int).sign,dig a,()),(((0:Nat):Int).sign,dig 0,()),(z,()),()))):=by
 have e0:f131 ((((0:Nat):Int).sign,dig 0,()),())=some (((0:Nat):Int).sign,()):=rfl
 simp only[s133_0,t133_0,g131,e0,Option.isSome_some,Option.getD_some,Tr.val_test,Tr.val_fin,qag,if_true]
 rw[if_neg (by simp)]
theorem quB(z:Int):∀(k a b m:Nat),b<2^k→(dig a).length≤10000→(dig b).length≤10000→2*k<m →
  itr s133_0 m ((),(((a:Int).sign,dig a,()),((b:Int).sign,dig b,()),(z,()),())) =
   some (.inl ((),(((Nat.gcd a b:Nat):Int).sign,dig (Nat.gcd a b),()),(((0:Nat):Int).sign,dig 0,()),(z,()),()))
 |k,a,b,m,h,h1,h2,hm=>by
  obtain⟨m,rfl⟩:∃j,m=j+1:=⟨m-1,by omega⟩
  by_cases hb:b=0
  ·subst hb
   rw[itr,qmK,Nat.gcd_zero_right]
  ·rw[itr,qkK a b z hb h1 h2]
   dsimp only
   have hr:=Nat.mod_lt a (Nat.pos_of_ne_zero hb)
   have hrl:(dig (a%b)).length≤10000:=Nat.le_trans (qcb (Nat.le_of_lt hr)) h2
   have hg:Nat.gcd a b=Nat.gcd b (a%b):=by rw[Nat.gcd_comm,Nat.gcd_rec,Nat.gcd_comm]
   obtain⟨m,rfl⟩:∃j,m=j+1:=⟨m-1,by
    cases k with
    |zero=>simp at h;omega
    |succ k=>omega⟩
   by_cases hr0:a%b=0
   ·rw[hg,hr0,itr,qmK,Nat.gcd_zero_right]
   ·rw[itr,qkK b (a%b) z hr0 h2 hrl]
    dsimp only
    have hh:=qrx (Nat.pos_of_ne_zero hr0) hr
    have hg2:Nat.gcd b (a%b)=Nat.gcd (a%b) (b%(a%b)):=by rw[Nat.gcd_comm,Nat.gcd_rec,Nat.gcd_comm]
    cases k with
    |zero=>simp at h;omega
    |succ k=>
     rw[hg,hg2]
     have h3:=Nat.mod_lt b (Nat.pos_of_ne_zero hr0)
     exact quB z k (a%b) (b%(a%b)) m (by rw[Nat.pow_succ]at h;omega) hrl (Nat.le_trans (qcb (by omega)) hrl) (by omega)
theorem qtz(x y:Int)(h1:(dig x.natAbs).length≤10000)(h2:(dig y.natAbs).length≤10000):f133 (enc x,enc y,())=some (enc (Nat.gcd x.natAbs y.natAbs:Nat),()):=by
 have e0:f162 ((x.sign,dig x.natAbs,()),())=some (enc x.natAbs,()):=qqy x
 have e1:f162 ((y.sign,dig y.natAbs,()),())=some (enc y.natAbs,()):=qqy y
 have hlt:y.natAbs<2^(30*(dig y.natAbs).length):=by
  have q1:=qbL y.natAbs
  have q2:=qsr (dig y.natAbs).length
  omega
 have hl:l133_0 ((),(((enc x.natAbs).1,(enc x.natAbs).2.1,()),((enc y.natAbs).1,(enc y.natAbs).2.1,()),((0:Int),()),())) =
   some (.inl ((),(((Nat.gcd x.natAbs y.natAbs:Nat):Int).sign,dig (Nat.gcd x.natAbs y.natAbs),()),(((0:Nat):Int).sign,dig 0,()),((0:Int),()),())):=
  quB 0 _ x.natAbs y.natAbs rounds hlt h1 h2 (qal (by omega))
 show f133 ((x.sign,dig x.natAbs,()),(y.sign,dig y.natAbs,()),())=_
 simp only[f133,t133,g162,e0,e1,b133_0,hl,Option.isSome_some,Option.getD_some,Tr.val_test,Tr.val_fin,qax,outB,if_true]
 rfl
def encR(r:Rat):(Int×List Int×PUnit)×(Int×List Int×PUnit)×PUnit:=(enc r.num,enc (r.den:Int),())
def rsz(r:Rat)(n:Nat):Prop:=(dig r.num.natAbs).length≤n∧(dig r.den).length≤n
theorem qjN(m n:Nat):(dig (m*n)).length≤(dig m).length+(dig n).length:=qbG (by
 have h1:=qbL m;have h2:=qbL n
 rw[qp2,Int.natCast_mul]
 rcases Nat.eq_zero_or_pos n with h|h
 ·subst h
  have:=qeJ (dig m).length;have:=qeJ (dig 0).length
  have:=Int.mul_pos (qeJ (dig m).length) (qeJ (dig 0).length)
  simpa using this
 ·exact Int.lt_of_lt_of_le (Int.mul_lt_mul_of_pos_right h1 (by omega)) (Int.mul_le_mul_of_nonneg_left (Int.le_of_lt h2) (Int.le_of_lt (qeJ _))))
theorem qpe(x y:Int){k:Nat}(h1:(dig x.natAbs).length≤k)(h2:(dig y.natAbs).length≤k):(dig (x+y).natAbs).length≤k+1:=qbG (by
 have q1:=qbL x.natAbs;have q2:=qbL y.natAbs
 have q3:pw (dig x.natAbs).length≤pw k:=qls h1
 have q4:pw (dig y.natAbs).length≤pw k:=qls h2
 simp only[pw];omega)
theorem qdR(x y:Int):(dig (x*y).natAbs).length≤(dig x.natAbs).length+(dig y.natAbs).length:=by rw[Int.natAbs_mul];exact qjN _ _
theorem qss(x:Int)(y:Nat)(hy:y≠0)(h1:(dig x.natAbs).length≤10000)(h2:(dig y).length≤10000):f99 (enc x,enc (y:Int),())=some (encR (Rat.normalize x y hy),()):=by
 have hs:(y:Int).sign=1:=Int.sign_eq_one_of_pos (by omega)
 have e0:f131 (((y:Int).sign,dig (y:Int).natAbs,()),())=some ((y:Int).sign,()):=rfl
 have e1:f133 ((x.sign,dig x.natAbs,()),((y:Int).sign,dig (y:Int).natAbs,()),())=some (enc (Nat.gcd x.natAbs y:Nat),()):=qtz x y h1 h2
 have e2:=qfM 1 (by decide)
 have hg:0<Nat.gcd x.natAbs y:=Nat.gcd_pos_of_pos_right _ (by omega)
 have hgl:(dig (Nat.gcd x.natAbs y)).length≤10000:=Nat.le_trans (qcb (Nat.gcd_le_right _ (by omega))) h2
 have hnum:(Rat.normalize x y hy).num=x/((Nat.gcd x.natAbs y:Nat):Int):=by rw[Rat.normalize_eq]
 have hden:(Rat.normalize x y hy).den=y/Nat.gcd x.natAbs y:=by rw[Rat.normalize_eq]
 generalize hgg:Nat.gcd x.natAbs y=g at *
 have e3:f97 (((enc (g:Nat)).1,(enc (g:Nat)).2.1,()),((enc 1).1,(enc 1).2.1,()),())=some (((g:Int)-1).sign,()):=qsl (g:Int) 1 (by simp only[Int.natAbs_natCast];omega) (by have:=qg8 (x:=1) (by omega) (by omega);omega)
 have e4:f134 ((x.sign,dig x.natAbs,()),((enc (g:Nat)).1,(enc (g:Nat)).2.1,()),())=some (enc (x/(g:Int)),()):=ql6 x g (by omega) hgl h1
 have e5:f134 (((y:Int).sign,dig (y:Int).natAbs,()),((enc (g:Nat)).1,(enc (g:Nat)).2.1,()),())=some (enc ((y:Int)/(g:Int)),()):=ql6 y g (by omega) hgl h2
 show f99 ((x.sign,dig x.natAbs,()),((y:Int).sign,dig (y:Int).natAbs,()),())=_
 simp only[f99,t99,g131,e0,g133,e1,g126,e2,g97,e3,Option.isSome_some,Option.getD_some,Tr.val_test,Tr.val_fin,qad,qag,if_true]
 rw[if_neg (by rw[hs];simp)]
 by_cases h:g=1
 ·subst h
  rw[if_pos (by simp),encR,hnum,hden]
  simp[enc]
 ·rw[if_neg (by rw[Int.sign_eq_one_of_pos (by omega)];simp)]
  simp only[g134,e4,e5,Option.isSome_some,Option.getD_some,if_true]
  rw[encR,hnum,hden,Int.natCast_ediv]
theorem qsR(x:Int)(y:Nat)(hy:y≠0)(h:x.natAbs≤9223372036854775807)(h2:y≤9223372036854775807):f101 (x,(y:Int),())=some (encR (Rat.normalize x y hy),()):=by
 have e1:=qfM x h
 have e2:=qfM (y:Int) (by omega)
 have e3:f99 (((enc x).1,(enc x).2.1,()),((enc (y:Int)).1,(enc (y:Int)).2.1,()),())=some (encR (Rat.normalize x y hy),()):=qss x y hy
  (Nat.le_trans (qbG (k:=3) (by simp only[pw];omega)) (by omega)) (Nat.le_trans (qbG (k:=3) (by simp only[pw];omega)) (by omega))
 simp only[f101,t101,g126,e1,e2,g99,e3,Option.isSome_some,Option.getD_some,Tr.val_test,Tr.val_fin,if_true]
theorem que(r s:Rat)(hr:rsz r 2000)(hs:rsz s 2000):f44 (encR r,encR s,())=some (encR (r+s),()):=by
 obtain⟨r1,r2⟩:=hr
 obtain⟨s1,s2⟩:=hs
 have m1:=qdR r.num (s.den:Int)
 have m2:=qdR s.num (r.den:Int)
 have m3:=qjN r.den s.den
 simp only[Int.natAbs_natCast]at m1 m2
 have m4:=qpe (r.num*(s.den:Int)) (s.num*(r.den:Int)) (k:=4000) (by omega) (by omega)
 have e1:f98 ((r.num.sign,dig r.num.natAbs,()),((s.den:Int).sign,dig s.den,()),())=some (enc (r.num*(s.den:Int)),()):=qhj _ _ (by simp only[Int.natAbs_natCast];omega)
 have e2:f98 ((s.num.sign,dig s.num.natAbs,()),((r.den:Int).sign,dig r.den,()),())=some (enc (s.num*(r.den:Int)),()):=qhj _ _ (by simp only[Int.natAbs_natCast];omega)
 have e3:f100 (((enc (r.num*(s.den:Int))).1,(enc (r.num*(s.den:Int))).2.1,()),((enc (s.num*(r.den:Int))).1,(enc (s.num*(r.den:Int))).2.1,()),())=some (enc (r.num*(s.den:Int)+s.num*(r.den:Int)),()):=qoK _ _ (by omega) (by omega)
 have e4:f98 (((r.den:Int).sign,dig r.den,()),((s.den:Int).sign,dig s.den,()),())=some (enc ((r.den*s.den:Nat):Int),()):=by
  rw[Int.natCast_mul];exact qhj (r.den:Int) (s.den:Int) (by simp only[Int.natAbs_natCast];omega)
 have e5:f99 (((enc (r.num*(s.den:Int)+s.num*(r.den:Int))).1,(enc (r.num*(s.den:Int)+s.num*(r.den:Int))).2.1,()),((enc ((r.den*s.den:Nat):Int)).1,(enc ((r.den*s.den:Nat):Int)).2.1,()),())=some (encR (r+s),()):=by
  rw[Rat.add_def];exact qss _ _ _ (by omega) (by omega)
 show f44 (((r.num.sign,dig r.num.natAbs,()),((r.den:Int).sign,dig r.den,()),()),((s.num.sign,dig s.num.natAbs,()),((s.den:Int).sign,dig s.den,()),()),())=_
 simp only[f44,t44,g98,e1,e2,g100,e3,e4,g99,e5,Option.isSome_some,Option.getD_some,Tr.val_test,Tr.val_fin,if_true]
theorem quq(r s:Rat)(hr:rsz r 2000)(hs:rsz s 2000):f43 (encR r,encR s,())=some ((r.num*(s.den:Int)-s.num*(r.den:Int)).sign,()):=by
 obtain⟨r1,r2⟩:=hr
 obtain⟨s1,s2⟩:=hs
 have m1:=qdR r.num (s.den:Int)
 have m2:=qdR s.num (r.den:Int)
 simp only[Int.natAbs_natCast]at m1 m2
 have e1:f98 ((r.num.sign,dig r.num.natAbs,()),((s.den:Int).sign,dig s.den,()),())=some (enc (r.num*(s.den:Int)),()):=qhj _ _ (by simp only[Int.natAbs_natCast];omega)
 have e2:f98 ((s.num.sign,dig s.num.natAbs,()),((r.den:Int).sign,dig r.den,()),())=some (enc (s.num*(r.den:Int)),()):=qhj _ _ (by simp only[Int.natAbs_natCast];omega)
 have e3:f97 (((enc (r.num*(s.den:Int))).1,(enc (r.num*(s.den:Int))).2.1,()),((enc (s.num*(r.den:Int))).1,(enc (s.num*(r.den:Int))).2.1,()),())=some ((r.num*(s.den:Int)-s.num*(r.den:Int)).sign,()):=qsl _ _ (by omega) (by omega)
 show f43 (((r.num.sign,dig r.num.natAbs,()),((r.den:Int).sign,dig r.den,()),()),((s.num.sign,dig s.num.natAbs,()),((s.den:Int).sign,dig s.den,()),()),())=_
 simp only[f43,t43,g98,e1,e2,g97,e3,Option.isSome_some,Option.getD_some,Tr.val_test,Tr.val_fin,if_true]
theorem qvb{r s:Rat}:(r.num*(s.den:Int)-s.num*(r.den:Int)).sign=0↔r=s:=by
 rw[Int.sign_eq_zero_iff_zero,Rat.eq_iff_mul_eq_mul];omega
theorem qjl(n:Int)(d:Nat)(hd:d≠0){k:Nat}(h1:(dig n.natAbs).length≤k)(h2:(dig d).length≤k):rsz (Rat.normalize n d hd) k:=by
 rw[Rat.normalize_eq]
 exact⟨Nat.le_trans (qcb (Int.natAbs_ediv_le_natAbs _ _)) h1,Nat.le_trans (qcb (Nat.div_le_self _ _)) h2⟩
theorem qcV{r:Rat}{a b:Nat}(h:rsz r a)(hab:a≤b):rsz r b:=⟨Nat.le_trans h.1 hab,Nat.le_trans h.2 hab⟩
theorem qto{r s:Rat}{a b:Nat}(hr:rsz r a)(hs:rsz s b):rsz (r+s) (a+b+1):=by
 obtain⟨r1,r2⟩:=hr
 obtain⟨s1,s2⟩:=hs
 have m1:=qdR r.num (s.den:Int)
 have m2:=qdR s.num (r.den:Int)
 have m3:=qjN r.den s.den
 simp only[Int.natAbs_natCast]at m1 m2
 have m4:=qpe (r.num*(s.den:Int)) (s.num*(r.den:Int)) (k:=a+b) (by omega) (by omega)
 rw[Rat.add_def]
 exact qjl _ _ _ m4 (by omega)
theorem qsN{s:Rat}{b:Nat}(hs:rsz s b):rsz (-s) b:=⟨by rw[Rat.neg_num,Int.natAbs_neg];exact hs.1,by rw[Rat.neg_den];exact hs.2⟩
theorem qo5{r s:Rat}{a b:Nat}(hr:rsz r a)(hs:rsz s b):rsz (r-s) (a+b+1):=by
 rw[Rat.sub_eq_add_neg];exact qto hr (qsN hs)
theorem qo3{r s:Rat}{a b:Nat}(hr:rsz r a)(hs:rsz s b):rsz (r*s) (a+b):=by
 obtain⟨r1,r2⟩:=hr
 obtain⟨s1,s2⟩:=hs
 have m1:=qdR r.num s.num
 have m3:=qjN r.den s.den
 rw[Rat.mul_def]
 exact qjl _ _ _ (by omega) (by omega)
theorem qi0{x:Int}(h:x.natAbs≤9223372036854775807):rsz (x:Rat) 3:=by
 refine⟨?_,?_⟩
 ·rw[Rat.num_intCast];exact qbG (by simp only[pw];omega)
 ·rw[Rat.den_intCast];exact qbG (by simp only[pw];omega)
theorem qj2{p:Fr}(h:Gp p):rsz (uR p) 3:=by
 have h1:=h.d0
 have h2:=h.d1
 have h3:=h.n1
 unfold uR
 rw[qdN _ _ (show p.2.1.toNat≠0 by omega)]
 exact qjl _ _ _ (qbG (by simp only[pw];omega)) (qbG (by simp only[pw];omega))
theorem qpB{p:Fr}(h:Gp p):f45 ((p.1,p.2.1,()),())=some (encR (uR p),()):=by
 have h1:=h.d0
 have h2:=h.d1
 have h3:=h.n1
 have hd:p.2.1.toNat≠0:=by omega
 have e:=qsR p.1 p.2.1.toNat hd (by omega) (by omega)
 rw[show((p.2.1.toNat:Nat):Int)=p.2.1 by omega,←qdN _ _ hd]at e
 have e:f101 (p.1,p.2.1,())=some (encR (uR p),()):=e
 simp only[f45,t45,Tr.val_test,Tr.val_fin,Tr.val_stop,g101,e,Option.isSome_some,Option.getD_some,if_true]
def spr(K:List Int)(l:List Fr)(k:Nat):Rat:=(K.getD k 0:Rat)*(uR (l.getD k z3)-if k=0 then 0 else uR (l.getD (k-1) z3))
theorem qtI{K:List Int}{l:List Fr}{k:Nat}(k1:1≤K.getD k 0)(k2:K.getD k 0≤20)(hl:∀i,i<l.length→Gp (l.getD i z3))(hk:k<l.length):rsz (spr K l k) 10:=by
 have a0:=qi0 (x:=K.getD k 0) (by omega)
 have a1:=qj2 (hl k hk)
 unfold spr
 split
 ·have z:rsz (0:Rat) 3:=qi0 (x:=0) (by decide)
  exact qcV (qo3 a0 (qo5 a1 z)) (by omega)
 ·exact qcV (qo3 a0 (qo5 a1 (qj2 (hl (k-1) (by omega))))) (by omega)
theorem qr1(n d:Int)(h1:-9223372036854775808≤n)(h2:n≤9223372036854775807)(h3:-9223372036854775808≤d)(h4:d≤9223372036854775807):f36 ((n,d,()),())=some (decide (0<d∧Int.gcd d n=1),()):=by
 by_cases h0:d≤0
 ·have b0:(!decide (d≤0))=false:=nF h0
  have b1:decide (0<d∧Int.gcd d n=1)=false:=dF (by omega)
  simp only[f36,t36,Tr.val_test,Tr.val_fin,Tr.val_stop,qad,b0,b1,Bool.false_eq_true,if_false]
 ·have b0:(!decide (d≤0))=true:=nT h0
  have hg:Int.gcd d n≤9223372036854775807:=by
   have:=qfT n d.toNat (by omega)
   rw[show((d.toNat:Nat):Int)=d by omega]at this
   omega
  have e91:=qps n d (by omega) (by rw[Int.gcd_comm];exact hg)
  rw[Int.gcd_comm]at e91
  simp only[f36,t36,Tr.val_test,Tr.val_fin,Tr.val_stop,qad,qag,b0,g91,e91,Option.isSome_some,Option.getD_some,if_true]
  by_cases h5:Int.gcd d n=1
  ·rw[dT (show 0<d∧Int.gcd d n=1 from⟨by omega,h5⟩),dT (show((Int.gcd d n:Nat):Int)=1 by omega)]
  ·rw[dF (show ¬(0<d∧Int.gcd d n=1)from fun h=>h5 h.2),dF (show ¬((Int.gcd d n:Nat):Int)=1 by omega)]
def upR(K:List Int)(l:List Fr)(n:Nat)(Lo:Int)(i:Nat):Rat:=if i=n then(Lo:Rat)else if i+1<l.length then spr K l (i+1)else 0
def rb(K F:List Int)(l:List Fr)(n:Nat)(Lo:Int)(i:Nat):Bool:=!decide (upR K l n Lo i+((F.getD i 0:Int):Rat)=spr K l i)
theorem rsz_up{K F:List Int}(v:VC K F){l:List Fr}(n:Nat){Lo:Int}(hl:l.length=K.length)(hLo:Lo.natAbs≤9223372036854775807)(hg:∀i,i<l.length→Gp (l.getD i z3))(i:Nat):rsz (upR K l n Lo i) 10:=by
 unfold upR
 split
 ·exact qcV (qi0 hLo) (by omega)
 ·split
  ·exact qtI (v.k1 _ (by omega)) (v.k2 _ (by omega)) hg (by omega)
  ·exact qcV (qi0 (x:=0) (by decide)) (by omega)
theorem qk3(bad:Nat→Bool):∀a b i,first bad (a+b) i=match first bad a i with
  |some j=>some j
  |none=>first bad b (i+a)
 |0,b,i=>by simp[first]
 |a+1,b,i=>by
  rw[show a+1+b=(a+b)+1 by omega]
  simp only[first]
  split
  ·rfl
  ·rw[qk3 bad a b (i+1),show i+1+a=i+(a+1)by omega]
theorem qhm(bad:Nat→Bool)(c:Nat):∀b i,first bad b (c+i)=(first (fun k=>bad (c+k)) b i).map (c+·)
 |0,_=>rfl
 |b+1,i=>by
  simp only[first]
  split
  ·rfl
  ·exact qhm bad c b (i+1)
theorem qtv:uR ((0:Int),(1:Int),())=0:=Rat.zero_mkRat 1
theorem qmT{K:List Int}{n:Nat}{L U:List Fr}(hL:L.length=n+1){i:Nat}(hi:i<n+1):tens (K.take (n+1)) ((0:Int),(1:Int),()) L i=spr K (L++U) i:=by
 unfold tens spr
 rw[if_neg (by omega),qfF K (n+1) i hi,qgP L U i (by omega),qgP L U (i-1) (by omega),qtv]
theorem qqn{K:List Int}{n:Nat}{L U:List Fr}(hL:L.length=n+1){i:Nat}(hi:i<U.length):tens (K.drop (n+1)) (L.getD n z3) U i=spr K (L++U) (n+1+i):=by
 unfold tens spr
 have e1:=qhl L U i
 rw[hL]at e1
 rw[if_neg (by omega),qby,e1,if_neg (show ¬n+1+i=0 by omega)]
 by_cases h0:i=0
 ·subst h0
  rw[if_pos rfl,show n+1+0-1=n by omega,qgP L U n (by omega)]
 ·have e2:=qhl L U (i-1)
  rw[hL]at e2
  rw[if_neg h0,show n+1+i-1=n+1+(i-1)by omega,e2]
theorem qsf{K F:List Int}(v:VC K F){n:Nat}(hn:n<K.length){L U:List Fr}(hL:L.length=n+1)(hU:U.length=K.length-(n+1)):
  first (rb K F (L++U) n (sF F (n+1))) (L++U).length 0=match bal (K.take (n+1)) (lowF F n) ((0:Int),(1:Int),()) L with
  |some j=>some j
  |none=>(bal (K.drop (n+1)) (F.drop (n+1)) (L.getD n z3) U).map (n+1+·):=by
 have hf:=v.fl
 have hlen:(L++U).length=(lowF F n).length+(F.drop (n+1)).length:=by
  rw[qdM F n (by omega),List.length_append,List.length_drop];omega
 have hll:=qdM F n (by omega)
 have hdl:(F.drop (n+1)).length=U.length:=by rw[List.length_drop];omega
 have h1:first (rb K F (L++U) n (sF F (n+1))) (lowF F n).length 0=bal (K.take (n+1)) (lowF F n) ((0:Int),(1:Int),()) L:=by
  refine qdS fun j _ hj=>?_
  rw[hll]at hj
  have hj:j<n+1:=by omega
  unfold rb balB
  rw[qmT (U:=U) hL hj]
  by_cases hjn:j=n
  ·subst hjn
   have ht:tens (K.take (j+1)) ((0:Int),(1:Int),()) L (j+1)=0:=by unfold tens;rw[if_pos hL.symm]
   have hup:upR K (L++U) j (sF F (j+1)) j=((sF F (j+1):Int):Rat):=by unfold upR;rw[if_pos rfl]
   have hs:=qea F j (by omega)
   rw[ht,hup,qfk F j j (by omega) (by omega),if_pos rfl,hs,Rat.intCast_add]
   congr 1
   exact decide_eq_decide.2 ⟨fun h=>by grind,fun h=>by grind⟩
  ·rw[qmT (U:=U) hL (show j+1<n+1 by omega)]
   have hup:upR K (L++U) n (sF F (n+1)) j=spr K (L++U) (j+1):=by unfold upR;rw[if_neg hjn,if_pos (by rw[List.length_append];omega)]
   rw[hup,qfk F n j (by omega) (by omega),if_neg hjn]
   congr 1
   exact decide_eq_decide.2 ⟨fun h=>by grind,fun h=>by grind⟩
 have h2:first (fun k=>rb K F (L++U) n (sF F (n+1)) (n+1+k)) (F.drop (n+1)).length 0=bal (K.drop (n+1)) (F.drop (n+1)) (L.getD n z3) U:=by
  refine qdS fun j _ hj=>?_
  rw[hdl]at hj
  have hj:j<U.length:=by omega
  unfold rb balB
  rw[qqn hL hj,qby]
  by_cases hjl:j+1=U.length
  ·have ht:tens (K.drop (n+1)) (L.getD n z3) U (j+1)=0:=by unfold tens;rw[if_pos hjl]
   have hup:upR K (L++U) n (sF F (n+1)) (n+1+j)=0:=by unfold upR;rw[if_neg (by omega),if_neg (by rw[List.length_append];omega)]
   rw[ht,hup]
   congr 1
   exact decide_eq_decide.2 ⟨fun h=>by grind,fun h=>by grind⟩
  ·rw[qqn hL (show j+1<U.length by omega)]
   have hup:upR K (L++U) n (sF F (n+1)) (n+1+j)=spr K (L++U) (n+1+(j+1)):=by unfold upR;rw[if_neg (by omega),if_pos (by rw[List.length_append];omega)];rfl
   rw[hup]
   congr 1
   exact decide_eq_decide.2 ⟨fun h=>by grind,fun h=>by grind⟩
 rw[hlen,qk3,h1,hll]
 cases bal (K.take (n+1)) (lowF F n) ((0:Int),(1:Int),()) L with
 |some j=>rfl
 |none=>
  show first _ _ (0+(n+1))=_
  rw[←h2,Nat.zero_add]
  exact qhm _ (n+1) _ 0
theorem quj(n:Int)(d:Nat)(hd:d≠0)(hn:n.natAbs≤4000000000000000000):f95 (n,(d:Int),())=some (n/(d:Int),()):=by
 have z0:((d:Int)==0)=false:=beq_false_of_ne (by omega)
 have hb:=Int.natAbs_ediv_le_natAbs n (d:Int)
 have hc:=Int.natAbs_tdiv_le_natAbs n (d:Int)
 have w1:IntKind.wrap .i64 (Int.tdiv n (d:Int))=Int.tdiv n (d:Int):=qdK (by omega) (by omega)
 have h0:=Int.emod_nonneg n (show(d:Int)≠0 by omega)
 have h1:=Int.emod_lt_of_pos n (show 0<(d:Int)by omega)
 have e1:=@Int.tdiv_eq_ediv n (d:Int)
 have e2:=@Int.tmod_eq_emod n (d:Int)
 simp only[f95,t95,Tr.val_test,Tr.val_fin,Tr.val_stop,z0,Bool.false_eq_true,if_false,qad,w1]
 by_cases h:0≤n∨(d:Int) ∣ n
 ·rw[if_pos h]at e1 e2
  have b:(!decide (0≤Int.tmod n (d:Int)))=false:=nF (by omega)
  simp only[b,Bool.false_eq_true,if_false,e1,Int.add_zero]
 ·rw[if_neg h]at e1 e2
  have b:(!decide (0≤Int.tmod n (d:Int)))=true:=nT (by omega)
  have hs:(d:Int).sign=1:=Int.sign_eq_one_of_pos (by omega)
  rw[hs]at e1
  have w2:wrap64 (Int.tdiv n (d:Int)-1)=n/(d:Int):=by rw[qab (by omega) (by omega)];omega
  simp only[b,if_true,w2]
theorem qqE(n d:Int)(hd:0<d)(hn:n.natAbs≤4000000000000000000):f95 (n,d,())=some (n/d,()):=by
 have e:=quj n d.toNat (by omega) hn
 rw[show((d.toNat:Nat):Int)=d by omega]at e
 exact e
theorem it37:∀(m:Nat)(a b c d:Int),0<b→0<d→a.natAbs≤1000000000000000000→c.natAbs≤1000000000000000000→b≤1000000000000000000→d≤1000000000000000000→(b+d).toNat<m →
  itr s37_0 m ((a,b,c,d,()),())=some (.inr (((a*d-c*b).sign,()),()))
 |0,_,_,_,_,_,_,_,_,_,_,h=>by omega
 |m+1,a,b,c,d,hb,hd,ha,hc,hb2,hd2,h=>by
  have e1:=qqE a b hb (by omega)
  have e2:=qqE c d hd (by omega)
  have a1:=Int.emod_nonneg a (show b≠0 by omega)
  have a2:=Int.emod_lt_of_pos a hb
  have a3:=Int.emod_add_mul_ediv a b
  have c1:=Int.emod_nonneg c (show d≠0 by omega)
  have c2:=Int.emod_lt_of_pos c hd
  have c3:=Int.emod_add_mul_ediv c d
  have w1:wrap64 (a-wrap64 (a/b*b))=a%b:=by
   have hm:a/b*b=b*(a/b):=Int.mul_comm _ _
   rw[qab (n:=a/b*b) (by omega) (by omega),qab (by omega) (by omega)];omega
  have w2:wrap64 (c-wrap64 (c/d*d))=c%d:=by
   have hm:c/d*d=d*(c/d):=Int.mul_comm _ _
   rw[qab (n:=c/d*d) (by omega) (by omega),qab (by omega) (by omega)];omega
  generalize hq1:a/b=q1 at *
  generalize hq2:c/d=q2 at *
  generalize hr1:a%b=r1 at *
  generalize hr2:c%d=r2 at *
  have key:a*d-c*b=b*d*(q1-q2)+(r1*d-r2*b):=by rw[←a3,←c3];grind
  have p1:0≤r1*d:=Int.mul_nonneg a1 (by omega)
  have p2:0≤r2*b:=Int.mul_nonneg c1 (by omega)
  have p3:0<(b-r1)*d:=Int.mul_pos (by omega) hd
  have p4:0<(d-r2)*b:=Int.mul_pos (by omega) hb
  have p3':(b-r1)*d=b*d-r1*d:=Int.sub_mul _ _ _
  have p4':(d-r2)*b=b*d-r2*b:=by rw[Int.sub_mul,Int.mul_comm d b]
  have pbd:0<b*d:=Int.mul_pos hb hd
  rw[itr]
  simp only[s37_0,t37_0,Tr.val_test,Tr.val_fin,Tr.val_stop,qad,qag,g95,e1,e2,Option.isSome_some,Option.getD_some,if_true,w1,w2]
  by_cases h1:q2≤q1
  ·have b1:(!decide (q2≤q1))=false:=nF h1
   by_cases h2:q1≤q2
   ·have b2:(!decide (q1≤q2))=false:=nF h2
    have hz:q1-q2=0:=by omega
    rw[hz,Int.mul_zero,Int.zero_add]at key
    by_cases z1:r1=0
    ·have b3:decide (r1=0)=true:=dT z1
     have k1:r1*d=0:=by rw[z1,Int.zero_mul]
     by_cases z2:r2=0
     ·have b4:decide (r2=0)=true:=dT z2
      have k2:r2*b=0:=by rw[z2,Int.zero_mul]
      have ks:(a*d-c*b).sign=0:=by rw[key,k1,k2];rfl
      simp only[b1,b2,b3,b4,ks,Bool.false_eq_true,if_false,if_true]
     ·have b4:decide (r2=0)=false:=dF z2
      have k2:0<r2*b:=Int.mul_pos (by omega) hb
      have ks:(a*d-c*b).sign=-1:=Int.sign_eq_neg_one_of_neg (by omega)
      simp only[b1,b2,b3,b4,ks,Bool.false_eq_true,if_false,if_true]
    ·have b3:decide (r1=0)=false:=dF z1
     have k1:0<r1*d:=Int.mul_pos (by omega) hd
     by_cases z2:r2=0
     ·have b4:decide (r2=0)=true:=dT z2
      have k2:r2*b=0:=by rw[z2,Int.zero_mul]
      have ks:(a*d-c*b).sign=1:=Int.sign_eq_one_of_pos (by omega)
      simp only[b1,b2,b3,b4,ks,Bool.false_eq_true,if_false,if_true]
     ·have b4:decide (r2=0)=false:=dF z2
      simp only[b1,b2,b3,b4,Bool.false_eq_true,if_false]
      rw[it37 m d r2 b r1 (by omega) (by omega) (by omega) (by omega) (by omega) (by omega) (by omega),key,Int.mul_comm d r1,Int.mul_comm b r2]
   ·have b2:(!decide (q1≤q2))=true:=nT h2
    have k3:b*d*1≤b*d*(q1-q2):=Int.mul_le_mul_of_nonneg_left (by omega) (by omega)
    have ks:(a*d-c*b).sign=1:=Int.sign_eq_one_of_pos (by omega)
    simp only[b1,b2,ks,Bool.false_eq_true,if_false,if_true]
  ·have b1:(!decide (q2≤q1))=true:=nT h1
   have k3:b*d*(q1-q2)≤b*d*(-1):=Int.mul_le_mul_of_nonneg_left (by omega) (by omega)
   have ks:(a*d-c*b).sign=-1:=Int.sign_eq_neg_one_of_neg (by omega)
   simp only[b1,ks,if_true]
theorem quV(a b c d:Int)(hb:0<b)(hd:0<d)(ha:a.natAbs≤1000000000000000000)(hc:c.natAbs≤1000000000000000000)(hb2:b≤1000000000000000000)(hd2:d≤1000000000000000000):f37 (a,b,c,d,())=some ((a*d-c*b).sign,()):=by
 have e:l37_0 ((a,b,c,d,()),())=some (.inr (((a*d-c*b).sign,()),())):=it37 rounds a b c d hb hd ha hc hb2 hd2 (qsF (by omega))
 simp only[f37,t37,Tr.val_test,Tr.val_fin,Tr.val_stop,e,qhX,r37_0,outR,if_true]
theorem qsg(x:Int)(n:Nat)(hn:n≠0)(h:n≤1000000):f38 (x,(n:Int),())=some (x%(n:Int),()):=by
 have z0:((n:Int)==0)=false:=beq_false_of_ne (by omega)
 have h0:=Int.emod_nonneg x (show(n:Int)≠0 by omega)
 have h1:=Int.emod_lt_of_pos x (show 0<(n:Int)by omega)
 have e2:=@Int.tmod_eq_emod x (n:Int)
 simp only[f38,t38,Tr.val_test,Tr.val_fin,Tr.val_stop,z0,Bool.false_eq_true,if_false,qad]
 by_cases h:0≤x∨(n:Int) ∣ x
 ·rw[if_pos h]at e2
  have b:(!decide (0≤Int.tmod x (n:Int)))=false:=nF (by omega)
  have e3:Int.tmod x (n:Int)=x%(n:Int):=by omega
  simp only[b,Bool.false_eq_true,if_false]
  rw[e3]
 ·rw[if_neg h]at e2
  have b:(!decide (0≤Int.tmod x (n:Int)))=true:=nT (by omega)
  have w:wrap64 (Int.tmod x (n:Int)+(n:Int))=x%(n:Int):=by rw[qab (by omega) (by omega)];omega
  simp only[b,if_true,w]
theorem qjj(r:Rat):Int.gcd (r.den:Int) r.num=1:=by
 rw[Int.gcd_comm];exact r.reduced
theorem qtG(r:Rat)(h1:r.num.natAbs≤9223372036854775807)(h2:r.den≤9223372036854775807):f36 ((r.num,(r.den:Int),()),())=some (true,()):=by
 have e:=qr1 r.num (r.den:Int) (by omega) (by omega) (by omega) (by omega)
 rw[dT (show 0<(r.den:Int)∧Int.gcd (r.den:Int) r.num=1 from⟨by have:=r.den_pos;omega,qjj r⟩)]at e
 exact e
theorem qsu{r:Rat}(h:okP r=true):r.num.natAbs≤1000000000∧r.den≤1000000000:=by
 unfold okP at h
 simp only[Bool.and_eq_true,wi_iff]at h
 omega
theorem qjZ{K F:List Int}{g:Rat}{n:Nat}(hn:n≤1000000)(hl:lgE (mvL K F g n)=0):f39 (mvL K F g n,())=some (true,()):=by
 have hlen:=qam K F g n
 have hno:=qja hl
 rw[qqF]at hno
 have key:l39_0 ((mvL K F g n,(0:Int),()),())=some (.inl ((),())):=by
  refine qbp (fun i=>((mvL K F g n,(i:Int),()),())) (n:=(mvL K F g n).length) ?_ ?_ (qal (by omega))
  ·intro i hi
   have b0:(!decide (((mvL K F g n).length:Int)≤(i:Int)))=true:=nT (by omega)
   have b1:(decide ((0:Int)≤(i:Int))&&decide ((i:Int)<((mvL K F g n).length:Int)))=true:=dA (by omega) (by omega)
   have hok:okP (mvR K F g (i+1))=true:=by
    have:=qaZ hno i (Nat.zero_le _) (by omega)
    simpa using this
   obtain⟨k1,k2⟩:=qsu hok
   have hgd:=qbb K F g n i (by omega)
   have hden:=(mvR K F g (i+1)).den_pos
   have e36:=qtG (mvR K F g (i+1)) (by omega) (by omega)
   have x1:wi (-1000000000) 1000000000 (mvR K F g (i+1)).num=true:=wi_iff.2 ⟨by omega,by omega⟩
   have x2:wi 1 1000000000 ((mvR K F g (i+1)).den:Int)=true:=wi_iff.2 ⟨by omega,by omega⟩
   have e96:f96 (((mvR K F g (i+1)).num,((mvR K F g (i+1)).den:Int),()),())=some (true,()):=by
    simp only[f96,t96,Tr.val_test,Tr.val_fin,Tr.val_stop,g32,qsa,x1,x2,Option.isSome_some,Option.getD_some,if_true]
   simp only[s39_0,t39_0,Tr.val_test,Tr.val_fin,Tr.val_stop,qad,b0,b1,Int.toNat_natCast,hgd,pr,g36,e36,g96,e96,Option.isSome_some,Option.getD_some,if_true,if_false,Bool.not_true,Bool.false_eq_true,qai (show i≤9223372036854775806 by omega)]
  ·have b0:(!decide (((mvL K F g n).length:Int)≤((mvL K F g n).length:Int)))=false:=nF (by omega)
   simp only[s39_0,t39_0,Tr.val_test,Tr.val_fin,qad,b0,Bool.false_eq_true,if_false]
 simp only[f39,t39,Tr.val_test,Tr.val_fin,Tr.val_stop,key,qas,Option.isSome_some,if_true,if_false,Bool.false_eq_true]
def qs:List Int→Rat
 |[]=>0
 |k::l=>mkRat 1 k.toNat+qs l
theorem qfy:∀a b:List Int,qs (a++b)=qs a+qs b
 |[],b=>by simp[qs,Rat.zero_add]
 |k::a,b=>by simp only[List.cons_append,qs,qfy a b,Rat.add_assoc]
theorem qiI:∀a:List Int,qs a.reverse=qs a
 |[]=>rfl
 |k::a=>by simp only[List.reverse_cons,qfy,qs,qiI a,Rat.add_zero];exact Rat.add_comm _ _
theorem qoy(K:List Int):yld K=qs K:=by
 have key:∀i,i≤K.length→mvR K (oneF K.length) 0 i=qs (K.take i):=by
  intro i
  induction i with
  |zero=>intro _;rfl
  |succ i ih=>
   intro h
   rw[List.take_succ_eq_append_getElem (show i<K.length by omega),qfy,←ih (by omega)]
   have hs:=qnf K.length (K.length-1-i) i (by omega)
   have hg:K.getD i 0=K[i]'(by omega):=by simp[List.getD,List.getElem?_eq_getElem (show i<K.length by omega)]
   simp only[mvR,hs,hg,qs,Rat.add_zero]
 have:=key K.length (Nat.le_refl _)
 rw[List.take_length]at this
 exact this
theorem qnB(d:Nat):0≤mkRat 1 d:=by
 by_cases hd:d=0
 ·subst hd;rw[Rat.mkRat_zero];exact Rat.le_refl
 ·rw[qdN _ _ hd,←Rat.num_nonneg]
  have e:=qgg 1 d hd
  have hden:=Rat.den_pos (Rat.normalize 1 d hd)
  rcases Int.lt_or_le (Rat.normalize 1 d hd).num 0 with h|h
  ·have k1:(Rat.normalize 1 d hd).num*(d:Int)<0:=Int.mul_neg_of_neg_of_pos h (by omega)
   omega
  ·exact h
theorem qhc:∀l:List Int,0≤qs l
 |[]=>by simp[qs]
 |k::l=>by
  have ih:=qhc l
  have h:(0:Rat)≤mkRat 1 k.toNat:=qnB _
  simp only[qs]
  exact Rat.add_nonneg h ih
theorem qvq{l:List Int}{i:Nat}(h:i<l.length):mkRat 1 (l.getD i 0).toNat≤qs l:=by
 have e:l=l.take i++(l.getD i 0::l.drop (i+1)):=by
  have hg:l.getD i 0=l[i]:=by simp[List.getD,List.getElem?_eq_getElem h]
  rw[hg,←List.drop_eq_getElem_cons h,List.take_append_drop]
 have h1:=qhc (l.take i)
 have h2:=qhc (l.drop (i+1))
 have e2:qs l=qs (l.take i)+(mkRat 1 (l.getD i 0).toNat+qs (l.drop (i+1))):=by
  conv=>lhs;rw[e]
  rw[qfy];rfl
 rw[e2]
 grind
theorem qnm{K F:List Int}(v:VC K F){i:Nat}(h:i<K.length):((yld K).den:Int)*1-K.getD i 0*(yld K).num≤0∧0<(yld K).num:=by
 have k1:=v.k1 i h
 have hg:=qvq h
 rw[←qoy]at hg
 have hd:=(yld K).den_pos
 have hk:(K.getD i 0).toNat≠0:=by omega
 rw[Rat.mkRat_eq_div]at hg
 have hkr:(0:Rat)<((K.getD i 0).toNat:Rat):=by
  have:((0:Nat):Rat)<((K.getD i 0).toNat:Rat):=Rat.natCast_lt_natCast.2 (by omega)
  exact this
 have h1:((K.getD i 0).toNat:Rat)*yld K≥1:=by
  have h2:((K.getD i 0).toNat:Rat)*(((1:Int):Rat)/((K.getD i 0).toNat:Rat))≤((K.getD i 0).toNat:Rat)*yld K:=Rat.mul_le_mul_of_nonneg_left hg (Rat.le_of_lt hkr)
  have h3:((K.getD i 0).toNat:Rat)*(((1:Int):Rat)/((K.getD i 0).toNat:Rat))=1:=by
   rw[Rat.mul_comm,Rat.div_mul_cancel (by grind)];rfl
  rw[h3]at h2;exact h2
 have h4:(yld K)=mkRat (yld K).num (yld K).den:=(Rat.mkRat_self _).symm
 have hdr:(0:Rat)<((yld K).den:Rat):=by
  have:((0:Nat):Rat)<((yld K).den:Rat):=Rat.natCast_lt_natCast.2 (by omega)
  exact this
 have h5:((K.getD i 0).toNat:Rat)*((yld K).num:Rat)≥((yld K).den:Rat):=by
  have h6:yld K*((yld K).den:Rat)=((yld K).num:Rat):=by
   have h7:=@Rat.div_mul_cancel ((yld K).num:Rat) ((yld K).den:Rat) (by grind)
   rw[←Rat.mkRat_eq_div,Rat.mkRat_self]at h7
   exact h7
  rw[←h6]
  have:=Rat.mul_le_mul_of_nonneg_right h1 (Rat.le_of_lt hdr)
  grind
 have h7:((yld K).den:Int)≤((K.getD i 0).toNat:Int)*(yld K).num:=by
  have h8:(((yld K).den:Int):Rat)≤((((K.getD i 0).toNat:Int)*(yld K).num:Int):Rat):=by
   rw[Rat.intCast_mul];exact h5
  exact Rat.intCast_le_intCast.1 h8
 have h9:((K.getD i 0).toNat:Int)=K.getD i 0:=by omega
 rw[h9]at h7
 refine⟨by omega,?_⟩
 rcases Int.lt_or_le 0 (yld K).num with h10|h10
 ·exact h10
 ·have:=Int.mul_nonneg (show 0≤K.getD i 0 by omega) (show 0≤-(yld K).num by omega)
  rw[Int.mul_neg]at this
  omega
theorem qog(r:Rat):uR (pr r)=r:=by
 unfold uR pr
 show mkRat r.num ((r.den:Int)).toNat=r
 rw[Int.toNat_natCast,Rat.mkRat_self]
def mvE(K F:List Int)(a:Nat)(e:Rat)(i:Nat):Rat:=if i=a then mvR K F 0 (i+1)+e else mvR K F 0 (i+1)
structure IsE(K F:List Int)(a:Nat)(e:Rat)(l:List Fr):Prop where
 len:l.length=K.length
 get:∀i,i<K.length→l.getD i z3=pr (mvE K F a e i)
theorem qtg{K F:List Int}(v:VC K F){i:Nat}(h:i<K.length):(K.getD i 0:Rat)*(mvR K F 0 (i+1)-mvR K F 0 i)=((sF F i:Int):Rat):=by
 have k1:=v.k1 i h
 have hk:(K.getD i 0).toNat≠0:=by omega
 have e:mvR K F 0 (i+1)-mvR K F 0 i=mkRat (sF F i) (K.getD i 0).toNat:=by
  simp only[mvR];grind
 rw[e,Rat.mkRat_eq_div]
 have h9:(((K.getD i 0).toNat:Nat):Rat)=((K.getD i 0:Int):Rat):=by
  have:(((K.getD i 0).toNat:Int):Rat)=((K.getD i 0:Int):Rat):=by rw[show((K.getD i 0).toNat:Int)=K.getD i 0 by omega]
  exact this
 rw[h9]
 have hne:((K.getD i 0:Int):Rat)≠0:=by
  intro h0
  have:((K.getD i 0:Int):Rat)=((0:Int):Rat):=h0
  rw[Rat.intCast_inj]at this
  omega
 rw[Rat.mul_comm,Rat.div_mul_cancel hne]
theorem qti{K F:List Int}(v:VC K F){a:Nat}{e:Rat}{l:List Fr}(I:IsE K F a e l){i:Nat}(h:i<K.length):
  spr K l i=((sF F i:Int):Rat)+(if i=a then(K.getD i 0:Rat)*e else 0)-(if i=a+1 then(K.getD i 0:Rat)*e else 0):=by
 have hs:=qtg v h
 unfold spr
 rw[I.get i h,qog]
 by_cases h0:i=0
 ·subst h0
  have hz:mvR K F 0 0=0:=rfl
  rw[if_pos rfl,if_neg (show ¬0=a+1 by omega),←hs,hz]
  unfold mvE
  split<;>grind
 ·rw[if_neg h0,I.get (i-1) (by omega),qog,←hs]
  unfold mvE
  rw[show i-1+1=i by omega]
  by_cases h1:i=a
  ·rw[if_pos h1,if_pos h1,if_neg (show ¬i-1=a by omega),if_neg (show ¬i=a+1 by omega)]
   grind
  ·rw[if_neg h1,if_neg h1]
   by_cases h2:i=a+1
   ·rw[if_pos (show i-1=a by omega),if_pos h2]
    grind
   ·rw[if_neg (show ¬i-1=a by omega),if_neg h2]
    grind
theorem up_E{K F:List Int}(v:VC K F){a:Nat}{e:Rat}{l:List Fr}(I:IsE K F a e l){n i:Nat}(h:i<K.length):
  upR K l n (sF F (n+1)) i=if i=n then((sF F (i+1):Int):Rat)else if i+1<K.length then spr K l (i+1)else((sF F (i+1):Int):Rat):=by
 have hf:=v.fl
 unfold upR
 by_cases h0:i=n
 ·rw[if_pos h0,if_pos h0,h0]
 ·rw[if_neg h0,if_neg h0,I.len]
  split
  ·rfl
  ·rw[qp6 F (i+1) (by omega)];rfl
theorem quS{K F:List Int}(v:VC K F){a:Nat}{l:List Fr}(I:IsE K F a 0 l){n i:Nat}(h:i<K.length):rb K F l n (sF F (n+1)) i=false:=by
 have hf:=v.fl
 have z:∀j,j<K.length→spr K l j=((sF F j:Int):Rat):=fun j hj=>by
  rw[qti v I hj]
  split<;>split<;>grind
 have hs:=qea F i (by omega)
 have hu:upR K l n (sF F (n+1)) i=((sF F (i+1):Int):Rat):=by
  rw[up_E v I h]
  split
  ·rfl
  ·split
   ·exact z (i+1) (by omega)
   ·rfl
 unfold rb
 rw[hu,z i h,hs,Rat.intCast_add]
 have:((sF F (i+1):Int):Rat)+((F.getD i 0:Int):Rat)=((F.getD i 0:Int):Rat)+((sF F (i+1):Int):Rat):=Rat.add_comm _ _
 rw[dT this];rfl
theorem qrv{K F:List Int}(v:VC K F){a:Nat}{e:Rat}(he:e≠0)(ha:a<K.length){l:List Fr}(I:IsE K F a e l){n:Nat}:rb K F l n (sF F (n+1)) a=true:=by
 have hf:=v.fl
 have k1:=v.k1 a ha
 have hs:=qea F a (by omega)
 have p0:(0:Rat)<((K.getD a 0:Int):Rat):=by
  have:((0:Int):Rat)<((K.getD a 0:Int):Rat):=Rat.intCast_lt_intCast.2 (by omega)
  exact this
 have ht:spr K l a=((sF F a:Int):Rat)+(K.getD a 0:Rat)*e:=by
  rw[qti v I ha,if_pos rfl,if_neg (by omega)];grind
 unfold rb
 rw[ht,hs,Rat.intCast_add]
 refine nT ?_
 by_cases hq:a≠n∧a+1<K.length
 ·have hu:upR K l n (sF F (n+1)) a=((sF F (a+1):Int):Rat)-(K.getD (a+1) 0:Rat)*e:=by
   rw[up_E v I ha,if_neg hq.1,if_pos hq.2,qti v I hq.2,if_neg (by omega),if_pos rfl];grind
  have k2:=v.k1 (a+1) hq.2
  have p1:(0:Rat)<((K.getD (a+1) 0:Int):Rat):=by
   have:((0:Int):Rat)<((K.getD (a+1) 0:Int):Rat):=Rat.intCast_lt_intCast.2 (by omega)
   exact this
  rw[hu]
  intro h
  have h2:(((K.getD a 0:Int):Rat)+((K.getD (a+1) 0:Int):Rat))*e=0:=by grind
  rcases Rat.mul_eq_zero.1 h2 with h3|h3
  ·grind
  ·exact he h3
 ·have hu:upR K l n (sF F (n+1)) a=((sF F (a+1):Int):Rat):=by
   rw[up_E v I ha]
   split
   ·rfl
   ·rename_i h1
    rw[if_neg (by intro h2;exact hq ⟨h1,h2⟩)]
  rw[hu]
  intro h
  have h2:((K.getD a 0:Int):Rat)*e=0:=by grind
  rcases Rat.mul_eq_zero.1 h2 with h3|h3
  ·grind
  ·exact he h3
theorem qqX{r:Rat}:perr r.num (r.den:Int)=0∨perr r.num (r.den:Int)=2:=by
 unfold perr
 have:=r.den_pos
 rw[if_neg (by omega),if_pos (qjj r)]
 split<;>simp
theorem qq8{r:Rat}(h:okP r=true):perr r.num (r.den:Int)=0:=by
 unfold perr
 have:=r.den_pos
 unfold okP at h
 rw[if_neg (by omega),if_pos (qjj r),if_pos h]
theorem pe_E{K F:List Int}{a:Nat}{e:Rat}{l:List Fr}(I:IsE K F a e l){i:Nat}(h:i<K.length):pe l i=0∨pe l i=2:=by
 unfold pe
 rw[I.get i h]
 exact qqX
theorem qsJ{K F:List Int}(v:VC K F){n:Nat}(hn:n<K.length)(hl:lgE (mvL K F 0 K.length)=0):chk K F n ((mvL K F 0 K.length).take (n+1)) ((mvL K F 0 K.length).drop (n+1)) (sF F (n+1))=(0,0):=by
 have hml:=qam K F 0 K.length
 have hL:((mvL K F 0 K.length).take (n+1)).length=n+1:=by simp[hml];omega
 have hU:((mvL K F 0 K.length).drop (n+1)).length=K.length-(n+1):=by simp[hml]
 have hap:(mvL K F 0 K.length).take (n+1)++(mvL K F 0 K.length).drop (n+1)=mvL K F 0 K.length:=List.take_append_drop _ _
 have I:IsE K F 0 0 (mvL K F 0 K.length):=⟨hml,fun i hi=>by
  have:=qbb K F 0 K.length i hi
  rw[show mvE K F 0 0 i=mvR K F 0 (i+1)by unfold mvE;split<;>grind]
  exact this⟩
 have hno:=qja hl
 rw[qqF]at hno
 have hp:peF (mvL K F 0 K.length)=none:=qbR fun j _ hj=>by
  have hj:j<K.length:=by omega
  have hok:okP (mvR K F 0 (j+1))=true:=by
   have:=qaZ hno j (Nat.zero_le _) (by omega)
   simpa using this
  unfold pe
  have:=qbb K F 0 K.length j hj
  rw[this]
  have e:perr (pr (mvR K F 0 (j+1))).1 (pr (mvR K F 0 (j+1))).2.1=0:=qq8 hok
  rw[e];rfl
 have hb:=qsf v hn hL hU
 rw[hap]at hb
 have hnone:first (rb K F (mvL K F 0 K.length) n (sF F (n+1))) (mvL K F 0 K.length).length 0=none:=qbR fun j _ hj=>quS v I (by omega)
 rw[hnone]at hb
 unfold chk
 rw[hap,hp]
 simp only[if_true]
 cases h1:bal (K.take (n+1)) (lowF F n) ((0:Int),(1:Int),()) ((mvL K F 0 K.length).take (n+1))with
 |some j=>rw[h1]at hb;cases hb
 |none=>
  rw[h1]at hb
  cases h2:bal (K.drop (n+1)) (F.drop (n+1)) (((mvL K F 0 K.length).take (n+1)).getD n z3) ((mvL K F 0 K.length).drop (n+1))with
  |some j=>rw[h2]at hb;cases hb
  |none=>rfl
theorem qo8{K F:List Int}(v:VC K F){n:Nat}(hn:n<K.length){a:Nat}{e:Rat}(he:e≠0)(ha:a<K.length){L U:List Fr}(I:IsE K F a e (L++U))(hL:L.length=n+1)(hU:U.length=K.length-(n+1)):
  (chk K F n L U (sF F (n+1))).2=19∨(chk K F n L U (sF F (n+1))).2=2:=by
 have hb:=qsf v hn hL hU
 unfold chk
 cases hp:peF (L++U)with
 |some j=>
  obtain⟨q1,q2⟩:=qrU hp
  rw[I.len]at q1
  exact .inr ((pe_E I q1).resolve_left q2)
 |none=>
  simp only[if_true]
  cases h1:bal (K.take (n+1)) (lowF F n) ((0:Int),(1:Int),()) L with
  |some j=>exact .inl rfl
  |none=>
   rw[h1]at hb
   cases h2:bal (K.drop (n+1)) (F.drop (n+1)) (L.getD n z3) U with
   |some j=>exact .inl rfl
   |none=>
    rw[h2]at hb
    have:=qaZ hb a (Nat.zero_le _) (by rw[I.len];omega)
    rw[qrv v he ha I]at this
    cases this
theorem qj1(K F:List Int)(g:Rat):∀i,mvR K F g i=g+mvR K F 0 i
 |0=>by show g=g+0;rw[Rat.add_zero]
 |i+1=>by
  simp only[mvR]
  rw[qj1 K F g i,Rat.add_assoc]
theorem qrc(K F:List Int)(m i:Nat):mvR (K.drop m) (F.drop m) 0 i+mvR K F 0 m=mvR K F 0 (m+i):=by
 rw[←qqm K F m 0 i,qj1 (K.drop m) (F.drop m) (mvR K F 0 m) i,Rat.add_comm]
def dbl(F:List Int):List Int:=F.map (2*·)
theorem qoL(F:List Int)(i:Nat):(dbl F).getD i 0=2*F.getD i 0:=by
 unfold dbl
 simp only[List.getD,List.getElem?_map]
 cases F[i]? with
 |none=>rfl
 |some x=>rfl
theorem qoH:∀l:List Int,(l.map (2*·)).sum=2*l.sum
 |[]=>rfl
 |a::l=>by simp only[List.map_cons,List.sum_cons,qoH l];omega
theorem quQ(F:List Int)(i:Nat):sF (dbl F) i=2*sF F i:=by
 unfold sF dbl
 rw[←List.map_drop,qoH]
theorem qpS(K F:List Int):∀i,mvR K (dbl F) 0 i=2*mvR K F 0 i
 |0=>by show(0:Rat)=2*0;grind
 |i+1=>by
  simp only[mvR]
  have e:mkRat (2*sF F i) (K.getD i 0).toNat=((2:Int):Rat)*mkRat (sF F i) (K.getD i 0).toNat:=qox 2 _ _
  rw[qpS K F i,quQ,e]
  grind
theorem qsw(r:Rat)(h1:r.num.natAbs≤1000000000)(h2:r.den≤1000000000):f41 (wrap64 (2*r.num),(r.den:Int),())=some (pr (2*r),()):=by
 have w:wrap64 (2*r.num)=2*r.num:=qab (by omega) (by omega)
 have e:=qou (2*r.num) r.den r.den_nz (by omega) (by omega)
 rw[w,e,←qdN,qox,Rat.mkRat_self];rfl
theorem qgM(r:Rat)(k:Int):Rat.normalize (r.num+k*(r.den:Int)) r.den r.den_nz=r+(k:Rat):=by
 rw[Rat.add_def,Rat.normalize_eq_iff]
 rw[Rat.num_intCast,Rat.den_intCast]
 simp
theorem qum(r:Rat)(h1:r.num.natAbs≤1000000000)(h2:r.den≤1000000000):f41 (wrap64 (r.num+(r.den:Int)),(r.den:Int),())=some (pr (r+1),()):=by
 have w:wrap64 (r.num+(r.den:Int))=r.num+(r.den:Int):=qab (by omega) (by omega)
 have e:=qou (r.num+(r.den:Int)) r.den r.den_nz (by omega) (by omega)
 have h:=qgM r 1
 simp only[Int.one_mul]at h
 rw[w,e,h];rfl
theorem qrD(r:Rat)(h1:r.num.natAbs≤1000000000)(h2:r.den≤1000000000):f41 (wrap64 (r.num-(r.den:Int)),(r.den:Int),())=some (pr (r-1),()):=by
 have w:wrap64 (r.num-(r.den:Int))=r.num-(r.den:Int):=qab (by omega) (by omega)
 have e:=qou (r.num-(r.den:Int)) r.den r.den_nz (by omega) (by omega)
 have h:=qgM r (-1)
 rw[show r.num+-1*(r.den:Int)=r.num-(r.den:Int)by omega]at h
 rw[w,e,h]
 rw[Rat.sub_eq_add_neg];rfl
end Go.Vm.Mo

namespace Go.Vm.Mo
open Go
set_option linter.unusedVariables false
set_option linter.unusedSimpArgs false
theorem qq2{K F:List Int}(v:VC K F):cK K F=(0,0):=by
 have n0:=v.n0
 have n6:=v.n6
 rw[qtH K F (by omega) v.fl (by omega)]
 have e:cN K F=none:=qbR fun i _ hi=>by
  have hi:i<K.length:=by omega
  have a:=v.k1 i hi
  have b:=v.k2 i hi
  have c:=v.f1 i hi
  have d:=v.f2 i hi
  have w1:wi 1 20 (K.getD i 0)=true:=wi_iff.2 ⟨a,b⟩
  have w2:wi (-1000) 1000 (F.getD i 0)=true:=wi_iff.2 ⟨c,d⟩
  unfold okN;rw[w1,w2];rfl
 rw[e]
theorem qr5(K F:List Int)(h:K.length≤1000000):f35 ((K,F,()),())=some ((cK K F).2,()):=by
 have e:=qu4 K F h
 simp only[f35,t35,Tr.val_test,Tr.val_fin,Tr.val_stop,g27,e,Option.isSome_some,Option.getD_some,if_true]
theorem qfL(l:List Int){i:Nat}(h:i<l.length):l.reverse.getD i 0=l.getD (l.length-1-i) 0:=by
 simp only[List.getD,List.getElem?_reverse h]
theorem qmC(l:List Int){i:Nat}(h:i<l.length):l.take i++[l.getD i 0]=l.take (i+1):=by
 rw[List.take_succ_eq_append_getElem h]
 simp[List.getD,List.getElem?_eq_getElem h]
theorem quG{K F:List Int}(v:VC K F):VC K.reverse F.reverse where
 n0:=by rw[List.length_reverse];exact v.n0
 n6:=by rw[List.length_reverse];exact v.n6
 fl:=by rw[List.length_reverse,List.length_reverse];exact v.fl
 k1:=fun i hi=>by rw[List.length_reverse]at hi;rw[qfL K hi];exact v.k1 _ (by omega)
 k2:=fun i hi=>by rw[List.length_reverse]at hi;rw[qfL K hi];exact v.k2 _ (by omega)
 f1:=fun i hi=>by
  rw[List.length_reverse]at hi
  have:=v.fl
  rw[qfL F (by omega)];exact v.f1 _ (by omega)
 f2:=fun i hi=>by
  rw[List.length_reverse]at hi
  have:=v.fl
  rw[qfL F (by omega)];exact v.f2 _ (by omega)
theorem qjA{K F:List Int}(v:VC K F){m:Nat}(hm:m<K.length):VC (K.drop m) (F.drop m) where
 n0:=by rw[List.length_drop];omega
 n6:=by rw[List.length_drop];have:=v.n6;omega
 fl:=by rw[List.length_drop,List.length_drop,v.fl]
 k1:=fun i hi=>by rw[List.length_drop]at hi;rw[qby];exact v.k1 _ (by omega)
 k2:=fun i hi=>by rw[List.length_drop]at hi;rw[qby];exact v.k2 _ (by omega)
 f1:=fun i hi=>by rw[List.length_drop]at hi;rw[qby];exact v.f1 _ (by omega)
 f2:=fun i hi=>by rw[List.length_drop]at hi;rw[qby];exact v.f2 _ (by omega)
theorem qcE(F:List Int):(dbl F).length=F.length:=by unfold dbl;exact List.length_map ..
theorem quM{K F:List Int}(v:VC K F)(hb:∀i,i<F.length→(2*F.getD i 0).natAbs≤1000):VC K (dbl F) where
 n0:=v.n0
 n6:=v.n6
 fl:=by rw[qcE,v.fl]
 k1:=v.k1
 k2:=v.k2
 f1:=fun i hi=>by
  have h1:=hb i (by have:=v.fl;omega)
  rw[qoL];omega
 f2:=fun i hi=>by
  have h1:=hb i (by have:=v.fl;omega)
  rw[qoL];omega
theorem qtm(K:List Int):yld K.reverse=yld K:=by rw[qoy,qoy,qiI]
theorem qvm{K F:List Int}(v:VC K F)(x3 y y' d n:Int):l5_0 ((x3,wrap64 ((K.length:Int)-1),()),(K,F,()),(y,y',()),(d,n,()),(([]:List Int),([]:List Int),()),()) =
  some (.inl ((x3,()),(K,F,()),(y,y',()),(d,n,()),(K.reverse,F.reverse,()),())):=by
 have h6:=v.n6
 have hf:=v.fl
 rw[qab (by omega) (by omega)]
 have key:=qbp (step:=s5_0) (fun i=>((x3,(K.length:Int)-1-(i:Int),()),(K,F,()),(y,y',()),(d,n,()),(K.reverse.take i,F.reverse.take i,()),())) (n:=K.length) (m:=rounds) (b:=((x3,()),(K,F,()),(y,y',()),(d,n,()),(K.reverse,F.reverse,()),())) ?_ ?_ (qal (by omega))
 ·have e:(K.length:Int)-1-((0:Nat):Int)=(K.length:Int)-1:=by omega
  simp only[e,List.take_zero]at key
  exact key
 ·intro i hi
  have b0:leF 0 ((K.length:Int)-1-(i:Int))=true:=by rw[qad];exact dT (by omega)
  have b1:(decide ((0:Int)≤(K.length:Int)-1-(i:Int))&&decide ((K.length:Int)-1-(i:Int)<(K.length:Int)))=true:=dA (by omega) (by omega)
  have b2:(decide ((0:Int)≤(K.length:Int)-1-(i:Int))&&decide ((K.length:Int)-1-(i:Int)<(F.length:Int)))=true:=dA (by omega) (by omega)
  have lk:(K.reverse.take i).length=i:=by rw[List.length_take,List.length_reverse];omega
  have lf:(F.reverse.take i).length=i:=by rw[List.length_take,List.length_reverse];omega
  have c1:(Nat.ble ((2*(i+1)+192)*8) 281474976710656&&Nat.ble (i+1) 281474976710656)=true:=by
   simp only[Bool.and_eq_true,ble_eq_true'];omega
  have tn:Int.toNat ((K.length:Int)-1-(i:Int))=K.length-1-i:=by omega
  have gk:K.getD (K.length-1-i) 0=K.reverse.getD i 0:=(qfL K hi).symm
  have gf:F.getD (K.length-1-i) 0=F.reverse.getD i 0:=by rw[qfL F (by omega),hf]
  have w:wrap64 ((K.length:Int)-1-(i:Int)-1)=(K.length:Int)-1-((i+1:Nat):Int):=by rw[qab (by omega) (by omega)];omega
  simp only[s5_0,t5_0,Tr.val_test,Tr.val_fin,Tr.val_stop,b0,b1,b2,lk,lf,c1,tn,gk,gf,w,if_true,qmC K.reverse (show i<K.reverse.length by rw[List.length_reverse];exact hi),qmC F.reverse (show i<F.reverse.length by rw[List.length_reverse];omega)]
 ·have b0:leF 0 ((K.length:Int)-1-(K.length:Int))=false:=by rw[qad];exact dF (by omega)
  have tk:K.reverse.take K.length=K.reverse:=List.take_of_length_le (by rw[List.length_reverse];omega)
  have tf:F.reverse.take K.length=F.reverse:=List.take_of_length_le (by rw[List.length_reverse];omega)
  simp only[s5_0,t5_0,Tr.val_test,Tr.val_fin,Tr.val_stop,b0,tk,tf,if_false,Bool.false_eq_true]
theorem qsi{K F:List Int}(v:VC K F):((yld K).den:Int)≤1000000000∧(yld K).num.natAbs≤10000000000000:=by
 have b:=qnn (row_one v) qhg K.length (Nat.le_refl _)
 have h6:=v.n6
 have b1:=b.1
 have b2:=b.2
 have e:mvR K (oneF K.length) 0 K.length=yld K:=rfl
 rw[e]at b1 b2
 have h:20^(0+K.length)≤20^6:=Nat.pow_le_pow_right (by omega) (by omega)
 have h2:(20:Nat)^6=64000000:=by decide
 have h3:6000*(0+K.length)*(yld K).den≤36000*(yld K).den:=Nat.mul_le_mul_right _ (by omega)
 constructor
 ·omega
 ·omega
theorem qvo{K F:List Int}(v:VC K F)(y y':Int):l5_2 (((0:Int),()),(K,F,()),(y,y',()),(((yld K).den:Int),(yld K).num,()),()) =
  some (.inl ((),(K,F,()),(y,y',()),(((yld K).den:Int),(yld K).num,()),())):=by
 have h6:=v.n6
 refine qbp (step:=s5_2) (fun i=>(((i:Int),()),(K,F,()),(y,y',()),(((yld K).den:Int),(yld K).num,()),())) (n:=K.length) ?_ ?_ (qal (by omega))
 ·intro i hi
  have b0:(!decide ((K.length:Int)≤(i:Int)))=true:=nT (by omega)
  have b1:(decide ((0:Int)≤(i:Int))&&decide ((i:Int)<(K.length:Int)))=true:=dA (by omega) (by omega)
  obtain⟨q1,q2⟩:=qnm v hi
  have bd:=qsi v
  have hd:=(yld K).den_pos
  have k1:=v.k1 i hi
  have k2:=v.k2 i hi
  have e37:=quV ((yld K).den:Int) (yld K).num (K.getD i 0) 1 q2 (by omega) (by omega) (by omega) (by omega) (by omega)
  have sg:(((yld K).den:Int)*1-K.getD i 0*(yld K).num).sign≤0:=by
   rcases Int.lt_or_eq_of_le q1 with h|h
   ·rw[Int.sign_eq_neg_one_of_neg h];omega
   ·rw[h];decide
  have b2:(!decide ((((yld K).den:Int)*1-K.getD i 0*(yld K).num).sign≤0))=false:=nF sg
  simp only[s5_2,t5_2,Tr.val_test,Tr.val_fin,Tr.val_stop,qad,b0,b1,if_true,if_false,Bool.false_eq_true,Int.toNat_natCast,g37,e37,Option.isSome_some,Option.getD_some,b2,qai (show i≤9223372036854775806 by omega)]
 ·have b0:(!decide ((K.length:Int)≤(K.length:Int)))=false:=nF (by omega)
  simp only[s5_2,t5_2,Tr.val_test,Tr.val_fin,Tr.val_stop,qad,b0,if_false,Bool.false_eq_true]
theorem qq3(l:List Fr)(h:l.length≤1000000):f31 (l,l,())=some (true,()):=by
 have key:l31_0 ((l,l,(0:Int),()),())=some (.inl ((),())):=by
  refine qbp (fun i=>((l,l,(i:Int),()),())) (n:=l.length) ?_ ?_ (qal (by omega))
  ·intro i hi
   have b0:(!decide ((l.length:Int)≤(i:Int)))=true:=nT (by omega)
   have b1:(decide ((0:Int)≤(i:Int))&&decide ((i:Int)<(l.length:Int)))=true:=dA (by omega) (by omega)
   have b2:(!((l.getD i ((0:Int),(0:Int),())).1==(l.getD i ((0:Int),(0:Int),())).1&&((l.getD i ((0:Int),(0:Int),())).2.1==(l.getD i ((0:Int),(0:Int),())).2.1&&true)))=false:=by simp
   simp only[s31_0,t31_0,Tr.val_test,Tr.val_fin,Tr.val_stop,qad,b0,b1,b2,if_true,if_false,Bool.false_eq_true,Int.toNat_natCast,qai (show i≤9223372036854775806 by omega)]
  ·have b0:(!decide ((l.length:Int)≤(l.length:Int)))=false:=nF (by omega)
   simp only[s31_0,t31_0,Tr.val_test,Tr.val_fin,qad,b0,Bool.false_eq_true,if_false]
 have b0:(!decide ((l.length:Int)=(l.length:Int)))=false:=nF rfl
 simp only[f31,t31,Tr.val_test,Tr.val_fin,Tr.val_stop,qag,b0,decide_true,Bool.not_true,key,qas,Option.isSome_some,if_true,if_false,Bool.false_eq_true]
theorem qk2{K F:List Int}{g:Rat}{n:Nat}(hl:lgE (mvL K F g n)=0){i:Nat}(h:i<n):(mvR K F g (i+1)).num.natAbs≤1000000000∧(mvR K F g (i+1)).den≤1000000000:=by
 have hno:=qja hl
 rw[qqF]at hno
 have hok:okP (mvR K F g (i+1))=true:=by
  have:=qaZ hno i (Nat.zero_le _) (by omega)
  simpa using this
 exact qsu hok
theorem qn9{r:Rat}(h:r.num.natAbs≤1000000000∧r.den≤1000000000):Gp (pr r):=by
 have:=r.den_pos
 exact⟨by show 0<(r.den:Int);omega,by show(r.den:Int)≤1000000000;omega,h.1⟩
def dbI(F:List Int)(i:Nat):List Int:=(F.take i).map (2*·)++F.drop i
theorem qqV(F:List Int):dbI F 0=F:=by simp[dbI]
theorem qmp(F:List Int)(i:Nat):(dbI F i).length=F.length:=by simp[dbI];omega
theorem qs5(F:List Int):dbI F F.length=dbl F:=by simp[dbI,dbl]
theorem qta(F:List Int){i:Nat}(h:i<F.length):(dbI F i).getD i 0=F.getD i 0:=by
 unfold dbI
 have hl:((F.take i).map (2*·)).length=i:=by simp;omega
 simp only[List.getD]
 rw[List.getElem?_append_right (by omega),hl,Nat.sub_self,List.getElem?_drop,Nat.add_zero]
theorem qov(F:List Int){i:Nat}(h:i<F.length):(dbI F i).set i (2*F.getD i 0)=dbI F (i+1):=by
 unfold dbI
 have hl:((F.take i).map (2*·)).length=i:=by simp;omega
 rw[List.set_append_right (h:=by omega),hl,Nat.sub_self,List.drop_eq_getElem_cons h,List.set_cons_zero,List.take_succ_eq_append_getElem h,List.map_append]
 simp[List.getD,List.getElem?_eq_getElem h]
theorem qrH(F:List Int){i:Nat}(h:i<F.length):(dbI F (i+1)).getD i 0=2*F.getD i 0:=by
 rw[←qov F h]
 have hl:=qmp F i
 simp[List.getD,List.getElem?_set_self (show i<(dbI F i).length by omega)]
theorem qtd{α:Type}(l:List α){m a:Nat}(x:α)(h:a<m)(h2:a<l.length):(l.take m).set a x++l.drop m=l.set a x:=by
 have e:(l.take m++l.drop m).set a x=(l.take m).set a x++l.drop m:=List.set_append_left _ _ (by rw[List.length_take];omega)
 rw[List.take_append_drop]at e
 exact e.symm
theorem quN{α:Type}(l:List α){m a:Nat}(x:α)(h:m≤a)(h2:a<l.length):l.take m++(l.drop m).set (a-m) x=l.set a x:=by
 have hl:(l.take m).length=m:=by rw[List.length_take];omega
 have e:(l.take m++l.drop m).set a x=l.take m++(l.drop m).set (a-m) x:=by
  rw[List.set_append_right _ _ (by omega),hl]
 rw[List.take_append_drop]at e
 exact e.symm
theorem qsW{K F:List Int}{a:Nat}{e:Rat}(ha:a<K.length):IsE K F a e ((mvL K F 0 K.length).set a (pr (mvR K F 0 (a+1)+e))) where
 len:=by rw[List.length_set,qam]
 get:=fun i hi=>by
  have hml:=qam K F 0 K.length
  unfold mvE
  by_cases h:i=a
  ·subst h
   rw[if_pos rfl]
   simp[List.getD,List.getElem?_set_self (show i<(mvL K F 0 K.length).length by omega)]
  ·rw[if_neg h,←qbb K F 0 K.length i hi]
   simp[List.getD,List.getElem?_set_ne (Ne.symm h),z3]
theorem qm5(a:Int)(b:Nat)(hb:b≠0):(Rat.normalize a b hb).num.natAbs≤a.natAbs∧(Rat.normalize a b hb).den≤b:=by
 rw[Rat.normalize_eq]
 exact⟨Int.natAbs_ediv_le_natAbs _ _,Nat.div_le_self _ _⟩
theorem qpI{K F:List Int}(hl:lgE (mvL K F 0 K.length)=0):W64 (mvL K F 0 K.length):=fun i hi=>by
 have hml:=qam K F 0 K.length
 have hi:i<K.length:=by omega
 have b:=qk2 hl hi
 have e:=qbb K F 0 K.length i hi
 have e:(mvL K F 0 K.length).getD i z3=pr (mvR K F 0 (i+1)):=e
 rw[e]
 exact⟨⟨by show _≤(mvR K F 0 (i+1)).num;omega,by show(mvR K F 0 (i+1)).num≤_;omega⟩,by show _≤((mvR K F 0 (i+1)).den:Int);omega,by show((mvR K F 0 (i+1)).den:Int)≤_;omega⟩
theorem qth{K F:List Int}(hl:lgE (mvL K F 0 K.length)=0){a:Nat}{x:Rat}(hx:x.num.natAbs≤4000000000∧x.den≤4000000000):W64 ((mvL K F 0 K.length).set a (pr x)):=fun i hi=>by
 rw[List.length_set]at hi
 by_cases h:a=i
 ·subst h
  have e:((mvL K F 0 K.length).set a (pr x)).getD a z3=pr x:=by simp[List.getD,List.getElem?_set_self hi]
  rw[e]
  exact⟨⟨by show _≤x.num;omega,by show x.num≤_;omega⟩,by show _≤(x.den:Int);omega,by show(x.den:Int)≤_;omega⟩
 ·have e:((mvL K F 0 K.length).set a (pr x)).getD i z3=(mvL K F 0 K.length).getD i z3:=by simp[List.getD,List.getElem?_set_ne h]
  rw[e]
  exact qpI hl i hi
theorem qvl{r:Rat}(h:r.num.natAbs≤1000000000∧r.den≤1000000000):(r+1).num.natAbs≤4000000000∧(r+1).den≤4000000000:=by
 have e:=qgM r 1
 have b:=qm5 (r.num+1*(r.den:Int)) r.den r.den_nz
 rw[e]at b
 have e2:((1:Int):Rat)=1:=rfl
 rw[e2]at b
 omega
theorem qs0{r:Rat}(h:r.num.natAbs≤1000000000∧r.den≤1000000000):(r+(-1)).num.natAbs≤4000000000∧(r+(-1)).den≤4000000000:=by
 have e:=qgM r (-1)
 have b:=qm5 (r.num+(-1)*(r.den:Int)) r.den r.den_nz
 rw[e]at b
 have e2:((-1:Int):Rat)=-1:=rfl
 rw[e2]at b
 omega
end Go.Vm.Mo

namespace Go.Vm.Mo
open Go
set_option linter.unusedVariables false
set_option linter.unusedSimpArgs false
theorem qig{K F:List Int}{n:Nat}(hn:n≤1000)(hu:lgE (mvL K F 0 n)=0):l5_8 ((mvL K F 0 n,mvL K (dbl F) 0 n,(0:Int),()),())=some (.inl ((),())):=by
 have lu:=qam K F 0 n
 have lw:=qam K (dbl F) 0 n
 refine qbp (step:=s5_8) (fun i=>((mvL K F 0 n,mvL K (dbl F) 0 n,(i:Int),()),())) (n:=n) ?_ ?_ (qal (by omega))
 ·intro i hi
  have b0:(!decide (((mvL K (dbl F) 0 n).length:Int)≤(i:Int)))=true:=nT (by omega)
  have b1:(decide ((0:Int)≤(i:Int))&&decide ((i:Int)<((mvL K (dbl F) 0 n).length:Int)))=true:=dA (by omega) (by omega)
  have b2:(decide ((0:Int)≤(i:Int))&&decide ((i:Int)<((mvL K F 0 n).length:Int)))=true:=dA (by omega) (by omega)
  have gu:=qbb K F 0 n i hi
  have gw:=qbb K (dbl F) 0 n i hi
  have bd:=qk2 hu hi
  have e41:=qsw (mvR K F 0 (i+1)) bd.1 bd.2
  rw[←qpS K F (i+1)]at e41
  have b3:(!((pr (mvR K (dbl F) 0 (i+1))).1==(pr (mvR K (dbl F) 0 (i+1))).1&&((pr (mvR K (dbl F) 0 (i+1))).2.1==(pr (mvR K (dbl F) 0 (i+1))).2.1&&true)))=false:=by simp
  have e41':f41 (wrap64 (2*(pr (mvR K F 0 (i+1))).1),(pr (mvR K F 0 (i+1))).2.1,())=some (pr (mvR K (dbl F) 0 (i+1)),()):=e41
  simp only[s5_8,t5_8,Tr.val_test,Tr.val_fin,Tr.val_stop,qad,b0,b1,b2,if_true,if_false,Bool.false_eq_true,Int.toNat_natCast,gu,gw,g41,e41',b3,Option.isSome_some,Option.getD_some,qai (show i≤9223372036854775806 by omega)]
 ·have b0:(!decide (((mvL K (dbl F) 0 n).length:Int)≤(n:Int)))=false:=nF (by omega)
  simp only[s5_8,t5_8,Tr.val_test,Tr.val_fin,Tr.val_stop,qad,b0,if_false,Bool.false_eq_true]
theorem qrG{K F:List Int}{n:Nat}(hK:K.length≤1000)(hn:n+1<K.length)(hu:lgE (mvL K F 0 K.length)=0)(hv:lgE (mvL (K.drop (n+1)) (F.drop (n+1)) 0 (K.length-(n+1)))=0)(L:List Fr)(Lo:Int):
  l5_4 ((mvL K F 0 K.length,(n:Int),mvL (K.drop (n+1)) (F.drop (n+1)) 0 (K.length-(n+1)),(0:Int),()),(K,F,()),(L,(mvL K F 0 K.length).drop (n+1),Lo,()),()) =
   some (.inl ((mvL K F 0 K.length,()),(K,F,()),(L,(mvL K F 0 K.length).drop (n+1),Lo,()),())):=by
 have lu:=qam K F 0 K.length
 have lv:=qam (K.drop (n+1)) (F.drop (n+1)) 0 (K.length-(n+1))
 have lU:((mvL K F 0 K.length).drop (n+1)).length=K.length-(n+1):=by rw[List.length_drop,lu]
 refine qbp (step:=s5_4) (fun i=>((mvL K F 0 K.length,(n:Int),mvL (K.drop (n+1)) (F.drop (n+1)) 0 (K.length-(n+1)),(i:Int),()),(K,F,()),(L,(mvL K F 0 K.length).drop (n+1),Lo,()),())) (n:=K.length-(n+1)) ?_ ?_ (qal (by omega))
 ·intro i hi
  have b0:(!decide (((mvL (K.drop (n+1)) (F.drop (n+1)) 0 (K.length-(n+1))).length:Int)≤(i:Int)))=true:=nT (by omega)
  have b1:(decide ((0:Int)≤(i:Int))&&decide ((i:Int)<((mvL (K.drop (n+1)) (F.drop (n+1)) 0 (K.length-(n+1))).length:Int)))=true:=dA (by omega) (by omega)
  have b2:(decide ((0:Int)≤(n:Int))&&decide ((n:Int)<((mvL K F 0 K.length).length:Int)))=true:=dA (by omega) (by omega)
  have b3:(decide ((0:Int)≤(i:Int))&&decide ((i:Int)<(((mvL K F 0 K.length).drop (n+1)).length:Int)))=true:=dA (by omega) (by omega)
  have gv:=qbb (K.drop (n+1)) (F.drop (n+1)) 0 (K.length-(n+1)) i hi
  have gu:=qbb K F 0 K.length n (by omega)
  have gU:((mvL K F 0 K.length).drop (n+1)).getD i ((0:Int),(0:Int),())=pr (mvR K F 0 (n+1+i+1)):=by
   rw[←qbb K F 0 K.length (n+1+i) (by omega)]
   simp only[List.getD,List.getElem?_drop]
  have c1:=qk2 hv hi
  have c2:=qk2 hu (show n<K.length by omega)
  have c3:=qk2 hu (show n+1+i<K.length by omega)
  have hsum:=qrc K F (n+1) (i+1)
  rw[show n+1+(i+1)=n+1+i+1 by omega]at hsum
  generalize hr:mvR (K.drop (n+1)) (F.drop (n+1)) 0 (i+1)=r at *
  generalize hs:mvR K F 0 (n+1)=s at *
  generalize ht:mvR K F 0 (n+1+i+1)=t at *
  have z1:=qj2 (qn9 c1)
  have z2:=qj2 (qn9 c2)
  have z3':=qj2 (qn9 c3)
  rw[qog]at z1 z2 z3'
  have q1:f45 (((pr r).1,(pr r).2.1,()),())=some (encR r,()):=by have:=qpB (qn9 c1);rw[qog]at this;exact this
  have q2:f45 (((pr s).1,(pr s).2.1,()),())=some (encR s,()):=by have:=qpB (qn9 c2);rw[qog]at this;exact this
  have q3:f45 (((pr t).1,(pr t).2.1,()),())=some (encR t,()):=by have:=qpB (qn9 c3);rw[qog]at this;exact this
  have q4:f44 ((((encR r).1.1,(encR r).1.2.1,()),((encR r).2.1.1,(encR r).2.1.2.1,()),()),(((encR s).1.1,(encR s).1.2.1,()),((encR s).2.1.1,(encR s).2.1.2.1,()),()),())=some (encR t,()):=by
   rw[←hsum];exact que r s (qcV z1 (by omega)) (qcV z2 (by omega))
  have q5:f43 ((((encR t).1.1,(encR t).1.2.1,()),((encR t).2.1.1,(encR t).2.1.2.1,()),()),(((encR t).1.1,(encR t).1.2.1,()),((encR t).2.1.1,(encR t).2.1.2.1,()),()),())=some ((0:Int),()):=by
   have:=quq t t (qcV z3' (by omega)) (qcV z3' (by omega))
   rw[Int.sub_self]at this
   exact this
  simp only[s5_4,t5_4,Tr.val_test,Tr.val_fin,Tr.val_stop,qad,qag,b0,b1,b2,b3,if_true,if_false,Bool.false_eq_true,Int.toNat_natCast,gu,gv,gU,g45,q1,q2,q3,g44,q4,g43,q5,decide_true,Bool.not_true,Option.isSome_some,Option.getD_some,qai (show i≤9223372036854775806 by omega)]
 ·have b0:(!decide (((mvL (K.drop (n+1)) (F.drop (n+1)) 0 (K.length-(n+1))).length:Int)≤((K.length-(n+1):Nat):Int)))=false:=nF (by omega)
  simp only[s5_4,t5_4,Tr.val_test,Tr.val_fin,Tr.val_stop,qad,b0,if_false,Bool.false_eq_true]
end Go.Vm.Mo

namespace Go.Vm.Mo
open Go
set_option linter.unusedVariables false
set_option linter.unusedSimpArgs false
theorem qcM{K F:List Int}(v:VC K F):f22 ((K,F,()),())=some (if lgE (mvL K F 0 K.length)=0 then(mvL K F 0 K.length,(0:Int),())else([],(8:Int),())):=by
 have h6:=v.n6
 rw[qua K F (by omega),qq2 v]
 rcases qaA (mvL K F 0 K.length)with h|h
 ·rw[h];rfl
 ·rw[h];rfl
theorem qso{K F:List Int}(v:VC K F):f26 ((K,F,()),())=some ((((yld K).den:Int),(yld K).num,()),(0:Int),()):=by
 have h6:=v.n6
 rw[qt7 K F (by omega),qq2 v];rfl
theorem qtu{K F:List Int}(v:VC K F):f26 ((K.reverse,F.reverse,()),())=some ((((yld K).den:Int),(yld K).num,()),(0:Int),()):=by
 rw[qso (quG v),qtm]
theorem quU{K F:List Int}(v:VC K F):f36 ((((yld K).den:Int),(yld K).num,()),())=some (true,()):=by
 have b:=qsi v
 have q:=(qnm v v.n0).2
 have hd:=(yld K).den_pos
 have g:Int.gcd (yld K).num ((yld K).den:Int)=1:=by rw[Int.gcd_comm];exact qjj _
 rw[qr1 _ _ (by omega) (by omega) (by omega) (by omega),dT ⟨q,g⟩]
theorem qux{K F:List Int}(v:VC K F){n:Nat}(hn:n<K.length):nE K F (n:Int)=0:=by
 have w:wi 0 ((K.length:Int)-1) (n:Int)=true:=wi_iff.2 ⟨by omega,by omega⟩
 unfold nE
 rw[qq2 v,w];rfl
theorem qt1{K F:List Int}(v:VC K F){n:Nat}(hn:n<K.length):f23 ((K,F,()),(n:Int),())=some (if lgE (mvL K F 0 K.length)=0 then(((mvL K F 0 K.length).take (n+1),(mvL K F 0 K.length).drop (n+1),sF F (n+1),()),(0:Int),())else(([],[],(0:Int),()),(8:Int),())):=by
 have h6:=v.n6
 rw[quE K F _ (by omega),qux v hn];rfl
theorem quT{K F:List Int}(v:VC K F){n:Nat}(hn:n<K.length){L U:List Fr}(hL:L.length=n+1)(hU:U.length=K.length-(n+1))(Lo:Int):cH K F (n:Int) L U Lo=chk K F n L U Lo:=by
 unfold cH
 rw[qux v hn,if_pos rfl,Int.toNat_natCast,if_pos ⟨hL,hU⟩]
theorem qsL{K F:List Int}(v:VC K F){n:Nat}(hn:n<K.length)(hl:lgE (mvL K F 0 K.length)=0):f24 ((K,F,()),(n:Int),((mvL K F 0 K.length).take (n+1),(mvL K F 0 K.length).drop (n+1),sF F (n+1),()),())=some ((0:Int),(0:Int),()):=by
 have h6:=v.n6
 have hml:=qam K F 0 K.length
 have hL:((mvL K F 0 K.length).take (n+1)).length=n+1:=by rw[List.length_take];omega
 have hU:((mvL K F 0 K.length).drop (n+1)).length=K.length-(n+1):=by rw[List.length_drop,hml]
 rw[qsp K F _ _ _ _ (by omega) (by omega) (by omega) (by omega) (by omega) (by rw[List.take_append_drop];exact qpI hl),quT v hn hL hU,qsJ v hn hl]
theorem qp8{K F:List Int}(v:VC K F){n a:Nat}(hn:n<K.length)(ha:a<K.length){e:Rat}(he:e≠0)(hl:lgE (mvL K F 0 K.length)=0)(hx:(mvR K F 0 (a+1)+e).num.natAbs≤4000000000∧(mvR K F 0 (a+1)+e).den≤4000000000)
  {L U:List Fr} (hL:L.length=n+1) (hU:U.length=K.length-(n+1)) (hap:L++U=(mvL K F 0 K.length).set a (pr (mvR K F 0 (a+1)+e))):
  ∃i d,f24 ((K,F,()),(n:Int),(L,U,sF F (n+1),()),())=some (i,d,())∧(d=19∨d=2):=by
 have h6:=v.n6
 have I:IsE K F a e (L++U):=by rw[hap];exact qsW ha
 have w:W64 (L++U):=by rw[hap];exact qth hl hx
 refine⟨_,_,qsp K F _ _ _ _ (by omega) (by omega) (by omega) (by omega) (by omega) w,?_⟩
 rw[quT v hn hL hU]
 exact qo8 v hn he ha I hL hU
theorem qsT{K F:List Int}(v:VC K F):∀i,i<F.length→(2*F.getD i 0).natAbs≤2000:=fun i hi=>by
 have hf:=v.fl
 have a:=v.f1 i (by omega)
 have b:=v.f2 i (by omega)
 omega
def dF1(F:List Int):Option Nat:=first (fun i=>decide (1000<(2*F.getD i 0).natAbs)) F.length 0
theorem qeO{K F:List Int}(v:VC K F)(h:dF1 F=none):VC K (dbl F):=quM v fun i hi=>by
 have:=qaZ h i (Nat.zero_le _) (by omega)
 have:=of_decide_eq_false this
 omega
theorem qtB(l:List Fr){m a:Nat}(h:a<m):(l.take m).getD a ((0:Int),(0:Int),())=l.getD a ((0:Int),(0:Int),()):=by
 simp[List.getD,h]
theorem qsQ(l:List Fr){m a:Nat}(h:m≤a):(l.drop m).getD (a-m) ((0:Int),(0:Int),())=l.getD a ((0:Int),(0:Int),()):=by
 simp only[List.getD,List.getElem?_drop,show m+(a-m)=a by omega]
theorem qty{K F:List Int}(v:VC K F){n a:Nat}(hn:n<K.length)(ha:a≤n)(hl:lgE (mvL K F 0 K.length)=0):
  ∃i d,f24 ((K,F,()),(n:Int),(((mvL K F 0 K.length).take (n+1)).set a (pr (mvR K F 0 (a+1)+1)),(mvL K F 0 K.length).drop (n+1),sF F (n+1),()),())=some (i,d,())∧(d=19∨d=2):=by
 have hml:=qam K F 0 K.length
 exact qp8 v hn (show a<K.length by omega) (e:=1) (by decide) hl (qvl (qk2 hl (by omega))) (by rw[List.length_set,List.length_take];omega) (by rw[List.length_drop,hml]) (qtd _ _ (by omega) (by omega))
theorem qtZ{K F:List Int}(v:VC K F){n a:Nat}(hn:n<a)(ha:a<K.length)(hl:lgE (mvL K F 0 K.length)=0):
  ∃i d,f24 ((K,F,()),(n:Int),((mvL K F 0 K.length).take (n+1),((mvL K F 0 K.length).drop (n+1)).set (a-(n+1)) (pr (mvR K F 0 (a+1)-1)),sF F (n+1),()),())=some (i,d,())∧(d=19∨d=2):=by
 have hml:=qam K F 0 K.length
 have e:mvR K F 0 (a+1)-1=mvR K F 0 (a+1)+(-1):=Rat.sub_eq_add_neg _ _
 rw[e]
 exact qp8 v (show n<K.length by omega) ha (e:=-1) (by decide) hl (qs0 (qk2 hl (by omega))) (by rw[List.length_take];omega) (by rw[List.length_set,List.length_drop,hml]) (quN _ _ (by omega) (by omega))
end Go.Vm.Mo
