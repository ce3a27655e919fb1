import Derived.Test.YtifpmnmpinjcgaaGreatRsFb
import Derived.Test.YtifpmnmpinjcgaaGreatA5
set_option linter.unusedVariables false
set_option linter.unusedSimpArgs false

namespace Go.Vm.Mo
open Go
set_option linter.unusedVariables false
set_option linter.unusedSimpArgs false
theorem dT{p:Prop}[Decidable p](h:p):decide p=true:=decide_eq_true h
theorem dF{p:Prop}[Decidable p](h:¬p):decide p=false:=decide_eq_false h
theorem nT{p:Prop}[Decidable p](h:¬p):(!decide p)=true:=by rw[decide_eq_false h];rfl
theorem nF{p:Prop}[Decidable p](h:p):(!decide p)=false:=by rw[decide_eq_true h];rfl
theorem dA{p q:Prop}[Decidable p][Decidable q](h:p)(k:q):(decide p&&decide q)=true:=by rw[decide_eq_true h,decide_eq_true k];rfl
theorem qjQ(bad:Nat→Bool):∀(n i:Nat),first bad n (i+1)=(first (fun k=>bad (k+1)) n i).map (·+1)
 |0,_=>rfl
 |n+1,i=>by
  simp only[first]
  split
  ·rfl
  ·exact qjQ bad n (i+1)
def qeC:List Int→Int
 |[]=>0
 |a::l=>if a=0 then qeC l else a
theorem qhC:∀l:List Int,(match first (fun i=>!decide (l.getD i 0=0)) l.length 0 with
  |some k=>l.getD k 0
  |none=>0)=qeC l
 |[]=>rfl
 |a::l=>by
  simp only[List.length,first,qeC]
  by_cases ha:a=0
  ·subst ha
   have e:=qhC l
   have hf:first (fun i=>!decide (((0:Int)::l).getD i 0=0)) l.length (0+1)=(first (fun i=>!decide (l.getD i 0=0)) l.length 0).map (·+1):=by
    rw[qjQ];rfl
   simp only[hf,List.getD_cons_zero,decide_true,Bool.not_true,Bool.false_eq_true,if_false,if_true]
   rw[←e]
   cases first (fun i=>!decide (l.getD i 0=0)) l.length 0 with
   |none=>rfl
   |some k=>rfl
  ·simp[ha]
theorem l42(l:List Int)(h:l.length≤1000000000):l42_0 ((l,(l.length:Int),(0:Int),()),())=match first (fun i=>!decide (l.getD i 0=0)) l.length 0 with
  |some k=>some (.inr ((l.getD k 0,()),()))
  |none=>some (.inl ((),())):=by
 refine qfg (fun i=>((l,(l.length:Int),(i:Int),()),())) (fun i=>!decide (l.getD i 0=0)) (fun k=>((l.getD k 0,()),())) (n:=l.length) ?_ ?_ (qcS (by omega))
 ·intro i hi
  simp only[s42_0,t42_0,Tr.val_test,qaG,qbf]
  rw[if_pos (by simp;omega),if_pos (by simp;omega)]
  simp only[Int.toNat_natCast,qcT (show i≤9223372036854775806 by omega)]
  rfl
 ·simp[s42_0,t42_0,qaG]
theorem qpW(l:List Int)(h:l.length≤1000000000):f42 (l,())=some (qeC l,()):=by
 simp only[f42,t42,Tr.val_test,r42_0,l42 l h,←qhC l]
 cases first (fun i=>!decide (l.getD i 0=0)) l.length 0 with
 |none=>rfl
 |some k=>rfl
theorem qp0(d:Tys.data as38):f38 d=some (if d.1=true then d.2.1 else(0:Int),()):=by
 simp only[f38,t38,Tr.val_test]
 split<;>rfl
def wi(lo hi x:Int):Bool:=decide (lo≤x)&&decide (x≤hi)
theorem wi_iff{lo hi x:Int}:wi lo hi x=true↔lo≤x∧x≤hi:=by simp[wi]
theorem qp7(d:Tys.data as16):f16 d=some (wi d.2.1 d.2.2.1 d.1,()):=by
 simp only[f16,t16,Tr.val_test,Tr.val_fin,qaG,decide_eq_true_eq,wi]
 split<;>simp[*]
theorem l43(lo hi:Int)(l:List Int)(h:l.length≤1000000000):l43_0 ((lo,hi,l,(l.length:Int),(0:Int),()),())=match first (fun i=>!wi lo hi (l.getD i 0)) l.length 0 with
  |some _=>some (.inr ((false,()),()))
  |none=>some (.inl ((),())):=by
 refine qfg (fun i=>((lo,hi,l,(l.length:Int),(i:Int),()),())) (fun i=>!wi lo hi (l.getD i 0)) (fun _=>((false,()),())) (n:=l.length) ?_ ?_ (qcS (by omega))
 ·intro i hi'
  simp only[s43_0,t43_0,Tr.val_test,Tr.val_fin,qaG,Int.toNat_natCast,qcT (show i≤9223372036854775806 by omega)]
  rw[if_pos (by simp;omega),if_pos (by simp;omega)]
  by_cases a0:lo≤l.getD i 0
  ·by_cases a1:l.getD i 0≤hi
   ·simp only[wi,a0,a1,decide_true,Bool.and_self,Bool.not_true,if_true,if_false,Bool.false_eq_true]
   ·simp only[wi,a0,a1,decide_true,decide_false,Bool.and_false,Bool.not_false,Bool.not_true,if_true,if_false,Bool.false_eq_true]
  ·simp only[wi,a0,decide_false,Bool.false_and,Bool.not_false,if_true,if_false,Bool.false_eq_true]
 ·simp[s43_0,t43_0,qaG]
theorem qnn(lo hi:Int)(l:List Int)(h:l.length≤1000000000):f43 (lo,hi,l,())=some ((first (fun i=>!wi lo hi (l.getD i 0)) l.length 0).isNone,()):=by
 have hl:=l43 lo hi l h
 cases hf:first (fun i=>!wi lo hi (l.getD i 0)) l.length 0 with
 |none=>
  rw[hf]at hl
  simp only[f43,t43,Tr.val_test,Tr.val_fin,hl,qft,Option.isSome_some,Option.isNone_none,if_true,Bool.false_eq_true,if_false]
 |some k=>
  rw[hf]at hl
  simp only[f43,t43,Tr.val_test,Tr.val_fin,hl,qft,r43_0,outR,Option.isSome_some,Option.isNone_some,if_true]
theorem f43_one(lo hi a:Int):f43 (lo,hi,[a],())=some (wi lo hi a,()):=by
 rw[qnn lo hi _ (by simp)]
 simp only[first,List.length,List.getD_cons_zero]
 by_cases h1:wi lo hi a=true
 ·simp[h1]
 ·simp[h1]
theorem f43_two(lo hi a b:Int):f43 (lo,hi,[a,b],())=some (wi lo hi a&&wi lo hi b,()):=by
 rw[qnn lo hi _ (by simp)]
 simp only[first,List.length,List.getD_cons_zero,List.getD_cons_succ]
 by_cases h1:wi lo hi a=true
 ·by_cases h2:wi lo hi b=true
  ·simp[h1,h2]
  ·simp[h1,h2]
 ·simp[h1]
theorem qr8(l:List Int)(h:l.length≤1000):f8 (l,())=some (l,()):=by
 simp only[f8,t8,Tr.val_test,Tr.val_fin,Tr.val_stop,List.nil_append,Nat.zero_add]
 rw[if_pos (by simp only[Bool.and_eq_true,qdG];omega),if_pos (by rw[qkh])]
theorem wn64{x:Int}(h1:-9223372036854775807≤x)(h2:x≤9223372036854775807):IntKind.wrap .i64 (0-x)=-x:=by
 rw[←qcU,qaC (by omega) (by omega)]
 omega
def gL(l:List Int):Nat:=l.foldl (fun g x=>Nat.gcd g x.natAbs) 0
theorem qpO:∀(l:List Int)(g:Nat),l.foldl (fun g x=>Nat.gcd g x.natAbs) g ∣ g∧∀x∈l,l.foldl (fun g x=>Nat.gcd g x.natAbs) g ∣ x.natAbs
 |[],g=>⟨Nat.dvd_refl _,fun x h=>by cases h⟩
 |y::l,g=>by
  obtain⟨h1,h2⟩:=qpO l (Nat.gcd g y.natAbs)
  refine⟨Nat.dvd_trans h1 (Nat.gcd_dvd_left _ _),fun x hx=>?_⟩
  rcases List.mem_cons.1 hx with rfl|hx
  ·exact Nat.dvd_trans h1 (Nat.gcd_dvd_right _ _)
  ·exact h2 x hx
theorem qoi{l:List Int}{x:Int}(h:x∈l):gL l ∣ x.natAbs:=(qpO l 0).2 x h
theorem qp2{d:Nat}:∀(l:List Int)(g:Nat),d ∣ g→(∀x∈l,d ∣ x.natAbs)→d ∣ l.foldl (fun g x=>Nat.gcd g x.natAbs) g
 |[],g,h,_=>h
 |y::l,g,h,k=>qp2 l _ (Nat.dvd_gcd h (k y (List.mem_cons_self ..))) fun x hx=>k x (List.mem_cons_of_mem _ hx)
theorem qrC{d:Nat}{l:List Int}(h:∀x∈l,d ∣ x.natAbs):d ∣ gL l:=qp2 l 0 (Nat.dvd_zero _) h
theorem qoI(x:Int)(l:List Int):gL (x::l)=l.foldl (fun g x=>Nat.gcd g x.natAbs) x.natAbs:=by
 unfold gL
 rw[List.foldl_cons,Nat.gcd_zero_left]
theorem qjx{x:Int}{l:List Int}(h:x≠0):0<gL (x::l):=by
 rcases Nat.eq_zero_or_pos (gL (x::l))with e|e
 ·have:=qoi (l:=x::l) (List.mem_cons_self ..)
  rw[e]at this
  have:=Nat.eq_zero_of_zero_dvd this
  omega
 ·exact e
def sd(l:List Int):Int:=if l.getD 0 0<0 then -(gL l:Int)else(gL l:Int)
def rd(l:List Int):List Int:=l.map fun x=>x.tdiv (sd l)
theorem qoa(l:List Int):(sd l).natAbs=gL l:=by unfold sd;split<;>omega
theorem qjB(l:List Int):(rd l).length=l.length:=List.length_map _
theorem qrc{l:List Int}{x:Int}(h:x∈l):sd l ∣ x:=by
 have:=qoi h
 rw[←qoa]at this
 exact Int.natAbs_dvd_natAbs.1 this
theorem qb2{l:List Int}{x:Int}(h:x∈l):x.tdiv (sd l)*sd l=x:=Int.tdiv_mul_cancel (qrc h)
theorem qcW{l:List Int}(x:Int):(x.tdiv (sd l)).natAbs≤x.natAbs:=by
 rw[Int.natAbs_tdiv];exact Nat.div_le_self _ _
theorem qfu{x:Int}{l:List Int}(h:x≠0):0<x.tdiv (sd (x::l)):=by
 have hm:=qb2 (l:=x::l) (List.mem_cons_self ..)
 have hp:=qjx (l:=l) h
 have hs:(sd (x::l)<0∧x<0)∨(0<sd (x::l)∧0<x):=by
  by_cases k:x<0
  ·left
   have:sd (x::l)=-(gL (x::l):Int):=if_pos k
   omega
  ·right
   have:sd (x::l)=(gL (x::l):Int):=if_neg k
   omega
 generalize x.tdiv (sd (x::l))=q at *
 rcases Int.lt_or_le 0 q with k|k
 ·exact k
 ·exfalso
  rcases hs with⟨s1,s2⟩|⟨s1,s2⟩
  ·have:=Int.mul_nonneg_of_nonpos_of_nonpos k (Int.le_of_lt s1)
   omega
  ·have:=Int.mul_nonpos_of_nonpos_of_nonneg k (Int.le_of_lt s1)
   omega
def nv(r:List Int)(j:Nat):Int:=r.getD 0 0*r.getD j 0-r.getD (r.length-1) 0*r.getD (r.length-1-j) 0
def nxt(r:List Int):List Int:=(List.range (r.length-1)).map (nv r)
def lst(r:List Int):Bool:=decide (r.getD 0 0≤((r.getD (r.length-1) 0).natAbs:Int))
def tbl:Nat→List Int→List (List Int)
 |0,r=>[r]
 |n+1,r=>if lst r=true then[r]else r::tbl n (rd (nxt r))
theorem qr0{n:Nat}(h:n≤9223372036854775808):n<rounds:=by unfold rounds;omega
theorem qeV{n:Int}(h1:-9223372036854775808≤n)(h2:n≤9223372036854775807):IntKind.wrap .i64 n=n:=by rw[←qcU,qaC h1 h2]
theorem qoP(x:Int)(h:x.natAbs≤9223372036854775807):f15 (x,())=some ((x.natAbs:Int),()):=by
 simp only[f15,t15,Tr.val_fin]
 rw[qeV (by omega) (by omega)]
 have e:(if x<0-x then 0-x else x)=(x.natAbs:Int):=by split<;>omega
 rw[e]
theorem qdc{A:Type}(l:List A)(d:A)(i:Nat)(h:i<l.length):l.getD i d=l[i]:=by
 rw[List.getD_eq_getElem?_getD,List.getElem?_eq_getElem h];rfl
theorem qpA{A B:Type}(f:A→B)(l:List A)(d:A)(i:Nat)(h:i<l.length):(l.take i).map f++[f (l.getD i d)]=(l.take (i+1)).map f:=by
 have e:l.take (i+1)=l.take i++[l.getD i d]:=by
  rw[List.take_add_one,List.getElem?_eq_getElem h,qdc l d i h];rfl
 rw[e,List.map_append];rfl
theorem qjC{A B:Type}(f:B→A→B)(b:B)(l:List A)(d:A)(i:Nat)(h:i<l.length):(l.take (i+1)).foldl f b=f ((l.take i).foldl f b) (l.getD i d):=by
 have e:l.take (i+1)=l.take i++[l.getD i d]:=by
  rw[List.take_add_one,List.getElem?_eq_getElem h,qdc l d i h];rfl
 rw[e,List.foldl_append];rfl
def Bd(n:Nat)(l:List Int):Prop:=∀x∈l,x.natAbs≤n
theorem Bd.at{n:Nat}{l:List Int}(h:Bd n l){i:Nat}(hi:i<l.length):(l.getD i 0).natAbs≤n:=by
 rw[qdc l 0 i hi];exact h _ (List.getElem_mem hi)
theorem qp1:∀(l:List Int)(a:Int),(l.foldl euc a).natAbs=l.foldl (fun g x=>Nat.gcd g x.natAbs) a.natAbs
 |[],a=>rfl
 |x::l,a=>by rw[List.foldl_cons,List.foldl_cons,qp1 l (euc a x),qqQ]
theorem l63q(a b:Int)(l:List Int)(n i:Int)(hb:b.natAbs≤9223372036854775808):l63_2 ((a,b,l,n,i,()),())=some (.inl ((euc a b,l,n,i,()),())):=by
 refine qqn (fun a b=>((a,b,l,n,i,()),())) (fun a=>((a,l,n,i,()),())) ?_ ?_ rounds a b (qr0 hb)
 ·intro a b hb
  have q:(b==(0:Int))=false:=beq_eq_false_iff_ne.2 hb
  simp only[s63_2,t63_2,qbf,nT hb,q,Tr.val_test,Tr.val_fin,if_true,Bool.false_eq_true,if_false]
 ·intro a
  have q:(!decide ((0:Int)=0))=false:=rfl
  simp only[s63_2,t63_2,qbf,decide_true,Bool.not_true,Tr.val_test,Tr.val_fin,Bool.false_eq_true,if_false]
theorem l63(a:Int)(l:List Int)(h:l.length≤1000)(hb:Bd 9000000000000000000 l):l63_0 ((a,l,(l.length:Int),(0:Int),()),())=some (.inl ((l.foldl euc a,()),())):=by
 have hk:s63_0 (((l.take l.length).foldl euc a,l,(l.length:Int),(l.length:Int),()),())=some (.brk ((l.foldl euc a,()),())):=by
  have q1:(!decide ((l.length:Int)≤(l.length:Int)))=false:=nF (by omega)
  simp only[s63_0,t63_0,qaG,q1,Tr.val_test,Tr.val_fin,Bool.false_eq_true,if_false,List.take_length]
 refine qkq (fun i=>(((l.take i).foldl euc a,l,(l.length:Int),(i:Int),()),())) (n:=l.length) ?_ hk (qcS (by omega))
 intro i hi
 have q1:(!decide ((l.length:Int)≤(i:Int)))=true:=nT (by omega)
 have b1:(decide ((0:Int)≤(i:Int))&&decide ((i:Int)<(l.length:Int)))=true:=dA (by omega) (by omega)
 have e:=l63q ((l.take i).foldl euc a) (l.getD i 0) l (l.length:Int) (i:Int) (by have:=hb.at hi;omega)
 have e2:=qjC euc a l 0 i hi
 simp only[s63_0,t63_0,q1,b1,qaG,Tr.val_test,Tr.val_fin,if_true,Int.toNat_natCast,e,qed,b63_2,outB,qcT (show i≤9223372036854775806 by omega)]
 rw[←e2]
theorem qq7{x:Int}{l:List Int}(h:x≠0):gL (x::l)≤x.natAbs:=Nat.le_of_dvd (by omega) (qoi (List.mem_cons_self ..))
theorem qrI(a:Int)(l:List Int)(h:l.length≤1000)(h0:a≠0)(ha:a.natAbs≤9000000000000000000)(hb:Bd 9000000000000000000 l):f63 (a,l,())=some ((gL (a::l):Int),()):=by
 have e:=l63 a l h hb
 have e1:=qp1 l a
 rw[←qoI]at e1
 have e2:=qq7 (l:=l) h0
 simp only[f63,t63,e,qed,b63_0,outB,Tr.val_test,Tr.val_fin,if_true]
 rw[qeV (by omega) (by omega)]
 have e3:(if l.foldl euc a<0-l.foldl euc a then 0-l.foldl euc a else l.foldl euc a)=(gL (a::l):Int):=by split<;>omega
 rw[e3]
def td(d x:Int):Int:=x.tdiv d
theorem l54(d:Int)(l:List Int)(h:l.length≤1000)(h0:d≠0)(hb:Bd 9000000000000000000 l):l54_0 ((d,[],l,(l.length:Int),(0:Int),()),())=some (.inl ((l.map (td d),()),())):=by
 have hk:s54_0 ((d,(l.take l.length).map (td d),l,(l.length:Int),(l.length:Int),()),())=some (.brk ((l.map (td d),()),())):=by
  have q1:(!decide ((l.length:Int)≤(l.length:Int)))=false:=nF (by omega)
  simp only[s54_0,t54_0,qaG,q1,Tr.val_test,Tr.val_fin,Bool.false_eq_true,if_false,List.take_length]
 refine qkq (fun i=>((d,(l.take i).map (td d),l,(l.length:Int),(i:Int),()),())) (n:=l.length) ?_ hk (qcS (by omega))
 intro i hi
 have q1:(!decide ((l.length:Int)≤(i:Int)))=true:=nT (by omega)
 have b1:(decide ((0:Int)≤(i:Int))&&decide ((i:Int)<(l.length:Int)))=true:=dA (by omega) (by omega)
 have hl:((l.take i).map (td d)).length=i:=by rw[List.length_map,List.length_take];omega
 have b2:(Nat.ble ((2*(i+1)+192)*8) 281474976710656&&Nat.ble (i+1) 281474976710656)=true:=by simp only[Bool.and_eq_true,qdG];omega
 have z:(d==(0:Int))=false:=beq_eq_false_iff_ne.2 h0
 have e:=qpA (td d) l 0 i hi
 have ab:((l.getD i 0).tdiv d).natAbs≤(l.getD i 0).natAbs:=by rw[Int.natAbs_tdiv];exact Nat.div_le_self _ _
 have bd:=hb.at hi
 have w:Go.IntKind.wrap Go.IntKind.i64 ((l.getD i 0).tdiv d)=(l.getD i 0).tdiv d:=qeV (by omega) (by omega)
 simp only[s54_0,t54_0,q1,b1,b2,hl,z,w,qaG,Tr.val_test,Tr.val_fin,if_true,Bool.false_eq_true,if_false,Int.toNat_natCast,qcT (show i≤9223372036854775806 by omega)]
 rw[←e];rfl
theorem qp8(a:Int)(l:List Int)(h:l.length≤999)(h0:a≠0)(hb:Bd 9000000000000000000 (a::l)):f54 (a::l,())=some (rd (a::l),()):=by
 have ha:=hb a (List.mem_cons_self ..)
 have hl:Bd 9000000000000000000 l:=fun x hx=>hb x (List.mem_cons_of_mem _ hx)
 have e:=qrI a l (by omega) h0 ha hl
 have g0:=qjx (l:=l) h0
 have g1:=qq7 (l:=l) h0
 have len:(a::l).length=l.length+1:=rfl
 have q1:(true&&decide ((0:Int)<((a::l).length:Int)))=true:=by rw[dT (show(0:Int)<((a::l).length:Int)by omega)];rfl
 have q2:(true&&decide ((1:Int)≤((a::l).length:Int)))=true:=by rw[dT (show(1:Int)≤((a::l).length:Int)by omega)];rfl
 have hd:(a::l).getD 0 0=a:=rfl
 have hr:(a::l).drop 1=l:=rfl
 simp only[f54,t54,q1,q2,hd,hr,g63,e,qaG,Option.isSome_some,Option.getD_some,Tr.val_test,Tr.val_fin,if_true]
 by_cases k:a<0
 ·have w:Go.IntKind.wrap Go.IntKind.i64 (0-(gL (a::l):Int))=-(gL (a::l):Int):=by rw[qeV (by omega) (by omega)];omega
  have e1:=l54 (-(gL (a::l):Int)) (a::l) (by omega) (by omega) hb
  have s:sd (a::l)=-(gL (a::l):Int):=if_pos k
  rw[nT (show ¬0≤a by omega)]
  simp only[w,e1,qed,b54_0,outB,if_true,rd,s];rfl
 ·have e1:=l54 (gL (a::l):Int) (a::l) (by omega) (by omega) hb
  have s:sd (a::l)=(gL (a::l):Int):=if_neg k
  rw[nF (show 0≤a by omega)]
  simp only[e1,qed,b54_0,outB,if_true,Bool.false_eq_true,if_false,rd,s];rfl
theorem qq4(l:List Int)(h1:1≤l.length)(h:l.length≤1000)(hb:Bd 9000000000000000000 l):f55 (l,())=some (lst l,()):=by
 have w:wrap64 ((l.length:Int)-1)=((l.length-1:Nat):Int):=by rw[qaC (by omega) (by omega)];omega
 have q:(decide ((0:Int)≤((l.length-1:Nat):Int))&&decide (((l.length-1:Nat):Int)<(l.length:Int)))=true:=dA (by omega) (by omega)
 have q1:(true&&decide ((0:Int)<(l.length:Int)))=true:=by rw[dT (show(0:Int)<(l.length:Int)by omega)];rfl
 have bd:=hb.at (i:=l.length-1) (by omega)
 have w2:Go.IntKind.wrap Go.IntKind.i64 (0-l.getD (l.length-1) 0)=0-l.getD (l.length-1) 0:=qeV (by omega) (by omega)
 have e3:(if l.getD (l.length-1) 0<0-l.getD (l.length-1) 0 then 0-l.getD (l.length-1) 0 else l.getD (l.length-1) 0)=((l.getD (l.length-1) 0).natAbs:Int):=by split<;>omega
 simp only[f55,t55,w,q,q1,Int.toNat_natCast,w2,e3,qaG,Tr.val_test,Tr.val_fin,if_true,lst]
end Go.Vm.Mo

namespace Go.Vm.Mo
open Go
set_option linter.unusedVariables false
set_option linter.unusedSimpArgs false
theorem qqJ(a b:Int):f56 ([a,b],())=(Tr.test (Option.isSome (f54 ([wrap64 (wrap64 (a*a)-wrap64 (b*b))],()))) (Tr.fin ((g54 ([wrap64 (wrap64 (a*a)-wrap64 (b*b))],())).1,())) Tr.stop:Tr (Tys.data rs56)).val:=by kernel_rfl
theorem qoE(a b c:Int):f56 ([a,b,c],())=(Tr.test (Option.isSome (f54 ([wrap64 (wrap64 (a*a)-wrap64 (c*c)),wrap64 (wrap64 (a*b)-wrap64 (c*b))],()))) (Tr.fin ((g54 ([wrap64 (wrap64 (a*a)-wrap64 (c*c)),wrap64 (wrap64 (a*b)-wrap64 (c*b))],())).1,())) Tr.stop:Tr (Tys.data rs56)).val:=by kernel_rfl
theorem qpH(a b c d:Int):f56 ([a,b,c,d],())=(Tr.test (Option.isSome (f54 ([wrap64 (wrap64 (a*a)-wrap64 (d*d)),wrap64 (wrap64 (a*b)-wrap64 (d*c)),wrap64 (wrap64 (a*c)-wrap64 (d*b))],()))) (Tr.fin ((g54 ([wrap64 (wrap64 (a*a)-wrap64 (d*d)),wrap64 (wrap64 (a*b)-wrap64 (d*c)),wrap64 (wrap64 (a*c)-wrap64 (d*b))],())).1,())) Tr.stop:Tr (Tys.data rs56)).val:=by kernel_rfl
end Go.Vm.Mo

namespace Go.Vm.Mo
open Go
set_option linter.unusedVariables false
set_option linter.unusedSimpArgs false
theorem qrj(B:Nat):∀(l:List Int)(g:Nat),g≤B→Bd B l→l.foldl (fun g x=>Nat.gcd g x.natAbs) g≤B
 |[],g,h,_=>h
 |x::l,g,h,k=>by
  rw[List.foldl_cons]
  refine qrj B l _ ?_ (fun y hy=>k y (List.mem_cons_of_mem _ hy))
  have hx:=k x (List.mem_cons_self ..)
  rcases Nat.eq_zero_or_pos g with e|e
  ·subst e;rw[Nat.gcd_zero_left];exact hx
  ·exact Nat.le_trans (Nat.le_of_dvd e (Nat.gcd_dvd_left _ _)) h
def gT(l:List Int)(i:Nat):Int:=((l.take i).foldl (fun g x=>Nat.gcd g x.natAbs) 0:Nat)
theorem gT_next(l:List Int)(i:Nat)(h:i<l.length):gT l (i+1)=(Nat.gcd (gT l i).natAbs (l.getD i 0).natAbs:Nat):=by
 unfold gT
 rw[qjC _ _ l 0 i h,Int.natAbs_natCast]
theorem gT_le{l:List Int}(hb:Bd 9000000000000000000 l)(i:Nat):(gT l i).natAbs≤9000000000000000000:=by
 unfold gT
 rw[Int.natAbs_natCast]
 exact qrj _ _ _ (Nat.zero_le _) fun x hx=>hb x (List.mem_of_mem_take hx)
def Rw:List Int→Prop
 |[a]=>0<a∧a.natAbs≤9000000000000000000
 |[a,b]=>0<a∧a.natAbs≤4000000∧b.natAbs≤4000000
 |[a,b,c]=>0<a∧a.natAbs≤2000000∧b.natAbs≤2000000∧c.natAbs≤2000000
 |[a,b,c,d]=>0<a∧a.natAbs≤1000∧b.natAbs≤1000∧c.natAbs≤1000∧d.natAbs≤1000
 |_=>False
theorem qbG{a b:Int}{m n:Nat}(h:a.natAbs≤m)(k:b.natAbs≤n):(a*b).natAbs≤m*n:=by
 rw[Int.natAbs_mul];exact Nat.mul_le_mul h k
theorem wsub{a b:Int}{m:Nat}(h:a.natAbs≤m)(k:b.natAbs≤m)(hm:m≤2000000000000000000):wrap64 (wrap64 a-wrap64 b)=a-b:=by
 rw[qaC (n:=a) (by omega) (by omega),qaC (n:=b) (by omega) (by omega)]
 exact qaC (by omega) (by omega)
theorem qfB{a c:Int}(h:(c.natAbs:Int)<a):0<a*a-c*c:=by
 have e:a*a-c*c=(a-c)*(a+c):=by grind
 rw[e]
 exact Int.mul_pos (by omega) (by omega)
theorem qek{a:Int}{n:Nat}(h:a.natAbs≤n):Bd n [a]:=fun x hx=>by
 rw[List.mem_singleton]at hx;subst hx;exact h
theorem qbj{a:Int}{n:Nat}{l:List Int}(h:a.natAbs≤n)(k:Bd n l):Bd n (a::l):=fun x hx=>by
 rcases List.mem_cons.1 hx with rfl|hx
 ·exact h
 ·exact k x hx
theorem qre{x:Int}(h:0<x):rd [x]=[1]:=by
 have g:gL [x]=x.natAbs:=by rw[qoI];rfl
 have s:sd [x]=x:=by
  have:sd [x]=(gL [x]:Int):=if_neg (show ¬([x]:List Int).getD 0 0<0 from fun q=>by have q:x<0:=q;omega)
  omega
 show[x.tdiv (sd [x])]=[1]
 rw[s,Int.tdiv_self (by omega)]
theorem qkM{l:List Int}{x:Int}(h:x∈l):(x.tdiv (sd l)).natAbs*gL l=x.natAbs:=by
 have:=qb2 h
 have e:=congrArg Int.natAbs this
 rw[Int.natAbs_mul,qoa]at e
 exact e
theorem qph{a b c:Int}(h:(c.natAbs:Int)<a):((a*a-c*c).tdiv (sd [a*a-c*c,a*b-c*b])).natAbs≤(a+c).natAbs∧((a*b-c*b).tdiv (sd [a*a-c*c,a*b-c*b])).natAbs≤b.natAbs:=by
 have e1:a*a-c*c=(a-c)*(a+c):=by grind
 have e2:a*b-c*b=(a-c)*b:=by grind
 have hp:0<(a-c).natAbs:=by omega
 have hd:(a-c).natAbs ∣ gL [a*a-c*c,a*b-c*b]:=qrC fun x hx=>by
  simp only[List.mem_cons,List.not_mem_nil,or_false]at hx
  rcases hx with rfl|rfl
  ·rw[e1,Int.natAbs_mul];exact Nat.dvd_mul_right _ _
  ·rw[e2,Int.natAbs_mul];exact Nat.dvd_mul_right _ _
 have s1:=qkM (l:=[a*a-c*c,a*b-c*b]) (x:=a*a-c*c) (by simp)
 have s2:=qkM (l:=[a*a-c*c,a*b-c*b]) (x:=a*b-c*b) (by simp)
 have g0:=qjx (l:=[a*b-c*b]) (show a*a-c*c≠0 by have:=qfB h;omega)
 have hge:=Nat.le_of_dvd g0 hd
 generalize gL [a*a-c*c,a*b-c*b]=g at *
 generalize(a*a-c*c).tdiv (sd [a*a-c*c,a*b-c*b])=x at *
 generalize(a*b-c*b).tdiv (sd [a*a-c*c,a*b-c*b])=y at *
 rw[e1,Int.natAbs_mul]at s1
 rw[e2,Int.natAbs_mul]at s2
 constructor
 ·have:=Nat.mul_le_mul_left x.natAbs hge
  refine Nat.le_of_mul_le_mul_left (?_:(a-c).natAbs*x.natAbs≤(a-c).natAbs*(a+c).natAbs) hp
  rw[Nat.mul_comm (a-c).natAbs x.natAbs];omega
 ·have:=Nat.mul_le_mul_left y.natAbs hge
  refine Nat.le_of_mul_le_mul_left (?_:(a-c).natAbs*y.natAbs≤(a-c).natAbs*b.natAbs) hp
  rw[Nat.mul_comm (a-c).natAbs y.natAbs];omega
end Go.Vm.Mo

namespace Go.Vm.Mo
open Go
set_option linter.unusedVariables false
set_option linter.unusedSimpArgs false
theorem rd1(x:Int):rd [x]=[x.tdiv (sd [x])]:=rfl
theorem rd2(x y:Int):rd [x,y]=[x.tdiv (sd [x,y]),y.tdiv (sd [x,y])]:=rfl
theorem rd3(x y z:Int):rd [x,y,z]=[x.tdiv (sd [x,y,z]),y.tdiv (sd [x,y,z]),z.tdiv (sd [x,y,z])]:=rfl
theorem rd4(x y z u:Int):rd [x,y,z,u]=[x.tdiv (sd [x,y,z,u]),y.tdiv (sd [x,y,z,u]),z.tdiv (sd [x,y,z,u]),u.tdiv (sd [x,y,z,u])]:=rfl
theorem qqN(a b:Int):lst [a,b]=decide (a≤(b.natAbs:Int)):=rfl
theorem qok(a b c:Int):lst [a,b,c]=decide (a≤(c.natAbs:Int)):=rfl
theorem qpd(a b c d:Int):lst [a,b,c,d]=decide (a≤(d.natAbs:Int)):=rfl
theorem qkt(a b:Int):nxt [a,b]=[a*a-b*b]:=rfl
theorem qe4(a b c:Int):nxt [a,b,c]=[a*a-c*c,a*b-c*b]:=rfl
theorem qgb(a b c d:Int):nxt [a,b,c,d]=[a*a-d*d,a*b-d*c,a*c-d*b]:=rfl
structure Stp(r:List Int):Prop where
 pos:∃x l,nxt r=x::l∧0<x∧l.length≤999∧Bd 9000000000000000000 (x::l)
 row:Rw (rd (nxt r))
 len:(rd (nxt r)).length+1=r.length
theorem qiX{a b:Int}(h:Rw [a,b])(hl:lst [a,b]=false):Stp [a,b]∧rd (nxt [a,b])=[1]∧wrap64 (wrap64 (a*a)-wrap64 (b*b))=a*a-b*b:=by
 obtain⟨h0,h1,h2⟩:=h
 rw[qqN]at hl
 have hl:¬a≤(b.natAbs:Int):=of_decide_eq_false hl
 have p:=qfB (a:=a) (c:=b) (by omega)
 have m1:=qbG h1 h1
 have m2:=qbG h2 h2
 have e:rd (nxt [a,b])=[1]:=by rw[qkt];exact qre p
 refine⟨⟨⟨_,[],qkt a b,p,by decide,qek (by omega)⟩,?_,by rw[e];rfl⟩,e,wsub m1 m2 (by omega)⟩
 rw[e];exact⟨by decide,by decide⟩
theorem qfo{a b c:Int}(h:Rw [a,b,c])(hl:lst [a,b,c]=false):Stp [a,b,c]∧wrap64 (wrap64 (a*a)-wrap64 (c*c))=a*a-c*c∧wrap64 (wrap64 (a*b)-wrap64 (c*b))=a*b-c*b:=by
 obtain⟨h0,h1,h2,h3⟩:=h
 rw[qok]at hl
 have hl:¬a≤(c.natAbs:Int):=of_decide_eq_false hl
 have p:=qfB (a:=a) (c:=c) (by omega)
 have m1:=qbG h1 h1
 have m2:=qbG h3 h3
 have m3:=qbG h1 h2
 have m4:=qbG h3 h2
 have r3:=qph (a:=a) (b:=b) (c:=c) (by omega)
 have hh:=qfu (x:=a*a-c*c) (l:=[a*b-c*b]) (by omega)
 refine⟨⟨⟨_,[_],qe4 a b c,p,by show 1≤999;omega,qbj (by omega) (qek (by omega))⟩,?_,rfl⟩,wsub m1 m2 (by omega),wsub m3 m4 (by omega)⟩
 rw[qe4,rd2]
 exact⟨hh,by omega,by omega⟩
theorem qg6{a b c d:Int}(h:Rw [a,b,c,d])(hl:lst [a,b,c,d]=false):Stp [a,b,c,d]∧wrap64 (wrap64 (a*a)-wrap64 (d*d))=a*a-d*d∧wrap64 (wrap64 (a*b)-wrap64 (d*c))=a*b-d*c∧wrap64 (wrap64 (a*c)-wrap64 (d*b))=a*c-d*b:=by
 obtain⟨h0,h1,h2,h3,h4⟩:=h
 rw[qpd]at hl
 have hl:¬a≤(d.natAbs:Int):=of_decide_eq_false hl
 have p:=qfB (a:=a) (c:=d) (by omega)
 have m1:=qbG h1 h1
 have m2:=qbG h4 h4
 have m3:=qbG h1 h2
 have m4:=qbG h4 h3
 have m5:=qbG h1 h3
 have m6:=qbG h4 h2
 have hh:=qfu (x:=a*a-d*d) (l:=[a*b-d*c,a*c-d*b]) (by omega)
 have q1:=qcW (l:=[a*a-d*d,a*b-d*c,a*c-d*b]) (a*a-d*d)
 have q2:=qcW (l:=[a*a-d*d,a*b-d*c,a*c-d*b]) (a*b-d*c)
 have q3:=qcW (l:=[a*a-d*d,a*b-d*c,a*c-d*b]) (a*c-d*b)
 refine⟨⟨⟨_,[_,_],qgb a b c d,p,by show 2≤999;omega,qbj (by omega) (qbj (by omega) (qek (by omega)))⟩,?_,rfl⟩,wsub m1 m2 (by omega),wsub m3 m4 (by omega),wsub m5 m6 (by omega)⟩
 rw[qgb,rd3]
 exact⟨hh,by omega,by omega,by omega⟩
theorem Rw.cases{r:List Int}(h:Rw r):(∃a,r=[a])∨(∃a b,r=[a,b])∨(∃a b c,r=[a,b,c])∨(∃a b c d,r=[a,b,c,d]):=by
 match r,h with
 |[a],_=>exact Or.inl ⟨a,rfl⟩
 |[a,b],_=>exact Or.inr (Or.inl ⟨a,b,rfl⟩)
 |[a,b,c],_=>exact Or.inr (Or.inr (Or.inl ⟨a,b,c,rfl⟩))
 |[a,b,c,d],_=>exact Or.inr (Or.inr (Or.inr ⟨a,b,c,d,rfl⟩))
theorem Rw.len{r:List Int}(h:Rw r):1≤r.length∧r.length≤4:=by
 rcases h.cases with⟨a,rfl⟩|⟨a,b,rfl⟩|⟨a,b,c,rfl⟩|⟨a,b,c,d,rfl⟩<;>simp
theorem Rw.bd{r:List Int}(h:Rw r):Bd 9000000000000000000 r:=by
 rcases h.cases with⟨a,rfl⟩|⟨a,b,rfl⟩|⟨a,b,c,rfl⟩|⟨a,b,c,d,rfl⟩
 ·exact qek h.2
 ·obtain⟨_,h1,h2⟩:=h;exact qbj (by omega) (qek (by omega))
 ·obtain⟨_,h1,h2,h3⟩:=h;exact qbj (by omega) (qbj (by omega) (qek (by omega)))
 ·obtain⟨_,h1,h2,h3,h4⟩:=h;exact qbj (by omega) (qbj (by omega) (qbj (by omega) (qek (by omega))))
theorem qe1{r:List Int}(h:Rw r)(k:r.length≤1):lst r=true:=by
 rcases h.cases with⟨a,rfl⟩|⟨a,b,rfl⟩|⟨a,b,c,rfl⟩|⟨a,b,c,d,rfl⟩
 ·obtain⟨h0,_⟩:=h
  show decide (a≤(a.natAbs:Int))=true
  exact decide_eq_true (by omega)
 ·exact absurd k (by simp)
 ·exact absurd k (by simp)
 ·exact absurd k (by simp)
theorem qr1{r:List Int}(h:Rw r)(hl:lst r=false):Stp r:=by
 rcases h.cases with⟨a,rfl⟩|⟨a,b,rfl⟩|⟨a,b,c,rfl⟩|⟨a,b,c,d,rfl⟩
 ·rw[qe1 h (by simp)]at hl;cases hl
 ·exact(qiX h hl).1
 ·exact(qfo h hl).1
 ·exact(qg6 h hl).1
theorem qrn{r:List Int}(h:Rw r)(hl:lst r=false):f56 (r,())=some (rd (nxt r),()):=by
 have fin:∀x l,0<x→l.length≤999→Bd 9000000000000000000 (x::l)→(Tr.test (Option.isSome (f54 (x::l,()))) (Tr.fin ((g54 (x::l,())).1,())) Tr.stop:Tr (Tys.data rs56)).val=some (rd (x::l),()):=by
  intro x l h1 h2 h3
  have e:=qp8 x l h2 (by omega) h3
  simp only[g54,e,Option.isSome_some,Option.getD_some,Tr.val_test,Tr.val_fin,if_true]
 rcases h.cases with⟨a,rfl⟩|⟨a,b,rfl⟩|⟨a,b,c,rfl⟩|⟨a,b,c,d,rfl⟩
 ·rw[qe1 h (by simp)]at hl;cases hl
 ·obtain⟨s,_,w⟩:=qiX h hl
  obtain⟨x,l,e,p,q,b⟩:=s.pos
  rw[qqJ,w,←qkt,e];exact fin x l p q b
 ·obtain⟨s,w1,w2⟩:=qfo h hl
  obtain⟨x,l,e,p,q,b⟩:=s.pos
  rw[qoE,w1,w2,←qe4,e];exact fin x l p q b
 ·obtain⟨s,w1,w2,w3⟩:=qg6 h hl
  obtain⟨x,l,e,p,q,b⟩:=s.pos
  rw[qpH,w1,w2,w3,←qgb,e];exact fin x l p q b
theorem qrH{n:Nat}(h:n≤1000):(Nat.ble ((2*(n+1)+192)*24) 281474976710656&&Nat.ble (n+1) 281474976710656)=true:=by simp only[Bool.and_eq_true,qdG];omega
theorem it32:∀(k:Nat)(r:List Int)(T:List (List Int))(m:Nat),Rw r→r.length≤k+1→T.length+k≤1000→k<m→itr s32_0 m ((r,T,()),())=some (.inl ((T++(tbl k r).tail,()),()))
 |k,r,T,0,_,_,_,hm=>by omega
 |k,r,T,m+1,h,hk,ht,hm=>by
  have e:=qq4 r h.len.1 (by have:=h.len;omega) h.bd
  cases hl:lst r with
  |true=>
   rw[hl]at e
   have et:(tbl k r).tail=[]:=by
    cases k with
    |zero=>rfl
    |succ k=>simp only[tbl,hl,if_true];rfl
   simp only[itr,s32_0,t32_0,g55,e,Option.isSome_some,Option.getD_some,Bool.not_true,Tr.val_test,Tr.val_fin,if_true,Bool.false_eq_true,if_false,et,List.append_nil]
  |false=>
   rw[hl]at e
   cases k with
   |zero=>rw[qe1 h (by omega)]at hl;cases hl
   |succ k=>
    have s:=qr1 h hl
    have e1:=qrn h hl
    have ih:=it32 k (rd (nxt r)) (T++[rd (nxt r)]) m s.row (by have:=s.len;omega) (by rw[List.length_append];show T.length+1+k≤1000;omega) (by omega)
    have et:(tbl (k+1) r).tail=tbl k (rd (nxt r)):=by simp only[tbl,hl,Bool.false_eq_true,if_false];rfl
    have eh:tbl k (rd (nxt r))=rd (nxt r)::(tbl k (rd (nxt r))).tail:=by
     cases k with
     |zero=>rfl
     |succ k=>simp only[tbl];split<;>rfl
    simp only[itr,s32_0,t32_0,g55,e,g56,e1,qrH (show T.length≤1000 by omega),Option.isSome_some,Option.getD_some,Bool.not_false,Tr.val_test,Tr.val_fin,if_true]
    rw[ih,et,List.append_assoc]
    congr 5
    exact eh.symm
def Py(p:List Int):Prop:=(1≤p.length∧p.length≤4)∧Bd 1000 p∧p.getD 0 0≠0
theorem Py.cons{p:List Int}(h:Py p):∃a l,p=a::l∧a≠0∧l.length≤3∧Bd 1000 (a::l):=by
 match p,h with
 |a::l,h=>exact⟨a,l,rfl,h.2.2,by have:=h.1.2;have e:(a::l).length=l.length+1:=rfl;omega,h.2.1⟩
 |[],h=>exact absurd h.1.1 (by decide)
theorem Py.rw{p:List Int}(h:Py p):Rw (rd p):=by
 obtain⟨hl,hb,h0⟩:=h
 match p,hl,hb,h0 with
 |[a],_,hb,h0=>
  have q1:=qcW (l:=[a]) a
  have b1:=hb a (by simp)
  rw[rd1];exact⟨qfu h0,by omega⟩
 |[a,b],_,hb,h0=>
  have q1:=qcW (l:=[a,b]) a
  have q2:=qcW (l:=[a,b]) b
  have b1:=hb a (by simp)
  have b2:=hb b (by simp)
  rw[rd2];exact⟨qfu h0,by omega,by omega⟩
 |[a,b,c],_,hb,h0=>
  have q1:=qcW (l:=[a,b,c]) a
  have q2:=qcW (l:=[a,b,c]) b
  have q3:=qcW (l:=[a,b,c]) c
  have b1:=hb a (by simp)
  have b2:=hb b (by simp)
  have b3:=hb c (by simp)
  rw[rd3];exact⟨qfu h0,by omega,by omega,by omega⟩
 |[a,b,c,d],_,hb,h0=>
  have q1:=qcW (l:=[a,b,c,d]) a
  have q2:=qcW (l:=[a,b,c,d]) b
  have q3:=qcW (l:=[a,b,c,d]) c
  have q4:=qcW (l:=[a,b,c,d]) d
  have b1:=hb a (by simp)
  have b2:=hb b (by simp)
  have b3:=hb c (by simp)
  have b4:=hb d (by simp)
  rw[rd4];exact⟨qfu h0,by omega,by omega,by omega,by omega⟩
 |a::b::c::d::e::l,hl,_,_=>exact absurd hl.2 (by show ¬l.length+5≤4;omega)
 |[],hl,_,_=>exact absurd hl.1 (by decide)
def tb(p:List Int):List (List Int):=tbl 3 (rd p)
theorem qo2(k:Nat)(r:List Int):tbl k r=r::(tbl k r).tail:=by
 cases k with
 |zero=>rfl
 |succ k=>simp only[tbl];split<;>rfl
theorem qrM{p:List Int}(h:Py p):f54 (p,())=some (rd p,()):=by
 obtain⟨a,l,rfl,h0,h1,h2⟩:=h.cons
 exact qp8 a l (by omega) h0 fun x hx=>by have:=h2 x hx;omega
theorem qrK{p:List Int}(h:Py p):f32 (p,())=some (tb p,()):=by
 have e:=qrM h
 have e1:l32_0 ((rd p,[rd p],()),())=some (.inl (([rd p]++(tbl 3 (rd p)).tail,()),())):=it32 3 (rd p) [rd p] rounds h.rw (by have:=h.rw.len;omega) (by show 1+3≤1000;omega) (qcS (by omega))
 have e2:[rd p]++(tbl 3 (rd p)).tail=tb p:=(qo2 3 (rd p)).symm
 rw[e2]at e1
 simp only[f32,t32,g54,e,e1,qed,b32_0,outB,Option.isSome_some,Option.getD_some,Tr.val_test,Tr.val_fin,if_true]
end Go.Vm.Mo

namespace Go.Vm.Mo
open Go
set_option linter.unusedVariables false
set_option linter.unusedSimpArgs false
def badP(p:List Int):Option Nat:=first (fun i=>!wi (-1000) 1000 (p.getD i 0)) p.length 0
def pE(p:List Int):Int:=if p.length=0 then 10 else if 4<p.length then 8 else if(badP p).isSome=true then 2 else if p.getD 0 0=0 then 11 else 0
theorem qrb(n:Nat):f52 ((n:Int),())=some (if n=0 then(10:Int)else if 4<n then 8 else 0,()):=by
 have e94:∀x y:Int,f42 ([x,y],())=some (qeC [x,y],()):=fun x y=>qpW _ (by simp)
 simp only[f52,t52,g38,qp0,g42,e94,qaG,qbf,Option.isSome_some,Option.getD_some,Tr.val_test,Tr.val_fin,if_true,qeC]
 by_cases h1:n=0
 ·rw[dT (show(n:Int)=0 by omega),if_pos h1];rfl
 ·rw[dF (show ¬(n:Int)=0 by omega),if_neg h1]
  by_cases h2:4<n
  ·rw[nT (show ¬(n:Int)≤4 by omega),if_pos h2];rfl
  ·rw[nF (show(n:Int)≤4 by omega),if_neg h2];rfl
theorem qrg(p:List Int)(h:p.length≤1000000):f53 (1000,p,())=some ((badP p).isSome,()):=by
 have w:Go.IntKind.wrap Go.IntKind.i64 (0-1000)=-1000:=rfl
 have e:=qnn (-1000) 1000 p (by omega)
 simp only[f53,t53,w,g43,e,Option.isSome_some,Option.getD_some,Tr.val_test,Tr.val_fin,if_true]
 show some ((!(badP p).isNone),())=some ((badP p).isSome,())
 cases badP p<;>rfl
theorem qpZ(p:List Int)(h:p.length≤1000000):f31 (p,())=some (pE p,()):=by
 have e1:=qrb p.length
 have e2:=qrg p h
 have e3:∀x y z:Int,f42 ([x,y,z],())=some (qeC [x,y,z],()):=fun x y z=>qpW _ (by simp)
 simp only[f31,t31,g52,e1,g53,e2,g38,qp0,g42,e3,qaG,qbf,Option.isSome_some,Option.getD_some,Tr.val_test,Tr.val_fin,if_true,pE]
 by_cases h1:p.length=0
 ·rw[nF (show(p.length:Int)≤0 by omega)]
  simp only[if_pos h1]
  cases badP p<;>rfl
 ·rw[nT (show ¬(p.length:Int)≤0 by omega),dT (show(0:Int)<(p.length:Int)by omega)]
  simp only[if_neg h1]
  by_cases h2:4<p.length
  ·simp only[if_pos h2]
   cases badP p<;>rfl
  ·simp only[if_neg h2]
   by_cases h3:p.getD 0 0=0
   ·simp only[dT h3,if_pos h3]
    cases badP p<;>rfl
   ·simp only[dF h3,if_neg h3]
    cases badP p<;>rfl
theorem l10(p:List Int)(h:p.length≤1000000):l10_0 ((p,(0:Int),()),())=match badP p with
  |some _=>some (.inr (((2:Int),()),()))
  |none=>some (.inl ((p,()),())):=by
 refine qfg (fun i=>((p,(i:Int),()),())) (fun i=>!wi (-1000) 1000 (p.getD i 0)) (fun _=>(((2:Int),()),())) (n:=p.length) ?_ ?_ (qcS (by omega))
 ·intro i hi
  have q1:(!decide ((p.length:Int)≤(i:Int)))=true:=nT (by omega)
  have b1:(decide ((0:Int)≤(i:Int))&&decide ((i:Int)<(p.length:Int)))=true:=dA (by omega) (by omega)
  have e:f16 (p.getD i 0,-1000,1000,())=some (wi (-1000) 1000 (p.getD i 0),()):=qp7 _
  simp only[s10_0,t10_0,q1,b1,qaG,g16,e,Int.toNat_natCast,qcT (show i≤9223372036854775806 by omega),Option.isSome_some,Option.getD_some,Tr.val_test,Tr.val_fin,if_true]
 ·have q1:(!decide ((p.length:Int)≤(p.length:Int)))=false:=nF (by omega)
  simp only[s10_0,t10_0,qaG,q1,Tr.val_test,Tr.val_fin,Bool.false_eq_true,if_false]
theorem qni(p:List Int)(h:p.length≤1000000):f10 (p,())=some (pE p,()):=by
 have e:=l10 p h
 simp only[f10,t10,qaG,qbf,Tr.val_test,Tr.val_fin,pE]
 by_cases h1:p.length=0
 ·rw[dT (show(p.length:Int)=0 by omega),if_pos rfl,if_pos h1]
 ·rw[dF (show ¬(p.length:Int)=0 by omega),if_neg h1,if_neg (by decide)]
  by_cases h2:4<p.length
  ·rw[nT (show ¬(p.length:Int)≤4 by omega),if_pos h2,if_pos rfl]
  ·rw[nF (show(p.length:Int)≤4 by omega),if_neg h2,if_neg (by decide)]
   have q:(true&&decide ((0:Int)<(p.length:Int)))=true:=by rw[dT (show(0:Int)<(p.length:Int)by omega)];rfl
   cases hb:badP p with
   |none=>
    rw[hb]at e
    simp only[e,qft,b10_0,outB,q,Option.isSome_some,Option.isSome_none,if_true,Bool.false_eq_true,if_false]
    by_cases h3:p.getD 0 0=0
    ·rw[dT h3,if_pos rfl,if_pos h3]
    ·rw[dF h3,if_neg (by decide),if_neg h3]
   |some k=>
    rw[hb]at e
    simp only[e,qft,r10_0,outR,Option.isSome_some,if_true]
theorem qrB{p:List Int}(h:pE p=0):Py p:=by
 unfold pE at h
 split at h
 ·cases h
 ·split at h
  ·cases h
  ·split at h
   ·cases h
   ·split at h
    ·cases h
    ·rename_i h1 h2 h3 h4
     refine⟨⟨by omega,by omega⟩,fun x hx=>?_,h4⟩
     obtain⟨i,hi,rfl⟩:=List.mem_iff_getElem.1 hx
     cases hb:badP p with
     |some k=>rw[hb]at h3;exact absurd rfl h3
     |none=>
      have:=qfz hb i (Nat.zero_le _) (by omega)
      have:wi (-1000) 1000 (p.getD i 0)=true:=by simpa using this
      have:=wi_iff.1 this
      rw[qdc p 0 i hi]at this
      omega
def stb(p:List Int):Bool:=decide ((((tb p).getD ((tb p).length-1) []).length:Int)=1)
theorem qiF:∀(k:Nat)(r:List Int),1≤(tbl k r).length∧(tbl k r).length≤k+1
 |0,r=>⟨Nat.le_refl _,Nat.le_refl _⟩
 |k+1,r=>by
  simp only[tbl]
  split
  ·exact⟨Nat.le_refl _,by show 1≤k+1+1;omega⟩
  ·have:=qiF k (rd (nxt r))
   simp only[List.length_cons]
   omega
theorem qrz{p:List Int}(h:Py p):f33 (p,())=some (stb p,()):=by
 have e:=qrK h
 have hl:=qiF 3 (rd p)
 have hl':1≤(tb p).length∧(tb p).length≤4:=hl
 have w:wrap64 (((tb p).length:Int)-1)=(((tb p).length-1:Nat):Int):=by rw[qaC (by omega) (by omega)];omega
 have q:(decide ((0:Int)≤(((tb p).length-1:Nat):Int))&&decide ((((tb p).length-1:Nat):Int)<((tb p).length:Int)))=true:=dA (by omega) (by omega)
 simp only[f33,t33,g32,e,w,q,Int.toNat_natCast,qbf,Option.isSome_some,Option.getD_some,Tr.val_test,Tr.val_fin,if_true,stb]
theorem f9_bad{p:List Int}(h:p.length≤1000000)(z:¬pE p=0):f9 (p,())=some (false,pE p,()):=by
 have e:=qpZ p h
 simp only[f9,t9,g31,e,qbf,nT z,Option.isSome_some,Option.getD_some,Tr.val_test,Tr.val_fin,if_true]
theorem qro{p:List Int}(h:p.length≤1000000)(z:pE p=0):f9 (p,())=some (stb p,0,()):=by
 have e:=qpZ p h
 rw[z]at e
 have e1:=qrz (qrB z)
 simp only[f9,t9,g31,e,qbf,decide_true,Bool.not_true,g33,e1,Option.isSome_some,Option.getD_some,Tr.val_test,Tr.val_fin,if_true,Bool.false_eq_true,if_false]
end Go.Vm.Mo

namespace Go.Vm.Mo
open Go
set_option linter.unusedVariables false
set_option linter.unusedSimpArgs false
theorem qoF(r:List Int):(nxt r).length=r.length-1:=by unfold nxt;rw[List.length_map,List.length_range]
theorem qpx:∀(k:Nat)(r:List Int),∀q∈tbl k r,q.length≤r.length
 |0,r,q,h=>by
  have:q=r:=List.mem_singleton.1 h
  rw[this];exact Nat.le_refl _
 |k+1,r,q,h=>by
  simp only[tbl]at h
  split at h
  ·have:q=r:=List.mem_singleton.1 h
   rw[this];exact Nat.le_refl _
  ·rcases List.mem_cons.1 h with rfl|h
   ·exact Nat.le_refl _
   ·have:=qpx k (rd (nxt r)) q h
    rw[qjB,qoF]at this
    omega
def al:List Int→List Int
 |[]=>[]
 |[a]=>[a]
 |a::b::l=>a::-b::al l
theorem qnP:∀l:List Int,(al l).length=l.length
 |[]=>rfl
 |[a]=>rfl
 |a::b::l=>by simp only[al,List.length_cons,qnP l]
theorem qq8:∀(l:List Int)(g:Nat),(al l).foldl (fun g x=>Nat.gcd g x.natAbs) g=l.foldl (fun g x=>Nat.gcd g x.natAbs) g
 |[],g=>rfl
 |[a],g=>rfl
 |a::b::l,g=>by simp only[al,List.foldl_cons,Int.natAbs_neg,qq8 l]
theorem qsb(l:List Int):gL (al l)=gL l:=qq8 l 0
theorem qnz(l:List Int):(al l).getD 0 0=l.getD 0 0:=by
 match l with
 |[]=>rfl
 |[a]=>rfl
 |a::b::l=>rfl
theorem qrY(l:List Int):sd (al l)=sd l:=by unfold sd;rw[qnz,qsb]
theorem qp5(f:Int→Int)(hf:∀x,f (-x)=-f x):∀l:List Int,(al l).map f=al (l.map f)
 |[]=>rfl
 |[a]=>rfl
 |a::b::l=>by simp only[al,List.map_cons,hf,qp5 f hf l]
theorem qrt(l:List Int):rd (al l)=al (rd l):=by
 unfold rd
 rw[qrY]
 exact qp5 _ (fun x=>Int.neg_tdiv ..) l
theorem qrk{r:List Int}(h:r.length≤4):nxt (al r)=al (nxt r):=by
 match r,h with
 |[],_=>rfl
 |[a],_=>rfl
 |[a,b],_=>
  show[a*a - -b*-b]=[a*a-b*b]
  rw[Int.neg_mul_neg]
 |[a,b,c],_=>
  show[a*a-c*c,a*-b-c*-b]=[a*a-c*c,-(a*b-c*b)]
  congr 2;grind
 |[a,b,c,d],_=>
  show[a*a - -d*-d,a*-b - -d*c,a*c - -d*-b]=[a*a-d*d,-(a*b-d*c),a*c-d*b]
  congr 1
  ·grind
  ·congr 1
   ·grind
   ·congr 1;grind
 |a::b::c::d::e::l,h=>exact absurd h (by simp only[List.length_cons];omega)
theorem qry{r:List Int}(h:r.length≤4):lst (al r)=lst r:=by
 match r,h with
 |[],_=>rfl
 |[a],_=>rfl
 |[a,b],_=>show decide (a≤((-b).natAbs:Int))=decide (a≤(b.natAbs:Int));rw[Int.natAbs_neg]
 |[a,b,c],_=>rfl
 |[a,b,c,d],_=>show decide (a≤((-d).natAbs:Int))=decide (a≤(d.natAbs:Int));rw[Int.natAbs_neg]
 |a::b::c::d::e::l,h=>exact absurd h (by simp only[List.length_cons];omega)
theorem qpV:∀(k:Nat)(r:List Int),r.length≤4→tbl k (al r)=(tbl k r).map al
 |0,r,_=>rfl
 |k+1,r,h=>by
  simp only[tbl,qry h]
  split
  ·rfl
  ·rw[qrk h,qrt,qpV k _ (by rw[qjB,qoF];omega)];rfl
theorem qn0{l:List (List Int)}{i:Nat}(h:i<l.length):((l.map al).getD i []).length=(l.getD i []).length:=by
 rw[qdc (l.map al) [] i (by rw[List.length_map];exact h),qdc l [] i h,List.getElem_map,qnP]
theorem stb_al{p:List Int}(h:p.length≤4):stb (al p)=stb p:=by
 have e:tb (al p)=(tb p).map al:=by unfold tb;rw[qrt];exact qpV 3 _ (by rw[qjB];exact h)
 have hl:1≤(tb p).length∧(tb p).length≤4:=qiF 3 (rd p)
 unfold stb
 rw[e,List.length_map,qn0 (by omega)]
def ng(l:List Int):List Int:=l.map fun x=>-x
theorem qrG:∀(l:List Int)(g:Nat),(ng l).foldl (fun g x=>Nat.gcd g x.natAbs) g=l.foldl (fun g x=>Nat.gcd g x.natAbs) g
 |[],g=>rfl
 |a::l,g=>by
  show(ng l).foldl _ (Nat.gcd g (-a).natAbs)=_
  rw[Int.natAbs_neg];exact qrG l _
theorem qrW{a:Int}{l:List Int}(h:a≠0):rd (ng (a::l))=rd (a::l):=by
 have g:gL (ng (a::l))=gL (a::l):=qrG _ 0
 have s:sd (ng (a::l))=-sd (a::l):=by
  unfold sd
  rw[g]
  show(if -a<0 then _ else _)=-(if a<0 then _ else _)
  by_cases k:a<0
  ·rw[if_neg (by omega),if_pos k];omega
  ·rw[if_pos (by omega),if_neg k]
 unfold rd
 rw[s]
 unfold ng
 rw[List.map_map]
 refine List.map_congr_left fun x _=>?_
 show(-x).tdiv (-sd (a::l))=x.tdiv (sd (a::l))
 rw[Int.neg_tdiv,Int.tdiv_neg,Int.neg_neg]
theorem stb_ng{p:List Int}(h:p.getD 0 0≠0):stb (ng p)=stb p:=by
 match p,h with
 |a::l,h=>unfold stb tb;rw[qrW (show a≠0 from h)]
 |[],h=>exact absurd rfl h
theorem pE_al{p:List Int}(h:Py p):Py (al p):=by
 obtain⟨hl,hb,h0⟩:=h
 refine⟨by rw[qnP];exact hl,?_,by rw[qnz];exact h0⟩
 have:∀l:List Int,Bd 1000 l→Bd 1000 (al l):=by
  intro l
  induction l using al.induct with
  |case1=>exact fun k=>k
  |case2 a=>exact fun k=>k
  |case3 a b l ih=>
   intro k x hx
   simp only[al,List.mem_cons]at hx
   rcases hx with rfl|rfl|hx
   ·exact k _ (by simp)
   ·rw[Int.natAbs_neg];exact k b (by simp)
   ·exact ih (fun y hy=>k y (by simp[hy])) x hx
 exact this p hb
theorem pE_ng{p:List Int}(h:Py p):Py (ng p):=by
 obtain⟨hl,hb,h0⟩:=h
 refine⟨by unfold ng;rw[List.length_map];exact hl,fun x hx=>?_,?_⟩
 ·unfold ng at hx
  obtain⟨y,hy,rfl⟩:=List.mem_map.1 hx
  rw[Int.natAbs_neg];exact hb y hy
 ·match p,h0 with
  |a::l,h0=>show -a≠0;have:a≠0:=h0;omega
  |[],h0=>exact absurd rfl h0
theorem qiS{p:List Int}(h:Py p):pE p=0:=by
 obtain⟨hl,hb,h0⟩:=h
 unfold pE
 have:badP p=none:=qe9 (fun i _ hi=>by
  have:=hb.at (i:=i) (by omega)
  have:wi (-1000) 1000 (p.getD i 0)=true:=wi_iff.2 (by omega)
  rw[this];rfl)
 rw[if_neg (by omega),if_neg (by omega),this,if_neg (by decide),if_neg h0]
theorem qrR{p:List Int}(h:Py p)(k:p.length≠1)(s:stb p=true):(p.getD (p.length-1) 0).natAbs<(p.getD 0 0).natAbs:=by
 have hr:=h.rw
 have hl:=h.1
 have hlst:lst (rd p)=false:=by
  cases q:lst (rd p)with
  |false=>rfl
  |true=>
   have e:tb p=[rd p]:=by unfold tb;simp only[tbl,q,if_true]
   unfold stb at s
   rw[e]at s
   have s:(((rd p).length:Int))=1:=of_decide_eq_true s
   rw[qjB]at s
   omega
 have e:∀i,i<p.length→((rd p).getD i 0).natAbs*gL p=(p.getD i 0).natAbs:=by
  intro i hi
  have hm:p.getD i 0∈p:=by rw[qdc p 0 i hi];exact List.getElem_mem hi
  have e1:(rd p).getD i 0=(p.getD i 0).tdiv (sd p):=by
   unfold rd
   rw[qdc _ 0 i (by rw[List.length_map];exact hi),qdc p 0 i hi,List.getElem_map]
  rw[e1];exact qkM hm
 have h1:=e 0 (by omega)
 have h2:=e (p.length-1) (by omega)
 have hlt:¬(rd p).getD 0 0≤(((rd p).getD ((rd p).length-1) 0).natAbs:Int):=of_decide_eq_false hlst
 rw[qjB]at hlt
 have g0:0<gL p:=by
  obtain⟨a,l,rfl,ha,_,_⟩:=h.cons
  exact qjx ha
 rw[←h1,←h2]
 exact Nat.mul_lt_mul_of_pos_right (by omega) g0
end Go.Vm.Mo

namespace Go.Vm.Mo
open Go
set_option linter.unusedVariables false
set_option linter.unusedSimpArgs false
def C2(a b:Int):Prop:=b.natAbs<a.natAbs
def C3(a b c:Int):Prop:=c.natAbs<a.natAbs∧C2 (a*a-c*c) (a*b-c*b)
def C4(a b c d:Int):Prop:=d.natAbs<a.natAbs∧C3 (a*a-d*d) (a*b-d*c) (a*c-d*b)
theorem qd3{s:Int}(h:s≠0)(a b:Int):C2 (a*s) (b*s)↔C2 a b:=by
 unfold C2
 rw[Int.natAbs_mul,Int.natAbs_mul]
 exact⟨fun k=>Nat.lt_of_mul_lt_mul_right k,fun k=>Nat.mul_lt_mul_of_pos_right k (by omega)⟩
theorem qri{s:Int}(h:s≠0):s*s≠0:=Int.mul_ne_zero h h
theorem qgf{s:Int}(h:s≠0)(a b c:Int):C3 (a*s) (b*s) (c*s)↔C3 a b c:=by
 have e1:a*s*(a*s)-c*s*(c*s)=(a*a-c*c)*(s*s):=by grind
 have e2:a*s*(b*s)-c*s*(b*s)=(a*b-c*b)*(s*s):=by grind
 unfold C3
 rw[e1,e2,qd3 (qri h)]
 have:=qd3 h a c
 unfold C2 at this
 rw[this]
theorem qls{s:Int}(h:s≠0)(a b c d:Int):C4 (a*s) (b*s) (c*s) (d*s)↔C4 a b c d:=by
 have e1:a*s*(a*s)-d*s*(d*s)=(a*a-d*d)*(s*s):=by grind
 have e2:a*s*(b*s)-d*s*(c*s)=(a*b-d*c)*(s*s):=by grind
 have e3:a*s*(c*s)-d*s*(b*s)=(a*c-d*b)*(s*s):=by grind
 unfold C4
 rw[e1,e2,e3,qgf (qri h)]
 have:=qd3 h a d
 unfold C2 at this
 rw[this]
def sr(k:Nat)(r:List Int):Bool:=decide ((((tbl k r).getD ((tbl k r).length-1) []).length:Int)=1)
theorem qlO(p:List Int):stb p=sr 3 (rd p):=rfl
theorem qgD(k:Nat){r:List Int}(h:lst r=true):sr k r=decide ((r.length:Int)=1):=by
 have e:tbl k r=[r]:=by
  cases k with
  |zero=>rfl
  |succ k=>simp only[tbl,h,if_true]
 unfold sr;rw[e];rfl
theorem qkH(k:Nat){r:List Int}(h:lst r=false):sr (k+1) r=sr k (rd (nxt r)):=by
 have e:tbl (k+1) r=r::tbl k (rd (nxt r)):=by simp only[tbl,h,Bool.false_eq_true,if_false]
 have hl:=qiF k (rd (nxt r))
 unfold sr
 rw[e]
 generalize tbl k (rd (nxt r))=L at *
 match L,hl with
 |x::L,_=>rfl
 |[],hl=>exact absurd hl.1 (by decide)
theorem qrx(k:Nat):sr k [1]=true:=by rw[qgD k rfl];rfl
theorem qpL(k:Nat){a b:Int}(h:Rw [a,b]):sr (k+1) [a,b]=true↔C2 a b:=by
 have h0:=h.1
 cases hl:lst [a,b]with
 |true=>
  have q:a≤(b.natAbs:Int):=of_decide_eq_true hl
  rw[qgD _ hl]
  unfold C2
  constructor
  ·intro k;exact absurd (of_decide_eq_true k) (by show ¬((2:Nat):Int)=1;decide)
  ·intro k;omega
 |false=>
  have q:¬a≤(b.natAbs:Int):=of_decide_eq_false hl
  rw[qkH _ hl,(qiX h hl).2.1,qrx]
  unfold C2
  exact⟨fun _=>by omega,fun _=>rfl⟩
theorem qnV{a:Int}{l:List Int}(h:a≠0):sd (a::l)≠0:=by
 have:=qjx (l:=l) h
 have:=qoa (a::l)
 omega
theorem qlu(k:Nat){a b c:Int}(h:Rw [a,b,c]):sr (k+2) [a,b,c]=true↔C3 a b c:=by
 have h0:=h.1
 cases hl:lst [a,b,c]with
 |true=>
  have q:a≤(c.natAbs:Int):=of_decide_eq_true hl
  rw[qgD _ hl]
  constructor
  ·intro k;exact absurd (of_decide_eq_true k) (by show ¬((3:Nat):Int)=1;decide)
  ·intro k;have:=k.1;omega
 |false=>
  have q:¬a≤(c.natAbs:Int):=of_decide_eq_false hl
  have st:=(qfo h hl).1
  have hr:=st.row
  have hx:=qfB (a:=a) (c:=c) (by omega)
  have hs:=qnV (l:=[a*b-c*b]) (show a*a-c*c≠0 by omega)
  rw[qkH _ hl]
  rw[qe4,rd2]at hr ⊢
  rw[qpL k hr,←qd3 hs,qb2 (by simp),qb2 (by simp)]
  unfold C3
  exact⟨fun k=>⟨by omega,k⟩,fun k=>k.2⟩
theorem qqW(k:Nat){a b c d:Int}(h:Rw [a,b,c,d]):sr (k+3) [a,b,c,d]=true↔C4 a b c d:=by
 have h0:=h.1
 cases hl:lst [a,b,c,d]with
 |true=>
  have q:a≤(d.natAbs:Int):=of_decide_eq_true hl
  rw[qgD _ hl]
  constructor
  ·intro k;exact absurd (of_decide_eq_true k) (by show ¬((4:Nat):Int)=1;decide)
  ·intro k;have:=k.1;omega
 |false=>
  have q:¬a≤(d.natAbs:Int):=of_decide_eq_false hl
  have st:=(qg6 h hl).1
  have hr:=st.row
  have hx:=qfB (a:=a) (c:=d) (by omega)
  have hs:=qnV (l:=[a*b-d*c,a*c-d*b]) (show a*a-d*d≠0 by omega)
  rw[qkH _ hl]
  rw[qgb,rd3]at hr ⊢
  rw[qlu k hr,←qgf hs,qb2 (by simp),qb2 (by simp),qb2 (by simp)]
  unfold C4
  exact⟨fun k=>⟨by omega,k⟩,fun k=>k.2⟩
theorem qqp{a:Int}(h:Py [a]):stb [a]=true:=by
 have hr:=h.rw
 rw[qlO,rd1]at *
 rw[qgD 3 (qe1 hr (by simp))];rfl
theorem qnZ{a b:Int}(h:Py [a,b]):stb [a,b]=true↔C2 a b:=by
 have hr:=h.rw
 have hs:=qnV (l:=[b]) (show a≠0 from h.2.2)
 rw[qlO]
 rw[rd2]at hr ⊢
 rw[qpL 2 hr,←qd3 hs,qb2 (by simp),qb2 (by simp)]
theorem qjD{a b c:Int}(h:Py [a,b,c]):stb [a,b,c]=true↔C3 a b c:=by
 have hr:=h.rw
 have hs:=qnV (l:=[b,c]) (show a≠0 from h.2.2)
 rw[qlO]
 rw[rd3]at hr ⊢
 rw[qlu 1 hr,←qgf hs,qb2 (by simp),qb2 (by simp),qb2 (by simp)]
theorem qpa{a b c d:Int}(h:Py [a,b,c,d]):stb [a,b,c,d]=true↔C4 a b c d:=by
 have hr:=h.rw
 have hs:=qnV (l:=[b,c,d]) (show a≠0 from h.2.2)
 rw[qlO]
 rw[rd4]at hr ⊢
 rw[qqW 0 hr,←qls hs,qb2 (by simp),qb2 (by simp),qb2 (by simp),qb2 (by simp)]
end Go.Vm.Mo

namespace Go.Vm.Mo
open Go
set_option linter.unusedVariables false
set_option linter.unusedSimpArgs false
theorem qpg(b a:Int):b.natAbs<a.natAbs∧0<a↔0<a∧0<a-b∧0<a+b:=by omega
theorem qj9{a b:Int}(h:0<a):C2 a b↔0<a-b∧0<a+b:=by unfold C2;omega
theorem qar{x y:Int}(h:0<x):0<x*y↔0<y:=by
 constructor
 ·intro k
  rcases Int.lt_or_le 0 y with q|q
  ·exact q
  ·have:=Int.mul_nonpos_of_nonneg_of_nonpos (Int.le_of_lt h) q;omega
 ·intro k;exact Int.mul_pos h k
theorem qlw{a b c:Int}(h:0<a):C3 a b c↔(0<a-c∧0<a+c)∧0<a+b+c∧0<a-b+c:=by
 have e0:c.natAbs<a.natAbs↔0<a-c∧0<a+c:=by omega
 unfold C3
 rw[e0]
 constructor
 ·rintro⟨⟨h1,h2⟩,k⟩
  have hA:0<a*a-c*c:=by
   have e:a*a-c*c=(a-c)*(a+c):=by grind
   rw[e];exact Int.mul_pos h1 h2
  rw[qj9 hA]at k
  have e1:a*a-c*c-(a*b-c*b)=(a-c)*(a-b+c):=by grind
  have e2:a*a-c*c+(a*b-c*b)=(a-c)*(a+b+c):=by grind
  rw[e1,e2,qar h1,qar h1]at k
  exact⟨⟨h1,h2⟩,k.2,k.1⟩
 ·rintro⟨⟨h1,h2⟩,k1,k2⟩
  have hA:0<a*a-c*c:=by
   have e:a*a-c*c=(a-c)*(a+c):=by grind
   rw[e];exact Int.mul_pos h1 h2
  rw[qj9 hA]
  have e1:a*a-c*c-(a*b-c*b)=(a-c)*(a-b+c):=by grind
  have e2:a*a-c*c+(a*b-c*b)=(a-c)*(a+b+c):=by grind
  rw[e1,e2,qar h1,qar h1]
  exact⟨⟨h1,h2⟩,k2,k1⟩
theorem qrd{a b c d:Int}(h:0<a):C4 a b c d↔(0<a-d∧0<a+d)∧0<a+b+c+d∧0<a-b+c-d∧0<a*a-d*d-(a*c-d*b):=by
 have e0:d.natAbs<a.natAbs↔0<a-d∧0<a+d:=by omega
 have e1:a*a-d*d+(a*b-d*c)+(a*c-d*b)=(a-d)*(a+b+c+d):=by grind
 have e2:a*a-d*d-(a*b-d*c)+(a*c-d*b)=(a+d)*(a-b+c-d):=by grind
 unfold C4
 rw[e0]
 constructor
 ·rintro⟨⟨h1,h2⟩,k⟩
  have hA:0<a*a-d*d:=by
   have e:a*a-d*d=(a-d)*(a+d):=by grind
   rw[e];exact Int.mul_pos h1 h2
  rw[qlw hA,e1,e2,qar h1,qar h2]at k
  exact⟨⟨h1,h2⟩,k.2.1,k.2.2,k.1.1⟩
 ·rintro⟨⟨h1,h2⟩,k1,k2,k3⟩
  have hA:0<a*a-d*d:=by
   have e:a*a-d*d=(a-d)*(a+d):=by grind
   rw[e];exact Int.mul_pos h1 h2
  have m1:=(qar h1).2 k1
  have m2:=(qar h2).2 k2
  rw[←e1]at m1
  rw[←e2]at m2
  rw[qlw hA,e1,e2,qar h1,qar h2]
  exact⟨⟨h1,h2⟩,⟨k3,by omega⟩,k1,k2⟩
theorem qd5{x y:Int}(h:x<0)(k:0<x*y):y<0:=by
 rcases Int.lt_or_le y 0 with q|q
 ·exact q
 ·have:=Int.mul_nonpos_of_nonpos_of_nonneg (Int.le_of_lt h) q;omega
theorem qlJ{f g p q:Int}(hf:0<f)(hp:0<p):C3 (f*p) (f*q+g*p) (g*q)↔C2 p q∧C2 f g:=by
 have ha:=Int.mul_pos hf hp
 have e1:f*p+(f*q+g*p)+g*q=(f+g)*(p+q):=by grind
 have e2:f*p-(f*q+g*p)+g*q=(f-g)*(p-q):=by grind
 rw[qlw ha,qj9 hp,qj9 hf,e1,e2]
 constructor
 ·rintro⟨⟨h1,h2⟩,k1,k2⟩
  rcases Int.lt_or_le g 0 with hg|hg
  ·have n:=(qar (show 0<f-g by omega)).1 k2
   rcases Int.lt_trichotomy (f+g) 0 with u|u|u
   ·have m:=qd5 u k1
    have s1:=Int.mul_lt_mul_of_pos_right (show f < -g by omega) hp
    have s2:=Int.mul_lt_mul_of_pos_left (show p < -q by omega) (show 0 < -g by omega)
    have e:-g*-q=g*q:=by grind
    omega
   ·rw[u,Int.zero_mul]at k1;omega
   ·have m:=(qar u).1 k1
    exact⟨⟨n,m⟩,by omega,by omega⟩
  ·have m:=(qar (show 0<f+g by omega)).1 k1
   rcases Int.lt_trichotomy (f-g) 0 with u|u|u
   ·have n:=qd5 u k2
    have s1:=Int.mul_lt_mul_of_pos_right (show f<g by omega) hp
    have s2:=Int.mul_lt_mul_of_pos_left (show p<q by omega) (show 0<g by omega)
    omega
   ·rw[u,Int.zero_mul]at k2;omega
   ·have n:=(qar u).1 k2
    exact⟨⟨n,m⟩,by omega,by omega⟩
 ·rintro⟨⟨n,m⟩,h1,h2⟩
  refine⟨?_,Int.mul_pos (by omega) (by omega),Int.mul_pos (by omega) (by omega)⟩
  have k1:=Int.mul_pos (show 0<f+g by omega) m
  have k2:=Int.mul_pos (show 0<f-g by omega) n
  have k3:=Int.mul_pos (show 0<f+g by omega) n
  have k4:=Int.mul_pos (show 0<f-g by omega) m
  have e3:(f+g)*(p-q)+(f-g)*(p+q)=2*(f*p-g*q):=by grind
  have e4:(f+g)*(p+q)+(f-g)*(p-q)=2*(f*p+g*q):=by grind
  omega
theorem qh5{f g p q r:Int}(hf:0<f)(hp:0<p):C4 (f*p) (f*q+g*p) (f*r+g*q) (g*r)↔C3 p q r∧C2 f g:=by
 have ha:=Int.mul_pos hf hp
 have e1:f*p+(f*q+g*p)+(f*r+g*q)+g*r=(f+g)*(p+q+r):=by grind
 have e2:f*p-(f*q+g*p)+(f*r+g*q)-g*r=(f-g)*(p-q+r):=by grind
 have e3:f*p*(f*p)-g*r*(g*r)-(f*p*(f*r+g*q)-g*r*(f*q+g*p))=(p-r)*(f*f*p-f*g*q+g*g*r):=by grind
 have j1:f*f*p-f*g*q+g*g*r=(f-g)*(f*p-g*r)+f*g*(p-q+r):=by grind
 have j2:f*f*p-f*g*q+g*g*r=(f+g)*(f*p+g*r)-f*g*(p+q+r):=by grind
 rw[qrd ha,qlw hp,qj9 hf,e1,e2,e3]
 constructor
 ·rintro⟨⟨h1,h2⟩,k1,k2,k3⟩
  rcases Int.lt_or_le g 0 with hg|hg
  ·have n:=(qar (show 0<f-g by omega)).1 k2
   rcases Int.lt_trichotomy (f+g) 0 with u|u|u
   ·have m:=qd5 u k1
    have s1:=Int.mul_neg_of_neg_of_pos u h2
    have s2:=Int.mul_nonneg_of_nonpos_of_nonpos (show f*g≤0 from Int.le_of_lt (Int.mul_neg_of_pos_of_neg hf hg)) (Int.le_of_lt m)
    have R:f*f*p-f*g*q+g*g*r<0:=by rw[j2];omega
    have hr:p-r<0:=by
     rw[Int.mul_comm]at k3;exact qd5 R k3
    have t1:=Int.mul_lt_mul_of_pos_right (show f < -g by omega) hp
    have t2:=Int.mul_lt_mul_of_pos_left (show p<r by omega) (show 0 < -g by omega)
    have e:-g*r=-(g*r):=by grind
    omega
   ·rw[u,Int.zero_mul]at k1;omega
   ·have m:=(qar u).1 k1
    have s1:=Int.mul_pos u h2
    have s2:=Int.mul_nonpos_of_nonpos_of_nonneg (show f*g≤0 from Int.le_of_lt (Int.mul_neg_of_pos_of_neg hf hg)) (Int.le_of_lt m)
    have R:0<f*f*p-f*g*q+g*g*r:=by rw[j2];omega
    have hr:0<p-r:=by
     rw[Int.mul_comm]at k3;exact(qar R).1 k3
    exact⟨⟨⟨hr,by omega⟩,m,n⟩,by omega,by omega⟩
  ·have m:=(qar (show 0<f+g by omega)).1 k1
   rcases Int.lt_trichotomy (f-g) 0 with u|u|u
   ·have n:=qd5 u k2
    have s1:=Int.mul_neg_of_neg_of_pos u h1
    have s2:=Int.mul_nonpos_of_nonneg_of_nonpos (show 0≤f*g from Int.mul_nonneg (Int.le_of_lt hf) hg) (Int.le_of_lt n)
    have R:f*f*p-f*g*q+g*g*r<0:=by rw[j1];omega
    have hr:p-r<0:=by
     rw[Int.mul_comm]at k3;exact qd5 R k3
    have t1:=Int.mul_lt_mul_of_pos_right (show f<g by omega) hp
    have t2:=Int.mul_lt_mul_of_pos_left (show p<r by omega) (show 0<g by omega)
    omega
   ·rw[u,Int.zero_mul]at k2;omega
   ·have n:=(qar u).1 k2
    have s1:=Int.mul_pos u h1
    have s2:=Int.mul_nonneg (show 0≤f*g from Int.mul_nonneg (Int.le_of_lt hf) hg) (Int.le_of_lt n)
    have R:0<f*f*p-f*g*q+g*g*r:=by rw[j1];omega
    have hr:0<p-r:=by
     rw[Int.mul_comm]at k3;exact(qar R).1 k3
    exact⟨⟨⟨hr,by omega⟩,m,n⟩,by omega,by omega⟩
 ·rintro⟨⟨⟨r1,r2⟩,m,n⟩,h1,h2⟩
  have w1:=Int.mul_pos (show 0<f+g by omega) r1
  have w2:=Int.mul_pos (show 0<f-g by omega) r1
  have w3:=Int.mul_pos (show 0<f+g by omega) r2
  have w4:=Int.mul_pos (show 0<f-g by omega) r2
  have e4:(f+g)*(p-r)+(f-g)*(p+r)=2*(f*p-g*r):=by grind
  have e5:(f+g)*(p+r)+(f-g)*(p-r)=2*(f*p+g*r):=by grind
  have d1:0<f*p-g*r:=by omega
  have d2:0<f*p+g*r:=by omega
  have R:0<f*f*p-f*g*q+g*g*r:=by
   rcases Int.lt_or_le g 0 with hg|hg
   ·have s1:=Int.mul_pos (show 0<f+g by omega) d2
    have s2:=Int.mul_nonpos_of_nonpos_of_nonneg (show f*g≤0 from Int.le_of_lt (Int.mul_neg_of_pos_of_neg hf hg)) (Int.le_of_lt m)
    rw[j2];omega
   ·have s1:=Int.mul_pos (show 0<f-g by omega) d1
    have s2:=Int.mul_nonneg (show 0≤f*g from Int.mul_nonneg (Int.le_of_lt hf) hg) (Int.le_of_lt n)
    rw[j1];omega
  exact⟨⟨d1,d2⟩,Int.mul_pos (by omega) m,Int.mul_pos (by omega) n,Int.mul_pos r1 R⟩
end Go.Vm.Mo

namespace Go.Vm.Mo
open Go
set_option linter.unusedVariables false
set_option linter.unusedSimpArgs false
theorem qod(a b:Int):C2 (-a) (-b)↔C2 a b:=by unfold C2;rw[Int.natAbs_neg,Int.natAbs_neg]
theorem qnM(a b c:Int):C3 (-a) (-b) (-c)↔C3 a b c:=by
 have:=qgf (s:=-1) (by decide) a b c
 rw[show a*-1=-a by omega,show b*-1=-b by omega,show c*-1=-c by omega]at this
 exact this
theorem qpX(a b c d:Int):C4 (-a) (-b) (-c) (-d)↔C4 a b c d:=by
 have:=qls (s:=-1) (by decide) a b c d
 rw[show a*-1=-a by omega,show b*-1=-b by omega,show c*-1=-c by omega,show d*-1=-d by omega]at this
 exact this
theorem qrl{f g p q:Int}(hf:f≠0)(hp:0<p):C3 (f*p) (f*q+g*p) (g*q)↔C2 p q∧C2 f g:=by
 rcases Int.lt_or_lt_of_ne hf with k|k
 ·have e:=qlJ (f:=-f) (g:=-g) (p:=p) (q:=q) (by omega) hp
  rw[show -f*p=-(f*p)by grind,show -f*q+-g*p=-(f*q+g*p)by grind,show -g*q=-(g*q)by grind,qnM,qod]at e
  exact e
 ·exact qlJ k hp
theorem qqS{f g p q:Int}(hf:f≠0)(hp:p≠0):C3 (f*p) (f*q+g*p) (g*q)↔C2 p q∧C2 f g:=by
 rcases Int.lt_or_lt_of_ne hp with k|k
 ·have e:=qrl (f:=f) (g:=g) (p:=-p) (q:=-q) hf (by omega)
  rw[show f*-p=-(f*p)by grind,show f*-q+g*-p=-(f*q+g*p)by grind,show g*-q=-(g*q)by grind,qnM,qod]at e
  exact e
 ·exact qrl hf k
theorem qnk{f g p q r:Int}(hf:f≠0)(hp:0<p):C4 (f*p) (f*q+g*p) (f*r+g*q) (g*r)↔C3 p q r∧C2 f g:=by
 rcases Int.lt_or_lt_of_ne hf with k|k
 ·have e:=qh5 (f:=-f) (g:=-g) (p:=p) (q:=q) (r:=r) (by omega) hp
  rw[show -f*p=-(f*p)by grind,show -f*q+-g*p=-(f*q+g*p)by grind,show -f*r+-g*q=-(f*r+g*q)by grind,show -g*r=-(g*r)by grind,qpX,qod]at e
  exact e
 ·exact qh5 k hp
theorem qoM{f g p q r:Int}(hf:f≠0)(hp:p≠0):C4 (f*p) (f*q+g*p) (f*r+g*q) (g*r)↔C3 p q r∧C2 f g:=by
 rcases Int.lt_or_lt_of_ne hp with k|k
 ·have e:=qnk (f:=f) (g:=g) (p:=-p) (q:=-q) (r:=-r) hf (by omega)
  rw[show f*-p=-(f*p)by grind,show f*-q+g*-p=-(f*q+g*p)by grind,show f*-r+g*-q=-(f*r+g*q)by grind,show g*-r=-(g*r)by grind,qpX,qnM]at e
  exact e
 ·exact qnk hf k
theorem qqT{f g p:Int}(hp:p≠0):C2 (f*p) (g*p)↔C2 f g:=qd3 hp f g
theorem qsa(a f g u v:Int):s4_0 (([a],((2,2),((0:Int),()))),((f,(g,())),([u,v],())))=(Tr.test (Option.isSome (f16 (a,-30,30,()))) (Tr.test (!(g16 (a,-30,30,())).1) (Tr.fin (.ret (((true:Bool),()),((f,(g,())),([u,v],()))))) (Tr.fin (.again (([a],((2,2),((1:Int),()))),((f,(g,())),([wrap64 (u+wrap64 (f*a)),wrap64 (v+wrap64 (g*a))],())))))) Tr.stop:Tr (Out sh4_0.data shb4_0.data shr4_0.data)).val:=by kernel_rfl
theorem qrV(a f g u v:Int):s4_0 (([a],((2,2),((1:Int),()))),((f,(g,())),([u,v],())))=some (.brk (([a],((2,2),())),((f,(g,())),([u,v],())))):=by kernel_rfl
theorem qrU(a b f g u v w:Int):s4_0 (([a,b],((3,3),((0:Int),()))),((f,(g,())),([u,v,w],())))=(Tr.test (Option.isSome (f16 (a,-30,30,()))) (Tr.test (!(g16 (a,-30,30,())).1) (Tr.fin (.ret (((true:Bool),()),((f,(g,())),([u,v,w],()))))) (Tr.fin (.again (([a,b],((3,3),((1:Int),()))),((f,(g,())),([wrap64 (u+wrap64 (f*a)),wrap64 (v+wrap64 (g*a)),w],())))))) Tr.stop:Tr (Out sh4_0.data shb4_0.data shr4_0.data)).val:=by kernel_rfl
theorem qrX(a b f g u v w:Int):s4_0 (([a,b],((3,3),((1:Int),()))),((f,(g,())),([u,v,w],())))=(Tr.test (Option.isSome (f16 (b,-30,30,()))) (Tr.test (!(g16 (b,-30,30,())).1) (Tr.fin (.ret (((true:Bool),()),((f,(g,())),([u,v,w],()))))) (Tr.fin (.again (([a,b],((3,3),((2:Int),()))),((f,(g,())),([u,wrap64 (v+wrap64 (f*b)),wrap64 (w+wrap64 (g*b))],())))))) Tr.stop:Tr (Out sh4_0.data shb4_0.data shr4_0.data)).val:=by kernel_rfl
theorem qr6(a b f g u v w:Int):s4_0 (([a,b],((3,3),((2:Int),()))),((f,(g,())),([u,v,w],())))=some (.brk (([a,b],((3,3),())),((f,(g,())),([u,v,w],())))):=by kernel_rfl
theorem qr5(a b c f g u v w x:Int):s4_0 (([a,b,c],((4,4),((0:Int),()))),((f,(g,())),([u,v,w,x],())))=(Tr.test (Option.isSome (f16 (a,-30,30,()))) (Tr.test (!(g16 (a,-30,30,())).1) (Tr.fin (.ret (((true:Bool),()),((f,(g,())),([u,v,w,x],()))))) (Tr.fin (.again (([a,b,c],((4,4),((1:Int),()))),((f,(g,())),([wrap64 (u+wrap64 (f*a)),wrap64 (v+wrap64 (g*a)),w,x],())))))) Tr.stop:Tr (Out sh4_0.data shb4_0.data shr4_0.data)).val:=by kernel_rfl
theorem qrS(a b c f g u v w x:Int):s4_0 (([a,b,c],((4,4),((1:Int),()))),((f,(g,())),([u,v,w,x],())))=(Tr.test (Option.isSome (f16 (b,-30,30,()))) (Tr.test (!(g16 (b,-30,30,())).1) (Tr.fin (.ret (((true:Bool),()),((f,(g,())),([u,v,w,x],()))))) (Tr.fin (.again (([a,b,c],((4,4),((2:Int),()))),((f,(g,())),([u,wrap64 (v+wrap64 (f*b)),wrap64 (w+wrap64 (g*b)),x],())))))) Tr.stop:Tr (Out sh4_0.data shb4_0.data shr4_0.data)).val:=by kernel_rfl
theorem qr2(a b c f g u v w x:Int):s4_0 (([a,b,c],((4,4),((2:Int),()))),((f,(g,())),([u,v,w,x],())))=(Tr.test (Option.isSome (f16 (c,-30,30,()))) (Tr.test (!(g16 (c,-30,30,())).1) (Tr.fin (.ret (((true:Bool),()),((f,(g,())),([u,v,w,x],()))))) (Tr.fin (.again (([a,b,c],((4,4),((3:Int),()))),((f,(g,())),([u,v,wrap64 (w+wrap64 (f*c)),wrap64 (x+wrap64 (g*c))],())))))) Tr.stop:Tr (Out sh4_0.data shb4_0.data shr4_0.data)).val:=by kernel_rfl
theorem qrT(a b c f g u v w x:Int):s4_0 (([a,b,c],((4,4),((3:Int),()))),((f,(g,())),([u,v,w,x],())))=some (.brk (([a,b,c],((4,4),())),((f,(g,())),([u,v,w,x],())))):=by kernel_rfl
theorem qkx:rounds=(rounds-5)+1+1+1+1+1:=by unfold rounds;omega
theorem e16(x lo hi:Int):f16 (x,lo,hi,())=some (wi lo hi x,()):=qp7 _
theorem wz{x:Int}(h:x.natAbs≤1000):wrap64 (0+wrap64 x)=x:=by
 rw[qaC (n:=x) (by omega) (by omega),Int.zero_add];exact qaC (by omega) (by omega)
theorem wa{x y:Int}(h:x.natAbs≤1000)(k:y.natAbs≤1000):wrap64 (x+wrap64 y)=x+y:=by
 rw[qaC (n:=y) (by omega) (by omega)];exact qaC (by omega) (by omega)
theorem pb{f a:Int}(h:f.natAbs≤15)(k:wi (-30) 30 a=true):(f*a).natAbs≤450:=by
 have:=wi_iff.1 k
 exact qbG h (show a.natAbs≤30 by omega)
theorem qeq{A B C:Type}{step:A→Option (Out A B C)}{m:Nat}{s s':A}(h:step s=some (.again s')):itr step (m+1) s=itr step m s':=by rw[itr,h]
theorem qny{A B C:Type}{step:A→Option (Out A B C)}{m:Nat}{s:A}{b:B}(h:step s=some (.brk b)):itr step (m+1) s=some (.inl b):=by rw[itr,h]
theorem qhF{A B C:Type}{step:A→Option (Out A B C)}{m:Nat}{s:A}{c:C}(h:step s=some (.ret c)):itr step (m+1) s=some (.inr c):=by rw[itr,h]
theorem qq9(a f g:Int)(hf:f.natAbs≤15)(hg:g.natAbs≤15):(∃o,l4_0 (([a],((2,2),((0:Int),()))),((f,(g,())),([0,0],())))=some (.inr (((true:Bool),()),o))) ∨
  (wi (-30) 30 a=true∧l4_0 (([a],((2,2),((0:Int),()))),((f,(g,())),([0,0],())))=some (.inl (([a],((2,2),())),((f,(g,())),([f*a,g*a],()))))):=by
 show(∃o,itr s4_0 rounds (([a],((2,2),((0:Int),()))),((f,(g,())),([0,0],())))=_)∨(_∧itr s4_0 rounds (([a],((2,2),((0:Int),()))),((f,(g,())),([0,0],())))=_)
 rw[qkx]
 have s0:=qsa a f g (0) (0)
 rcases Bool.eq_false_or_eq_true (wi (-30) 30 a)with k0|k0
 ·have bf0:=pb hf k0
  have bg0:=pb hg k0
  simp only[g16,e16 a (-30) 30,k0,wz (show(f*a).natAbs≤1000 by omega),wz (show(g*a).natAbs≤1000 by omega),Option.isSome_some,Option.getD_some,Bool.not_true,Bool.not_false,Tr.val_test,Tr.val_fin,if_true,Bool.false_eq_true,if_false]at s0
  right
  have e:=qrV a f g (f*a) (g*a)
  refine⟨k0,?_⟩
  rw[qeq s0,qny e]
 ·left
  simp only[g16,e16 a (-30) 30,k0,Option.isSome_some,Option.getD_some,Bool.not_true,Bool.not_false,Tr.val_test,Tr.val_fin,if_true,Bool.false_eq_true,if_false]at s0
  rw[qhF s0]
  exact⟨_,rfl⟩
theorem qrA(a b f g:Int)(hf:f.natAbs≤15)(hg:g.natAbs≤15):(∃o,l4_0 (([a,b],((3,3),((0:Int),()))),((f,(g,())),([0,0,0],())))=some (.inr (((true:Bool),()),o))) ∨
  ((wi (-30) 30 a=true∧wi (-30) 30 b=true)∧l4_0 (([a,b],((3,3),((0:Int),()))),((f,(g,())),([0,0,0],())))=some (.inl (([a,b],((3,3),())),((f,(g,())),([f*a,g*a+f*b,g*b],()))))):=by
 show(∃o,itr s4_0 rounds (([a,b],((3,3),((0:Int),()))),((f,(g,())),([0,0,0],())))=_)∨(_∧itr s4_0 rounds (([a,b],((3,3),((0:Int),()))),((f,(g,())),([0,0,0],())))=_)
 rw[qkx]
 have s0:=qrU a b f g (0) (0) (0)
 rcases Bool.eq_false_or_eq_true (wi (-30) 30 a)with k0|k0
 ·have bf0:=pb hf k0
  have bg0:=pb hg k0
  simp only[g16,e16 a (-30) 30,k0,wz (show(f*a).natAbs≤1000 by omega),wz (show(g*a).natAbs≤1000 by omega),Option.isSome_some,Option.getD_some,Bool.not_true,Bool.not_false,Tr.val_test,Tr.val_fin,if_true,Bool.false_eq_true,if_false]at s0
  have s1:=qrX a b f g (f*a) (g*a) (0)
  rcases Bool.eq_false_or_eq_true (wi (-30) 30 b)with k1|k1
  ·have bf1:=pb hf k1
   have bg1:=pb hg k1
   simp only[g16,e16 b (-30) 30,k1,wa (show(g*a).natAbs≤1000 by omega) (show(f*b).natAbs≤1000 by omega),wz (show(g*b).natAbs≤1000 by omega),Option.isSome_some,Option.getD_some,Bool.not_true,Bool.not_false,Tr.val_test,Tr.val_fin,if_true,Bool.false_eq_true,if_false]at s1
   right
   have e:=qr6 a b f g (f*a) (g*a+f*b) (g*b)
   refine⟨⟨k0,k1⟩,?_⟩
   rw[qeq s0,qeq s1,qny e]
  ·left
   simp only[g16,e16 b (-30) 30,k1,Option.isSome_some,Option.getD_some,Bool.not_true,Bool.not_false,Tr.val_test,Tr.val_fin,if_true,Bool.false_eq_true,if_false]at s1
   rw[qeq s0,qhF s1]
   exact⟨_,rfl⟩
 ·left
  simp only[g16,e16 a (-30) 30,k0,Option.isSome_some,Option.getD_some,Bool.not_true,Bool.not_false,Tr.val_test,Tr.val_fin,if_true,Bool.false_eq_true,if_false]at s0
  rw[qhF s0]
  exact⟨_,rfl⟩
theorem qpK(a b c f g:Int)(hf:f.natAbs≤15)(hg:g.natAbs≤15):(∃o,l4_0 (([a,b,c],((4,4),((0:Int),()))),((f,(g,())),([0,0,0,0],())))=some (.inr (((true:Bool),()),o))) ∨
  ((wi (-30) 30 a=true∧wi (-30) 30 b=true∧wi (-30) 30 c=true)∧l4_0 (([a,b,c],((4,4),((0:Int),()))),((f,(g,())),([0,0,0,0],())))=some (.inl (([a,b,c],((4,4),())),((f,(g,())),([f*a,g*a+f*b,g*b+f*c,g*c],()))))):=by
 show(∃o,itr s4_0 rounds (([a,b,c],((4,4),((0:Int),()))),((f,(g,())),([0,0,0,0],())))=_)∨(_∧itr s4_0 rounds (([a,b,c],((4,4),((0:Int),()))),((f,(g,())),([0,0,0,0],())))=_)
 rw[qkx]
 have s0:=qr5 a b c f g (0) (0) (0) (0)
 rcases Bool.eq_false_or_eq_true (wi (-30) 30 a)with k0|k0
 ·have bf0:=pb hf k0
  have bg0:=pb hg k0
  simp only[g16,e16 a (-30) 30,k0,wz (show(f*a).natAbs≤1000 by omega),wz (show(g*a).natAbs≤1000 by omega),Option.isSome_some,Option.getD_some,Bool.not_true,Bool.not_false,Tr.val_test,Tr.val_fin,if_true,Bool.false_eq_true,if_false]at s0
  have s1:=qrS a b c f g (f*a) (g*a) (0) (0)
  rcases Bool.eq_false_or_eq_true (wi (-30) 30 b)with k1|k1
  ·have bf1:=pb hf k1
   have bg1:=pb hg k1
   simp only[g16,e16 b (-30) 30,k1,wa (show(g*a).natAbs≤1000 by omega) (show(f*b).natAbs≤1000 by omega),wz (show(g*b).natAbs≤1000 by omega),Option.isSome_some,Option.getD_some,Bool.not_true,Bool.not_false,Tr.val_test,Tr.val_fin,if_true,Bool.false_eq_true,if_false]at s1
   have s2:=qr2 a b c f g (f*a) (g*a+f*b) (g*b) (0)
   rcases Bool.eq_false_or_eq_true (wi (-30) 30 c)with k2|k2
   ·have bf2:=pb hf k2
    have bg2:=pb hg k2
    simp only[g16,e16 c (-30) 30,k2,wa (show(g*b).natAbs≤1000 by omega) (show(f*c).natAbs≤1000 by omega),wz (show(g*c).natAbs≤1000 by omega),Option.isSome_some,Option.getD_some,Bool.not_true,Bool.not_false,Tr.val_test,Tr.val_fin,if_true,Bool.false_eq_true,if_false]at s2
    right
    have e:=qrT a b c f g (f*a) (g*a+f*b) (g*b+f*c) (g*c)
    refine⟨⟨k0,k1,k2⟩,?_⟩
    rw[qeq s0,qeq s1,qeq s2,qny e]
   ·left
    simp only[g16,e16 c (-30) 30,k2,Option.isSome_some,Option.getD_some,Bool.not_true,Bool.not_false,Tr.val_test,Tr.val_fin,if_true,Bool.false_eq_true,if_false]at s2
    rw[qeq s0,qeq s1,qhF s2]
    exact⟨_,rfl⟩
  ·left
   simp only[g16,e16 b (-30) 30,k1,Option.isSome_some,Option.getD_some,Bool.not_true,Bool.not_false,Tr.val_test,Tr.val_fin,if_true,Bool.false_eq_true,if_false]at s1
   rw[qeq s0,qhF s1]
   exact⟨_,rfl⟩
 ·left
  simp only[g16,e16 a (-30) 30,k0,Option.isSome_some,Option.getD_some,Bool.not_true,Bool.not_false,Tr.val_test,Tr.val_fin,if_true,Bool.false_eq_true,if_false]at s0
  rw[qhF s0]
  exact⟨_,rfl⟩
theorem qql{a f g:Int}(hp:Py [a])(h0:f≠0)(hf:f.natAbs≤15)(hg:g.natAbs≤15)(k:wi (-30) 30 a=true):Py [f*a,g*a]∧(stb [f*a,g*a]=true↔stb [a]=true∧g.natAbs<f.natAbs):=by
 have ha:a≠0:=hp.2.2
 have b1:=pb hf k
 have b2:=pb hg k
 have q:Py [f*a,g*a]:=⟨⟨by simp,by simp⟩,qbj (by omega) (qek (by omega)),Int.mul_ne_zero h0 ha⟩
 refine⟨q,?_⟩
 rw[qnZ q,qqT ha,qqp hp]
 exact⟨fun k=>⟨rfl,k⟩,fun k=>k.2⟩
theorem qqK{a b f g:Int}(hp:Py [a,b])(h0:f≠0)(hf:f.natAbs≤15)(hg:g.natAbs≤15)(k:wi (-30) 30 a=true∧wi (-30) 30 b=true):Py [f*a,g*a+f*b,g*b]∧(stb [f*a,g*a+f*b,g*b]=true↔stb [a,b]=true∧g.natAbs<f.natAbs):=by
 have ha:a≠0:=hp.2.2
 have b1:=pb hf k.1
 have b2:=pb hg k.1
 have b3:=pb hf k.2
 have b4:=pb hg k.2
 have q:Py [f*a,g*a+f*b,g*b]:=⟨⟨by simp,by simp⟩,qbj (by omega) (qbj (by omega) (qek (by omega))),Int.mul_ne_zero h0 ha⟩
 refine⟨q,?_⟩
 rw[qjD q,Int.add_comm (g*a) (f*b),qqS h0 ha,qnZ hp]
 exact Iff.rfl
theorem qn7{a b c f g:Int}(hp:Py [a,b,c])(h0:f≠0)(hf:f.natAbs≤15)(hg:g.natAbs≤15)(k:wi (-30) 30 a=true∧wi (-30) 30 b=true∧wi (-30) 30 c=true):Py [f*a,g*a+f*b,g*b+f*c,g*c]∧(stb [f*a,g*a+f*b,g*b+f*c,g*c]=true↔stb [a,b,c]=true∧g.natAbs<f.natAbs):=by
 have ha:a≠0:=hp.2.2
 have b1:=pb hf k.1
 have b2:=pb hg k.1
 have b3:=pb hf k.2.1
 have b4:=pb hg k.2.1
 have b5:=pb hf k.2.2
 have b6:=pb hg k.2.2
 have q:Py [f*a,g*a+f*b,g*b+f*c,g*c]:=⟨⟨by simp,by simp⟩,qbj (by omega) (qbj (by omega) (qbj (by omega) (qek (by omega)))),Int.mul_ne_zero h0 ha⟩
 refine⟨q,?_⟩
 rw[qpa q,Int.add_comm (g*a) (f*b),Int.add_comm (g*b) (f*c),qoM h0 ha,qjD hp]
 exact Iff.rfl
end Go.Vm.Mo

namespace Go.Vm.Mo
open Go
set_option linter.unusedVariables false
set_option linter.unusedSimpArgs false
theorem qn8{p Q:List Int}{n:Nat}{f g:Int}(hp:Py p)(hQ:Py Q)(h3:p.length≤3)(hn:n=p.length+1)(hQl:Q.length=p.length+1)(h0:f≠0)(hf:wi (-15) 15 f=true)(hg:wi (-15) 15 g=true)
  (e:l4_0 ((p,((n,n),((0:Int),()))),((f,(g,())),(List.replicate n 0,())))=some (.inl ((p,((n,n),())),((f,(g,())),(Q,()))))) (key:stb Q=true↔stb p=true∧g.natAbs<f.natAbs):f4 (p,(f,g,()),())=some (true,()):=by
 have hl:=hp.1
 have e10:=qni p (by omega)
 rw[qiS hp]at e10
 have q3:(!decide ((p.length:Int)≤3))=false:=nF (by omega)
 have f0:decide (f=0)=false:=dF h0
 have ef:=e16 f (-15) 15
 have eg:=e16 g (-15) 15
 rw[hf]at ef
 rw[hg]at eg
 have w:wrap64 ((p.length:Int)+1)=((p.length+1:Nat):Int):=by rw[qaC (by omega) (by omega)];omega
 have b1:(decide ((0:Int)≤((p.length+1:Nat):Int))&&decide (((p.length+1:Nat):Int)≤((p.length+1:Nat):Int))&&decide ((8:Int)*((p.length+1:Nat):Int)≤281474976710656)&&decide (((p.length+1:Nat):Int)≤281474976710656))=true:=by
  rw[dT (show(0:Int)≤((p.length+1:Nat):Int)by omega),dT (show((p.length+1:Nat):Int)≤((p.length+1:Nat):Int)by omega),dT (show(8:Int)*((p.length+1:Nat):Int)≤281474976710656 by omega),dT (show((p.length+1:Nat):Int)≤281474976710656 by omega)];rfl
 rw[hn]at e
 have e8:=qr8 p (by omega)
 have e9:=qro (p:=p) (by omega) (qiS hp)
 have eQ:=qro (p:=Q) (by omega) (qiS hQ)
 have hf':=wi_iff.1 hf
 have hg':=wi_iff.1 hg
 have sf:=qoP f (by omega)
 have sg:=qoP g (by omega)
 have bq:Nat.beq (p.length+1) Q.length=true:=by rw[hQl];exact Nat.beq_refl _
 have z0:(!decide ((0:Int)=0))=false:=rfl
 have fin1:stb p=true→(stb Q==!decide ((f.natAbs:Int)≤(g.natAbs:Int)))=true:=by
  intro k
  by_cases c:g.natAbs<f.natAbs
  ·rw[key.2 ⟨k,c⟩,nT (show ¬(f.natAbs:Int)≤(g.natAbs:Int)by omega)];rfl
  ·have:stb Q=false:=by
    cases q:stb Q with
    |false=>rfl
    |true=>exact absurd (key.1 q).2 c
   rw[this,nF (show(f.natAbs:Int)≤(g.natAbs:Int)by omega)];rfl
 have fin2:stb p=false→(stb Q==false)=true:=by
  intro k
  have:stb Q=false:=by
   cases q:stb Q with
   |false=>rfl
   |true=>have:=(key.1 q).1;rw[k]at this;cases this
  rw[this];rfl
 cases hs:stb p with
 |true=>
  have k1:=fin1 hs
  rw[hs]at e9
  simp only[f4,t4,qaG,qbf,g10,e10,decide_true,Bool.not_true,q3,f0,g16,ef,eg,w,b1,Int.toNat_natCast,e,qft,b4_0,outB,g8,e8,g9,e9,eQ,bq,g15,sf,sg,k1,Option.isSome_some,Option.getD_some,Tr.val_test,Tr.val_fin,if_true,Bool.false_eq_true,if_false]
 |false=>
  have k2:=fin2 hs
  rw[hs]at e9
  simp only[f4,t4,qaG,qbf,g10,e10,decide_true,Bool.not_true,q3,f0,g16,ef,eg,w,b1,Int.toNat_natCast,e,qft,b4_0,outB,g8,e8,g9,e9,eQ,bq,k2,Option.isSome_some,Option.getD_some,Tr.val_test,Tr.val_fin,if_true,Bool.false_eq_true,if_false]
theorem qnl{p:List Int}{n:Nat}{f g:Int}{o:Tys.data [.int .i64,.int .i64]×List Int×Unit}(hp:Py p)(h3:p.length≤3)(hn:n=p.length+1)(h0:f≠0)(hf:wi (-15) 15 f=true)(hg:wi (-15) 15 g=true)
  (e:l4_0 ((p,((n,n),((0:Int),()))),((f,(g,())),(List.replicate n 0,())))=some (.inr (((true:Bool),()),o))):f4 (p,(f,g,()),())=some (true,()):=by
 have hl:=hp.1
 have e10:=qni p (by omega)
 rw[qiS hp]at e10
 have q3:(!decide ((p.length:Int)≤3))=false:=nF (by omega)
 have f0:decide (f=0)=false:=dF h0
 have ef:=e16 f (-15) 15
 have eg:=e16 g (-15) 15
 rw[hf]at ef
 rw[hg]at eg
 have w:wrap64 ((p.length:Int)+1)=((p.length+1:Nat):Int):=by rw[qaC (by omega) (by omega)];omega
 have b1:(decide ((0:Int)≤((p.length+1:Nat):Int))&&decide (((p.length+1:Nat):Int)≤((p.length+1:Nat):Int))&&decide ((8:Int)*((p.length+1:Nat):Int)≤281474976710656)&&decide (((p.length+1:Nat):Int)≤281474976710656))=true:=by
  rw[dT (show(0:Int)≤((p.length+1:Nat):Int)by omega),dT (show((p.length+1:Nat):Int)≤((p.length+1:Nat):Int)by omega),dT (show(8:Int)*((p.length+1:Nat):Int)≤281474976710656 by omega),dT (show((p.length+1:Nat):Int)≤281474976710656 by omega)];rfl
 rw[hn]at e
 simp only[f4,t4,qaG,qbf,g10,e10,decide_true,Bool.not_true,q3,f0,g16,ef,eg,w,b1,Int.toNat_natCast,e,qft,r4_0,outR,Option.isSome_some,Option.getD_some,Tr.val_test,Tr.val_fin,if_true,Bool.false_eq_true,if_false]
theorem qqE(p:List Int)(f g:Int)(hlen:p.length≤1000000):f4 (p,(f,g,()),())=some (true,()):=by
 have e10:=qni p hlen
 by_cases z:pE p=0
 ·have hp:=qrB z
  rw[z]at e10
  have z0:(!decide ((0:Int)=0))=false:=rfl
  by_cases h3:p.length≤3
  ·have q3:(!decide ((p.length:Int)≤3))=false:=nF (by omega)
   by_cases h0:f=0
   ·have f0:decide (f=0)=true:=dT h0
    simp only[f4,t4,qaG,qbf,g10,e10,decide_true,Bool.not_true,q3,f0,Option.isSome_some,Option.getD_some,Tr.val_test,Tr.val_fin,if_true,Bool.false_eq_true,if_false]
   ·have f0:decide (f=0)=false:=dF h0
    have ef:=e16 f (-15) 15
    have eg:=e16 g (-15) 15
    rcases Bool.eq_false_or_eq_true (wi (-15) 15 f)with hf|hf
    ·rcases Bool.eq_false_or_eq_true (wi (-15) 15 g)with hg|hg
     ·have hf':=wi_iff.1 hf
      have hg':=wi_iff.1 hg
      match p,hp,h3 with
      |[a],hp,h3=>
       rcases qq9 a f g (by omega) (by omega)with⟨o,e⟩|⟨k,e⟩
       ·exact qnl hp h3 rfl h0 hf hg e
       ·obtain⟨q,ke⟩:=qql (g:=g) hp h0 (by omega) (by omega) k
        exact qn8 hp q h3 rfl rfl h0 hf hg e ke
      |[a,b],hp,h3=>
       rcases qrA a b f g (by omega) (by omega)with⟨o,e⟩|⟨k,e⟩
       ·exact qnl hp h3 rfl h0 hf hg e
       ·obtain⟨q,ke⟩:=qqK (g:=g) hp h0 (by omega) (by omega) k
        exact qn8 hp q h3 rfl rfl h0 hf hg e ke
      |[a,b,c],hp,h3=>
       rcases qpK a b c f g (by omega) (by omega)with⟨o,e⟩|⟨k,e⟩
       ·exact qnl hp h3 rfl h0 hf hg e
       ·obtain⟨q,ke⟩:=qn7 (g:=g) hp h0 (by omega) (by omega) k
        exact qn8 hp q h3 rfl rfl h0 hf hg e ke
      |[],hp,_=>exact absurd hp.1.1 (by decide)
      |a::b::c::d::l,_,h3=>exact absurd h3 (by simp only[List.length_cons];omega)
     ·rw[hf]at ef
      rw[hg]at eg
      simp only[f4,t4,qaG,qbf,g10,e10,decide_true,Bool.not_true,Bool.not_false,q3,f0,g16,ef,eg,Option.isSome_some,Option.getD_some,Tr.val_test,Tr.val_fin,if_true,Bool.false_eq_true,if_false]
    ·rw[hf]at ef
     simp only[f4,t4,qaG,qbf,g10,e10,decide_true,Bool.not_true,Bool.not_false,q3,f0,g16,ef,Option.isSome_some,Option.getD_some,Tr.val_test,Tr.val_fin,if_true,Bool.false_eq_true,if_false]
  ·have q3:(!decide ((p.length:Int)≤3))=true:=nT (by omega)
   simp only[f4,t4,qaG,qbf,g10,e10,decide_true,Bool.not_true,q3,Option.isSome_some,Option.getD_some,Tr.val_test,Tr.val_fin,if_true,Bool.false_eq_true,if_false]
 ·have y1:(!decide (pE p=0))=true:=nT z
  simp only[f4,t4,qbf,g10,e10,y1,Option.isSome_some,Option.getD_some,Tr.val_test,Tr.val_fin,if_true]
theorem qqt{p:List Int}(h:4<p.length):f10 (p,())=some ((8:Int),()):=by
 simp only[f10,t10,qaG,qbf,dF (show ¬(p.length:Int)=0 by omega),nT (show ¬(p.length:Int)≤4 by omega),Tr.val_test,Tr.val_fin,if_true,Bool.false_eq_true,if_false]
theorem qrN(p:List Int)(f g:Int):f4 (p,(f,g,()),())=some (true,()):=by
 by_cases h:p.length≤1000000
 ·exact qqE p f g h
 ·have e:=qqt (p:=p) (by omega)
  have y:(!decide ((8:Int)=0))=true:=rfl
  simp only[f4,t4,qbf,g10,e,y,Option.isSome_some,Option.getD_some,Tr.val_test,Tr.val_fin,if_true]
theorem law4(d:Tys.data as4)(hw:Tys.Wf as4 d):qmn Go.Proofs.Tryz.prog 4 as4 [.bool] d (true,()):=by
 have h:f4 d=some (true,()):=qrN d.1 d.2.1.1 d.2.1.2.1
 have hp:p4.pre d=true:=by
  show Option.isSome (f4 d)=true
  rw[h];rfl
 have hg:p4.fn d=(true,()):=by
  show(f4 d).getD _=_
  rw[h];rfl
 have:=ok4.runs d hp
 rw[hg]at this
 exact this
end Go.Vm.Mo
