import Derived.Test.YtifpmnmpinjcgaaGreatRsFb
import Derived.Test.YtifpmnmpinjcgaaGreatA5
set_option linter.unusedVariables false
set_option linter.unusedSimpArgs false

namespace Go.Vm.Mo
open Go
set_option linter.unusedVariables false
set_option linter.unusedSimpArgs false
theorem dT{p:Prop}[Decidable p](h:p):decide p=true:=decide_eq_true h
theorem dF{p:Prop}[Decidable p](h:¬p):decide p=false:=decide_eq_false h
theorem nT{p:Prop}[Decidable p](h:¬p):(!decide p)=true:=by rw[decide_eq_false h];rfl
theorem nF{p:Prop}[Decidable p](h:p):(!decide p)=false:=by rw[decide_eq_true h];rfl
theorem dA{p q:Prop}[Decidable p][Decidable q](h:p)(k:q):(decide p&&decide q)=true:=by rw[decide_eq_true h,decide_eq_true k];rfl
theorem qjJ(bad:Nat→Bool):∀(n i:Nat),first bad n (i+1)=(first (fun k=>bad (k+1)) n i).map (·+1)
 |0,_=>rfl
 |n+1,i=>by
  simp only[first]
  split
  ·rfl
  ·exact qjJ bad n (i+1)
def qb9:List Int→Int
 |[]=>0
 |a::l=>if a=0 then qb9 l else a
theorem qhX:∀l:List Int,(match first (fun i=>!decide (l.getD i 0=0)) l.length 0 with
  |some k=>l.getD k 0
  |none=>0)=qb9 l
 |[]=>rfl
 |a::l=>by
  simp only[List.length,first,qb9]
  by_cases ha:a=0
  ·subst ha
   have e:=qhX l
   have hf:first (fun i=>!decide (((0:Int)::l).getD i 0=0)) l.length (0+1)=(first (fun i=>!decide (l.getD i 0=0)) l.length 0).map (·+1):=by
    rw[qjJ];rfl
   simp only[hf,List.getD_cons_zero,decide_true,Bool.not_true,Bool.false_eq_true,if_false,if_true]
   rw[←e]
   cases first (fun i=>!decide (l.getD i 0=0)) l.length 0 with
   |none=>rfl
   |some k=>rfl
  ·simp[ha]
theorem l42(l:List Int)(h:l.length≤1000000000):l42_0 ((l,(l.length:Int),(0:Int),()),())=match first (fun i=>!decide (l.getD i 0=0)) l.length 0 with
  |some k=>some (.inr ((l.getD k 0,()),()))
  |none=>some (.inl ((),())):=by
 refine qbw (fun i=>((l,(l.length:Int),(i:Int),()),())) (fun i=>!decide (l.getD i 0=0)) (fun k=>((l.getD k 0,()),())) (n:=l.length) ?_ ?_ (qaI (by omega))
 ·intro i hi
  simp only[s42_0,t42_0,Tr.val_test,qai,qar]
  rw[if_pos (by simp;omega),if_pos (by simp;omega)]
  simp only[Int.toNat_natCast,qby (show i≤9223372036854775806 by omega)]
  rfl
 ·simp[s42_0,t42_0,qai]
theorem qlz(l:List Int)(h:l.length≤1000000000):f42 (l,())=some (qb9 l,()):=by
 simp only[f42,t42,Tr.val_test,r42_0,l42 l h,←qhX l]
 cases first (fun i=>!decide (l.getD i 0=0)) l.length 0 with
 |none=>rfl
 |some k=>rfl
theorem qel(d:Tys.data as38):f38 d=some (if d.1=true then d.2.1 else(0:Int),()):=by
 simp only[f38,t38,Tr.val_test]
 split<;>rfl
def wi(lo hi x:Int):Bool:=decide (lo≤x)&&decide (x≤hi)
theorem wi_iff{lo hi x:Int}:wi lo hi x=true↔lo≤x∧x≤hi:=by simp[wi]
theorem ql1(d:Tys.data as16):f16 d=some (wi d.2.1 d.2.2.1 d.1,()):=by
 simp only[f16,t16,Tr.val_test,Tr.val_fin,qai,decide_eq_true_eq,wi]
 split<;>simp[*]
theorem l43(lo hi:Int)(l:List Int)(h:l.length≤1000000000):l43_0 ((lo,hi,l,(l.length:Int),(0:Int),()),())=match first (fun i=>!wi lo hi (l.getD i 0)) l.length 0 with
  |some _=>some (.inr ((false,()),()))
  |none=>some (.inl ((),())):=by
 refine qbw (fun i=>((lo,hi,l,(l.length:Int),(i:Int),()),())) (fun i=>!wi lo hi (l.getD i 0)) (fun _=>((false,()),())) (n:=l.length) ?_ ?_ (qaI (by omega))
 ·intro i hi'
  simp only[s43_0,t43_0,Tr.val_test,Tr.val_fin,qai,Int.toNat_natCast,qby (show i≤9223372036854775806 by omega)]
  rw[if_pos (by simp;omega),if_pos (by simp;omega)]
  by_cases a0:lo≤l.getD i 0
  ·by_cases a1:l.getD i 0≤hi
   ·simp only[wi,a0,a1,decide_true,Bool.and_self,Bool.not_true,if_true,if_false,Bool.false_eq_true]
   ·simp only[wi,a0,a1,decide_true,decide_false,Bool.and_false,Bool.not_false,Bool.not_true,if_true,if_false,Bool.false_eq_true]
  ·simp only[wi,a0,decide_false,Bool.false_and,Bool.not_false,if_true,if_false,Bool.false_eq_true]
 ·simp[s43_0,t43_0,qai]
theorem qnH(lo hi:Int)(l:List Int)(h:l.length≤1000000000):f43 (lo,hi,l,())=some ((first (fun i=>!wi lo hi (l.getD i 0)) l.length 0).isNone,()):=by
 have hl:=l43 lo hi l h
 cases hf:first (fun i=>!wi lo hi (l.getD i 0)) l.length 0 with
 |none=>
  rw[hf]at hl
  simp only[f43,t43,Tr.val_test,Tr.val_fin,hl,qbg,Option.isSome_some,Option.isNone_none,if_true,Bool.false_eq_true,if_false]
 |some k=>
  rw[hf]at hl
  simp only[f43,t43,Tr.val_test,Tr.val_fin,hl,qbg,r43_0,outR,Option.isSome_some,Option.isNone_some,if_true]
theorem f43_one(lo hi a:Int):f43 (lo,hi,[a],())=some (wi lo hi a,()):=by
 rw[qnH lo hi _ (by simp)]
 simp only[first,List.length,List.getD_cons_zero]
 by_cases h1:wi lo hi a=true
 ·simp[h1]
 ·simp[h1]
theorem qqk(lo hi a b:Int):f43 (lo,hi,[a,b],())=some (wi lo hi a&&wi lo hi b,()):=by
 rw[qnH lo hi _ (by simp)]
 simp only[first,List.length,List.getD_cons_zero,List.getD_cons_succ]
 by_cases h1:wi lo hi a=true
 ·by_cases h2:wi lo hi b=true
  ·simp[h1,h2]
  ·simp[h1,h2]
 ·simp[h1]
theorem qqV(l:List Int)(h:l.length≤1000):f8 (l,())=some (l,()):=by
 simp only[f8,t8,Tr.val_test,Tr.val_fin,Tr.val_stop,List.nil_append,Nat.zero_add]
 rw[if_pos (by simp only[Bool.and_eq_true,qcM];omega),if_pos (by rw[qj1])]
theorem wn64{x:Int}(h1:-9223372036854775807≤x)(h2:x≤9223372036854775807):IntKind.wrap .i64 (0-x)=-x:=by
 rw[←qde,qaF (by omega) (by omega)]
 omega
def gL(l:List Int):Nat:=l.foldl (fun g x=>Nat.gcd g x.natAbs) 0
theorem qpK:∀(l:List Int)(g:Nat),l.foldl (fun g x=>Nat.gcd g x.natAbs) g ∣ g∧∀x∈l,l.foldl (fun g x=>Nat.gcd g x.natAbs) g ∣ x.natAbs
 |[],g=>⟨Nat.dvd_refl _,fun x h=>by cases h⟩
 |y::l,g=>by
  obtain⟨h1,h2⟩:=qpK l (Nat.gcd g y.natAbs)
  refine⟨Nat.dvd_trans h1 (Nat.gcd_dvd_left _ _),fun x hx=>?_⟩
  rcases List.mem_cons.1 hx with rfl|hx
  ·exact Nat.dvd_trans h1 (Nat.gcd_dvd_right _ _)
  ·exact h2 x hx
theorem qog{l:List Int}{x:Int}(h:x∈l):gL l ∣ x.natAbs:=(qpK l 0).2 x h
theorem qpQ{d:Nat}:∀(l:List Int)(g:Nat),d ∣ g→(∀x∈l,d ∣ x.natAbs)→d ∣ l.foldl (fun g x=>Nat.gcd g x.natAbs) g
 |[],g,h,_=>h
 |y::l,g,h,k=>qpQ l _ (Nat.dvd_gcd h (k y (List.mem_cons_self ..))) fun x hx=>k x (List.mem_cons_of_mem _ hx)
theorem qq4{d:Nat}{l:List Int}(h:∀x∈l,d ∣ x.natAbs):d ∣ gL l:=qpQ l 0 (Nat.dvd_zero _) h
theorem qnN(x:Int)(l:List Int):gL (x::l)=l.foldl (fun g x=>Nat.gcd g x.natAbs) x.natAbs:=by
 unfold gL
 rw[List.foldl_cons,Nat.gcd_zero_left]
theorem qlU{x:Int}{l:List Int}(h:x≠0):0<gL (x::l):=by
 rcases Nat.eq_zero_or_pos (gL (x::l))with e|e
 ·have:=qog (l:=x::l) (List.mem_cons_self ..)
  rw[e]at this
  have:=Nat.eq_zero_of_zero_dvd this
  omega
 ·exact e
def sd(l:List Int):Int:=if l.getD 0 0<0 then -(gL l:Int)else(gL l:Int)
def rd(l:List Int):List Int:=l.map fun x=>x.tdiv (sd l)
theorem qpV(l:List Int):(sd l).natAbs=gL l:=by unfold sd;split<;>omega
theorem rd_len(l:List Int):(rd l).length=l.length:=List.length_map _
theorem qrk{l:List Int}{x:Int}(h:x∈l):sd l ∣ x:=by
 have:=qog h
 rw[←qpV]at this
 exact Int.natAbs_dvd_natAbs.1 this
theorem qpH{l:List Int}{x:Int}(h:x∈l):x.tdiv (sd l)*sd l=x:=Int.tdiv_mul_cancel (qrk h)
theorem qcY{l:List Int}(x:Int):(x.tdiv (sd l)).natAbs≤x.natAbs:=by
 rw[Int.natAbs_tdiv];exact Nat.div_le_self _ _
theorem qfv{x:Int}{l:List Int}(h:x≠0):0<x.tdiv (sd (x::l)):=by
 have hm:=qpH (l:=x::l) (List.mem_cons_self ..)
 have hp:=qlU (l:=l) h
 have hs:(sd (x::l)<0∧x<0)∨(0<sd (x::l)∧0<x):=by
  by_cases k:x<0
  ·left
   have:sd (x::l)=-(gL (x::l):Int):=if_pos k
   omega
  ·right
   have:sd (x::l)=(gL (x::l):Int):=if_neg k
   omega
 generalize x.tdiv (sd (x::l))=q at *
 rcases Int.lt_or_le 0 q with k|k
 ·exact k
 ·exfalso
  rcases hs with⟨s1,s2⟩|⟨s1,s2⟩
  ·have:=Int.mul_nonneg_of_nonpos_of_nonpos k (Int.le_of_lt s1)
   omega
  ·have:=Int.mul_nonpos_of_nonpos_of_nonneg k (Int.le_of_lt s1)
   omega
def nv(r:List Int)(j:Nat):Int:=r.getD 0 0*r.getD j 0-r.getD (r.length-1) 0*r.getD (r.length-1-j) 0
def nxt(r:List Int):List Int:=(List.range (r.length-1)).map (nv r)
def lst(r:List Int):Bool:=decide (r.getD 0 0≤((r.getD (r.length-1) 0).natAbs:Int))
def tbl:Nat→List Int→List (List Int)
 |0,r=>[r]
 |n+1,r=>if lst r=true then[r]else r::tbl n (rd (nxt r))
theorem qrq{n:Nat}(h:n≤9223372036854775808):n<rounds:=by unfold rounds;omega
theorem qdv{n:Int}(h1:-9223372036854775808≤n)(h2:n≤9223372036854775807):IntKind.wrap .i64 n=n:=by rw[←qde,qaF h1 h2]
theorem qib(x:Int)(h:x.natAbs≤9223372036854775807):f15 (x,())=some ((x.natAbs:Int),()):=by
 simp only[f15,t15,Tr.val_fin]
 rw[qdv (by omega) (by omega)]
 have e:(if x<0-x then 0-x else x)=(x.natAbs:Int):=by split<;>omega
 rw[e]
theorem qgJ{A:Type}(l:List A)(d:A)(i:Nat)(h:i<l.length):l.getD i d=l[i]:=by
 rw[List.getD_eq_getElem?_getD,List.getElem?_eq_getElem h];rfl
theorem qlR{A B:Type}(f:A→B)(l:List A)(d:A)(i:Nat)(h:i<l.length):(l.take i).map f++[f (l.getD i d)]=(l.take (i+1)).map f:=by
 have e:l.take (i+1)=l.take i++[l.getD i d]:=by
  rw[List.take_add_one,List.getElem?_eq_getElem h,qgJ l d i h];rfl
 rw[e,List.map_append];rfl
theorem qje{A B:Type}(f:B→A→B)(b:B)(l:List A)(d:A)(i:Nat)(h:i<l.length):(l.take (i+1)).foldl f b=f ((l.take i).foldl f b) (l.getD i d):=by
 have e:l.take (i+1)=l.take i++[l.getD i d]:=by
  rw[List.take_add_one,List.getElem?_eq_getElem h,qgJ l d i h];rfl
 rw[e,List.foldl_append];rfl
def Bd(n:Nat)(l:List Int):Prop:=∀x∈l,x.natAbs≤n
theorem Bd.at{n:Nat}{l:List Int}(h:Bd n l){i:Nat}(hi:i<l.length):(l.getD i 0).natAbs≤n:=by
 rw[qgJ l 0 i hi];exact h _ (List.getElem_mem hi)
theorem qpW:∀(l:List Int)(a:Int),(l.foldl euc a).natAbs=l.foldl (fun g x=>Nat.gcd g x.natAbs) a.natAbs
 |[],a=>rfl
 |x::l,a=>by rw[List.foldl_cons,List.foldl_cons,qpW l (euc a x),qoi]
theorem l63q(a b:Int)(l:List Int)(n i:Int)(hb:b.natAbs≤9223372036854775808):l63_2 ((a,b,l,n,i,()),())=some (.inl ((euc a b,l,n,i,()),())):=by
 refine qn3 (fun a b=>((a,b,l,n,i,()),())) (fun a=>((a,l,n,i,()),())) ?_ ?_ rounds a b (qrq hb)
 ·intro a b hb
  have q:(b==(0:Int))=false:=beq_eq_false_iff_ne.2 hb
  simp only[s63_2,t63_2,qar,nT hb,q,Tr.val_test,Tr.val_fin,if_true,Bool.false_eq_true,if_false]
 ·intro a
  have q:(!decide ((0:Int)=0))=false:=rfl
  simp only[s63_2,t63_2,qar,decide_true,Bool.not_true,Tr.val_test,Tr.val_fin,Bool.false_eq_true,if_false]
theorem l63(a:Int)(l:List Int)(h:l.length≤1000)(hb:Bd 9000000000000000000 l):l63_0 ((a,l,(l.length:Int),(0:Int),()),())=some (.inl ((l.foldl euc a,()),())):=by
 have hk:s63_0 (((l.take l.length).foldl euc a,l,(l.length:Int),(l.length:Int),()),())=some (.brk ((l.foldl euc a,()),())):=by
  have q1:(!decide ((l.length:Int)≤(l.length:Int)))=false:=nF (by omega)
  simp only[s63_0,t63_0,qai,q1,Tr.val_test,Tr.val_fin,Bool.false_eq_true,if_false,List.take_length]
 refine qgU (fun i=>(((l.take i).foldl euc a,l,(l.length:Int),(i:Int),()),())) (n:=l.length) ?_ hk (qaI (by omega))
 intro i hi
 have q1:(!decide ((l.length:Int)≤(i:Int)))=true:=nT (by omega)
 have b1:(decide ((0:Int)≤(i:Int))&&decide ((i:Int)<(l.length:Int)))=true:=dA (by omega) (by omega)
 have e:=l63q ((l.take i).foldl euc a) (l.getD i 0) l (l.length:Int) (i:Int) (by have:=hb.at hi;omega)
 have e2:=qje euc a l 0 i hi
 simp only[s63_0,t63_0,q1,b1,qai,Tr.val_test,Tr.val_fin,if_true,Int.toNat_natCast,e,qa5,b63_2,outB,qby (show i≤9223372036854775806 by omega)]
 rw[←e2]
theorem qqG{x:Int}{l:List Int}(h:x≠0):gL (x::l)≤x.natAbs:=Nat.le_of_dvd (by omega) (qog (List.mem_cons_self ..))
theorem qqR(a:Int)(l:List Int)(h:l.length≤1000)(h0:a≠0)(ha:a.natAbs≤9000000000000000000)(hb:Bd 9000000000000000000 l):f63 (a,l,())=some ((gL (a::l):Int),()):=by
 have e:=l63 a l h hb
 have e1:=qpW l a
 rw[←qnN]at e1
 have e2:=qqG (l:=l) h0
 simp only[f63,t63,e,qa5,b63_0,outB,Tr.val_test,Tr.val_fin,if_true]
 rw[qdv (by omega) (by omega)]
 have e3:(if l.foldl euc a<0-l.foldl euc a then 0-l.foldl euc a else l.foldl euc a)=(gL (a::l):Int):=by split<;>omega
 rw[e3]
def td(d x:Int):Int:=x.tdiv d
theorem l54(d:Int)(l:List Int)(h:l.length≤1000)(h0:d≠0)(hb:Bd 9000000000000000000 l):l54_0 ((d,[],l,(l.length:Int),(0:Int),()),())=some (.inl ((l.map (td d),()),())):=by
 have hk:s54_0 ((d,(l.take l.length).map (td d),l,(l.length:Int),(l.length:Int),()),())=some (.brk ((l.map (td d),()),())):=by
  have q1:(!decide ((l.length:Int)≤(l.length:Int)))=false:=nF (by omega)
  simp only[s54_0,t54_0,qai,q1,Tr.val_test,Tr.val_fin,Bool.false_eq_true,if_false,List.take_length]
 refine qgU (fun i=>((d,(l.take i).map (td d),l,(l.length:Int),(i:Int),()),())) (n:=l.length) ?_ hk (qaI (by omega))
 intro i hi
 have q1:(!decide ((l.length:Int)≤(i:Int)))=true:=nT (by omega)
 have b1:(decide ((0:Int)≤(i:Int))&&decide ((i:Int)<(l.length:Int)))=true:=dA (by omega) (by omega)
 have hl:((l.take i).map (td d)).length=i:=by rw[List.length_map,List.length_take];omega
 have b2:(Nat.ble ((2*(i+1)+192)*8) 281474976710656&&Nat.ble (i+1) 281474976710656)=true:=by simp only[Bool.and_eq_true,qcM];omega
 have z:(d==(0:Int))=false:=beq_eq_false_iff_ne.2 h0
 have e:=qlR (td d) l 0 i hi
 have ab:((l.getD i 0).tdiv d).natAbs≤(l.getD i 0).natAbs:=by rw[Int.natAbs_tdiv];exact Nat.div_le_self _ _
 have bd:=hb.at hi
 have w:Go.IntKind.wrap Go.IntKind.i64 ((l.getD i 0).tdiv d)=(l.getD i 0).tdiv d:=qdv (by omega) (by omega)
 simp only[s54_0,t54_0,q1,b1,b2,hl,z,w,qai,Tr.val_test,Tr.val_fin,if_true,Bool.false_eq_true,if_false,Int.toNat_natCast,qby (show i≤9223372036854775806 by omega)]
 rw[←e];rfl
theorem qpJ(a:Int)(l:List Int)(h:l.length≤999)(h0:a≠0)(hb:Bd 9000000000000000000 (a::l)):f54 (a::l,())=some (rd (a::l),()):=by
 have ha:=hb a (List.mem_cons_self ..)
 have hl:Bd 9000000000000000000 l:=fun x hx=>hb x (List.mem_cons_of_mem _ hx)
 have e:=qqR a l (by omega) h0 ha hl
 have g0:=qlU (l:=l) h0
 have g1:=qqG (l:=l) h0
 have len:(a::l).length=l.length+1:=rfl
 have q1:(true&&decide ((0:Int)<((a::l).length:Int)))=true:=by rw[dT (show(0:Int)<((a::l).length:Int)by omega)];rfl
 have q2:(true&&decide ((1:Int)≤((a::l).length:Int)))=true:=by rw[dT (show(1:Int)≤((a::l).length:Int)by omega)];rfl
 have hd:(a::l).getD 0 0=a:=rfl
 have hr:(a::l).drop 1=l:=rfl
 simp only[f54,t54,q1,q2,hd,hr,g63,e,qai,Option.isSome_some,Option.getD_some,Tr.val_test,Tr.val_fin,if_true]
 by_cases k:a<0
 ·have w:Go.IntKind.wrap Go.IntKind.i64 (0-(gL (a::l):Int))=-(gL (a::l):Int):=by rw[qdv (by omega) (by omega)];omega
  have e1:=l54 (-(gL (a::l):Int)) (a::l) (by omega) (by omega) hb
  have s:sd (a::l)=-(gL (a::l):Int):=if_pos k
  rw[nT (show ¬0≤a by omega)]
  simp only[w,e1,qa5,b54_0,outB,if_true,rd,s];rfl
 ·have e1:=l54 (gL (a::l):Int) (a::l) (by omega) (by omega) hb
  have s:sd (a::l)=(gL (a::l):Int):=if_neg k
  rw[nF (show 0≤a by omega)]
  simp only[e1,qa5,b54_0,outB,if_true,Bool.false_eq_true,if_false,rd,s];rfl
theorem qq2(l:List Int)(h1:1≤l.length)(h:l.length≤1000)(hb:Bd 9000000000000000000 l):f55 (l,())=some (lst l,()):=by
 have w:wrap64 ((l.length:Int)-1)=((l.length-1:Nat):Int):=by rw[qaF (by omega) (by omega)];omega
 have q:(decide ((0:Int)≤((l.length-1:Nat):Int))&&decide (((l.length-1:Nat):Int)<(l.length:Int)))=true:=dA (by omega) (by omega)
 have q1:(true&&decide ((0:Int)<(l.length:Int)))=true:=by rw[dT (show(0:Int)<(l.length:Int)by omega)];rfl
 have bd:=hb.at (i:=l.length-1) (by omega)
 have w2:Go.IntKind.wrap Go.IntKind.i64 (0-l.getD (l.length-1) 0)=0-l.getD (l.length-1) 0:=qdv (by omega) (by omega)
 have e3:(if l.getD (l.length-1) 0<0-l.getD (l.length-1) 0 then 0-l.getD (l.length-1) 0 else l.getD (l.length-1) 0)=((l.getD (l.length-1) 0).natAbs:Int):=by split<;>omega
 simp only[f55,t55,w,q,q1,Int.toNat_natCast,w2,e3,qai,Tr.val_test,Tr.val_fin,if_true,lst]
end Go.Vm.Mo

namespace Go.Vm.Mo
open Go
set_option linter.unusedVariables false
set_option linter.unusedSimpArgs false
theorem qql(a b:Int):f56 ([a,b],())=(Tr.test (Option.isSome (f54 ([wrap64 (wrap64 (a*a)-wrap64 (b*b))],()))) (Tr.fin ((g54 ([wrap64 (wrap64 (a*a)-wrap64 (b*b))],())).1,())) Tr.stop:Tr (Tys.data rs56)).val:=by kernel_rfl
theorem qnD(a b c:Int):f56 ([a,b,c],())=(Tr.test (Option.isSome (f54 ([wrap64 (wrap64 (a*a)-wrap64 (c*c)),wrap64 (wrap64 (a*b)-wrap64 (c*b))],()))) (Tr.fin ((g54 ([wrap64 (wrap64 (a*a)-wrap64 (c*c)),wrap64 (wrap64 (a*b)-wrap64 (c*b))],())).1,())) Tr.stop:Tr (Tys.data rs56)).val:=by kernel_rfl
theorem qo7(a b c d:Int):f56 ([a,b,c,d],())=(Tr.test (Option.isSome (f54 ([wrap64 (wrap64 (a*a)-wrap64 (d*d)),wrap64 (wrap64 (a*b)-wrap64 (d*c)),wrap64 (wrap64 (a*c)-wrap64 (d*b))],()))) (Tr.fin ((g54 ([wrap64 (wrap64 (a*a)-wrap64 (d*d)),wrap64 (wrap64 (a*b)-wrap64 (d*c)),wrap64 (wrap64 (a*c)-wrap64 (d*b))],())).1,())) Tr.stop:Tr (Tys.data rs56)).val:=by kernel_rfl
theorem qqT(a b c:Int)(T:List (List Int)):l12_2 (([a,b,c],T,(2:Int),[],(0:Int),()),())=some (.inl ((T,[wrap64 (wrap64 (a*a)-wrap64 (c*c)),wrap64 (wrap64 (a*b)-wrap64 (c*b))],()),())):=by kernel_rfl
theorem qrJ(a b c d:Int)(T:List (List Int)):l12_2 (([a,b,c,d],T,(3:Int),[],(0:Int),()),())=some (.inl ((T,[wrap64 (wrap64 (a*a)-wrap64 (d*d)),wrap64 (wrap64 (a*b)-wrap64 (d*c)),wrap64 (wrap64 (a*c)-wrap64 (d*b))],()),())):=by kernel_rfl
end Go.Vm.Mo

namespace Go.Vm.Mo
open Go
set_option linter.unusedVariables false
set_option linter.unusedSimpArgs false
theorem qre(B:Nat):∀(l:List Int)(g:Nat),g≤B→Bd B l→l.foldl (fun g x=>Nat.gcd g x.natAbs) g≤B
 |[],g,h,_=>h
 |x::l,g,h,k=>by
  rw[List.foldl_cons]
  refine qre B l _ ?_ (fun y hy=>k y (List.mem_cons_of_mem _ hy))
  have hx:=k x (List.mem_cons_self ..)
  rcases Nat.eq_zero_or_pos g with e|e
  ·subst e;rw[Nat.gcd_zero_left];exact hx
  ·exact Nat.le_trans (Nat.le_of_dvd e (Nat.gcd_dvd_left _ _)) h
theorem l57q(a b:Int)(hb:b.natAbs≤9223372036854775808):l57_0 ((a,b,()),())=some (.inl ((euc a b,()),())):=by
 refine qn3 (fun a b=>((a,b,()),())) (fun a=>((a,()),())) ?_ ?_ rounds a b (qrq hb)
 ·intro a b hb
  have q:(b==(0:Int))=false:=beq_eq_false_iff_ne.2 hb
  simp only[s57_0,t57_0,qar,nT hb,q,Tr.val_test,Tr.val_fin,if_true,Bool.false_eq_true,if_false]
 ·intro a
  simp only[s57_0,t57_0,qar,decide_true,Bool.not_true,Tr.val_test,Tr.val_fin,Bool.false_eq_true,if_false]
theorem qq1(a b:Int)(ha:a.natAbs≤9000000000000000000)(hb:b.natAbs≤9000000000000000000):f57 (a,b,())=some ((Nat.gcd a.natAbs b.natAbs:Int),()):=by
 have e:=l57q a b (by omega)
 have e1:=qoi a b
 have g1:Nat.gcd a.natAbs b.natAbs≤9000000000000000000:=by
  rcases Nat.eq_zero_or_pos b.natAbs with q|q
  ·rw[q,Nat.gcd_zero_right];exact ha
  ·exact Nat.le_trans (Nat.le_of_dvd q (Nat.gcd_dvd_right _ _)) hb
 have e2:=qib (euc a b) (by omega)
 rw[e1]at e2
 simp only[f57,t57,e,qa5,b57_0,outB,g15,e2,Option.isSome_some,Option.getD_some,Tr.val_test,Tr.val_fin,if_true]
def gT(l:List Int)(i:Nat):Int:=((l.take i).foldl (fun g x=>Nat.gcd g x.natAbs) 0:Nat)
theorem qqH(l:List Int)(i:Nat)(h:i<l.length):gT l (i+1)=(Nat.gcd (gT l i).natAbs (l.getD i 0).natAbs:Nat):=by
 unfold gT
 rw[qje _ _ l 0 i h,Int.natAbs_natCast]
theorem qrP{l:List Int}(hb:Bd 9000000000000000000 l)(i:Nat):(gT l i).natAbs≤9000000000000000000:=by
 unfold gT
 rw[Int.natAbs_natCast]
 exact qre _ _ _ (Nat.zero_le _) fun x hx=>hb x (List.mem_of_mem_take hx)
theorem l35(l:List Int)(h:l.length≤1000)(hb:Bd 9000000000000000000 l):l35_0 ((l,(0:Int),(0:Int),()),())=some (.inl ((l,(gL l:Int),()),())):=by
 have hk:s35_0 ((l,gT l l.length,(l.length:Int),()),())=some (.brk ((l,(gL l:Int),()),())):=by
  have q1:(!decide ((l.length:Int)≤(l.length:Int)))=false:=nF (by omega)
  have e:gT l l.length=(gL l:Int):=by unfold gT gL;rw[List.take_length]
  simp only[s35_0,t35_0,qai,q1,e,Tr.val_test,Tr.val_fin,Bool.false_eq_true,if_false]
 refine qgU (fun i=>((l,gT l i,(i:Int),()),())) (n:=l.length) ?_ hk (qaI (by omega))
 intro i hi
 have q1:(!decide ((l.length:Int)≤(i:Int)))=true:=nT (by omega)
 have b1:(decide ((0:Int)≤(i:Int))&&decide ((i:Int)<(l.length:Int)))=true:=dA (by omega) (by omega)
 have e:=qq1 (gT l i) (l.getD i 0) (qrP hb i) (hb.at hi)
 have e2:=qqH l i hi
 simp only[s35_0,t35_0,q1,b1,qai,Tr.val_test,Tr.val_fin,if_true,Int.toNat_natCast,g57,e,Option.isSome_some,Option.getD_some,qby (show i≤9223372036854775806 by omega)]
 rw[←e2]
theorem l352(d:Int)(l:List Int)(h:l.length≤1000)(h0:d≠0)(hb:Bd 9000000000000000000 l):l35_2 ((l,d,[],(0:Int),()),())=some (.inl ((l.map (td d),()),())):=by
 have hk:s35_2 ((l,d,(l.take l.length).map (td d),(l.length:Int),()),())=some (.brk ((l.map (td d),()),())):=by
  have q1:(!decide ((l.length:Int)≤(l.length:Int)))=false:=nF (by omega)
  simp only[s35_2,t35_2,qai,q1,Tr.val_test,Tr.val_fin,Bool.false_eq_true,if_false,List.take_length]
 refine qgU (fun i=>((l,d,(l.take i).map (td d),(i:Int),()),())) (n:=l.length) ?_ hk (qaI (by omega))
 intro i hi
 have q1:(!decide ((l.length:Int)≤(i:Int)))=true:=nT (by omega)
 have b1:(decide ((0:Int)≤(i:Int))&&decide ((i:Int)<(l.length:Int)))=true:=dA (by omega) (by omega)
 have hl:((l.take i).map (td d)).length=i:=by rw[List.length_map,List.length_take];omega
 have b2:(Nat.ble ((2*(i+1)+192)*8) 281474976710656&&Nat.ble (i+1) 281474976710656)=true:=by simp only[Bool.and_eq_true,qcM];omega
 have z:(d==(0:Int))=false:=beq_eq_false_iff_ne.2 h0
 have e:=qlR (td d) l 0 i hi
 have ab:((l.getD i 0).tdiv d).natAbs≤(l.getD i 0).natAbs:=by rw[Int.natAbs_tdiv];exact Nat.div_le_self _ _
 have bd:=hb.at hi
 have w:Go.IntKind.wrap Go.IntKind.i64 ((l.getD i 0).tdiv d)=(l.getD i 0).tdiv d:=qdv (by omega) (by omega)
 simp only[s35_2,t35_2,q1,b1,b2,hl,z,w,qai,Tr.val_test,Tr.val_fin,if_true,Bool.false_eq_true,if_false,Int.toNat_natCast,qby (show i≤9223372036854775806 by omega)]
 rw[←e];rfl
theorem qpU(a:Int)(l:List Int)(h:l.length≤999)(h0:a≠0)(hb:Bd 9000000000000000000 (a::l)):f35 (a::l,())=some (rd (a::l),()):=by
 have ha:=hb a (List.mem_cons_self ..)
 have e:=l35 (a::l) (by show l.length+1≤1000;omega) hb
 have g0:=qlU (l:=l) h0
 have g1:=qqG (l:=l) h0
 have len:(a::l).length=l.length+1:=rfl
 have q1:(true&&decide ((0:Int)<((a::l).length:Int)))=true:=by rw[dT (show(0:Int)<((a::l).length:Int)by omega)];rfl
 have hd:(a::l).getD 0 0=a:=rfl
 simp only[f35,t35,e,qa5,b35_0,outB,q1,hd,qai,Option.isSome_some,Option.getD_some,Tr.val_test,Tr.val_fin,if_true]
 by_cases k:a<0
 ·have w:Go.IntKind.wrap Go.IntKind.i64 (0-(gL (a::l):Int))=-(gL (a::l):Int):=by rw[qdv (by omega) (by omega)];omega
  have e1:=l352 (-(gL (a::l):Int)) (a::l) (by omega) (by omega) hb
  have s:sd (a::l)=-(gL (a::l):Int):=if_pos k
  rw[nT (show ¬0≤a by omega)]
  simp only[w,e1,qa5,b35_2,outB,if_true,rd,s];rfl
 ·have e1:=l352 (gL (a::l):Int) (a::l) (by omega) (by omega) hb
  have s:sd (a::l)=(gL (a::l):Int):=if_neg k
  rw[nF (show 0≤a by omega)]
  simp only[e1,qa5,b35_2,outB,if_true,Bool.false_eq_true,if_false,rd,s];rfl
def Rw:List Int→Prop
 |[a]=>0<a∧a.natAbs≤9000000000000000000
 |[a,b]=>0<a∧a.natAbs≤4000000∧b.natAbs≤4000000
 |[a,b,c]=>0<a∧a.natAbs≤2000000∧b.natAbs≤2000000∧c.natAbs≤2000000
 |[a,b,c,d]=>0<a∧a.natAbs≤1000∧b.natAbs≤1000∧c.natAbs≤1000∧d.natAbs≤1000
 |_=>False
theorem qbU{a b:Int}{m n:Nat}(h:a.natAbs≤m)(k:b.natAbs≤n):(a*b).natAbs≤m*n:=by
 rw[Int.natAbs_mul];exact Nat.mul_le_mul h k
theorem wsub{a b:Int}{m:Nat}(h:a.natAbs≤m)(k:b.natAbs≤m)(hm:m≤2000000000000000000):wrap64 (wrap64 a-wrap64 b)=a-b:=by
 rw[qaF (n:=a) (by omega) (by omega),qaF (n:=b) (by omega) (by omega)]
 exact qaF (by omega) (by omega)
theorem qiE{a c:Int}(h:(c.natAbs:Int)<a):0<a*a-c*c:=by
 have e:a*a-c*c=(a-c)*(a+c):=by grind
 rw[e]
 exact Int.mul_pos (by omega) (by omega)
theorem qgO{a:Int}{n:Nat}(h:a.natAbs≤n):Bd n [a]:=fun x hx=>by
 rw[List.mem_singleton]at hx;subst hx;exact h
theorem qdm{a:Int}{n:Nat}{l:List Int}(h:a.natAbs≤n)(k:Bd n l):Bd n (a::l):=fun x hx=>by
 rcases List.mem_cons.1 hx with rfl|hx
 ·exact h
 ·exact k x hx
theorem qq6{x:Int}(h:0<x):rd [x]=[1]:=by
 have g:gL [x]=x.natAbs:=by rw[qnN];rfl
 have s:sd [x]=x:=by
  have:sd [x]=(gL [x]:Int):=if_neg (show ¬([x]:List Int).getD 0 0<0 from fun q=>by have q:x<0:=q;omega)
  omega
 show[x.tdiv (sd [x])]=[1]
 rw[s,Int.tdiv_self (by omega)]
theorem qnE{l:List Int}{x:Int}(h:x∈l):(x.tdiv (sd l)).natAbs*gL l=x.natAbs:=by
 have:=qpH h
 have e:=congrArg Int.natAbs this
 rw[Int.natAbs_mul,qpV]at e
 exact e
theorem qo4{a b c:Int}(h:(c.natAbs:Int)<a):((a*a-c*c).tdiv (sd [a*a-c*c,a*b-c*b])).natAbs≤(a+c).natAbs∧((a*b-c*b).tdiv (sd [a*a-c*c,a*b-c*b])).natAbs≤b.natAbs:=by
 have e1:a*a-c*c=(a-c)*(a+c):=by grind
 have e2:a*b-c*b=(a-c)*b:=by grind
 have hp:0<(a-c).natAbs:=by omega
 have hd:(a-c).natAbs ∣ gL [a*a-c*c,a*b-c*b]:=qq4 fun x hx=>by
  simp only[List.mem_cons,List.not_mem_nil,or_false]at hx
  rcases hx with rfl|rfl
  ·rw[e1,Int.natAbs_mul];exact Nat.dvd_mul_right _ _
  ·rw[e2,Int.natAbs_mul];exact Nat.dvd_mul_right _ _
 have s1:=qnE (l:=[a*a-c*c,a*b-c*b]) (x:=a*a-c*c) (by simp)
 have s2:=qnE (l:=[a*a-c*c,a*b-c*b]) (x:=a*b-c*b) (by simp)
 have g0:=qlU (l:=[a*b-c*b]) (show a*a-c*c≠0 by have:=qiE h;omega)
 have hge:=Nat.le_of_dvd g0 hd
 generalize gL [a*a-c*c,a*b-c*b]=g at *
 generalize(a*a-c*c).tdiv (sd [a*a-c*c,a*b-c*b])=x at *
 generalize(a*b-c*b).tdiv (sd [a*a-c*c,a*b-c*b])=y at *
 rw[e1,Int.natAbs_mul]at s1
 rw[e2,Int.natAbs_mul]at s2
 constructor
 ·have:=Nat.mul_le_mul_left x.natAbs hge
  refine Nat.le_of_mul_le_mul_left (?_:(a-c).natAbs*x.natAbs≤(a-c).natAbs*(a+c).natAbs) hp
  rw[Nat.mul_comm (a-c).natAbs x.natAbs];omega
 ·have:=Nat.mul_le_mul_left y.natAbs hge
  refine Nat.le_of_mul_le_mul_left (?_:(a-c).natAbs*y.natAbs≤(a-c).natAbs*b.natAbs) hp
  rw[Nat.mul_comm (a-c).natAbs y.natAbs];omega
end Go.Vm.Mo

namespace Go.Vm.Mo
open Go
set_option linter.unusedVariables false
set_option linter.unusedSimpArgs false
theorem rd1(x:Int):rd [x]=[x.tdiv (sd [x])]:=rfl
theorem rd2(x y:Int):rd [x,y]=[x.tdiv (sd [x,y]),y.tdiv (sd [x,y])]:=rfl
theorem rd3(x y z:Int):rd [x,y,z]=[x.tdiv (sd [x,y,z]),y.tdiv (sd [x,y,z]),z.tdiv (sd [x,y,z])]:=rfl
theorem rd4(x y z u:Int):rd [x,y,z,u]=[x.tdiv (sd [x,y,z,u]),y.tdiv (sd [x,y,z,u]),z.tdiv (sd [x,y,z,u]),u.tdiv (sd [x,y,z,u])]:=rfl
theorem qp7(a b:Int):lst [a,b]=decide (a≤(b.natAbs:Int)):=rfl
theorem qoy(a b c:Int):lst [a,b,c]=decide (a≤(c.natAbs:Int)):=rfl
theorem qpA(a b c d:Int):lst [a,b,c,d]=decide (a≤(d.natAbs:Int)):=rfl
theorem qk0(a b:Int):nxt [a,b]=[a*a-b*b]:=rfl
theorem qe1(a b c:Int):nxt [a,b,c]=[a*a-c*c,a*b-c*b]:=rfl
theorem qgk(a b c d:Int):nxt [a,b,c,d]=[a*a-d*d,a*b-d*c,a*c-d*b]:=rfl
structure Stp(r:List Int):Prop where
 pos:∃x l,nxt r=x::l∧0<x∧l.length≤999∧Bd 9000000000000000000 (x::l)
 row:Rw (rd (nxt r))
 len:(rd (nxt r)).length+1=r.length
theorem qiR{a b:Int}(h:Rw [a,b])(hl:lst [a,b]=false):Stp [a,b]∧rd (nxt [a,b])=[1]∧wrap64 (wrap64 (a*a)-wrap64 (b*b))=a*a-b*b:=by
 obtain⟨h0,h1,h2⟩:=h
 rw[qp7]at hl
 have hl:¬a≤(b.natAbs:Int):=of_decide_eq_false hl
 have p:=qiE (a:=a) (c:=b) (by omega)
 have m1:=qbU h1 h1
 have m2:=qbU h2 h2
 have e:rd (nxt [a,b])=[1]:=by rw[qk0];exact qq6 p
 refine⟨⟨⟨_,[],qk0 a b,p,by decide,qgO (by omega)⟩,?_,by rw[e];rfl⟩,e,wsub m1 m2 (by omega)⟩
 rw[e];exact⟨by decide,by decide⟩
theorem qfA{a b c:Int}(h:Rw [a,b,c])(hl:lst [a,b,c]=false):Stp [a,b,c]∧wrap64 (wrap64 (a*a)-wrap64 (c*c))=a*a-c*c∧wrap64 (wrap64 (a*b)-wrap64 (c*b))=a*b-c*b:=by
 obtain⟨h0,h1,h2,h3⟩:=h
 rw[qoy]at hl
 have hl:¬a≤(c.natAbs:Int):=of_decide_eq_false hl
 have p:=qiE (a:=a) (c:=c) (by omega)
 have m1:=qbU h1 h1
 have m2:=qbU h3 h3
 have m3:=qbU h1 h2
 have m4:=qbU h3 h2
 have r3:=qo4 (a:=a) (b:=b) (c:=c) (by omega)
 have hh:=qfv (x:=a*a-c*c) (l:=[a*b-c*b]) (by omega)
 refine⟨⟨⟨_,[_],qe1 a b c,p,by show 1≤999;omega,qdm (by omega) (qgO (by omega))⟩,?_,rfl⟩,wsub m1 m2 (by omega),wsub m3 m4 (by omega)⟩
 rw[qe1,rd2]
 exact⟨hh,by omega,by omega⟩
theorem qg0{a b c d:Int}(h:Rw [a,b,c,d])(hl:lst [a,b,c,d]=false):Stp [a,b,c,d]∧wrap64 (wrap64 (a*a)-wrap64 (d*d))=a*a-d*d∧wrap64 (wrap64 (a*b)-wrap64 (d*c))=a*b-d*c∧wrap64 (wrap64 (a*c)-wrap64 (d*b))=a*c-d*b:=by
 obtain⟨h0,h1,h2,h3,h4⟩:=h
 rw[qpA]at hl
 have hl:¬a≤(d.natAbs:Int):=of_decide_eq_false hl
 have p:=qiE (a:=a) (c:=d) (by omega)
 have m1:=qbU h1 h1
 have m2:=qbU h4 h4
 have m3:=qbU h1 h2
 have m4:=qbU h4 h3
 have m5:=qbU h1 h3
 have m6:=qbU h4 h2
 have hh:=qfv (x:=a*a-d*d) (l:=[a*b-d*c,a*c-d*b]) (by omega)
 have q1:=qcY (l:=[a*a-d*d,a*b-d*c,a*c-d*b]) (a*a-d*d)
 have q2:=qcY (l:=[a*a-d*d,a*b-d*c,a*c-d*b]) (a*b-d*c)
 have q3:=qcY (l:=[a*a-d*d,a*b-d*c,a*c-d*b]) (a*c-d*b)
 refine⟨⟨⟨_,[_,_],qgk a b c d,p,by show 2≤999;omega,qdm (by omega) (qdm (by omega) (qgO (by omega)))⟩,?_,rfl⟩,wsub m1 m2 (by omega),wsub m3 m4 (by omega),wsub m5 m6 (by omega)⟩
 rw[qgk,rd3]
 exact⟨hh,by omega,by omega,by omega⟩
theorem Rw.cases{r:List Int}(h:Rw r):(∃a,r=[a])∨(∃a b,r=[a,b])∨(∃a b c,r=[a,b,c])∨(∃a b c d,r=[a,b,c,d]):=by
 match r,h with
 |[a],_=>exact Or.inl ⟨a,rfl⟩
 |[a,b],_=>exact Or.inr (Or.inl ⟨a,b,rfl⟩)
 |[a,b,c],_=>exact Or.inr (Or.inr (Or.inl ⟨a,b,c,rfl⟩))
 |[a,b,c,d],_=>exact Or.inr (Or.inr (Or.inr ⟨a,b,c,d,rfl⟩))
theorem Rw.len{r:List Int}(h:Rw r):1≤r.length∧r.length≤4:=by
 rcases h.cases with⟨a,rfl⟩|⟨a,b,rfl⟩|⟨a,b,c,rfl⟩|⟨a,b,c,d,rfl⟩<;>simp
theorem Rw.bd{r:List Int}(h:Rw r):Bd 9000000000000000000 r:=by
 rcases h.cases with⟨a,rfl⟩|⟨a,b,rfl⟩|⟨a,b,c,rfl⟩|⟨a,b,c,d,rfl⟩
 ·exact qgO h.2
 ·obtain⟨_,h1,h2⟩:=h;exact qdm (by omega) (qgO (by omega))
 ·obtain⟨_,h1,h2,h3⟩:=h;exact qdm (by omega) (qdm (by omega) (qgO (by omega)))
 ·obtain⟨_,h1,h2,h3,h4⟩:=h;exact qdm (by omega) (qdm (by omega) (qdm (by omega) (qgO (by omega))))
theorem qdP{r:List Int}(h:Rw r)(k:r.length≤1):lst r=true:=by
 rcases h.cases with⟨a,rfl⟩|⟨a,b,rfl⟩|⟨a,b,c,rfl⟩|⟨a,b,c,d,rfl⟩
 ·obtain⟨h0,_⟩:=h
  show decide (a≤(a.natAbs:Int))=true
  exact decide_eq_true (by omega)
 ·exact absurd k (by simp)
 ·exact absurd k (by simp)
 ·exact absurd k (by simp)
theorem qqu{r:List Int}(h:Rw r)(hl:lst r=false):Stp r:=by
 rcases h.cases with⟨a,rfl⟩|⟨a,b,rfl⟩|⟨a,b,c,rfl⟩|⟨a,b,c,d,rfl⟩
 ·rw[qdP h (by simp)]at hl;cases hl
 ·exact(qiR h hl).1
 ·exact(qfA h hl).1
 ·exact(qg0 h hl).1
theorem qq9{r:List Int}(h:Rw r)(hl:lst r=false):f56 (r,())=some (rd (nxt r),()):=by
 have fin:∀x l,0<x→l.length≤999→Bd 9000000000000000000 (x::l)→(Tr.test (Option.isSome (f54 (x::l,()))) (Tr.fin ((g54 (x::l,())).1,())) Tr.stop:Tr (Tys.data rs56)).val=some (rd (x::l),()):=by
  intro x l h1 h2 h3
  have e:=qpJ x l h2 (by omega) h3
  simp only[g54,e,Option.isSome_some,Option.getD_some,Tr.val_test,Tr.val_fin,if_true]
 rcases h.cases with⟨a,rfl⟩|⟨a,b,rfl⟩|⟨a,b,c,rfl⟩|⟨a,b,c,d,rfl⟩
 ·rw[qdP h (by simp)]at hl;cases hl
 ·obtain⟨s,_,w⟩:=qiR h hl
  obtain⟨x,l,e,p,q,b⟩:=s.pos
  rw[qql,w,←qk0,e];exact fin x l p q b
 ·obtain⟨s,w1,w2⟩:=qfA h hl
  obtain⟨x,l,e,p,q,b⟩:=s.pos
  rw[qnD,w1,w2,←qe1,e];exact fin x l p q b
 ·obtain⟨s,w1,w2,w3⟩:=qg0 h hl
  obtain⟨x,l,e,p,q,b⟩:=s.pos
  rw[qo7,w1,w2,w3,←qgk,e];exact fin x l p q b
theorem qpG{n:Nat}(h:n≤1000):(Nat.ble ((2*(n+1)+192)*24) 281474976710656&&Nat.ble (n+1) 281474976710656)=true:=by simp only[Bool.and_eq_true,qcM];omega
theorem it32:∀(k:Nat)(r:List Int)(T:List (List Int))(m:Nat),Rw r→r.length≤k+1→T.length+k≤1000→k<m→itr s32_0 m ((r,T,()),())=some (.inl ((T++(tbl k r).tail,()),()))
 |k,r,T,0,_,_,_,hm=>by omega
 |k,r,T,m+1,h,hk,ht,hm=>by
  have e:=qq2 r h.len.1 (by have:=h.len;omega) h.bd
  cases hl:lst r with
  |true=>
   rw[hl]at e
   have et:(tbl k r).tail=[]:=by
    cases k with
    |zero=>rfl
    |succ k=>simp only[tbl,hl,if_true];rfl
   simp only[itr,s32_0,t32_0,g55,e,Option.isSome_some,Option.getD_some,Bool.not_true,Tr.val_test,Tr.val_fin,if_true,Bool.false_eq_true,if_false,et,List.append_nil]
  |false=>
   rw[hl]at e
   cases k with
   |zero=>rw[qdP h (by omega)]at hl;cases hl
   |succ k=>
    have s:=qqu h hl
    have e1:=qq9 h hl
    have ih:=it32 k (rd (nxt r)) (T++[rd (nxt r)]) m s.row (by have:=s.len;omega) (by rw[List.length_append];show T.length+1+k≤1000;omega) (by omega)
    have et:(tbl (k+1) r).tail=tbl k (rd (nxt r)):=by simp only[tbl,hl,Bool.false_eq_true,if_false];rfl
    have eh:tbl k (rd (nxt r))=rd (nxt r)::(tbl k (rd (nxt r))).tail:=by
     cases k with
     |zero=>rfl
     |succ k=>simp only[tbl];split<;>rfl
    simp only[itr,s32_0,t32_0,g55,e,g56,e1,qpG (show T.length≤1000 by omega),Option.isSome_some,Option.getD_some,Bool.not_false,Tr.val_test,Tr.val_fin,if_true]
    rw[ih,et,List.append_assoc]
    congr 5
    exact eh.symm
def Py(p:List Int):Prop:=(1≤p.length∧p.length≤4)∧Bd 1000 p∧p.getD 0 0≠0
theorem Py.cons{p:List Int}(h:Py p):∃a l,p=a::l∧a≠0∧l.length≤3∧Bd 1000 (a::l):=by
 match p,h with
 |a::l,h=>exact⟨a,l,rfl,h.2.2,by have:=h.1.2;have e:(a::l).length=l.length+1:=rfl;omega,h.2.1⟩
 |[],h=>exact absurd h.1.1 (by decide)
theorem Py.rw{p:List Int}(h:Py p):Rw (rd p):=by
 obtain⟨hl,hb,h0⟩:=h
 match p,hl,hb,h0 with
 |[a],_,hb,h0=>
  have q1:=qcY (l:=[a]) a
  have b1:=hb a (by simp)
  rw[rd1];exact⟨qfv h0,by omega⟩
 |[a,b],_,hb,h0=>
  have q1:=qcY (l:=[a,b]) a
  have q2:=qcY (l:=[a,b]) b
  have b1:=hb a (by simp)
  have b2:=hb b (by simp)
  rw[rd2];exact⟨qfv h0,by omega,by omega⟩
 |[a,b,c],_,hb,h0=>
  have q1:=qcY (l:=[a,b,c]) a
  have q2:=qcY (l:=[a,b,c]) b
  have q3:=qcY (l:=[a,b,c]) c
  have b1:=hb a (by simp)
  have b2:=hb b (by simp)
  have b3:=hb c (by simp)
  rw[rd3];exact⟨qfv h0,by omega,by omega,by omega⟩
 |[a,b,c,d],_,hb,h0=>
  have q1:=qcY (l:=[a,b,c,d]) a
  have q2:=qcY (l:=[a,b,c,d]) b
  have q3:=qcY (l:=[a,b,c,d]) c
  have q4:=qcY (l:=[a,b,c,d]) d
  have b1:=hb a (by simp)
  have b2:=hb b (by simp)
  have b3:=hb c (by simp)
  have b4:=hb d (by simp)
  rw[rd4];exact⟨qfv h0,by omega,by omega,by omega,by omega⟩
 |a::b::c::d::e::l,hl,_,_=>exact absurd hl.2 (by show ¬l.length+5≤4;omega)
 |[],hl,_,_=>exact absurd hl.1 (by decide)
def tb(p:List Int):List (List Int):=tbl 3 (rd p)
theorem qif(k:Nat)(r:List Int):tbl k r=r::(tbl k r).tail:=by
 cases k with
 |zero=>rfl
 |succ k=>simp only[tbl];split<;>rfl
theorem qrr{p:List Int}(h:Py p):f54 (p,())=some (rd p,()):=by
 obtain⟨a,l,rfl,h0,h1,h2⟩:=h.cons
 exact qpJ a l (by omega) h0 fun x hx=>by have:=h2 x hx;omega
theorem qru{p:List Int}(h:Py p):f35 (p,())=some (rd p,()):=by
 obtain⟨a,l,rfl,h0,h1,h2⟩:=h.cons
 exact qpU a l (by omega) h0 fun x hx=>by have:=h2 x hx;omega
theorem qqS{p:List Int}(h:Py p):f32 (p,())=some (tb p,()):=by
 have e:=qrr h
 have e1:l32_0 ((rd p,[rd p],()),())=some (.inl (([rd p]++(tbl 3 (rd p)).tail,()),())):=it32 3 (rd p) [rd p] rounds h.rw (by have:=h.rw.len;omega) (by show 1+3≤1000;omega) (qaI (by omega))
 have e2:[rd p]++(tbl 3 (rd p)).tail=tb p:=(qif 3 (rd p)).symm
 rw[e2]at e1
 simp only[f32,t32,g54,e,e1,qa5,b32_0,outB,Option.isSome_some,Option.getD_some,Tr.val_test,Tr.val_fin,if_true]
end Go.Vm.Mo

namespace Go.Vm.Mo
open Go
set_option linter.unusedVariables false
set_option linter.unusedSimpArgs false
theorem qqb(a:Int)(T:List (List Int)):s12_0 (([a],T,()),())=some (.brk ((T,()),())):=by kernel_rfl
theorem qor(a b:Int)(T:List (List Int)):s12_0 (([a,b],T,()),())=(Tr.test (Option.isSome (f15 (b,()))) (Tr.test (!leF a (g15 (b,())).1) (Tr.test (Nat.ble ((2*(List.length T+1)+192)*24) 281474976710656&&Nat.ble (List.length T+1) 281474976710656) (Tr.fin (.ret ((T++[[1]],()),()))) Tr.stop) (Tr.fin (.brk ((T,()),())))) Tr.stop:Tr (Out sh12_0.data shb12_0.data shr12_0.data)).val:=by kernel_rfl
theorem qjc(a b c:Int)(T:List (List Int)):s12_0 (([a,b,c],T,()),())=(Tr.test (Option.isSome (f15 (c,()))) (Tr.test (!leF a (g15 (c,())).1) (Tr.test (Option.isSome (f35 ([wrap64 (wrap64 (a*a)-wrap64 (c*c)),wrap64 (wrap64 (a*b)-wrap64 (c*b))],()))) (Tr.test (Nat.ble ((2*(List.length T+1)+192)*24) 281474976710656&&Nat.ble (List.length T+1) 281474976710656) (Tr.fin (.again (((g35 ([wrap64 (wrap64 (a*a)-wrap64 (c*c)),wrap64 (wrap64 (a*b)-wrap64 (c*b))],())).1,T++[(g35 ([wrap64 (wrap64 (a*a)-wrap64 (c*c)),wrap64 (wrap64 (a*b)-wrap64 (c*b))],())).1],()),()))) Tr.stop) Tr.stop) (Tr.fin (.brk ((T,()),())))) Tr.stop:Tr (Out sh12_0.data shb12_0.data shr12_0.data)).val:=by kernel_rfl
theorem qlW(a b c d:Int)(T:List (List Int)):s12_0 (([a,b,c,d],T,()),())=(Tr.test (Option.isSome (f15 (d,()))) (Tr.test (!leF a (g15 (d,())).1) (Tr.test (Option.isSome (f35 ([wrap64 (wrap64 (a*a)-wrap64 (d*d)),wrap64 (wrap64 (a*b)-wrap64 (d*c)),wrap64 (wrap64 (a*c)-wrap64 (d*b))],()))) (Tr.test (Nat.ble ((2*(List.length T+1)+192)*24) 281474976710656&&Nat.ble (List.length T+1) 281474976710656) (Tr.fin (.again (((g35 ([wrap64 (wrap64 (a*a)-wrap64 (d*d)),wrap64 (wrap64 (a*b)-wrap64 (d*c)),wrap64 (wrap64 (a*c)-wrap64 (d*b))],())).1,T++[(g35 ([wrap64 (wrap64 (a*a)-wrap64 (d*d)),wrap64 (wrap64 (a*b)-wrap64 (d*c)),wrap64 (wrap64 (a*c)-wrap64 (d*b))],())).1],()),()))) Tr.stop) Tr.stop) (Tr.fin (.brk ((T,()),())))) Tr.stop:Tr (Out sh12_0.data shb12_0.data shr12_0.data)).val:=by kernel_rfl
theorem qrC{r:List Int}(h:Rw r){T:List (List Int)}(ht:T.length≤1000):
  (lst r=true∧s12_0 ((r,T,()),())=some (.brk ((T,()),()))) ∨
  (lst r=false∧s12_0 ((r,T,()),())=some (.again ((rd (nxt r),T++[rd (nxt r)],()),()))) ∨
  (lst r=false∧r.length=2∧rd (nxt r)=[1]∧s12_0 ((r,T,()),())=some (.ret ((T++[[1]],()),()))):=by
 have hb:=h.bd
 have lb:=qpG ht
 have fin:∀x l,0<x→l.length≤999→Bd 9000000000000000000 (x::l)→f35 (x::l,())=some (rd (x::l),()):=fun x l h1 h2 h3=>qpU x l h2 (by omega) h3
 rcases h.cases with⟨a,rfl⟩|⟨a,b,rfl⟩|⟨a,b,c,rfl⟩|⟨a,b,c,d,rfl⟩
 ·exact Or.inl ⟨qdP h (by simp),qqb a T⟩
 ·have e:=qib b (by have:=hb b (by simp);omega)
  cases hl:lst [a,b]with
  |true=>
   have k:a≤(b.natAbs:Int):=of_decide_eq_true hl
   refine Or.inl ⟨rfl,?_⟩
   rw[qor]
   simp only[g15,e,qai,nF k,Option.isSome_some,Option.getD_some,Tr.val_test,Tr.val_fin,if_true,Bool.false_eq_true,if_false]
  |false=>
   have k:¬a≤(b.natAbs:Int):=of_decide_eq_false hl
   obtain⟨_,e1,_⟩:=qiR h hl
   refine Or.inr (Or.inr ⟨rfl,rfl,e1,?_⟩)
   rw[qor]
   simp only[g15,e,qai,nT k,lb,Option.isSome_some,Option.getD_some,Tr.val_test,Tr.val_fin,if_true]
 ·have e:=qib c (by have:=hb c (by simp);omega)
  cases hl:lst [a,b,c]with
  |true=>
   have k:a≤(c.natAbs:Int):=of_decide_eq_true hl
   refine Or.inl ⟨rfl,?_⟩
   rw[qjc]
   simp only[g15,e,qai,nF k,Option.isSome_some,Option.getD_some,Tr.val_test,Tr.val_fin,if_true,Bool.false_eq_true,if_false]
  |false=>
   have k:¬a≤(c.natAbs:Int):=of_decide_eq_false hl
   obtain⟨s,w1,w2⟩:=qfA h hl
   obtain⟨x,l,en,p,q,bb⟩:=s.pos
   refine Or.inr (Or.inl ⟨rfl,?_⟩)
   rw[qjc,w1,w2,←qe1,en]
   have e1:=fin x l p q bb
   simp only[g15,e,qai,nT k,g35,e1,lb,Option.isSome_some,Option.getD_some,Tr.val_test,Tr.val_fin,if_true]
 ·have e:=qib d (by have:=hb d (by simp);omega)
  cases hl:lst [a,b,c,d]with
  |true=>
   have k:a≤(d.natAbs:Int):=of_decide_eq_true hl
   refine Or.inl ⟨rfl,?_⟩
   rw[qlW]
   simp only[g15,e,qai,nF k,Option.isSome_some,Option.getD_some,Tr.val_test,Tr.val_fin,if_true,Bool.false_eq_true,if_false]
  |false=>
   have k:¬a≤(d.natAbs:Int):=of_decide_eq_false hl
   obtain⟨s,w1,w2,w3⟩:=qg0 h hl
   obtain⟨x,l,en,p,q,bb⟩:=s.pos
   refine Or.inr (Or.inl ⟨rfl,?_⟩)
   rw[qlW,w1,w2,w3,←qgk,en]
   have e1:=fin x l p q bb
   simp only[g15,e,qai,nT k,g35,e1,lb,Option.isSome_some,Option.getD_some,Tr.val_test,Tr.val_fin,if_true]
theorem it12:∀(k:Nat)(r:List Int)(T:List (List Int))(m:Nat),Rw r→r.length≤k+1→T.length+k≤1000→k<m →
  itr s12_0 m ((r,T,()),())=some (.inl ((T++(tbl k r).tail,()),()))∨itr s12_0 m ((r,T,()),())=some (.inr ((T++(tbl k r).tail,()),()))
 |k,r,T,0,_,_,_,hm=>by omega
 |k,r,T,m+1,h,hk,ht,hm=>by
  rcases qrC h (T:=T) (by omega)with⟨hl,e⟩|⟨hl,e⟩|⟨hl,h2,e1,e⟩
  ·have et:(tbl k r).tail=[]:=by
    cases k with
    |zero=>rfl
    |succ k=>simp only[tbl,hl,if_true];rfl
   left
   simp only[itr,e,et,List.append_nil]
  ·cases k with
   |zero=>rw[qdP h (by omega)]at hl;cases hl
   |succ k=>
    have s:=qqu h hl
    have ih:=it12 k (rd (nxt r)) (T++[rd (nxt r)]) m s.row (by have:=s.len;omega) (by rw[List.length_append];show T.length+1+k≤1000;omega) (by omega)
    have et:(tbl (k+1) r).tail=tbl k (rd (nxt r)):=by simp only[tbl,hl,Bool.false_eq_true,if_false];rfl
    have ea:T++(tbl (k+1) r).tail=T++[rd (nxt r)]++(tbl k (rd (nxt r))).tail:=by
     rw[et,List.append_assoc];congr 1;exact qif k _
    simp only[itr,e]
    rw[ea];exact ih
  ·cases k with
   |zero=>omega
   |succ k=>
    have s:=qqu h hl
    have et:(tbl (k+1) r).tail=tbl k (rd (nxt r)):=by simp only[tbl,hl,Bool.false_eq_true,if_false];rfl
    have e2:tbl k (rd (nxt r))=[[1]]:=by
     rw[e1]
     cases k with
     |zero=>rfl
     |succ k=>simp only[tbl];rfl
    right
    simp only[itr,e,et,e2]
theorem qrb{p:List Int}(h:Py p):f12 (p,())=some (tb p,()):=by
 have e:=qru h
 have e1:l12_0 ((rd p,[rd p],()),())=some (.inl (([rd p]++(tbl 3 (rd p)).tail,()),()))∨l12_0 ((rd p,[rd p],()),())=some (.inr (([rd p]++(tbl 3 (rd p)).tail,()),())):=it12 3 (rd p) [rd p] rounds h.rw (by have:=h.rw.len;omega) (by show 1+3≤1000;omega) (qaI (by omega))
 have e2:[rd p]++(tbl 3 (rd p)).tail=tb p:=(qif 3 (rd p)).symm
 rw[e2]at e1
 rcases e1 with e1|e1
 ·simp only[f12,t12,g35,e,e1,qbg,b12_0,outB,Option.isSome_some,Option.getD_some,Tr.val_test,Tr.val_fin,if_true,Bool.false_eq_true,if_false]
 ·simp only[f12,t12,g35,e,e1,qbg,r12_0,outR,Option.isSome_some,Option.getD_some,Tr.val_test,Tr.val_fin,if_true]
end Go.Vm.Mo

namespace Go.Vm.Mo
open Go
set_option linter.unusedVariables false
set_option linter.unusedSimpArgs false
def badP(p:List Int):Option Nat:=first (fun i=>!wi (-1000) 1000 (p.getD i 0)) p.length 0
def pE(p:List Int):Int:=if p.length=0 then 10 else if 4<p.length then 8 else if(badP p).isSome=true then 2 else if p.getD 0 0=0 then 11 else 0
theorem qpL(n:Nat):f52 ((n:Int),())=some (if n=0 then(10:Int)else if 4<n then 8 else 0,()):=by
 have e94:∀x y:Int,f42 ([x,y],())=some (qb9 [x,y],()):=fun x y=>qlz _ (by simp)
 simp only[f52,t52,g38,qel,g42,e94,qai,qar,Option.isSome_some,Option.getD_some,Tr.val_test,Tr.val_fin,if_true,qb9]
 by_cases h1:n=0
 ·rw[dT (show(n:Int)=0 by omega),if_pos h1];rfl
 ·rw[dF (show ¬(n:Int)=0 by omega),if_neg h1]
  by_cases h2:4<n
  ·rw[nT (show ¬(n:Int)≤4 by omega),if_pos h2];rfl
  ·rw[nF (show(n:Int)≤4 by omega),if_neg h2];rfl
theorem qnd(p:List Int)(h:p.length≤1000000):f53 (1000,p,())=some ((badP p).isSome,()):=by
 have w:Go.IntKind.wrap Go.IntKind.i64 (0-1000)=-1000:=rfl
 have e:=qnH (-1000) 1000 p (by omega)
 simp only[f53,t53,w,g43,e,Option.isSome_some,Option.getD_some,Tr.val_test,Tr.val_fin,if_true]
 show some ((!(badP p).isNone),())=some ((badP p).isSome,())
 cases badP p<;>rfl
theorem qnT(p:List Int)(h:p.length≤1000000):f31 (p,())=some (pE p,()):=by
 have e1:=qpL p.length
 have e2:=qnd p h
 have e3:∀x y z:Int,f42 ([x,y,z],())=some (qb9 [x,y,z],()):=fun x y z=>qlz _ (by simp)
 simp only[f31,t31,g52,e1,g53,e2,g38,qel,g42,e3,qai,qar,Option.isSome_some,Option.getD_some,Tr.val_test,Tr.val_fin,if_true,pE]
 by_cases h1:p.length=0
 ·rw[nF (show(p.length:Int)≤0 by omega)]
  simp only[if_pos h1]
  cases badP p<;>rfl
 ·rw[nT (show ¬(p.length:Int)≤0 by omega),dT (show(0:Int)<(p.length:Int)by omega)]
  simp only[if_neg h1]
  by_cases h2:4<p.length
  ·simp only[if_pos h2]
   cases badP p<;>rfl
  ·simp only[if_neg h2]
   by_cases h3:p.getD 0 0=0
   ·simp only[dT h3,if_pos h3]
    cases badP p<;>rfl
   ·simp only[dF h3,if_neg h3]
    cases badP p<;>rfl
theorem l10(p:List Int)(h:p.length≤1000000):l10_0 ((p,(0:Int),()),())=match badP p with
  |some _=>some (.inr (((2:Int),()),()))
  |none=>some (.inl ((p,()),())):=by
 refine qbw (fun i=>((p,(i:Int),()),())) (fun i=>!wi (-1000) 1000 (p.getD i 0)) (fun _=>(((2:Int),()),())) (n:=p.length) ?_ ?_ (qaI (by omega))
 ·intro i hi
  have q1:(!decide ((p.length:Int)≤(i:Int)))=true:=nT (by omega)
  have b1:(decide ((0:Int)≤(i:Int))&&decide ((i:Int)<(p.length:Int)))=true:=dA (by omega) (by omega)
  have e:f16 (p.getD i 0,-1000,1000,())=some (wi (-1000) 1000 (p.getD i 0),()):=ql1 _
  simp only[s10_0,t10_0,q1,b1,qai,g16,e,Int.toNat_natCast,qby (show i≤9223372036854775806 by omega),Option.isSome_some,Option.getD_some,Tr.val_test,Tr.val_fin,if_true]
 ·have q1:(!decide ((p.length:Int)≤(p.length:Int)))=false:=nF (by omega)
  simp only[s10_0,t10_0,qai,q1,Tr.val_test,Tr.val_fin,Bool.false_eq_true,if_false]
theorem qqP(p:List Int)(h:p.length≤1000000):f10 (p,())=some (pE p,()):=by
 have e:=l10 p h
 simp only[f10,t10,qai,qar,Tr.val_test,Tr.val_fin,pE]
 by_cases h1:p.length=0
 ·rw[dT (show(p.length:Int)=0 by omega),if_pos rfl,if_pos h1]
 ·rw[dF (show ¬(p.length:Int)=0 by omega),if_neg h1,if_neg (by decide)]
  by_cases h2:4<p.length
  ·rw[nT (show ¬(p.length:Int)≤4 by omega),if_pos h2,if_pos rfl]
  ·rw[nF (show(p.length:Int)≤4 by omega),if_neg h2,if_neg (by decide)]
   have q:(true&&decide ((0:Int)<(p.length:Int)))=true:=by rw[dT (show(0:Int)<(p.length:Int)by omega)];rfl
   cases hb:badP p with
   |none=>
    rw[hb]at e
    simp only[e,qbg,b10_0,outB,q,Option.isSome_some,Option.isSome_none,if_true,Bool.false_eq_true,if_false]
    by_cases h3:p.getD 0 0=0
    ·rw[dT h3,if_pos rfl,if_pos h3]
    ·rw[dF h3,if_neg (by decide),if_neg h3]
   |some k=>
    rw[hb]at e
    simp only[e,qbg,r10_0,outR,Option.isSome_some,if_true]
theorem qrG{p:List Int}(h:pE p=0):Py p:=by
 unfold pE at h
 split at h
 ·cases h
 ·split at h
  ·cases h
  ·split at h
   ·cases h
   ·split at h
    ·cases h
    ·rename_i h1 h2 h3 h4
     refine⟨⟨by omega,by omega⟩,fun x hx=>?_,h4⟩
     obtain⟨i,hi,rfl⟩:=List.mem_iff_getElem.1 hx
     cases hb:badP p with
     |some k=>rw[hb]at h3;exact absurd rfl h3
     |none=>
      have:=qbc hb i (Nat.zero_le _) (by omega)
      have:wi (-1000) 1000 (p.getD i 0)=true:=by simpa using this
      have:=wi_iff.1 this
      rw[qgJ p 0 i hi]at this
      omega
def stb(p:List Int):Bool:=decide ((((tb p).getD ((tb p).length-1) []).length:Int)=1)
theorem qlc:∀(k:Nat)(r:List Int),1≤(tbl k r).length∧(tbl k r).length≤k+1
 |0,r=>⟨Nat.le_refl _,Nat.le_refl _⟩
 |k+1,r=>by
  simp only[tbl]
  split
  ·exact⟨Nat.le_refl _,by show 1≤k+1+1;omega⟩
  ·have:=qlc k (rd (nxt r))
   simp only[List.length_cons]
   omega
theorem qpN{p:List Int}(h:Py p):f33 (p,())=some (stb p,()):=by
 have e:=qqS h
 have hl:=qlc 3 (rd p)
 have hl':1≤(tb p).length∧(tb p).length≤4:=hl
 have w:wrap64 (((tb p).length:Int)-1)=(((tb p).length-1:Nat):Int):=by rw[qaF (by omega) (by omega)];omega
 have q:(decide ((0:Int)≤(((tb p).length-1:Nat):Int))&&decide ((((tb p).length-1:Nat):Int)<((tb p).length:Int)))=true:=dA (by omega) (by omega)
 simp only[f33,t33,g32,e,w,q,Int.toNat_natCast,qar,Option.isSome_some,Option.getD_some,Tr.val_test,Tr.val_fin,if_true,stb]
theorem qry{p:List Int}(h:Py p):f13 (p,())=some (stb p,()):=by
 have e:=qrb h
 have hl':1≤(tb p).length∧(tb p).length≤4:=qlc 3 (rd p)
 have w:wrap64 (((tb p).length:Int)-1)=(((tb p).length-1:Nat):Int):=by rw[qaF (by omega) (by omega)];omega
 have q:(decide ((0:Int)≤(((tb p).length-1:Nat):Int))&&decide ((((tb p).length-1:Nat):Int)<((tb p).length:Int)))=true:=dA (by omega) (by omega)
 simp only[f13,t13,g12,e,w,q,Int.toNat_natCast,qar,Option.isSome_some,Option.getD_some,Tr.val_test,Tr.val_fin,if_true,stb]
theorem f9_bad{p:List Int}(h:p.length≤1000000)(z:¬pE p=0):f9 (p,())=some (false,pE p,()):=by
 have e:=qnT p h
 simp only[f9,t9,g31,e,qar,nT z,Option.isSome_some,Option.getD_some,Tr.val_test,Tr.val_fin,if_true]
theorem qrf{p:List Int}(h:p.length≤1000000)(z:pE p=0):f9 (p,())=some (stb p,0,()):=by
 have e:=qnT p h
 rw[z]at e
 have e1:=qpN (qrG z)
 simp only[f9,t9,g31,e,qar,decide_true,Bool.not_true,g33,e1,Option.isSome_some,Option.getD_some,Tr.val_test,Tr.val_fin,if_true,Bool.false_eq_true,if_false]
end Go.Vm.Mo

namespace Go.Vm.Mo
open Go
set_option linter.unusedVariables false
set_option linter.unusedSimpArgs false
def pm(bs ys:List Int)(m:Int):List Int:=List.zipWith (fun x y=>x+m*y) bs ys
theorem wm{x y m:Int}(hx:x.natAbs≤1000)(hy:y.natAbs≤1000)(m0:0≤m)(m1:m≤40):wrap64 (x+wrap64 (m*y))=x+m*y:=by
 have h:(m*y).natAbs≤40*1000:=qbU (show m.natAbs≤40 by omega) hy
 rw[qaF (n:=m*y) (by omega) (by omega),qaF (by omega) (by omega)]
theorem qrD(p u m:Int):l105_0 (((1:Int),((0:Int),())),((),(([p],()),(([u],()),((m,()),((([]:List Int),()),()))))))=some (.inl ((),((),(([p],()),(([u],()),((m,()),(([wrap64 (p+wrap64 (m*u))],()),()))))))):=by kernel_rfl
theorem qri(p q u v m:Int):l105_0 (((2:Int),((0:Int),())),((),(([p,q],()),(([u,v],()),((m,()),((([]:List Int),()),()))))))=some (.inl ((),((),(([p,q],()),(([u,v],()),((m,()),(([wrap64 (p+wrap64 (m*u)),wrap64 (q+wrap64 (m*v))],()),()))))))):=by kernel_rfl
theorem qrc(p q r u v w m:Int):l105_0 (((3:Int),((0:Int),())),((),(([p,q,r],()),(([u,v,w],()),((m,()),((([]:List Int),()),()))))))=some (.inl ((),((),(([p,q,r],()),(([u,v,w],()),((m,()),(([wrap64 (p+wrap64 (m*u)),wrap64 (q+wrap64 (m*v)),wrap64 (r+wrap64 (m*w))],()),()))))))):=by kernel_rfl
theorem qrg(p q r s u v w x m:Int):l105_0 (((4:Int),((0:Int),())),((),(([p,q,r,s],()),(([u,v,w,x],()),((m,()),((([]:List Int),()),()))))))=some (.inl ((),((),(([p,q,r,s],()),(([u,v,w,x],()),((m,()),(([wrap64 (p+wrap64 (m*u)),wrap64 (q+wrap64 (m*v)),wrap64 (r+wrap64 (m*w)),wrap64 (s+wrap64 (m*x))],()),()))))))):=by kernel_rfl
theorem qrK(p u m lo hi:Int):l22_0 ((m,(([]:List Int),((0:Int),()))),(([p],([u],(lo,(hi,())))),()))=some (.inl (([wrap64 (p+wrap64 (m*u))],()),(([p],([u],(lo,(hi,())))),()))):=by kernel_rfl
theorem qrM(p q u v m lo hi:Int):l22_0 ((m,(([]:List Int),((0:Int),()))),(([p,q],([u,v],(lo,(hi,())))),()))=some (.inl (([wrap64 (p+wrap64 (m*u)),wrap64 (q+wrap64 (m*v))],()),(([p,q],([u,v],(lo,(hi,())))),()))):=by kernel_rfl
theorem qrT(p q r u v w m lo hi:Int):l22_0 ((m,(([]:List Int),((0:Int),()))),(([p,q,r],([u,v,w],(lo,(hi,())))),()))=some (.inl (([wrap64 (p+wrap64 (m*u)),wrap64 (q+wrap64 (m*v)),wrap64 (r+wrap64 (m*w))],()),(([p,q,r],([u,v,w],(lo,(hi,())))),()))):=by kernel_rfl
theorem qrO(p q r s u v w x m lo hi:Int):l22_0 ((m,(([]:List Int),((0:Int),()))),(([p,q,r,s],([u,v,w,x],(lo,(hi,())))),()))=some (.inl (([wrap64 (p+wrap64 (m*u)),wrap64 (q+wrap64 (m*v)),wrap64 (r+wrap64 (m*w)),wrap64 (s+wrap64 (m*x))],()),(([p,q,r,s],([u,v,w,x],(lo,(hi,())))),()))):=by kernel_rfl
structure Cf(bs ys:List Int):Prop where
 len:ys.length=bs.length
 one:1≤bs.length
 four:bs.length≤4
 bb:Bd 1000 bs
 by_:Bd 1000 ys
theorem qlk{bs ys:List Int}(h:Cf bs ys)(m:Int):(pm bs ys m).length=bs.length:=by
 have:=h.len
 unfold pm;rw[List.length_zipWith];omega
theorem Cf.cases{bs ys:List Int}(h:Cf bs ys){M:List Int→List Int→Prop}(h1:∀p u,Cf [p] [u]→M [p] [u])(h2:∀p q u v,Cf [p,q] [u,v]→M [p,q] [u,v])(h3:∀p q r u v w,Cf [p,q,r] [u,v,w]→M [p,q,r] [u,v,w])(h4:∀p q r s u v w x,Cf [p,q,r,s] [u,v,w,x]→M [p,q,r,s] [u,v,w,x]):M bs ys:=by
 have k1:=h.len
 have k2:=h.one
 have k3:=h.four
 match bs,ys,h,k1,k2,k3 with
 |[p],[u],h,_,_,_=>exact h1 p u h
 |[p,q],[u,v],h,_,_,_=>exact h2 p q u v h
 |[p,q,r],[u,v,w],h,_,_,_=>exact h3 p q r u v w h
 |[p,q,r,s],[u,v,w,x],h,_,_,_=>exact h4 p q r s u v w x h
 |[],_,_,_,k,_=>exact absurd k (by decide)
 |_::_::_::_::_::_,_,_,_,_,k=>simp only[List.length_cons]at k;omega
 |[_],[],_,k,_,_=>exact absurd k (by simp)
 |[_],_::_::_,_,k,_,_=>simp only[List.length_cons,List.length_nil]at k;omega
 |[_,_],[],_,k,_,_=>exact absurd k (by simp)
 |[_,_],[_],_,k,_,_=>exact absurd k (by simp)
 |[_,_],_::_::_::_,_,k,_,_=>simp only[List.length_cons,List.length_nil]at k;omega
 |[_,_,_],[],_,k,_,_=>exact absurd k (by simp)
 |[_,_,_],[_],_,k,_,_=>exact absurd k (by simp)
 |[_,_,_],[_,_],_,k,_,_=>exact absurd k (by simp)
 |[_,_,_],_::_::_::_::_,_,k,_,_=>simp only[List.length_cons,List.length_nil]at k;omega
 |[_,_,_,_],[],_,k,_,_=>exact absurd k (by simp)
 |[_,_,_,_],[_],_,k,_,_=>exact absurd k (by simp)
 |[_,_,_,_],[_,_],_,k,_,_=>exact absurd k (by simp)
 |[_,_,_,_],[_,_,_],_,k,_,_=>exact absurd k (by simp)
 |[_,_,_,_],_::_::_::_::_::_,_,k,_,_=>simp only[List.length_cons,List.length_nil]at k;omega
theorem qm5{bs ys:List Int}(h:Cf bs ys){m:Int}(m0:0≤m)(m1:m≤40):l105_0 (((if(ys.length:Int)<(bs.length:Int)then(ys.length:Int)else(bs.length:Int)),((0:Int),())),((),((bs,()),((ys,()),((m,()),((([]:List Int),()),()))))))=some (.inl ((),((),((bs,()),((ys,()),((m,()),((pm bs ys m,()),()))))))):=by
 rw[if_neg (by have:=h.len;omega)]
 refine h.cases (M:=fun bs ys=>l105_0 (((bs.length:Int),((0:Int),())),((),((bs,()),((ys,()),((m,()),((([]:List Int),()),()))))))=some (.inl ((),((),((bs,()),((ys,()),((m,()),((pm bs ys m,()),())))))))) ?_ ?_ ?_ ?_
 ·intro p u h
  have e:=qrD p u m
  rw[wm (h.bb p (by simp)) (h.by_ u (by simp)) m0 m1]at e
  exact e
 ·intro p q u v h
  have e:=qri p q u v m
  rw[wm (h.bb p (by simp)) (h.by_ u (by simp)) m0 m1,wm (h.bb q (by simp)) (h.by_ v (by simp)) m0 m1]at e
  exact e
 ·intro p q r u v w h
  have e:=qrc p q r u v w m
  rw[wm (h.bb p (by simp)) (h.by_ u (by simp)) m0 m1,wm (h.bb q (by simp)) (h.by_ v (by simp)) m0 m1,wm (h.bb r (by simp)) (h.by_ w (by simp)) m0 m1]at e
  exact e
 ·intro p q r s u v w x h
  have e:=qrg p q r s u v w x m
  rw[wm (h.bb p (by simp)) (h.by_ u (by simp)) m0 m1,wm (h.bb q (by simp)) (h.by_ v (by simp)) m0 m1,wm (h.bb r (by simp)) (h.by_ w (by simp)) m0 m1,wm (h.bb s (by simp)) (h.by_ x (by simp)) m0 m1]at e
  exact e
theorem qra{bs ys:List Int}(h:Cf bs ys){m:Int}(m0:0≤m)(m1:m≤40)(lo hi:Int):l22_0 ((m,(([]:List Int),((0:Int),()))),((bs,(ys,(lo,(hi,())))),()))=some (.inl ((pm bs ys m,()),((bs,(ys,(lo,(hi,())))),()))):=by
 refine h.cases (M:=fun bs ys=>l22_0 ((m,(([]:List Int),((0:Int),()))),((bs,(ys,(lo,(hi,())))),()))=some (.inl ((pm bs ys m,()),((bs,(ys,(lo,(hi,())))),())))) ?_ ?_ ?_ ?_
 ·intro p u h
  have e:=qrK p u m lo hi
  rw[wm (h.bb p (by simp)) (h.by_ u (by simp)) m0 m1]at e
  exact e
 ·intro p q u v h
  have e:=qrM p q u v m lo hi
  rw[wm (h.bb p (by simp)) (h.by_ u (by simp)) m0 m1,wm (h.bb q (by simp)) (h.by_ v (by simp)) m0 m1]at e
  exact e
 ·intro p q r u v w h
  have e:=qrT p q r u v w m lo hi
  rw[wm (h.bb p (by simp)) (h.by_ u (by simp)) m0 m1,wm (h.bb q (by simp)) (h.by_ v (by simp)) m0 m1,wm (h.bb r (by simp)) (h.by_ w (by simp)) m0 m1]at e
  exact e
 ·intro p q r s u v w x h
  have e:=qrO p q r s u v w x m lo hi
  rw[wm (h.bb p (by simp)) (h.by_ u (by simp)) m0 m1,wm (h.bb q (by simp)) (h.by_ v (by simp)) m0 m1,wm (h.bb r (by simp)) (h.by_ w (by simp)) m0 m1,wm (h.bb s (by simp)) (h.by_ x (by simp)) m0 m1]at e
  exact e
theorem qlD{bs ys:List Int}(h:Cf bs ys){m:Int}(m0:0≤m)(m1:m≤40)(lo hi:Int):f22 ((bs,(ys,((lo,(hi,())),()))),(m,()))=some (pm bs ys m,()):=by
 have e:=qra h m0 m1 lo hi
 simp only[f22,t22,e,b22_0,outB,qa5,Tr.val_test,Tr.val_fin,if_true]
end Go.Vm.Mo

namespace Go.Vm.Mo
open Go
set_option linter.unusedVariables false
set_option linter.unusedSimpArgs false
def nM(a b:Int):Nat:=(b+1-a).toNat
def badE(bs ys:List Int)(a b:Int):Option Nat:=first (fun i=>!decide (pE (pm bs ys (a+i))=0)) (nM a b) 0
def badS(bs ys:List Int)(a b:Int):Option Nat:=first (fun i=>!stb (pm bs ys (a+i))) (nM a b) 0
theorem wN{m:Int}(m0:0≤m)(m1:m≤40):wrap64 (m+1)=m+1:=qaF (by omega) (by omega)
theorem qqU{bs ys:List Int}(h:Cf bs ys){a b:Int}(a0:0≤a)(ab:a≤b)(b1:b≤40)(z1 z2 z3:Int):
  l86_0 ((),((),((bs,(ys,(a,(b,())))),((z1,(z2,())),((z3,()),((a,()),()))))))=match badE bs ys a b with
   |some k=>some (.inr ((),((),((bs,(ys,(a,(b,())))),(((0:Int),((0:Int),())),((pE (pm bs ys (a+k)),()),((a+k,()),())))))))
   |none=>some (.inl ((),((),((bs,(ys,(a,(b,())))),((z1,(z2,())),((z3,()),((a+(nM a b:Nat),()),()))))))):=by
 have hs:=qbw (step:=s86_0) (fun i:Nat=>((),((),((bs,(ys,(a,(b,())))),((z1,(z2,())),((z3,()),((a+(i:Int),()),())))))))
  (fun i=>!decide (pE (pm bs ys (a+i))=0)) (fun k:Nat=>((),((),((bs,(ys,(a,(b,())))),(((0:Int),((0:Int),())),((pE (pm bs ys (a+k)),()),((a+(k:Int),()),()))))))) (n:=nM a b) (m:=rounds)
  (b:=((),((),((bs,(ys,(a,(b,())))),((z1,(z2,())),((z3,()),((a+((nM a b:Nat):Int),()),()))))))) ?_ ?_ (qaI (by unfold nM;omega))
 ·rw[show a+((0:Nat):Int)=a by omega]at hs
  exact hs
 ·intro i hi
  have hi':a+(i:Int)≤b:=by unfold nM at hi;omega
  have e:=qm5 h (m:=a+i) (by omega) (by omega)
  have e1:=qnT (pm bs ys (a+i)) (by rw[qlk h];have:=h.four;omega)
  have w:wrap64 (a+(i:Int)+1)=a+((i+1:Nat):Int):=by rw[wN (m:=a+i) (by omega) (by omega)];omega
  simp only[s86_0,t86_0,qai,dT hi',e,b105_0,outB,qa5,g31,e1,qar,w,Option.isSome_some,Option.getD_some,Tr.val_test,Tr.val_fin,if_true]
 ·have hn:¬a+((nM a b:Nat):Int)≤b:=by unfold nM;omega
  simp only[s86_0,t86_0,qai,dF hn,Tr.val_test,Tr.val_fin,Bool.false_eq_true,if_false]
theorem qnf{bs ys:List Int}(h:Cf bs ys){a b:Int}(a0:0≤a)(ab:a≤b)(b1:b≤40)(hp:∀i:Nat,i<nM a b→Py (pm bs ys (a+i)))(z1:Int)(z2:Bool):
  l86_0_1 ((),((),((bs,(ys,(a,(b,())))),((z1,()),((z2,()),((a,()),()))))))=match badS bs ys a b with
   |some k=>some (.inr ((),((),((bs,(ys,(a,(b,())))),((a+(k:Int),()),(((true:Bool),()),((a+k,()),())))))))
   |none=>some (.inl ((),((),((bs,(ys,(a,(b,())))),((z1,()),((z2,()),((a+(nM a b:Nat),()),()))))))):=by
 have hs:=qbw (step:=s86_0_1) (fun i:Nat=>((),((),((bs,(ys,(a,(b,())))),((z1,()),((z2,()),((a+(i:Int),()),())))))))
  (fun i=>!stb (pm bs ys (a+i))) (fun k:Nat=>((),((),((bs,(ys,(a,(b,())))),((a+(k:Int),()),(((true:Bool),()),((a+(k:Int),()),()))))))) (n:=nM a b) (m:=rounds)
  (b:=((),((),((bs,(ys,(a,(b,())))),((z1,()),((z2,()),((a+((nM a b:Nat):Int),()),()))))))) ?_ ?_ (qaI (by unfold nM;omega))
 ·rw[show a+((0:Nat):Int)=a by omega]at hs
  exact hs
 ·intro i hi
  have hi':a+(i:Int)≤b:=by unfold nM at hi;omega
  have e:=qm5 h (m:=a+i) (by omega) (by omega)
  have e1:=qpN (hp i hi)
  have w:wrap64 (a+(i:Int)+1)=a+((i+1:Nat):Int):=by rw[wN (m:=a+i) (by omega) (by omega)];omega
  simp only[s86_0_1,t86_0_1,qai,dT hi',e,b105_0,outB,qa5,g33,e1,w,Option.isSome_some,Option.getD_some,Tr.val_test,Tr.val_fin,if_true]
 ·have hn:¬a+((nM a b:Nat):Int)≤b:=by unfold nM;omega
  simp only[s86_0_1,t86_0_1,qai,dF hn,Tr.val_test,Tr.val_fin,Bool.false_eq_true,if_false]
theorem qqX{bs ys:List Int}(h:Cf bs ys){a b:Int}(a0:0≤a)(ab:a≤b)(b1:b≤40):
  l20_2 ((a,()),((bs,(ys,(a,(b,())))),()))=match badE bs ys a b with
   |some k=>some (.inr ((pE (pm bs ys (a+k)),()),((bs,(ys,(a,(b,())))),())))
   |none=>some (.inl ((),((bs,(ys,(a,(b,())))),()))):=by
 have hs:=qbw (step:=s20_2) (fun i:Nat=>((a+(i:Int),()),((bs,(ys,(a,(b,())))),())))
  (fun i=>!decide (pE (pm bs ys (a+i))=0)) (fun k:Nat=>((pE (pm bs ys (a+k)),()),((bs,(ys,(a,(b,())))),()))) (n:=nM a b) (m:=rounds)
  (b:=((),((bs,(ys,(a,(b,())))),()))) ?_ ?_ (qaI (by unfold nM;omega))
 ·rw[show a+((0:Nat):Int)=a by omega]at hs
  exact hs
 ·intro i hi
  have hi':a+(i:Int)≤b:=by unfold nM at hi;omega
  have e:=qlD h (m:=a+i) (by omega) (by omega) a b
  have e1:=qqP (pm bs ys (a+i)) (by rw[qlk h];have:=h.four;omega)
  have w:wrap64 (a+(i:Int)+1)=a+((i+1:Nat):Int):=by rw[wN (m:=a+i) (by omega) (by omega)];omega
  simp only[s20_2,t20_2,qai,dT hi',g22,e,g10,e1,qar,w,Option.isSome_some,Option.getD_some,Tr.val_test,Tr.val_fin,if_true]
 ·have hn:¬a+((nM a b:Nat):Int)≤b:=by unfold nM;omega
  simp only[s20_2,t20_2,qai,dF hn,Tr.val_test,Tr.val_fin,Bool.false_eq_true,if_false]
theorem qou{bs ys:List Int}(h:Cf bs ys){a b:Int}(a0:0≤a)(ab:a≤b)(b1:b≤40)(hp:∀i:Nat,i<nM a b→Py (pm bs ys (a+i))):
  l21_0 ((a,()),((bs,(ys,(a,(b,())))),()))=match badS bs ys a b with
   |some k=>some (.inr ((a+(k:Int),((true:Bool),())),((bs,(ys,(a,(b,())))),())))
   |none=>some (.inl ((),((bs,(ys,(a,(b,())))),()))):=by
 have hs:=qbw (step:=s21_0) (fun i:Nat=>((a+(i:Int),()),((bs,(ys,(a,(b,())))),())))
  (fun i=>!stb (pm bs ys (a+i))) (fun k:Nat=>((a+(k:Int),((true:Bool),())),((bs,(ys,(a,(b,())))),()))) (n:=nM a b) (m:=rounds)
  (b:=((),((bs,(ys,(a,(b,())))),()))) ?_ ?_ (qaI (by unfold nM;omega))
 ·rw[show a+((0:Nat):Int)=a by omega]at hs
  exact hs
 ·intro i hi
  have hi':a+(i:Int)≤b:=by unfold nM at hi;omega
  have e:=qlD h (m:=a+i) (by omega) (by omega) a b
  have e1:=qry (hp i hi)
  have w:wrap64 (a+(i:Int)+1)=a+((i+1:Nat):Int):=by rw[wN (m:=a+i) (by omega) (by omega)];omega
  simp only[s21_0,t21_0,qai,dT hi',g22,e,g13,e1,w,Option.isSome_some,Option.getD_some,Tr.val_test,Tr.val_fin,if_true]
 ·have hn:¬a+((nM a b:Nat):Int)≤b:=by unfold nM;omega
  simp only[s21_0,t21_0,qai,dF hn,Tr.val_test,Tr.val_fin,Bool.false_eq_true,if_false]
end Go.Vm.Mo

namespace Go.Vm.Mo
open Go
set_option linter.unusedVariables false
set_option linter.unusedSimpArgs false
theorem e16(x lo hi:Int):f16 (x,lo,hi,())=some (wi lo hi x,()):=ql1 _
def cE(bs ys:List Int)(a b:Int):Int:=
 if ys.length=bs.length then if bs.length=0 then 10 else if 4<bs.length then 8 else if(wi 0 40 a&&wi 0 40 b)=true then if b<a then 9 else if((badP bs).isSome||(badP ys).isSome)=true then 2 else 0 else 2 else 10
theorem qol{p:List Int}(h:(badP p).isSome=false):Bd 1000 p:=by
 intro x hx
 obtain⟨i,hi,rfl⟩:=List.mem_iff_getElem.1 hx
 cases hb:badP p with
 |some k=>rw[hb]at h;cases h
 |none=>
  have:=qbc hb i (Nat.zero_le _) (by omega)
  have:wi (-1000) 1000 (p.getD i 0)=true:=by simpa using this
  have:=wi_iff.1 this
  rw[qgJ p 0 i hi]at this
  omega
theorem qlf{bs ys:List Int}{a b:Int}(h:cE bs ys a b=0):Cf bs ys∧0≤a∧a≤b∧b≤40:=by
 unfold cE at h
 split at h
 ·rename_i h1
  split at h
  ·cases h
  ·rename_i h2
   split at h
   ·cases h
   ·rename_i h3
    split at h
    ·rename_i h4
     split at h
     ·cases h
     ·rename_i h5
      split at h
      ·cases h
      ·rename_i h6
       simp only[Bool.or_eq_true,not_or,Bool.not_eq_true]at h6
       simp only[Bool.and_eq_true,wi_iff]at h4
       exact⟨⟨h1,by omega,by omega,qol h6.1,qol h6.2⟩,by omega,by omega,by omega⟩
    ·cases h
 ·cases h
theorem qqZ(a b:Int):f58 ((a,(b,())),())=some (if(wi 0 40 a&&wi 0 40 b)=true then(if b<a then 9 else 0)else(2:Int),()):=by
 have e:=qqk 0 40 a b
 have e94:∀x y:Int,f42 ([x,y],())=some (qb9 [x,y],()):=fun x y=>qlz _ (by simp)
 simp only[f58,t58,g43,e,g38,qel,g42,e94,qai,Option.isSome_some,Option.getD_some,Tr.val_test,Tr.val_fin,if_true]
 rcases Bool.eq_false_or_eq_true (wi 0 40 a&&wi 0 40 b)with k|k
 ·simp only[k,Bool.not_true,Bool.false_eq_true,if_false,if_true]
  by_cases h:b<a
  ·rw[nT (show ¬a≤b by omega),if_pos h];rfl
  ·rw[nF (show a≤b by omega),if_neg h];rfl
 ·simp only[k,Bool.not_false,Bool.false_eq_true,if_false,if_true];rfl
def badC(bs ys:List Int):Option Nat:=first (fun i=>!(wi (-1000) 1000 (bs.getD i 0)&&wi (-1000) 1000 (ys.getD i 0))) bs.length 0
theorem qqp{bs ys:List Int}(h:ys.length=bs.length):(badC bs ys).isSome=((badP bs).isSome||(badP ys).isSome):=by
 cases hc:badC bs ys with
 |none=>
  have hn:=qbc hc
  have h1:badP bs=none:=qce fun j _ hj=>by
   have:=hn j (Nat.zero_le _) (by omega)
   simp only[Bool.not_eq_false',Bool.and_eq_true]at this
   rw[this.1];rfl
  have h2:badP ys=none:=qce fun j _ hj=>by
   have:=hn j (Nat.zero_le _) (by omega)
   simp only[Bool.not_eq_false',Bool.and_eq_true]at this
   rw[this.2];rfl
  rw[h1,h2];rfl
 |some k=>
  obtain⟨_,k2,k3,_⟩:=first_some hc
  cases h1:badP bs with
  |some j=>rfl
  |none=>
   cases h2:badP ys with
   |some j=>rfl
   |none=>
    have q1:=qbc h1 k (Nat.zero_le _) (by omega)
    have q2:=qbc h2 k (Nat.zero_le _) (by omega)
    simp only[Bool.not_eq_false']at q1 q2
    rw[q1,q2]at k3;cases k3
theorem qrN{bs ys:List Int}(h:ys.length=bs.length)(h4:bs.length≤1000)(a b:Int):
  l20_0 (((0:Int),()),((bs,(ys,(a,(b,())))),()))=match badC bs ys with
   |some _=>some (.inr (((2:Int),()),((bs,(ys,(a,(b,())))),())))
   |none=>some (.inl ((),((bs,(ys,(a,(b,())))),()))):=by
 refine qbw (fun i=>(((i:Int),()),((bs,(ys,(a,(b,())))),()))) (fun i=>!(wi (-1000) 1000 (bs.getD i 0)&&wi (-1000) 1000 (ys.getD i 0))) (fun _=>(((2:Int),()),((bs,(ys,(a,(b,())))),()))) (n:=bs.length) ?_ ?_ (qaI (by omega))
 ·intro i hi
  have q1:(!decide ((bs.length:Int)≤(i:Int)))=true:=nT (by omega)
  have b1:(decide ((0:Int)≤(i:Int))&&decide ((i:Int)<(bs.length:Int)))=true:=dA (by omega) (by omega)
  have b2:(decide ((0:Int)≤(i:Int))&&decide ((i:Int)<(ys.length:Int)))=true:=dA (by omega) (by omega)
  have e1:f16 (bs.getD i 0,-1000,1000,())=some (wi (-1000) 1000 (bs.getD i 0),()):=ql1 _
  have e2:f16 (ys.getD i 0,-1000,1000,())=some (wi (-1000) 1000 (ys.getD i 0),()):=ql1 _
  simp only[s20_0,t20_0,q1,b1,b2,qai,g16,e1,e2,Int.toNat_natCast,qby (show i≤9223372036854775806 by omega),Option.isSome_some,Option.getD_some,Tr.val_test,Tr.val_fin,if_true]
  cases wi (-1000) 1000 (bs.getD i 0)<;>cases wi (-1000) 1000 (ys.getD i 0)<;>rfl
 ·have q1:(!decide ((bs.length:Int)≤(bs.length:Int)))=false:=nF (by omega)
  simp only[s20_0,t20_0,qai,q1,Tr.val_test,Tr.val_fin,Bool.false_eq_true,if_false]
def lE(bs ys:List Int)(a b:Int):Int:=
 if cE bs ys a b=0 then match badE bs ys a b with
  |some k=>pE (pm bs ys (a+k))
  |none=>0
 else cE bs ys a b
theorem qoK{bs ys:List Int}{a b:Int}(h:lE bs ys a b=0):cE bs ys a b=0∧badE bs ys a b=none∧∀i:Nat,i<nM a b→Py (pm bs ys (a+i)):=by
 unfold lE at h
 split at h
 ·rename_i h1
  cases hb:badE bs ys a b with
  |some k=>
   rw[hb]at h
   have:=(first_some hb).2.2.1
   have h:pE (pm bs ys (a+k))=0:=h
   rw[dT h]at this;cases this
  |none=>
   refine⟨h1,rfl,fun i hi=>qrG ?_⟩
   have:=qbc hb i (Nat.zero_le _) (by omega)
   simpa using this
 ·exact absurd h (by assumption)
theorem qq8(bs ys:List Int)(a b:Int)(h1:bs.length≤1000)(h2:ys.length≤1000):f20 ((bs,(ys,((a,(b,())),()))),())=some (lE bs ys a b,()):=by
 have ea:=e16 a 0 40
 have eb:=e16 b 0 40
 by_cases n0:bs.length=0
 ·have q:decide ((bs.length:Int)=0)=true:=dT (by omega)
  have k:cE bs ys a b=10:=by unfold cE;rw[if_pos n0];split<;>rfl
  have k':lE bs ys a b=10:=by unfold lE;rw[k];rfl
  simp only[f20,t20,qar,q,k',Tr.val_test,Tr.val_fin,if_true]
 have q0:decide ((bs.length:Int)=0)=false:=dF (by omega)
 by_cases nl:ys.length=bs.length
 ·have q1:(!decide ((ys.length:Int)=(bs.length:Int)))=false:=nF (by omega)
  by_cases n4:4<bs.length
  ·have q:(!decide ((bs.length:Int)≤4))=true:=nT (by omega)
   have k:cE bs ys a b=8:=by unfold cE;rw[if_pos nl,if_neg n0,if_pos n4]
   have k':lE bs ys a b=8:=by unfold lE;rw[k];rfl
   simp only[f20,t20,qar,qai,q0,q1,q,k',Tr.val_test,Tr.val_fin,Bool.false_eq_true,if_false,if_true]
  have q4:(!decide ((bs.length:Int)≤4))=false:=nF (by omega)
  rcases Bool.eq_false_or_eq_true (wi 0 40 a)with ka|ka
  ·rw[ka]at ea
   rcases Bool.eq_false_or_eq_true (wi 0 40 b)with kb|kb
   ·rw[kb]at eb
    by_cases hab:b<a
    ·have q:(!decide (a≤b))=true:=nT (by omega)
     have k:cE bs ys a b=9:=by unfold cE;rw[if_pos nl,if_neg n0,if_neg n4,ka,kb,if_pos (show(true&&true)=true from rfl),if_pos hab]
     have k':lE bs ys a b=9:=by unfold lE;rw[k];rfl
     simp only[f20,t20,qar,qai,q0,q1,q4,g16,ea,eb,q,k',Option.isSome_some,Option.getD_some,Bool.not_true,Tr.val_test,Tr.val_fin,Bool.false_eq_true,if_false,if_true]
    ·have qab:(!decide (a≤b))=false:=nF (by omega)
     have ec:=qrN nl h1 a b
     have hbc:=qqp (bs:=bs) (ys:=ys) nl
     cases hc:badC bs ys with
     |some j=>
      rw[hc]at ec hbc
      have k:cE bs ys a b=2:=by unfold cE;rw[if_pos nl,if_neg n0,if_neg n4,ka,kb,if_pos (show(true&&true)=true from rfl),if_neg hab,←hbc];rfl
      have k':lE bs ys a b=2:=by unfold lE;rw[k];rfl
      simp only[f20,t20,qar,qai,q0,q1,q4,g16,ea,eb,qab,ec,qbg,r20_0,outR,k',Option.isSome_some,Option.getD_some,Bool.not_true,Tr.val_test,Tr.val_fin,Bool.false_eq_true,if_false,if_true]
     |none=>
      rw[hc]at ec hbc
      have k:cE bs ys a b=0:=by unfold cE;rw[if_pos nl,if_neg n0,if_neg n4,ka,kb,if_pos (show(true&&true)=true from rfl),if_neg hab,←hbc];rfl
      obtain⟨hcf,a0,ab,b1⟩:=qlf k
      have ep:=qqX hcf a0 ab b1
      cases hb:badE bs ys a b with
      |some j=>
       rw[hb]at ep
       have k':lE bs ys a b=pE (pm bs ys (a+j)):=by unfold lE;rw[k,if_pos rfl,hb]
       simp only[f20,t20,qar,qai,q0,q1,q4,g16,ea,eb,qab,ec,qbg,b20_0,outB,ep,r20_2,outR,k',Option.isSome_some,Option.getD_some,Bool.not_true,Tr.val_test,Tr.val_fin,Bool.false_eq_true,if_false,if_true]
      |none=>
       rw[hb]at ep
       have k':lE bs ys a b=0:=by unfold lE;rw[k,if_pos rfl,hb]
       simp only[f20,t20,qar,qai,q0,q1,q4,g16,ea,eb,qab,ec,qbg,b20_0,outB,ep,k',Option.isSome_some,Option.getD_some,Bool.not_true,Tr.val_test,Tr.val_fin,Bool.false_eq_true,if_false,if_true]
   ·rw[kb]at eb
    have k:cE bs ys a b=2:=by unfold cE;rw[if_pos nl,if_neg n0,if_neg n4,ka,kb];rfl
    have k':lE bs ys a b=2:=by unfold lE;rw[k];rfl
    simp only[f20,t20,qar,qai,q0,q1,q4,g16,ea,eb,k',Option.isSome_some,Option.getD_some,Bool.not_true,Bool.not_false,Tr.val_test,Tr.val_fin,Bool.false_eq_true,if_false,if_true]
  ·rw[ka]at ea
   have k:cE bs ys a b=2:=by unfold cE;rw[if_pos nl,if_neg n0,if_neg n4,ka];rfl
   have k':lE bs ys a b=2:=by unfold lE;rw[k];rfl
   simp only[f20,t20,qar,qai,q0,q1,q4,g16,ea,k',Option.isSome_some,Option.getD_some,Bool.not_false,Tr.val_test,Tr.val_fin,Bool.false_eq_true,if_false,if_true]
 ·have q1:(!decide ((ys.length:Int)=(bs.length:Int)))=true:=nT (by omega)
  have k:cE bs ys a b=10:=by unfold cE;rw[if_neg nl]
  have k':lE bs ys a b=10:=by unfold lE;rw[k];rfl
  simp only[f20,t20,qar,q0,q1,k',Tr.val_test,Tr.val_fin,Bool.false_eq_true,if_false,if_true]
end Go.Vm.Mo

namespace Go.Vm.Mo
open Go
set_option linter.unusedVariables false
set_option linter.unusedSimpArgs false
theorem qne{p:List Int}(h:Py p):pE p=0:=by
 obtain⟨hl,hb,h0⟩:=h
 unfold pE
 have:badP p=none:=qce (fun i _ hi=>by
  have:=hb.at (i:=i) (by omega)
  have:wi (-1000) 1000 (p.getD i 0)=true:=wi_iff.2 (by omega)
  rw[this];rfl)
 rw[if_neg (by omega),if_neg (by omega),this,if_neg (by decide),if_neg h0]
theorem fz2(x y z:Int):¬qb9 [x,y,z,2]=0:=by
 simp only[qb9,Bool.false_eq_true,if_false]
 split
 ·split
  ·split
   ·decide
   ·assumption
  ·assumption
 ·assumption
theorem qrR(bs ys:List Int)(a b:Int):qb9 [if(!decide ((ys.length:Int)=(bs.length:Int)))=true then(10:Int)else 0,if bs.length=0 then(10:Int)else if 4<bs.length then 8 else 0,if(wi 0 40 a&&wi 0 40 b)=true then(if b<a then 9 else 0)else(2:Int),if((badP bs).isSome||(badP ys).isSome)=true then(2:Int)else 0]=cE bs ys a b:=by
 unfold cE
 by_cases nl:ys.length=bs.length
 ·rw[nF (show(ys.length:Int)=(bs.length:Int)by omega),if_pos nl]
  by_cases n0:bs.length=0
  ·rw[if_pos n0,if_pos n0];rfl
  ·rw[if_neg n0,if_neg n0]
   by_cases n4:4<bs.length
   ·rw[if_pos n4,if_pos n4];rfl
   ·rw[if_neg n4,if_neg n4]
    cases(wi 0 40 a&&wi 0 40 b)with
    |false=>rfl
    |true=>
     by_cases hab:b<a
     ·simp only[if_pos hab];rfl
     ·simp only[if_neg hab]
      cases((badP bs).isSome||(badP ys).isSome)<;>rfl
 ·rw[nT (show ¬(ys.length:Int)=(bs.length:Int)by omega),if_neg nl];rfl
theorem lE_c{bs ys:List Int}{a b:Int}(c:¬cE bs ys a b=0):lE bs ys a b=cE bs ys a b:=by unfold lE;rw[if_neg c]
theorem qpR(bs ys:List Int)(a b:Int)(h1:bs.length≤1000)(h2:ys.length≤1000):f36 ((bs,(ys,((a,(b,())),()))),())=some (if lE bs ys a b=0 then(((bs,(ys,((a,(b,())),()))),()),((0:Int),()))else(((([]:List Int),(([]:List Int),(((0:Int),((0:Int),())),()))),()),(lE bs ys a b,()))):=by
 have e1:=qnd bs (by omega)
 have e2:=qnd ys (by omega)
 have e3:=qpL bs.length
 have e4:=qqZ a b
 have e42:∀x y z u:Int,f42 ([x,y,z,u],())=some (qb9 [x,y,z,u],()):=fun x y z u=>qlz _ (by simp)
 have nz:=qrR bs ys a b
 rcases Bool.eq_false_or_eq_true (badP bs).isSome with k|k
 ·rw[k]at e1
  rw[k,Bool.true_or,if_pos rfl]at nz
  have c:¬cE bs ys a b=0:=by rw[←nz];exact fz2 _ _ _
  simp only[f36,t36,g53,e1,g38,qel,g52,e3,g58,e4,g42,e42,qar,if_true,nz,nT c,lE_c c,if_neg c,Bool.not_true,decide_true,Option.isSome_some,Option.getD_some,Tr.val_test,Tr.val_fin,Bool.false_eq_true,if_false]
 ·rw[k]at e1
  rw[k,Bool.false_or]at nz
  rcases Bool.eq_false_or_eq_true (badP ys).isSome with k2|k2
  ·rw[k2]at e2
   rw[k2,if_pos rfl]at nz
   have c:¬cE bs ys a b=0:=by rw[←nz];exact fz2 _ _ _
   simp only[f36,t36,g53,e1,e2,g38,qel,g52,e3,g58,e4,g42,e42,qar,if_true,Bool.false_eq_true,if_false,nz,nT c,lE_c c,if_neg c,Bool.not_true,decide_true,Option.isSome_some,Option.getD_some,Tr.val_test,Tr.val_fin]
  ·rw[k2]at e2
   simp only[k2,Bool.false_eq_true,if_false]at nz
   by_cases c:cE bs ys a b=0
   ·obtain⟨hcf,a0,ab,b1⟩:=qlf c
    have ep:=qqU hcf a0 ab b1 0 0 0
    rw[c]at nz
    have z0:(!decide ((0:Int)=0))=false:=rfl
    cases hb:badE bs ys a b with
    |some j=>
     rw[hb]at ep
     have k':lE bs ys a b=pE (pm bs ys (a+j)):=by unfold lE;rw[if_pos c,hb]
     have hj:=(first_some hb).2.2.1
     have nj:¬pE (pm bs ys (a+j))=0:=fun q=>by simp only[dT q]at hj;cases hj
     simp only[f36,t36,g53,e1,e2,g38,qel,g52,e3,g58,e4,g42,e42,qar,if_true,Bool.false_eq_true,if_false,nz,z0,ep,qbg,r86_0,outR,k',if_neg nj,Bool.not_true,decide_true,Option.isSome_some,Option.getD_some,Tr.val_test,Tr.val_fin]
    |none=>
     rw[hb]at ep
     have k':lE bs ys a b=0:=by unfold lE;rw[if_pos c,hb]
     simp only[f36,t36,g53,e1,e2,g38,qel,g52,e3,g58,e4,g42,e42,qar,if_true,Bool.false_eq_true,if_false,nz,z0,ep,qbg,k',Bool.not_true,decide_true,Option.isSome_some,Option.getD_some,Tr.val_test,Tr.val_fin]
   ·simp only[f36,t36,g53,e1,e2,g38,qel,g52,e3,g58,e4,g42,e42,qar,if_true,Bool.false_eq_true,if_false,nz,nT c,lE_c c,if_neg c,Option.isSome_some,Option.getD_some,Tr.val_test,Tr.val_fin]
theorem qna{bs ys:List Int}{a b:Int}(h1:bs.length≤1000)(h2:ys.length≤1000)(z:¬lE bs ys a b=0):f36 ((bs,(ys,((a,(b,())),()))),())=some (((([]:List Int),(([]:List Int),(((0:Int),((0:Int),())),()))),()),(lE bs ys a b,())):=by
 rw[qpR bs ys a b h1 h2,if_neg z]
theorem qi3{bs ys:List Int}{a b:Int}(h1:bs.length≤1000)(h2:ys.length≤1000)(z:lE bs ys a b=0):f36 ((bs,(ys,((a,(b,())),()))),())=some (((bs,(ys,((a,(b,())),()))),()),((0:Int),())):=by
 rw[qpR bs ys a b h1 h2,if_pos z]
theorem qid{bs ys:List Int}{a b:Int}(z:lE bs ys a b=0){k:Nat}(hk:badS bs ys a b=some k):f37 (((bs,(ys,((a,(b,())),()))),()),())=some (a+(k:Int),(true,())):=by
 obtain⟨c,_,hp⟩:=qoK z
 obtain⟨hcf,a0,ab,b1⟩:=qlf c
 have ep:=qnf hcf a0 ab b1 hp 0 false
 rw[hk]at ep
 simp only[f37,t37,ep,qbg,r86_0_1,outR,Bool.not_true,decide_true,Option.isSome_some,Tr.val_test,Tr.val_fin,if_true,Bool.false_eq_true,if_false]
theorem qlC{bs ys:List Int}{a b:Int}(z:lE bs ys a b=0)(hk:badS bs ys a b=none):f37 (((bs,(ys,((a,(b,())),()))),()),())=some ((0:Int),(false,())):=by
 obtain⟨c,_,hp⟩:=qoK z
 obtain⟨hcf,a0,ab,b1⟩:=qlf c
 have ep:=qnf hcf a0 ab b1 hp 0 false
 rw[hk]at ep
 simp only[f37,t37,ep,qbg,Bool.not_true,decide_true,Option.isSome_some,Tr.val_test,Tr.val_fin,if_true,Bool.false_eq_true,if_false]
theorem qpl{bs ys:List Int}{a b:Int}(z:lE bs ys a b=0){k:Nat}(hk:badS bs ys a b=some k):f21 ((bs,(ys,((a,(b,())),()))),())=some (a+(k:Int),(true,())):=by
 obtain⟨c,_,hp⟩:=qoK z
 obtain⟨hcf,a0,ab,b1⟩:=qlf c
 have ep:=qou hcf a0 ab b1 hp
 rw[hk]at ep
 simp only[f21,t21,ep,qbg,r21_0,outR,Bool.not_true,decide_true,Option.isSome_some,Tr.val_test,Tr.val_fin,if_true,Bool.false_eq_true,if_false]
theorem qpq{bs ys:List Int}{a b:Int}(z:lE bs ys a b=0)(hk:badS bs ys a b=none):f21 ((bs,(ys,((a,(b,())),()))),())=some ((0:Int),(false,())):=by
 obtain⟨c,_,hp⟩:=qoK z
 obtain⟨hcf,a0,ab,b1⟩:=qlf c
 have ep:=qou hcf a0 ab b1 hp
 rw[hk]at ep
 simp only[f21,t21,ep,qbg,Bool.not_true,decide_true,Option.isSome_some,Tr.val_test,Tr.val_fin,if_true,Bool.false_eq_true,if_false]
theorem qqs{bs ys:List Int}{a b:Int}(h1:bs.length≤1000)(h2:ys.length≤1000)(z:¬lE bs ys a b=0):f17 ((bs,(ys,((a,(b,())),()))),())=some ((0:Int),(lE bs ys a b,())):=by
 have e:=qna h1 h2 z
 simp only[f17,t17,g36,e,qar,nT z,Bool.not_true,decide_true,Option.isSome_some,Option.getD_some,Tr.val_test,Tr.val_fin,if_true,Bool.false_eq_true,if_false]
theorem qpg{bs ys:List Int}{a b:Int}(h1:bs.length≤1000)(h2:ys.length≤1000)(z:lE bs ys a b=0){k:Nat}(hk:badS bs ys a b=some k):f17 ((bs,(ys,((a,(b,())),()))),())=some (a+(k:Int),((0:Int),())):=by
 have e:=qi3 h1 h2 z
 have e2:=qid z hk
 have z0:(!decide ((0:Int)=0))=false:=rfl
 simp only[f17,t17,g36,e,qar,z0,g37,e2,g38,qel,Bool.not_true,decide_true,Option.isSome_some,Option.getD_some,Tr.val_test,Tr.val_fin,if_true,Bool.false_eq_true,if_false]
theorem qph{bs ys:List Int}{a b:Int}(h1:bs.length≤1000)(h2:ys.length≤1000)(z:lE bs ys a b=0)(hk:badS bs ys a b=none):f17 ((bs,(ys,((a,(b,())),()))),())=some ((0:Int),((12:Int),())):=by
 have e:=qi3 h1 h2 z
 have e2:=qlC z hk
 have z0:(!decide ((0:Int)=0))=false:=rfl
 simp only[f17,t17,g36,e,qar,z0,g37,e2,g38,qel,Bool.not_false,Bool.not_true,decide_true,Option.isSome_some,Option.getD_some,Tr.val_test,Tr.val_fin,if_true,Bool.false_eq_true,if_false]
theorem qqr{bs ys:List Int}{a b:Int}(h1:bs.length≤1000)(h2:ys.length≤1000)(z:¬lE bs ys a b=0):f19 ((bs,(ys,((a,(b,())),()))),())=some ((0:Int),(lE bs ys a b,())):=by
 have e:=qna h1 h2 z
 simp only[f19,t19,g36,e,qar,nT z,Bool.not_true,decide_true,Option.isSome_some,Option.getD_some,Tr.val_test,Tr.val_fin,if_true,Bool.false_eq_true,if_false]
theorem qoQ{bs ys:List Int}{a b:Int}(h1:bs.length≤1000)(h2:ys.length≤1000)(z:lE bs ys a b=0)(hk:badS bs ys a b=none):f19 ((bs,(ys,((a,(b,())),()))),())=some (b,((0:Int),())):=by
 have e:=qi3 h1 h2 z
 have e2:=qlC z hk
 have z0:(!decide ((0:Int)=0))=false:=rfl
 simp only[f19,t19,g36,e,qar,z0,g37,e2,Bool.not_false,Bool.not_true,decide_true,Option.isSome_some,Option.getD_some,Tr.val_test,Tr.val_fin,if_true,Bool.false_eq_true,if_false]
theorem qnL{bs ys:List Int}{a b:Int}(h1:bs.length≤1000)(h2:ys.length≤1000)(z:lE bs ys a b=0){k:Nat}(hk:badS bs ys a b=some k)(q:a+(k:Int)=a):f19 ((bs,(ys,((a,(b,())),()))),())=some ((0:Int),((12:Int),())):=by
 have e:=qi3 h1 h2 z
 have e2:=qid z hk
 have z0:(!decide ((0:Int)=0))=false:=rfl
 simp only[f19,t19,g36,e,qar,z0,g37,e2,dT q,Bool.not_true,decide_true,Option.isSome_some,Option.getD_some,Tr.val_test,Tr.val_fin,if_true,Bool.false_eq_true,if_false]
theorem qoX{bs ys:List Int}{a b:Int}(h1:bs.length≤1000)(h2:ys.length≤1000)(z:lE bs ys a b=0){k:Nat}(hk:badS bs ys a b=some k)(q:¬a+(k:Int)=a):f19 ((bs,(ys,((a,(b,())),()))),())=some (wrap64 (a+(k:Int)-1),((0:Int),())):=by
 have e:=qi3 h1 h2 z
 have e2:=qid z hk
 have z0:(!decide ((0:Int)=0))=false:=rfl
 simp only[f19,t19,g36,e,qar,z0,g37,e2,dF q,Bool.not_true,decide_true,Option.isSome_some,Option.getD_some,Tr.val_test,Tr.val_fin,if_true,Bool.false_eq_true,if_false]
theorem qrh(bs ys:List Int)(a b:Int)(h1:bs.length≤1000)(h2:ys.length≤1000):f18 ((bs,(ys,((a,(b,())),()))),())=some ((bs,(ys,((a,(b,())),()))),()):=by
 have e1:=qqV bs h1
 have e2:=qqV ys h2
 simp only[f18,t18,g8,e1,e2,Bool.not_true,decide_true,Option.isSome_some,Option.getD_some,Tr.val_test,Tr.val_fin,if_true,Bool.false_eq_true,if_false]
theorem qqY(bs ys:List Int)(a b:Int):f5 ((bs,(ys,((a,(b,())),()))),())=some (true,()):=by
 by_cases n1:bs.length≤6
 ·by_cases n2:ys.length≤6
  ·have q1:(!decide ((bs.length:Int)≤6))=false:=nF (by omega)
   have q2:(!decide ((ys.length:Int)≤6))=false:=nF (by omega)
   have h1:bs.length≤1000:=by omega
   have h2:ys.length≤1000:=by omega
   have e18:=qrh bs ys a b h1 h2
   have e20:=qq8 bs ys a b h1 h2
   by_cases z:lE bs ys a b=0
   ·obtain⟨c,_,hp⟩:=qoK z
    obtain⟨hcf,a0,ab,b1⟩:=qlf c
    rw[z]at e20
    have z0:(!decide ((0:Int)=0))=false:=rfl
    cases hk:badS bs ys a b with
    |some k=>
     obtain⟨_,k2,k3,k4⟩:=first_some hk
     have hkb:a+(k:Int)≤b:=by unfold nM at k2;omega
     have e17:=qpg h1 h2 z hk
     have e21:=qpl z hk
     have zk:(!decide (a+(k:Int)=a+(k:Int)))=false:=nF rfl
     by_cases q:a+(k:Int)=a
     ·have e19:=qnL h1 h2 z hk q
      simp only[f5,t5,qai,qar,q1,q2,g18,e18,g17,e17,g19,e19,g20,e20,g21,e21,z0,zk,dT q,decide_true,Bool.not_true,Option.isSome_some,Option.getD_some,Tr.val_test,Tr.val_fin,if_true,Bool.false_eq_true,if_false]
     ·have e19:=qoX h1 h2 z hk q
      have w:wrap64 (a+(k:Int)-1)=a+((k-1:Nat):Int):=by rw[qaF (by omega) (by omega)];omega
      rw[w]at e19
      have e22:=qlD hcf (m:=a+((k-1:Nat):Int)) (by omega) (by omega) a b
      have hpk:=hp (k-1) (by omega)
      have hs:=k4 (k-1) (Nat.zero_le _) (by omega)
      have hs':stb (pm bs ys (a+((k-1:Nat):Int)))=true:=by simpa using hs
      have e9:=qrf (p:=pm bs ys (a+((k-1:Nat):Int))) (by rw[qlk hcf];omega) (qne hpk)
      rw[hs']at e9
      have zm:(!decide (a+((k-1:Nat):Int)=a+((k-1:Nat):Int)))=false:=nF rfl
      simp only[f5,t5,qai,qar,q1,q2,g18,e18,g17,e17,g19,e19,g20,e20,g21,e21,z0,zk,dF q,w,zm,g22,e22,g9,e9,decide_true,Bool.not_true,Option.isSome_some,Option.getD_some,Tr.val_test,Tr.val_fin,if_true,Bool.false_eq_true,if_false]
    |none=>
     have hn:=qbc hk
     have e17:=qph h1 h2 z hk
     have e19:=qoQ h1 h2 z hk
     have e21:=qpq z hk
     have w:wrap64 (wrap64 (b+1)-1)=b:=by rw[wN (by omega) b1,qaF (by omega) (by omega)];omega
     have e22:=qlD hcf (m:=b) (by omega) b1 a b
     have hb:a+((nM a b-1:Nat):Int)=b:=by unfold nM;omega
     have hpk:=hp (nM a b-1) (by unfold nM;omega)
     have hs:=hn (nM a b-1) (Nat.zero_le _) (by unfold nM;omega)
     rw[hb]at hpk hs
     have hs':stb (pm bs ys b)=true:=by simpa using hs
     have e9:=qrf (p:=pm bs ys b) (by rw[qlk hcf];omega) (qne hpk)
     rw[hs']at e9
     have zb:(!decide (b=b))=false:=nF rfl
     have z12:(!decide ((12:Int)=12))=false:=rfl
     simp only[f5,t5,qai,qar,q1,q2,g18,e18,g17,e17,g19,e19,g20,e20,g21,e21,z0,z12,w,zb,g22,e22,g9,e9,decide_true,Bool.not_true,Option.isSome_some,Option.getD_some,Tr.val_test,Tr.val_fin,if_true,Bool.false_eq_true,if_false]
   ·have e17:=qqs h1 h2 z
    have e19:=qqr h1 h2 z
    simp only[f5,t5,qai,qar,q1,q2,g18,e18,g17,e17,g19,e19,g20,e20,nT z,decide_true,Bool.not_true,Option.isSome_some,Option.getD_some,Tr.val_test,Tr.val_fin,if_true,Bool.false_eq_true,if_false]
  ·have q1:(!decide ((bs.length:Int)≤6))=false:=nF (by omega)
   have q2:(!decide ((ys.length:Int)≤6))=true:=nT (by omega)
   simp only[f5,t5,qai,q1,q2,Tr.val_test,Tr.val_fin,if_true,Bool.false_eq_true,if_false]
 ·have q1:(!decide ((bs.length:Int)≤6))=true:=nT (by omega)
  simp only[f5,t5,qai,q1,Tr.val_test,Tr.val_fin,if_true,Bool.false_eq_true,if_false]
theorem law5(d:Tys.data as5)(hw:Tys.Wf as5 d):qmE Go.Proofs.Tryz.prog 5 as5 [.bool] d (true,()):=by
 have h:f5 d=some (true,()):=qqY d.1.1 d.1.2.1 d.1.2.2.1.1 d.1.2.2.1.2.1
 have hp:p5.pre d=true:=by
  show Option.isSome (f5 d)=true
  rw[h];rfl
 have hg:p5.fn d=(true,()):=by
  show(f5 d).getD _=_
  rw[h];rfl
 have:=ok5.runs d hp
 rw[hg]at this
 exact this
end Go.Vm.Mo
