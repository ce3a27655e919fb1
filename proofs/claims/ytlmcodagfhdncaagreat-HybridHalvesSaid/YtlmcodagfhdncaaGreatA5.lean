/- A machine over virtual values that stands for the model's: part 5. -/
import Derived.Test.YtlmcodagfhdncaaGreatA4
import Derived.DataReads
import Derived.Carry
import Derived.ChangeSame
import Derived.RowKit
import Derived.OpenShut
set_option linter.unusedVariables false
set_option linter.unusedSimpArgs false

namespace Go.Vm
open Go
abbrev Tys.data:List Ty→Type
 |[]=>Unit
 |t::ts=>t.data×Tys.data ts
def Tys.vals:(ts:List Ty)→Tys.data ts→List V
 |[],_=>[]
 |t::ts,d=>valV t d.1::Tys.vals ts d.2
def Tys.flat:List Ty→Bool
 |[]=>true
 |t::ts=>match t.flat with
  |true=>Tys.flat ts
  |false=>false
def DVals(f:Frozen):(ts:List Ty)→Tys.data ts→List Value→Prop
 |[],_,xs=>xs=[]
 |t::ts,d,xs=>∃x r,xs=x::r∧DVal f t d.1 x∧DVals f ts d.2 r
def resV:(ts:List Ty)→Tys.data ts→V
 |[t],d=>valV t d.1
 |ts,d=>.tuple (Tys.vals ts d)
def DRes(f:Frozen):(ts:List Ty)→Tys.data ts→Value→Prop
 |[t],d,x=>DVal f t d.1 x
 |ts,d,x=>∃vs,x=.tuple vs∧DVals f ts d vs.toList
theorem DVals.vals{φ:Map}:∀{ts:List Ty}{d:Tys.data ts}{xs:List Value},DVals φ.fz ts d xs→VRels φ (Tys.vals ts d) xs
 |[],_,_,h=>by cases h;exact .nil
 |t::ts,d,xs,⟨x,r,h1,h2,h3⟩=>by subst h1;exact .cons h2.val h3.vals
theorem DVals.mono{f g:Frozen}(hf:f.le g):∀{ts:List Ty}{d:Tys.data ts}{xs:List Value},DVals f ts d xs→DVals g ts d xs
 |[],_,_,h=>h
 |_::_,_,_,⟨x,r,h1,h2,h3⟩=>⟨x,r,h1,h2.mono hf,h3.mono hf⟩
theorem DRes.val{φ:Map}{ts:List Ty}{d:Tys.data ts}{x:Value}(h:DRes φ.fz ts d x):VRel φ (resV ts d) x:=by
 match ts,d,h with
 |[],d,⟨vs,h1,h2⟩=>subst h1;exact .tuple _ _ h2.vals
 |[t],d,h=>exact DVal.val h
 |t::u::ts,d,⟨vs,h1,h2⟩=>subst h1;exact .tuple _ _ h2.vals
theorem DRel.flat{f g:Frozen}:∀{t:Ty}{d:t.data}{cs:List Value},t.flat=true→DRel f t d cs→DRel g t d cs
 |.int _,_,_,_,h=>h
 |.bool,_,_,_,h=>h
 |.str,_,_,_,h=>h
 |.unit,_,_,_,h=>h
 |.pair a b,_,_,e,⟨x,y,h1,h2,h3⟩=>by
  simp only[Ty.flat]at e
  split at e
  ·rename_i ha;exact⟨x,y,h1,h2.flat ha,h3.flat e⟩
  ·cases e
 |.slice t,_,_,e,_=>by cases e
theorem DVal.flat{f g:Frozen}{t:Ty}{d:t.data}{x:Value}(e:t.flat=true)(h:DVal f t d x):DVal g t d x:=by
 unfold DVal at h ⊢
 split at h
 ·obtain⟨cs,h1,h2⟩:=h;exact⟨cs,h1,h2.flat e⟩
 ·exact h.flat e
theorem Tys.flat_cons{t:Ty}{ts:List Ty}(h:Tys.flat (t::ts)=true):t.flat=true∧Tys.flat ts=true:=by
 simp only[Tys.flat]at h
 split at h
 ·rename_i ht;exact⟨ht,h⟩
 ·cases h
theorem DVals.flat{f g:Frozen}:∀{ts:List Ty}{d:Tys.data ts}{xs:List Value},Tys.flat ts=true→DVals f ts d xs→DVals g ts d xs
 |[],_,_,_,h=>h
 |_::_,_,_,e,⟨x,r,h1,h2,h3⟩=>⟨x,r,h1,h2.flat (Tys.flat_cons e).1,h3.flat (Tys.flat_cons e).2⟩
theorem DRes.flat{f g:Frozen}{ts:List Ty}{d:Tys.data ts}{x:Value}(e:Tys.flat ts=true)(h:DRes f ts d x):DRes g ts d x:=by
 match ts,d,h with
 |[],d,⟨vs,h1,h2⟩=>exact⟨vs,h1,h2.flat e⟩
 |[t],d,h=>exact DVal.flat (Tys.flat_cons e).1 h
 |t::u::ts,d,⟨vs,h1,h2⟩=>exact⟨vs,h1,h2.flat e⟩
def qq7(f:Frozen)(w:World)(rs:List Ty)(r:Tys.data rs):Ending→World→Prop:=fun e w'=>
 ∃x f',e=.returned x∧DRes f' rs r x∧f.le f'∧FzOk f' w'∧(∀k c,f' k=some c→k<w.heap.size→f k=some c)∧w.heap.size≤w'.heap.size∧(∀k,k<w.heap.size→w'.heap[k]?=w.heap[k]?) ∧
  w'.os=w.os∧w'.tape=w.tape∧w'.output=w.output
def qnL(P:Program)(f:FuncId)(us rs:List Ty)(d:Tys.data us)(r:Tys.data rs):Prop:=
 ∀(z:Frozen)(args':Array Value)(w:World)(F:Fence)(n:Nat),Wide F→FzOk z w→DVals z us d args'.toList→CallsIn F n P f args' w (qq7 z w rs r)
structure PureC where
 us:List Ty
 rs:List Ty
 pre:Tys.data us→Bool
 fn:Tys.data us→Tys.data rs
 quiet:Bool:=false
structure PureOk(P:Program)(f:FuncId)(c:PureC):Prop where
 enter:∀(args':Array Value)(w:World),(callFunc f args').run P w=.ok (.enter f args') w
 runs:∀d,c.pre d=true→qnL P f c.us c.rs d (c.fn d)
def qn0(t:Ty)(h:H)(v:V):Option (t.data×List Nat×H):=
 match t.isAgg with
 |true=>match v with
  |.agg cs=>match qcy t h cs with
   |some (d,[],ns,h)=>some (d,ns,h)
   |_=>none
  |_=>none
 |false=>match qcy t h [v]with
  |some (d,[],ns,h)=>some (d,ns,h)
  |_=>none
def qff:(ts:List Ty)→H→List V→Option (Tys.data ts×List Nat×H)
 |[],h,vs=>match vs with
  |[]=>some ((),[],h)
  |_=>none
 |t::ts,h,vs=>match vs with
  |v::vs=>match qn0 t h v with
   |some (d,ns,h)=>match qff ts h vs with
    |some (r,ms,h)=>some ((d,r),ns++ms,h)
    |none=>none
   |none=>none
  |[]=>none
def qg3(ts:List Ty)(h:H)(v:V):Option (Tys.data ts×List Nat×H):=
 match v with
 |.tuple vs=>qff ts h vs
 |_=>none
def qfO:(ts:List Ty)→H→V→Option (Tys.data ts×List Nat×H)
 |[t],h,v=>match qn0 t h v with
  |some (d,ns,h)=>some ((d,()),ns,h)
  |none=>none
 |ts,h,v=>qg3 ts h v
section
variable {φ:Map} {w:World}
theorem qfG{t:Ty}{h h':H}{v:V}{d:t.data}{ns:List Nat}(e:qn0 t h v=some (d,ns,h'))(hh:h'.Holds):h.Holds∧h.Same h':=by
 unfold qn0 at e
 split at e
 ·split at e
  ·split at e
   ·rename_i he;cases e;exact(qaJ (φ:=qco fun _=>none) (w:=default) t).same _ _ _ _ _ _ he hh
   ·cases e
  ·cases e
 ·split at e
  ·rename_i he;cases e;exact(qaJ (φ:=qco fun _=>none) (w:=default) t).same _ _ _ _ _ _ he hh
  ·cases e
theorem qkc{t:Ty}{h h':H}{v:V}{d:t.data}{ns:List Nat}{x:Value}(e:qn0 t h v=some (d,ns,h'))(hh:h'.Holds)(hv:VRel φ v x)(hr:HRel φ h w):BoxNames φ h ns∧DVal (qcn φ w ns) t d x:=by
 unfold qn0 at e
 unfold DVal
 cases hag:t.isAgg with
 |true=>
  rw[hag]at e
  dsimp only at e ⊢
  split at e
  ·split at e
   ·rename_i he
    cases e
    cases hv with
    |agg _ rs hv=>
     obtain⟨b,x,y,h1,h2,h3⟩:=(qaJ t).rel _ _ _ _ _ _ _ he hh hv hr
     cases h2
     rw[List.append_nil]at h1
     exact⟨b,rs,rfl,by rw[h1];exact h3⟩
   ·cases e
  ·cases e
 |false=>
  rw[hag]at e
  dsimp only at e ⊢
  split at e
  ·rename_i he
   cases e
   obtain⟨b,x,y,h1,h2,h3⟩:=(qaJ t).rel _ _ _ _ _ _ _ he hh (.cons hv .nil) hr
   cases h2
   rw[List.append_nil]at h1
   exact⟨b,by rw[h1];exact h3⟩
  ·cases e
theorem qcO:∀{ts:List Ty}{h h':H}{vs:List V}{d:Tys.data ts}{ns:List Nat},qff ts h vs=some (d,ns,h')→h'.Holds→h.Holds∧h.Same h'
 |[],h,h',vs,d,ns,e,hh=>by
  simp only[qff]at e
  split at e
  ·cases e;exact⟨hh,H.Same.refl _⟩
  ·cases e
 |t::ts,h,h',vs,d,ns,e,hh=>by
  simp only[qff]at e
  split at e
  ·split at e
   ·rename_i h1
    split at e
    ·rename_i h2
     cases e
     obtain⟨g1,g2⟩:=qcO h2 hh
     obtain⟨g3,g4⟩:=qfG h1 g1
     exact⟨g3,g4.trans g2⟩
    ·cases e
   ·cases e
  ·cases e
theorem qer:∀{ts:List Ty}{h h':H}{vs:List V}{d:Tys.data ts}{ns:List Nat}{xs:List Value},qff ts h vs=some (d,ns,h')→h'.Holds→VRels φ vs xs→HRel φ h w→BoxNames φ h ns∧DVals (qcn φ w ns) ts d xs
 |[],h,h',vs,d,ns,xs,e,hh,hv,hr=>by
  simp only[qff]at e
  split at e
  ·cases e;cases hv;exact⟨BoxNames.nil,rfl⟩
  ·cases e
 |t::ts,h,h',vs,d,ns,xs,e,hh,hv,hr=>by
  simp only[qff]at e
  split at e
  ·split at e
   ·rename_i h1
    split at e
    ·rename_i h2
     cases e
     cases hv with
     |cons hv hvs=>
      obtain⟨g1,g2⟩:=qcO h2 hh
      obtain⟨g3,g4⟩:=qfG h1 g1
      obtain⟨b1,d1⟩:=qkc h1 g1 hv hr
      obtain⟨b2,d2⟩:=qer h2 hh hvs (hr.same g4)
      exact⟨b1.append (b2.same g4),_,_,rfl,d1.mono (qb9 fun b hb=>List.mem_append_left _ hb),d2.mono (qb9 fun b hb=>List.mem_append_right _ hb)⟩
    ·cases e
   ·cases e
  ·cases e
theorem qge{ts:List Ty}{h h':H}{v:V}{d:Tys.data ts}{ns:List Nat}(e:qg3 ts h v=some (d,ns,h'))(hh:h'.Holds):h.Holds∧h.Same h':=by
 unfold qg3 at e
 split at e
 ·exact qcO e hh
 ·cases e
theorem qhN{ts:List Ty}{h h':H}{v:V}{d:Tys.data ts}{ns:List Nat}{x:Value}(e:qg3 ts h v=some (d,ns,h'))(hh:h'.Holds)(hv:VRel φ v x)(hr:HRel φ h w):
  BoxNames φ h ns∧∃vs,x=.tuple vs∧DVals (qcn φ w ns) ts d vs.toList:=by
 unfold qg3 at e
 split at e
 ·cases hv with
  |tuple _ rs hv=>
   obtain⟨b,q⟩:=qer e hh hv hr
   exact⟨b,rs,rfl,q⟩
 ·cases e
theorem qf6{ts:List Ty}{h h':H}{v:V}{d:Tys.data ts}{ns:List Nat}(e:qfO ts h v=some (d,ns,h'))(hh:h'.Holds):h.Holds∧h.Same h':=by
 match ts,d,e with
 |[],d,e=>exact qge e hh
 |[t],d,e=>
  simp only[qfO]at e
  split at e
  ·rename_i h1
   cases e
   exact qfG h1 hh
  ·cases e
 |t::u::ts,d,e=>exact qge e hh
theorem qhr{ts:List Ty}{h h':H}{v:V}{d:Tys.data ts}{ns:List Nat}{x:Value}(e:qfO ts h v=some (d,ns,h'))(hh:h'.Holds)(hv:VRel φ v x)(hr:HRel φ h w):
  BoxNames φ h ns∧DRes (qcn φ w ns) ts d x:=by
 match ts,d,e with
 |[],d,e=>exact qhN e hh hv hr
 |[t],d,e=>
  simp only[qfO]at e
  split at e
  ·rename_i h1
   cases e
   exact qkc h1 hh hv hr
  ·cases e
 |t::u::ts,d,e=>exact qhN e hh hv hr
end
def qkb(orc:Orc)(P:Program)(n:Nat)(f:FuncId)(us rs:List Ty)(d:Tys.data us)(ask:Option (List Bool)):Option (Tys.data rs×List (Bool×Bool)):=
 match(qd5 orc P n).call f (Tys.vals us d) (bare ask)with
 |some (v,h1)=>match qfO rs h1 v with
  |some (r,_,h2)=>some (r,h2.said)
  |none=>none
 |none=>none
abbrev runPure(orc:Orc)(P:Program)(n:Nat)(f:FuncId)(us rs:List Ty)(d:Tys.data us)(ans:List Bool):Option (Tys.data rs×List (Bool×Bool)):=qkb orc P n f us rs d (some ans)
theorem qhC{P:Program}{orc:Orc}(b:Base P orc){n:Nat}{f:FuncId}{us rs:List Ty}{d:Tys.data us}{ask:Option (List Bool)}{r:Tys.data rs}{said:List (Bool×Bool)}(e:qkb orc P n f us rs d ask=some (r,said))(ha:All said):qnL P f us rs d r:=by
 unfold qkb at e
 split at e
 ·rename_i v h1 hc
  split at e
  ·rename_i r' ns h2 hv
   cases e
   have hh2:h2.Holds:=All.holds ha
   intro z args' w F n' hF hz hargs
   have hr0:HRel (qco z) (bare ask) w:=qrp _ w hz
   have hh1:h1.Holds:=(qf6 hv hh2).1
   obtain⟨_,d2⟩:=Does.of_q b hc hh1
   refine CallsIn.mono (d2 (qco z) args' w F n' hF (DVals.vals (φ:=qco z) hargs) hr0) ?_
   rintro e' w' ⟨φ1,x,rfl,hx,hg⟩
   obtain⟨hb,hD⟩:=qhr hv hh2 hx hg.rel
   refine⟨x,qcn φ1 w' ns,rfl,hD,Frozen.le_trans hg.le.fz qdG,qeq hg.rel ns,?_,hg.size,qn2 hg,hg.os,hg.tape,hg.output⟩
   intro k c hk hlt
   have nofz:∀c,φ1.fz k=some c→z k=some c:=by
    intro c hc
    rcases hg.ffresh k c hc hlt with h3|⟨b,k',_,h4,_⟩|⟨b,q,_,_,h4,_⟩
    ·exact h3
    ·cases h4
    ·cases h4
   rcases qcD hk with h3|⟨⟨b,q,h3,h4,h5⟩,_⟩
   ·exact nofz c h3
   ·exfalso
    rcases hg.fresh b q h4 with h6|⟨_,h6⟩
    ·cases h6
    ·rcases h6 with h6|⟨c',k',_,h7,_⟩
     ·omega
     ·cases h7
  ·cases e
 ·cases e
def qmi(orc:Orc)(P:Program)(n:Nat)(f:FuncId)(us rs:List Ty)(d:Tys.data us)(ask:Option (List Bool)):Option (Tys.data rs×List (Bool×Bool)):=
 match(qd5 orc P n).call f (Tys.vals us d) (qol ask)with
 |some (v,h1)=>match qfO rs h1 v with
  |some (r,_,h2)=>some (r,h2.said)
  |none=>none
 |none=>none
abbrev runPureB(orc:Orc)(P:Program)(n:Nat)(f:FuncId)(us rs:List Ty)(d:Tys.data us)(ans:List Bool):Option (Tys.data rs×List (Bool×Bool)):=qmi orc P n f us rs d (some ans)
theorem qkI{P:Program}{orc:Orc}(b:Base P orc){n:Nat}{f:FuncId}{us rs:List Ty}{d:Tys.data us}{ask:Option (List Bool)}{r:Tys.data rs}{said:List (Bool×Bool)}(e:qmi orc P n f us rs d ask=some (r,said))(ha:All said):qnL P f us rs d r:=by
 unfold qmi at e
 split at e
 ·rename_i v h1 hc
  split at e
  ·rename_i r' ns h2 hv
   cases e
   have hh2:h2.Holds:=All.holds ha
   intro z args' w F n' hF hz hargs
   have hr0:HRel (qco z) (qol ask) w:=qpM _ w hz
   have hh1:h1.Holds:=(qf6 hv hh2).1
   obtain⟨_,d2⟩:=Does.of_q b hc hh1
   refine CallsIn.mono (d2 (qco z) args' w F n' hF (DVals.vals (φ:=qco z) hargs) hr0) ?_
   rintro e' w' ⟨φ1,x,rfl,hx,hg⟩
   obtain⟨hb,hD⟩:=qhr hv hh2 hx hg.rel
   refine⟨x,qcn φ1 w' ns,rfl,hD,Frozen.le_trans hg.le.fz qdG,qeq hg.rel ns,?_,hg.size,qlS hg,hg.os,hg.tape,hg.output⟩
   intro k c hk hlt
   have nofz:∀c,φ1.fz k=some c→z k=some c:=by
    intro c hc
    rcases hg.ffresh k c hc hlt with h3|⟨b,k',_,h4,_⟩|⟨b,q,_,_,h4,_⟩
    ·exact h3
    ·cases h4
    ·cases h4
   rcases qcD hk with h3|⟨⟨b,q,h3,h4,h5⟩,_⟩
   ·exact nofz c h3
   ·exfalso
    rcases hg.fresh b q h4 with h6|⟨_,h6⟩
    ·cases h6
    ·rcases h6 with h6|⟨c',k',_,h7,_⟩
     ·omega
     ·cases h7
  ·cases e
 ·cases e
def qlK(c:PureC)(args:List V)(h:H):Option (V×H):=
 match qff c.us h args with
  |none=>none
  |some (d,ns,h)=>match h.test (c.pre d)with
   |some (true,h)=>match Tys.flat c.rs with
    |true=>some (resV c.rs (c.fn d),h)
    |false=>match ns.all fun b=>Nat.ble h.ro b with
     |true=>some (resV c.rs (c.fn d),qaE ns h)
     |false=>none
   |_=>none
def ownV:Nat→V→List Nat→List Nat
 |0,_,acc=>acc
 |n+1,v,acc=>match v with
  |.sl (some a) _ _=>a.b::acc
  |.agg cs=>cs.foldr (ownV n) acc
  |_=>acc
def qu8(c:PureC)(args:List V)(h:H):Bool:=
 match c.quiet,Nat.ble h.next h.ro with
 |true,false=>false
 |_,_=>match Tys.flat c.rs with
  |true=>true
  |false=>args.all fun v=>(ownV 6 v []).all fun b=>Nat.ble h.ro b
def qlp(tbl:FuncId→Option PureC):COrc:=fun f args h=>
 match tbl f with
 |none=>none
 |some c=>match qu8 c args h with
  |true=>qlK c args h
  |false=>none
theorem PureOk.quiet{P:Program}{f:FuncId}{c:PureC}(h:PureOk P f c):PureOk P f { c with quiet:=true }:=⟨h.enter,h.runs⟩
theorem qnG{P:Program}{tbl:FuncId→Option PureC}(ht:∀f c,tbl f=some c→PureOk P f c):COrcOk P (qlp tbl):=by
 intro f args h v h' e hh
 unfold qlp at e
 split at e
 ·cases e
 ·rename_i c hc
  obtain⟨hen,hruns⟩:=ht f c hc
  replace e:qlK c args h=some (v,h'):=by
   split at e
   ·exact e
   ·cases e
  unfold qlK at e
  split at e
  ·cases e
  ·rename_i d ns h1 hv
   split at e
   ·rename_i h2 hp
    split at e
    ·rename_i hfl
     cases e
     obtain⟨p1,p2,p3⟩:=H.test_holds hp hh
     obtain⟨q1,q2⟩:=qcO hv p1
     have s2:h.Same h':=q2.trans p3
     refine⟨q1,hen,fun φ args' w F n hF ha hr=>?_⟩
     obtain⟨b1,d1⟩:=qer hv p1 ha hr
     refine CallsIn.mono (hruns d p2 (qcn φ w ns) args' w F n hF (qeq hr ns) d1) ?_
     rintro e' w' ⟨x,f',rfl,r1,r2,r3,r4,r5,r6,r7,r8,r9⟩
     refine⟨φ,x,rfl,DRes.val (r1.flat hfl),(Goes.grown hr r5 r6 r7 r8 r9).trans (Goes.of_same (hr.grown r5 r6) s2 rfl rfl rfl rfl)⟩
    ·split at e
     ·rename_i hro
      cases e
      have hh2:h2.Holds:=fun p hp=>hh p (by rw[(killAll_spec (ns:=ns) (h:=h2)).2.2.1];exact hp)
      obtain⟨p1,p2,p3⟩:=H.test_holds hp hh2
      obtain⟨q1,q2⟩:=qcO hv p1
      have s2:h.Same h2:=q2.trans p3
      refine⟨q1,hen,fun φ args' w F n hF ha hr=>?_⟩
      obtain⟨b1,d1⟩:=qer hv p1 ha hr
      refine CallsIn.mono (hruns d p2 (qcn φ w ns) args' w F n hF (qeq hr ns) d1) ?_
      rintro e' w' ⟨x,f',rfl,r1,r2,r3,r4,r5,r6,r7,r8,r9⟩
      have hr2:=hr.same s2
      have hro':∀b∈ns,h2.ro≤b:=fun b hb=>Nat.le_of_ble_eq_true (List.all_eq_true.1 hro b hb)
      have b2:BoxNames φ h2 ns:=fun b hb=>by
       obtain⟨e,r,q,g1,g2⟩:=b1 b hb
       exact⟨e,r,q,by simp only[H.get]at g1 ⊢;rw[s2.2.2];exact g1,g2⟩
      have g:=Goes.freeze hr2 b2 hro' r2 r3 r4 r5 r6 r7 r8 r9
      exact⟨{ φ with fz:=f' },x,rfl,DRes.val (φ:={ φ with fz:=f' }) r1,(Goes.of_same hr s2 rfl rfl rfl rfl).trans g⟩
     ·cases e
   ·cases e
end Go.Vm

namespace Go.Vm
open Go
def qfN(h:H)(u:Ty)(v:V):Option (List u.data×List Nat):=
 match v with
 |.sl (some _) len (some c)=>match Nat.beq len c with
  |true=>qdC h u v
  |false=>none
 |_=>none
def settle:List Nat→List Pt→List V→H→List V×H
 |t::r,p::ps,ts,h=>match p with
  |.acc u=>match qfN h u (getT ts t)with
   |some (d,ns)=>settle r ps (ts.set t (.vs u d .tight)) (qaE ns h)
   |none=>settle r ps ts h
  |.ty u=>match u with
   |.slice u=>match qdC h u (getT ts t)with
    |some (d,ns)=>settle r ps (ts.set t (.vs u d .no)) (qaE ns h)
    |none=>settle r ps ts h
   |_=>settle r ps ts h
  |_=>settle r ps ts h
 |_,_,ts,h=>(ts,h)
theorem qa6:∀(sl:List Nat)(ps:List Pt)(ts:List V)(h:H),(settle sl ps ts h).1.length=ts.length
 |[],_,_,_=>rfl
 |_::_,[],_,_=>rfl
 |t::r,p::ps,ts,h=>by
  simp only[settle]
  split
  ·split
   ·rw[qa6];simp
   ·exact qa6 _ _ _ _
  ·split
   ·split
    ·rw[qa6];simp
    ·exact qa6 _ _ _ _
   ·exact qa6 _ _ _ _
  ·exact qa6 _ _ _ _
theorem VRels.put{φ:Map}{ts:List V}{rs:Array Value}{t:Nat}{v:V}(h:VRels φ ts rs.toList)(hv:VRel φ v (rs.getD t undef)):VRels φ (ts.set t v) rs.toList:=by
 refine VRels.of_get (by simp[h.length]) fun i u r hu hr=>?_
 rw[List.getElem?_set]at hu
 split at hu
 ·rename_i hti
  subst hti
  split at hu
  ·cases hu
   have:rs.getD t undef=r:=by
    have:rs[t]?=some r:=by simpa using hr
    simp[Array.getD_eq_getD_getElem?,this]
   rw[←this];exact hv
  ·cases hu
 ·obtain⟨x,hx,hv⟩:=h.get _ _ hu
  rw[hr]at hx
  cases hx
  exact hv
theorem qf8{h:H}{u:Ty}{v:V}{p:List u.data×List Nat}{φ:Map}{a:Option Addr}{n cap:Nat}(hs:qfN h u v=some p)(hv:VRel φ v (.slice a n cap)):qdC h u v=some p∧cap=n:=by
 unfold qfN at hs
 split at hs
 ·rename_i va len c
  split at hs
  ·rename_i hb
   refine⟨hs,?_⟩
   cases hv with
   |sl _ k _ cap' _ hk hl hc hz=>
    have h1:=hc c rfl
    have h2:=Nat.eq_of_beq_eq_true hb
    omega
  ·cases hs
 ·cases hs
theorem qb6{w:World}{rs:Array Value}:∀(sl:List Nat)(ps:List Pt)(ts:List V)(h:H)(φ:Map),VRels φ ts rs.toList→HRel φ h w →
  ∃φ',VRels φ' (settle sl ps ts h).1 rs.toList∧Goes φ h w φ' (settle sl ps ts h).2 w
 |[],_,_,_,φ,hts,hr=>⟨φ,hts,Goes.refl hr⟩
 |_::_,[],_,_,φ,hts,hr=>⟨φ,hts,Goes.refl hr⟩
 |t::r,p::ps,ts,h,φ,hts,hr=>by
  simp only[settle]
  split
  ·rename_i u
   split
   ·rename_i d ns hs
    have hv:=qbP hts t
    have hs':qdC h u (getT ts t)=some (d,ns):=by
     unfold qfN at hs
     split at hs
     ·split at hs
      ·exact hs
      ·cases hs
     ·cases hs
    obtain⟨f',g,a,n,cap,hx,h3,h4⟩:=qdk hs' hv hr
    rw[hx]at hv
    have hfull:=(qf8 hs hv).2
    have hd':VRel { φ with fz:=f' } (.vs u d .tight) (rs.getD t undef):=by
     rw[hx]
     exact .vs _ _ _ _ _ _ h3 h4 hfull
    obtain⟨φ2,q1,q2⟩:=qb6 r ps _ _ _ (VRels.put (hts.mono g.le) hd') g.rel
    exact⟨φ2,q1,g.trans q2⟩
   ·exact qb6 r ps ts h φ hts hr
  ·split
   ·rename_i u
    split
    ·rename_i d ns hs
     have hv:=qbP hts t
     obtain⟨f',g,a,n,cap,hx,h3,h4⟩:=qdk hs hv hr
     have hd':VRel { φ with fz:=f' } (.vs u d .no) (rs.getD t undef):=by
      rw[hx]
      exact .vs _ _ _ _ _ _ h3 h4 trivial
     obtain⟨φ2,q1,q2⟩:=qb6 r ps _ _ _ (VRels.put (hts.mono g.le) hd') g.rel
     exact⟨φ2,q1,g.trans q2⟩
    ·exact qb6 r ps ts h φ hts hr
   ·exact qb6 r ps ts h φ hts hr
  ·exact qb6 r ps ts h φ hts hr
theorem Runs.settled{P:Program}{rd:Rd}{c:Code}{st:S}{x:X}{ts:List V}{dfs:List Nat}{h:H}(k:Runs P rd c st x { ts:=ts,dfs:=dfs,h:=h })(sl:List Nat)(ps:List Pt):
  Runs P rd c st x { ts:=(settle sl ps ts h).1,dfs:=dfs,h:=(settle sl ps ts h).2 }:=by
 intro φ a w F n hF hrd hts hm hr
 refine wpIn_mono (k φ a w F n hF hrd hts hm hr) ?_
 rintro e a' w' ⟨he,φ1,r1,r2,g⟩
 obtain⟨φ2,q1,q2⟩:=qb6 sl ps ts h φ1 r1 g.rel
 exact⟨he,φ2,q1,r2.goes g.rel q2,g.trans q2⟩
def qb2:List Nat→List Pt→List V→H→List V×H
 |t::r,p::ps,ts,h=>match p with
  |.acc u=>match qfN h u (getT ts t)with
   |some (d,ns)=>qb2 r ps (ts.set t (.vs u d .tight)) (qaE ns h)
   |none=>qb2 r ps ts h
  |.ty u=>match u with
   |.slice u=>match qeb h u (getT ts t)with
    |some (d,ns,h2)=>qb2 r ps (ts.set t (.vs u d .no)) (qaE ns h2)
    |none=>qb2 r ps ts h
   |_=>qb2 r ps ts h
  |_=>qb2 r ps ts h
 |_,_,ts,h=>(ts,h)
theorem qdy{ns:List Nat}{h:H}(hh:(qaE ns h).Holds):h.Holds:=fun p hp=>hh p (by rw[qbg];exact hp)
theorem qjf{h h2:H}{u:Ty}{v:V}{d:List u.data}{ns:List Nat}(hs:qeb h u v=some (d,ns,h2))(hh:h2.Holds):h.Holds:=(qfY hs).holds hh
theorem qaN:∀(sl:List Nat)(ps:List Pt)(ts:List V)(h:H),(qb2 sl ps ts h).2.Holds→h.Holds
 |[],_,_,_,hh=>hh
 |_::_,[],_,_,hh=>hh
 |t::r,p::ps,ts,h,hh=>by
  simp only[qb2]at hh
  split at hh
  ·split at hh
   ·exact qdy (qaN r ps _ _ hh)
   ·exact qaN r ps _ _ hh
  ·split at hh
   ·split at hh
    ·rename_i hs
     exact qjf hs (qdy (qaN r ps _ _ hh))
    ·exact qaN r ps _ _ hh
   ·exact qaN r ps _ _ hh
  ·exact qaN r ps _ _ hh
theorem qbE{w:World}{rs:Array Value}:∀(sl:List Nat)(ps:List Pt)(ts:List V)(h:H)(φ:Map),(qb2 sl ps ts h).2.Holds→VRels φ ts rs.toList→HRel φ h w →
  ∃φ',VRels φ' (qb2 sl ps ts h).1 rs.toList∧Goes φ h w φ' (qb2 sl ps ts h).2 w
 |[],_,_,_,φ,_,hts,hr=>⟨φ,hts,Goes.refl hr⟩
 |_::_,[],_,_,φ,_,hts,hr=>⟨φ,hts,Goes.refl hr⟩
 |t::r,p::ps,ts,h,φ,hh,hts,hr=>by
  simp only[qb2]at hh ⊢
  split at hh
  ·rename_i u
   split at hh
   ·rename_i d ns hs
    have hv:=qbP hts t
    have hs':qdC h u (getT ts t)=some (d,ns):=by
     unfold qfN at hs
     split at hs
     ·split at hs
      ·exact hs
      ·cases hs
     ·cases hs
    obtain⟨f',g,a,n,cap,hx,h3,h4⟩:=qdk hs' hv hr
    rw[hx]at hv
    have hfull:=(qf8 hs hv).2
    have hd':VRel { φ with fz:=f' } (.vs u d .tight) (rs.getD t undef):=by
     rw[hx]
     exact .vs _ _ _ _ _ _ h3 h4 hfull
    obtain⟨φ2,q1,q2⟩:=qbE r ps _ _ _ hh (VRels.put (hts.mono g.le) hd') g.rel
    exact⟨φ2,q1,g.trans q2⟩
   ·rename_i hs
    exact qbE r ps ts h φ hh hts hr
  ·split at hh
   ·rename_i u
    split at hh
    ·rename_i d ns h2 hs
     have hv:=qbP hts t
     obtain⟨_,f',g,a,n,cap,hx,h3,h4⟩:=qeU hs (qdy (qaN r ps _ _ hh)) hv hr
     have hd':VRel { φ with fz:=f' } (.vs u d .no) (rs.getD t undef):=by
      rw[hx]
      exact .vs _ _ _ _ _ _ h3 h4 trivial
     obtain⟨φ2,q1,q2⟩:=qbE r ps _ _ _ hh (VRels.put (hts.mono g.le) hd') g.rel
     exact⟨φ2,q1,g.trans q2⟩
    ·rename_i hs
     exact qbE r ps ts h φ hh hts hr
   ·exact qbE r ps ts h φ hh hts hr
  ·exact qbE r ps ts h φ hh hts hr
def qtQ(sh:Sh)(st:S):S:=
 match st with
 |{ ts,dfs,h }=>match qb2 sh.slots sh.pats ts h with
  |(ts,h)=>{ ts:=ts,dfs:=dfs,h:=h }
def qgI:List LoopC→S→Option (X×S)
 |[],_=>none
 |c::r,st=>match qjq c (qtQ c.sh st)with
  |some o=>some o
  |none=>qgI r st
def qmt(tbl:Nat→Nat→List LoopC):LOrc:=fun f id st=>match qhT (tbl f id) st with
 |some o=>some o
 |none=>qgI (tbl f id) st
theorem qnJ{P:Program}{tbl:Nat→Nat→List LoopC}(ht:∀f id,∀c∈tbl f id,qau P f id c):LOrcOk P (qmt tbl):=by
 intro f id code st x st' hb hin e hh
 unfold qmt at e
 split at e
 ·rename_i o ho
  cases e
  exact qqH ht f id code st x st' hb hin ho hh
 ·have key:∀l:List LoopC,(∀c∈l,qau P f id c)→qgI l st=some (x,st')→st.h.Holds ∧
    ∀(φ:Map)(a:Act)(w:World)(F:Fence)(n:Nat),Wide F→RoundRel φ .none F.round→VRels φ st.ts a.tmps.toList→MarksRel φ w st.dfs a.defers→HRel φ st.h w→code.wpIn F n P (Post φ st.h w x st') a w:=by
   intro l
   induction l with
   |nil=>intro _ e;cases e
   |cons c r ih=>
    intro hl e
    simp only[qgI]at e
    split at e
    ·rename_i o ho
     cases e
     obtain⟨k1,k2⟩:=qij (hl c (List.mem_cons_self ..)) hb hin ho hh
     obtain⟨ts,dfs,h⟩:=st
     refine⟨qaN c.sh.slots c.sh.pats ts h k1,fun φ a w F n hF hrd hts hm hr=>?_⟩
     obtain⟨φ1,q1,q2⟩:=qbE c.sh.slots c.sh.pats ts h φ k1 hts hr
     refine wpIn_mono (k2 φ1 a w F n hF (RoundRel.mono q2.le hrd) q1 (hm.goes hr q2) q2.rel) ?_
     intro e' a' w' p
     exact p.from q2
    ·exact ih (fun c hc=>hl c (List.mem_cons_of_mem _ hc)) e
  exact key _ (ht f id) e
end Go.Vm

namespace Go.Vm
open Go
def qa2(id:Nat):Code→List Code
 |.seq a b=>qa2 id a++qa2 id b
 |.cond _ a b=>qa2 id a++qa2 id b
 |.block j b=>match Nat.beq j id with
  |true=>b::qa2 id b
  |false=>qa2 id b
 |.loop b=>qa2 id b
 |_=>[]
theorem qjV{id:Nat}:∀{c b:Code},b∈qa2 id c→Part (.block id b) c:=by
 intro c
 induction c with
 |seq x y ihx ihy=>
  intro b h
  rcases List.mem_append.1 h with h|h
  ·exact .seqL (ihx h)
  ·exact .seqR (ihy h)
 |cond o x y ihx ihy=>
  intro b h
  rcases List.mem_append.1 h with h|h
  ·exact .thn (ihx h)
  ·exact .els (ihy h)
 |block j x ih=>
  intro b h
  simp only[qa2]at h
  split at h
  ·rename_i hj
   have:=Nat.eq_of_beq_eq_true hj
   subst this
   rcases List.mem_cons.1 h with rfl|h
   ·exact .refl _
   ·exact .block (ih h)
  ·exact .block (ih h)
 |loop x ih=>intro b h;exact .loop (ih h)
 |_=>intro b h;cases h
theorem qi2{id:Nat}{c b:Code}(h:Part (.block id b) c):b∈qa2 id c:=by
 generalize hx:Code.block id b=x at h
 induction h with
 |refl=>subst hx;simp only[qa2,Nat.beq_refl];exact List.mem_cons_self ..
 |seqL _ ih=>subst hx;exact List.mem_append_left _ ih
 |seqR _ ih=>subst hx;exact List.mem_append_right _ ih
 |thn _ ih=>subst hx;exact List.mem_append_left _ ih
 |els _ ih=>subst hx;exact List.mem_append_right _ ih
 |block _ ih=>
  subst hx
  simp only[qa2]
  split
  ·exact List.mem_cons_of_mem _ ih
  ·exact ih
 |loop _ ih=>subst hx;exact ih
def loopBody(P:Program)(f id:Nat):Code:=
 match qa2 id (qgp P f)with
 |[.loop b]=>b
 |_=>.skip
def qcI(P:Program)(f id:Nat):Bool:=
 match qa2 id (qgp P f)with
 |[.loop _]=>true
 |_=>false
theorem qkO{P:Program}{f id:Nat}(h:qcI P f id=true):qa2 id (qgp P f)=[.loop (loopBody P f id)]:=by
 unfold qcI at h
 unfold loopBody
 split at h
 ·rename_i b e;rw[e]
 ·cases h
theorem qpk{P:Program}{f id:Nat}(h:qcI P f id=true):InB P (.top f) (loopBody P f id):=by
 have h1:=qkO h
 have hp:Part (.block id (.loop (loopBody P f id))) (qgp P f):=qjV (by rw[h1];exact List.mem_cons_self ..)
 generalize loopBody P f id=lb at hp
 unfold qgp at hp
 split at hp
 ·rename_i fn hf
  split at hp
  ·rename_i b hb
   exact⟨fn,b,hf,hb,((Part.refl _).loop.block).trans hp⟩
  ·cases hp
 ·cases hp
theorem qoO{P:Program}{f id:Nat}(h:qcI P f id=true){code:Code}(hb:qfW id code)(hin:InB P (.top f) code):code=.block id (.loop (loopBody P f id)):=by
 obtain⟨fn,b,hf,hfb,hp⟩:=hin
 have hbody:qgp P f=b:=by simp only[qgp,hf,hfb]
 cases code with
 |block j x=>
  have hj:j=id:=hb
  subst hj
  have hm:=qi2 hp
  rw[←hbody,qkO h]at hm
  rw[List.mem_singleton.1 hm]
 |_=>exact hb.elim
def Pts.dflt:(ps:List Pt)→Pts.data ps
 |[]=>()
 |.ty t::r=>(t.dflt,Pts.dflt r)
 |.acc _::r=>([],Pts.dflt r)
 |.aco _::r=>([],Pts.dflt r)
 |.sli _ _::r=>((0,0),Pts.dflt r)
 |.slu _ _::r=>(0,Pts.dflt r)
 |.ptr _ _ _::r=>Pts.dflt r
 |.fn _ _::r=>Pts.dflt r
 |.nil::r=>Pts.dflt r
 |.yld _::r=>Pts.dflt r
 |.mth _ t::r=>(t.dflt,Pts.dflt r)
 |.map _::r=>Pts.dflt r
def BShs.dflt:(bs:List BSh)→BShs.data bs
 |[]=>()
 |.row ps::r=>(Pts.dflt ps,BShs.dflt r)
 |.arr _::r=>([],BShs.dflt r)
 |.lp _ ps::r=>(Pts.dflt ps,BShs.dflt r)
 |.dfr::r=>BShs.dflt r
 |.map _ _::r=>([],BShs.dflt r)
 |.mapd _ _::r=>(([],0),BShs.dflt r)
 |.mit _::r=>((0,[]),BShs.dflt r)
 |.mitx::r=>BShs.dflt r
def Sh.dflt(s:Sh):s.data:=(Pts.dflt s.pats,BShs.dflt s.boxes)
def Tys.dflt:(ts:List Ty)→Tys.data ts
 |[]=>()
 |t::ts=>(t.dflt,Tys.dflt ts)
inductive Tr(R:Type) where
 |fin (r:R)
 |stop
 |test (b:Bool) (yes no:Tr R)
def Tr.val{R:Type}:Tr R→Option R
 |.fin r=>some r
 |.stop=>none
 |.test b y n=>match b with
  |true=>y.val
  |false=>n.val
def TrOk{R:Type}(Q:R→Prop):Tr R→Prop
 |.fin r=>Q r
 |.stop=>True
 |.test b y n=>(b=true→TrOk Q y)∧(b=false→TrOk Q n)
theorem TrOk.val{R:Type}{Q:R→Prop}:∀{t:Tr R}{r:R},TrOk Q t→t.val=some r→Q r
 |.fin r,_,h,e=>by cases e;exact h
 |.stop,_,_,e=>by cases e
 |.test b y n,r,h,e=>by
  cases b with
  |true=>exact TrOk.val (h.1 rfl) e
  |false=>exact TrOk.val (h.2 rfl) e
theorem TrOk.ofStop{R:Type}{Q:R→Prop}:TrOk Q .stop:=trivial
theorem All.cons{b d:Bool}{r:List (Bool×Bool)}(h:b=d)(t:All r):All ((b,d)::r):=⟨h,t⟩
theorem All.nil:All []:=trivial
def qmV(P:Program)(f:Nat):Bool:=
 match P.funcs[f]? with
 |some fn=>fn.body.isSome
 |none=>false
def pcOf(us rs:List Ty)(F:Tys.data us→Option (Tys.data rs))(g:Tys.data us→Tys.data rs):PureC where
 us:=us
 rs:=rs
 pre d:=(F d).isSome
 fn:=g
def qu1(us rs:List Ty)(F:Tys.data us→Option (Tys.data rs)):PureC where
 us:=us
 rs:=rs
 pre d:=(F d).isSome
 fn d:=(F d).getD (Tys.dflt rs)
def PureRuns(P:Program)(orc:Orc)(f:Nat)(us rs:List Ty)(d:Tys.data us)(r:Tys.data rs):Prop:=
 ∃n ans said,(runPure orc P n f us rs d ans=some (r,said)∨runPureB orc P n f us rs d ans=some (r,said))∧All said
section
variable {P:Program} {orc:Orc}
theorem PureRuns.of{n f:Nat}{us rs:List Ty}{d:Tys.data us}{r:Tys.data rs}{ans:List Bool}{said:List (Bool×Bool)}(e:runPure orc P n f us rs d ans=some (r,said))(h:All said):PureRuns P orc f us rs d r:=⟨n,ans,said,.inl e,h⟩
theorem PureRuns.ofB{n f:Nat}{us rs:List Ty}{d:Tys.data us}{r:Tys.data rs}{ans:List Bool}{said:List (Bool×Bool)}(e:runPureB orc P n f us rs d ans=some (r,said))(h:All said):PureRuns P orc f us rs d r:=⟨n,ans,said,.inr e,h⟩
theorem qna(hp:Plain P){f:Nat}(hf:qmV P f=true)(args:Array Value)(w:World):(callFunc f args).run P w=.ok (.enter f args) w:=by
 unfold qmV at hf
 split at hf
 ·rename_i fn h
  cases hb:fn.body with
  |none=>rw[hb]at hf;cases hf
  |some c=>exact qd7 hp h hb args w
 ·cases hf
theorem qac(b:Base P orc){f:Nat}{us rs:List Ty}{T:Tys.data us→Tr (Tys.data rs)}(hf:qmV P f=true)(h:∀d,TrOk (PureRuns P orc f us rs d) (T d)):PureOk P f (qu1 us rs fun d=>(T d).val) where
 enter:=qna b.plain hf
 runs:=fun d hd=>by
  have hd:((T d).val).isSome=true:=hd
  show qnL P f us rs d (((T d).val).getD (Tys.dflt rs))
  cases e:(T d).val with
  |none=>rw[e]at hd;cases hd
  |some r=>
   obtain⟨n,ans,said,h1,h2⟩:=(h d).val e
   rcases h1 with h1|h1
   ·exact qhC b h1 h2
   ·exact qkI b h1 h2
theorem qjn(b:Base P orc){n f:Nat}{rs:List Ty}{r:Tys.data rs}{said:List (Bool×Bool)}(hf:qmV P f=true)(e:qkb orc P n f [] rs () none=some (r,said))(h:All said):PureOk P f (pcOf [] rs (fun _=>some r) fun _=>r) where
 enter:=qna b.plain hf
 runs:=fun d _=>by
  have:d=():=rfl
  subst this
  exact qhC b e h
def Sh.stQ(s:Sh)(d:s.data)(ask:Option (List Bool)):SQ:={ ts:=.of (s.ts d),dfs:=[],h:=s.h d ask }
def outOf(sh shB shR:Sh)(id:Nat)(x:X)(st:SQ):Option (Out sh.data shB.data shR.data):=
 match st with
 |{ ts,dfs,h }=>match ts.list with
  |ts=>match Nat.beq ts.length sh.n with
   |false=>none
   |true=>match x with
    |.normal=>match settle sh.slots sh.pats ts h with
     |(ts,h)=>match qf3 sh.nb dfs h with
      |false=>none
      |true=>match sh.view (List.range sh.nb) ts h with
       |some (d,_)=>some (.again d)
       |none=>none
    |.exit j=>match Nat.beq j id with
     |true=>match qf3 sh.nb dfs h with
      |false=>none
      |true=>match shB.view (List.range sh.nb) ts h with
       |some (d,_)=>some (.brk d)
       |none=>none
     |false=>none
    |.ret=>match settle shR.slots shR.pats ts h with
     |(ts,h)=>match qf3 sh.nb dfs h with
      |false=>none
      |true=>match shR.view (List.range sh.nb) ts h with
       |some (d,_)=>some (.ret d)
       |none=>none
def qmb:List Bool→List (Bool×Bool)→List (Bool×Bool)
 |[],l=>l
 |c::r,l=>(c,true)::qmb r l
theorem qg5:∀{l:List Bool}{said:List (Bool×Bool)},All (qmb l said)→All said∧∀c∈l,c=true
 |[],_,e=>⟨e,fun c hc=>by cases hc⟩
 |c::r,said,e=>by
  obtain⟨e1,e2⟩:=e
  obtain⟨k1,k2⟩:=qg5 e2
  refine⟨k1,fun d hd=>?_⟩
  rcases List.mem_cons.1 hd with rfl|hd
  ·exact e1
  ·exact k2 d hd
def qgG(h:H)(nb:Nat)(sh:List BSh)(said:List (Bool×Bool)):List (Bool×Bool):=qmb (qcp h (List.range nb) sh 0) said
theorem qbi{h:H}{nb:Nat}{sh:List BSh}{said:List (Bool×Bool)}(e:All (qgG h nb sh said)):All said∧qbY h (List.range nb) sh 0=true:=by
 obtain⟨k1,k2⟩:=qg5 e
 exact⟨k1,qcf _ _ _ _ k2⟩
def qlZ(sh shB shR:Sh)(x:X)(st:SQ)(said:List (Bool×Bool)):List (Bool×Bool):=
 match x with
 |.normal=>qgG (settle sh.slots sh.pats st.ts.list st.h).2 sh.nb sh.boxes said
 |.exit _=>qgG st.h sh.nb shB.boxes said
 |.ret=>qgG (settle shR.slots shR.pats st.ts.list st.h).2 sh.nb shR.boxes said
theorem qhn{sh shB shR:Sh}{x:X}{st:SQ}{said:List (Bool×Bool)}(e:All (qlZ sh shB shR x st said)):All said:=by
 cases x<;>exact(qbi e).1
def qar(orc:Orc)(P:Program)(n f id:Nat)(sh shB shR:Sh)(d:sh.data)(ans:List Bool):Option (Out sh.data shB.data shR.data×List (Bool×Bool)):=
 match(qd5 orc P n).exec (.top f) (loopBody P f id) (sh.stQ d (some ans))with
 |some (x,st)=>match outOf sh shB shR id x st with
  |some o=>some (o,qlZ sh shB shR x st st.h.said)
  |none=>none
 |none=>none
def BodyRuns(P:Program)(orc:Orc)(f id:Nat)(sh shB shR:Sh)(d:sh.data)(o:Out sh.data shB.data shR.data):Prop:=
 ∃n ans said,qar orc P n f id sh shB shR d ans=some (o,said)∧All said
theorem BodyRuns.of{n f id:Nat}{sh shB shR:Sh}{d:sh.data}{o:Out sh.data shB.data shR.data}{ans:List Bool}{said:List (Bool×Bool)}(e:qar orc P n f id sh shB shR d ans=some (o,said))(h:All said):BodyRuns P orc f id sh shB shR d o:=⟨n,ans,said,e,h⟩
theorem Runs.same{rd:Rd}{c:Code}{ts:List V}{h h2:H}{x:X}{st':S}(k:Runs P rd c { ts:=ts,dfs:=[],h:=h } x st')(s:h.Same h2):Runs P rd c { ts:=ts,dfs:=[],h:=h2 } x st':=by
 intro φ a w F n hF hrd hts hm hr
 have s':h2.Same h:=⟨s.1.symm,s.2.1.symm,s.2.2.symm⟩
 exact wpIn_mono (k φ a w F n hF hrd hts hm (hr.same s')) fun e a' w' p=>p.from (Goes.of_same hr s' rfl rfl rfl rfl)
theorem qor(b:Base P orc){f id:Nat}{sh shB shR:Sh}(hl:qcI P f id=true){d:sh.data}{o:Out sh.data shB.data shR.data}(k:BodyRuns P orc f id sh shB shR d o):
  qmx P f id (loopBody P f id) sh shB shR d o:=by
 obtain⟨n,ans,said,h1,h2⟩:=k
 unfold qar at h1
 split at h1
 ·rename_i x st hx
  split at h1
  ·rename_i o' ho
   cases h1
   have hr:=Runs.of_q b (qpk hl) hx (All.holds (qhn h2))
   have hst:(sh.stQ d (some ans)).real={ ts:=sh.ts d,dfs:=[],h:=sh.h d (some ans) }:=by simp only[Sh.stQ,SQ.real,Slots.of_list]
   rw[hst]at hr
   have hr2:Runs P (.top f) (loopBody P f id) (sh.st d none) x st.real:=Runs.same hr (show(sh.h d (some ans)).Same (sh.h d none)from⟨rfl,rfl,rfl⟩)
   obtain⟨ts,dfs,h⟩:=st
   unfold outOf at ho
   ·dsimp only at ho
    split at ho
    ·cases ho
    ·rename_i hlen
     have hlen:=Nat.eq_of_beq_eq_true hlen
     cases x with
     |normal=>
      refine⟨{ ts:=(settle sh.slots sh.pats ts.list h).1,dfs:=dfs,h:=(settle sh.slots sh.pats ts.list h).2 },?_⟩
      dsimp only at ho
      split at ho
      ·cases ho
      rename_i hdo
      split at ho
      ·rename_i d' tips hv
       cases ho
       exact⟨tips,by rw[qa6];exact hlen,hdo,hr2.settled _ _,hv,(qbi h2).2⟩
      ·cases ho
     |exit j=>
      refine⟨{ ts:=ts.list,dfs:=dfs,h:=h },?_⟩
      dsimp only at ho
      split at ho
      ·rename_i hj
       have:=Nat.eq_of_beq_eq_true hj
       subst this
       split at ho
       ·cases ho
       rename_i hdo
       split at ho
       ·rename_i d' tips hv
        cases ho
        exact⟨tips,hlen,hdo,hr2,hv,(qbi h2).2⟩
       ·cases ho
      ·cases ho
     |ret=>
      refine⟨{ ts:=(settle shR.slots shR.pats ts.list h).1,dfs:=dfs,h:=(settle shR.slots shR.pats ts.list h).2 },?_⟩
      dsimp only at ho
      split at ho
      ·cases ho
      rename_i hdo
      split at ho
      ·rename_i d' tips hv
       cases ho
       exact⟨tips,by rw[qa6];exact hlen,hdo,hr2.settled _ _,hv,(qbi h2).2⟩
      ·cases ho
  ·cases h1
 ·cases h1
def rounds:Nat:=1000000000000000000000000
def outB{B C:Type}(b:B):Option (B ⊕ C)→B
 |some (.inl b)=>b
 |_=>b
def outR{B C:Type}(c:C):Option (B ⊕ C)→C
 |some (.inr c)=>c
 |_=>c
def qas{B C:Type}:Option (B ⊕ C)→Bool
 |some (.inr _)=>true
 |_=>false
def qax{B C:Type}:Option (B ⊕ C)→Bool
 |some (.inl _)=>true
 |_=>false
def qhX{B C:Type}:Option (B ⊕ C)→Bool
 |some (.inr _)=>true
 |_=>false
def lcOf(sh shB shR:Sh)(L:sh.data→Option (shB.data ⊕ shR.data))(fb:sh.data→shB.data)(fr:sh.data→shR.data):LoopC where
 sh:=sh
 pre d:=(L d).isSome
 br d:=qas (L d)
 out b d:=match b with
  |false=>some (.normal,shB.st (fb d) none)
  |true=>some (.ret,shR.st (fr d) none)
def lcB(sh shB shR:Sh)(L:sh.data→Option (shB.data ⊕ shR.data))(fb:sh.data→shB.data):LoopC where
 sh:=sh
 pre d:=qax (L d)
 br _:=true
 out b d:=match b with
  |true=>some (.normal,shB.st (fb d) none)
  |false=>none
def lcR(sh shB shR:Sh)(L:sh.data→Option (shB.data ⊕ shR.data))(fr:sh.data→shR.data):LoopC where
 sh:=sh
 pre d:=qhX (L d)
 br _:=true
 out b d:=match b with
  |true=>some (.ret,shR.st (fr d) none)
  |false=>none
def qh4(sh shB shR:Sh):Bool:=Nat.beq shB.nb sh.nb&&(Nat.beq shR.nb sh.nb&&(Nat.beq shB.n sh.n&&Nat.beq shR.n sh.n))
theorem qhh(b:Base P orc){f id:Nat}{sh shB shR:Sh}(hl:qcI P f id=true)(hs:qh4 sh shB shR=true){T:sh.data→Tr (Out sh.data shB.data shR.data)}(h:∀d,TrOk (BodyRuns P orc f id sh shB shR d) (T d))
  {code:Code} (hb:qfW id code) (hin:InB P (.top f) code) {d:sh.data} {r:shB.data ⊕ shR.data} (e:itr (fun d=>(T d).val) rounds d=some r):
  qpR P (.top f) code sh d (endOf (shB.st · none) (shR.st · none) r).1 (endOf (shB.st · none) (shR.st · none) r).2:=by
 simp only[qh4,Bool.and_eq_true]at hs
 obtain⟨s1,s2,s3,s4⟩:=hs
 have body:qqr P f id (loopBody P f id) sh shB shR (fun d=>(T d).val):=fun d o ho=>qor b hl ((h d).val ho)
 rw[qoO hl hb hin]
 exact qoI body (Nat.eq_of_beq_eq_true s1) (Nat.eq_of_beq_eq_true s2) (Nat.eq_of_beq_eq_true s3) (Nat.eq_of_beq_eq_true s4) e
theorem qaF(b:Base P orc){f id:Nat}{sh shB shR:Sh}(hl:qcI P f id=true)(hs:qh4 sh shB shR=true){T:sh.data→Tr (Out sh.data shB.data shR.data)}(h:∀d,TrOk (BodyRuns P orc f id sh shB shR d) (T d))
  {L:sh.data→Option (shB.data ⊕ shR.data)} (hL:∀d,L d=itr (fun d=>(T d).val) rounds d):
  qau P f id (lcOf sh shB shR L (fun d=>outB shB.dflt (L d)) (fun d=>outR shR.dflt (L d))):=by
 intro code hb hin d x st1 hp ho hd
 have hp:(L d).isSome=true:=hp
 have ho:(match qas (L d)with
  |false=>some (X.normal,shB.st (outB shB.dflt (L d)) none)
  |true=>some (X.ret,shR.st (outR shR.dflt (L d)) none))=some (x,st1):=ho
 cases e:L d with
 |none=>rw[e]at hp;cases hp
 |some r=>
  have key:=qhh b hl hs h hb hin ((hL d).symm.trans e)
  rw[e]at ho
  cases r with
  |inl b=>cases ho;exact key
  |inr c=>cases ho;exact key
theorem qaC(b:Base P orc){f id:Nat}{sh shB shR:Sh}(hl:qcI P f id=true)(hs:qh4 sh shB shR=true){T:sh.data→Tr (Out sh.data shB.data shR.data)}(h:∀d,TrOk (BodyRuns P orc f id sh shB shR d) (T d))
  {L:sh.data→Option (shB.data ⊕ shR.data)} (hL:∀d,L d=itr (fun d=>(T d).val) rounds d):
  qau P f id (lcB sh shB shR L (fun d=>outB shB.dflt (L d))):=by
 intro code hb hin d x st1 hp ho hd
 have hp:qax (L d)=true:=hp
 have ho:some (X.normal,shB.st (outB shB.dflt (L d)) none)=some (x,st1):=ho
 cases e:L d with
 |none=>rw[e]at hp;cases hp
 |some r=>
  have key:=qhh b hl hs h hb hin ((hL d).symm.trans e)
  rw[e]at ho hp
  cases r with
  |inl b=>cases ho;exact key
  |inr c=>cases hp
theorem qnx(b:Base P orc){f id:Nat}{sh shB shR:Sh}(hl:qcI P f id=true)(hs:qh4 sh shB shR=true){T:sh.data→Tr (Out sh.data shB.data shR.data)}(h:∀d,TrOk (BodyRuns P orc f id sh shB shR d) (T d))
  {L:sh.data→Option (shB.data ⊕ shR.data)} (hL:∀d,L d=itr (fun d=>(T d).val) rounds d):
  qau P f id (lcR sh shB shR L (fun d=>outR shR.dflt (L d))):=by
 intro code hb hin d x st1 hp ho hd
 have hp:qhX (L d)=true:=hp
 have ho:some (X.ret,shR.st (outR shR.dflt (L d)) none)=some (x,st1):=ho
 cases e:L d with
 |none=>rw[e]at hp;cases hp
 |some r=>
  have key:=qhh b hl hs h hb hin ((hL d).symm.trans e)
  rw[e]at ho hp
  cases r with
  |inl b=>cases hp
  |inr c=>cases ho;exact key
end
structure Known where
 funcs:List (Nat×PureC)
 loops:List (Nat×Nat×LoopC)
def qq5:List (Nat×PureC)→Nat→Option PureC
 |[],_=>none
 |(f,c)::r,g=>match Nat.beq f g with
  |true=>some c
  |false=>qq5 r g
def qn1:List (Nat×Nat×LoopC)→Nat→Nat→List LoopC
 |[],_,_=>[]
 |(f,i,c)::r,g,j=>match Nat.beq f g with
  |true=>match Nat.beq i j with
   |true=>c::qn1 r g j
   |false=>qn1 r g j
  |false=>qn1 r g j
def Known.orc(k:Known):Orc:={ call:=qlp (qq5 k.funcs),loop:=qmt (qn1 k.loops) }
structure KnownOk(P:Program)(k:Known):Prop where
 plain:Plain P
 mixed:P.follows .mixedOrders=true
 funcs:∀p∈k.funcs,PureOk P p.1 p.2
 loops:∀p∈k.loops,qau P p.1 p.2.1 p.2.2
theorem qkY:∀{l:List (Nat×PureC)}{g:Nat}{c:PureC},qq5 l g=some c→(g,c)∈l
 |[],_,_,e=>by cases e
 |(f,c)::r,g,d,e=>by
  simp only[qq5]at e
  split at e
  ·rename_i h;have:=Nat.eq_of_beq_eq_true h;subst this;cases e;exact List.mem_cons_self ..
  ·exact List.mem_cons_of_mem _ (qkY e)
theorem qfb:∀{l:List (Nat×Nat×LoopC)}{g j:Nat}{c:LoopC},c∈qn1 l g j→(g,j,c)∈l
 |[],_,_,_,e=>by cases e
 |(f,i,c)::r,g,j,d,e=>by
  simp only[qn1]at e
  split at e
  ·rename_i h1
   split at e
   ·rename_i h2
    have:=Nat.eq_of_beq_eq_true h1;subst this
    have:=Nat.eq_of_beq_eq_true h2;subst this
    rcases List.mem_cons.1 e with rfl|e
    ·exact List.mem_cons_self ..
    ·exact List.mem_cons_of_mem _ (qfb e)
   ·exact List.mem_cons_of_mem _ (qfb e)
  ·exact List.mem_cons_of_mem _ (qfb e)
theorem KnownOk.base{P:Program}{k:Known}(h:KnownOk P k):Base P k.orc where
 plain:=h.plain
 mixed:=h.mixed
 orc:=⟨qnG fun _ _ e=>h.funcs _ (qkY e),qnJ fun _ _ _ e=>h.loops _ (qfb e)⟩
def Known.func(k:Known)(f:Nat)(c:PureC):Known:={ funcs:=(f,c)::k.funcs,loops:=k.loops }
def Known.loop(k:Known)(f id:Nat)(c:LoopC):Known:={ funcs:=k.funcs,loops:=(f,id,c)::k.loops }
theorem KnownOk.func{P:Program}{k:Known}(h:KnownOk P k){f:Nat}{c:PureC}(hc:PureOk P f c):KnownOk P (k.func f c) where
 plain:=h.plain
 mixed:=h.mixed
 funcs:=fun p hp=>by
  rcases List.mem_cons.1 hp with rfl|hp
  ·exact hc
  ·exact h.funcs p hp
 loops:=h.loops
theorem KnownOk.loop{P:Program}{k:Known}(h:KnownOk P k){f id:Nat}{c:LoopC}(hc:qau P f id c):KnownOk P (k.loop f id c) where
 plain:=h.plain
 mixed:=h.mixed
 funcs:=h.funcs
 loops:=fun p hp=>by
  rcases List.mem_cons.1 hp with rfl|hp
  ·exact hc
  ·exact h.loops p hp
theorem qu2{b v:Bool}(h:b=v):(!b)=!v:=by rw[h]
theorem qu6{b v:Bool}(h:(!b)=v):b=!v:=by rw[←h,Bool.not_not]
end Go.Vm

namespace Go.Vm
open Go
def qqz(L:Lev)(P:Program)(pk:Option Nat)(ops:Array Oper)(ts:List V)(h:H):Option S:=
 match ops[0]? with
 |some o=>match o.op,o.guard with
  |.next x false,none=>match ql9 pk (eval ts x) h with
   |some (v,h2)=>qdr L P ops (List.range' 1 (ops.size-1)) { ts:=putT ts o.dst v,dfs:=[],h:=h2 }
   |none=>none
  |_,_=>none
 |none=>none
def qlu(orc:Orc)(P:Program)(n f:Nat)(pk:Option Nat)(body:Code)(ts:List V)(h:H):Option (X×SQ):=
 match body with
 |.seq (.region _ ops false) rest=>match qqz (qla (qeY P) orc P n) P pk ops ts h with
  |some st=>match st with
   |{ ts,dfs,h }=>(qd5 orc P n).exec (.top f) rest { ts:=.of ts,dfs:=dfs,h:=h }
  |none=>none
 |_=>none
def qlO(orc:Orc)(P:Program)(n f id:Nat)(sh shB shR:Sh)(pk:Option Nat)(d:sh.data)(ans:List Bool):Option (Out sh.data shB.data shR.data×List (Bool×Bool)):=
 match qlu orc P n f pk (loopBody P f id) (sh.ts d) (sh.h d (some ans))with
 |some (x,st)=>match outOf sh shB shR id x st with
  |some o=>some (o,qlZ sh shB shR x st st.h.said)
  |none=>none
 |none=>none
def PickRuns(P:Program)(orc:Orc)(f id:Nat)(sh shB shR:Sh)(pk:Option Nat)(d:sh.data)(o:Out sh.data shB.data shR.data):Prop:=
 ∃n ans said,qlO orc P n f id sh shB shR pk d ans=some (o,said)∧All said
theorem PickRuns.of{P:Program}{orc:Orc}{n f id:Nat}{sh shB shR:Sh}{pk:Option Nat}{d:sh.data}{o:Out sh.data shB.data shR.data}{ans:List Bool}{said:List (Bool×Bool)}(e:qlO orc P n f id sh shB shR pk d ans=some (o,said))(h:All said):PickRuns P orc f id sh shB shR pk d o:=⟨n,ans,said,e,h⟩
def qd4(body:Code)(ts:List V)(h:H):Option (List Nat):=
 match body with
 |.seq (.region _ ops false) _=>match ops[0]? with
  |some o=>match o.op with
   |.next x _=>qjs (eval ts x) h
   |_=>none
  |none=>none
 |_=>none
def PickCode(P:Program)(f:Nat)(pk:Option Nat)(body:Code)(ts:List V)(h:H)(x:X)(st':S):Prop:=
 ∃rid ops rest o y g v h2 st1 L,h.Same g∧body=.seq (.region rid ops false) rest∧ops[0]?=some o∧o.op=.next y false∧o.guard=none∧ql9 pk (eval ts y) g=some (v,h2) ∧
  LevOk P L∧qdr L P ops (List.range' 1 (ops.size-1)) { ts:=putT ts o.dst v,dfs:=[],h:=h2 }=some st1∧st1.h.Holds∧Runs P (.top f) rest st1 x st'
section
variable {P:Program} {orc:Orc}
theorem qhf{n:Nat}(h:0<n):List.range n=0::List.range' 1 (n-1):=by
 rw[List.range_eq_range']
 obtain⟨m,rfl⟩:∃m,n=m+1:=⟨n-1,by omega⟩
 simp[List.range'_succ]
theorem qtj{f:Nat}{body:Code}{ts:List V}{h:H}{ls:List Nat}(hm:qd4 body ts h=some ls){K:Option Nat→X→S→Prop}
  (hall:∀pk,qeo ls pk→∃x so,PickCode P f pk body ts h x so∧K pk x so):
  ∀(φ:Map)(a:Act)(w:World)(F:Fence)(n:Nat),Wide F→RoundRel φ (Rd.top f).l F.round→VRels φ ts a.tmps.toList→MarksRel φ w [] a.defers→HRel φ h w →
   body.wpIn F n P (fun e a' w'=>∃pk x so,qeo ls pk∧K pk x so∧Post φ h w x so e a' w') a w:=by
 intro φ a w F n hF hrd hts hmk hr
 have hpk:∃pk,qeo ls pk:=by
  cases hl:ls with
  |nil=>exact⟨none,rfl⟩
  |cons i r=>exact⟨some i,List.mem_cons_self ..⟩
 obtain⟨pk0,hpk0⟩:=hpk
 obtain⟨x0,so0,⟨rid,ops,rest,o,y,g0,v0,h20,st10,L0,_,rfl,h0,hop,hg,_⟩,_⟩:=hall pk0 hpk0
 have hm:qjs (eval ts y) h=some ls:=by
  simp only[qd4,h0,hop]at hm
  exact hm
 have hts0:∀pk,qeo ls pk→∃g v h2 x so st1 L,h.Same g∧ql9 pk (eval ts y) g=some (v,h2)∧h2.Holds∧LevOk P L∧qdr L P ops (List.range' 1 (ops.size-1)) { ts:=putT ts o.dst v,dfs:=[],h:=h2 }=some st1∧st1.h.Holds∧Runs P (.top f) rest st1 x so∧K pk x so:=by
  intro pk hp
  obtain⟨x,so,⟨rid',ops',rest',o',y',g,v,h2,st1,L,hs,hb,k1,k2,k3,k4,k5,k6,k7,k8⟩,hK⟩:=hall pk hp
  cases hb
  rw[h0]at k1
  cases k1
  rw[hop]at k2
  cases k2
  exact⟨g,v,h2,x,so,st1,L,hs,k4,(qdq k5 _ _ _ k6 k7).1,k5,k6,k7,k8,hK⟩
 obtain⟨dst,op,ty,pos,after,guard⟩:=o
 dsimp only at hop hg hts0
 subst hop hg
 obtain⟨pk,hpk,hrun⟩:=qqK (P:=P) (ty:=ty) hm (fun pk hp=>by obtain⟨g,v,h2,_,_,_,_,k0,k1,k2,_⟩:=hts0 pk hp;exact⟨g,v,h2,k0,k1,k2⟩) (qbn hts y) hr
 obtain⟨g,v,h2,x,so,st1,L,k0,k1,k2,k3,k4,k5,k6,k7⟩:=hts0 pk hpk
 obtain⟨_,w',r,g1,g2,g3⟩:=hrun g v h2 k0 k1 k2
 obtain⟨_,q2⟩:=qdq k3 _ _ _ k4 k5
 have hsz:0<ops.size:=(Array.getElem?_eq_some_iff.1 h0).1
 refine wpIn_seq (wpIn_region ?_)
 rw[qhf hsz]
 simp only[wpOpsIn,h0]
 have hw:Region.wanted ({ dst:=dst,op:=.next y false,type:=ty,pos:=pos,after:=after,guard:=none }:Oper) (yielded ops a.tmps)=true:=by simp[Region.wanted]
 simp only[hw,if_true]
 refine⟨fun f _=>hF.fn f,?_⟩
 have hrun':(execOp a.eval ({ dst:=dst,op:=.next y false,type:=ty,pos:=pos,after:=after,guard:=none }:Oper)).run P w=.ok (.value r) w':=by
  simp only[execOp,Sem.run_bind,g1,Result.andThen_ok,Sem.run_pure]
 rw[Oper.semAt_eq _ _ _ (fun c hc=>by cases hc),hrun']
 have key:=q2 φ (a.put dst r) w' F n hF (qce hts g2 dst) (by
  have hmk':=hmk.goes (hr.same k0) g3
  cases dst<;>exact hmk') g3.rel
 refine qbM ?_ _ key
 rintro e a1 w1 ⟨rfl,φ1,t1,t2,t3⟩
 show rest.wpIn F n P _ a1 w1
 have hrr:RoundRel φ1 (Rd.top f).l F.round:=by
  cases hro:F.round with
  |none=>trivial
  |some l=>rw[hro]at hrd;exact hrd.elim
 refine wpIn_mono (k6 φ1 a1 w1 F n hF hrr t1 t2 t3.rel) ?_
 rintro e a2 w2 hp
 exact⟨pk,x,so,hpk,k7,hp.from ((Goes.of_same hr k0 rfl rfl rfl rfl).trans (g3.trans t3))⟩
def qjI(P:Program)(f id:Nat)(body:Code)(sh shB shR:Sh)(pk:Option Nat)(d:sh.data)(o:Out sh.data shB.data shR.data):Prop:=
 ∃st1 tips,st1.ts.length=sh.n∧qf3 sh.nb st1.dfs st1.h=true∧match o with
  |.again d'=>PickCode P f pk body (sh.ts d) (sh.h d none) .normal st1∧sh.view (List.range sh.nb) st1.ts st1.h=some (d',tips)∧qbY st1.h (List.range sh.nb) sh.boxes 0=true
  |.brk d'=>PickCode P f pk body (sh.ts d) (sh.h d none) (.exit id) st1∧shB.view (List.range sh.nb) st1.ts st1.h=some (d',tips)∧qbY st1.h (List.range sh.nb) shB.boxes 0=true
  |.ret d'=>PickCode P f pk body (sh.ts d) (sh.h d none) .ret st1∧shR.view (List.range sh.nb) st1.ts st1.h=some (d',tips)∧qbY st1.h (List.range sh.nb) shR.boxes 0=true
theorem PickCode.of_q(b:Base P orc){n f id:Nat}(hl:qcI P f id=true){pk:Option Nat}{ts:List V}{h g:H}{x:X}{st:SQ}(s:h.Same g)(e:qlu orc P n f pk (loopBody P f id) ts g=some (x,st))(ha:st.h.Holds):
  PickCode P f pk (loopBody P f id) ts h x st.real:=by
 have hin:=qpk hl
 generalize loopBody P f id=body at e hin
 unfold qlu at e
 split at e
 ·rename_i rid ops rest
  split at e
  ·rename_i st1 hst
   obtain⟨ts1,dfs1,h1⟩:=st1
   dsimp only at e
   have hr:=Runs.of_q b (InB.sub hin (.seqR (.refl _))) e ha
   have hreal:({ ts:=.of ts1,dfs:=dfs1,h:=h1 }:SQ).real={ ts:=ts1,dfs:=dfs1,h:=h1 }:=by simp only[SQ.real,Slots.of_list]
   rw[hreal]at hr
   have hh1:h1.Holds:=by
    have e2:=(qeE orc P n).some e
    rw[hreal]at e2
    exact((b.lev n).exec _ _ _ _ _ (InB.sub hin (.seqR (.refl _))) e2 ha).1
   unfold qqz at hst
   split at hst
   ·rename_i o h0
    split at hst
    ·rename_i y hop hg
     split at hst
     ·rename_i v h2 hv
      exact⟨rid,ops,rest,o,y,g,v,h2,_,_,s,rfl,h0,hop,hg,hv,b.lev n,hst,hh1,hr⟩
     ·cases hst
    ·cases hst
   ·cases hst
  ·cases e
 ·cases e
theorem qlV(b:Base P orc){f id:Nat}{sh shB shR:Sh}(hl:qcI P f id=true){pk:Option Nat}{d:sh.data}{o:Out sh.data shB.data shR.data}(k:PickRuns P orc f id sh shB shR pk d o):
  qjI P f id (loopBody P f id) sh shB shR pk d o:=by
 obtain⟨n,ans,said,h1,h2⟩:=k
 unfold qlO at h1
 split at h1
 ·rename_i x st hx
  split at h1
  ·rename_i o' ho
   cases h1
   have hr2:PickCode P f pk (loopBody P f id) (sh.ts d) (sh.h d none) x st.real:=PickCode.of_q b hl (show(sh.h d none).Same (sh.h d (some ans))from⟨rfl,rfl,rfl⟩) hx (All.holds (qhn h2))
   obtain⟨ts,dfs,h⟩:=st
   have settled:∀(sl:List Nat)(ps:List Pt),PickCode P f pk (loopBody P f id) (sh.ts d) (sh.h d none) x { ts:=(settle sl ps ts.list h).1,dfs:=dfs,h:=(settle sl ps ts.list h).2 }:=by
    intro sl ps
    obtain⟨rid,ops,rest,o,y,g,v,h2,st1,L,k0,k1,k2,k3,k4,k5,k6,k7,k8,k9⟩:=hr2
    exact⟨rid,ops,rest,o,y,g,v,h2,st1,L,k0,k1,k2,k3,k4,k5,k6,k7,k8,k9.settled _ _⟩
   unfold outOf at ho
   ·dsimp only at ho
    split at ho
    ·cases ho
    ·rename_i hlen
     have hlen:=Nat.eq_of_beq_eq_true hlen
     cases x with
     |normal=>
      refine⟨{ ts:=(settle sh.slots sh.pats ts.list h).1,dfs:=dfs,h:=(settle sh.slots sh.pats ts.list h).2 },?_⟩
      dsimp only at ho
      split at ho
      ·cases ho
      rename_i hdo
      split at ho
      ·rename_i d' tips hv
       cases ho
       exact⟨tips,by rw[qa6];exact hlen,hdo,settled _ _,hv,(qbi h2).2⟩
      ·cases ho
     |exit j=>
      refine⟨{ ts:=ts.list,dfs:=dfs,h:=h },?_⟩
      dsimp only at ho
      split at ho
      ·rename_i hj
       have:=Nat.eq_of_beq_eq_true hj
       subst this
       split at ho
       ·cases ho
       rename_i hdo
       split at ho
       ·rename_i d' tips hv
        cases ho
        exact⟨tips,hlen,hdo,hr2,hv,(qbi h2).2⟩
       ·cases ho
      ·cases ho
     |ret=>
      refine⟨{ ts:=(settle shR.slots shR.pats ts.list h).1,dfs:=dfs,h:=(settle shR.slots shR.pats ts.list h).2 },?_⟩
      dsimp only at ho
      split at ho
      ·cases ho
      rename_i hdo
      split at ho
      ·rename_i d' tips hv
       cases ho
       exact⟨tips,by rw[qa6];exact hlen,hdo,settled _ _,hv,(qbi h2).2⟩
      ·cases ho
  ·cases h1
 ·cases h1
def EndsN{A B C:Type}(step:Option Nat→A→Option (Out A B C))(left:A→List Nat):Nat→A→B ⊕ C→Prop
 |0,_,_=>False
 |m+1,d,r=>∀pk,qeo (left d) pk→match step pk d with
  |some (.again d')=>EndsN step left m d' r
  |some (.brk b)=>r=.inl b
  |some (.ret c)=>r=.inr c
  |none=>False
variable {f id:Nat} {body:Code} {sh shB shR:Sh} {step:Option Nat→sh.data→Option (Out sh.data shB.data shR.data)} {left:sh.data→List Nat}
theorem qgW(hs:∀d pk,qeo (left d) pk→∀o,step pk d=some o→qjI P f id body sh shB shR pk d o)(hleft:∀d,qd4 body (sh.ts d) (sh.h d none)=some (left d))(hB:shB.nb=sh.nb)(hR:shR.nb=sh.nb)(hBn:shB.n=sh.n)(hRn:shR.n=sh.n){φ0:Map}{h0:H}{w0:World}(hro:h0.ro=0)(h0t:∀b,b<sh.nb→φ0.tp b=none){F:Fence}{n:Nat}(hF:Wide F)(hround:F.round=none):
  ∀(m:Nat)(d:sh.data)(r:shB.data ⊕ shR.data),EndsN step left m d r→∀(φ:Map)(a:Act)(w:World),a.tmps.size=sh.n→VRels φ (sh.ts d) a.tmps.toList→MarksRel φ w [] a.defers→Since sh.nb φ0 h0 w0 φ (sh.h d none) w →
   Code.roundsIn F n P body (fun e a' w'=>e=(inX id (endOf (shB.st · none) (shR.st · none) r).1).real∧∃φ',VRels φ' (endOf (shB.st · none) (shR.st · none) r).2.ts a'.tmps.toList∧MarksRel φ' w' [] a'.defers∧Since sh.nb φ0 h0 w0 φ' (endOf (shB.st · none) (shR.st · none) r).2.h w') m a w
 |0,_,_,e,_,_,_,_,_,_,_=>e.elim
 |m+1,d,r,e,φ,a,w,hsz,hts,hdf,g=>by
  rw[roundsIn_succ]
  simp only[EndsN]at e
  have hrr:∀φ:Map,RoundRel φ (Rd.top f).l F.round:=fun φ=>by rw[hround];trivial
  refine wpIn_mono (qtj (hleft d) (K:=fun pk x so=>∃o tips,step pk d=some o∧so.ts.length=sh.n∧qf3 sh.nb so.dfs so.h=true∧match o with
    |.again d'=>x=.normal∧sh.view (List.range sh.nb) so.ts so.h=some (d',tips)∧qbY so.h (List.range sh.nb) sh.boxes 0=true
    |.brk d'=>x=.exit id∧shB.view (List.range sh.nb) so.ts so.h=some (d',tips)∧qbY so.h (List.range sh.nb) shB.boxes 0=true
    |.ret d'=>x=.ret∧shR.view (List.range sh.nb) so.ts so.h=some (d',tips)∧qbY so.h (List.range sh.nb) shR.boxes 0=true) (fun pk hp=>?_) φ a w F n hF (hrr φ) hts hdf g.rel) ?_
  ·have e1:=e pk hp
   cases ho:step pk d with
   |none=>rw[ho]at e1;exact e1.elim
   |some o=>
    obtain⟨st1,tips,k1,k2,k3⟩:=hs d pk hp o ho
    cases o with
    |again d'=>exact⟨_,st1,k3.1,_,tips,rfl,k1,k2,rfl,k3.2.1,k3.2.2⟩
    |brk d'=>exact⟨_,st1,k3.1,_,tips,rfl,k1,k2,rfl,k3.2.1,k3.2.2⟩
    |ret d'=>exact⟨_,st1,k3.1,_,tips,rfl,k1,k2,rfl,k3.2.1,k3.2.2⟩
  ·rintro e' a' w' ⟨pk,x,st1,hpk,⟨o,tips,ho,h1,h2,h3⟩,he,φ1,r1,r2,r3⟩
   have e1:=e pk hpk
   rw[ho]at e1
   cases o with
   |again d'=>
    obtain⟨rfl,h4,h5⟩:=h3
    subst he
    have hsz':a'.tmps.size=sh.n:=by have:=r1.length;simp at this;omega
    obtain⟨φ2,s1,s2,s3⟩:=(g.goes r3).view hro h0t h4 h5 hsz' r1 none
    exact qgW hs hleft hB hR hBn hRn hro h0t hF hround m d' r e1 φ2 a' w' hsz' s1 (s3 _ _ h2 r2) s2
   |brk b=>
    obtain⟨rfl,h4,h5⟩:=h3
    have e1:r=.inl b:=e1
    subst e1
    subst he
    have hsz':a'.tmps.size=shB.n:=by have:=r1.length;simp at this;omega
    have g':Since shB.nb φ0 h0 w0 φ1 st1.h w':=by rw[hB];exact g.goes r3
    rw[←hB]at h4 h5
    obtain⟨φ2,s1,s2,s3⟩:=g'.view hro (fun b hb=>h0t b (by omega)) h4 h5 hsz' r1 none
    rw[hB]at s2
    exact⟨rfl,φ2,s1,s3 _ _ (by rw[hB];exact h2) r2,s2⟩
   |ret c=>
    obtain⟨rfl,h4,h5⟩:=h3
    have e1:r=.inr c:=e1
    subst e1
    subst he
    have hsz':a'.tmps.size=shR.n:=by have:=r1.length;simp at this;omega
    have g':Since shR.nb φ0 h0 w0 φ1 st1.h w':=by rw[hR];exact g.goes r3
    rw[←hR]at h4 h5
    obtain⟨φ2,s1,s2,s3⟩:=g'.view hro (fun b hb=>h0t b (by omega)) h4 h5 hsz' r1 none
    rw[hR]at s2
    exact⟨rfl,φ2,s1,s3 _ _ (by rw[hR];exact h2) r2,s2⟩
theorem qh8(hs:∀d pk,qeo (left d) pk→∀o,step pk d=some o→qjI P f id body sh shB shR pk d o)(hleft:∀d,qd4 body (sh.ts d) (sh.h d none)=some (left d))(hB:shB.nb=sh.nb)(hR:shR.nb=sh.nb)(hBn:shB.n=sh.n)(hRn:shR.n=sh.n){m:Nat}{d:sh.data}{r:shB.data ⊕ shR.data}(e:EndsN step left m d r):
  qpR P (.top f) (.block id (.loop body)) sh d (endOf (shB.st · none) (shR.st · none) r).1 (endOf (shB.st · none) (shR.st · none) r).2:=by
 intro φ a w F n hF hrd hsz hts hdf hr ht
 have hround:F.round=none:=by
  cases hro:F.round with
  |none=>rfl
  |some l=>rw[hro]at hrd;exact hrd.elim
 refine wpIn_block (wpIn_loop_rounds m ?_)
 have key:=qgW hs hleft hB hR hBn hRn (h0:=sh.h d none) rfl ht hF hround (n:=n) m d r e φ a w hsz hts hdf (qmN hr)
 have mono:∀(m:Nat)(Q Q':Exit→Act→World→Prop),(∀e a w,Q e a w→Q' e a w)→∀(a:Act)(w:World),(∀e a w,e=Exit.normal→¬Q e a w)→Code.roundsIn F n P body Q m a w→Code.roundsIn F n P body Q' m a w:=by
  intro m
  induction m with
  |zero=>exact fun _ _ _ _ _ _ h=>h
  |succ m ih=>
   intro Q Q' hq a w hn h
   rw[roundsIn_succ]at h ⊢
   refine wpIn_mono h ?_
   intro e a2 w2 he
   cases e with
   |normal=>exact ih Q Q' hq _ _ hn he
   |_=>exact hq _ _ _ he
 refine mono m _ _ ?_ a w ?_ key
 ·rintro e' a' w' ⟨he,φ',r1,r2,r3⟩
  cases r with
  |inl b=>
   subst he
   simp only[endOf,inX,X.real,Exit.inBlock,if_true]
   exact⟨rfl,φ',r1,r2,r3⟩
  |inr c=>
   subst he
   simp only[endOf,inX,X.real,Exit.inBlock]
   exact⟨rfl,φ',r1,r2,r3⟩
 ·rintro e' a' w' he ⟨he',_⟩
  subst he
  cases r<;>cases he'
theorem qg4(b:Base P orc)(hl:qcI P f id=true)(hs:qh4 sh shB shR=true){T:Option Nat→sh.data→Tr (Out sh.data shB.data shR.data)}(h:∀pk d,TrOk (PickRuns P orc f id sh shB shR pk d) (T pk d))(hleft:∀d,qd4 (loopBody P f id) (sh.ts d) (sh.h d none)=some (left d))
  {code:Code} (hb:qfW id code) (hin:InB P (.top f) code) {d:sh.data} {r:shB.data ⊕ shR.data} (e:EndsN (fun pk d=>(T pk d).val) left rounds d r):
  qpR P (.top f) code sh d (endOf (shB.st · none) (shR.st · none) r).1 (endOf (shB.st · none) (shR.st · none) r).2:=by
 simp only[qh4,Bool.and_eq_true]at hs
 obtain⟨s1,s2,s3,s4⟩:=hs
 rw[qoO hl hb hin]
 exact qh8 (step:=fun pk d=>(T pk d).val) (fun d pk _ o ho=>qlV b hl ((h pk d).val ho)) hleft (Nat.eq_of_beq_eq_true s1) (Nat.eq_of_beq_eq_true s2) (Nat.eq_of_beq_eq_true s3) (Nat.eq_of_beq_eq_true s4) e
theorem qtn(b:Base P orc)(hl:qcI P f id=true)(hs:qh4 sh shB shR=true){T:Option Nat→sh.data→Tr (Out sh.data shB.data shR.data)}(h:∀pk d,TrOk (PickRuns P orc f id sh shB shR pk d) (T pk d))(hleft:∀d,qd4 (loopBody P f id) (sh.ts d) (sh.h d none)=some (left d))
  {L:sh.data→Option (shB.data ⊕ shR.data)} (hL:∀d r,L d=some r→EndsN (fun pk d=>(T pk d).val) left rounds d r):
  qau P f id (lcB sh shB shR L (fun d=>outB shB.dflt (L d))):=by
 intro code hb hin d x st1 hp ho hd
 have hp:qax (L d)=true:=hp
 have ho:some (X.normal,shB.st (outB shB.dflt (L d)) none)=some (x,st1):=ho
 cases e:L d with
 |none=>rw[e]at hp;cases hp
 |some r=>
  have key:=qg4 b hl hs h hleft hb hin (hL d r e)
  rw[e]at ho hp
  cases r with
  |inl b=>cases ho;exact key
  |inr c=>cases hp
theorem qte(b:Base P orc)(hl:qcI P f id=true)(hs:qh4 sh shB shR=true){T:Option Nat→sh.data→Tr (Out sh.data shB.data shR.data)}(h:∀pk d,TrOk (PickRuns P orc f id sh shB shR pk d) (T pk d))(hleft:∀d,qd4 (loopBody P f id) (sh.ts d) (sh.h d none)=some (left d))
  {L:sh.data→Option (shB.data ⊕ shR.data)} (hL:∀d r,L d=some r→EndsN (fun pk d=>(T pk d).val) left rounds d r):
  qau P f id (lcR sh shB shR L (fun d=>outR shR.dflt (L d))):=by
 intro code hb hin d x st1 hp ho hd
 have hp:qhX (L d)=true:=hp
 have ho:some (X.ret,shR.st (outR shR.dflt (L d)) none)=some (x,st1):=ho
 cases e:L d with
 |none=>rw[e]at hp;cases hp
 |some r=>
  have key:=qg4 b hl hs h hleft hb hin (hL d r e)
  rw[e]at ho hp
  cases r with
  |inl b=>cases hp
  |inr c=>cases ho;exact key
theorem qtW(b:Base P orc)(hl:qcI P f id=true)(hs:qh4 sh shB shR=true){T:Option Nat→sh.data→Tr (Out sh.data shB.data shR.data)}(h:∀pk d,TrOk (PickRuns P orc f id sh shB shR pk d) (T pk d))(hleft:∀d,qd4 (loopBody P f id) (sh.ts d) (sh.h d none)=some (left d))
  {L:sh.data→Option (shB.data ⊕ shR.data)} (hL:∀d r,L d=some r→EndsN (fun pk d=>(T pk d).val) left rounds d r):
  qau P f id (lcOf sh shB shR L (fun d=>outB shB.dflt (L d)) (fun d=>outR shR.dflt (L d))):=by
 intro code hb hin d x st1 hp ho hd
 have hp:(L d).isSome=true:=hp
 have ho:(match qas (L d)with
  |false=>some (X.normal,shB.st (outB shB.dflt (L d)) none)
  |true=>some (X.ret,shR.st (outR shR.dflt (L d)) none))=some (x,st1):=ho
 cases e:L d with
 |none=>rw[e]at hp;cases hp
 |some r=>
  have key:=qg4 b hl hs h hleft hb hin (hL d r e)
  rw[e]at ho
  cases r with
  |inl b=>cases ho;exact key
  |inr c=>cases ho;exact key
end
end Go.Vm

namespace Go.Vm
open Go
def chkN{A B C:Type}(step:Option Nat→A→Option (Out A B C))(left:A→List Nat)(eq:B ⊕ C→Bool):Nat→A→Bool
 |0,_=>false
 |m+1,d=>match left d with
  |[]=>match step none d with
   |some (.again d')=>chkN step left eq m d'
   |some (.brk b)=>eq (.inl b)
   |some (.ret c)=>eq (.inr c)
   |none=>false
  |l=>l.all fun i=>match step (some i) d with
   |some (.again d')=>chkN step left eq m d'
   |some (.brk b)=>eq (.inl b)
   |some (.ret c)=>eq (.inr c)
   |none=>false
theorem EndsN.more{A B C:Type}{step:Option Nat→A→Option (Out A B C)}{left:A→List Nat}{r:B ⊕ C}:∀{m n:Nat}{d:A},EndsN step left m d r→m≤n→EndsN step left n d r
 |0,_,_,h,_=>h.elim
 |m+1,0,_,_,hl=>absurd hl (by omega)
 |m+1,n+1,d,h,hl=>by
  intro pk hp
  have:=h pk hp
  revert this
  cases step pk d with
  |none=>exact id
  |some o=>cases o with
   |again d'=>exact fun k=>EndsN.more k (by omega)
   |brk b=>exact id
   |ret c=>exact id
theorem qk5{A B C:Type}{step:Option Nat→A→Option (Out A B C)}{left:A→List Nat}{eq:B ⊕ C→Bool}{r:B ⊕ C}(he:∀x,eq x=true→r=x):∀{m:Nat}{d:A},chkN step left eq m d=true→EndsN step left m d r
 |0,_,h=>by cases h
 |m+1,d,h=>by
  intro pk hp
  simp only[chkN]at h
  have go:∀pk,(match step pk d with
   |some (.again d')=>chkN step left eq m d'
   |some (.brk b)=>eq (.inl b)
   |some (.ret c)=>eq (.inr c)
   |none=>false)=true→match step pk d with
    |some (.again d')=>EndsN step left m d' r
    |some (.brk b)=>r=.inl b
    |some (.ret c)=>r=.inr c
    |none=>False:=by
   intro pk
   cases step pk d with
   |none=>intro h;cases h
   |some o=>cases o with
    |again d'=>exact fun h=>qk5 he h
    |brk b=>exact fun h=>he _ h
    |ret c=>exact fun h=>he _ h
  split at h
  ·rename_i hl
   cases pk with
   |none=>exact go none h
   |some i=>
    have hp:i∈left d:=hp
    rw[hl]at hp;cases hp
  ·rename_i hne
   cases pk with
   |none=>
    have hp:left d=[]:=hp
    exact absurd hp hne
   |some i=>
    have hp:i∈left d:=hp
    exact go (some i) (List.all_eq_true.1 h i hp)
def quw:List Nat→Option Nat
 |[]=>none
 |i::_=>some i
def qt5{A B C:Type}(step:Option Nat→A→Option (Out A B C))(left:A→List Nat)(eq:B ⊕ C→B ⊕ C→Bool)(m:Nat)(d:A):Option (B ⊕ C):=
 match itr (fun d=>step (quw (left d)) d) m d with
 |some r=>match chkN step left (eq r) m d with
  |true=>some r
  |false=>none
 |none=>none
theorem qtV{A B C:Type}{step:Option Nat→A→Option (Out A B C)}{left:A→List Nat}{eq:B ⊕ C→B ⊕ C→Bool}(he:∀x y,eq x y=true→x=y){m:Nat}(hm:m≤rounds){d:A}{r:B ⊕ C}(h:qt5 step left eq m d=some r):EndsN step left rounds d r:=by
 unfold qt5 at h
 split at h
 ·rename_i r' h1
  split at h
  ·rename_i h2
   cases h
   exact(qk5 (he r) h2).more hm
  ·cases h
 ·cases h
def qqQ{A B C:Type}(step:Option Nat→A→Option (Out A B C))(left:A→List Nat)(d:A):List (Option (Out A B C)):=
 match left d with
 |[]=>[step none d]
 |l=>l.map fun i=>step (some i) d
theorem qoB{A B C:Type}{step:Option Nat→A→Option (Out A B C)}{left:A→List Nat}{d:A}{pk:Option Nat}(hp:qeo (left d) pk):step pk d∈qqQ step left d:=by
 unfold qqQ
 cases pk with
 |none=>
  have hp:left d=[]:=hp
  rw[hp]
  exact List.mem_singleton.2 rfl
 |some i=>
  have hp:i∈left d:=hp
  split
  ·rename_i hl;rw[hl]at hp;cases hp
  ·exact List.mem_map.2 ⟨i,hp,rfl⟩
def qvh{A B C:Type}(eq:B ⊕ C→Bool):Option (Out A B C)→Bool
 |some (.again _)=>true
 |some (.brk b)=>eq (.inl b)
 |some (.ret c)=>eq (.inr c)
 |none=>false
def insL{A B C:Type}(cn:A→A)(same:A→A→Bool)(acc:List A):Option (Out A B C)→List A
 |some (.again d)=>match acc.any (same (cn d))with
  |true=>acc
  |false=>cn d::acc
 |_=>acc
def qm0{A B C:Type}(step:Option Nat→A→Option (Out A B C))(left:A→List Nat)(cn:A→A)(same:A→A→Bool)(eq:B ⊕ C→Bool):Nat→List A→Bool
 |0,_=>false
 |m+1,ds=>match ds.flatMap (qqQ step left)with
  |os=>match os.all (qvh eq)with
   |true=>match os.foldl (insL cn same) []with
    |[]=>true
    |nx=>qm0 step left cn same eq m nx
   |false=>false
theorem qot{A B C:Type}{cn:A→A}{same:A→A→Bool}{acc:List A}{x:A}(h:x∈acc)(o:Option (Out A B C)):x∈insL cn same acc o:=by
 unfold insL
 split
 ·split
  ·exact h
  ·exact List.mem_cons_of_mem _ h
 ·exact h
theorem qis{A B C:Type}{cn:A→A}{same:A→A→Bool}{x:A}:∀(os:List (Option (Out A B C)))(acc:List A),x∈acc→x∈os.foldl (insL cn same) acc
 |[],_,h=>h
 |o::os,acc,h=>qis os _ (qot h o)
theorem qj5{A B C:Type}{cn:A→A}{same:A→A→Bool}(hs:∀a b,same a b=true→a=b){d:A}:∀(os:List (Option (Out A B C)))(acc:List A),some (.again d)∈os→cn d∈os.foldl (insL cn same) acc
 |o::os,acc,h=>by
  rcases List.mem_cons.1 h with rfl|h
  ·refine qis os _ ?_
   unfold insL
   dsimp only
   split
   ·rename_i ha
    obtain⟨b,h1,h2⟩:=List.any_eq_true.1 ha
    rw[hs _ _ h2];exact h1
   ·exact List.mem_cons_self ..
  ·exact qj5 hs os _ h
theorem qhH{A B C:Type}{step:Option Nat→A→Option (Out A B C)}{left:A→List Nat}{cn:A→A}{same:A→A→Bool}{eq:B ⊕ C→Bool}{r:B ⊕ C}(he:∀x,eq x=true→r=x)(hs:∀a b,same a b=true→a=b)(hc:∀m d,EndsN step left m (cn d) r→EndsN step left m d r):
  ∀{m:Nat}{ds:List A},qm0 step left cn same eq m ds=true→∀d∈ds,EndsN step left m d r
 |0,_,h,_,_=>by cases h
 |m+1,ds,h,d,hd=>by
  intro pk hp
  simp only[qm0]at h
  have hmem:step pk d∈ds.flatMap (qqQ step left):=List.mem_flatMap.2 ⟨d,hd,qoB hp⟩
  split at h
  ·rename_i hall
   have ho:=List.all_eq_true.1 hall _ hmem
   cases hst:step pk d with
   |none=>rw[hst]at ho;cases ho
   |some o=>cases o with
    |brk b=>rw[hst]at ho;exact he _ ho
    |ret c=>rw[hst]at ho;exact he _ ho
    |again d'=>
     rw[hst]at hmem
     have hin:=qj5 (cn:=cn) hs _ [] hmem
     split at h
     ·rename_i hnil;rw[hnil]at hin;cases hin
     ·exact hc _ _ (qhH he hs hc h _ hin)
  ·cases h
def quv{A B C:Type}(step:Option Nat→A→Option (Out A B C))(left:A→List Nat)(cn:A→A)(same:A→A→Bool)(eq:B ⊕ C→B ⊕ C→Bool)(m:Nat)(d:A):Option (B ⊕ C):=
 match itr (fun d=>step (quw (left d)) d) m d with
 |some r=>match qm0 step left cn same (eq r) m [d]with
  |true=>some r
  |false=>none
 |none=>none
theorem qtU{A B C:Type}{step:Option Nat→A→Option (Out A B C)}{left:A→List Nat}{cn:A→A}{same:A→A→Bool}{eq:B ⊕ C→B ⊕ C→Bool}(he:∀x y,eq x y=true→x=y)(hs:∀a b,same a b=true→a=b)(hc:∀m d r,EndsN step left m (cn d) r→EndsN step left m d r){m:Nat}(hm:m≤rounds){d:A}{r:B ⊕ C}(h:quv step left cn same eq m d=some r):EndsN step left rounds d r:=by
 unfold quv at h
 split at h
 ·rename_i r' h1
  split at h
  ·rename_i h2
   cases h
   exact(qhH (he r) hs (fun m d=>hc m d r) h2 d (List.mem_singleton.2 rfl)).more hm
  ·cases h
 ·cases h
def qk6(i:Nat):List Nat→List Nat
 |[]=>[i]
 |j::l=>match Nat.ble i j with
  |true=>i::j::l
  |false=>j::qk6 i l
def qmh:List Nat→List Nat
 |[]=>[]
 |i::l=>qk6 i (qmh l)
theorem qiw(i k:Nat):∀l:List Nat,k∈qk6 i l↔k=i∨k∈l
 |[]=>by simp[qk6]
 |j::l=>by
  simp only[qk6]
  split
  ·simp
  ·simp only[List.mem_cons,qiw i k l]
   exact⟨fun h=>by rcases h with h|h|h<;>simp[h],fun h=>by rcases h with h|h|h<;>simp[h]⟩
theorem ql8(k:Nat):∀l:List Nat,k∈qmh l↔k∈l
 |[]=>Iff.rfl
 |i::l=>by simp only[qmh,qiw,ql8 k l,List.mem_cons]
def Tr.map{R S:Type}(f:R→S):Tr R→Tr S
 |.fin r=>.fin (f r)
 |.stop=>.stop
 |.test b y n=>.test b (y.map f) (n.map f)
theorem Tr.map_val{R S:Type}(f:R→S):∀t:Tr R,(t.map f).val=t.val.map f
 |.fin r=>rfl
 |.stop=>rfl
 |.test b y n=>by
  simp only[Tr.map]
  have h1:=Tr.map_val f y
  have h2:=Tr.map_val f n
  cases b with
  |true=>exact h1
  |false=>exact h2
end Go.Vm

namespace Go.Vm
open Go
def Tr.go{R:Type}:Tr R→List Bool→List (Bool×Bool)→Option (R×List (Bool×Bool))
 |.fin r,_,C=>some (r,C)
 |.stop,_,_=>none
 |.test _ _ _,[],_=>none
 |.test b y n,a::s,C=>match a with
  |true=>y.go s ((b,true)::C)
  |false=>n.go s ((b,false)::C)
def qs7(C:List (Bool×Bool))(k:Nat):Bool×Bool:=
 match k with
 |0=>(false,false)
 |1=>(true,true)
 |k+2=>let p:=C.getD (k/2) (true,true);if k%2=0 then p else(!p.1,!p.2)
def sayOf(C:List (Bool×Bool)):List Nat→List (Bool×Bool)
 |[]=>[]
 |k::r=>qs7 C k::sayOf C r
theorem qqM{C:List (Bool×Bool)}(h:∀p∈C,p.1=p.2)(k:Nat):(qs7 C k).1=(qs7 C k).2:=by
 have g:∀i,(C.getD i (true,true)).1=(C.getD i (true,true)).2:=by
  intro i
  by_cases hi:i<C.length
  ·have:C.getD i (true,true)=C[i]:=by simp[List.getD,hi]
   rw[this]
   exact h _ (List.getElem_mem hi)
  ·have:C.getD i (true,true)=(true,true):=by simp[List.getD,hi]
   rw[this]
 match k with
 |0=>rfl
 |1=>rfl
 |k+2=>
  have:=g (k/2)
  show(if k%2=0 then C.getD (k/2) (true,true)else(!(C.getD (k/2) (true,true)).1,!(C.getD (k/2) (true,true)).2)).1=(if k%2=0 then C.getD (k/2) (true,true)else(!(C.getD (k/2) (true,true)).1,!(C.getD (k/2) (true,true)).2)).2
  split
  ·exact this
  ·show(!_)=(!_)
   rw[this]
theorem qng{C:List (Bool×Bool)}(h:∀p∈C,p.1=p.2):∀l,All (sayOf C l)
 |[]=>trivial
 |k::r=>⟨qqM h k,qng h r⟩
def Tr.walk{R:Type}(t:Tr R)(s:List Bool)(p:List Nat):Option (R×List (Bool×Bool)):=
 match t.go s []with
 |some (r,C)=>some (r,sayOf C.reverse p)
 |none=>none
def ansAt(s:List Bool)(k:Nat):Bool:=
 match k with
 |0=>false
 |1=>true
 |k+2=>let p:=s.getD (k/2) true;match k%2 with
  |0=>p
  |_=>!p
def qt2(s:List Bool):List Nat→List Bool→List Bool
 |[],acc=>acc
 |k::r,acc=>qt2 s r (ansAt s k::acc)
def Walks{R:Type}(run:List Bool→Option (R×List (Bool×Bool)))(t:Tr R):List (List Bool×List Nat)→Prop
 |[]=>True
 |(s,p)::r=>run (qt2 s p [])=t.walk s p∧Walks run t r
theorem Walks.at{R:Type}{run:List Bool→Option (R×List (Bool×Bool))}{t:Tr R}:∀{ls:List (List Bool×List Nat)},Walks run t ls→∀l∈ls,∃ans,run ans=t.walk l.1 l.2
 |(s,p)::r,h,l,hl=>by
  rcases List.mem_cons.1 hl with rfl|hl
  ·exact⟨_,h.1⟩
  ·exact Walks.at h.2 l hl
def Tr.fits{R:Type}:Tr R→List (List Bool×List Nat)→List Bool→Bool
 |.fin _,L,s=>L.any fun l=>l.1==s.reverse
 |.stop,_,_=>true
 |.test _ y n,L,s=>y.fits L (true::s)&&n.fits L (false::s)
theorem Walks.aux{R:Type}{Q:R→Prop}{run:List Bool→Option (R×List (Bool×Bool))}(hQ:∀ans r said,run ans=some (r,said)→All said→Q r){t:Tr R}{ls:List (List Bool×List Nat)}(e:Walks run t ls):
  ∀(u:Tr R)(s:List Bool)(C:List (Bool×Bool)),(∀s',t.go (s.reverse++s') []=u.go s' C)→All C→u.fits ls s=true→TrOk Q u
 |.fin r,s,C,h,hC,hf=>by
  obtain⟨l,hl,hs⟩:=List.any_eq_true.1 hf
  have hs:=eq_of_beq hs
  obtain⟨ans,ha⟩:=e.at l hl
  have hg:t.go l.1 []=some (r,C):=by
   have:=h []
   rw[List.append_nil]at this
   rw[hs,this];rfl
  rw[Tr.walk,hg]at ha
  exact hQ _ _ _ ha (qng (fun p hp=>hC.holds p (List.mem_reverse.1 hp)) _)
 |.stop,_,_,_,_,_=>trivial
 |.test b y n,s,C,h,hC,hf=>by
  have hf:(y.fits ls (true::s)&&n.fits ls (false::s))=true:=hf
  rw[Bool.and_eq_true]at hf
  refine⟨fun hb=>Walks.aux hQ e y (true::s) ((b,true)::C) (fun s'=>?_) ⟨hb,hC⟩ hf.1,fun hb=>Walks.aux hQ e n (false::s) ((b,false)::C) (fun s'=>?_) ⟨hb,hC⟩ hf.2⟩
  ·rw[List.reverse_cons,List.append_assoc];exact h (true::s')
  ·rw[List.reverse_cons,List.append_assoc];exact h (false::s')
theorem Walks.ok{R:Type}{Q:R→Prop}{run:List Bool→Option (R×List (Bool×Bool))}(hQ:∀ans r said,run ans=some (r,said)→All said→Q r){t:Tr R}{ls:List (List Bool×List Nat)}(e:Walks run t ls)(hf:t.fits ls []=true):TrOk Q t:=
 Walks.aux hQ e t [] [] (fun _=>rfl) trivial hf
theorem Walks.append{R:Type}{run:List Bool→Option (R×List (Bool×Bool))}{t:Tr R}:∀{a b:List (List Bool×List Nat)},Walks run t a→Walks run t b→Walks run t (a++b)
 |[],_,_,k=>k
 |(_,_)::_,_,h,k=>⟨h.1,Walks.append h.2 k⟩
def bl:Nat→Nat→List Bool
 |0,_=>[]
 |k+1,n=>Nat.beq (n%2) 1::bl k (n/2)
def pk:Nat→Nat→Nat→List Nat→List Nat
 |0,_,_,T=>T
 |k+1,x,n,T=>match n%32 with
  |0=>0::pk k x (n/32) T
  |1=>1::pk k x (n/32) T
  |d=>2*(x+d-16)::pk k (x+d-16) (n/32) T
def pl:Nat→Nat→Nat→List Nat→List Nat
 |0,_,_,T=>T
 |k+1,x,n,T=>match n%128 with
  |0=>0::pl k x (n/128) T
  |1=>1::pl k x (n/128) T
  |d=>2*(x+d-64)::pl k (x+d-64) (n/128) T
theorem wP{P:Program}{orc:Orc}{n f:Nat}{us rs:List Ty}{d:Tys.data us}{t:Tr (Tys.data rs)}{ls:List (List Bool×List Nat)}(e:Walks (runPure orc P n f us rs d) t ls)(h:t.fits ls []=true):TrOk (PureRuns P orc f us rs d) t:=Walks.ok (fun _ _ _=>PureRuns.of) e h
theorem wQ{P:Program}{orc:Orc}{n f:Nat}{us rs:List Ty}{d:Tys.data us}{t:Tr (Tys.data rs)}{ls:List (List Bool×List Nat)}(e:Walks (runPureB orc P n f us rs d) t ls)(h:t.fits ls []=true):TrOk (PureRuns P orc f us rs d) t:=Walks.ok (fun _ _ _=>PureRuns.ofB) e h
theorem wB{P:Program}{orc:Orc}{n f id:Nat}{sh shB shR:Sh}{d:sh.data}{t:Tr (Out sh.data shB.data shR.data)}{ls:List (List Bool×List Nat)}(e:Walks (qar orc P n f id sh shB shR d) t ls)(h:t.fits ls []=true):TrOk (BodyRuns P orc f id sh shB shR d) t:=Walks.ok (fun _ _ _=>BodyRuns.of) e h
end Go.Vm

namespace Go.Vm
open Go
def qc2(P:Program)(rec:TypeId→Option Ty):List Field→Nat→Nat→Option Ty
 |[],o,m=>match Nat.beq o m with
  |true=>some .unit
  |false=>none
 |f::fs,o,m=>match rec f.type with
  |none=>none
  |some a=>match Nat.beq f.offset o&&Nat.beq (P.cellsOf f.type) a.cells with
   |false=>none
   |true=>match qc2 P rec fs (o+a.cells) m with
    |some b=>some (.pair a b)
    |none=>none
def qgs(P:Program):Nat→TypeId→Option Ty
 |0,_=>none
 |n+1,t=>match P.underlying t with
  |some .bool=>some .bool
  |some (.int k)=>some (.int k)
  |some .string=>some .str
  |some (.slice e)=>match qgs P n e with
   |none=>none
   |some u=>match Nat.beq (P.cellsOf e) u.cells&&Nat.ble 1 u.cells with
    |true=>some (.slice u)
    |false=>none
  |some (.struct fs)=>qc2 P (qgs P n) fs.toList 0 (P.cellsOf t)
  |some (.array m e)=>match qgs P n e with
   |none=>none
   |some u=>match Nat.beq (P.cellsOf e) u.cells&&Nat.beq (P.cellsOf t) (m*u.cells)with
    |true=>some ((List.replicate m u).foldr .pair .unit)
    |false=>none
  |_=>none
def Ty.Wf:(t:Ty)→t.data→Prop
 |.int k,n=>(k.min:Int)≤(show Int from n)∧(show Int from n)≤(k.max:Int)
 |.bool,_=>True
 |.str,s=>ByteArray.size s≤maxLen
 |.unit,_=>True
 |.pair a b,d=>a.Wf d.1∧b.Wf d.2
 |.slice t,l=>List.length l≤maxLen∧∀x∈(show List t.data from l),t.Wf x
def qdX(w:World):Frozen:=fun k=>match w.heap[k]? with
 |some (.cells c _ _)=>some c
 |_=>none
theorem qrk(w:World):FzOk (qdX w) w:=by
 intro k c h
 unfold qdX at h
 split at h
 ·rename_i c' t z hw
  cases h
  exact⟨_,_,_,hw,Begins.refl _⟩
 ·cases h
theorem qpN{α:Type}{p:Nat→α→Prop}:∀n,(∀i,i<n→∃x,p i x)→∃l:List α,l.length=n∧∀(i:Nat)(x:α),l[i]?=some x→p i x
 |0,_=>⟨[],rfl,fun i x h=>by simp at h⟩
 |n+1,h=>by
  obtain⟨l,h1,h2⟩:=qpN n fun i hi=>h i (by omega)
  obtain⟨x,hx⟩:=h n (by omega)
  refine⟨l++[x],by simp[h1],fun i y hy=>?_⟩
  rcases Nat.lt_or_ge i l.length with hi|hi
  ·rw[List.getElem?_append_left hi]at hy
   exact h2 i y hy
  ·rw[List.getElem?_append_right hi]at hy
   have:i-l.length=0:=by
    rcases Nat.eq_zero_or_pos (i-l.length)with h0|h0
    ·exact h0
    ·rw[List.getElem?_eq_none (by simp;omega)]at hy;cases hy
   rw[this]at hy
   cases hy
   have:i=n:=by omega
   subst this
   exact hx
theorem qgJ{α β:Type}{f:α→Option β}:∀{l:List α}{r:List β},l.mapM f=some r→r.length=l.length∧∀(i:Nat)(x:α),l[i]?=some x→f x=r[i]?
 |[],r,h=>by
  simp at h
  subst h
  exact⟨rfl,fun i x hx=>by simp at hx⟩
 |a::l,r,h=>by
  rw[List.mapM_cons]at h
  cases e:f a with
  |none=>rw[e]at h;cases h
  |some y=>
   rw[e]at h
   cases e2:l.mapM f with
   |none=>rw[e2]at h;cases h
   |some r'=>
    rw[e2]at h
    cases h
    obtain⟨k1,k2⟩:=qgJ e2
    refine⟨by simp[k1],fun i x hx=>?_⟩
    cases i with
    |zero=>simp at hx;subst hx;simpa using e
    |succ i=>simp at hx;simpa using k2 i x hx
theorem qqI{w:World}{base:Nat}{a:Addr}{n:Nat}{cs:List Value}(h:w.cells? base a n=some cs):cs.length=n∧∀i,i<n→w.cell? (a.add i)=cs[i]?:=by
 unfold World.cells? at h
 split at h
 ·obtain⟨h1,h2⟩:=qgJ h
  exact⟨by simpa using h1,fun i hi=>h2 i i (by simp[hi])⟩
 ·cases h
theorem qlc{w:World}{a:Addr}{v:Value}(h:w.cell? a=some v):∃c t z,w.heap[a.block]?=some (.cells c t z)∧a.spot=none∧c[a.off]?=some v:=by
 unfold World.cell? at h
 split at h
 ·rename_i c t z hw
  split at h
  ·cases h
  ·rename_i hs
   refine⟨c,t,z,hw,?_,h⟩
   cases hs':a.spot with
   |none=>rfl
   |some x=>rw[hs']at hs;simp at hs
 ·cases h
theorem Addr.add_add(a:Addr)(m n:Nat):(a.add m).add n=a.add (m+n):=by
 unfold Addr.add
 by_cases h1:m=0<;>by_cases h2:n=0<;>simp[h1,h2,Nat.add_assoc]
theorem Addr.add_off(a:Addr)(n:Nat)(h:a.spot=none):a.add n=⟨a.block,a.off+n,none⟩:=by
 obtain⟨b,o,s⟩:=a
 simp only at h
 subst h
 unfold Addr.add
 split
 ·rename_i h;subst h;rfl
 ·rfl
section
variable {H:Type} {enc:TypeId×Value→H} {P:Program} {w:World} {base:Nat} {sp:Nat→Bool} {held:Bool}
theorem qg9{rec:TypeId→Option Ty}{rd:TypeId→List Value→Option (DataW H×List MemPlace)}(ih:∀{t:TypeId}{u:Ty}{cs:List Value}{x},rec t=some u→rd t cs=some x→∃dd:u.data,DRel (qdX w) u dd cs∧u.Wf dd):
  ∀{fs:List Field}{o m:Nat}{u:Ty}{cs:List Value}{xs},qc2 P rec fs o m=some u→cs.length=m→fs.mapM (fun f=>rd f.type ((cs.drop f.offset).take (P.cellsOf f.type)))=some xs→∃dd:u.data,DRel (qdX w) u dd (cs.drop o)∧u.Wf dd
 |[],o,m,u,cs,xs,hu,hl,h=>by
  simp only[qc2]at hu
  split at hu
  ·rename_i he
   cases hu
   have:=Nat.eq_of_beq_eq_true he
   refine⟨(),?_,trivial⟩
   show cs.drop o=[]
   exact List.drop_of_length_le (by omega)
  ·cases hu
 |f::fs,o,m,u,cs,xs,hu,hl,h=>by
  simp only[qc2]at hu
  split at hu
  ·cases hu
  ·rename_i a ha
   split at hu
   ·cases hu
   ·rename_i hc
    simp only[Bool.and_eq_true]at hc
    have c1:=Nat.eq_of_beq_eq_true hc.1
    have c2:=Nat.eq_of_beq_eq_true hc.2
    split at hu
    ·rename_i b hb
     cases hu
     rw[List.mapM_cons]at h
     cases e:rd f.type ((cs.drop f.offset).take (P.cellsOf f.type))with
     |none=>rw[e]at h;cases h
     |some y=>
      rw[e]at h
      cases e2:fs.mapM (fun f=>rd f.type ((cs.drop f.offset).take (P.cellsOf f.type)))with
      |none=>rw[e2]at h;cases h
      |some r=>
       obtain⟨d1,k1,k2⟩:=ih ha e
       obtain⟨d2,k3,k4⟩:=qg9 ih hb hl e2
       refine⟨(d1,d2),⟨_,_,?_,k1,k3⟩,k2,k4⟩
       rw[c1,c2,←List.drop_drop]
       exact(List.take_append_drop _ _).symm
    ·cases hu
theorem qiN{u:Ty}{rd:List Value→Option (DataW H×List MemPlace)}(ih:∀{cs:List Value}{x},rd cs=some x→∃dd:u.data,DRel (qdX w) u dd cs∧u.Wf dd){c:Nat}(hc:c=u.cells){cs:List Value}:
  ∀(m o:Nat),cs.length=o+m*u.cells→(∀i,i<m→∃x,rd ((cs.drop (o+i*c)).take c)=some x)→∃dd:((List.replicate m u).foldr Ty.pair .unit).data,DRel (qdX w) _ dd (cs.drop o)∧Ty.Wf _ dd
 |0,o,hl,_=>by
  refine⟨(),?_,trivial⟩
  show cs.drop o=[]
  exact List.drop_of_length_le (by omega)
 |m+1,o,hl,h=>by
  obtain⟨x,hx⟩:=h 0 (by omega)
  obtain⟨d1,k1,k2⟩:=ih hx
  have hm:(m+1)*u.cells=m*u.cells+u.cells:=Nat.succ_mul _ _
  obtain⟨d2,k3,k4⟩:=qiN ih hc (cs:=cs) m (o+u.cells) (by omega) fun i hi=>by
   obtain⟨y,hy⟩:=h (i+1) (by omega)
   refine⟨y,?_⟩
   rw[←hy]
   congr 2
   rw[hc,Nat.succ_mul];congr 1;omega
  refine⟨(d1,d2),⟨_,_,?_,k1,k3⟩,k2,k4⟩
  rw[Nat.zero_mul,Nat.add_zero,hc,←List.drop_drop]
  exact(List.take_append_drop _ _).symm
theorem qfs:∀{n fuel:Nat}{t:TypeId}{u:Ty}{cs:List Value}{x:DataW H×List MemPlace},qgs P n t=some u→DataW.trod enc P w base sp held fuel t cs=some x→∃dd:u.data,DRel (qdX w) u dd cs∧u.Wf dd
 |0,_,_,_,_,_,hu,_=>by cases hu
 |n+1,0,_,_,_,_,_,h=>by cases h
 |n+1,fuel+1,t,u,cs,x,hu,h=>by
  unfold qgs at hu
  unfold DataW.trod at h
  cases hP:P.underlying t with
  |none=>rw[hP]at hu;cases hu
  |some td=>
   rw[hP]at hu h
   cases td with
   |bool=>
    cases hu
    split at h<;>first|(rename_i hq;simp only[Option.some.injEq,reduceCtorEq]at hq;done)|skip
    ·rename_i b _
     exact⟨b,rfl,trivial⟩
    ·cases h
   |int k=>
    cases hu
    split at h<;>first|(rename_i hq;simp only[Option.some.injEq,reduceCtorEq]at hq;done)|skip
    ·rename_i k0 k' i hq
     cases hq
     split at h
     ·rename_i hk
      obtain⟨rfl,hw⟩:=hk
      simp only[Lit.wf,Bool.and_eq_true,decide_eq_true_eq]at hw
      exact⟨i,rfl,hw⟩
     ·cases h
    ·cases h
   |string=>
    cases hu
    split at h<;>first|(rename_i hq;simp only[Option.some.injEq,reduceCtorEq]at hq;done)|skip
    ·rename_i s _
     split at h
     ·rename_i hk
      exact⟨s,rfl,hk⟩
     ·cases h
    ·cases h
   |slice e=>
    dsimp only at hu
    split at hu
    ·cases hu
    ·rename_i u hue
     split at hu
     ·rename_i hc
      cases hu
      simp only[Bool.and_eq_true]at hc
      have c1:=Nat.eq_of_beq_eq_true hc.1
      have c2:=Nat.le_of_ble_eq_true hc.2
      split at h<;>first|(rename_i hq;simp only[Option.some.injEq,reduceCtorEq]at hq;done)|skip
      ·exact⟨[],⟨none,0,0,rfl,Nat.le_refl _,rfl,.inl rfl⟩,Nat.zero_le _,fun x hx=>by cases hx⟩
      ·rename_i e' a len cap hq
       cases hq
       split at h
       ·rename_i hlen
        dsimp only at h
        cases he:(List.range len).mapM fun i=>(w.cells? base (a.add (i*P.cellsOf e)) (P.cellsOf e)).bind (DataW.trod enc P w base sp held fuel e)with
        |none=>rw[he]at h;cases h
        |some els=>
         obtain⟨g1,g2⟩:=qgJ he
         have hel:∀i,i<len→∃(d:u.data),u.Wf d∧∃cs:List Value,DRel (qdX w) u d cs∧cs.length=u.cells∧∀j,j<u.cells→w.cell? (a.add (i*u.cells+j))=cs[j]?:=by
          intro i hi
          have hg:=g2 i i (by simp[hi])
          have hlt:i<els.length:=by rw[g1];simpa using hi
          rw[List.getElem?_eq_getElem hlt]at hg
          cases hcs:w.cells? base (a.add (i*P.cellsOf e)) (P.cellsOf e)with
          |none=>rw[hcs]at hg;cases hg
          |some cs=>
           rw[hcs]at hg
           obtain⟨d,k1,k2⟩:=qfs hue hg
           obtain⟨q1,q2⟩:=qqI hcs
           rw[c1]at q1 q2
           exact⟨d,k2,cs,k1,q1,fun j hj=>by rw[←q2 j hj,Addr.add_add]⟩
         obtain⟨l,l1,l2⟩:=qpN len hel
         refine⟨l,⟨some a,len,cap,rfl,hlen.2.1,l1.symm,?_⟩,?_,?_⟩
         ·rcases Nat.eq_zero_or_pos len with h0|h0
          ·exact .inl (List.eq_nil_of_length_eq_zero (by omega))
          ·right
           have hd0:l[0]?=some (l[0]'(by omega)):=by simp
           obtain⟨_,cs0,_,s1,s2⟩:=l2 _ _ hd0
           have hv0:cs0[0]?=some (cs0[0]'(by omega)):=by simp
           have hc0:=s2 0 (by omega)
           rw[hv0]at hc0
           have ha0:a.add (0*u.cells+0)=a:=by simp[Addr.add]
           rw[ha0]at hc0
           obtain⟨c,tt,z,hw,hs,_⟩:=qlc hc0
           have hfz:qdX w a.block=some c:=by simp only[qdX,hw]
           have hlies:LiesIn (DRel (qdX w) u) u.cells l c a.off:=by
            intro i d hi
            obtain⟨_,cs,r1,r2,r3⟩:=l2 i d hi
            refine⟨cs,r1,r2,fun j v hj=>?_⟩
            have hj':j<u.cells:=by rw[←r2];exact(List.getElem?_eq_some_iff.1 hj).1
            have hc:=r3 j hj'
            rw[hj,Addr.add_off a _ hs]at hc
            obtain⟨c',t',z',hw',_,hcv⟩:=qlc hc
            rw[hw]at hw';cases hw'
            have hcv:c[a.off+(i*u.cells+j)]?=some v:=hcv
            rw[←hcv,Nat.add_assoc]
           refine⟨a.block,a.off,c,?_,hfz,?_,hlies⟩
           ·obtain⟨b,o,s⟩:=a;simp only at hs;rw[hs]
           ·have hl1:l[len-1]?=some (l[len-1]'(by omega)):=by simp
            obtain⟨cs,_,k2,k3⟩:=hlies _ _ hl1
            have hx:cs[u.cells-1]?=some (cs[u.cells-1]'(by omega)):=by simp
            have:=(Array.getElem?_eq_some_iff.1 (k3 _ _ hx)).1
            have hm:l.length*u.cells=(len-1)*u.cells+u.cells:=by
             have:l.length=(len-1)+1:=by omega
             rw[this,Nat.succ_mul]
            omega
         ·exact Nat.le_trans (Nat.le_of_eq l1) (Nat.le_trans hlen.2.1 hlen.2.2)
         ·intro x hx
          obtain⟨i,hi⟩:=List.mem_iff_getElem?.1 hx
          exact(l2 i x hi).1
       ·cases h
      ·cases h
     ·cases hu
   |struct fs=>
    dsimp only at hu
    have h':(if cs.length=P.cellsOf t then(fs.toList.mapM fun f=>DataW.trod enc P w base sp held fuel f.type ((cs.drop f.offset).take (P.cellsOf f.type))).map fun xs=>(DataW.agg (xs.map (·.1)),xs.flatMap (·.2))else none)=some x:=by
     simpa only using h
    split at h'
    ·rename_i hl
     cases e:fs.toList.mapM fun f=>DataW.trod enc P w base sp held fuel f.type ((cs.drop f.offset).take (P.cellsOf f.type))with
     |none=>rw[e]at h';cases h'
     |some xs=>
      have:=qg9 (w:=w) (rd:=fun t cs=>DataW.trod enc P w base sp held fuel t cs) (fun ha hb=>qfs ha hb) hu hl e
      simpa using this
    ·cases h'
   |array m e=>
    dsimp only at hu
    split at hu
    ·cases hu
    ·rename_i u hue
     split at hu
     ·rename_i hc
      cases hu
      simp only[Bool.and_eq_true]at hc
      have c1:=Nat.eq_of_beq_eq_true hc.1
      have c2:=Nat.eq_of_beq_eq_true hc.2
      have h':(if cs.length=P.cellsOf t then((List.range m).mapM fun i=>DataW.trod enc P w base sp held fuel e ((cs.drop (i*P.cellsOf e)).take (P.cellsOf e))).map fun xs=>(DataW.agg (xs.map (·.1)),xs.flatMap (·.2))else none)=some x:=by
       simpa only using h
      split at h'
      ·rename_i hl
       cases he:(List.range m).mapM fun i=>DataW.trod enc P w base sp held fuel e ((cs.drop (i*P.cellsOf e)).take (P.cellsOf e))with
       |none=>rw[he]at h';cases h'
       |some xs=>
        obtain⟨g1,g2⟩:=qgJ he
        have:=qiN (w:=w) (u:=u) (rd:=fun cs=>DataW.trod enc P w base sp held fuel e cs) (fun hb=>qfs hue hb) c1 (cs:=cs) m 0 (by omega) fun i hi=>by
         have hg:=g2 i i (by simp[hi])
         have hlt:i<xs.length:=by rw[g1];simpa using hi
         rw[List.getElem?_eq_getElem hlt]at hg
         exact⟨_,by rw[Nat.zero_add];exact hg⟩
        simpa using this
      ·cases h'
     ·cases hu
   |_=>cases hu
end
end Go.Vm

namespace Go.Vm
open Go Go.RowKit Go.WideShapes Go.ChangeShapes
def qjK(P:Program):List TypeId→Option (List Ty)
 |[]=>some []
 |t::ts=>match qgs P 8 t,qjK P ts with
  |some a,some r=>some (a::r)
  |_,_=>none
def Tys.Wf:(ts:List Ty)→Tys.data ts→Prop
 |[],_=>True
 |t::ts,d=>t.Wf d.1∧Tys.Wf ts d.2
theorem qkh{P:Program}{rec:TypeId→Option Ty}{fs:List Field}{o m:Nat}{u:Ty}(h:qc2 P rec fs o m=some u):u.isAgg=true:=by
 cases fs with
 |nil=>
  simp only[qc2]at h
  split at h
  ·cases h;rfl
  ·cases h
 |cons f fs=>
  simp only[qc2]at h
  split at h
  ·cases h
  ·split at h
   ·cases h
   ·split at h
    ·cases h;rfl
    ·cases h
section
variable {H:Type} {enc:TypeId×Value→H} {P:Program} {w:World} {base:Nat} {sp:Nat→Bool} {held:Bool}
theorem qrd{n:Nat}{t:TypeId}{u:Ty}{v:Value}{d:DataW H}{ps:List MemPlace}{r:Reach}{b0:Nat}(hu:qgs P n t=some u)(h:DataW.Trod enc P w base sp held t v d ps)(hok:Value.okWide P w r b0 t v):
  ∃dd:u.data,DVal (qdX w) u dd v∧u.Wf dd:=by
 obtain⟨fuel,h⟩:=h
 obtain⟨dd,h1,h2⟩:=qfs hu h
 refine⟨dd,?_,h2⟩
 cases n with
 |zero=>cases hu
 |succ n=>
  unfold qgs at hu
  unfold Value.okWide at hok
  cases hP:P.underlying t with
  |none=>rw[hP]at hu;cases hu
  |some td=>
   rw[hP]at hu hok
   have one:∀{u:Ty}{dd:u.data},u.isAgg=false→v.cells.toList=[v]→DRel (qdX w) u dd v.cells.toList→DVal (qdX w) u dd v:=by
    intro u dd hg hv hd
    unfold DVal
    rw[hg]
    dsimp only
    rw[hv]at hd
    exact hd
   have agg:∀{u:Ty}{dd:u.data}{cs:Array Value},u.isAgg=true→v=.agg cs→DRel (qdX w) u dd v.cells.toList→DVal (qdX w) u dd v:=by
    intro u dd cs hg hv hd
    unfold DVal
    rw[hg]
    subst hv
    exact⟨cs,rfl,hd⟩
   cases td with
   |bool=>
    cases hu
    refine one rfl ?_ h1
    cases v<;>first|rfl|(exfalso;simp[Cell.okWide,Cell.ok,hP]at hok;done)
   |int k=>
    cases hu
    refine one rfl ?_ h1
    cases v<;>first|rfl|(exfalso;simp[Cell.okWide,Cell.ok,hP]at hok;done)
   |string=>
    cases hu
    refine one rfl ?_ h1
    cases v<;>first|rfl|(exfalso;simp[Cell.okWide,Cell.ok,hP]at hok;done)
   |slice e=>
    dsimp only at hu
    split at hu
    ·cases hu
    ·split at hu
     ·cases hu
      refine one rfl ?_ h1
      cases v<;>first|rfl|(exfalso;simp[Cell.okWide,Cell.ok,hP]at hok;done)
     ·cases hu
   |struct fs=>
    obtain⟨cs,hv,_⟩:=hok
    exact agg (qkh hu) hv h1
   |array m e=>
    obtain⟨cs,hv,_⟩:=hok
    dsimp only at hu
    split at hu
    ·cases hu
    ·split at hu
     ·cases hu
      refine agg ?_ hv h1
      cases m<;>rfl
     ·cases hu
   |_=>cases hu
theorem qkm{r:Reach}{b0:Nat}:∀{ts:List TypeId}{us:List Ty}{vs:List Value}{ds:List (DataW H)}{ps:List MemPlace},qjK P ts=some us→DataW.TrodAll enc P w base sp held ts vs ds ps→(∀(j:Nat) t v,ts[j]?=some t→vs[j]?=some v→Value.okWide P w r b0 t v) →
  ds.length=ts.length∧∃d:Tys.data us,DVals (qdX w) us d vs∧Tys.Wf us d
 |[],us,vs,ds,ps,hl,h,_=>by
  obtain⟨rfl,rfl,rfl⟩:=trodAll_nil h
  cases hl
  exact⟨rfl,(),rfl,trivial⟩
 |t::ts,us,vs,ds,ps,hl,h,hok=>by
  obtain⟨v,vs',d,ds',p,q,rfl,rfl,rfl,h1,h2⟩:=trodAll_cons h
  unfold qjK at hl
  split at hl
  ·rename_i a r' ha hr
   cases hl
   obtain⟨d1,k1,k2⟩:=qrd ha h1 (hok 0 t v rfl rfl)
   obtain⟨k3,d2,k4,k5⟩:=qkm hr h2 fun j t v ht hv=>hok (j+1) t v ht hv
   exact⟨by simp[k3],(d1,d2),⟨v,vs',rfl,k1,k4⟩,k2,k5⟩
  ·cases hl
theorem stays{W W':World}(hl:laidOutB P=true)(hb:Below W.heap.size W W'):∀{ts:List TypeId}{vs:List Value}{ds:List (DataW H)}{ps:List MemPlace},ts.all (fun t=>P.readableRec t&&decide (t<P.types.size))=true→DataW.TrodAll enc P W 0 (fun _=>true) true ts vs ds ps→(∀x∈ps,x.block<W.heap.size) →
  DataW.TrodAll enc P W' 0 (fun b=>decide (b<W.heap.size)) true ts vs ds ps
 |[],vs,ds,ps,_,h,_=>by
  obtain⟨rfl,rfl,rfl⟩:=trodAll_nil h
  exact trodAll_mk0
 |t::ts,vs,ds,ps,hr,h,hlt=>by
  obtain⟨v,vs',d,ds',p,q,rfl,rfl,rfl,h1,h2⟩:=trodAll_cons h
  simp only[List.all_cons,Bool.and_eq_true,decide_eq_true_eq]at hr
  exact⟨p,q,Below.trod hl hr.1.1 hr.1.2 h1 hb (fun x hx=>hlt x (by simp[hx])),stays hl hb (by simpa using hr.2) h2 (fun x hx=>hlt x (by simp[hx])),rfl⟩
end
structure IsLaw(s:ChangeSpec)(n:Nat):Prop where
 vars:s.vars=[]
 res:∀(H:Type)(ds:List (DataW H)),ds.length=n→(s.fn H ds).results=[.lit (.bool true)]∧(s.fn H ds).args=ds∧(s.fn H ds).vars=[]
theorem law_contract{P:Program}{f:FuncId}{fn:Func}{us:List Ty}{s:ChangeSpec}{bt:TypeId}{H:Type}{enc:TypeId×Value→H}{W:World}{base:Nat}{args:Array Value}{ds gs:List (DataW H)}{before:List MemPlace}
  (hs:IsLaw s fn.params.toList.length) (hl:laidOutB P=true) (hts:qjK P fn.params.toList=some us) (hrd:fn.params.toList.all (fun t=>P.readableRec t&&decide (t<P.types.size))=true) (hrt:fn.resultTypes=#[bt]) (hbt:P.underlying bt=some .bool)
  (k:∀d,Tys.Wf us d→qnL P f us [.bool] d (true,()))
  (hval:∀(j:Nat) t v,fn.params[j]?=some t→args[j]?=some v→Value.okWide P W .any base t v) (hW:DataW.Whole enc P fn.params.toList s.vars false W args.toList ds gs before):
  Calls P f args W fun e W'=>∃v,e=.returned v∧s.post enc P fn false true false false W args v W':=by
 have hW':=hW
 obtain⟨p,q,hA,hV,rfl,hfz,hnd⟩:=hW
 rw[hs.vars]at hV
 obtain⟨rfl,rfl⟩:=trodVars_none hV
 obtain⟨hlen,d,hd,hwf⟩:=qkm hts hA fun j t v ht hv=>hval j t v (by simpa using ht) (by simpa using hv)
 have hF:Wide { fn:=fun _=>True }:=⟨fun _=>trivial,rfl⟩
 have hc:=k d hwf (qdX W) args W { fn:=fun _=>True } 0 hF (qrk W) hd
 refine(CallsIn.calls hc (fun _ d hd=>by cases hd)).mono fun e W' hp=>?_
 obtain⟨x,f',rfl,hx,_,_,_,hsz,hheap,hos,htape,hout⟩:=hp
 have hx:[x]=[Value.bool true]:=hx
 cases hx
 have hb:Below W.heap.size W W':=⟨hos,htape,hout,hsz,hheap⟩
 have hlt:∀x∈p++[],x.block<W.heap.size:=fun x hx=>hW'.lt x hx
 obtain⟨r1,r2,r3⟩:=hs.res H (ds++[]) (by simpa using hlen)
 refine⟨_,rfl,ds,[],p++[],[],p,[],hW',?_,?_,?_,?_,fun h=>by cases h⟩
 ·rw[r1,hrt]
  exact⟨[],[],shut_bool hbt _,trodAll_mk0,rfl⟩
 ·rw[r2,List.append_nil]
  exact stays hl hb hrd hA fun x hx=>hlt x (by simpa using hx)
 ·rw[r3,hs.vars]
  rfl
 ·exact World.keptBut_mono (fun x hx=>⟨hx,.inr (.inl (by simpa using hx))⟩) (hb.frame (·∈p++[]))
end Go.Vm

namespace Go.Vm
open Go
@[simp] theorem Tr.val_fin{R:Type}(r:R):(Tr.fin r).val=some r:=rfl
@[simp] theorem Tr.val_stop{R:Type}:(Tr.stop:Tr R).val=none:=rfl
@[simp] theorem Tr.val_test{R:Type}(b:Bool)(y n:Tr R):(Tr.test b y n).val=if b=true then y.val else n.val:=by
 cases b<;>rfl
theorem qrZ{A B C:Type}{step:A→Option (Out A B C)}(st:Nat→A):∀(n m:Nat),(∀i,i<n→step (st i)=some (.again (st (i+1))))→itr step (n+m) (st 0)=itr step m (st n):=by
 intro n
 induction n generalizing st with
 |zero=>intro m _;rw[Nat.zero_add]
 |succ n ih=>
  intro m h
  have h0:=h 0 (by omega)
  rw[show n+1+m=(n+m)+1 by omega,itr,h0]
  exact ih (fun i=>st (i+1)) m fun i hi=>h (i+1) (by omega)
theorem qbp{A B C:Type}{step:A→Option (Out A B C)}(st:Nat→A){n m:Nat}{b:B}(h:∀i,i<n→step (st i)=some (.again (st (i+1))))(hb:step (st n)=some (.brk b))(hm:n<m):itr step m (st 0)=some (.inl b):=by
 obtain⟨k,rfl⟩:∃k,m=n+(k+1):=⟨m-n-1,by omega⟩
 rw[qrZ st n (k+1) h,itr,hb]
theorem qsA{A B C:Type}{step:A→Option (Out A B C)}(st:Nat→A){n m:Nat}{c:C}(h:∀i,i<n→step (st i)=some (.again (st (i+1))))(hb:step (st n)=some (.ret c))(hm:n<m):itr step m (st 0)=some (.inr c):=by
 obtain⟨k,rfl⟩:∃k,m=n+(k+1):=⟨m-n-1,by omega⟩
 rw[qrZ st n (k+1) h,itr,hb]
def first(bad:Nat→Bool):Nat→Nat→Option Nat
 |0,_=>none
 |n+1,i=>if bad i=true then some i else first bad n (i+1)
theorem qaZ{bad:Nat→Bool}:∀{n i:Nat},first bad n i=none→∀j,i≤j→j<i+n→bad j=false
 |0,i,_,j,h1,h2=>by omega
 |n+1,i,h,j,h1,h2=>by
  simp only[first]at h
  split at h
  ·cases h
  ·rename_i hb
   rcases Nat.eq_or_lt_of_le h1 with rfl|h1
   ·simpa using hb
   ·exact qaZ h j h1 (by omega)
theorem first_some{bad:Nat→Bool}:∀{n i k:Nat},first bad n i=some k→i≤k∧k<i+n∧bad k=true∧∀j,i≤j→j<k→bad j=false
 |0,i,k,h=>by cases h
 |n+1,i,k,h=>by
  simp only[first]at h
  split at h
  ·rename_i hb
   cases h
   exact⟨Nat.le_refl _,by omega,hb,fun j h1 h2=>by omega⟩
  ·rename_i hb
   obtain⟨h1,h2,h3,h4⟩:=first_some h
   refine⟨by omega,by omega,h3,fun j k1 k2=>?_⟩
   rcases Nat.eq_or_lt_of_le k1 with rfl|k1
   ·simpa using hb
   ·exact h4 j k1 k2
theorem qbR{bad:Nat→Bool}:∀{n i:Nat},(∀j,i≤j→j<i+n→bad j=false)→first bad n i=none
 |0,_,_=>rfl
 |n+1,i,h=>by
  have:=h i (Nat.le_refl _) (by omega)
  simp only[first,this,Bool.false_eq_true,if_false]
  exact qbR fun j h1 h2=>h j (by omega) (by omega)
theorem qdS{bad bad':Nat→Bool}:∀{n i:Nat},(∀j,i≤j→j<i+n→bad j=bad' j)→first bad n i=first bad' n i
 |0,_,_=>rfl
 |n+1,i,h=>by
  have:=h i (Nat.le_refl _) (by omega)
  simp only[first,this]
  rw[qdS fun j h1 h2=>h j (by omega) (by omega)]
theorem qbl{A B C:Type}{step:A→Option (Out A B C)}(st:Nat→A)(bad:Nat→Bool)(r:Nat→C){n m:Nat}{b:B}(h:∀i,i<n→step (st i)=if bad i=true then some (.ret (r i))else some (.again (st (i+1))))(hb:step (st n)=some (.brk b))(hm:n<m):
  itr step m (st 0)=match first bad n 0 with
   |some k=>some (.inr (r k))
   |none=>some (.inl b):=by
 cases e:first bad n 0 with
 |none=>
  have hn:=qaZ e
  exact qbp st (fun i hi=>by rw[h i hi,hn i (by omega) (by omega)];rfl) hb hm
 |some k=>
  obtain⟨h1,h2,h3,h4⟩:=first_some e
  refine qsA (n:=k) st (fun i hi=>by rw[h i (by omega),h4 i (by omega) hi];rfl) ?_ (by omega)
  rw[h k (by omega),h3];rfl
theorem qal{n:Nat}(h:n≤9223372036854775807):n<rounds:=by unfold rounds;omega
theorem qlY(n:Int):wrap64 n=n.bmod 18446744073709551616:=by
 rw[qcK]
 have h1:(2:Int)^64=18446744073709551616:=by decide
 have h2:(2:Int)^(64-1)=9223372036854775808:=by decide
 simp only[IntKind.wrap,IntKind.bits,IntKind.signed,h1,h2,Bool.true_and,decide_eq_true_eq,Int.bmod]
 omega
theorem qab{n:Int}(h1:-9223372036854775808≤n)(h2:n≤9223372036854775807):wrap64 n=n:=by
 rw[qlY,Int.bmod];omega
theorem qai{n:Nat}(h:n≤9223372036854775806):wrap64 ((n:Int)+1)=((n+1:Nat):Int):=by
 rw[qab]<;>omega
theorem ble_eq_true'{a b:Nat}:(Nat.ble a b=true)↔a≤b:=⟨Nat.le_of_ble_eq_true,Nat.ble_eq_true_of_le⟩
theorem beq_eq_true'{a b:Nat}:(Nat.beq a b=true)↔a=b:=⟨Nat.eq_of_beq_eq_true,fun h=>by subst h;exact Nat.beq_refl a⟩
end Go.Vm

namespace Go.Vm
open Go
def euc(a b:Int):Int:=if _h:b=0 then a else euc b (a.tmod b)
termination_by b.natAbs
decreasing_by
 rw[Int.natAbs_tmod]
 exact Nat.mod_lt _ (by omega)
theorem qnl(a:Int):euc a 0=a:=by rw[euc];simp
theorem qm4(a:Int){b:Int}(h:b≠0):euc a b=euc b (a.tmod b):=by rw[euc];simp[h]
theorem qoC(a b:Int):(euc a b).natAbs=Nat.gcd a.natAbs b.natAbs:=by
 induction h:b.natAbs using Nat.strongRecOn generalizing a b with
 |ind n ih=>
  by_cases hb:b=0
  ·subst hb;rw[qnl,←h];simp
  ·have hlt:(a.tmod b).natAbs<n:=by rw[Int.natAbs_tmod,←h];exact Nat.mod_lt _ (by omega)
   rw[qm4 a hb,ih _ hlt b _ rfl,Int.natAbs_tmod,h,Nat.gcd_comm,←Nat.gcd_rec,Nat.gcd_comm]
theorem qpx{A B C:Type}{step:A→Option (Out A B C)}(st:Int→Int→A)(r:Int→B)
  (hs:∀a b,b≠0→step (st a b)=some (.again (st b (a.tmod b)))) (hb:∀a,step (st a 0)=some (.brk (r a))):
  ∀(m:Nat)(a b:Int),b.natAbs<m→itr step m (st a b)=some (.inl (r (euc a b))):=by
 intro m
 induction m with
 |zero=>intro a b h;omega
 |succ m ih=>
  intro a b h
  by_cases h0:b=0
  ·subst h0;rw[itr,hb,qnl]
  ·rw[itr,hs a b h0,qm4 a h0]
   refine ih _ _ ?_
   rw[Int.natAbs_tmod]
   have:=Nat.mod_lt a.natAbs (show b.natAbs>0 by omega)
   omega
theorem qjc{a b:Int}(h:b≠0):(Int.gcd a b:Int)≠0:=by
 have:=Int.gcd_pos_of_ne_zero_right a h
 omega
theorem qhb(a:Int)(g:Nat):(a.tdiv g).natAbs≤a.natAbs:=by
 rw[Int.natAbs_tdiv];exact Nat.div_le_self _ _
end Go.Vm

namespace Go.Vm
open Go
def pw:Nat→Int
 |0=>1
 |n+1=>1000000000*pw n
theorem qeJ:∀n,0<pw n
 |0=>by simp[pw]
 |n+1=>by have:=qeJ n;simp only[pw];omega
theorem qp2:∀m n,pw (m+n)=pw m*pw n
 |0,n=>by simp[pw]
 |m+1,n=>by
  rw[Nat.add_right_comm,pw,pw,qp2 m n,Int.mul_assoc]
theorem qls{m n:Nat}(h:m≤n):pw m≤pw n:=by
  induction n with
  | zero => have : m = 0 := by omega
            subst this;exact Int.le_refl _
  |succ n ih=>
    rcases Nat.lt_or_eq_of_le h with h1|rfl
    · have:=ih (by omega);have:=qeJ n;simp only[pw];omega
    · exact Int.le_refl _
def dval:List Int→Int
 |[]=>0
 |d::r=>d+1000000000*dval r
def Dg(l:List Int):Prop:=∀d∈l,0≤d∧d<1000000000
theorem Dg.nil:Dg []:=fun d h=>by cases h
theorem Dg.tail{d:Int}{l:List Int}(h:Dg (d::l)):Dg l:=fun x hx=>h x (List.mem_cons_of_mem _ hx)
theorem Dg.head{d:Int}{l:List Int}(h:Dg (d::l)):0≤d∧d<1000000000:=h d (List.mem_cons_self ..)
theorem Dg.append{l r:List Int}(h:Dg l)(k:Dg r):Dg (l++r):=fun d hd=>(List.mem_append.1 hd).elim (h d) (k d)
theorem Dg.push{l:List Int}(h:Dg l){d:Int}(h0:0≤d)(h1:d<1000000000):Dg (l++[d]):=h.append fun x hx=>by
 rw[List.mem_singleton]at hx;subst hx;exact⟨h0,h1⟩
theorem Dg.take{l:List Int}(h:Dg l)(n:Nat):Dg (l.take n):=fun d hd=>h d (List.mem_of_mem_take hd)
theorem Dg.getD{l:List Int}(h:Dg l)(i:Nat):0≤l.getD i 0∧l.getD i 0<1000000000:=by
 by_cases hi:i<l.length
 ·rw[show l.getD i 0=l[i]by simp[List.getD,hi]]
  exact h _ (List.getElem_mem hi)
 ·rw[show l.getD i 0=0 by simp[List.getD,List.getElem?_eq_none (Nat.le_of_not_lt hi)]]
  omega
theorem Dg.set{l:List Int}(h:Dg l){i:Nat}{d:Int}(h0:0≤d)(h1:d<1000000000):Dg (l.set i d):=fun x hx=>by
 rcases List.mem_or_eq_of_mem_set hx with hx|rfl
 ·exact h x hx
 ·exact⟨h0,h1⟩
theorem qcj:∀{l:List Int},Dg l→0≤dval l
 |[],_=>Int.le_refl _
 |d::r,h=>by
  have h1:=h.head;have h2:=qcj h.tail
  simp only[dval];omega
theorem qjo:∀{l:List Int},Dg l→dval l<pw l.length
 |[],_=>by simp[dval,pw]
 |d::r,h=>by
  have h1:=h.head;have h2:=qjo h.tail
  simp only[dval,List.length_cons,pw];omega
theorem qkC:∀(a b:List Int),dval (a++b)=dval a+pw a.length*dval b
 |[],b=>by simp[dval,pw]
 |d::r,b=>by
  simp only[List.cons_append,dval,qkC r b,List.length_cons,pw,Int.mul_add,Int.mul_assoc]
  omega
theorem qlH(l:List Int)(d:Int):dval (l++[d])=dval l+pw l.length*d:=by
 rw[qkC];simp[dval]
theorem qo6(l:List Int){i:Nat}(h:i<l.length):l.take (i+1)=l.take i++[l.getD i 0]:=by
 rw[List.take_add_one,List.getElem?_eq_getElem h];simp[List.getD,h]
theorem qbH(l:List Int)(i:Nat):dval (l.take (i+1))=dval (l.take i)+pw i*l.getD i 0:=by
 by_cases h:i<l.length
 ·rw[qo6 l h,qlH,List.length_take,Nat.min_eq_left (by omega)]
 ·rw[List.take_of_length_le (by omega),List.take_of_length_le (by omega)]
  simp[List.getD,List.getElem?_eq_none (Nat.le_of_not_lt h)]
theorem qaQ(l:List Int){n:Nat}(h:l.length≤n):dval (l.take n)=dval l:=by rw[List.take_of_length_le h]
def qdY(l:List Int):Nat→Nat
 |0=>0
 |k+1=>if l.getD k 0=0 then qdY l k else k+1
theorem qgF(l:List Int):∀k,qdY l k≤k
 |0=>Nat.le_refl _
 |k+1=>by
  unfold qdY
  split
  ·have:=qgF l k;omega
  ·exact Nat.le_refl _
theorem qiX(l:List Int):∀k i,qdY l k≤i→i<k→l.getD i 0=0
 |0,i,_,h=>by omega
 |k+1,i,h1,h2=>by
  unfold qdY at h1
  split at h1
  ·rename_i h
   by_cases e:i=k
   ·rw[e];exact h
   ·exact qiX l k i h1 (by omega)
  ·omega
theorem qf0(l:List Int):∀k m,qdY l k=m+1→l.getD m 0≠0
 |0,m,h=>by simp[qdY]at h
 |k+1,m,h=>by
  unfold qdY at h
  split at h
  ·exact qf0 l k m h
  ·rename_i h0
   have:m=k:=by omega
   rw[this];exact h0
theorem qpc(l:List Int):∀k,dval (l.take (qdY l k))=dval (l.take k)
 |0=>rfl
 |k+1=>by
  unfold qdY
  split
  ·rename_i h
   rw[qpc l k,qbH,h,Int.mul_zero,Int.add_zero]
  ·rfl
def dig(n:Nat):List Int:=
 if _h:n=0 then[]else((n%1000000000:Nat):Int)::dig (n/1000000000)
termination_by n
decreasing_by omega
theorem qaV:dig 0=[]:=by rw[dig];simp
theorem qe4{n:Nat}(h:n≠0):dig n=((n%1000000000:Nat):Int)::dig (n/1000000000):=by
 rw[dig];simp[h]
theorem qbZ(n:Nat):dval (dig n)=n:=by
 induction n using Nat.strongRecOn with
 |_ n ih=>
  by_cases h:n=0
  ·subst h;rw[qaV];rfl
  ·rw[qe4 h,dval,ih (n/1000000000) (by omega)]
   omega
theorem qb0(n:Nat):Dg (dig n):=by
 induction n using Nat.strongRecOn with
 |_ n ih=>
  by_cases h:n=0
  ·subst h;rw[qaV];exact Dg.nil
  ·rw[qe4 h]
   intro d hd
   rcases List.mem_cons.1 hd with rfl|hd
   ·omega
   ·exact ih _ (by omega) d hd
def Can(l:List Int):Prop:=∀m,l.length=m+1→l.getD m 0≠0
theorem Can.tail{d:Int}{l:List Int}(h:Can (d::l)):Can l:=fun m hm=>by
 have:=h (m+1) (by simp[hm])
 simpa[List.getD]using this
theorem Can.pos:∀{l:List Int},Dg l→Can l→l≠[]→0<dval l
 |[],_,_,h=>absurd rfl h
 |[d],hd,hc,_=>by
  have:=hc 0 rfl
  have h1:=hd.head
  simp[List.getD]at this
  simp only[dval];omega
 |d::e::r,hd,hc,_=>by
  have:=Can.pos hd.tail hc.tail (by simp)
  have h1:=hd.head
  rw[dval];omega
theorem qr9:∀{l:List Int},Dg l→Can l→l=dig (dval l).toNat
 |[],_,_=>by simp[dval,qaV]
 |d::r,hd,hc=>by
  have h0:=Can.pos hd hc (by simp)
  have h1:=hd.head
  have h2:=qcj hd.tail
  have e:dval (d::r)=d+1000000000*dval r:=rfl
  rw[qe4 (by omega)]
  have e1:(((dval (d::r)).toNat%1000000000:Nat):Int)=d:=by omega
  have e2:(dval (d::r)).toNat/1000000000=(dval r).toNat:=by omega
  rw[e1,e2,←qr9 hd.tail hc.tail]
theorem qhz(n:Nat):Can (dig n):=by
 induction n using Nat.strongRecOn with
 |_ n ih=>
  by_cases h:n=0
  ·subst h;rw[qaV];intro m hm;simp at hm
  ·rw[qe4 h]
   intro m hm
   by_cases h2:n/1000000000=0
   ·rw[h2,qaV]at hm ⊢
    have:m=0:=by simpa using hm.symm
    subst this
    simp only[List.getD,List.getElem?_cons_zero,Option.getD_some]
    omega
   ·cases m with
    |zero=>rw[qe4 h2]at hm;simp at hm
    |succ m=>
     have:=ih (n/1000000000) (by omega) m (by simpa using hm)
     simpa[List.getD]using this
theorem qru{l:List Int}(h:Dg l):l.take (qdY l l.length)=dig (dval l).toNat:=by
 have hle:=qgF l l.length
 have hc:Can (l.take (qdY l l.length)):=fun m hm=>by
  rw[List.length_take,Nat.min_eq_left hle]at hm
  have:=qf0 l _ m hm
  rw[show(l.take (qdY l l.length)).getD m 0=l.getD m 0 by
   simp only[List.getD];rw[List.getElem?_take_of_lt (by omega)]]
  exact this
 rw[qr9 (h.take _) hc,qpc,qaQ l (Nat.le_refl _)]
theorem dig_nil{n:Nat}:dig n=[]↔n=0:=by
 constructor
 ·intro h
  by_cases e:n=0
  ·exact e
  ·rw[qe4 e]at h;cases h
 ·rintro rfl;exact qaV
theorem qbG{n k:Nat}(h:(n:Int)<pw k):(dig n).length≤k:=by
 rcases Nat.lt_or_ge k (dig n).length with h1|h1
 ·exfalso
  obtain⟨m,hm⟩:∃m,(dig n).length=m+1:=⟨(dig n).length-1,by omega⟩
  have h2:=qhz n m hm
  have h3:=qbH (dig n) m
  rw[qaQ _ (by omega),qbZ]at h3
  have h4:=qcj ((qb0 n).take m)
  have h5:=(qb0 n).getD m
  have h6:pw k≤pw m:=qls (by omega)
  have h7:pw m*1≤pw m*(dig n).getD m 0:=Int.mul_le_mul_of_nonneg_left (by omega) (Int.le_of_lt (qeJ m))
  omega
 ·exact h1
theorem qbL(n:Nat):(n:Int)<pw (dig n).length:=by
 have:=qjo (qb0 n);rwa [qbZ]at this
def enc(z:Int):Int×List Int×PUnit:=(z.sign,dig z.natAbs,())
theorem qpw:∀{l:List Int}{k:Nat}(d:Int),k<l.length→dval (l.set k d)=dval l+pw k*(d-l.getD k 0)
 |[],k,d,h=>by simp at h
 |e::r,0,d,_=>by simp[dval,pw,List.getD];omega
 |e::r,k+1,d,h=>by
  have ih:=qpw (l:=r) (k:=k) d (by simpa using h)
  have e1:(e::r).getD (k+1) 0=r.getD k 0:=by simp[List.getD]
  rw[List.set_cons_succ,dval,ih,e1,dval,pw,Int.mul_add,Int.mul_assoc]
  omega
theorem getD_set_ne{l:List Int}{k j:Nat}{d:Int}(h:k≠j):(l.set k d).getD j 0=l.getD j 0:=by
 simp only[List.getD,List.getElem?_set,if_neg h]
theorem qrY{x y:Int}(hx:0≤x∧x<1000000000)(hy:0≤y∧y<1000000000):0≤x*y∧x*y≤999999998000000001:=by
 refine⟨Int.mul_nonneg hx.1 hy.1,?_⟩
 have:x*y≤999999999*999999999:=Int.mul_le_mul (by omega) (by omega) (by omega) (by omega)
 omega
def mI(x:Int)(b:List Int)(i:Nat)(buf:List Int):Nat→List Int×Int
 |0=>(buf,0)
 |j+1=>((mI x b i buf j).1.set (i+j) (((mI x b i buf j).1.getD (i+j) 0+x*b.getD j 0+(mI x b i buf j).2)%1000000000),((mI x b i buf j).1.getD (i+j) 0+x*b.getD j 0+(mI x b i buf j).2)/1000000000)
theorem qiY(x:Int)(b:List Int)(i:Nat)(buf:List Int):∀j,(mI x b i buf j).1.length=buf.length
 |0=>rfl
 |j+1=>by simp[mI,qiY x b i buf j]
theorem qrt{x:Int}{b:List Int}{i:Nat}{buf:List Int}(hx:0≤x∧x<1000000000)(hb:Dg b)(h:Dg buf):∀j,Dg (mI x b i buf j).1∧0≤(mI x b i buf j).2∧(mI x b i buf j).2<1000000000
 |0=>⟨h,by simp[mI]⟩
 |j+1=>by
  obtain⟨h1,h2⟩:=qrt (i:=i) hx hb h j
  have h3:=h1.getD (i+j)
  have h4:=qrY hx (hb.getD j)
  exact⟨h1.set (by omega) (by omega),by simp only[mI];omega⟩
theorem qqd(x:Int)(b:List Int)(i:Nat)(buf:List Int):∀(j k:Nat),i+j≤k→(mI x b i buf j).1.getD k 0=buf.getD k 0
 |0,_,_=>rfl
 |j+1,k,h=>by
  rw[mI]
  show((mI x b i buf j).1.set (i+j) _).getD k 0=_
  rw[getD_set_ne (by omega),qqd x b i buf j k (by omega)]
theorem qt3(x:Int)(b:List Int)(i:Nat)(buf:List Int):∀j,i+j≤buf.length→dval (mI x b i buf j).1+pw (i+j)*(mI x b i buf j).2=dval buf+pw i*(x*dval (b.take j))
 |0,_=>by simp[mI,dval]
 |j+1,h=>by
  have ih:=qt3 x b i buf j (by omega)
  rw[mI]
  dsimp only
  rw[←Nat.add_assoc,qpw _ (by rw[qiY];omega),qbH,pw]
  generalize hg:(mI x b i buf j).1.getD (i+j) 0=g at *
  generalize(mI x b i buf j).2=c at *
  generalize hs:g+x*b.getD j 0+c=s at *
  have e:s%1000000000=s-1000000000*(s/1000000000):=by omega
  have e2:pw (i+j)*(s%1000000000-g)+1000000000*pw (i+j)*(s/1000000000)=pw (i+j)*(s-g):=by
   rw[e,Int.mul_sub,Int.mul_sub,Int.mul_sub,Int.mul_comm 1000000000 (pw (i+j)),Int.mul_assoc];omega
  have e3:pw (i+j)*(s-g)=pw (i+j)*(x*b.getD j 0)+pw (i+j)*c:=by
   rw[←Int.mul_add];congr 1;omega
  have e4:pw (i+j)*(x*b.getD j 0)=pw i*(x*(pw j*b.getD j 0)):=by
   rw[qp2,Int.mul_assoc,Int.mul_left_comm (pw j)]
  rw[Int.mul_add x,Int.mul_add (pw i)]
  omega
def mO(a b:List Int):Nat→List Int
 |0=>List.replicate (a.length+b.length+1) 0
 |i+1=>(mI (a.getD i 0) b i (mO a b i) b.length).1.set (i+b.length) ((mI (a.getD i 0) b i (mO a b i) b.length).1.getD (i+b.length) 0+(mI (a.getD i 0) b i (mO a b i) b.length).2)
theorem qiO(a b:List Int):∀i,(mO a b i).length=a.length+b.length+1
 |0=>by simp[mO]
 |i+1=>by simp[mO,qiY,qiO a b i]
theorem qr3(a b:List Int):∀(i k:Nat),i+b.length≤k→(mO a b i).getD k 0=0
 |0,k,_=>by
  simp only[mO,List.getD,List.getElem?_replicate]
  split<;>rfl
 |i+1,k,h=>by
  rw[mO,getD_set_ne (by omega),qqd _ _ _ _ _ _ (by omega),qr3 a b i k (by omega)]
theorem qpU(a b:List Int)(i:Nat):(mI (a.getD i 0) b i (mO a b i) b.length).1.getD (i+b.length) 0=0:=by
 rw[qqd _ _ _ _ _ _ (Nat.le_refl _),qr3 a b i _ (Nat.le_refl _)]
theorem qq0{a b:List Int}(ha:Dg a)(hb:Dg b):∀i,Dg (mO a b i)
 |0=>fun d hd=>by have:=List.eq_of_mem_replicate hd;subst this;omega
 |i+1=>by
  obtain⟨h1,h2,h3⟩:=qrt (i:=i) (ha.getD i) hb (qq0 ha hb i) b.length
  rw[mO,qpU]
  exact h1.set (by omega) (by omega)
theorem qnb:∀n,dval (List.replicate n 0)=0
 |0=>rfl
 |n+1=>by simp[List.replicate_succ,dval,qnb n]
theorem qur(a b:List Int):∀i,i≤a.length→dval (mO a b i)=dval (a.take i)*dval b
 |0,_=>by simp[mO,qnb,dval]
 |i+1,h=>by
  have ih:=qur a b i (by omega)
  have hm:=qt3 (a.getD i 0) b i (mO a b i) b.length (by rw[qiO];omega)
  rw[mO,qpw _ (by rw[qiY,qiO];omega),qpU,qbH,Int.add_mul]
  rw[ih,List.take_of_length_le (Nat.le_refl b.length)]at hm
  rw[Int.zero_add,Int.sub_zero,hm,Int.mul_assoc]
end Go.Vm
