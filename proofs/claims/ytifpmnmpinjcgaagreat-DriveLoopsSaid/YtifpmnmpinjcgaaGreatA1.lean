/- A machine over virtual values that stands for the model's: part 1. -/
import Derived.RangeFuncLeaves
import Derived.OrdersIn
import Derived.Laws.Cells
import Derived.Laws.NewBlocks
import Derived.Laws.StructEq
set_option linter.unusedVariables false
set_option linter.unusedSimpArgs false

namespace Go.Vm
inductive Ty where
 |int (k:IntKind)
 |bool
 |str
 |unit
 |pair (a b:Ty)
 |slice (t:Ty)
abbrev Ty.data:Ty→Type
 |.int _=>Int
 |.bool=>Bool
 |.str=>ByteArray
 |.unit=>Unit
 |.pair a b=>a.data×b.data
 |.slice t=>List t.data
def Ty.cells:Ty→Nat
 |.unit=>0
 |.pair a b=>a.cells+b.cells
 |_=>1
def Ty.dflt:(t:Ty)→t.data
 |.int _=>(0:Int)
 |.bool=>false
 |.str=>ByteArray.empty
 |.unit=>()
 |.pair a b=>(a.dflt,b.dflt)
 |.slice _=>[]
def Ty.isAgg:Ty→Bool
 |.unit=>true
 |.pair _ _=>true
 |_=>false
def Ty.flat:Ty→Bool
 |.slice _=>false
 |.pair a b=>match a.flat with
  |true=>b.flat
  |false=>false
 |_=>true
def kindEq?:(a b:IntKind)→Option (PLift (a=b))
 |.i8,.i8=>some ⟨rfl⟩
 |.i16,.i16=>some ⟨rfl⟩
 |.i32,.i32=>some ⟨rfl⟩
 |.i64,.i64=>some ⟨rfl⟩
 |.u8,.u8=>some ⟨rfl⟩
 |.u16,.u16=>some ⟨rfl⟩
 |.u32,.u32=>some ⟨rfl⟩
 |.u64,.u64=>some ⟨rfl⟩
 |_,_=>none
def Ty.eq?:(a b:Ty)→Option (PLift (a=b))
 |.int k,b=>match b with
  |.int j=>match kindEq? k j with
   |some ⟨h⟩=>some ⟨h▸rfl⟩
   |none=>none
  |_=>none
 |.bool,b=>match b with
  |.bool=>some ⟨rfl⟩
  |_=>none
 |.str,b=>match b with
  |.str=>some ⟨rfl⟩
  |_=>none
 |.unit,b=>match b with
  |.unit=>some ⟨rfl⟩
  |_=>none
 |.pair a1 a2,b=>match b with
  |.pair b1 b2=>match Ty.eq? a1 b1,Ty.eq? a2 b2 with
   |some ⟨h1⟩,some ⟨h2⟩=>some ⟨h1▸h2▸rfl⟩
   |_,_=>none
  |_=>none
 |.slice a,b=>match b with
  |.slice b=>match Ty.eq? a b with
   |some ⟨h⟩=>some ⟨h▸rfl⟩
   |none=>none
  |_=>none
def Ty.cast{a b:Ty}(h:PLift (a=b))(d:a.data):b.data:=h.down▸d
def Ty.castL{a b:Ty}(h:PLift (a=b))(l:List a.data):List b.data:=h.down▸l
abbrev Frozen:=Nat→Option (Array Value)
def Begins(c c':Array Value):Prop:=∀(j:Nat)(v:Value),c[j]?=some v→c'[j]?=some v
theorem Begins.refl(c:Array Value):Begins c c:=fun _ _ e=>e
theorem Begins.trans{a b c:Array Value}(h:Begins a b)(k:Begins b c):Begins a c:=fun j v e=>k j v (h j v e)
def Frozen.le(f g:Frozen):Prop:=∀k c,f k=some c→∃c',g k=some c'∧Begins c c'
theorem Frozen.le_refl(f:Frozen):f.le f:=fun _ c h=>⟨c,h,Begins.refl c⟩
theorem Frozen.le_trans{f g h:Frozen}(a:f.le g)(b:g.le h):f.le h:=fun k c e=>
 let⟨c1,e1,p1⟩:=a k c e
 let⟨c2,e2,p2⟩:=b k c1 e1
 ⟨c2,e2,p1.trans p2⟩
def LiesIn{α:Type}(D:α→List Value→Prop)(e:Nat)(l:List α)(c:Array Value)(off:Nat):Prop:=
 ∀(i:Nat)(d:α),l[i]?=some d→∃cs,D d cs∧cs.length=e∧∀(j:Nat)(v:Value),cs[j]?=some v→c[off+i*e+j]?=some v
def SlRel{α:Type}(fz:Frozen)(D:α→List Value→Prop)(e:Nat)(l:List α)(a:Option Addr)(n:Nat):Prop:=
 n=l.length∧(l=[]∨∃b off c,a=some ⟨b,off,none⟩∧fz b=some c∧off+l.length*e≤c.size∧LiesIn D e l c off)
def DRel(fz:Frozen):(t:Ty)→t.data→List Value→Prop
 |.int k,n,cs=>cs=[.int k n]
 |.bool,b,cs=>cs=[.bool b]
 |.str,s,cs=>cs=[.string s]
 |.unit,_,cs=>cs=[]
 |.pair a b,d,cs=>∃x y,cs=x++y∧DRel fz a d.1 x∧DRel fz b d.2 y
 |.slice t,l,cs=>∃a n cap,cs=[.slice a n cap]∧n≤cap∧SlRel fz (DRel fz t) t.cells l a n
theorem LiesIn.mono{α:Type}{D D':α→List Value→Prop}(hD:∀d cs,D d cs→D' d cs){e:Nat}{l:List α}{c c':Array Value}{off:Nat}(hc:Begins c c')(h:LiesIn D e l c off):LiesIn D' e l c' off:=
 fun i d hi=>let⟨cs,h1,h2,h3⟩:=h i d hi;⟨cs,hD d cs h1,h2,fun j v e=>hc _ _ (h3 j v e)⟩
theorem qes{c c':Array Value}(hc:Begins c c'):c.size≤c'.size:=by
 rcases Nat.eq_zero_or_pos c.size with h|h
 ·omega
 ·have:=hc (c.size-1) c[c.size-1] (by simp)
  have:=(Array.getElem?_eq_some_iff.1 this).1
  omega
theorem SlRel.mono{α:Type}{f g:Frozen}(hf:f.le g){D D':α→List Value→Prop}(hD:∀d cs,D d cs→D' d cs){e:Nat}{l:List α}{a:Option Addr}{n:Nat}(h:SlRel f D e l a n):SlRel g D' e l a n:=by
 obtain⟨h1,h2⟩:=h
 refine⟨h1,?_⟩
 rcases h2 with h2|⟨b,off,c,h2,h3,h4,h5⟩
 ·exact .inl h2
 ·obtain⟨c',e1,e2⟩:=hf b c h3
  exact .inr ⟨b,off,c',h2,e1,Nat.le_trans h4 (qes e2),h5.mono hD e2⟩
theorem DRel.mono{f g:Frozen}(hf:f.le g):∀(t:Ty)(d:t.data)(cs:List Value),DRel f t d cs→DRel g t d cs
 |.int _,_,_,h=>h
 |.bool,_,_,h=>h
 |.str,_,_,h=>h
 |.unit,_,_,h=>h
 |.pair a b,_,_,⟨x,y,h1,h2,h3⟩=>⟨x,y,h1,DRel.mono hf a _ _ h2,DRel.mono hf b _ _ h3⟩
 |.slice t,_,_,⟨a,n,cap,h1,h2,h3⟩=>⟨a,n,cap,h1,h2,h3.mono hf (DRel.mono hf t)⟩
theorem DRel.len{f:Frozen}:∀{t:Ty}{d:t.data}{cs:List Value},DRel f t d cs→cs.length=t.cells
 |.int _,_,_,h=>by cases h;rfl
 |.bool,_,_,h=>by cases h;rfl
 |.str,_,_,h=>by cases h;rfl
 |.unit,_,_,h=>by cases h;rfl
 |.pair a b,_,_,⟨x,y,h1,h2,h3⟩=>by
  have e1:=DRel.len h2
  have e2:=DRel.len h3
  subst h1
  simp[Ty.cells,e1,e2]
 |.slice t,_,_,⟨a,n,cap,h1,_⟩=>by subst h1;rfl
theorem LiesIn.take{α:Type}{D:α→List Value→Prop}{e:Nat}{l:List α}{c:Array Value}{off:Nat}(h:LiesIn D e l c off)(n:Nat):LiesIn D e (l.take n) c off:=by
 intro i d hi
 rw[List.getElem?_take]at hi
 split at hi
 ·exact h i d hi
 ·cases hi
theorem LiesIn.drop{α:Type}{D:α→List Value→Prop}{e:Nat}{l:List α}{c:Array Value}{off:Nat}(h:LiesIn D e l c off)(n:Nat):LiesIn D e (l.drop n) c (off+n*e):=by
 intro i d hi
 rw[List.getElem?_drop]at hi
 obtain⟨cs,h1,h2,h3⟩:=h _ d hi
 refine⟨cs,h1,h2,fun j v e=>?_⟩
 rw[←h3 j v e,Nat.add_mul]
 congr 1;omega
end Go.Vm

namespace Go.Vm
structure VA where
 b:Nat
 e:Nat
 i:Nat
 o:Nat
inductive Tip where
 |no
 |tight
 |name (b:Nat)
 |own (b:Nat)
 |fresh
inductive V where
 |bot
 |int (k:IntKind) (n:Int)
 |bool (b:Bool)
 |str (s:ByteArray)
 |ptr (a:Option VA)
 |sl (a:Option VA) (len:Nat) (cap:Option Nat)
 |func (fn:FuncId) (first captured:List V)
 |yield (l:Nat)
 |nilFunc
 |iface (t:TypeId) (v:V)
 |nilIface
 |agg (cells:List V)
 |tuple (vs:List V)
 |vs (t:Ty) (l:List t.data) (tip:Tip)
 |fp (row:List V)
 |map (b:Option Nat)
 |flt (k:FloatKind) (n:Nat)
 |cpx (k:FloatKind) (a b:Nat)
def cellsV:(t:Ty)→t.data→List V
 |.int k,n=>[.int k n]
 |.bool,b=>[.bool b]
 |.str,s=>[.str s]
 |.unit,_=>[]
 |.pair a b,d=>cellsV a d.1++cellsV b d.2
 |.slice t,l=>[.vs t l .no]
inductive Rows where
 |list (l:List (List V))
 |fn (n:Nat) (f:Nat→List V)
 |ty (t:Ty) (l:List t.data)
def Rows.get(r:Rows)(i:Nat):Option (List V):=
 match r with
 |.list l=>l[i]?
 |.ty t l=>l[i]?.map (cellsV t)
 |.fn n f=>if i<n then some (f i)else none
structure VLoop where
 state:LoopState
 pending:Option Code
 tmps:List V
 params:Array Tmp
 assign:Code
 body:Code
 defers:Nat
inductive Ob where
 |box (e:Nat) (r:Rows)
 |loop (l:VLoop)
 |deferred
 |dead
 |tip
 |map (k v:Ty) (l:List (k.data×v.data))
 |mit (b since:Nat) (seen:List Nat)
 |mapd (k v:Ty) (l:List (Nat×(k.data×v.data))) (ck:Nat)
 |mitx
structure H where
 next:Nat
 ro:Nat
 objs:List (Nat×Ob)
 ask:Option (List Bool)
 said:List (Bool×Bool)
def H.Holds(h:H):Prop:=∀p∈h.said,p.1=p.2
def H.test(h:H)(b:Bool):Option (Bool×H):=
 match h.ask with
 |none=>some (b,h)
 |some []=>none
 |some (d::ds)=>some (d,{ h with ask:=some ds,said:=(b,d)::h.said })
theorem H.test_holds{h h':H}{b d:Bool}(e:h.test b=some (d,h'))(hh:h'.Holds):
  h.Holds∧b=d∧h'.next=h.next∧h'.ro=h.ro∧h'.objs=h.objs:=by
 unfold H.test at e
 split at e
 ·cases e;exact⟨hh,rfl,rfl,rfl,rfl⟩
 ·cases e
 ·cases e
  refine⟨fun p hp=>hh p (by simp[hp]),?_,rfl,rfl,rfl⟩
  exact hh (b,d) (by simp)
def look:List (Nat×Ob)→Nat→Option Ob
 |[]=>fun _=>none
 |p::r=>fun b=>Bool.casesOn (Nat.beq p.1 b) (Bool.casesOn (Nat.ble p.1 b) (look r b) none) (some p.2)
theorem look_nil(b:Nat):look [] b=none:=rfl
theorem look_eq(c:Nat)(x:Ob)(r:List (Nat×Ob))(b:Nat):look ((c,x)::r) b=match Nat.beq c b with
  |true=>some x
  |false=>match Nat.ble c b with
   |true=>none
   |false=>look r b:=by
 simp only[look]
 cases Nat.beq c b<;>cases Nat.ble c b<;>rfl
def live:Option Ob→Option Ob
 |some .dead=>none
 |r=>r
def H.get(h:H)(b:Nat):Option Ob:=live (look h.objs b)
theorem H.test_eqs{h h':H}{b d:Bool}(e:h.test b=some (d,h')):h'.next=h.next∧h'.ro=h.ro∧h'.objs=h.objs:=by
 unfold H.test at e
 split at e
 ·cases e;exact⟨rfl,rfl,rfl⟩
 ·cases e
 ·cases e;exact⟨rfl,rfl,rfl⟩
structure Map where
 nm:Nat→Option (Nat×Nat×Nat)
 fz:Frozen
 tp:Nat→Option (Option (Nat×Nat×Nat))
 base:List Deferred×Nat
instance:CoeFun Map (fun _=>Nat→Option (Nat×Nat×Nat)):=⟨Map.nm⟩
structure Map.le(φ ψ:Map):Prop where
 nm:∀b k,φ b=some k→ψ b=some k
 fz:φ.fz.le ψ.fz
 tp:∀b m,φ.tp b=some m→ψ.tp b=some m
 base:ψ.base=φ.base
instance {φ ψ:Map}:CoeFun (φ.le ψ) (fun _=>∀b k,φ b=some k→ψ b=some k):=⟨Map.le.nm⟩
theorem Map.le_refl(φ:Map):φ.le φ:=⟨fun _ _ h=>h,Frozen.le_refl _,fun _ _ h=>h,rfl⟩
theorem Map.le_trans{φ ψ χ:Map}(h:φ.le ψ)(k:ψ.le χ):φ.le χ:=⟨fun b n e=>k b n (h b n e),Frozen.le_trans h.fz k.fz,fun b m e=>k.tp b m (h.tp b m e),k.base.trans h.base⟩
def TipRel(φ:Map)(e:Nat)(tip:Tip)(a:Option Addr)(n cap:Nat):Prop:=
 match tip with
 |.no=>True
 |.tight=>cap=n
 |.name b=>∃m,φ.tp b=some m∧match m with
  |none=>cap=n
  |some (blk,en,sz)=>∃off,a=some ⟨blk,off,none⟩∧off+n*e=en∧off+cap*e≤sz
 |.own b=>∃m,φ.tp b=some m∧match m with
  |none=>n=0∧cap=0
  |some (blk,en,sz)=>∃off,a=some ⟨blk,off,none⟩∧off+n*e=en∧off+cap*e≤sz∧off=0
 |.fresh=>n=0∧cap=0
def qo8(tip:Tip):Bool:=
 match tip with
 |.own _=>true
 |.fresh=>true
 |_=>false
def qhk(tip:Tip)(b:Nat):Tip:=
 match qo8 tip with
 |true=>.own b
 |false=>.name b
theorem TipRel.next{φ:Map}{e:Nat}{tip:Tip}{b blk en sz off n cap:Nat}{a:Option Addr}(h:φ.tp b=some (some (blk,en,sz)))(h1:a=some ⟨blk,off,none⟩)(h2:off+n*e=en)(h3:off+cap*e≤sz)(h4:qo8 tip=true→off=0):TipRel φ e (qhk tip b) a n cap:=by
 unfold qhk
 cases ho:qo8 tip with
 |true=>exact⟨_,h,off,h1,h2,h3,h4 ho⟩
 |false=>exact⟨_,h,off,h1,h2,h3⟩
theorem TipRel.weak{φ:Map}{e b n cap:Nat}{a:Option Addr}(h:TipRel φ e (.own b) a n cap):TipRel φ e (.name b) a n cap:=by
 obtain⟨m,h1,h2⟩:=h
 refine⟨m,h1,?_⟩
 cases m with
 |none=>exact h2.2.trans h2.1.symm
 |some q=>obtain⟨off,q1,q2,q3,_⟩:=h2;exact⟨off,q1,q2,q3⟩
theorem TipRel.mono{φ ψ:Map}(h:φ.le ψ){e:Nat}{tip:Tip}{a:Option Addr}{n cap:Nat}(k:TipRel φ e tip a n cap):TipRel ψ e tip a n cap:=by
 cases tip with
 |no=>trivial
 |tight=>exact k
 |name b=>obtain⟨m,h1,h2⟩:=k;exact⟨m,h.tp _ _ h1,h2⟩
 |own b=>obtain⟨m,h1,h2⟩:=k;exact⟨m,h.tp _ _ h1,h2⟩
 |fresh=>exact k
def VA.real(a:VA)(k:Nat×Nat×Nat):Addr:=⟨k.1,k.2.2+(a.i*a.e+a.o),none⟩
def offA(c:Array Value)(n:Nat):Array Value:=(c.toList.drop n).toArray
theorem qa8(c:Array Value):offA c 0=c:=by simp[offA]
theorem qci(c:Array Value)(n j:Nat):(offA c n)[j]?=c[n+j]?:=by simp[offA]
mutual
inductive VRel(φ:Map):V→Value→Prop
 |bot (r:Value):VRel φ .bot r
 |int (k:IntKind) (n:Int):VRel φ (.int k n) (.int k n)
 |bool (b:Bool):VRel φ (.bool b) (.bool b)
 |str (s:ByteArray):VRel φ (.str s) (.string s)
 |flt (k:FloatKind) (n:Nat):VRel φ (.flt k n) (.float k n)
 |cpx (k:FloatKind) (a b:Nat):VRel φ (.cpx k a b) (.complex k a b)
 |ptrNil:VRel φ (.ptr none) (.pointer none)
 |ptr (a:VA) (k:Nat×Nat×Nat) (h:φ a.b=some k):VRel φ (.ptr (some a)) (.pointer (some (a.real k)))
 |slNil (cap:Option Nat) (h:∀c,cap=some c→c=0):VRel φ (.sl none 0 cap) (.slice none 0 0)
 |sl (a:VA) (k:Nat×Nat×Nat) (len cap':Nat) (cap:Option Nat) (h:φ a.b=some k) (hl:len≤cap') (hc:∀c,cap=some c→c=cap') (hz:cap=none→a.o=0∧(a.i+cap')*a.e≤k.2.1):
  VRel φ (.sl (some a) len cap) (.slice (some (a.real k)) len cap')
 |func (f:FuncId) (a c:List V) (a' c':Array Value) (ha:VRels φ a a'.toList) (hc:VRels φ c c'.toList):VRel φ (.func f a c) (.func (.func f) a' c')
 |yield (l:Nat) (k:Nat×Nat×Nat) (h:φ l=some k):VRel φ (.yield l) (.func (.yield k.1) #[] #[])
 |nilFunc:VRel φ .nilFunc .nilFunc
 |iface (t:TypeId) (v:V) (r:Value) (h:VRel φ v r):VRel φ (.iface t v) (.iface t r)
 |nilIface:VRel φ .nilIface .nilIface
 |agg (vs:List V) (rs:Array Value) (h:VRels φ vs rs.toList):VRel φ (.agg vs) (.agg rs)
 |tuple (vs:List V) (rs:Array Value) (h:VRels φ vs rs.toList):VRel φ (.tuple vs) (.tuple rs)
 |vs (t:Ty) (l:List t.data) (tip:Tip) (a:Option Addr) (n cap:Nat) (hn:n≤cap) (h:SlRel φ.fz (DRel φ.fz t) t.cells l a n) (ht:TipRel φ t.cells tip a n cap):VRel φ (.vs t l tip) (.slice a n cap)
 |fp (row:List V) (a:Addr) (c:Array Value) (xs:List Value) (hs:a.spot=none) (hz:φ.fz a.block=some c) (hx:VRels φ row xs) (hc:∀(j:Nat)(v:Value),xs[j]?=some v→c[a.off+j]?=some v):VRel φ (.fp row) (.pointer (some a))
 |mapNil:VRel φ (.map none) (.map none)
 |map (b:Nat) (k:Nat×Nat×Nat) (h:φ b=some k):VRel φ (.map (some b)) (.map (some k.1))
inductive VRels(φ:Map):List V→List Value→Prop
 |nil:VRels φ [] []
 |cons {v:V} {r:Value} {vs:List V} {rs:List Value} (h:VRel φ v r) (t:VRels φ vs rs):VRels φ (v::vs) (r::rs)
end
mutual
theorem VRel.mono{φ ψ:Map}(hle:φ.le ψ){v:V}{r:Value}(h:VRel φ v r):VRel ψ v r:=
 match h with
 |.bot r=>.bot r
 |.int k n=>.int k n
 |.bool b=>.bool b
 |.str s=>.str s
 |.flt k n=>.flt k n
 |.cpx k a b=>.cpx k a b
 |.ptrNil=>.ptrNil
 |.ptr a k h=>.ptr a k (hle _ _ h)
 |.slNil c h=>.slNil c h
 |.sl a k l c' c h hl hc hz=>.sl a k l c' c (hle _ _ h) hl hc hz
 |.func f a c a' c' ha hc=>.func f a c a' c' (ha.mono hle) (hc.mono hle)
 |.yield l k h=>.yield l k (hle _ _ h)
 |.nilFunc=>.nilFunc
 |.iface t v r h=>.iface t v r (h.mono hle)
 |.nilIface=>.nilIface
 |.agg vs rs h=>.agg vs rs (h.mono hle)
 |.tuple vs rs h=>.tuple vs rs (h.mono hle)
 |.vs t l tip a n cap hn h ht=>.vs t l tip a n cap hn (h.mono hle.fz (DRel.mono hle.fz t)) (ht.mono hle)
 |.fp row a c xs hs hz hx hc=>
  let⟨c',e1,e2⟩:=hle.fz _ _ hz
  .fp row a c' xs hs e1 (hx.mono hle) (fun j v e=>e2 _ _ (hc j v e))
 |.mapNil=>.mapNil
 |.map b k h=>.map b k (hle _ _ h)
theorem VRels.mono{φ ψ:Map}(hle:φ.le ψ){vs:List V}{rs:List Value}(h:VRels φ vs rs):VRels ψ vs rs:=
 match h with
 |.nil=>.nil
 |.cons h t=>.cons (h.mono hle) (t.mono hle)
end
def Map.re(φ:Map)(m:List Deferred×Nat):Map:={ φ with base:=m }
mutual
theorem VRel.re{φ:Map}(m:List Deferred×Nat){v:V}{r:Value}(h:VRel φ v r):VRel (φ.re m) v r:=
 match h with
 |.bot r=>.bot r
 |.int k n=>.int k n
 |.bool b=>.bool b
 |.str s=>.str s
 |.flt k n=>.flt k n
 |.cpx k a b=>.cpx k a b
 |.ptrNil=>.ptrNil
 |.ptr a k h=>.ptr a k h
 |.slNil c h=>.slNil c h
 |.sl a k l c' c h hl hc hz=>.sl a k l c' c h hl hc hz
 |.func f a c a' c' ha hc=>.func f a c a' c' (ha.re m) (hc.re m)
 |.yield l k h=>.yield l k h
 |.nilFunc=>.nilFunc
 |.iface t v r h=>.iface t v r (h.re m)
 |.nilIface=>.nilIface
 |.agg vs rs h=>.agg vs rs (h.re m)
 |.tuple vs rs h=>.tuple vs rs (h.re m)
 |.vs t l tip a n cap hn h ht=>.vs t l tip a n cap hn h (by cases tip<;>exact ht)
 |.fp row a c xs hs hz hx hc=>.fp row a c xs hs hz (hx.re m) hc
 |.mapNil=>.mapNil
 |.map b k h=>.map b k h
theorem VRels.re{φ:Map}(m:List Deferred×Nat){vs:List V}{rs:List Value}(h:VRels φ vs rs):VRels (φ.re m) vs rs:=
 match h with
 |.nil=>.nil
 |.cons h t=>.cons (h.re m) (t.re m)
end
namespace VRels
variable {φ:Map}
theorem length{vs:List V}{rs:List Value}(h:VRels φ vs rs):vs.length=rs.length:=by
 induction vs generalizing rs with
 |nil=>cases h;rfl
 |cons v vs ih=>cases h with|cons h t=>simp[ih t]
theorem get{vs:List V}{rs:List Value}(h:VRels φ vs rs):∀(i:Nat)(v:V),vs[i]?=some v→∃r,rs[i]?=some r∧VRel φ v r:=by
 induction vs generalizing rs with
 |nil=>intro i v e;simp at e
 |cons x vs ih=>
  cases h with
  |cons h t=>
   intro i v e
   cases i with
   |zero=>simp at e;subst e;exact⟨_,rfl,h⟩
   |succ i=>simp at e ⊢;exact ih t i v e
theorem append{vs ws:List V}{rs ss:List Value}(h:VRels φ vs rs)(k:VRels φ ws ss):VRels φ (vs++ws) (rs++ss):=by
 induction vs generalizing rs with
 |nil=>cases h;simpa using k
 |cons v vs ih=>cases h with|cons h t=>exact .cons h (ih t)
theorem of_get{vs:List V}{rs:List Value}(hl:vs.length=rs.length)(h:∀(i:Nat)(v:V)(r:Value),vs[i]?=some v→rs[i]?=some r→VRel φ v r):VRels φ vs rs:=by
 induction vs generalizing rs with
 |nil=>cases rs with|nil=>exact .nil|cons _ _=>simp at hl
 |cons v vs ih=>
  cases rs with
  |nil=>simp at hl
  |cons r rs=>
   refine .cons (h 0 v r rfl rfl) (ih (by simpa using hl) fun i x y hx hy=>h (i+1) x y (by simpa using hx) (by simpa using hy))
theorem set{vs:List V}{rs:List Value}(h:VRels φ vs rs){v:V}{r:Value}(hv:VRel φ v r)(i:Nat):VRels φ (vs.set i v) (rs.set i r):=by
 induction vs generalizing rs i with
 |nil=>cases h;simpa using .nil
 |cons x vs ih=>
  cases h with
  |cons h t=>
   cases i with
   |zero=>exact .cons hv t
   |succ i=>exact .cons h (ih t i)
theorem replicate(n:Nat){v:V}{r:Value}(h:VRel φ v r):VRels φ (List.replicate n v) (List.replicate n r):=by
 induction n with
 |zero=>exact .nil
 |succ n ih=>exact .cons h ih
theorem take{vs:List V}{rs:List Value}(h:VRels φ vs rs)(n:Nat):VRels φ (vs.take n) (rs.take n):=by
 induction vs generalizing rs n with
 |nil=>cases h;simpa using .nil
 |cons x vs ih=>cases h with|cons h t=>cases n with|zero=>exact .nil|succ n=>exact .cons h (ih t n)
theorem drop{vs:List V}{rs:List Value}(h:VRels φ vs rs)(n:Nat):VRels φ (vs.drop n) (rs.drop n):=by
 induction vs generalizing rs n with
 |nil=>cases h;simpa using .nil
 |cons x vs ih=>cases h with|cons h t=>cases n with|zero=>exact .cons h t|succ n=>exact ih t n
end VRels
def getT(ts:List V)(t:Nat):V:=
 match ts[t]? with
 |some v=>v
 |none=>.bot
theorem qaQ(ts:List V)(t:Nat):getT ts t=match ts[t]? with
 |some v=>v
 |none=>.bot:=rfl
theorem qbD{φ:Map}{ts:List V}{rs:Array Value}(h:VRels φ ts rs.toList)(t:Nat):VRel φ (getT ts t) (rs.getD t undef):=by
 rw[qaQ]
 cases e:ts[t]? with
 |none=>exact .bot _
 |some v=>
  obtain⟨r,hr,hv⟩:=h.get t v e
  have:rs[t]?=some r:=by simpa using hr
  rw[Array.getD_eq_getD_getElem?,this]
  exact hv
def putT(ts:List V)(dst:Option Tmp)(v:V):List V:=
 match dst with
 |some d=>ts.set d v
 |none=>ts
theorem qa0(ts:List V)(d:Tmp)(v:V):putT ts (some d) v=ts.set d v:=rfl
theorem qdX(ts:List V)(v:V):putT ts none v=ts:=rfl
theorem qch{φ:Map}{ts:List V}{a:Act}(h:VRels φ ts a.tmps.toList){v:V}{r:Value}(hv:VRel φ v r)(dst:Option Tmp):
  VRels φ (putT ts dst v) (a.put dst r).tmps.toList:=by
 cases dst with
 |none=>exact h
 |some d=>simpa[qa0,Act.put]using h.set hv d
def ofValue:Nat→Value→V
 |0,_=>.bot
 |n+1,v=>match v with
  |.bool b=>.bool b
  |.int k i=>.int k i
  |.string s=>.str s
  |.float k a=>.flt k a
  |.complex k a b=>.cpx k a b
  |.pointer none=>.ptr none
  |.slice none 0 0=>.sl none 0 (some 0)
  |.nilFunc=>.nilFunc
  |.nilIface=>.nilIface
  |.map none=>.map none
  |.iface t v=>.iface t (ofValue n v)
  |.agg cs=>.agg (cs.toList.map (ofValue n))
  |.tuple vs=>.tuple (vs.toList.map (ofValue n))
  |.func (.func f) first captured=>.func f (first.toList.map (ofValue n)) (captured.toList.map (ofValue n))
  |_=>.bot
theorem VRels.map_of{φ:Map}(f:Value→V)(h:∀v,VRel φ (f v) v):∀l:List Value,VRels φ (l.map f) l
 |[]=>.nil
 |v::l=>.cons (h v) (VRels.map_of f h l)
theorem qbs(φ:Map):∀(n:Nat)(v:Value),VRel φ (ofValue n v) v
 |0,v=>.bot v
 |n+1,v=>by
  unfold ofValue
  split
  ·exact .bool _
  ·exact .int _ _
  ·exact .str _
  ·exact .flt _ _
  ·exact .cpx _ _ _
  ·exact .ptrNil
  ·exact .slNil _ (fun c e=>by cases e;rfl)
  ·exact .nilFunc
  ·exact .nilIface
  ·exact .mapNil
  ·exact .iface _ _ _ (qbs φ n _)
  ·exact .agg _ _ (VRels.map_of _ (qbs φ n) _)
  ·exact .tuple _ _ (VRels.map_of _ (qbs φ n) _)
  ·exact .func _ _ _ _ _ (VRels.map_of _ (qbs φ n) _) (VRels.map_of _ (qbs φ n) _)
  ·exact .bot _
def eval(ts:List V):Operand→V
 |.tmp t=>getT ts t
 |.const v=>ofValue 8 v
 |.global _=>.bot
 |.func f=>.func f [] []
theorem qbp{φ:Map}{ts:List V}{a:Act}(h:VRels φ ts a.tmps.toList)(x:Operand):VRel φ (eval ts x) (a.eval x):=by
 cases x with
 |tmp t=>exact qbD h t
 |const v=>exact qbs φ 8 v
 |global g=>exact .bot _
 |func f=>exact .func f [] [] #[] #[] .nil .nil
def RowsIn(φ:Map)(e:Nat)(r:Rows)(c:Array Value):Prop:=
 ∀i row,r.get i=some row→row.length=e∧∀o v,row[o]?=some v→∃x,c[i*e+o]?=some x∧VRel φ v x
structure LoopRel(φ:Map)(l:VLoop)(r:Loop):Prop where
 state:r.state=l.state
 pending:r.pending=l.pending
 tmps:VRels φ l.tmps r.tmps.toList
 params:r.params=l.params
 assign:r.assign=l.assign
 body:r.body=l.body
 defers:∃z,φ l.defers=some (r.defers,z)
def DVal(fz:Frozen)(t:Ty)(d:t.data)(x:Value):Prop:=
 match t.isAgg with
 |true=>∃cs,x=.agg cs∧DRel fz t d cs.toList
 |false=>DRel fz t d [x]
def EntsRel(k v:Ty):List (k.data×v.data)→List MapEntry→Prop
 |[],[]=>True
 |p::l,e::es=>(DVal (fun _=>none) k p.1 e.key∧DVal (fun _=>none) v p.2 e.val)∧EntsRel k v l es
 |_,_=>False
structure MapRel(k v:Ty)(l:List (k.data×v.data))(es:List MapEntry)(clock:Nat):Prop where
 kflat:k.flat=true
 vflat:v.flat=true
 ents:EntsRel k v l es
 num:es.map (·.born)=List.range es.length
 clk:clock=es.length
structure MapRelD(k v:Ty)(l:List (Nat×(k.data×v.data)))(ck:Nat)(es:List MapEntry)(clock:Nat):Prop where
 kflat:k.flat=true
 vflat:v.flat=true
 ents:EntsRel k v (l.map Prod.snd) es
 num:es.map (·.born)=l.map Prod.fst
 lt:∀p∈l,p.1<ck
 nodup:(l.map Prod.fst).Nodup
 clk:clock=ck
def ObRel(φ:Map)(w:Bool)(z:Nat×Nat):Ob→Obj→Prop
 |.box e r,.cells c _ fz=>RowsIn φ e r (offA c z.2)∧c.size=z.1∧(w=true→fz=(0,0)∧z.2=0)
 |.loop l,.loop r=>LoopRel φ l r
 |.deferred,.deferred (some [])=>True
 |.map k v l,.map es clock=>MapRel k v l es.toList clock
 |.mapd k v l ck,.map es clock=>MapRelD k v l ck es.toList clock
 |.mitx,.mapIter _ _ _ _=>True
 |.mit b since seen,.mapIter (some r) since' seen' last=>z.2=0∧(∃q,φ b=some q∧q.1=r)∧since'=since∧seen'.toList=seen.reverse∧last=since
 |_,_=>False
theorem RowsIn.mono{φ ψ:Map}(hle:φ.le ψ){e:Nat}{r:Rows}{c:Array Value}(h:RowsIn φ e r c):RowsIn ψ e r c:=
 fun i row hr=>⟨(h i row hr).1,fun o v hv=>let⟨x,hx,hvx⟩:=(h i row hr).2 o v hv;⟨x,hx,hvx.mono hle⟩⟩
theorem ObRel.mono{φ ψ:Map}(hle:φ.le ψ){w:Bool}{z:Nat×Nat}{x:Ob}{o:Obj}(h:ObRel φ w z x o):ObRel ψ w z x o:=by
 cases x<;>cases o<;>simp only[ObRel]at h ⊢
 case box.cells=>exact⟨h.1.mono hle,h.2⟩
 case loop.loop=>exact{ h with tmps:=h.tmps.mono hle,defers:=h.defers.imp fun z e=>hle _ _ e }
 case map.map=>exact h
 case mapd.map=>exact h
 case mit.mapIter m _ _ _=>
  cases m with
  |none=>exact h
  |some r=>
   obtain⟨h0,⟨q,h1,h2⟩,h3⟩:=h
   exact⟨h0,⟨q,hle _ _ h1,h2⟩,h3⟩
 case deferred.deferred ds=>cases ds with|none=>exact h|some d=>cases d<;>exact h
theorem ObRel.re{φ:Map}(m:List Deferred×Nat){w:Bool}{z:Nat×Nat}{x:Ob}{o:Obj}(h:ObRel φ w z x o):ObRel (φ.re m) w z x o:=by
 cases x<;>cases o<;>simp only[ObRel]at h ⊢
 case box.cells=>exact⟨fun i row hr=>⟨(h.1 i row hr).1,fun o v hv=>let⟨x,hx,hvx⟩:=(h.1 i row hr).2 o v hv;⟨x,hx,hvx.re m⟩⟩,h.2⟩
 case loop.loop=>exact{ h with tmps:=h.tmps.re m,defers:=h.defers }
 case map.map=>exact h
 case mapd.map=>exact h
 case mit.mapIter m _ _ _=>
  cases m with
  |none=>exact h
  |some r=>exact h
 case deferred.deferred ds=>cases ds with|none=>exact h|some d=>cases d<;>exact h
structure HRel(φ:Map)(h:H)(w:World):Prop where
 obj:∀b x,h.get b=some x→x≠.tip→∃k o,φ b=some k∧w.heap[k.1]?=some o∧ObRel φ (Nat.ble h.ro b) k.2 x o
 inj:∀b b' x x' k k',h.get b=some x→h.get b'=some x'→h.ro≤b→b≠b'→φ b=some k→φ b'=some k'→k.1≠k'.1
 dom:∀b k,φ b=some k→b<h.next∧k.1<w.heap.size
 rle:h.ro≤h.next
 fz:∀k c,φ.fz k=some c→∃cs t z,w.heap[k]?=some (.cells cs t z)∧Begins c cs
 own:∀b x k,h.get b=some x→φ b=some k→φ.fz k.1=none
 tip:∀b,h.get b=some .tip→∃m,φ.tp b=some m∧∀blk en sz,m=some (blk,en,sz)→(∃c,φ.fz blk=some c∧c.size=en)∧∃cs t,w.heap[blk]?=some (.cells cs t (0,0))∧cs.size=sz
 tinj:∀b b' m m',h.get b=some .tip→h.get b'=some .tip→b≠b'→φ.tp b=some (some m)→φ.tp b'=some (some m')→m.1≠m'.1
 tdom:∀b m,φ.tp b=some m→b<h.next
theorem HRel.lt{φ:Map}{h:H}{w:World}(hr:HRel φ h w){b:Nat}{x:Ob}(hb:h.get b=some x):b<h.next:=by
 by_cases hx:x=.tip
 ·subst hx
  obtain⟨m,hm,_⟩:=hr.tip b hb
  exact hr.tdom _ _ hm
 ·obtain⟨_,_,hk,_,_⟩:=hr.obj b x hb hx
  exact(hr.dom _ _ hk).1
theorem HRel.fdom{φ:Map}{h:H}{w:World}(hr:HRel φ h w){k:Nat}{c:Array Value}(e:φ.fz k=some c):k<w.heap.size:=by
 obtain⟨cs,t,z,h1,_⟩:=hr.fz k c e
 exact(Array.getElem?_eq_some_iff.1 h1).1
def qky(φ:Map)(h:H)(k:Nat):Prop:=(∃b k',h.ro≤b∧φ b=some k'∧k'.1=k)∨∃b e,h.ro≤b∧h.get b=some .tip∧φ.tp b=some (some e)∧e.1=k
theorem HRel.re{φ:Map}(m:List Deferred×Nat){h:H}{w:World}(hr:HRel φ h w):HRel (φ.re m) h w:=
 ⟨fun b x hx ht=>let⟨k,o,h1,h2,h3⟩:=hr.obj b x hx ht;⟨k,o,h1,h2,h3.re m⟩,hr.inj,hr.dom,hr.rle,hr.fz,hr.own,hr.tip,hr.tinj,hr.tdom⟩
structure Goes(φ:Map)(h:H)(w:World)(φ':Map)(h':H)(w':World):Prop where
 le:φ.le φ'
 rel:HRel φ' h' w'
 next:h.next≤h'.next
 ro:h'.ro=h.ro
 fresh:∀b k,φ' b=some k→φ b=some k∨(h.next≤b∧(w.heap.size≤k.1∨∃c k',h.ro≤c∧φ c=some k'∧k'.1=k.1))
 size:w.heap.size≤w'.heap.size
 frame:∀k,k<w.heap.size→(∀b k',h.ro≤b→φ b=some k'→k'.1≠k)→(∀b e,h.ro≤b→h.get b=some .tip→φ.tp b=some (some e)→e.1≠k)→w'.heap[k]?=w.heap[k]?
 tfresh:∀b m,φ'.tp b=some m→φ.tp b=some m∨(h.next≤b∧∀e,m=some e→w.heap.size≤e.1∨∃c e',h.ro≤c∧h.get c=some .tip∧φ.tp c=some (some e')∧e'.1=e.1)
 tlive:∀b m,φ.tp b=some m→h'.get b=some .tip→h.get b=some .tip
 ffresh:∀k c,φ'.fz k=some c→k<w.heap.size→φ.fz k=some c∨qky φ h k
 os:w'.os=w.os
 tape:w'.tape=w.tape
 output:w'.output=w.output
theorem Goes.re{φ φ':Map}{m:List Deferred×Nat}{h h':H}{w w':World}(g:Goes (φ.re m) h w φ' h' w'):Goes φ h w (φ'.re φ.base) h' w' where
 le:=⟨g.le.nm,g.le.fz,g.le.tp,rfl⟩
 rel:=g.rel.re _
 next:=g.next
 ro:=g.ro
 fresh:=g.fresh
 size:=g.size
 frame:=g.frame
 tfresh:=g.tfresh
 tlive:=g.tlive
 ffresh:=g.ffresh
 os:=g.os
 tape:=g.tape
 output:=g.output
def H.Same(h h':H):Prop:=h'.next=h.next∧h'.ro=h.ro∧h'.objs=h.objs
theorem H.Same.refl(h:H):h.Same h:=⟨rfl,rfl,rfl⟩
theorem H.Same.trans{a b c:H}(h:a.Same b)(k:b.Same c):a.Same c:=⟨k.1.trans h.1,k.2.1.trans h.2.1,k.2.2.trans h.2.2⟩
theorem HRel.same{φ:Map}{h h':H}{w:World}(hr:HRel φ h w)(s:h.Same h'):HRel φ h' w:=by
 obtain⟨n,ro,objs,ask,said⟩:=h
 obtain⟨n',ro',objs',ask',said'⟩:=h'
 obtain⟨h1,h2,h3⟩:=s
 simp only at h1 h2 h3
 subst h1 h2 h3
 exact⟨hr.obj,hr.inj,hr.dom,hr.rle,hr.fz,hr.own,hr.tip,hr.tinj,hr.tdom⟩
theorem Goes.of_same{φ:Map}{h h':H}{w w':World}(hr:HRel φ h w)(s:h.Same h')(hh:w'.heap=w.heap)(ho:w'.os=w.os)(ht:w'.tape=w.tape)(hu:w'.output=w.output):
  Goes φ h w φ h' w' where
 le:=Map.le_refl φ
 rel:=by
  have:=hr.same s
  exact⟨by rw[hh];exact this.obj,this.inj,by rw[hh];exact this.dom,this.rle,by rw[hh];exact this.fz,this.own,by rw[hh];exact this.tip,this.tinj,this.tdom⟩
 next:=Nat.le_of_eq s.1.symm
 ro:=s.2.1
 fresh:=fun _ _ e=>.inl e
 size:=by rw[hh];exact Nat.le_refl _
 frame:=fun _ _ _ _=>by rw[hh]
 tfresh:=fun _ _ e=>.inl e
 tlive:=fun b _ _ e=>by simp only[H.get]at e ⊢;rw[←s.2.2];exact e
 ffresh:=fun _ _ e _=>.inl e
 os:=ho
 tape:=ht
 output:=hu
theorem Goes.refl{φ:Map}{h:H}{w:World}(hr:HRel φ h w):Goes φ h w φ h w:=.of_same hr (H.Same.refl h) rfl rfl rfl rfl
theorem Goes.trans{φ φ' φ'':Map}{h h' h'':H}{w w' w'':World}(g:Goes φ h w φ' h' w')(k:Goes φ' h' w' φ'' h'' w''):Goes φ h w φ'' h'' w'' where
 le:=Map.le_trans g.le k.le
 rel:=k.rel
 next:=Nat.le_trans g.next k.next
 ro:=k.ro.trans g.ro
 fresh:=by
  intro b n e
  rcases k.fresh b n e with e|⟨hb,e⟩
  ·exact g.fresh b n e
  ·refine .inr ⟨Nat.le_trans g.next hb,?_⟩
   rcases e with e|⟨c,n',hc,e,en⟩
   ·exact .inl (Nat.le_trans g.size e)
   ·rw[g.ro]at hc
    rcases g.fresh c n' e with e|⟨_,e⟩
    ·exact .inr ⟨c,n',hc,e,en⟩
    ·rw[en]at e;exact e
 size:=Nat.le_trans g.size k.size
 frame:=by
  intro n hn hf ht
  rw[k.frame n (Nat.lt_of_lt_of_le hn g.size) ?_ ?_,g.frame n hn hf ht]
  ·intro b n' hb e en
   rw[g.ro]at hb
   rcases g.fresh b n' e with e|⟨_,e⟩
   ·exact hf b n' hb e en
   ·rcases e with e|⟨c,n'',hc,e,en'⟩
    ·omega
    ·exact hf c n'' hc e (en'.trans en)
  ·intro b e hro hb he en
   rw[g.ro]at hro
   rcases g.tfresh b _ he with h1|⟨_,h1⟩
   ·exact ht b e hro (g.tlive b _ h1 hb) h1 en
   ·rcases h1 e rfl with h1|⟨c,e',hcr,hc,he',hee⟩
    ·omega
    ·exact ht c e' hcr hc he' (hee.trans en)
 tfresh:=by
  intro b m hb
  rcases k.tfresh b m hb with h1|⟨h1,h2⟩
  ·exact g.tfresh b m h1
  ·refine .inr ⟨Nat.le_trans g.next h1,fun e he=>?_⟩
   rcases h2 e he with h3|⟨c,e',hcr,hc,he',hee⟩
   ·exact .inl (Nat.le_trans g.size h3)
   ·rw[g.ro]at hcr
    rcases g.tfresh c _ he' with h4|⟨_,h4⟩
    ·exact .inr ⟨c,e',hcr,g.tlive c _ h4 hc,h4,hee⟩
    ·rcases h4 e' rfl with h5|⟨d,e2,hdr,hd,hd2,hd3⟩
     ·exact .inl (by omega)
     ·exact .inr ⟨d,e2,hdr,hd,hd2,hd3.trans hee⟩
 tlive:=fun b m hb hg=>g.tlive b m hb (k.tlive b m (g.le.tp b m hb) hg)
 ffresh:=by
  intro n c hc hn
  rcases k.ffresh n c hc (Nat.lt_of_lt_of_le hn g.size)with h1|h1
  ·exact g.ffresh n c h1 hn
  ·refine .inr ?_
   rcases h1 with⟨b,k',hb,hk,hkn⟩|⟨b,e,hbr,hb,he,hen⟩
   ·rw[g.ro]at hb
    rcases g.fresh b k' hk with h2|⟨_,h2⟩
    ·exact .inl ⟨b,k',hb,h2,hkn⟩
    ·rcases h2 with h2|⟨c,k2,hc,hk2,hk3⟩
     ·omega
     ·exact .inl ⟨c,k2,hc,hk2,hk3.trans hkn⟩
   ·rw[g.ro]at hbr
    rcases g.tfresh b _ he with h2|⟨_,h2⟩
    ·exact .inr ⟨b,e,hbr,g.tlive b _ h2 hb,h2,hen⟩
    ·rcases h2 e rfl with h3|⟨c,e',hcr,hc,he',hee⟩
     ·omega
     ·exact .inr ⟨c,e',hcr,hc,he',hee.trans hen⟩
 os:=k.os.trans g.os
 tape:=k.tape.trans g.tape
 output:=k.output.trans g.output
end Go.Vm

namespace Go.Vm
open Go
def qam(P:Program)(t:TypeId):Option Nat:=
 match P.info? t with
 |some i=>some i.size
 |none=>none
def qg4(P:Program)(t:TypeId):Option Bool:=
 match P.underlying t with
 |some (.struct _)=>some true
 |some (.array _ _)=>some true
 |some _=>some false
 |none=>none
def zeroOf(P:Program)(t:TypeId):Option V:=
 match P.info? t with
 |some i=>match i.zero with
  |some v=>some (ofValue 8 v)
  |none=>none
 |none=>none
def qeM:V→Bool
 |.bot|.agg _|.tuple _=>false
 |_=>true
def cellsOf:V→Option (List V)
 |.agg cs=>some cs
 |.bot|.tuple _=>none
 |v=>some [v]
theorem qbW{φ:Map}{v:V}{r:Value}(h:VRel φ v r){cs:List V}(e:cellsOf v=some cs):VRels φ cs r.cells.toList:=by
 cases h<;>simp only[cellsOf,Option.some.injEq]at e<;>first|(cases e;done)|skip
 case agg vs rs h=>subst e;exact h
 all_goals (subst e;refine .cons ?_ .nil)
 case int=>exact .int _ _
 case bool=>exact .bool _
 case str=>exact .str _
 case ptrNil=>exact .ptrNil
 case ptr h=>exact .ptr _ _ h
 case slNil h=>exact .slNil _ h
 case sl h hl hc hz=>exact .sl _ _ _ _ _ h hl hc hz
 case func ha hc=>exact .func _ _ _ _ _ ha hc
 case yield h=>exact .yield _ _ h
 case nilFunc=>exact .nilFunc
 case iface h=>exact .iface _ _ _ h
 case nilIface=>exact .nilIface
 case vs hn h ht=>exact .vs _ _ _ _ _ _ hn h ht
 case fp hs hz hx hc=>exact .fp _ _ _ _ hs hz hx hc
 case mapNil=>exact .mapNil
 case map h=>exact .map _ _ h
 case flt=>exact .flt _ _
 case cpx=>exact .cpx _ _ _
theorem qfh{φ:Map}{v:V}{r:Value}(h:VRel φ v r)(e:qeM v=true):r.oneCell'=true:=by
 cases h<;>simp_all [qeM,Value.oneCell']
section
variable {P:Program} {w:World}
theorem qae{t:TypeId}{n:Nat}(h:qam P t=some n):(sizeOf t).run P w=.ok n w:=by
 unfold qam at h
 split at h
 ·rename_i i hi
  cases h
  simp[sizeOf,typeInfo,hi]
 ·cases h
theorem qaa{t:TypeId}{d:TypeDesc}(h:P.underlying t=some d):(underlying t).run P w=.ok d w:=by
 simp[underlying,h]
theorem qcw{t:TypeId}{b:Bool}(h:qg4 P t=some b):(isAgg t).run P w=.ok b w:=by
 unfold qg4 at h
 cases hd:P.underlying t with
 |none=>simp[hd]at h
 |some d=>
  cases d<;>simp[hd]at h<;>subst h<;>simp[isAgg,qaa hd]
theorem qcq{φ:Map}{t:TypeId}{v:V}(h:zeroOf P t=some v):∃r,(zeroValue t).run P w=.ok r w∧VRel φ v r:=by
 unfold zeroOf at h
 split at h
 ·rename_i i hi
  split at h
  ·rename_i r hr
   cases h
   exact⟨r,by simp[zeroValue,typeInfo,hi,hr],qbs φ 8 r⟩
  ·cases h
 ·cases h
end
def qcx(s:Sem Value):Option V:=
 match s with
 |.pure (.int k n)=>some (.int k n)
 |.pure (.bool b)=>some (.bool b)
 |.pure (.string s)=>some (.str s)
 |.pure (.float k n)=>some (.flt k n)
 |.pure (.complex k a b)=>some (.cpx k a b)
 |_=>none
theorem qaA{φ:Map}{s:Sem Value}{v:V}(h:qcx s=some v)(P:Program)(w:World):∃r,s.run P w=.ok r w∧VRel φ v r:=by
 unfold qcx at h
 split at h
 ·cases h;exact⟨_,rfl,.int _ _⟩
 ·cases h;exact⟨_,rfl,.bool _⟩
 ·cases h;exact⟨_,rfl,.str _⟩
 ·cases h;exact⟨_,rfl,.flt _ _⟩
 ·cases h;exact⟨_,rfl,.cpx _ _ _⟩
 ·cases h
def qdx(P:Program)(t:TypeId)(cs:List V)(off:Nat):Option V:=
 match qg4 P t with
 |some true=>match qam P t with
  |some n=>some (.agg ((cs.drop off).take n))
  |none=>none
 |some false=>cs[off]?
 |none=>none
theorem qc7{P:Program}{φ:Map}{t:TypeId}{cs:List V}{rs:Array Value}(h:VRels φ cs rs.toList){off:Nat}{v:V}(e:qdx P t cs off=some v)(w:World):
  ∃r,(part t rs off).run P w=.ok r w∧VRel φ v r:=by
 unfold qdx at e
 split at e
 ·rename_i ha
  split at e
  ·rename_i n hn
   cases e
   refine⟨.agg (rs.extract off (off+n)),by simp[part,qcw ha,qae hn],.agg _ _ ?_⟩
   have:=(h.drop off).take n
   simpa[List.extract_eq_take_drop,List.take_drop,Nat.add_comm]using this
  ·cases e
 ·rename_i ha
  obtain⟨r,hr,hv⟩:=h.get off v e
  refine⟨r,?_,hv⟩
  have hr':rs[off]?=some r:=by simpa using hr
  simp[part,qcw ha,hr']
 ·cases e
def qca:List (Option Bool)→Option Bool
 |[]=>some true
 |none::_=>none
 |some b::r=>match qca r with
  |some c=>some (b&&c)
  |none=>none
def qiw(a b:ByteArray):Bool:=a.toList==b.toList
def eqV(P:Program):Nat→TypeId→V→V→Option Bool
 |0,_,_,_=>none
 |d+1,t,x,y=>
  match P.underlying t,x,y with
  |some .bool,.bool a,.bool b=>some (a==b)
  |some (.int _),.int k a,.int k' b=>if k=k' then some (a==b)else none
  |some .string,.str a,.str b=>some (qiw a b)
  |some (.struct fs),.agg xs,.agg ys=>
   if P.stoodInHeld t then none else
   qca (fs.toList.map fun f=>
    if f.name = "_" then none else
    match qdx P f.type xs f.offset,qdx P f.type ys f.offset with
    |some a,some b=>eqV P d f.type a b
    |_,_=>none)
  |some (.array len e),.agg xs,.agg ys=>
   match qam P e with
   |some n=>qca ((List.range len).map fun i=>
    match qdx P e xs (i*n),qdx P e ys (i*n)with
    |some a,some b=>eqV P d e a b
    |_,_=>none)
   |none=>none
  |some (.slice _),.sl none _ _,.sl b _ _=>some b.isNone
  |some (.slice _),.sl (some _) _ _,.sl none _ _=>some false
  |some (.func ..),.nilFunc,.nilFunc=>some true
  |some (.func ..),.nilFunc,.func ..=>some false
  |some (.func ..),.func ..,.nilFunc=>some false
  |some (.pointer _),.ptr none,.ptr b=>some b.isNone
  |some (.pointer _),.ptr (some _),.ptr none=>some false
  |_,_,_=>none
theorem qfR{P:Program}{φ:Map}{d:Nat}(ih:∀t x y b x' y' w,eqV P d t x y=some b→VRel φ x x'→VRel φ y y'→(Op.equalIn d t x' y').run P w=.ok b w)
  {xs ys:List V} {xs' ys':Array Value} (hx:VRels φ xs xs'.toList) (hy:VRels φ ys ys'.toList) (w:World):
  ∀(fs:List Field)(b:Bool),qca (fs.map fun f=>
    if f.name = "_" then none else
    match qdx P f.type xs f.offset,qdx P f.type ys f.offset with
    |some a,some b=>eqV P d f.type a b
    |_,_=>none)=some b→(Op.eqFields d xs' ys' fs).run P w=.ok b w
 |[],b,e=>by simp[qca]at e;subst e;rfl
 |f::fs,b,e=>by
  simp only[List.map_cons]at e
  by_cases hn : f.name = "_"
  ·simp[hn,qca]at e
  ·simp only[hn,if_false]at e
   cases ha:qdx P f.type xs f.offset with
   |none=>simp[ha,qca]at e
   |some a=>
    cases hb:qdx P f.type ys f.offset with
    |none=>simp[ha,hb,qca]at e
    |some c=>
     simp only[ha,hb]at e
     cases hq:eqV P d f.type a c with
     |none=>simp[hq,qca]at e
     |some q=>
      simp only[hq,qca]at e
      split at e
      ·rename_i r hr
       cases e
       obtain⟨a',ra,va⟩:=qc7 hx ha w
       obtain⟨c',rc,vc⟩:=qc7 hy hb w
       have hrest:=qfR ih hx hy w fs r hr
       have h0:=ih _ _ _ _ _ _ w hq va vc
       simp only[Op.eqFields,ne_eq,hn,not_false_eq_true,if_true,Sem.run_bind,ra,rc,h0,Result.andThen_ok]
       cases q
       ·simp
       ·simpa using hrest
      ·cases e
theorem qet{P:Program}{φ:Map}{d:Nat}(ih:∀t x y b x' y' w,eqV P d t x y=some b→VRel φ x x'→VRel φ y y'→(Op.equalIn d t x' y').run P w=.ok b w)
  {xs ys:List V} {xs' ys':Array Value} (hx:VRels φ xs xs'.toList) (hy:VRels φ ys ys'.toList) (w:World) (e:TypeId) (n:Nat):
  ∀(l:List Nat)(b:Bool),qca (l.map fun i=>
    match qdx P e xs (i*n),qdx P e ys (i*n)with
    |some a,some b=>eqV P d e a b
    |_,_=>none)=some b →
   (forIn l ((none,()):Option Bool×Unit) (fun i _=>do
     let a←part e xs' (i*n)
     let c←part e ys' (i*n)
     let q←Op.equalIn d e a c
     if(!q)=true then pure (ForInStep.done (some false,()))else pure (ForInStep.yield (none,()))):Sem (Option Bool×Unit)).run P w=.ok (if b then(none,())else(some false,())) w
 |[],b,h=>by simp[qca]at h;subst h;rfl
 |i::l,b,h=>by
  simp only[List.map_cons]at h
  cases ha:qdx P e xs (i*n)with
  |none=>simp[ha,qca]at h
  |some a=>
   cases hb:qdx P e ys (i*n)with
   |none=>simp[ha,hb,qca]at h
   |some c=>
    simp only[ha,hb]at h
    cases hq:eqV P d e a c with
    |none=>simp[hq,qca]at h
    |some q=>
     simp only[hq,qca]at h
     split at h
     ·rename_i r hr
      cases h
      obtain⟨a',ra,va⟩:=qc7 hx ha w
      obtain⟨c',rc,vc⟩:=qc7 hy hb w
      have hrest:=qet ih hx hy w e n l r hr
      have h0:=ih _ _ _ _ _ _ w hq va vc
      simp only[List.forIn_cons,Sem.run_bind,ra,rc,h0,Result.andThen_ok]
      cases q
      ·simp
      ·simpa using hrest
     ·cases h
theorem qm4{P:Program}{φ:Map}:∀(d:Nat)(t:TypeId)(x y:V)(b:Bool)(x' y':Value)(w:World),eqV P d t x y=some b→VRel φ x x'→VRel φ y y' →
  (Op.equalIn d t x' y').run P w=.ok b w
 |0,t,x,y,b,x',y',w,e,hx,hy=>by simp[eqV]at e
 |d+1,t,x,y,b,x',y',w,e,hx,hy=>by
  have ih:=qm4 (P:=P) (φ:=φ) d
  simp only[eqV]at e
  split at e
  ·rename_i h;cases e;cases hx;cases hy;simp[Op.equalIn,qaa h]
  ·rename_i h
   cases hx;cases hy
   split at e
   ·rename_i hk;cases e;simp[Op.equalIn,qaa h,hk]
   ·cases e
  ·rename_i h;cases e;cases hx;cases hy;simp[Op.equalIn,qaa h,beq_toListBytes,qiw]
  ·rename_i fs xs ys h
   cases hx with
   |agg _ rs hx=>
    cases hy with
    |agg _ ss hy=>
     split at e
     ·cases e
     ·rename_i hp
      have hf:P.underlying t=some (.struct (P.fieldsOf t)):=by simp[Program.fieldsOf,h]
      rw[run_equalIn_struct w d t rs ss hf (by simpa using hp)]
      have:P.fieldsOf t=fs:=by simp[Program.fieldsOf,h]
      rw[this]
      exact qfR ih hx hy w _ _ e
  ·rename_i len el xs ys h
   cases hx with
   |agg _ rs hx=>
    cases hy with
    |agg _ ss hy=>
     split at e
     ·rename_i n hn
      have:=qet ih hx hy w el n (List.range len) b e
      simp only[Op.equalIn,Sem.run_bind,qaa h,Result.andThen_ok,qae hn]
      simp only[Std.Legacy.Range.forIn_eq_forIn_range',Std.Legacy.Range.size,Nat.sub_zero,Nat.add_sub_cancel,Nat.div_one,←List.range_eq_range']
      refine(congrArg (fun z=>Result.andThen z _) this).trans ?_
      cases b<;>rfl
     ·cases e
  ·rename_i h;cases e;cases hx;cases hy<;>simp[Op.equalIn,qaa h]
  ·rename_i h;cases e;cases hx;cases hy;simp[Op.equalIn,qaa h]
  ·rename_i h;cases e;cases hx;cases hy;simp[Op.equalIn,qaa h]
  ·rename_i h;cases e;cases hx;cases hy;simp[Op.equalIn,qaa h]
  ·rename_i h;cases e;cases hx;cases hy;simp[Op.equalIn,qaa h]
  ·rename_i h;cases e;cases hx;cases hy<;>simp[Op.equalIn,qaa h]
  ·rename_i h;cases e;cases hx;cases hy;simp[Op.equalIn,qaa h]
  ·cases e
end Go.Vm

namespace Go.Vm
open Go
def guarded(P:Program)(t:TypeId)(x y:V):Bool:=
 match x,y with
 |.agg _,.agg _=>P.eqGuardType P.depth t
 |_,_=>false
def shN(k:IntKind)(b:Int):Nat:=
 match Nat.ble b.toNat k.bits with
 |true=>b.toNat
 |false=>k.bits
theorem qpO(k:IntKind)(b:Int):shN k b=min b.toNat k.bits:=by
 unfold shN
 cases h:Nat.ble b.toNat k.bits with
 |true=>have:=Nat.le_of_ble_eq_true h;dsimp only;omega
 |false=>
  have:¬b.toNat≤k.bits:=fun h'=>by have:=Nat.ble_eq_true_of_le h';rw[h]at this;cases this
  dsimp only;omega
def shlV(k:IntKind)(a b:Int):Int:=k.wrap (a*Int.ofNat (2^shN k b))
def shrV(k:IntKind)(a b:Int):Int:=a.fdiv (Int.ofNat (2^shN k b))
theorem qlT(n:Nat):Int.ofNat (2^n)=(2:Int)^n:=by
 rw[Int.ofNat_eq_natCast,Int.natCast_pow];rfl
def andV(k:IntKind)(a b:Int):Int:=k.wrap (BitVec.ofInt k.bits a &&& BitVec.ofInt k.bits b).toNat
def orV(k:IntKind)(a b:Int):Int:=k.wrap (BitVec.ofInt k.bits a ||| BitVec.ofInt k.bits b).toNat
def xorV(k:IntKind)(a b:Int):Int:=k.wrap (BitVec.ofInt k.bits a ^^^ BitVec.ofInt k.bits b).toNat
def qnI(k:IntKind)(a b:Int):Int:=k.wrap (BitVec.ofInt k.bits a &&& ~~~BitVec.ofInt k.bits b).toNat
def vbin(P:Program)(op:BinOp)(t:TypeId)(x y:V)(h:H):Option (V×H):=
 match x,y with
 |.int k a,.int k' b=>
  match op with
  |.quo=>if k=k' then(match h.test (b==0)with|some (false,h)=>some (.int k (k.wrap (a.tdiv b)),h)|_=>none)else none
  |.rem=>if k=k' then(match h.test (b==0)with|some (false,h)=>some (.int k (a.tmod b),h)|_=>none)else none
  |.shl=>match h.test (decide (b<0))with|some (false,h)=>some (.int k (shlV k a b),h)|_=>none
  |.shr=>match h.test (decide (b<0))with|some (false,h)=>some (.int k (shrV k a b),h)|_=>none
  |.and=>if k=k' then some (.int k (andV k a b),h)else none
  |.or=>if k=k' then some (.int k (orV k a b),h)else none
  |.xor=>if k=k' then some (.int k (xorV k a b),h)else none
  |.andNot=>if k=k' then some (.int k (qnI k a b),h)else none
  |_=>match qcx (binOp op t (.int k a) (.int k' b))with
   |some v=>some (v,h)
   |none=>none
 |.str a,.str b=>
  match op with
  |.eql=>some (.bool (qiw a b),h)
  |.neq=>some (.bool (!qiw a b),h)
  |_=>match qcx (binOp op t (.string a) (.string b))with
   |some v=>some (v,h)
   |none=>none
 |.flt k a,.flt k' b=>match qcx (binOp op t (.float k a) (.float k' b))with
  |some v=>some (v,h)
  |none=>none
 |.cpx k a b,.cpx k' c d=>match qcx (binOp op t (.complex k a b) (.complex k' c d))with
  |some v=>some (v,h)
  |none=>none
 |.vs _ l _,.sl none _ _=>
  match P.underlying t with
  |some (.slice _)=>
   match op with
   |.eql=>match h.test (Nat.beq l.length 0)with|some (false,h)=>some (.bool false,h)|_=>none
   |.neq=>match h.test (Nat.beq l.length 0)with|some (false,h)=>some (.bool true,h)|_=>none
   |_=>none
  |_=>none
 |x,y=>
  match guarded P t x y with
  |true=>none
  |false=>
  match op with
  |.eql=>match eqV P 10000 t x y with|some b=>some (.bool b,h)|none=>none
  |.neq=>match eqV P 10000 t x y with|some b=>some (.bool (!b),h)|none=>none
  |_=>none
theorem qbN{P:Program}{op:BinOp}{t:TypeId}{x y:Operand}{a b:Value}{w:World}(h1:∀xs ys,a=.agg xs→b=.agg ys→P.eqGuardType P.depth t=false)(h2:a≠.nilIface):
  (eqGuard op t x y a b).run P w=.ok () w:=by
 unfold eqGuard
 cases op<;>simp
 all_goals
  split
  ·exact absurd rfl h2
  ·simp[h1 _ _ rfl rfl]
  ·rfl
def qkl:V→V→Bool
 |.bool _,.bool _|.int _ _,.int _ _|.str _,.str _|.agg _,.agg _|.sl ..,.sl ..|.nilFunc,.nilFunc|.nilFunc,.func ..|.func ..,.nilFunc|.ptr _,.ptr _=>true
 |_,_=>false
theorem qow{P:Program}:∀{d:Nat}{t:TypeId}{x y:V}{b:Bool},eqV P d t x y=some b→qkl x y=true
 |0,t,x,y,b,e=>by simp[eqV]at e
 |d+1,t,x,y,b,e=>by
  simp only[eqV]at e
  split at e<;>first|rfl|(cases e;done)
theorem qiu{P:Program}{t:TypeId}{x y:V}{x' y':Value}{φ:Map}{b:Bool}{w:World}(sh:qkl x y=true)(h':(Op.equal t x' y').run P w=.ok b w)(hx:VRel φ x x')(hy:VRel φ y y')
  (hn:∀k a k' c,x=.int k a→y=.int k' c→False) (hs:∀a c,x=.str a→y=.str c→False):
  (binOp .eql t x' y').run P w=.ok (.bool b) w∧(binOp .neq t x' y').run P w=.ok (.bool (!b)) w∧x'≠.nilIface∧(∀xs ys,x'=.agg xs→y'=.agg ys→∃u v,x=.agg u∧y=.agg v):=by
 cases hx<;>cases hy<;>
  first
   |(simp[qkl]at sh;done)
   |(exact(hn _ _ _ _ rfl rfl).elim)
   |(exact(hs _ _ rfl rfl).elim)
   |(refine⟨?_,?_,by simp,by simp⟩<;>simp[binOp,h'])
theorem qlb{P:Program}{t el:TypeId}{a:Addr}{n cap:Nat}{w:World}(hu:P.underlying t=some (.slice el))(d:Nat):(Op.equalIn (d+1) t (.slice (some a) n cap) (.slice none 0 0)).run P w=.ok false w:=by
 simp[Op.equalIn,qaa hu]
theorem qpr{P:Program}{φ:Map}{op:BinOp}{t:TypeId}{x y:V}{x' y':Value}{xo yo:Operand}{h h':H}{v:V}(w:World)(e:vbin P op t x y h=some (v,h'))(hh:h'.Holds)
  (hx:VRel φ x x') (hy:VRel φ y y'):
  (∃r,(do eqGuard op t xo yo x' y';binOp op t x' y':Sem Value).run P w=.ok r w∧VRel φ v r)∧h.Holds∧h.Same h':=by
 unfold vbin at e
 split at e
 ·rename_i k a k' b
  cases hx;cases hy
  have g:(eqGuard op t xo yo (.int k a) (.int k' b)).run P w=.ok () w:=qbN (by simp) (by simp)
  split at e
  ·split at e
   ·rename_i hk
    subst hk
    split at e
    ·rename_i h1 ht
     cases e
     obtain⟨h2,h3,h4⟩:=H.test_holds ht hh
     refine⟨⟨_,?_,.int _ _⟩,h2,h4⟩
     have hb:¬b=0:=by simpa using h3
     simp[g,binOp,Op.intDiv,hb]
    ·cases e
   ·cases e
  ·split at e
   ·rename_i hk
    subst hk
    split at e
    ·rename_i h1 ht
     cases e
     obtain⟨h2,h3,h4⟩:=H.test_holds ht hh
     refine⟨⟨_,?_,.int _ _⟩,h2,h4⟩
     have hb:¬b=0:=by simpa using h3
     simp[g,binOp,Op.intDiv,hb]
    ·cases e
   ·cases e
  ·split at e
   ·rename_i h1 ht
    cases e
    obtain⟨h2,h3,h4⟩:=H.test_holds ht hh
    refine⟨⟨_,?_,.int _ _⟩,h2,h4⟩
    have hb:¬b<0:=by simpa using h3
    simp[g,binOp,Op.shift,hb,shlV,qpO,qlT]
   ·cases e
  ·split at e
   ·rename_i h1 ht
    cases e
    obtain⟨h2,h3,h4⟩:=H.test_holds ht hh
    refine⟨⟨_,?_,.int _ _⟩,h2,h4⟩
    have hb:¬b<0:=by simpa using h3
    simp[g,binOp,Op.shift,hb,shrV,qpO,qlT]
   ·cases e
  ·split at e
   ·rename_i hk
    subst hk
    cases e
    exact⟨⟨_,by simp[g,binOp,Op.intBits,andV],.int _ _⟩,hh,H.Same.refl _⟩
   ·cases e
  ·split at e
   ·rename_i hk
    subst hk
    cases e
    exact⟨⟨_,by simp[g,binOp,Op.intBits,orV],.int _ _⟩,hh,H.Same.refl _⟩
   ·cases e
  ·split at e
   ·rename_i hk
    subst hk
    cases e
    exact⟨⟨_,by simp[g,binOp,Op.intBits,xorV],.int _ _⟩,hh,H.Same.refl _⟩
   ·cases e
  ·split at e
   ·rename_i hk
    subst hk
    cases e
    exact⟨⟨_,by simp[g,binOp,Op.intBits,qnI],.int _ _⟩,hh,H.Same.refl _⟩
   ·cases e
  ·split at e
   ·rename_i u hu
    cases e
    obtain⟨r,hr,hv⟩:=qaA (φ:=φ) hu P w
    exact⟨⟨r,by simp[Sem.run_bind,g,hr],hv⟩,hh,H.Same.refl _⟩
   ·cases e
 ·rename_i a b
  cases hx;cases hy
  have g:(eqGuard op t xo yo (.string a) (.string b)).run P w=.ok () w:=qbN (by simp) (by simp)
  split at e
  ·cases e
   exact⟨⟨_,by simp[g,binOp,Op.stringOp,qiw],.bool _⟩,hh,H.Same.refl _⟩
  ·cases e
   exact⟨⟨_,by simp[g,binOp,Op.stringOp,qiw],.bool _⟩,hh,H.Same.refl _⟩
  ·split at e
   ·rename_i u hu
    cases e
    obtain⟨r,hr,hv⟩:=qaA (φ:=φ) hu P w
    exact⟨⟨r,by simp[Sem.run_bind,g,hr],hv⟩,hh,H.Same.refl _⟩
   ·cases e
 ·rename_i k a k' b
  cases hx;cases hy
  have g:(eqGuard op t xo yo (.float k a) (.float k' b)).run P w=.ok () w:=qbN (by simp) (by simp)
  split at e
  ·rename_i u hu
   cases e
   obtain⟨r,hr,hv⟩:=qaA (φ:=φ) hu P w
   exact⟨⟨r,by simp[Sem.run_bind,g,hr],hv⟩,hh,H.Same.refl _⟩
  ·cases e
 ·rename_i k a b k' c d
  cases hx;cases hy
  have g:(eqGuard op t xo yo (.complex k a b) (.complex k' c d)).run P w=.ok () w:=qbN (by simp) (by simp)
  split at e
  ·rename_i u hu
   cases e
   obtain⟨r,hr,hv⟩:=qaA (φ:=φ) hu P w
   exact⟨⟨r,by simp[Sem.run_bind,g,hr],hv⟩,hh,H.Same.refl _⟩
  ·cases e
 ·rename_i u l p n c
  split at e
  ·rename_i el hu
   cases hx with
   |vs _ _ _ a n' cap' hn hsl ht=>
    cases hy with
    |slNil _ hz=>
     have g:∀op,(eqGuard op t xo yo (.slice a n' cap') (.slice none 0 0)).run P w=.ok () w:=fun op=>qbN (by simp) (by simp)
     have key:Nat.beq l.length 0=false→(Op.equal t (.slice a n' cap') (.slice none 0 0)).run P w=.ok false w:=by
      intro h3
      have hl:l≠[]:=by
       intro e0
       subst e0
       exact Bool.noConfusion h3
      rcases hsl.2 with h0|⟨b,off,c0,ha,_⟩
      ·exact absurd h0 hl
      ·subst ha
       exact qlb hu 9999
     cases op<;>simp only at e<;>first|(cases e;done)|skip
     ·split at e
      ·rename_i h1 htst
       cases e
       obtain⟨h2,h3,h4⟩:=H.test_holds htst hh
       exact⟨⟨.bool false,by simp[g,binOp,key h3],.bool _⟩,h2,h4⟩
      ·cases e
     ·split at e
      ·rename_i h1 htst
       cases e
       obtain⟨h2,h3,h4⟩:=H.test_holds htst hh
       exact⟨⟨.bool true,by simp[g,binOp,key h3],.bool _⟩,h2,h4⟩
      ·cases e
  ·cases e
 ·rename_i hn hs _ _ _
  split at e
  ·cases e
  ·rename_i hg
   have key:∀b,eqV P 10000 t x y=some b→(binOp .eql t x' y').run P w=.ok (.bool b) w∧(binOp .neq t x' y').run P w=.ok (.bool (!b)) w∧∀op,(eqGuard op t xo yo x' y').run P w=.ok () w:=by
    intro b he
    obtain⟨h1,h2,h3,h4⟩:=qiu (w:=w) (qow he) (qm4 10000 t x y b x' y' w he hx hy) hx hy hn hs
    refine⟨h1,h2,fun op=>qbN (fun xs ys ex ey=>?_) h3⟩
    obtain⟨u,z,rfl,rfl⟩:=h4 xs ys ex ey
    exact hg
   cases op<;>simp only at e<;>first|(cases e;done)|skip
   all_goals
    cases hb:eqV P 10000 t x y with
    |none=>simp only[hb]at e;cases e
    |some b=>
     simp only[hb]at e
     cases e
     obtain⟨h1,h2,h3⟩:=key b hb
     first
      |(refine⟨⟨.bool b,?_,.bool _⟩,hh,H.Same.refl _⟩;simp[h3,h1];done)
      |(refine⟨⟨.bool (!b),?_,.bool _⟩,hh,H.Same.refl _⟩;simp[h3,h2];done)
def qkw(place:Nat→Option (Nat×Nat))(cells:List V):List (Nat×V)→Option (List V)
 |[]=>some cells
 |(i,v)::rest=>
  match place i with
  |none=>none
  |some (off,size)=>
   match cellsOf v with
   |none=>none
   |some cs=>if cs.length=size∧off+size≤cells.length then qkw place (cells.take off++(cs++cells.drop (off+size))) rest else none
theorem qeN{α:Type}:∀(cs:List α)(off j0:Nat)(c:Array α),off+j0+cs.length≤c.size →
  ((cs.zipIdx j0).foldl (fun a (x:α×Nat)=>a.setIfInBounds (off+x.2) x.1) c).toList=c.toList.take (off+j0)++(cs++c.toList.drop (off+j0+cs.length))
 |[],off,j0,c,h=>by simp
 |x::cs,off,j0,c,h=>by
  simp only[List.zipIdx_cons,List.foldl_cons]
  rw[qeN cs off (j0+1) _ (by simp at h ⊢;omega)]
  simp only[Array.toList_setIfInBounds,List.length_cons]at h ⊢
  have h1:off+j0<c.toList.length:=by simp;omega
  rw[show off+(j0+1)=off+j0+1 from rfl,List.take_set,List.drop_set_of_lt (by omega)]
  rw[List.take_succ_eq_append_getElem h1,List.set_append_right _ _ (by simp;omega)]
  simp only[List.length_take,List.append_assoc]
  rw[show min (off+j0) c.toList.length=off+j0 from by omega]
  simp only[Nat.sub_self,List.set_cons_zero,List.cons_append,List.nil_append]
  congr 3
  rw[show off+j0+1+cs.length=off+j0+(cs.length+1)from by omega]
theorem qeJ{φ:Map}{place:Nat→Option (Nat×Nat)}:∀(parts:List (Nat×V))(parts':List (Nat×Value))(cells:List V)(cells':Array Value)(out:List V),
  parts.map (·.1)=parts'.map (·.1)→VRels φ (parts.map (·.2)) (parts'.map (·.2))→VRels φ cells cells'.toList→qkw place cells parts=some out →
  ∃out',Instr.fill place cells' parts'=some out'∧VRels φ out out'.toList
 |[],[],cells,cells',out,hi,hp,hc,e=>by simp[qkw]at e;subst e;exact⟨cells',rfl,hc⟩
 |[],_::_,_,_,_,hi,_,_,_=>by simp at hi
 |_::_,[],_,_,_,hi,_,_,_=>by simp at hi
 |(i,v)::parts,(i',r)::parts',cells,cells',out,hi,hp,hc,e=>by
  simp only[List.map_cons,List.cons.injEq]at hi
  obtain⟨rfl,hi⟩:=hi
  cases hp with
  |cons hv hp=>
   simp only[qkw]at e
   split at e
   ·cases e
   ·rename_i off size hpl
    split at e
    ·cases e
    ·rename_i cs hcs
     split at e
     ·rename_i hcond
      obtain⟨hl,hle⟩:=hcond
      have hr:=qbW hv hcs
      have hlr:r.cells.size=size:=by rw[←hl,hr.length];simp
      have hlc:cells.length=cells'.size:=by rw[hc.length];simp
      simp only[Instr.fill,hpl]
      rw[if_neg (by simp only[hlr];simp;omega)]
      refine qeJ parts parts' _ _ out hi hp ?_ e
      have hfold:(r.cells.zipIdx.foldl (fun cs (x:Value×Nat)=>cs.setIfInBounds (off+x.2) x.1) cells').toList=cells'.toList.take off++(r.cells.toList++cells'.toList.drop (off+size)):=by
       have:=qeN r.cells.toList off 0 cells' (by simp;omega)
       rw[←Array.foldl_toList,Array.toList_zipIdx]
       simpa[hlr]using this
      rw[show(r.cells.zipIdx.foldl (fun cs x=>match x with|(c,j)=>cs.setIfInBounds (off+j) c) cells').toList=_ from hfold]
      exact(hc.take off).append (hr.append (hc.drop (off+size)))
     ·cases e
def qcz(P:Program):List Field→Option (List (Nat×Nat))
 |[]=>some []
 |f::fs=>match qam P f.type,qcz P fs with
  |some n,some r=>some ((f.offset,n)::r)
  |_,_=>none
theorem qdL{P:Program}{w:World}:∀(fs:List Field)(r:List (Nat×Nat)),qcz P fs=some r →
  (fs.mapM (fun f=>do pure (f.offset,←sizeOf f.type)):Sem (List (Nat×Nat))).run P w=.ok r w
 |[],r,e=>by simp[qcz]at e;subst e;rfl
 |f::fs,r,e=>by
  simp only[qcz]at e
  split at e
  ·rename_i n r' hn hr
   cases e
   have ih:=qdL (w:=w) fs r' hr
   simp only[List.mapM_cons,Sem.run_bind,qae hn,Result.andThen_ok,Sem.run_pure,ih]
  ·cases e
def qn7(P:Program)(t:TypeId)(parts:List (Nat×V)):Option V:=
 match zeroOf P t with
 |none=>none
 |some z=>
  match cellsOf z with
  |none=>none
  |some zero=>
   match P.underlying t with
   |some (.struct fs)=>
    match qcz P fs.toList with
    |none=>none
    |some places=>match qkw (places[·]?) zero parts with
     |some cells=>some (.agg cells)
     |none=>none
   |some (.array _ elem)=>
    match qam P elem with
    |none=>none
    |some size=>match qkw (fun i=>some (i*size,size)) zero parts with
     |some cells=>some (.agg cells)
     |none=>none
   |_=>none
theorem qmH{P:Program}{φ:Map}{t:TypeId}{parts:List (Nat×V)}{parts':Array (Nat×Value)}{v:V}(e:qn7 P t parts=some v)
  (hi:parts.map (·.1)=parts'.toList.map (·.1)) (hp:VRels φ (parts.map (·.2)) (parts'.toList.map (·.2))) (w:World):
  ∃r,(Instr.build t parts').run P w=.ok r w∧VRel φ v r:=by
 unfold qn7 at e
 split at e
 ·cases e
 ·rename_i z hz
  obtain⟨z',hz',hzr⟩:=qcq (φ:=φ) (w:=w) hz
  split at e
  ·cases e
  ·rename_i zero hzero
   have hzc:=qbW hzr hzero
   split at e
   ·rename_i fs hu
    split at e
    ·cases e
    ·rename_i places hpl
     split at e
     ·rename_i cells hf
      cases e
      obtain⟨out',ho,hr⟩:=qeJ parts parts'.toList zero z'.cells cells hi hp hzc hf
      refine⟨.agg out',?_,.agg _ _ hr⟩
      have hm:=qdL (P:=P) (w:=w) fs.toList places hpl
      have hm':(fs.mapM (fun f=>do pure (f.offset,←sizeOf f.type)):Sem (Array (Nat×Nat))).run P w=.ok places.toArray w:=by
       rw[Array.mapM_eq_mapM_toList,Sem.run_map,hm]
       rfl
      have ho':Instr.fill (places.toArray[·]?) z'.cells parts'.toList=some out':=by
       rw[show(fun x:Nat=>places.toArray[x]?)=(places[·]?)from by funext x;simp]
       exact ho
      simp only[Instr.build,Sem.run_bind,hz',qaa hu,hm',Result.andThen_ok,ho']
      rfl
     ·cases e
   ·rename_i n elem hu
    split at e
    ·cases e
    ·rename_i size hs
     split at e
     ·rename_i cells hf
      cases e
      obtain⟨out',ho,hr⟩:=qeJ parts parts'.toList zero z'.cells cells hi hp hzc hf
      refine⟨.agg out',?_,.agg _ _ hr⟩
      simp only[Instr.build,Sem.run_bind,hz',qaa hu,qae hs,Result.andThen_ok,ho]
      rfl
     ·cases e
   ·cases e
end Go.Vm

namespace Go.Vm
open Go
def VA.at(a:VA)(n:Nat):VA:={ a with o:=a.o+n }
theorem VA.real_at(a:VA)(k:Nat×Nat×Nat)(n:Nat):(a.at n).real k=(a.real k).add n:=by
 unfold VA.at VA.real Addr.add
 split
 ·rename_i h;subst h;rfl
 ·simp[Nat.add_assoc]
def VA.elem(a:VA)(i n:Nat):VA:=
 match Nat.beq a.e n,a.o with
 |true,0=>{ a with i:=a.i+i }
 |_,_=>{ a with o:=a.o+i*n }
theorem VA.real_elem(a:VA)(k:Nat×Nat×Nat)(i n:Nat):(a.elem i n).real k=(a.real k).add (i*n):=by
 unfold VA.elem
 split
 ·rename_i h ho
  have h':a.e=n:=Nat.eq_of_beq_eq_true h
  unfold VA.real Addr.add
  split
  ·rename_i hz
   subst h'
   simp[ho,Nat.add_mul,hz]
  ·subst h'
   simp[ho,Nat.add_mul,Nat.add_assoc]
 ·rw[←VA.real_at];rfl
theorem VA.elem_b(a:VA)(i n:Nat):(a.elem i n).b=a.b:=by
 unfold VA.elem;split<;>rfl
theorem VRel.fp_add{φ:Map}{row:List V}{a:Addr}(h:VRel φ (.fp row) (.pointer (some a)))(n:Nat):VRel φ (.fp (row.drop n)) (.pointer (some (a.add n))):=by
 cases h with
 |fp _ _ c xs hs hz hx hc=>
  have e1:(a.add n).block=a.block:=by unfold Addr.add;split<;>rfl
  have e2:(a.add n).off=a.off+n:=by unfold Addr.add;split<;>simp_all
  have e3:(a.add n).spot=none:=by unfold Addr.add;split<;>simp_all
  refine .fp _ _ c (xs.drop n) e3 (by rw[e1];exact hz) (hx.drop n) (fun j v hj=>?_)
  rw[List.getElem?_drop]at hj
  rw[e2,←hc _ _ hj]
  congr 1;omega
theorem DRel.cellsV{φ:Map}:∀{t:Ty}{d:t.data}{cs:List Value},DRel φ.fz t d cs→VRels φ (Vm.cellsV t d) cs
 |.int k,_,_,h=>by cases h;exact .cons (.int _ _) .nil
 |.bool,_,_,h=>by cases h;exact .cons (.bool _) .nil
 |.str,_,_,h=>by cases h;exact .cons (.str _) .nil
 |.unit,_,_,h=>by cases h;exact .nil
 |.pair a b,_,_,⟨x,y,h1,h2,h3⟩=>by subst h1;exact(DRel.cellsV h2).append (DRel.cellsV h3)
 |.slice t,l,_,⟨a,n,cap,h1,h2,h3⟩=>by subst h1;exact .cons (.vs t l .no a n cap h2 h3 trivial) .nil
theorem VRel.vs_elem{φ:Map}{t:Ty}{l:List t.data}{tip:Tip}{a:Option Addr}{n cap:Nat}(h:VRel φ (.vs t l tip) (.slice a n cap)){i:Nat}(hi:i<l.length)(e:Nat)(he:e=t.cells):
  ∃b,a=some b∧VRel φ (.fp (Vm.cellsV t (l.getD i t.dflt))) (.pointer (some (b.add (i*e)))):=by
 subst he
 cases h with
 |vs _ _ _ _ _ _ hn h ht=>
  obtain⟨h1,h2⟩:=h
  rcases h2 with h2|⟨b,off,c,h2,h3,h4,h5⟩
  ·subst h2;simp at hi
  ·subst h2
   have hg:l[i]?=some (l.getD i t.dflt):=by simp[List.getD,hi]
   obtain⟨cs,k1,k2,k3⟩:=h5 i _ hg
   have e1:((⟨b,off,none⟩:Addr).add (i*t.cells)).block=b:=by unfold Addr.add;split<;>rfl
   have e2:((⟨b,off,none⟩:Addr).add (i*t.cells)).off=off+i*t.cells:=by unfold Addr.add;split<;>simp_all
   have e3:((⟨b,off,none⟩:Addr).add (i*t.cells)).spot=none:=by unfold Addr.add;split<;>rfl
   exact⟨_,rfl,.fp _ _ c cs e3 (by rw[e1];exact h3) k1.cellsV (fun j v hj=>by rw[e2];exact k3 j v hj)⟩
def qcX(P:Program)(s:TypeId)(x:V)(field:Nat):Option V:=
 match P.underlying s,x with
 |some (.struct fs),.ptr (some a)=>
  match fs[field]? with
  |some f=>match qam P f.type with
   |some 0=>none
   |some (_+1)=>some (.ptr (some (a.at f.offset)))
   |none=>none
  |none=>none
 |some (.struct fs),.fp row=>
  match fs[field]? with
  |some f=>match qam P f.type with
   |some 0=>none
   |some (_+1)=>some (.fp (row.drop f.offset))
   |none=>none
  |none=>none
 |_,_=>none
theorem qhp{P:Program}{φ:Map}{s:TypeId}{x:V}{x':Value}{i:Nat}{v:V}(e:qcX P s x i=some v)(hx:VRel φ x x')(w:World):
  ∃r,(Instr.fieldAt s x' i).run P w=.ok r w∧VRel φ v r:=by
 unfold qcX at e
 split at e
 ·rename_i fs a hu
  split at e
  ·rename_i f hf
   split at e
   ·cases e
   ·rename_i n hn
    cases e
    cases hx with
    |ptr _ k hk=>
     refine⟨.pointer (some ((a.at f.offset).real k)),?_,.ptr _ k hk⟩
     simp[Instr.fieldAt,qaa hu,hf,Instr.sureAddr,fieldPlace,qae hn,VA.real_at]
   ·cases e
  ·cases e
 ·rename_i fs row hu
  split at e
  ·rename_i f hf
   split at e
   ·cases e
   ·rename_i n hn
    cases e
    cases hx with
    |fp _ a c xs hs hz hx hc=>
     refine⟨.pointer (some (a.add f.offset)),?_,(VRel.fp _ a c xs hs hz hx hc).fp_add f.offset⟩
     simp[Instr.fieldAt,qaa hu,hf,Instr.sureAddr,fieldPlace,qae hn]
   ·cases e
  ·cases e
 ·cases e
def qj2(P:Program)(t:TypeId)(x:V)(field:Nat):Option V:=
 match P.underlying t,x with
 |some (.struct fs),.agg cs=>
  match fs[field]? with
  |some f=>qdx P f.type cs f.offset
  |none=>none
 |_,_=>none
theorem qmv{P:Program}{φ:Map}{s:TypeId}{x:V}{x':Value}{i:Nat}{v:V}(e:qj2 P s x i=some v)(hx:VRel φ x x')(w:World):
  ∃r,(Instr.field s x' i).run P w=.ok r w∧VRel φ v r:=by
 unfold qj2 at e
 split at e
 ·rename_i fs cs hu
  split at e
  ·rename_i f hf
   cases hx with
   |agg _ rs hx=>
    obtain⟨r,hr,hv⟩:=qc7 hx e w
    exact⟨r,by simp[Instr.field,qaa hu,hf,asAgg,hr],hv⟩
  ·cases e
 ·cases e
def qbf(P:Program)(t:TypeId)(x ix:V)(h:H):Option (V×H):=
 match P.underlying t,x,ix with
 |some (.array len elem),.ptr (some a),.int _ i=>
  match qam P elem with
  |none=>none
  |some n=>match h.test (decide (0≤i)&&decide (i<(len:Int)))with
   |some (true,h)=>some (.ptr (some (a.at (i.toNat*n))),h)
   |_=>none
 |some (.slice elem),.sl (some a) len _,.int _ i=>
  match qam P elem with
  |none=>none
  |some n=>match h.test (decide (0≤i)&&decide (i<(len:Int)))with
   |some (true,h)=>some (.ptr (some (a.elem i.toNat n)),h)
   |_=>none
 |some (.slice elem),.vs t l _,.int _ i=>
  match qam P elem with
  |none=>none
  |some n=>match Nat.beq n t.cells with
   |false=>none
   |true=>match h.test (decide (0≤i)&&decide (i<(l.length:Int)))with
    |some (true,h)=>some (.fp (cellsV t (l.getD i.toNat t.dflt)),h)
    |_=>none
 |some (.array len elem),.fp row,.int _ i=>
  match qam P elem with
  |none=>none
  |some n=>match h.test (decide (0≤i)&&decide (i<(len:Int)))with
   |some (true,h)=>some (.fp (row.drop (i.toNat*n)),h)
   |_=>none
 |_,_,_=>none
theorem qho{P:Program}{φ:Map}{t:TypeId}{x ix:V}{x' ix':Value}{h h':H}{v:V}(e:qbf P t x ix h=some (v,h'))(hh:h'.Holds)
  (hx:VRel φ x x') (hi:VRel φ ix ix') (w:World):
  (∃r,(Instr.indexAt t x' ix').run P w=.ok r w∧VRel φ v r)∧h.Holds∧h.Same h':=by
 unfold qbf at e
 split at e
 ·rename_i len elem a k i hu
  split at e
  ·cases e
  ·rename_i n hn
   split at e
   ·rename_i h1 ht
    cases e
    obtain⟨h2,h3,h4⟩:=H.test_holds ht hh
    simp only[Bool.and_eq_true,decide_eq_true_eq]at h3
    cases hx with
    |ptr _ b hb=>
     cases hi
     refine⟨⟨.pointer (some ((a.at (i.toNat*n)).real b)),?_,.ptr _ b hb⟩,h2,h4⟩
     simp[Instr.indexAt,asIntOf,qaa hu,Instr.sureAddr,qae hn,VA.real_at,h3]
   ·cases e
 ·rename_i elem a len cap k i hu
  split at e
  ·cases e
  ·rename_i n hn
   split at e
   ·rename_i h1 ht
    cases e
    obtain⟨h2,h3,h4⟩:=H.test_holds ht hh
    simp only[Bool.and_eq_true,decide_eq_true_eq]at h3
    cases hx with
    |sl _ b _ cap' _ hb hl hc hz=>
     cases hi
     refine⟨⟨.pointer (some ((a.elem i.toNat n).real b)),?_,.ptr _ b (by rw[VA.elem_b];exact hb)⟩,h2,h4⟩
     simp[Instr.indexAt,asIntOf,qaa hu,qae hn,VA.real_elem,h3]
   ·cases e
 ·rename_i elem t l tip k i hu
  split at e
  ·cases e
  ·rename_i n hn
   split at e
   ·cases e
   ·rename_i hnt
    split at e
    ·rename_i h1 ht
     cases e
     obtain⟨h2,h3,h4⟩:=H.test_holds ht hh
     simp only[Bool.and_eq_true,decide_eq_true_eq]at h3
     have hlt:i.toNat<l.length:=by omega
     cases hx with
     |vs _ _ _ a m cap hm hs htp=>
      cases hi
      obtain⟨b,hb,hv⟩:=(VRel.vs t l tip a m cap hm hs htp).vs_elem hlt n (Nat.eq_of_beq_eq_true hnt)
      have hml:m=l.length:=hs.1
      subst hb hml
      refine⟨⟨_,?_,hv⟩,h2,h4⟩
      simp[Instr.indexAt,asIntOf,qaa hu,qae hn,h3]
    ·cases e
 ·rename_i len elem row k i hu
  split at e
  ·cases e
  ·rename_i n hn
   split at e
   ·rename_i h1 ht
    cases e
    obtain⟨h2,h3,h4⟩:=H.test_holds ht hh
    simp only[Bool.and_eq_true,decide_eq_true_eq]at h3
    cases hx with
    |fp _ a c xs hs hz hx hc=>
     cases hi
     refine⟨⟨.pointer (some (a.add (i.toNat*n))),?_,(VRel.fp _ a c xs hs hz hx hc).fp_add _⟩,h2,h4⟩
     simp[Instr.indexAt,asIntOf,qaa hu,Instr.sureAddr,qae hn,h3]
   ·cases e
 ·cases e
inductive Uni where
 |ints (k:IntKind) (l:List Int)
 |bools (l:List Bool)
def uniI(k:IntKind):List V→Option (List Int)
 |[]=>some []
 |v::r=>match v with
  |.int j n=>match kindEq? k j,uniI k r with
   |some _,some ns=>some (n::ns)
   |_,_=>none
  |_=>none
def uniB:List V→Option (List Bool)
 |[]=>some []
 |v::r=>match v with
  |.bool b=>match uniB r with
   |some bs=>some (b::bs)
   |none=>none
  |_=>none
def Uni.get(u:Uni)(o:Nat):V:=
 match u with
 |.ints k l=>.int k (l.getD o 0)
 |.bools l=>.bool (l.getD o false)
def qg1(m:Nat)(h:H)(row:List V):Option Uni:=
 match h.ask with
 |none=>none
 |some _=>match Nat.ble m row.length with
  |false=>none
  |true=>match row with
   |.int k _::_=>match uniI k row with
    |some l=>some (.ints k l)
    |none=>none
   |.bool _::_=>match uniB row with
    |some l=>some (.bools l)
    |none=>none
   |_=>none
def qdz(h:H)(row:List V):Option Uni:=qg1 4 h row
theorem qiA{k:IntKind}:∀{row:List V}{l:List Int},uniI k row=some l→∀o,o<row.length→row[o]?=some (.int k (l.getD o 0))
 |[],_,_,o,ho=>by simp at ho
 |v::r,l,e,o,ho=>by
  simp only[uniI]at e
  split at e
  ·split at e
   ·rename_i j n _ _ h1 _ ns h2
    cases e
    obtain⟨h1⟩:=h1
    subst h1
    cases o with
    |zero=>simp
    |succ o=>
     have:=qiA h2 o (by simpa using ho)
     simpa using this
   ·cases e
  ·cases e
theorem ql2:∀{row:List V}{l:List Bool},uniB row=some l→∀o,o<row.length→row[o]?=some (.bool (l.getD o false))
 |[],_,_,o,ho=>by simp at ho
 |v::r,l,e,o,ho=>by
  simp only[uniB]at e
  split at e
  ·split at e
   ·rename_i b _ bs h2
    cases e
    cases o with
    |zero=>simp
    |succ o=>
     have:=ql2 h2 o (by simpa using ho)
     simpa using this
   ·cases e
  ·cases e
theorem qfj{m:Nat}{h:H}{row:List V}{u:Uni}(e:qg1 m h row=some u){o:Nat}(ho:o<row.length):row[o]?=some (u.get o):=by
 unfold qg1 at e
 split at e
 ·cases e
 ·split at e
  ·cases e
  ·split at e
   ·split at e
    ·rename_i h1;cases e;exact qiA h1 o ho
    ·cases e
   ·split at e
    ·rename_i h1;cases e;exact ql2 h1 o ho
    ·cases e
   ·cases e
theorem qg7{h:H}{row:List V}{u:Uni}(e:qdz h row=some u){o:Nat}(ho:o<row.length):row[o]?=some (u.get o):=qfj e ho
theorem qfp{h:H}(e:h.ask=none)(row:List V):qdz h row=none:=by unfold qdz qg1;rw[e]
def qkp(P:Program)(t:TypeId)(n:Nat)(cs:List V)(o:Nat)(h:H):Option (V×H):=
 match qg1 2 h cs with
 |none=>match qdx P t cs o with
  |some v=>some (v,h)
  |none=>none
 |some u=>match h.test (Nat.ble (o+n) cs.length)with
  |some (true,h)=>match qg4 P t with
   |some true=>some (.agg ((List.range n).map fun j=>u.get (o+j)),h)
   |some false=>match n with
    |1=>some (u.get o,h)
    |_=>none
   |none=>none
  |_=>none
theorem qo1{P:Program}{t:TypeId}{n:Nat}{cs:List V}{o:Nat}{h h':H}{v:V}(e:qkp P t n cs o h=some (v,h'))(hn:qam P t=some n)(hh:h'.Holds):qdx P t cs o=some v∧h.Holds∧h.Same h':=by
 unfold qkp at e
 split at e
 ·split at e
  ·rename_i u hu;cases e;exact⟨hu,hh,H.Same.refl _⟩
  ·cases e
 ·rename_i u hu
  split at e
  ·rename_i h1 ht
   split at e
   ·rename_i hag
    cases e
    obtain⟨h2,h3,h4⟩:=H.test_holds ht hh
    have hle:=Nat.le_of_ble_eq_true h3
    refine⟨?_,h2,h4⟩
    unfold qdx
    rw[hag,hn]
    have hl:(cs.drop o).take n=(List.range n).map fun j=>u.get (o+j):=by
     apply List.ext_getElem?
     intro j
     rw[List.getElem?_take,List.getElem?_map]
     split
     ·rename_i hj
      rw[List.getElem?_drop,List.getElem?_range hj,qfj hu (by omega)]
      rfl
     ·rename_i hj
      rw[List.getElem?_eq_none (by simpa using hj)]
      rfl
    show some (V.agg ((cs.drop o).take n))=_
    rw[hl]
   ·rename_i hag
    split at e
    ·cases e
     obtain⟨h2,h3,h4⟩:=H.test_holds ht hh
     have hle:=Nat.le_of_ble_eq_true h3
     refine⟨?_,h2,h4⟩
     unfold qdx
     rw[hag]
     exact qfj hu (by omega)
    ·cases e
   ·cases e
  ·cases e
theorem qoV{P:Program}{t:TypeId}{n:Nat}{cs:List V}{o:Nat}{h h':H}{v:V}(e:qkp P t n cs o h=some (v,h')):h.Same h':=by
 unfold qkp at e
 repeat' split at e
 all_goals first
  |(cases e;done)
  |(cases e;exact H.Same.refl _)
  |(cases e;exact H.test_eqs ‹_›)
def qeK(P:Program)(t:TypeId)(x ix:V)(h:H):Option (V×H):=
 match P.underlying t,x,ix with
 |some (.array len elem),.agg cs,.int _ i=>
  match qam P elem with
  |none=>none
  |some n=>match h.test (decide (0≤i)&&decide (i<(len:Int)))with
   |some (true,h)=>qkp P elem n cs (i.toNat*n) h
   |_=>none
 |some .string,.str s,.int _ i=>
  match h.test (decide (0≤i)&&decide (i<(s.size:Int)))with
  |some (true,h)=>some (.int .u8 (s.data.toList.getD i.toNat 0).toNat,h)
  |_=>none
 |_,_,_=>none
theorem qmh{P:Program}{φ:Map}{t:TypeId}{x ix:V}{x' ix':Value}{h h':H}{v:V}(e:qeK P t x ix h=some (v,h'))(hh:h'.Holds)
  (hx:VRel φ x x') (hi:VRel φ ix ix') (w:World):
  (∃r,(Instr.index t x' ix').run P w=.ok r w∧VRel φ v r)∧h.Holds∧h.Same h':=by
 unfold qeK at e
 split at e
 ·rename_i len elem cs k i hu
  split at e
  ·cases e
  ·rename_i n hn
   split at e
   ·rename_i h1 ht
    obtain⟨hp,hh1,hs1⟩:=qo1 e hn hh
    obtain⟨h2,h3,h4⟩:=H.test_holds ht hh1
    simp only[Bool.and_eq_true,decide_eq_true_eq]at h3
    cases hx with
    |agg _ rs hx=>
     cases hi
     obtain⟨r,hr,hv⟩:=qc7 hx hp w
     refine⟨⟨r,?_,hv⟩,h2,H.Same.trans h4 hs1⟩
     simp[Instr.index,asIntOf,qaa hu,qae hn,h3,hr]
   ·cases e
 ·rename_i s k i hu
  split at e
  ·rename_i h1 ht
   cases e
   obtain⟨h2,h3,h4⟩:=H.test_holds ht hh
   simp only[Bool.and_eq_true,decide_eq_true_eq]at h3
   cases hx;cases hi
   refine⟨⟨_,?_,.int _ _⟩,h2,h4⟩
   have hlt:i.toNat<s.size:=by omega
   have hg:s[i.toNat]?=some s.data[i.toNat]:=by
    rw[getElem?_pos s i.toNat hlt];rfl
   have hg':s.data.toList.getD i.toNat 0=s.data[i.toNat]:=by
    simp[List.getD,Array.getElem?_eq_getElem (show i.toNat<s.data.size from hlt)]
   simp only[Instr.index,asIntOf,Sem.run_bind,Sem.run_pure,Result.andThen_ok,qaa hu,h3.1,if_true,hg,hg']
  ·cases e
 ·cases e
def qcI(v:Option V)(dflt top:Nat)(h:H):Option (Nat×H):=
 match v with
 |none=>some (dflt,h)
 |some (.int _ i)=>match h.test (decide (0≤i)&&decide (i≤(top:Int)))with
  |some (true,h)=>some (i.toNat,h)
  |_=>none
 |_=>none
def qbu(len:Nat)(cap:Option Nat)(lo hi mx:Option V)(h:H):Option (Nat×Nat×Option Nat×H):=
 match mx with
 |some _=>
  match qcI mx 0 (cap.getD len) h with
  |none=>none
  |some (m,h)=>
   match hi with
   |none=>none
   |some _=>match qcI hi 0 m h with
    |none=>none
    |some (hh,h)=>match qcI lo 0 hh h with
     |none=>none
     |some (l,h)=>some (l,hh,some m,h)
 |none=>
  match qcI hi len (cap.getD len) h with
  |none=>none
  |some (hh,h)=>match qcI lo 0 hh h with
   |none=>none
   |some (l,h)=>some (l,hh,cap,h)
theorem qc1{P:Program}{φ:Map}{v:Option V}{v':Option Value}{dflt top:Nat}{h h':H}{n:Nat}(e:qcI v dflt top h=some (n,h'))(hh:h'.Holds)
  (hv:∀x,v=some x→∃x',v'=some x'∧VRel φ x x') (hn:v=none→v'=none) (w:World):
  h.Holds∧h.Same h'∧(v=none→n=dflt)∧(∀x',v'=some x'→n≤top∧∀top' code,top≤top'→(Instr.sliceBound x' top' code).run P w=.ok n w):=by
 unfold qcI at e
 split at e
 ·cases e
  refine⟨hh,H.Same.refl _,fun _=>rfl,fun x' hx'=>?_⟩
  rw[hn rfl]at hx';cases hx'
 ·rename_i k i
  split at e
  ·rename_i h1 ht
   cases e
   obtain⟨h2,h3,h4⟩:=H.test_holds ht hh
   simp only[Bool.and_eq_true,decide_eq_true_eq]at h3
   refine⟨h2,h4,(fun hx=>by cases hx),fun x' hx'=>?_⟩
   obtain⟨y,hy,hr⟩:=hv _ rfl
   rw[hy]at hx';cases hx'
   cases hr
   refine⟨by omega,fun top' code htop=>?_⟩
   have:i≤(top':Int):=by omega
   simp[Instr.sliceBound,asIntOf,h3.1,this]
  ·cases e
 ·cases e
def OptRel(φ:Map)(v:Option V)(r:Option Value):Prop:=
 match v,r with
 |none,none=>True
 |some v,some r=>VRel φ v r
 |_,_=>False
theorem OptRel.some{φ:Map}{v:Option V}{r:Option Value}(h:OptRel φ v r):∀x,v=some x→∃x',r=some x'∧VRel φ x x':=by
 intro x e
 subst e
 cases r with
 |none=>exact h.elim
 |some r=>exact⟨r,rfl,h⟩
theorem OptRel.none{φ:Map}{v:Option V}{r:Option Value}(h:OptRel φ v r):v=none→r=none:=by
 intro e
 subst e
 cases r with
 |none=>rfl
 |some r=>exact h.elim
theorem qbS{P:Program}{φ:Map}{len cap':Nat}{cap:Option Nat}{lo hi mx:Option V}{lo' hi' mx':Option Value}{h h':H}{l hg:Nat}{m:Option Nat}
  (e:qbu len cap lo hi mx h=some (l,hg,m,h')) (hh:h'.Holds) (hl:OptRel φ lo lo') (hhi:OptRel φ hi hi') (hmx:OptRel φ mx mx') (hlen:len≤cap') (hc:∀c,cap=some c→c=cap') (w:World) (isSlice:Bool):
  h.Holds∧h.Same h'∧∃m',(Instr.sliceBounds isSlice len cap' lo' hi' mx').run P w=.ok (l,hg,m') w∧l≤hg∧hg≤m'∧(∀c,m=some c→c=m')∧(lo=none→l=0)∧m'≤cap'∧(cap≠none→m≠none):=by
 have hcap:cap.getD len≤cap':=by
  cases cap with
  |none=>exact hlen
  |some c=>simp[hc c rfl]
 unfold qbu at e
 split at e
 ·rename_i vm
  split at e
  ·cases e
  ·rename_i m0 h1 e1
   split at e
   ·cases e
   ·rename_i vh
    split at e
    ·cases e
    ·rename_i h0 h2 e2
     split at e
     ·cases e
     ·rename_i l0 h3 e3
      cases e
      obtain⟨a1,a2,a3,a4⟩:=qc1 (P:=P) e3 hh hl.some hl.none w
      obtain⟨b1,b2,b3,b4⟩:=qc1 (P:=P) e2 a1 hhi.some hhi.none w
      obtain⟨c1,c2,c3,c4⟩:=qc1 (P:=P) e1 b1 hmx.some hmx.none w
      obtain⟨m',rfl,_⟩:=hmx.some _ rfl
      obtain⟨x',rfl,_⟩:=hhi.some _ rfl
      have hm:=(c4 _ rfl).2 cap' (if isSlice then .slice3Acap else .slice3Alen) hcap
      have hh':=(b4 _ rfl).2 m0 .slice3B (Nat.le_refl _)
      have hle:=(b4 _ rfl).1
      have hmc:m0≤cap':=Nat.le_trans (c4 _ rfl).1 hcap
      refine⟨c1,c2.trans (b2.trans a2),m0,?_,?_,hle,(fun c e=>by cases e;rfl),a3,hmc,fun _=>by simp⟩
      ·cases lo' with
       |none=>
        have:lo=none:=by cases lo with|none=>rfl|some x=>exact hl.elim
        simp[Instr.sliceBounds,hm,hh',a3 this]
       |some y=>
        have hlo:=(a4 _ rfl).2 hg .slice3C (Nat.le_refl _)
        simp[Instr.sliceBounds,hm,hh',hlo]
      ·cases lo' with
       |none=>
        have:lo=none:=by cases lo with|none=>rfl|some x=>exact hl.elim
        rw[a3 this];exact Nat.zero_le _
       |some y=>exact(a4 _ rfl).1
 ·split at e
  ·cases e
  ·rename_i h0 h1 e1
   split at e
   ·cases e
   ·rename_i l0 h2 e2
    cases e
    have hmn:=hmx.none rfl
    subst hmn
    obtain⟨a1,a2,a3,a4⟩:=qc1 (P:=P) e2 hh hl.some hl.none w
    obtain⟨b1,b2,b3,b4⟩:=qc1 (P:=P) e1 a1 hhi.some hhi.none w
    have hlo0:lo'=none→lo=none:=fun e=>by subst e;cases lo with|none=>rfl|some x=>exact hl.elim
    have hhi0:hi'=none→hi=none:=fun e=>by subst e;cases hi with|none=>rfl|some x=>exact hhi.elim
    have hle:l≤hg:=by
     cases lo' with
     |none=>rw[a3 (hlo0 rfl)];exact Nat.zero_le _
     |some y=>exact(a4 _ rfl).1
    refine⟨b1,b2.trans a2,cap',?_,hle,?_,hc,a3,Nat.le_refl _,fun h=>h⟩
    ·cases hi' with
     |none=>
      have h1:=b3 (hhi0 rfl)
      subst h1
      cases lo' with
      |none=>simp[Instr.sliceBounds,a3 (hlo0 rfl)]
      |some y=>simp[Instr.sliceBounds,(a4 _ rfl).2 hg .sliceB (Nat.le_refl _)]
     |some x=>
      have hx:=(b4 _ rfl).2 cap' (if isSlice then .sliceAcap else .sliceAlen) hcap
      cases lo' with
      |none=>simp[Instr.sliceBounds,hx,a3 (hlo0 rfl)]
      |some y=>simp[Instr.sliceBounds,hx,(a4 _ rfl).2 hg .sliceB (Nat.le_refl _)]
    ·cases hi' with
     |none=>rw[b3 (hhi0 rfl)];exact hlen
     |some x=>exact Nat.le_trans (b4 _ rfl).1 hcap
end Go.Vm

namespace Go.Vm
open Go
def qeu(a:VA)(lo:Option V)(l n:Nat)(m:Option Nat)(hg:Nat)(h:H):Option (VA×H):=
 match lo with
 |none=>some (a,h)
 |some _=>match m with
  |some m=>match h.test (Nat.beq m l)with
   |some (true,h)=>some (a,h)
   |some (false,h)=>some (a.elem l n,h)
   |none=>none
  |none=>match h.test (Nat.ble (l+1) hg),Nat.beq a.e n with
   |some (true,h),true=>some (a.elem l n,h)
   |_,_=>none
theorem qhO{a a':VA}{lo:Option V}{l n hg m':Nat}{m:Option Nat}{h h':H}(e:qeu a lo l n m hg h=some (a',h'))(hh:h'.Holds)
  (h0:lo=none→l=0) (hm:∀c,m=some c→c=m') (hle:hg≤m') (k:Nat×Nat×Nat):
  h.Holds∧h.Same h'∧a'.b=a.b∧a'.real k=(if m'=l then a.real k else(a.real k).add (l*n))∧(m=none→a.o=0→a'.o=0∧a'.e=a.e∧a'.i=a.i+l):=by
 unfold qeu at e
 split at e
 ·cases e
  refine⟨hh,H.Same.refl _,rfl,?_,fun _ ho=>⟨ho,rfl,?_⟩⟩
  ·rw[h0 rfl]
   simp[Addr.add]
  ·rw[h0 rfl];rfl
 ·split at e
  ·rename_i m0
   have:=hm m0 rfl
   subst this
   split at e
   ·rename_i h1 ht
    cases e
    obtain⟨h2,h3,h4⟩:=H.test_holds ht hh
    refine⟨h2,h4,rfl,?_,fun e=>by cases e⟩
    rw[if_pos (Nat.eq_of_beq_eq_true h3)]
   ·rename_i h1 ht
    cases e
    obtain⟨h2,h3,h4⟩:=H.test_holds ht hh
    refine⟨h2,h4,VA.elem_b _ _ _,?_,fun e=>by cases e⟩
    rw[if_neg (Nat.ne_of_beq_eq_false h3),VA.real_elem]
   ·cases e
  ·split at e
   ·rename_i h1 ht hen
    cases e
    obtain⟨h2,h3,h4⟩:=H.test_holds ht hh
    refine⟨h2,h4,VA.elem_b _ _ _,?_,fun _ ho=>?_⟩
    ·have:=Nat.le_of_ble_eq_true h3
     rw[if_neg (by omega),VA.real_elem]
    ·simp[VA.elem,hen,ho]
   ·cases e
def cutL{α:Type}(lo hi:Option V)(l h:Nat)(xs:List α):List α:=
 match lo,hi with
 |none,none=>xs
 |none,some _=>xs.take h
 |some _,none=>xs.drop l
 |some _,some _=>(xs.drop l).take (h-l)
theorem qdc{v:Option V}{d t n:Nat}{h h':H}(e:qcI v d t h=some (n,h'))(hh:h'.Holds):h.Holds∧(n=d∨n≤t):=by
 unfold qcI at e
 split at e
 ·cases e;exact⟨hh,.inl rfl⟩
 ·split at e
  ·rename_i h1 ht
   cases e
   obtain⟨h2,h3,h4⟩:=H.test_holds ht hh
   simp only[Bool.and_eq_true,decide_eq_true_eq]at h3
   exact⟨h2,.inr (by omega)⟩
  ·cases e
 ·cases e
theorem qkC{len:Nat}{cap:Option Nat}{lo hi mx:Option V}{h h':H}{l hg:Nat}{m:Option Nat}(e:qbu len cap lo hi mx h=some (l,hg,m,h'))(hh:h'.Holds)(hc:∀c,cap=some c→c≤len):hg≤len:=by
 have hcap:cap.getD len≤len:=by
  cases cap with
  |none=>exact Nat.le_refl _
  |some c=>exact hc c rfl
 unfold qbu at e
 split at e
 ·split at e
  ·cases e
  ·rename_i m0 h1 e1
   split at e
   ·cases e
   ·split at e
    ·cases e
    ·rename_i h0 h2 e2
     split at e
     ·cases e
     ·rename_i l0 h3 e3
      cases e
      obtain⟨a1,_⟩:=qdc e3 hh
      obtain⟨b1,b2⟩:=qdc e2 a1
      obtain⟨_,c2⟩:=qdc e1 b1
      omega
 ·split at e
  ·cases e
  ·rename_i h0 h1 e1
   split at e
   ·cases e
   ·rename_i l0 h2 e2
    cases e
    obtain⟨a1,_⟩:=qdc e2 hh
    obtain⟨_,b2⟩:=qdc e1 a1
    omega
theorem qmF{len:Nat}{cap:Option Nat}{lo mx:Option V}{h h':H}{l hg:Nat}{m:Option Nat}(e:qbu len cap lo none mx h=some (l,hg,m,h')):hg=len:=by
 unfold qbu at e
 split at e
 ·split at e<;>cases e
 ·simp only[qcI]at e
  split at e
  ·cases e
  ·cases e;rfl
def qc0(mx:Option V)(m:Option Nat)(hg:Nat)(h:H):Option (Tip×H):=
 match mx with
 |none=>some (.no,h)
 |some _=>match m with
  |none=>none
  |some m=>match h.test (Nat.beq m hg)with
   |some (true,h)=>some (.tight,h)
   |_=>none
def qpD(n:Nat):Tip→Option Nat
 |.tight=>some n
 |_=>none
theorem qnc{α:Type}{lo hi:Option V}{l h:Nat}{xs:List α}(h0:lo=none→l=0)(h1:hi=none→h=xs.length)(hle:l≤h)(hh:h≤xs.length):
  (cutL lo hi l h xs).length=h-l∧cutL lo hi l h xs=(xs.drop l).take (h-l):=by
 have:cutL lo hi l h xs=(xs.drop l).take (h-l):=by
  cases lo with
  |none=>
   have:=h0 rfl
   subst this
   cases hi with
   |none=>have:=h1 rfl;subst this;simp[cutL]
   |some _=>simp[cutL]
  |some _=>
   cases hi with
   |none=>have:=h1 rfl;subst this;simp only[cutL];rw[List.take_of_length_le (by simp)]
   |some _=>rfl
 refine⟨?_,this⟩
 rw[this];simp;omega
theorem VRel.vs_cut{φ:Map}{t:Ty}{xs:List t.data}{tip:Tip}{a:Option Addr}{n cap:Nat}(hv:VRel φ (.vs t xs tip) (.slice a n cap)){l h m:Nat}(hle:l≤h)(hh:h≤xs.length)(hm:h≤m){tip':Tip}(ht:tip'=.no∨(tip'=.tight∧m=h)):
  VRel φ (.vs t ((xs.drop l).take (h-l)) tip') (.slice (if m=l then a else a.map (·.add (l*t.cells))) (h-l) (m-l)):=by
 cases hv with
 |vs _ _ _ _ _ _ hn hs htp=>
  refine .vs _ _ _ _ _ _ (by omega) ⟨by simp;omega,?_⟩ ?_
  ·rcases hs.2 with h2|⟨b,off,c,h2,h3,h4,h5⟩
   ·subst h2;left;simp
   ·rcases Nat.eq_or_lt_of_le hle with e|e
    ·left;subst e;simp
    ·right
     subst h2
     rw[if_neg (by omega)]
     refine⟨b,off+l*t.cells,c,?_,h3,?_,(h5.drop l).take _⟩
     ·simp only[Option.map_some,Addr.add]
      split<;>simp_all
     ·have:l*t.cells+((xs.drop l).take (h-l)).length*t.cells≤xs.length*t.cells:=by
       rw[←Nat.add_mul]
       refine Nat.mul_le_mul_right _ ?_
       simp;omega
      omega
  ·rcases ht with ht|⟨ht,hm⟩
   ·subst ht;trivial
   ·subst ht;show m-l=h-l;omega
def qft(lo:Option V)(l hg:Nat)(m:Option Nat)(h:H):Option (V×H):=
 match lo,m,h.ask with
 |some _,none,none=>match h.test (Nat.ble (l+1) hg)with
  |some (false,h)=>some (.vs .bool [] .no,h)
  |_=>none
 |_,_,_=>none
def qgm(P:Program)(t:TypeId)(x:V)(lo hi mx:Option V)(h:H):Option (V×H):=
 match P.underlying t,x with
 |some (.array n elem),.ptr (some a)=>
  match qam P elem with
  |none=>none
  |some size=>match qbu n (some n) lo hi mx h with
   |none=>none
   |some (l,hg,m,h)=>match qeu a lo l size m hg h with
    |none=>none
    |some (a,h)=>some (.sl (some a) (hg-l) (m.map (·-l)),h)
 |some (.slice elem),.sl (some a) len cap=>
  match qam P elem with
  |none=>none
  |some size=>match qbu len cap lo hi mx h with
   |none=>none
   |some (l,hg,m,h)=>match qeu a lo l size m hg h with
    |none=>qft lo l hg m h
    |some (a,h)=>some (.sl (some a) (hg-l) (m.map (·-l)),h)
 |some (.slice elem),.sl none _ _=>
  match qam P elem with
  |none=>none
  |some _=>match qbu 0 (some 0) lo hi mx h with
   |none=>none
   |some (_,_,_,h)=>some (.sl none 0 (some 0),h)
 |some (.slice elem),.vs t xs tip=>
  match qam P elem with
  |none=>none
  |some size=>match Nat.beq size t.cells with
   |false=>none
   |true=>match qbu xs.length (qpD xs.length tip) lo hi mx h with
    |none=>none
    |some (l,hg,m,h)=>match qc0 mx m hg h with
     |none=>none
     |some (tip',h)=>some (.vs t (cutL lo hi l hg xs) tip',h)
 |some .string,.str s=>
  match mx with
  |some _=>none
  |none=>match qbu s.size (some s.size) lo hi none h with
   |none=>none
   |some (l,hg,_,h)=>some (.str (s.extract l hg),h)
 |_,_=>none
theorem qmD{P:Program}{φ:Map}{t:TypeId}{x:V}{x':Value}{lo hi mx:Option V}{lo' hi' mx':Option Value}{h h':H}{v:V}
  (e:qgm P t x lo hi mx h=some (v,h')) (hh:h'.Holds) (hx:VRel φ x x') (hl:OptRel φ lo lo') (hhi:OptRel φ hi hi') (hmx:OptRel φ mx mx') (w:World):
  (∃r,(Instr.sliceAt t x' lo' hi' mx').run P w=.ok r w∧VRel φ v r)∧h.Holds∧h.Same h':=by
 unfold qgm at e
 split at e
 ·rename_i n elem a hu
  split at e
  ·cases e
  ·rename_i size hs
   split at e
   ·cases e
   ·rename_i l hg m h1 hb
    split at e
    ·cases e
    ·rename_i a1 h2 hsh
     cases e
     cases hx with
     |ptr _ k hk=>
      have hh1:h1.Holds:=by
       unfold qeu at hsh
       split at hsh
       ·cases hsh;exact hh
       ·split at hsh
        ·split at hsh
         ·rename_i ht;cases hsh;exact(H.test_holds ht hh).1
         ·rename_i ht;cases hsh;exact(H.test_holds ht hh).1
         ·cases hsh
        ·split at hsh
         ·rename_i ht _;cases hsh;exact(H.test_holds ht hh).1
         ·cases hsh
      obtain⟨b1,b2,m',b3,b4,b5,b6,b7,b8,b9⟩:=qbS (P:=P) (cap':=n) hb hh1 hl hhi hmx (Nat.le_refl _) (fun c e=>by cases e;rfl) w false
      obtain⟨c1,c2,c3,c4,c5⟩:=qhO hsh hh b7 b6 b5 k
      refine⟨⟨.slice (some (a1.real k)) (hg-l) (m'-l),?_,?_⟩,b1,b2.trans c2⟩
      ·simp[Instr.sliceAt,qaa hu,Instr.sureAddr,b3,qae hs,c4]
      ·refine .sl _ k _ _ _ (by rw[c3];exact hk) (by omega) ?_ ?_
       ·intro c ec
        cases m with
        |none=>simp at ec
        |some c'=>simp at ec;have:=b6 c' rfl;omega
       ·intro ec
        cases m with
        |none=>exact absurd rfl (b9 (by simp))
        |some c'=>simp at ec
 ·rename_i elem a len cap hu
  split at e
  ·cases e
  ·rename_i size hs
   split at e
   ·cases e
   ·rename_i l hg m h1 hb
    split at e
    ·unfold qft at e
     split at e
     ·split at e
      ·rename_i h2 ht
       cases e
       obtain⟨k1,k2,k3⟩:=H.test_holds ht hh
       cases hx with
       |sl _ k _ cap' _ hk hlc hc hz=>
        obtain⟨b1,b2,m',b3,b4,b5,b6,b7,b8,b9⟩:=qbS (P:=P) (cap':=cap') hb k1 hl hhi hmx hlc hc w true
        have hle:hg≤l:=by
         rcases Nat.lt_or_ge l hg with q|q
         ·rw[Nat.ble_eq_true_of_le (show l+1≤hg by omega)]at k2;cases k2
         ·exact q
        refine⟨⟨.slice (some (if m'=l then a.real k else(a.real k).add (l*size))) (hg-l) (m'-l),?_,?_⟩,b1,b2.trans k3⟩
        ·simp only[Instr.sliceAt,Sem.run_bind,qaa hu,Result.andThen_ok,Instr.slice,b3,qae hs]
         split<;>simp
        ·have hz0:hg-l=0:=by omega
         rw[hz0]
         exact .vs .bool [] .no _ 0 _ (Nat.zero_le _) ⟨rfl,.inl rfl⟩ trivial
      ·cases e
     ·cases e
    ·rename_i a1 h2 hsh
     cases e
     cases hx with
     |sl _ k _ cap' _ hk hlc hc hz=>
      have hh1:h1.Holds:=by
       unfold qeu at hsh
       split at hsh
       ·cases hsh;exact hh
       ·split at hsh
        ·split at hsh
         ·rename_i ht;cases hsh;exact(H.test_holds ht hh).1
         ·rename_i ht;cases hsh;exact(H.test_holds ht hh).1
         ·cases hsh
        ·split at hsh
         ·rename_i ht _;cases hsh;exact(H.test_holds ht hh).1
         ·cases hsh
      obtain⟨b1,b2,m',b3,b4,b5,b6,b7,b8,b9⟩:=qbS (P:=P) (cap':=cap') hb hh1 hl hhi hmx hlc hc w true
      obtain⟨c1,c2,c3,c4,c5⟩:=qhO hsh hh b7 b6 b5 k
      refine⟨⟨.slice (some (a1.real k)) (hg-l) (m'-l),?_,?_⟩,b1,b2.trans c2⟩
      ·simp only[Instr.sliceAt,Sem.run_bind,qaa hu,Result.andThen_ok,Instr.slice,b3,qae hs]
       rw[c4]
       split<;>simp
      ·refine .sl _ k _ _ _ (by rw[c3];exact hk) (by omega) ?_ ?_
       ·intro c ec
        cases m with
        |none=>simp at ec
        |some c'=>simp at ec;have:=b6 c' rfl;omega
       ·intro ec
        cases m with
        |none=>
         have hcn:cap=none:=by
          cases cap with
          |none=>rfl
          |some c=>exact absurd rfl (b9 (by simp))
         obtain⟨z1,z2⟩:=hz hcn
         obtain⟨y1,y2,y3⟩:=c5 rfl z1
         refine⟨y1,?_⟩
         rw[y2,y3]
         refine Nat.le_trans (Nat.mul_le_mul_right _ ?_) z2
         omega
        |some c'=>simp at ec
 ·rename_i elem _ _ hu
  split at e
  ·cases e
  ·rename_i size hs
   split at e
   ·cases e
   ·rename_i l hg m h1 hb
    cases e
    cases hx with
    |slNil cap hc=>
     obtain⟨b1,b2,m',b3,b4,b5,b6,b7,b8,b9⟩:=qbS (P:=P) (cap':=0) hb hh hl hhi hmx (Nat.le_refl _) (fun c e=>by cases e;rfl) w true
     have e1:m'=0:=by omega
     have e2:hg=0:=by omega
     have e3:l=0:=by omega
     subst e1 e2 e3
     refine⟨⟨.slice none 0 0,?_,.slNil _ (fun c e=>by cases e;rfl)⟩,b1,b2⟩
     simp[Instr.sliceAt,qaa hu,Instr.slice,b3,qae hs]
 ·rename_i elem t xs tip hu
  split at e
  ·cases e
  ·rename_i size hs
   split at e
   ·cases e
   ·rename_i hst
    have hst':=Nat.eq_of_beq_eq_true hst
    split at e
    ·cases e
    ·rename_i l hg m h1 hb
     split at e
     ·cases e
     ·rename_i tip' h2 hsh
      cases e
      cases hx with
      |vs _ _ _ a n cap' hn hsl htp=>
       have hnl:n=xs.length:=hsl.1
       subst hnl
       have key:h1.Holds∧h1.Same h'∧(tip'=.no∨(tip'=.tight∧m=some hg)):=by
        unfold qc0 at hsh
        split at hsh
        ·cases hsh;exact⟨hh,H.Same.refl _,.inl rfl⟩
        ·split at hsh
         ·cases hsh
         ·split at hsh
          ·rename_i ht
           cases hsh
           obtain⟨k1,k2,k3⟩:=H.test_holds ht hh
           exact⟨k1,k3,.inr ⟨rfl,by rw[Nat.eq_of_beq_eq_true k2]⟩⟩
          ·cases hsh
       obtain⟨hh1,s12,htip⟩:=key
       have hcap:∀c,qpD xs.length tip=some c→c=cap':=by
        intro c ec
        cases tip with
        |tight=>cases ec;exact htp.symm
        |_=>cases ec
       obtain⟨b1,b2,m',b3,b4,b5,b6,b7,b8,b9⟩:=qbS (P:=P) (cap':=cap') hb hh1 hl hhi hmx hn hcap w true
       have hgl:hg≤xs.length:=qkC hb hh1 (by
        intro c ec
        cases tip with
        |tight=>cases ec;exact Nat.le_refl _
        |_=>cases ec)
       obtain⟨c1,c2⟩:=qnc (lo:=lo) (hi:=hi) (xs:=xs) b7 (fun e=>by subst e;exact qmF hb) b4 hgl
       rw[c2]
       refine⟨⟨_,?_,(VRel.vs t xs tip a _ cap' hn hsl htp).vs_cut (m:=m') b4 hgl b5 ?_⟩,b1,b2.trans s12⟩
       ·simp only[Instr.sliceAt,Sem.run_bind,qaa hu,Result.andThen_ok,Instr.slice,b3,qae hs,Sem.run_pure,hst']
       ·rcases htip with h|⟨h,e⟩
        ·exact .inl h
        ·exact .inr ⟨h,(b6 _ e).symm⟩
 ·rename_i s hu
  split at e
  ·cases e
  ·split at e
   ·cases e
   ·rename_i l hg m h1 hb
    cases e
    cases hx
    obtain⟨b1,b2,m',b3,b4,b5,b6,b7,b8,b9⟩:=qbS (P:=P) (cap':=s.size) hb hh hl hhi hmx (Nat.le_refl _) (fun c e=>by cases e;rfl) w false
    have hn:mx'=none:=hmx.none rfl
    subst hn
    refine⟨⟨_,?_,.str _⟩,b1,b2⟩
    simp[Instr.sliceAt,qaa hu,Instr.slice,b3]
 ·cases e
def vlen(P:Program)(t:TypeId)(x:V):Option V:=
 match P.underlying t,x with
 |some .string,.str s=>some (.int .i64 s.size)
 |some (.array n _),_=>some (.int .i64 n)
 |some (.pointer arr),_=>match P.underlying arr with
  |some (.array n _)=>some (.int .i64 n)
  |_=>none
 |some (.slice _),.sl _ n _=>some (.int .i64 n)
 |some (.slice _),.vs _ l _=>some (.int .i64 l.length)
 |_,_=>none
theorem qpz{P:Program}{φ:Map}{t:TypeId}{x:V}{x':Value}{v:V}(e:vlen P t x=some v)(hx:VRel φ x x')(w:World)(ts:Array TypeId)(ty:TypeId)(h0:ts[0]?=some t)(args:Array Value)(h1:args[0]?=some x'):
  ∃r,(Builtin.len_ ts ty args).run P w=.ok r w∧VRel φ v r:=by
 unfold vlen at e
 split at e
 ·rename_i hu;cases e;cases hx;exact⟨_,by simp[Builtin.len_,h0,h1,qaa hu,goInt],.int _ _⟩
 ·rename_i hu;cases e;exact⟨_,by simp[Builtin.len_,h0,h1,qaa hu,goInt],.int _ _⟩
 ·rename_i hu
  split at e
  ·rename_i hv;cases e;exact⟨_,by simp[Builtin.len_,h0,h1,qaa hu,qaa hv,goInt],.int _ _⟩
  ·cases e
 ·rename_i hu;cases e;cases hx<;>exact⟨_,by simp[Builtin.len_,h0,h1,qaa hu,goInt],.int _ _⟩
 ·rename_i hu
  cases e
  cases hx with
  |vs _ _ _ _ _ _ hn hs ht=>
   have:=hs.1
   subst this
   exact⟨_,by simp[Builtin.len_,h0,h1,qaa hu,goInt],.int _ _⟩
 ·cases e
def vcap(P:Program)(t:TypeId)(x:V):Option V:=
 match P.underlying t,x with
 |some (.slice _),.sl _ _ (some n)=>some (.int .i64 n)
 |some (.slice _),.vs _ l .tight=>some (.int .i64 l.length)
 |_,_=>none
theorem qoZ{P:Program}{φ:Map}{t:TypeId}{x:V}{x':Value}{v:V}(e:vcap P t x=some v)(hx:VRel φ x x')(w:World)(ts:Array TypeId)(ty:TypeId)(h0:ts[0]?=some t)(args:Array Value)(h1:args[0]?=some x'):
  ∃r,(Builtin.cap_ ts ty args).run P w=.ok r w∧VRel φ v r:=by
 unfold vcap at e
 split at e
 ·rename_i n hu
  cases e
  cases hx with
  |slNil _ hc=>have:=hc n rfl;subst this;exact⟨_,by simp[Builtin.cap_,h0,h1,qaa hu,goInt],.int _ _⟩
  |sl _ _ _ _ _ _ _ hc _=>have:=hc n rfl;subst this;exact⟨_,by simp[Builtin.cap_,h0,h1,qaa hu,goInt],.int _ _⟩
 ·rename_i l hu
  cases e
  cases hx with
  |vs _ _ _ _ n cap hn hs ht=>
   have h2:=hs.1
   have h3:cap=n:=ht
   subst h2 h3
   exact⟨_,by simp[Builtin.cap_,h0,h1,qaa hu,goInt],.int _ _⟩
 ·cases e
def vmin(k:IntKind)(m:Int):List V→Option V
 |[]=>some (.int k m)
 |.int _ y::r=>vmin k (if y<m then y else m) r
 |_=>none
def vmax(k:IntKind)(m:Int):List V→Option V
 |[]=>some (.int k m)
 |.int _ y::r=>vmax k (if y>m then y else m) r
 |_=>none
theorem qlq{P:Program}{φ:Map}{k:IntKind}(w:World):∀(vs:List V)(rs:List Value)(m:Int)(v:V),vmin k m vs=some v→VRels φ vs rs →
  ∃r,(rs.foldlM Builtin.min2 (.int k m)).run P w=.ok r w∧VRel φ v r
 |[],_,m,v,e,h=>by cases h;simp[vmin]at e;subst e;exact⟨_,rfl,.int _ _⟩
 |x::vs,_,m,v,e,h=>by
  cases h with
  |cons hx ht=>
   unfold vmin at e
   split at e
   ·rename_i heq;cases heq
   ·rename_i heq
    cases heq
    cases hx
    obtain⟨r,hr,hv⟩:=qlq (P:=P) w vs _ _ _ e ht
    exact⟨r,by simp only[List.foldlM_cons,Builtin.min2,Sem.run_bind,Sem.run_pure,Result.andThen_ok];exact hr,hv⟩
   ·cases e
theorem qlN{P:Program}{φ:Map}{k:IntKind}(w:World):∀(vs:List V)(rs:List Value)(m:Int)(v:V),vmax k m vs=some v→VRels φ vs rs →
  ∃r,(rs.foldlM Builtin.max2 (.int k m)).run P w=.ok r w∧VRel φ v r
 |[],_,m,v,e,h=>by cases h;simp[vmax]at e;subst e;exact⟨_,rfl,.int _ _⟩
 |x::vs,_,m,v,e,h=>by
  cases h with
  |cons hx ht=>
   unfold vmax at e
   split at e
   ·rename_i heq;cases heq
   ·rename_i heq
    cases heq
    cases hx
    obtain⟨r,hr,hv⟩:=qlN (P:=P) w vs _ _ _ e ht
    exact⟨r,by simp only[List.foldlM_cons,Builtin.max2,Sem.run_bind,Sem.run_pure,Result.andThen_ok];exact hr,hv⟩
   ·cases e
def qeV(P:Program)(b:Builtin)(ts:Array TypeId)(args:List V):Option V:=
 match b with
 |.len=>match ts[0]?,args with
  |some t,x::_=>vlen P t x
  |_,_=>none
 |.cap=>match ts[0]?,args with
  |some t,x::_=>vcap P t x
  |_,_=>none
 |.min=>match args with
  |.int k m::r=>vmin k m r
  |_=>none
 |.max=>match args with
  |.int k m::r=>vmax k m r
  |_=>none
 |.complex=>match args with
  |[.flt k a,.flt k' b]=>qcx (Builtin.complex_ #[] 0 #[.float k a,.float k' b])
  |_=>none
 |.real=>match args with
  |[.cpx k a b]=>qcx (Builtin.real_ #[] 0 #[.complex k a b])
  |_=>none
 |.imag=>match args with
  |[.cpx k a b]=>qcx (Builtin.imag_ #[] 0 #[.complex k a b])
  |_=>none
 |_=>none
theorem qjI{P:Program}{φ:Map}{b:Builtin}{ts:Array TypeId}{ty:TypeId}{cs:Array Bool}{args:List V}{args':Array Value}{v:V}(e:qeV P b ts args=some v)(ha:VRels φ args args'.toList)(w:World):
  ∃r,(builtin b ts ty cs args').run P w=.ok (.value r) w∧VRel φ v r:=by
 unfold qeV at e
 split at e
 ·split at e
  ·rename_i t x r h0
   obtain⟨args'⟩:=args'
   cases ha with
   |@cons _ rr _ rs hx hr=>
    obtain⟨y,hy,hv⟩:=qpz e hx w ts ty h0 ⟨rr::rs⟩ rfl
    exact⟨y,by simp[builtin,hy],hv⟩
  ·cases e
 ·split at e
  ·rename_i t x r h0
   obtain⟨args'⟩:=args'
   cases ha with
   |@cons _ rr _ rs hx hr=>
    obtain⟨y,hy,hv⟩:=qoZ e hx w ts ty h0 ⟨rr::rs⟩ rfl
    exact⟨y,by simp[builtin,hy],hv⟩
  ·cases e
 ·split at e
  ·rename_i k m r
   obtain⟨args'⟩:=args'
   cases ha with
   |cons hx hr=>
    cases hx
    obtain⟨y,hy,hv⟩:=qlq (P:=P) w _ _ _ _ e hr
    exact⟨y,by simp[builtin,Builtin.min_,hy],hv⟩
  ·cases e
 ·split at e
  ·rename_i k m r
   obtain⟨args'⟩:=args'
   cases ha with
   |cons hx hr=>
    cases hx
    obtain⟨y,hy,hv⟩:=qlN (P:=P) w _ _ _ _ e hr
    exact⟨y,by simp[builtin,Builtin.max_,hy],hv⟩
  ·cases e
 ·split at e
  ·rename_i k a k' b
   obtain⟨args'⟩:=args'
   cases ha with
   |cons hx hr=>
    cases hx
    cases hr with
    |cons hx hr=>
     cases hx;cases hr
     obtain⟨y,hy,hv⟩:=qaA (φ:=φ) e P w
     have hy':(Builtin.complex_ ts ty #[.float k a,.float k' b]).run P w=.ok y w:=hy
     exact⟨y,by simp[builtin,hy'],hv⟩
  ·cases e
 ·split at e
  ·rename_i k a b
   obtain⟨args'⟩:=args'
   cases ha with
   |cons hx hr=>
    cases hx;cases hr
    obtain⟨y,hy,hv⟩:=qaA (φ:=φ) e P w
    have hy':(Builtin.real_ ts ty #[.complex k a b]).run P w=.ok y w:=hy
    exact⟨y,by simp[builtin,hy'],hv⟩
  ·cases e
 ·split at e
  ·rename_i k a b
   obtain⟨args'⟩:=args'
   cases ha with
   |cons hx hr=>
    cases hx;cases hr
    obtain⟨y,hy,hv⟩:=qaA (φ:=φ) e P w
    have hy':(Builtin.imag_ ts ty #[.complex k a b]).run P w=.ok y w:=hy
    exact⟨y,by simp[builtin,hy'],hv⟩
  ·cases e
 ·cases e
end Go.Vm

namespace Go.Vm
open Go
def vun(op:UnOp)(x:V):Option V:=
 match op,x with
 |.not,.bool b=>some (.bool !b)
 |op,.int k n=>qcx (Op.unary op (.int k n))
 |op,.flt k n=>qcx (Op.unary op (.float k n))
 |op,.cpx k a b=>qcx (Op.unary op (.complex k a b))
 |_,_=>none
theorem qp2{P:Program}{φ:Map}{op:UnOp}{x:V}{x':Value}{v:V}(e:vun op x=some v)(hx:VRel φ x x')(w:World):
  ∃r,(Op.unary op x').run P w=.ok r w∧VRel φ v r:=by
 unfold vun at e
 split at e
 ·cases e;cases hx;exact⟨_,rfl,.bool _⟩
 ·cases hx;exact qaA e P w
 ·cases hx;exact qaA e P w
 ·cases hx;exact qaA e P w
 ·cases e
def qqx(P:Program)(src dst:TypeId)(x:V):Option V:=
 match P.underlying src,P.underlying dst,x with
 |some _,some (.int k),.int _ n=>some (.int k (k.wrap n))
 |some .string,some .string,.str s=>some (.str s)
 |some _,some (.float k),.int _ n=>qcx (Conv.intToFloat k n)
 |some _,some (.int k),.flt s b=>qcx (Conv.floatToInt s b k)
 |_,_,_=>none
theorem qno{P:Program}{φ:Map}{s d:TypeId}{x:V}{x':Value}{v:V}(e:qqx P s d x=some v)(hx:VRel φ x x')(w:World):
  ∃r,(convert s d x').run P w=.ok r w∧VRel φ v r:=by
 unfold qqx at e
 split at e
 ·rename_i n b c
  cases e;cases hx
  refine⟨_,?_,.int _ _⟩
  simp[convert,qaa b,qaa c,Conv.intToInt]
 ·rename_i a b
  cases e;cases hx
  refine⟨_,?_,.str _⟩
  simp[convert,qaa a,qaa b]
 ·rename_i n b c
  cases hx
  obtain⟨r,hr,hv⟩:=qaA (φ:=φ) e P w
  exact⟨r,by simp[convert,qaa b,qaa c,hr],hv⟩
 ·rename_i n b c
  cases hx
  obtain⟨r,hr,hv⟩:=qaA (φ:=φ) e P w
  exact⟨r,by simp[convert,qaa b,qaa c,hr],hv⟩
 ·cases e
def vnil(x:V):Option V:=
 match x with
 |.bot|.ptr none|.nilFunc|.nilIface=>none
 |v=>some v
def qcA(P:Program)(op:Op)(ρ:Operand→V)(h:H):Option (V×H):=
 match op with
 |.move x=>some (ρ x,h)
 |.assign x=>some (ρ x,h)
 |.pick c a b=>match ρ c with
  |.bool t=>match h.test t with
   |some (true,h)=>some (ρ a,h)
   |some (false,h)=>some (ρ b,h)
   |none=>none
  |_=>none
 |.build t parts=>match qn7 P t (parts.toList.map fun x=>(x.1,ρ x.2))with
  |some v=>some (v,h)
  |none=>none
 |.nilCheck x=>match vnil (ρ x)with
  |some v=>some (v,h)
  |none=>none
 |.binOp op t x y _=>vbin P op t (ρ x) (ρ y) h
 |.unOp op _ x=>match vun op (ρ x)with
  |some v=>some (v,h)
  |none=>none
 |.convert s d x=>match qqx P s d (ρ x)with
  |some v=>some (v,h)
  |none=>none
 |.makeInterface t x=>match P.underlying t with
  |some (.interface _)=>none
  |some _=>some (.iface t (ρ x),h)
  |none=>none
 |.makeFunc fn first captured=>match fn with
  |.func f=>some (.func f (first.toList.map ρ) (captured.toList.map ρ),h)
  |_=>none
 |.slice t x lo hi mx=>qgm P t (ρ x) (lo.map ρ) (hi.map ρ) (mx.map ρ) h
 |.fieldAddr s x f=>match qcX P s (ρ x) f with
  |some v=>some (v,h)
  |none=>none
 |.field t x f=>match qj2 P t (ρ x) f with
  |some v=>some (v,h)
  |none=>none
 |.indexAddr t x i=>qbf P t (ρ x) (ρ i) h
 |.index t x i=>qeK P t (ρ x) (ρ i) h
 |.extract t i=>match ρ t with
  |.tuple vs=>match vs[i]? with
   |some v=>some (v,h)
   |none=>none
  |_=>none
 |.call { callee:=.builtin b,args,argTypes }=>match qeV P b argTypes (args.toList.map ρ)with
  |some v=>some (v,h)
  |none=>none
 |_=>none
theorem qaZ{φ:Map}{ρ:Operand→V}{ρ':Operand→Value}(hρ:∀x,VRel φ (ρ x) (ρ' x)):∀l:List Operand,VRels φ (l.map ρ) (l.map ρ')
 |[]=>.nil
 |x::l=>.cons (hρ x) (qaZ hρ l)
theorem qfm{φ:Map}{ρ:Operand→V}{ρ':Operand→Value}(hρ:∀x,VRel φ (ρ x) (ρ' x))(o:Option Operand):OptRel φ (o.map ρ) (o.map ρ'):=by
 cases o with
 |none=>trivial
 |some x=>exact hρ x
theorem qgw{P:Program}{φ:Map}{o:Oper}{ρ:Operand→V}{ρ':Operand→Value}{h h':H}{v:V}(e:qcA P o.op ρ h=some (v,h'))(hh:h'.Holds)(hρ:∀x,VRel φ (ρ x) (ρ' x))(w:World):
  (∃r,(execOp ρ' o).run P w=.ok (.value r) w∧VRel φ v r)∧h.Holds∧h.Same h':=by
 obtain⟨dst,op,ty,pos,after,guard⟩:=o
 have fin:∀{s:Sem Value}{v0:V},(∃r,s.run P w=.ok r w∧VRel φ v0 r)→(do pure (Next.value (←s)):Sem Next).run P w=(do pure (Next.value (←s)):Sem Next).run P w →
   ∃r,(do pure (Next.value (←s)):Sem Next).run P w=.ok (.value r) w∧VRel φ v0 r:=by
  rintro s v0 ⟨r,hr,hv⟩ _
  exact⟨r,by simp only[Sem.run_bind,hr,Result.andThen_ok,Sem.run_pure],hv⟩
 simp only[qcA]at e
 split at e
 ·cases e;exact⟨⟨_,rfl,hρ _⟩,hh,H.Same.refl _⟩
 ·cases e;exact⟨⟨_,rfl,hρ _⟩,hh,H.Same.refl _⟩
 ·rename_i c a b
  split at e
  ·rename_i t hc
   have hcr:=hρ c
   rw[hc]at hcr
   generalize hcv:ρ' c=cv at hcr
   cases hcr
   split at e
   ·rename_i h1 ht
    cases e
    obtain⟨h2,h3,h4⟩:=H.test_holds ht hh
    subst h3
    exact⟨⟨_,by simp[execOp,hcv,asBool],hρ a⟩,h2,h4⟩
   ·rename_i h1 ht
    cases e
    obtain⟨h2,h3,h4⟩:=H.test_holds ht hh
    subst h3
    exact⟨⟨_,by simp[execOp,hcv,asBool],hρ b⟩,h2,h4⟩
   ·cases e
  ·cases e
 ·rename_i t parts
  split at e
  ·rename_i u hu
   cases e
   refine⟨fin (qmH hu ?_ ?_ w) rfl,hh,H.Same.refl _⟩
   ·simp[List.map_map,Function.comp_def]
   ·simpa[List.map_map,Function.comp_def]using qaZ hρ (parts.toList.map (·.2))
  ·cases e
 ·rename_i x
  split at e
  ·rename_i u hu
   cases e
   have hx:=hρ x
   refine⟨⟨ρ' x,?_,?_⟩,hh,H.Same.refl _⟩
   ·generalize ρ x=vx at hu hx
    generalize hrx:ρ' x=rx at hx
    cases hx<;>simp_all [vnil,execOp]
   ·unfold vnil at hu
    split at hu<;>first|(cases hu;done)|(cases hu;exact hx)
  ·cases e
 ·rename_i op t x y yt
  obtain⟨h1,h2,h3⟩:=qpr (xo:=x) (yo:=y) w e hh (hρ x) (hρ y)
  exact⟨fin h1 rfl,h2,h3⟩
 ·split at e
  ·rename_i u hu
   cases e
   exact⟨fin (qp2 hu (hρ _) w) rfl,hh,H.Same.refl _⟩
  ·cases e
 ·split at e
  ·rename_i u hu
   cases e
   exact⟨fin (qno hu (hρ _) w) rfl,hh,H.Same.refl _⟩
  ·cases e
 ·rename_i t x
  split at e
  ·cases e
  ·rename_i d hd hu
   cases e
   refine⟨⟨.iface t (ρ' x),?_,.iface _ _ _ (hρ x)⟩,hh,H.Same.refl _⟩
   simp only[execOp,Instr.makeInterface,Sem.run_bind,qaa hu,Result.andThen_ok]
   cases d<;>first|rfl|exact(hd _ rfl).elim
  ·cases e
 ·rename_i fn first captured
  split at e
  ·cases e
   refine⟨⟨.func (.func _) (first.map ρ') (captured.map ρ'),rfl,.func _ _ _ _ _ ?_ ?_⟩,hh,H.Same.refl _⟩
   ·simpa using qaZ hρ first.toList
   ·simpa using qaZ hρ captured.toList
  ·cases e
 ·rename_i t x lo hi mx
  obtain⟨h1,h2,h3⟩:=qmD e hh (hρ x) (qfm hρ lo) (qfm hρ hi) (qfm hρ mx) w
  exact⟨fin h1 rfl,h2,h3⟩
 ·split at e
  ·rename_i u hu
   cases e
   exact⟨fin (qhp hu (hρ _) w) rfl,hh,H.Same.refl _⟩
  ·cases e
 ·split at e
  ·rename_i u hu
   cases e
   exact⟨fin (qmv hu (hρ _) w) rfl,hh,H.Same.refl _⟩
  ·cases e
 ·obtain⟨h1,h2,h3⟩:=qho e hh (hρ _) (hρ _) w
  exact⟨fin h1 rfl,h2,h3⟩
 ·obtain⟨h1,h2,h3⟩:=qmh e hh (hρ _) (hρ _) w
  exact⟨fin h1 rfl,h2,h3⟩
 ·rename_i t i
  split at e
  ·rename_i vs ht
   split at e
   ·rename_i u hu
    cases e
    have htr:=hρ t
    rw[ht]at htr
    generalize htv:ρ' t=tv at htr
    cases htr with
    |tuple _ rs hrs=>
     obtain⟨r,hr,hv⟩:=hrs.get i _ hu
     have hr':rs[i]?=some r:=by simpa using hr
     exact⟨⟨r,by simp[execOp,htv,Instr.extract,hr'],hv⟩,hh,H.Same.refl _⟩
   ·cases e
  ·cases e
 ·rename_i b args ts
  split at e
  ·rename_i u hu
   cases e
   refine⟨?_,hh,H.Same.refl _⟩
   simp only[execOp,resolve,invoke,Sem.run_bind,Sem.run_pure,Result.andThen_ok]
   exact qjI hu (by simpa using qaZ hρ args.toList) w
  ·cases e
 ·cases e
end Go.Vm

namespace Go.Vm
open Go
def H.push(h:H)(x:Ob):H:=H.casesOn h fun next ro objs ask said=>{ next:=next+1,ro:=ro,objs:=(next,x)::objs,ask:=ask,said:=said }
theorem H.push_eq(h:H)(x:Ob):h.push x={ h with next:=h.next+1,objs:=(h.next,x)::h.objs }:=by cases h;rfl
theorem H.push_holds{h:H}{x:Ob}(hh:(h.push x).Holds):h.Holds:=by rw[H.push_eq]at hh;exact hh
def Map.add(φ:Map)(b:Nat)(k:Nat×Nat×Nat):Map:={ φ with nm:=fun c=>if c=b then some k else φ c }
theorem qc8{l:List (Nat×Ob)}{b c:Nat}{x y:Ob}(e:look ((b,x)::l) c=some y):(b=c∧y=x)∨(b≠c∧look l c=some y):=by
 rw[look_eq]at e
 split at e
 ·rename_i h;cases e;exact .inl ⟨Nat.eq_of_beq_eq_true h,rfl⟩
 ·rename_i h
  split at e
  ·cases e
  ·exact .inr ⟨Nat.ne_of_beq_eq_false h,e⟩
theorem qaS{r:Option Ob}{x:Ob}(e:live r=some x):r=some x:=by
 unfold live at e
 split at e
 ·cases e
 ·exact e
theorem qk1{r:Option Ob}{x y:Ob}(e:live r=some x)(k:r=some y):live (some y)=some x:=by rw[←k];exact e
theorem H.get_push{h:H}{x y:Ob}{c:Nat}(e:(h.push x).get c=some y):(c=h.next∧y=x)∨(c≠h.next∧h.get c=some y):=by
 have e':=qaS e
 rcases qc8 (l:=h.objs) (b:=h.next) (x:=x) e' with⟨rfl,rfl⟩|⟨hne,hl⟩
 ·exact .inl ⟨rfl,rfl⟩
 ·refine .inr ⟨fun e=>hne e.symm,?_⟩
  have:live (some y)=some y:=qk1 e e'
  show live (look h.objs c)=some y
  rw[hl];exact this
theorem ObRel.ne_tip{φ:Map}{b:Bool}{z:Nat×Nat}{x:Ob}{o:Obj}(h:ObRel φ b z x o):x≠.tip:=by
 intro e;subst e;exact h
theorem Map.add_le{φ:Map}{h:H}{w:World}(hr:HRel φ h w)(k:Nat×Nat×Nat):φ.le (φ.add h.next k):=
 ⟨fun b n e=>by
  have:=(hr.dom b n e).1
  simp only[Map.add]
  rw[if_neg (by omega)];exact e,Frozen.le_refl _,fun _ _ e=>e,rfl⟩
theorem Goes.push{φ:Map}{h:H}{w w':World}(hr:HRel φ h w)(x:Ob)(o:Obj)(z:Nat×Nat)(hw:w'.heap=w.heap.push o)(h1:w'.os=w.os)(h2:w'.tape=w.tape)(h3:w'.output=w.output)
  (ho:ObRel φ true z x o):
  Goes φ h w (φ.add h.next (w.heap.size,z)) (h.push x) w'∧(φ.add h.next (w.heap.size,z)) h.next=some (w.heap.size,z):=by
 have hro:=hr.rle
 have hle:φ.le (φ.add h.next (w.heap.size,z)):=Map.add_le hr _
 have hsz:w'.heap.size=w.heap.size+1:=by rw[hw];simp
 have hold:∀k,k<w.heap.size→w'.heap[k]?=w.heap[k]?:=by
  intro k hk
  rw[hw,Array.getElem?_push,if_neg (by omega)]
 have htip:∀b,(h.push x).get b=some .tip→b≠h.next∧h.get b=some .tip:=by
  intro b hb
  rcases H.get_push hb with⟨_,e⟩|hb
  ·exact absurd e.symm ho.ne_tip
  ·exact hb
 refine⟨?_,by simp[Map.add]⟩
 constructor
 ·exact hle
 ·constructor
  ·intro b y hy hyt
   rcases H.get_push hy with⟨rfl,rfl⟩|⟨hne,hy⟩
   ·refine⟨(w.heap.size,z),o,by simp[Map.add],by rw[hw];simp,?_⟩
    have:Nat.ble (h.push y).ro h.next=true:=Nat.ble_eq_true_of_le hro
    rw[this]
    exact ho.mono hle
   ·obtain⟨k,o',hk,ho',hrel⟩:=hr.obj b y hy hyt
    exact⟨k,o',hle _ _ hk,by rw[hold _ (hr.dom _ _ hk).2];exact ho',hrel.mono hle⟩
  ·intro b b' y y' k k' hy hy' hb hne hk hk'
   simp only[Map.add]at hk hk'
   rcases H.get_push hy with⟨rfl,rfl⟩|⟨hnb,hy⟩
   ·rw[if_pos rfl]at hk
    cases hk
    rcases H.get_push hy' with⟨rfl,_⟩|⟨hnb',hy'⟩
    ·exact(hne rfl).elim
    ·have hk2:φ b'=some k':=by rw[if_neg hnb']at hk';exact hk'
     have:=(hr.dom _ _ hk2).2
     simp only
     omega
   ·have hk1:φ b=some k:=by rw[if_neg hnb]at hk;exact hk
    rcases H.get_push hy' with⟨rfl,_⟩|⟨hnb',hy'⟩
    ·rw[if_pos rfl]at hk'
     cases hk'
     have:=(hr.dom _ _ hk1).2
     simp only
     omega
    ·have hk2:φ b'=some k':=by rw[if_neg hnb']at hk';exact hk'
     exact hr.inj b b' y y' k k' hy hy' hb hne hk1 hk2
  ·intro b k e
   simp only[Map.add]at e
   split at e
   ·rename_i hb
    cases e
    subst hb
    simp only[H.push_eq]
    omega
   ·have:=hr.dom b k e
    simp only[H.push_eq]
    omega
  ·have:=hr.rle
   simp only[H.push_eq]
   omega
  ·intro k c e
   obtain⟨cs,t,q,e1,e2⟩:=hr.fz k c e
   exact⟨cs,t,q,by rw[hold _ (hr.fdom e)];exact e1,e2⟩
  ·intro b y k hy hk
   simp only[Map.add]at hk
   split at hk
   ·cases hk
    cases e:φ.fz w.heap.size with
    |none=>exact e
    |some c=>have:=hr.fdom e;omega
   ·rcases H.get_push hy with⟨hb',_⟩|⟨_,hy⟩
    ·contradiction
    ·exact hr.own b y k hy hk
  ·intro b hb
   obtain⟨m,h4,h5⟩:=hr.tip b (htip b hb).2
   refine⟨m,h4,fun blk en sz e=>?_⟩
   obtain⟨⟨c,hc,hcs⟩,cs,t,h6,h7⟩:=h5 blk en sz e
   exact⟨⟨c,hc,hcs⟩,cs,t,by rw[hold _ (hr.fdom hc)];exact h6,h7⟩
  ·intro b b' m m' hb hb' hne e e'
   exact hr.tinj b b' m m' (htip b hb).2 (htip b' hb').2 hne e e'
  ·intro b m e
   have:=hr.tdom b m e
   simp only[H.push_eq]
   omega
 ·simp[H.push_eq]
 ·rfl
 ·intro b k e
  simp only[Map.add]at e
  split at e
  ·rename_i hb
   cases e
   exact .inr ⟨by omega,.inl (Nat.le_refl _)⟩
  ·exact .inl e
 ·omega
 ·exact fun k hk _ _=>hold k hk
 ·exact fun _ _ e=>.inl e
 ·exact fun b _ _ hb=>(htip b hb).2
 ·exact fun _ _ e _=>.inl e
 ·exact h1
 ·exact h2
 ·exact h3
def qjP(P:Program)(t:TypeId)(x:V)(h:H):Option V:=
 match x with
 |.ptr (some a)=>match h.get a.b with
  |some (.box e r)=>
   match Nat.beq e a.e,r.get a.i with
   |true,some row=>
    match qg4 P t with
    |some true=>match qam P t with
     |some n=>match Nat.ble (a.o+n) row.length with
      |true=>some (.agg ((row.drop a.o).take n))
      |false=>none
     |none=>none
    |some false=>row[a.o]?
    |none=>none
   |_,_=>none
  |_=>none
 |.fp row=>match qg4 P t with
  |some true=>match qam P t with
   |some n=>match Nat.ble n row.length with
    |true=>some (.agg (row.take n))
    |false=>none
   |none=>none
  |some false=>row[0]?
  |none=>none
 |_=>none
theorem cell_of{w:World}{k:Nat}{c:Array Value}{t:TypeId}{fz:Nat×Nat}(h:w.heap[k]?=some (.cells c t fz))(n:Nat):w.cell? ⟨k,n,none⟩=c[n]?:=by
 simp[World.cell?,h]
theorem VA.real_add(a:VA)(k:Nat×Nat×Nat)(n:Nat):(a.real k).add n=⟨k.1,k.2.2+(a.i*a.e+a.o)+n,none⟩:=by
 unfold Addr.add VA.real
 split
 ·rename_i h;subst h;rfl
 ·rfl
theorem qbH{φ:Map}{e i:Nat}{r:Rows}{c:Array Value}(hr:RowsIn φ e r c){row:List V}(hg:r.get i=some row)(o n:Nat)(hn:o+n≤row.length):
  ∃rs:List Value,rs.length=n∧VRels φ ((row.drop o).take n) rs∧∀j v,rs[j]?=some v→c[i*e+o+j]?=some v:=by
 induction n generalizing o with
 |zero=>exact⟨[],rfl,by simpa using .nil,by simp⟩
 |succ n ih=>
  obtain⟨rs,h1,h2,h3⟩:=ih (o+1) (by omega)
  have hlt:o<row.length:=by omega
  obtain⟨x,hx,hv⟩:=(hr i row hg).2 o row[o] (by simp[hlt])
  refine⟨x::rs,by simp[h1],?_,?_⟩
  ·rw[List.drop_eq_getElem_cons hlt,List.take_succ_cons]
   exact .cons hv h2
  ·intro j v hj
   cases j with
   |zero=>simp at hj;subst hj;exact hx
   |succ j=>simp at hj;have:=h3 j v hj;rw[←this];congr 1;omega
theorem qjG{P:Program}{φ:Map}{t:TypeId}{x:V}{x':Value}{h:H}{v:V}{w:World}(e:qjP P t x h=some v)(hx:VRel φ x x')(hr:HRel φ h w):
  ∃r,(Instr.loadAt t x').run P w=.ok r w∧VRel φ v r:=by
 unfold qjP at e
 split at e
 ·rename_i a
  split at e
  ·rename_i el r hg
   split at e
   ·rename_i row he hrow
    have he':el=a.e:=Nat.eq_of_beq_eq_true he
    subst he'
    cases hx with
    |ptr _ k hk=>
     obtain⟨k',o,hk',ho,hrel⟩:=hr.obj _ _ hg (by simp)
     rw[hk]at hk';cases hk'
     cases o with
     |cells c tt fz=>
      obtain⟨hri,hcz,hfz⟩:=hrel
      split at e
      ·rename_i hag
       split at e
       ·rename_i n hn
        split at e
        ·rename_i hle
         cases e
         have hle':=Nat.le_of_ble_eq_true hle
         obtain⟨rs,h1,h2,h3⟩:=qbH hri hrow a.o n hle'
         refine⟨.agg rs.toArray,?_,.agg _ _ (by simpa using h2)⟩
         have:=run_loadCells_list (P:=P) w (a.real k) rs (fun j u hj=>by
          rw[VA.real_add,cell_of ho]
          have:=h3 j u hj
          rw[qci]at this
          rw[←this];congr 1;omega)
         rw[h1]at this
         simp[Instr.loadAt,Instr.sureAddr,loadVar,qcw hag,qae hn,this]
        ·cases e
       ·cases e
      ·rename_i hag
       obtain⟨y,hy,hv⟩:=(hri _ _ hrow).2 a.o v e
       refine⟨y,?_,hv⟩
       rw[qci]at hy
       have:w.cell? (a.real k)=some y:=by
        have h0:=cell_of ho (k.2.2+(a.i*a.e+a.o))
        rw[hy]at h0;exact h0
       simp[Instr.loadAt,Instr.sureAddr,loadVar,qcw hag,run_load,this]
      ·cases e
     |_=>exact hrel.elim
   ·cases e
  ·cases e
 ·rename_i row
  cases hx with
  |fp _ a c xs hs hz hx hc=>
   obtain⟨cs,tt,z,hw,hb⟩:=hr.fz _ _ hz
   have hcell:∀(j:Nat)(u:Value),xs[j]?=some u→w.cell? (a.add j)=some u:=by
    intro j u hj
    have h0:=hb _ _ (hc j u hj)
    have:a.add j=⟨a.block,a.off+j,none⟩:=by
     obtain⟨b,o,s⟩:=a
     simp only at hs
     subst hs
     unfold Addr.add;split<;>simp_all
    rw[this,cell_of hw];exact h0
   split at e
   ·rename_i hag
    split at e
    ·rename_i n hn
     split at e
     ·rename_i hle
      cases e
      have hle':=Nat.le_of_ble_eq_true hle
      have hl:=hx.length
      refine⟨.agg (xs.take n).toArray,?_,.agg _ _ (by simpa using hx.take n)⟩
      have:=run_loadCells_list (P:=P) w a (xs.take n) (fun j u hj=>by
       rw[List.getElem?_take]at hj
       split at hj
       ·exact hcell j u hj
       ·cases hj)
      have hlen:(xs.take n).length=n:=by simp;omega
      rw[hlen]at this
      simp[Instr.loadAt,Instr.sureAddr,loadVar,qcw hag,qae hn,this]
     ·cases e
    ·cases e
   ·rename_i hag
    obtain⟨y,hy,hv⟩:=hx.get _ _ e
    refine⟨y,?_,hv⟩
    have h0:=hcell 0 y hy
    have:a.add 0=a:=by simp[Addr.add]
    rw[this]at h0
    simp[Instr.loadAt,Instr.sureAddr,loadVar,qcw hag,run_load,h0]
   ·cases e
 ·cases e
structure Wrote(w w':World)(k:Nat)(c c':Array Value)(t:TypeId):Prop where
 here:w'.heap[k]?=some (.cells c' t (0,0))
 size:w'.heap.size=w.heap.size
 csize:c'.size=c.size
 other:∀j,j≠k→w'.heap[j]?=w.heap[j]?
 os:w'.os=w.os
 tape:w'.tape=w.tape
 output:w'.output=w.output
theorem qbj{P:Program}{k off:Nat}{t:TypeId}:∀(vs:List Value)(i:Nat)(w:World)(c:Array Value),w.heap[k]?=some (.cells c t (0,0))→off+i+vs.length≤c.size→(∀v∈vs,v.oneCell'=true) →
  ∃w' c',(storeCells ⟨k,off,none⟩ vs i).run P w=.ok () w'∧Wrote w w' k c c' t∧c'.toList=c.toList.take (off+i)++(vs++c.toList.drop (off+i+vs.length))
 |[],i,w,c,hk,hle,hv=>⟨w,c,rfl,⟨hk,rfl,rfl,fun _ _=>rfl,rfl,rfl,rfl⟩,by simp⟩
 |v::vs,i,w,c,hk,hle,hv=>by
  simp only[List.length_cons]at hle
  have hadd:(⟨k,off,none⟩:Addr).add i=⟨k,off+i,none⟩:=by unfold Addr.add;split<;>simp_all
  have hcell:w.cell? ⟨k,off+i,none⟩=some (c[off+i]'(by omega)):=by rw[cell_of hk];simp
  have hfz:w.frozen? ⟨k,off+i,none⟩=false:=by simp[World.frozen?,hk]
  have hlt:k<w.heap.size:=by
   rcases Nat.lt_or_ge k w.heap.size with h|h
   ·exact h
   ·rw[Array.getElem?_eq_none h]at hk;cases hk
  have hk1:(w.setCell ⟨k,off+i,none⟩ v).heap[k]?=some (.cells (c.setIfInBounds (off+i) v) t (0,0)):=by
   simp[World.setCell,Array.getElem?_modify,hk]
  obtain⟨w',c',hrun,hw,hl⟩:=qbj (P:=P) (k:=k) (off:=off) (t:=t) vs (i+1) (w.setCell ⟨k,off+i,none⟩ v) (c.setIfInBounds (off+i) v) hk1 (by simp;omega) (fun u hu=>hv u (by simp[hu]))
  refine⟨w',c',?_,⟨hw.here,?_,?_,?_,?_,?_,?_⟩,?_⟩
  ·simp only[storeCells,Sem.run_bind,hadd,run_store P w _ v .plain (hv v (by simp)),hcell,hfz,Bool.false_eq_true,if_false,Result.andThen_ok,hrun]
  ·rw[hw.size];simp[World.setCell]
  ·rw[hw.csize];simp
  ·intro j hj
   rw[hw.other j hj]
   simp only[World.setCell,Array.getElem?_modify]
   rw[if_neg (fun e=>hj e.symm)]
  ·exact hw.os
  ·exact hw.tape
  ·exact hw.output
  ·rw[hl]
   simp only[Array.toList_setIfInBounds,List.length_cons]
   have h1:off+i<c.toList.length:=by simp;omega
   rw[show off+(i+1)=off+i+1 from rfl,List.take_set,List.drop_set_of_lt (by omega),List.take_succ_eq_append_getElem h1,List.set_append_right _ _ (by simp;omega)]
   simp only[List.length_take,List.append_assoc]
   rw[show min (off+i) c.toList.length=off+i from by omega]
   simp only[Nat.sub_self,List.set_cons_zero,List.cons_append,List.nil_append]
   congr 3
   rw[show off+i+1+vs.length=off+i+(vs.length+1)from by omega]
theorem qbn{a b:Nat}(h:a≠b):Nat.beq a b=false:=by
 cases hb:Nat.beq a b with
 |false=>rfl
 |true=>exact absurd (Nat.eq_of_beq_eq_true hb) h
def upd:List (Nat×Ob)→Nat→Ob→List (Nat×Ob)
 |[]=>fun _ _=>[]
 |p::r=>fun b x=>Bool.casesOn (Nat.beq p.1 b) (p::upd r b x) ((p.1,x)::r)
theorem qp5(b:Nat)(x:Ob):upd [] b x=[]:=rfl
theorem qro(c:Nat)(y:Ob)(r:List (Nat×Ob))(b:Nat)(x:Ob):upd ((c,y)::r) b x=if Nat.beq c b then(c,x)::r else(c,y)::upd r b x:=by
 simp only[upd]
 cases Nat.beq c b<;>rfl
theorem qbY{b:Nat}{x:Ob}:∀(l:List (Nat×Ob))(c:Nat),look (upd l b x) c=if b=c then(look l c).map (fun _=>x)else look l c
 |[],c=>by simp[qp5,look_nil]
 |(a,y)::r,c=>by
  have ih:=qbY (b:=b) (x:=x) r c
  rw[qro]
  by_cases hab:a=b
  ·subst hab
   simp only[Nat.beq_refl,if_true,look_eq]
   by_cases hac:a=c
   ·subst hac;simp
   ·simp only[qbn hac,if_neg hac]
  ·simp only[qbn hab,Bool.false_eq_true,if_false,look_eq]
   by_cases hac:a=c
   ·subst hac;simp[Ne.symm hab]
   ·simp only[qbn hac]
    cases Nat.ble a c with
    |true=>by_cases hbc:b=c<;>simp[hbc]
    |false=>exact ih
def H.set(h:H)(b:Nat)(x:Ob):H:=H.casesOn h fun next ro objs ask said=>{ next:=next,ro:=ro,objs:=upd objs b x,ask:=ask,said:=said }
theorem H.set_eq(h:H)(b:Nat)(x:Ob):h.set b x={ h with objs:=upd h.objs b x }:=by cases h;rfl
theorem Goes.write{φ:Map}{h:H}{w w':World}(hr:HRel φ h w){b:Nat}{y x:Ob}{k:Nat×Nat×Nat}{o:Obj}(hg:h.get b=some y)(hro:h.ro≤b)(hk:φ b=some k)
  (hhere:w'.heap[k.1]?=some o) (hsz:w'.heap.size=w.heap.size) (hother:∀j,j≠k.1→w'.heap[j]?=w.heap[j]?) (h1:w'.os=w.os) (h2:w'.tape=w.tape) (h3:w'.output=w.output)
  (ho:ObRel φ true k.2 x o):Goes φ h w φ (h.set b x) w':=by
 have hget:∀c z,(h.set b x).get c=some z→(c=b∧z=x)∨(c≠b∧h.get c=some z):=by
  intro c z hz
  simp only[H.get,H.set_eq,qbY]at hz
  split at hz
  ·rename_i e
   subst e
   left
   have hz:=qaS hz
   cases hl:look h.objs b with
   |none=>simp[hl]at hz
   |some u=>simp[hl]at hz;exact⟨rfl,hz.symm⟩
  ·rename_i hne
   exact .inr ⟨fun e=>hne e.symm,hz⟩
 have hlive:∀c z,(h.set b x).get c=some z→∃z',h.get c=some z':=by
  intro c z hz
  rcases hget c z hz with⟨rfl,_⟩|⟨_,hz⟩
  ·exact⟨_,hg⟩
  ·exact⟨_,hz⟩
 have htip:∀c,(h.set b x).get c=some .tip→c≠b∧h.get c=some .tip:=by
  intro c hc
  rcases hget c _ hc with⟨_,e⟩|hc
  ·exact absurd e.symm ho.ne_tip
  ·exact hc
 have hfb:φ.fz k.1=none:=hr.own b y k hg hk
 have hfo:∀n c,φ.fz n=some c→n≠k.1:=by
  intro n c e e'
  rw[e',hfb]at e;cases e
 constructor
 ·exact Map.le_refl _
 ·constructor
  ·intro c z hz hzt
   rcases hget c z hz with⟨rfl,rfl⟩|⟨hne,hz⟩
   ·refine⟨k,o,hk,hhere,?_⟩
    have:Nat.ble (h.set c z).ro c=true:=Nat.ble_eq_true_of_le hro
    rw[this];exact ho
   ·obtain⟨k',o',hk',ho',hrel⟩:=hr.obj c z hz hzt
    refine⟨k',o',hk',?_,hrel⟩
    rw[hother _ (fun e=>hr.inj b c y z k k' hg hz hro (Ne.symm hne) hk hk' e.symm)]
    exact ho'
  ·intro c c' z z' n n' hz hz' hc hne hn hn'
   obtain⟨u,hu⟩:=hlive c z hz
   obtain⟨u',hu'⟩:=hlive c' z' hz'
   exact hr.inj c c' u u' n n' hu hu' hc hne hn hn'
  ·intro c n e
   have:=hr.dom c n e
   simp only[H.set_eq];omega
  ·exact hr.rle
  ·intro n c e
   obtain⟨cs,t,q,e1,e2⟩:=hr.fz n c e
   exact⟨cs,t,q,by rw[hother _ (hfo n c e)];exact e1,e2⟩
  ·intro c z n hz hn
   obtain⟨u,hu⟩:=hlive c z hz
   exact hr.own c u n hu hn
  ·intro c hc
   obtain⟨m,h4,h5⟩:=hr.tip c (htip c hc).2
   refine⟨m,h4,fun blk en sz e=>?_⟩
   obtain⟨⟨c',hc',hcs⟩,cs,t,h6,h7⟩:=h5 blk en sz e
   exact⟨⟨c',hc',hcs⟩,cs,t,by rw[hother _ (hfo _ _ hc')];exact h6,h7⟩
  ·intro c c' m m' hc hc' hne e e'
   exact hr.tinj c c' m m' (htip c hc).2 (htip c' hc').2 hne e e'
  ·intro c m e
   have:=hr.tdom c m e
   simp only[H.set_eq];omega
 ·exact Nat.le_refl _
 ·rfl
 ·exact fun _ _ e=>.inl e
 ·omega
 ·intro j hj hf _
  exact hother j (fun e=>hf b k hro hk e.symm)
 ·exact fun _ _ e=>.inl e
 ·exact fun c _ _ hc=>(htip c hc).2
 ·exact fun _ _ e _=>.inl e
 ·exact h1
 ·exact h2
 ·exact h3
def qiK:(t:Ty)→List V→Option (t.data×List V)
 |.int k,cs=>match cs with
  |.int j n::r=>match kindEq? j k with
   |some _=>some (n,r)
   |none=>none
  |_=>none
 |.bool,cs=>match cs with
  |.bool b::r=>some (b,r)
  |_=>none
 |.str,cs=>match cs with
  |.str s::r=>some (s,r)
  |_=>none
 |.unit,cs=>some ((),cs)
 |.pair a b,cs=>match qiK a cs with
  |some (x,r)=>match qiK b r with
   |some (y,r)=>some ((x,y),r)
   |none=>none
  |none=>none
 |.slice _,_=>none
theorem qez:∀(t:Ty)(cs:List V)(d:t.data)(r:List V),qiK t cs=some (d,r)→cs=cellsV t d++r
 |.int k,cs,d,r,h=>by
  simp only[qiK]at h
  split at h
  ·split at h
   ·rename_i p hp
    obtain⟨p⟩:=p
    subst p
    cases h;rfl
   ·cases h
  ·cases h
 |.bool,cs,d,r,h=>by
  simp only[qiK]at h
  split at h
  ·cases h;rfl
  ·cases h
 |.str,cs,d,r,h=>by
  simp only[qiK]at h
  split at h
  ·cases h;rfl
  ·cases h
 |.unit,cs,d,r,h=>by
  simp only[qiK]at h
  cases h;rfl
 |.pair a b,cs,d,r,h=>by
  simp only[qiK]at h
  split at h
  ·rename_i x r1 h1
   split at h
   ·rename_i y r2 h2
    cases h
    rw[qez a cs x r1 h1,qez b r1 y _ h2]
    simp only[cellsV,List.append_assoc]
   ·cases h
  ·cases h
 |.slice _,cs,d,r,h=>by cases h
def Rows.set(r:Rows)(i:Nat)(row:List V):Rows:=
 match r with
 |.list l=>.list (l.set i row)
 |.fn n f=>.fn n (fun j=>if Nat.beq j i then row else f j)
 |.ty t l=>match qiK t row with
  |some (d,[])=>.ty t (l.set i d)
  |_=>.fn l.length (fun j=>if Nat.beq j i then row else cellsV t (l.getD j t.dflt))
theorem Rows.get_set{r:Rows}{i:Nat}{row old:List V}(h:r.get i=some old)(j:Nat):(r.set i row).get j=if i=j then some row else r.get j:=by
 cases r with
 |list l=>
  simp only[Rows.get,Rows.set]at h ⊢
  rw[List.getElem?_set]
  by_cases e:i=j
  ·subst e
   have:i<l.length:=by
    rcases Nat.lt_or_ge i l.length with h'|h'
    ·exact h'
    ·rw[List.getElem?_eq_none h']at h;cases h
   simp[this]
  ·simp[e]
 |fn n f=>
  simp only[Rows.get,Rows.set]at h ⊢
  by_cases e:i=j
  ·subst e
   split at h
   ·rename_i hlt;simp[hlt]
   ·cases h
  ·have:Nat.beq j i=false:=qbn (Ne.symm e)
   simp[e,this]
 |ty t l=>
  have hlt:i<l.length:=by
   rcases Nat.lt_or_ge i l.length with h'|h'
   ·exact h'
   ·simp only[Rows.get,List.getElem?_eq_none h']at h;cases h
  simp only[Rows.set]
  split
  ·rename_i d hd
   have hc:=qez t row d [] hd
   rw[List.append_nil]at hc
   simp only[Rows.get]
   rw[List.getElem?_set]
   by_cases e:i=j
   ·subst e;simp[hlt,hc]
   ·simp[e]
  ·simp only[Rows.get]
   by_cases e:i=j
   ·subst e;simp[hlt]
   ·have:Nat.beq j i=false:=qbn (Ne.symm e)
    simp only[this,e,if_false]
    by_cases hj:j<l.length
    ·simp[hj,List.getD]
    ·simp[hj]
def vput(h:H)(a:VA)(cs:List V):Option H:=
 match h.get a.b with
 |some (.box e r)=>
  match Nat.beq e a.e,r.get a.i,Nat.ble h.ro a.b,cs.all qeM with
  |true,some row,true,true=>
   match Nat.ble (a.o+cs.length) row.length with
   |true=>some (h.set a.b (.box e (r.set a.i (row.take a.o++(cs++row.drop (a.o+cs.length))))))
   |false=>none
  |_,_,_,_=>none
 |_=>none
theorem qi8{φ:Map}:∀{cs:List V}{rs:List Value},VRels φ cs rs→cs.all qeM=true→∀v∈rs,v.oneCell'=true
 |[],_,h,_=>by cases h;simp
 |c::cs,_,h,e=>by
  cases h with
  |cons hv ht=>
   simp only[List.all_cons,Bool.and_eq_true]at e
   intro v hm
   rcases List.mem_cons.1 hm with rfl|hm
   ·exact qfh hv e.1
   ·exact qi8 ht e.2 v hm
theorem RowsIn.write{φ:Map}{e:Nat}{r:Rows}{c c':Array Value}(hri:RowsIn φ e r c){i:Nat}{row:List V}(hrow:r.get i=some row){o:Nat}{cs:List V}{rs:List Value}(hcs:VRels φ cs rs)(ho:o+cs.length≤row.length)
  (hc:c'.toList=c.toList.take (i*e+o)++(rs++c.toList.drop (i*e+o+rs.length))) (hsz:i*e+o+rs.length≤c.size):
  RowsIn φ e (r.set i (row.take o++(cs++row.drop (o+cs.length)))) c':=by
 have hl:=hcs.length
 have hre:=(hri i row hrow).1
 have hget:∀n,c'[n]?=if n<i*e+o then c[n]? else if n<i*e+o+rs.length then rs[n-(i*e+o)]? else c[n]?:=by
  intro n
  rw[←Array.getElem?_toList,hc]
  have hmin:min (i*e+o) c.size=i*e+o:=by omega
  split
  ·rename_i h
   rw[List.getElem?_append_left (by simp;omega),List.getElem?_take,if_pos h];simp
  ·rename_i h
   rw[List.getElem?_append_right (by simp;omega)]
   simp only[List.length_take,Array.length_toList,hmin]
   split
   ·rename_i h2
    rw[List.getElem?_append_left (by omega)]
   ·rename_i h2
    rw[List.getElem?_append_right (by omega),List.getElem?_drop]
    simp only[Array.getElem?_toList]
    congr 1;omega
 intro j row' hj
 rw[Rows.get_set hrow]at hj
 split at hj
 ·rename_i e'
  subst e'
  cases hj
  refine⟨by simp;omega,?_⟩
  intro q v hq
  rw[hget]
  by_cases h1:q<o
  ·rw[List.getElem?_append_left (by simp;omega),List.getElem?_take,if_pos h1]at hq
   rw[if_pos (by omega)]
   exact(hri i row hrow).2 q v hq
  ·rw[List.getElem?_append_right (by simp;omega)]at hq
   simp only[List.length_take,show min o row.length=o from by omega]at hq
   rw[if_neg (by omega)]
   by_cases h2:q<o+cs.length
   ·rw[List.getElem?_append_left (by omega)]at hq
    obtain⟨x,hx,hv⟩:=hcs.get _ _ hq
    rw[if_pos (by omega)]
    exact⟨x,by rw[←hx];congr 1;omega,hv⟩
   ·rw[List.getElem?_append_right (by omega),List.getElem?_drop]at hq
    rw[if_neg (by omega)]
    obtain⟨x,hx,hv⟩:=(hri i row hrow).2 (o+cs.length+(q-o-cs.length)) v hq
    exact⟨x,by rw[←hx];congr 1;omega,hv⟩
 ·rename_i hne
  obtain⟨h1,h2⟩:=hri j row' hj
  refine⟨h1,fun q v hq=>?_⟩
  obtain⟨x,hx,hv⟩:=h2 q v hq
  refine⟨x,?_,hv⟩
  rw[hget]
  have hq':q<e:=by
   rcases Nat.lt_or_ge q row'.length with h|h
   ·omega
   ·rw[List.getElem?_eq_none h]at hq;cases hq
  rcases Nat.lt_or_ge j i with hji|hji
  ·have:(j+1)*e≤i*e:=Nat.mul_le_mul_right e hji
   rw[Nat.add_mul]at this
   rw[if_pos (by omega)];exact hx
  ·have:(i+1)*e≤j*e:=Nat.mul_le_mul_right e (by omega)
   rw[Nat.add_mul]at this
   rw[if_neg (by omega),if_neg (by omega)];exact hx
theorem qee{P:Program}{φ:Map}{h h':H}{a:VA}{cs:List V}{rs:List Value}{k:Nat×Nat×Nat}{w:World}(e:vput h a cs=some h')(hr:HRel φ h w)(hk:φ a.b=some k)(hcs:VRels φ cs rs):
  ∃w',(storeCells (a.real k) rs).run P w=.ok () w'∧Goes φ h w φ h' w'∧h'.said=h.said:=by
 unfold vput at e
 split at e
 ·rename_i el r hg
  split at e
  ·rename_i row he hrow hro hcell
   split at e
   ·rename_i hle
    cases e
    have he':el=a.e:=Nat.eq_of_beq_eq_true he
    subst he'
    have hro':=Nat.le_of_ble_eq_true hro
    have hle':=Nat.le_of_ble_eq_true hle
    obtain⟨k',o,hk',ho,hrel⟩:=hr.obj _ _ hg (by simp)
    rw[hk]at hk';cases hk'
    rw[hro]at hrel
    cases o with
    |cells c tt fz=>
     obtain⟨hri,hcz,hfz⟩:=hrel
     obtain⟨hfz',hz0⟩:=hfz rfl
     subst hfz'
     rw[hz0,qa8]at hri
     have hreal:a.real k=⟨k.1,a.i*a.e+a.o,none⟩:=by unfold VA.real;rw[hz0,Nat.zero_add]
     rw[hreal]
     have hl:=hcs.length
     have hsz:a.i*a.e+a.o+rs.length≤c.size:=by
      obtain⟨xs,x1,x2,x3⟩:=qbH hri hrow a.o cs.length hle'
      rcases Nat.eq_zero_or_pos rs.length with hz|hp
      ·rw[hz]
       rcases Nat.eq_zero_or_pos row.length with hzz|hpp
       ·have h0:a.e=0:=by rw[←(hri _ _ hrow).1];exact hzz
        rw[h0]
        simp
        omega
       ·have hlast:=(hri _ _ hrow).2 (row.length-1) (row[row.length-1]'(by omega)) (by simp)
        obtain⟨x,hx,_⟩:=hlast
        have:=(Array.getElem?_eq_some_iff.1 hx).1
        omega
      ·have:xs[cs.length-1]?=some (xs[cs.length-1]'(by omega)):=by simp
       have:=x3 _ _ this
       have:=(Array.getElem?_eq_some_iff.1 this).1
       omega
     obtain⟨w',c',hrun,hw,hcl⟩:=qbj (P:=P) (k:=k.1) (off:=a.i*a.e+a.o) (t:=tt) rs 0 w c ho (by omega) (qi8 hcs hcell)
     refine⟨w',hrun,?_,rfl⟩
     refine Goes.write hr hg hro' hk hw.here hw.size hw.other hw.os hw.tape hw.output ⟨?_,?_,fun _=>⟨rfl,hz0⟩⟩
     ·rw[hz0,qa8];exact hri.write hrow hcs hle' (by simpa using hcl) hsz
     ·rw[hw.csize];exact hcz
    |_=>exact hrel.elim
   ·cases e
  ·cases e
 ·cases e
def qbT(P:Program)(t:TypeId)(o:Nat)(row:List V):Option V:=
 match qg4 P t with
 |some true=>match qam P t with
  |some n=>match Nat.ble (o+n) row.length with
   |true=>some (.agg ((row.drop o).take n))
   |false=>none
  |none=>none
 |some false=>row[o]?
 |none=>none
def qiI(P:Program)(t:TypeId)(u:Uni)(o len:Nat):Option (V×Nat):=
 match qg4 P t with
 |some false=>some (u.get o,1)
 |some true=>match qam P t with
  |some n=>match Nat.beq n len with
   |true=>none
   |false=>some (.agg ((List.range n).map fun j=>u.get (o+j)),n)
  |none=>none
 |none=>none
theorem qh4{P:Program}{t:TypeId}{h:H}{row:List V}{u:Uni}{d o len n:Nat}{v:V}(e:qiI P t u o len=some (v,n))(hu:qdz h (row.drop d)=some u)(hle:d+o+n≤row.length):qbT P t (d+o) row=some v:=by
 have hget:∀j,d+o+j<row.length→row[d+o+j]?=some (u.get (o+j)):=fun j hj=>by
  have:=qg7 hu (o:=o+j) (by simp;omega)
  rw[List.getElem?_drop]at this
  rw[←this];congr 1;omega
 unfold qiI at e
 split at e
 ·rename_i hag
  cases e
  unfold qbT
  rw[hag]
  exact hget 0 (by omega)
 ·rename_i hag
  split at e
  ·rename_i m hm
   split at e
   ·cases e
   ·cases e
    unfold qbT
    rw[hag,hm]
    have hl:(row.drop (d+o)).take n=(List.range n).map fun j=>u.get (o+j):=by
     apply List.ext_getElem?
     intro j
     rw[List.getElem?_take,List.getElem?_map]
     split
     ·rename_i hj
      rw[List.getElem?_drop,List.getElem?_range hj,hget j (by omega)]
      rfl
     ·rename_i hj
      rw[List.getElem?_eq_none (by simpa using hj)]
      rfl
    show(match Nat.ble (d+o+n) row.length with
     |true=>some (V.agg ((row.drop (d+o)).take n))
     |false=>none)=_
    rw[Nat.ble_eq_true_of_le hle,hl]
  ·cases e
 ·cases e
def qcC(P:Program)(t:TypeId)(o:Nat)(row:List V)(h:H):Option (V×H):=
 match qbT P t o row with
 |some v=>some (v,h)
 |none=>none
def qey(P:Program)(t:TypeId)(o:Nat)(row:List V)(h:H):Option (V×H):=
 match qdz h row with
 |some u=>match qiI P t u o row.length with
  |some (v,n)=>match h.test (Nat.ble (o+n) row.length)with
   |some (true,h)=>some (v,h)
   |_=>none
  |none=>qcC P t o row h
 |none=>match qdz h (row.drop 1)with
  |none=>qcC P t o row h
  |some u=>match h.test (Nat.ble 1 o)with
   |some (true,h)=>match qiI P t u (o-1) row.length with
    |some (v,n)=>match h.test (Nat.ble (o+n) row.length)with
     |some (true,h)=>some (v,h)
     |_=>none
    |none=>qcC P t o row h
   |some (false,h)=>qcC P t o row h
   |none=>none
theorem qcv{P:Program}{t:TypeId}{o:Nat}{row:List V}{h h':H}{v:V}(e:qcC P t o row h=some (v,h')):qbT P t o row=some v∧h'=h:=by
 unfold qcC at e
 split at e
 ·rename_i u hu;cases e;exact⟨hu,rfl⟩
 ·cases e
theorem qhC{P:Program}{t:TypeId}{o:Nat}{row:List V}{h h':H}{v:V}(e:qey P t o row h=some (v,h'))(hh:h'.Holds):qbT P t o row=some v∧h.Holds∧h.Same h':=by
 unfold qey at e
 split at e
 ·rename_i u hu
  split at e
  ·rename_i v n hp
   split at e
   ·rename_i h1 ht
    cases e
    obtain⟨h2,h3,h4⟩:=H.test_holds ht hh
    have hle:=Nat.le_of_ble_eq_true h3
    have hu0:qdz h (row.drop 0)=some u:=by rw[List.drop_zero];exact hu
    have:=qh4 (d:=0) hp hu0 (by omega)
    rw[Nat.zero_add]at this
    exact⟨this,h2,h4⟩
   ·cases e
  ·obtain⟨h1,rfl⟩:=qcv e
   exact⟨h1,hh,H.Same.refl _⟩
 ·split at e
  ·obtain⟨h1,rfl⟩:=qcv e
   exact⟨h1,hh,H.Same.refl _⟩
  ·rename_i u hu
   split at e
   ·rename_i h0 ht0
    split at e
    ·rename_i v n hp
     split at e
     ·rename_i h1 ht
      cases e
      obtain⟨h2,h3,h4⟩:=H.test_holds ht hh
      obtain⟨g2,g3,g4⟩:=H.test_holds ht0 h2
      have hle:=Nat.le_of_ble_eq_true h3
      have hge:=Nat.le_of_ble_eq_true g3
      have:=qh4 hp hu (by omega)
      rw[show 1+(o-1)=o by omega]at this
      exact⟨this,g2,H.Same.trans g4 h4⟩
     ·cases e
    ·obtain⟨h1,rfl⟩:=qcv e
     obtain⟨g2,g3,g4⟩:=H.test_holds ht0 hh
     exact⟨h1,g2,g4⟩
   ·rename_i h0 ht0
    obtain⟨h1,rfl⟩:=qcv e
    obtain⟨g2,g3,g4⟩:=H.test_holds ht0 hh
    exact⟨h1,g2,g4⟩
   ·cases e
theorem qfI{P:Program}{t:TypeId}{o:Nat}{row:List V}{h:H}{v:V}(e:qdz h row=none)(e2:qdz h (row.drop 1)=none)(hv:qbT P t o row=some v):qey P t o row h=some (v,h):=by
 unfold qey qcC
 rw[e]
 simp only[e2,hv]
def qax(P:Program)(t:TypeId)(x:V)(h:H):Option (V×H):=
 match x with
 |.ptr (some a)=>match h.get a.b with
  |some (.box e r)=>match Nat.beq e a.e with
   |true=>match r with
    |.list l=>match l[a.i]? with
     |some row=>qey P t a.o row h
     |none=>none
    |.fn n f=>match h.test (Nat.ble (a.i+1) n)with
     |some (true,h)=>match qbT P t a.o (f a.i)with
      |some v=>some (v,h)
      |none=>none
     |_=>none
    |.ty u l=>match h.test (Nat.ble (a.i+1) l.length)with
     |some (true,h)=>match qbT P t a.o (cellsV u (l.getD a.i u.dflt))with
      |some v=>some (v,h)
      |none=>none
     |_=>none
   |false=>none
  |_=>none
 |.fp row=>match qbT P t 0 row with
  |some v=>some (v,h)
  |none=>none
 |_=>none
theorem qg2{P:Program}{t:TypeId}{a:VA}{h:H}{e:Nat}{r:Rows}{row:List V}(hg:h.get a.b=some (.box e r))(he:Nat.beq e a.e=true)(hr:r.get a.i=some row):
  qjP P t (.ptr (some a)) h=qbT P t a.o row:=by
 simp only[qjP,hg,he,hr]
 rfl
theorem qjU{P:Program}{t:TypeId}{x:V}{h h':H}{v:V}(e:qax P t x h=some (v,h'))(hh:h'.Holds):qjP P t x h=some v∧h.Holds∧h.Same h':=by
 unfold qax at e
 split at e
 ·split at e
  ·rename_i a _ el r hg
   split at e
   ·rename_i he
    split at e
    ·split at e
     ·rename_i row hrow
      obtain⟨q1,q2,q3⟩:=qhC e hh
      exact⟨by rw[qg2 hg he hrow];exact q1,q2,q3⟩
     ·cases e
    ·rename_i n f
     split at e
     ·rename_i h1 ht
      split at e
      ·rename_i u hu
       cases e
       obtain⟨h2,h3,h4⟩:=H.test_holds ht hh
       have:=Nat.le_of_ble_eq_true h3
       exact⟨by rw[qg2 hg he (if_pos (by omega))];exact hu,h2,h4⟩
      ·cases e
     ·cases e
    ·rename_i u l
     split at e
     ·rename_i h1 ht
      split at e
      ·rename_i z hz
       cases e
       obtain⟨h2,h3,h4⟩:=H.test_holds ht hh
       have:=Nat.le_of_ble_eq_true h3
       have hrow:(Rows.ty u l).get a.i=some (cellsV u (l.getD a.i u.dflt)):=by
        simp only[Rows.get,List.getD,List.getElem?_eq_getElem (show a.i<l.length by omega),Option.map_some,Option.getD_some]
       exact⟨by rw[qg2 hg he hrow];exact hz,h2,h4⟩
      ·cases e
     ·cases e
   ·cases e
  ·cases e
 ·rename_i row
  split at e
  ·rename_i u hu
   cases e
   refine⟨?_,hh,H.Same.refl _⟩
   unfold qbT at hu
   simp only[qjP]
   split at hu
   ·rename_i hag
    split at hu
    ·rename_i n hn
     split at hu
     ·rename_i hle
      cases hu
      rw[Nat.zero_add]at hle
      simp only[hle,List.drop_zero]
     ·cases hu
    ·cases hu
   ·rename_i hag
    exact hu
   ·cases hu
  ·cases e
 ·cases e
def decC:(t:Ty)→List V→Option (t.data×List V)
 |.int k,cs=>match cs with
  |.int j n::r=>match kindEq? j k with
   |some _=>some (n,r)
   |none=>none
  |_=>none
 |.bool,cs=>match cs with
  |.bool b::r=>some (b,r)
  |_=>none
 |.str,cs=>match cs with
  |.str s::r=>some (s,r)
  |_=>none
 |.unit,cs=>some ((),cs)
 |.pair a b,cs=>match decC a cs with
  |some (x,r)=>match decC b r with
   |some (y,r)=>some ((x,y),r)
   |none=>none
  |none=>none
 |.slice t,cs=>match cs with
  |.vs u l _::r=>match Ty.eq? u t with
   |some h=>some (Ty.castL h l,r)
   |none=>none
  |.sl none _ _::r=>some ([],r)
  |.sl (some a) n _::r=>match a.e with
   |0=>match Nat.beq n 0 with
    |true=>some ([],r)
    |false=>none
   |_+1=>none
  |_=>none
theorem VRels.split{φ:Map}{vs ws:List V}{rs:List Value}(h:VRels φ (vs++ws) rs):∃a b,rs=a++b∧VRels φ vs a∧VRels φ ws b:=by
 induction vs generalizing rs with
 |nil=>exact⟨[],rs,rfl,.nil,h⟩
 |cons v vs ih=>
  cases h with
  |cons h t=>
   obtain⟨a,b,e,h1,h2⟩:=ih t
   exact⟨_::a,b,by rw[e];rfl,.cons h h1,h2⟩
theorem VRels.dRel{φ:Map}:∀{t:Ty}{d:t.data}{cs:List Value},VRels φ (Vm.cellsV t d) cs→DRel φ.fz t d cs
 |.int k,_,_,h=>by cases h with|cons h t=>cases h;cases t;rfl
 |.bool,_,_,h=>by cases h with|cons h t=>cases h;cases t;rfl
 |.str,_,_,h=>by cases h with|cons h t=>cases h;cases t;rfl
 |.unit,_,_,h=>by cases h;rfl
 |.pair a b,_,_,h=>by
  obtain⟨x,y,e,h1,h2⟩:=VRels.split h
  exact⟨x,y,e,h1.dRel,h2.dRel⟩
 |.slice t,l,_,h=>by
  cases h with
  |cons h t=>
   cases t
   cases h with
   |vs _ _ _ a n cap hn hs ht=>exact⟨a,n,cap,rfl,hn,hs⟩
theorem qiy{φ:Map}:∀{t:Ty}{vs r:List V}{d:t.data}{cs:List Value},decC t vs=some (d,r)→VRels φ vs cs→∃x y,cs=x++y∧DRel φ.fz t d x∧VRels φ r y
 |.int k,vs,r,d,cs,e,h=>by
  simp only[decC]at e
  split at e
  ·split at e
   ·rename_i j n r' q hq
    cases e
    cases h with
    |cons h t=>
     cases h
     obtain⟨hk⟩:=q
     subst hk
     exact⟨[_],_,rfl,rfl,t⟩
   ·cases e
  ·cases e
 |.bool,vs,r,d,cs,e,h=>by
  simp only[decC]at e
  split at e
  ·cases e
   cases h with
   |cons h t=>cases h;exact⟨[_],_,rfl,rfl,t⟩
  ·cases e
 |.str,vs,r,d,cs,e,h=>by
  simp only[decC]at e
  split at e
  ·cases e
   cases h with
   |cons h t=>cases h;exact⟨[_],_,rfl,rfl,t⟩
  ·cases e
 |.unit,vs,r,d,cs,e,h=>by
  cases e
  exact⟨[],cs,rfl,rfl,h⟩
 |.pair a b,vs,r,d,cs,e,h=>by
  simp only[decC]at e
  split at e
  ·rename_i x r1 h1
   split at e
   ·rename_i y r2 h2
    cases e
    obtain⟨c1,c2,rfl,k1,k2⟩:=qiy h1 h
    obtain⟨c3,c4,rfl,k3,k4⟩:=qiy h2 k2
    exact⟨c1++c3,c4,by simp,⟨c1,c3,rfl,k1,k3⟩,k4⟩
   ·cases e
  ·cases e
 |.slice t,vs,r,d,cs,e,h=>by
  simp only[decC]at e
  split at e
  ·split at e
   ·rename_i u l tip r' q hq
    cases e
    cases h with
    |cons h tt=>
     obtain⟨hk⟩:=q
     subst hk
     cases h with
     |vs _ _ _ a n cap hn hs ht=>exact⟨[_],_,rfl,⟨a,n,cap,rfl,hn,hs⟩,tt⟩
   ·cases e
  ·cases e
   cases h with
   |cons h tt=>
    cases h
    exact⟨[_],_,rfl,⟨none,0,0,rfl,Nat.le_refl _,rfl,.inl rfl⟩,tt⟩
  ·split at e
   ·split at e
    ·rename_i hn
     cases e
     have hn':=Nat.eq_of_beq_eq_true hn
     subst hn'
     cases h with
     |cons h tt=>
      cases h with
      |sl _ k _ cap' _ hk hl hc hz=>exact⟨[_],_,rfl,⟨some _,0,cap',rfl,hl,rfl,.inl rfl⟩,tt⟩
    ·cases e
   ·cases e
  ·cases e
def qc5(t:Ty)(row:List V):Option t.data:=
 match decC t row with
 |some (d,[])=>some d
 |_=>none
theorem qeb{φ:Map}{t:Ty}{row:List V}{d:t.data}{cs:List Value}(e:qc5 t row=some d)(h:VRels φ row cs):DRel φ.fz t d cs:=by
 unfold qc5 at e
 split at e
 ·rename_i d' hd
  cases e
  obtain⟨x,y,rfl,h1,h2⟩:=qiy hd h
  cases h2
  simpa using h1
 ·cases e
theorem kindEq?_self'(k:IntKind):kindEq? k k=some ⟨rfl⟩:=by cases k<;>rfl
theorem Ty.eq?_self:∀t:Ty,Ty.eq? t t=some ⟨rfl⟩
 |.int k=>by simp only[Ty.eq?,kindEq?_self']
 |.bool=>rfl
 |.str=>rfl
 |.unit=>rfl
 |.pair a b=>by simp only[Ty.eq?,Ty.eq?_self a,Ty.eq?_self b]
 |.slice t=>by simp only[Ty.eq?,Ty.eq?_self t]
theorem qfx:∀(t:Ty)(d:t.data)(r:List V),decC t (Vm.cellsV t d++r)=some (d,r)
 |.int k,n,r=>by simp only[Vm.cellsV,List.cons_append,List.nil_append,decC,kindEq?_self']
 |.bool,b,r=>rfl
 |.str,s,r=>rfl
 |.unit,_,r=>rfl
 |.pair a b,d,r=>by
  simp only[Vm.cellsV,List.append_assoc,decC,qfx a,qfx b]
 |.slice t,l,r=>by
  simp only[Vm.cellsV,List.cons_append,List.nil_append,decC,Ty.eq?_self]
  rfl
theorem qcK(t:Ty)(d:t.data):qc5 t (Vm.cellsV t d)=some d:=by
 have:=qfx t d []
 rw[List.append_nil]at this
 simp only[qc5,this]
theorem RowsIn.typed{φ:Map}{e:Nat}{r:Rows}{c:Array Value}(h:RowsIn φ e r c){t:Ty}{l:List t.data}(hl:∀i d,l[i]?=some d→∃row,r.get i=some row∧qc5 t row=some d):RowsIn φ e (.ty t l) c:=by
 intro i row hi
 simp only[Rows.get]at hi
 cases hd:l[i]? with
 |none=>rw[hd]at hi;cases hi
 |some d=>
  rw[hd]at hi
  cases hi
  obtain⟨row',h1,h2⟩:=hl i d hd
  obtain⟨k1,k2⟩:=h i row' h1
  have hx:∃cs:List Value,VRels φ row' cs∧∀(j:Nat)(v:Value),cs[j]?=some v→c[i*e+j]?=some v:=by
   obtain⟨rs,r1,r2,r3⟩:=qbH h h1 0 row'.length (by omega)
   exact⟨rs,by simpa using r2,fun j v hj=>r3 j v hj⟩
  obtain⟨cs,c1,c2⟩:=hx
  have hD:=qeb h2 c1
  have hV:=hD.cellsV
  refine⟨by rw[hV.length,←c1.length];exact k1,fun o v hv=>?_⟩
  obtain⟨x,hx1,hx2⟩:=hV.get o v hv
  exact⟨x,c2 o x hx1,hx2⟩
def qjN(h:H)(row:List V)(o:Nat)(cs:List V):Option (List V):=
 match(match Nat.beq row.length 7 with|true=>none|false=>qdz h row),cs with
 |some (.ints k l),[.int j n]=>match kindEq? k j with
  |some _=>some ((List.range row.length).map fun q=>.int k ((l.set o n).getD q 0))
  |none=>none
 |some (.bools l),[.bool b]=>some ((List.range row.length).map fun q=>.bool ((l.set o b).getD q false))
 |_,_=>none
theorem qie{k:IntKind}:∀{row:List V}{l:List Int},uniI k row=some l→l.length=row.length
 |[],l,e=>by cases e;rfl
 |v::r,l,e=>by
  simp only[uniI]at e
  split at e
  ·split at e
   ·rename_i h2;cases e;simp[qie h2]
   ·cases e
  ·cases e
theorem qlw:∀{row:List V}{l:List Bool},uniB row=some l→l.length=row.length
 |[],l,e=>by cases e;rfl
 |v::r,l,e=>by
  simp only[uniB]at e
  split at e
  ·split at e
   ·rename_i h2;cases e;simp[qlw h2]
   ·cases e
  ·cases e
def Uni.len:Uni→Nat
 |.ints _ l=>l.length
 |.bools l=>l.length
theorem qkd{h:H}{row:List V}{u:Uni}(e:qdz h row=some u):u.len=row.length:=by
 unfold qdz qg1 at e
 split at e
 ·cases e
 ·split at e
  ·cases e
  ·split at e
   ·split at e
    ·rename_i h1;cases e;exact qie h1
    ·cases e
   ·split at e
    ·rename_i h1;cases e;exact qlw h1
    ·cases e
   ·cases e
theorem qks{h:H}(e:h.ask=none)(row:List V)(o:Nat)(cs:List V):qjN h row o cs=none:=by
 unfold qjN
 cases Nat.beq row.length 7<;>simp only[qfp e]
theorem qeZ{row:List V}{o:Nat}{c:V}(ho:o<row.length):row.take o++([c]++row.drop (o+1))=row.set o c:=by
 rw[List.set_eq_take_append_cons_drop,if_pos ho];rfl
theorem qjp{h:H}{row row':List V}{o:Nat}{cs:List V}(e:qjN h row o cs=some row')(ho:o<row.length):row'=row.take o++(cs++row.drop (o+cs.length))∧cs.all qeM=true∧o+cs.length≤row.length:=by
 unfold qjN at e
 have hif:∀{u:Uni},(match Nat.beq row.length 7 with|true=>none|false=>qdz h row)=some u→qdz h row=some u:=by
  intro u hu
  split at hu
  ·cases hu
  ·exact hu
 split at e
 ·rename_i k l j n hu
  replace hu:=hif hu
  split at e
  ·rename_i hk _
   obtain⟨hk⟩:=hk
   subst hk
   cases e
   refine⟨?_,rfl,ho⟩
   have hlen:=qkd hu
   simp only[List.length_cons,List.length_nil,Nat.zero_add]
   rw[qeZ ho]
   apply List.ext_getElem?
   intro q
   rw[List.getElem?_map,List.getElem?_set]
   rcases Nat.lt_or_ge q row.length with hq|hq
   ·rw[List.getElem?_range hq]
    simp only[Option.map_some]
    split
    ·rename_i e;subst e
     have hl2:o<l.length:=by
      have:l.length=row.length:=hlen
      omega
     simp[List.getD,hl2]
    ·rename_i hne
     rw[qg7 hu hq]
     simp[List.getD,hne,Uni.get]
   ·rw[List.getElem?_eq_none (by simpa using hq)]
    rw[if_neg (by omega),List.getElem?_eq_none hq]
    rfl
  ·cases e
 ·rename_i l b hu
  replace hu:=hif hu
  cases e
  refine⟨?_,rfl,ho⟩
  have hlen:=qkd hu
  simp only[List.length_cons,List.length_nil,Nat.zero_add]
  rw[qeZ ho]
  apply List.ext_getElem?
  intro q
  rw[List.getElem?_map,List.getElem?_set]
  rcases Nat.lt_or_ge q row.length with hq|hq
  ·rw[List.getElem?_range hq]
   simp only[Option.map_some]
   split
   ·rename_i e;subst e
    have hl2:o<l.length:=by
     have:l.length=row.length:=hlen
     omega
    simp[List.getD,hl2]
   ·rename_i hne
    rw[qg7 hu hq]
    simp[List.getD,hne,Uni.get]
  ·rw[List.getElem?_eq_none (by simpa using hq)]
   rw[if_neg (by omega),List.getElem?_eq_none hq]
   rfl
 ·cases e
def qdE(h:H)(a:VA)(cs:List V):Option H:=
 match h.get a.b with
 |some (.box e (.fn n f))=>match h.test (Nat.ble (a.i+1) n)with
  |some (true,h2)=>match Nat.beq e a.e,Nat.ble h.ro a.b,cs.all qeM,Nat.ble (a.o+cs.length) (f a.i).length with
   |true,true,true,true=>some (h2.set a.b (.box e (.fn n (fun j=>if Nat.beq j a.i then(f a.i).take a.o++(cs++(f a.i).drop (a.o+cs.length))else f j))))
   |_,_,_,_=>none
  |_=>none
 |some (.box e (.ty t l))=>match h.test (Nat.ble (a.i+1) l.length)with
  |some (true,h2)=>match Nat.beq e a.e,Nat.ble h.ro a.b,cs.all qeM,Nat.ble (a.o+cs.length) (cellsV t (l.getD a.i t.dflt)).length with
   |true,true,true,true=>match qc5 t ((cellsV t (l.getD a.i t.dflt)).take a.o++(cs++(cellsV t (l.getD a.i t.dflt)).drop (a.o+cs.length)))with
    |some d=>some (h2.set a.b (.box e (.ty t (l.set a.i d))))
    |none=>none
   |_,_,_,_=>none
  |_=>none
 |some (.box e (.list l))=>match l[a.i]? with
  |none=>none
  |some row=>match qjN h row a.o cs with
   |none=>vput h a cs
   |some row'=>match h.test (Nat.ble (a.o+1) row.length)with
    |some (true,h2)=>match Nat.beq e a.e,Nat.ble h.ro a.b with
     |true,true=>some (h2.set a.b (.box e (.list (l.set a.i row'))))
     |_,_=>none
    |_=>none
 |_=>vput h a cs
theorem qh0{h:H}{a:VA}{cs:List V}{e:Nat}{l:List (List V)}(ha:h.ask=none)(hg:h.get a.b=some (.box e (.list l))):qdE h a cs=vput h a cs:=by
 unfold qdE
 rw[hg]
 dsimp only
 cases hl:l[a.i]? with
 |some row=>simp only[qks ha]
 |none=>
  simp only[vput,hg,Rows.get,hl]
  split<;>rename_i e1<;>first|rfl|(simp_all)
theorem qoz{h h1:H}{a:VA}{cs:List V}(e:vput h a cs=some h1):h1.said=h.said∧h.ro≤a.b:=by
 unfold vput at e
 split at e
 ·split at e
  ·split at e
   ·rename_i hro _ _;cases e;exact⟨by rw[H.set_eq],Nat.le_of_ble_eq_true (by assumption)⟩
   ·cases e
  ·cases e
 ·cases e
theorem Goes.reset{φ:Map}{h:H}{w w':World}{b:Nat}{x x':Ob}(hx0:x≠.tip)(hxd:x≠.dead)(hx1:x'≠.tip)(g:Goes φ h w φ (h.set b x) w')(hx:∀k o,φ b=some k→ObRel φ (Nat.ble h.ro b) k.2 x o→ObRel φ (Nat.ble h.ro b) k.2 x' o):Goes φ h w φ (h.set b x') w':=by
 have hget:∀c z,(h.set b x').get c=some z→(c=b∧z=x'∧(h.set b x).get b=some x)∨(c≠b∧(h.set b x).get c=some z):=by
  intro c z hz
  simp only[H.get,H.set_eq,qbY]at hz ⊢
  split at hz
  ·rename_i e
   subst e
   left
   have hz':=qaS hz
   cases hl:look h.objs b with
   |none=>simp[hl]at hz'
   |some u=>
    simp[hl]at hz'
    refine⟨rfl,hz'.symm,?_⟩
    simp only[if_true,Option.map_some]
    cases x<;>first|rfl|exact absurd rfl hxd
  ·rename_i hne
   refine .inr ⟨fun e=>hne e.symm,?_⟩
   rw[if_neg hne];exact hz
 have hlive:∀c z,(h.set b x').get c=some z→∃z',(h.set b x).get c=some z':=by
  intro c z hz
  rcases hget c z hz with⟨rfl,_,h1⟩|⟨_,h1⟩
  ·exact⟨_,h1⟩
  ·exact⟨_,h1⟩
 have htip:∀c,(h.set b x').get c=some .tip→(h.set b x).get c=some .tip:=by
  intro c hc
  rcases hget c _ hc with⟨_,e,_⟩|⟨_,h1⟩
  ·exact absurd e.symm hx1
  ·exact h1
 exact{
  le:=g.le
  rel:={
   obj:=fun c z hz hzt=>by
    rcases hget c z hz with⟨rfl,rfl,h1⟩|⟨_,h1⟩
    ·obtain⟨k,o,h2,h3,h4⟩:=g.rel.obj _ _ h1 hx0
     exact⟨k,o,h2,h3,hx k o h2 h4⟩
    ·exact g.rel.obj c z h1 hzt
   inj:=fun c c' z z' k k' hz hz'=>by
    obtain⟨u,hu⟩:=hlive c z hz
    obtain⟨u',hu'⟩:=hlive c' z' hz'
    exact g.rel.inj c c' u u' k k' hu hu'
   dom:=g.rel.dom
   rle:=g.rel.rle
   fz:=g.rel.fz
   own:=fun c z k hz=>by
    obtain⟨u,hu⟩:=hlive c z hz
    exact g.rel.own c u k hu
   tip:=fun c hc=>g.rel.tip c (htip c hc)
   tinj:=fun c c' m m' hc hc'=>g.rel.tinj c c' m m' (htip c hc) (htip c' hc')
   tdom:=g.rel.tdom }
  next:=g.next
  ro:=g.ro
  fresh:=g.fresh
  size:=g.size
  frame:=g.frame
  tfresh:=g.tfresh
  tlive:=fun c m h1 h2=>g.tlive c m h1 (htip c h2)
  ffresh:=g.ffresh
  os:=g.os
  tape:=g.tape
  output:=g.output }
theorem qoB{P:Program}{φ:Map}{h h':H}{a:VA}{cs:List V}{rs:List Value}{k:Nat×Nat×Nat}{w:World}(e:qdE h a cs=some h')(hh:h'.Holds)(hr:HRel φ h w)(hk:φ a.b=some k)(hcs:VRels φ cs rs):
  h.Holds∧∃w',(storeCells (a.real k) rs).run P w=.ok () w'∧Goes φ h w φ h' w':=by
 have said:∀{h1:H},vput h a cs=some h1→h1.Holds→h.Holds:=by
  intro h1 e hp p hm
  exact hp p (by rw[(qoz e).1];exact hm)
 unfold qdE at e
 split at e
 ·rename_i el n f hg
  split at e
  ·rename_i h2 ht
   split at e
   ·rename_i c1 c2 c3 c4
    cases e
    have hh2:h2.Holds:=by intro p hp;exact hh p (by rw[H.set_eq];exact hp)
    obtain⟨k1,k2,k3⟩:=H.test_holds ht hh2
    have:=Nat.le_of_ble_eq_true k2
    have hget:(Rows.fn n f).get a.i=some (f a.i):=if_pos (by omega)
    have hv:vput h a cs=some (h.set a.b (.box el ((Rows.fn n f).set a.i ((f a.i).take a.o++(cs++(f a.i).drop (a.o+cs.length)))))):=by
     simp only[vput,hg,c1,hget,c2,c3,c4]
    obtain⟨w',r1,r2,_⟩:=qee (P:=P) hv hr hk hcs
    refine⟨k1,w',r1,r2.trans (Goes.of_same r2.rel ?_ rfl rfl rfl rfl)⟩
    obtain⟨q1,q2,q3⟩:=k3
    refine⟨?_,?_,?_⟩
    ·rw[H.set_eq,H.set_eq];exact q1
    ·rw[H.set_eq,H.set_eq];exact q2
    ·rw[H.set_eq,H.set_eq];show upd h2.objs _ _=upd h.objs _ _;rw[q3];rfl
   ·cases e
  ·cases e
 ·rename_i el t l hg
  split at e
  ·rename_i h2 ht
   split at e
   ·rename_i c1 c2 c3 c4
    split at e
    ·rename_i d hd
     cases e
     have hh2:h2.Holds:=by intro p hp;exact hh p (by rw[H.set_eq];exact hp)
     obtain⟨k1,k2,k3⟩:=H.test_holds ht hh2
     have hlt:a.i<l.length:=Nat.le_of_ble_eq_true k2
     have hgl:l[a.i]?=some (l.getD a.i t.dflt):=by simp[List.getD,hlt]
     have hget:(Rows.ty t l).get a.i=some (cellsV t (l.getD a.i t.dflt)):=by
      simp only[Rows.get,hgl,Option.map_some]
     have hv:vput h a cs=some (h.set a.b (.box el ((Rows.ty t l).set a.i ((cellsV t (l.getD a.i t.dflt)).take a.o++(cs++(cellsV t (l.getD a.i t.dflt)).drop (a.o+cs.length)))))):=by
      simp only[vput,hg,c1,hget,c2,c3,c4]
     obtain⟨w',r1,r2,_⟩:=qee (P:=P) hv hr hk hcs
     have g:=Goes.reset (x':=.box el (.ty t (l.set a.i d))) (by simp) (by simp) (by simp) r2 (fun k o _ ho=>by
      cases o with
      |cells c tt fz=>
       obtain⟨h1,h2⟩:=ho
       refine⟨?_,h2⟩
       refine h1.typed fun i d' hi=>?_
       rw[List.getElem?_set]at hi
       rw[Rows.get_set hget]
       split at hi
       ·rename_i e
        subst e
        rw[if_pos rfl]
        simp only[Option.some.injEq]at hi
        subst hi
        exact⟨_,rfl,hd⟩
       ·rename_i e
        rw[if_neg e]
        have hil:i<l.length:=by
         rcases Nat.lt_or_ge i l.length with h|h
         ·exact h
         ·rw[List.getElem?_eq_none h]at hi;cases hi
        refine⟨cellsV t d',?_,qcK t d'⟩
        simp only[Rows.get,hi,Option.map_some]
      |_=>exact ho.elim)
     refine⟨k1,w',r1,g.trans (Goes.of_same g.rel ?_ rfl rfl rfl rfl)⟩
     obtain⟨q1,q2,q3⟩:=k3
     refine⟨?_,?_,?_⟩
     ·rw[H.set_eq,H.set_eq];exact q1
     ·rw[H.set_eq,H.set_eq];exact q2
     ·rw[H.set_eq,H.set_eq];show upd h2.objs _ _=upd h.objs _ _;rw[q3]
    ·cases e
   ·cases e
  ·cases e
 ·rename_i el l hg
  split at e
  ·cases e
  ·rename_i row hrow
   split at e
   ·obtain⟨w',r1,r2,_⟩:=qee (P:=P) e hr hk hcs
    exact⟨said e hh,w',r1,r2⟩
   ·rename_i row' hu
    split at e
    ·rename_i h2 ht
     split at e
     ·rename_i c1 c2
      cases e
      have hh2:h2.Holds:=by intro p hp;exact hh p (by rw[H.set_eq];exact hp)
      obtain⟨k1,k2,k3⟩:=H.test_holds ht hh2
      have hlt:a.o<row.length:=Nat.le_of_ble_eq_true k2
      obtain⟨u1,u2,u3⟩:=qjp hu hlt
      have u3:=Nat.ble_eq_true_of_le u3
      have hget:(Rows.list l).get a.i=some row:=hrow
      have hv:vput h a cs=some (h.set a.b (.box el (.list (l.set a.i row')))):=by
       simp only[vput,hg,c1,hget,c2,u2,u3,u1]
       rfl
      obtain⟨w',r1,r2,_⟩:=qee (P:=P) hv hr hk hcs
      refine⟨k1,w',r1,r2.trans (Goes.of_same r2.rel ?_ rfl rfl rfl rfl)⟩
      obtain⟨q1,q2,q3⟩:=k3
      refine⟨?_,?_,?_⟩
      ·rw[H.set_eq,H.set_eq];exact q1
      ·rw[H.set_eq,H.set_eq];exact q2
      ·rw[H.set_eq,H.set_eq];show upd h2.objs _ _=upd h.objs _ _;rw[q3]
     ·cases e
    ·cases e
 ·obtain⟨w',r1,r2,_⟩:=qee (P:=P) e hr hk hcs
  exact⟨said e hh,w',r1,r2⟩
end Go.Vm

namespace Go.Vm
open Go
def Rows.len:Rows→Nat
 |.list l=>l.length
 |.fn n _=>n
 |.ty _ l=>l.length
theorem Rows.lt_len{r:Rows}{i:Nat}{row:List V}(h:r.get i=some row):i<r.len:=by
 cases r with
 |list l=>
  simp only[Rows.get,Rows.len]at *
  rcases Nat.lt_or_ge i l.length with h'|h'
  ·exact h'
  ·rw[List.getElem?_eq_none h']at h;cases h
 |fn n f=>
  simp only[Rows.get,Rows.len]at *
  split at h
  ·assumption
  ·cases h
 |ty t l=>
  simp only[Rows.get,Rows.len]at *
  rcases Nat.lt_or_ge i l.length with h'|h'
  ·exact h'
  ·rw[List.getElem?_eq_none h']at h;cases h
theorem Rows.get_lt{r:Rows}{i:Nat}(h:i<r.len):∃row,r.get i=some row:=by
 cases r with
 |list l=>
  have h':i<l.length:=h
  exact⟨l[i],by simp[Rows.get,h']⟩
 |fn n f=>exact⟨f i,if_pos h⟩
 |ty t l=>
  have h':i<l.length:=h
  exact⟨cellsV t l[i],by simp[Rows.get,h']⟩
def chunks(n size:Nat)(l:List V):List (List V):=(List.range n).map fun i=>(l.drop (i*size)).take size
structure Elems(φ:Map)(size n:Nat)(r:Rows)(rs:List Value):Prop where
 rows:RowsIn φ size r rs.toArray
 len:r.len=n
 cells:rs.length=n*size
theorem Elems.nil(φ:Map)(size:Nat):Elems φ size 0 (.list []) []:=⟨fun i row h=>by simp[Rows.get]at h,rfl,by simp⟩
theorem Elems.chunks{φ:Map}{size n:Nat}{l:List V}{rs:List Value}(h:VRels φ (l.take (n*size)) rs)(hl:n*size≤l.length):Elems φ size n (.list (chunks n size l)) rs:=by
 have hlen:rs.length=n*size:=by rw[←h.length];simp;omega
 refine⟨?_,by simp[Vm.chunks,Rows.len],hlen⟩
 intro i row hrow
 simp only[Rows.get,Vm.chunks,List.getElem?_map]at hrow
 rcases Nat.lt_or_ge i n with hi|hi
 ·rw[List.getElem?_range hi]at hrow
  simp only[Option.map_some,Option.some.injEq]at hrow
  subst hrow
  have hle:(i+1)*size≤n*size:=Nat.mul_le_mul_right size hi
  rw[Nat.add_mul]at hle
  refine⟨by simp;omega,?_⟩
  intro o v hv
  rw[List.getElem?_take]at hv
  split at hv
  ·rename_i ho
   rw[List.getElem?_drop]at hv
   have:(l.take (n*size))[i*size+o]?=some v:=by rw[List.getElem?_take,if_pos (by omega)];exact hv
   obtain⟨x,hx,hvx⟩:=h.get _ _ this
   exact⟨x,by simpa using hx,hvx⟩
  ·cases hv
 ·rw[List.getElem?_eq_none (by simpa using hi)]at hrow
  simp at hrow
def qkJ(a:VA)(len:Nat)(h:H):Option (Rows×H):=
 match a.e with
 |0=>match Nat.beq len 0 with
  |true=>some (.list [],h)
  |false=>none
 |_+1=>none
theorem qed{a:VA}{len:Nat}{h h':H}{r:Rows}(e:qkJ a len h=some (r,h')):len=0∧r=.list []∧h'=h:=by
 unfold qkJ at e
 split at e
 ·split at e
  ·rename_i hl;cases e;exact⟨Nat.eq_of_beq_eq_true hl,rfl,rfl⟩
  ·cases e
 ·cases e
def qnO(h:H)(row:List V)(o size:Nat):Option (IntKind×List Int):=
 match h.ask,o,size with
 |some _,0,1=>match row with
  |.int k _::_=>match uniI k row with
   |some l=>some (k,l)
   |none=>none
  |_=>none
 |_,_,_=>none
theorem qhY{h:H}{row:List V}{o size:Nat}{k:IntKind}{l:List Int}(e:qnO h row o size=some (k,l)){len:Nat}(hl:o+len*size≤row.length):
  l.length=row.length∧len≤l.length∧size=1∧∀i,(Rows.ty (.int k) (l.take len)).get i=(Rows.list (chunks len size (row.drop o))).get i:=by
 have key:∃k':IntKind,k'=k∧uniI k' row=some l∧o=0∧size=1:=by
  unfold qnO at e
  split at e
  ·split at e
   ·split at e
    ·rename_i hu;cases e;exact⟨_,rfl,hu,rfl,rfl⟩
    ·cases e
   ·cases e
  ·cases e
 obtain⟨k',e1,hu,e2,e3⟩:=key
 subst e1 e2 e3
 ·have hlen:l.length=row.length:=qie hu
  refine⟨hlen,by omega,rfl,fun i=>?_⟩
  simp only[Rows.get,Vm.chunks,List.getElem?_map,List.getElem?_take,List.drop_zero]
  rcases Nat.lt_or_ge i len with hi|hi
  ·rw[if_pos hi,List.getElem?_range hi]
   have h1:=qiA hu i (by omega)
   have h2:i<l.length:=by omega
   rw[List.getElem?_eq_getElem h2]
   simp only[Option.map_some,cellsV,Nat.mul_one]
   congr 1
   have h3:i<row.length:=by omega
   rw[List.drop_eq_getElem_cons h3]
   rw[List.getElem?_eq_getElem h3]at h1
   simp only[Option.some.injEq]at h1
   simp only[List.take_succ_cons,List.take_zero,h1,List.getD,List.getElem?_eq_getElem h2,Option.getD_some]
  ·rw[if_neg (by omega),List.getElem?_eq_none (by simpa using hi)]
   rfl
def elems(h:H)(x:V)(size:Nat):Option (Rows×H):=
 match x with
 |.sl none _ _=>some (.list [],h)
 |.sl (some a) len _=>match h.get a.b with
  |some (.box e r)=>match Nat.beq e a.e with
   |true=>match Nat.beq e size,a.o with
    |true,0=>match r with
     |.list l=>match h.test (Nat.ble (a.i+len) l.length)with
      |some (true,h)=>some (.list ((l.drop a.i).take len),h)
      |_=>none
     |.fn m f=>match h.test (Nat.ble (a.i+len) m)with
      |some (true,h)=>some (.fn len (fun j=>f (a.i+j)),h)
      |_=>none
     |.ty t l=>match a.i with
      |0=>match h.test (Nat.beq len l.length)with
       |some (true,h)=>some (.ty t l,h)
       |some (false,h)=>match h.test (Nat.ble len l.length)with
        |some (true,h)=>some (.ty t (l.take len),h)
        |_=>none
       |none=>none
      |i+1=>match h.test (Nat.ble (i+1+len) l.length)with
       |some (true,h)=>some (.ty t ((l.drop (i+1)).take len),h)
       |_=>none
    |_,_=>match r.get a.i with
     |some row=>match h.test (Nat.ble (a.o+len*size) row.length)with
      |some (true,h)=>match qnO h row a.o size with
       |some (k,l)=>match h.test (Nat.beq len l.length)with
        |some (true,h)=>some (.ty (.int k) l,h)
        |some (false,h)=>some (.ty (.int k) (l.take len),h)
        |none=>none
       |none=>some (.list (chunks len size (row.drop a.o)),h)
      |_=>none
     |none=>none
   |false=>qkJ a len h
  |_=>none
 |.str s=>match Nat.beq size 1 with
  |true=>some (.list (s.data.toList.map fun b=>[.int .u8 b.toNat]),h)
  |false=>none
 |.vs t l _=>match Nat.beq t.cells size with
  |true=>some (.ty t l,h)
  |false=>none
 |_=>none
def lenV:V→Option Nat
 |.sl _ n _=>some n
 |.str s=>some s.size
 |.vs _ l _=>some l.length
 |_=>none
theorem qdf{P:Program}{φ:Map}{x:V}{x':Value}{n:Nat}(e:lenV x=some n)(hx:VRel φ x x')(w:World):(Builtin.lenOf x').run P w=.ok n w:=by
 cases hx<;>simp only[lenV,Option.some.injEq]at e<;>first|(cases e;done)|(subst e;rfl)|skip
 case vs hn hs ht=>subst e;rw[←hs.1];rfl
theorem qeI{w:World}{k:Nat×Nat×Nat}{c:Array Value}{t:TypeId}{fz:Nat×Nat}(ho:w.heap[k.1]?=some (.cells c t fz))(P:Program)(base n:Nat)(hle:base+n≤c.size):
  (loadCells ⟨k.1,base,none⟩ n).run P w=.ok ((c.toList.drop base).take n).toArray w:=by
 have h:=run_loadCells_list (P:=P) w ⟨k.1,base,none⟩ ((c.toList.drop base).take n) (fun j v hj=>by
  have hadd:(⟨k.1,base,none⟩:Addr).add j=⟨k.1,base+j,none⟩:=by unfold Addr.add;split<;>simp_all
  rw[hadd,cell_of ho]
  rw[List.getElem?_take]at hj
  split at hj
  ·rw[List.getElem?_drop]at hj;simpa using hj
  ·cases hj)
 have hlen:((c.toList.drop base).take n).length=n:=by simp;omega
 rw[hlen]at h
 exact h
theorem qhQ{φ:Map}{e:Nat}{r:Rows}{c:Array Value}(h:RowsIn φ e r c){n:Nat}(hn:n≤r.len)(h0:0<n):n*e≤c.size:=by
 obtain⟨row,hrow⟩:=r.get_lt (i:=n-1) (by omega)
 obtain⟨h1,h2⟩:=h _ _ hrow
 rcases Nat.eq_zero_or_pos e with he|he
 ·subst he;simp
 ·obtain⟨x,hx,_⟩:=h2 (e-1) (row[e-1]'(by omega)) (by simp)
  have:=(Array.getElem?_eq_some_iff.1 hx).1
  have h3:n*e=(n-1)*e+e:=by
   have:n=(n-1)+1:=by omega
   rw[this,Nat.add_mul];simp
  omega
theorem qbF{P:Program}{φ:Map}{h h':H}{x:V}{x':Value}{size n:Nat}{r:Rows}{w:World}(e:elems h x size=some (r,h'))(hh:h'.Holds)(hn:lenV x=some n)(hx:VRel φ x x')(hr:HRel φ h w):
  h.Holds∧h.Same h'∧∃rs,(Builtin.firstCells size n x').run P w=.ok rs.toArray w∧Elems φ size n r rs:=by
 unfold elems at e
 split at e
 ·cases e
  cases hx with
  |slNil=>
   simp only[lenV,Option.some.injEq]at hn
   subst hn
   exact⟨hh,H.Same.refl _,[],rfl,Elems.nil φ size⟩
 ·rename_i a len cap
  simp only[lenV,Option.some.injEq]at hn
  subst hn
  split at e
  ·rename_i el rr hg
   split at e
   ·rename_i he
    have he':el=a.e:=Nat.eq_of_beq_eq_true he
    cases hx with
    |sl _ k _ cap' _ hk hl hc hz=>
     obtain⟨k',o,hk',ho,hrel⟩:=hr.obj _ _ hg (by simp)
     rw[hk]at hk';cases hk'
     cases o with
     |cells c tt fz=>
      obtain⟨hri,hcz,hfz⟩:=hrel
      have hoff:(offA c k.2.2).size=c.size-k.2.2:=by simp[offA]
      split at e
      ·rename_i hes hao
       have hes':el=size:=Nat.eq_of_beq_eq_true hes
       have key:∀(r2:Rows),a.i+len≤rr.len→r2.len=len→(∀j,r2.get j=if j<len then rr.get (a.i+j)else none) →
         ∃rs,(Builtin.firstCells size len (.slice (some (a.real k)) len cap')).run P w=.ok rs.toArray w∧Elems φ size len r2 rs:=by
        intro r2 hle hlen hget
        have hb:(a.i+len)*size≤c.size-k.2.2∨len=0:=by
         rcases Nat.eq_zero_or_pos len with h0|h0
         ·exact .inr h0
         ·exact .inl (by rw[←hes',←hoff];exact qhQ hri hle (by omega))
        have hb2:len*size=0∨k.2.2+a.i*size+len*size≤c.size:=by
         rcases Nat.eq_zero_or_pos (len*size)with h0|h0
         ·exact .inl h0
         ·rcases hb with hb|hb
          ·rw[Nat.add_mul]at hb;exact .inr (by omega)
          ·exact .inl (by rw[hb];simp)
        have haddr:a.real k=⟨k.1,k.2.2+a.i*size,none⟩:=by unfold VA.real;rw[←he',hes',hao];rfl
        rcases hb2 with hz2|hb2
        ·refine⟨[],?_,?_,hlen,by simp[hz2]⟩
         ·simp only[Builtin.firstCells,hz2];rfl
         ·intro i row hrow
          have hi:=Rows.lt_len hrow
          rw[hget,if_pos (by omega)]at hrow
          obtain⟨q1,q2⟩:=hri _ _ hrow
          have hs0:size=0:=by
           rcases Nat.eq_zero_or_pos size with h|h
           ·exact h
           ·have:=Nat.mul_pos (show 0<len by omega) h;omega
          refine⟨by rw[q1,hes'],fun o v hv=>?_⟩
          have:row=[]:=List.eq_nil_of_length_eq_zero (by rw[q1,hes',hs0])
          rw[this]at hv;simp at hv
        ·refine⟨(c.toList.drop (k.2.2+a.i*size)).take (len*size),?_,?_,hlen,by simp;omega⟩
         ·simp only[Builtin.firstCells,haddr]
          exact qeI ho P _ _ hb2
         ·intro i row hrow
          have hi:=Rows.lt_len hrow
          rw[hget,if_pos (by omega)]at hrow
          obtain⟨q1,q2⟩:=hri _ _ hrow
          refine⟨by rw[q1,hes'],fun o v hv=>?_⟩
          obtain⟨y,hy,hvy⟩:=q2 o v hv
          refine⟨y,?_,hvy⟩
          have ho':o<size:=by
           rcases Nat.lt_or_ge o row.length with h|h
           ·omega
           ·rw[List.getElem?_eq_none h]at hv;cases hv
          have h5:(i+1)*size≤len*size:=Nat.mul_le_mul_right size (by omega)
          rw[Nat.add_mul]at h5
          rw[hes',Nat.add_mul,qci]at hy
          simp only[List.getElem?_toArray]
          rw[List.getElem?_take,if_pos (by omega),List.getElem?_drop]
          simp only[Array.getElem?_toList]
          rw[←hy];congr 1;omega
       split at e
       ·rename_i l
        split at e
        ·rename_i h1 ht
         cases e
         obtain⟨t1,t2,t3⟩:=H.test_holds ht hh
         have hle:=Nat.le_of_ble_eq_true t2
         refine⟨t1,t3,key _ hle (by simp[Rows.len];omega) (fun j=>?_)⟩
         simp only[Rows.get,List.getElem?_take,List.getElem?_drop]
        ·cases e
       ·rename_i m f
        split at e
        ·rename_i h1 ht
         cases e
         obtain⟨t1,t2,t3⟩:=H.test_holds ht hh
         have hle:=Nat.le_of_ble_eq_true t2
         refine⟨t1,t3,key _ hle rfl (fun j=>?_)⟩
         simp only[Rows.get]
         by_cases hj:j<len
         ·rw[if_pos hj,if_pos hj,if_pos (by omega)]
         ·rw[if_neg hj,if_neg hj]
        ·cases e
       ·rename_i t l
        have cutGet:∀(i n j:Nat),(Rows.ty t ((l.drop i).take n)).get j=if j<n then(Rows.ty t l).get (i+j)else none:=by
         intro i n j
         simp only[Rows.get,List.getElem?_take,List.getElem?_drop]
         split<;>simp
        split at e
        ·rename_i hai
         split at e
         ·rename_i h1 ht
          cases e
          obtain⟨t1,t2,t3⟩:=H.test_holds ht hh
          have hle:=Nat.eq_of_beq_eq_true t2
          refine⟨t1,t3,key _ (by rw[hai,Nat.zero_add];exact Nat.le_of_eq hle) (by simp[Rows.len,hle]) (fun j=>?_)⟩
          have:=cutGet 0 len j
          rw[List.drop_zero,hle,List.take_length]at this
          rw[hai,hle];exact this
         ·rename_i h1 ht
          split at e
          ·rename_i h2 ht2
           cases e
           obtain⟨t1,t2,t3⟩:=H.test_holds ht2 hh
           obtain⟨t4,t5,t6⟩:=H.test_holds ht t1
           have hle:=Nat.le_of_ble_eq_true t2
           refine⟨t4,H.Same.trans t6 t3,key _ (by rw[hai,Nat.zero_add];exact hle) (by simp[Rows.len];omega) (fun j=>?_)⟩
           have:=cutGet 0 len j
           rw[List.drop_zero]at this
           rw[hai];exact this
          ·cases e
         ·cases e
        ·rename_i i hai
         split at e
         ·rename_i h1 ht
          cases e
          obtain⟨t1,t2,t3⟩:=H.test_holds ht hh
          have hle:=Nat.le_of_ble_eq_true t2
          refine⟨t1,t3,key _ (by rw[hai];exact hle) (by simp[Rows.len];omega) (fun j=>?_)⟩
          rw[hai];exact cutGet _ _ _
         ·cases e
      ·split at e
       ·rename_i row hrow
        split at e
        ·rename_i h1 ht
         have tail:h1.Holds→h.Holds∧h.Same h1∧a.o+len*size≤row.length∧∃rs:List Value,(Builtin.firstCells size len (.slice (some (a.real k)) len cap')).run P w=.ok rs.toArray w∧Elems φ size len (.list (chunks len size (row.drop a.o))) rs:=by
          intro hh1
          obtain⟨t1,t2,t3⟩:=H.test_holds ht hh1
          have hle:=Nat.le_of_ble_eq_true t2
          obtain⟨rs,r1,r2,r3⟩:=qbH hri hrow a.o (len*size) hle
          refine⟨t1,t3,hle,rs,?_,Elems.chunks r2 (by simp;omega)⟩
          have:=run_loadCells_list (P:=P) w (a.real k) rs (fun j u hj=>by
           rw[VA.real_add,cell_of ho,←he']
           have:=r3 j u hj
           rw[qci]at this
           rw[←this];congr 1;omega)
          rw[r1]at this
          simp only[Builtin.firstCells,this]
         split at e
         ·rename_i kk l hu
          have fin:∀{l2:List Int},a.o+len*size≤row.length→l2=l.take len→∀{rs:List Value},Elems φ size len (.list (chunks len size (row.drop a.o))) rs→Elems φ size len (.ty (.int kk) l2) rs:=by
           intro l2 hle hl2 rs he
           obtain⟨g1,g2,g3,g4⟩:=qhY hu hle
           subst hl2
           refine⟨fun i row' hi=>?_,by simp[Rows.len];omega,he.cells⟩
           rw[g4]at hi
           exact he.rows i row' hi
          split at e
          ·rename_i h2 ht2
           cases e
           obtain⟨u1,u2,u3⟩:=H.test_holds ht2 hh
           obtain⟨q1,q2,q3,rs,q4,q5⟩:=tail u1
           have hll:=Nat.eq_of_beq_eq_true u2
           exact⟨q1,H.Same.trans q2 u3,rs,q4,fin q3 (by rw[hll,List.take_length]) q5⟩
          ·rename_i h2 ht2
           cases e
           obtain⟨u1,u2,u3⟩:=H.test_holds ht2 hh
           obtain⟨q1,q2,q3,rs,q4,q5⟩:=tail u1
           exact⟨q1,H.Same.trans q2 u3,rs,q4,fin q3 rfl q5⟩
          ·cases e
         ·cases e
          obtain⟨q1,q2,q3,rs,q4,q5⟩:=tail hh
          exact⟨q1,q2,rs,q4,q5⟩
        ·cases e
       ·cases e
     |_=>exact hrel.elim
   ·obtain⟨rfl,rfl,rfl⟩:=qed e
    cases hx with
    |sl _ k _ cap' _ hk hl hc hz=>
     refine⟨hh,H.Same.refl _,[],?_,Elems.nil φ size⟩
     have:=run_loadCells_list (P:=P) w (a.real k) [] (fun j u hj=>by simp at hj)
     simp only[List.length_nil]at this
     simp only[Builtin.firstCells,Nat.zero_mul,this]
  ·cases e
 ·rename_i s
  simp only[lenV,Option.some.injEq]at hn
  subst hn
  split at e
  ·rename_i hs
   have hs':size=1:=Nat.eq_of_beq_eq_true hs
   subst hs'
   cases e
   cases hx
   refine⟨hh,H.Same.refl _,s.data.toList.map fun b=>.int .u8 b.toNat,?_,?_,?_,?_⟩
   ·have hex:(s.extract 0 s.size)=s:=by simp
    simp only[Builtin.firstCells,hex,Sem.run_pure]
    congr 1
    apply Array.ext'
    simp
   ·intro i row hrow
    simp only[Rows.get,List.getElem?_map]at hrow
    cases hb:s.data.toList[i]? with
    |none=>simp[hb]at hrow
    |some b=>
     rw[hb]at hrow
     simp only[Option.map_some,Option.some.injEq]at hrow
     subst hrow
     refine⟨rfl,fun o v hv=>?_⟩
     cases o with
     |zero=>
      simp at hv;subst hv
      refine⟨.int .u8 b.toNat,?_,.int _ _⟩
      simp only[List.getElem?_toArray,List.getElem?_map,Nat.mul_one,Nat.add_zero,hb,Option.map_some]
     |succ o=>simp at hv
   ·simp[Rows.len]
   ·simp
  ·cases e
 ·rename_i t l tip
  simp only[lenV,Option.some.injEq]at hn
  subst hn
  split at e
  ·rename_i hs
   have hs':=Nat.eq_of_beq_eq_true hs
   subst hs'
   cases e
   refine⟨hh,H.Same.refl _,?_⟩
   cases hx with
   |vs _ _ _ a m cap hm hsl ht=>
    obtain⟨h1,h2⟩:=hsl
    have hempty:l.length*t.cells=0∨l≠[]:=by
     cases l with
     |nil=>left;simp
     |cons _ _=>right;simp
    rcases h2 with h2|⟨b,off,c,h2,h3,h4,h5⟩
    ·subst h2
     refine⟨[],?_,⟨fun i row h=>by simp[Rows.get]at h,rfl,by simp⟩⟩
     cases a with
     |none=>rfl
     |some a=>
      have:=run_loadCells_list (P:=P) w a [] (fun j u hj=>by simp at hj)
      simp only[Builtin.firstCells,List.length_nil,Nat.zero_mul]at this ⊢
      exact this
    ·subst h2
     obtain⟨cs,tt,z,hw,hb⟩:=hr.fz _ _ h3
     have hcs:=qes hb
     refine⟨(cs.toList.drop off).take (l.length*t.cells),?_,?_,rfl,by simp;omega⟩
     ·simp only[Builtin.firstCells]
      exact qeI (k:=(b,0,0)) hw P off _ (by omega)
     ·intro i row hi
      simp only[Rows.get]at hi
      cases hd:l[i]? with
      |none=>rw[hd]at hi;cases hi
      |some d=>
       rw[hd]at hi
       cases hi
       have hil:i<l.length:=(List.getElem?_eq_some_iff.1 hd).1
       obtain⟨xs,k1,k2,k3⟩:=h5 i d hd
       have hV:=k1.cellsV
       refine⟨by rw[hV.length,k2],fun o v hv=>?_⟩
       obtain⟨x,hx1,hx2⟩:=hV.get o v hv
       refine⟨x,?_,hx2⟩
       have ho:o<t.cells:=by rw[←k2];exact(List.getElem?_eq_some_iff.1 hx1).1
       have h6:(i+1)*t.cells≤l.length*t.cells:=Nat.mul_le_mul_right _ hil
       rw[Nat.add_mul]at h6
       have h7:=hb _ _ (k3 o x hx1)
       simp only[List.getElem?_toArray]
       rw[List.getElem?_take,if_pos (by omega),List.getElem?_drop]
       simp only[Array.getElem?_toList]
       rw[←h7];congr 1;omega
  ·cases e
 ·cases e
end Go.Vm

namespace Go.Vm
open Go
def Rows.join(r:Rows)(n:Nat)(s:Rows)(m:Nat):Rows:=
 match r,s with
 |.list a,.list b=>.list (a++b)
 |r,s=>.fn (n+m) (fun j=>match Nat.ble (j+1) n with
  |true=>(r.get j).getD []
  |false=>(s.get (j-n)).getD [])
theorem Rows.get_join{r s:Rows}{n m:Nat}(hr:r.len=n)(hs:s.len=m){j:Nat}{row:List V}(h:(r.join n s m).get j=some row):
  (j<n∧r.get j=some row)∨(n≤j∧s.get (j-n)=some row):=by
 have hfn:∀(r s:Rows),r.len=n→s.len=m→(Rows.fn (n+m) (fun j=>match Nat.ble (j+1) n with|true=>(r.get j).getD []|false=>(s.get (j-n)).getD [])).get j=some row →
   (j<n∧r.get j=some row)∨(n≤j∧s.get (j-n)=some row):=by
  intro r s hr hs h
  change(if j<n+m then some _ else none)=some row at h
  by_cases hj:j<n+m
  ·rw[if_pos hj]at h
   by_cases hjn:j+1≤n
   ·have hb:=Nat.ble_eq_true_of_le hjn
    obtain⟨x,hx⟩:=r.get_lt (i:=j) (by omega)
    dsimp only at h
    rw[hb,hx]at h
    cases h
    exact .inl ⟨by omega,hx⟩
   ·have hb:Nat.ble (j+1) n=false:=by
     cases hb:Nat.ble (j+1) n with
     |false=>rfl
     |true=>exact absurd (Nat.le_of_ble_eq_true hb) hjn
    obtain⟨x,hx⟩:=s.get_lt (i:=j-n) (by omega)
    dsimp only at h
    rw[hb,hx]at h
    cases h
    exact .inr ⟨by omega,hx⟩
  ·rw[if_neg hj]at h;cases h
 cases r with
 |list a=>
  cases s with
  |list b=>
   simp only[Rows.join,Rows.get,Rows.len]at h hr hs ⊢
   rcases Nat.lt_or_ge j n with hj|hj
   ·rw[List.getElem?_append_left (by omega)]at h;exact .inl ⟨hj,h⟩
   ·rw[List.getElem?_append_right (by omega),hr]at h;exact .inr ⟨hj,h⟩
  |fn b g=>exact hfn _ _ hr hs h
  |ty b g=>exact hfn _ _ hr hs h
 |fn a f=>cases s<;>exact hfn _ _ hr hs h
 |ty a f=>cases s<;>exact hfn _ _ hr hs h
theorem Elems.join{φ:Map}{size n m:Nat}{r s:Rows}{rs ss:List Value}(h:Elems φ size n r rs)(k:Elems φ size m s ss)(rest:List Value):
  RowsIn φ size (r.join n s m) (rs++ss++rest).toArray:=by
 intro i row hrow
 rcases Rows.get_join h.len k.len hrow with⟨hi,hg⟩|⟨hi,hg⟩
 ·obtain⟨q1,q2⟩:=h.rows _ _ hg
  refine⟨q1,fun o v hv=>?_⟩
  obtain⟨x,hx,hvx⟩:=q2 o v hv
  refine⟨x,?_,hvx⟩
  simp only[List.getElem?_toArray]at hx ⊢
  have:=(List.getElem?_eq_some_iff.1 hx).1
  rw[List.append_assoc,List.getElem?_append_left this];exact hx
 ·obtain⟨q1,q2⟩:=k.rows _ _ hg
  refine⟨q1,fun o v hv=>?_⟩
  obtain⟨x,hx,hvx⟩:=q2 o v hv
  refine⟨x,?_,hvx⟩
  simp only[List.getElem?_toArray]at hx ⊢
  have hlt:=(List.getElem?_eq_some_iff.1 hx).1
  have hc:=h.cells
  have hio:i*size+o=n*size+((i-n)*size+o):=by
   have:i=n+(i-n):=by omega
   rw[this,Nat.add_mul]
   have:n+(i-n)-n=i-n:=by omega
   rw[this];omega
  rw[List.append_assoc,List.getElem?_append_right (by omega),List.getElem?_append_left (by omega)]
  rw[←hx];congr 1;omega
def mapD{α β:Type}(f:α→Option β):List α→Option (List β)
 |[]=>some []
 |x::l=>match f x with
  |none=>none
  |some y=>match mapD f l with
   |some r=>some (y::r)
   |none=>none
def qbd(t:Ty):Rows→Option (List t.data)
 |.list rows=>mapD (qc5 t) rows
 |.ty u l=>match Ty.eq? u t with
  |some h=>some (Ty.castL h l)
  |none=>none
 |.fn _ _=>none
theorem qlo{α β:Type}{f:α→Option β}:∀{l:List α}{r:List β},mapD f l=some r→r.length=l.length
 |[],_,e=>by cases e;rfl
 |x::l,r,e=>by
  simp only[mapD]at e
  split at e
  ·cases e
  ·split at e
   ·rename_i r' h2;cases e;simp[qlo h2]
   ·cases e
theorem qlJ{α β:Type}{f:α→Option β}:∀{l:List α}{r:List β},mapD f l=some r→∀(i:Nat)(y:β),r[i]?=some y→∃x,l[i]?=some x∧f x=some y
 |[],_,e,i,y,h=>by cases e;simp at h
 |x::l,r,e,i,y,h=>by
  simp only[mapD]at e
  split at e
  ·cases e
  ·rename_i z hz
   split at e
   ·rename_i r' h2
    cases e
    cases i with
    |zero=>simp at h;subst h;exact⟨x,rfl,hz⟩
    |succ i=>simp at h ⊢;exact qlJ h2 i y h
   ·cases e
theorem Rows.ty_get{t:Ty}{l:List t.data}{i:Nat}{d:t.data}(h:l[i]?=some d):(Rows.ty t l).get i=some (cellsV t d):=by
 simp only[Rows.get,h,Option.map_some]
theorem qbA{t:Ty}{q:Rows}{xs:List t.data}(h:qbd t q=some xs):q.len=xs.length∧∀i d,xs[i]?=some d→∃row,q.get i=some row∧qc5 t row=some d:=by
 cases q with
 |list rows=>
  simp only[qbd]at h
  exact⟨(qlo h).symm,fun i d hi=>qlJ h i d hi⟩
 |fn n f=>cases h
 |ty u l=>
  simp only[qbd]at h
  split at h
  ·rename_i p hp
   clear hp
   cases h
   obtain⟨hp⟩:=p
   subst hp
   exact⟨rfl,fun i d hi=>⟨_,Rows.ty_get hi,qcK _ d⟩⟩
  ·cases h
def Rows.joinD(r:Rows)(n:Nat)(s:Rows)(m:Nat):Rows:=
 match r with
 |.ty t l=>match qbd t s with
  |some l2=>.ty t (l++l2)
  |none=>r.join n s m
 |.list a=>match s with
  |.ty t l2=>match qbd t (.list a)with
   |some l=>.ty t (l++l2)
   |none=>r.join n s m
  |_=>r.join n s m
 |.fn _ _=>r.join n s m
theorem Rows.join_fn_get{r s:Rows}{n m:Nat}{i:Nat}{row:List V}(h:(i<n∧r.get i=some row)∨(n≤i∧i<n+m∧s.get (i-n)=some row)):
  (Rows.fn (n+m) (fun j=>match Nat.ble (j+1) n with|true=>(r.get j).getD []|false=>(s.get (j-n)).getD [])).get i=some row:=by
 show(if i<n+m then some _ else none)=some row
 rcases h with⟨h1,h2⟩|⟨h1,h2,h3⟩
 ·rw[if_pos (by omega)]
  have hb:Nat.ble (i+1) n=true:=Nat.ble_eq_true_of_le h1
  dsimp only
  rw[hb,h2];rfl
 ·rw[if_pos h2]
  have hb:Nat.ble (i+1) n=false:=by
   cases hb:Nat.ble (i+1) n with
   |false=>rfl
   |true=>have:=Nat.le_of_ble_eq_true hb;omega
  dsimp only
  rw[hb,h3];rfl
theorem Rows.join_get{r s:Rows}{n m:Nat}(hr:r.len=n)(hs:s.len=m){i:Nat}{row:List V}(h:(i<n∧r.get i=some row)∨(n≤i∧s.get (i-n)=some row)):(r.join n s m).get i=some row:=by
 have hfn:(Rows.fn (n+m) (fun j=>match Nat.ble (j+1) n with|true=>(r.get j).getD []|false=>(s.get (j-n)).getD [])).get i=some row:=by
  refine Rows.join_fn_get ?_
  rcases h with h|⟨h1,h2⟩
  ·exact .inl h
  ·have:=Rows.lt_len h2
   exact .inr ⟨h1,by omega,h2⟩
 cases r with
 |list a=>
  cases s with
  |list b=>
   simp only[Rows.join,Rows.get,Rows.len]at h hr hs ⊢
   rcases h with⟨h1,h2⟩|⟨h1,h2⟩
   ·rw[List.getElem?_append_left (by omega)];exact h2
   ·rw[List.getElem?_append_right (by omega),hr];exact h2
  |fn b g=>exact hfn
  |ty b g=>exact hfn
 |fn a f=>cases s<;>exact hfn
 |ty a f=>cases s<;>exact hfn
theorem Elems.joinD{φ:Map}{size n m:Nat}{r s:Rows}{rs ss:List Value}(h:Elems φ size n r rs)(k:Elems φ size m s ss)(rest:List Value):
  RowsIn φ size (r.joinD n s m) (rs++ss++rest).toArray:=by
 have hj:=Elems.join h k rest
 have key:∀{t:Ty}{l l2:List t.data},(r.len=l.length∧∀i d,l[i]?=some d→∃row,r.get i=some row∧qc5 t row=some d)→(s.len=l2.length∧∀i d,l2[i]?=some d→∃row,s.get i=some row∧qc5 t row=some d) →
   RowsIn φ size (.ty t (l++l2)) (rs++ss++rest).toArray:=by
  intro t l l2 ⟨a1,a2⟩ ⟨b1,b2⟩
  refine hj.typed fun i d hi=>?_
  have hn:=h.len
  rcases Nat.lt_or_ge i l.length with hlt|hge
  ·rw[List.getElem?_append_left hlt]at hi
   obtain⟨row,c1,c2⟩:=a2 i d hi
   exact⟨row,Rows.join_get h.len k.len (.inl ⟨by omega,c1⟩),c2⟩
  ·rw[List.getElem?_append_right hge]at hi
   obtain⟨row,c1,c2⟩:=b2 _ d hi
   exact⟨row,Rows.join_get h.len k.len (.inr ⟨by omega,by rw[←hn,a1];exact c1⟩),c2⟩
 unfold Rows.joinD
 cases r with
 |ty t l=>
  dsimp only
  split
  ·rename_i l2 e2
   exact key ⟨rfl,fun i d hi=>⟨_,Rows.ty_get hi,qcK _ d⟩⟩ (qbA e2)
  ·exact hj
 |list a=>
  cases s with
  |ty t l2=>
   dsimp only
   split
   ·rename_i l e1
    exact key (qbA e1) ⟨rfl,fun i d hi=>⟨_,Rows.ty_get hi,qcK _ d⟩⟩
   ·exact hj
  |list b=>exact hj
  |fn b g=>exact hj
 |fn a f=>exact hj
def H.kill(h:H)(b:Nat):H:=H.casesOn h fun next ro objs ask said=>{ next:=next,ro:=ro,objs:=upd objs b .dead,ask:=ask,said:=said }
theorem H.kill_eq(h:H)(b:Nat):h.kill b={ h with objs:=upd h.objs b .dead }:=by cases h;rfl
theorem H.get_kill{h:H}{b c:Nat}{x:Ob}(e:(h.kill b).get c=some x):c≠b∧h.get c=some x:=by
 simp only[H.get,H.kill_eq,qbY]at e
 split at e
 ·rename_i hbc
  cases hl:look h.objs c with
  |none=>rw[hl]at e;cases e
  |some u=>rw[hl]at e;cases e
 ·rename_i hne;exact⟨fun e'=>hne e'.symm,e⟩
theorem Goes.drop{φ:Map}{h h':H}{w:World}(hr:HRel φ h w)(hn:h'.next=h.next)(hro:h'.ro=h.ro)(hg:∀b x,h'.get b=some x→h.get b=some x):Goes φ h w φ h' w where
 le:=Map.le_refl _
 rel:={
  obj:=fun b x hx=>by rw[hro];exact hr.obj b x (hg b x hx)
  inj:=fun b b' x x' k k' hx hx' hb=>by rw[hro]at hb;exact hr.inj b b' x x' k k' (hg b x hx) (hg b' x' hx') hb
  dom:=by rw[hn];exact hr.dom
  rle:=by rw[hn,hro];exact hr.rle
  fz:=hr.fz
  own:=fun b x k hx=>hr.own b x k (hg b x hx)
  tip:=fun b hb=>hr.tip b (hg b _ hb)
  tinj:=fun b b' m m' hb hb'=>hr.tinj b b' m m' (hg b _ hb) (hg b' _ hb')
  tdom:=by rw[hn];exact hr.tdom }
 next:=by omega
 ro:=hro
 fresh:=fun _ _ e=>.inl e
 size:=Nat.le_refl _
 frame:=fun _ _ _ _=>rfl
 tfresh:=fun _ _ e=>.inl e
 tlive:=fun b _ _ hb=>hg b _ hb
 ffresh:=fun _ _ e _=>.inl e
 os:=rfl
 tape:=rfl
 output:=rfl
theorem HRel.kill{φ:Map}{h:H}{w:World}(hr:HRel φ h w)(b:Nat):HRel φ (h.kill b) w:=
 (Goes.drop hr (h':=h.kill b) (by rw[H.kill_eq]) (by rw[H.kill_eq]) (fun _ _ hx=>(H.get_kill hx).2)).rel
theorem Goes.inPlace{φ:Map}{h:H}{w w':World}(hr:HRel φ h w){b:Nat}{y x:Ob}{k:Nat×Nat×Nat}{o:Obj}(hg:h.get b=some y)(hro:h.ro≤b)(hk:φ b=some k)
  (hhere:w'.heap[k.1]?=some o) (hsz:w'.heap.size=w.heap.size) (hother:∀j,j≠k.1→w'.heap[j]?=w.heap[j]?) (h1:w'.os=w.os) (h2:w'.tape=w.tape) (h3:w'.output=w.output)
  (ho:ObRel φ true k.2 x o):Goes φ h w (φ.add h.next k) ((h.kill b).push x) w'∧(φ.add h.next k) h.next=some k:=by
 have hnx:φ h.next=none:=by
  cases e:φ h.next with
  |none=>rfl
  |some n=>have:=(hr.dom _ _ e).1;omega
 have hle:φ.le (φ.add h.next k):=Map.add_le hr k
 have hget:∀c z,((h.kill b).push x).get c=some z→(c=h.next∧z=x)∨(c≠h.next∧c≠b∧h.get c=some z):=by
  intro c z hz
  rcases H.get_push hz with⟨rfl,rfl⟩|⟨hne,hz⟩
  ·exact .inl ⟨rfl,rfl⟩
  ·obtain⟨q1,q2⟩:=H.get_kill hz
   exact .inr ⟨hne,q1,q2⟩
 have htip:∀c,((h.kill b).push x).get c=some .tip→h.get c=some .tip:=by
  intro c hc
  rcases hget c _ hc with⟨_,e⟩|⟨_,_,hc⟩
  ·exact absurd e.symm ho.ne_tip
  ·exact hc
 have hfb:φ.fz k.1=none:=hr.own b y k hg hk
 have hfo:∀n c,φ.fz n=some c→n≠k.1:=by
  intro n c e e'
  rw[e',hfb]at e;cases e
 have hblk:∀c z n,c≠b→h.get c=some z→φ c=some n→n.1≠k.1:=fun c z n hne hz hn e=>hr.inj b c y z k n hg hz hro (Ne.symm hne) hk hn e.symm
 refine⟨?_,by simp[Map.add]⟩
 constructor
 ·exact hle
 ·constructor
  ·intro c z hz hzt
   rcases hget c z hz with⟨rfl,rfl⟩|⟨hn,hb,hz⟩
   ·refine⟨k,o,by simp[Map.add],hhere,?_⟩
    have:Nat.ble ((h.kill b).push z).ro h.next=true:=Nat.ble_eq_true_of_le hr.rle
    rw[this];exact ho.mono hle
   ·obtain⟨n,o',hn',ho',hrel⟩:=hr.obj c z hz hzt
    refine⟨n,o',hle _ _ hn',?_,hrel.mono hle⟩
    rw[hother _ (hblk c z n hb hz hn')];exact ho'
  ·intro c c' z z' n n' hz hz' hc hne hn hn'
   rcases hget c z hz with⟨rfl,rfl⟩|⟨q1,q2,hz⟩
   ·simp only[Map.add,if_true,Option.some.injEq]at hn
    subst hn
    rcases hget c' z' hz' with⟨rfl,_⟩|⟨p1,p2,hz'⟩
    ·exact absurd rfl hne
    ·simp only[Map.add,if_neg p1]at hn'
     exact fun e=>hblk c' z' n' p2 hz' hn' e.symm
   ·simp only[Map.add,if_neg q1]at hn
    rcases hget c' z' hz' with⟨rfl,_⟩|⟨p1,p2,hz'⟩
    ·simp only[Map.add,if_true,Option.some.injEq]at hn'
     subst hn'
     exact hblk c z n q2 hz hn
    ·simp only[Map.add,if_neg p1]at hn'
     exact hr.inj c c' z z' n n' hz hz' hc hne hn hn'
  ·intro c n e
   simp only[Map.add]at e
   split at e
   ·rename_i hc
    cases e
    subst hc
    have:=(hr.dom _ _ hk).2
    simp only[H.push_eq,H.kill_eq]
    omega
   ·have:=hr.dom c n e
    simp only[H.push_eq,H.kill_eq]
    omega
  ·have:=hr.rle
   simp only[H.push_eq,H.kill_eq]
   omega
  ·intro n c e
   obtain⟨cs,t,q,e1,e2⟩:=hr.fz n c e
   exact⟨cs,t,q,by rw[hother _ (hfo n c e)];exact e1,e2⟩
  ·intro c z n hz hn
   rcases hget c z hz with⟨rfl,rfl⟩|⟨q1,_,hz⟩
   ·simp only[Map.add,if_true,Option.some.injEq]at hn
    subst hn;exact hfb
   ·simp only[Map.add,if_neg q1]at hn
    exact hr.own c z n hz hn
  ·intro c hc
   obtain⟨m,h4,h5⟩:=hr.tip c (htip c hc)
   refine⟨m,h4,fun blk en sz e=>?_⟩
   obtain⟨⟨c',hc',hcs⟩,cs,t,h6,h7⟩:=h5 blk en sz e
   exact⟨⟨c',hc',hcs⟩,cs,t,by rw[hother _ (hfo _ _ hc')];exact h6,h7⟩
  ·intro c c' m m' hc hc' hne e e'
   exact hr.tinj c c' m m' (htip c hc) (htip c' hc') hne e e'
  ·intro c m e
   have:=hr.tdom c m e
   simp only[H.push_eq,H.kill_eq];omega
 ·simp[H.push_eq,H.kill_eq]
 ·rfl
 ·intro c n e
  simp only[Map.add]at e
  split at e
  ·rename_i hc
   cases e
   exact .inr ⟨by omega,.inr ⟨b,k,hro,hk,rfl⟩⟩
  ·exact .inl e
 ·omega
 ·intro j hj hf _
  exact hother j (fun e=>hf b k hro hk e.symm)
 ·exact fun _ _ e=>.inl e
 ·exact fun c _ _ hc=>htip c hc
 ·exact fun _ _ e _=>.inl e
 ·exact h1
 ·exact h2
 ·exact h3
def Map.tipped(φ:Map)(b:Nat)(c:Array Value)(m:Nat×Nat×Nat):Map:=
 {φ with fz:=fun k=>if k=m.1 then some c else φ.fz k,tp:=fun d=>if d=b then some (some m)else φ.tp d }
theorem Map.tipped_le{φ:Map}{h:H}{w:World}(hr:HRel φ h w){c:Array Value}{m:Nat×Nat×Nat}(hc:∀c0,φ.fz m.1=some c0→Begins c0 c):φ.le (φ.tipped h.next c m):=
 ⟨fun _ _ e=>e,fun k c0 e=>by
  simp only[Map.tipped]
  by_cases hk:k=m.1
  ·subst hk;rw[if_pos rfl];exact⟨c,rfl,hc c0 e⟩
  ·rw[if_neg hk];exact⟨c0,e,Begins.refl _⟩,fun b n e=>by
  have:=hr.tdom b n e
  simp only[Map.tipped]
  rw[if_neg (by omega)];exact e,rfl⟩
theorem Goes.grow{φ:Map}{h:H}{w w':World}(hr:HRel φ h w){cs c:Array Value}{t:TypeId}(hw:w'.heap=w.heap.push (.cells cs t (0,0)))(hc:Begins c cs)(h1:w'.os=w.os)(h2:w'.tape=w.tape)(h3:w'.output=w.output):
  Goes φ h w (φ.tipped h.next c (w.heap.size,c.size,cs.size)) (h.push .tip) w':=by
 have hsz:w'.heap.size=w.heap.size+1:=by rw[hw];simp
 have hold:∀k,k<w.heap.size→w'.heap[k]?=w.heap[k]?:=by
  intro k hk
  rw[hw,Array.getElem?_push,if_neg (by omega)]
 have hnew:w'.heap[w.heap.size]?=some (.cells cs t (0,0)):=by rw[hw];simp
 have hnf:φ.fz w.heap.size=none:=by
  cases e:φ.fz w.heap.size with
  |none=>rfl
  |some c=>have:=hr.fdom e;omega
 have hle:φ.le (φ.tipped h.next c (w.heap.size,c.size,cs.size)):=Map.tipped_le hr (by intro c0 e;rw[hnf]at e;cases e)
 have hobj:∀b x,(h.push .tip).get b=some x→x≠.tip→h.get b=some x:=by
  intro b x hb hx
  rcases H.get_push hb with⟨_,e⟩|⟨_,hb⟩
  ·exact absurd e hx
  ·exact hb
 have hlook:∀b x k,(h.push .tip).get b=some x→φ b=some k→h.get b=some x:=by
  intro b x k hb hk
  rcases H.get_push hb with⟨e,_⟩|⟨_,hb⟩
  ·have:=(hr.dom b k hk).1;omega
  ·exact hb
 constructor
 ·exact hle
 ·constructor
  ·intro b x hb hx
   obtain⟨k,o,h4,h5,h6⟩:=hr.obj b x (hobj b x hb hx) hx
   exact⟨k,o,h4,by rw[hold _ (hr.dom _ _ h4).2];exact h5,h6.mono hle⟩
  ·intro b b' x x' k k' hb hb' hro hne hk hk'
   exact hr.inj b b' x x' k k' (hlook b x k hb hk) (hlook b' x' k' hb' hk') hro hne hk hk'
  ·intro b k hk
   have:=hr.dom b k hk
   simp only[H.push_eq];omega
  ·have:=hr.rle
   simp only[H.push_eq];omega
  ·intro k d e
   simp only[Map.tipped]at e
   split at e
   ·rename_i hk
    cases e
    subst hk
    exact⟨cs,t,_,hnew,hc⟩
   ·obtain⟨cs',t',z,e1,e2⟩:=hr.fz k d e
    exact⟨cs',t',z,by rw[hold _ (hr.fdom e)];exact e1,e2⟩
  ·intro b x k hb hk
   have hlt:=(hr.dom b k hk).2
   simp only[Map.tipped]
   rw[if_neg (by omega)]
   exact hr.own b x k (hlook b x k hb hk) hk
  ·intro b hb
   rcases H.get_push hb with⟨rfl,_⟩|⟨hne,hb⟩
   ·refine⟨some (w.heap.size,c.size,cs.size),by simp[Map.tipped],fun blk en sz e=>?_⟩
    cases e
    exact⟨⟨c,by simp[Map.tipped],rfl⟩,cs,t,hnew,rfl⟩
   ·obtain⟨m,h4,h5⟩:=hr.tip b hb
    refine⟨m,hle.tp _ _ h4,fun blk en sz e=>?_⟩
    obtain⟨⟨c',hc',hcs⟩,cs',t',h6,h7⟩:=h5 blk en sz e
    have hlt:=hr.fdom hc'
    refine⟨⟨c',?_,hcs⟩,cs',t',by rw[hold _ hlt];exact h6,h7⟩
    simp only[Map.tipped]
    rw[if_neg (by omega)];exact hc'
  ·intro b b' m m' hb hb' hne e e'
   have blk:∀b m,h.get b=some .tip→φ.tp b=some (some m)→m.1<w.heap.size:=by
    intro b m hb e
    obtain⟨m0,h4,h5⟩:=hr.tip b hb
    rw[e]at h4;cases h4
    obtain⟨⟨c',hc',_⟩,_⟩:=h5 m.1 m.2.1 m.2.2 rfl
    exact hr.fdom hc'
   simp only[Map.tipped]at e e'
   rcases H.get_push hb with⟨rfl,_⟩|⟨hn,hb⟩
   ·rw[if_pos rfl]at e
    cases e
    rcases H.get_push hb' with⟨rfl,_⟩|⟨hn',hb'⟩
    ·exact absurd rfl hne
    ·rw[if_neg hn']at e'
     have:=blk b' m' hb' e'
     simp only;omega
   ·rw[if_neg hn]at e
    rcases H.get_push hb' with⟨rfl,_⟩|⟨hn',hb'⟩
    ·rw[if_pos rfl]at e'
     cases e'
     have:=blk b m hb e
     simp only;omega
    ·rw[if_neg hn']at e'
     exact hr.tinj b b' m m' hb hb' hne e e'
  ·intro b m e
   simp only[Map.tipped]at e
   simp only[H.push_eq]
   split at e
   ·omega
   ·have:=hr.tdom b m e;omega
 ·simp[H.push_eq]
 ·rfl
 ·exact fun _ _ e=>.inl e
 ·omega
 ·exact fun k hk _ _=>hold k hk
 ·intro b m e
  simp only[Map.tipped]at e
  split at e
  ·cases e
   exact .inr ⟨by omega,fun e he=>by cases he;exact .inl (Nat.le_refl _)⟩
  ·exact .inl e
 ·intro b m e hb
  have:=hr.tdom b m e
  rcases H.get_push hb with⟨e,_⟩|⟨_,hb⟩
  ·omega
  ·exact hb
 ·intro k d e hk
  simp only[Map.tipped]at e
  rw[if_neg (by omega)]at e
  exact .inl e
 ·exact h1
 ·exact h2
 ·exact h3
theorem Goes.inTip{φ:Map}{h:H}{w w':World}(hr:HRel φ h w){b blk en sz:Nat}(hg:h.get b=some .tip)(hbro:h.ro≤b)(hb:φ.tp b=some (some (blk,en,sz))){cs c:Array Value}{t:TypeId}
  (hhere:w'.heap[blk]?=some (.cells cs t (0,0))) (hcs:cs.size=sz) (hc:Begins c cs) (hc0:∀c0,φ.fz blk=some c0→Begins c0 c)
  (hsz:w'.heap.size=w.heap.size) (hother:∀j,j≠blk→w'.heap[j]?=w.heap[j]?) (h1:w'.os=w.os) (h2:w'.tape=w.tape) (h3:w'.output=w.output):
  Goes φ h w (φ.tipped h.next c (blk,c.size,sz)) ((h.kill b).push .tip) w':=by
 have hle:φ.le (φ.tipped h.next c (blk,c.size,sz)):=Map.tipped_le hr hc0
 have hfz:∃c0,φ.fz blk=some c0:=by
  obtain⟨m,h4,h5⟩:=hr.tip b hg
  rw[hb]at h4;cases h4
  obtain⟨⟨c',hc',_⟩,_⟩:=h5 blk en sz rfl
  exact⟨c',hc'⟩
 obtain⟨c0,hfz⟩:=hfz
 have hobj:∀d x,((h.kill b).push .tip).get d=some x→x≠.tip→h.get d=some x:=by
  intro d x hd hx
  rcases H.get_push hd with⟨_,e⟩|⟨_,hd⟩
  ·exact absurd e hx
  ·exact(H.get_kill hd).2
 have hlook:∀d x k,((h.kill b).push .tip).get d=some x→φ d=some k→h.get d=some x:=by
  intro d x k hd hk
  rcases H.get_push hd with⟨e,_⟩|⟨_,hd⟩
  ·have:=(hr.dom d k hk).1
   rw[e]at this;simp only[H.kill_eq]at this;omega
  ·exact(H.get_kill hd).2
 have hnb:∀d x k,h.get d=some x→φ d=some k→k.1≠blk:=by
  intro d x k hd hk e
  have:=hr.own d x k hd hk
  rw[e,hfz]at this;cases this
 have hnx:(h.kill b).next=h.next:=by rw[H.kill_eq]
 have htip:∀d,((h.kill b).push .tip).get d=some .tip→d=h.next∨(d≠h.next∧d≠b∧h.get d=some .tip):=by
  intro d hd
  rcases H.get_push hd with⟨e,_⟩|⟨hn,hd⟩
  ·exact .inl (by rw[←hnx];exact e)
  ·obtain⟨q1,q2⟩:=H.get_kill hd
   exact .inr ⟨by rw[←hnx];exact hn,q1,q2⟩
 have hblk:∀d m,d≠b→h.get d=some .tip→φ.tp d=some (some m)→m.1≠blk:=by
  intro d m hd hg' e e'
  exact hr.tinj d b m (blk,en,sz) hg' hg hd e hb e'
 constructor
 ·exact hle
 ·constructor
  ·intro d x hd hx
   obtain⟨k,o,h4,h5,h6⟩:=hr.obj d x (hobj d x hd hx) hx
   exact⟨k,o,h4,by rw[hother _ (hnb d x k (hobj d x hd hx) h4)];exact h5,h6.mono hle⟩
  ·intro d d' x x' k k' hd hd' hro hne hk hk'
   exact hr.inj d d' x x' k k' (hlook d x k hd hk) (hlook d' x' k' hd' hk') hro hne hk hk'
  ·intro d k hk
   have:=hr.dom d k hk
   simp only[H.push_eq,H.kill_eq];omega
  ·have:=hr.rle
   simp only[H.push_eq,H.kill_eq];omega
  ·intro k d e
   simp only[Map.tipped]at e
   split at e
   ·rename_i hk
    cases e
    subst hk
    exact⟨cs,t,_,hhere,hc⟩
   ·rename_i hk
    obtain⟨cs',t',z,e1,e2⟩:=hr.fz k d e
    exact⟨cs',t',z,by rw[hother _ hk];exact e1,e2⟩
  ·intro d x k hd hk
   have hd':=hlook d x k hd hk
   simp only[Map.tipped]
   rw[if_neg (hnb d x k hd' hk)]
   exact hr.own d x k hd' hk
  ·intro d hd
   rcases htip d hd with rfl|⟨hne,hdb,hd⟩
   ·refine⟨some (blk,c.size,sz),by simp[Map.tipped],fun blk' en' sz' e=>?_⟩
    cases e
    exact⟨⟨c,by simp[Map.tipped],rfl⟩,cs,t,hhere,hcs⟩
   ·obtain⟨m,h4,h5⟩:=hr.tip d hd
    refine⟨m,hle.tp _ _ h4,fun blk' en' sz' e=>?_⟩
    obtain⟨⟨c',hc',hcs'⟩,cs',t',h6,h7⟩:=h5 blk' en' sz' e
    subst e
    have hne2:=hblk d _ hdb hd h4
    refine⟨⟨c',?_,hcs'⟩,cs',t',by rw[hother _ hne2];exact h6,h7⟩
    simp only[Map.tipped]
    rw[if_neg hne2];exact hc'
  ·intro d d' m m' hd hd' hne e e'
   simp only[Map.tipped]at e e'
   rcases htip d hd with rfl|⟨hn,hdb,hd⟩
   ·rw[if_pos rfl]at e
    cases e
    rcases htip d' hd' with rfl|⟨hn',hdb',hd'⟩
    ·exact absurd rfl hne
    ·rw[if_neg hn']at e'
     exact fun e=>hblk d' m' hdb' hd' e' e.symm
   ·rw[if_neg hn]at e
    rcases htip d' hd' with rfl|⟨hn',hdb',hd'⟩
    ·rw[if_pos rfl]at e'
     cases e'
     exact hblk d m hdb hd e
    ·rw[if_neg hn']at e'
     exact hr.tinj d d' m m' hd hd' hne e e'
  ·intro d m e
   simp only[Map.tipped]at e
   simp only[H.push_eq,H.kill_eq]
   split at e
   ·omega
   ·have:=hr.tdom d m e;omega
 ·simp[H.push_eq,H.kill_eq]
 ·rfl
 ·exact fun _ _ e=>.inl e
 ·omega
 ·intro k hk _ ht
  exact hother k (fun e=>ht b _ hbro hg hb e.symm)
 ·intro d m e
  simp only[Map.tipped]at e
  split at e
  ·cases e
   exact .inr ⟨by omega,fun e he=>by cases he;exact .inr ⟨b,_,hbro,hg,hb,rfl⟩⟩
  ·exact .inl e
 ·intro d m e hd
  have:=hr.tdom d m e
  rcases htip d hd with rfl|⟨_,_,hd⟩
  ·omega
  ·exact hd
 ·intro k d e hk
  simp only[Map.tipped]at e
  split at e
  ·rename_i hkb
   exact .inr (.inr ⟨b,_,hbro,hg,hb,hkb.symm⟩)
  ·exact .inl e
 ·exact h1
 ·exact h2
 ·exact h3
theorem qj0(n:Nat):∀(r c:Nat),c≤2*n+192→Builtin.growBy n r c≤2*n+192
 |0,c,h=>h
 |r+1,c,h=>by
  simp only[Builtin.growBy]
  split
  ·exact h
  ·exact qj0 n r _ (by omega)
theorem nextslicecap_le(n c:Nat)(h:c<n):Builtin.nextslicecap n c≤2*n+192:=by
 unfold Builtin.nextslicecap
 split
 ·omega
 ·split
  ·omega
  ·exact qj0 n 4 c (by omega)
def qbt(P:Program)(t:TypeId)(size:Nat):Option (List V):=
 match zeroOf P t with
 |some z=>match cellsOf z with
  |some zs=>match Nat.beq zs.length size with
   |true=>some zs
   |false=>none
  |none=>none
 |none=>none
theorem qa7{P:Program}{φ:Map}{t:TypeId}{size:Nat}{zs:List V}(e:qbt P t size=some zs)(w:World):
  ∃r,(zeroValue t).run P w=.ok r w∧VRels φ zs r.cells.toList∧zs.length=size:=by
 unfold qbt at e
 split at e
 ·rename_i z hz
  split at e
  ·rename_i zs' hzs
   split at e
   ·rename_i hl
    cases e
    obtain⟨r,hr,hv⟩:=qcq (φ:=φ) (w:=w) hz
    exact⟨r,hr,qbW hv hzs,Nat.eq_of_beq_eq_true hl⟩
   ·cases e
  ·cases e
 ·cases e
def qgI:Rows→Bool
 |.list l=>l.all (fun r=>r.all qeM)
 |.fn _ _=>false
 |.ty _ _=>true
def qkQ(s:V)(q:Rows):Bool:=
 match s with
 |.sl _ _ none=>qgI q
 |_=>true
def qbk(s:V)(h:H):H:=
 match s with
 |.sl (some a) _ none=>h.kill a.b
 |_=>h
def qjX(P:Program)(elem:TypeId)(size:Nat)(s x:V)(sLen n:Nat)(h:H):Option (V×H):=
 match P.info? elem,qbt P elem size with
 |some i,some _=>
  match h.test (Nat.ble ((2*(sLen+n)+192)*i.bytes) (2^48)&&Nat.ble (sLen+n) (2^48))with
  |some (true,h)=>
   match elems h s size with
   |none=>none
   |some (r,h)=>match elems h x size with
    |none=>none
    |some (q,h)=>match qkQ s q with
     |true=>some (.sl (some ⟨(qbk s h).next,size,0,0⟩) (sLen+n) none,(qbk s h).push (.box size (r.joinD sLen q n)))
     |false=>none
  |_=>none
 |_,_=>none
def qaK(P:Program)(elem:TypeId)(size:Nat)(s x:V)(base:Option VA)(sLen:Nat)(cap:Option Nat)(n:Nat)(h:H):Option (V×H):=
 match cap with
 |some c=>match h.test (Nat.ble (sLen+n) c)with
  |some (false,h)=>qjX P elem size s x sLen n h
  |_=>none
 |none=>match base with
  |none=>none
  |some a=>match Nat.beq a.i 0&&Nat.beq a.o 0&&Nat.beq a.e size&&Nat.ble h.ro a.b with
   |true=>qjX P elem size s x sLen n h
   |false=>none
def tyOf(P:Program):Nat→TypeId→Option Ty
 |0,_=>none
 |n+1,t=>match P.underlying t with
  |some .bool=>some .bool
  |some (.int k)=>some (.int k)
  |some .string=>some .str
  |some (.slice e)=>match tyOf P n e with
   |some u=>some (.slice u)
   |none=>none
  |some (.struct fs)=>fs.toList.foldr (fun f r=>match r with
   |some b=>match tyOf P n f.type with
    |some a=>some (.pair a b)
    |none=>none
   |none=>none) (some .unit)
  |some (.array m e)=>match tyOf P n e with
   |some u=>some ((List.replicate m u).foldr .pair .unit)
   |none=>none
  |_=>none
def qdk(tip:Tip)(h:H):Option H:=
 match tip with
 |.no=>none
 |.tight=>some h
 |.fresh=>some h
 |.name b=>match h.get b with
  |some .tip=>match Nat.ble h.ro b with
   |true=>some (h.kill b)
   |false=>none
  |_=>none
 |.own b=>match h.get b with
  |some .tip=>match Nat.ble h.ro b with
   |true=>some (h.kill b)
   |false=>none
  |_=>none
def qaD(P:Program)(elem:TypeId)(t:Ty)(l:List t.data)(tip:Tip)(x:V)(n:Nat)(h:H):Option (V×H):=
 match P.info? elem,qbt P elem t.cells with
 |some i,some _=>
  match h.test (Nat.ble ((2*(l.length+n)+192)*i.bytes) (2^48)&&Nat.ble (l.length+n) (2^48))with
  |some (true,h)=>
   match elems h x t.cells with
   |none=>none
   |some (q,h)=>match qbd t q,qdk tip h with
    |some xs,some h=>some (.vs t (l++xs) (qhk tip h.next),h.push .tip)
    |_,_=>none
  |_=>none
 |_,_=>none
section
variable {P:Program} {w:World} {ts:Array TypeId} {ty t xt elem size sLen n cap:Nat} {xd:TypeDesc} {base:Option Addr} {x:Value} {args:Array Value} {info:TypeInfo}
theorem qaC(h0:ts[0]?=some t)(h1:ts[1]?=some xt)(a0:args[0]?=some (.slice base sLen cap))(a1:args[1]?=some x)(hu:P.underlying t=some (.slice elem))(hx:P.underlying xt=some xd)(hxd:∀k,xd≠.int k)
  (hs:qam P elem=some size) (hn:(Builtin.lenOf x).run P w=.ok n w) (hle:sLen+n≤cap) {new:Array Value} (hnew:(Builtin.firstCells size n x).run P w=.ok new w):
  (Builtin.append_ ts ty args).run P w=((match base with|some a=>storeCells (a.add (sLen*size)) new.toList|none=>pure ()).run P w).andThen fun _ w'=>.ok (.slice base (sLen+n) cap) w':=by
 simp only[Builtin.append_,h0,h1,a0,a1,Sem.run_bind,qaa hu,qaa hx,qae hs,Result.andThen_ok,Sem.run_pure,Bool.false_eq_true,if_false,Bool.not_false,if_true,hn,if_pos hle,hnew]
 cases base with
 |none=>rfl
 |some a=>simp only[Sem.run_bind,Sem.run_pure]
theorem run_append_grow(h0:ts[0]?=some t)(h1:ts[1]?=some xt)(a0:args[0]?=some (.slice base sLen cap))(a1:args[1]?=some x)(hu:P.underlying t=some (.slice elem))(hx:P.underlying xt=some xd)(hxd:∀k,xd≠.int k)
  (hs:qam P elem=some size) (hn:(Builtin.lenOf x).run P w=.ok n w) (hgt:¬sLen+n≤cap) (hi:P.info? elem=some info)
  (hb1:(2*(sLen+n)+192)*info.bytes≤2^48) (hb2:sLen+n≤2^48)
  {old new:Array Value} (hold':(Builtin.firstCells size sLen (.slice base sLen cap)).run P w.drew=.ok old w.drew) (hnew:(Builtin.firstCells size n x).run P w.drew=.ok new w.drew)
  {z:Value} (hz:(zeroValue elem).run P w.drew=.ok z w.drew):
  ∃nc,sLen+n≤nc∧(Builtin.append_ ts ty args).run P w=.ok (.slice (some ⟨w.heap.size,0,none⟩) (sLen+n) nc) (w.drew.alloc (.cells (old++new++Builtin.zeroCells z.cells (nc-(sLen+n))) elem)):=by
 have hti:∀w:World,(typeInfo elem).run P w=.ok info w:=fun w=>by simp[typeInfo,hi]
 have c1:¬((((sLen+n:Nat):Int)>IntKind.i64.max)∧(False∨info.bytes=0)):=by
  intro⟨h,_⟩
  have:IntKind.i64.max=9223372036854775807:=by decide
  rw[this]at h
  have:(2:Nat)^48=281474976710656:=by decide
  omega
 have c2:¬(Builtin.nextslicecap (sLen+n) cap*info.bytes>2^48):=by
  have h1:=nextslicecap_le (sLen+n) cap (by omega)
  have h2:=Nat.mul_le_mul_right info.bytes h1
  omega
 let q:Question:=.appendCap (sLen+n) cap elem
 refine⟨q.cut (w.tape w.drawn q),Nat.le_add_right _ _,?_⟩
 simp only[Builtin.append_,h0,h1,a0,a1,Sem.run_bind,qaa hu,qaa hx,qae hs,Result.andThen_ok,Sem.run_pure,Bool.false_eq_true,if_false,Bool.not_false,if_true,hn,if_neg hgt,hti,c1,c2,run_choose,Question.forced,run_askRoom,World.drew_eq,hold',hnew,hz,newRow,run_newObj,World.alloc_eq]
 rfl
end
end Go.Vm

namespace Go.Vm
open Go
theorem HRel.drew{φ:Map}{h:H}{w:World}(hr:HRel φ h w):HRel φ h w.drew:=⟨hr.obj,hr.inj,hr.dom,hr.rle,hr.fz,hr.own,hr.tip,hr.tinj,hr.tdom⟩
theorem Goes.drew{φ:Map}{h:H}{w:World}(hr:HRel φ h w):Goes φ h w φ h w.drew:=.of_same hr (H.Same.refl h) rfl rfl rfl rfl
theorem qa2(z:Array Value)(n:Nat):(Builtin.zeroCells z n).size=n*z.size:=by simp[Builtin.zeroCells]
theorem qav{h h':H}{x:V}{size:Nat}{r:Rows}(e:elems h x size=some (r,h'))(hh:h'.Holds):h.Holds∧h.Same h':=by
 unfold elems at e
 split at e
 ·cases e;exact⟨hh,H.Same.refl _⟩
 ·split at e
  ·split at e
   ·split at e
    ·split at e
     ·split at e
      ·rename_i ht;cases e;obtain⟨t1,t2,t3⟩:=H.test_holds ht hh;exact⟨t1,t3⟩
      ·cases e
     ·split at e
      ·rename_i ht;cases e;obtain⟨t1,t2,t3⟩:=H.test_holds ht hh;exact⟨t1,t3⟩
      ·cases e
     ·split at e
      ·split at e
       ·rename_i ht;cases e;obtain⟨t1,t2,t3⟩:=H.test_holds ht hh;exact⟨t1,t3⟩
       ·rename_i ht
        split at e
        ·rename_i ht2
         cases e
         obtain⟨t1,t2,t3⟩:=H.test_holds ht2 hh
         obtain⟨t4,t5,t6⟩:=H.test_holds ht t1
         exact⟨t4,H.Same.trans t6 t3⟩
        ·cases e
       ·cases e
      ·split at e
       ·rename_i ht;cases e;obtain⟨t1,t2,t3⟩:=H.test_holds ht hh;exact⟨t1,t3⟩
       ·cases e
    ·split at e
     ·split at e
      ·rename_i ht
       split at e
       ·split at e
        ·rename_i ht2
         cases e
         obtain⟨t1,t2,t3⟩:=H.test_holds ht2 hh
         obtain⟨t4,t5,t6⟩:=H.test_holds ht t1
         exact⟨t4,H.Same.trans t6 t3⟩
        ·rename_i ht2
         cases e
         obtain⟨t1,t2,t3⟩:=H.test_holds ht2 hh
         obtain⟨t4,t5,t6⟩:=H.test_holds ht t1
         exact⟨t4,H.Same.trans t6 t3⟩
        ·cases e
       ·cases e;obtain⟨t1,t2,t3⟩:=H.test_holds ht hh;exact⟨t1,t3⟩
      ·cases e
     ·cases e
   ·obtain⟨_,_,rfl⟩:=qed e
    exact⟨hh,H.Same.refl _⟩
  ·cases e
 ·split at e
  ·cases e;exact⟨hh,H.Same.refl _⟩
  ·cases e
 ·split at e
  ·cases e;exact⟨hh,H.Same.refl _⟩
  ·cases e
 ·cases e
theorem qcj:∀(t:Ty)(d:t.data),∀v∈cellsV t d,qeM v=true
 |.int _,_,v,h=>by simp[cellsV]at h;subst h;rfl
 |.bool,_,v,h=>by simp[cellsV]at h;subst h;rfl
 |.str,_,v,h=>by simp[cellsV]at h;subst h;rfl
 |.unit,_,v,h=>by simp[cellsV]at h
 |.pair a b,d,v,h=>by
  simp only[cellsV,List.mem_append]at h
  rcases h with h|h
  ·exact qcj a _ v h
  ·exact qcj b _ v h
 |.slice _,_,v,h=>by simp[cellsV]at h;subst h;rfl
theorem Elems.oneCell{φ:Map}{size n:Nat}{q:Rows}{ns:List Value}(h:Elems φ size n q ns)(hq:qgI q=true):∀u∈ns,u.oneCell'=true:=by
 intro u hu
 obtain⟨j,hj,rfl⟩:=List.mem_iff_getElem.1 hu
 have hc:=h.cells
 have hs:0<size:=by
  rcases Nat.eq_zero_or_pos size with h0|h0
  ·subst h0;omega
  ·exact h0
 have hi:j/size<n:=by rw[Nat.div_lt_iff_lt_mul hs];omega
 obtain⟨row,hrow⟩:=q.get_lt (i:=j/size) (by rw[h.len];exact hi)
 obtain⟨h1,h2⟩:=h.rows _ _ hrow
 have hm:=Nat.mod_lt j hs
 obtain⟨x,hx,hv⟩:=h2 (j%size) (row[j%size]'(by omega)) (by simp)
 have hjj:j/size*size+j%size=j:=by rw[Nat.mul_comm];exact Nat.div_add_mod j size
 rw[hjj]at hx
 simp only[List.getElem?_toArray,List.getElem?_eq_getElem hj,Option.some.injEq]at hx
 rw[hx]
 refine qfh hv ?_
 cases q with
 |fn _ _=>cases hq
 |ty t l=>
  simp only[Rows.get]at hrow
  cases hd:l[j/size]? with
  |none=>rw[hd]at hrow;cases hrow
  |some d=>
   rw[hd]at hrow
   cases hrow
   exact qcj t d _ (List.getElem_mem _)
 |list l=>
  simp only[qgI,List.all_eq_true]at hq
  simp only[Rows.get]at hrow
  exact hq row (List.mem_of_getElem? hrow) _ (List.getElem_mem _)
theorem qd0{s:V}{h:H}(hh:(qbk s h).Holds):h.Holds:=by
 unfold qbk at hh;split at hh<;>exact hh
theorem qhw{φ:Map}{s:V}{h:H}{w:World}(hr:HRel φ h w):Goes φ h w φ (qbk s h) w∧(qbk s h).next=h.next:=by
 unfold qbk
 split
 ·exact⟨Goes.drop hr rfl rfl (fun b x hx=>(H.get_kill hx).2),rfl⟩
 ·exact⟨Goes.refl hr,rfl⟩
section
variable {P:Program} {φ:Map} {w:World} {ts:Array TypeId} {ty t xt elem size sLen n cap':Nat} {xd:TypeDesc} {base':Option Addr} {x:V} {x':Value} {args':Array Value} {h h':H} {v:V} {base:Option VA} {cap:Option Nat}
theorem qgV(e:qjX P elem size (.sl base sLen cap) x sLen n h=some (v,h'))(hh:h'.Holds)(hs:VRel φ (.sl base sLen cap) (.slice base' sLen cap'))(hx:VRel φ x x')(hlx:lenV x=some n)(hr:HRel φ h w)
  (h0:ts[0]?=some t) (h1:ts[1]?=some xt) (a0:args'[0]?=some (.slice base' sLen cap')) (a1:args'[1]?=some x') (hu:P.underlying t=some (.slice elem)) (hux:P.underlying xt=some xd) (hxd:∀k,xd≠.int k)
  (hsz:qam P elem=some size) (hcap:cap=none→∃a,base=some a∧a.i=0∧a.o=0∧a.e=size∧h.ro≤a.b) (hkn:cap≠none→¬sLen+n≤cap'):
  h.Holds∧∃φ' w' r,(Builtin.append_ ts ty args').run P w=.ok r w'∧VRel φ' v r∧Goes φ h w φ' h' w':=by
 unfold qjX at e
 split at e
 ·rename_i i zs hi hzs
  split at e
  ·rename_i h2 ht
   split at e
   ·cases e
   ·rename_i r h3 e1
    split at e
    ·cases e
    ·rename_i q h4 e2
     have hpo:qkQ (.sl base sLen cap) q=true:=by
      cases hp:qkQ (.sl base sLen cap) q with
      |true=>rfl
      |false=>rw[hp]at e;cases e
     rw[hpo]at e
     dsimp only at e
     have hh4:h4.Holds:=by
      cases e
      exact qd0 hh
     obtain⟨hh3,s34⟩:=qav e2 hh4
     obtain⟨hh2,s23⟩:=qav e1 hh3
     obtain⟨hh1,hb,s12⟩:=H.test_holds ht hh2
     simp only[Bool.and_eq_true]at hb
     have hb1:=Nat.le_of_ble_eq_true hb.1
     have hb2:=Nat.le_of_ble_eq_true hb.2
     have s02:h.Same h2:=s12
     have s03:h.Same h3:=s02.trans s23
     have s04:h.Same h4:=s03.trans s34
     refine⟨hh1,?_⟩
     have hls:lenV (.sl base sLen cap)=some sLen:=rfl
     have hn':=qdf (P:=P) hlx hx w
     by_cases hfit:sLen+n≤cap'
     ·
      have hcn:cap=none:=by
       cases cap with
       |none=>rfl
       |some c=>exact absurd hfit (hkn (by simp))
      subst hcn
      obtain⟨a,rfl,ai,ao,ae,aro⟩:=hcap rfl
      obtain⟨_,_,os,ros,eos⟩:=qbF (P:=P) e1 hh3 hls hs (hr.same s02)
      obtain⟨_,_,ns,rns,ens⟩:=qbF (P:=P) e2 hh4 hlx hx (hr.same s03)
      cases hs with
      |sl _ k _ _ _ hk hl hc hz=>
       obtain⟨hz1,hz2⟩:=hz rfl
       rw[ai,ae]at hz2
       simp only[Nat.zero_add]at hz2
       have hbox:∃el rr,h.get a.b=some (.box el rr):=by
        have:∃el rr,h2.get a.b=some (.box el rr):=by
         unfold elems at e1
         simp only at e1
         split at e1
         ·rename_i el rr hg;exact⟨el,rr,hg⟩
         ·cases e1
        obtain⟨el,rr,hg⟩:=this
        exact⟨el,rr,by have:=s02.2.2;simp only[H.get]at hg ⊢;rw[←this];exact hg⟩
       obtain⟨el,rr,hg⟩:=hbox
       obtain⟨k',o,hk',ho,hrel⟩:=hr.obj _ _ hg (by simp)
       rw[hk]at hk';cases hk'
       have hble:Nat.ble h.ro a.b=true:=Nat.ble_eq_true_of_le aro
       rw[hble]at hrel
       cases o with
       |cells c tt fz=>
        obtain⟨hri,hcz,hfz⟩:=hrel
        obtain⟨hfz',hz0⟩:=hfz rfl
        subst hfz'
        have hreal:a.real k=⟨k.1,0,none⟩:=by unfold VA.real;rw[ai,ao,hz0];simp
        have hoc:=eos.cells
        have hnc:=ens.cells
        have hsum:sLen*size+n*size≤cap'*size:=by rw[←Nat.add_mul];exact Nat.mul_le_mul_right size hfit
        have hos:os=c.toList.take (sLen*size):=by
         have hle:0+sLen*size≤c.size:=by omega
         have hbc:=qeI ho P 0 (sLen*size) hle
         have:(Builtin.firstCells size sLen (.slice (some (a.real k)) sLen cap')).run P w=.ok ((c.toList.drop 0).take (sLen*size)).toArray w:=by
          simp only[Builtin.firstCells,hreal];exact hbc
         rw[this]at ros
         injection ros with ros
         have:=congrArg Array.toList ros
         simpa using this.symm
        have hcells:=ens.oneCell hpo
        obtain⟨w',c',hrun,hw,hcl⟩:=qbj (P:=P) (k:=k.1) (off:=sLen*size) (t:=tt) ns 0 w c ho (by omega) hcells
        have hc':c'=(os++ns++c.toList.drop (sLen*size+ns.length)).toArray:=by
         apply Array.ext'
         rw[hcl,hos];simp
        have g:=Goes.inPlace (hr.same s04) (b:=a.b) (y:=.box el rr) (x:=.box size (r.joinD sLen q n)) (by have:=s04.2.2;simp only[H.get]at hg ⊢;rw[this];exact hg) (by rw[s04.2.1];exact aro) hk hw.here hw.size hw.other hw.os hw.tape hw.output
         ⟨by rw[hz0,qa8,hc'];exact Elems.joinD eos ens _,by rw[hw.csize];exact hcz,fun _=>⟨rfl,hz0⟩⟩
        cases e
        refine⟨_,w',.slice (some (a.real k)) (sLen+n) cap',?_,?_,(Goes.of_same hr s04 rfl rfl rfl rfl).trans g.1⟩
        ·have:=qaC (P:=P) (ty:=ty) h0 h1 a0 a1 hu hux hxd hsz hn' hfit rns
         rw[this]
         simp only[hreal]
         have hadd:(⟨k.1,0,none⟩:Addr).add (sLen*size)=⟨k.1,sLen*size,none⟩:=by
          unfold Addr.add;split<;>simp_all
         rw[hadd,hrun];rfl
        ·have:(a.real k)=(⟨h4.next,size,0,0⟩:VA).real k:=by rw[hreal];simp[VA.real,hz0]
         rw[this]
         exact .sl _ k _ _ _ g.2 hfit (fun c e=>by cases e) (fun _=>⟨rfl,by simpa using hz2⟩)
       |_=>exact hrel.elim
     ·
      obtain⟨_,_,os,ros,eos⟩:=qbF (P:=P) e1 hh3 hls hs (hr.drew.same s02)
      obtain⟨_,_,ns,rns,ens⟩:=qbF (P:=P) e2 hh4 hlx hx (hr.drew.same s03)
      obtain⟨z,rz,vz,lz⟩:=qa7 (φ:=φ) hzs w.drew
      obtain⟨nc,hnc,hrun⟩:=run_append_grow (P:=P) (ty:=ty) h0 h1 a0 a1 hu hux hxd hsz hn' hfit hi hb1 hb2 ros rns rz
      cases e
      have g1:Goes φ h w φ h4 w.drew:=(Goes.of_same hr s04 rfl rfl rfl rfl).trans (Goes.drew (hr.same s04))
      obtain⟨g2,hnx⟩:=qhw (s:=.sl base sLen cap) g1.rel
      have hcs:(os.toArray++ns.toArray++Builtin.zeroCells z.cells (nc-(sLen+n)))=(os++ns++(Builtin.zeroCells z.cells (nc-(sLen+n))).toList).toArray:=by
       apply Array.ext';simp
      have hzl:z.cells.size=size:=by have:=vz.length;simp at this;omega
      have hsize:(os.toArray++ns.toArray++Builtin.zeroCells z.cells (nc-(sLen+n))).size=nc*size:=by
       have h1:=eos.cells
       have h2:=ens.cells
       simp only[Array.size_append,List.size_toArray,qa2,h1,h2,hzl]
       rw[←Nat.add_mul,←Nat.add_mul];congr 1;omega
      obtain⟨g3,hk⟩:=Goes.push g2.rel (w':=w.drew.alloc (.cells (os.toArray++ns.toArray++Builtin.zeroCells z.cells (nc-(sLen+n))) elem)) (.box size (r.joinD sLen q n)) _ (nc*size,0) rfl rfl rfl rfl
       ⟨by rw[qa8,hcs];exact Elems.joinD eos ens _,hsize,fun _=>⟨rfl,rfl⟩⟩
      refine⟨_,_,_,hrun,?_,(g1.trans g2).trans g3⟩
      have:(⟨w.heap.size,0,none⟩:Addr)=(⟨(qbk (.sl base sLen cap) h4).next,size,0,0⟩:VA).real (w.drew.heap.size,nc*size,0):=by simp[VA.real]
      rw[this]
      exact .sl _ _ _ _ _ hk hnc (fun c e=>by cases e) (fun _=>⟨rfl,by simp⟩)
  ·cases e
 ·cases e
end
end Go.Vm

namespace Go.Vm
open Go
def qb6(φ:Map)(w:World)(ns:List Nat):Frozen:=fun k=>
 match φ.fz k with
 |some c=>some c
 |none=>match ns.any fun b=>match φ b with|some q=>Nat.beq q.1 k|none=>false with
  |true=>match w.heap[k]? with
   |some (.cells c _ _)=>some c
   |_=>none
  |false=>none
def FzOk(f:Frozen)(w:World):Prop:=∀k c,f k=some c→∃cs t z,w.heap[k]?=some (.cells cs t z)∧Begins c cs
theorem qgh{φ:Map}{w:World}{ns:List Nat}{k:Nat}{c:Array Value}(h:φ.fz k=some c):qb6 φ w ns k=some c:=by
 simp only[qb6,h]
theorem qdl{φ:Map}{w:World}{ns:List Nat}:φ.fz.le (qb6 φ w ns):=fun _ c h=>⟨c,qgh h,Begins.refl c⟩
theorem qco{φ:Map}{w:World}{ns:List Nat}{k:Nat}{c:Array Value}(h:qb6 φ w ns k=some c):φ.fz k=some c∨((∃b q,b∈ns∧φ b=some q∧q.1=k)∧∃t z,w.heap[k]?=some (.cells c t z)):=by
 simp only[qb6]at h
 split at h
 ·rename_i c' hc;cases h;exact .inl hc
 ·split at h
  ·rename_i ha
   rw[List.any_eq_true]at ha
   obtain⟨b,hb,hq⟩:=ha
   split at hq
   ·rename_i q hq2
    split at h
    ·rename_i c' t z hw
     cases h
     exact .inr ⟨⟨b,q,hb,hq2,Nat.eq_of_beq_eq_true hq⟩,t,z,hw⟩
    ·cases h
   ·cases hq
  ·cases h
theorem qhA{φ:Map}{w:World}{ns:List Nat}{b:Nat}{q:Nat×Nat×Nat}(hb:b∈ns)(hq:φ b=some q)(hn:φ.fz q.1=none){c:Array Value}{t:TypeId}{z:Nat×Nat}(hw:w.heap[q.1]?=some (.cells c t z)):qb6 φ w ns q.1=some c:=by
 have:(ns.any fun b=>match φ b with|some q'=>Nat.beq q'.1 q.1|none=>false)=true:=by
  rw[List.any_eq_true]
  refine⟨b,hb,?_⟩
  rw[hq];exact Nat.beq_refl _
 simp only[qb6,hn,this,hw]
theorem qbV{φ:Map}{w:World}{ns ms:List Nat}(h:∀b∈ns,b∈ms):(qb6 φ w ns).le (qb6 φ w ms):=by
 intro k c hc
 refine⟨c,?_,Begins.refl c⟩
 cases hf:φ.fz k with
 |some c'=>
  have:=qgh (w:=w) (ns:=ns) hf
  rw[hc]at this;cases this
  exact qgh hf
 |none=>
  rcases qco hc with h1|⟨⟨b,q,h1,h2,h3⟩,t,z,h4⟩
  ·rw[hf]at h1;cases h1
  ·subst h3
   exact qhA (h b h1) h2 hf h4
theorem qd5{φ:Map}{h:H}{w:World}(hr:HRel φ h w)(ns:List Nat):FzOk (qb6 φ w ns) w:=by
 intro k c hc
 rcases qco hc with h1|⟨_,t,z,h4⟩
 ·exact hr.fz k c h1
 ·exact⟨c,t,z,h4,Begins.refl c⟩
theorem ql6{φ:Map}{h h':H}{w:World}{a:VA}{len size:Nat}{cap:Option Nat}{q:Rows}{k:Nat×Nat×Nat}(e:elems h (.sl (some a) len cap) size=some (q,h'))(hh:h'.Holds)(hr:HRel φ h w)(hk:φ a.b=some k):
  h.Holds∧h.Same h'∧∃c tt fz el r,w.heap[k.1]?=some (.cells c tt fz)∧h.get a.b=some (.box el r)∧q.len=len∧RowsIn φ size q (offA c (k.2.2+(a.i*a.e+a.o))):=by
 obtain⟨hh1,hs⟩:=qav e hh
 refine⟨hh1,hs,?_⟩
 unfold elems at e
 dsimp only at e
 split at e
 ·rename_i el rr hg
  split at e
  ·rename_i he
   have he':el=a.e:=Nat.eq_of_beq_eq_true he
   obtain⟨k',o,hk',ho,hrel⟩:=hr.obj _ _ hg (by simp)
   rw[hk]at hk';cases hk'
   cases o with
   |cells c tt fz=>
    obtain⟨hri,hcz,hfz⟩:=hrel
    refine⟨c,tt,fz,el,rr,ho,hg,?_⟩
    split at e
    ·rename_i hes hao
     have hes':el=size:=Nat.eq_of_beq_eq_true hes
     have key:∀(r2:Rows),r2.len=len→(∀j,r2.get j=if j<len then rr.get (a.i+j)else none)→r2.len=len∧RowsIn φ size r2 (offA c (k.2.2+(a.i*a.e+a.o))):=by
      intro r2 hlen hget
      refine⟨hlen,fun i row hi=>?_⟩
      rw[hget]at hi
      split at hi
      ·obtain⟨q1,q2⟩:=hri _ _ hi
       refine⟨by rw[q1,hes'],fun o v hv=>?_⟩
       obtain⟨x,hx,hvx⟩:=q2 o v hv
       refine⟨x,?_,hvx⟩
       rw[qci]at hx ⊢
       rw[←hx,hes',hao,←he',hes',Nat.add_mul]
       congr 1;omega
      ·cases hi
     split at e
     ·rename_i l
      split at e
      ·rename_i h1 ht
       cases e
       obtain⟨_,t2,_⟩:=H.test_holds ht hh
       have hle:=Nat.le_of_ble_eq_true t2
       exact key _ (by simp[Rows.len];omega) (fun j=>by simp only[Rows.get,List.getElem?_take,List.getElem?_drop])
      ·cases e
     ·rename_i m f
      split at e
      ·rename_i h1 ht
       cases e
       obtain⟨_,t2,_⟩:=H.test_holds ht hh
       have hle:=Nat.le_of_ble_eq_true t2
       refine key _ rfl (fun j=>?_)
       simp only[Rows.get]
       by_cases hj:j<len
       · rw[if_pos hj,if_pos hj,if_pos (by omega)]
       · rw[if_neg hj,if_neg hj]
      ·cases e
     ·rename_i t l
      have cutGet:∀(i n j:Nat),(Rows.ty t ((l.drop i).take n)).get j=if j<n then(Rows.ty t l).get (i+j)else none:=by
       intro i n j
       simp only[Rows.get,List.getElem?_take,List.getElem?_drop]
       split<;>simp
      split at e
      ·rename_i hai
       split at e
       · rename_i h1 ht
         cases e
         obtain⟨_,t2,_⟩:=H.test_holds ht hh
         have hle:=Nat.eq_of_beq_eq_true t2
         refine key _ (by simp[Rows.len,hle]) (fun j=>?_)
         have:=cutGet 0 len j
         rw[List.drop_zero,hle,List.take_length]at this
         rw[hai,hle];exact this
       · rename_i h1 ht
         split at e
         · rename_i h2 ht2
           cases e
           obtain⟨_,t2,_⟩:=H.test_holds ht2 hh
           have hle:=Nat.le_of_ble_eq_true t2
           refine key _ (by simp[Rows.len];omega) (fun j=>?_)
           have:=cutGet 0 len j
           rw[List.drop_zero]at this
           rw[hai];exact this
         · cases e
       · cases e
      ·rename_i i hai
       split at e
       · rename_i h1 ht
         cases e
         obtain⟨_,t2,_⟩:=H.test_holds ht hh
         have hle:=Nat.le_of_ble_eq_true t2
         refine key _ (by simp[Rows.len];omega) (fun j=>?_)
         rw[hai];exact cutGet _ _ _
       · cases e
    ·split at e
     ·rename_i row hrow
      split at e
      ·rename_i h1 ht
       have tail:h1.Holds→a.o+len*size≤row.length∧(Rows.list (chunks len size (row.drop a.o))).len=len∧RowsIn φ size (.list (chunks len size (row.drop a.o))) (offA c (k.2.2+(a.i*a.e+a.o))):=by
        intro hh1
        obtain⟨_,t2,_⟩:=H.test_holds ht hh1
        have hle:=Nat.le_of_ble_eq_true t2
        obtain⟨q1,q2⟩:=hri _ _ hrow
        refine⟨hle,by simp[Vm.chunks,Rows.len],fun i r2 hi=>?_⟩
        simp only[Rows.get,Vm.chunks,List.getElem?_map]at hi
        rcases Nat.lt_or_ge i len with hil|hil
        · rw[List.getElem?_range hil]at hi
          simp only[Option.map_some,Option.some.injEq]at hi
          subst hi
          have hm:(i+1)*size≤len*size:=Nat.mul_le_mul_right size hil
          rw[Nat.add_mul]at hm
          refine⟨by simp;omega,fun o v hv=>?_⟩
          rw[List.getElem?_take]at hv
          split at hv
          · rw[List.getElem?_drop,List.getElem?_drop]at hv
            obtain⟨x,hx,hvx⟩:=q2 _ v hv
            refine⟨x,?_,hvx⟩
            rw[qci]at hx ⊢
            rw[←hx,←he']
            congr 1;omega
          · cases hv
        · rw[List.getElem?_eq_none (by simpa using hil)]at hi
          simp at hi
       split at e
       · rename_i kk l hu
         have fin:∀{l2:List Int},a.o+len*size≤row.length→l2=l.take len→RowsIn φ size (.list (chunks len size (row.drop a.o))) (offA c (k.2.2+(a.i*a.e+a.o)))→(Rows.ty (.int kk) l2).len=len∧RowsIn φ size (.ty (.int kk) l2) (offA c (k.2.2+(a.i*a.e+a.o))):=by
           intro l2 hle hl2 he
           obtain⟨g1,g2,g3,g4⟩:=qhY hu hle
           subst hl2
           refine⟨by simp[Rows.len];omega,fun i row' hi=>?_⟩
           rw[g4]at hi
           exact he i row' hi
         split at e
         · rename_i h2 ht2
           cases e
           obtain⟨u1,u2,u3⟩:=H.test_holds ht2 hh
           obtain⟨q1,q2,q3⟩:=tail u1
           have hll:=Nat.eq_of_beq_eq_true u2
           exact fin q1 (by rw[hll,List.take_length]) q3
         · rename_i h2 ht2
           cases e
           obtain⟨u1,u2,u3⟩:=H.test_holds ht2 hh
           obtain⟨q1,q2,q3⟩:=tail u1
           exact fin q1 rfl q3
         · cases e
       · cases e
         obtain⟨q1,q2,q3⟩:=tail hh
         exact⟨q2,q3⟩
      ·cases e
     ·cases e
   |_=>exact hrel.elim
  ·obtain⟨rfl,rfl,_⟩:=qed e
   obtain⟨k',o,hk',ho,hrel⟩:=hr.obj _ _ hg (by simp)
   rw[hk]at hk';cases hk'
   cases o with
   |cells c tt fz=>exact⟨c,tt,fz,el,rr,ho,hg,rfl,fun i row h=>by simp[Rows.get]at h⟩
   |_=>exact hrel.elim
 ·cases e
def mapH{α:Type}(f:H→List V→Option (α×List V×List Nat×H)):List (List V)→H→Option (List α×List Nat×H)
 |[],h=>some ([],[],h)
 |r::rs,h=>match f h r with
  |some (d,[],ns,h)=>match mapH f rs h with
   |some (ds,ms,h)=>some (d::ds,ns++ms,h)
   |none=>none
  |_=>none
def qcb:(t:Ty)→H→List V→Option (t.data×List V×List Nat×H)
 |.int k,h,cs=>match cs with
  |.int j n::r=>match kindEq? j k with
   |some _=>some (n,r,[],h)
   |none=>none
  |_=>none
 |.bool,h,cs=>match cs with
  |.bool b::r=>some (b,r,[],h)
  |_=>none
 |.str,h,cs=>match cs with
  |.str s::r=>some (s,r,[],h)
  |_=>none
 |.unit,h,cs=>some ((),cs,[],h)
 |.pair a b,h,cs=>match qcb a h cs with
  |some (x,r,ns,h)=>match qcb b h r with
   |some (y,r,ms,h)=>some ((x,y),r,ns++ms,h)
   |none=>none
  |none=>none
 |.slice t,h,cs=>match cs with
  |.vs u l _::r=>match Ty.eq? u t with
   |some e=>some (Ty.castL e l,r,[],h)
   |none=>none
  |.sl none _ _::r=>some ([],r,[],h)
  |.sl (some a) n c::r=>match Nat.ble 1 t.cells with
   |false=>none
   |true=>match elems h (.sl (some a) n c) t.cells with
    |some (.list rows,h)=>match mapH (qcb t) rows h with
     |some (l,ns,h)=>some (l,r,a.b::ns,h)
     |none=>none
    |some (.ty u l,h)=>match Ty.eq? u t with
     |some e=>some (Ty.castL e l,r,[a.b],h)
     |none=>none
    |_=>none
  |_=>none
def BoxNames(φ:Map)(h:H)(ns:List Nat):Prop:=∀b∈ns,∃e r k,h.get b=some (.box e r)∧φ b=some k
theorem BoxNames.same{φ:Map}{h h':H}{ns:List Nat}(s:h.Same h')(k:BoxNames φ h' ns):BoxNames φ h ns:=fun b hb=>by
 obtain⟨e,r,q,h1,h2⟩:=k b hb
 exact⟨e,r,q,by simp only[H.get]at h1 ⊢;rw[←s.2.2];exact h1,h2⟩
theorem BoxNames.append{φ:Map}{h:H}{ns ms:List Nat}(a:BoxNames φ h ns)(b:BoxNames φ h ms):BoxNames φ h (ns++ms):=fun c hc=>by
 rcases List.mem_append.1 hc with hc|hc
 ·exact a c hc
 ·exact b c hc
section
variable {φ:Map} {w:World}
structure ViewOk{α:Type}(φ:Map)(w:World)(D:Frozen→α→List Value→Prop)(f:H→List V→Option (α×List V×List Nat×H)):Prop where
 same:∀h cs d r ns h',f h cs=some (d,r,ns,h')→h'.Holds→h.Holds∧h.Same h'
 rel:∀h cs d r ns h' xs,f h cs=some (d,r,ns,h')→h'.Holds→VRels φ cs xs→HRel φ h w→BoxNames φ h ns∧∃x y,xs=x++y∧VRels φ r y∧D (qb6 φ w ns) d x
theorem qeO{α:Type}{D:Frozen→α→List Value→Prop}{f:H→List V→Option (α×List V×List Nat×H)}(hf:ViewOk φ w D f):∀{rows:List (List V)}{h h':H}{l:List α}{ns:List Nat},mapH f rows h=some (l,ns,h')→h'.Holds→h.Holds∧h.Same h'
 |[],h,h',l,ns,em,hh=>by cases em;exact⟨hh,H.Same.refl _⟩
 |row::rows,h,h',l,ns,em,hh=>by
  simp only[mapH]at em
  split at em
  ·rename_i d n1 h1 h2
   split at em
   ·rename_i ds n2 h3 h4
    cases em
    obtain⟨g1,g2⟩:=qeO hf h4 hh
    obtain⟨p1,p2⟩:=hf.same h row d [] n1 h1 h2 g1
    exact⟨p1,p2.trans g2⟩
   ·cases em
  ·cases em
theorem qla{α:Type}{D:Frozen→α→List Value→Prop}(hD:∀(f g:Frozen)(d:α)(cs:List Value),Frozen.le f g→D f d cs→D g d cs){f:H→List V→Option (α×List V×List Nat×H)}(hf:ViewOk φ w D f){e:Nat}{c:Array Value}:
  ∀{rows:List (List V)}{h h':H}{l:List α}{ns:List Nat}{off:Nat},mapH f rows h=some (l,ns,h')→h'.Holds→HRel φ h w→(∀(i:Nat) row,rows[i]?=some row→row.length=e∧∃xs:List Value,VRels φ row xs∧∀(j:Nat)(v:Value),xs[j]?=some v→c[off+i*e+j]?=some v) →
   BoxNames φ h ns∧l.length=rows.length∧LiesIn (D (qb6 φ w ns)) e l c off
 |[],h,h',l,ns,off,em,hh,hr,_=>by
  cases em
  exact⟨(fun b hb=>by cases hb),rfl,(fun i d hi=>by simp at hi)⟩
 |row::rows,h,h',l,ns,off,em,hh,hr,hrows=>by
  simp only[mapH]at em
  split at em
  ·rename_i d n1 h1 h2
   split at em
   ·rename_i ds n2 h3 h4
    cases em
    obtain⟨hl0,xs,hx1,hx2⟩:=hrows 0 row rfl
    obtain⟨g1,g2⟩:=qeO hf h4 hh
    obtain⟨p1,p2⟩:=hf.same h row d [] n1 h1 h2 g1
    obtain⟨g3,g4,g5⟩:=qla hD hf (e:=e) (c:=c) (off:=off+e) h4 hh (hr.same p2) (fun i row' hi=>by
     obtain⟨q1,ys,q2,q3⟩:=hrows (i+1) row' hi
     refine⟨q1,ys,q2,fun j v hj=>?_⟩
     rw[←q3 j v hj,Nat.add_mul];congr 1;omega)
    obtain⟨p3,x,y,p4,p5,p6⟩:=hf.rel h row d [] n1 h1 xs h2 g1 hx1 hr
    cases p5
    rw[List.append_nil]at p4
    subst p4
    refine⟨p3.append (g3.same p2),by simp[g4],?_⟩
    intro i d' hi
    cases i with
    |zero=>
     simp only[List.getElem?_cons_zero,Option.some.injEq]at hi
     subst hi
     exact⟨xs,hD _ _ _ _ (qbV fun b hb=>List.mem_append_left _ hb) p6,by rw[←hx1.length];exact hl0,fun j v hj=>hx2 j v hj⟩
    |succ i=>
     simp only[List.getElem?_cons_succ]at hi
     obtain⟨cs,k1,k2,k3⟩:=g5 i d' hi
     refine⟨cs,hD _ _ _ _ (qbV fun b hb=>List.mem_append_right _ hb) k1,k2,fun j v hj=>?_⟩
     rw[←k3 j v hj,Nat.add_mul];congr 1;omega
   ·cases em
  ·cases em
theorem BoxNames.nil{h:H}:BoxNames φ h []:=fun b hb=>by cases hb
theorem qaG:∀t:Ty,ViewOk φ w (fun f d cs=>DRel f t d cs) (qcb t)
 |.int k=>⟨(fun h cs d r ns h' e hh=>by
  simp only[qcb]at e
  split at e
  ·split at e
   ·cases e;exact⟨hh,H.Same.refl _⟩
   ·cases e
  ·cases e),(fun h cs d r ns h' xs e hh hv hr=>by
  simp only[qcb]at e
  split at e
  ·split at e
   ·rename_i q _
    cases e
    obtain⟨hq⟩:=q
    subst hq
    cases hv with
    |cons hv ht=>cases hv;exact⟨BoxNames.nil,[_],_,rfl,ht,rfl⟩
   ·cases e
  ·cases e)⟩
 |.bool=>⟨(fun h cs d r ns h' e hh=>by
  simp only[qcb]at e
  split at e
  ·cases e;exact⟨hh,H.Same.refl _⟩
  ·cases e),(fun h cs d r ns h' xs e hh hv hr=>by
  simp only[qcb]at e
  split at e
  ·cases e
   cases hv with
   |cons hv ht=>cases hv;exact⟨BoxNames.nil,[_],_,rfl,ht,rfl⟩
  ·cases e)⟩
 |.str=>⟨(fun h cs d r ns h' e hh=>by
  simp only[qcb]at e
  split at e
  ·cases e;exact⟨hh,H.Same.refl _⟩
  ·cases e),(fun h cs d r ns h' xs e hh hv hr=>by
  simp only[qcb]at e
  split at e
  ·cases e
   cases hv with
   |cons hv ht=>cases hv;exact⟨BoxNames.nil,[_],_,rfl,ht,rfl⟩
  ·cases e)⟩
 |.unit=>⟨(fun h cs d r ns h' e hh=>by
  cases e;exact⟨hh,H.Same.refl _⟩),(fun h cs d r ns h' xs e hh hv hr=>by
  cases e;exact⟨BoxNames.nil,[],_,rfl,hv,rfl⟩)⟩
 |.pair a b=>⟨(fun h cs d r ns h' e hh=>by
  simp only[qcb]at e
  split at e
  ·rename_i h1 e1
   split at e
   ·rename_i h2 e2
    cases e
    obtain⟨g1,g2⟩:=(qaG b).same _ _ _ _ _ _ e2 hh
    obtain⟨g3,g4⟩:=(qaG a).same _ _ _ _ _ _ e1 g1
    exact⟨g3,g4.trans g2⟩
   ·cases e
  ·cases e),(fun h cs d r ns h' xs e hh hv hr=>by
  simp only[qcb]at e
  split at e
  ·rename_i x r1 n1 h1 e1
   split at e
   ·rename_i y r2 n2 h2 e2
    cases e
    obtain⟨g1,g2⟩:=(qaG b).same _ _ _ _ _ _ e2 hh
    obtain⟨g3,g4⟩:=(qaG a).same _ _ _ _ _ _ e1 g1
    obtain⟨b1,c1,c2,rfl,q1,q2⟩:=(qaG a).rel _ _ _ _ _ _ _ e1 g1 hv hr
    obtain⟨b2,c3,c4,rfl,q3,q4⟩:=(qaG b).rel _ _ _ _ _ _ _ e2 hh q1 (hr.same g4)
    refine⟨b1.append (b2.same g4),c1++c3,c4,by simp,q3,c1,c3,rfl,?_,?_⟩
    ·exact DRel.mono (qbV fun b hb=>List.mem_append_left _ hb) a _ _ q2
    ·exact DRel.mono (qbV fun b hb=>List.mem_append_right _ hb) b _ _ q4
   ·cases e
  ·cases e)⟩
 |.slice t=>⟨(fun h cs d r ns h' e hh=>by
  simp only[qcb]at e
  split at e
  ·split at e
   ·cases e;exact⟨hh,H.Same.refl _⟩
   ·cases e
  ·cases e;exact⟨hh,H.Same.refl _⟩
  ·split at e
   ·cases e
   ·split at e
    ·rename_i he
     split at e
     ·rename_i hm
      cases e
      obtain⟨g1,g2⟩:=qeO (qaG t) hm hh
      obtain⟨g3,g4⟩:=qav he g1
      exact⟨g3,g4.trans g2⟩
     ·cases e
    ·rename_i he
     split at e
     ·cases e;exact qav he hh
     ·cases e
    ·cases e
  ·cases e),(fun h cs d r ns h' xs e hh hv hr=>by
  have done:1≤t.cells→∀{a:VA}{n:Nat}{cap:Option Nat}{q:Rows}{h1:H}{x:Value}{l:List t.data}{ms:List Nat},VRel φ (.sl (some a) n cap) x→elems h (.sl (some a) n cap) t.cells=some (q,h1)→h1.Holds→BoxNames φ h ms→l.length=q.len →
    (∀(c:Array Value)(off:Nat),RowsIn φ t.cells q (offA c off)→LiesIn (DRel (qb6 φ w ms) t) t.cells l c off) →
    BoxNames φ h (a.b::ms)∧DRel (qb6 φ w (a.b::ms)) (.slice t) l [x]:=by
   intro hc0 a n cap q h1 x l ms hv he hh1 hb hl hlies
   cases hv with
   |sl _ k _ cap' _ hk hlc hc hz=>
    obtain⟨_,_,c,tt,fz,el,r,hw,hg,hq,hri⟩:=ql6 he hh1 hr hk
    refine⟨?_,some (a.real k),n,cap',rfl,hlc,by rw[hl,hq],?_⟩
    ·intro b' hb'
     rcases List.mem_cons.1 hb' with rfl|hb'
     ·exact⟨el,r,k,hg,hk⟩
     ·exact hb b' hb'
    ·rcases Nat.eq_zero_or_pos l.length with h0|h0
     ·exact .inl (List.eq_nil_of_length_eq_zero h0)
     ·right
      have hL:=(hlies c _ hri).mono (DRel.mono (qbV (ms:=a.b::ms) fun b hb=>List.mem_cons_of_mem _ hb) t) (Begins.refl c)
      refine⟨k.1,k.2.2+(a.i*a.e+a.o),c,rfl,qhA (List.mem_cons_self ..) hk (hr.own _ _ k hg hk) hw,?_,hL⟩
      have hd:l[l.length-1]?=some (l[l.length-1]'(by omega)):=by simp
      obtain⟨cs,k1,k2,k3⟩:=hL _ _ hd
      have hx:cs[t.cells-1]?=some (cs[t.cells-1]'(by omega)):=by simp
      have:=(Array.getElem?_eq_some_iff.1 (k3 _ _ hx)).1
      have hm:l.length*t.cells=(l.length-1)*t.cells+t.cells:=by
       have:l.length=(l.length-1)+1:=by omega
       rw[this,Nat.add_mul];simp
      omega
  simp only[qcb]at e
  split at e
  ·split at e
   ·rename_i q _
    cases e
    obtain⟨hq⟩:=q
    subst hq
    cases hv with
    |cons hv ht=>
     cases hv with
     |vs _ _ _ a n cap hn hs htp=>exact⟨BoxNames.nil,[_],_,rfl,ht,a,n,cap,rfl,hn,hs.mono qdl (DRel.mono qdl _)⟩
   ·cases e
  ·cases e
   cases hv with
   |cons hv ht=>cases hv;exact⟨BoxNames.nil,[_],_,rfl,ht,none,0,0,rfl,Nat.le_refl _,rfl,.inl rfl⟩
  ·split at e
   ·cases e
   ·rename_i hc1
    have hc1:=Nat.le_of_ble_eq_true hc1
    split at e
    ·rename_i rows h1 he
     split at e
     ·rename_i l ms h2 hm
      cases e
      obtain⟨g1,g2⟩:=qeO (qaG t) hm hh
      obtain⟨g3,g4⟩:=qav he g1
      cases hv with
      |cons hv ht=>
       have rowsOk:∀(c:Array Value)(off:Nat),RowsIn φ t.cells (.list rows) (offA c off)→∀(i:Nat) row,rows[i]?=some row→row.length=t.cells∧∃xs:List Value,VRels φ row xs∧∀(j:Nat)(v:Value),xs[j]?=some v→c[off+i*t.cells+j]?=some v:=by
        intro c off hri i row hi
        obtain⟨q1,q2⟩:=hri i row hi
        obtain⟨rs,r1,r2,r3⟩:=qbH hri hi 0 row.length (by omega)
        refine⟨q1,rs,by simpa using r2,fun j v hj=>?_⟩
        have:=r3 j v hj
        rw[qci]at this
        rw[←this];congr 1;omega
       have hlen:BoxNames φ h ms∧List.length (α:=t.data) d=rows.length:=by
        cases hv with
        |sl _ k _ cap' _ hk hlc hc hz=>
         obtain⟨_,_,c,tt,fz,el,r,hw,hg,hq,hri⟩:=ql6 he g1 hr hk
         obtain⟨m1,m2,_⟩:=qla (fun f g d cs hfg hd=>DRel.mono hfg t d cs hd) (qaG t) hm hh (hr.same g4) (rowsOk c _ hri)
         exact⟨m1.same g4,m2⟩
       obtain⟨d1,d2⟩:=done hc1 hv he g1 hlen.1 hlen.2 (fun c off hri=>(qla (fun f g d cs hfg hd=>DRel.mono hfg t d cs hd) (qaG t) hm hh (hr.same g4) (rowsOk c off hri)).2.2)
       exact⟨d1,[_],_,rfl,ht,d2⟩
     ·cases e
    ·rename_i u l h1 he
     split at e
     ·rename_i q _
      cases e
      obtain⟨hq⟩:=q
      subst hq
      cases hv with
      |cons hv ht=>
       obtain⟨d1,d2⟩:=done hc1 hv he hh BoxNames.nil rfl (fun c off hri=>by
        intro i d hi
        have hrow:=Rows.ty_get (t:=u) hi
        obtain⟨q1,q2⟩:=hri i _ hrow
        obtain⟨rs,r1,r2,r3⟩:=qbH hri hrow 0 (cellsV u d).length (by omega)
        have hV:VRels φ (cellsV u d) rs:=by simpa using r2
        have hD:=hV.dRel
        refine⟨rs,DRel.mono qdl u d rs hD,hD.len,fun j v hj=>?_⟩
        have:=r3 j v hj
        rw[qci]at this
        rw[←this];congr 1;omega)
       exact⟨d1,[_],_,rfl,ht,d2⟩
     ·cases e
    ·cases e
  ·cases e)⟩
end
def qaw:List Nat→H→H
 |[],h=>h
 |b::r,h=>qaw r (h.kill b)
theorem killAll_spec:∀{ns:List Nat}{h:H},(qaw ns h).next=h.next∧(qaw ns h).ro=h.ro∧(qaw ns h).said=h.said∧∀b x,(qaw ns h).get b=some x→h.get b=some x∧b∉ns
 |[],h=>⟨rfl,rfl,rfl,fun b x e=>⟨e,by simp⟩⟩
 |c::r,h=>by
  obtain⟨h1,h2,h3,h4⟩:=killAll_spec (ns:=r) (h:=h.kill c)
  refine⟨by rw[qaw,h1,H.kill_eq],by rw[qaw,h2,H.kill_eq],by rw[qaw,h3,H.kill_eq],fun b x e=>?_⟩
  obtain⟨q1,q2⟩:=h4 b x e
  obtain⟨q3,q4⟩:=H.get_kill q1
  exact⟨q4,by simp[q3,q2]⟩
theorem Goes.freeze{φ:Map}{h:H}{w w':World}(hr:HRel φ h w){ns:List Nat}(hb:BoxNames φ h ns)(hro:∀b∈ns,h.ro≤b){f':Frozen}(hle:(qb6 φ w ns).le f')(hok:FzOk f' w')(hold:∀k c,f' k=some c→k<w.heap.size→qb6 φ w ns k=some c)
  (hsz:w.heap.size≤w'.heap.size) (hf:∀k,k<w.heap.size→w'.heap[k]?=w.heap[k]?) (h1:w'.os=w.os) (h2:w'.tape=w.tape) (h3:w'.output=w.output):Goes φ h w { φ with fz:=f' } (qaw ns h) w':=by
 obtain⟨k1,k2,k3,k4⟩:=killAll_spec (ns:=ns) (h:=h)
 have hle':φ.le { φ with fz:=f' }:=⟨fun _ _ e=>e,Frozen.le_trans qdl hle,fun _ _ e=>e,rfl⟩
 have hsame:∀k c,φ.fz k=some c→f' k=some c:=by
  intro k c e
  obtain⟨c',e1,_⟩:=(Frozen.le_trans qdl hle) k c e
  have:=hold k c' e1 (hr.fdom e)
  rw[qgh e]at this;cases this
  exact e1
 exact{
  le:=hle'
  rel:={
   obj:=fun b x hx hxt=>by
    obtain⟨k,o,q1,q2,q3⟩:=hr.obj b x (k4 b x hx).1 hxt
    refine⟨k,o,q1,by rw[hf k.1 (hr.dom b k q1).2];exact q2,?_⟩
    rw[k2];exact q3.mono hle'
   inj:=fun b b' x x' k k' hx hx' hb'=>by
    rw[k2]at hb'
    exact hr.inj b b' x x' k k' (k4 b x hx).1 (k4 b' x' hx').1 hb'
   dom:=fun b k e=>by
    have:=hr.dom b k e
    exact⟨by rw[k1];exact this.1,Nat.lt_of_lt_of_le this.2 hsz⟩
   rle:=by rw[k1,k2];exact hr.rle
   fz:=hok
   own:=fun b x k hx hk=>by
    obtain⟨q1,q2⟩:=k4 b x hx
    cases e:f' k.1 with
    |none=>exact e
    |some c=>
     exfalso
     rcases qco (hold k.1 c e (hr.dom b k hk).2)with g1|⟨⟨b',q,g1,g2,g3⟩,_⟩
     ·have:=hr.own b x k q1 hk
      rw[g1]at this;cases this
     ·obtain⟨e',r',q',g4,g5⟩:=hb b' g1
      rw[g2]at g5;cases g5
      exact hr.inj b' b _ x q k g4 q1 (hro b' g1) (fun e=>q2 (e▸g1)) g2 hk g3
   tip:=fun b hx=>by
    obtain⟨m,h4,h5⟩:=hr.tip b (k4 b _ hx).1
    refine⟨m,h4,fun blk en sz em=>?_⟩
    obtain⟨⟨c,hc,hcs⟩,cs,t,h6,h7⟩:=h5 blk en sz em
    exact⟨⟨c,hsame _ _ hc,hcs⟩,cs,t,by rw[hf _ (hr.fdom hc)];exact h6,h7⟩
   tinj:=fun b b' m m' hx hx'=>hr.tinj b b' m m' (k4 b _ hx).1 (k4 b' _ hx').1
   tdom:=fun b m e=>by rw[k1];exact hr.tdom b m e }
  next:=by rw[k1];exact Nat.le_refl _
  ro:=k2
  fresh:=fun _ _ e=>.inl e
  size:=hsz
  frame:=fun k hk _ _=>hf k hk
  tfresh:=fun _ _ e=>.inl e
  tlive:=fun b _ _ hx=>(k4 b _ hx).1
  ffresh:=fun k c e hk=>by
   rcases qco (hold k c e hk)with g1|⟨⟨b',q,g1,g2,g3⟩,_⟩
   ·exact .inl g1
   ·exact .inr (.inl ⟨b',q,hro b' g1,g2,g3⟩)
  os:=h1,tape:=h2,output:=h3 }
theorem qa9(ns:List Nat)(h:H):(qaw ns h).said=h.said:=killAll_spec.2.2.1
def qrm(h:H):H:={ next:=h.next,ro:=h.ro,objs:=h.objs,ask:=none,said:=[] }
def qdi(h:H)(u:Ty)(v:V):Option (List u.data×List Nat):=
 match v with
 |.sl (some _) _ _=>
  match qcb (.slice u) (qrm h) [v]with
  |some (d,[],ns,h2)=>match h2.said,ns.all fun b=>Nat.ble h.ro b with
   |[],true=>some (d,ns)
   |_,_=>none
  |_=>none
 |_=>none
theorem qc2{φ:Map}{h:H}{w:World}{u:Ty}{d:List u.data}{ns:List Nat}{v:V}{x:Value}(hs:qdi h u v=some (d,ns))(hv:VRel φ v x)(hr:HRel φ h w):
  ∃f',Goes φ h w { φ with fz:=f' } (qaw ns h) w∧∃a n cap,x=.slice a n cap∧n≤cap∧SlRel f' (DRel f' u) u.cells d a n:=by
 unfold qdi at hs
 split at hs
 ·split at hs
  ·rename_i d' ns' h2 hvw
   split at hs
   ·rename_i hsaid hro
    cases hs
    have hsame:h.Same (qrm h):=⟨rfl,rfl,rfl⟩
    have hh2:h2.Holds:=by
     intro p hp
     rw[hsaid]at hp
     cases hp
    obtain⟨b1,y,z,hxy,hz,hd⟩:=(qaG (φ:=φ) (w:=w) (.slice u)).rel _ _ _ _ _ _ [x] hvw hh2 (.cons hv .nil) (hr.same hsame)
    cases hz
    rw[List.append_nil]at hxy
    subst hxy
    have hb:BoxNames φ h ns:=b1.same hsame
    have hro':∀b∈ns,h.ro≤b:=fun b hb=>Nat.le_of_ble_eq_true (List.all_eq_true.1 hro b hb)
    have g:=Goes.freeze hr hb hro' (f':=qb6 φ w ns) (fun k c e=>⟨c,e,Begins.refl c⟩) (qd5 hr ns) (fun _ _ e _=>e) (Nat.le_refl _) (fun _ _=>rfl) rfl rfl rfl
    obtain⟨a',n,cap',h1,h3,h4⟩:=hd
    have h1:[x]=[Value.slice a' n cap']:=h1
    exact⟨_,g,a',n,cap',(List.cons.inj h1).1,h3,h4⟩
   ·cases hs
  ·cases hs
 ·cases hs
def qd1(h:H)(u:Ty)(v:V):Option (List u.data×List Nat×H):=
 match v with
 |.sl (some _) _ _=>
  match qcb (.slice u) h [v]with
  |some (d,[],ns,h2)=>match ns.all fun b=>Nat.ble h.ro b with
   |true=>some (d,ns,h2)
   |false=>none
  |_=>none
 |_=>none
theorem qeG{φ:Map}{h h2:H}{w:World}{u:Ty}{d:List u.data}{ns:List Nat}{v:V}{x:Value}(hs:qd1 h u v=some (d,ns,h2))(hh:h2.Holds)(hv:VRel φ v x)(hr:HRel φ h w):
  h.Holds∧∃f',Goes φ h w { φ with fz:=f' } (qaw ns h2) w∧∃a n cap,x=.slice a n cap∧n≤cap∧SlRel f' (DRel f' u) u.cells d a n:=by
 unfold qd1 at hs
 split at hs
 ·split at hs
  ·rename_i d' ns' h2' hvw
   split at hs
   ·rename_i hro
    cases hs
    obtain⟨hh0,hsame⟩:=(qaG (φ:=φ) (w:=w) (.slice u)).same _ _ _ _ _ _ hvw hh
    obtain⟨b1,y,z,hxy,hz,hd⟩:=(qaG (φ:=φ) (w:=w) (.slice u)).rel _ _ _ _ _ _ [x] hvw hh (.cons hv .nil) hr
    cases hz
    rw[List.append_nil]at hxy
    subst hxy
    have hsame':h2.Same h:=⟨hsame.1.symm,hsame.2.1.symm,hsame.2.2.symm⟩
    have hb:BoxNames φ h2 ns:=b1.same hsame'
    have hroe:h2.ro=h.ro:=hsame.2.1
    have hro':∀b∈ns,h2.ro≤b:=fun b hb=>by
     rw[hroe]
     exact Nat.le_of_ble_eq_true (List.all_eq_true.1 hro b hb)
    have hr2:HRel φ h2 w:=hr.same hsame
    have g:=Goes.freeze hr2 hb hro' (f':=qb6 φ w ns) (fun k c e=>⟨c,e,Begins.refl c⟩) (qd5 hr2 ns) (fun _ _ e _=>e) (Nat.le_refl _) (fun _ _=>rfl) rfl rfl rfl
    obtain⟨a',n,cap',h1,h3,h4⟩:=hd
    have h1:[x]=[Value.slice a' n cap']:=h1
    exact⟨hh0,_,(Goes.of_same hr hsame rfl rfl rfl rfl).trans g,a',n,cap',(List.cons.inj h1).1,h3,h4⟩
   ·cases hs
  ·cases hs
 ·cases hs
end Go.Vm
