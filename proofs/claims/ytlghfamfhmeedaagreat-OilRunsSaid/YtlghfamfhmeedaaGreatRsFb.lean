import Derived.Test.YtlghfamfhmeedaaGreatA5
import Derived.KernelRfl
import Derived.Test.YtlghfamfhmeedaaGreatProg
import Derived.Test.YtlghfamfhmeedaaGreatRsFa
set_option linter.unusedVariables false
set_option linter.unusedSimpArgs false

namespace Go.Vm.Mo
open Go
set_option linter.unusedVariables false
abbrev sh129_2:Sh:={ n:=20,slots:=[1,2,4,9],pats:=[.map 0,.ptr 1 10 0,.ty .bool,.ptr 2 1 0],boxes:=[.mapd (.pair (.int .i64) (.pair .bool .unit)) .bool,.row [.ty (.slice (.pair (.int .i64) (.pair (.int .i64) .unit))),.ty (.int .i64),.ty (.int .i64),.ty (.int .i64),.ty (.slice (.pair (.int .i64) (.pair (.int .i64) .unit))),.ty (.int .i64),.ty (.int .i64),.ty (.int .i64),.ty (.int .i64),.ty (.int .i64)],.mit 0] }
abbrev shb129_2:Sh:={ n:=20,slots:=[1,2,4],pats:=[.map 0,.ptr 1 10 0,.ty .bool],boxes:=[.mapd (.pair (.int .i64) (.pair .bool .unit)) .bool,.row [.ty (.slice (.pair (.int .i64) (.pair (.int .i64) .unit))),.ty (.int .i64),.ty (.int .i64),.ty (.int .i64),.ty (.slice (.pair (.int .i64) (.pair (.int .i64) .unit))),.ty (.int .i64),.ty (.int .i64),.ty (.int .i64),.ty (.int .i64),.ty (.int .i64)],.mitx] }
abbrev shr129_2:Sh:={ n:=20,slots:=[],pats:=[],boxes:=[.mapd (.pair (.int .i64) (.pair .bool .unit)) .bool,.row [.ty (.slice (.pair (.int .i64) (.pair (.int .i64) .unit))),.ty (.int .i64),.ty (.int .i64),.ty (.int .i64),.ty (.slice (.pair (.int .i64) (.pair (.int .i64) .unit))),.ty (.int .i64),.ty (.int .i64),.ty (.int .i64),.ty (.int .i64),.ty (.int .i64)],.mit 0] }
def te129_2(x2:Bool)(b0:(List (Nat×((Int×(Bool×Unit))×Bool))))(b0c:Nat)(b1_0:List (Int×(Int×Unit)))(b1_1:Int)(b1_2:Int)(b1_3:Int)(b1_4:List (Int×(Int×Unit)))(b1_5:Int)(b1_6:Int)(b1_7:Int)(b1_8:Int)(b1_9:Int)(b2s:Nat)(b2n:List Nat):Tr (Out sh129_2.data shb129_2.data shr129_2.data):=
 Tr.test ((Nat.beq b0c b2s:Bool))
  (Tr.fin (.brk ((x2,()),((b0,b0c),((b1_0,(b1_1,(b1_2,(b1_3,(b1_4,(b1_5,(b1_6,(b1_7,(b1_8,(b1_9,())))))))))),())))))
  (Tr.stop)
def t129_2(x2:Bool)(b0:(List (Nat×((Int×(Bool×Unit))×Bool))))(b0c:Nat)(b1_0:List (Int×(Int×Unit)))(b1_1:Int)(b1_2:Int)(b1_3:Int)(b1_4:List (Int×(Int×Unit)))(b1_5:Int)(b1_6:Int)(b1_7:Int)(b1_8:Int)(b1_9:Int)(b2s:Nat)(b2n:List Nat)(ci:Nat):Tr (Out sh129_2.data shb129_2.data shr129_2.data):= Tr.test ((Nat.beq b0c b2s:Bool)) (Tr.test (hasE b0 ci) (Tr.test (Option.isSome (l135_0 ((b1_7,()),((b0,b0c),((b1_0,(b1_1,(b1_2,(b1_3,(b1_4,(b1_5,(b1_6,(b1_7,(b1_8,(b1_9,())))))))))),((((entE (k:=MK) (v:=MV) b0 ci).1.1:Int),(((entE (k:=MK) (v:=MV) b0 ci).1.2.1:Bool),())),())))))) (Tr.test (qa8 (l135_0 ((b1_7,()),((b0,b0c),((b1_0,(b1_1,(b1_2,(b1_3,(b1_4,(b1_5,(b1_6,(b1_7,(b1_8,(b1_9,())))))))))),((((entE (k:=MK) (v:=MV) b0 ci).1.1:Int),(((entE (k:=MK) (v:=MV) b0 ci).1.2.1:Bool),())),())))))) (let r0:=r135_0 ((b1_7,()),((b0,b0c),((b1_0,(b1_1,(b1_2,(b1_3,(b1_4,(b1_5,(b1_6,(b1_7,(b1_8,(b1_9,())))))))))),((((entE (k:=MK) (v:=MV) b0 ci).1.1:Int),(((entE (k:=MK) (v:=MV) b0 ci).1.2.1:Bool),())),()))));Tr.test (r0.1.1) (Tr.fin (.again (((false:Bool),()),(((ddel (k:=MK) (v:=MV) ((entE (k:=MK) (v:=MV) b0 ci).1.1,(entE (k:=MK) (v:=MV) b0 ci).1.2.1,()) r0.2.1.1:List (Nat×Ty.data (Ty.pair (Ty.int Go.IntKind.i64) (Ty.pair Ty.bool Ty.unit))×Ty.data Ty.bool)),r0.2.1.2),((b1_0,(b1_1,(b1_2,(b1_3,(b1_4,(b1_5,(b1_6,(b1_7,(b1_8,(b1_9,())))))))))),((b2s,(ci::b2n:List Nat)),())))))) (Tr.fin (.again ((x2,()),(((r0.2.1.1:List (Nat×(Int×Bool×PUnit)×Bool)),r0.2.1.2),((b1_0,(b1_1,(b1_2,(b1_3,(b1_4,(b1_5,(b1_6,(b1_7,(b1_8,(b1_9,())))))))))),((b2s,(ci::b2n:List Nat)),()))))))) (let r1:=b135_0 ((b1_7,()),((b0,b0c),((b1_0,(b1_1,(b1_2,(b1_3,(b1_4,(b1_5,(b1_6,(b1_7,(b1_8,(b1_9,())))))))))),((((entE (k:=MK) (v:=MV) b0 ci).1.1:Int),(((entE (k:=MK) (v:=MV) b0 ci).1.2.1:Bool),())),()))));Tr.fin (.again ((x2,()),(((r1.2.1.1:List (Nat×(Int×Bool×PUnit)×Bool)),r1.2.1.2),((b1_0,(b1_1,(b1_2,(b1_3,(b1_4,(b1_5,(b1_6,(b1_7,(b1_8,(b1_9,())))))))))),((b2s,(ci::b2n:List Nat)),()))))))) (Tr.stop)) (Tr.stop)) (Tr.stop)
def tp129_2(pk:Option Nat)(d:sh129_2.data):Tr (Out sh129_2.data shb129_2.data shr129_2.data):=match pk with
 |none=>te129_2 d.1.1 d.2.1.1 d.2.1.2 d.2.2.1.1 d.2.2.1.2.1 d.2.2.1.2.2.1 d.2.2.1.2.2.2.1 d.2.2.1.2.2.2.2.1 d.2.2.1.2.2.2.2.2.1 d.2.2.1.2.2.2.2.2.2.1 d.2.2.1.2.2.2.2.2.2.2.1 d.2.2.1.2.2.2.2.2.2.2.2.1 d.2.2.1.2.2.2.2.2.2.2.2.2.1 d.2.2.2.1.1 d.2.2.2.1.2
 |some ci=>t129_2 d.1.1 d.2.1.1 d.2.1.2 d.2.2.1.1 d.2.2.1.2.1 d.2.2.1.2.2.1 d.2.2.1.2.2.2.1 d.2.2.1.2.2.2.2.1 d.2.2.1.2.2.2.2.2.1 d.2.2.1.2.2.2.2.2.2.1 d.2.2.1.2.2.2.2.2.2.2.1 d.2.2.1.2.2.2.2.2.2.2.2.1 d.2.2.1.2.2.2.2.2.2.2.2.2.1 d.2.2.2.1.1 d.2.2.2.1.2 ci
def s129_2(pk:Option Nat)(d:sh129_2.data):Option (Out sh129_2.data shb129_2.data shr129_2.data):=(tp129_2 pk d).val
def left129_2_(x2:Bool)(b0:(List (Nat×((Int×(Bool×Unit))×Bool))))(b0c:Nat)(b1_0:List (Int×(Int×Unit)))(b1_1:Int)(b1_2:Int)(b1_3:Int)(b1_4:List (Int×(Int×Unit)))(b1_5:Int)(b1_6:Int)(b1_7:Int)(b1_8:Int)(b1_9:Int)(b2s:Nat)(b2n:List Nat):List Nat:=leftD ((x2,()),(b0,b0c),(b1_0,b1_1,b1_2,b1_3,b1_4,b1_5,b1_6,b1_7,b1_8,b1_9,()),(b2s,b2n),()).2.2.2.1.2 ((x2,()),(b0,b0c),(b1_0,b1_1,b1_2,b1_3,b1_4,b1_5,b1_6,b1_7,b1_8,b1_9,()),(b2s,b2n),()).2.1.1
def left129_2(d:sh129_2.data):List Nat:=left129_2_ d.1.1 d.2.1.1 d.2.1.2 d.2.2.1.1 d.2.2.1.2.1 d.2.2.1.2.2.1 d.2.2.1.2.2.2.1 d.2.2.1.2.2.2.2.1 d.2.2.1.2.2.2.2.2.1 d.2.2.1.2.2.2.2.2.2.1 d.2.2.1.2.2.2.2.2.2.2.1 d.2.2.1.2.2.2.2.2.2.2.2.1 d.2.2.1.2.2.2.2.2.2.2.2.2.1 d.2.2.2.1.1 d.2.2.2.1.2
abbrev Pt129:=Int×Int×Unit
abbrev W129:=List Pt129×Int×Int×Int×List Pt129×Int×Int×Int×Int×Int×Unit
abbrev M129:=List (Nat×((Int×Bool×Unit)×Bool))×Nat
abbrev DB129:=(Bool×Unit)×M129×W129×Unit
instance iPt129:DecidableEq Pt129:=inferInstance
instance iLp129:DecidableEq (List Pt129):=inferInstance
instance iKv129:DecidableEq ((Int×Bool×Unit)×Bool):=inferInstance
instance iNk129:DecidableEq (Nat×((Int×Bool×Unit)×Bool)):=inferInstance
instance iLm129:DecidableEq (List (Nat×((Int×Bool×Unit)×Bool))):=inferInstance
instance iM129:DecidableEq M129:=inferInstanceAs (DecidableEq (List (Nat×((Int×Bool×Unit)×Bool))×Nat))
instance iW4129:DecidableEq (Int×Int×Int×Int×Int×Unit):=inferInstance
instance iW5129:DecidableEq (List Pt129×Int×Int×Int×Int×Int×Unit):=inferInstance
instance iW8129:DecidableEq (Int×Int×Int×List Pt129×Int×Int×Int×Int×Int×Unit):=inferInstance
instance iW129:DecidableEq W129:=inferInstanceAs (DecidableEq (List Pt129×Int×Int×Int×List Pt129×Int×Int×Int×Int×Int×Unit))
instance iDB129:DecidableEq DB129:=inferInstanceAs (DecidableEq ((Bool×Unit)×M129×W129×Unit))
def same129(x y:DB129):Bool:=decide (x=y)
def eq129(x y:shb129_2.data ⊕ shr129_2.data):Bool:=
 match x,y with
 |.inl a,.inl b=>same129 a b
 |_,_=>false
theorem eq129_eq(x y:shb129_2.data ⊕ shr129_2.data)(h:eq129 x y=true):x=y:=by
 cases x with
 |inl a=>cases y with
  |inl b=>exact congrArg Sum.inl (of_decide_eq_true h:(a:DB129)=b)
  |inr b=>cases h
 |inr a=>cases h
abbrev D129:=(Bool×Unit)×M129×W129×(Nat×List Nat)×Unit
instance iS129:DecidableEq (Nat×List Nat):=inferInstance
instance iT129:DecidableEq (W129×(Nat×List Nat)×Unit):=inferInstanceAs (DecidableEq (W129×(Nat×List Nat)×Unit))
instance iU129:DecidableEq (M129×W129×(Nat×List Nat)×Unit):=inferInstanceAs (DecidableEq (M129×W129×(Nat×List Nat)×Unit))
instance iD129:DecidableEq D129:=inferInstanceAs (DecidableEq ((Bool×Unit)×M129×W129×(Nat×List Nat)×Unit))
def seen129(d:sh129_2.data):List Nat:=d.2.2.2.1.2
def fill129(l:List Nat)(d:sh129_2.data):sh129_2.data:=(d.1,d.2.1,d.2.2.1,(d.2.2.2.1.1,l),d.2.2.2.2)
def eqD129(a b:D129):Bool:=decide (a=b)
def same129_2(a b:sh129_2.data):Bool:=decide (seen129 a=seen129 b)&&eqD129 a b
def cn129(d:sh129_2.data):sh129_2.data:=fill129 (qhw (seen129 d)) d
theorem same129_eq(a b:sh129_2.data)(h:same129_2 a b=true):a=b:=by
 unfold same129_2 at h
 rw[Bool.and_eq_true]at h
 exact(of_decide_eq_true h.2:(a:D129)=b)
def fillO129(l:List Nat):Out sh129_2.data shb129_2.data shr129_2.data→Out sh129_2.data shb129_2.data shr129_2.data
 |.again d=>.again (fill129 l d)
 |.brk b=>.brk b
 |.ret c=>.ret c
theorem s129_some(d:sh129_2.data)(n:List Nat)(i:Nat):s129_2 (some i) (fill129 n d)=(s129_2 (some i) (fill129 [] d)).map (fillO129 (i::n)):=by
 unfold s129_2
 rw[←Tr.map_val]
 rfl
theorem s129_none(d:sh129_2.data)(n:List Nat):s129_2 none (fill129 n d)=s129_2 none (fill129 [] d):=rfl
theorem left129_fill(d:sh129_2.data)(n:List Nat):left129_2 (fill129 n d)=leftD n d.2.1.1:=rfl
theorem leftD_same{α:Type}{n n':List Nat}(h:∀k,k∈n↔k∈n')(l:List (Nat×α)):leftD n l=leftD n' l:=by
 unfold leftD
 apply List.filter_congr
 intro k _
 by_cases hk:k∈n
 ·simp[hk,(h k).1 hk]
 ·have:k∉n':=fun e=>hk ((h k).2 e)
  simp[hk,this]
theorem ends129_fill{r:shb129_2.data ⊕ shr129_2.data}:∀(m:Nat)(d:sh129_2.data)(n n':List Nat),(∀k,k∈n↔k∈n')→EndsN s129_2 left129_2 m (fill129 n d) r→EndsN s129_2 left129_2 m (fill129 n' d) r
 |0,_,_,_,_,h=>h.elim
 |m+1,d,n,n',he,h=>by
  intro pk hp
  rw[left129_fill,←leftD_same he]at hp
  have h1:=h pk hp
  cases pk with
  |none=>
   rw[s129_none]at h1 ⊢
   exact h1
  |some i=>
   rw[s129_some]at h1 ⊢
   cases hs:s129_2 (some i) (fill129 [] d)with
   |none=>rw[hs]at h1;exact h1.elim
   |some o=>
    rw[hs]at h1
    cases o with
    |again e=>
     exact ends129_fill m e (i::n) (i::n') (fun k=>by rw[List.mem_cons,List.mem_cons,he k]) h1
    |brk b=>exact h1
    |ret c=>exact h1
def l129_2(d:sh129_2.data):Option (shb129_2.data ⊕ shr129_2.data):=qsw s129_2 left129_2 cn129 same129_2 eq129 12 d
theorem ends129_2:∀d r,l129_2 d=some r→EndsN s129_2 left129_2 rounds d r:=fun d r h=>
 qnw eq129_eq same129_eq (fun m d r hh=>ends129_fill m d (qhw (seen129 d)) (seen129 d) (fun k=>qhg k _) hh) (by unfold rounds;omega) h
def b129_2(d:sh129_2.data):shb129_2.data:=outB shb129_2.dflt (l129_2 d)
def lc129_2:LoopC:=lcB sh129_2 shb129_2 shr129_2 l129_2 b129_2
theorem e129_2_0(x2:Bool)(b0:(List (Nat×((Int×(Bool×Unit))×Bool))))(b0c:Nat)(b1_0:List (Int×(Int×Unit)))(b1_1:Int)(b1_2:Int)(b1_3:Int)(b1_4:List (Int×(Int×Unit)))(b1_5:Int)(b1_6:Int)(b1_7:Int)(b1_8:Int)(b1_9:Int)(b2s:Nat)(b2n:List Nat):qeL (kl135_0 Proofs.Tryz.prog).orc Proofs.Tryz.prog 400 129 2 sh129_2 shb129_2 shr129_2 none ((x2,()),(b0,b0c),(b1_0,b1_1,b1_2,b1_3,b1_4,b1_5,b1_6,b1_7,b1_8,b1_9,()),(b2s,b2n),()) [tt,ff] =
 (some (.brk ((x2,()),((b0,b0c),((b1_0,(b1_1,(b1_2,(b1_3,(b1_4,(b1_5,(b1_6,(b1_7,(b1_8,(b1_9,())))))))))),()))),[(false,false),(Nat.beq b0c b2s,true)])):=by kernel_rfl
theorem e129_2_2(x2:Bool)(b0:(List (Nat×((Int×(Bool×Unit))×Bool))))(b0c:Nat)(b1_0:List (Int×(Int×Unit)))(b1_1:Int)(b1_2:Int)(b1_3:Int)(b1_4:List (Int×(Int×Unit)))(b1_5:Int)(b1_6:Int)(b1_7:Int)(b1_8:Int)(b1_9:Int)(b2s:Nat)(b2n:List Nat)(ci:Nat):qeL (kl135_0 Proofs.Tryz.prog).orc Proofs.Tryz.prog 400 129 2 sh129_2 shb129_2 shr129_2 (some ci) ((x2,()),(b0,b0c),(b1_0,b1_1,b1_2,b1_3,b1_4,b1_5,b1_6,b1_7,b1_8,b1_9,()),(b2s,b2n),()) [tt,tt,tt,tt,tt,tt,tt] =
 (let r0:=r135_0 ((b1_7,()),((b0,b0c),((b1_0,(b1_1,(b1_2,(b1_3,(b1_4,(b1_5,(b1_6,(b1_7,(b1_8,(b1_9,())))))))))),((((entE (k:=MK) (v:=MV) b0 ci).1.1:Int),((entE (k:=MK) (v:=MV) b0 ci).1.2.1,())),()))));some (.again ((false,()),(((ddel (k:=MK) (v:=MV) ((entE (k:=MK) (v:=MV) b0 ci).1.1,(entE (k:=MK) (v:=MV) b0 ci).1.2.1,()) r0.2.1.1:List (Nat×Ty.data (Ty.pair (Ty.int Go.IntKind.i64) (Ty.pair Ty.bool Ty.unit))×Ty.data Ty.bool)),r0.2.1.2),((b1_0,(b1_1,(b1_2,(b1_3,(b1_4,(b1_5,(b1_6,(b1_7,(b1_8,(b1_9,())))))))))),((b2s,(ci::b2n:List Nat)),())))),[(r0.1.1,true),(qa8 (l135_0 ((b1_7,()),((b0,b0c),((b1_0,(b1_1,(b1_2,(b1_3,(b1_4,(b1_5,(b1_6,(b1_7,(b1_8,(b1_9,())))))))))),((((entE (k:=MK) (v:=MV) b0 ci).1.1:Int),((entE (k:=MK) (v:=MV) b0 ci).1.2.1,())),()))))),true),(Option.isSome (l135_0 ((b1_7,()),((b0,b0c),((b1_0,(b1_1,(b1_2,(b1_3,(b1_4,(b1_5,(b1_6,(b1_7,(b1_8,(b1_9,())))))))))),((((entE (k:=MK) (v:=MV) b0 ci).1.1:Int),((entE (k:=MK) (v:=MV) b0 ci).1.2.1,())),()))))),true),(hasE b0 ci,true),(Nat.beq b0c b2s,true),(true,true),(Nat.beq b0c b2s,true)])):=by kernel_rfl
theorem e129_2_3(x2:Bool)(b0:(List (Nat×((Int×(Bool×Unit))×Bool))))(b0c:Nat)(b1_0:List (Int×(Int×Unit)))(b1_1:Int)(b1_2:Int)(b1_3:Int)(b1_4:List (Int×(Int×Unit)))(b1_5:Int)(b1_6:Int)(b1_7:Int)(b1_8:Int)(b1_9:Int)(b2s:Nat)(b2n:List Nat)(ci:Nat):qeL (kl135_0 Proofs.Tryz.prog).orc Proofs.Tryz.prog 400 129 2 sh129_2 shb129_2 shr129_2 (some ci) ((x2,()),(b0,b0c),(b1_0,b1_1,b1_2,b1_3,b1_4,b1_5,b1_6,b1_7,b1_8,b1_9,()),(b2s,b2n),()) [tt,tt,tt,tt,tt,tt,ff] =
 (let r0:=r135_0 ((b1_7,()),((b0,b0c),((b1_0,(b1_1,(b1_2,(b1_3,(b1_4,(b1_5,(b1_6,(b1_7,(b1_8,(b1_9,())))))))))),((((entE (k:=MK) (v:=MV) b0 ci).1.1:Int),((entE (k:=MK) (v:=MV) b0 ci).1.2.1,())),()))));some (.again ((x2,()),(((r0.2.1.1:List (Nat×(Int×Bool×PUnit)×Bool)),r0.2.1.2),((b1_0,(b1_1,(b1_2,(b1_3,(b1_4,(b1_5,(b1_6,(b1_7,(b1_8,(b1_9,())))))))))),((b2s,(ci::b2n:List Nat)),())))),[(r0.1.1,false),(qa8 (l135_0 ((b1_7,()),((b0,b0c),((b1_0,(b1_1,(b1_2,(b1_3,(b1_4,(b1_5,(b1_6,(b1_7,(b1_8,(b1_9,())))))))))),((((entE (k:=MK) (v:=MV) b0 ci).1.1:Int),((entE (k:=MK) (v:=MV) b0 ci).1.2.1,())),()))))),true),(Option.isSome (l135_0 ((b1_7,()),((b0,b0c),((b1_0,(b1_1,(b1_2,(b1_3,(b1_4,(b1_5,(b1_6,(b1_7,(b1_8,(b1_9,())))))))))),((((entE (k:=MK) (v:=MV) b0 ci).1.1:Int),((entE (k:=MK) (v:=MV) b0 ci).1.2.1,())),()))))),true),(hasE b0 ci,true),(Nat.beq b0c b2s,true),(true,true),(Nat.beq b0c b2s,true)])):=by kernel_rfl
theorem e129_2_4(x2:Bool)(b0:(List (Nat×((Int×(Bool×Unit))×Bool))))(b0c:Nat)(b1_0:List (Int×(Int×Unit)))(b1_1:Int)(b1_2:Int)(b1_3:Int)(b1_4:List (Int×(Int×Unit)))(b1_5:Int)(b1_6:Int)(b1_7:Int)(b1_8:Int)(b1_9:Int)(b2s:Nat)(b2n:List Nat)(ci:Nat):qeL (kl135_0 Proofs.Tryz.prog).orc Proofs.Tryz.prog 400 129 2 sh129_2 shb129_2 shr129_2 (some ci) ((x2,()),(b0,b0c),(b1_0,b1_1,b1_2,b1_3,b1_4,b1_5,b1_6,b1_7,b1_8,b1_9,()),(b2s,b2n),()) [tt,tt,tt,tt,tt,ff,ff] =
 (let r1:=b135_0 ((b1_7,()),((b0,b0c),((b1_0,(b1_1,(b1_2,(b1_3,(b1_4,(b1_5,(b1_6,(b1_7,(b1_8,(b1_9,())))))))))),((((entE (k:=MK) (v:=MV) b0 ci).1.1:Int),((entE (k:=MK) (v:=MV) b0 ci).1.2.1,())),()))));some (.again ((x2,()),(((r1.2.1.1:List (Nat×(Int×Bool×PUnit)×Bool)),r1.2.1.2),((b1_0,(b1_1,(b1_2,(b1_3,(b1_4,(b1_5,(b1_6,(b1_7,(b1_8,(b1_9,())))))))))),((b2s,(ci::b2n:List Nat)),())))),[(false,false),(qa8 (l135_0 ((b1_7,()),((b0,b0c),((b1_0,(b1_1,(b1_2,(b1_3,(b1_4,(b1_5,(b1_6,(b1_7,(b1_8,(b1_9,())))))))))),((((entE (k:=MK) (v:=MV) b0 ci).1.1:Int),((entE (k:=MK) (v:=MV) b0 ci).1.2.1,())),()))))),false),(Option.isSome (l135_0 ((b1_7,()),((b0,b0c),((b1_0,(b1_1,(b1_2,(b1_3,(b1_4,(b1_5,(b1_6,(b1_7,(b1_8,(b1_9,())))))))))),((((entE (k:=MK) (v:=MV) b0 ci).1.1:Int),((entE (k:=MK) (v:=MV) b0 ci).1.2.1,())),()))))),true),(hasE b0 ci,true),(Nat.beq b0c b2s,true),(true,true),(Nat.beq b0c b2s,true)])):=by kernel_rfl
theorem ok129_2_te(x2:Bool)(b0:(List (Nat×((Int×(Bool×Unit))×Bool))))(b0c:Nat)(b1_0:List (Int×(Int×Unit)))(b1_1:Int)(b1_2:Int)(b1_3:Int)(b1_4:List (Int×(Int×Unit)))(b1_5:Int)(b1_6:Int)(b1_7:Int)(b1_8:Int)(b1_9:Int)(b2s:Nat)(b2n:List Nat):TrOk (PickRuns Proofs.Tryz.prog (kl135_0 Proofs.Tryz.prog).orc 129 2 sh129_2 shb129_2 shr129_2 none ((x2,()),(b0,b0c),(b1_0,b1_1,b1_2,b1_3,b1_4,b1_5,b1_6,b1_7,b1_8,b1_9,()),(b2s,b2n),())) (te129_2 x2 b0 b0c b1_0 b1_1 b1_2 b1_3 b1_4 b1_5 b1_6 b1_7 b1_8 b1_9 b2s b2n):=
 TrOk.ofTest (fun h0=>TrOk.ofFin (PickRuns.of (e129_2_0 x2 b0 b0c b1_0 b1_1 b1_2 b1_3 b1_4 b1_5 b1_6 b1_7 b1_8 b1_9 b2s b2n) (ac rfl (ac h0 All.nil)))) (fun h0=>TrOk.ofStop)
theorem ok129_2_t(x2:Bool)(b0:(List (Nat×((Int×(Bool×Unit))×Bool))))(b0c:Nat)(b1_0:List (Int×(Int×Unit)))(b1_1:Int)(b1_2:Int)(b1_3:Int)(b1_4:List (Int×(Int×Unit)))(b1_5:Int)(b1_6:Int)(b1_7:Int)(b1_8:Int)(b1_9:Int)(b2s:Nat)(b2n:List Nat)(ci:Nat):TrOk (PickRuns Proofs.Tryz.prog (kl135_0 Proofs.Tryz.prog).orc 129 2 sh129_2 shb129_2 shr129_2 (some ci) ((x2,()),(b0,b0c),(b1_0,b1_1,b1_2,b1_3,b1_4,b1_5,b1_6,b1_7,b1_8,b1_9,()),(b2s,b2n),())) (t129_2 x2 b0 b0c b1_0 b1_1 b1_2 b1_3 b1_4 b1_5 b1_6 b1_7 b1_8 b1_9 b2s b2n ci):=
 TrOk.ofTest (fun h0=>TrOk.ofTest (fun h3=>TrOk.ofTest (fun h4=>TrOk.ofTest (fun h5=>TrOk.ofTest (fun h6=>TrOk.ofFin (PickRuns.of (e129_2_2 x2 b0 b0c b1_0 b1_1 b1_2 b1_3 b1_4 b1_5 b1_6 b1_7 b1_8 b1_9 b2s b2n ci) (ac h6 (ac h5 (ac h4 (ac h3 (ac h0 (ac rfl (ac h0 All.nil))))))))) (fun h6=>TrOk.ofFin (PickRuns.of (e129_2_3 x2 b0 b0c b1_0 b1_1 b1_2 b1_3 b1_4 b1_5 b1_6 b1_7 b1_8 b1_9 b2s b2n ci) (ac h6 (ac h5 (ac h4 (ac h3 (ac h0 (ac rfl (ac h0 All.nil)))))))))) (fun h5=>TrOk.ofFin (PickRuns.of (e129_2_4 x2 b0 b0c b1_0 b1_1 b1_2 b1_3 b1_4 b1_5 b1_6 b1_7 b1_8 b1_9 b2s b2n ci) (ac rfl (ac h5 (ac h4 (ac h3 (ac h0 (ac rfl (ac h0 All.nil)))))))))) (fun h4=>TrOk.ofStop)) (fun h3=>TrOk.ofStop)) (fun h0=>TrOk.ofStop)
theorem ok129_2:qaz Proofs.Tryz.prog 129 2 lc129_2:=qls (sh:=sh129_2) (shB:=shb129_2) (shR:=shr129_2) (left:=left129_2) kl135_0_ok.base (by kernel_rfl) rfl (T:=tp129_2) (fun pk (d:sh129_2.data)=>match pk with
 |none=>ok129_2_te d.1.1 d.2.1.1 d.2.1.2 d.2.2.1.1 d.2.2.1.2.1 d.2.2.1.2.2.1 d.2.2.1.2.2.2.1 d.2.2.1.2.2.2.2.1 d.2.2.1.2.2.2.2.2.1 d.2.2.1.2.2.2.2.2.2.1 d.2.2.1.2.2.2.2.2.2.2.1 d.2.2.1.2.2.2.2.2.2.2.2.1 d.2.2.1.2.2.2.2.2.2.2.2.2.1 d.2.2.2.1.1 d.2.2.2.1.2
 |some ci=>ok129_2_t d.1.1 d.2.1.1 d.2.1.2 d.2.2.1.1 d.2.2.1.2.1 d.2.2.1.2.2.1 d.2.2.1.2.2.2.1 d.2.2.1.2.2.2.2.1 d.2.2.1.2.2.2.2.2.1 d.2.2.1.2.2.2.2.2.2.1 d.2.2.1.2.2.2.2.2.2.2.1 d.2.2.1.2.2.2.2.2.2.2.2.1 d.2.2.1.2.2.2.2.2.2.2.2.2.1 d.2.2.2.1.1 d.2.2.2.1.2 ci) (fun _=>by kernel_rfl) ends129_2
def kl129_2(P:Go.Program):Known:=(kl135_0 P).loop 129 2 lc129_2
theorem kl129_2_ok:KnownOk Proofs.Tryz.prog (kl129_2 Proofs.Tryz.prog):=kl135_0_ok.loop ok129_2
abbrev sh129_0:Sh:={ n:=20,slots:=[1,2,4],pats:=[.map 0,.ptr 1 10 0,.ty .bool],boxes:=[.mapd (.pair (.int .i64) (.pair .bool .unit)) .bool,.row [.ty (.slice (.pair (.int .i64) (.pair (.int .i64) .unit))),.ty (.int .i64),.ty (.int .i64),.ty (.int .i64),.ty (.slice (.pair (.int .i64) (.pair (.int .i64) .unit))),.ty (.int .i64),.ty (.int .i64),.ty (.int .i64),.ty (.int .i64),.ty (.int .i64)]] }
abbrev shb129_0:Sh:={ n:=20,slots:=[],pats:=[],boxes:=[.mapd (.pair (.int .i64) (.pair .bool .unit)) .bool,.row [.ty (.slice (.pair (.int .i64) (.pair (.int .i64) .unit))),.ty (.int .i64),.ty (.int .i64),.ty (.int .i64),.ty (.slice (.pair (.int .i64) (.pair (.int .i64) .unit))),.ty (.int .i64),.ty (.int .i64),.ty (.int .i64),.ty (.int .i64),.ty (.int .i64)]] }
abbrev shr129_0:Sh:={ n:=20,slots:=[],pats:=[],boxes:=[.mapd (.pair (.int .i64) (.pair .bool .unit)) .bool,.row [.ty (.slice (.pair (.int .i64) (.pair (.int .i64) .unit))),.ty (.int .i64),.ty (.int .i64),.ty (.int .i64),.ty (.slice (.pair (.int .i64) (.pair (.int .i64) .unit))),.ty (.int .i64),.ty (.int .i64),.ty (.int .i64),.ty (.int .i64),.ty (.int .i64)]] }
def t129_0(x2:Bool)(b0:(List (Nat×((Int×(Bool×Unit))×Bool))))(b0c:Nat)(b1_0:List (Int×(Int×Unit)))(b1_1:Int)(b1_2:Int)(b1_3:Int)(b1_4:List (Int×(Int×Unit)))(b1_5:Int)(b1_6:Int)(b1_7:Int)(b1_8:Int)(b1_9:Int):Tr (Out sh129_0.data shb129_0.data shr129_0.data):= Tr.test ((!x2:Bool)) (Tr.test (qbl (l129_2 ((true,()),((b0,b0c),((b1_0,(b1_1,(b1_2,(b1_3,(b1_4,(b1_5,(b1_6,(b1_7,(b1_8,(b1_9,())))))))))),((b0c,([]:List Nat)),())))))) (let r0:=b129_2 (((true:Bool),()),((b0,b0c),((b1_0,(b1_1,(b1_2,(b1_3,(b1_4,(b1_5,(b1_6,(b1_7,(b1_8,(b1_9,())))))))))),((b0c,([]:List Nat)),()))));Tr.fin (.again ((r0.1.1,()),(((r0.2.1.1:List (Nat×(Int×Bool×PUnit)×Bool)),r0.2.1.2),((r0.2.2.1.1,(r0.2.2.1.2.1,(r0.2.2.1.2.2.1,(r0.2.2.1.2.2.2.1,(r0.2.2.1.2.2.2.2.1,(r0.2.2.1.2.2.2.2.2.1,(r0.2.2.1.2.2.2.2.2.2.1,(r0.2.2.1.2.2.2.2.2.2.2.1,(r0.2.2.1.2.2.2.2.2.2.2.2.1,(r0.2.2.1.2.2.2.2.2.2.2.2.2.1,())))))))))),()))))) (Tr.stop)) (Tr.fin (.brk ((),((b0,b0c),((b1_0,(b1_1,(b1_2,(b1_3,(b1_4,(b1_5,(b1_6,(b1_7,(b1_8,(b1_9,())))))))))),())))))
def s129_0(d:sh129_0.data):Option (Out sh129_0.data shb129_0.data shr129_0.data):=(t129_0 d.1.1 d.2.1.1 d.2.1.2 d.2.2.1.1 d.2.2.1.2.1 d.2.2.1.2.2.1 d.2.2.1.2.2.2.1 d.2.2.1.2.2.2.2.1 d.2.2.1.2.2.2.2.2.1 d.2.2.1.2.2.2.2.2.2.1 d.2.2.1.2.2.2.2.2.2.2.1 d.2.2.1.2.2.2.2.2.2.2.2.1 d.2.2.1.2.2.2.2.2.2.2.2.2.1).val
def l129_0(d:sh129_0.data):Option (shb129_0.data ⊕ shr129_0.data):=itr s129_0 rounds d
def b129_0(d:sh129_0.data):shb129_0.data:=outB shb129_0.dflt (l129_0 d)
def lc129_0:LoopC:=lcB sh129_0 shb129_0 shr129_0 l129_0 b129_0
theorem e129_0_0(x2:Bool)(b0:(List (Nat×((Int×(Bool×Unit))×Bool))))(b0c:Nat)(b1_0:List (Int×(Int×Unit)))(b1_1:Int)(b1_2:Int)(b1_3:Int)(b1_4:List (Int×(Int×Unit)))(b1_5:Int)(b1_6:Int)(b1_7:Int)(b1_8:Int)(b1_9:Int):qat (kl129_2 Proofs.Tryz.prog).orc Proofs.Tryz.prog 400 129 0 sh129_0 shb129_0 shr129_0 ((x2,()),(b0,b0c),(b1_0,b1_1,b1_2,b1_3,b1_4,b1_5,b1_6,b1_7,b1_8,b1_9,()),()) [tt,tt,tt] =
 (let r0:=b129_2 ((true,()),((b0,b0c),((b1_0,(b1_1,(b1_2,(b1_3,(b1_4,(b1_5,(b1_6,(b1_7,(b1_8,(b1_9,())))))))))),((b0c,([]:List Nat)),()))));some (.again ((r0.1.1,()),(((r0.2.1.1:List (Nat×(Int×Bool×PUnit)×Bool)),r0.2.1.2),((r0.2.2.1.1,(r0.2.2.1.2.1,(r0.2.2.1.2.2.1,(r0.2.2.1.2.2.2.1,(r0.2.2.1.2.2.2.2.1,(r0.2.2.1.2.2.2.2.2.1,(r0.2.2.1.2.2.2.2.2.2.1,(r0.2.2.1.2.2.2.2.2.2.2.1,(r0.2.2.1.2.2.2.2.2.2.2.2.1,(r0.2.2.1.2.2.2.2.2.2.2.2.2.1,())))))))))),()))),[(true,true),(qbl (l129_2 ((true,()),((b0,b0c),((b1_0,(b1_1,(b1_2,(b1_3,(b1_4,(b1_5,(b1_6,(b1_7,(b1_8,(b1_9,())))))))))),((b0c,([]:List Nat)),()))))),true),(!x2,true)])):=by kernel_rfl
theorem e129_0_1(x2:Bool)(b0:(List (Nat×((Int×(Bool×Unit))×Bool))))(b0c:Nat)(b1_0:List (Int×(Int×Unit)))(b1_1:Int)(b1_2:Int)(b1_3:Int)(b1_4:List (Int×(Int×Unit)))(b1_5:Int)(b1_6:Int)(b1_7:Int)(b1_8:Int)(b1_9:Int):qat (kl129_2 Proofs.Tryz.prog).orc Proofs.Tryz.prog 400 129 0 sh129_0 shb129_0 shr129_0 ((x2,()),(b0,b0c),(b1_0,b1_1,b1_2,b1_3,b1_4,b1_5,b1_6,b1_7,b1_8,b1_9,()),()) [ff] =
 (some (.brk ((),((b0,b0c),((b1_0,(b1_1,(b1_2,(b1_3,(b1_4,(b1_5,(b1_6,(b1_7,(b1_8,(b1_9,())))))))))),()))),[(!x2,false)])):=by kernel_rfl
theorem ok129_0_t(x2:Bool)(b0:(List (Nat×((Int×(Bool×Unit))×Bool))))(b0c:Nat)(b1_0:List (Int×(Int×Unit)))(b1_1:Int)(b1_2:Int)(b1_3:Int)(b1_4:List (Int×(Int×Unit)))(b1_5:Int)(b1_6:Int)(b1_7:Int)(b1_8:Int)(b1_9:Int):TrOk (BodyRuns Proofs.Tryz.prog (kl129_2 Proofs.Tryz.prog).orc 129 0 sh129_0 shb129_0 shr129_0 ((x2,()),(b0,b0c),(b1_0,b1_1,b1_2,b1_3,b1_4,b1_5,b1_6,b1_7,b1_8,b1_9,()),())) (t129_0 x2 b0 b0c b1_0 b1_1 b1_2 b1_3 b1_4 b1_5 b1_6 b1_7 b1_8 b1_9):=
 TrOk.ofTest (fun h0=>TrOk.ofTest (fun h1=>TrOk.ofFin (BodyRuns.of (e129_0_0 x2 b0 b0c b1_0 b1_1 b1_2 b1_3 b1_4 b1_5 b1_6 b1_7 b1_8 b1_9) (ac rfl (ac h1 (ac h0 All.nil))))) (fun h1=>TrOk.ofStop)) (fun h0=>TrOk.ofFin (BodyRuns.of (e129_0_1 x2 b0 b0c b1_0 b1_1 b1_2 b1_3 b1_4 b1_5 b1_6 b1_7 b1_8 b1_9) (ac h0 All.nil)))
theorem ok129_0:qaz Proofs.Tryz.prog 129 0 lc129_0:=qaA (sh:=sh129_0) (shB:=shb129_0) (shR:=shr129_0) kl129_2_ok.base (T:=fun(d:sh129_0.data)=>t129_0 d.1.1 d.2.1.1 d.2.1.2 d.2.2.1.1 d.2.2.1.2.1 d.2.2.1.2.2.1 d.2.2.1.2.2.2.1 d.2.2.1.2.2.2.2.1 d.2.2.1.2.2.2.2.2.1 d.2.2.1.2.2.2.2.2.2.1 d.2.2.1.2.2.2.2.2.2.2.1 d.2.2.1.2.2.2.2.2.2.2.2.1 d.2.2.1.2.2.2.2.2.2.2.2.2.1) (by kernel_rfl) rfl (fun(d:sh129_0.data)=>ok129_0_t d.1.1 d.2.1.1 d.2.1.2 d.2.2.1.1 d.2.2.1.2.1 d.2.2.1.2.2.1 d.2.2.1.2.2.2.1 d.2.2.1.2.2.2.2.1 d.2.2.1.2.2.2.2.2.1 d.2.2.1.2.2.2.2.2.2.1 d.2.2.1.2.2.2.2.2.2.2.1 d.2.2.1.2.2.2.2.2.2.2.2.1 d.2.2.1.2.2.2.2.2.2.2.2.2.1) (fun _=>rfl)
def kl129_0(P:Go.Program):Known:=(kl129_2 P).loop 129 0 lc129_0
theorem kl129_0_ok:KnownOk Proofs.Tryz.prog (kl129_0 Proofs.Tryz.prog):=kl129_2_ok.loop ok129_0
abbrev as13:List Ty:=[]
abbrev rs13:List Ty:=[.bool]
def f13(_:Tys.data as13):Option (Tys.data rs13):=some (true,())
def g13(_:Tys.data as13):Tys.data rs13:=(true,())
def p13:PureC:=pcOf as13 rs13 f13 g13
theorem e13:qj7 (kl129_0 Proofs.Tryz.prog).orc Proofs.Tryz.prog 400 13 as13 rs13 () none=some ((true,()),[]):=by kernel_rfl
theorem ok13:PureOk Proofs.Tryz.prog 13 p13:=qiT kl129_0_ok.base (by kernel_rfl) e13 All.nil
def kf13(P:Go.Program):Known:=(kl129_0 P).func 13 p13
theorem kf13_ok:KnownOk Proofs.Tryz.prog (kf13 Proofs.Tryz.prog):=kl129_0_ok.func ok13
abbrev as14:List Ty:=[(.pair (.slice (.pair (.int .i64) (.pair (.int .i64) .unit))) (.pair (.int .i64) (.pair (.int .i64) (.pair (.int .i64) .unit))))]
abbrev rs14:List Ty:=[.bool]
def t14(x0:(List (Int×(Int×Unit))))(x0':Int)(x0'':Int)(x0''':Int):Tr (Tys.data rs14):= Tr.fin (((leF (↑(List.length x0):Int) (10:Int):Bool),()))
def f14(d:Tys.data as14):Option (Tys.data rs14):=(t14 d.1.1 d.1.2.1 d.1.2.2.1 d.1.2.2.2.1).val
def g14(d:Tys.data as14):Tys.data rs14:=(f14 d).getD (Tys.dflt rs14)
def p14:PureC:=pcOf as14 rs14 f14 g14
theorem wk14(x0:(List (Int×(Int×Unit))))(x0':Int)(x0'':Int)(x0''':Int):Walks (runPure (kf13 Proofs.Tryz.prog).orc Proofs.Tryz.prog 400 14 as14 rs14 ((x0,x0',x0'',x0''',()),())) (t14 x0 x0' x0'' x0''') [(bl 0 0,[])]:=
 ⟨by kernel_rfl,trivial⟩
theorem ok14:PureOk Proofs.Tryz.prog 14 p14:=qab kf13_ok.base (T:=fun(d:Tys.data as14)=>t14 d.1.1 d.1.2.1 d.1.2.2.1 d.1.2.2.2.1) (by kernel_rfl) (fun(d:Tys.data as14)=>wP (wk14 d.1.1 d.1.2.1 d.1.2.2.1 d.1.2.2.2.1) (by kernel_rfl))
def kf14(P:Go.Program):Known:=(kf13 P).func 14 p14
theorem kf14_ok:KnownOk Proofs.Tryz.prog (kf14 Proofs.Tryz.prog):=kf13_ok.func ok14
abbrev as16:List Ty:=[(.pair (.slice (.pair (.int .i64) (.pair (.int .i64) .unit))) (.pair (.int .i64) (.pair (.int .i64) (.pair (.int .i64) .unit))))]
abbrev rs16:List Ty:=[(.pair (.slice (.pair (.int .i64) (.pair (.int .i64) .unit))) (.pair (.int .i64) (.pair (.int .i64) (.pair (.int .i64) .unit))))]
def t16(x0:(List (Int×(Int×Unit))))(x0':Int)(x0'':Int)(x0''':Int):Tr (Tys.data rs16):= Tr.test ((Nat.ble (((2:Nat)*((0:Nat)+List.length x0)+(192:Nat))*(16:Nat)) (281474976710656:Nat)&&Nat.ble ((0:Nat)+List.length x0) (281474976710656:Nat):Bool)) (Tr.test (Nat.beq ((0:Nat)+List.length x0) (List.length ([]++x0))) (Tr.fin (((([]++x0:List (Int×Int×PUnit)),(x0',(x0'',(x0''',())))),()))) (Tr.stop)) (Tr.test (Nat.ble ((0:Nat)+List.length x0) (0:Nat)) (Tr.stop) (Tr.stop))
def f16(d:Tys.data as16):Option (Tys.data rs16):=(t16 d.1.1 d.1.2.1 d.1.2.2.1 d.1.2.2.2.1).val
def g16(d:Tys.data as16):Tys.data rs16:=(f16 d).getD (Tys.dflt rs16)
def p16:PureC:=pcOf as16 rs16 f16 g16
theorem wk16(x0:(List (Int×(Int×Unit))))(x0':Int)(x0'':Int)(x0''':Int):Walks (runPure (kf14 Proofs.Tryz.prog).orc Proofs.Tryz.prog 400 16 as16 rs16 ((x0,x0',x0'',x0''',()),())) (t16 x0 x0' x0'' x0''') [(bl 2 3,[2,1,4])]:=
 ⟨by kernel_rfl,trivial⟩
theorem ok16:PureOk Proofs.Tryz.prog 16 p16:=qab kf14_ok.base (T:=fun(d:Tys.data as16)=>t16 d.1.1 d.1.2.1 d.1.2.2.1 d.1.2.2.2.1) (by kernel_rfl) (fun(d:Tys.data as16)=>wP (wk16 d.1.1 d.1.2.1 d.1.2.2.1 d.1.2.2.2.1) (by kernel_rfl))
def kf16(P:Go.Program):Known:=(kf14 P).func 16 p16
theorem kf16_ok:KnownOk Proofs.Tryz.prog (kf16 Proofs.Tryz.prog):=kf14_ok.func ok16
abbrev as29:List Ty:=[(.slice (.int .i64))]
abbrev rs29:List Ty:=[(.slice (.int .i64))]
def t29(x0:(List Int)):Tr (Tys.data rs29):= Tr.test ((Nat.ble (((2:Nat)*((0:Nat)+List.length x0)+(192:Nat))*(8:Nat)) (281474976710656:Nat)&&Nat.ble ((0:Nat)+List.length x0) (281474976710656:Nat):Bool)) (Tr.test (Nat.beq ((0:Nat)+List.length x0) (List.length ([]++x0))) (Tr.fin ((([]++x0:List Int),()))) (Tr.stop)) (Tr.test (Nat.ble ((0:Nat)+List.length x0) (0:Nat)) (Tr.stop) (Tr.stop))
def f29(d:Tys.data as29):Option (Tys.data rs29):=(t29 d.1).val
def g29(d:Tys.data as29):Tys.data rs29:=(f29 d).getD (Tys.dflt rs29)
def p29:PureC:=pcOf as29 rs29 f29 g29
theorem wk29(x0:(List Int)):Walks (runPure (kf16 Proofs.Tryz.prog).orc Proofs.Tryz.prog 400 29 as29 rs29 (x0,())) (t29 x0) [(bl 2 3,[2,1,4])]:=
 ⟨by kernel_rfl,trivial⟩
theorem ok29:PureOk Proofs.Tryz.prog 29 p29:=qab kf16_ok.base (T:=fun(d:Tys.data as29)=>t29 d.1) (by kernel_rfl) (fun(d:Tys.data as29)=>wP (wk29 d.1) (by kernel_rfl))
def kf29(P:Go.Program):Known:=(kf16 P).func 29 p29
theorem kf29_ok:KnownOk Proofs.Tryz.prog (kf29 Proofs.Tryz.prog):=kf16_ok.func ok29
abbrev as132:List Ty:=[(.pair (.pair (.slice (.pair (.int .i64) (.pair (.int .i64) .unit))) (.pair (.int .i64) (.pair (.int .i64) (.pair (.int .i64) .unit)))) (.pair (.slice (.pair (.int .i64) (.pair (.int .i64) .unit))) (.pair (.int .i64) (.pair (.int .i64) .unit)))),(.pair (.int .i64) (.pair .bool .unit))]
abbrev rs132:List Ty:=[(.int .i64)]
def t132(x0_:(List (Int×(Int×Unit))))(x0_':Int)(x0_'':Int)(x0_''':Int)(x0':List (Int×(Int×Unit)))(x0'':Int)(x0''':Int)(x1:Int)(x1':Bool):Tr (Tys.data rs132):= Tr.test (Option.isSome (f102 (((x0_,(x0_',(x0_'',(x0_''',())))),(x0',(x0'',(x0''',())))),()))) (let r0:=g102 (((x0_,(x0_',(x0_'',(x0_''',())))),(x0',(x0'',(x0''',())))),());Tr.test (Option.isSome (f93 ((0:Int),(r0.1,(([x1]:List Int),()))))) (let r1:=g93 ((0:Int),(r0.1,(([x1]:List Int),())));Tr.test (Option.isSome (f95 ((!r1.1:Bool),((2:Int),())))) (let r2:=g95 ((!r1.1:Bool),((2:Int),()));Tr.fin ((r2.1,()))) (Tr.stop)) (Tr.stop)) (Tr.stop)
def f132(d:Tys.data as132):Option (Tys.data rs132):=(t132 d.1.1.1 d.1.1.2.1 d.1.1.2.2.1 d.1.1.2.2.2.1 d.1.2.1 d.1.2.2.1 d.1.2.2.2.1 d.2.1.1 d.2.1.2.1).val
def g132(d:Tys.data as132):Tys.data rs132:=(f132 d).getD (Tys.dflt rs132)
def p132:PureC:=pcOf as132 rs132 f132 g132
theorem wk132(x0_:(List (Int×(Int×Unit))))(x0_':Int)(x0_'':Int)(x0_''':Int)(x0':List (Int×(Int×Unit)))(x0'':Int)(x0''':Int)(x1:Int)(x1':Bool):Walks (runPure (kf29 Proofs.Tryz.prog).orc Proofs.Tryz.prog 400 132 as132 rs132 (((x0_,x0_',x0_'',x0_''',()),x0',x0'',x0''',()),(x1,x1',()),())) (t132 x0_ x0_' x0_'' x0_''' x0' x0'' x0''' x1 x1') [(bl 3 7,[2,4,6])]:=
 ⟨by kernel_rfl,trivial⟩
theorem ok132:PureOk Proofs.Tryz.prog 132 p132:=qab kf29_ok.base (T:=fun(d:Tys.data as132)=>t132 d.1.1.1 d.1.1.2.1 d.1.1.2.2.1 d.1.1.2.2.2.1 d.1.2.1 d.1.2.2.1 d.1.2.2.2.1 d.2.1.1 d.2.1.2.1) (by kernel_rfl) (fun(d:Tys.data as132)=>wP (wk132 d.1.1.1 d.1.1.2.1 d.1.1.2.2.1 d.1.1.2.2.2.1 d.1.2.1 d.1.2.2.1 d.1.2.2.2.1 d.2.1.1 d.2.1.2.1) (by kernel_rfl))
def kf132(P:Go.Program):Known:=(kf29 P).func 132 p132
theorem kf132_ok:KnownOk Proofs.Tryz.prog (kf132 Proofs.Tryz.prog):=kf29_ok.func ok132
abbrev as97:List Ty:=[(.pair (.slice (.pair (.int .i64) (.pair (.int .i64) .unit))) (.pair (.int .i64) (.pair (.int .i64) (.pair (.int .i64) .unit)))),(.pair (.int .i64) (.pair .bool .unit)),(.slice (.int .i64))]
abbrev rs97:List Ty:=[(.pair (.pair (.slice (.pair (.int .i64) (.pair (.int .i64) .unit))) (.pair (.int .i64) (.pair (.int .i64) (.pair (.int .i64) .unit)))) (.pair (.slice (.pair (.int .i64) (.pair (.int .i64) .unit))) (.pair (.int .i64) (.pair (.int .i64) .unit)))),(.int .i64)]
def t97(x0:(List (Int×(Int×Unit))))(x0':Int)(x0'':Int)(x0''':Int)(x1:Int)(x1':Bool)(x2:List Int):Tr (Tys.data rs97):= Tr.test (Option.isSome (f99 ((x0,(x0',(x0'',(x0''',())))),(([]:List Int),())))) (let r0:=g99 ((x0,(x0',(x0'',(x0''',())))),(([]:List Int),()));Tr.test ((!eqF r0.2.1 0:Bool)) (Tr.fin ((((([]:List (Int×Int×PUnit)),((0:Int),((0:Int),((0:Int),())))),(([]:List (Int×Int×PUnit)),((0:Int),((0:Int),())))),(r0.2.1,())))) (Tr.test (Option.isSome (f132 (((r0.1.1.1,(r0.1.1.2.1,(r0.1.1.2.2.1,(r0.1.1.2.2.2.1,())))),(r0.1.2.1,(r0.1.2.2.1,(r0.1.2.2.2.1,())))),((x1,(x1',())),())))) (Tr.test (Option.isSome (f94 (x2,()))) (let r1:=g132 (((r0.1.1.1,(r0.1.1.2.1,(r0.1.1.2.2.1,(r0.1.1.2.2.2.1,())))),(r0.1.2.1,(r0.1.2.2.1,(r0.1.2.2.2.1,())))),((x1,(x1',())),()));let r2:=g94 (x2,());Tr.test (Option.isSome (f94 (([r1.1,r2.1]:List Int),()))) (let r3:=g94 (([r1.1,r2.1]:List Int),());Tr.test ((!eqF r3.1 0:Bool)) (Tr.fin ((((([]:List (Int×Int×PUnit)),((0:Int),((0:Int),((0:Int),())))),(([]:List (Int×Int×PUnit)),((0:Int),((0:Int),())))),(r3.1,())))) (Tr.fin ((((r0.1.1.1,(r0.1.1.2.1,(r0.1.1.2.2.1,(r0.1.1.2.2.2.1,())))),(r0.1.2.1,(r0.1.2.2.1,(r0.1.2.2.2.1,())))),((0:Int),()))))) (Tr.stop)) (Tr.stop)) (Tr.stop))) (Tr.stop)
def f97(d:Tys.data as97):Option (Tys.data rs97):=(t97 d.1.1 d.1.2.1 d.1.2.2.1 d.1.2.2.2.1 d.2.1.1 d.2.1.2.1 d.2.2.1).val
def g97(d:Tys.data as97):Tys.data rs97:=(f97 d).getD (Tys.dflt rs97)
def p97:PureC:=pcOf as97 rs97 f97 g97
theorem wk97(x0:(List (Int×(Int×Unit))))(x0':Int)(x0'':Int)(x0''':Int)(x1:Int)(x1':Bool)(x2:List Int):Walks (runPure (kf132 Proofs.Tryz.prog).orc Proofs.Tryz.prog 400 97 as97 rs97 ((x0,x0',x0'',x0''',()),(x1,x1',()),x2,())) (t97 x0 x0' x0'' x0''' x1 x1' x2) [(bl 2 3,[2,4]),(bl 6 61,[2,4,6,8,10,12]),(bl 6 29,[2,4,6,8,10,12])]:=
 ⟨by kernel_rfl,by kernel_rfl,by kernel_rfl,trivial⟩
theorem ok97:PureOk Proofs.Tryz.prog 97 p97:=qab kf132_ok.base (T:=fun(d:Tys.data as97)=>t97 d.1.1 d.1.2.1 d.1.2.2.1 d.1.2.2.2.1 d.2.1.1 d.2.1.2.1 d.2.2.1) (by kernel_rfl) (fun(d:Tys.data as97)=>wP (wk97 d.1.1 d.1.2.1 d.1.2.2.1 d.1.2.2.2.1 d.2.1.1 d.2.1.2.1 d.2.2.1) (by kernel_rfl))
def kf97(P:Go.Program):Known:=(kf132 P).func 97 p97
theorem kf97_ok:KnownOk Proofs.Tryz.prog (kf97 Proofs.Tryz.prog):=kf132_ok.func ok97
abbrev as146:List Ty:=[(.int .i64)]
abbrev rs146:List Ty:=[(.int .i64)]
def t146(x0:Int):Tr (Tys.data rs146):= Tr.test (Option.isSome (f93 ((0:Int),((50:Int),(([x0]:List Int),()))))) (let r0:=g93 ((0:Int),((50:Int),(([x0]:List Int),())));Tr.test (Option.isSome (f95 ((!r0.1:Bool),((2:Int),())))) (let r1:=g95 ((!r0.1:Bool),((2:Int),()));Tr.fin ((r1.1,()))) (Tr.stop)) (Tr.stop)
def f146(d:Tys.data as146):Option (Tys.data rs146):=(t146 d.1).val
def g146(d:Tys.data as146):Tys.data rs146:=(f146 d).getD (Tys.dflt rs146)
def p146:PureC:=pcOf as146 rs146 f146 g146
theorem wk146(x0:Int):Walks (runPure (kf97 Proofs.Tryz.prog).orc Proofs.Tryz.prog 400 146 as146 rs146 (x0,())) (t146 x0) [(bl 2 3,[2,4])]:=
 ⟨by kernel_rfl,trivial⟩
theorem ok146:PureOk Proofs.Tryz.prog 146 p146:=qab kf97_ok.base (T:=fun(d:Tys.data as146)=>t146 d.1) (by kernel_rfl) (fun(d:Tys.data as146)=>wP (wk146 d.1) (by kernel_rfl))
def kf146(P:Go.Program):Known:=(kf97 P).func 146 p146
theorem kf146_ok:KnownOk Proofs.Tryz.prog (kf146 Proofs.Tryz.prog):=kf97_ok.func ok146
abbrev as107:List Ty:=[(.pair (.pair (.slice (.pair (.int .i64) (.pair (.int .i64) .unit))) (.pair (.int .i64) (.pair (.int .i64) (.pair (.int .i64) .unit)))) (.pair (.slice (.pair (.int .i64) (.pair (.int .i64) .unit))) (.pair (.int .i64) (.pair (.int .i64) .unit)))),(.pair (.int .i64) (.pair .bool .unit)),(.int .i64)]
abbrev rs107:List Ty:=[(.pair (.int .i64) (.pair .bool .unit)),(.int .i64)]
def t107(x0_:(List (Int×(Int×Unit))))(x0_':Int)(x0_'':Int)(x0_''':Int)(x0':List (Int×(Int×Unit)))(x0'':Int)(x0''':Int)(x1:Int)(x1':Bool)(x2:Int):Tr (Tys.data rs107):= Tr.test (Option.isSome (f146 (x2,()))) (let r0:=g146 (x2,());Tr.test ((!eqF r0.1 0:Bool)) (Tr.fin ((((0:Int),((false:Bool),())),(r0.1,())))) (Tr.test (Option.isSome (f165 (((x0_,(x0_',(x0_'',(x0_''',())))),(x0',(x0'',(x0''',())))),((x1,(x1',())),(x2,()))))) (let r1:=g165 (((x0_,(x0_',(x0_'',(x0_''',())))),(x0',(x0'',(x0''',())))),((x1,(x1',())),(x2,())));Tr.test ((eqF r1.1.1 (-1):Bool)) (Tr.fin ((((0:Int),((false:Bool),())),((22:Int),())))) (Tr.fin (((r1.1.1,(r1.1.2.1,())),((0:Int),()))))) (Tr.stop))) (Tr.stop)
def f107(d:Tys.data as107):Option (Tys.data rs107):=(t107 d.1.1.1 d.1.1.2.1 d.1.1.2.2.1 d.1.1.2.2.2.1 d.1.2.1 d.1.2.2.1 d.1.2.2.2.1 d.2.1.1 d.2.1.2.1 d.2.2.1).val
def g107(d:Tys.data as107):Tys.data rs107:=(f107 d).getD (Tys.dflt rs107)
def p107:PureC:=pcOf as107 rs107 f107 g107
theorem wk107(x0_:(List (Int×(Int×Unit))))(x0_':Int)(x0_'':Int)(x0_''':Int)(x0':List (Int×(Int×Unit)))(x0'':Int)(x0''':Int)(x1:Int)(x1':Bool)(x2:Int):Walks (runPure (kf146 Proofs.Tryz.prog).orc Proofs.Tryz.prog 400 107 as107 rs107 (((x0_,x0_',x0_'',x0_''',()),x0',x0'',x0''',()),(x1,x1',()),x2,())) (t107 x0_ x0_' x0_'' x0_''' x0' x0'' x0''' x1 x1' x2) [(bl 2 3,[2,4]),(bl 4 13,[2,4,6,8]),(bl 4 5,[2,4,6,8])]:=
 ⟨by kernel_rfl,by kernel_rfl,by kernel_rfl,trivial⟩
theorem ok107:PureOk Proofs.Tryz.prog 107 p107:=qab kf146_ok.base (T:=fun(d:Tys.data as107)=>t107 d.1.1.1 d.1.1.2.1 d.1.1.2.2.1 d.1.1.2.2.2.1 d.1.2.1 d.1.2.2.1 d.1.2.2.2.1 d.2.1.1 d.2.1.2.1 d.2.2.1) (by kernel_rfl) (fun(d:Tys.data as107)=>wP (wk107 d.1.1.1 d.1.1.2.1 d.1.1.2.2.1 d.1.1.2.2.2.1 d.1.2.1 d.1.2.2.1 d.1.2.2.2.1 d.2.1.1 d.2.1.2.1 d.2.2.1) (by kernel_rfl))
def kf107(P:Go.Program):Known:=(kf146 P).func 107 p107
theorem kf107_ok:KnownOk Proofs.Tryz.prog (kf107 Proofs.Tryz.prog):=kf146_ok.func ok107
abbrev sh28_0:Sh:={ n:=51,slots:=[4,8,10,29,30,31],pats:=[.ptr 0 2 0,.ptr 1 7 0,.acc (.pair (.int .i64) (.pair .bool .unit)),.ty (.slice (.int .i64)),.ty (.int .i64),.ty (.int .i64)],boxes:=[.row [.ty (.int .i64),.ty .bool],.row [.ty (.slice (.pair (.int .i64) (.pair (.int .i64) .unit))),.ty (.int .i64),.ty (.int .i64),.ty (.int .i64),.ty (.slice (.pair (.int .i64) (.pair (.int .i64) .unit))),.ty (.int .i64),.ty (.int .i64)]] }
abbrev shb28_0:Sh:={ n:=51,slots:=[10],pats:=[.acc (.pair (.int .i64) (.pair .bool .unit))],boxes:=[.row [.ty (.int .i64),.ty .bool],.row [.ty (.slice (.pair (.int .i64) (.pair (.int .i64) .unit))),.ty (.int .i64),.ty (.int .i64),.ty (.int .i64),.ty (.slice (.pair (.int .i64) (.pair (.int .i64) .unit))),.ty (.int .i64),.ty (.int .i64)]] }
abbrev shr28_0:Sh:={ n:=51,slots:=[6,7],pats:=[.nil,.ty (.int .i64)],boxes:=[.row [.ty (.int .i64),.ty .bool],.row [.ty (.slice (.pair (.int .i64) (.pair (.int .i64) .unit))),.ty (.int .i64),.ty (.int .i64),.ty (.int .i64),.ty (.slice (.pair (.int .i64) (.pair (.int .i64) .unit))),.ty (.int .i64),.ty (.int .i64)]] }
def t28_0(x2:(List (Int×(Bool×Unit))))(x3:List Int)(x4:Int)(x5:Int)(b0_0:Int)(b0_1:Bool)(b1_0:List (Int×(Int×Unit)))(b1_1:Int)(b1_2:Int)(b1_3:Int)(b1_4:List (Int×(Int×Unit)))(b1_5:Int)(b1_6:Int):Tr (Out sh28_0.data shb28_0.data shr28_0.data):= Tr.test ((!leF x4 x5:Bool)) (Tr.test (decide ((0:Int)≤x5)&&decide (x5<(↑(List.length x3):Int))) (Tr.test (Option.isSome (f107 (((b1_0,(b1_1,(b1_2,(b1_3,())))),(b1_4,(b1_5,(b1_6,())))),((b0_0,(b0_1,())),((List.getD x3 (Int.toNat x5) (0:Int):Int),()))))) (let r0:=g107 (((b1_0,(b1_1,(b1_2,(b1_3,())))),(b1_4,(b1_5,(b1_6,())))),((b0_0,(b0_1,())),((List.getD x3 (Int.toNat x5) (0:Int):Int),())));Tr.test ((!eqF r0.2.1 0:Bool)) (Tr.fin (.ret ((r0.2.1,()),((r0.1.1,(r0.1.2.1,())),((b1_0,(b1_1,(b1_2,(b1_3,(b1_4,(b1_5,(b1_6,()))))))),()))))) (Tr.test ((Nat.ble (((2:Nat)*(List.length x2+(1:Nat))+(192:Nat))*(16:Nat)) (281474976710656:Nat)&&Nat.ble (List.length x2+(1:Nat)) (281474976710656:Nat):Bool)) (Tr.fin (.again (((x2++[(r0.1.1,r0.1.2.1,())]:List (Int×Bool×PUnit)),(x3,(x4,((wrap64 (x5+(1:Int)):Int),())))),((r0.1.1,(r0.1.2.1,())),((b1_0,(b1_1,(b1_2,(b1_3,(b1_4,(b1_5,(b1_6,()))))))),()))))) (Tr.stop))) (Tr.stop)) (Tr.stop)) (Tr.fin (.brk ((x2,()),((b0_0,(b0_1,())),((b1_0,(b1_1,(b1_2,(b1_3,(b1_4,(b1_5,(b1_6,()))))))),())))))
def s28_0(d:sh28_0.data):Option (Out sh28_0.data shb28_0.data shr28_0.data):=(t28_0 d.1.1 d.1.2.1 d.1.2.2.1 d.1.2.2.2.1 d.2.1.1 d.2.1.2.1 d.2.2.1.1 d.2.2.1.2.1 d.2.2.1.2.2.1 d.2.2.1.2.2.2.1 d.2.2.1.2.2.2.2.1 d.2.2.1.2.2.2.2.2.1 d.2.2.1.2.2.2.2.2.2.1).val
def l28_0(d:sh28_0.data):Option (shb28_0.data ⊕ shr28_0.data):=itr s28_0 rounds d
def b28_0(d:sh28_0.data):shb28_0.data:=outB shb28_0.dflt (l28_0 d)
def r28_0(d:sh28_0.data):shr28_0.data:=outR shr28_0.dflt (l28_0 d)
def lc28_0:LoopC:=lcOf sh28_0 shb28_0 shr28_0 l28_0 b28_0 r28_0
theorem wk28_0(x2:(List (Int×(Bool×Unit))))(x3:List Int)(x4:Int)(x5:Int)(b0_0:Int)(b0_1:Bool)(b1_0:List (Int×(Int×Unit)))(b1_1:Int)(b1_2:Int)(b1_3:Int)(b1_4:List (Int×(Int×Unit)))(b1_5:Int)(b1_6:Int):Walks (qat (kf107 Proofs.Tryz.prog).orc Proofs.Tryz.prog 400 28 0 sh28_0 shb28_0 shr28_0 ((x2,x3,x4,x5,()),(b0_0,b0_1,()),(b1_0,b1_1,b1_2,b1_3,b1_4,b1_5,b1_6,()),())) (t28_0 x2 x3 x4 x5 b0_0 b0_1 b1_0 b1_1 b1_2 b1_3 b1_4 b1_5 b1_6) [(bl 4 15,[2,4,6,8]),(bl 5 23,[2,4,6,8,10]),(bl 1 0,[2])]:=
 ⟨by kernel_rfl,by kernel_rfl,by kernel_rfl,trivial⟩
theorem ok28_0:qaz Proofs.Tryz.prog 28 0 lc28_0:=qbe (sh:=sh28_0) (shB:=shb28_0) (shR:=shr28_0) kf107_ok.base (T:=fun(d:sh28_0.data)=>t28_0 d.1.1 d.1.2.1 d.1.2.2.1 d.1.2.2.2.1 d.2.1.1 d.2.1.2.1 d.2.2.1.1 d.2.2.1.2.1 d.2.2.1.2.2.1 d.2.2.1.2.2.2.1 d.2.2.1.2.2.2.2.1 d.2.2.1.2.2.2.2.2.1 d.2.2.1.2.2.2.2.2.2.1) (by kernel_rfl) rfl (fun(d:sh28_0.data)=>wB (wk28_0 d.1.1 d.1.2.1 d.1.2.2.1 d.1.2.2.2.1 d.2.1.1 d.2.1.2.1 d.2.2.1.1 d.2.2.1.2.1 d.2.2.1.2.2.1 d.2.2.1.2.2.2.1 d.2.2.1.2.2.2.2.1 d.2.2.1.2.2.2.2.2.1 d.2.2.1.2.2.2.2.2.2.1) (by kernel_rfl)) (fun _=>rfl)
def kl28_0(P:Go.Program):Known:=(kf107 P).loop 28 0 lc28_0
theorem kl28_0_ok:KnownOk Proofs.Tryz.prog (kl28_0 Proofs.Tryz.prog):=kf107_ok.loop ok28_0
abbrev as28:List Ty:=[(.pair (.slice (.pair (.int .i64) (.pair (.int .i64) .unit))) (.pair (.int .i64) (.pair (.int .i64) (.pair (.int .i64) .unit)))),(.pair (.int .i64) (.pair .bool .unit)),(.slice (.int .i64))]
abbrev rs28:List Ty:=[(.slice (.pair (.int .i64) (.pair .bool .unit))),(.int .i64)]
def t28(x0:(List (Int×(Int×Unit))))(x0':Int)(x0'':Int)(x0''':Int)(x1:Int)(x1':Bool)(x2:List Int):Tr (Tys.data rs28):= Tr.test (Option.isSome (f95 ((!leF (↑(List.length x2):Int) (20:Int):Bool),((8:Int),())))) (let r0:=g95 (!leF (↑(List.length x2):Int) (20:Int),((8:Int),()));Tr.test (Option.isSome (f97 ((x0,(x0',(x0'',(x0''',())))),((x1,(x1',())),(([r0.1]:List Int),()))))) (let r1:=g97 ((x0,(x0',(x0'',(x0''',())))),((x1,(x1',())),(([r0.1]:List Int),())));Tr.test ((!eqF r1.2.1 0:Bool)) (Tr.fin ((([]:List (Int×Bool×PUnit)),(r1.2.1,())))) (Tr.test (Option.isSome (l28_0 ((([(x1,x1',())]:List (Int×Bool×PUnit)),(x2,((↑(List.length x2):Int),((0:Int),())))),((x1,(x1',())),((r1.1.1.1,(r1.1.1.2.1,(r1.1.1.2.2.1,(r1.1.1.2.2.2.1,(r1.1.2.1,(r1.1.2.2.1,(r1.1.2.2.2.1,()))))))),()))))) (Tr.test (qa8 (l28_0 ((([(x1,x1',())]:List (Int×Bool×PUnit)),(x2,((↑(List.length x2):Int),((0:Int),())))),((x1,(x1',())),((r1.1.1.1,(r1.1.1.2.1,(r1.1.1.2.2.1,(r1.1.1.2.2.2.1,(r1.1.2.1,(r1.1.2.2.1,(r1.1.2.2.2.1,()))))))),()))))) (let r2:=r28_0 ((([(x1,x1',())]:List (Int×Bool×PUnit)),(x2,((↑(List.length x2):Int),((0:Int),())))),((x1,(x1',())),((r1.1.1.1,(r1.1.1.2.1,(r1.1.1.2.2.1,(r1.1.1.2.2.2.1,(r1.1.2.1,(r1.1.2.2.1,(r1.1.2.2.2.1,()))))))),())));Tr.fin ((([]:List (Int×Bool×PUnit)),(r2.1.1,())))) (let r3:=b28_0 ((([(x1,x1',())]:List (Int×Bool×PUnit)),(x2,((↑(List.length x2):Int),((0:Int),())))),((x1,(x1',())),((r1.1.1.1,(r1.1.1.2.1,(r1.1.1.2.2.1,(r1.1.1.2.2.2.1,(r1.1.2.1,(r1.1.2.2.1,(r1.1.2.2.2.1,()))))))),())));Tr.fin ((r3.1.1,((0:Int),()))))) (Tr.stop))) (Tr.stop)) (Tr.stop)
def f28(d:Tys.data as28):Option (Tys.data rs28):=(t28 d.1.1 d.1.2.1 d.1.2.2.1 d.1.2.2.2.1 d.2.1.1 d.2.1.2.1 d.2.2.1).val
def g28(d:Tys.data as28):Tys.data rs28:=(f28 d).getD (Tys.dflt rs28)
def p28:PureC:=pcOf as28 rs28 f28 g28
theorem wk28(x0:(List (Int×(Int×Unit))))(x0':Int)(x0'':Int)(x0''':Int)(x1:Int)(x1':Bool)(x2:List Int):Walks (runPure (kl28_0 Proofs.Tryz.prog).orc Proofs.Tryz.prog 400 28 as28 rs28 ((x0,x0',x0'',x0''',()),(x1,x1',()),x2,())) (t28 x0 x0' x0'' x0''' x1 x1' x2) [(bl 3 7,[2,4,6]),(bl 5 27,[2,4,6,8,10]),(bl 5 11,[2,4,6,8,10])]:=
 ⟨by kernel_rfl,by kernel_rfl,by kernel_rfl,trivial⟩
theorem ok28:PureOk Proofs.Tryz.prog 28 p28:=qab kl28_0_ok.base (T:=fun(d:Tys.data as28)=>t28 d.1.1 d.1.2.1 d.1.2.2.1 d.1.2.2.2.1 d.2.1.1 d.2.1.2.1 d.2.2.1) (by kernel_rfl) (fun(d:Tys.data as28)=>wP (wk28 d.1.1 d.1.2.1 d.1.2.2.1 d.1.2.2.2.1 d.2.1.1 d.2.1.2.1 d.2.2.1) (by kernel_rfl))
def kf28(P:Go.Program):Known:=(kl28_0 P).func 28 p28
theorem kf28_ok:KnownOk Proofs.Tryz.prog (kf28 Proofs.Tryz.prog):=kl28_0_ok.func ok28
abbrev as20:List Ty:=[(.int .i64),(.int .i64),(.int .i64)]
abbrev rs20:List Ty:=[.bool]
def t20(x0:Int)(x1:Int)(x2:Int):Tr (Tys.data rs20):= Tr.test ((leF x1 x0:Bool)) (Tr.fin ((leF x0 x2,()))) (Tr.fin ((false,())))
def f20(d:Tys.data as20):Option (Tys.data rs20):=(t20 d.1 d.2.1 d.2.2.1).val
def g20(d:Tys.data as20):Tys.data rs20:=(f20 d).getD (Tys.dflt rs20)
def p20:PureC:=pcOf as20 rs20 f20 g20
theorem wk20(x0:Int)(x1:Int)(x2:Int):Walks (runPure (kf28 Proofs.Tryz.prog).orc Proofs.Tryz.prog 400 20 as20 rs20 (x0,x1,x2,())) (t20 x0 x1 x2) [(bl 1 1,[2,2,2,2]),(bl 1 0,[2,2,2,2])]:=
 ⟨by kernel_rfl,by kernel_rfl,trivial⟩
theorem ok20:PureOk Proofs.Tryz.prog 20 p20:=qab kf28_ok.base (T:=fun(d:Tys.data as20)=>t20 d.1 d.2.1 d.2.2.1) (by kernel_rfl) (fun(d:Tys.data as20)=>wP (wk20 d.1 d.2.1 d.2.2.1) (by kernel_rfl))
def kf20(P:Go.Program):Known:=(kf28 P).func 20 p20
theorem kf20_ok:KnownOk Proofs.Tryz.prog (kf20 Proofs.Tryz.prog):=kf28_ok.func ok20
abbrev as36:List Ty:=[(.int .i64)]
abbrev rs36:List Ty:=[(.int .i64)]
def t36(x0:Int):Tr (Tys.data rs36):= Tr.test (Option.isSome (f20 (x0,((0:Int),((50:Int),()))))) (let r0:=g20 (x0,((0:Int),((50:Int),())));Tr.test ((!r0.1:Bool)) (Tr.fin (((2:Int),()))) (Tr.fin (((0:Int),())))) (Tr.stop)
def f36(d:Tys.data as36):Option (Tys.data rs36):=(t36 d.1).val
def g36(d:Tys.data as36):Tys.data rs36:=(f36 d).getD (Tys.dflt rs36)
def p36:PureC:=pcOf as36 rs36 f36 g36
theorem wk36(x0:Int):Walks (runPure (kf20 Proofs.Tryz.prog).orc Proofs.Tryz.prog 400 36 as36 rs36 (x0,())) (t36 x0) [(bl 2 3,[2,4]),(bl 2 1,[2,4])]:=
 ⟨by kernel_rfl,by kernel_rfl,trivial⟩
theorem ok36:PureOk Proofs.Tryz.prog 36 p36:=qab kf20_ok.base (T:=fun(d:Tys.data as36)=>t36 d.1) (by kernel_rfl) (fun(d:Tys.data as36)=>wP (wk36 d.1) (by kernel_rfl))
def kf36(P:Go.Program):Known:=(kf20 P).func 36 p36
theorem kf36_ok:KnownOk Proofs.Tryz.prog (kf36 Proofs.Tryz.prog):=kf20_ok.func ok36
abbrev as25:List Ty:=[(.int .i64)]
abbrev rs25:List Ty:=[(.int .i64)]
def t25(x0:Int):Tr (Tys.data rs25):= Tr.test (Option.isSome (f20 (x0,((0:Int),((1000:Int),()))))) (let r0:=g20 (x0,((0:Int),((1000:Int),())));Tr.test ((!r0.1:Bool)) (Tr.fin (((2:Int),()))) (Tr.fin (((0:Int),())))) (Tr.stop)
def f25(d:Tys.data as25):Option (Tys.data rs25):=(t25 d.1).val
def g25(d:Tys.data as25):Tys.data rs25:=(f25 d).getD (Tys.dflt rs25)
def p25:PureC:=pcOf as25 rs25 f25 g25
theorem wk25(x0:Int):Walks (runPure (kf36 Proofs.Tryz.prog).orc Proofs.Tryz.prog 400 25 as25 rs25 (x0,())) (t25 x0) [(bl 2 3,[2,4]),(bl 2 1,[2,4])]:=
 ⟨by kernel_rfl,by kernel_rfl,trivial⟩
theorem ok25:PureOk Proofs.Tryz.prog 25 p25:=qab kf36_ok.base (T:=fun(d:Tys.data as25)=>t25 d.1) (by kernel_rfl) (fun(d:Tys.data as25)=>wP (wk25 d.1) (by kernel_rfl))
def kf25(P:Go.Program):Known:=(kf36 P).func 25 p25
theorem kf25_ok:KnownOk Proofs.Tryz.prog (kf25 Proofs.Tryz.prog):=kf36_ok.func ok25
abbrev sh19_0:Sh:={ n:=101,slots:=[1,4,5],pats:=[.ptr 0 4 0,.ty (.slice (.pair (.int .i64) (.pair (.int .i64) .unit))),.ty (.int .i64)],boxes:=[.row [.ty (.slice (.pair (.int .i64) (.pair (.int .i64) .unit))),.ty (.int .i64),.ty (.int .i64),.ty (.int .i64)]] }
abbrev shb19_0:Sh:={ n:=101,slots:=[1],pats:=[.ptr 0 4 0],boxes:=[.row [.ty (.slice (.pair (.int .i64) (.pair (.int .i64) .unit))),.ty (.int .i64),.ty (.int .i64),.ty (.int .i64)]] }
abbrev shr19_0:Sh:={ n:=101,slots:=[2,3],pats:=[.ty (.int .i64),.ty (.int .i64)],boxes:=[.row [.ty (.slice (.pair (.int .i64) (.pair (.int .i64) .unit))),.ty (.int .i64),.ty (.int .i64),.ty (.int .i64)]] }
def t19_0(x1:(List (Int×(Int×Unit))))(x2:Int)(b0_0:List (Int×(Int×Unit)))(b0_1:Int)(b0_2:Int)(b0_3:Int):Tr (Out sh19_0.data shb19_0.data shr19_0.data):= Tr.test ((!leF (↑(List.length x1):Int) x2:Bool)) (Tr.test (decide ((0:Int)≤x2)&&decide (x2<(↑(List.length x1):Int))) (Tr.test (Option.isSome (f20 (((List.getD x1 (Int.toNat x2) ((0:Int),(0:Int),())).1:Int),((0:Int),((200:Int),()))))) (let r0:=g20 (((List.getD x1 (Int.toNat x2) ((0:Int),(0:Int),())).1:Int),((0:Int),((200:Int),())));Tr.test ((!r0.1:Bool)) (Tr.fin (.ret ((x2,((2:Int),())),((b0_0,(b0_1,(b0_2,(b0_3,())))),())))) (Tr.test (Option.isSome (f20 (((List.getD x1 (Int.toNat x2) ((0:Int),(0:Int),())).2.1:Int),((0:Int),((1000:Int),()))))) (let r1:=g20 (((List.getD x1 (Int.toNat x2) ((0:Int),(0:Int),())).2.1:Int),((0:Int),((1000:Int),())));Tr.test ((!r1.1:Bool)) (Tr.fin (.ret ((x2,((2:Int),())),((b0_0,(b0_1,(b0_2,(b0_3,())))),())))) (Tr.test ((eqF x2 0:Bool)) (Tr.test ((!eqF (List.getD x1 (Int.toNat x2) ((0:Int),(0:Int),())).1 (0:Int):Bool)) (Tr.fin (.ret ((x2,((9:Int),())),((b0_0,(b0_1,(b0_2,(b0_3,())))),())))) (Tr.test ((!leF x2 0:Bool)) (Tr.test ((decide ((0:Int)≤wrap64 (x2-(1:Int)))&&decide (wrap64 (x2-(1:Int))<(↑(List.length x1):Int)):Bool)) (Tr.test ((leF (List.getD x1 (Int.toNat x2) ((0:Int),(0:Int),())).1 (List.getD x1 (Int.toNat (wrap64 (x2-(1:Int)))) ((0:Int),(0:Int),())).1:Bool)) (Tr.fin (.ret ((x2,((9:Int),())),((b0_0,(b0_1,(b0_2,(b0_3,())))),())))) (Tr.test ((leF (List.getD x1 (Int.toNat x2) ((0:Int),(0:Int),())).2.1 (List.getD x1 (Int.toNat (wrap64 (x2-(1:Int)))) ((0:Int),(0:Int),())).2.1:Bool)) (Tr.fin (.ret ((x2,((9:Int),())),((b0_0,(b0_1,(b0_2,(b0_3,())))),())))) (Tr.fin (.again ((x1,((wrap64 (x2+(1:Int)):Int),())),((b0_0,(b0_1,(b0_2,(b0_3,())))),())))))) (Tr.stop)) (Tr.fin (.again ((x1,((wrap64 (x2+(1:Int)):Int),())),((b0_0,(b0_1,(b0_2,(b0_3,())))),())))))) (Tr.test ((!leF x2 0:Bool)) (Tr.test ((decide ((0:Int)≤wrap64 (x2-(1:Int)))&&decide (wrap64 (x2-(1:Int))<(↑(List.length x1):Int)):Bool)) (Tr.test ((leF (List.getD x1 (Int.toNat x2) ((0:Int),(0:Int),())).1 (List.getD x1 (Int.toNat (wrap64 (x2-(1:Int)))) ((0:Int),(0:Int),())).1:Bool)) (Tr.fin (.ret ((x2,((9:Int),())),((b0_0,(b0_1,(b0_2,(b0_3,())))),())))) (Tr.test ((leF (List.getD x1 (Int.toNat x2) ((0:Int),(0:Int),())).2.1 (List.getD x1 (Int.toNat (wrap64 (x2-(1:Int)))) ((0:Int),(0:Int),())).2.1:Bool)) (Tr.fin (.ret ((x2,((9:Int),())),((b0_0,(b0_1,(b0_2,(b0_3,())))),())))) (Tr.fin (.again ((x1,((wrap64 (x2+(1:Int)):Int),())),((b0_0,(b0_1,(b0_2,(b0_3,())))),())))))) (Tr.stop)) (Tr.fin (.again ((x1,((wrap64 (x2+(1:Int)):Int),())),((b0_0,(b0_1,(b0_2,(b0_3,())))),()))))))) (Tr.stop))) (Tr.stop)) (Tr.stop)) (Tr.fin (.brk ((),((b0_0,(b0_1,(b0_2,(b0_3,())))),()))))
def s19_0(d:sh19_0.data):Option (Out sh19_0.data shb19_0.data shr19_0.data):=(t19_0 d.1.1 d.1.2.1 d.2.1.1 d.2.1.2.1 d.2.1.2.2.1 d.2.1.2.2.2.1).val
def l19_0(d:sh19_0.data):Option (shb19_0.data ⊕ shr19_0.data):=itr s19_0 rounds d
def b19_0(d:sh19_0.data):shb19_0.data:=outB shb19_0.dflt (l19_0 d)
def r19_0(d:sh19_0.data):shr19_0.data:=outR shr19_0.dflt (l19_0 d)
def lc19_0:LoopC:=lcOf sh19_0 shb19_0 shr19_0 l19_0 b19_0 r19_0
theorem wk19_0(x1:(List (Int×(Int×Unit))))(x2:Int)(b0_0:List (Int×(Int×Unit)))(b0_1:Int)(b0_2:Int)(b0_3:Int):Walks (qat (kf25 Proofs.Tryz.prog).orc Proofs.Tryz.prog 400 19 0 sh19_0 shb19_0 shr19_0 ((x1,x2,()),(b0_0,b0_1,b0_2,b0_3,()),())) (t19_0 x1 x2 b0_0 b0_1 b0_2 b0_3) [(bl 4 15,pk 12 0 0x999777777788),(bl 6 55,pk 14 0 0x999773b77957b9),(bl 8 215,pl 28 0 0x86185f7db8df7e175f8e17df5697df7e17df7df820),(bl 11 1879,pl 58 0 0x86185f7db8df7e175f8e17df5697df7e17df85f7d1b5f7df7df85d7df7e37df7df7df7df7df7db8d985d9a0),(bl 12 2903,pl 60 0 0x86185f7db8df7e175f8e17df5697df7e17df85f7d1b5f7df7df85d7df7e37df3717df7df7dd85f7db8d985d9e1),(bl 12 855,pl 60 0 0x86185f7db8df7e175f8e17df5697df7e17df85f7d1b5f7df7df85d7df7e37df3717df7df7dd85f7db8d985d9e1),(bl 9 87,pl 43 0 0x218617df6e37df85d7e385f7d5a5f7df85f7e17df7df7df7df7df7df7dd85d8df),(bl 10 919,pl 57 0 0x218617df6e37df85d7e385f7df7df7e77df65f7d3adf7df7df85d7df7e37df7df7df7df7df7db8e16657a0),(bl 11 1431,pl 59 0 0x218617df6e37df85d7e385f7df7df7e97df5df7d3adf7df7df85d7df7e37df3ef7df7df7dd85f7db8e35e7761),(bl 11 407,pl 59 0 0x218617df6e37df85d7e385f7df7df7e97df5df7d3adf7df7df85d7df7e37df3ef7df7df7dd85f7db8e35e7761),(bl 8 23,pk 42 0 0x999773b77957b9777777b775777777777777795977),(bl 1 0,[2])]:=by
 repeat refine⟨by kernel_rfl,?_⟩
 exact trivial
theorem ok19_0:qaz Proofs.Tryz.prog 19 0 lc19_0:=qbe (sh:=sh19_0) (shB:=shb19_0) (shR:=shr19_0) kf25_ok.base (T:=fun(d:sh19_0.data)=>t19_0 d.1.1 d.1.2.1 d.2.1.1 d.2.1.2.1 d.2.1.2.2.1 d.2.1.2.2.2.1) (by kernel_rfl) rfl (fun(d:sh19_0.data)=>wB (wk19_0 d.1.1 d.1.2.1 d.2.1.1 d.2.1.2.1 d.2.1.2.2.1 d.2.1.2.2.2.1) (by kernel_rfl)) (fun _=>rfl)
def kl19_0(P:Go.Program):Known:=(kf25 P).loop 19 0 lc19_0
theorem kl19_0_ok:KnownOk Proofs.Tryz.prog (kl19_0 Proofs.Tryz.prog):=kf25_ok.loop ok19_0
abbrev as19:List Ty:=[(.pair (.slice (.pair (.int .i64) (.pair (.int .i64) .unit))) (.pair (.int .i64) (.pair (.int .i64) (.pair (.int .i64) .unit))))]
abbrev rs19:List Ty:=[(.int .i64),(.int .i64)]
def t19(x0:(List (Int×(Int×Unit))))(x0':Int)(x0'':Int)(x0''':Int):Tr (Tys.data rs19):= Tr.test ((!leF (2:Int) (↑(List.length x0):Int):Bool)) (Tr.fin (((0:Int),((10:Int),())))) (Tr.test (!leF (↑(List.length x0):Int) (8:Int)) (Tr.fin (((0:Int),((8:Int),())))) (Tr.test (Option.isSome (l19_0 ((x0,((0:Int),())),((x0,(x0',(x0'',(x0''',())))),())))) (Tr.test (qa8 (l19_0 ((x0,((0:Int),())),((x0,(x0',(x0'',(x0''',())))),())))) (let r0:=r19_0 ((x0,((0:Int),())),((x0,(x0',(x0'',(x0''',())))),()));Tr.fin ((r0.1.1,(r0.1.2.1,())))) (let r1:=b19_0 ((x0,((0:Int),())),((x0,(x0',(x0'',(x0''',())))),()));Tr.test (Option.isSome (f36 (r1.2.1.2.1,()))) (let r2:=g36 (r1.2.1.2.1,());Tr.test ((!eqF r2.1 0:Bool)) (Tr.fin (((0:Int),((2:Int),())))) (Tr.test (Option.isSome (f25 (r1.2.1.2.2.1,()))) (let r3:=g25 (r1.2.1.2.2.1,());Tr.test ((!eqF r3.1 0:Bool)) (Tr.fin (((0:Int),((2:Int),())))) (Tr.test (Option.isSome (f25 (r1.2.1.2.2.2.1,()))) (let r4:=g25 (r1.2.1.2.2.2.1,());Tr.test ((!eqF r4.1 0:Bool)) (Tr.fin (((0:Int),((2:Int),())))) (Tr.test ((leF r1.2.1.2.2.2.1 r1.2.1.2.2.1:Bool)) (Tr.fin (((0:Int),((9:Int),())))) (Tr.fin (((0:Int),((0:Int),())))))) (Tr.stop))) (Tr.stop))) (Tr.stop))) (Tr.stop)))
def f19(d:Tys.data as19):Option (Tys.data rs19):=(t19 d.1.1 d.1.2.1 d.1.2.2.1 d.1.2.2.2.1).val
def g19(d:Tys.data as19):Tys.data rs19:=(f19 d).getD (Tys.dflt rs19)
def p19:PureC:=pcOf as19 rs19 f19 g19
theorem wk19(x0:(List (Int×(Int×Unit))))(x0':Int)(x0'':Int)(x0''':Int):Walks (runPure (kl19_0 Proofs.Tryz.prog).orc Proofs.Tryz.prog 400 19 as19 rs19 ((x0,x0',x0'',x0''',()),())) (t19 x0 x0' x0'' x0''') [(bl 1 1,[2]),(bl 2 2,[2,4]),(bl 4 12,[2,4,6,8]),(bl 6 52,pk 16 0 0x9999977778777778),(bl 8 212,pk 17 0 0x9999977957b777788),(bl 10 852,pk 18 0 0x9999977957b77957b9),(bl 11 1364,pk 19 0 0x9999977957b77957b99),(bl 11 340,pk 19 0 0x9999977957b77957b99)]:=by
 repeat refine⟨by kernel_rfl,?_⟩
 exact trivial
theorem ok19:PureOk Proofs.Tryz.prog 19 p19:=qab kl19_0_ok.base (T:=fun(d:Tys.data as19)=>t19 d.1.1 d.1.2.1 d.1.2.2.1 d.1.2.2.2.1) (by kernel_rfl) (fun(d:Tys.data as19)=>wP (wk19 d.1.1 d.1.2.1 d.1.2.2.1 d.1.2.2.2.1) (by kernel_rfl))
def kf19(P:Go.Program):Known:=(kl19_0 P).func 19 p19
theorem kf19_ok:KnownOk Proofs.Tryz.prog (kf19 Proofs.Tryz.prog):=kl19_0_ok.func ok19
abbrev as30:List Ty:=[(.pair (.slice (.pair (.int .i64) (.pair (.int .i64) .unit))) (.pair (.int .i64) (.pair (.int .i64) (.pair (.int .i64) .unit))))]
abbrev rs30:List Ty:=[(.int .i64)]
def t30(x0:(List (Int×(Int×Unit))))(x0':Int)(x0'':Int)(x0''':Int):Tr (Tys.data rs30):= Tr.test (Option.isSome (f19 ((x0,(x0',(x0'',(x0''',())))),()))) (let r0:=g19 ((x0,(x0',(x0'',(x0''',())))),());Tr.fin ((r0.2.1,()))) (Tr.stop)
def f30(d:Tys.data as30):Option (Tys.data rs30):=(t30 d.1.1 d.1.2.1 d.1.2.2.1 d.1.2.2.2.1).val
def g30(d:Tys.data as30):Tys.data rs30:=(f30 d).getD (Tys.dflt rs30)
def p30:PureC:=pcOf as30 rs30 f30 g30
theorem wk30(x0:(List (Int×(Int×Unit))))(x0':Int)(x0'':Int)(x0''':Int):Walks (runPure (kf19 Proofs.Tryz.prog).orc Proofs.Tryz.prog 400 30 as30 rs30 ((x0,x0',x0'',x0''',()),())) (t30 x0 x0' x0'' x0''') [(bl 1 1,[2])]:=
 ⟨by kernel_rfl,trivial⟩
theorem ok30:PureOk Proofs.Tryz.prog 30 p30:=qab kf19_ok.base (T:=fun(d:Tys.data as30)=>t30 d.1.1 d.1.2.1 d.1.2.2.1 d.1.2.2.2.1) (by kernel_rfl) (fun(d:Tys.data as30)=>wP (wk30 d.1.1 d.1.2.1 d.1.2.2.1 d.1.2.2.2.1) (by kernel_rfl))
def kf30(P:Go.Program):Known:=(kf19 P).func 30 p30
theorem kf30_ok:KnownOk Proofs.Tryz.prog (kf30 Proofs.Tryz.prog):=kf19_ok.func ok30
abbrev as21:List Ty:=[(.pair (.slice (.pair (.int .i64) (.pair (.int .i64) .unit))) (.pair (.int .i64) (.pair (.int .i64) (.pair (.int .i64) .unit))))]
abbrev rs21:List Ty:=[(.int .i64)]
def t21(x0:(List (Int×(Int×Unit))))(x0':Int)(x0'':Int)(x0''':Int):Tr (Tys.data rs21):= Tr.test ((decide ((0:Int)≤wrap64 ((↑(List.length x0):Int)-(1:Int)))&&decide (wrap64 ((↑(List.length x0):Int)-(1:Int))<(↑(List.length x0):Int)):Bool)) (Tr.fin ((((List.getD x0 (Int.toNat (wrap64 ((↑(List.length x0):Int)-(1:Int)))) ((0:Int),(0:Int),())).1:Int),()))) (Tr.stop)
def f21(d:Tys.data as21):Option (Tys.data rs21):=(t21 d.1.1 d.1.2.1 d.1.2.2.1 d.1.2.2.2.1).val
def g21(d:Tys.data as21):Tys.data rs21:=(f21 d).getD (Tys.dflt rs21)
def p21:PureC:=pcOf as21 rs21 f21 g21
theorem wk21(x0:(List (Int×(Int×Unit))))(x0':Int)(x0'':Int)(x0''':Int):Walks (runPure (kf30 Proofs.Tryz.prog).orc Proofs.Tryz.prog 400 21 as21 rs21 ((x0,x0',x0'',x0''',()),())) (t21 x0 x0' x0'' x0''') [(bl 1 1,[2])]:=
 ⟨by kernel_rfl,trivial⟩
theorem ok21:PureOk Proofs.Tryz.prog 21 p21:=qab kf30_ok.base (T:=fun(d:Tys.data as21)=>t21 d.1.1 d.1.2.1 d.1.2.2.1 d.1.2.2.2.1) (by kernel_rfl) (fun(d:Tys.data as21)=>wP (wk21 d.1.1 d.1.2.1 d.1.2.2.1 d.1.2.2.2.1) (by kernel_rfl))
def kf21(P:Go.Program):Known:=(kf30 P).func 21 p21
theorem kf21_ok:KnownOk Proofs.Tryz.prog (kf21 Proofs.Tryz.prog):=kf30_ok.func ok21
abbrev as31:List Ty:=[(.pair (.slice (.pair (.int .i64) (.pair (.int .i64) .unit))) (.pair (.int .i64) (.pair (.int .i64) (.pair (.int .i64) .unit)))),(.pair (.int .i64) (.pair .bool .unit))]
abbrev rs31:List Ty:=[(.int .i64)]
def t31(x0:(List (Int×(Int×Unit))))(x0':Int)(x0'':Int)(x0''':Int)(x1:Int)(x1':Bool):Tr (Tys.data rs31):= Tr.test (Option.isSome (f21 ((x0,(x0',(x0'',(x0''',())))),()))) (let r0:=g21 ((x0,(x0',(x0'',(x0''',())))),());Tr.test (Option.isSome (f20 (x1,((0:Int),(r0.1,()))))) (let r1:=g20 (x1,((0:Int),(r0.1,())));Tr.test ((!r1.1:Bool)) (Tr.fin (((2:Int),()))) (Tr.fin (((0:Int),())))) (Tr.stop)) (Tr.stop)
def f31(d:Tys.data as31):Option (Tys.data rs31):=(t31 d.1.1 d.1.2.1 d.1.2.2.1 d.1.2.2.2.1 d.2.1.1 d.2.1.2.1).val
def g31(d:Tys.data as31):Tys.data rs31:=(f31 d).getD (Tys.dflt rs31)
def p31:PureC:=pcOf as31 rs31 f31 g31
theorem wk31(x0:(List (Int×(Int×Unit))))(x0':Int)(x0'':Int)(x0''':Int)(x1:Int)(x1':Bool):Walks (runPure (kf21 Proofs.Tryz.prog).orc Proofs.Tryz.prog 400 31 as31 rs31 ((x0,x0',x0'',x0''',()),(x1,x1',()),())) (t31 x0 x0' x0'' x0''' x1 x1') [(bl 3 7,[2,4,6]),(bl 3 3,[2,4,6])]:=
 ⟨by kernel_rfl,by kernel_rfl,trivial⟩
theorem ok31:PureOk Proofs.Tryz.prog 31 p31:=qab kf21_ok.base (T:=fun(d:Tys.data as31)=>t31 d.1.1 d.1.2.1 d.1.2.2.1 d.1.2.2.2.1 d.2.1.1 d.2.1.2.1) (by kernel_rfl) (fun(d:Tys.data as31)=>wP (wk31 d.1.1 d.1.2.1 d.1.2.2.1 d.1.2.2.2.1 d.2.1.1 d.2.1.2.1) (by kernel_rfl))
def kf31(P:Go.Program):Known:=(kf21 P).func 31 p31
theorem kf31_ok:KnownOk Proofs.Tryz.prog (kf31 Proofs.Tryz.prog):=kf21_ok.func ok31
abbrev as32:List Ty:=[(.pair (.slice (.pair (.int .i64) (.pair (.int .i64) .unit))) (.pair (.int .i64) (.pair (.int .i64) (.pair (.int .i64) .unit)))),(.pair (.int .i64) (.pair .bool .unit)),(.int .i64)]
abbrev rs32:List Ty:=[(.pair (.int .i64) (.pair .bool .unit)),(.int .i64)]
def t32(x0:(List (Int×(Int×Unit))))(x0':Int)(x0'':Int)(x0''':Int)(x1:Int)(x1':Bool)(x2:Int):Tr (Tys.data rs32):= Tr.test (Option.isSome (f97 ((x0,(x0',(x0'',(x0''',())))),((x1,(x1',())),(([]:List Int),()))))) (let r0:=g97 ((x0,(x0',(x0'',(x0''',())))),((x1,(x1',())),(([]:List Int),())));Tr.test ((!eqF r0.2.1 0:Bool)) (Tr.fin ((((0:Int),((false:Bool),())),(r0.2.1,())))) (Tr.test (Option.isSome (f107 (((r0.1.1.1,(r0.1.1.2.1,(r0.1.1.2.2.1,(r0.1.1.2.2.2.1,())))),(r0.1.2.1,(r0.1.2.2.1,(r0.1.2.2.2.1,())))),((x1,(x1',())),(x2,()))))) (let r1:=g107 (((r0.1.1.1,(r0.1.1.2.1,(r0.1.1.2.2.1,(r0.1.1.2.2.2.1,())))),(r0.1.2.1,(r0.1.2.2.1,(r0.1.2.2.2.1,())))),((x1,(x1',())),(x2,())));Tr.fin (((r1.1.1,(r1.1.2.1,())),(r1.2.1,())))) (Tr.stop))) (Tr.stop)
def f32(d:Tys.data as32):Option (Tys.data rs32):=(t32 d.1.1 d.1.2.1 d.1.2.2.1 d.1.2.2.2.1 d.2.1.1 d.2.1.2.1 d.2.2.1).val
def g32(d:Tys.data as32):Tys.data rs32:=(f32 d).getD (Tys.dflt rs32)
def p32:PureC:=pcOf as32 rs32 f32 g32
theorem wk32(x0:(List (Int×(Int×Unit))))(x0':Int)(x0'':Int)(x0''':Int)(x1:Int)(x1':Bool)(x2:Int):Walks (runPure (kf31 Proofs.Tryz.prog).orc Proofs.Tryz.prog 400 32 as32 rs32 ((x0,x0',x0'',x0''',()),(x1,x1',()),x2,())) (t32 x0 x0' x0'' x0''' x1 x1' x2) [(bl 2 3,[2,4]),(bl 3 5,[2,4,6])]:=
 ⟨by kernel_rfl,by kernel_rfl,trivial⟩
theorem ok32:PureOk Proofs.Tryz.prog 32 p32:=qab kf31_ok.base (T:=fun(d:Tys.data as32)=>t32 d.1.1 d.1.2.1 d.1.2.2.1 d.1.2.2.2.1 d.2.1.1 d.2.1.2.1 d.2.2.1) (by kernel_rfl) (fun(d:Tys.data as32)=>wP (wk32 d.1.1 d.1.2.1 d.1.2.2.1 d.1.2.2.2.1 d.2.1.1 d.2.1.2.1 d.2.2.1) (by kernel_rfl))
def kf32(P:Go.Program):Known:=(kf31 P).func 32 p32
theorem kf32_ok:KnownOk Proofs.Tryz.prog (kf32 Proofs.Tryz.prog):=kf31_ok.func ok32
abbrev as185:List Ty:=[(.int .i64)]
abbrev rs185:List Ty:=[(.int .i64)]
def t185(x0:Int):Tr (Tys.data rs185):= Tr.fin (((if x0<Go.IntKind.wrap Go.IntKind.i64 ((0:Int)-x0)then Go.IntKind.wrap Go.IntKind.i64 ((0:Int)-x0)else x0:Int),()))
def f185(d:Tys.data as185):Option (Tys.data rs185):=(t185 d.1).val
def g185(d:Tys.data as185):Tys.data rs185:=(f185 d).getD (Tys.dflt rs185)
def p185:PureC:=pcOf as185 rs185 f185 g185
theorem wk185(x0:Int):Walks (runPure (kf32 Proofs.Tryz.prog).orc Proofs.Tryz.prog 400 185 as185 rs185 (x0,())) (t185 x0) [(bl 0 0,[])]:=
 ⟨by kernel_rfl,trivial⟩
theorem ok185:PureOk Proofs.Tryz.prog 185 p185:=qab kf32_ok.base (T:=fun(d:Tys.data as185)=>t185 d.1) (by kernel_rfl) (fun(d:Tys.data as185)=>wP (wk185 d.1) (by kernel_rfl))
def kf185(P:Go.Program):Known:=(kf32 P).func 185 p185
theorem kf185_ok:KnownOk Proofs.Tryz.prog (kf185 Proofs.Tryz.prog):=kf32_ok.func ok185
abbrev sh199_0:Sh:={ n:=21,slots:=[0,3],pats:=[.ty (.slice (.int .i64)),.ty (.int .i64)],boxes:=[] }
abbrev shb199_0:Sh:={ n:=21,slots:=[0,3],pats:=[.ty (.slice (.int .i64)),.ty (.int .i64)],boxes:=[] }
abbrev shr199_0:Sh:={ n:=21,slots:=[],pats:=[],boxes:=[] }
def t199_0(x0:(List Int))(x1:Int):Tr (Out sh199_0.data shb199_0.data shr199_0.data):= Tr.test ((!leF x1 0:Bool)) (Tr.test (decide ((0:Int)≤wrap64 (x1-(1:Int)))&&decide (wrap64 (x1-(1:Int))<(↑(List.length x0):Int))) (Tr.test ((eqF (List.getD x0 (Int.toNat (wrap64 (x1-(1:Int)))) (0:Int)) (0:Int):Bool)) (Tr.fin (.again ((x0,((wrap64 (x1-(1:Int)):Int),())),()))) (Tr.fin (.brk ((x0,(x1,())),())))) (Tr.stop)) (Tr.fin (.brk ((x0,(x1,())),())))
def s199_0(d:sh199_0.data):Option (Out sh199_0.data shb199_0.data shr199_0.data):=(t199_0 d.1.1 d.1.2.1).val
def l199_0(d:sh199_0.data):Option (shb199_0.data ⊕ shr199_0.data):=itr s199_0 rounds d
def b199_0(d:sh199_0.data):shb199_0.data:=outB shb199_0.dflt (l199_0 d)
def lc199_0:LoopC:=lcB sh199_0 shb199_0 shr199_0 l199_0 b199_0
theorem wk199_0(x0:(List Int))(x1:Int):Walks (qat (kf185 Proofs.Tryz.prog).orc Proofs.Tryz.prog 400 199 0 sh199_0 shb199_0 shr199_0 ((x0,x1,()),())) (t199_0 x0 x1) [(bl 3 7,pk 9 0 0x7779577b9),(bl 3 3,pk 9 0 0x7779577b9),(bl 1 0,[0,2,2,2,2,2,2,2])]:=
 ⟨by kernel_rfl,by kernel_rfl,by kernel_rfl,trivial⟩
theorem ok199_0:qaz Proofs.Tryz.prog 199 0 lc199_0:=qaA (sh:=sh199_0) (shB:=shb199_0) (shR:=shr199_0) kf185_ok.base (T:=fun(d:sh199_0.data)=>t199_0 d.1.1 d.1.2.1) (by kernel_rfl) rfl (fun(d:sh199_0.data)=>wB (wk199_0 d.1.1 d.1.2.1) (by kernel_rfl)) (fun _=>rfl)
def kl199_0(P:Go.Program):Known:=(kf185 P).loop 199 0 lc199_0
theorem kl199_0_ok:KnownOk Proofs.Tryz.prog (kl199_0 Proofs.Tryz.prog):=kf185_ok.loop ok199_0
abbrev as199:List Ty:=[(.slice (.int .i64))]
abbrev rs199:List Ty:=[(.slice (.int .i64))]
def t199(x0:(List Int)):Tr (Tys.data rs199):= Tr.test (qbl (l199_0 ((x0,((↑(List.length x0):Int),())),()))) (let r0:=b199_0 ((x0,((↑(List.length x0):Int),())),());Tr.test ((decide ((0:Int)≤r0.1.2.1)&&decide (r0.1.2.1≤(↑(List.length r0.1.1):Int)):Bool)) (Tr.fin (((List.take (Int.toNat r0.1.2.1) r0.1.1:List Int),()))) (Tr.stop)) (Tr.stop)
def f199(d:Tys.data as199):Option (Tys.data rs199):=(t199 d.1).val
def g199(d:Tys.data as199):Tys.data rs199:=(f199 d).getD (Tys.dflt rs199)
def p199:PureC:=pcOf as199 rs199 f199 g199
theorem wk199(x0:(List Int)):Walks (runPure (kl199_0 Proofs.Tryz.prog).orc Proofs.Tryz.prog 400 199 as199 rs199 (x0,())) (t199 x0) [(bl 2 3,[2,1,4])]:=
 ⟨by kernel_rfl,trivial⟩
theorem ok199:PureOk Proofs.Tryz.prog 199 p199:=qab kl199_0_ok.base (T:=fun(d:Tys.data as199)=>t199 d.1) (by kernel_rfl) (fun(d:Tys.data as199)=>wP (wk199 d.1) (by kernel_rfl))
def kf199(P:Go.Program):Known:=(kl199_0 P).func 199 p199
theorem kf199_ok:KnownOk Proofs.Tryz.prog (kf199 Proofs.Tryz.prog):=kl199_0_ok.func ok199
abbrev as186:List Ty:=[(.int .i64),(.slice (.int .i64))]
abbrev rs186:List Ty:=[(.pair (.int .i64) (.pair (.slice (.int .i64)) .unit))]
def t186(x0:Int)(x1:List Int):Tr (Tys.data rs186):= Tr.test (Option.isSome (f199 (x1,()))) (let r0:=g199 (x1,());Tr.test ((eqF (↑(List.length r0.1):Int) (0:Int):Bool)) (Tr.fin ((((0:Int),(r0.1,())),()))) (Tr.fin (((x0,(r0.1,())),())))) (Tr.stop)
def f186(d:Tys.data as186):Option (Tys.data rs186):=(t186 d.1 d.2.1).val
def g186(d:Tys.data as186):Tys.data rs186:=(f186 d).getD (Tys.dflt rs186)
def p186:PureC:=pcOf as186 rs186 f186 g186
theorem wk186(x0:Int)(x1:List Int):Walks (runPure (kf199 Proofs.Tryz.prog).orc Proofs.Tryz.prog 400 186 as186 rs186 (x0,x1,())) (t186 x0 x1) [(bl 2 3,[2,4]),(bl 2 1,[2,4])]:=
 ⟨by kernel_rfl,by kernel_rfl,trivial⟩
theorem ok186:PureOk Proofs.Tryz.prog 186 p186:=qab kf199_ok.base (T:=fun(d:Tys.data as186)=>t186 d.1 d.2.1) (by kernel_rfl) (fun(d:Tys.data as186)=>wP (wk186 d.1 d.2.1) (by kernel_rfl))
def kf186(P:Go.Program):Known:=(kf199 P).func 186 p186
theorem kf186_ok:KnownOk Proofs.Tryz.prog (kf186 Proofs.Tryz.prog):=kf199_ok.func ok186
abbrev sh164_0:Sh:={ n:=20,slots:=[0,2,3,4],pats:=[.ty (.int .i64),.ptr 0 2 0,.ty (.int .i64),.aco (.int .i64)],boxes:=[.row [.ty (.int .i64),.nil]] }
abbrev shb164_0:Sh:={ n:=20,slots:=[2,3,4],pats:=[.ptr 0 2 0,.ty (.int .i64),.aco (.int .i64)],boxes:=[.row [.ty (.int .i64),.nil]] }
abbrev shr164_0:Sh:={ n:=20,slots:=[],pats:=[],boxes:=[.row [.ty (.int .i64),.nil]] }
def t164_0(x0:Int)(x2:Int)(x3:List Int)(b0_0:Int):Tr (Out sh164_0.data shb164_0.data shr164_0.data):= Tr.test ((!eqF x0 0:Bool)) (Tr.test (Option.isSome (f185 ((Int.tmod x0 (1000000000:Int):Int),()))) (Tr.test ((Nat.ble (((2:Nat)*(List.length x3+(1:Nat))+(192:Nat))*(8:Nat)) (281474976710656:Nat)&&Nat.ble (List.length x3+(1:Nat)) (281474976710656:Nat):Bool)) (let r0:=g185 ((Int.tmod x0 (1000000000:Int):Int),());Tr.fin (.again (((Go.IntKind.wrap Go.IntKind.i64 (Int.tdiv x0 (1000000000:Int)):Int),(x2,((x3++[r0.1]:List Int),()))),((b0_0,()),())))) (Tr.stop)) (Tr.stop)) (Tr.fin (.brk ((x2,(x3,())),((b0_0,()),()))))
def s164_0(d:sh164_0.data):Option (Out sh164_0.data shb164_0.data shr164_0.data):=(t164_0 d.1.1 d.1.2.1 d.1.2.2.1 d.2.1.1).val
def l164_0(d:sh164_0.data):Option (shb164_0.data ⊕ shr164_0.data):=itr s164_0 rounds d
def b164_0(d:sh164_0.data):shb164_0.data:=outB shb164_0.dflt (l164_0 d)
def lc164_0:LoopC:=lcB sh164_0 shb164_0 shr164_0 l164_0 b164_0
theorem wk164_0(x0:Int)(x2:Int)(x3:List Int)(b0_0:Int):Walks (qat (kf186 Proofs.Tryz.prog).orc Proofs.Tryz.prog 400 164 0 sh164_0 shb164_0 shr164_0 ((x0,x2,x3,()),(b0_0,()),())) (t164_0 x0 x2 x3 b0_0) [(bl 3 7,[0,2,4,0,6]),(bl 1 0,[2])]:=
 ⟨by kernel_rfl,by kernel_rfl,trivial⟩
theorem ok164_0:qaz Proofs.Tryz.prog 164 0 lc164_0:=qaA (sh:=sh164_0) (shB:=shb164_0) (shR:=shr164_0) kf186_ok.base (T:=fun(d:sh164_0.data)=>t164_0 d.1.1 d.1.2.1 d.1.2.2.1 d.2.1.1) (by kernel_rfl) rfl (fun(d:sh164_0.data)=>wB (wk164_0 d.1.1 d.1.2.1 d.1.2.2.1 d.2.1.1) (by kernel_rfl)) (fun _=>rfl)
def kl164_0(P:Go.Program):Known:=(kf186 P).loop 164 0 lc164_0
theorem kl164_0_ok:KnownOk Proofs.Tryz.prog (kl164_0 Proofs.Tryz.prog):=kf186_ok.loop ok164_0
abbrev as164:List Ty:=[(.int .i64)]
abbrev rs164:List Ty:=[(.pair (.int .i64) (.pair (.slice (.int .i64)) .unit))]
def t164(x0:Int):Tr (Tys.data rs164):= Tr.test ((!leF (0:Int) x0:Bool)) (Tr.test (qbl (l164_0 ((x0,((-1:Int),(([]:List Int),()))),(((0:Int),()),())))) (let r0:=b164_0 ((x0,((-1:Int),(([]:List Int),()))),(((0:Int),()),()));Tr.test (Option.isSome (f186 (r0.1.1,(r0.1.2.1,())))) (let r1:=g186 (r0.1.1,(r0.1.2.1,()));Tr.fin (((r1.1.1,(r1.1.2.1,())),()))) (Tr.stop)) (Tr.stop)) (Tr.test (qbl (l164_0 ((x0,((1:Int),(([]:List Int),()))),(((0:Int),()),())))) (let r2:=b164_0 ((x0,((1:Int),(([]:List Int),()))),(((0:Int),()),()));Tr.test (Option.isSome (f186 (r2.1.1,(r2.1.2.1,())))) (let r3:=g186 (r2.1.1,(r2.1.2.1,()));Tr.fin (((r3.1.1,(r3.1.2.1,())),()))) (Tr.stop)) (Tr.stop))
def f164(d:Tys.data as164):Option (Tys.data rs164):=(t164 d.1).val
def g164(d:Tys.data as164):Tys.data rs164:=(f164 d).getD (Tys.dflt rs164)
def p164:PureC:=pcOf as164 rs164 f164 g164
theorem wk164(x0:Int):Walks (runPure (kl164_0 Proofs.Tryz.prog).orc Proofs.Tryz.prog 400 164 as164 rs164 (x0,())) (t164 x0) [(bl 3 7,[2,1,4,6]),(bl 3 6,[2,1,4,6])]:=
 ⟨by kernel_rfl,by kernel_rfl,trivial⟩
theorem ok164:PureOk Proofs.Tryz.prog 164 p164:=qab kl164_0_ok.base (T:=fun(d:Tys.data as164)=>t164 d.1) (by kernel_rfl) (fun(d:Tys.data as164)=>wP (wk164 d.1) (by kernel_rfl))
def kf164(P:Go.Program):Known:=(kl164_0 P).func 164 p164
theorem kf164_ok:KnownOk Proofs.Tryz.prog (kf164 Proofs.Tryz.prog):=kl164_0_ok.func ok164
abbrev as106:List Ty:=[(.int .i64)]
abbrev rs106:List Ty:=[(.pair (.pair (.int .i64) (.pair (.slice (.int .i64)) .unit)) (.pair (.pair (.int .i64) (.pair (.slice (.int .i64)) .unit)) .unit))]
def t106(x0:Int):Tr (Tys.data rs106):= Tr.test (Option.isSome (f164 (x0,()))) (Tr.test (Option.isSome (f164 ((1:Int),()))) (let r0:=g164 (x0,());let r1:=g164 ((1:Int),());Tr.fin ((((r0.1.1,(r0.1.2.1,())),((r1.1.1,(r1.1.2.1,())),())),()))) (Tr.stop)) (Tr.stop)
def f106(d:Tys.data as106):Option (Tys.data rs106):=(t106 d.1).val
def g106(d:Tys.data as106):Tys.data rs106:=(f106 d).getD (Tys.dflt rs106)
def p106:PureC:=pcOf as106 rs106 f106 g106
theorem wk106(x0:Int):Walks (runPure (kf164 Proofs.Tryz.prog).orc Proofs.Tryz.prog 400 106 as106 rs106 (x0,())) (t106 x0) [(bl 2 3,[2,4])]:=
 ⟨by kernel_rfl,trivial⟩
theorem ok106:PureOk Proofs.Tryz.prog 106 p106:=qab kf164_ok.base (T:=fun(d:Tys.data as106)=>t106 d.1) (by kernel_rfl) (fun(d:Tys.data as106)=>wP (wk106 d.1) (by kernel_rfl))
def kf106(P:Go.Program):Known:=(kf164 P).func 106 p106
theorem kf106_ok:KnownOk Proofs.Tryz.prog (kf106 Proofs.Tryz.prog):=kf164_ok.func ok106
abbrev as202:List Ty:=[(.pair (.int .i64) (.pair (.slice (.int .i64)) .unit))]
abbrev rs202:List Ty:=[(.int .i64)]
def t202(x0:Int)(x0':List Int):Tr (Tys.data rs202):= Tr.fin ((x0,()))
def f202(d:Tys.data as202):Option (Tys.data rs202):=(t202 d.1.1 d.1.2.1).val
def g202(d:Tys.data as202):Tys.data rs202:=(f202 d).getD (Tys.dflt rs202)
def p202:PureC:=pcOf as202 rs202 f202 g202
theorem wk202(x0:Int)(x0':List Int):Walks (runPure (kf106 Proofs.Tryz.prog).orc Proofs.Tryz.prog 400 202 as202 rs202 ((x0,x0',()),())) (t202 x0 x0') [(bl 0 0,[])]:=
 ⟨by kernel_rfl,trivial⟩
theorem ok202:PureOk Proofs.Tryz.prog 202 p202:=qab kf106_ok.base (T:=fun(d:Tys.data as202)=>t202 d.1.1 d.1.2.1) (by kernel_rfl) (fun(d:Tys.data as202)=>wP (wk202 d.1.1 d.1.2.1) (by kernel_rfl))
def kf202(P:Go.Program):Known:=(kf106 P).func 202 p202
theorem kf202_ok:KnownOk Proofs.Tryz.prog (kf202 Proofs.Tryz.prog):=kf106_ok.func ok202
abbrev as179:List Ty:=[(.pair (.int .i64) (.pair (.slice (.int .i64)) .unit))]
abbrev rs179:List Ty:=[(.pair (.int .i64) (.pair (.slice (.int .i64)) .unit))]
def t179(x0:Int)(x0':List Int):Tr (Tys.data rs179):= Tr.fin ((((Go.IntKind.wrap Go.IntKind.i64 ((0:Int)-x0):Int),(x0',())),()))
def f179(d:Tys.data as179):Option (Tys.data rs179):=(t179 d.1.1 d.1.2.1).val
def g179(d:Tys.data as179):Tys.data rs179:=(f179 d).getD (Tys.dflt rs179)
def p179:PureC:=pcOf as179 rs179 f179 g179
theorem wk179(x0:Int)(x0':List Int):Walks (runPure (kf202 Proofs.Tryz.prog).orc Proofs.Tryz.prog 400 179 as179 rs179 ((x0,x0',()),())) (t179 x0 x0') [(bl 0 0,[])]:=
 ⟨by kernel_rfl,trivial⟩
theorem ok179:PureOk Proofs.Tryz.prog 179 p179:=qab kf202_ok.base (T:=fun(d:Tys.data as179)=>t179 d.1.1 d.1.2.1) (by kernel_rfl) (fun(d:Tys.data as179)=>wP (wk179 d.1.1 d.1.2.1) (by kernel_rfl))
def kf179(P:Go.Program):Known:=(kf202 P).func 179 p179
theorem kf179_ok:KnownOk Proofs.Tryz.prog (kf179 Proofs.Tryz.prog):=kf202_ok.func ok179
abbrev as212:List Ty:=[(.pair (.int .i64) (.pair (.slice (.int .i64)) .unit))]
abbrev rs212:List Ty:=[(.pair (.int .i64) (.pair (.slice (.int .i64)) .unit))]
def t212(x0:Int)(x0':List Int):Tr (Tys.data rs212):= Tr.test ((!leF (0:Int) x0:Bool)) (Tr.test (Option.isSome (f179 ((x0,(x0',())),()))) (let r0:=g179 ((x0,(x0',())),());Tr.fin (((r0.1.1,(r0.1.2.1,())),()))) (Tr.stop)) (Tr.fin (((x0,(x0',())),())))
def f212(d:Tys.data as212):Option (Tys.data rs212):=(t212 d.1.1 d.1.2.1).val
def g212(d:Tys.data as212):Tys.data rs212:=(f212 d).getD (Tys.dflt rs212)
def p212:PureC:=pcOf as212 rs212 f212 g212
theorem wk212(x0:Int)(x0':List Int):Walks (runPure (kf179 Proofs.Tryz.prog).orc Proofs.Tryz.prog 400 212 as212 rs212 ((x0,x0',()),())) (t212 x0 x0') [(bl 2 3,[2,4]),(bl 1 0,[2])]:=
 ⟨by kernel_rfl,by kernel_rfl,trivial⟩
theorem ok212:PureOk Proofs.Tryz.prog 212 p212:=qab kf179_ok.base (T:=fun(d:Tys.data as212)=>t212 d.1.1 d.1.2.1) (by kernel_rfl) (fun(d:Tys.data as212)=>wP (wk212 d.1.1 d.1.2.1) (by kernel_rfl))
def kf212(P:Go.Program):Known:=(kf179 P).func 212 p212
theorem kf212_ok:KnownOk Proofs.Tryz.prog (kf212 Proofs.Tryz.prog):=kf179_ok.func ok212
abbrev sh167_2:Sh:={ n:=86,slots:=[2,3,4,5,6,7,8],pats:=[.ptr 0 2 0,.ptr 1 2 0,.ptr 2 2 0,.sli 3 1,.ty (.int .i64),.ty (.int .i64),.ty (.int .i64)],boxes:=[.row [.ty (.int .i64),.ty (.slice (.int .i64))],.row [.ty (.int .i64),.ty (.slice (.int .i64))],.row [.ty (.int .i64),.nil],.arr (.int .i64)] }
abbrev shb167_2:Sh:={ n:=86,slots:=[2,3,4,5,6,7],pats:=[.ptr 0 2 0,.ptr 1 2 0,.ptr 2 2 0,.sli 3 1,.ty (.int .i64),.ty (.int .i64)],boxes:=[.row [.ty (.int .i64),.ty (.slice (.int .i64))],.row [.ty (.int .i64),.ty (.slice (.int .i64))],.row [.ty (.int .i64),.nil],.arr (.int .i64)] }
abbrev shr167_2:Sh:={ n:=86,slots:=[],pats:=[],boxes:=[.row [.ty (.int .i64),.ty (.slice (.int .i64))],.row [.ty (.int .i64),.ty (.slice (.int .i64))],.row [.ty (.int .i64),.nil],.arr (.int .i64)] }
def t167_2(x3n:Nat)(x3c:Nat)(x4:Int)(x5:Int)(x6:Int)(b0_0:Int)(b0_1:List Int)(b1_0:Int)(b1_1:List Int)(b2_0:Int)(b3:List Int):Tr (Out sh167_2.data shb167_2.data shr167_2.data):= Tr.test ((!leF (↑(List.length b1_1):Int) x6:Bool)) (Tr.test (decide ((0:Int)≤wrap64 (x4+x6))&&decide (wrap64 (x4+x6)<(↑x3n:Int))) (Tr.test ((Nat.ble ((0:Nat)+Int.toNat (wrap64 (x4+x6))+(1:Nat)) (List.length b3):Bool)) (Tr.test ((decide ((0:Int)≤x4)&&decide (x4<(↑(List.length b0_1):Int)):Bool)) (Tr.test ((decide ((0:Int)≤x6)&&decide (x6<(↑(List.length b1_1):Int)):Bool)) (Tr.fin (.again (((x3n,x3c),(x4,((Go.IntKind.wrap Go.IntKind.i64 (Int.tdiv (wrap64 (wrap64 (List.getD b3 ((0:Nat)+Int.toNat (wrap64 (x4+x6))) (0:Int)+wrap64 (List.getD b0_1 (Int.toNat x4) (0:Int)*List.getD b1_1 (Int.toNat x6) (0:Int)))+x5)) (1000000000:Int)):Int),((wrap64 (x6+(1:Int)):Int),())))),((b0_0,(b0_1,())),((b1_0,(b1_1,())),((b2_0,()),((List.set b3 ((0:Nat)+Int.toNat (wrap64 (x4+x6))) (Int.tmod (wrap64 (wrap64 (List.getD b3 ((0:Nat)+Int.toNat (wrap64 (x4+x6))) (0:Int)+wrap64 (List.getD b0_1 (Int.toNat x4) (0:Int)*List.getD b1_1 (Int.toNat x6) (0:Int)))+x5)) (1000000000:Int)):List Int),()))))))) (Tr.stop)) (Tr.stop)) (Tr.stop)) (Tr.stop)) (Tr.fin (.brk (((x3n,x3c),(x4,(x5,()))),((b0_0,(b0_1,())),((b1_0,(b1_1,())),((b2_0,()),(b3,())))))))
def s167_2(d:sh167_2.data):Option (Out sh167_2.data shb167_2.data shr167_2.data):=(t167_2 d.1.1.1 d.1.1.2 d.1.2.1 d.1.2.2.1 d.1.2.2.2.1 d.2.1.1 d.2.1.2.1 d.2.2.1.1 d.2.2.1.2.1 d.2.2.2.1.1 d.2.2.2.2.1).val
def l167_2(d:sh167_2.data):Option (shb167_2.data ⊕ shr167_2.data):=itr s167_2 rounds d
def b167_2(d:sh167_2.data):shb167_2.data:=outB shb167_2.dflt (l167_2 d)
def lc167_2:LoopC:=lcB sh167_2 shb167_2 shr167_2 l167_2 b167_2
theorem wk167_2(x3n:Nat)(x3c:Nat)(x4:Int)(x5:Int)(x6:Int)(b0_0:Int)(b0_1:List Int)(b1_0:Int)(b1_1:List Int)(b2_0:Int)(b3:List Int):Walks (qat (kf212 Proofs.Tryz.prog).orc Proofs.Tryz.prog 400 167 2 sh167_2 shb167_2 shr167_2 (((x3n,x3c),x4,x5,x6,()),(b0_0,b0_1,()),(b1_0,b1_1,()),(b2_0,()),b3,())) (t167_2 x3n x3c x4 x5 x6 b0_0 b0_1 b1_0 b1_1 b2_0 b3) [(bl 5 31,[6,8,0,0,2,4,6,8,10]),(bl 1 0,[2])]:=
 ⟨by kernel_rfl,by kernel_rfl,trivial⟩
theorem ok167_2:qaz Proofs.Tryz.prog 167 2 lc167_2:=qaA (sh:=sh167_2) (shB:=shb167_2) (shR:=shr167_2) kf212_ok.base (T:=fun(d:sh167_2.data)=>t167_2 d.1.1.1 d.1.1.2 d.1.2.1 d.1.2.2.1 d.1.2.2.2.1 d.2.1.1 d.2.1.2.1 d.2.2.1.1 d.2.2.1.2.1 d.2.2.2.1.1 d.2.2.2.2.1) (by kernel_rfl) rfl (fun(d:sh167_2.data)=>wB (wk167_2 d.1.1.1 d.1.1.2 d.1.2.1 d.1.2.2.1 d.1.2.2.2.1 d.2.1.1 d.2.1.2.1 d.2.2.1.1 d.2.2.1.2.1 d.2.2.2.1.1 d.2.2.2.2.1) (by kernel_rfl)) (fun _=>rfl)
def kl167_2(P:Go.Program):Known:=(kf212 P).loop 167 2 lc167_2
theorem kl167_2_ok:KnownOk Proofs.Tryz.prog (kl167_2 Proofs.Tryz.prog):=kf212_ok.loop ok167_2
end Go.Vm.Mo
