import Derived.Test.YtklljhgfniodaaaA4
import Derived.KernelRfl
import Derived.Test.YtklljhgfniodaaaProg
import Derived.Test.YtklljhgfniodaaaRsFa
set_option linter.unusedVariables false
set_option linter.unusedSimpArgs false

namespace Go.Vm.Mo
open Go
set_option linter.unusedVariables false

/-! ductility/modal.endsError -/

abbrev as103:List Ty:=[(.slice (.pair (.int .i64) (.pair (.int .i64) .unit))),(.int .i64),(.int .i64)]
abbrev rs103:List Ty:=[(.int .i64)]

def t103 (x0:(List (Int×(Int×Unit)))) (x1:Int) (x2:Int):Tr (Tys.data rs103) :=
  Tr.test (Option.isSome (l104_0 ((x0,((↑(List.length x0):Int),((0:Int),()))),((x1,()),((x2,()),())))))
    (Tr.test (isRet (l104_0 ((x0,((↑(List.length x0):Int),((0:Int),()))),((x1,()),((x2,()),())))))
      (let r0:=r104_0 ((x0,((↑(List.length x0):Int),((0:Int),()))),((x1,()),((x2,()),())));
      Tr.fin ((r0.1.2.1,())))
      (Tr.fin (((0:Int),()))))
    (Tr.stop)

def f103 (d:Tys.data as103):Option (Tys.data rs103):=(t103 d.1 d.2.1 d.2.2.1).val
def g103 (d:Tys.data as103):Tys.data rs103:=(f103 d).getD (Tys.dflt rs103)
def p103:PureC:=pcOf as103 rs103 f103 g103

theorem wk103 (x0:(List (Int×(Int×Unit)))) (x1:Int) (x2:Int):Walks (runPure (kl104_0 Go.Proofs.Try.prog).orc Go.Proofs.Try.prog 400 103 as103 rs103 (x0,x1,x2,())) (t103 x0 x1 x2) [([true,true],[2,4]),([true,false],[2,4])] :=
  ⟨by kernel_rfl,by kernel_rfl,trivial⟩

theorem ok103_t (x0:(List (Int×(Int×Unit)))) (x1:Int) (x2:Int):TrOk (PureRuns Go.Proofs.Try.prog (kl104_0 Go.Proofs.Try.prog).orc 103 as103 rs103 (x0,x1,x2,())) (t103 x0 x1 x2) :=
  Walks.ok (fun _ _ _=>PureRuns.of) (wk103 x0 x1 x2) (by kernel_rfl)

theorem ok103:PureOk Go.Proofs.Try.prog 103 p103:=pureOk_of kl104_0_ok.base (T:=fun (d:Tys.data as103)=>t103 d.1 d.2.1 d.2.2.1) (by kernel_rfl) (fun (d:Tys.data as103)=>ok103_t d.1 d.2.1 d.2.2.1)
def kf103 (P:Go.Program):Known:=(kl104_0 P).func 103 p103
theorem kf103_ok:KnownOk Go.Proofs.Try.prog (kf103 Go.Proofs.Try.prog):=kl104_0_ok.func ok103

/-! ductility/modal.afterError -/

abbrev as67:List Ty:=[(.pair (.int .i64) (.pair (.slice (.pair (.int .i64) (.pair (.int .i64) .unit))) .unit)),(.int .i64)]
abbrev rs67:List Ty:=[(.int .i64)]

def t67 (x0:Int) (x0':(List (Int×(Int×Unit)))) (x1:Int):Tr (Tys.data rs67) :=
  Tr.test (Option.isSome (f53 (x0,())))
    (Tr.test (Option.isSome (f52 (!eqF (↑(List.length x0'):Int) x1,((10:Int),()))))
      (let r0:=g53 (x0,());
      let r1:=g52 ((!eqF (↑(List.length x0'):Int) x1:Bool),((10:Int),()));
      Tr.test (Option.isSome (f72 (([r0.1,r1.1]:List Int),())))
        (let r2:=g72 (([r0.1,r1.1]:List Int),());
        Tr.test ((!eqF r2.1 0:Bool))
          (Tr.fin ((r2.1,())))
          (Tr.test (Option.isSome (f103 (x0',((0:Int),((1000000000:Int),())))))
            (let r3:=g103 (x0',((0:Int),((1000000000:Int),())));
            Tr.fin ((r3.1,())))
            (Tr.stop)))
        (Tr.stop))
      (Tr.stop))
    (Tr.stop)

def f67 (d:Tys.data as67):Option (Tys.data rs67):=(t67 d.1.1 d.1.2.1 d.2.1).val
def g67 (d:Tys.data as67):Tys.data rs67:=(f67 d).getD (Tys.dflt rs67)
def p67:PureC:=pcOf as67 rs67 f67 g67

theorem wk67 (x0:Int) (x0':(List (Int×(Int×Unit)))) (x1:Int):Walks (runPure (kf103 Go.Proofs.Try.prog).orc Go.Proofs.Try.prog 400 67 as67 rs67 ((x0,x0',()),x1,())) (t67 x0 x0' x1) [([true,true,true,true],[2,4,1,6,8]),([true,true,true,false,true],[2,4,6,1,8,10])] :=
  ⟨by kernel_rfl,by kernel_rfl,trivial⟩

theorem ok67_t (x0:Int) (x0':(List (Int×(Int×Unit)))) (x1:Int):TrOk (PureRuns Go.Proofs.Try.prog (kf103 Go.Proofs.Try.prog).orc 67 as67 rs67 ((x0,x0',()),x1,())) (t67 x0 x0' x1) :=
  Walks.ok (fun _ _ _=>PureRuns.of) (wk67 x0 x0' x1) (by kernel_rfl)

theorem ok67:PureOk Go.Proofs.Try.prog 67 p67:=pureOk_of kf103_ok.base (T:=fun (d:Tys.data as67)=>t67 d.1.1 d.1.2.1 d.2.1) (by kernel_rfl) (fun (d:Tys.data as67)=>ok67_t d.1.1 d.1.2.1 d.2.1)
def kf67 (P:Go.Program):Known:=(kf103 P).func 67 p67
theorem kf67_ok:KnownOk Go.Proofs.Try.prog (kf67 Go.Proofs.Try.prog):=kf103_ok.func ok67

/-! loop 0 of ductility/modal.agreed -/

abbrev sh74_0:Sh:={ n:=34,slots:=[4,6,10,11,12],pats:=[.ptr 0 2 0,.ptr 1 2 0,.ty (.slice (.pair (.int .i64) (.pair (.int .i64) .unit))),.ty (.int .i64),.ty (.int .i64)],boxes:=[.row [.ty (.int .i64),.ty (.int .i64)],.row [.ty (.int .i64),.ty (.int .i64)]] }
abbrev shb74_0:Sh:={ n:=34,slots:=[4,6],pats:=[.ptr 0 2 0,.ptr 1 2 0],boxes:=[.row [.ty (.int .i64),.ty (.int .i64)],.row [.ty (.int .i64),.ty (.int .i64)]] }
abbrev shr74_0:Sh:={ n:=34,slots:=[],pats:=[],boxes:=[.row [.ty (.int .i64),.ty (.int .i64)],.row [.ty (.int .i64),.ty (.int .i64)]] }

def t74_0 (x2:(List (Int×(Int×Unit)))) (x3:Int) (x4:Int) (b0_0:Int) (b0_1:Int) (b1_0:Int) (b1_1:Int):Tr (Out sh74_0.data shb74_0.data shr74_0.data) :=
  Tr.test ((!leF x3 x4:Bool))
    (Tr.test (decide ((0:Int) ≤ x4) && decide (x4 < (↑(List.length x2):Int)))
      (Tr.fin (.again ((x2,(x3,((wrap64 (x4 + (1:Int)):Int),()))),((b0_0,(b0_1,())),(((if b1_0 < (List.getD x2 (Int.toNat x4) ((0:Int),(0:Int),())).1 then (List.getD x2 (Int.toNat x4) ((0:Int),(0:Int),())).1 else b1_0:Int),((if (List.getD x2 (Int.toNat x4) ((0:Int),(0:Int),())).2.1 < b1_1 then (List.getD x2 (Int.toNat x4) ((0:Int),(0:Int),())).2.1 else b1_1:Int),())),())))))
      (Tr.stop))
    (Tr.fin (.brk ((),((b0_0,(b0_1,())),((b1_0,(b1_1,())),())))))

def s74_0 (d:sh74_0.data):Option (Out sh74_0.data shb74_0.data shr74_0.data):=(t74_0 d.1.1 d.1.2.1 d.1.2.2.1 d.2.1.1 d.2.1.2.1 d.2.2.1.1 d.2.2.1.2.1).val
def l74_0 (d:sh74_0.data):Option (shb74_0.data ⊕ shr74_0.data):=itr s74_0 rounds d
def b74_0 (d:sh74_0.data):shb74_0.data:=outB shb74_0.dflt (l74_0 d)
def lc74_0:LoopC:=lcB sh74_0 shb74_0 shr74_0 l74_0 b74_0

theorem wk74_0 (x2:(List (Int×(Int×Unit)))) (x3:Int) (x4:Int) (b0_0:Int) (b0_1:Int) (b1_0:Int) (b1_1:Int):Walks (runBody (kf67 Go.Proofs.Try.prog).orc Go.Proofs.Try.prog 400 74 0 sh74_0 shb74_0 shr74_0 ((x2,x3,x4,()),(b0_0,b0_1,()),(b1_0,b1_1,()),())) (t74_0 x2 x3 x4 b0_0 b0_1 b1_0 b1_1) [([true,true],[2,4]),([ff],[2])] :=
  ⟨by kernel_rfl,by kernel_rfl,trivial⟩

theorem ok74_0_t (x2:(List (Int×(Int×Unit)))) (x3:Int) (x4:Int) (b0_0:Int) (b0_1:Int) (b1_0:Int) (b1_1:Int):TrOk (BodyRuns Go.Proofs.Try.prog (kf67 Go.Proofs.Try.prog).orc 74 0 sh74_0 shb74_0 shr74_0 ((x2,x3,x4,()),(b0_0,b0_1,()),(b1_0,b1_1,()),())) (t74_0 x2 x3 x4 b0_0 b0_1 b1_0 b1_1) :=
  Walks.ok (fun _ _ _=>BodyRuns.of) (wk74_0 x2 x3 x4 b0_0 b0_1 b1_0 b1_1) (by kernel_rfl)

theorem ok74_0:LoopOk Go.Proofs.Try.prog 74 0 lc74_0:=loopOk_ofB (sh:=sh74_0) (shB:=shb74_0) (shR:=shr74_0) kf67_ok.base (T:=fun (d:sh74_0.data)=>t74_0 d.1.1 d.1.2.1 d.1.2.2.1 d.2.1.1 d.2.1.2.1 d.2.2.1.1 d.2.2.1.2.1) (by kernel_rfl) rfl (fun (d:sh74_0.data)=>ok74_0_t d.1.1 d.1.2.1 d.1.2.2.1 d.2.1.1 d.2.1.2.1 d.2.2.1.1 d.2.2.1.2.1) (fun _=>rfl)
def kl74_0 (P:Go.Program):Known:=(kf67 P).loop 74 0 lc74_0
theorem kl74_0_ok:KnownOk Go.Proofs.Try.prog (kl74_0 Go.Proofs.Try.prog):=kf67_ok.loop ok74_0

/-! ductility/modal.agreed -/

abbrev as74:List Ty:=[(.pair (.int .i64) (.pair (.int .i64) .unit)),(.slice (.pair (.int .i64) (.pair (.int .i64) .unit)))]
abbrev rs74:List Ty:=[(.pair (.int .i64) (.pair (.int .i64) .unit)),.bool]

def t74 (x0:Int) (x0':Int) (x1:(List (Int×(Int×Unit)))):Tr (Tys.data rs74) :=
  Tr.test (isBrk (l74_0 ((x1,((↑(List.length x1):Int),((0:Int),()))),(((0:Int),((0:Int),())),((x0,(x0',())),())))))
    (let r0:=b74_0 ((x1,((↑(List.length x1):Int),((0:Int),()))),(((0:Int),((0:Int),())),((x0,(x0',())),())));
    Tr.fin (((r0.2.2.1.1,(r0.2.2.1.2.1,())),((decide (r0.2.2.1.1 ≤ r0.2.2.1.2.1):Bool),()))))
    (Tr.stop)

def f74 (d:Tys.data as74):Option (Tys.data rs74):=(t74 d.1.1 d.1.2.1 d.2.1).val
def g74 (d:Tys.data as74):Tys.data rs74:=(f74 d).getD (Tys.dflt rs74)
def p74:PureC:=pcOf as74 rs74 f74 g74

theorem wk74 (x0:Int) (x0':Int) (x1:(List (Int×(Int×Unit)))):Walks (runPure (kl74_0 Go.Proofs.Try.prog).orc Go.Proofs.Try.prog 400 74 as74 rs74 ((x0,x0',()),x1,())) (t74 x0 x0' x1) [([tt],[1,2])] :=
  ⟨by kernel_rfl,trivial⟩

theorem ok74_t (x0:Int) (x0':Int) (x1:(List (Int×(Int×Unit)))):TrOk (PureRuns Go.Proofs.Try.prog (kl74_0 Go.Proofs.Try.prog).orc 74 as74 rs74 ((x0,x0',()),x1,())) (t74 x0 x0' x1) :=
  Walks.ok (fun _ _ _=>PureRuns.of) (wk74 x0 x0' x1) (by kernel_rfl)

theorem ok74:PureOk Go.Proofs.Try.prog 74 p74:=pureOk_of kl74_0_ok.base (T:=fun (d:Tys.data as74)=>t74 d.1.1 d.1.2.1 d.2.1) (by kernel_rfl) (fun (d:Tys.data as74)=>ok74_t d.1.1 d.1.2.1 d.2.1)
def kf74 (P:Go.Program):Known:=(kl74_0 P).func 74 p74
theorem kf74_ok:KnownOk Go.Proofs.Try.prog (kf74 Go.Proofs.Try.prog):=kl74_0_ok.func ok74

/-! loop 0 of ductility/modal.checkItems[ductility/api.Range] -/

abbrev sh104_0_1:Sh:={ n:=25,slots:=[1,9,10,11],pats:=[.fn 105 [(0,2),(1,2)],.ty (.slice (.pair (.int .i64) (.pair (.int .i64) .unit))),.ty (.int .i64),.ty (.int .i64)],boxes:=[.row [.ty (.slice (.int .i64)),.ty (.slice (.int .i64))],.row [.ty (.int .i64),.ty (.slice (.pair (.int .i64) (.pair (.int .i64) .unit)))]] }
abbrev shb104_0_1:Sh:={ n:=25,slots:=[],pats:=[],boxes:=[.row [.ty (.slice (.int .i64)),.ty (.slice (.int .i64))],.row [.ty (.int .i64),.ty (.slice (.pair (.int .i64) (.pair (.int .i64) .unit)))]] }
abbrev shr104_0_1:Sh:={ n:=25,slots:=[4,5],pats:=[.ty (.int .i64),.ty (.int .i64)],boxes:=[.row [.ty (.slice (.int .i64)),.ty (.slice (.int .i64))],.row [.ty (.int .i64),.ty (.slice (.pair (.int .i64) (.pair (.int .i64) .unit)))]] }

def t104_0_1 (x1:(List (Int×(Int×Unit)))) (x2:Int) (x3:Int) (b0_0:(List Int)) (b0_1:(List Int)) (b1_0:Int) (b1_1:(List (Int×(Int×Unit)))):Tr (Out sh104_0_1.data shb104_0_1.data shr104_0_1.data) :=
  Tr.test ((!leF x2 x3:Bool))
    (Tr.test (decide ((0:Int) ≤ x3) && decide (x3 < (↑(List.length x1):Int)))
      (Tr.test (Option.isSome (f54 (((b0_0,(b0_1,())),()),(x3,(b1_0,())))))
        (let r0:=g54 (((b0_0,(b0_1,())),()),(x3,(b1_0,())));
        Tr.test (Option.isSome (f74 ((r0.1.1,(r0.1.2.1,())),(([((List.getD x1 (Int.toNat x3) ((0:Int),(0:Int),())).1,(List.getD x1 (Int.toNat x3) ((0:Int),(0:Int),())).2.1,())]:List (Int×Int×PUnit)),()))))
          (let r1:=g74 ((r0.1.1,(r0.1.2.1,())),(([((List.getD x1 (Int.toNat x3) ((0:Int),(0:Int),())).1,(List.getD x1 (Int.toNat x3) ((0:Int),(0:Int),())).2.1,())]:List (Int×Int×PUnit)),()));
          Tr.test (Option.isSome (f52 ((!r1.2.1:Bool),((19:Int),()))))
            (let r2:=g52 ((!r1.2.1:Bool),((19:Int),()));
            Tr.test ((!eqF r2.1 0:Bool))
              (Tr.fin (.ret ((x3,(r2.1,())),((b0_0,(b0_1,())),((b1_0,(b1_1,())),())))))
              (Tr.fin (.again ((x1,(x2,((wrap64 (x3 + (1:Int)):Int),()))),((b0_0,(b0_1,())),((b1_0,(b1_1,())),()))))))
            (Tr.stop))
          (Tr.stop))
        (Tr.stop))
      (Tr.stop))
    (Tr.fin (.brk ((),((b0_0,(b0_1,())),((b1_0,(b1_1,())),())))))

def s104_0_1 (d:sh104_0_1.data):Option (Out sh104_0_1.data shb104_0_1.data shr104_0_1.data):=(t104_0_1 d.1.1 d.1.2.1 d.1.2.2.1 d.2.1.1 d.2.1.2.1 d.2.2.1.1 d.2.2.1.2.1).val
def l104_0_1 (d:sh104_0_1.data):Option (shb104_0_1.data ⊕ shr104_0_1.data):=itr s104_0_1 rounds d
def b104_0_1 (d:sh104_0_1.data):shb104_0_1.data:=outB shb104_0_1.dflt (l104_0_1 d)
def r104_0_1 (d:sh104_0_1.data):shr104_0_1.data:=outR shr104_0_1.dflt (l104_0_1 d)
def lc104_0_1:LoopC:=lcOf sh104_0_1 shb104_0_1 shr104_0_1 l104_0_1 b104_0_1 r104_0_1

theorem wk104_0_1 (x1:(List (Int×(Int×Unit)))) (x2:Int) (x3:Int) (b0_0:(List Int)) (b0_1:(List Int)) (b1_0:Int) (b1_1:(List (Int×(Int×Unit)))):Walks (runBody (kf74 Go.Proofs.Try.prog).orc Go.Proofs.Try.prog 400 104 0 sh104_0_1 shb104_0_1 shr104_0_1 ((x1,x2,x3,()),(b0_0,b0_1,()),(b1_0,b1_1,()),())) (t104_0_1 x1 x2 x3 b0_0 b0_1 b1_0 b1_1) [([true,true,true,true,true,true],[2,4,6,1,8,10,12]),([true,true,true,true,true,false],[2,4,6,1,8,10,12]),([ff],[2])] :=
  ⟨by kernel_rfl,by kernel_rfl,by kernel_rfl,trivial⟩

theorem ok104_0_1_t (x1:(List (Int×(Int×Unit)))) (x2:Int) (x3:Int) (b0_0:(List Int)) (b0_1:(List Int)) (b1_0:Int) (b1_1:(List (Int×(Int×Unit)))):TrOk (BodyRuns Go.Proofs.Try.prog (kf74 Go.Proofs.Try.prog).orc 104 0 sh104_0_1 shb104_0_1 shr104_0_1 ((x1,x2,x3,()),(b0_0,b0_1,()),(b1_0,b1_1,()),())) (t104_0_1 x1 x2 x3 b0_0 b0_1 b1_0 b1_1) :=
  Walks.ok (fun _ _ _=>BodyRuns.of) (wk104_0_1 x1 x2 x3 b0_0 b0_1 b1_0 b1_1) (by kernel_rfl)

theorem ok104_0_1:LoopOk Go.Proofs.Try.prog 104 0 lc104_0_1:=loopOk_of (sh:=sh104_0_1) (shB:=shb104_0_1) (shR:=shr104_0_1) kf74_ok.base (T:=fun (d:sh104_0_1.data)=>t104_0_1 d.1.1 d.1.2.1 d.1.2.2.1 d.2.1.1 d.2.1.2.1 d.2.2.1.1 d.2.2.1.2.1) (by kernel_rfl) rfl (fun (d:sh104_0_1.data)=>ok104_0_1_t d.1.1 d.1.2.1 d.1.2.2.1 d.2.1.1 d.2.1.2.1 d.2.2.1.1 d.2.2.1.2.1) (fun _=>rfl)
def kl104_0_1 (P:Go.Program):Known:=(kf74 P).loop 104 0 lc104_0_1
theorem kl104_0_1_ok:KnownOk Go.Proofs.Try.prog (kl104_0_1 Go.Proofs.Try.prog):=kf74_ok.loop ok104_0_1

/-! (ductility/modal.frame).proofError -/

abbrev as70:List Ty:=[(.pair (.pair (.slice (.int .i64)) (.pair (.slice (.int .i64)) .unit)) .unit),(.pair (.int .i64) (.pair (.slice (.pair (.int .i64) (.pair (.int .i64) .unit))) .unit))]
abbrev rs70:List Ty:=[(.int .i64),(.int .i64)]

def t70 (x0_:(List Int)) (x0_':(List Int)) (x1:Int) (x1':(List (Int×(Int×Unit)))):Tr (Tys.data rs70) :=
  Tr.test (Option.isSome (l104_0_1 ((x1',((↑(List.length x1'):Int),((0:Int),()))),((x0_,(x0_',())),((x1,(x1',())),())))))
    (Tr.test (isRet (l104_0_1 ((x1',((↑(List.length x1'):Int),((0:Int),()))),((x0_,(x0_',())),((x1,(x1',())),())))))
      (let r0:=r104_0_1 ((x1',((↑(List.length x1'):Int),((0:Int),()))),((x0_,(x0_',())),((x1,(x1',())),())));
      Tr.fin ((r0.1.1,(r0.1.2.1,()))))
      (Tr.fin (((0:Int),((0:Int),())))))
    (Tr.stop)

def f70 (d:Tys.data as70):Option (Tys.data rs70):=(t70 d.1.1.1 d.1.1.2.1 d.2.1.1 d.2.1.2.1).val
def g70 (d:Tys.data as70):Tys.data rs70:=(f70 d).getD (Tys.dflt rs70)
def p70:PureC:=pcOf as70 rs70 f70 g70

theorem wk70 (x0_:(List Int)) (x0_':(List Int)) (x1:Int) (x1':(List (Int×(Int×Unit)))):Walks (runPure (kl104_0_1 Go.Proofs.Try.prog).orc Go.Proofs.Try.prog 400 70 as70 rs70 (((x0_,x0_',()),()),(x1,x1',()),())) (t70 x0_ x0_' x1 x1') [([true,true],[2,4]),([true,false],[2,4])] :=
  ⟨by kernel_rfl,by kernel_rfl,trivial⟩

theorem ok70_t (x0_:(List Int)) (x0_':(List Int)) (x1:Int) (x1':(List (Int×(Int×Unit)))):TrOk (PureRuns Go.Proofs.Try.prog (kl104_0_1 Go.Proofs.Try.prog).orc 70 as70 rs70 (((x0_,x0_',()),()),(x1,x1',()),())) (t70 x0_ x0_' x1 x1') :=
  Walks.ok (fun _ _ _=>PureRuns.of) (wk70 x0_ x0_' x1 x1') (by kernel_rfl)

theorem ok70:PureOk Go.Proofs.Try.prog 70 p70:=pureOk_of kl104_0_1_ok.base (T:=fun (d:Tys.data as70)=>t70 d.1.1.1 d.1.1.2.1 d.2.1.1 d.2.1.2.1) (by kernel_rfl) (fun (d:Tys.data as70)=>ok70_t d.1.1.1 d.1.1.2.1 d.2.1.1 d.2.1.2.1)
def kf70 (P:Go.Program):Known:=(kl104_0_1 P).func 70 p70
theorem kf70_ok:KnownOk Go.Proofs.Try.prog (kf70 Go.Proofs.Try.prog):=kl104_0_1_ok.func ok70

/-! loop 0 of (ductility/modal.frame).leftAt -/

abbrev sh68_0:Sh:={ n:=33,slots:=[1,3,5,7],pats:=[.ty (.int .i64),.ptr 0 2 0,.ptr 1 2 0,.ty (.int .i64)],boxes:=[.row [.ty (.slice (.int .i64)),.ty (.slice (.int .i64))],.row [.ty (.int .i64),.ty (.slice (.pair (.int .i64) (.pair (.int .i64) .unit)))]] }
abbrev shb68_0:Sh:={ n:=33,slots:=[7],pats:=[.ty (.int .i64)],boxes:=[.row [.ty (.slice (.int .i64)),.ty (.slice (.int .i64))],.row [.ty (.int .i64),.ty (.slice (.pair (.int .i64) (.pair (.int .i64) .unit)))]] }
abbrev shr68_0:Sh:={ n:=33,slots:=[],pats:=[],boxes:=[.row [.ty (.slice (.int .i64)),.ty (.slice (.int .i64))],.row [.ty (.int .i64),.ty (.slice (.pair (.int .i64) (.pair (.int .i64) .unit)))]] }

def t68_0 (x0:Int) (x3:Int) (b0_0:(List Int)) (b0_1:(List Int)) (b1_0:Int) (b1_1:(List (Int×(Int×Unit)))):Tr (Out sh68_0.data shb68_0.data shr68_0.data) :=
  Tr.test ((!leF x3 0:Bool))
    (Tr.test (Nat.beq (List.length b0_1) (0:Nat))
      (Tr.stop)
      (Tr.test ((Nat.ble ((0:Nat) + List.length b0_1) (0:Nat):Bool))
        (Tr.stop)
        (Tr.test ((Nat.ble (((2:Nat) * ((0:Nat) + List.length b0_1) + (192:Nat)) * (8:Nat)) (281474976710656:Nat) && Nat.ble ((0:Nat) + List.length b0_1) (281474976710656:Nat):Bool))
          (Tr.test ((decide ((0:Int) ≤ x0) && decide (x0 < (↑((0:Nat) + List.length b0_1):Int)):Bool))
            (Tr.test ((Nat.ble ((0:Nat) + Int.toNat x0 + (1:Nat)) (List.length ([]++b0_1)):Bool))
              (Tr.test ((Nat.beq ((0:Nat) + List.length b0_1) (List.length (List.set ([]++b0_1) ((0:Nat) + Int.toNat x0) x3)):Bool))
                (Tr.test (Option.isSome (f70 (((b0_0,((List.set ([]++b0_1) ((0:Nat) + Int.toNat x0) x3:List Int),())),()),((b1_0,(b1_1,())),()))))
                  (let r0:=g70 (((b0_0,((List.set ([]++b0_1) ((0:Nat) + Int.toNat x0) x3:List Int),())),()),((b1_0,(b1_1,())),()));
                  Tr.test ((eqF r0.2.1 0:Bool))
                    (Tr.fin (.brk ((x3,()),((b0_0,(b0_1,())),((b1_0,(b1_1,())),())))))
                    (Tr.fin (.again ((x0,((wrap64 (x3 - (1:Int)):Int),())),((b0_0,(b0_1,())),((b1_0,(b1_1,())),()))))))
                  (Tr.stop))
                (Tr.stop))
              (Tr.stop))
            (Tr.stop))
          (Tr.stop))))
    (Tr.fin (.brk ((x3,()),((b0_0,(b0_1,())),((b1_0,(b1_1,())),())))))

def s68_0 (d:sh68_0.data):Option (Out sh68_0.data shb68_0.data shr68_0.data):=(t68_0 d.1.1 d.1.2.1 d.2.1.1 d.2.1.2.1 d.2.2.1.1 d.2.2.1.2.1).val
def l68_0 (d:sh68_0.data):Option (shb68_0.data ⊕ shr68_0.data):=itr s68_0 rounds d
def b68_0 (d:sh68_0.data):shb68_0.data:=outB shb68_0.dflt (l68_0 d)
def lc68_0:LoopC:=lcB sh68_0 shb68_0 shr68_0 l68_0 b68_0

theorem wk68_0 (x0:Int) (x3:Int) (b0_0:(List Int)) (b0_1:(List Int)) (b1_0:Int) (b1_1:(List (Int×(Int×Unit)))):Walks (runBody (kf70 Go.Proofs.Try.prog).orc Go.Proofs.Try.prog 400 68 0 sh68_0 shb68_0 shr68_0 ((x0,x3,()),(b0_0,b0_1,()),(b1_0,b1_1,()),())) (t68_0 x0 x3 b0_0 b0_1 b1_0 b1_1) [([true,false,false,true,true,true,true,true,true],[2,4,6,8,10,12,14,16,0,16,18]),([true,false,false,true,true,true,true,true,false],[2,4,6,8,10,12,14,16,0,16,18]),([ff],[2])] :=
  ⟨by kernel_rfl,by kernel_rfl,by kernel_rfl,trivial⟩

theorem ok68_0_t (x0:Int) (x3:Int) (b0_0:(List Int)) (b0_1:(List Int)) (b1_0:Int) (b1_1:(List (Int×(Int×Unit)))):TrOk (BodyRuns Go.Proofs.Try.prog (kf70 Go.Proofs.Try.prog).orc 68 0 sh68_0 shb68_0 shr68_0 ((x0,x3,()),(b0_0,b0_1,()),(b1_0,b1_1,()),())) (t68_0 x0 x3 b0_0 b0_1 b1_0 b1_1) :=
  Walks.ok (fun _ _ _=>BodyRuns.of) (wk68_0 x0 x3 b0_0 b0_1 b1_0 b1_1) (by kernel_rfl)

theorem ok68_0:LoopOk Go.Proofs.Try.prog 68 0 lc68_0:=loopOk_ofB (sh:=sh68_0) (shB:=shb68_0) (shR:=shr68_0) kf70_ok.base (T:=fun (d:sh68_0.data)=>t68_0 d.1.1 d.1.2.1 d.2.1.1 d.2.1.2.1 d.2.2.1.1 d.2.2.1.2.1) (by kernel_rfl) rfl (fun (d:sh68_0.data)=>ok68_0_t d.1.1 d.1.2.1 d.2.1.1 d.2.1.2.1 d.2.2.1.1 d.2.2.1.2.1) (fun _=>rfl)
def kl68_0 (P:Go.Program):Known:=(kf70 P).loop 68 0 lc68_0
theorem kl68_0_ok:KnownOk Go.Proofs.Try.prog (kl68_0 Go.Proofs.Try.prog):=kf70_ok.loop ok68_0

/-! (ductility/modal.frame).leftAt -/

abbrev as68:List Ty:=[(.pair (.pair (.slice (.int .i64)) (.pair (.slice (.int .i64)) .unit)) .unit),(.int .i64),(.pair (.int .i64) (.pair (.slice (.pair (.int .i64) (.pair (.int .i64) .unit))) .unit))]
abbrev rs68:List Ty:=[(.int .i64)]

def t68 (x0_:(List Int)) (x0_':(List Int)) (x1:Int) (x2:Int) (x2':(List (Int×(Int×Unit)))):Tr (Tys.data rs68) :=
  Tr.test ((decide ((0:Int) ≤ x1) && decide (x1 < (↑(List.length x0_'):Int)):Bool))
    (Tr.test (isBrk (l68_0 ((x1,((List.getD x0_' (Int.toNat x1) (0:Int):Int),())),((x0_,(x0_',())),((x2,(x2',())),())))))
      (let r0:=b68_0 ((x1,((List.getD x0_' (Int.toNat x1) (0:Int):Int),())),((x0_,(x0_',())),((x2,(x2',())),())));
      Tr.fin ((r0.1.1,())))
      (Tr.stop))
    (Tr.stop)

def f68 (d:Tys.data as68):Option (Tys.data rs68):=(t68 d.1.1.1 d.1.1.2.1 d.2.1 d.2.2.1.1 d.2.2.1.2.1).val
def g68 (d:Tys.data as68):Tys.data rs68:=(f68 d).getD (Tys.dflt rs68)
def p68:PureC:=pcOf as68 rs68 f68 g68

theorem wk68 (x0_:(List Int)) (x0_':(List Int)) (x1:Int) (x2:Int) (x2':(List (Int×(Int×Unit)))):Walks (runPure (kl68_0 Go.Proofs.Try.prog).orc Go.Proofs.Try.prog 400 68 as68 rs68 (((x0_,x0_',()),()),x1,(x2,x2',()),())) (t68 x0_ x0_' x1 x2 x2') [([true,true],[1,2,4])] :=
  ⟨by kernel_rfl,trivial⟩

theorem ok68_t (x0_:(List Int)) (x0_':(List Int)) (x1:Int) (x2:Int) (x2':(List (Int×(Int×Unit)))):TrOk (PureRuns Go.Proofs.Try.prog (kl68_0 Go.Proofs.Try.prog).orc 68 as68 rs68 (((x0_,x0_',()),()),x1,(x2,x2',()),())) (t68 x0_ x0_' x1 x2 x2') :=
  Walks.ok (fun _ _ _=>PureRuns.of) (wk68 x0_ x0_' x1 x2 x2') (by kernel_rfl)

theorem ok68:PureOk Go.Proofs.Try.prog 68 p68:=pureOk_of kl68_0_ok.base (T:=fun (d:Tys.data as68)=>t68 d.1.1.1 d.1.1.2.1 d.2.1 d.2.2.1.1 d.2.2.1.2.1) (by kernel_rfl) (fun (d:Tys.data as68)=>ok68_t d.1.1.1 d.1.1.2.1 d.2.1 d.2.2.1.1 d.2.2.1.2.1)
def kf68 (P:Go.Program):Known:=(kl68_0 P).func 68 p68
theorem kf68_ok:KnownOk Go.Proofs.Try.prog (kf68 Go.Proofs.Try.prog):=kl68_0_ok.func ok68

/-! loop 0 of ductility/modal.ExplainedBy -/

abbrev sh32_0:Sh:={ n:=61,slots:=[2,3,4,6,8,28,29,30],pats:=[.ptr 0 2 0,.ptr 1 2 0,.ptr 2 2 0,.ptr 3 2 0,.ptr 4 2 0,.ty (.slice (.int .i64)),.ty (.int .i64),.ty (.int .i64)],boxes:=[.row [.ty (.slice (.int .i64)),.ty (.slice (.int .i64))],.row [.ty (.int .i64),.ty (.slice (.pair (.int .i64) (.pair (.int .i64) .unit)))],.row [.ty (.int .i64),.ty (.int .i64)],.row [.ty (.slice (.int .i64)),.ty (.slice (.int .i64))],.row [.ty (.int .i64),.ty (.int .i64)]] }
abbrev shb32_0:Sh:={ n:=61,slots:=[4,8],pats:=[.ptr 2 2 0,.ptr 4 2 0],boxes:=[.row [.ty (.slice (.int .i64)),.ty (.slice (.int .i64))],.row [.ty (.int .i64),.ty (.slice (.pair (.int .i64) (.pair (.int .i64) .unit)))],.row [.ty (.int .i64),.ty (.int .i64)],.row [.ty (.slice (.int .i64)),.ty (.slice (.int .i64))],.row [.ty (.int .i64),.ty (.int .i64)]] }
abbrev shr32_0:Sh:={ n:=61,slots:=[],pats:=[],boxes:=[.row [.ty (.slice (.int .i64)),.ty (.slice (.int .i64))],.row [.ty (.int .i64),.ty (.slice (.pair (.int .i64) (.pair (.int .i64) .unit)))],.row [.ty (.int .i64),.ty (.int .i64)],.row [.ty (.slice (.int .i64)),.ty (.slice (.int .i64))],.row [.ty (.int .i64),.ty (.int .i64)]] }

def t32_0 (x5:(List Int)) (x6:Int) (x7:Int) (b0_0:(List Int)) (b0_1:(List Int)) (b1_0:Int) (b1_1:(List (Int×(Int×Unit)))) (b2_0:Int) (b2_1:Int) (b3_0:(List Int)) (b3_1:(List Int)) (b4_0:Int) (b4_1:Int):Tr (Out sh32_0.data shb32_0.data shr32_0.data) :=
  Tr.test ((!leF x6 x7:Bool))
    (Tr.test (decide ((0:Int) ≤ x7) && decide (x7 < (↑(List.length x5):Int)))
      (Tr.test (Option.isSome (f68 (((b3_0,(b3_1,())),()),(x7,((b1_0,(b1_1,())),())))))
        (Tr.test ((decide ((0:Int) ≤ b4_0) && decide (b4_0 < (↑(List.length b0_1):Int)):Bool))
          (let r0:=g68 (((b3_0,(b3_1,())),()),(x7,((b1_0,(b1_1,())),())));
          Tr.test ((!leF (wrap64 (r0.1 * List.getD b0_1 (Int.toNat b4_0) (0:Int))) (wrap64 (b4_1 * List.getD x5 (Int.toNat x7) (0:Int))):Bool))
            (Tr.fin (.again ((x5,(x6,((wrap64 (x7 + (1:Int)):Int),()))),((b0_0,(b0_1,())),((b1_0,(b1_1,())),((b2_0,(b2_1,())),((b3_0,(b3_1,())),((x7,(r0.1,())),()))))))))
            (Tr.fin (.again ((x5,(x6,((wrap64 (x7 + (1:Int)):Int),()))),((b0_0,(b0_1,())),((b1_0,(b1_1,())),((b2_0,(b2_1,())),((b3_0,(b3_1,())),((b4_0,(b4_1,())),())))))))))
          (Tr.stop))
        (Tr.stop))
      (Tr.stop))
    (Tr.fin (.brk ((),((b0_0,(b0_1,())),((b1_0,(b1_1,())),((b2_0,(b2_1,())),((b3_0,(b3_1,())),((b4_0,(b4_1,())),()))))))))

def s32_0 (d:sh32_0.data):Option (Out sh32_0.data shb32_0.data shr32_0.data):=(t32_0 d.1.1 d.1.2.1 d.1.2.2.1 d.2.1.1 d.2.1.2.1 d.2.2.1.1 d.2.2.1.2.1 d.2.2.2.1.1 d.2.2.2.1.2.1 d.2.2.2.2.1.1 d.2.2.2.2.1.2.1 d.2.2.2.2.2.1.1 d.2.2.2.2.2.1.2.1).val
def l32_0 (d:sh32_0.data):Option (shb32_0.data ⊕ shr32_0.data):=itr s32_0 rounds d
def b32_0 (d:sh32_0.data):shb32_0.data:=outB shb32_0.dflt (l32_0 d)
def lc32_0:LoopC:=lcB sh32_0 shb32_0 shr32_0 l32_0 b32_0

theorem wk32_0 (x5:(List Int)) (x6:Int) (x7:Int) (b0_0:(List Int)) (b0_1:(List Int)) (b1_0:Int) (b1_1:(List (Int×(Int×Unit)))) (b2_0:Int) (b2_1:Int) (b3_0:(List Int)) (b3_1:(List Int)) (b4_0:Int) (b4_1:Int):Walks (runBody (kf68 Go.Proofs.Try.prog).orc Go.Proofs.Try.prog 400 32 0 sh32_0 shb32_0 shr32_0 ((x5,x6,x7,()),(b0_0,b0_1,()),(b1_0,b1_1,()),(b2_0,b2_1,()),(b3_0,b3_1,()),(b4_0,b4_1,()),())) (t32_0 x5 x6 x7 b0_0 b0_1 b1_0 b1_1 b2_0 b2_1 b3_0 b3_1 b4_0 b4_1) [([true,true,true,true,true],[2,4,6,8,10]),([true,true,true,true,false],[2,4,6,8,10]),([ff],[2])] :=
  ⟨by kernel_rfl,by kernel_rfl,by kernel_rfl,trivial⟩

theorem ok32_0_t (x5:(List Int)) (x6:Int) (x7:Int) (b0_0:(List Int)) (b0_1:(List Int)) (b1_0:Int) (b1_1:(List (Int×(Int×Unit)))) (b2_0:Int) (b2_1:Int) (b3_0:(List Int)) (b3_1:(List Int)) (b4_0:Int) (b4_1:Int):TrOk (BodyRuns Go.Proofs.Try.prog (kf68 Go.Proofs.Try.prog).orc 32 0 sh32_0 shb32_0 shr32_0 ((x5,x6,x7,()),(b0_0,b0_1,()),(b1_0,b1_1,()),(b2_0,b2_1,()),(b3_0,b3_1,()),(b4_0,b4_1,()),())) (t32_0 x5 x6 x7 b0_0 b0_1 b1_0 b1_1 b2_0 b2_1 b3_0 b3_1 b4_0 b4_1) :=
  Walks.ok (fun _ _ _=>BodyRuns.of) (wk32_0 x5 x6 x7 b0_0 b0_1 b1_0 b1_1 b2_0 b2_1 b3_0 b3_1 b4_0 b4_1) (by kernel_rfl)

theorem ok32_0:LoopOk Go.Proofs.Try.prog 32 0 lc32_0:=loopOk_ofB (sh:=sh32_0) (shB:=shb32_0) (shR:=shr32_0) kf68_ok.base (T:=fun (d:sh32_0.data)=>t32_0 d.1.1 d.1.2.1 d.1.2.2.1 d.2.1.1 d.2.1.2.1 d.2.2.1.1 d.2.2.1.2.1 d.2.2.2.1.1 d.2.2.2.1.2.1 d.2.2.2.2.1.1 d.2.2.2.2.1.2.1 d.2.2.2.2.2.1.1 d.2.2.2.2.2.1.2.1) (by kernel_rfl) rfl (fun (d:sh32_0.data)=>ok32_0_t d.1.1 d.1.2.1 d.1.2.2.1 d.2.1.1 d.2.1.2.1 d.2.2.1.1 d.2.2.1.2.1 d.2.2.2.1.1 d.2.2.2.1.2.1 d.2.2.2.2.1.1 d.2.2.2.2.1.2.1 d.2.2.2.2.2.1.1 d.2.2.2.2.2.1.2.1) (fun _=>rfl)
def kl32_0 (P:Go.Program):Known:=(kf68 P).loop 32 0 lc32_0
theorem kl32_0_ok:KnownOk Go.Proofs.Try.prog (kl32_0 Go.Proofs.Try.prog):=kf68_ok.loop ok32_0

/-! ductility/modal.ExplainedBy -/

abbrev as32:List Ty:=[(.pair (.slice (.int .i64)) (.pair (.slice (.int .i64)) .unit)),(.pair (.int .i64) (.pair (.slice (.pair (.int .i64) (.pair (.int .i64) .unit))) .unit))]
abbrev rs32:List Ty:=[(.pair (.int .i64) (.pair (.int .i64) .unit)),(.int .i64)]

def t32 (x0:(List Int)) (x0':(List Int)) (x1:Int) (x1':(List (Int×(Int×Unit)))):Tr (Tys.data rs32) :=
  Tr.test (Option.isSome (f67 ((x1,(x1',())),((↑(List.length x0):Int),()))))
    (Tr.test (Option.isSome (f78 ((x0,(x0',())),())))
      (let r0:=g67 ((x1,(x1',())),((↑(List.length x0):Int),()));
      Tr.test (Option.isSome (f72 (([r0.1]:List Int),())))
        (let r1:=g78 ((x0,(x0',())),());
        let r2:=g72 (([r0.1]:List Int),());
        Tr.test (Option.isSome (f72 (([r1.2.1,r2.1]:List Int),())))
          (let r3:=g72 (([r1.2.1,r2.1]:List Int),());
          Tr.test ((!eqF r3.1 0:Bool))
            (Tr.fin ((((0:Int),((0:Int),())),(r3.1,()))))
            (Tr.test (isBrk (l32_0 ((x0',((↑(List.length x0'):Int),((0:Int),()))),((x0,(x0',())),((x1,(x1',())),(((0:Int),((0:Int),())),((x0,(x0',())),(((0:Int),((0:Int),())),()))))))))
              (let r4:=b32_0 ((x0',((↑(List.length x0'):Int),((0:Int),()))),((x0,(x0',())),((x1,(x1',())),(((0:Int),((0:Int),())),((x0,(x0',())),(((0:Int),((0:Int),())),()))))));
              Tr.test (Option.isSome (f52 ((eqF r4.2.2.2.2.2.1.2.1 0:Bool),((12:Int),()))))
                (let r5:=g52 ((eqF r4.2.2.2.2.2.1.2.1 0:Bool),((12:Int),()));
                Tr.fin (((r4.2.2.2.2.2.1.1,(r4.2.2.2.2.2.1.2.1,())),(r5.1,()))))
                (Tr.stop))
              (Tr.stop)))
          (Tr.stop))
        (Tr.stop))
      (Tr.stop))
    (Tr.stop)

def f32 (d:Tys.data as32):Option (Tys.data rs32):=(t32 d.1.1 d.1.2.1 d.2.1.1 d.2.1.2.1).val
def g32 (d:Tys.data as32):Tys.data rs32:=(f32 d).getD (Tys.dflt rs32)
def p32:PureC:=pcOf as32 rs32 f32 g32

theorem wk32 (x0:(List Int)) (x0':(List Int)) (x1:Int) (x1':(List (Int×(Int×Unit)))):Walks (runPure (kl32_0 Go.Proofs.Try.prog).orc Go.Proofs.Try.prog 400 32 as32 rs32 ((x0,x0',()),(x1,x1',()),())) (t32 x0 x0' x1 x1') [([true,true,true,true,true],[2,2,4,1,6,1,8,10]),([true,true,true,true,false,true,true],[2,1,4,0,6,8,1,10,1,12,14])] :=
  ⟨by kernel_rfl,by kernel_rfl,trivial⟩

theorem ok32_t (x0:(List Int)) (x0':(List Int)) (x1:Int) (x1':(List (Int×(Int×Unit)))):TrOk (PureRuns Go.Proofs.Try.prog (kl32_0 Go.Proofs.Try.prog).orc 32 as32 rs32 ((x0,x0',()),(x1,x1',()),())) (t32 x0 x0' x1 x1') :=
  Walks.ok (fun _ _ _=>PureRuns.of) (wk32 x0 x0' x1 x1') (by kernel_rfl)

theorem ok32:PureOk Go.Proofs.Try.prog 32 p32:=pureOk_of kl32_0_ok.base (T:=fun (d:Tys.data as32)=>t32 d.1.1 d.1.2.1 d.2.1.1 d.2.1.2.1) (by kernel_rfl) (fun (d:Tys.data as32)=>ok32_t d.1.1 d.1.2.1 d.2.1.1 d.2.1.2.1)
def kf32 (P:Go.Program):Known:=(kl32_0 P).func 32 p32
theorem kf32_ok:KnownOk Go.Proofs.Try.prog (kf32 Go.Proofs.Try.prog):=kl32_0_ok.func ok32

/-! loop 0 of ductility/ductilitybase.Ints -/

abbrev sh45_0:Sh:={ n:=26,slots:=[0,1,5],pats:=[.ty (.slice (.int .i64)),.ty (.slice (.int .i64)),.ty (.int .i64)],boxes:=[] }
abbrev shb45_0:Sh:={ n:=26,slots:=[],pats:=[],boxes:=[] }
abbrev shr45_0:Sh:={ n:=26,slots:=[4],pats:=[.ty .bool],boxes:=[] }

def t45_0 (x0:(List Int)) (x1:(List Int)) (x2:Int):Tr (Out sh45_0.data shb45_0.data shr45_0.data) :=
  Tr.test ((!leF (↑(List.length x0):Int) x2:Bool))
    (Tr.test (decide ((0:Int) ≤ x2) && decide (x2 < (↑(List.length x0):Int)))
      (Tr.test ((decide ((0:Int) ≤ x2) && decide (x2 < (↑(List.length x1):Int)):Bool))
        (Tr.test ((!eqF (List.getD x0 (Int.toNat x2) (0:Int)) (List.getD x1 (Int.toNat x2) (0:Int)):Bool))
          (Tr.fin (.ret (((false:Bool),()),())))
          (Tr.fin (.again ((x0,(x1,((wrap64 (x2 + (1:Int)):Int),()))),()))))
        (Tr.stop))
      (Tr.stop))
    (Tr.fin (.brk ((),())))

def s45_0 (d:sh45_0.data):Option (Out sh45_0.data shb45_0.data shr45_0.data):=(t45_0 d.1.1 d.1.2.1 d.1.2.2.1).val
def l45_0 (d:sh45_0.data):Option (shb45_0.data ⊕ shr45_0.data):=itr s45_0 rounds d
def b45_0 (d:sh45_0.data):shb45_0.data:=outB shb45_0.dflt (l45_0 d)
def r45_0 (d:sh45_0.data):shr45_0.data:=outR shr45_0.dflt (l45_0 d)
def lc45_0:LoopC:=lcOf sh45_0 shb45_0 shr45_0 l45_0 b45_0 r45_0

theorem wk45_0 (x0:(List Int)) (x1:(List Int)) (x2:Int):Walks (runBody (kf32 Go.Proofs.Try.prog).orc Go.Proofs.Try.prog 400 45 0 sh45_0 shb45_0 shr45_0 ((x0,x1,x2,()),())) (t45_0 x0 x1 x2) [([true,true,true,true],[2,4,6,8]),([true,true,true,false],[2,4,6,8]),([ff],[2])] :=
  ⟨by kernel_rfl,by kernel_rfl,by kernel_rfl,trivial⟩

theorem ok45_0_t (x0:(List Int)) (x1:(List Int)) (x2:Int):TrOk (BodyRuns Go.Proofs.Try.prog (kf32 Go.Proofs.Try.prog).orc 45 0 sh45_0 shb45_0 shr45_0 ((x0,x1,x2,()),())) (t45_0 x0 x1 x2) :=
  Walks.ok (fun _ _ _=>BodyRuns.of) (wk45_0 x0 x1 x2) (by kernel_rfl)

theorem ok45_0:LoopOk Go.Proofs.Try.prog 45 0 lc45_0:=loopOk_of (sh:=sh45_0) (shB:=shb45_0) (shR:=shr45_0) kf32_ok.base (T:=fun (d:sh45_0.data)=>t45_0 d.1.1 d.1.2.1 d.1.2.2.1) (by kernel_rfl) rfl (fun (d:sh45_0.data)=>ok45_0_t d.1.1 d.1.2.1 d.1.2.2.1) (fun _=>rfl)
def kl45_0 (P:Go.Program):Known:=(kf32 P).loop 45 0 lc45_0
theorem kl45_0_ok:KnownOk Go.Proofs.Try.prog (kl45_0 Go.Proofs.Try.prog):=kf32_ok.loop ok45_0

/-! ductility/ductilitybase.Ints -/

abbrev as45:List Ty:=[(.slice (.int .i64)),(.slice (.int .i64))]
abbrev rs45:List Ty:=[.bool]

def t45 (x0:(List Int)) (x1:(List Int)):Tr (Tys.data rs45) :=
  Tr.test ((!eqF (↑(List.length x0):Int) (↑(List.length x1):Int):Bool))
    (Tr.fin ((false,())))
    (Tr.test (Option.isSome (l45_0 ((x0,(x1,((0:Int),()))),())))
      (Tr.test (isRet (l45_0 ((x0,(x1,((0:Int),()))),())))
        (let r0:=r45_0 ((x0,(x1,((0:Int),()))),());
        Tr.fin ((r0.1.1,())))
        (Tr.fin (((true:Bool),()))))
      (Tr.stop))

def f45 (d:Tys.data as45):Option (Tys.data rs45):=(t45 d.1 d.2.1).val
def g45 (d:Tys.data as45):Tys.data rs45:=(f45 d).getD (Tys.dflt rs45)
def p45:PureC:=pcOf as45 rs45 f45 g45

theorem wk45 (x0:(List Int)) (x1:(List Int)):Walks (runPure (kl45_0 Go.Proofs.Try.prog).orc Go.Proofs.Try.prog 400 45 as45 rs45 (x0,x1,())) (t45 x0 x1) [([tt],[2]),([false,true,true],[2,4,6]),([false,true,false],[2,4,6])] :=
  ⟨by kernel_rfl,by kernel_rfl,by kernel_rfl,trivial⟩

theorem ok45_t (x0:(List Int)) (x1:(List Int)):TrOk (PureRuns Go.Proofs.Try.prog (kl45_0 Go.Proofs.Try.prog).orc 45 as45 rs45 (x0,x1,())) (t45 x0 x1) :=
  Walks.ok (fun _ _ _=>PureRuns.of) (wk45 x0 x1) (by kernel_rfl)

theorem ok45:PureOk Go.Proofs.Try.prog 45 p45:=pureOk_of kl45_0_ok.base (T:=fun (d:Tys.data as45)=>t45 d.1 d.2.1) (by kernel_rfl) (fun (d:Tys.data as45)=>ok45_t d.1 d.2.1)
def kf45 (P:Go.Program):Known:=(kl45_0 P).func 45 p45
theorem kf45_ok:KnownOk Go.Proofs.Try.prog (kf45 Go.Proofs.Try.prog):=kl45_0_ok.func ok45

/-! ductility/ductilitylaw06.awake -/

abbrev as8:List Ty:=[]
abbrev rs8:List Ty:=[.bool]
def f8 (_:Tys.data as8):Option (Tys.data rs8):=some (true,())
def g8 (_:Tys.data as8):Tys.data rs8:=(true,())
def p8:PureC:=pcOf as8 rs8 f8 g8

theorem e8:runAsk (kf45 Go.Proofs.Try.prog).orc Go.Proofs.Try.prog 400 8 as8 rs8 () none = some ((true,()),[]):=by kernel_rfl
theorem ok8:PureOk Go.Proofs.Try.prog 8 p8:=pureOk_closed kf45_ok.base (by kernel_rfl) e8 All.nil
def kf8 (P:Go.Program):Known:=(kf45 P).func 8 p8
theorem kf8_ok:KnownOk Go.Proofs.Try.prog (kf8 Go.Proofs.Try.prog):=kf45_ok.func ok8

/-! ductility/ductilityref06.With -/

abbrev as39:List Ty:=[(.pair (.slice (.int .i64)) (.pair (.slice (.int .i64)) .unit)),(.pair (.int .i64) (.pair (.int .i64) .unit))]
abbrev rs39:List Ty:=[(.pair (.slice (.int .i64)) (.pair (.slice (.int .i64)) .unit))]

def t39 (x0:(List Int)) (x0':(List Int)) (x1:Int) (x1':Int):Tr (Tys.data rs39) :=
  Tr.test ((Nat.beq (List.length x0) (0:Nat):Bool))
    (Tr.test (Nat.beq (List.length x0') (0:Nat))
      (Tr.test ((decide ((0:Int) ≤ x1) && decide (x1 < (0:Int)):Bool))
        (Tr.stop)
        (Tr.stop))
      (Tr.test ((Nat.ble ((0:Nat) + List.length x0') (0:Nat):Bool))
        (Tr.stop)
        (Tr.test ((Nat.ble (((2:Nat) * ((0:Nat) + List.length x0') + (192:Nat)) * (8:Nat)) (281474976710656:Nat) && Nat.ble ((0:Nat) + List.length x0') (281474976710656:Nat):Bool))
          (Tr.test ((decide ((0:Int) ≤ x1) && decide (x1 < (↑((0:Nat) + List.length x0'):Int)):Bool))
            (Tr.test ((Nat.ble ((0:Nat) + Int.toNat x1 + (1:Nat)) (List.length ([]++x0')):Bool))
              (Tr.test ((Nat.beq ((0:Nat) + List.length x0') (List.length (List.set ([]++x0') ((0:Nat) + Int.toNat x1) x1')):Bool))
                (Tr.fin (((([]:List Int),((List.set ([]++x0') ((0:Nat) + Int.toNat x1) x1':List Int),())),())))
                (Tr.stop))
              (Tr.stop))
            (Tr.stop))
          (Tr.stop))))
    (Tr.test (Nat.ble ((0:Nat) + List.length x0) (0:Nat))
      (Tr.stop)
      (Tr.test ((Nat.ble (((2:Nat) * ((0:Nat) + List.length x0) + (192:Nat)) * (8:Nat)) (281474976710656:Nat) && Nat.ble ((0:Nat) + List.length x0) (281474976710656:Nat):Bool))
        (Tr.test ((Nat.beq (List.length x0') (0:Nat):Bool))
          (Tr.test ((decide ((0:Int) ≤ x1) && decide (x1 < (0:Int)):Bool))
            (Tr.stop)
            (Tr.stop))
          (Tr.test ((Nat.ble ((0:Nat) + List.length x0') (0:Nat):Bool))
            (Tr.stop)
            (Tr.test ((Nat.ble (((2:Nat) * ((0:Nat) + List.length x0') + (192:Nat)) * (8:Nat)) (281474976710656:Nat) && Nat.ble ((0:Nat) + List.length x0') (281474976710656:Nat):Bool))
              (Tr.test ((decide ((0:Int) ≤ x1) && decide (x1 < (↑((0:Nat) + List.length x0'):Int)):Bool))
                (Tr.test ((Nat.ble ((0:Nat) + Int.toNat x1 + (1:Nat)) (List.length ([]++x0')):Bool))
                  (Tr.test ((Nat.beq ((0:Nat) + List.length x0) (List.length ([]++x0)):Bool))
                    (Tr.test ((Nat.beq ((0:Nat) + List.length x0') (List.length (List.set ([]++x0') ((0:Nat) + Int.toNat x1) x1')):Bool))
                      (Tr.fin (((([]++x0:List Int),((List.set ([]++x0') ((0:Nat) + Int.toNat x1) x1':List Int),())),())))
                      (Tr.stop))
                    (Tr.stop))
                  (Tr.stop))
                (Tr.stop))
              (Tr.stop))))
        (Tr.stop)))

def f39 (d:Tys.data as39):Option (Tys.data rs39):=(t39 d.1.1 d.1.2.1 d.2.1.1 d.2.1.2.1).val
def g39 (d:Tys.data as39):Tys.data rs39:=(f39 d).getD (Tys.dflt rs39)
def p39:PureC:=pcOf as39 rs39 f39 g39

theorem wk39 (x0:(List Int)) (x0':(List Int)) (x1:Int) (x1':Int):Walks (runPure (kf8 Go.Proofs.Try.prog).orc Go.Proofs.Try.prog 400 39 as39 rs39 ((x0,x0',()),(x1,x1',()),())) (t39 x0 x0' x1 x1') [([true,false,false,true,true,true,true],[2,4,6,8,10,12,14]),([false,false,true,false,false,true,true,true,true,true],[2,4,6,8,10,12,14,16,18,20])] :=
  ⟨by kernel_rfl,by kernel_rfl,trivial⟩

theorem ok39_t (x0:(List Int)) (x0':(List Int)) (x1:Int) (x1':Int):TrOk (PureRuns Go.Proofs.Try.prog (kf8 Go.Proofs.Try.prog).orc 39 as39 rs39 ((x0,x0',()),(x1,x1',()),())) (t39 x0 x0' x1 x1') :=
  Walks.ok (fun _ _ _=>PureRuns.of) (wk39 x0 x0' x1 x1') (by kernel_rfl)

theorem ok39:PureOk Go.Proofs.Try.prog 39 p39:=pureOk_of kf8_ok.base (T:=fun (d:Tys.data as39)=>t39 d.1.1 d.1.2.1 d.2.1.1 d.2.1.2.1) (by kernel_rfl) (fun (d:Tys.data as39)=>ok39_t d.1.1 d.1.2.1 d.2.1.1 d.2.1.2.1)
def kf39 (P:Go.Program):Known:=(kf8 P).func 39 p39
theorem kf39_ok:KnownOk Go.Proofs.Try.prog (kf39 Go.Proofs.Try.prog):=kf8_ok.func ok39

/-! ductility/ductilitybase.Within -/

abbrev as21:List Ty:=[(.int .i64),(.int .i64),(.int .i64)]
abbrev rs21:List Ty:=[.bool]

def t21 (x0:Int) (x1:Int) (x2:Int):Tr (Tys.data rs21) :=
  Tr.test ((leF x1 x0:Bool))
    (Tr.fin ((leF x0 x2,())))
    (Tr.fin ((false,())))

def f21 (d:Tys.data as21):Option (Tys.data rs21):=(t21 d.1 d.2.1 d.2.2.1).val
def g21 (d:Tys.data as21):Tys.data rs21:=(f21 d).getD (Tys.dflt rs21)
def p21:PureC:=pcOf as21 rs21 f21 g21

theorem wk21 (x0:Int) (x1:Int) (x2:Int):Walks (runPure (kf39 Go.Proofs.Try.prog).orc Go.Proofs.Try.prog 400 21 as21 rs21 (x0,x1,x2,())) (t21 x0 x1 x2) [([tt],[2,2,2,2]),([ff],[2,2,2,2])] :=
  ⟨by kernel_rfl,by kernel_rfl,trivial⟩

theorem ok21_t (x0:Int) (x1:Int) (x2:Int):TrOk (PureRuns Go.Proofs.Try.prog (kf39 Go.Proofs.Try.prog).orc 21 as21 rs21 (x0,x1,x2,())) (t21 x0 x1 x2) :=
  Walks.ok (fun _ _ _=>PureRuns.of) (wk21 x0 x1 x2) (by kernel_rfl)

theorem ok21:PureOk Go.Proofs.Try.prog 21 p21:=pureOk_of kf39_ok.base (T:=fun (d:Tys.data as21)=>t21 d.1 d.2.1 d.2.2.1) (by kernel_rfl) (fun (d:Tys.data as21)=>ok21_t d.1 d.2.1 d.2.2.1)
def kf21 (P:Go.Program):Known:=(kf39 P).func 21 p21
theorem kf21_ok:KnownOk Go.Proofs.Try.prog (kf21 Go.Proofs.Try.prog):=kf39_ok.func ok21

/-! loop 0 of ductility/ductilityref06.CheckFrame -/

abbrev sh55_0:Sh:={ n:=46,slots:=[1,4],pats:=[.ptr 0 2 0,.ty (.int .i64)],boxes:=[.row [.ty (.slice (.int .i64)),.ty (.slice (.int .i64))]] }
abbrev shb55_0:Sh:={ n:=46,slots:=[],pats:=[],boxes:=[.row [.ty (.slice (.int .i64)),.ty (.slice (.int .i64))]] }
abbrev shr55_0:Sh:={ n:=46,slots:=[2,3],pats:=[.ty (.int .i64),.ty (.int .i64)],boxes:=[.row [.ty (.slice (.int .i64)),.ty (.slice (.int .i64))]] }

def t55_0 (x1:Int) (b0_0:(List Int)) (b0_1:(List Int)):Tr (Out sh55_0.data shb55_0.data shr55_0.data) :=
  Tr.test ((!leF (↑(List.length b0_0):Int) x1:Bool))
    (Tr.test (decide ((0:Int) ≤ x1) && decide (x1 < (↑(List.length b0_0):Int)))
      (Tr.test (Option.isSome (f21 ((List.getD b0_0 (Int.toNat x1) (0:Int):Int),((1:Int),((10:Int),())))))
        (let r0:=g21 ((List.getD b0_0 (Int.toNat x1) (0:Int):Int),((1:Int),((10:Int),())));
        Tr.test ((!r0.1:Bool))
          (Tr.fin (.ret ((x1,((2:Int),())),((b0_0,(b0_1,())),()))))
          (Tr.test ((decide ((0:Int) ≤ x1) && decide (x1 < (↑(List.length b0_1):Int)):Bool))
            (Tr.test (Option.isSome (f21 ((List.getD b0_1 (Int.toNat x1) (0:Int):Int),((1:Int),((20:Int),())))))
              (let r1:=g21 ((List.getD b0_1 (Int.toNat x1) (0:Int):Int),((1:Int),((20:Int),())));
              Tr.test ((!r1.1:Bool))
                (Tr.fin (.ret ((x1,((2:Int),())),((b0_0,(b0_1,())),()))))
                (Tr.fin (.again (((wrap64 (x1 + (1:Int)):Int),()),((b0_0,(b0_1,())),())))))
              (Tr.stop))
            (Tr.stop)))
        (Tr.stop))
      (Tr.stop))
    (Tr.fin (.brk ((),((b0_0,(b0_1,())),()))))

def s55_0 (d:sh55_0.data):Option (Out sh55_0.data shb55_0.data shr55_0.data):=(t55_0 d.1.1 d.2.1.1 d.2.1.2.1).val
def l55_0 (d:sh55_0.data):Option (shb55_0.data ⊕ shr55_0.data):=itr s55_0 rounds d
def b55_0 (d:sh55_0.data):shb55_0.data:=outB shb55_0.dflt (l55_0 d)
def r55_0 (d:sh55_0.data):shr55_0.data:=outR shr55_0.dflt (l55_0 d)
def lc55_0:LoopC:=lcOf sh55_0 shb55_0 shr55_0 l55_0 b55_0 r55_0

theorem wk55_0 (x1:Int) (b0_0:(List Int)) (b0_1:(List Int)):Walks (runBody (kf21 Go.Proofs.Try.prog).orc Go.Proofs.Try.prog 400 55 0 sh55_0 shb55_0 shr55_0 ((x1,()),(b0_0,b0_1,()),())) (t55_0 x1 b0_0 b0_1) [([true,true,true,true],[1,2,2,2,2,2,2,2,2,4,6,8]),([true,true,true,false,true,true,true],[2,8,8,4,8,8,6,8,8,8,8,10,12,14]),([true,true,true,false,true,true,false],[2,8,8,4,8,8,6,8,8,8,8,10,12,14]),([ff],[2])] :=
  ⟨by kernel_rfl,by kernel_rfl,by kernel_rfl,by kernel_rfl,trivial⟩

theorem ok55_0_t (x1:Int) (b0_0:(List Int)) (b0_1:(List Int)):TrOk (BodyRuns Go.Proofs.Try.prog (kf21 Go.Proofs.Try.prog).orc 55 0 sh55_0 shb55_0 shr55_0 ((x1,()),(b0_0,b0_1,()),())) (t55_0 x1 b0_0 b0_1) :=
  Walks.ok (fun _ _ _=>BodyRuns.of) (wk55_0 x1 b0_0 b0_1) (by kernel_rfl)

theorem ok55_0:LoopOk Go.Proofs.Try.prog 55 0 lc55_0:=loopOk_of (sh:=sh55_0) (shB:=shb55_0) (shR:=shr55_0) kf21_ok.base (T:=fun (d:sh55_0.data)=>t55_0 d.1.1 d.2.1.1 d.2.1.2.1) (by kernel_rfl) rfl (fun (d:sh55_0.data)=>ok55_0_t d.1.1 d.2.1.1 d.2.1.2.1) (fun _=>rfl)
def kl55_0 (P:Go.Program):Known:=(kf21 P).loop 55 0 lc55_0
theorem kl55_0_ok:KnownOk Go.Proofs.Try.prog (kl55_0 Go.Proofs.Try.prog):=kf21_ok.loop ok55_0

/-! ductility/ductilityref06.CheckFrame -/

abbrev as55:List Ty:=[(.pair (.slice (.int .i64)) (.pair (.slice (.int .i64)) .unit))]
abbrev rs55:List Ty:=[(.int .i64),(.int .i64)]

def t55 (x0:(List Int)) (x0':(List Int)):Tr (Tys.data rs55) :=
  Tr.test ((eqF (↑(List.length x0):Int) (0:Int):Bool))
    (Tr.fin (((0:Int),((10:Int),()))))
    (Tr.test (!eqF (↑(List.length x0'):Int) (↑(List.length x0):Int))
      (Tr.fin (((0:Int),((10:Int),()))))
      (Tr.test ((!leF (↑(List.length x0):Int) (4:Int):Bool))
        (Tr.fin (((0:Int),((8:Int),()))))
        (Tr.test (Option.isSome (l55_0 (((0:Int),()),((x0,(x0',())),()))))
          (Tr.test (isRet (l55_0 (((0:Int),()),((x0,(x0',())),()))))
            (let r0:=r55_0 (((0:Int),()),((x0,(x0',())),()));
            Tr.fin ((r0.1.1,(r0.1.2.1,()))))
            (Tr.fin (((0:Int),((0:Int),())))))
          (Tr.stop))))

def f55 (d:Tys.data as55):Option (Tys.data rs55):=(t55 d.1.1 d.1.2.1).val
def g55 (d:Tys.data as55):Tys.data rs55:=(f55 d).getD (Tys.dflt rs55)
def p55:PureC:=pcOf as55 rs55 f55 g55

theorem wk55 (x0:(List Int)) (x0':(List Int)):Walks (runPure (kl55_0 Go.Proofs.Try.prog).orc Go.Proofs.Try.prog 400 55 as55 rs55 ((x0,x0',()),())) (t55 x0 x0') [([tt],[1,2,2,2,2,2,2,2,2]),([false,true],[2,4,4,4,4,4,4,4,4]),([false,false,true],[2,4,6,6,6,6,6,6,6,6]),([false,false,false,true,true],[2,4,6,8,10,10,10,10,10,10,10,10]),([false,false,false,true,false],[2,4,6,8,10,10,10,10,10,10,10,10])] :=
  ⟨by kernel_rfl,by kernel_rfl,by kernel_rfl,by kernel_rfl,by kernel_rfl,trivial⟩

theorem ok55_t (x0:(List Int)) (x0':(List Int)):TrOk (PureRuns Go.Proofs.Try.prog (kl55_0 Go.Proofs.Try.prog).orc 55 as55 rs55 ((x0,x0',()),())) (t55 x0 x0') :=
  Walks.ok (fun _ _ _=>PureRuns.of) (wk55 x0 x0') (by kernel_rfl)

theorem ok55:PureOk Go.Proofs.Try.prog 55 p55:=pureOk_of kl55_0_ok.base (T:=fun (d:Tys.data as55)=>t55 d.1.1 d.1.2.1) (by kernel_rfl) (fun (d:Tys.data as55)=>ok55_t d.1.1 d.1.2.1)
def kf55 (P:Go.Program):Known:=(kl55_0 P).func 55 p55
theorem kf55_ok:KnownOk Go.Proofs.Try.prog (kf55 Go.Proofs.Try.prog):=kl55_0_ok.func ok55

/-! ductility/ductilityref06.FrameErr -/

abbrev as14:List Ty:=[(.pair (.slice (.int .i64)) (.pair (.slice (.int .i64)) .unit))]
abbrev rs14:List Ty:=[(.int .i64)]

def t14 (x0:(List Int)) (x0':(List Int)):Tr (Tys.data rs14) :=
  Tr.test (Option.isSome (f55 ((x0,(x0',())),())))
    (let r0:=g55 ((x0,(x0',())),());
    Tr.fin ((r0.2.1,())))
    (Tr.stop)

def f14 (d:Tys.data as14):Option (Tys.data rs14):=(t14 d.1.1 d.1.2.1).val
def g14 (d:Tys.data as14):Tys.data rs14:=(f14 d).getD (Tys.dflt rs14)
def p14:PureC:=pcOf as14 rs14 f14 g14

theorem wk14 (x0:(List Int)) (x0':(List Int)):Walks (runPure (kf55 Go.Proofs.Try.prog).orc Go.Proofs.Try.prog 400 14 as14 rs14 ((x0,x0',()),())) (t14 x0 x0') [([tt],[2])] :=
  ⟨by kernel_rfl,trivial⟩

theorem ok14_t (x0:(List Int)) (x0':(List Int)):TrOk (PureRuns Go.Proofs.Try.prog (kf55 Go.Proofs.Try.prog).orc 14 as14 rs14 ((x0,x0',()),())) (t14 x0 x0') :=
  Walks.ok (fun _ _ _=>PureRuns.of) (wk14 x0 x0') (by kernel_rfl)

theorem ok14:PureOk Go.Proofs.Try.prog 14 p14:=pureOk_of kf55_ok.base (T:=fun (d:Tys.data as14)=>t14 d.1.1 d.1.2.1) (by kernel_rfl) (fun (d:Tys.data as14)=>ok14_t d.1.1 d.1.2.1)
def kf14 (P:Go.Program):Known:=(kf55 P).func 14 p14
theorem kf14_ok:KnownOk Go.Proofs.Try.prog (kf14 Go.Proofs.Try.prog):=kf55_ok.func ok14

/-! ductility/ductilityref06.DamageErr -/

abbrev as37:List Ty:=[(.pair (.slice (.int .i64)) (.pair (.slice (.int .i64)) .unit)),(.pair (.int .i64) (.pair (.int .i64) .unit))]
abbrev rs37:List Ty:=[(.int .i64)]

def t37 (x0:(List Int)) (x0':(List Int)) (x1:Int) (x1':Int):Tr (Tys.data rs37) :=
  Tr.test (Option.isSome (f21 (x1,((0:Int),((wrap64 ((↑(List.length x0'):Int) - (1:Int)):Int),())))))
    (let r0:=g21 (x1,((0:Int),((wrap64 ((↑(List.length x0'):Int) - (1:Int)):Int),())));
    Tr.test ((!r0.1:Bool))
      (Tr.fin (((6:Int),())))
      (Tr.test ((decide ((0:Int) ≤ x1) && decide (x1 < (↑(List.length x0'):Int)):Bool))
        (Tr.test (Option.isSome (f21 (x1',((1:Int),((List.getD x0' (Int.toNat x1) (0:Int):Int),())))))
          (let r1:=g21 (x1',((1:Int),((List.getD x0' (Int.toNat x1) (0:Int):Int),())));
          Tr.test ((!r1.1:Bool))
            (Tr.fin (((2:Int),())))
            (Tr.fin (((0:Int),()))))
          (Tr.stop))
        (Tr.stop)))
    (Tr.stop)

def f37 (d:Tys.data as37):Option (Tys.data rs37):=(t37 d.1.1 d.1.2.1 d.2.1.1 d.2.1.2.1).val
def g37 (d:Tys.data as37):Tys.data rs37:=(f37 d).getD (Tys.dflt rs37)
def p37:PureC:=pcOf as37 rs37 f37 g37

theorem wk37 (x0:(List Int)) (x0':(List Int)) (x1:Int) (x1':Int):Walks (runPure (kf14 Go.Proofs.Try.prog).orc Go.Proofs.Try.prog 400 37 as37 rs37 ((x0,x0',()),(x1,x1',()),())) (t37 x0 x0' x1 x1') [([true,true],[2,4]),([true,false,true,true,true],[2,4,6,8,10]),([true,false,true,true,false],[2,4,6,8,10])] :=
  ⟨by kernel_rfl,by kernel_rfl,by kernel_rfl,trivial⟩

theorem ok37_t (x0:(List Int)) (x0':(List Int)) (x1:Int) (x1':Int):TrOk (PureRuns Go.Proofs.Try.prog (kf14 Go.Proofs.Try.prog).orc 37 as37 rs37 ((x0,x0',()),(x1,x1',()),())) (t37 x0 x0' x1 x1') :=
  Walks.ok (fun _ _ _=>PureRuns.of) (wk37 x0 x0' x1 x1') (by kernel_rfl)

theorem ok37:PureOk Go.Proofs.Try.prog 37 p37:=pureOk_of kf14_ok.base (T:=fun (d:Tys.data as37)=>t37 d.1.1 d.1.2.1 d.2.1.1 d.2.1.2.1) (by kernel_rfl) (fun (d:Tys.data as37)=>ok37_t d.1.1 d.1.2.1 d.2.1.1 d.2.1.2.1)
def kf37 (P:Go.Program):Known:=(kf14 P).func 37 p37
theorem kf37_ok:KnownOk Go.Proofs.Try.prog (kf37 Go.Proofs.Try.prog):=kf14_ok.func ok37

/-! ductility/ductilitybase.CopyInts -/

abbrev as49:List Ty:=[(.slice (.int .i64))]
abbrev rs49:List Ty:=[(.slice (.int .i64))]

def t49 (x0:(List Int)):Tr (Tys.data rs49) :=
  Tr.test ((Nat.beq (List.length x0) (0:Nat):Bool))
    (Tr.fin ((([]:List Int),())))
    (Tr.test (Nat.ble ((0:Nat) + List.length x0) (0:Nat))
      (Tr.stop)
      (Tr.test ((Nat.ble (((2:Nat) * ((0:Nat) + List.length x0) + (192:Nat)) * (8:Nat)) (281474976710656:Nat) && Nat.ble ((0:Nat) + List.length x0) (281474976710656:Nat):Bool))
        (Tr.test ((Nat.beq ((0:Nat) + List.length x0) (List.length ([]++x0)):Bool))
          (Tr.fin ((([]++x0:List Int),())))
          (Tr.stop))
        (Tr.stop)))

def f49 (d:Tys.data as49):Option (Tys.data rs49):=(t49 d.1).val
def g49 (d:Tys.data as49):Tys.data rs49:=(f49 d).getD (Tys.dflt rs49)
def p49:PureC:=pcOf as49 rs49 f49 g49

theorem wk49 (x0:(List Int)):Walks (runPure (kf37 Go.Proofs.Try.prog).orc Go.Proofs.Try.prog 400 49 as49 rs49 (x0,())) (t49 x0) [([tt],[2]),([false,false,true,true],[2,4,6,8])] :=
  ⟨by kernel_rfl,by kernel_rfl,trivial⟩

theorem ok49_t (x0:(List Int)):TrOk (PureRuns Go.Proofs.Try.prog (kf37 Go.Proofs.Try.prog).orc 49 as49 rs49 (x0,())) (t49 x0) :=
  Walks.ok (fun _ _ _=>PureRuns.of) (wk49 x0) (by kernel_rfl)

theorem ok49:PureOk Go.Proofs.Try.prog 49 p49:=pureOk_of kf37_ok.base (T:=fun (d:Tys.data as49)=>t49 d.1) (by kernel_rfl) (fun (d:Tys.data as49)=>ok49_t d.1)
def kf49 (P:Go.Program):Known:=(kf37 P).func 49 p49
theorem kf49_ok:KnownOk Go.Proofs.Try.prog (kf49 Go.Proofs.Try.prog):=kf37_ok.func ok49

/-! ductility/ductilityref06.Copy -/

abbrev as11:List Ty:=[(.pair (.slice (.int .i64)) (.pair (.slice (.int .i64)) .unit))]
abbrev rs11:List Ty:=[(.pair (.slice (.int .i64)) (.pair (.slice (.int .i64)) .unit))]

def t11 (x0:(List Int)) (x0':(List Int)):Tr (Tys.data rs11) :=
  Tr.test (Option.isSome (f49 (x0,())))
    (Tr.test (Option.isSome (f49 (x0',())))
      (let r0:=g49 (x0,());
      let r1:=g49 (x0',());
      Tr.fin (((r0.1,(r1.1,())),())))
      (Tr.stop))
    (Tr.stop)

def f11 (d:Tys.data as11):Option (Tys.data rs11):=(t11 d.1.1 d.1.2.1).val
def g11 (d:Tys.data as11):Tys.data rs11:=(f11 d).getD (Tys.dflt rs11)
def p11:PureC:=pcOf as11 rs11 f11 g11

theorem wk11 (x0:(List Int)) (x0':(List Int)):Walks (runPure (kf49 Go.Proofs.Try.prog).orc Go.Proofs.Try.prog 400 11 as11 rs11 ((x0,x0',()),())) (t11 x0 x0') [([true,true],[2,4])] :=
  ⟨by kernel_rfl,trivial⟩

theorem ok11_t (x0:(List Int)) (x0':(List Int)):TrOk (PureRuns Go.Proofs.Try.prog (kf49 Go.Proofs.Try.prog).orc 11 as11 rs11 ((x0,x0',()),())) (t11 x0 x0') :=
  Walks.ok (fun _ _ _=>PureRuns.of) (wk11 x0 x0') (by kernel_rfl)

theorem ok11:PureOk Go.Proofs.Try.prog 11 p11:=pureOk_of kf49_ok.base (T:=fun (d:Tys.data as11)=>t11 d.1.1 d.1.2.1) (by kernel_rfl) (fun (d:Tys.data as11)=>ok11_t d.1.1 d.1.2.1)
def kf11 (P:Go.Program):Known:=(kf49 P).func 11 p11
theorem kf11_ok:KnownOk Go.Proofs.Try.prog (kf11 Go.Proofs.Try.prog):=kf49_ok.func ok11

/-! ductility/ductilitybase.CopyRanges -/

abbrev as41:List Ty:=[(.slice (.pair (.int .i64) (.pair (.int .i64) .unit)))]
abbrev rs41:List Ty:=[(.slice (.pair (.int .i64) (.pair (.int .i64) .unit)))]

def t41 (x0:(List (Int×(Int×Unit)))):Tr (Tys.data rs41) :=
  Tr.test ((Nat.beq (List.length x0) (0:Nat):Bool))
    (Tr.fin ((([]:List (Int×Int×PUnit)),())))
    (Tr.test (Nat.ble ((0:Nat) + List.length x0) (0:Nat))
      (Tr.stop)
      (Tr.test ((Nat.ble (((2:Nat) * ((0:Nat) + List.length x0) + (192:Nat)) * (16:Nat)) (281474976710656:Nat) && Nat.ble ((0:Nat) + List.length x0) (281474976710656:Nat):Bool))
        (Tr.test ((Nat.beq ((0:Nat) + List.length x0) (List.length ([]++x0)):Bool))
          (Tr.fin ((([]++x0:List (Int×Int×PUnit)),())))
          (Tr.stop))
        (Tr.stop)))

def f41 (d:Tys.data as41):Option (Tys.data rs41):=(t41 d.1).val
def g41 (d:Tys.data as41):Tys.data rs41:=(f41 d).getD (Tys.dflt rs41)
def p41:PureC:=pcOf as41 rs41 f41 g41

theorem wk41 (x0:(List (Int×(Int×Unit)))):Walks (runPure (kf11 Go.Proofs.Try.prog).orc Go.Proofs.Try.prog 400 41 as41 rs41 (x0,())) (t41 x0) [([tt],[2]),([false,false,true,true],[2,4,6,8])] :=
  ⟨by kernel_rfl,by kernel_rfl,trivial⟩

theorem ok41_t (x0:(List (Int×(Int×Unit)))):TrOk (PureRuns Go.Proofs.Try.prog (kf11 Go.Proofs.Try.prog).orc 41 as41 rs41 (x0,())) (t41 x0) :=
  Walks.ok (fun _ _ _=>PureRuns.of) (wk41 x0) (by kernel_rfl)

theorem ok41:PureOk Go.Proofs.Try.prog 41 p41:=pureOk_of kf11_ok.base (T:=fun (d:Tys.data as41)=>t41 d.1) (by kernel_rfl) (fun (d:Tys.data as41)=>ok41_t d.1)
def kf41 (P:Go.Program):Known:=(kf11 P).func 41 p41
theorem kf41_ok:KnownOk Go.Proofs.Try.prog (kf41 Go.Proofs.Try.prog):=kf11_ok.func ok41

/-! ductility/ductilityref06.CopyAfter -/

abbrev as33:List Ty:=[(.pair (.int .i64) (.pair (.slice (.pair (.int .i64) (.pair (.int .i64) .unit))) .unit))]
abbrev rs33:List Ty:=[(.pair (.int .i64) (.pair (.slice (.pair (.int .i64) (.pair (.int .i64) .unit))) .unit))]

def t33 (x0:Int) (x0':(List (Int×(Int×Unit)))):Tr (Tys.data rs33) :=
  Tr.test (Option.isSome (f41 (x0',())))
    (let r0:=g41 (x0',());
    Tr.fin (((x0,(r0.1,())),())))
    (Tr.stop)

def f33 (d:Tys.data as33):Option (Tys.data rs33):=(t33 d.1.1 d.1.2.1).val
def g33 (d:Tys.data as33):Tys.data rs33:=(f33 d).getD (Tys.dflt rs33)
def p33:PureC:=pcOf as33 rs33 f33 g33

theorem wk33 (x0:Int) (x0':(List (Int×(Int×Unit)))):Walks (runPure (kf41 Go.Proofs.Try.prog).orc Go.Proofs.Try.prog 400 33 as33 rs33 ((x0,x0',()),())) (t33 x0 x0') [([tt],[2])] :=
  ⟨by kernel_rfl,trivial⟩

theorem ok33_t (x0:Int) (x0':(List (Int×(Int×Unit)))):TrOk (PureRuns Go.Proofs.Try.prog (kf41 Go.Proofs.Try.prog).orc 33 as33 rs33 ((x0,x0',()),())) (t33 x0 x0') :=
  Walks.ok (fun _ _ _=>PureRuns.of) (wk33 x0 x0') (by kernel_rfl)

theorem ok33:PureOk Go.Proofs.Try.prog 33 p33:=pureOk_of kf41_ok.base (T:=fun (d:Tys.data as33)=>t33 d.1.1 d.1.2.1) (by kernel_rfl) (fun (d:Tys.data as33)=>ok33_t d.1.1 d.1.2.1)
def kf33 (P:Go.Program):Known:=(kf41 P).func 33 p33
theorem kf33_ok:KnownOk Go.Proofs.Try.prog (kf33 Go.Proofs.Try.prog):=kf41_ok.func ok33

/-! ductility/modal.rangesError -/

abbrev as73:List Ty:=[(.slice (.pair (.int .i64) (.pair (.int .i64) .unit)))]
abbrev rs73:List Ty:=[(.int .i64)]

def t73 (x0:(List (Int×(Int×Unit)))):Tr (Tys.data rs73) :=
  Tr.test (Option.isSome (f106 ((↑(List.length x0):Int),((12:Int),()))))
    (let r0:=g106 ((↑(List.length x0):Int),((12:Int),()));
    Tr.test ((!eqF r0.1 0:Bool))
      (Tr.fin ((r0.1,())))
      (Tr.test (Option.isSome (f103 (x0,((-1000000000:Int),((1000000000:Int),())))))
        (let r1:=g103 (x0,((-1000000000:Int),((1000000000:Int),())));
        Tr.fin ((r1.1,())))
        (Tr.stop)))
    (Tr.stop)

def f73 (d:Tys.data as73):Option (Tys.data rs73):=(t73 d.1).val
def g73 (d:Tys.data as73):Tys.data rs73:=(f73 d).getD (Tys.dflt rs73)
def p73:PureC:=pcOf as73 rs73 f73 g73

theorem wk73 (x0:(List (Int×(Int×Unit)))):Walks (runPure (kf33 Go.Proofs.Try.prog).orc Go.Proofs.Try.prog 400 73 as73 rs73 (x0,())) (t73 x0) [([true,true],[2,4]),([true,false,true],[2,4,6])] :=
  ⟨by kernel_rfl,by kernel_rfl,trivial⟩

theorem ok73_t (x0:(List (Int×(Int×Unit)))):TrOk (PureRuns Go.Proofs.Try.prog (kf33 Go.Proofs.Try.prog).orc 73 as73 rs73 (x0,())) (t73 x0) :=
  Walks.ok (fun _ _ _=>PureRuns.of) (wk73 x0) (by kernel_rfl)

theorem ok73:PureOk Go.Proofs.Try.prog 73 p73:=pureOk_of kf33_ok.base (T:=fun (d:Tys.data as73)=>t73 d.1) (by kernel_rfl) (fun (d:Tys.data as73)=>ok73_t d.1)
def kf73 (P:Go.Program):Known:=(kf33 P).func 73 p73
theorem kf73_ok:KnownOk Go.Proofs.Try.prog (kf73 Go.Proofs.Try.prog):=kf33_ok.func ok73

/-! loop 0 of ductility/modal.DamagedIn -/

abbrev sh40_0:Sh:={ n:=54,slots:=[1,8,29,30,31],pats:=[.ty (.slice (.pair (.int .i64) (.pair (.int .i64) .unit))),.acc (.int .i64),.ty (.slice (.pair (.int .i64) (.pair (.int .i64) .unit))),.ty (.int .i64),.ty (.int .i64)],boxes:=[] }
abbrev shb40_0:Sh:={ n:=54,slots:=[8],pats:=[.acc (.int .i64)],boxes:=[] }
abbrev shr40_0:Sh:={ n:=54,slots:=[],pats:=[],boxes:=[] }

def t40_0 (x0:(List (Int×(Int×Unit)))) (x1:(List Int)) (x2:(List (Int×(Int×Unit)))) (x3:Int) (x4:Int):Tr (Out sh40_0.data shb40_0.data shr40_0.data) :=
  Tr.test ((!leF x3 x4:Bool))
    (Tr.test (decide ((0:Int) ≤ x4) && decide (x4 < (↑(List.length x2):Int)))
      (Tr.test ((decide ((0:Int) ≤ x4) && decide (x4 < (↑(List.length x0):Int)):Bool))
        (Tr.test (Option.isSome (f74 ((((List.getD x2 (Int.toNat x4) ((0:Int),(0:Int),())).1:Int),(((List.getD x2 (Int.toNat x4) ((0:Int),(0:Int),())).2.1:Int),())),(([((List.getD x0 (Int.toNat x4) ((0:Int),(0:Int),())).1,(List.getD x0 (Int.toNat x4) ((0:Int),(0:Int),())).2.1,())]:List (Int×Int×PUnit)),()))))
          (let r0:=g74 ((((List.getD x2 (Int.toNat x4) ((0:Int),(0:Int),())).1:Int),(((List.getD x2 (Int.toNat x4) ((0:Int),(0:Int),())).2.1:Int),())),(([((List.getD x0 (Int.toNat x4) ((0:Int),(0:Int),())).1,(List.getD x0 (Int.toNat x4) ((0:Int),(0:Int),())).2.1,())]:List (Int×Int×PUnit)),()));
          Tr.test ((!r0.2.1:Bool))
            (Tr.test ((Nat.ble (((2:Nat) * (List.length x1 + (1:Nat)) + (192:Nat)) * (8:Nat)) (281474976710656:Nat) && Nat.ble (List.length x1 + (1:Nat)) (281474976710656:Nat):Bool))
              (Tr.fin (.again ((x0,((x1++[x4]:List Int),(x2,(x3,((wrap64 (x4 + (1:Int)):Int),()))))),())))
              (Tr.stop))
            (Tr.fin (.again ((x0,(x1,(x2,(x3,((wrap64 (x4 + (1:Int)):Int),()))))),()))))
          (Tr.stop))
        (Tr.stop))
      (Tr.stop))
    (Tr.fin (.brk ((x1,()),())))

def s40_0 (d:sh40_0.data):Option (Out sh40_0.data shb40_0.data shr40_0.data):=(t40_0 d.1.1 d.1.2.1 d.1.2.2.1 d.1.2.2.2.1 d.1.2.2.2.2.1).val
def l40_0 (d:sh40_0.data):Option (shb40_0.data ⊕ shr40_0.data):=itr s40_0 rounds d
def b40_0 (d:sh40_0.data):shb40_0.data:=outB shb40_0.dflt (l40_0 d)
def lc40_0:LoopC:=lcB sh40_0 shb40_0 shr40_0 l40_0 b40_0

theorem wk40_0 (x0:(List (Int×(Int×Unit)))) (x1:(List Int)) (x2:(List (Int×(Int×Unit)))) (x3:Int) (x4:Int):Walks (runBody (kf73 Go.Proofs.Try.prog).orc Go.Proofs.Try.prog 400 40 0 sh40_0 shb40_0 shr40_0 ((x0,x1,x2,x3,x4,()),())) (t40_0 x0 x1 x2 x3 x4) [([true,true,true,true,true,true],[1,2,0,4,6,1,8,10,12]),([true,true,true,true,false],[2,4,1,6,8,10]),([ff],[2])] :=
  ⟨by kernel_rfl,by kernel_rfl,by kernel_rfl,trivial⟩

theorem ok40_0_t (x0:(List (Int×(Int×Unit)))) (x1:(List Int)) (x2:(List (Int×(Int×Unit)))) (x3:Int) (x4:Int):TrOk (BodyRuns Go.Proofs.Try.prog (kf73 Go.Proofs.Try.prog).orc 40 0 sh40_0 shb40_0 shr40_0 ((x0,x1,x2,x3,x4,()),())) (t40_0 x0 x1 x2 x3 x4) :=
  Walks.ok (fun _ _ _=>BodyRuns.of) (wk40_0 x0 x1 x2 x3 x4) (by kernel_rfl)

theorem ok40_0:LoopOk Go.Proofs.Try.prog 40 0 lc40_0:=loopOk_ofB (sh:=sh40_0) (shB:=shb40_0) (shR:=shr40_0) kf73_ok.base (T:=fun (d:sh40_0.data)=>t40_0 d.1.1 d.1.2.1 d.1.2.2.1 d.1.2.2.2.1 d.1.2.2.2.2.1) (by kernel_rfl) rfl (fun (d:sh40_0.data)=>ok40_0_t d.1.1 d.1.2.1 d.1.2.2.1 d.1.2.2.2.1 d.1.2.2.2.2.1) (fun _=>rfl)
def kl40_0 (P:Go.Program):Known:=(kf73 P).loop 40 0 lc40_0
theorem kl40_0_ok:KnownOk Go.Proofs.Try.prog (kl40_0 Go.Proofs.Try.prog):=kf73_ok.loop ok40_0

/-! ductility/modal.DamagedIn -/

abbrev as40:List Ty:=[(.slice (.pair (.int .i64) (.pair (.int .i64) .unit))),(.slice (.pair (.int .i64) (.pair (.int .i64) .unit)))]
abbrev rs40:List Ty:=[(.slice (.int .i64)),(.int .i64)]

def t40 (x0:(List (Int×(Int×Unit)))) (x1:(List (Int×(Int×Unit)))):Tr (Tys.data rs40) :=
  Tr.test (Option.isSome (f73 (x0,())))
    (Tr.test (Option.isSome (f73 (x1,())))
      (Tr.test (Option.isSome (f52 ((!eqF (↑(List.length x0):Int) (↑(List.length x1):Int):Bool),((13:Int),()))))
        (let r0:=g73 (x0,());
        let r1:=g73 (x1,());
        let r2:=g52 ((!eqF (↑(List.length x0):Int) (↑(List.length x1):Int):Bool),((13:Int),()));
        Tr.test (Option.isSome (f72 (([r0.1,r1.1,r2.1]:List Int),())))
          (let r3:=g72 (([r0.1,r1.1,r2.1]:List Int),());
          Tr.test ((!eqF r3.1 0:Bool))
            (Tr.fin ((([]:List Int),(r3.1,()))))
            (Tr.test (isBrk (l40_0 ((x1,(([]:List Int),(x0,((↑(List.length x0):Int),((0:Int),()))))),())))
              (let r4:=b40_0 ((x1,(([]:List Int),(x0,((↑(List.length x0):Int),((0:Int),()))))),());
              Tr.fin ((r4.1.1,((0:Int),()))))
              (Tr.stop)))
          (Tr.stop))
        (Tr.stop))
      (Tr.stop))
    (Tr.stop)

def f40 (d:Tys.data as40):Option (Tys.data rs40):=(t40 d.1 d.2.1).val
def g40 (d:Tys.data as40):Tys.data rs40:=(f40 d).getD (Tys.dflt rs40)
def p40:PureC:=pcOf as40 rs40 f40 g40

theorem wk40 (x0:(List (Int×(Int×Unit)))) (x1:(List (Int×(Int×Unit)))):Walks (runPure (kl40_0 Go.Proofs.Try.prog).orc Go.Proofs.Try.prog 400 40 as40 rs40 (x0,x1,())) (t40 x0 x1) [([true,true,true,true,true],[2,4,1,6,8,10]),([true,true,true,true,false,true],[1,2,4,6,1,8,10,12])] :=
  ⟨by kernel_rfl,by kernel_rfl,trivial⟩

theorem ok40_t (x0:(List (Int×(Int×Unit)))) (x1:(List (Int×(Int×Unit)))):TrOk (PureRuns Go.Proofs.Try.prog (kl40_0 Go.Proofs.Try.prog).orc 40 as40 rs40 (x0,x1,())) (t40 x0 x1) :=
  Walks.ok (fun _ _ _=>PureRuns.of) (wk40 x0 x1) (by kernel_rfl)

theorem ok40:PureOk Go.Proofs.Try.prog 40 p40:=pureOk_of kl40_0_ok.base (T:=fun (d:Tys.data as40)=>t40 d.1 d.2.1) (by kernel_rfl) (fun (d:Tys.data as40)=>ok40_t d.1 d.2.1)
def kf40 (P:Go.Program):Known:=(kl40_0 P).func 40 p40
theorem kf40_ok:KnownOk Go.Proofs.Try.prog (kf40 Go.Proofs.Try.prog):=kl40_0_ok.func ok40

/-! ductility/ductilitybase.Floor -/

abbrev as66:List Ty:=[(.int .i64),(.int .i64)]
abbrev rs66:List Ty:=[(.int .i64)]

def t66 (x0:Int) (x1:Int):Tr (Tys.data rs66) :=
  Tr.test ((x1 == (0:Int):Bool))
    (Tr.stop)
    (Tr.test (!leF (0:Int) (Int.tmod x0 x1))
      (Tr.fin (((wrap64 (Go.IntKind.wrap Go.IntKind.i64 (Int.tdiv x0 x1) - (1:Int)):Int),())))
      (Tr.fin (((Go.IntKind.wrap Go.IntKind.i64 (Int.tdiv x0 x1):Int),()))))

def f66 (d:Tys.data as66):Option (Tys.data rs66):=(t66 d.1 d.2.1).val
def g66 (d:Tys.data as66):Tys.data rs66:=(f66 d).getD (Tys.dflt rs66)
def p66:PureC:=pcOf as66 rs66 f66 g66

theorem wk66 (x0:Int) (x1:Int):Walks (runPure (kf40 Go.Proofs.Try.prog).orc Go.Proofs.Try.prog 400 66 as66 rs66 (x0,x1,())) (t66 x0 x1) [([false,true],[2,4,4]),([false,false],[2,4,4])] :=
  ⟨by kernel_rfl,by kernel_rfl,trivial⟩

theorem ok66_t (x0:Int) (x1:Int):TrOk (PureRuns Go.Proofs.Try.prog (kf40 Go.Proofs.Try.prog).orc 66 as66 rs66 (x0,x1,())) (t66 x0 x1) :=
  Walks.ok (fun _ _ _=>PureRuns.of) (wk66 x0 x1) (by kernel_rfl)

theorem ok66:PureOk Go.Proofs.Try.prog 66 p66:=pureOk_of kf40_ok.base (T:=fun (d:Tys.data as66)=>t66 d.1 d.2.1) (by kernel_rfl) (fun (d:Tys.data as66)=>ok66_t d.1 d.2.1)
def kf66 (P:Go.Program):Known:=(kf40 P).func 66 p66
theorem kf66_ok:KnownOk Go.Proofs.Try.prog (kf66 Go.Proofs.Try.prog):=kf40_ok.func ok66

/-! loop 0 of ductility/ductilitybase.Compare -/

abbrev sh30_0:Sh:={ n:=47,slots:=[0,1,2,3],pats:=[.ty (.int .i64),.ty (.int .i64),.ty (.int .i64),.ty (.int .i64)],boxes:=[] }
abbrev shb30_0:Sh:={ n:=47,slots:=[],pats:=[],boxes:=[] }
abbrev shr30_0:Sh:={ n:=47,slots:=[8],pats:=[.ty (.int .i64)],boxes:=[] }

def t30_0 (x0:Int) (x1:Int) (x2:Int) (x3:Int):Tr (Out sh30_0.data shb30_0.data shr30_0.data) :=
  Tr.test (Option.isSome (f66 (x0,(x1,()))))
    (Tr.test (Option.isSome (f66 (x2,(x3,()))))
      (let r0:=g66 (x0,(x1,()));
      let r1:=g66 (x2,(x3,()));
      Tr.test ((!leF r1.1 r0.1:Bool))
        (Tr.fin (.ret (((-1:Int),()),())))
        (Tr.test ((!leF r0.1 r1.1:Bool))
          (Tr.fin (.ret (((1:Int),()),())))
          (Tr.test ((eqF (wrap64 (x0 - wrap64 (r0.1 * x1))) (0:Int):Bool))
            (Tr.test ((eqF (wrap64 (x2 - wrap64 (r1.1 * x3))) (0:Int):Bool))
              (Tr.fin (.ret (((0:Int),()),())))
              (Tr.fin (.ret (((-1:Int),()),()))))
            (Tr.test ((eqF (wrap64 (x2 - wrap64 (r1.1 * x3))) (0:Int):Bool))
              (Tr.fin (.ret (((1:Int),()),())))
              (Tr.fin (.again ((x3,((wrap64 (x2 - wrap64 (r1.1 * x3)):Int),(x1,((wrap64 (x0 - wrap64 (r0.1 * x1)):Int),())))),())))))))
      (Tr.stop))
    (Tr.stop)

def s30_0 (d:sh30_0.data):Option (Out sh30_0.data shb30_0.data shr30_0.data):=(t30_0 d.1.1 d.1.2.1 d.1.2.2.1 d.1.2.2.2.1).val
def l30_0 (d:sh30_0.data):Option (shb30_0.data ⊕ shr30_0.data):=itr s30_0 rounds d
def r30_0 (d:sh30_0.data):shr30_0.data:=outR shr30_0.dflt (l30_0 d)
def lc30_0:LoopC:=lcR sh30_0 shb30_0 shr30_0 l30_0 r30_0

theorem wk30_0 (x0:Int) (x1:Int) (x2:Int) (x3:Int):Walks (runBody (kf66 Go.Proofs.Try.prog).orc Go.Proofs.Try.prog 400 30 0 sh30_0 shb30_0 shr30_0 ((x0,x1,x2,x3,()),())) (t30_0 x0 x1 x2 x3) [([true,true,true],[2,4,6]),([true,true,false,true],[2,4,6,8]),([true,true,false,false,true,true],[2,4,4,4,6,8,10,12]),([true,true,false,false,true,false],[4,2,4,4,4,6,8,10,12]),([true,true,false,false,false,true],[2,4,0,4,4,4,6,8,10,12]),([true,true,false,false,false,false],[2,4,0,4,4,4,6,8,10,12])] :=
  ⟨by kernel_rfl,by kernel_rfl,by kernel_rfl,by kernel_rfl,by kernel_rfl,by kernel_rfl,trivial⟩

theorem ok30_0_t (x0:Int) (x1:Int) (x2:Int) (x3:Int):TrOk (BodyRuns Go.Proofs.Try.prog (kf66 Go.Proofs.Try.prog).orc 30 0 sh30_0 shb30_0 shr30_0 ((x0,x1,x2,x3,()),())) (t30_0 x0 x1 x2 x3) :=
  Walks.ok (fun _ _ _=>BodyRuns.of) (wk30_0 x0 x1 x2 x3) (by kernel_rfl)

theorem ok30_0:LoopOk Go.Proofs.Try.prog 30 0 lc30_0:=loopOk_ofR (sh:=sh30_0) (shB:=shb30_0) (shR:=shr30_0) kf66_ok.base (T:=fun (d:sh30_0.data)=>t30_0 d.1.1 d.1.2.1 d.1.2.2.1 d.1.2.2.2.1) (by kernel_rfl) rfl (fun (d:sh30_0.data)=>ok30_0_t d.1.1 d.1.2.1 d.1.2.2.1 d.1.2.2.2.1) (fun _=>rfl)
def kl30_0 (P:Go.Program):Known:=(kf66 P).loop 30 0 lc30_0
theorem kl30_0_ok:KnownOk Go.Proofs.Try.prog (kl30_0 Go.Proofs.Try.prog):=kf66_ok.loop ok30_0

/-! ductility/ductilitybase.Compare -/

abbrev as30:List Ty:=[(.int .i64),(.int .i64),(.int .i64),(.int .i64)]
abbrev rs30:List Ty:=[(.int .i64)]

def t30 (x0:Int) (x1:Int) (x2:Int) (x3:Int):Tr (Tys.data rs30) :=
  Tr.test (endsRet (l30_0 ((x0,(x1,(x2,(x3,())))),())))
    (let r0:=r30_0 ((x0,(x1,(x2,(x3,())))),());
    Tr.fin ((r0.1.1,())))
    (Tr.stop)

def f30 (d:Tys.data as30):Option (Tys.data rs30):=(t30 d.1 d.2.1 d.2.2.1 d.2.2.2.1).val
def g30 (d:Tys.data as30):Tys.data rs30:=(f30 d).getD (Tys.dflt rs30)
def p30:PureC:=pcOf as30 rs30 f30 g30

theorem wk30 (x0:Int) (x1:Int) (x2:Int) (x3:Int):Walks (runPure (kl30_0 Go.Proofs.Try.prog).orc Go.Proofs.Try.prog 400 30 as30 rs30 (x0,x1,x2,x3,())) (t30 x0 x1 x2 x3) [([tt],[1,2])] :=
  ⟨by kernel_rfl,trivial⟩

theorem ok30_t (x0:Int) (x1:Int) (x2:Int) (x3:Int):TrOk (PureRuns Go.Proofs.Try.prog (kl30_0 Go.Proofs.Try.prog).orc 30 as30 rs30 (x0,x1,x2,x3,())) (t30 x0 x1 x2 x3) :=
  Walks.ok (fun _ _ _=>PureRuns.of) (wk30 x0 x1 x2 x3) (by kernel_rfl)

theorem ok30:PureOk Go.Proofs.Try.prog 30 p30:=pureOk_of kl30_0_ok.base (T:=fun (d:Tys.data as30)=>t30 d.1 d.2.1 d.2.2.1 d.2.2.2.1) (by kernel_rfl) (fun (d:Tys.data as30)=>ok30_t d.1 d.2.1 d.2.2.1 d.2.2.2.1)
def kf30 (P:Go.Program):Known:=(kl30_0 P).func 30 p30
theorem kf30_ok:KnownOk Go.Proofs.Try.prog (kf30 Go.Proofs.Try.prog):=kl30_0_ok.func ok30

/-! ductility/modal.CheckDamage -/

abbrev as34:List Ty:=[(.pair (.slice (.int .i64)) (.pair (.slice (.int .i64)) .unit)),(.pair (.int .i64) (.pair (.slice (.pair (.int .i64) (.pair (.int .i64) .unit))) .unit)),(.pair (.int .i64) (.pair (.int .i64) .unit))]
abbrev rs34:List Ty:=[(.int .i64),(.int .i64)]

def t34 (x0:(List Int)) (x0':(List Int)) (x1:Int) (x1':(List (Int×(Int×Unit)))) (x2:Int) (x2':Int):Tr (Tys.data rs34) :=
  Tr.test (Option.isSome (f51 ((0:Int),((wrap64 ((↑(List.length x0):Int) - (1:Int)):Int),(([x2]:List Int),())))))
    (Tr.test (Option.isSome (f67 ((x1,(x1',())),((↑(List.length x0):Int),()))))
      (let r0:=g51 ((0:Int),((wrap64 ((↑(List.length x0):Int) - (1:Int)):Int),(([x2]:List Int),())));
      Tr.test (Option.isSome (f52 ((!r0.1:Bool),((6:Int),()))))
        (Tr.test (Option.isSome (f78 ((x0,(x0',())),())))
          (let r1:=g67 ((x1,(x1',())),((↑(List.length x0):Int),()));
          let r2:=g52 ((!r0.1:Bool),((6:Int),()));
          Tr.test (Option.isSome (f72 (([r1.1,r2.1]:List Int),())))
            (let r3:=g78 ((x0,(x0',())),());
            let r4:=g72 (([r1.1,r2.1]:List Int),());
            Tr.test (Option.isSome (f72 (([r3.2.1,r4.1]:List Int),())))
              (let r5:=g72 (([r3.2.1,r4.1]:List Int),());
              Tr.test ((!eqF r5.1 0:Bool))
                (Tr.fin (((0:Int),(r5.1,()))))
                (Tr.test ((decide ((0:Int) ≤ x2) && decide (x2 < (↑(List.length x0'):Int)):Bool))
                  (Tr.test (Option.isSome (f51 ((1:Int),((List.getD x0' (Int.toNat x2) (0:Int):Int),(([x2']:List Int),())))))
                    (let r6:=g51 ((1:Int),((List.getD x0' (Int.toNat x2) (0:Int):Int),(([x2']:List Int),())));
                    Tr.test ((!r6.1:Bool))
                      (Tr.fin (((0:Int),((2:Int),()))))
                      (Tr.test ((Nat.beq (List.length x0') (0:Nat):Bool))
                        (Tr.stop)
                        (Tr.test ((Nat.ble ((0:Nat) + List.length x0') (0:Nat):Bool))
                          (Tr.stop)
                          (Tr.test ((Nat.ble (((2:Nat) * ((0:Nat) + List.length x0') + (192:Nat)) * (8:Nat)) (281474976710656:Nat) && Nat.ble ((0:Nat) + List.length x0') (281474976710656:Nat):Bool))
                            (Tr.test ((decide ((0:Int) ≤ x2) && decide (x2 < (↑((0:Nat) + List.length x0'):Int)):Bool))
                              (Tr.test ((Nat.ble ((0:Nat) + Int.toNat x2 + (1:Nat)) (List.length ([]++x0')):Bool))
                                (Tr.test ((Nat.beq ((0:Nat) + List.length x0') (List.length (List.set ([]++x0') ((0:Nat) + Int.toNat x2) x2')):Bool))
                                  (Tr.test (Option.isSome (f70 (((x0,((List.set ([]++x0') ((0:Nat) + Int.toNat x2) x2':List Int),())),()),((x1,(x1',())),()))))
                                    (let r7:=g70 (((x0,((List.set ([]++x0') ((0:Nat) + Int.toNat x2) x2':List Int),())),()),((x1,(x1',())),()));
                                    Tr.fin ((r7.1,(r7.2.1,()))))
                                    (Tr.stop))
                                  (Tr.stop))
                                (Tr.stop))
                              (Tr.stop))
                            (Tr.stop)))))
                    (Tr.stop))
                  (Tr.stop)))
              (Tr.stop))
            (Tr.stop))
          (Tr.stop))
        (Tr.stop))
      (Tr.stop))
    (Tr.stop)

def f34 (d:Tys.data as34):Option (Tys.data rs34):=(t34 d.1.1 d.1.2.1 d.2.1.1 d.2.1.2.1 d.2.2.1.1 d.2.2.1.2.1).val
def g34 (d:Tys.data as34):Tys.data rs34:=(f34 d).getD (Tys.dflt rs34)
def p34:PureC:=pcOf as34 rs34 f34 g34

theorem wk34 (x0:(List Int)) (x0':(List Int)) (x1:Int) (x1':(List (Int×(Int×Unit)))) (x2:Int) (x2':Int):Walks (runPure (kf30 Go.Proofs.Try.prog).orc Go.Proofs.Try.prog 400 34 as34 rs34 ((x0,x0',()),(x1,x1',()),(x2,x2',()),())) (t34 x0 x0' x1 x1' x2 x2') [([true,true,true,true,true,true,true],[2,2,4,1,6,1,8,10,12,14,1]),([true,true,true,true,true,true,false,true,true,true],[2,4,1,6,0,8,10,1,12,1,14,16,18,20,1]),([true,true,true,true,true,true,false,true,true,false,false,false,true,true,true,true,true],[2,4,6,8,10,12,14,0,14,16,18,1,20,0,22,24,1,26,1,28,30,32,34,1])] :=
  ⟨by kernel_rfl,by kernel_rfl,by kernel_rfl,trivial⟩

theorem ok34_t (x0:(List Int)) (x0':(List Int)) (x1:Int) (x1':(List (Int×(Int×Unit)))) (x2:Int) (x2':Int):TrOk (PureRuns Go.Proofs.Try.prog (kf30 Go.Proofs.Try.prog).orc 34 as34 rs34 ((x0,x0',()),(x1,x1',()),(x2,x2',()),())) (t34 x0 x0' x1 x1' x2 x2') :=
  Walks.ok (fun _ _ _=>PureRuns.of) (wk34 x0 x0' x1 x1' x2 x2') (by kernel_rfl)

theorem ok34:PureOk Go.Proofs.Try.prog 34 p34:=pureOk_of kf30_ok.base (T:=fun (d:Tys.data as34)=>t34 d.1.1 d.1.2.1 d.2.1.1 d.2.1.2.1 d.2.2.1.1 d.2.2.1.2.1) (by kernel_rfl) (fun (d:Tys.data as34)=>ok34_t d.1.1 d.1.2.1 d.2.1.1 d.2.1.2.1 d.2.2.1.1 d.2.2.1.2.1)
def kf34 (P:Go.Program):Known:=(kf30 P).func 34 p34
theorem kf34_ok:KnownOk Go.Proofs.Try.prog (kf34 Go.Proofs.Try.prog):=kf30_ok.func ok34

/-! loop 0 of ductility/ductilitylaw06.ModalExplained -/

abbrev sh7_0:Sh:={ n:=225,slots:=[3,4,7,8,9,10,11,12,13],pats:=[.ptr 0 2 0,.ptr 1 2 0,.ty (.int .i64),.ty (.int .i64),.ptr 2 2 0,.ptr 3 2 0,.ptr 4 2 0,.acc (.pair (.int .i64) (.pair (.int .i64) .unit)),.ty (.int .i64)],boxes:=[.row [.ty (.slice (.int .i64)),.ty (.slice (.int .i64))],.row [.ty (.int .i64),.ty (.int .i64)],.row [.ty (.slice (.int .i64)),.ty (.slice (.int .i64))],.row [.ty (.int .i64),.acc (.pair (.int .i64) (.pair (.int .i64) .unit))],.row [.ty (.int .i64),.acc (.pair (.int .i64) (.pair (.int .i64) .unit))]] }
abbrev shb7_0:Sh:={ n:=225,slots:=[3,4,10,11,12],pats:=[.ptr 0 2 0,.ptr 1 2 0,.ptr 3 2 0,.ptr 4 2 0,.acc (.pair (.int .i64) (.pair (.int .i64) .unit))],boxes:=[.row [.ty (.slice (.int .i64)),.ty (.slice (.int .i64))],.row [.ty (.int .i64),.ty (.int .i64)],.row [.ty (.slice (.int .i64)),.ty (.slice (.int .i64))],.row [.ty (.int .i64),.acc (.pair (.int .i64) (.pair (.int .i64) .unit))],.row [.ty (.int .i64),.acc (.pair (.int .i64) (.pair (.int .i64) .unit))]] }
abbrev shr7_0:Sh:={ n:=225,slots:=[6],pats:=[.ty .bool],boxes:=[.row [.ty (.slice (.int .i64)),.ty (.slice (.int .i64))],.row [.ty (.int .i64),.ty (.int .i64)],.row [.ty (.slice (.int .i64)),.ty (.slice (.int .i64))],.row [.ty (.int .i64),.acc (.pair (.int .i64) (.pair (.int .i64) .unit))],.row [.ty (.int .i64),.acc (.pair (.int .i64) (.pair (.int .i64) .unit))]] }

def t7_0 (x2:Int) (x3:Int) (x7:(List (Int×(Int×Unit)))) (x8:Int) (b0_0:(List Int)) (b0_1:(List Int)) (b1_0:Int) (b1_1:Int) (b2_0:(List Int)) (b2_1:(List Int)) (b3_0:Int) (b3_1:(List (Int×(Int×Unit)))) (b4_0:Int) (b4_1:(List (Int×(Int×Unit)))):Tr (Out sh7_0.data shb7_0.data shr7_0.data) :=
  Tr.test ((!leF (↑(List.length b0_0):Int) x8:Bool))
    (Tr.test (Option.isSome (f11 ((b0_0,(b0_1,())),())))
      (let r0:=g11 ((b0_0,(b0_1,())),());
      Tr.test (Option.isSome (f13 ((r0.1.1,(r0.1.2.1,())),(x8,(x2,())))))
        (Tr.test (Option.isSome (f11 ((b2_0,(b2_1,())),())))
          (let r2:=g11 ((b2_0,(b2_1,())),());
          Tr.test (Option.isSome (f13 ((r2.1.1,(r2.1.2.1,())),(x8,(x2,())))))
            (let r1:=g13 ((r0.1.1,(r0.1.2.1,())),(x8,(x2,())));
            Tr.test ((!eqF r1.2.1 0:Bool))
              (Tr.fin (.ret (((false:Bool),()),((b0_0,(b0_1,())),((b1_0,(b1_1,())),((b2_0,(b2_1,())),((b3_0,(b3_1,())),((b4_0,(b4_1,())),()))))))))
              (let r3:=g13 ((r2.1.1,(r2.1.2.1,())),(x8,(x2,())));
              Tr.test ((!eqF r3.2.1 0:Bool))
                (Tr.fin (.ret (((false:Bool),()),((b0_0,(b0_1,())),((b1_0,(b1_1,())),((b2_0,(b2_1,())),((b3_0,(b3_1,())),((b4_0,(b4_1,())),()))))))))
                (Tr.test (Option.isSome (f21 (r1.1.1,((0:Int),((10000:Int),())))))
                  (let r4:=g21 (r1.1.1,((0:Int),((10000:Int),())));
                  Tr.test ((!r4.1:Bool))
                    (Tr.fin (.ret (((false:Bool),()),((b0_0,(b0_1,())),((b1_0,(b1_1,())),((b2_0,(b2_1,())),((b3_0,(b3_1,())),((b4_0,(b4_1,())),()))))))))
                    (Tr.test (Option.isSome (f21 (r3.1.1,((0:Int),((10000:Int),())))))
                      (let r5:=g21 (r3.1.1,((0:Int),((10000:Int),())));
                      Tr.test ((!r5.1:Bool))
                        (Tr.fin (.ret (((false:Bool),()),((b0_0,(b0_1,())),((b1_0,(b1_1,())),((b2_0,(b2_1,())),((b3_0,(b3_1,())),((b4_0,(b4_1,())),()))))))))
                        (Tr.test ((Nat.ble (((2:Nat) * (List.length x7 + (1:Nat)) + (192:Nat)) * (16:Nat)) (281474976710656:Nat) && Nat.ble (List.length x7 + (1:Nat)) (281474976710656:Nat):Bool))
                          (Tr.test ((Nat.ble (((2:Nat) * (List.length b3_1 + (1:Nat)) + (192:Nat)) * (16:Nat)) (281474976710656:Nat) && Nat.ble (List.length b3_1 + (1:Nat)) (281474976710656:Nat):Bool))
                            (Tr.test ((Nat.ble (((2:Nat) * (List.length b4_1 + (1:Nat)) + (192:Nat)) * (16:Nat)) (281474976710656:Nat) && Nat.ble (List.length b4_1 + (1:Nat)) (281474976710656:Nat):Bool))
                              (Tr.fin (.again ((x2,(x3,((x7++[(r1.1.1,r1.1.2.1,())]:List (Int×Int×PUnit)),((wrap64 (x8 + (1:Int)):Int),())))),((b0_0,(b0_1,())),((b1_0,(b1_1,())),((b2_0,(b2_1,())),((b3_0,((b3_1++[(if (0:Int) < wrap64 (r1.1.1 - x3) then wrap64 (r1.1.1 - x3) else (0:Int),wrap64 (r1.1.2.1 + x3),())]:List (Int×Int×PUnit)),())),((b4_0,((b4_1++[(if (0:Int) < wrap64 (r3.1.1 - x3) then wrap64 (r3.1.1 - x3) else (0:Int),wrap64 (r3.1.2.1 + x3),())]:List (Int×Int×PUnit)),())),()))))))))
                              (Tr.stop))
                            (Tr.stop))
                          (Tr.stop)))
                      (Tr.stop)))
                  (Tr.stop))))
            (Tr.stop))
          (Tr.stop))
        (Tr.stop))
      (Tr.stop))
    (Tr.fin (.brk ((x7,()),((b0_0,(b0_1,())),((b1_0,(b1_1,())),((b2_0,(b2_1,())),((b3_0,(b3_1,())),((b4_0,(b4_1,())),()))))))))

def s7_0 (d:sh7_0.data):Option (Out sh7_0.data shb7_0.data shr7_0.data):=(t7_0 d.1.1 d.1.2.1 d.1.2.2.1 d.1.2.2.2.1 d.2.1.1 d.2.1.2.1 d.2.2.1.1 d.2.2.1.2.1 d.2.2.2.1.1 d.2.2.2.1.2.1 d.2.2.2.2.1.1 d.2.2.2.2.1.2.1 d.2.2.2.2.2.1.1 d.2.2.2.2.2.1.2.1).val
def l7_0 (d:sh7_0.data):Option (shb7_0.data ⊕ shr7_0.data):=itr s7_0 rounds d
def b7_0 (d:sh7_0.data):shb7_0.data:=outB shb7_0.dflt (l7_0 d)
def r7_0 (d:sh7_0.data):shr7_0.data:=outR shr7_0.dflt (l7_0 d)
def lc7_0:LoopC:=lcOf sh7_0 shb7_0 shr7_0 l7_0 b7_0 r7_0

theorem wk7_0 (x2:Int) (x3:Int) (x7:(List (Int×(Int×Unit)))) (x8:Int) (b0_0:(List Int)) (b0_1:(List Int)) (b1_0:Int) (b1_1:Int) (b2_0:(List Int)) (b2_1:(List Int)) (b3_0:Int) (b3_1:(List (Int×(Int×Unit)))) (b4_0:Int) (b4_1:(List (Int×(Int×Unit)))):Walks (runBody (kf34 Go.Proofs.Try.prog).orc Go.Proofs.Try.prog 400 7 0 sh7_0 shb7_0 shr7_0 ((x2,x3,x7,x8,()),(b0_0,b0_1,()),(b1_0,b1_1,()),(b2_0,b2_1,()),(b3_0,b3_1,()),(b4_0,b4_1,()),())) (t7_0 x2 x3 x7 x8 b0_0 b0_1 b1_0 b1_1 b2_0 b2_1 b3_0 b3_1 b4_0 b4_1) [([true,true,true,true,true,true],[1,1,1,1,1,1,1,1,1,1,1,2,2,2,4,6,8,10,12]),([true,true,true,true,true,false,true],[1,1,1,1,1,1,2,2,2,2,2,4,4,4,6,8,10,12,14]),([true,true,true,true,true,false,false,true,true],[1,2,2,2,2,2,6,6,4,6,6,6,8,8,8,10,12,14,16,18]),([true,true,true,true,true,false,false,true,false,true,true],[2,6,6,4,6,6,6,10,10,8,10,10,10,12,12,12,14,16,18,20,22]),([true,true,true,true,true,false,false,true,false,true,false,true,true,true],[1,2,0,1,4,0,1,6,0,8,12,12,10,12,12,12,16,16,14,16,16,16,18,18,18,20,22,24,26,28]),([ff],[2])] :=
  ⟨by kernel_rfl,by kernel_rfl,by kernel_rfl,by kernel_rfl,by kernel_rfl,by kernel_rfl,trivial⟩

theorem ok7_0_t (x2:Int) (x3:Int) (x7:(List (Int×(Int×Unit)))) (x8:Int) (b0_0:(List Int)) (b0_1:(List Int)) (b1_0:Int) (b1_1:Int) (b2_0:(List Int)) (b2_1:(List Int)) (b3_0:Int) (b3_1:(List (Int×(Int×Unit)))) (b4_0:Int) (b4_1:(List (Int×(Int×Unit)))):TrOk (BodyRuns Go.Proofs.Try.prog (kf34 Go.Proofs.Try.prog).orc 7 0 sh7_0 shb7_0 shr7_0 ((x2,x3,x7,x8,()),(b0_0,b0_1,()),(b1_0,b1_1,()),(b2_0,b2_1,()),(b3_0,b3_1,()),(b4_0,b4_1,()),())) (t7_0 x2 x3 x7 x8 b0_0 b0_1 b1_0 b1_1 b2_0 b2_1 b3_0 b3_1 b4_0 b4_1) :=
  Walks.ok (fun _ _ _=>BodyRuns.of) (wk7_0 x2 x3 x7 x8 b0_0 b0_1 b1_0 b1_1 b2_0 b2_1 b3_0 b3_1 b4_0 b4_1) (by kernel_rfl)

theorem ok7_0:LoopOk Go.Proofs.Try.prog 7 0 lc7_0:=loopOk_of (sh:=sh7_0) (shB:=shb7_0) (shR:=shr7_0) kf34_ok.base (T:=fun (d:sh7_0.data)=>t7_0 d.1.1 d.1.2.1 d.1.2.2.1 d.1.2.2.2.1 d.2.1.1 d.2.1.2.1 d.2.2.1.1 d.2.2.1.2.1 d.2.2.2.1.1 d.2.2.2.1.2.1 d.2.2.2.2.1.1 d.2.2.2.2.1.2.1 d.2.2.2.2.2.1.1 d.2.2.2.2.2.1.2.1) (by kernel_rfl) rfl (fun (d:sh7_0.data)=>ok7_0_t d.1.1 d.1.2.1 d.1.2.2.1 d.1.2.2.2.1 d.2.1.1 d.2.1.2.1 d.2.2.1.1 d.2.2.1.2.1 d.2.2.2.1.1 d.2.2.2.1.2.1 d.2.2.2.2.1.1 d.2.2.2.2.1.2.1 d.2.2.2.2.2.1.1 d.2.2.2.2.2.1.2.1) (fun _=>rfl)
def kl7_0 (P:Go.Program):Known:=(kf34 P).loop 7 0 lc7_0
theorem kl7_0_ok:KnownOk Go.Proofs.Try.prog (kl7_0 Go.Proofs.Try.prog):=kf34_ok.loop ok7_0

/-! ductility/ductilitylaw06.ModalExplained -/

abbrev as7:List Ty:=[(.pair (.slice (.int .i64)) (.pair (.slice (.int .i64)) .unit)),(.pair (.int .i64) (.pair (.int .i64) .unit)),(.pair (.int .i64) (.pair (.int .i64) .unit))]
abbrev rs7:List Ty:=[.bool]

def t7 (x0:(List Int)) (x0':(List Int)) (x1:Int) (x1':Int) (x2:Int) (x2':Int):Tr (Tys.data rs7) :=
  Tr.test (Option.isSome (f14 ((x0,(x0',())),())))
    (let r0:=g14 ((x0,(x0',())),());
    Tr.test ((!eqF r0.1 0:Bool))
      (Tr.fin (((true:Bool),())))
      (Tr.test ((!leF (↑(List.length x0):Int) (3:Int):Bool))
        (Tr.fin (((true:Bool),())))
        (Tr.test (Option.isSome (f37 ((x0,(x0',())),((x1,(x1',())),()))))
          (let r1:=g37 ((x0,(x0',())),((x1,(x1',())),()));
          Tr.test ((!eqF r1.1 0:Bool))
            (Tr.fin (((true:Bool),())))
            (Tr.test (Option.isSome (f21 (x2,((1:Int),((20:Int),())))))
              (let r2:=g21 (x2,((1:Int),((20:Int),())));
              Tr.test ((!r2.1:Bool))
                (Tr.fin (((true:Bool),())))
                (Tr.test (Option.isSome (f21 (x2',((0:Int),((5:Int),())))))
                  (let r3:=g21 (x2',((0:Int),((5:Int),())));
                  Tr.test ((!r3.1:Bool))
                    (Tr.fin (((true:Bool),())))
                    (Tr.test (Option.isSome (f39 ((x0,(x0',())),((x1,(x1',())),()))))
                      (let r4:=g39 ((x0,(x0',())),((x1,(x1',())),()));
                      Tr.test (Option.isSome (l7_0 ((x2,(x2',(([]:List (Int×Int×PUnit)),((0:Int),())))),((x0,(x0',())),((x1,(x1',())),((r4.1.1,(r4.1.2.1,())),((x2,(([]:List (Int×Int×PUnit)),())),((x2,(([]:List (Int×Int×PUnit)),())),()))))))))
                        (Tr.test (isRet (l7_0 ((x2,(x2',(([]:List (Int×Int×PUnit)),((0:Int),())))),((x0,(x0',())),((x1,(x1',())),((r4.1.1,(r4.1.2.1,())),((x2,(([]:List (Int×Int×PUnit)),())),((x2,(([]:List (Int×Int×PUnit)),())),()))))))))
                          (let r5:=r7_0 ((x2,(x2',(([]:List (Int×Int×PUnit)),((0:Int),())))),((x0,(x0',())),((x1,(x1',())),((r4.1.1,(r4.1.2.1,())),((x2,(([]:List (Int×Int×PUnit)),())),((x2,(([]:List (Int×Int×PUnit)),())),()))))));
                          Tr.fin ((r5.1.1,())))
                          (let r6:=b7_0 ((x2,(x2',(([]:List (Int×Int×PUnit)),((0:Int),())))),((x0,(x0',())),((x1,(x1',())),((r4.1.1,(r4.1.2.1,())),((x2,(([]:List (Int×Int×PUnit)),())),((x2,(([]:List (Int×Int×PUnit)),())),()))))));
                          Tr.test (Option.isSome (f11 ((r6.2.1.1,(r6.2.1.2.1,())),())))
                            (Tr.test (Option.isSome (f33 ((r6.2.2.2.2.1.1,(r6.2.2.2.2.1.2.1,())),())))
                              (let r7:=g11 ((r6.2.1.1,(r6.2.1.2.1,())),());
                              let r8:=g33 ((r6.2.2.2.2.1.1,(r6.2.2.2.2.1.2.1,())),());
                              Tr.test (Option.isSome (f32 ((r7.1.1,(r7.1.2.1,())),((r8.1.1,(r8.1.2.1,())),()))))
                                (let r9:=g32 ((r7.1.1,(r7.1.2.1,())),((r8.1.1,(r8.1.2.1,())),()));
                                Tr.test ((!eqF r9.2.1 0:Bool))
                                  (Tr.fin (((false:Bool),())))
                                  (Tr.test ((true && decide ((0:Int) < (↑(List.length r6.2.1.2.1):Int)):Bool))
                                    (Tr.test ((!(r9.1.1 == (0:Int) && (r9.1.2.1 == List.getD r6.2.1.2.1 (0:Nat) (0:Int) && true)):Bool))
                                      (Tr.fin (((false:Bool),())))
                                      (Tr.test (Option.isSome (f41 (r6.1.1,())))
                                        (Tr.test (Option.isSome (f41 (r6.2.2.2.2.1.2.1,())))
                                          (let r10:=g41 (r6.1.1,());
                                          let r11:=g41 (r6.2.2.2.2.1.2.1,());
                                          Tr.test (Option.isSome (f40 (r10.1,(r11.1,()))))
                                            (let r12:=g40 (r10.1,(r11.1,()));
                                            Tr.test ((!eqF r12.2.1 0:Bool))
                                              (Tr.fin (((false:Bool),())))
                                              (Tr.test ((!eqF (↑(List.length r12.1):Int) (0:Int):Bool))
                                                (Tr.fin (((false:Bool),())))
                                                (Tr.test (Option.isSome (f33 ((r6.2.2.2.2.2.1.1,(r6.2.2.2.2.2.1.2.1,())),())))
                                                  (let r13:=g33 ((r6.2.2.2.2.2.1.1,(r6.2.2.2.2.2.1.2.1,())),());
                                                  Tr.test (Option.isSome (f32 ((r7.1.1,(r7.1.2.1,())),((r13.1.1,(r13.1.2.1,())),()))))
                                                    (let r14:=g32 ((r7.1.1,(r7.1.2.1,())),((r13.1.1,(r13.1.2.1,())),()));
                                                    Tr.test ((!eqF r14.2.1 0:Bool))
                                                      (Tr.fin (((false:Bool),())))
                                                      (Tr.test (Option.isSome (f37 ((r6.2.1.1,(r6.2.1.2.1,())),((r14.1.1,(r14.1.2.1,())),()))))
                                                        (let r15:=g37 ((r6.2.1.1,(r6.2.1.2.1,())),((r14.1.1,(r14.1.2.1,())),()));
                                                        Tr.test ((!eqF r15.1 0:Bool))
                                                          (Tr.fin (((false:Bool),())))
                                                          (Tr.test ((decide ((0:Int) ≤ r14.1.1) && decide (r14.1.1 < (↑(List.length r6.2.1.2.1):Int)):Bool))
                                                            (Tr.test ((decide ((0:Int) ≤ r6.2.2.1.1) && decide (r6.2.2.1.1 < (↑(List.length r6.2.1.2.1):Int)):Bool))
                                                              (Tr.test (Option.isSome (f30 (r14.1.2.1,((List.getD r6.2.1.2.1 (Int.toNat r14.1.1) (0:Int):Int),(r6.2.2.1.2.1,((List.getD r6.2.1.2.1 (Int.toNat r6.2.2.1.1) (0:Int):Int),()))))))
                                                                (let r16:=g30 (r14.1.2.1,((List.getD r6.2.1.2.1 (Int.toNat r14.1.1) (0:Int):Int),(r6.2.2.1.2.1,((List.getD r6.2.1.2.1 (Int.toNat r6.2.2.1.1) (0:Int):Int),()))));
                                                                Tr.test ((!leF (0:Int) r16.1:Bool))
                                                                  (Tr.fin (((false:Bool),())))
                                                                  (Tr.test (Option.isSome (f34 ((r7.1.1,(r7.1.2.1,())),((r13.1.1,(r13.1.2.1,())),((r14.1.1,(r14.1.2.1,())),())))))
                                                                    (let r17:=g34 ((r7.1.1,(r7.1.2.1,())),((r13.1.1,(r13.1.2.1,())),((r14.1.1,(r14.1.2.1,())),())));
                                                                    Tr.test ((eqF r17.2.1 0:Bool))
                                                                      (Tr.fin (((eqF r17.1 0:Bool),())))
                                                                      (Tr.fin (((false:Bool),()))))
                                                                    (Tr.stop)))
                                                                (Tr.stop))
                                                              (Tr.stop))
                                                            (Tr.stop)))
                                                        (Tr.stop)))
                                                    (Tr.stop))
                                                  (Tr.stop))))
                                            (Tr.stop))
                                          (Tr.stop))
                                        (Tr.stop)))
                                    (Tr.stop)))
                                (Tr.stop))
                              (Tr.stop))
                            (Tr.stop)))
                        (Tr.stop))
                      (Tr.stop)))
                  (Tr.stop)))
              (Tr.stop)))
          (Tr.stop))))
    (Tr.stop)

def f7 (d:Tys.data as7):Option (Tys.data rs7):=(t7 d.1.1 d.1.2.1 d.2.1.1 d.2.1.2.1 d.2.2.1.1 d.2.2.1.2.1).val
def g7 (d:Tys.data as7):Tys.data rs7:=(f7 d).getD (Tys.dflt rs7)
def p7:PureC:=pcOf as7 rs7 f7 g7

theorem wk7 (x0:(List Int)) (x0':(List Int)) (x1:Int) (x1':Int) (x2:Int) (x2':Int):Walks (runPure (kl7_0 Go.Proofs.Try.prog).orc Go.Proofs.Try.prog 400 7 as7 rs7 ((x0,x0',()),(x1,x1',()),(x2,x2',()),())) (t7 x0 x0' x1 x1' x2 x2') [([true,true],[1,1,1,1,1,1,1,1,1,1,1,1,1,1,2,2,2,2,2,4,1,1,0,1]),([true,false,true],[1,1,1,1,1,1,1,1,1,2,2,2,2,2,4,4,4,4,4,6,1,1,0,1]),([true,false,false,true,true],[1,1,1,1,1,2,2,2,2,6,6,4,6,6,6,8,8,8,8,8,10,1,1,0,1]),([true,false,false,true,false,true,true],[1,2,2,2,2,6,6,4,6,6,10,10,8,10,10,10,12,12,12,12,12,14,1,1,0,1]),([true,false,false,true,false,true,false,true,true],[2,6,6,4,6,6,10,10,8,10,10,14,14,12,14,14,14,16,16,16,16,16,18,1,1,0,1]),([true,false,false,true,false,true,false,true,false,true,true,true],[2,4,6,8,12,12,10,12,12,16,16,14,16,16,20,20,18,20,20,20,22,22,22,22,22,24,1,1,0,1]),([true,false,false,true,false,true,false,true,false,true,true,false,true,true,true,true],[1,2,2,2,2,2,2,2,2,4,6,8,10,12,14,16,20,20,18,20,20,24,24,22,24,24,28,28,26,28,28,28,30,30,30,30,30,32,1,1,0,1]),([true,false,false,true,false,true,false,true,false,true,true,false,true,true,true,false,true,true],[2,6,6,6,6,4,6,6,6,6,8,10,12,14,16,18,20,24,24,22,24,24,28,28,26,28,28,32,32,30,32,32,32,34,34,34,34,34,36,1,1,0,1]),([true,false,false,true,false,true,false,true,false,true,true,false,true,true,true,false,true,false,true,true,true,true],[1,2,2,2,2,4,6,8,10,14,14,14,14,12,14,14,14,14,16,18,20,22,24,26,28,32,32,30,32,32,36,36,34,36,36,40,40,38,40,40,40,42,42,42,42,42,44,1,1,0,1]),([true,false,false,true,false,true,false,true,false,true,true,false,true,true,true,false,true,false,true,true,true,false,true],[2,4,4,4,4,6,8,10,12,16,16,16,16,14,16,16,16,16,18,20,22,24,26,28,30,34,34,32,34,34,38,38,36,38,38,42,42,40,42,42,42,44,44,44,44,44,46,1,1,0,1]),([true,false,false,true,false,true,false,true,false,true,true,false,true,true,true,false,true,false,true,true,true,false,false,true,true,true],[1,1,1,1,1,1,1,1,1,1,1,1,1,1,1,1,1,1,1,1,2,2,2,2,2,4,6,28,8,10,10,10,10,12,14,16,18,22,22,22,22,20,22,22,22,22,24,26,28,30,32,34,36,40,40,38,40,40,44,44,42,44,44,48,48,46,48,48,48,50,50,50,50,50,52,1,1,0,1]),([true,false,false,true,false,true,false,true,false,true,true,false,true,true,true,false,true,false,true,true,true,false,false,true,true,false,true,true],[1,2,2,2,2,2,2,2,2,2,2,2,2,2,2,2,2,2,2,2,6,6,4,6,6,6,8,10,32,12,14,14,14,14,16,18,20,22,26,26,26,26,24,26,26,26,26,28,30,32,34,36,38,40,44,44,42,44,44,48,48,46,48,48,52,52,50,52,52,52,54,54,54,54,54,56,1,1,0,1]),([true,false,false,true,false,true,false,true,false,true,true,false,true,true,true,false,true,false,true,true,true,false,false,true,true,false,true,false,true,true,true,true],[2,10,10,4,10,10,6,10,10,10,10,10,10,10,10,8,10,10,10,10,10,10,10,14,14,12,14,14,14,16,18,40,20,22,22,22,22,24,26,28,30,34,34,34,34,32,34,34,34,34,36,38,40,42,44,46,48,52,52,50,52,52,56,56,54,56,56,60,60,58,60,60,60,62,62,62,62,62,64,1,1,0,1]),([true,false,false,true,false,true,false,true,false,true,true,false,true,true,true,false,true,false,true,true,true,false,false,true,true,false,true,false,true,true,true,false,true,true],[2,2,2,4,22,44,6,14,14,8,14,14,10,14,14,14,14,14,14,14,14,12,14,14,14,14,14,14,14,18,18,16,18,18,18,20,22,44,24,26,26,26,26,28,30,32,34,38,38,38,38,36,38,38,38,38,40,42,44,46,48,50,52,56,56,54,56,56,60,60,58,60,60,64,64,62,64,64,64,66,66,66,66,66,68,1,1,0,1]),([true,false,false,true,false,true,false,true,false,true,true,false,true,true,true,false,true,false,true,true,true,false,false,true,true,false,true,false,true,true,true,false,true,false],[2,2,2,4,22,44,6,14,14,8,14,14,10,14,14,14,14,14,14,14,14,12,14,14,14,14,14,14,14,18,18,16,18,18,18,20,22,44,24,26,26,26,26,28,30,32,34,38,38,38,38,36,38,38,38,38,40,42,44,46,48,50,52,56,56,54,56,56,60,60,58,60,60,64,64,62,64,64,64,66,66,66,66,66,68,1,1,0,1])] :=
  ⟨by kernel_rfl,by kernel_rfl,by kernel_rfl,by kernel_rfl,by kernel_rfl,by kernel_rfl,by kernel_rfl,by kernel_rfl,by kernel_rfl,by kernel_rfl,by kernel_rfl,by kernel_rfl,by kernel_rfl,by kernel_rfl,by kernel_rfl,trivial⟩

theorem ok7_t (x0:(List Int)) (x0':(List Int)) (x1:Int) (x1':Int) (x2:Int) (x2':Int):TrOk (PureRuns Go.Proofs.Try.prog (kl7_0 Go.Proofs.Try.prog).orc 7 as7 rs7 ((x0,x0',()),(x1,x1',()),(x2,x2',()),())) (t7 x0 x0' x1 x1' x2 x2') :=
  Walks.ok (fun _ _ _=>PureRuns.of) (wk7 x0 x0' x1 x1' x2 x2') (by kernel_rfl)

theorem ok7:PureOk Go.Proofs.Try.prog 7 p7:=pureOk_of kl7_0_ok.base (T:=fun (d:Tys.data as7)=>t7 d.1.1 d.1.2.1 d.2.1.1 d.2.1.2.1 d.2.2.1.1 d.2.2.1.2.1) (by kernel_rfl) (fun (d:Tys.data as7)=>ok7_t d.1.1 d.1.2.1 d.2.1.1 d.2.1.2.1 d.2.2.1.1 d.2.2.1.2.1)

end Go.Vm.Mo
