import Derived.Test.YtlaojojnembodaaGreatA5
import Derived.KernelRfl
import Derived.Test.YtlaojojnembodaaGreatProg
import Derived.Test.YtlaojojnembodaaGreatRsFc
set_option linter.unusedVariables false
set_option linter.unusedSimpArgs false

namespace Go.Vm.Mo
open Go
set_option linter.unusedVariables false
abbrev as13:List Ty:=[(.pair (.slice (.pair (.int .i64) (.pair (.int .i64) (.pair (.slice (.pair (.int .i64) (.pair (.int .i64) (.pair .bool .unit)))) .unit)))) .unit),(.pair (.slice (.int .i64)) (.pair (.slice (.int .i64)) (.pair (.slice (.pair (.int .i64) (.pair (.slice (.pair (.int .i64) (.pair .bool .unit))) .unit))) .unit)))]
abbrev rs13:List Ty:=[(.int .i64),(.int .i64)]
def t13 (x0:(List (Int×(Int×((List (Int×(Int×(Bool×Unit))))×Unit))))) (x1:(List Int)) (x1':(List Int)) (x1'':(List (Int×((List (Int×(Bool×Unit)))×Unit)))):Tr (Tys.data rs13) :=
  Tr.test ((!eqF (↑(List.length x1):Int) (↑(List.length x0):Int):Bool))
    (Tr.fin (((0:Int),((10:Int),()))))
    (Tr.test (!eqF (↑(List.length x1'):Int) (↑(List.length x0):Int))
      (Tr.fin (((0:Int),((10:Int),()))))
      (Tr.test ((!eqF (↑(List.length x1''):Int) (↑(List.length x0):Int):Bool))
        (Tr.fin (((0:Int),((10:Int),()))))
        (Tr.test (Option.isSome (l13_0 (((↑(List.length x0):Int),((0:Int),())),((x0,()),((x1,(x1',(x1'',()))),())))))
          (Tr.test (isRet (l13_0 (((↑(List.length x0):Int),((0:Int),())),((x0,()),((x1,(x1',(x1'',()))),())))))
            (let r0:=r13_0 (((↑(List.length x0):Int),((0:Int),())),((x0,()),((x1,(x1',(x1'',()))),())));
            Tr.fin ((r0.1.1,(r0.1.2.1,()))))
            (Tr.fin (((0:Int),((0:Int),())))))
          (Tr.stop))))
def f13 (d:Tys.data as13):Option (Tys.data rs13):=(t13 d.1.1 d.2.1.1 d.2.1.2.1 d.2.1.2.2.1).val
def g13 (d:Tys.data as13):Tys.data rs13:=(f13 d).getD (Tys.dflt rs13)
def p13:PureC:=pcOf as13 rs13 f13 g13
theorem wk13 (x0:(List (Int×(Int×((List (Int×(Int×(Bool×Unit))))×Unit))))) (x1:(List Int)) (x1':(List Int)) (x1'':(List (Int×((List (Int×(Bool×Unit)))×Unit)))):Walks (runPure (kl13_0 Go.Proofs.Tryz.prog).orc Go.Proofs.Tryz.prog 400 13 as13 rs13 ((x0,()),(x1,x1',x1'',()),())) (t13 x0 x1 x1' x1'') [(bl 1 1,[1,1,1,1,1,1,1,2,2,2,2,2,2]),(bl 2 2,[1,2,2,2,2,2,2,4,4,4,4,4,4]),(bl 3 4,[2,4,4,4,4,4,4,6,6,6,6,6,6]),(bl 5 24,[2,4,6,8,8,8,8,8,8,10,10,10,10,10,10]),(bl 5 8,[2,4,6,8,8,8,8,8,8,10,10,10,10,10,10])] :=
  ⟨by kernel_rfl,by kernel_rfl,by kernel_rfl,by kernel_rfl,by kernel_rfl,trivial⟩
theorem ok13_t (x0:(List (Int×(Int×((List (Int×(Int×(Bool×Unit))))×Unit))))) (x1:(List Int)) (x1':(List Int)) (x1'':(List (Int×((List (Int×(Bool×Unit)))×Unit)))):TrOk (PureRuns Go.Proofs.Tryz.prog (kl13_0 Go.Proofs.Tryz.prog).orc 13 as13 rs13 ((x0,()),(x1,x1',x1'',()),())) (t13 x0 x1 x1' x1'') :=
  Walks.ok (fun _ _ _=>PureRuns.of) (wk13 x0 x1 x1' x1'') (by kernel_rfl)
theorem ok13:PureOk Go.Proofs.Tryz.prog 13 p13:=pureOk_of kl13_0_ok.base (T:=fun (d:Tys.data as13)=>t13 d.1.1 d.2.1.1 d.2.1.2.1 d.2.1.2.2.1) (by kernel_rfl) (fun (d:Tys.data as13)=>ok13_t d.1.1 d.2.1.1 d.2.1.2.1 d.2.1.2.2.1)
def kf13 (P:Go.Program):Known:=(kl13_0 P).func 13 p13
theorem kf13_ok:KnownOk Go.Proofs.Tryz.prog (kf13 Go.Proofs.Tryz.prog):=kl13_0_ok.func ok13
abbrev as14:List Ty:=[(.int .i64)]
abbrev rs14:List Ty:=[(.int .i64)]
def t14 (x0:Int):Tr (Tys.data rs14) :=
  Tr.test (Option.isSome (f54 (x0,((-100:Int),((100:Int),())))))
    (let r0:=g54 (x0,((-100:Int),((100:Int),())));
    Tr.test ((!r0.1:Bool))
      (Tr.fin (((2:Int),())))
      (Tr.fin (((0:Int),()))))
    (Tr.stop)
def f14 (d:Tys.data as14):Option (Tys.data rs14):=(t14 d.1).val
def g14 (d:Tys.data as14):Tys.data rs14:=(f14 d).getD (Tys.dflt rs14)
def p14:PureC:=pcOf as14 rs14 f14 g14
theorem wk14 (x0:Int):Walks (runPure (kf13 Go.Proofs.Tryz.prog).orc Go.Proofs.Tryz.prog 400 14 as14 rs14 (x0,())) (t14 x0) [(bl 2 3,[2,4]),(bl 2 1,[2,4])] :=
  ⟨by kernel_rfl,by kernel_rfl,trivial⟩
theorem ok14_t (x0:Int):TrOk (PureRuns Go.Proofs.Tryz.prog (kf13 Go.Proofs.Tryz.prog).orc 14 as14 rs14 (x0,())) (t14 x0) :=
  Walks.ok (fun _ _ _=>PureRuns.of) (wk14 x0) (by kernel_rfl)
theorem ok14:PureOk Go.Proofs.Tryz.prog 14 p14:=pureOk_of kf13_ok.base (T:=fun (d:Tys.data as14)=>t14 d.1) (by kernel_rfl) (fun (d:Tys.data as14)=>ok14_t d.1)
def kf14 (P:Go.Program):Known:=(kf13 P).func 14 p14
theorem kf14_ok:KnownOk Go.Proofs.Tryz.prog (kf14 Go.Proofs.Tryz.prog):=kf13_ok.func ok14
abbrev sh23_0:Sh:={ n:=26,slots:=[0,1,5],pats:=[.ty (.slice (.int .i64)),.ty (.slice (.int .i64)),.ty (.int .i64)],boxes:=[] }
abbrev shb23_0:Sh:={ n:=26,slots:=[],pats:=[],boxes:=[] }
abbrev shr23_0:Sh:={ n:=26,slots:=[4],pats:=[.ty .bool],boxes:=[] }
def t23_0 (x0:(List Int)) (x1:(List Int)) (x2:Int):Tr (Out sh23_0.data shb23_0.data shr23_0.data) :=
  Tr.test ((!leF (↑(List.length x0):Int) x2:Bool))
    (Tr.test (decide ((0:Int) ≤ x2) && decide (x2 < (↑(List.length x0):Int)))
      (Tr.test ((decide ((0:Int) ≤ x2) && decide (x2 < (↑(List.length x1):Int)):Bool))
        (Tr.test ((!eqF (List.getD x0 (Int.toNat x2) (0:Int)) (List.getD x1 (Int.toNat x2) (0:Int)):Bool))
          (Tr.fin (.ret (((false:Bool),()),())))
          (Tr.fin (.again ((x0,(x1,((wrap64 (x2 + (1:Int)):Int),()))),()))))
        (Tr.stop))
      (Tr.stop))
    (Tr.fin (.brk ((),())))
def s23_0 (d:sh23_0.data):Option (Out sh23_0.data shb23_0.data shr23_0.data):=(t23_0 d.1.1 d.1.2.1 d.1.2.2.1).val
def l23_0 (d:sh23_0.data):Option (shb23_0.data ⊕ shr23_0.data):=itr s23_0 rounds d
def b23_0 (d:sh23_0.data):shb23_0.data:=outB shb23_0.dflt (l23_0 d)
def r23_0 (d:sh23_0.data):shr23_0.data:=outR shr23_0.dflt (l23_0 d)
def lc23_0:LoopC:=lcOf sh23_0 shb23_0 shr23_0 l23_0 b23_0 r23_0
theorem wk23_0 (x0:(List Int)) (x1:(List Int)) (x2:Int):Walks (runBody (kf14 Go.Proofs.Tryz.prog).orc Go.Proofs.Tryz.prog 400 23 0 sh23_0 shb23_0 shr23_0 ((x0,x1,x2,()),())) (t23_0 x0 x1 x2) [(bl 4 15,[2,4,6,8]),(bl 4 7,[2,4,6,8]),(bl 1 0,[2])] :=
  ⟨by kernel_rfl,by kernel_rfl,by kernel_rfl,trivial⟩
theorem ok23_0_t (x0:(List Int)) (x1:(List Int)) (x2:Int):TrOk (BodyRuns Go.Proofs.Tryz.prog (kf14 Go.Proofs.Tryz.prog).orc 23 0 sh23_0 shb23_0 shr23_0 ((x0,x1,x2,()),())) (t23_0 x0 x1 x2) :=
  Walks.ok (fun _ _ _=>BodyRuns.of) (wk23_0 x0 x1 x2) (by kernel_rfl)
theorem ok23_0:LoopOk Go.Proofs.Tryz.prog 23 0 lc23_0:=loopOk_of (sh:=sh23_0) (shB:=shb23_0) (shR:=shr23_0) kf14_ok.base (T:=fun (d:sh23_0.data)=>t23_0 d.1.1 d.1.2.1 d.1.2.2.1) (by kernel_rfl) rfl (fun (d:sh23_0.data)=>ok23_0_t d.1.1 d.1.2.1 d.1.2.2.1) (fun _=>rfl)
def kl23_0 (P:Go.Program):Known:=(kf14 P).loop 23 0 lc23_0
theorem kl23_0_ok:KnownOk Go.Proofs.Tryz.prog (kl23_0 Go.Proofs.Tryz.prog):=kf14_ok.loop ok23_0
abbrev as23:List Ty:=[(.slice (.int .i64)),(.slice (.int .i64))]
abbrev rs23:List Ty:=[.bool]
def t23 (x0:(List Int)) (x1:(List Int)):Tr (Tys.data rs23) :=
  Tr.test ((!eqF (↑(List.length x0):Int) (↑(List.length x1):Int):Bool))
    (Tr.fin ((false,())))
    (Tr.test (Option.isSome (l23_0 ((x0,(x1,((0:Int),()))),())))
      (Tr.test (isRet (l23_0 ((x0,(x1,((0:Int),()))),())))
        (let r0:=r23_0 ((x0,(x1,((0:Int),()))),());
        Tr.fin ((r0.1.1,())))
        (Tr.fin (((true:Bool),()))))
      (Tr.stop))
def f23 (d:Tys.data as23):Option (Tys.data rs23):=(t23 d.1 d.2.1).val
def g23 (d:Tys.data as23):Tys.data rs23:=(f23 d).getD (Tys.dflt rs23)
def p23:PureC:=pcOf as23 rs23 f23 g23
theorem wk23 (x0:(List Int)) (x1:(List Int)):Walks (runPure (kl23_0 Go.Proofs.Tryz.prog).orc Go.Proofs.Tryz.prog 400 23 as23 rs23 (x0,x1,())) (t23 x0 x1) [(bl 1 1,[2]),(bl 3 6,[2,4,6]),(bl 3 2,[2,4,6])] :=
  ⟨by kernel_rfl,by kernel_rfl,by kernel_rfl,trivial⟩
theorem ok23_t (x0:(List Int)) (x1:(List Int)):TrOk (PureRuns Go.Proofs.Tryz.prog (kl23_0 Go.Proofs.Tryz.prog).orc 23 as23 rs23 (x0,x1,())) (t23 x0 x1) :=
  Walks.ok (fun _ _ _=>PureRuns.of) (wk23 x0 x1) (by kernel_rfl)
theorem ok23:PureOk Go.Proofs.Tryz.prog 23 p23:=pureOk_of kl23_0_ok.base (T:=fun (d:Tys.data as23)=>t23 d.1 d.2.1) (by kernel_rfl) (fun (d:Tys.data as23)=>ok23_t d.1 d.2.1)
def kf23 (P:Go.Program):Known:=(kl23_0 P).func 23 p23
theorem kf23_ok:KnownOk Go.Proofs.Tryz.prog (kf23 Go.Proofs.Tryz.prog):=kl23_0_ok.func ok23
abbrev sh37_0:Sh:={ n:=38,slots:=[2,3,5],pats:=[.ptr 0 2 0,.ptr 1 2 0,.ty (.int .i64)],boxes:=[.row [.ty (.int .i64),.ty (.slice (.pair (.int .i64) (.pair .bool .unit)))],.row [.ty (.int .i64),.ty (.slice (.pair (.int .i64) (.pair .bool .unit)))]] }
abbrev shb37_0:Sh:={ n:=38,slots:=[],pats:=[],boxes:=[.row [.ty (.int .i64),.ty (.slice (.pair (.int .i64) (.pair .bool .unit)))],.row [.ty (.int .i64),.ty (.slice (.pair (.int .i64) (.pair .bool .unit)))]] }
abbrev shr37_0:Sh:={ n:=38,slots:=[4],pats:=[.ty .bool],boxes:=[.row [.ty (.int .i64),.ty (.slice (.pair (.int .i64) (.pair .bool .unit)))],.row [.ty (.int .i64),.ty (.slice (.pair (.int .i64) (.pair .bool .unit)))]] }
def t37_0 (x2:Int) (b0_0:Int) (b0_1:(List (Int×(Bool×Unit)))) (b1_0:Int) (b1_1:(List (Int×(Bool×Unit)))):Tr (Out sh37_0.data shb37_0.data shr37_0.data) :=
  Tr.test ((!leF (↑(List.length b0_1):Int) x2:Bool))
    (Tr.test (decide ((0:Int) ≤ x2) && decide (x2 < (↑(List.length b0_1):Int)))
      (Tr.test ((decide ((0:Int) ≤ x2) && decide (x2 < (↑(List.length b1_1):Int)):Bool))
        (Tr.test ((!((List.getD b0_1 (Int.toNat x2) ((0:Int),false,())).1 == (List.getD b1_1 (Int.toNat x2) ((0:Int),false,())).1 && ((List.getD b0_1 (Int.toNat x2) ((0:Int),false,())).2.1 == (List.getD b1_1 (Int.toNat x2) ((0:Int),false,())).2.1 && true)):Bool))
          (Tr.fin (.ret (((false:Bool),()),((b0_0,(b0_1,())),((b1_0,(b1_1,())),())))))
          (Tr.fin (.again (((wrap64 (x2 + (1:Int)):Int),()),((b0_0,(b0_1,())),((b1_0,(b1_1,())),()))))))
        (Tr.stop))
      (Tr.stop))
    (Tr.fin (.brk ((),((b0_0,(b0_1,())),((b1_0,(b1_1,())),())))))
def s37_0 (d:sh37_0.data):Option (Out sh37_0.data shb37_0.data shr37_0.data):=(t37_0 d.1.1 d.2.1.1 d.2.1.2.1 d.2.2.1.1 d.2.2.1.2.1).val
def l37_0 (d:sh37_0.data):Option (shb37_0.data ⊕ shr37_0.data):=itr s37_0 rounds d
def b37_0 (d:sh37_0.data):shb37_0.data:=outB shb37_0.dflt (l37_0 d)
def r37_0 (d:sh37_0.data):shr37_0.data:=outR shr37_0.dflt (l37_0 d)
def lc37_0:LoopC:=lcOf sh37_0 shb37_0 shr37_0 l37_0 b37_0 r37_0
theorem wk37_0 (x2:Int) (b0_0:Int) (b0_1:(List (Int×(Bool×Unit)))) (b1_0:Int) (b1_1:(List (Int×(Bool×Unit)))):Walks (runBody (kf23 Go.Proofs.Tryz.prog).orc Go.Proofs.Tryz.prog 400 37 0 sh37_0 shb37_0 shr37_0 ((x2,()),(b0_0,b0_1,()),(b1_0,b1_1,()),())) (t37_0 x2 b0_0 b0_1 b1_0 b1_1) [(bl 4 15,[2,4,6,8]),(bl 4 7,[2,4,6,8]),(bl 1 0,[2])] :=
  ⟨by kernel_rfl,by kernel_rfl,by kernel_rfl,trivial⟩
theorem ok37_0_t (x2:Int) (b0_0:Int) (b0_1:(List (Int×(Bool×Unit)))) (b1_0:Int) (b1_1:(List (Int×(Bool×Unit)))):TrOk (BodyRuns Go.Proofs.Tryz.prog (kf23 Go.Proofs.Tryz.prog).orc 37 0 sh37_0 shb37_0 shr37_0 ((x2,()),(b0_0,b0_1,()),(b1_0,b1_1,()),())) (t37_0 x2 b0_0 b0_1 b1_0 b1_1) :=
  Walks.ok (fun _ _ _=>BodyRuns.of) (wk37_0 x2 b0_0 b0_1 b1_0 b1_1) (by kernel_rfl)
theorem ok37_0:LoopOk Go.Proofs.Tryz.prog 37 0 lc37_0:=loopOk_of (sh:=sh37_0) (shB:=shb37_0) (shR:=shr37_0) kf23_ok.base (T:=fun (d:sh37_0.data)=>t37_0 d.1.1 d.2.1.1 d.2.1.2.1 d.2.2.1.1 d.2.2.1.2.1) (by kernel_rfl) rfl (fun (d:sh37_0.data)=>ok37_0_t d.1.1 d.2.1.1 d.2.1.2.1 d.2.2.1.1 d.2.2.1.2.1) (fun _=>rfl)
def kl37_0 (P:Go.Program):Known:=(kf23 P).loop 37 0 lc37_0
theorem kl37_0_ok:KnownOk Go.Proofs.Tryz.prog (kl37_0 Go.Proofs.Tryz.prog):=kf23_ok.loop ok37_0
abbrev as37:List Ty:=[(.pair (.int .i64) (.pair (.slice (.pair (.int .i64) (.pair .bool .unit))) .unit)),(.pair (.int .i64) (.pair (.slice (.pair (.int .i64) (.pair .bool .unit))) .unit))]
abbrev rs37:List Ty:=[.bool]
def t37 (x0:Int) (x0':(List (Int×(Bool×Unit)))) (x1:Int) (x1':(List (Int×(Bool×Unit)))):Tr (Tys.data rs37) :=
  Tr.test ((!eqF x0 x1:Bool))
    (Tr.fin ((false,())))
    (Tr.test (!eqF (↑(List.length x0'):Int) (↑(List.length x1'):Int))
      (Tr.fin (((false:Bool),())))
      (Tr.test (Option.isSome (l37_0 (((0:Int),()),((x0,(x0',())),((x1,(x1',())),())))))
        (Tr.test (isRet (l37_0 (((0:Int),()),((x0,(x0',())),((x1,(x1',())),())))))
          (let r0:=r37_0 (((0:Int),()),((x0,(x0',())),((x1,(x1',())),())));
          Tr.fin ((r0.1.1,())))
          (Tr.fin (((true:Bool),()))))
        (Tr.stop)))
def f37 (d:Tys.data as37):Option (Tys.data rs37):=(t37 d.1.1 d.1.2.1 d.2.1.1 d.2.1.2.1).val
def g37 (d:Tys.data as37):Tys.data rs37:=(f37 d).getD (Tys.dflt rs37)
def p37:PureC:=pcOf as37 rs37 f37 g37
theorem wk37 (x0:Int) (x0':(List (Int×(Bool×Unit)))) (x1:Int) (x1':(List (Int×(Bool×Unit)))):Walks (runPure (kl37_0 Go.Proofs.Tryz.prog).orc Go.Proofs.Tryz.prog 400 37 as37 rs37 ((x0,x0',()),(x1,x1',()),())) (t37 x0 x0' x1 x1') [(bl 1 1,[1,2,2,2,2,2,2,2,2]),(bl 2 2,[2,4,4,4,4,4,4,4,4]),(bl 4 12,[2,4,6,8,8,8,8,8,8,8,8]),(bl 4 4,[2,4,6,8,8,8,8,8,8,8,8])] :=
  ⟨by kernel_rfl,by kernel_rfl,by kernel_rfl,by kernel_rfl,trivial⟩
theorem ok37_t (x0:Int) (x0':(List (Int×(Bool×Unit)))) (x1:Int) (x1':(List (Int×(Bool×Unit)))):TrOk (PureRuns Go.Proofs.Tryz.prog (kl37_0 Go.Proofs.Tryz.prog).orc 37 as37 rs37 ((x0,x0',()),(x1,x1',()),())) (t37 x0 x0' x1 x1') :=
  Walks.ok (fun _ _ _=>PureRuns.of) (wk37 x0 x0' x1 x1') (by kernel_rfl)
theorem ok37:PureOk Go.Proofs.Tryz.prog 37 p37:=pureOk_of kl37_0_ok.base (T:=fun (d:Tys.data as37)=>t37 d.1.1 d.1.2.1 d.2.1.1 d.2.1.2.1) (by kernel_rfl) (fun (d:Tys.data as37)=>ok37_t d.1.1 d.1.2.1 d.2.1.1 d.2.1.2.1)
def kf37 (P:Go.Program):Known:=(kl37_0 P).func 37 p37
theorem kf37_ok:KnownOk Go.Proofs.Tryz.prog (kf37 Go.Proofs.Tryz.prog):=kl37_0_ok.func ok37
abbrev sh15_0:Sh:={ n:=48,slots:=[2,3,5],pats:=[.ptr 0 3 0,.ptr 1 3 0,.ty (.int .i64)],boxes:=[.row [.ty (.slice (.int .i64)),.ty (.slice (.int .i64)),.ty (.slice (.pair (.int .i64) (.pair (.slice (.pair (.int .i64) (.pair .bool .unit))) .unit)))],.row [.ty (.slice (.int .i64)),.ty (.slice (.int .i64)),.ty (.slice (.pair (.int .i64) (.pair (.slice (.pair (.int .i64) (.pair .bool .unit))) .unit)))]] }
abbrev shb15_0:Sh:={ n:=48,slots:=[],pats:=[],boxes:=[.row [.ty (.slice (.int .i64)),.ty (.slice (.int .i64)),.ty (.slice (.pair (.int .i64) (.pair (.slice (.pair (.int .i64) (.pair .bool .unit))) .unit)))],.row [.ty (.slice (.int .i64)),.ty (.slice (.int .i64)),.ty (.slice (.pair (.int .i64) (.pair (.slice (.pair (.int .i64) (.pair .bool .unit))) .unit)))]] }
abbrev shr15_0:Sh:={ n:=48,slots:=[4],pats:=[.ty .bool],boxes:=[.row [.ty (.slice (.int .i64)),.ty (.slice (.int .i64)),.ty (.slice (.pair (.int .i64) (.pair (.slice (.pair (.int .i64) (.pair .bool .unit))) .unit)))],.row [.ty (.slice (.int .i64)),.ty (.slice (.int .i64)),.ty (.slice (.pair (.int .i64) (.pair (.slice (.pair (.int .i64) (.pair .bool .unit))) .unit)))]] }
def t15_0 (x2:Int) (b0_0:(List Int)) (b0_1:(List Int)) (b0_2:(List (Int×((List (Int×(Bool×Unit)))×Unit)))) (b1_0:(List Int)) (b1_1:(List Int)) (b1_2:(List (Int×((List (Int×(Bool×Unit)))×Unit)))):Tr (Out sh15_0.data shb15_0.data shr15_0.data) :=
  Tr.test ((!leF (↑(List.length b0_2):Int) x2:Bool))
    (Tr.test (decide ((0:Int) ≤ x2) && decide (x2 < (↑(List.length b0_2):Int)))
      (Tr.test ((decide ((0:Int) ≤ x2) && decide (x2 < (↑(List.length b1_2):Int)):Bool))
        (Tr.test (Option.isSome (f37 ((((List.getD b0_2 (Int.toNat x2) ((0:Int),[],())).1:Int),(((List.getD b0_2 (Int.toNat x2) ((0:Int),[],())).2.1:List (Int×Bool×PUnit)),())),((((List.getD b1_2 (Int.toNat x2) ((0:Int),[],())).1:Int),(((List.getD b1_2 (Int.toNat x2) ((0:Int),[],())).2.1:List (Int×Bool×PUnit)),())),()))))
          (let r0:=g37 ((((List.getD b0_2 (Int.toNat x2) ((0:Int),[],())).1:Int),(((List.getD b0_2 (Int.toNat x2) ((0:Int),[],())).2.1:List (Int×Bool×PUnit)),())),((((List.getD b1_2 (Int.toNat x2) ((0:Int),[],())).1:Int),(((List.getD b1_2 (Int.toNat x2) ((0:Int),[],())).2.1:List (Int×Bool×PUnit)),())),()));
          Tr.test ((!r0.1:Bool))
            (Tr.fin (.ret (((false:Bool),()),((b0_0,(b0_1,(b0_2,()))),((b1_0,(b1_1,(b1_2,()))),())))))
            (Tr.fin (.again (((wrap64 (x2 + (1:Int)):Int),()),((b0_0,(b0_1,(b0_2,()))),((b1_0,(b1_1,(b1_2,()))),()))))))
          (Tr.stop))
        (Tr.stop))
      (Tr.stop))
    (Tr.fin (.brk ((),((b0_0,(b0_1,(b0_2,()))),((b1_0,(b1_1,(b1_2,()))),())))))
def s15_0 (d:sh15_0.data):Option (Out sh15_0.data shb15_0.data shr15_0.data):=(t15_0 d.1.1 d.2.1.1 d.2.1.2.1 d.2.1.2.2.1 d.2.2.1.1 d.2.2.1.2.1 d.2.2.1.2.2.1).val
def l15_0 (d:sh15_0.data):Option (shb15_0.data ⊕ shr15_0.data):=itr s15_0 rounds d
def b15_0 (d:sh15_0.data):shb15_0.data:=outB shb15_0.dflt (l15_0 d)
def r15_0 (d:sh15_0.data):shr15_0.data:=outR shr15_0.dflt (l15_0 d)
def lc15_0:LoopC:=lcOf sh15_0 shb15_0 shr15_0 l15_0 b15_0 r15_0
theorem wk15_0 (x2:Int) (b0_0:(List Int)) (b0_1:(List Int)) (b0_2:(List (Int×((List (Int×(Bool×Unit)))×Unit)))) (b1_0:(List Int)) (b1_1:(List Int)) (b1_2:(List (Int×((List (Int×(Bool×Unit)))×Unit)))):Walks (runBody (kf37 Go.Proofs.Tryz.prog).orc Go.Proofs.Tryz.prog 400 15 0 sh15_0 shb15_0 shr15_0 ((x2,()),(b0_0,b0_1,b0_2,()),(b1_0,b1_1,b1_2,()),())) (t15_0 x2 b0_0 b0_1 b0_2 b1_0 b1_1 b1_2) [(bl 5 31,[2,4,6,8,10]),(bl 5 15,[2,4,6,8,10]),(bl 1 0,[2])] :=
  ⟨by kernel_rfl,by kernel_rfl,by kernel_rfl,trivial⟩
theorem ok15_0_t (x2:Int) (b0_0:(List Int)) (b0_1:(List Int)) (b0_2:(List (Int×((List (Int×(Bool×Unit)))×Unit)))) (b1_0:(List Int)) (b1_1:(List Int)) (b1_2:(List (Int×((List (Int×(Bool×Unit)))×Unit)))):TrOk (BodyRuns Go.Proofs.Tryz.prog (kf37 Go.Proofs.Tryz.prog).orc 15 0 sh15_0 shb15_0 shr15_0 ((x2,()),(b0_0,b0_1,b0_2,()),(b1_0,b1_1,b1_2,()),())) (t15_0 x2 b0_0 b0_1 b0_2 b1_0 b1_1 b1_2) :=
  Walks.ok (fun _ _ _=>BodyRuns.of) (wk15_0 x2 b0_0 b0_1 b0_2 b1_0 b1_1 b1_2) (by kernel_rfl)
theorem ok15_0:LoopOk Go.Proofs.Tryz.prog 15 0 lc15_0:=loopOk_of (sh:=sh15_0) (shB:=shb15_0) (shR:=shr15_0) kf37_ok.base (T:=fun (d:sh15_0.data)=>t15_0 d.1.1 d.2.1.1 d.2.1.2.1 d.2.1.2.2.1 d.2.2.1.1 d.2.2.1.2.1 d.2.2.1.2.2.1) (by kernel_rfl) rfl (fun (d:sh15_0.data)=>ok15_0_t d.1.1 d.2.1.1 d.2.1.2.1 d.2.1.2.2.1 d.2.2.1.1 d.2.2.1.2.1 d.2.2.1.2.2.1) (fun _=>rfl)
def kl15_0 (P:Go.Program):Known:=(kf37 P).loop 15 0 lc15_0
theorem kl15_0_ok:KnownOk Go.Proofs.Tryz.prog (kl15_0 Go.Proofs.Tryz.prog):=kf37_ok.loop ok15_0
abbrev as15:List Ty:=[(.pair (.slice (.int .i64)) (.pair (.slice (.int .i64)) (.pair (.slice (.pair (.int .i64) (.pair (.slice (.pair (.int .i64) (.pair .bool .unit))) .unit))) .unit))),(.pair (.slice (.int .i64)) (.pair (.slice (.int .i64)) (.pair (.slice (.pair (.int .i64) (.pair (.slice (.pair (.int .i64) (.pair .bool .unit))) .unit))) .unit)))]
abbrev rs15:List Ty:=[.bool]
def t15 (x0:(List Int)) (x0':(List Int)) (x0'':(List (Int×((List (Int×(Bool×Unit)))×Unit)))) (x1:(List Int)) (x1':(List Int)) (x1'':(List (Int×((List (Int×(Bool×Unit)))×Unit)))):Tr (Tys.data rs15) :=
  Tr.test (Option.isSome (f23 (x0,(x1,()))))
    (let r0:=g23 (x0,(x1,()));
    Tr.test ((!r0.1:Bool))
      (Tr.fin (((false:Bool),())))
      (Tr.test (Option.isSome (f23 (x0',(x1',()))))
        (let r1:=g23 (x0',(x1',()));
        Tr.test ((!r1.1:Bool))
          (Tr.fin (((false:Bool),())))
          (Tr.test ((!eqF (↑(List.length x0''):Int) (↑(List.length x1''):Int):Bool))
            (Tr.fin (((false:Bool),())))
            (Tr.test (Option.isSome (l15_0 (((0:Int),()),((x0,(x0',(x0'',()))),((x1,(x1',(x1'',()))),())))))
              (Tr.test (isRet (l15_0 (((0:Int),()),((x0,(x0',(x0'',()))),((x1,(x1',(x1'',()))),())))))
                (let r2:=r15_0 (((0:Int),()),((x0,(x0',(x0'',()))),((x1,(x1',(x1'',()))),())));
                Tr.fin ((r2.1.1,())))
                (Tr.fin (((true:Bool),()))))
              (Tr.stop))))
        (Tr.stop)))
    (Tr.stop)
def f15 (d:Tys.data as15):Option (Tys.data rs15):=(t15 d.1.1 d.1.2.1 d.1.2.2.1 d.2.1.1 d.2.1.2.1 d.2.1.2.2.1).val
def g15 (d:Tys.data as15):Tys.data rs15:=(f15 d).getD (Tys.dflt rs15)
def p15:PureC:=pcOf as15 rs15 f15 g15
theorem wk15 (x0:(List Int)) (x0':(List Int)) (x0'':(List (Int×((List (Int×(Bool×Unit)))×Unit)))) (x1:(List Int)) (x1':(List Int)) (x1'':(List (Int×((List (Int×(Bool×Unit)))×Unit)))):Walks (runPure (kl15_0 Go.Proofs.Tryz.prog).orc Go.Proofs.Tryz.prog 400 15 as15 rs15 ((x0,x0',x0'',()),(x1,x1',x1'',()),())) (t15 x0 x0' x0'' x1 x1' x1'') [(bl 2 3,[1,1,1,1,1,1,1,1,1,2,2,2,2,2,2,2,4]),(bl 4 13,[1,2,2,2,2,2,2,2,2,6,6,4,6,6,6,6,6,8]),(bl 5 21,[2,4,4,4,4,4,4,4,4,8,8,6,8,8,8,8,8,10]),(bl 7 101,[2,4,6,8,8,8,8,8,8,8,8,12,12,10,12,12,12,12,12,14]),(bl 7 37,[2,4,6,8,8,8,8,8,8,8,8,12,12,10,12,12,12,12,12,14])] :=
  ⟨by kernel_rfl,by kernel_rfl,by kernel_rfl,by kernel_rfl,by kernel_rfl,trivial⟩
theorem ok15_t (x0:(List Int)) (x0':(List Int)) (x0'':(List (Int×((List (Int×(Bool×Unit)))×Unit)))) (x1:(List Int)) (x1':(List Int)) (x1'':(List (Int×((List (Int×(Bool×Unit)))×Unit)))):TrOk (PureRuns Go.Proofs.Tryz.prog (kl15_0 Go.Proofs.Tryz.prog).orc 15 as15 rs15 ((x0,x0',x0'',()),(x1,x1',x1'',()),())) (t15 x0 x0' x0'' x1 x1' x1'') :=
  Walks.ok (fun _ _ _=>PureRuns.of) (wk15 x0 x0' x0'' x1 x1' x1'') (by kernel_rfl)
theorem ok15:PureOk Go.Proofs.Tryz.prog 15 p15:=pureOk_of kl15_0_ok.base (T:=fun (d:Tys.data as15)=>t15 d.1.1 d.1.2.1 d.1.2.2.1 d.2.1.1 d.2.1.2.1 d.2.1.2.2.1) (by kernel_rfl) (fun (d:Tys.data as15)=>ok15_t d.1.1 d.1.2.1 d.1.2.2.1 d.2.1.1 d.2.1.2.1 d.2.1.2.2.1)
def kf15 (P:Go.Program):Known:=(kl15_0 P).func 15 p15
theorem kf15_ok:KnownOk Go.Proofs.Tryz.prog (kf15 Go.Proofs.Tryz.prog):=kl15_0_ok.func ok15
abbrev sh100_0:Sh:={ n:=38,slots:=[0,3,5,6],pats:=[.ty (.slice (.pair (.int .i64) (.pair (.int .i64) (.pair .bool .unit)))),.ptr 0 2 0,.ty (.int .i64),.ty (.int .i64)],boxes:=[.row [.ty (.int .i64),.ty (.slice (.pair (.int .i64) (.pair .bool .unit)))]] }
abbrev shb100_0:Sh:={ n:=38,slots:=[5],pats:=[.ty (.int .i64)],boxes:=[.row [.ty (.int .i64),.ty (.slice (.pair (.int .i64) (.pair .bool .unit)))]] }
abbrev shr100_0:Sh:={ n:=38,slots:=[],pats:=[],boxes:=[.row [.ty (.int .i64),.ty (.slice (.pair (.int .i64) (.pair .bool .unit)))]] }
def t100_0 (x0:(List (Int×(Int×(Bool×Unit))))) (x2:Int) (x3:Int) (b0_0:Int) (b0_1:(List (Int×(Bool×Unit)))):Tr (Out sh100_0.data shb100_0.data shr100_0.data) :=
  Tr.test ((!leF (↑(List.length x0):Int) x3:Bool))
    (Tr.test (decide ((0:Int) ≤ x3) && decide (x3 < (↑(List.length b0_1):Int)))
      (Tr.test ((!(List.getD b0_1 (Int.toNat x3) ((0:Int),false,())).2.1:Bool))
        (Tr.test ((decide ((0:Int) ≤ x3) && decide (x3 < (↑(List.length x0):Int)):Bool))
          (Tr.fin (.again ((x0,((wrap64 (x2 + wrap64 ((List.getD x0 (Int.toNat x3) ((0:Int),(0:Int),false,())).1 * wrap64 (b0_0 - (List.getD b0_1 (Int.toNat x3) ((0:Int),false,())).1))):Int),((wrap64 (x3 + (1:Int)):Int),()))),((b0_0,(b0_1,())),()))))
          (Tr.stop))
        (Tr.fin (.again ((x0,(x2,((wrap64 (x3 + (1:Int)):Int),()))),((b0_0,(b0_1,())),())))))
      (Tr.stop))
    (Tr.fin (.brk ((x2,()),((b0_0,(b0_1,())),()))))
def s100_0 (d:sh100_0.data):Option (Out sh100_0.data shb100_0.data shr100_0.data):=(t100_0 d.1.1 d.1.2.1 d.1.2.2.1 d.2.1.1 d.2.1.2.1).val
def l100_0 (d:sh100_0.data):Option (shb100_0.data ⊕ shr100_0.data):=itr s100_0 rounds d
def b100_0 (d:sh100_0.data):shb100_0.data:=outB shb100_0.dflt (l100_0 d)
def lc100_0:LoopC:=lcB sh100_0 shb100_0 shr100_0 l100_0 b100_0
theorem wk100_0 (x0:(List (Int×(Int×(Bool×Unit))))) (x2:Int) (x3:Int) (b0_0:Int) (b0_1:(List (Int×(Bool×Unit)))):Walks (runBody (kf15 Go.Proofs.Tryz.prog).orc Go.Proofs.Tryz.prog 400 100 0 sh100_0 shb100_0 shr100_0 ((x0,x2,x3,()),(b0_0,b0_1,()),())) (t100_0 x0 x2 x3 b0_0 b0_1) [(bl 4 15,[6,2,4,6,8]),(bl 3 3,[2,4,6]),(bl 1 0,[2])] :=
  ⟨by kernel_rfl,by kernel_rfl,by kernel_rfl,trivial⟩
theorem ok100_0_t (x0:(List (Int×(Int×(Bool×Unit))))) (x2:Int) (x3:Int) (b0_0:Int) (b0_1:(List (Int×(Bool×Unit)))):TrOk (BodyRuns Go.Proofs.Tryz.prog (kf15 Go.Proofs.Tryz.prog).orc 100 0 sh100_0 shb100_0 shr100_0 ((x0,x2,x3,()),(b0_0,b0_1,()),())) (t100_0 x0 x2 x3 b0_0 b0_1) :=
  Walks.ok (fun _ _ _=>BodyRuns.of) (wk100_0 x0 x2 x3 b0_0 b0_1) (by kernel_rfl)
theorem ok100_0:LoopOk Go.Proofs.Tryz.prog 100 0 lc100_0:=loopOk_ofB (sh:=sh100_0) (shB:=shb100_0) (shR:=shr100_0) kf15_ok.base (T:=fun (d:sh100_0.data)=>t100_0 d.1.1 d.1.2.1 d.1.2.2.1 d.2.1.1 d.2.1.2.1) (by kernel_rfl) rfl (fun (d:sh100_0.data)=>ok100_0_t d.1.1 d.1.2.1 d.1.2.2.1 d.2.1.1 d.2.1.2.1) (fun _=>rfl)
def kl100_0 (P:Go.Program):Known:=(kf15 P).loop 100 0 lc100_0
theorem kl100_0_ok:KnownOk Go.Proofs.Tryz.prog (kl100_0 Go.Proofs.Tryz.prog):=kf15_ok.loop ok100_0
abbrev as100:List Ty:=[(.slice (.pair (.int .i64) (.pair (.int .i64) (.pair .bool .unit)))),(.pair (.int .i64) (.pair (.slice (.pair (.int .i64) (.pair .bool .unit))) .unit))]
abbrev rs100:List Ty:=[(.int .i64)]
def t100 (x0:(List (Int×(Int×(Bool×Unit))))) (x1:Int) (x1':(List (Int×(Bool×Unit)))):Tr (Tys.data rs100) :=
  Tr.test (isBrk (l100_0 ((x0,((0:Int),((0:Int),()))),((x1,(x1',())),()))))
    (let r0:=b100_0 ((x0,((0:Int),((0:Int),()))),((x1,(x1',())),()));
    Tr.fin ((r0.1.1,())))
    (Tr.stop)
def f100 (d:Tys.data as100):Option (Tys.data rs100):=(t100 d.1 d.2.1.1 d.2.1.2.1).val
def g100 (d:Tys.data as100):Tys.data rs100:=(f100 d).getD (Tys.dflt rs100)
def p100:PureC:=pcOf as100 rs100 f100 g100
theorem wk100 (x0:(List (Int×(Int×(Bool×Unit))))) (x1:Int) (x1':(List (Int×(Bool×Unit)))):Walks (runPure (kl100_0 Go.Proofs.Tryz.prog).orc Go.Proofs.Tryz.prog 400 100 as100 rs100 (x0,(x1,x1',()),())) (t100 x0 x1 x1') [(bl 1 1,[1,2])] :=
  ⟨by kernel_rfl,trivial⟩
theorem ok100_t (x0:(List (Int×(Int×(Bool×Unit))))) (x1:Int) (x1':(List (Int×(Bool×Unit)))):TrOk (PureRuns Go.Proofs.Tryz.prog (kl100_0 Go.Proofs.Tryz.prog).orc 100 as100 rs100 (x0,(x1,x1',()),())) (t100 x0 x1 x1') :=
  Walks.ok (fun _ _ _=>PureRuns.of) (wk100 x0 x1 x1') (by kernel_rfl)
theorem ok100:PureOk Go.Proofs.Tryz.prog 100 p100:=pureOk_of kl100_0_ok.base (T:=fun (d:Tys.data as100)=>t100 d.1 d.2.1.1 d.2.1.2.1) (by kernel_rfl) (fun (d:Tys.data as100)=>ok100_t d.1 d.2.1.1 d.2.1.2.1)
def kf100 (P:Go.Program):Known:=(kl100_0 P).func 100 p100
theorem kf100_ok:KnownOk Go.Proofs.Tryz.prog (kf100 Go.Proofs.Tryz.prog):=kl100_0_ok.func ok100
abbrev as62:List Ty:=[(.pair (.slice (.pair (.int .i64) (.pair (.int .i64) (.pair (.slice (.pair (.int .i64) (.pair (.int .i64) (.pair .bool .unit)))) .unit)))) .unit),(.pair (.slice (.int .i64)) (.pair (.slice (.int .i64)) (.pair (.slice (.pair (.int .i64) (.pair (.slice (.pair (.int .i64) (.pair .bool .unit))) .unit))) .unit))),(.int .i64)]
abbrev rs62:List Ty:=[(.int .i64)]
def t62 (x0:(List (Int×(Int×((List (Int×(Int×(Bool×Unit))))×Unit))))) (x1:(List Int)) (x1':(List Int)) (x1'':(List (Int×((List (Int×(Bool×Unit)))×Unit)))) (x2:Int):Tr (Tys.data rs62) :=
  Tr.test ((decide ((0:Int) ≤ x2) && decide (x2 < (↑(List.length x0):Int)):Bool))
    (Tr.test (decide ((0:Int) ≤ x2) && decide (x2 < (↑(List.length x1''):Int)))
      (Tr.test (Option.isSome (f100 (((List.getD x0 (Int.toNat x2) ((0:Int),(0:Int),[],())).2.2.1:List (Int×Int×Bool×PUnit)),((((List.getD x1'' (Int.toNat x2) ((0:Int),[],())).1:Int),(((List.getD x1'' (Int.toNat x2) ((0:Int),[],())).2.1:List (Int×Bool×PUnit)),())),()))))
        (Tr.test ((!leF (↑(List.length x0):Int) (wrap64 (x2 + (1:Int))):Bool))
          (Tr.test ((decide ((0:Int) ≤ wrap64 (x2 + (1:Int))) && decide (wrap64 (x2 + (1:Int)) < (↑(List.length x0):Int)):Bool))
            (Tr.test ((decide ((0:Int) ≤ wrap64 (x2 + (1:Int))) && decide (wrap64 (x2 + (1:Int)) < (↑(List.length x1''):Int)):Bool))
              (Tr.test (Option.isSome (f100 (((List.getD x0 (Int.toNat (wrap64 (x2 + (1:Int)))) ((0:Int),(0:Int),[],())).2.2.1:List (Int×Int×Bool×PUnit)),((((List.getD x1'' (Int.toNat (wrap64 (x2 + (1:Int)))) ((0:Int),[],())).1:Int),(((List.getD x1'' (Int.toNat (wrap64 (x2 + (1:Int)))) ((0:Int),[],())).2.1:List (Int×Bool×PUnit)),())),()))))
                (let r0:=g100 (((List.getD x0 (Int.toNat x2) ((0:Int),(0:Int),[],())).2.2.1:List (Int×Int×Bool×PUnit)),((((List.getD x1'' (Int.toNat x2) ((0:Int),[],())).1:Int),(((List.getD x1'' (Int.toNat x2) ((0:Int),[],())).2.1:List (Int×Bool×PUnit)),())),()));
                let r1:=g100 (((List.getD x0 (Int.toNat (wrap64 (x2 + (1:Int)))) ((0:Int),(0:Int),[],())).2.2.1:List (Int×Int×Bool×PUnit)),((((List.getD x1'' (Int.toNat (wrap64 (x2 + (1:Int)))) ((0:Int),[],())).1:Int),(((List.getD x1'' (Int.toNat (wrap64 (x2 + (1:Int)))) ((0:Int),[],())).2.1:List (Int×Bool×PUnit)),())),()));
                Tr.fin (((wrap64 (Go.IntKind.wrap Go.IntKind.i64 ((0:Int) - r0.1) + r1.1):Int),())))
                (Tr.stop))
              (Tr.stop))
            (Tr.stop))
          (let r0:=g100 (((List.getD x0 (Int.toNat x2) ((0:Int),(0:Int),[],())).2.2.1:List (Int×Int×Bool×PUnit)),((((List.getD x1'' (Int.toNat x2) ((0:Int),[],())).1:Int),(((List.getD x1'' (Int.toNat x2) ((0:Int),[],())).2.1:List (Int×Bool×PUnit)),())),()));
          Tr.fin (((Go.IntKind.wrap Go.IntKind.i64 ((0:Int) - r0.1):Int),()))))
        (Tr.stop))
      (Tr.stop))
    (Tr.stop)
def f62 (d:Tys.data as62):Option (Tys.data rs62):=(t62 d.1.1 d.2.1.1 d.2.1.2.1 d.2.1.2.2.1 d.2.2.1).val
def g62 (d:Tys.data as62):Tys.data rs62:=(f62 d).getD (Tys.dflt rs62)
def p62:PureC:=pcOf as62 rs62 f62 g62
theorem wk62 (x0:(List (Int×(Int×((List (Int×(Int×(Bool×Unit))))×Unit))))) (x1:(List Int)) (x1':(List Int)) (x1'':(List (Int×((List (Int×(Bool×Unit)))×Unit)))) (x2:Int):Walks (runPure (kf100 Go.Proofs.Tryz.prog).orc Go.Proofs.Tryz.prog 400 62 as62 rs62 ((x0,()),(x1,x1',x1'',()),x2,())) (t62 x0 x1 x1' x1'' x2) [(bl 7 127,[2,4,6,8,10,12,14]),(bl 4 7,[2,4,6,8])] :=
  ⟨by kernel_rfl,by kernel_rfl,trivial⟩
theorem ok62_t (x0:(List (Int×(Int×((List (Int×(Int×(Bool×Unit))))×Unit))))) (x1:(List Int)) (x1':(List Int)) (x1'':(List (Int×((List (Int×(Bool×Unit)))×Unit)))) (x2:Int):TrOk (PureRuns Go.Proofs.Tryz.prog (kf100 Go.Proofs.Tryz.prog).orc 62 as62 rs62 ((x0,()),(x1,x1',x1'',()),x2,())) (t62 x0 x1 x1' x1'' x2) :=
  Walks.ok (fun _ _ _=>PureRuns.of) (wk62 x0 x1 x1' x1'' x2) (by kernel_rfl)
theorem ok62:PureOk Go.Proofs.Tryz.prog 62 p62:=pureOk_of kf100_ok.base (T:=fun (d:Tys.data as62)=>t62 d.1.1 d.2.1.1 d.2.1.2.1 d.2.1.2.2.1 d.2.2.1) (by kernel_rfl) (fun (d:Tys.data as62)=>ok62_t d.1.1 d.2.1.1 d.2.1.2.1 d.2.1.2.2.1 d.2.2.1)
def kf62 (P:Go.Program):Known:=(kf100 P).func 62 p62
theorem kf62_ok:KnownOk Go.Proofs.Tryz.prog (kf62 Go.Proofs.Tryz.prog):=kf100_ok.func ok62
abbrev as99:List Ty:=[(.int .i64),(.int .i64)]
abbrev rs99:List Ty:=[(.int .i64)]
def t99 (x0:Int) (x1:Int):Tr (Tys.data rs99) :=
  Tr.test ((x1 == (0:Int):Bool))
    (Tr.stop)
    (Tr.test (!leF (0:Int) (Int.tmod x0 x1))
      (Tr.fin (((wrap64 (Go.IntKind.wrap Go.IntKind.i64 (Int.tdiv x0 x1) - (1:Int)):Int),())))
      (Tr.fin (((Go.IntKind.wrap Go.IntKind.i64 (Int.tdiv x0 x1):Int),()))))
def f99 (d:Tys.data as99):Option (Tys.data rs99):=(t99 d.1 d.2.1).val
def g99 (d:Tys.data as99):Tys.data rs99:=(f99 d).getD (Tys.dflt rs99)
def p99:PureC:=pcOf as99 rs99 f99 g99
theorem wk99 (x0:Int) (x1:Int):Walks (runPure (kf62 Go.Proofs.Tryz.prog).orc Go.Proofs.Tryz.prog 400 99 as99 rs99 (x0,x1,())) (t99 x0 x1) [(bl 2 2,[2,4,4]),(bl 2 0,[2,4,4])] :=
  ⟨by kernel_rfl,by kernel_rfl,trivial⟩
theorem ok99_t (x0:Int) (x1:Int):TrOk (PureRuns Go.Proofs.Tryz.prog (kf62 Go.Proofs.Tryz.prog).orc 99 as99 rs99 (x0,x1,())) (t99 x0 x1) :=
  Walks.ok (fun _ _ _=>PureRuns.of) (wk99 x0 x1) (by kernel_rfl)
theorem ok99:PureOk Go.Proofs.Tryz.prog 99 p99:=pureOk_of kf62_ok.base (T:=fun (d:Tys.data as99)=>t99 d.1 d.2.1) (by kernel_rfl) (fun (d:Tys.data as99)=>ok99_t d.1 d.2.1)
def kf99 (P:Go.Program):Known:=(kf62 P).func 99 p99
theorem kf99_ok:KnownOk Go.Proofs.Tryz.prog (kf99 Go.Proofs.Tryz.prog):=kf62_ok.func ok99
abbrev sh60_0:Sh:={ n:=46,slots:=[2,3,4,7,8],pats:=[.ty (.int .i64),.ptr 0 1 0,.ptr 1 3 0,.acc (.int .i64),.ty (.int .i64)],boxes:=[.row [.ty (.slice (.pair (.int .i64) (.pair (.int .i64) (.pair (.slice (.pair (.int .i64) (.pair (.int .i64) (.pair .bool .unit)))) .unit))))],.row [.ty (.slice (.int .i64)),.ty (.slice (.int .i64)),.ty (.slice (.pair (.int .i64) (.pair (.slice (.pair (.int .i64) (.pair .bool .unit))) .unit)))]] }
abbrev shb60_0:Sh:={ n:=46,slots:=[7],pats:=[.acc (.int .i64)],boxes:=[.row [.ty (.slice (.pair (.int .i64) (.pair (.int .i64) (.pair (.slice (.pair (.int .i64) (.pair (.int .i64) (.pair .bool .unit)))) .unit))))],.row [.ty (.slice (.int .i64)),.ty (.slice (.int .i64)),.ty (.slice (.pair (.int .i64) (.pair (.slice (.pair (.int .i64) (.pair .bool .unit))) .unit)))]] }
abbrev shr60_0:Sh:={ n:=46,slots:=[],pats:=[],boxes:=[.row [.ty (.slice (.pair (.int .i64) (.pair (.int .i64) (.pair (.slice (.pair (.int .i64) (.pair (.int .i64) (.pair .bool .unit)))) .unit))))],.row [.ty (.slice (.int .i64)),.ty (.slice (.int .i64)),.ty (.slice (.pair (.int .i64) (.pair (.slice (.pair (.int .i64) (.pair .bool .unit))) .unit)))]] }
def t60_0 (x0:Int) (x3:(List Int)) (x4:Int) (b0_0:(List (Int×(Int×((List (Int×(Int×(Bool×Unit))))×Unit))))) (b1_0:(List Int)) (b1_1:(List Int)) (b1_2:(List (Int×((List (Int×(Bool×Unit)))×Unit)))):Tr (Out sh60_0.data shb60_0.data shr60_0.data) :=
  Tr.test ((!leF (↑(List.length b0_0):Int) x4:Bool))
    (Tr.test (decide ((0:Int) ≤ x4) && decide (x4 < (↑(List.length b1_0):Int)))
      (Tr.test ((decide ((0:Int) ≤ x4) && decide (x4 < (↑(List.length b1_1):Int)):Bool))
        (Tr.test (Option.isSome (f62 ((b0_0,()),((b1_0,(b1_1,(b1_2,()))),(x4,())))))
          (Tr.test ((decide ((0:Int) ≤ x4) && decide (x4 < (↑(List.length b0_0):Int)):Bool))
            (let r0:=g62 ((b0_0,()),((b1_0,(b1_1,(b1_2,()))),(x4,())));
            Tr.test (Option.isSome (f99 (r0.1,(((List.getD b0_0 (Int.toNat x4) ((0:Int),(0:Int),[],())).1:Int),()))))
              (Tr.test ((Nat.ble (((2:Nat) * (List.length x3 + (1:Nat)) + (192:Nat)) * (8:Nat)) (281474976710656:Nat) && Nat.ble (List.length x3 + (1:Nat)) (281474976710656:Nat):Bool))
                (let r1:=g99 (r0.1,(((List.getD b0_0 (Int.toNat x4) ((0:Int),(0:Int),[],())).1:Int),()));
                Tr.fin (.again ((x0,((x3++[wrap64 (wrap64 (wrap64 (wrap64 ((2:Int) * List.getD b1_0 (Int.toNat x4) (0:Int)) - List.getD b1_1 (Int.toNat x4) (0:Int)) + r1.1) - x0)]:List Int),((wrap64 (x4 + (1:Int)):Int),()))),((b0_0,()),((b1_0,(b1_1,(b1_2,()))),())))))
                (Tr.stop))
              (Tr.stop))
            (Tr.stop))
          (Tr.stop))
        (Tr.stop))
      (Tr.stop))
    (Tr.fin (.brk ((x3,()),((b0_0,()),((b1_0,(b1_1,(b1_2,()))),())))))
def s60_0 (d:sh60_0.data):Option (Out sh60_0.data shb60_0.data shr60_0.data):=(t60_0 d.1.1 d.1.2.1 d.1.2.2.1 d.2.1.1 d.2.2.1.1 d.2.2.1.2.1 d.2.2.1.2.2.1).val
def l60_0 (d:sh60_0.data):Option (shb60_0.data ⊕ shr60_0.data):=itr s60_0 rounds d
def b60_0 (d:sh60_0.data):shb60_0.data:=outB shb60_0.dflt (l60_0 d)
def lc60_0:LoopC:=lcB sh60_0 shb60_0 shr60_0 l60_0 b60_0
theorem wk60_0 (x0:Int) (x3:(List Int)) (x4:Int) (b0_0:(List (Int×(Int×((List (Int×(Int×(Bool×Unit))))×Unit))))) (b1_0:(List Int)) (b1_1:(List Int)) (b1_2:(List (Int×((List (Int×(Bool×Unit)))×Unit)))):Walks (runBody (kf99 Go.Proofs.Tryz.prog).orc Go.Proofs.Tryz.prog 400 60 0 sh60_0 shb60_0 shr60_0 ((x0,x3,x4,()),(b0_0,()),(b1_0,b1_1,b1_2,()),())) (t60_0 x0 x3 x4 b0_0 b1_0 b1_1 b1_2) [(bl 7 127,[2,4,6,8,10,12,14]),(bl 1 0,[2])] :=
  ⟨by kernel_rfl,by kernel_rfl,trivial⟩
theorem ok60_0_t (x0:Int) (x3:(List Int)) (x4:Int) (b0_0:(List (Int×(Int×((List (Int×(Int×(Bool×Unit))))×Unit))))) (b1_0:(List Int)) (b1_1:(List Int)) (b1_2:(List (Int×((List (Int×(Bool×Unit)))×Unit)))):TrOk (BodyRuns Go.Proofs.Tryz.prog (kf99 Go.Proofs.Tryz.prog).orc 60 0 sh60_0 shb60_0 shr60_0 ((x0,x3,x4,()),(b0_0,()),(b1_0,b1_1,b1_2,()),())) (t60_0 x0 x3 x4 b0_0 b1_0 b1_1 b1_2) :=
  Walks.ok (fun _ _ _=>BodyRuns.of) (wk60_0 x0 x3 x4 b0_0 b1_0 b1_1 b1_2) (by kernel_rfl)
theorem ok60_0:LoopOk Go.Proofs.Tryz.prog 60 0 lc60_0:=loopOk_ofB (sh:=sh60_0) (shB:=shb60_0) (shR:=shr60_0) kf99_ok.base (T:=fun (d:sh60_0.data)=>t60_0 d.1.1 d.1.2.1 d.1.2.2.1 d.2.1.1 d.2.2.1.1 d.2.2.1.2.1 d.2.2.1.2.2.1) (by kernel_rfl) rfl (fun (d:sh60_0.data)=>ok60_0_t d.1.1 d.1.2.1 d.1.2.2.1 d.2.1.1 d.2.2.1.1 d.2.2.1.2.1 d.2.2.1.2.2.1) (fun _=>rfl)
def kl60_0 (P:Go.Program):Known:=(kf99 P).loop 60 0 lc60_0
theorem kl60_0_ok:KnownOk Go.Proofs.Tryz.prog (kl60_0 Go.Proofs.Tryz.prog):=kf99_ok.loop ok60_0
abbrev as60:List Ty:=[(.pair (.slice (.pair (.int .i64) (.pair (.int .i64) (.pair (.slice (.pair (.int .i64) (.pair (.int .i64) (.pair .bool .unit)))) .unit)))) .unit),(.pair (.slice (.int .i64)) (.pair (.slice (.int .i64)) (.pair (.slice (.pair (.int .i64) (.pair (.slice (.pair (.int .i64) (.pair .bool .unit))) .unit))) .unit))),(.int .i64)]
abbrev rs60:List Ty:=[(.slice (.int .i64))]
def t60 (x0:(List (Int×(Int×((List (Int×(Int×(Bool×Unit))))×Unit))))) (x1:(List Int)) (x1':(List Int)) (x1'':(List (Int×((List (Int×(Bool×Unit)))×Unit)))) (x2:Int):Tr (Tys.data rs60) :=
  Tr.test (isBrk (l60_0 ((x2,(([]:List Int),((0:Int),()))),((x0,()),((x1,(x1',(x1'',()))),())))))
    (let r0:=b60_0 ((x2,(([]:List Int),((0:Int),()))),((x0,()),((x1,(x1',(x1'',()))),())));
    Tr.fin ((r0.1.1,())))
    (Tr.stop)
def f60 (d:Tys.data as60):Option (Tys.data rs60):=(t60 d.1.1 d.2.1.1 d.2.1.2.1 d.2.1.2.2.1 d.2.2.1).val
def g60 (d:Tys.data as60):Tys.data rs60:=(f60 d).getD (Tys.dflt rs60)
def p60:PureC:=pcOf as60 rs60 f60 g60
theorem wk60 (x0:(List (Int×(Int×((List (Int×(Int×(Bool×Unit))))×Unit))))) (x1:(List Int)) (x1':(List Int)) (x1'':(List (Int×((List (Int×(Bool×Unit)))×Unit)))) (x2:Int):Walks (runPure (kl60_0 Go.Proofs.Tryz.prog).orc Go.Proofs.Tryz.prog 400 60 as60 rs60 ((x0,()),(x1,x1',x1'',()),x2,())) (t60 x0 x1 x1' x1'' x2) [(bl 1 1,[1,2])] :=
  ⟨by kernel_rfl,trivial⟩
theorem ok60_t (x0:(List (Int×(Int×((List (Int×(Int×(Bool×Unit))))×Unit))))) (x1:(List Int)) (x1':(List Int)) (x1'':(List (Int×((List (Int×(Bool×Unit)))×Unit)))) (x2:Int):TrOk (PureRuns Go.Proofs.Tryz.prog (kl60_0 Go.Proofs.Tryz.prog).orc 60 as60 rs60 ((x0,()),(x1,x1',x1'',()),x2,())) (t60 x0 x1 x1' x1'' x2) :=
  Walks.ok (fun _ _ _=>PureRuns.of) (wk60 x0 x1 x1' x1'' x2) (by kernel_rfl)
theorem ok60:PureOk Go.Proofs.Tryz.prog 60 p60:=pureOk_of kl60_0_ok.base (T:=fun (d:Tys.data as60)=>t60 d.1.1 d.2.1.1 d.2.1.2.1 d.2.1.2.2.1 d.2.2.1) (by kernel_rfl) (fun (d:Tys.data as60)=>ok60_t d.1.1 d.2.1.1 d.2.1.2.1 d.2.1.2.2.1 d.2.2.1)
def kf60 (P:Go.Program):Known:=(kl60_0 P).func 60 p60
theorem kf60_ok:KnownOk Go.Proofs.Tryz.prog (kf60 Go.Proofs.Tryz.prog):=kl60_0_ok.func ok60
abbrev sh61_0:Sh:={ n:=72,slots:=[0,2,4,6,7,8],pats:=[.ty (.slice (.pair (.int .i64) (.pair (.int .i64) (.pair .bool .unit)))),.ty (.int .i64),.ptr 0 2 0,.ptr 1 2 0,.ptr 2 2 0,.ty (.int .i64)],boxes:=[.row [.ty (.int .i64),.ty (.slice (.pair (.int .i64) (.pair .bool .unit)))],.row [.ty (.int .i64),.nil],.row [.ty (.int .i64),.acc (.pair (.int .i64) (.pair .bool .unit))]] }
abbrev shb61_0:Sh:={ n:=72,slots:=[6,7],pats:=[.ptr 1 2 0,.ptr 2 2 0],boxes:=[.row [.ty (.int .i64),.ty (.slice (.pair (.int .i64) (.pair .bool .unit)))],.row [.ty (.int .i64),.nil],.row [.ty (.int .i64),.acc (.pair (.int .i64) (.pair .bool .unit))]] }
abbrev shr61_0:Sh:={ n:=72,slots:=[],pats:=[],boxes:=[.row [.ty (.int .i64),.ty (.slice (.pair (.int .i64) (.pair .bool .unit)))],.row [.ty (.int .i64),.nil],.row [.ty (.int .i64),.acc (.pair (.int .i64) (.pair .bool .unit))]] }
def t61_0 (x0:(List (Int×(Int×(Bool×Unit))))) (x1:Int) (x5:Int) (b0_0:Int) (b0_1:(List (Int×(Bool×Unit)))) (b1_0:Int) (b2_0:Int) (b2_1:(List (Int×(Bool×Unit)))):Tr (Out sh61_0.data shb61_0.data shr61_0.data) :=
  Tr.test ((!leF (↑(List.length x0):Int) x5:Bool))
    (Tr.test (decide ((0:Int) ≤ x5) && decide (x5 < (↑(List.length b0_1):Int)))
      (Tr.test ((!(List.getD b0_1 (Int.toNat x5) ((0:Int),false,())).2.1:Bool))
        (Tr.test (Option.isSome (f59 ((wrap64 (x1 - (List.getD b0_1 (Int.toNat x5) ((0:Int),false,())).1):Int),())))
          (Tr.test ((decide ((0:Int) ≤ x5) && decide (x5 < (↑(List.length x0):Int)):Bool))
            (let r0:=g59 ((wrap64 (x1 - (List.getD b0_1 (Int.toNat x5) ((0:Int),false,())).1):Int),());
            Tr.test ((!leF r0.1 (List.getD x0 (Int.toNat x5) ((0:Int),(0:Int),false,())).2.1:Bool))
              (Tr.test (((List.getD x0 (Int.toNat x5) ((0:Int),(0:Int),false,())).2.2.1:Bool))
                (Tr.test ((Nat.ble (((2:Nat) * (List.length b2_1 + (1:Nat)) + (192:Nat)) * (16:Nat)) (281474976710656:Nat) && Nat.ble (List.length b2_1 + (1:Nat)) (281474976710656:Nat):Bool))
                  (Tr.fin (.again ((x0,(x1,((wrap64 (x5 + (1:Int)):Int),()))),((b0_0,(b0_1,())),((b1_0,()),((b2_0,((b2_1++[((0:Int),true,())]:List (Int×Bool×PUnit)),())),()))))))
                  (Tr.stop))
                (Tr.test ((!leF (wrap64 (x1 - (List.getD b0_1 (Int.toNat x5) ((0:Int),false,())).1)) (0:Int):Bool))
                  (Tr.test ((Nat.ble (((2:Nat) * (List.length b2_1 + (1:Nat)) + (192:Nat)) * (16:Nat)) (281474976710656:Nat) && Nat.ble (List.length b2_1 + (1:Nat)) (281474976710656:Nat):Bool))
                    (Tr.fin (.again ((x0,(x1,((wrap64 (x5 + (1:Int)):Int),()))),((b0_0,(b0_1,())),((b1_0,()),((b2_0,((b2_1++[(wrap64 (x1 - (List.getD x0 (Int.toNat x5) ((0:Int),(0:Int),false,())).2.1),(List.getD b0_1 (Int.toNat x5) ((0:Int),false,())).2.1,())]:List (Int×Bool×PUnit)),())),()))))))
                    (Tr.stop))
                  (Tr.test ((Nat.ble (((2:Nat) * (List.length b2_1 + (1:Nat)) + (192:Nat)) * (16:Nat)) (281474976710656:Nat) && Nat.ble (List.length b2_1 + (1:Nat)) (281474976710656:Nat):Bool))
                    (Tr.fin (.again ((x0,(x1,((wrap64 (x5 + (1:Int)):Int),()))),((b0_0,(b0_1,())),((b1_0,()),((b2_0,((b2_1++[(wrap64 (x1 + (List.getD x0 (Int.toNat x5) ((0:Int),(0:Int),false,())).2.1),(List.getD b0_1 (Int.toNat x5) ((0:Int),false,())).2.1,())]:List (Int×Bool×PUnit)),())),()))))))
                    (Tr.stop))))
              (Tr.test ((Nat.ble (((2:Nat) * (List.length b2_1 + (1:Nat)) + (192:Nat)) * (16:Nat)) (281474976710656:Nat) && Nat.ble (List.length b2_1 + (1:Nat)) (281474976710656:Nat):Bool))
                (Tr.fin (.again ((x0,(x1,((wrap64 (x5 + (1:Int)):Int),()))),((b0_0,(b0_1,())),((b1_0,()),((b2_0,((b2_1++[((List.getD b0_1 (Int.toNat x5) ((0:Int),false,())).1,(List.getD b0_1 (Int.toNat x5) ((0:Int),false,())).2.1,())]:List (Int×Bool×PUnit)),())),()))))))
                (Tr.stop)))
            (Tr.stop))
          (Tr.stop))
        (Tr.test ((Nat.ble (((2:Nat) * (List.length b2_1 + (1:Nat)) + (192:Nat)) * (16:Nat)) (281474976710656:Nat) && Nat.ble (List.length b2_1 + (1:Nat)) (281474976710656:Nat):Bool))
          (Tr.fin (.again ((x0,(x1,((wrap64 (x5 + (1:Int)):Int),()))),((b0_0,(b0_1,())),((b1_0,()),((b2_0,((b2_1++[((List.getD b0_1 (Int.toNat x5) ((0:Int),false,())).1,(List.getD b0_1 (Int.toNat x5) ((0:Int),false,())).2.1,())]:List (Int×Bool×PUnit)),())),()))))))
          (Tr.stop)))
      (Tr.stop))
    (Tr.fin (.brk ((),((b0_0,(b0_1,())),((b1_0,()),((b2_0,(b2_1,())),()))))))
def s61_0 (d:sh61_0.data):Option (Out sh61_0.data shb61_0.data shr61_0.data):=(t61_0 d.1.1 d.1.2.1 d.1.2.2.1 d.2.1.1 d.2.1.2.1 d.2.2.1.1 d.2.2.2.1.1 d.2.2.2.1.2.1).val
def l61_0 (d:sh61_0.data):Option (shb61_0.data ⊕ shr61_0.data):=itr s61_0 rounds d
def b61_0 (d:sh61_0.data):shb61_0.data:=outB shb61_0.dflt (l61_0 d)
def lc61_0:LoopC:=lcB sh61_0 shb61_0 shr61_0 l61_0 b61_0
theorem wk61_0 (x0:(List (Int×(Int×(Bool×Unit))))) (x1:Int) (x5:Int) (b0_0:Int) (b0_1:(List (Int×(Bool×Unit)))) (b1_0:Int) (b2_0:Int) (b2_1:(List (Int×(Bool×Unit)))):Walks (runBody (kf60 Go.Proofs.Tryz.prog).orc Go.Proofs.Tryz.prog 400 61 0 sh61_0 shb61_0 shr61_0 ((x0,x1,x5,()),(b0_0,b0_1,()),(b1_0,()),(b2_0,b2_1,()),())) (t61_0 x0 x1 x5 b0_0 b0_1 b1_0 b2_0 b2_1) [(bl 8 255,[2,4,8,6,12,12,12,12,8,12,12,12,10,12,12,14,16]),(bl 9 447,[2,10,4,6,10,8,14,14,14,14,10,14,14,14,12,14,14,16,18]),(bl 9 319,[2,10,4,6,10,8,14,14,14,14,10,14,14,14,12,14,14,16,18]),(bl 7 95,[2,4,10,10,10,10,6,10,10,10,8,10,10,12,14]),(bl 4 11,[2,0,4,4,4,4,4,4,4,4,4,6,8]),(bl 1 0,[2])] :=
  ⟨by kernel_rfl,by kernel_rfl,by kernel_rfl,by kernel_rfl,by kernel_rfl,by kernel_rfl,trivial⟩
theorem ok61_0_t (x0:(List (Int×(Int×(Bool×Unit))))) (x1:Int) (x5:Int) (b0_0:Int) (b0_1:(List (Int×(Bool×Unit)))) (b1_0:Int) (b2_0:Int) (b2_1:(List (Int×(Bool×Unit)))):TrOk (BodyRuns Go.Proofs.Tryz.prog (kf60 Go.Proofs.Tryz.prog).orc 61 0 sh61_0 shb61_0 shr61_0 ((x0,x1,x5,()),(b0_0,b0_1,()),(b1_0,()),(b2_0,b2_1,()),())) (t61_0 x0 x1 x5 b0_0 b0_1 b1_0 b2_0 b2_1) :=
  Walks.ok (fun _ _ _=>BodyRuns.of) (wk61_0 x0 x1 x5 b0_0 b0_1 b1_0 b2_0 b2_1) (by kernel_rfl)
theorem ok61_0:LoopOk Go.Proofs.Tryz.prog 61 0 lc61_0:=loopOk_ofB (sh:=sh61_0) (shB:=shb61_0) (shR:=shr61_0) kf60_ok.base (T:=fun (d:sh61_0.data)=>t61_0 d.1.1 d.1.2.1 d.1.2.2.1 d.2.1.1 d.2.1.2.1 d.2.2.1.1 d.2.2.2.1.1 d.2.2.2.1.2.1) (by kernel_rfl) rfl (fun (d:sh61_0.data)=>ok61_0_t d.1.1 d.1.2.1 d.1.2.2.1 d.2.1.1 d.2.1.2.1 d.2.2.1.1 d.2.2.2.1.1 d.2.2.2.1.2.1) (fun _=>rfl)
def kl61_0 (P:Go.Program):Known:=(kf60 P).loop 61 0 lc61_0
theorem kl61_0_ok:KnownOk Go.Proofs.Tryz.prog (kl61_0 Go.Proofs.Tryz.prog):=kf60_ok.loop ok61_0
abbrev as61:List Ty:=[(.slice (.pair (.int .i64) (.pair (.int .i64) (.pair .bool .unit)))),(.pair (.int .i64) (.pair (.slice (.pair (.int .i64) (.pair .bool .unit))) .unit)),(.int .i64)]
abbrev rs61:List Ty:=[(.pair (.int .i64) (.pair (.slice (.pair (.int .i64) (.pair .bool .unit))) .unit))]
def t61 (x0:(List (Int×(Int×(Bool×Unit))))) (x1:Int) (x1':(List (Int×(Bool×Unit)))) (x2:Int):Tr (Tys.data rs61) :=
  Tr.test (isBrk (l61_0 ((x0,(x2,((0:Int),()))),((x1,(x1',())),(((0:Int),()),((x2,(([]:List (Int×Bool×PUnit)),())),()))))))
    (let r0:=b61_0 ((x0,(x2,((0:Int),()))),((x1,(x1',())),(((0:Int),()),((x2,(([]:List (Int×Bool×PUnit)),())),()))));
    Tr.fin (((r0.2.2.2.1.1,(r0.2.2.2.1.2.1,())),())))
    (Tr.stop)
def f61 (d:Tys.data as61):Option (Tys.data rs61):=(t61 d.1 d.2.1.1 d.2.1.2.1 d.2.2.1).val
def g61 (d:Tys.data as61):Tys.data rs61:=(f61 d).getD (Tys.dflt rs61)
def p61:PureC:=pcOf as61 rs61 f61 g61
theorem wk61 (x0:(List (Int×(Int×(Bool×Unit))))) (x1:Int) (x1':(List (Int×(Bool×Unit)))) (x2:Int):Walks (runPure (kl61_0 Go.Proofs.Tryz.prog).orc Go.Proofs.Tryz.prog 400 61 as61 rs61 (x0,(x1,x1',()),x2,())) (t61 x0 x1 x1' x2) [(bl 1 1,[1,2])] :=
  ⟨by kernel_rfl,trivial⟩
theorem ok61_t (x0:(List (Int×(Int×(Bool×Unit))))) (x1:Int) (x1':(List (Int×(Bool×Unit)))) (x2:Int):TrOk (PureRuns Go.Proofs.Tryz.prog (kl61_0 Go.Proofs.Tryz.prog).orc 61 as61 rs61 (x0,(x1,x1',()),x2,())) (t61 x0 x1 x1' x2) :=
  Walks.ok (fun _ _ _=>PureRuns.of) (wk61 x0 x1 x1' x2) (by kernel_rfl)
theorem ok61:PureOk Go.Proofs.Tryz.prog 61 p61:=pureOk_of kl61_0_ok.base (T:=fun (d:Tys.data as61)=>t61 d.1 d.2.1.1 d.2.1.2.1 d.2.2.1) (by kernel_rfl) (fun (d:Tys.data as61)=>ok61_t d.1 d.2.1.1 d.2.1.2.1 d.2.2.1)
def kf61 (P:Go.Program):Known:=(kl61_0 P).func 61 p61
theorem kf61_ok:KnownOk Go.Proofs.Tryz.prog (kf61 Go.Proofs.Tryz.prog):=kl61_0_ok.func ok61
abbrev sh16_0:Sh:={ n:=60,slots:=[3,4,6,8,9,10],pats:=[.ptr 0 1 0,.ptr 1 3 0,.ptr 2 3 0,.ty (.slice (.int .i64)),.ptr 3 3 0,.ty (.int .i64)],boxes:=[.row [.ty (.slice (.pair (.int .i64) (.pair (.int .i64) (.pair (.slice (.pair (.int .i64) (.pair (.int .i64) (.pair .bool .unit)))) .unit))))],.row [.ty (.slice (.int .i64)),.ty (.slice (.int .i64)),.ty (.slice (.pair (.int .i64) (.pair (.slice (.pair (.int .i64) (.pair .bool .unit))) .unit)))],.row [.nil,.nil,.nil],.row [.ty (.slice (.int .i64)),.ty (.slice (.int .i64)),.acc (.pair (.int .i64) (.pair (.slice (.pair (.int .i64) (.pair .bool .unit))) .unit))]] }
abbrev shb16_0:Sh:={ n:=60,slots:=[6,9],pats:=[.ptr 2 3 0,.ptr 3 3 0],boxes:=[.row [.ty (.slice (.pair (.int .i64) (.pair (.int .i64) (.pair (.slice (.pair (.int .i64) (.pair (.int .i64) (.pair .bool .unit)))) .unit))))],.row [.ty (.slice (.int .i64)),.ty (.slice (.int .i64)),.ty (.slice (.pair (.int .i64) (.pair (.slice (.pair (.int .i64) (.pair .bool .unit))) .unit)))],.row [.nil,.nil,.nil],.row [.ty (.slice (.int .i64)),.ty (.slice (.int .i64)),.acc (.pair (.int .i64) (.pair (.slice (.pair (.int .i64) (.pair .bool .unit))) .unit))]] }
abbrev shr16_0:Sh:={ n:=60,slots:=[6,7],pats:=[.ptr 2 3 0,.ty (.int .i64)],boxes:=[.row [.ty (.slice (.pair (.int .i64) (.pair (.int .i64) (.pair (.slice (.pair (.int .i64) (.pair (.int .i64) (.pair .bool .unit)))) .unit))))],.row [.ty (.slice (.int .i64)),.ty (.slice (.int .i64)),.ty (.slice (.pair (.int .i64) (.pair (.slice (.pair (.int .i64) (.pair .bool .unit))) .unit)))],.row [.nil,.nil,.nil],.row [.ty (.slice (.int .i64)),.ty (.slice (.int .i64)),.acc (.pair (.int .i64) (.pair (.slice (.pair (.int .i64) (.pair .bool .unit))) .unit))]] }
def t16_0 (x3:(List Int)) (x5:Int) (b0_0:(List (Int×(Int×((List (Int×(Int×(Bool×Unit))))×Unit))))) (b1_0:(List Int)) (b1_1:(List Int)) (b1_2:(List (Int×((List (Int×(Bool×Unit)))×Unit)))) (b3_0:(List Int)) (b3_1:(List Int)) (b3_2:(List (Int×((List (Int×(Bool×Unit)))×Unit)))):Tr (Out sh16_0.data shb16_0.data shr16_0.data) :=
  Tr.test ((!leF (↑(List.length x3):Int) x5:Bool))
    (Tr.test (Option.isSome (f58 (x3,(x5,()))))
      (let r0:=g58 (x3,(x5,()));
      Tr.test (Option.isSome (f59 (r0.1,())))
        (Tr.test ((decide ((0:Int) ≤ x5) && decide (x5 < (↑(List.length b0_0):Int)):Bool))
          (let r1:=g59 (r0.1,());
          Tr.test ((!leF r1.1 (List.getD b0_0 (Int.toNat x5) ((0:Int),(0:Int),[],())).2.1:Bool))
            (Tr.fin (.ret ((x5,()),((b0_0,()),((b1_0,(b1_1,(b1_2,()))),((),((b3_0,(b3_1,(b3_2,()))),())))))))
            (Tr.test ((decide ((0:Int) ≤ x5) && decide (x5 < (↑(List.length b1_2):Int)):Bool))
              (Tr.test (Option.isSome (f61 (((List.getD b0_0 (Int.toNat x5) ((0:Int),(0:Int),[],())).2.2.1:List (Int×Int×Bool×PUnit)),((((List.getD b1_2 (Int.toNat x5) ((0:Int),[],())).1:Int),(((List.getD b1_2 (Int.toNat x5) ((0:Int),[],())).2.1:List (Int×Bool×PUnit)),())),(r0.1,())))))
                (Tr.test ((Nat.ble (((2:Nat) * (List.length b3_2 + (1:Nat)) + (192:Nat)) * (32:Nat)) (281474976710656:Nat) && Nat.ble (List.length b3_2 + (1:Nat)) (281474976710656:Nat):Bool))
                  (let r2:=g61 (((List.getD b0_0 (Int.toNat x5) ((0:Int),(0:Int),[],())).2.2.1:List (Int×Int×Bool×PUnit)),((((List.getD b1_2 (Int.toNat x5) ((0:Int),[],())).1:Int),(((List.getD b1_2 (Int.toNat x5) ((0:Int),[],())).2.1:List (Int×Bool×PUnit)),())),(r0.1,())));
                  Tr.fin (.again ((x3,((wrap64 (x5 + (1:Int)):Int),())),((b0_0,()),((b1_0,(b1_1,(b1_2,()))),((),((b3_0,(b3_1,((b3_2++[(r2.1.1,r2.1.2.1,())]:List (Int×List (Int×Bool×PUnit)×PUnit)),()))),())))))))
                  (Tr.stop))
                (Tr.stop))
              (Tr.stop)))
          (Tr.stop))
        (Tr.stop))
      (Tr.stop))
    (Tr.fin (.brk ((),((b0_0,()),((b1_0,(b1_1,(b1_2,()))),((),((b3_0,(b3_1,(b3_2,()))),())))))))
def s16_0 (d:sh16_0.data):Option (Out sh16_0.data shb16_0.data shr16_0.data):=(t16_0 d.1.1 d.1.2.1 d.2.1.1 d.2.2.1.1 d.2.2.1.2.1 d.2.2.1.2.2.1 d.2.2.2.2.1.1 d.2.2.2.2.1.2.1 d.2.2.2.2.1.2.2.1).val
def l16_0 (d:sh16_0.data):Option (shb16_0.data ⊕ shr16_0.data):=itr s16_0 rounds d
def b16_0 (d:sh16_0.data):shb16_0.data:=outB shb16_0.dflt (l16_0 d)
def r16_0 (d:sh16_0.data):shr16_0.data:=outR shr16_0.dflt (l16_0 d)
def lc16_0:LoopC:=lcOf sh16_0 shb16_0 shr16_0 l16_0 b16_0 r16_0
theorem wk16_0 (x3:(List Int)) (x5:Int) (b0_0:(List (Int×(Int×((List (Int×(Int×(Bool×Unit))))×Unit))))) (b1_0:(List Int)) (b1_1:(List Int)) (b1_2:(List (Int×((List (Int×(Bool×Unit)))×Unit)))) (b3_0:(List Int)) (b3_1:(List Int)) (b3_2:(List (Int×((List (Int×(Bool×Unit)))×Unit)))):Walks (runBody (kf61 Go.Proofs.Tryz.prog).orc Go.Proofs.Tryz.prog 400 16 0 sh16_0 shb16_0 shr16_0 ((x3,x5,()),(b0_0,()),(b1_0,b1_1,b1_2,()),(),(b3_0,b3_1,b3_2,()),())) (t16_0 x3 x5 b0_0 b1_0 b1_1 b1_2 b3_0 b3_1 b3_2) [(bl 5 31,[2,4,6,8,10]),(bl 8 239,[2,4,14,6,10,8,10,12,14,16]),(bl 1 0,[2])] :=
  ⟨by kernel_rfl,by kernel_rfl,by kernel_rfl,trivial⟩
theorem ok16_0_t (x3:(List Int)) (x5:Int) (b0_0:(List (Int×(Int×((List (Int×(Int×(Bool×Unit))))×Unit))))) (b1_0:(List Int)) (b1_1:(List Int)) (b1_2:(List (Int×((List (Int×(Bool×Unit)))×Unit)))) (b3_0:(List Int)) (b3_1:(List Int)) (b3_2:(List (Int×((List (Int×(Bool×Unit)))×Unit)))):TrOk (BodyRuns Go.Proofs.Tryz.prog (kf61 Go.Proofs.Tryz.prog).orc 16 0 sh16_0 shb16_0 shr16_0 ((x3,x5,()),(b0_0,()),(b1_0,b1_1,b1_2,()),(),(b3_0,b3_1,b3_2,()),())) (t16_0 x3 x5 b0_0 b1_0 b1_1 b1_2 b3_0 b3_1 b3_2) :=
  Walks.ok (fun _ _ _=>BodyRuns.of) (wk16_0 x3 x5 b0_0 b1_0 b1_1 b1_2 b3_0 b3_1 b3_2) (by kernel_rfl)
theorem ok16_0:LoopOk Go.Proofs.Tryz.prog 16 0 lc16_0:=loopOk_of (sh:=sh16_0) (shB:=shb16_0) (shR:=shr16_0) kf61_ok.base (T:=fun (d:sh16_0.data)=>t16_0 d.1.1 d.1.2.1 d.2.1.1 d.2.2.1.1 d.2.2.1.2.1 d.2.2.1.2.2.1 d.2.2.2.2.1.1 d.2.2.2.2.1.2.1 d.2.2.2.2.1.2.2.1) (by kernel_rfl) rfl (fun (d:sh16_0.data)=>ok16_0_t d.1.1 d.1.2.1 d.2.1.1 d.2.2.1.1 d.2.2.1.2.1 d.2.2.1.2.2.1 d.2.2.2.2.1.1 d.2.2.2.2.1.2.1 d.2.2.2.2.1.2.2.1) (fun _=>rfl)
def kl16_0 (P:Go.Program):Known:=(kf61 P).loop 16 0 lc16_0
theorem kl16_0_ok:KnownOk Go.Proofs.Tryz.prog (kl16_0 Go.Proofs.Tryz.prog):=kf61_ok.loop ok16_0
abbrev as16:List Ty:=[(.pair (.slice (.pair (.int .i64) (.pair (.int .i64) (.pair (.slice (.pair (.int .i64) (.pair (.int .i64) (.pair .bool .unit)))) .unit)))) .unit),(.pair (.slice (.int .i64)) (.pair (.slice (.int .i64)) (.pair (.slice (.pair (.int .i64) (.pair (.slice (.pair (.int .i64) (.pair .bool .unit))) .unit))) .unit))),(.int .i64)]
abbrev rs16:List Ty:=[(.pair (.slice (.int .i64)) (.pair (.slice (.int .i64)) (.pair (.slice (.pair (.int .i64) (.pair (.slice (.pair (.int .i64) (.pair .bool .unit))) .unit))) .unit))),(.int .i64)]
def t16 (x0:(List (Int×(Int×((List (Int×(Int×(Bool×Unit))))×Unit))))) (x1:(List Int)) (x1':(List Int)) (x1'':(List (Int×((List (Int×(Bool×Unit)))×Unit)))) (x2:Int):Tr (Tys.data rs16) :=
  Tr.test (Option.isSome (f60 ((x0,()),((x1,(x1',(x1'',()))),(x2,())))))
    (Tr.test (Option.isSome (f21 (x1,())))
      (let r0:=g60 ((x0,()),((x1,(x1',(x1'',()))),(x2,())));
      let r1:=g21 (x1,());
      Tr.test (Option.isSome (l16_0 ((r0.1,((0:Int),())),((x0,()),((x1,(x1',(x1'',()))),((),((r0.1,(r1.1,(([]:List (Int×List (Int×Bool×PUnit)×PUnit)),()))),())))))))
        (Tr.test (isRet (l16_0 ((r0.1,((0:Int),())),((x0,()),((x1,(x1',(x1'',()))),((),((r0.1,(r1.1,(([]:List (Int×List (Int×Bool×PUnit)×PUnit)),()))),())))))))
          (let r2:=r16_0 ((r0.1,((0:Int),())),((x0,()),((x1,(x1',(x1'',()))),((),((r0.1,(r1.1,(([]:List (Int×List (Int×Bool×PUnit)×PUnit)),()))),())))));
          Tr.fin (((([]:List Int),(([]:List Int),(([]:List (Int×List (Int×Bool×PUnit)×PUnit)),()))),(r2.1.1,()))))
          (let r3:=b16_0 ((r0.1,((0:Int),())),((x0,()),((x1,(x1',(x1'',()))),((),((r0.1,(r1.1,(([]:List (Int×List (Int×Bool×PUnit)×PUnit)),()))),())))));
          Tr.fin (((r3.2.2.2.2.1.1,(r3.2.2.2.2.1.2.1,((r3.2.2.2.2.1.2.2.1:List (Int×List (Int×Bool×PUnit)×PUnit)),()))),((-1:Int),())))))
        (Tr.stop))
      (Tr.stop))
    (Tr.stop)
def f16 (d:Tys.data as16):Option (Tys.data rs16):=(t16 d.1.1 d.2.1.1 d.2.1.2.1 d.2.1.2.2.1 d.2.2.1).val
def g16 (d:Tys.data as16):Tys.data rs16:=(f16 d).getD (Tys.dflt rs16)
def p16:PureC:=pcOf as16 rs16 f16 g16
theorem wk16 (x0:(List (Int×(Int×((List (Int×(Int×(Bool×Unit))))×Unit))))) (x1:(List Int)) (x1':(List Int)) (x1'':(List (Int×((List (Int×(Bool×Unit)))×Unit)))) (x2:Int):Walks (runPure (kl16_0 Go.Proofs.Tryz.prog).orc Go.Proofs.Tryz.prog 400 16 as16 rs16 ((x0,()),(x1,x1',x1'',()),x2,())) (t16 x0 x1 x1' x1'' x2) [(bl 4 15,[2,4,6,8]),(bl 4 7,[2,4,6,8])] :=
  ⟨by kernel_rfl,by kernel_rfl,trivial⟩
theorem ok16_t (x0:(List (Int×(Int×((List (Int×(Int×(Bool×Unit))))×Unit))))) (x1:(List Int)) (x1':(List Int)) (x1'':(List (Int×((List (Int×(Bool×Unit)))×Unit)))) (x2:Int):TrOk (PureRuns Go.Proofs.Tryz.prog (kl16_0 Go.Proofs.Tryz.prog).orc 16 as16 rs16 ((x0,()),(x1,x1',x1'',()),x2,())) (t16 x0 x1 x1' x1'' x2) :=
  Walks.ok (fun _ _ _=>PureRuns.of) (wk16 x0 x1 x1' x1'' x2) (by kernel_rfl)
theorem ok16:PureOk Go.Proofs.Tryz.prog 16 p16:=pureOk_of kl16_0_ok.base (T:=fun (d:Tys.data as16)=>t16 d.1.1 d.2.1.1 d.2.1.2.1 d.2.1.2.2.1 d.2.2.1) (by kernel_rfl) (fun (d:Tys.data as16)=>ok16_t d.1.1 d.2.1.1 d.2.1.2.1 d.2.1.2.2.1 d.2.2.1)
def kf16 (P:Go.Program):Known:=(kl16_0 P).func 16 p16
theorem kf16_ok:KnownOk Go.Proofs.Tryz.prog (kf16 Go.Proofs.Tryz.prog):=kl16_0_ok.func ok16
abbrev as63:List Ty:=[(.int .i64),(.int .i64)]
abbrev rs63:List Ty:=[(.int .i64)]
def t63 (x0:Int) (x1:Int):Tr (Tys.data rs63) :=
  Tr.test ((x1 == (0:Int):Bool))
    (Tr.stop)
    (Tr.test (!leF (0:Int) (Int.tmod x0 x1))
      (Tr.fin (((wrap64 (Int.tmod x0 x1 + x1):Int),())))
      (Tr.fin (((Int.tmod x0 x1:Int),()))))
def f63 (d:Tys.data as63):Option (Tys.data rs63):=(t63 d.1 d.2.1).val
def g63 (d:Tys.data as63):Tys.data rs63:=(f63 d).getD (Tys.dflt rs63)
def p63:PureC:=pcOf as63 rs63 f63 g63
theorem wk63 (x0:Int) (x1:Int):Walks (runPure (kf16 Go.Proofs.Tryz.prog).orc Go.Proofs.Tryz.prog 400 63 as63 rs63 (x0,x1,())) (t63 x0 x1) [(bl 2 2,[2,4]),(bl 2 0,[2,4])] :=
  ⟨by kernel_rfl,by kernel_rfl,trivial⟩
theorem ok63_t (x0:Int) (x1:Int):TrOk (PureRuns Go.Proofs.Tryz.prog (kf16 Go.Proofs.Tryz.prog).orc 63 as63 rs63 (x0,x1,())) (t63 x0 x1) :=
  Walks.ok (fun _ _ _=>PureRuns.of) (wk63 x0 x1) (by kernel_rfl)
theorem ok63:PureOk Go.Proofs.Tryz.prog 63 p63:=pureOk_of kf16_ok.base (T:=fun (d:Tys.data as63)=>t63 d.1 d.2.1) (by kernel_rfl) (fun (d:Tys.data as63)=>ok63_t d.1 d.2.1)
def kf63 (P:Go.Program):Known:=(kf16 P).func 63 p63
theorem kf63_ok:KnownOk Go.Proofs.Tryz.prog (kf63 Go.Proofs.Tryz.prog):=kf16_ok.func ok63
abbrev sh17_0:Sh:={ n:=98,slots:=[2,3,4,6,7,8,9],pats:=[.ty (.int .i64),.ptr 0 1 0,.ptr 1 3 0,.ptr 2 4 0,.ptr 3 4 0,.ty (.slice (.int .i64)),.ty (.int .i64)],boxes:=[.row [.ty (.slice (.pair (.int .i64) (.pair (.int .i64) (.pair (.slice (.pair (.int .i64) (.pair (.int .i64) (.pair .bool .unit)))) .unit))))],.row [.ty (.slice (.int .i64)),.ty (.slice (.int .i64)),.ty (.slice (.pair (.int .i64) (.pair (.slice (.pair (.int .i64) (.pair .bool .unit))) .unit)))],.row [.ty (.int .i64),.ty (.int .i64),.ty (.int .i64),.ty (.int .i64)],.row [.ty (.int .i64),.ty (.int .i64),.ty (.int .i64),.ty (.int .i64)]] }
abbrev shb17_0:Sh:={ n:=98,slots:=[6,7],pats:=[.ptr 2 4 0,.ptr 3 4 0],boxes:=[.row [.ty (.slice (.pair (.int .i64) (.pair (.int .i64) (.pair (.slice (.pair (.int .i64) (.pair (.int .i64) (.pair .bool .unit)))) .unit))))],.row [.ty (.slice (.int .i64)),.ty (.slice (.int .i64)),.ty (.slice (.pair (.int .i64) (.pair (.slice (.pair (.int .i64) (.pair .bool .unit))) .unit)))],.row [.ty (.int .i64),.ty (.int .i64),.ty (.int .i64),.ty (.int .i64)],.row [.ty (.int .i64),.ty (.int .i64),.ty (.int .i64),.ty (.int .i64)]] }
abbrev shr17_0:Sh:={ n:=98,slots:=[],pats:=[],boxes:=[.row [.ty (.slice (.pair (.int .i64) (.pair (.int .i64) (.pair (.slice (.pair (.int .i64) (.pair (.int .i64) (.pair .bool .unit)))) .unit))))],.row [.ty (.slice (.int .i64)),.ty (.slice (.int .i64)),.ty (.slice (.pair (.int .i64) (.pair (.slice (.pair (.int .i64) (.pair .bool .unit))) .unit)))],.row [.ty (.int .i64),.ty (.int .i64),.ty (.int .i64),.ty (.int .i64)],.row [.ty (.int .i64),.ty (.int .i64),.ty (.int .i64),.ty (.int .i64)]] }
def t17_0 (x0:Int) (x5:(List Int)) (x6:Int) (b0_0:(List (Int×(Int×((List (Int×(Int×(Bool×Unit))))×Unit))))) (b1_0:(List Int)) (b1_1:(List Int)) (b1_2:(List (Int×((List (Int×(Bool×Unit)))×Unit)))) (b2_0:Int) (b2_1:Int) (b2_2:Int) (b2_3:Int) (b3_0:Int) (b3_1:Int) (b3_2:Int) (b3_3:Int):Tr (Out sh17_0.data shb17_0.data shr17_0.data) :=
  Tr.test ((!leF (↑(List.length x5):Int) x6:Bool))
    (Tr.test (decide ((0:Int) ≤ x6) && decide (x6 < (↑(List.length b0_0):Int)))
      (Tr.test (Option.isSome (f62 ((b0_0,()),((b1_0,(b1_1,(b1_2,()))),(x6,())))))
        (Tr.test ((decide ((0:Int) ≤ x6) && decide (x6 < (↑(List.length x5):Int)):Bool))
          (Tr.test ((decide ((0:Int) ≤ x6) && decide (x6 < (↑(List.length b1_0):Int)):Bool))
            (Tr.test ((decide ((0:Int) ≤ x6) && decide (x6 < (↑(List.length b1_1):Int)):Bool))
              (let r0:=g62 ((b0_0,()),((b1_0,(b1_1,(b1_2,()))),(x6,())));
              Tr.test (Option.isSome (f63 (r0.1,(((List.getD b0_0 (Int.toNat x6) ((0:Int),(0:Int),[],())).1:Int),()))))
                (let r1:=g63 (r0.1,(((List.getD b0_0 (Int.toNat x6) ((0:Int),(0:Int),[],())).1:Int),()));
                Tr.fin (.again ((x0,(x5,((wrap64 (x6 + (1:Int)):Int),()))),((b0_0,()),((b1_0,(b1_1,(b1_2,()))),((b2_0,(b2_1,(b2_2,(b2_3,())))),(((wrap64 (b3_0 + wrap64 ((List.getD b0_0 (Int.toNat x6) ((0:Int),(0:Int),[],())).1 * wrap64 (wrap64 (wrap64 (List.getD x5 (Int.toNat x6) (0:Int) - List.getD b1_0 (Int.toNat x6) (0:Int)) * wrap64 (List.getD x5 (Int.toNat x6) (0:Int) - List.getD b1_0 (Int.toNat x6) (0:Int))) - wrap64 (wrap64 (List.getD b1_0 (Int.toNat x6) (0:Int) - List.getD b1_1 (Int.toNat x6) (0:Int)) * wrap64 (List.getD b1_0 (Int.toNat x6) (0:Int) - List.getD b1_1 (Int.toNat x6) (0:Int)))))):Int),((wrap64 (b3_1 + wrap64 (r0.1 * wrap64 (wrap64 (List.getD x5 (Int.toNat x6) (0:Int) - List.getD b1_0 (Int.toNat x6) (0:Int)) + wrap64 (List.getD b1_0 (Int.toNat x6) (0:Int) - List.getD b1_1 (Int.toNat x6) (0:Int))))):Int),((wrap64 (b3_2 - wrap64 (wrap64 ((List.getD b0_0 (Int.toNat x6) ((0:Int),(0:Int),[],())).1 * x0) * wrap64 (wrap64 (List.getD x5 (Int.toNat x6) (0:Int) - List.getD b1_0 (Int.toNat x6) (0:Int)) + wrap64 (List.getD b1_0 (Int.toNat x6) (0:Int) - List.getD b1_1 (Int.toNat x6) (0:Int))))):Int),((wrap64 (b3_3 + wrap64 (r1.1 * wrap64 (wrap64 (List.getD x5 (Int.toNat x6) (0:Int) - List.getD b1_0 (Int.toNat x6) (0:Int)) + wrap64 (List.getD b1_0 (Int.toNat x6) (0:Int) - List.getD b1_1 (Int.toNat x6) (0:Int))))):Int),())))),())))))))
                (Tr.stop))
              (Tr.stop))
            (Tr.stop))
          (Tr.stop))
        (Tr.stop))
      (Tr.stop))
    (Tr.fin (.brk ((),((b0_0,()),((b1_0,(b1_1,(b1_2,()))),((b2_0,(b2_1,(b2_2,(b2_3,())))),((b3_0,(b3_1,(b3_2,(b3_3,())))),())))))))
def s17_0 (d:sh17_0.data):Option (Out sh17_0.data shb17_0.data shr17_0.data):=(t17_0 d.1.1 d.1.2.1 d.1.2.2.1 d.2.1.1 d.2.2.1.1 d.2.2.1.2.1 d.2.2.1.2.2.1 d.2.2.2.1.1 d.2.2.2.1.2.1 d.2.2.2.1.2.2.1 d.2.2.2.1.2.2.2.1 d.2.2.2.2.1.1 d.2.2.2.2.1.2.1 d.2.2.2.2.1.2.2.1 d.2.2.2.2.1.2.2.2.1).val
def l17_0 (d:sh17_0.data):Option (shb17_0.data ⊕ shr17_0.data):=itr s17_0 rounds d
def b17_0 (d:sh17_0.data):shb17_0.data:=outB shb17_0.dflt (l17_0 d)
def lc17_0:LoopC:=lcB sh17_0 shb17_0 shr17_0 l17_0 b17_0
theorem wk17_0 (x0:Int) (x5:(List Int)) (x6:Int) (b0_0:(List (Int×(Int×((List (Int×(Int×(Bool×Unit))))×Unit))))) (b1_0:(List Int)) (b1_1:(List Int)) (b1_2:(List (Int×((List (Int×(Bool×Unit)))×Unit)))) (b2_0:Int) (b2_1:Int) (b2_2:Int) (b2_3:Int) (b3_0:Int) (b3_1:Int) (b3_2:Int) (b3_3:Int):Walks (runBody (kf63 Go.Proofs.Tryz.prog).orc Go.Proofs.Tryz.prog 400 17 0 sh17_0 shb17_0 shr17_0 ((x0,x5,x6,()),(b0_0,()),(b1_0,b1_1,b1_2,()),(b2_0,b2_1,b2_2,b2_3,()),(b3_0,b3_1,b3_2,b3_3,()),())) (t17_0 x0 x5 x6 b0_0 b1_0 b1_1 b1_2 b2_0 b2_1 b2_2 b2_3 b3_0 b3_1 b3_2 b3_3) [(bl 7 127,[1,2,1,1,1,1,1,1,1,4,6,6,8,10,12,14]),(bl 1 0,[2])] :=
  ⟨by kernel_rfl,by kernel_rfl,trivial⟩
theorem ok17_0_t (x0:Int) (x5:(List Int)) (x6:Int) (b0_0:(List (Int×(Int×((List (Int×(Int×(Bool×Unit))))×Unit))))) (b1_0:(List Int)) (b1_1:(List Int)) (b1_2:(List (Int×((List (Int×(Bool×Unit)))×Unit)))) (b2_0:Int) (b2_1:Int) (b2_2:Int) (b2_3:Int) (b3_0:Int) (b3_1:Int) (b3_2:Int) (b3_3:Int):TrOk (BodyRuns Go.Proofs.Tryz.prog (kf63 Go.Proofs.Tryz.prog).orc 17 0 sh17_0 shb17_0 shr17_0 ((x0,x5,x6,()),(b0_0,()),(b1_0,b1_1,b1_2,()),(b2_0,b2_1,b2_2,b2_3,()),(b3_0,b3_1,b3_2,b3_3,()),())) (t17_0 x0 x5 x6 b0_0 b1_0 b1_1 b1_2 b2_0 b2_1 b2_2 b2_3 b3_0 b3_1 b3_2 b3_3) :=
  Walks.ok (fun _ _ _=>BodyRuns.of) (wk17_0 x0 x5 x6 b0_0 b1_0 b1_1 b1_2 b2_0 b2_1 b2_2 b2_3 b3_0 b3_1 b3_2 b3_3) (by kernel_rfl)
theorem ok17_0:LoopOk Go.Proofs.Tryz.prog 17 0 lc17_0:=loopOk_ofB (sh:=sh17_0) (shB:=shb17_0) (shR:=shr17_0) kf63_ok.base (T:=fun (d:sh17_0.data)=>t17_0 d.1.1 d.1.2.1 d.1.2.2.1 d.2.1.1 d.2.2.1.1 d.2.2.1.2.1 d.2.2.1.2.2.1 d.2.2.2.1.1 d.2.2.2.1.2.1 d.2.2.2.1.2.2.1 d.2.2.2.1.2.2.2.1 d.2.2.2.2.1.1 d.2.2.2.2.1.2.1 d.2.2.2.2.1.2.2.1 d.2.2.2.2.1.2.2.2.1) (by kernel_rfl) rfl (fun (d:sh17_0.data)=>ok17_0_t d.1.1 d.1.2.1 d.1.2.2.1 d.2.1.1 d.2.2.1.1 d.2.2.1.2.1 d.2.2.1.2.2.1 d.2.2.2.1.1 d.2.2.2.1.2.1 d.2.2.2.1.2.2.1 d.2.2.2.1.2.2.2.1 d.2.2.2.2.1.1 d.2.2.2.2.1.2.1 d.2.2.2.2.1.2.2.1 d.2.2.2.2.1.2.2.2.1) (fun _=>rfl)
def kl17_0 (P:Go.Program):Known:=(kf63 P).loop 17 0 lc17_0
theorem kl17_0_ok:KnownOk Go.Proofs.Tryz.prog (kl17_0 Go.Proofs.Tryz.prog):=kf63_ok.loop ok17_0
abbrev as17:List Ty:=[(.pair (.slice (.pair (.int .i64) (.pair (.int .i64) (.pair (.slice (.pair (.int .i64) (.pair (.int .i64) (.pair .bool .unit)))) .unit)))) .unit),(.pair (.slice (.int .i64)) (.pair (.slice (.int .i64)) (.pair (.slice (.pair (.int .i64) (.pair (.slice (.pair (.int .i64) (.pair .bool .unit))) .unit))) .unit))),(.int .i64)]
abbrev rs17:List Ty:=[(.pair (.int .i64) (.pair (.int .i64) (.pair (.int .i64) (.pair (.int .i64) .unit))))]
def t17 (x0:(List (Int×(Int×((List (Int×(Int×(Bool×Unit))))×Unit))))) (x1:(List Int)) (x1':(List Int)) (x1'':(List (Int×((List (Int×(Bool×Unit)))×Unit)))) (x2:Int):Tr (Tys.data rs17) :=
  Tr.test (Option.isSome (f60 ((x0,()),((x1,(x1',(x1'',()))),(x2,())))))
    (let r0:=g60 ((x0,()),((x1,(x1',(x1'',()))),(x2,())));
    Tr.test (isBrk (l17_0 ((x2,(r0.1,((0:Int),()))),((x0,()),((x1,(x1',(x1'',()))),(((0:Int),((0:Int),((0:Int),((0:Int),())))),(((0:Int),((0:Int),((0:Int),((0:Int),())))),())))))))
      (let r1:=b17_0 ((x2,(r0.1,((0:Int),()))),((x0,()),((x1,(x1',(x1'',()))),(((0:Int),((0:Int),((0:Int),((0:Int),())))),(((0:Int),((0:Int),((0:Int),((0:Int),())))),())))));
      Tr.fin (((r1.2.2.2.2.1.1,(r1.2.2.2.2.1.2.1,(r1.2.2.2.2.1.2.2.1,(r1.2.2.2.2.1.2.2.2.1,())))),())))
      (Tr.stop))
    (Tr.stop)
def f17 (d:Tys.data as17):Option (Tys.data rs17):=(t17 d.1.1 d.2.1.1 d.2.1.2.1 d.2.1.2.2.1 d.2.2.1).val
def g17 (d:Tys.data as17):Tys.data rs17:=(f17 d).getD (Tys.dflt rs17)
def p17:PureC:=pcOf as17 rs17 f17 g17
theorem wk17 (x0:(List (Int×(Int×((List (Int×(Int×(Bool×Unit))))×Unit))))) (x1:(List Int)) (x1':(List Int)) (x1'':(List (Int×((List (Int×(Bool×Unit)))×Unit)))) (x2:Int):Walks (runPure (kl17_0 Go.Proofs.Tryz.prog).orc Go.Proofs.Tryz.prog 400 17 as17 rs17 ((x0,()),(x1,x1',x1'',()),x2,())) (t17 x0 x1 x1' x1'' x2) [(bl 2 3,[1,2,4])] :=
  ⟨by kernel_rfl,trivial⟩
theorem ok17_t (x0:(List (Int×(Int×((List (Int×(Int×(Bool×Unit))))×Unit))))) (x1:(List Int)) (x1':(List Int)) (x1'':(List (Int×((List (Int×(Bool×Unit)))×Unit)))) (x2:Int):TrOk (PureRuns Go.Proofs.Tryz.prog (kl17_0 Go.Proofs.Tryz.prog).orc 17 as17 rs17 ((x0,()),(x1,x1',x1'',()),x2,())) (t17 x0 x1 x1' x1'' x2) :=
  Walks.ok (fun _ _ _=>PureRuns.of) (wk17 x0 x1 x1' x1'' x2) (by kernel_rfl)
theorem ok17:PureOk Go.Proofs.Tryz.prog 17 p17:=pureOk_of kl17_0_ok.base (T:=fun (d:Tys.data as17)=>t17 d.1.1 d.2.1.1 d.2.1.2.1 d.2.1.2.2.1 d.2.2.1) (by kernel_rfl) (fun (d:Tys.data as17)=>ok17_t d.1.1 d.2.1.1 d.2.1.2.1 d.2.1.2.2.1 d.2.2.1)
def kf17 (P:Go.Program):Known:=(kl17_0 P).func 17 p17
theorem kf17_ok:KnownOk Go.Proofs.Tryz.prog (kf17 Go.Proofs.Tryz.prog):=kl17_0_ok.func ok17
abbrev sh3_0:Sh:={ n:=170,slots:=[2,3,4,7],pats:=[.ty (.int .i64),.ptr 0 1 0,.ptr 1 3 0,.ty (.int .i64)],boxes:=[.row [.ty (.slice (.pair (.int .i64) (.pair (.int .i64) (.pair (.slice (.pair (.int .i64) (.pair (.int .i64) (.pair .bool .unit)))) .unit))))],.row [.ty (.slice (.int .i64)),.ty (.slice (.int .i64)),.ty (.slice (.pair (.int .i64) (.pair (.slice (.pair (.int .i64) (.pair .bool .unit))) .unit)))]] }
abbrev shb3_0:Sh:={ n:=170,slots:=[2,3,4],pats:=[.ty (.int .i64),.ptr 0 1 0,.ptr 1 3 0],boxes:=[.row [.ty (.slice (.pair (.int .i64) (.pair (.int .i64) (.pair (.slice (.pair (.int .i64) (.pair (.int .i64) (.pair .bool .unit)))) .unit))))],.row [.ty (.slice (.int .i64)),.ty (.slice (.int .i64)),.ty (.slice (.pair (.int .i64) (.pair (.slice (.pair (.int .i64) (.pair .bool .unit))) .unit)))]] }
abbrev shr3_0:Sh:={ n:=170,slots:=[6],pats:=[.ty .bool],boxes:=[.row [.ty (.slice (.pair (.int .i64) (.pair (.int .i64) (.pair (.slice (.pair (.int .i64) (.pair (.int .i64) (.pair .bool .unit)))) .unit))))],.row [.ty (.slice (.int .i64)),.ty (.slice (.int .i64)),.ty (.slice (.pair (.int .i64) (.pair (.slice (.pair (.int .i64) (.pair .bool .unit))) .unit)))]] }
def t3_0 (x0:Int) (x3:Int) (b0_0:(List (Int×(Int×((List (Int×(Int×(Bool×Unit))))×Unit))))) (b1_0:(List Int)) (b1_1:(List Int)) (b1_2:(List (Int×((List (Int×(Bool×Unit)))×Unit)))):Tr (Out sh3_0.data shb3_0.data shr3_0.data) :=
  Tr.test ((!leF (↑(List.length b1_2):Int) x3:Bool))
    (Tr.test (decide ((0:Int) ≤ x3) && decide (x3 < (↑(List.length b1_2):Int)))
      (Tr.test ((!leF (↑(List.length (List.getD b1_2 (Int.toNat x3) ((0:Int),[],())).2.1):Int) (6:Int):Bool))
        (Tr.fin (.ret (((true:Bool),()),((b0_0,()),((b1_0,(b1_1,(b1_2,()))),())))))
        (Tr.fin (.again ((x0,((wrap64 (x3 + (1:Int)):Int),())),((b0_0,()),((b1_0,(b1_1,(b1_2,()))),()))))))
      (Tr.stop))
    (Tr.fin (.brk ((x0,()),((b0_0,()),((b1_0,(b1_1,(b1_2,()))),())))))
def s3_0 (d:sh3_0.data):Option (Out sh3_0.data shb3_0.data shr3_0.data):=(t3_0 d.1.1 d.1.2.1 d.2.1.1 d.2.2.1.1 d.2.2.1.2.1 d.2.2.1.2.2.1).val
def l3_0 (d:sh3_0.data):Option (shb3_0.data ⊕ shr3_0.data):=itr s3_0 rounds d
def b3_0 (d:sh3_0.data):shb3_0.data:=outB shb3_0.dflt (l3_0 d)
def r3_0 (d:sh3_0.data):shr3_0.data:=outR shr3_0.dflt (l3_0 d)
def lc3_0:LoopC:=lcOf sh3_0 shb3_0 shr3_0 l3_0 b3_0 r3_0
theorem wk3_0 (x0:Int) (x3:Int) (b0_0:(List (Int×(Int×((List (Int×(Int×(Bool×Unit))))×Unit))))) (b1_0:(List Int)) (b1_1:(List Int)) (b1_2:(List (Int×((List (Int×(Bool×Unit)))×Unit)))):Walks (runBody (kf17 Go.Proofs.Tryz.prog).orc Go.Proofs.Tryz.prog 400 3 0 sh3_0 shb3_0 shr3_0 ((x0,x3,()),(b0_0,()),(b1_0,b1_1,b1_2,()),())) (t3_0 x0 x3 b0_0 b1_0 b1_1 b1_2) [(bl 3 7,[2,4,6]),(bl 3 3,[2,4,6]),(bl 1 0,[2])] :=
  ⟨by kernel_rfl,by kernel_rfl,by kernel_rfl,trivial⟩
theorem ok3_0_t (x0:Int) (x3:Int) (b0_0:(List (Int×(Int×((List (Int×(Int×(Bool×Unit))))×Unit))))) (b1_0:(List Int)) (b1_1:(List Int)) (b1_2:(List (Int×((List (Int×(Bool×Unit)))×Unit)))):TrOk (BodyRuns Go.Proofs.Tryz.prog (kf17 Go.Proofs.Tryz.prog).orc 3 0 sh3_0 shb3_0 shr3_0 ((x0,x3,()),(b0_0,()),(b1_0,b1_1,b1_2,()),())) (t3_0 x0 x3 b0_0 b1_0 b1_1 b1_2) :=
  Walks.ok (fun _ _ _=>BodyRuns.of) (wk3_0 x0 x3 b0_0 b1_0 b1_1 b1_2) (by kernel_rfl)
theorem ok3_0:LoopOk Go.Proofs.Tryz.prog 3 0 lc3_0:=loopOk_of (sh:=sh3_0) (shB:=shb3_0) (shR:=shr3_0) kf17_ok.base (T:=fun (d:sh3_0.data)=>t3_0 d.1.1 d.1.2.1 d.2.1.1 d.2.2.1.1 d.2.2.1.2.1 d.2.2.1.2.2.1) (by kernel_rfl) rfl (fun (d:sh3_0.data)=>ok3_0_t d.1.1 d.1.2.1 d.2.1.1 d.2.2.1.1 d.2.2.1.2.1 d.2.2.1.2.2.1) (fun _=>rfl)
def kl3_0 (P:Go.Program):Known:=(kf17 P).loop 3 0 lc3_0
theorem kl3_0_ok:KnownOk Go.Proofs.Tryz.prog (kl3_0 Go.Proofs.Tryz.prog):=kf17_ok.loop ok3_0
abbrev as3:List Ty:=[(.pair (.slice (.pair (.int .i64) (.pair (.int .i64) (.pair (.slice (.pair (.int .i64) (.pair (.int .i64) (.pair .bool .unit)))) .unit)))) .unit),(.pair (.slice (.int .i64)) (.pair (.slice (.int .i64)) (.pair (.slice (.pair (.int .i64) (.pair (.slice (.pair (.int .i64) (.pair .bool .unit))) .unit))) .unit))),(.int .i64)]
abbrev rs3:List Ty:=[.bool]
def t3 (x0:(List (Int×(Int×((List (Int×(Int×(Bool×Unit))))×Unit))))) (x1:(List Int)) (x1':(List Int)) (x1'':(List (Int×((List (Int×(Bool×Unit)))×Unit)))) (x2:Int):Tr (Tys.data rs3) :=
  Tr.test (Option.isSome (f6 ((x0,()),())))
    (let r0:=g6 ((x0,()),());
    Tr.test ((!r0.1:Bool))
      (Tr.fin (((true:Bool),())))
      (Tr.test ((!leF (↑(List.length x1):Int) (7:Int):Bool))
        (Tr.fin (((true:Bool),())))
        (Tr.test ((!leF (↑(List.length x1'):Int) (7:Int):Bool))
          (Tr.fin (((true:Bool),())))
          (Tr.test ((!leF (↑(List.length x1''):Int) (7:Int):Bool))
            (Tr.fin (((true:Bool),())))
            (Tr.test (Option.isSome (l3_0 ((x2,((0:Int),())),((x0,()),((x1,(x1',(x1'',()))),())))))
              (Tr.test (isRet (l3_0 ((x2,((0:Int),())),((x0,()),((x1,(x1',(x1'',()))),())))))
                (let r1:=r3_0 ((x2,((0:Int),())),((x0,()),((x1,(x1',(x1'',()))),())));
                Tr.fin ((r1.1.1,())))
                (let r2:=b3_0 ((x2,((0:Int),())),((x0,()),((x1,(x1',(x1'',()))),())));
                Tr.test (Option.isSome (f8 (((r2.2.1.1:List (Int×Int×List (Int×Int×Bool×PUnit)×PUnit)),()),())))
                  (Tr.test (Option.isSome (f9 ((r2.2.2.1.1,(r2.2.2.1.2.1,((r2.2.2.1.2.2.1:List (Int×List (Int×Bool×PUnit)×PUnit)),()))),())))
                    (let r3:=g8 (((r2.2.1.1:List (Int×Int×List (Int×Int×Bool×PUnit)×PUnit)),()),());
                    let r4:=g9 ((r2.2.2.1.1,(r2.2.2.1.2.1,((r2.2.2.1.2.2.1:List (Int×List (Int×Bool×PUnit)×PUnit)),()))),());
                    Tr.test (Option.isSome (f7 (((r3.1.1:List (Int×Int×List (Int×Int×Bool×PUnit)×PUnit)),()),((r4.1.1,(r4.1.2.1,((r4.1.2.2.1:List (Int×List (Int×Bool×PUnit)×PUnit)),()))),()))))
                      (Tr.test (Option.isSome (f10 (((r3.1.1:List (Int×Int×List (Int×Int×Bool×PUnit)×PUnit)),()),((r4.1.1,(r4.1.2.1,((r4.1.2.2.1:List (Int×List (Int×Bool×PUnit)×PUnit)),()))),(r2.1.1,())))))
                        (Tr.test (Option.isSome (f11 (((r3.1.1:List (Int×Int×List (Int×Int×Bool×PUnit)×PUnit)),()),((r4.1.1,(r4.1.2.1,((r4.1.2.2.1:List (Int×List (Int×Bool×PUnit)×PUnit)),()))),(r2.1.1,())))))
                          (Tr.test (Option.isSome (f12 (((r2.2.1.1:List (Int×Int×List (Int×Int×Bool×PUnit)×PUnit)),()),())))
                            (let r8:=g12 (((r2.2.1.1:List (Int×Int×List (Int×Int×Bool×PUnit)×PUnit)),()),());
                            Tr.test ((eqF r8.2.1 0:Bool))
                              (Tr.test (Option.isSome (f13 (((r2.2.1.1:List (Int×Int×List (Int×Int×Bool×PUnit)×PUnit)),()),((r2.2.2.1.1,(r2.2.2.1.2.1,((r2.2.2.1.2.2.1:List (Int×List (Int×Bool×PUnit)×PUnit)),()))),()))))
                                (let r5:=g7 (((r3.1.1:List (Int×Int×List (Int×Int×Bool×PUnit)×PUnit)),()),((r4.1.1,(r4.1.2.1,((r4.1.2.2.1:List (Int×List (Int×Bool×PUnit)×PUnit)),()))),()));
                                let r9:=g13 (((r2.2.1.1:List (Int×Int×List (Int×Int×Bool×PUnit)×PUnit)),()),((r2.2.2.1.1,(r2.2.2.1.2.1,((r2.2.2.1.2.2.1:List (Int×List (Int×Bool×PUnit)×PUnit)),()))),()));
                                Tr.test ((!eqF r5.2.1 r9.2.1:Bool))
                                  (Tr.fin (((false:Bool),())))
                                  (Tr.test ((!eqF r5.1 r9.1:Bool))
                                    (Tr.fin (((false:Bool),())))
                                    (Tr.test ((eqF r9.2.1 0:Bool))
                                      (Tr.test (Option.isSome (f14 (r2.1.1,())))
                                        (let r10:=g14 (r2.1.1,());
                                        Tr.test ((!eqF r10.1 0:Bool))
                                          (let r6:=g10 (((r3.1.1:List (Int×Int×List (Int×Int×Bool×PUnit)×PUnit)),()),((r4.1.1,(r4.1.2.1,((r4.1.2.2.1:List (Int×List (Int×Bool×PUnit)×PUnit)),()))),(r2.1.1,())));
                                          Tr.test ((eqF r6.2.1 r10.1:Bool))
                                            (let r7:=g11 (((r3.1.1:List (Int×Int×List (Int×Int×Bool×PUnit)×PUnit)),()),((r4.1.1,(r4.1.2.1,((r4.1.2.2.1:List (Int×List (Int×Bool×PUnit)×PUnit)),()))),(r2.1.1,())));
                                            Tr.test ((eqF r7.2.1 r10.1:Bool))
                                              (Tr.test (Option.isSome (f15 ((r6.1.1,(r6.1.2.1,((r6.1.2.2.1:List (Int×List (Int×Bool×PUnit)×PUnit)),()))),((([]:List Int),(([]:List Int),(([]:List (Int×List (Int×Bool×PUnit)×PUnit)),()))),()))))
                                                (let r11:=g15 ((r6.1.1,(r6.1.2.1,((r6.1.2.2.1:List (Int×List (Int×Bool×PUnit)×PUnit)),()))),((([]:List Int),(([]:List Int),(([]:List (Int×List (Int×Bool×PUnit)×PUnit)),()))),()));
                                                Tr.test (r11.1)
                                                  (Tr.fin (((r7.1.1 == (0:Int) && (r7.1.2.1 == (0:Int) && (r7.1.2.2.1 == (0:Int) && (r7.1.2.2.2.1 == (0:Int) && true))):Bool),())))
                                                  (Tr.fin (((false:Bool),()))))
                                                (Tr.stop))
                                              (Tr.fin (((false:Bool),()))))
                                            (Tr.fin (((false:Bool),()))))
                                          (Tr.test (Option.isSome (f16 (((r2.2.1.1:List (Int×Int×List (Int×Int×Bool×PUnit)×PUnit)),()),((r2.2.2.1.1,(r2.2.2.1.2.1,((r2.2.2.1.2.2.1:List (Int×List (Int×Bool×PUnit)×PUnit)),()))),(r2.1.1,())))))
                                            (let r7:=g11 (((r3.1.1:List (Int×Int×List (Int×Int×Bool×PUnit)×PUnit)),()),((r4.1.1,(r4.1.2.1,((r4.1.2.2.1:List (Int×List (Int×Bool×PUnit)×PUnit)),()))),(r2.1.1,())));
                                            Tr.test ((!eqF r7.2.1 0:Bool))
                                              (Tr.fin (((false:Bool),())))
                                              (Tr.test (Option.isSome (f17 (((r2.2.1.1:List (Int×Int×List (Int×Int×Bool×PUnit)×PUnit)),()),((r2.2.2.1.1,(r2.2.2.1.2.1,((r2.2.2.1.2.2.1:List (Int×List (Int×Bool×PUnit)×PUnit)),()))),(r2.1.1,())))))
                                                (let r13:=g17 (((r2.2.1.1:List (Int×Int×List (Int×Int×Bool×PUnit)×PUnit)),()),((r2.2.2.1.1,(r2.2.2.1.2.1,((r2.2.2.1.2.2.1:List (Int×List (Int×Bool×PUnit)×PUnit)),()))),(r2.1.1,())));
                                                Tr.test ((!(r7.1.1 == r13.1.1 && (r7.1.2.1 == r13.1.2.1 && (r7.1.2.2.1 == r13.1.2.2.1 && (r7.1.2.2.2.1 == r13.1.2.2.2.1 && true)))):Bool))
                                                  (Tr.fin (((false:Bool),())))
                                                  (let r12:=g16 (((r2.2.1.1:List (Int×Int×List (Int×Int×Bool×PUnit)×PUnit)),()),((r2.2.2.1.1,(r2.2.2.1.2.1,((r2.2.2.1.2.2.1:List (Int×List (Int×Bool×PUnit)×PUnit)),()))),(r2.1.1,())));
                                                  Tr.test ((leF (0:Int) r12.2.1:Bool))
                                                    (let r6:=g10 (((r3.1.1:List (Int×Int×List (Int×Int×Bool×PUnit)×PUnit)),()),((r4.1.1,(r4.1.2.1,((r4.1.2.2.1:List (Int×List (Int×Bool×PUnit)×PUnit)),()))),(r2.1.1,())));
                                                    Tr.test ((eqF r6.2.1 22:Bool))
                                                      (Tr.test (Option.isSome (f15 ((r6.1.1,(r6.1.2.1,((r6.1.2.2.1:List (Int×List (Int×Bool×PUnit)×PUnit)),()))),((([]:List Int),(([]:List Int),(([]:List (Int×List (Int×Bool×PUnit)×PUnit)),()))),()))))
                                                        (let r11:=g15 ((r6.1.1,(r6.1.2.1,((r6.1.2.2.1:List (Int×List (Int×Bool×PUnit)×PUnit)),()))),((([]:List Int),(([]:List Int),(([]:List (Int×List (Int×Bool×PUnit)×PUnit)),()))),()));
                                                        Tr.fin ((r11.1,())))
                                                        (Tr.stop))
                                                      (Tr.fin (((false:Bool),()))))
                                                    (let r6:=g10 (((r3.1.1:List (Int×Int×List (Int×Int×Bool×PUnit)×PUnit)),()),((r4.1.1,(r4.1.2.1,((r4.1.2.2.1:List (Int×List (Int×Bool×PUnit)×PUnit)),()))),(r2.1.1,())));
                                                    Tr.test ((eqF r6.2.1 0:Bool))
                                                      (Tr.test (Option.isSome (f15 ((r6.1.1,(r6.1.2.1,((r6.1.2.2.1:List (Int×List (Int×Bool×PUnit)×PUnit)),()))),((r12.1.1,(r12.1.2.1,((r12.1.2.2.1:List (Int×List (Int×Bool×PUnit)×PUnit)),()))),()))))
                                                        (let r14:=g15 ((r6.1.1,(r6.1.2.1,((r6.1.2.2.1:List (Int×List (Int×Bool×PUnit)×PUnit)),()))),((r12.1.1,(r12.1.2.1,((r12.1.2.2.1:List (Int×List (Int×Bool×PUnit)×PUnit)),()))),()));
                                                        Tr.test (r14.1)
                                                          (Tr.fin (((true:Bool),())))
                                                          (Tr.fin (((false:Bool),()))))
                                                        (Tr.stop))
                                                      (Tr.fin (((false:Bool),()))))))
                                                (Tr.stop)))
                                            (Tr.stop)))
                                        (Tr.stop))
                                      (let r6:=g10 (((r3.1.1:List (Int×Int×List (Int×Int×Bool×PUnit)×PUnit)),()),((r4.1.1,(r4.1.2.1,((r4.1.2.2.1:List (Int×List (Int×Bool×PUnit)×PUnit)),()))),(r2.1.1,())));
                                      Tr.test ((eqF r6.2.1 r9.2.1:Bool))
                                        (let r7:=g11 (((r3.1.1:List (Int×Int×List (Int×Int×Bool×PUnit)×PUnit)),()),((r4.1.1,(r4.1.2.1,((r4.1.2.2.1:List (Int×List (Int×Bool×PUnit)×PUnit)),()))),(r2.1.1,())));
                                        Tr.test ((eqF r7.2.1 r9.2.1:Bool))
                                          (Tr.test (Option.isSome (f15 ((r6.1.1,(r6.1.2.1,((r6.1.2.2.1:List (Int×List (Int×Bool×PUnit)×PUnit)),()))),((([]:List Int),(([]:List Int),(([]:List (Int×List (Int×Bool×PUnit)×PUnit)),()))),()))))
                                            (let r11:=g15 ((r6.1.1,(r6.1.2.1,((r6.1.2.2.1:List (Int×List (Int×Bool×PUnit)×PUnit)),()))),((([]:List Int),(([]:List Int),(([]:List (Int×List (Int×Bool×PUnit)×PUnit)),()))),()));
                                            Tr.test (r11.1)
                                              (Tr.fin (((r7.1.1 == (0:Int) && (r7.1.2.1 == (0:Int) && (r7.1.2.2.1 == (0:Int) && (r7.1.2.2.2.1 == (0:Int) && true))):Bool),())))
                                              (Tr.fin (((false:Bool),()))))
                                            (Tr.stop))
                                          (Tr.fin (((false:Bool),()))))
                                        (Tr.fin (((false:Bool),())))))))
                                (Tr.stop))
                              (let r5:=g7 (((r3.1.1:List (Int×Int×List (Int×Int×Bool×PUnit)×PUnit)),()),((r4.1.1,(r4.1.2.1,((r4.1.2.2.1:List (Int×List (Int×Bool×PUnit)×PUnit)),()))),()));
                              Tr.test ((!eqF r5.2.1 r8.2.1:Bool))
                                (Tr.fin (((false:Bool),())))
                                (Tr.test ((!eqF r5.1 r8.1:Bool))
                                  (Tr.fin (((false:Bool),())))
                                  (let r6:=g10 (((r3.1.1:List (Int×Int×List (Int×Int×Bool×PUnit)×PUnit)),()),((r4.1.1,(r4.1.2.1,((r4.1.2.2.1:List (Int×List (Int×Bool×PUnit)×PUnit)),()))),(r2.1.1,())));
                                  Tr.test ((eqF r6.2.1 r8.2.1:Bool))
                                    (let r7:=g11 (((r3.1.1:List (Int×Int×List (Int×Int×Bool×PUnit)×PUnit)),()),((r4.1.1,(r4.1.2.1,((r4.1.2.2.1:List (Int×List (Int×Bool×PUnit)×PUnit)),()))),(r2.1.1,())));
                                    Tr.test ((eqF r7.2.1 r8.2.1:Bool))
                                      (Tr.test (Option.isSome (f15 ((r6.1.1,(r6.1.2.1,((r6.1.2.2.1:List (Int×List (Int×Bool×PUnit)×PUnit)),()))),((([]:List Int),(([]:List Int),(([]:List (Int×List (Int×Bool×PUnit)×PUnit)),()))),()))))
                                        (let r11:=g15 ((r6.1.1,(r6.1.2.1,((r6.1.2.2.1:List (Int×List (Int×Bool×PUnit)×PUnit)),()))),((([]:List Int),(([]:List Int),(([]:List (Int×List (Int×Bool×PUnit)×PUnit)),()))),()));
                                        Tr.test (r11.1)
                                          (Tr.fin (((r7.1.1 == (0:Int) && (r7.1.2.1 == (0:Int) && (r7.1.2.2.1 == (0:Int) && (r7.1.2.2.2.1 == (0:Int) && true))):Bool),())))
                                          (Tr.fin (((false:Bool),()))))
                                        (Tr.stop))
                                      (Tr.fin (((false:Bool),()))))
                                    (Tr.fin (((false:Bool),())))))))
                            (Tr.stop))
                          (Tr.stop))
                        (Tr.stop))
                      (Tr.stop))
                    (Tr.stop))
                  (Tr.stop)))
              (Tr.stop))))))
    (Tr.stop)
def f3 (d:Tys.data as3):Option (Tys.data rs3):=(t3 d.1.1 d.2.1.1 d.2.1.2.1 d.2.1.2.2.1 d.2.2.1).val
def g3 (d:Tys.data as3):Tys.data rs3:=(f3 d).getD (Tys.dflt rs3)
def p3:PureC:=pcOf as3 rs3 f3 g3
theorem wk3n0 (x0:(List (Int×(Int×((List (Int×(Int×(Bool×Unit))))×Unit))))) (x1:(List Int)) (x1':(List Int)) (x1'':(List (Int×((List (Int×(Bool×Unit)))×Unit)))) (x2:Int):Walks (runPure (kl3_0 Go.Proofs.Tryz.prog).orc Go.Proofs.Tryz.prog 400 3 as3 rs3 ((x0,()),(x1,x1',x1'',()),x2,())) (t3 x0 x1 x1' x1'' x2) [(bl 2 3,[1,1,1,1,1,1,1,1,1,1,1,2,2,2,2,2,4,0,1]),(bl 3 5,[1,1,1,1,1,1,2,2,2,2,2,4,4,4,4,4,6,0,1]),(bl 4 9,[1,2,2,2,2,2,4,4,4,4,4,6,6,6,6,6,8,0,1]),(bl 5 17,[2,4,4,4,4,4,6,6,6,6,6,8,8,8,8,8,10,0,1]),(bl 7 97,[2,4,6,8,8,8,8,8,10,10,10,10,10,12,12,12,12,12,14,0,1]),(bl 16 65441,[1,2,2,2,2,4,6,8,10,16,18,12,16,18,14,16,18,20,22,24,26,26,26,26,26,28,28,28,28,28,30,30,30,30,30,32,0,1]),(bl 17 98209,[2,4,4,4,4,6,8,10,12,18,20,14,18,20,16,18,20,22,24,26,28,28,28,28,28,30,30,30,30,30,32,32,32,32,32,34,0,1]),(bl 24 16678817,[2,2,2,2,6,4,6,6,6,8,8,8,8,10,12,14,16,18,18,18,18,20,22,24,26,32,34,28,32,34,30,32,34,36,38,40,42,42,42,42,42,44,44,44,44,44,46,46,46,46,46,48,0,1]),(bl 24 8290209,[2,2,2,2,6,4,6,6,6,8,8,8,8,10,12,14,16,18,18,18,18,20,22,24,26,32,34,28,32,34,30,32,34,36,38,40,42,42,42,42,42,44,44,44,44,44,46,46,46,46,46,48,0,1]),(bl 22 1998753,[0,0,0,0,2,2,2,2,4,4,4,4,6,8,10,12,14,14,14,14,16,18,20,22,28,30,24,28,30,26,28,30,32,34,36,38,38,38,38,38,40,40,40,40,40,42,42,42,42,42,44,0,1]),(bl 21 950177,[0,0,0,0,0,0,0,0,2,2,2,2,4,6,8,10,12,12,12,12,14,16,18,20,26,28,22,26,28,24,26,28,30,32,34,36,36,36,36,36,38,38,38,38,38,40,40,40,40,40,42,0,1]),(bl 22 3571617,[1,2,2,2,2,2,2,2,4,6,8,10,12,14,14,14,14,16,18,20,22,28,30,24,28,30,26,28,30,32,34,36,38,38,38,38,38,40,40,40,40,40,42,42,42,42,42,44,0,1]),(bl 24 14057377,[2,6,6,4,6,6,6,6,6,8,10,12,14,16,18,18,18,18,20,22,24,26,32,34,28,32,34,30,32,34,36,38,40,42,42,42,42,42,44,44,44,44,44,46,46,46,46,46,48,0,1]),(bl 27 123109281,[0,4,0,2,4,4,4,0,6,0,6,6,0,0,0,0,0,0,0,7,7,7,8,12,12,10,12,12,12,12,12,14,16,18,20,22,24,24,24,24,26,28,30,32,38,40,34,38,40,36,38,40,42,44,46,48,48,48,48,48,50,50,50,50,50,52,52,52,52,52,54,0,1]),(bl 26 22445985,[0,2,0,2,2,2,0,4,0,4,4,0,0,0,0,0,0,0,5,5,5,6,10,10,8,10,10,10,10,10,12,14,16,18,20,22,22,22,22,24,26,28,30,36,38,32,36,38,34,36,38,40,42,44,46,46,46,46,46,48,48,48,48,48,50,50,50,50,50,52,0,1]),(bl 28 240549793,[2,2,2,2,2,2,2,6,4,6,6,6,9,9,9,10,14,14,12,14,14,14,14,14,16,18,20,22,24,26,26,26,26,28,30,32,34,40,42,36,40,42,38,40,42,44,46,48,50,50,50,50,50,52,52,52,52,52,54,54,54,54,54,56,0,1])] :=
  ⟨by kernel_rfl,by kernel_rfl,by kernel_rfl,by kernel_rfl,by kernel_rfl,by kernel_rfl,by kernel_rfl,by kernel_rfl,by kernel_rfl,by kernel_rfl,by kernel_rfl,by kernel_rfl,by kernel_rfl,by kernel_rfl,by kernel_rfl,by kernel_rfl,trivial⟩
theorem wk3n1 (x0:(List (Int×(Int×((List (Int×(Int×(Bool×Unit))))×Unit))))) (x1:(List Int)) (x1':(List Int)) (x1'':(List (Int×((List (Int×(Bool×Unit)))×Unit)))) (x2:Int):Walks (runPure (kl3_0 Go.Proofs.Tryz.prog).orc Go.Proofs.Tryz.prog 400 3 as3 rs3 ((x0,()),(x1,x1',x1'',()),x2,())) (t3 x0 x1 x1' x1'' x2) [(bl 28 106332065,[2,0,2,0,0,0,2,8,2,8,8,2,2,2,6,4,6,6,6,9,9,9,10,14,14,12,14,14,14,14,14,16,18,20,22,24,26,26,26,26,28,30,32,34,40,42,36,40,42,38,40,42,44,46,48,50,50,50,50,50,52,52,52,52,52,54,54,54,54,54,56,0,1]),(bl 26 5668769,[0,0,0,0,0,0,0,4,0,4,4,0,0,0,2,2,2,2,5,5,5,6,10,10,8,10,10,10,10,10,12,14,16,18,20,22,22,22,22,24,26,28,30,36,38,32,36,38,34,36,38,40,42,44,46,46,46,46,46,48,48,48,48,48,50,50,50,50,50,52,0,1]),(bl 22 3964833,[2,2,2,2,6,4,6,6,6,8,8,8,8,11,10,12,14,14,14,14,16,18,20,22,28,30,24,28,30,26,28,30,32,34,36,38,38,38,38,38,40,40,40,40,40,42,42,42,42,42,44,0,1]),(bl 22 1867681,[2,2,2,2,6,4,6,6,6,8,8,8,8,11,10,12,14,14,14,14,16,18,20,22,28,30,24,28,30,26,28,30,32,34,36,38,38,38,38,38,40,40,40,40,40,42,42,42,42,42,44,0,1]),(bl 20 294817,[0,0,0,0,2,2,2,2,4,4,4,4,7,6,8,10,10,10,10,12,14,16,18,24,26,20,24,26,22,24,26,28,30,32,34,34,34,34,34,36,36,36,36,36,38,38,38,38,38,40,0,1]),(bl 19 32673,[0,0,0,0,0,0,0,0,2,2,2,2,5,4,6,8,8,8,8,10,12,14,16,22,24,18,22,24,20,22,24,26,28,30,32,32,32,32,32,34,34,34,34,34,36,36,36,36,36,38,0,1]),(bl 15 24481,[1,2,2,2,2,4,6,8,14,16,10,14,16,12,14,16,18,20,22,24,24,24,24,24,26,26,26,26,26,28,28,28,28,28,30,0,1]),(bl 16 40865,[2,4,4,4,4,6,8,10,16,18,12,16,18,14,16,18,20,22,24,26,26,26,26,26,28,28,28,28,28,30,30,30,30,30,32,0,1]),(bl 20 991137,[2,2,2,2,6,4,6,6,6,8,8,8,8,15,14,10,12,12,12,12,14,16,18,24,26,20,24,26,22,24,26,28,30,32,34,34,34,34,34,36,36,36,36,36,38,38,38,38,38,40,0,1]),(bl 20 466849,[2,2,2,2,6,4,6,6,6,8,8,8,8,15,14,10,12,12,12,12,14,16,18,24,26,20,24,26,22,24,26,28,30,32,34,34,34,34,34,36,36,36,36,36,38,38,38,38,38,40,0,1]),(bl 18 73633,[0,0,0,0,2,2,2,2,4,4,4,4,11,10,6,8,8,8,8,10,12,14,20,22,16,20,22,18,20,22,24,26,28,30,30,30,30,30,32,32,32,32,32,34,34,34,34,34,36,0,1]),(bl 17 8097,[0,0,0,0,0,0,0,0,2,2,2,2,9,8,4,6,6,6,6,8,10,12,18,20,14,18,20,16,18,20,22,24,26,28,28,28,28,28,30,30,30,30,30,32,32,32,32,32,34,0,1])] :=
  ⟨by kernel_rfl,by kernel_rfl,by kernel_rfl,by kernel_rfl,by kernel_rfl,by kernel_rfl,by kernel_rfl,by kernel_rfl,by kernel_rfl,by kernel_rfl,by kernel_rfl,by kernel_rfl,trivial⟩
theorem ok3_t (x0:(List (Int×(Int×((List (Int×(Int×(Bool×Unit))))×Unit))))) (x1:(List Int)) (x1':(List Int)) (x1'':(List (Int×((List (Int×(Bool×Unit)))×Unit)))) (x2:Int):TrOk (PureRuns Go.Proofs.Tryz.prog (kl3_0 Go.Proofs.Tryz.prog).orc 3 as3 rs3 ((x0,()),(x1,x1',x1'',()),x2,())) (t3 x0 x1 x1' x1'' x2) :=
  Walks.ok (fun _ _ _=>PureRuns.of) ((wk3n0 x0 x1 x1' x1'' x2).append (wk3n1 x0 x1 x1' x1'' x2)) (by kernel_rfl)
theorem ok3:PureOk Go.Proofs.Tryz.prog 3 p3:=pureOk_of kl3_0_ok.base (T:=fun (d:Tys.data as3)=>t3 d.1.1 d.2.1.1 d.2.1.2.1 d.2.1.2.2.1 d.2.2.1) (by kernel_rfl) (fun (d:Tys.data as3)=>ok3_t d.1.1 d.2.1.1 d.2.1.2.1 d.2.1.2.2.1 d.2.2.1)
end Go.Vm.Mo
