import Derived.Test.YtlmcodagfhdncaaA4
import Derived.KernelRfl
import Derived.Test.YtlmcodagfhdncaaProg
import Derived.Test.YtlmcodagfhdncaaRsFa
set_option linter.unusedVariables false
set_option linter.unusedSimpArgs false

namespace Go.Vm.Mo
open Go
set_option linter.unusedVariables false

/-! loop 0 of ductility/ductilitybase.Ints -/

abbrev sh24_0:Sh:={ n:=26,slots:=[0,1,5],pats:=[.ty (.slice (.int .i64)),.ty (.slice (.int .i64)),.ty (.int .i64)],boxes:=[] }
abbrev shb24_0:Sh:={ n:=26,slots:=[],pats:=[],boxes:=[] }
abbrev shr24_0:Sh:={ n:=26,slots:=[4],pats:=[.ty .bool],boxes:=[] }

def t24_0 (x0:(List Int)) (x1:(List Int)) (x2:Int):Tr (Out sh24_0.data shb24_0.data shr24_0.data) :=
  Tr.test ((!leF (↑(List.length x0):Int) x2:Bool))
    (Tr.test (decide ((0:Int) ≤ x2) && decide (x2 < (↑(List.length x0):Int)))
      (Tr.test ((decide ((0:Int) ≤ x2) && decide (x2 < (↑(List.length x1):Int)):Bool))
        (Tr.test ((!eqF (List.getD x0 (Int.toNat x2) (0:Int)) (List.getD x1 (Int.toNat x2) (0:Int)):Bool))
          (Tr.fin (.ret (((false:Bool),()),())))
          (Tr.fin (.again ((x0,(x1,((wrap64 (x2 + (1:Int)):Int),()))),()))))
        (Tr.stop))
      (Tr.stop))
    (Tr.fin (.brk ((),())))

def s24_0 (d:sh24_0.data):Option (Out sh24_0.data shb24_0.data shr24_0.data):=(t24_0 d.1.1 d.1.2.1 d.1.2.2.1).val
def l24_0 (d:sh24_0.data):Option (shb24_0.data ⊕ shr24_0.data):=itr s24_0 rounds d
def b24_0 (d:sh24_0.data):shb24_0.data:=outB shb24_0.dflt (l24_0 d)
def r24_0 (d:sh24_0.data):shr24_0.data:=outR shr24_0.dflt (l24_0 d)
def lc24_0:LoopC:=lcOf sh24_0 shb24_0 shr24_0 l24_0 b24_0 r24_0

theorem wk24_0 (x0:(List Int)) (x1:(List Int)) (x2:Int):Walks (runBody (kf55 Go.Proofs.Try.prog).orc Go.Proofs.Try.prog 400 24 0 sh24_0 shb24_0 shr24_0 ((x0,x1,x2,()),())) (t24_0 x0 x1 x2) [([true,true,true,true],[2,4,6,8]),([true,true,true,false],[2,4,6,8]),([ff],[2])] :=
  ⟨by kernel_rfl,by kernel_rfl,by kernel_rfl,trivial⟩

theorem ok24_0_t (x0:(List Int)) (x1:(List Int)) (x2:Int):TrOk (BodyRuns Go.Proofs.Try.prog (kf55 Go.Proofs.Try.prog).orc 24 0 sh24_0 shb24_0 shr24_0 ((x0,x1,x2,()),())) (t24_0 x0 x1 x2) :=
  Walks.ok (fun _ _ _=>BodyRuns.of) (wk24_0 x0 x1 x2) (by kernel_rfl)

theorem ok24_0:LoopOk Go.Proofs.Try.prog 24 0 lc24_0:=loopOk_of (sh:=sh24_0) (shB:=shb24_0) (shR:=shr24_0) kf55_ok.base (T:=fun (d:sh24_0.data)=>t24_0 d.1.1 d.1.2.1 d.1.2.2.1) (by kernel_rfl) rfl (fun (d:sh24_0.data)=>ok24_0_t d.1.1 d.1.2.1 d.1.2.2.1) (fun _=>rfl)
def kl24_0 (P:Go.Program):Known:=(kf55 P).loop 24 0 lc24_0
theorem kl24_0_ok:KnownOk Go.Proofs.Try.prog (kl24_0 Go.Proofs.Try.prog):=kf55_ok.loop ok24_0

/-! ductility/ductilitybase.Ints -/

abbrev as24:List Ty:=[(.slice (.int .i64)),(.slice (.int .i64))]
abbrev rs24:List Ty:=[.bool]

def t24 (x0:(List Int)) (x1:(List Int)):Tr (Tys.data rs24) :=
  Tr.test ((!eqF (↑(List.length x0):Int) (↑(List.length x1):Int):Bool))
    (Tr.fin ((false,())))
    (Tr.test (Option.isSome (l24_0 ((x0,(x1,((0:Int),()))),())))
      (Tr.test (isRet (l24_0 ((x0,(x1,((0:Int),()))),())))
        (let r0:=r24_0 ((x0,(x1,((0:Int),()))),());
        Tr.fin ((r0.1.1,())))
        (Tr.fin (((true:Bool),()))))
      (Tr.stop))

def f24 (d:Tys.data as24):Option (Tys.data rs24):=(t24 d.1 d.2.1).val
def g24 (d:Tys.data as24):Tys.data rs24:=(f24 d).getD (Tys.dflt rs24)
def p24:PureC:=pcOf as24 rs24 f24 g24

theorem wk24 (x0:(List Int)) (x1:(List Int)):Walks (runPure (kl24_0 Go.Proofs.Try.prog).orc Go.Proofs.Try.prog 400 24 as24 rs24 (x0,x1,())) (t24 x0 x1) [([tt],[2]),([false,true,true],[2,4,6]),([false,true,false],[2,4,6])] :=
  ⟨by kernel_rfl,by kernel_rfl,by kernel_rfl,trivial⟩

theorem ok24_t (x0:(List Int)) (x1:(List Int)):TrOk (PureRuns Go.Proofs.Try.prog (kl24_0 Go.Proofs.Try.prog).orc 24 as24 rs24 (x0,x1,())) (t24 x0 x1) :=
  Walks.ok (fun _ _ _=>PureRuns.of) (wk24 x0 x1) (by kernel_rfl)

theorem ok24:PureOk Go.Proofs.Try.prog 24 p24:=pureOk_of kl24_0_ok.base (T:=fun (d:Tys.data as24)=>t24 d.1 d.2.1) (by kernel_rfl) (fun (d:Tys.data as24)=>ok24_t d.1 d.2.1)
def kf24 (P:Go.Program):Known:=(kl24_0 P).func 24 p24
theorem kf24_ok:KnownOk Go.Proofs.Try.prog (kf24 Go.Proofs.Try.prog):=kl24_0_ok.func ok24

/-! loop 0 of ductility/ductilitybase.Fracs -/

abbrev sh56_0:Sh:={ n:=26,slots:=[0,1,5],pats:=[.ty (.slice (.pair (.int .i64) (.pair (.int .i64) .unit))),.ty (.slice (.pair (.int .i64) (.pair (.int .i64) .unit))),.ty (.int .i64)],boxes:=[] }
abbrev shb56_0:Sh:={ n:=26,slots:=[],pats:=[],boxes:=[] }
abbrev shr56_0:Sh:={ n:=26,slots:=[4],pats:=[.ty .bool],boxes:=[] }

def t56_0 (x0:(List (Int×(Int×Unit)))) (x1:(List (Int×(Int×Unit)))) (x2:Int):Tr (Out sh56_0.data shb56_0.data shr56_0.data) :=
  Tr.test ((!leF (↑(List.length x0):Int) x2:Bool))
    (Tr.test (decide ((0:Int) ≤ x2) && decide (x2 < (↑(List.length x0):Int)))
      (Tr.test ((decide ((0:Int) ≤ x2) && decide (x2 < (↑(List.length x1):Int)):Bool))
        (Tr.test ((!((List.getD x0 (Int.toNat x2) ((0:Int),(0:Int),())).1 == (List.getD x1 (Int.toNat x2) ((0:Int),(0:Int),())).1 && ((List.getD x0 (Int.toNat x2) ((0:Int),(0:Int),())).2.1 == (List.getD x1 (Int.toNat x2) ((0:Int),(0:Int),())).2.1 && true)):Bool))
          (Tr.fin (.ret (((false:Bool),()),())))
          (Tr.fin (.again ((x0,(x1,((wrap64 (x2 + (1:Int)):Int),()))),()))))
        (Tr.stop))
      (Tr.stop))
    (Tr.fin (.brk ((),())))

def s56_0 (d:sh56_0.data):Option (Out sh56_0.data shb56_0.data shr56_0.data):=(t56_0 d.1.1 d.1.2.1 d.1.2.2.1).val
def l56_0 (d:sh56_0.data):Option (shb56_0.data ⊕ shr56_0.data):=itr s56_0 rounds d
def b56_0 (d:sh56_0.data):shb56_0.data:=outB shb56_0.dflt (l56_0 d)
def r56_0 (d:sh56_0.data):shr56_0.data:=outR shr56_0.dflt (l56_0 d)
def lc56_0:LoopC:=lcOf sh56_0 shb56_0 shr56_0 l56_0 b56_0 r56_0

theorem wk56_0 (x0:(List (Int×(Int×Unit)))) (x1:(List (Int×(Int×Unit)))) (x2:Int):Walks (runBody (kf24 Go.Proofs.Try.prog).orc Go.Proofs.Try.prog 400 56 0 sh56_0 shb56_0 shr56_0 ((x0,x1,x2,()),())) (t56_0 x0 x1 x2) [([true,true,true,true],[2,4,6,8]),([true,true,true,false],[2,4,6,8]),([ff],[2])] :=
  ⟨by kernel_rfl,by kernel_rfl,by kernel_rfl,trivial⟩

theorem ok56_0_t (x0:(List (Int×(Int×Unit)))) (x1:(List (Int×(Int×Unit)))) (x2:Int):TrOk (BodyRuns Go.Proofs.Try.prog (kf24 Go.Proofs.Try.prog).orc 56 0 sh56_0 shb56_0 shr56_0 ((x0,x1,x2,()),())) (t56_0 x0 x1 x2) :=
  Walks.ok (fun _ _ _=>BodyRuns.of) (wk56_0 x0 x1 x2) (by kernel_rfl)

theorem ok56_0:LoopOk Go.Proofs.Try.prog 56 0 lc56_0:=loopOk_of (sh:=sh56_0) (shB:=shb56_0) (shR:=shr56_0) kf24_ok.base (T:=fun (d:sh56_0.data)=>t56_0 d.1.1 d.1.2.1 d.1.2.2.1) (by kernel_rfl) rfl (fun (d:sh56_0.data)=>ok56_0_t d.1.1 d.1.2.1 d.1.2.2.1) (fun _=>rfl)
def kl56_0 (P:Go.Program):Known:=(kf24 P).loop 56 0 lc56_0
theorem kl56_0_ok:KnownOk Go.Proofs.Try.prog (kl56_0 Go.Proofs.Try.prog):=kf24_ok.loop ok56_0

/-! ductility/ductilitybase.Fracs -/

abbrev as56:List Ty:=[(.slice (.pair (.int .i64) (.pair (.int .i64) .unit))),(.slice (.pair (.int .i64) (.pair (.int .i64) .unit)))]
abbrev rs56:List Ty:=[.bool]

def t56 (x0:(List (Int×(Int×Unit)))) (x1:(List (Int×(Int×Unit)))):Tr (Tys.data rs56) :=
  Tr.test ((!eqF (↑(List.length x0):Int) (↑(List.length x1):Int):Bool))
    (Tr.fin ((false,())))
    (Tr.test (Option.isSome (l56_0 ((x0,(x1,((0:Int),()))),())))
      (Tr.test (isRet (l56_0 ((x0,(x1,((0:Int),()))),())))
        (let r0:=r56_0 ((x0,(x1,((0:Int),()))),());
        Tr.fin ((r0.1.1,())))
        (Tr.fin (((true:Bool),()))))
      (Tr.stop))

def f56 (d:Tys.data as56):Option (Tys.data rs56):=(t56 d.1 d.2.1).val
def g56 (d:Tys.data as56):Tys.data rs56:=(f56 d).getD (Tys.dflt rs56)
def p56:PureC:=pcOf as56 rs56 f56 g56

theorem wk56 (x0:(List (Int×(Int×Unit)))) (x1:(List (Int×(Int×Unit)))):Walks (runPure (kl56_0 Go.Proofs.Try.prog).orc Go.Proofs.Try.prog 400 56 as56 rs56 (x0,x1,())) (t56 x0 x1) [([tt],[2]),([false,true,true],[2,4,6]),([false,true,false],[2,4,6])] :=
  ⟨by kernel_rfl,by kernel_rfl,by kernel_rfl,trivial⟩

theorem ok56_t (x0:(List (Int×(Int×Unit)))) (x1:(List (Int×(Int×Unit)))):TrOk (PureRuns Go.Proofs.Try.prog (kl56_0 Go.Proofs.Try.prog).orc 56 as56 rs56 (x0,x1,())) (t56 x0 x1) :=
  Walks.ok (fun _ _ _=>PureRuns.of) (wk56 x0 x1) (by kernel_rfl)

theorem ok56:PureOk Go.Proofs.Try.prog 56 p56:=pureOk_of kl56_0_ok.base (T:=fun (d:Tys.data as56)=>t56 d.1 d.2.1) (by kernel_rfl) (fun (d:Tys.data as56)=>ok56_t d.1 d.2.1)
def kf56 (P:Go.Program):Known:=(kl56_0 P).func 56 p56
theorem kf56_ok:KnownOk Go.Proofs.Try.prog (kf56 Go.Proofs.Try.prog):=kl56_0_ok.func ok56

/-! ductility/ductilitylaw08.awake -/

abbrev as9:List Ty:=[]
abbrev rs9:List Ty:=[.bool]
def f9 (_:Tys.data as9):Option (Tys.data rs9):=some (true,())
def g9 (_:Tys.data as9):Tys.data rs9:=(true,())
def p9:PureC:=pcOf as9 rs9 f9 g9

theorem e9:runAsk (kf56 Go.Proofs.Try.prog).orc Go.Proofs.Try.prog 400 9 as9 rs9 () none = some ((true,()),[]):=by kernel_rfl
theorem ok9:PureOk Go.Proofs.Try.prog 9 p9:=pureOk_closed kf56_ok.base (by kernel_rfl) e9 All.nil
def kf9 (P:Go.Program):Known:=(kf56 P).func 9 p9
theorem kf9_ok:KnownOk Go.Proofs.Try.prog (kf9 Go.Proofs.Try.prog):=kf56_ok.func ok9

/-! ductility/ductilitybase.Within -/

abbrev as39:List Ty:=[(.int .i64),(.int .i64),(.int .i64)]
abbrev rs39:List Ty:=[.bool]

def t39 (x0:Int) (x1:Int) (x2:Int):Tr (Tys.data rs39) :=
  Tr.test ((leF x1 x0:Bool))
    (Tr.fin ((leF x0 x2,())))
    (Tr.fin ((false,())))

def f39 (d:Tys.data as39):Option (Tys.data rs39):=(t39 d.1 d.2.1 d.2.2.1).val
def g39 (d:Tys.data as39):Tys.data rs39:=(f39 d).getD (Tys.dflt rs39)
def p39:PureC:=pcOf as39 rs39 f39 g39

theorem wk39 (x0:Int) (x1:Int) (x2:Int):Walks (runPure (kf9 Go.Proofs.Try.prog).orc Go.Proofs.Try.prog 400 39 as39 rs39 (x0,x1,x2,())) (t39 x0 x1 x2) [([tt],[2,2,2,2]),([ff],[2,2,2,2])] :=
  ⟨by kernel_rfl,by kernel_rfl,trivial⟩

theorem ok39_t (x0:Int) (x1:Int) (x2:Int):TrOk (PureRuns Go.Proofs.Try.prog (kf9 Go.Proofs.Try.prog).orc 39 as39 rs39 (x0,x1,x2,())) (t39 x0 x1 x2) :=
  Walks.ok (fun _ _ _=>PureRuns.of) (wk39 x0 x1 x2) (by kernel_rfl)

theorem ok39:PureOk Go.Proofs.Try.prog 39 p39:=pureOk_of kf9_ok.base (T:=fun (d:Tys.data as39)=>t39 d.1 d.2.1 d.2.2.1) (by kernel_rfl) (fun (d:Tys.data as39)=>ok39_t d.1 d.2.1 d.2.2.1)
def kf39 (P:Go.Program):Known:=(kf9 P).func 39 p39
theorem kf39_ok:KnownOk Go.Proofs.Try.prog (kf39 Go.Proofs.Try.prog):=kf9_ok.func ok39

/-! ductility/ductilitybase.IsTick -/

abbrev as88:List Ty:=[(.int .i64)]
abbrev rs88:List Ty:=[.bool]

def t88 (x0:Int):Tr (Tys.data rs88) :=
  Tr.test (Option.isSome (f39 (x0,((0:Int),((1000000000000:Int),())))))
    (let r0:=g39 (x0,((0:Int),((1000000000000:Int),())));
    Tr.fin ((r0.1,())))
    (Tr.stop)

def f88 (d:Tys.data as88):Option (Tys.data rs88):=(t88 d.1).val
def g88 (d:Tys.data as88):Tys.data rs88:=(f88 d).getD (Tys.dflt rs88)
def p88:PureC:=pcOf as88 rs88 f88 g88

theorem wk88 (x0:Int):Walks (runPure (kf39 Go.Proofs.Try.prog).orc Go.Proofs.Try.prog 400 88 as88 rs88 (x0,())) (t88 x0) [([tt],[2])] :=
  ⟨by kernel_rfl,trivial⟩

theorem ok88_t (x0:Int):TrOk (PureRuns Go.Proofs.Try.prog (kf39 Go.Proofs.Try.prog).orc 88 as88 rs88 (x0,())) (t88 x0) :=
  Walks.ok (fun _ _ _=>PureRuns.of) (wk88 x0) (by kernel_rfl)

theorem ok88:PureOk Go.Proofs.Try.prog 88 p88:=pureOk_of kf39_ok.base (T:=fun (d:Tys.data as88)=>t88 d.1) (by kernel_rfl) (fun (d:Tys.data as88)=>ok88_t d.1)
def kf88 (P:Go.Program):Known:=(kf39 P).func 88 p88
theorem kf88_ok:KnownOk Go.Proofs.Try.prog (kf88 Go.Proofs.Try.prog):=kf39_ok.func ok88

/-! loop 0 of ductility/ductilityref08.CheckMessages -/

abbrev sh45_0:Sh:={ n:=65,slots:=[0,4],pats:=[.ty (.slice (.pair (.int .i64) (.pair (.int .i64) (.pair (.int .i64) .unit)))),.ty (.int .i64)],boxes:=[] }
abbrev shb45_0:Sh:={ n:=65,slots:=[],pats:=[],boxes:=[] }
abbrev shr45_0:Sh:={ n:=65,slots:=[2,3],pats:=[.ty (.int .i64),.ty (.int .i64)],boxes:=[] }

def t45_0 (x0:(List (Int×(Int×(Int×Unit))))) (x1:Int):Tr (Out sh45_0.data shb45_0.data shr45_0.data) :=
  Tr.test ((!leF (↑(List.length x0):Int) x1:Bool))
    (Tr.test (decide ((0:Int) ≤ x1) && decide (x1 < (↑(List.length x0):Int)))
      (Tr.test (Option.isSome (f39 (((List.getD x0 (Int.toNat x1) ((0:Int),(0:Int),(0:Int),())).1:Int),((0:Int),((1:Int),())))))
        (let r0:=g39 (((List.getD x0 (Int.toNat x1) ((0:Int),(0:Int),(0:Int),())).1:Int),((0:Int),((1:Int),())));
        Tr.test ((!r0.1:Bool))
          (Tr.fin (.ret ((x1,((15:Int),())),())))
          (Tr.test (Option.isSome (f39 (((List.getD x0 (Int.toNat x1) ((0:Int),(0:Int),(0:Int),())).2.1:Int),((0:Int),((60:Int),())))))
            (let r1:=g39 (((List.getD x0 (Int.toNat x1) ((0:Int),(0:Int),(0:Int),())).2.1:Int),((0:Int),((60:Int),())));
            Tr.test ((!r1.1:Bool))
              (Tr.fin (.ret ((x1,((2:Int),())),())))
              (Tr.test (Option.isSome (f88 (((List.getD x0 (Int.toNat x1) ((0:Int),(0:Int),(0:Int),())).2.2.1:Int),())))
                (let r2:=g88 (((List.getD x0 (Int.toNat x1) ((0:Int),(0:Int),(0:Int),())).2.2.1:Int),());
                Tr.test ((!r2.1:Bool))
                  (Tr.fin (.ret ((x1,((2:Int),())),())))
                  (Tr.test ((!leF x1 0:Bool))
                    (Tr.test ((decide ((0:Int) ≤ wrap64 (x1 - (1:Int))) && decide (wrap64 (x1 - (1:Int)) < (↑(List.length x0):Int)):Bool))
                      (Tr.test ((!leF (List.getD x0 (Int.toNat (wrap64 (x1 - (1:Int)))) ((0:Int),(0:Int),(0:Int),())).2.2.1 (List.getD x0 (Int.toNat x1) ((0:Int),(0:Int),(0:Int),())).2.2.1:Bool))
                        (Tr.fin (.ret ((x1,((9:Int),())),())))
                        (Tr.test ((eqF (Int.tmod x1 (2:Int)) (1:Int):Bool))
                          (Tr.test ((!eqF (List.getD x0 (Int.toNat x1) ((0:Int),(0:Int),(0:Int),())).2.1 (Go.IntKind.wrap Go.IntKind.i64 (Int.tdiv x1 (2:Int))):Bool))
                            (Tr.fin (.ret ((x1,((14:Int),())),())))
                            (Tr.test ((!eqF (List.getD x0 (Int.toNat x1) ((0:Int),(0:Int),(0:Int),())).1 (1:Int):Bool))
                              (Tr.fin (.ret ((x1,((14:Int),())),())))
                              (Tr.fin (.again ((x0,((wrap64 (x1 + (1:Int)):Int),())),())))))
                          (Tr.test ((!eqF (List.getD x0 (Int.toNat x1) ((0:Int),(0:Int),(0:Int),())).2.1 (Go.IntKind.wrap Go.IntKind.i64 (Int.tdiv x1 (2:Int))):Bool))
                            (Tr.fin (.ret ((x1,((14:Int),())),())))
                            (Tr.test ((!eqF (List.getD x0 (Int.toNat x1) ((0:Int),(0:Int),(0:Int),())).1 (0:Int):Bool))
                              (Tr.fin (.ret ((x1,((14:Int),())),())))
                              (Tr.fin (.again ((x0,((wrap64 (x1 + (1:Int)):Int),())),())))))))
                      (Tr.stop))
                    (Tr.test ((eqF (Int.tmod x1 (2:Int)) (1:Int):Bool))
                      (Tr.test ((!eqF (List.getD x0 (Int.toNat x1) ((0:Int),(0:Int),(0:Int),())).2.1 (Go.IntKind.wrap Go.IntKind.i64 (Int.tdiv x1 (2:Int))):Bool))
                        (Tr.fin (.ret ((x1,((14:Int),())),())))
                        (Tr.test ((!eqF (List.getD x0 (Int.toNat x1) ((0:Int),(0:Int),(0:Int),())).1 (1:Int):Bool))
                          (Tr.fin (.ret ((x1,((14:Int),())),())))
                          (Tr.fin (.again ((x0,((wrap64 (x1 + (1:Int)):Int),())),())))))
                      (Tr.test ((!eqF (List.getD x0 (Int.toNat x1) ((0:Int),(0:Int),(0:Int),())).2.1 (Go.IntKind.wrap Go.IntKind.i64 (Int.tdiv x1 (2:Int))):Bool))
                        (Tr.fin (.ret ((x1,((14:Int),())),())))
                        (Tr.test ((!eqF (List.getD x0 (Int.toNat x1) ((0:Int),(0:Int),(0:Int),())).1 (0:Int):Bool))
                          (Tr.fin (.ret ((x1,((14:Int),())),())))
                          (Tr.fin (.again ((x0,((wrap64 (x1 + (1:Int)):Int),())),()))))))))
                (Tr.stop)))
            (Tr.stop)))
        (Tr.stop))
      (Tr.stop))
    (Tr.fin (.brk ((),())))

def s45_0 (d:sh45_0.data):Option (Out sh45_0.data shb45_0.data shr45_0.data):=(t45_0 d.1.1 d.1.2.1).val
def l45_0 (d:sh45_0.data):Option (shb45_0.data ⊕ shr45_0.data):=itr s45_0 rounds d
def b45_0 (d:sh45_0.data):shb45_0.data:=outB shb45_0.dflt (l45_0 d)
def r45_0 (d:sh45_0.data):shr45_0.data:=outR shr45_0.dflt (l45_0 d)
def lc45_0:LoopC:=lcOf sh45_0 shb45_0 shr45_0 l45_0 b45_0 r45_0

theorem wk45_0 (x0:(List (Int×(Int×(Int×Unit))))) (x1:Int):Walks (runBody (kf88 Go.Proofs.Try.prog).orc Go.Proofs.Try.prog 400 45 0 sh45_0 shb45_0 shr45_0 ((x0,x1,()),())) (t45_0 x0 x1) [([true,true,true,true],[2,4,6,8]),([true,true,true,false,true,true],[1,2,2,2,2,2,4,6,8,10,12]),([true,true,true,false,true,false,true,true],[2,6,6,4,6,6,6,8,10,12,14,16]),([true,true,true,false,true,false,true,false,true,true,true],[2,6,6,6,6,4,6,6,6,6,6,6,8,12,12,10,12,12,12,14,16,18,20,22]),([true,true,true,false,true,false,true,false,true,true,false,true,true],[1,2,2,2,2,2,0,4,0,6,10,10,10,10,8,10,10,10,10,10,10,12,16,16,14,16,16,16,18,20,22,24,26]),([true,true,true,false,true,false,true,false,true,true,false,true,false,true],[2,4,4,4,4,4,0,6,0,8,12,12,12,12,10,12,12,12,12,12,12,14,18,18,16,18,18,18,20,22,24,26,28]),([true,true,true,false,true,false,true,false,true,true,false,true,false,false],[2,4,4,4,4,4,0,6,0,8,12,12,12,12,10,12,12,12,12,12,12,14,18,18,16,18,18,18,20,22,24,26,28]),([true,true,true,false,true,false,true,false,true,true,false,false,true],[1,2,2,2,2,2,0,4,0,6,10,10,10,10,8,10,10,10,10,10,10,12,16,16,14,16,16,16,18,20,22,24,26]),([true,true,true,false,true,false,true,false,true,true,false,false,false,true],[2,4,4,4,4,4,0,6,0,8,12,12,12,12,10,12,12,12,12,12,12,14,18,18,16,18,18,18,20,22,24,26,28]),([true,true,true,false,true,false,true,false,true,true,false,false,false,false],[2,4,4,4,4,4,0,6,0,8,12,12,12,12,10,12,12,12,12,12,12,14,18,18,16,18,18,18,20,22,24,26,28]),([true,true,true,false,true,false,true,false,false,true,true],[1,2,2,2,2,2,0,4,0,0,6,6,6,6,6,6,6,6,6,6,8,12,12,10,12,12,12,14,16,18,20,22]),([true,true,true,false,true,false,true,false,false,true,false,true],[2,4,4,4,4,4,0,6,0,0,8,8,8,8,8,8,8,8,8,8,10,14,14,12,14,14,14,16,18,20,22,24]),([true,true,true,false,true,false,true,false,false,true,false,false],[2,4,4,4,4,4,0,6,0,0,8,8,8,8,8,8,8,8,8,8,10,14,14,12,14,14,14,16,18,20,22,24]),([true,true,true,false,true,false,true,false,false,false,true],[1,2,2,2,2,2,0,4,0,0,6,6,6,6,6,6,6,6,6,6,8,12,12,10,12,12,12,14,16,18,20,22]),([true,true,true,false,true,false,true,false,false,false,false,true],[2,4,4,4,4,4,0,6,0,0,8,8,8,8,8,8,8,8,8,8,10,14,14,12,14,14,14,16,18,20,22,24]),([true,true,true,false,true,false,true,false,false,false,false,false],[2,4,4,4,4,4,0,6,0,0,8,8,8,8,8,8,8,8,8,8,10,14,14,12,14,14,14,16,18,20,22,24]),([ff],[2])] :=
  ⟨by kernel_rfl,by kernel_rfl,by kernel_rfl,by kernel_rfl,by kernel_rfl,by kernel_rfl,by kernel_rfl,by kernel_rfl,by kernel_rfl,by kernel_rfl,by kernel_rfl,by kernel_rfl,by kernel_rfl,by kernel_rfl,by kernel_rfl,by kernel_rfl,by kernel_rfl,trivial⟩

theorem ok45_0_t (x0:(List (Int×(Int×(Int×Unit))))) (x1:Int):TrOk (BodyRuns Go.Proofs.Try.prog (kf88 Go.Proofs.Try.prog).orc 45 0 sh45_0 shb45_0 shr45_0 ((x0,x1,()),())) (t45_0 x0 x1) :=
  Walks.ok (fun _ _ _=>BodyRuns.of) (wk45_0 x0 x1) (by kernel_rfl)

theorem ok45_0:LoopOk Go.Proofs.Try.prog 45 0 lc45_0:=loopOk_of (sh:=sh45_0) (shB:=shb45_0) (shR:=shr45_0) kf88_ok.base (T:=fun (d:sh45_0.data)=>t45_0 d.1.1 d.1.2.1) (by kernel_rfl) rfl (fun (d:sh45_0.data)=>ok45_0_t d.1.1 d.1.2.1) (fun _=>rfl)
def kl45_0 (P:Go.Program):Known:=(kf88 P).loop 45 0 lc45_0
theorem kl45_0_ok:KnownOk Go.Proofs.Try.prog (kl45_0 Go.Proofs.Try.prog):=kf88_ok.loop ok45_0

/-! ductility/ductilityref08.CheckMessages -/

abbrev as45:List Ty:=[(.slice (.pair (.int .i64) (.pair (.int .i64) (.pair (.int .i64) .unit))))]
abbrev rs45:List Ty:=[(.int .i64),(.int .i64)]

def t45 (x0:(List (Int×(Int×(Int×Unit))))):Tr (Tys.data rs45) :=
  Tr.test ((!leF (↑(List.length x0):Int) (60:Int):Bool))
    (Tr.fin (((0:Int),((8:Int),()))))
    (Tr.test (Option.isSome (l45_0 ((x0,((0:Int),())),())))
      (Tr.test (isRet (l45_0 ((x0,((0:Int),())),())))
        (let r0:=r45_0 ((x0,((0:Int),())),());
        Tr.fin ((r0.1.1,(r0.1.2.1,()))))
        (Tr.fin (((0:Int),((0:Int),())))))
      (Tr.stop))

def f45 (d:Tys.data as45):Option (Tys.data rs45):=(t45 d.1).val
def g45 (d:Tys.data as45):Tys.data rs45:=(f45 d).getD (Tys.dflt rs45)
def p45:PureC:=pcOf as45 rs45 f45 g45

theorem wk45 (x0:(List (Int×(Int×(Int×Unit))))):Walks (runPure (kl45_0 Go.Proofs.Try.prog).orc Go.Proofs.Try.prog 400 45 as45 rs45 (x0,())) (t45 x0) [([tt],[2]),([false,true,true],[2,4,6]),([false,true,false],[2,4,6])] :=
  ⟨by kernel_rfl,by kernel_rfl,by kernel_rfl,trivial⟩

theorem ok45_t (x0:(List (Int×(Int×(Int×Unit))))):TrOk (PureRuns Go.Proofs.Try.prog (kl45_0 Go.Proofs.Try.prog).orc 45 as45 rs45 (x0,())) (t45 x0) :=
  Walks.ok (fun _ _ _=>PureRuns.of) (wk45 x0) (by kernel_rfl)

theorem ok45:PureOk Go.Proofs.Try.prog 45 p45:=pureOk_of kl45_0_ok.base (T:=fun (d:Tys.data as45)=>t45 d.1) (by kernel_rfl) (fun (d:Tys.data as45)=>ok45_t d.1)
def kf45 (P:Go.Program):Known:=(kl45_0 P).func 45 p45
theorem kf45_ok:KnownOk Go.Proofs.Try.prog (kf45 Go.Proofs.Try.prog):=kl45_0_ok.func ok45

/-! ductility/ductilityref08.MessagesErr -/

abbrev as50:List Ty:=[(.slice (.pair (.int .i64) (.pair (.int .i64) (.pair (.int .i64) .unit))))]
abbrev rs50:List Ty:=[(.int .i64)]

def t50 (x0:(List (Int×(Int×(Int×Unit))))):Tr (Tys.data rs50) :=
  Tr.test (Option.isSome (f45 (x0,())))
    (let r0:=g45 (x0,());
    Tr.fin ((r0.2.1,())))
    (Tr.stop)

def f50 (d:Tys.data as50):Option (Tys.data rs50):=(t50 d.1).val
def g50 (d:Tys.data as50):Tys.data rs50:=(f50 d).getD (Tys.dflt rs50)
def p50:PureC:=pcOf as50 rs50 f50 g50

theorem wk50 (x0:(List (Int×(Int×(Int×Unit))))):Walks (runPure (kf45 Go.Proofs.Try.prog).orc Go.Proofs.Try.prog 400 50 as50 rs50 (x0,())) (t50 x0) [([tt],[2])] :=
  ⟨by kernel_rfl,trivial⟩

theorem ok50_t (x0:(List (Int×(Int×(Int×Unit))))):TrOk (PureRuns Go.Proofs.Try.prog (kf45 Go.Proofs.Try.prog).orc 50 as50 rs50 (x0,())) (t50 x0) :=
  Walks.ok (fun _ _ _=>PureRuns.of) (wk50 x0) (by kernel_rfl)

theorem ok50:PureOk Go.Proofs.Try.prog 50 p50:=pureOk_of kf45_ok.base (T:=fun (d:Tys.data as50)=>t50 d.1) (by kernel_rfl) (fun (d:Tys.data as50)=>ok50_t d.1)
def kf50 (P:Go.Program):Known:=(kf45 P).func 50 p50
theorem kf50_ok:KnownOk Go.Proofs.Try.prog (kf50 Go.Proofs.Try.prog):=kf45_ok.func ok50

/-! ductility/ductilityref08.ClockErr -/

abbrev as46:List Ty:=[(.slice (.pair (.int .i64) (.pair (.int .i64) (.pair (.int .i64) .unit)))),(.pair (.int .i64) (.pair (.int .i64) .unit))]
abbrev rs46:List Ty:=[(.int .i64)]

def t46 (x0:(List (Int×(Int×(Int×Unit))))) (x1:Int) (x1':Int):Tr (Tys.data rs46) :=
  Tr.test (Option.isSome (f39 (x1,((0:Int),((100000:Int),())))))
    (let r0:=g39 (x1,((0:Int),((100000:Int),())));
    Tr.test ((!r0.1:Bool))
      (Tr.fin (((2:Int),())))
      (Tr.test (Option.isSome (f88 (x1',())))
        (let r1:=g88 (x1',());
        Tr.test ((!r1.1:Bool))
          (Tr.fin (((2:Int),())))
          (Tr.test ((!leF (↑(List.length x0):Int) (0:Int):Bool))
            (Tr.test ((decide ((0:Int) ≤ wrap64 ((↑(List.length x0):Int) - (1:Int))) && decide (wrap64 ((↑(List.length x0):Int) - (1:Int)) < (↑(List.length x0):Int)):Bool))
              (Tr.test ((!leF (List.getD x0 (Int.toNat (wrap64 ((↑(List.length x0):Int) - (1:Int)))) ((0:Int),(0:Int),(0:Int),())).2.2.1 x1':Bool))
                (Tr.fin (((22:Int),())))
                (Tr.fin (((0:Int),()))))
              (Tr.stop))
            (Tr.fin (((0:Int),())))))
        (Tr.stop)))
    (Tr.stop)

def f46 (d:Tys.data as46):Option (Tys.data rs46):=(t46 d.1 d.2.1.1 d.2.1.2.1).val
def g46 (d:Tys.data as46):Tys.data rs46:=(f46 d).getD (Tys.dflt rs46)
def p46:PureC:=pcOf as46 rs46 f46 g46

theorem wk46 (x0:(List (Int×(Int×(Int×Unit))))) (x1:Int) (x1':Int):Walks (runPure (kf50 Go.Proofs.Try.prog).orc Go.Proofs.Try.prog 400 46 as46 rs46 (x0,(x1,x1',()),())) (t46 x0 x1 x1') [([true,true],[1,2,2,2,2,2,4]),([true,false,true,true],[2,6,6,4,6,6,6,8]),([true,false,true,false,true,true,true],[2,6,6,6,6,4,6,6,6,6,6,6,6,8,12,12,10,12,12,12,14]),([true,false,true,false,true,true,false],[2,6,6,6,6,4,6,6,6,6,6,6,6,8,12,12,10,12,12,12,14]),([true,false,true,false,false],[0,2,2,2,2,2,2,2,2,2,2,2,4,8,8,6,8,8,8,10])] :=
  ⟨by kernel_rfl,by kernel_rfl,by kernel_rfl,by kernel_rfl,by kernel_rfl,trivial⟩

theorem ok46_t (x0:(List (Int×(Int×(Int×Unit))))) (x1:Int) (x1':Int):TrOk (PureRuns Go.Proofs.Try.prog (kf50 Go.Proofs.Try.prog).orc 46 as46 rs46 (x0,(x1,x1',()),())) (t46 x0 x1 x1') :=
  Walks.ok (fun _ _ _=>PureRuns.of) (wk46 x0 x1 x1') (by kernel_rfl)

theorem ok46:PureOk Go.Proofs.Try.prog 46 p46:=pureOk_of kf50_ok.base (T:=fun (d:Tys.data as46)=>t46 d.1 d.2.1.1 d.2.1.2.1) (by kernel_rfl) (fun (d:Tys.data as46)=>ok46_t d.1 d.2.1.1 d.2.1.2.1)
def kf46 (P:Go.Program):Known:=(kf50 P).func 46 p46
theorem kf46_ok:KnownOk Go.Proofs.Try.prog (kf46 Go.Proofs.Try.prog):=kf50_ok.func ok46

/-! ductility/ductilityref08.CopyMessages -/

abbrev as41:List Ty:=[(.slice (.pair (.int .i64) (.pair (.int .i64) (.pair (.int .i64) .unit))))]
abbrev rs41:List Ty:=[(.slice (.pair (.int .i64) (.pair (.int .i64) (.pair (.int .i64) .unit))))]

def t41 (x0:(List (Int×(Int×(Int×Unit))))):Tr (Tys.data rs41) :=
  Tr.test ((Nat.beq (List.length x0) (0:Nat):Bool))
    (Tr.fin ((([]:List (Int×Int×Int×PUnit)),())))
    (Tr.test (Nat.ble ((0:Nat) + List.length x0) (0:Nat))
      (Tr.stop)
      (Tr.test ((Nat.ble (((2:Nat) * ((0:Nat) + List.length x0) + (192:Nat)) * (24:Nat)) (281474976710656:Nat) && Nat.ble ((0:Nat) + List.length x0) (281474976710656:Nat):Bool))
        (Tr.test ((Nat.beq ((0:Nat) + List.length x0) (List.length ([]++x0)):Bool))
          (Tr.fin ((([]++x0:List (Int×Int×Int×PUnit)),())))
          (Tr.stop))
        (Tr.stop)))

def f41 (d:Tys.data as41):Option (Tys.data rs41):=(t41 d.1).val
def g41 (d:Tys.data as41):Tys.data rs41:=(f41 d).getD (Tys.dflt rs41)
def p41:PureC:=pcOf as41 rs41 f41 g41

theorem wk41 (x0:(List (Int×(Int×(Int×Unit))))):Walks (runPure (kf46 Go.Proofs.Try.prog).orc Go.Proofs.Try.prog 400 41 as41 rs41 (x0,())) (t41 x0) [([tt],[2]),([false,false,true,true],[2,4,6,8])] :=
  ⟨by kernel_rfl,by kernel_rfl,trivial⟩

theorem ok41_t (x0:(List (Int×(Int×(Int×Unit))))):TrOk (PureRuns Go.Proofs.Try.prog (kf46 Go.Proofs.Try.prog).orc 41 as41 rs41 (x0,())) (t41 x0) :=
  Walks.ok (fun _ _ _=>PureRuns.of) (wk41 x0) (by kernel_rfl)

theorem ok41:PureOk Go.Proofs.Try.prog 41 p41:=pureOk_of kf46_ok.base (T:=fun (d:Tys.data as41)=>t41 d.1) (by kernel_rfl) (fun (d:Tys.data as41)=>ok41_t d.1)
def kf41 (P:Go.Program):Known:=(kf46 P).func 41 p41
theorem kf41_ok:KnownOk Go.Proofs.Try.prog (kf41 Go.Proofs.Try.prog):=kf46_ok.func ok41

theorem sc43_0:sameRf Go.Proofs.Try.prog 43 0 = true:=sameRf_ok (by kernel_rfl)

/-! loop 0 of (ductility/hybrid.exchange).waits$1 -/

abbrev sh104_0_1 (P:Go.Program):Sh:={ n:=47,slots:=[0,1,8,9,10],pats:=[.yld 0,.ptr 1 3 0,.ty (.slice (.pair (.int .i64) (.pair (.int .i64) (.pair (.int .i64) .unit)))),.ty (.int .i64),.ty (.int .i64)],boxes:=[.lp (lpOf P 43 0 .ready none 32 [3,4,5,6] 2) [.ptr 3 2 0,.ptr 4 1 0,.ptr 5 1 0,.ptr 6 3 0],.row [.ty (.int .i64),.ty (.int .i64),.ty (.slice (.pair (.int .i64) (.pair (.int .i64) (.pair (.int .i64) .unit))))],.dfr,.row [.ty (.int .i64),.ty (.int .i64)],.row [.ty (.int .i64)],.row [.ty (.int .i64)],.row [.ty (.int .i64),.ty (.int .i64),.ty (.slice (.pair (.int .i64) (.pair (.int .i64) (.pair (.int .i64) .unit))))]] }
abbrev shb104_0_1 (P:Go.Program):Sh:={ n:=47,slots:=[],pats:=[],boxes:=[.lp (lpOf P 43 0 .ready none 32 [3,4,5,6] 2) [.ptr 3 2 0,.ptr 4 1 0,.ptr 5 1 0,.ptr 6 3 0],.row [.ty (.int .i64),.ty (.int .i64),.ty (.slice (.pair (.int .i64) (.pair (.int .i64) (.pair (.int .i64) .unit))))],.dfr,.row [.ty (.int .i64),.ty (.int .i64)],.row [.ty (.int .i64)],.row [.ty (.int .i64)],.row [.ty (.int .i64),.ty (.int .i64),.ty (.slice (.pair (.int .i64) (.pair (.int .i64) (.pair (.int .i64) .unit))))]] }
abbrev shr104_0_1 (P:Go.Program):Sh:={ n:=47,slots:=[],pats:=[],boxes:=[.lp (lpOf P 43 0 .done (some none) 32 [3,4,5,6] 2) [.ptr 3 2 0,.ptr 4 1 0,.ptr 5 1 0,.ptr 6 3 0],.row [.ty (.int .i64),.ty (.int .i64),.ty (.slice (.pair (.int .i64) (.pair (.int .i64) (.pair (.int .i64) .unit))))],.dfr,.row [.ty (.int .i64),.ty (.int .i64)],.row [.ty (.int .i64)],.row [.ty (.int .i64)],.row [.ty (.int .i64),.ty (.int .i64),.ty (.slice (.pair (.int .i64) (.pair (.int .i64) (.pair (.int .i64) .unit))))]] }

abbrev dt104_0_1:Type:=(List (Int×Int×Int×PUnit)×Int×Int×PUnit)×PUnit×(Int×Int×List (Int×Int×Int×PUnit)×PUnit)×(Int×Int×PUnit)×(Int×PUnit)×(Int×PUnit)×(Int×Int×List (Int×Int×Int×PUnit)×PUnit)×PUnit
abbrev db104_0_1:Type:=PUnit×PUnit×(Int×Int×List (Int×Int×Int×PUnit)×PUnit)×(Int×Int×PUnit)×(Int×PUnit)×(Int×PUnit)×(Int×Int×List (Int×Int×Int×PUnit)×PUnit)×PUnit
abbrev dr104_0_1:Type:=PUnit×PUnit×(Int×Int×List (Int×Int×Int×PUnit)×PUnit)×(Int×Int×PUnit)×(Int×PUnit)×(Int×PUnit)×(Int×Int×List (Int×Int×Int×PUnit)×PUnit)×PUnit

def t104_0_1 (x2:(List (Int×(Int×(Int×Unit))))) (x3:Int) (x4:Int) (b1_0:Int) (b1_1:Int) (b1_2:(List (Int×(Int×(Int×Unit))))) (b3_0:Int) (b3_1:Int) (b4_0:Int) (b5_0:Int) (b6_0:Int) (b6_1:Int) (b6_2:(List (Int×(Int×(Int×Unit))))):Tr (Out dt104_0_1 db104_0_1 dr104_0_1) :=
  Tr.test ((!leF x3 x4:Bool))
    (Tr.test (decide ((0:Int) ≤ x4) && decide (x4 < (↑(List.length x2):Int)))
      (Tr.test ((!eqF (List.getD x2 (Int.toNat x4) ((0:Int),(0:Int),(0:Int),())).1 (0:Int):Bool))
        (Tr.fin (.again ((x2,(x3,((wrap64 (x4 + (1:Int)):Int),()))),((),((b1_0,(b1_1,(b1_2,()))),((b3_0,(b3_1,())),((b4_0,()),((b5_0,()),((b6_0,(b6_1,(b6_2,()))),())))))))))
        (Tr.test ((!leF (↑(List.length b1_2):Int) (wrap64 (x4 + (1:Int))):Bool))
          (Tr.test ((decide ((0:Int) ≤ wrap64 (x4 + (1:Int))) && decide (wrap64 (x4 + (1:Int)) < (↑(List.length b1_2):Int)):Bool))
            (Tr.test (Option.isSome (f87 (((b6_0,(b6_1,())),(b6_2,())),((((List.getD x2 (Int.toNat x4) ((0:Int),(0:Int),(0:Int),())).2.2.1:Int),(((List.getD b1_2 (Int.toNat (wrap64 (x4 + (1:Int)))) ((0:Int),(0:Int),(0:Int),())).2.2.1:Int),((true:Bool),()))),()))))
              (let r0:=g87 (((b6_0,(b6_1,())),(b6_2,())),((((List.getD x2 (Int.toNat x4) ((0:Int),(0:Int),(0:Int),())).2.2.1:Int),(((List.getD b1_2 (Int.toNat (wrap64 (x4 + (1:Int)))) ((0:Int),(0:Int),(0:Int),())).2.2.1:Int),((true:Bool),()))),()));
              Tr.test (r0.1)
                (Tr.fin (.ret ((),((),((b1_0,(b1_1,(b1_2,()))),((b3_0,(b3_1,())),(((wrap64 (wrap64 ((List.getD x2 (Int.toNat x4) ((0:Int),(0:Int),(0:Int),())).2.2.1 + b3_0) + (1:Int)):Int),()),(((0:Int),()),((b6_0,(b6_1,(b6_2,()))),())))))))))
                (Tr.fin (.again ((x2,(x3,((wrap64 (x4 + (1:Int)):Int),()))),((),((b1_0,(b1_1,(b1_2,()))),((b3_0,(b3_1,())),((b4_0,()),((b5_0,()),((b6_0,(b6_1,(b6_2,()))),()))))))))))
              (Tr.stop))
            (Tr.stop))
          (Tr.test (Option.isSome (f87 (((b6_0,(b6_1,())),(b6_2,())),((((List.getD x2 (Int.toNat x4) ((0:Int),(0:Int),(0:Int),())).2.2.1:Int),(b1_1,((false:Bool),()))),()))))
            (let r1:=g87 (((b6_0,(b6_1,())),(b6_2,())),((((List.getD x2 (Int.toNat x4) ((0:Int),(0:Int),(0:Int),())).2.2.1:Int),(b1_1,((false:Bool),()))),()));
            Tr.test (r1.1)
              (Tr.fin (.ret ((),((),((b1_0,(b1_1,(b1_2,()))),((b3_0,(b3_1,())),(((wrap64 (wrap64 ((List.getD x2 (Int.toNat x4) ((0:Int),(0:Int),(0:Int),())).2.2.1 + b3_0) + (1:Int)):Int),()),(((0:Int),()),((b6_0,(b6_1,(b6_2,()))),())))))))))
              (Tr.fin (.again ((x2,(x3,((wrap64 (x4 + (1:Int)):Int),()))),((),((b1_0,(b1_1,(b1_2,()))),((b3_0,(b3_1,())),((b4_0,()),((b5_0,()),((b6_0,(b6_1,(b6_2,()))),()))))))))))
            (Tr.stop))))
      (Tr.stop))
    (Tr.fin (.brk ((),((),((b1_0,(b1_1,(b1_2,()))),((b3_0,(b3_1,())),((b4_0,()),((b5_0,()),((b6_0,(b6_1,(b6_2,()))),())))))))))

def s104_0_1 (d:dt104_0_1):Option (Out dt104_0_1 db104_0_1 dr104_0_1):=(t104_0_1 d.1.1 d.1.2.1 d.1.2.2.1 d.2.2.1.1 d.2.2.1.2.1 d.2.2.1.2.2.1 d.2.2.2.1.1 d.2.2.2.1.2.1 d.2.2.2.2.1.1 d.2.2.2.2.2.1.1 d.2.2.2.2.2.2.1.1 d.2.2.2.2.2.2.1.2.1 d.2.2.2.2.2.2.1.2.2.1).val
def l104_0_1 (d:dt104_0_1):Option (db104_0_1 ⊕ dr104_0_1):=itr s104_0_1 rounds d
def b104_0_1 (d:dt104_0_1):db104_0_1:=outB (((),((),(((0:Int),((0:Int),(([]:List (Int×Int×Int×PUnit)),()))),(((0:Int),((0:Int),())),(((0:Int),()),(((0:Int),()),(((0:Int),((0:Int),(([]:List (Int×Int×Int×PUnit)),()))),())))))))) (l104_0_1 d)
def r104_0_1 (d:dt104_0_1):dr104_0_1:=outR (((),((),(((0:Int),((0:Int),(([]:List (Int×Int×Int×PUnit)),()))),(((0:Int),((0:Int),())),(((0:Int),()),(((0:Int),()),(((0:Int),((0:Int),(([]:List (Int×Int×Int×PUnit)),()))),())))))))) (l104_0_1 d)
def lc104_0_1 (P:Go.Program):LoopC:=lcOf (sh104_0_1 P) (shb104_0_1 P) (shr104_0_1 P) l104_0_1 b104_0_1 r104_0_1

theorem e104_0_1_0 (x2:(List (Int×(Int×(Int×Unit))))) (x3:Int) (x4:Int) (b1_0:Int) (b1_1:Int) (b1_2:(List (Int×(Int×(Int×Unit))))) (b3_0:Int) (b3_1:Int) (b4_0:Int) (b5_0:Int) (b6_0:Int) (b6_1:Int) (b6_2:(List (Int×(Int×(Int×Unit))))):runBody (kf41 Go.Proofs.Try.prog).orc Go.Proofs.Try.prog 400 104 0 (sh104_0_1 Go.Proofs.Try.prog) (shb104_0_1 Go.Proofs.Try.prog) (shr104_0_1 Go.Proofs.Try.prog) ((x2,x3,x4,()),(),(b1_0,b1_1,b1_2,()),(b3_0,b3_1,()),(b4_0,()),(b5_0,()),(b6_0,b6_1,b6_2,()),()) [tt,tt,tt] =
    (some (.again ((x2,(x3,((wrap64 (x4 + (1:Int)):Int),()))),((),((b1_0,(b1_1,(b1_2,()))),((b3_0,(b3_1,())),((b4_0,()),((b5_0,()),((b6_0,(b6_1,(b6_2,()))),()))))))),[(sameRf Go.Proofs.Try.prog (nat_lit 43) (nat_lit 0),true),(!eqF (List.getD x2 (Int.toNat x4) ((0:Int),(0:Int),(0:Int),())).1 (0:Int),true),(decide ((0:Int) ≤ x4) && decide (x4 < (↑(List.length x2):Int)),true),(!leF x3 x4,true)])):=by kernel_rfl
theorem e104_0_1_1 (x2:(List (Int×(Int×(Int×Unit))))) (x3:Int) (x4:Int) (b1_0:Int) (b1_1:Int) (b1_2:(List (Int×(Int×(Int×Unit))))) (b3_0:Int) (b3_1:Int) (b4_0:Int) (b5_0:Int) (b6_0:Int) (b6_1:Int) (b6_2:(List (Int×(Int×(Int×Unit))))):runBody (kf41 Go.Proofs.Try.prog).orc Go.Proofs.Try.prog 400 104 0 (sh104_0_1 Go.Proofs.Try.prog) (shb104_0_1 Go.Proofs.Try.prog) (shr104_0_1 Go.Proofs.Try.prog) ((x2,x3,x4,()),(),(b1_0,b1_1,b1_2,()),(b3_0,b3_1,()),(b4_0,()),(b5_0,()),(b6_0,b6_1,b6_2,()),()) [tt,tt,ff,tt,tt,tt,tt,tt] =
    (let r0:=g87 (((b6_0,(b6_1,())),(b6_2,())),((((List.getD x2 (Int.toNat x4) ((0:Int),(0:Int),(0:Int),())).2.2.1:Int),(((List.getD b1_2 (Int.toNat (wrap64 (x4 + (1:Int)))) ((0:Int),(0:Int),(0:Int),())).2.2.1:Int),(true,()))),())); some (.ret ((),((),((b1_0,(b1_1,(b1_2,()))),((b3_0,(b3_1,())),(((wrap64 (wrap64 ((List.getD x2 (Int.toNat x4) ((0:Int),(0:Int),(0:Int),())).2.2.1 + b3_0) + (1:Int)):Int),()),(((0:Int),()),((b6_0,(b6_1,(b6_2,()))),()))))))),[(sameRf Go.Proofs.Try.prog (nat_lit 43) (nat_lit 0),true),(true,true),(r0.1,true),(Option.isSome (f87 (((b6_0,(b6_1,())),(b6_2,())),((((List.getD x2 (Int.toNat x4) ((0:Int),(0:Int),(0:Int),())).2.2.1:Int),(((List.getD b1_2 (Int.toNat (wrap64 (x4 + (1:Int)))) ((0:Int),(0:Int),(0:Int),())).2.2.1:Int),(true,()))),()))),true),(decide ((0:Int) ≤ wrap64 (x4 + (1:Int))) && decide (wrap64 (x4 + (1:Int)) < (↑(List.length b1_2):Int)),true),(!leF (↑(List.length b1_2):Int) (wrap64 (x4 + (1:Int))),true),(!eqF (List.getD x2 (Int.toNat x4) ((0:Int),(0:Int),(0:Int),())).1 (0:Int),false),(decide ((0:Int) ≤ x4) && decide (x4 < (↑(List.length x2):Int)),true),(!leF x3 x4,true)])):=by kernel_rfl
theorem e104_0_1_2 (x2:(List (Int×(Int×(Int×Unit))))) (x3:Int) (x4:Int) (b1_0:Int) (b1_1:Int) (b1_2:(List (Int×(Int×(Int×Unit))))) (b3_0:Int) (b3_1:Int) (b4_0:Int) (b5_0:Int) (b6_0:Int) (b6_1:Int) (b6_2:(List (Int×(Int×(Int×Unit))))):runBody (kf41 Go.Proofs.Try.prog).orc Go.Proofs.Try.prog 400 104 0 (sh104_0_1 Go.Proofs.Try.prog) (shb104_0_1 Go.Proofs.Try.prog) (shr104_0_1 Go.Proofs.Try.prog) ((x2,x3,x4,()),(),(b1_0,b1_1,b1_2,()),(b3_0,b3_1,()),(b4_0,()),(b5_0,()),(b6_0,b6_1,b6_2,()),()) [tt,tt,ff,tt,tt,tt,ff,ff] =
    (let r0:=g87 (((b6_0,(b6_1,())),(b6_2,())),((((List.getD x2 (Int.toNat x4) ((0:Int),(0:Int),(0:Int),())).2.2.1:Int),(((List.getD b1_2 (Int.toNat (wrap64 (x4 + (1:Int)))) ((0:Int),(0:Int),(0:Int),())).2.2.1:Int),(true,()))),())); some (.again ((x2,(x3,((wrap64 (x4 + (1:Int)):Int),()))),((),((b1_0,(b1_1,(b1_2,()))),((b3_0,(b3_1,())),((b4_0,()),((b5_0,()),((b6_0,(b6_1,(b6_2,()))),()))))))),[(sameRf Go.Proofs.Try.prog (nat_lit 43) (nat_lit 0),true),(false,false),(r0.1,false),(Option.isSome (f87 (((b6_0,(b6_1,())),(b6_2,())),((((List.getD x2 (Int.toNat x4) ((0:Int),(0:Int),(0:Int),())).2.2.1:Int),(((List.getD b1_2 (Int.toNat (wrap64 (x4 + (1:Int)))) ((0:Int),(0:Int),(0:Int),())).2.2.1:Int),(true,()))),()))),true),(decide ((0:Int) ≤ wrap64 (x4 + (1:Int))) && decide (wrap64 (x4 + (1:Int)) < (↑(List.length b1_2):Int)),true),(!leF (↑(List.length b1_2):Int) (wrap64 (x4 + (1:Int))),true),(!eqF (List.getD x2 (Int.toNat x4) ((0:Int),(0:Int),(0:Int),())).1 (0:Int),false),(decide ((0:Int) ≤ x4) && decide (x4 < (↑(List.length x2):Int)),true),(!leF x3 x4,true)])):=by kernel_rfl
theorem e104_0_1_4 (x2:(List (Int×(Int×(Int×Unit))))) (x3:Int) (x4:Int) (b1_0:Int) (b1_1:Int) (b1_2:(List (Int×(Int×(Int×Unit))))) (b3_0:Int) (b3_1:Int) (b4_0:Int) (b5_0:Int) (b6_0:Int) (b6_1:Int) (b6_2:(List (Int×(Int×(Int×Unit))))):runBody (kf41 Go.Proofs.Try.prog).orc Go.Proofs.Try.prog 400 104 0 (sh104_0_1 Go.Proofs.Try.prog) (shb104_0_1 Go.Proofs.Try.prog) (shr104_0_1 Go.Proofs.Try.prog) ((x2,x3,x4,()),(),(b1_0,b1_1,b1_2,()),(b3_0,b3_1,()),(b4_0,()),(b5_0,()),(b6_0,b6_1,b6_2,()),()) [tt,tt,ff,ff,tt,tt,tt] =
    (let r1:=g87 (((b6_0,(b6_1,())),(b6_2,())),((((List.getD x2 (Int.toNat x4) ((0:Int),(0:Int),(0:Int),())).2.2.1:Int),(b1_1,(false,()))),())); some (.ret ((),((),((b1_0,(b1_1,(b1_2,()))),((b3_0,(b3_1,())),(((wrap64 (wrap64 ((List.getD x2 (Int.toNat x4) ((0:Int),(0:Int),(0:Int),())).2.2.1 + b3_0) + (1:Int)):Int),()),(((0:Int),()),((b6_0,(b6_1,(b6_2,()))),()))))))),[(sameRf Go.Proofs.Try.prog (nat_lit 43) (nat_lit 0),true),(true,true),(r1.1,true),(Option.isSome (f87 (((b6_0,(b6_1,())),(b6_2,())),((((List.getD x2 (Int.toNat x4) ((0:Int),(0:Int),(0:Int),())).2.2.1:Int),(b1_1,(false,()))),()))),true),(!leF (↑(List.length b1_2):Int) (wrap64 (x4 + (1:Int))),false),(!eqF (List.getD x2 (Int.toNat x4) ((0:Int),(0:Int),(0:Int),())).1 (0:Int),false),(decide ((0:Int) ≤ x4) && decide (x4 < (↑(List.length x2):Int)),true),(!leF x3 x4,true)])):=by kernel_rfl
theorem e104_0_1_5 (x2:(List (Int×(Int×(Int×Unit))))) (x3:Int) (x4:Int) (b1_0:Int) (b1_1:Int) (b1_2:(List (Int×(Int×(Int×Unit))))) (b3_0:Int) (b3_1:Int) (b4_0:Int) (b5_0:Int) (b6_0:Int) (b6_1:Int) (b6_2:(List (Int×(Int×(Int×Unit))))):runBody (kf41 Go.Proofs.Try.prog).orc Go.Proofs.Try.prog 400 104 0 (sh104_0_1 Go.Proofs.Try.prog) (shb104_0_1 Go.Proofs.Try.prog) (shr104_0_1 Go.Proofs.Try.prog) ((x2,x3,x4,()),(),(b1_0,b1_1,b1_2,()),(b3_0,b3_1,()),(b4_0,()),(b5_0,()),(b6_0,b6_1,b6_2,()),()) [tt,tt,ff,ff,tt,ff,ff] =
    (let r1:=g87 (((b6_0,(b6_1,())),(b6_2,())),((((List.getD x2 (Int.toNat x4) ((0:Int),(0:Int),(0:Int),())).2.2.1:Int),(b1_1,(false,()))),())); some (.again ((x2,(x3,((wrap64 (x4 + (1:Int)):Int),()))),((),((b1_0,(b1_1,(b1_2,()))),((b3_0,(b3_1,())),((b4_0,()),((b5_0,()),((b6_0,(b6_1,(b6_2,()))),()))))))),[(sameRf Go.Proofs.Try.prog (nat_lit 43) (nat_lit 0),true),(false,false),(r1.1,false),(Option.isSome (f87 (((b6_0,(b6_1,())),(b6_2,())),((((List.getD x2 (Int.toNat x4) ((0:Int),(0:Int),(0:Int),())).2.2.1:Int),(b1_1,(false,()))),()))),true),(!leF (↑(List.length b1_2):Int) (wrap64 (x4 + (1:Int))),false),(!eqF (List.getD x2 (Int.toNat x4) ((0:Int),(0:Int),(0:Int),())).1 (0:Int),false),(decide ((0:Int) ≤ x4) && decide (x4 < (↑(List.length x2):Int)),true),(!leF x3 x4,true)])):=by kernel_rfl
theorem e104_0_1_7 (x2:(List (Int×(Int×(Int×Unit))))) (x3:Int) (x4:Int) (b1_0:Int) (b1_1:Int) (b1_2:(List (Int×(Int×(Int×Unit))))) (b3_0:Int) (b3_1:Int) (b4_0:Int) (b5_0:Int) (b6_0:Int) (b6_1:Int) (b6_2:(List (Int×(Int×(Int×Unit))))):runBody (kf41 Go.Proofs.Try.prog).orc Go.Proofs.Try.prog 400 104 0 (sh104_0_1 Go.Proofs.Try.prog) (shb104_0_1 Go.Proofs.Try.prog) (shr104_0_1 Go.Proofs.Try.prog) ((x2,x3,x4,()),(),(b1_0,b1_1,b1_2,()),(b3_0,b3_1,()),(b4_0,()),(b5_0,()),(b6_0,b6_1,b6_2,()),()) [ff] =
    (some (.brk ((),((),((b1_0,(b1_1,(b1_2,()))),((b3_0,(b3_1,())),((b4_0,()),((b5_0,()),((b6_0,(b6_1,(b6_2,()))),()))))))),[(sameRf Go.Proofs.Try.prog (nat_lit 43) (nat_lit 0),true),(!leF x3 x4,false)])):=by kernel_rfl

theorem ok104_0_1_t (x2:(List (Int×(Int×(Int×Unit))))) (x3:Int) (x4:Int) (b1_0:Int) (b1_1:Int) (b1_2:(List (Int×(Int×(Int×Unit))))) (b3_0:Int) (b3_1:Int) (b4_0:Int) (b5_0:Int) (b6_0:Int) (b6_1:Int) (b6_2:(List (Int×(Int×(Int×Unit))))):TrOk (BodyRuns Go.Proofs.Try.prog (kf41 Go.Proofs.Try.prog).orc 104 0 (sh104_0_1 Go.Proofs.Try.prog) (shb104_0_1 Go.Proofs.Try.prog) (shr104_0_1 Go.Proofs.Try.prog) ((x2,x3,x4,()),(),(b1_0,b1_1,b1_2,()),(b3_0,b3_1,()),(b4_0,()),(b5_0,()),(b6_0,b6_1,b6_2,()),())) (t104_0_1 x2 x3 x4 b1_0 b1_1 b1_2 b3_0 b3_1 b4_0 b5_0 b6_0 b6_1 b6_2) :=
  TrOk.ofTest (fun h0=>TrOk.ofTest (fun h1=>TrOk.ofTest (fun h2=>TrOk.ofFin (BodyRuns.of (e104_0_1_0 x2 x3 x4 b1_0 b1_1 b1_2 b3_0 b3_1 b4_0 b5_0 b6_0 b6_1 b6_2) (ac (sc43_0) (ac h2 (ac h1 (ac h0 All.nil)))))) (fun h2=>TrOk.ofTest (fun h3=>TrOk.ofTest (fun h4=>TrOk.ofTest (fun h5=>TrOk.ofTest (fun h6=>TrOk.ofFin (BodyRuns.of (e104_0_1_1 x2 x3 x4 b1_0 b1_1 b1_2 b3_0 b3_1 b4_0 b5_0 b6_0 b6_1 b6_2) (ac (sc43_0) (ac rfl (ac h6 (ac h5 (ac h4 (ac h3 (ac h2 (ac h1 (ac h0 All.nil))))))))))) (fun h6=>TrOk.ofFin (BodyRuns.of (e104_0_1_2 x2 x3 x4 b1_0 b1_1 b1_2 b3_0 b3_1 b4_0 b5_0 b6_0 b6_1 b6_2) (ac (sc43_0) (ac rfl (ac h6 (ac h5 (ac h4 (ac h3 (ac h2 (ac h1 (ac h0 All.nil)))))))))))) (fun h5=>TrOk.ofStop)) (fun h4=>TrOk.ofStop)) (fun h3=>TrOk.ofTest (fun h4=>TrOk.ofTest (fun h5=>TrOk.ofFin (BodyRuns.of (e104_0_1_4 x2 x3 x4 b1_0 b1_1 b1_2 b3_0 b3_1 b4_0 b5_0 b6_0 b6_1 b6_2) (ac (sc43_0) (ac rfl (ac h5 (ac h4 (ac h3 (ac h2 (ac h1 (ac h0 All.nil)))))))))) (fun h5=>TrOk.ofFin (BodyRuns.of (e104_0_1_5 x2 x3 x4 b1_0 b1_1 b1_2 b3_0 b3_1 b4_0 b5_0 b6_0 b6_1 b6_2) (ac (sc43_0) (ac rfl (ac h5 (ac h4 (ac h3 (ac h2 (ac h1 (ac h0 All.nil))))))))))) (fun h4=>TrOk.ofStop)))) (fun h1=>TrOk.ofStop)) (fun h0=>TrOk.ofFin (BodyRuns.of (e104_0_1_7 x2 x3 x4 b1_0 b1_1 b1_2 b3_0 b3_1 b4_0 b5_0 b6_0 b6_1 b6_2) (ac (sc43_0) (ac h0 All.nil))))

theorem ok104_0_1:LoopOk Go.Proofs.Try.prog 104 0 (lc104_0_1 Go.Proofs.Try.prog):=loopOk_of (sh:=(sh104_0_1 Go.Proofs.Try.prog)) (shB:=(shb104_0_1 Go.Proofs.Try.prog)) (shR:=(shr104_0_1 Go.Proofs.Try.prog)) kf41_ok.base (T:=fun (d:dt104_0_1)=>t104_0_1 d.1.1 d.1.2.1 d.1.2.2.1 d.2.2.1.1 d.2.2.1.2.1 d.2.2.1.2.2.1 d.2.2.2.1.1 d.2.2.2.1.2.1 d.2.2.2.2.1.1 d.2.2.2.2.2.1.1 d.2.2.2.2.2.2.1.1 d.2.2.2.2.2.2.1.2.1 d.2.2.2.2.2.2.1.2.2.1) (by kernel_rfl) rfl (fun (d:dt104_0_1)=>ok104_0_1_t d.1.1 d.1.2.1 d.1.2.2.1 d.2.2.1.1 d.2.2.1.2.1 d.2.2.1.2.2.1 d.2.2.2.1.1 d.2.2.2.1.2.1 d.2.2.2.2.1.1 d.2.2.2.2.2.1.1 d.2.2.2.2.2.2.1.1 d.2.2.2.2.2.2.1.2.1 d.2.2.2.2.2.2.1.2.2.1) (fun _=>rfl)
def kl104_0_1 (P:Go.Program):Known:=(kf41 P).loop 104 0 (lc104_0_1 P)
theorem kl104_0_1_ok:KnownOk Go.Proofs.Try.prog (kl104_0_1 Go.Proofs.Try.prog):=kf41_ok.loop ok104_0_1

/-! ductility/hybrid.HeldAt -/

abbrev as43:List Ty:=[(.slice (.pair (.int .i64) (.pair (.int .i64) (.pair (.int .i64) .unit)))),(.pair (.int .i64) (.pair (.int .i64) .unit))]
abbrev rs43:List Ty:=[(.int .i64),(.int .i64)]

def t43 (x0:(List (Int×(Int×(Int×Unit))))) (x1:Int) (x1':Int):Tr (Tys.data rs43) :=
  Tr.test (Option.isSome (f85 (x0,((x1,(x1',())),()))))
    (let r0:=g85 (x0,((x1,(x1',())),()));
    Tr.test ((!eqF r0.2.1 0:Bool))
      (Tr.fin (((0:Int),(r0.2.1,()))))
      (Tr.test (Option.isSome (l104_0_1 ((r0.1.2.1,((↑(List.length r0.1.2.1):Int),((0:Int),()))),((),((r0.1.1.1,(r0.1.1.2.1,(r0.1.2.1,()))),((x1,(x1',())),(((0:Int),()),(((0:Int),()),((r0.1.1.1,(r0.1.1.2.1,(r0.1.2.1,()))),())))))))))
        (Tr.test (isRet (l104_0_1 ((r0.1.2.1,((↑(List.length r0.1.2.1):Int),((0:Int),()))),((),((r0.1.1.1,(r0.1.1.2.1,(r0.1.2.1,()))),((x1,(x1',())),(((0:Int),()),(((0:Int),()),((r0.1.1.1,(r0.1.1.2.1,(r0.1.2.1,()))),())))))))))
          (let r1:=r104_0_1 ((r0.1.2.1,((↑(List.length r0.1.2.1):Int),((0:Int),()))),((),((r0.1.1.1,(r0.1.1.2.1,(r0.1.2.1,()))),((x1,(x1',())),(((0:Int),()),(((0:Int),()),((r0.1.1.1,(r0.1.1.2.1,(r0.1.2.1,()))),())))))));
          Tr.fin ((r1.2.2.2.2.1.1,(r1.2.2.2.2.2.1.1,()))))
          (Tr.fin (((0:Int),((12:Int),())))))
        (Tr.stop)))
    (Tr.stop)

def f43 (d:Tys.data as43):Option (Tys.data rs43):=(t43 d.1 d.2.1.1 d.2.1.2.1).val
def g43 (d:Tys.data as43):Tys.data rs43:=(f43 d).getD (Tys.dflt rs43)
def p43:PureC:=pcOf as43 rs43 f43 g43

theorem e43_0 (x0:(List (Int×(Int×(Int×Unit))))) (x1:Int) (x1':Int):runPure (kl104_0_1 Go.Proofs.Try.prog).orc Go.Proofs.Try.prog 400 43 as43 rs43 (x0,(x1,x1',()),()) [tt,tt] =
    (let r0:=g85 (x0,((x1,(x1',())),())); some (((0:Int),(r0.2.1,())),[(!eqF r0.2.1 0,true),(Option.isSome (f85 (x0,((x1,(x1',())),()))),true)])):=by kernel_rfl
theorem e43_1 (x0:(List (Int×(Int×(Int×Unit))))) (x1:Int) (x1':Int):runPure (kl104_0_1 Go.Proofs.Try.prog).orc Go.Proofs.Try.prog 400 43 as43 rs43 (x0,(x1,x1',()),()) [tt,ff,tt,tt,tt] =
    (let r0:=g85 (x0,((x1,(x1',())),()));let r1:=r104_0_1 ((r0.1.2.1,((↑(List.length r0.1.2.1):Int),((0:Int),()))),((),((r0.1.1.1,(r0.1.1.2.1,(r0.1.2.1,()))),((x1,(x1',())),(((0:Int),()),(((0:Int),()),((r0.1.1.1,(r0.1.1.2.1,(r0.1.2.1,()))),()))))))); some ((r1.2.2.2.2.1.1,(r1.2.2.2.2.2.1.1,())),[(isRet (l104_0_1 ((r0.1.2.1,((↑(List.length r0.1.2.1):Int),((0:Int),()))),((),((r0.1.1.1,(r0.1.1.2.1,(r0.1.2.1,()))),((x1,(x1',())),(((0:Int),()),(((0:Int),()),((r0.1.1.1,(r0.1.1.2.1,(r0.1.2.1,()))),())))))))),true),(Option.isSome (l104_0_1 ((r0.1.2.1,((↑(List.length r0.1.2.1):Int),((0:Int),()))),((),((r0.1.1.1,(r0.1.1.2.1,(r0.1.2.1,()))),((x1,(x1',())),(((0:Int),()),(((0:Int),()),((r0.1.1.1,(r0.1.1.2.1,(r0.1.2.1,()))),())))))))),true),(sameRf Go.Proofs.Try.prog (nat_lit 43) (nat_lit 0),true),(!eqF r0.2.1 0,false),(Option.isSome (f85 (x0,((x1,(x1',())),()))),true)])):=by kernel_rfl
theorem e43_2 (x0:(List (Int×(Int×(Int×Unit))))) (x1:Int) (x1':Int):runPure (kl104_0_1 Go.Proofs.Try.prog).orc Go.Proofs.Try.prog 400 43 as43 rs43 (x0,(x1,x1',()),()) [tt,ff,tt,tt,ff] =
    (let r0:=g85 (x0,((x1,(x1',())),())); some (((0:Int),((12:Int),())),[(isRet (l104_0_1 ((r0.1.2.1,((↑(List.length r0.1.2.1):Int),((0:Int),()))),((),((r0.1.1.1,(r0.1.1.2.1,(r0.1.2.1,()))),((x1,(x1',())),(((0:Int),()),(((0:Int),()),((r0.1.1.1,(r0.1.1.2.1,(r0.1.2.1,()))),())))))))),false),(Option.isSome (l104_0_1 ((r0.1.2.1,((↑(List.length r0.1.2.1):Int),((0:Int),()))),((),((r0.1.1.1,(r0.1.1.2.1,(r0.1.2.1,()))),((x1,(x1',())),(((0:Int),()),(((0:Int),()),((r0.1.1.1,(r0.1.1.2.1,(r0.1.2.1,()))),())))))))),true),(sameRf Go.Proofs.Try.prog (nat_lit 43) (nat_lit 0),true),(!eqF r0.2.1 0,false),(Option.isSome (f85 (x0,((x1,(x1',())),()))),true)])):=by kernel_rfl

theorem ok43_t (x0:(List (Int×(Int×(Int×Unit))))) (x1:Int) (x1':Int):TrOk (PureRuns Go.Proofs.Try.prog (kl104_0_1 Go.Proofs.Try.prog).orc 43 as43 rs43 (x0,(x1,x1',()),())) (t43 x0 x1 x1') :=
  TrOk.ofTest (fun h0=>TrOk.ofTest (fun h1=>TrOk.ofFin (PureRuns.of (e43_0 x0 x1 x1') (ac h1 (ac h0 All.nil)))) (fun h1=>TrOk.ofTest (fun h3=>TrOk.ofTest (fun h4=>TrOk.ofFin (PureRuns.of (e43_1 x0 x1 x1') (ac h4 (ac h3 (ac (sc43_0) (ac h1 (ac h0 All.nil))))))) (fun h4=>TrOk.ofFin (PureRuns.of (e43_2 x0 x1 x1') (ac h4 (ac h3 (ac (sc43_0) (ac h1 (ac h0 All.nil)))))))) (fun h3=>TrOk.ofStop))) (fun h0=>TrOk.ofStop)

theorem ok43:PureOk Go.Proofs.Try.prog 43 p43:=pureOk_of kl104_0_1_ok.base (T:=fun (d:Tys.data as43)=>t43 d.1 d.2.1.1 d.2.1.2.1) (by kernel_rfl) (fun (d:Tys.data as43)=>ok43_t d.1 d.2.1.1 d.2.1.2.1)
def kf43 (P:Go.Program):Known:=(kl104_0_1 P).func 43 p43
theorem kf43_ok:KnownOk Go.Proofs.Try.prog (kf43 Go.Proofs.Try.prog):=kl104_0_1_ok.func ok43

theorem sc44_0:sameRf Go.Proofs.Try.prog 44 0 = true:=sameRf_ok (by kernel_rfl)

end Go.Vm.Mo
