import Derived.Test.YtlmcodagfhdncaaA4
import Derived.KernelRfl
import Derived.Test.YtlmcodagfhdncaaProg
import Derived.Test.YtlmcodagfhdncaaRsFa
set_option linter.unusedVariables false
set_option linter.unusedSimpArgs false

namespace Go.Vm.Mo
open Go
set_option linter.unusedVariables false

/-! loop 0 of ductility/ductilitybase.Ints -/

abbrev sh24_0:Sh:={ n:=26,slots:=[0,1,5],pats:=[.ty (.slice (.int .i64)),.ty (.slice (.int .i64)),.ty (.int .i64)],boxes:=[] }
abbrev shb24_0:Sh:={ n:=26,slots:=[],pats:=[],boxes:=[] }
abbrev shr24_0:Sh:={ n:=26,slots:=[4],pats:=[.ty .bool],boxes:=[] }

def t24_0 (x0:(List Int)) (x1:(List Int)) (x2:Int):Tr (Out sh24_0.data shb24_0.data shr24_0.data) :=
  Tr.test ((!leF (↑(List.length x0):Int) x2:Bool))
    (Tr.test (decide ((0:Int) ≤ x2) && decide (x2 < (↑(List.length x0):Int)))
      (Tr.test ((decide ((0:Int) ≤ x2) && decide (x2 < (↑(List.length x1):Int)):Bool))
        (Tr.test ((!eqF (List.getD x0 (Int.toNat x2) (0:Int)) (List.getD x1 (Int.toNat x2) (0:Int)):Bool))
          (Tr.fin (.ret (((false:Bool),()),())))
          (Tr.fin (.again ((x0,(x1,((wrap64 (x2 + (1:Int)):Int),()))),()))))
        (Tr.stop))
      (Tr.stop))
    (Tr.fin (.brk ((),())))

def s24_0 (d:sh24_0.data):Option (Out sh24_0.data shb24_0.data shr24_0.data):=(t24_0 d.1.1 d.1.2.1 d.1.2.2.1).val
def l24_0 (d:sh24_0.data):Option (shb24_0.data ⊕ shr24_0.data):=itr s24_0 rounds d
def b24_0 (d:sh24_0.data):shb24_0.data:=outB shb24_0.dflt (l24_0 d)
def r24_0 (d:sh24_0.data):shr24_0.data:=outR shr24_0.dflt (l24_0 d)
def lc24_0:LoopC:=lcOf sh24_0 shb24_0 shr24_0 l24_0 b24_0 r24_0

theorem wk24_0 (x0:(List Int)) (x1:(List Int)) (x2:Int):Walks (runBody (kf55 Go.Proofs.Try.prog).orc Go.Proofs.Try.prog 400 24 0 sh24_0 shb24_0 shr24_0 ((x0,x1,x2,()),())) (t24_0 x0 x1 x2) [([true,true,true,true],[2,4,6,8]),([true,true,true,false],[2,4,6,8]),([ff],[2])] :=
  ⟨by kernel_rfl,by kernel_rfl,by kernel_rfl,trivial⟩

theorem ok24_0_t (x0:(List Int)) (x1:(List Int)) (x2:Int):TrOk (BodyRuns Go.Proofs.Try.prog (kf55 Go.Proofs.Try.prog).orc 24 0 sh24_0 shb24_0 shr24_0 ((x0,x1,x2,()),())) (t24_0 x0 x1 x2) :=
  Walks.ok (fun _ _ _=>BodyRuns.of) (wk24_0 x0 x1 x2) (by kernel_rfl)

theorem ok24_0:LoopOk Go.Proofs.Try.prog 24 0 lc24_0:=loopOk_of (sh:=sh24_0) (shB:=shb24_0) (shR:=shr24_0) kf55_ok.base (T:=fun (d:sh24_0.data)=>t24_0 d.1.1 d.1.2.1 d.1.2.2.1) (by kernel_rfl) rfl (fun (d:sh24_0.data)=>ok24_0_t d.1.1 d.1.2.1 d.1.2.2.1) (fun _=>rfl)
def kl24_0 (P:Go.Program):Known:=(kf55 P).loop 24 0 lc24_0
theorem kl24_0_ok:KnownOk Go.Proofs.Try.prog (kl24_0 Go.Proofs.Try.prog):=kf55_ok.loop ok24_0

/-! ductility/ductilitybase.Ints -/

abbrev as24:List Ty:=[(.slice (.int .i64)),(.slice (.int .i64))]
abbrev rs24:List Ty:=[.bool]

def t24 (x0:(List Int)) (x1:(List Int)):Tr (Tys.data rs24) :=
  Tr.test ((!eqF (↑(List.length x0):Int) (↑(List.length x1):Int):Bool))
    (Tr.fin ((false,())))
    (Tr.test (Option.isSome (l24_0 ((x0,(x1,((0:Int),()))),())))
      (Tr.test (isRet (l24_0 ((x0,(x1,((0:Int),()))),())))
        (let r0:=r24_0 ((x0,(x1,((0:Int),()))),());
        Tr.fin ((r0.1.1,())))
        (Tr.fin (((true:Bool),()))))
      (Tr.stop))

def f24 (d:Tys.data as24):Option (Tys.data rs24):=(t24 d.1 d.2.1).val
def g24 (d:Tys.data as24):Tys.data rs24:=(f24 d).getD (Tys.dflt rs24)
def p24:PureC:=pcOf as24 rs24 f24 g24

theorem wk24 (x0:(List Int)) (x1:(List Int)):Walks (runPure (kl24_0 Go.Proofs.Try.prog).orc Go.Proofs.Try.prog 400 24 as24 rs24 (x0,x1,())) (t24 x0 x1) [([tt],[2]),([false,true,true],[2,4,6]),([false,true,false],[2,4,6])] :=
  ⟨by kernel_rfl,by kernel_rfl,by kernel_rfl,trivial⟩

theorem ok24_t (x0:(List Int)) (x1:(List Int)):TrOk (PureRuns Go.Proofs.Try.prog (kl24_0 Go.Proofs.Try.prog).orc 24 as24 rs24 (x0,x1,())) (t24 x0 x1) :=
  Walks.ok (fun _ _ _=>PureRuns.of) (wk24 x0 x1) (by kernel_rfl)

theorem ok24:PureOk Go.Proofs.Try.prog 24 p24:=pureOk_of kl24_0_ok.base (T:=fun (d:Tys.data as24)=>t24 d.1 d.2.1) (by kernel_rfl) (fun (d:Tys.data as24)=>ok24_t d.1 d.2.1)
def kf24 (P:Go.Program):Known:=(kl24_0 P).func 24 p24
theorem kf24_ok:KnownOk Go.Proofs.Try.prog (kf24 Go.Proofs.Try.prog):=kl24_0_ok.func ok24

/-! loop 0 of ductility/ductilitybase.Fracs -/

abbrev sh56_0:Sh:={ n:=26,slots:=[0,1,5],pats:=[.ty (.slice (.pair (.int .i64) (.pair (.int .i64) .unit))),.ty (.slice (.pair (.int .i64) (.pair (.int .i64) .unit))),.ty (.int .i64)],boxes:=[] }
abbrev shb56_0:Sh:={ n:=26,slots:=[],pats:=[],boxes:=[] }
abbrev shr56_0:Sh:={ n:=26,slots:=[4],pats:=[.ty .bool],boxes:=[] }

def t56_0 (x0:(List (Int×(Int×Unit)))) (x1:(List (Int×(Int×Unit)))) (x2:Int):Tr (Out sh56_0.data shb56_0.data shr56_0.data) :=
  Tr.test ((!leF (↑(List.length x0):Int) x2:Bool))
    (Tr.test (decide ((0:Int) ≤ x2) && decide (x2 < (↑(List.length x0):Int)))
      (Tr.test ((decide ((0:Int) ≤ x2) && decide (x2 < (↑(List.length x1):Int)):Bool))
        (Tr.test ((!((List.getD x0 (Int.toNat x2) ((0:Int),(0:Int),())).1 == (List.getD x1 (Int.toNat x2) ((0:Int),(0:Int),())).1 && ((List.getD x0 (Int.toNat x2) ((0:Int),(0:Int),())).2.1 == (List.getD x1 (Int.toNat x2) ((0:Int),(0:Int),())).2.1 && true)):Bool))
          (Tr.fin (.ret (((false:Bool),()),())))
          (Tr.fin (.again ((x0,(x1,((wrap64 (x2 + (1:Int)):Int),()))),()))))
        (Tr.stop))
      (Tr.stop))
    (Tr.fin (.brk ((),())))

def s56_0 (d:sh56_0.data):Option (Out sh56_0.data shb56_0.data shr56_0.data):=(t56_0 d.1.1 d.1.2.1 d.1.2.2.1).val
def l56_0 (d:sh56_0.data):Option (shb56_0.data ⊕ shr56_0.data):=itr s56_0 rounds d
def b56_0 (d:sh56_0.data):shb56_0.data:=outB shb56_0.dflt (l56_0 d)
def r56_0 (d:sh56_0.data):shr56_0.data:=outR shr56_0.dflt (l56_0 d)
def lc56_0:LoopC:=lcOf sh56_0 shb56_0 shr56_0 l56_0 b56_0 r56_0

theorem wk56_0 (x0:(List (Int×(Int×Unit)))) (x1:(List (Int×(Int×Unit)))) (x2:Int):Walks (runBody (kf24 Go.Proofs.Try.prog).orc Go.Proofs.Try.prog 400 56 0 sh56_0 shb56_0 shr56_0 ((x0,x1,x2,()),())) (t56_0 x0 x1 x2) [([true,true,true,true],[2,4,6,8]),([true,true,true,false],[2,4,6,8]),([ff],[2])] :=
  ⟨by kernel_rfl,by kernel_rfl,by kernel_rfl,trivial⟩

theorem ok56_0_t (x0:(List (Int×(Int×Unit)))) (x1:(List (Int×(Int×Unit)))) (x2:Int):TrOk (BodyRuns Go.Proofs.Try.prog (kf24 Go.Proofs.Try.prog).orc 56 0 sh56_0 shb56_0 shr56_0 ((x0,x1,x2,()),())) (t56_0 x0 x1 x2) :=
  Walks.ok (fun _ _ _=>BodyRuns.of) (wk56_0 x0 x1 x2) (by kernel_rfl)

theorem ok56_0:LoopOk Go.Proofs.Try.prog 56 0 lc56_0:=loopOk_of (sh:=sh56_0) (shB:=shb56_0) (shR:=shr56_0) kf24_ok.base (T:=fun (d:sh56_0.data)=>t56_0 d.1.1 d.1.2.1 d.1.2.2.1) (by kernel_rfl) rfl (fun (d:sh56_0.data)=>ok56_0_t d.1.1 d.1.2.1 d.1.2.2.1) (fun _=>rfl)
def kl56_0 (P:Go.Program):Known:=(kf24 P).loop 56 0 lc56_0
theorem kl56_0_ok:KnownOk Go.Proofs.Try.prog (kl56_0 Go.Proofs.Try.prog):=kf24_ok.loop ok56_0

/-! ductility/ductilitybase.Fracs -/

abbrev as56:List Ty:=[(.slice (.pair (.int .i64) (.pair (.int .i64) .unit))),(.slice (.pair (.int .i64) (.pair (.int .i64) .unit)))]
abbrev rs56:List Ty:=[.bool]

def t56 (x0:(List (Int×(Int×Unit)))) (x1:(List (Int×(Int×Unit)))):Tr (Tys.data rs56) :=
  Tr.test ((!eqF (↑(List.length x0):Int) (↑(List.length x1):Int):Bool))
    (Tr.fin ((false,())))
    (Tr.test (Option.isSome (l56_0 ((x0,(x1,((0:Int),()))),())))
      (Tr.test (isRet (l56_0 ((x0,(x1,((0:Int),()))),())))
        (let r0:=r56_0 ((x0,(x1,((0:Int),()))),());
        Tr.fin ((r0.1.1,())))
        (Tr.fin (((true:Bool),()))))
      (Tr.stop))

def f56 (d:Tys.data as56):Option (Tys.data rs56):=(t56 d.1 d.2.1).val
def g56 (d:Tys.data as56):Tys.data rs56:=(f56 d).getD (Tys.dflt rs56)
def p56:PureC:=pcOf as56 rs56 f56 g56

theorem wk56 (x0:(List (Int×(Int×Unit)))) (x1:(List (Int×(Int×Unit)))):Walks (runPure (kl56_0 Go.Proofs.Try.prog).orc Go.Proofs.Try.prog 400 56 as56 rs56 (x0,x1,())) (t56 x0 x1) [([tt],[2]),([false,true,true],[2,4,6]),([false,true,false],[2,4,6])] :=
  ⟨by kernel_rfl,by kernel_rfl,by kernel_rfl,trivial⟩

theorem ok56_t (x0:(List (Int×(Int×Unit)))) (x1:(List (Int×(Int×Unit)))):TrOk (PureRuns Go.Proofs.Try.prog (kl56_0 Go.Proofs.Try.prog).orc 56 as56 rs56 (x0,x1,())) (t56 x0 x1) :=
  Walks.ok (fun _ _ _=>PureRuns.of) (wk56 x0 x1) (by kernel_rfl)

theorem ok56:PureOk Go.Proofs.Try.prog 56 p56:=pureOk_of kl56_0_ok.base (T:=fun (d:Tys.data as56)=>t56 d.1 d.2.1) (by kernel_rfl) (fun (d:Tys.data as56)=>ok56_t d.1 d.2.1)
def kf56 (P:Go.Program):Known:=(kl56_0 P).func 56 p56
theorem kf56_ok:KnownOk Go.Proofs.Try.prog (kf56 Go.Proofs.Try.prog):=kl56_0_ok.func ok56

/-! ductility/ductilitylaw08.awake -/

abbrev as9:List Ty:=[]
abbrev rs9:List Ty:=[.bool]
def f9 (_:Tys.data as9):Option (Tys.data rs9):=some (true,())
def g9 (_:Tys.data as9):Tys.data rs9:=(true,())
def p9:PureC:=pcOf as9 rs9 f9 g9

theorem e9:runAsk (kf56 Go.Proofs.Try.prog).orc Go.Proofs.Try.prog 400 9 as9 rs9 () none = some ((true,()),[]):=by kernel_rfl
theorem ok9:PureOk Go.Proofs.Try.prog 9 p9:=pureOk_closed kf56_ok.base (by kernel_rfl) e9 All.nil
def kf9 (P:Go.Program):Known:=(kf56 P).func 9 p9
theorem kf9_ok:KnownOk Go.Proofs.Try.prog (kf9 Go.Proofs.Try.prog):=kf56_ok.func ok9

/-! ductility/ductilitybase.Within -/

abbrev as39:List Ty:=[(.int .i64),(.int .i64),(.int .i64)]
abbrev rs39:List Ty:=[.bool]

def t39 (x0:Int) (x1:Int) (x2:Int):Tr (Tys.data rs39) :=
  Tr.test ((leF x1 x0:Bool))
    (Tr.fin ((leF x0 x2,())))
    (Tr.fin ((false,())))

def f39 (d:Tys.data as39):Option (Tys.data rs39):=(t39 d.1 d.2.1 d.2.2.1).val
def g39 (d:Tys.data as39):Tys.data rs39:=(f39 d).getD (Tys.dflt rs39)
def p39:PureC:=pcOf as39 rs39 f39 g39

theorem wk39 (x0:Int) (x1:Int) (x2:Int):Walks (runPure (kf9 Go.Proofs.Try.prog).orc Go.Proofs.Try.prog 400 39 as39 rs39 (x0,x1,x2,())) (t39 x0 x1 x2) [([tt],[2,2,2,2]),([ff],[2,2,2,2])] :=
  ⟨by kernel_rfl,by kernel_rfl,trivial⟩

theorem ok39_t (x0:Int) (x1:Int) (x2:Int):TrOk (PureRuns Go.Proofs.Try.prog (kf9 Go.Proofs.Try.prog).orc 39 as39 rs39 (x0,x1,x2,())) (t39 x0 x1 x2) :=
  Walks.ok (fun _ _ _=>PureRuns.of) (wk39 x0 x1 x2) (by kernel_rfl)

theorem ok39:PureOk Go.Proofs.Try.prog 39 p39:=pureOk_of kf9_ok.base (T:=fun (d:Tys.data as39)=>t39 d.1 d.2.1 d.2.2.1) (by kernel_rfl) (fun (d:Tys.data as39)=>ok39_t d.1 d.2.1 d.2.2.1)
def kf39 (P:Go.Program):Known:=(kf9 P).func 39 p39
theorem kf39_ok:KnownOk Go.Proofs.Try.prog (kf39 Go.Proofs.Try.prog):=kf9_ok.func ok39

/-! ductility/ductilityref08.TestErr -/

abbrev as17:List Ty:=[(.pair (.int .i64) (.pair (.int .i64) (.pair (.int .i64) (.pair (.int .i64) (.pair (.int .i64) (.pair .bool (.pair (.int .i64) (.pair (.pair (.int .i64) (.pair (.int .i64) .unit)) .unit))))))))]
abbrev rs17:List Ty:=[(.int .i64)]

def t17 (x0:Int) (x0':Int) (x0'':Int) (x0''':Int) (x0'''':Int) (x0''''':Bool) (x0'''''':Int) (x0'''''''_:Int) (x0'''''''_':Int):Tr (Tys.data rs17) :=
  Tr.test (Option.isSome (f39 (x0,((1:Int),((1000:Int),())))))
    (let r0:=g39 (x0,((1:Int),((1000:Int),())));
    Tr.test ((!r0.1:Bool))
      (Tr.fin (((2:Int),())))
      (Tr.test (Option.isSome (f39 (x0',((0:Int),((1000:Int),())))))
        (let r1:=g39 (x0',((0:Int),((1000:Int),())));
        Tr.test ((!r1.1:Bool))
          (Tr.fin (((2:Int),())))
          (Tr.test (Option.isSome (f39 (x0'',((0:Int),((1000:Int),())))))
            (let r2:=g39 (x0'',((0:Int),((1000:Int),())));
            Tr.test ((!r2.1:Bool))
              (Tr.fin (((2:Int),())))
              (Tr.test (Option.isSome (f39 (x0''',((0:Int),((1000:Int),())))))
                (let r3:=g39 (x0''',((0:Int),((1000:Int),())));
                Tr.test ((!r3.1:Bool))
                  (Tr.fin (((2:Int),())))
                  (Tr.test (Option.isSome (f39 (x0'''',((0:Int),((2:Int),())))))
                    (let r4:=g39 (x0'''',((0:Int),((2:Int),())));
                    Tr.test ((!r4.1:Bool))
                      (Tr.fin (((2:Int),())))
                      (Tr.test (Option.isSome (f39 (x0'''''',((0:Int),((3:Int),())))))
                        (let r5:=g39 (x0'''''',((0:Int),((3:Int),())));
                        Tr.test ((!r5.1:Bool))
                          (Tr.fin (((2:Int),())))
                          (Tr.test (Option.isSome (f39 (x0'''''''_,((-1000:Int),((1000:Int),())))))
                            (let r6:=g39 (x0'''''''_,((-1000:Int),((1000:Int),())));
                            Tr.test ((!r6.1:Bool))
                              (Tr.fin (((2:Int),())))
                              (Tr.test (Option.isSome (f39 (x0'''''''_',((-1000:Int),((1000:Int),())))))
                                (let r7:=g39 (x0'''''''_',((-1000:Int),((1000:Int),())));
                                Tr.test ((!r7.1:Bool))
                                  (Tr.fin (((2:Int),())))
                                  (Tr.test ((!leF x0'''''''_ x0'''''''_':Bool))
                                    (Tr.fin (((9:Int),())))
                                    (Tr.test ((leF (9:Int) (wrap64 (x0'''''''_' - x0'''''''_)):Bool))
                                      (Tr.fin (((8:Int),())))
                                      (Tr.fin (((0:Int),()))))))
                                (Tr.stop)))
                            (Tr.stop)))
                        (Tr.stop)))
                    (Tr.stop)))
                (Tr.stop)))
            (Tr.stop)))
        (Tr.stop)))
    (Tr.stop)

def f17 (d:Tys.data as17):Option (Tys.data rs17):=(t17 d.1.1 d.1.2.1 d.1.2.2.1 d.1.2.2.2.1 d.1.2.2.2.2.1 d.1.2.2.2.2.2.1 d.1.2.2.2.2.2.2.1 d.1.2.2.2.2.2.2.2.1.1 d.1.2.2.2.2.2.2.2.1.2.1).val
def g17 (d:Tys.data as17):Tys.data rs17:=(f17 d).getD (Tys.dflt rs17)
def p17:PureC:=pcOf as17 rs17 f17 g17

theorem wk17 (x0:Int) (x0':Int) (x0'':Int) (x0''':Int) (x0'''':Int) (x0''''':Bool) (x0'''''':Int) (x0'''''''_:Int) (x0'''''''_':Int):Walks (runPure (kf39 Go.Proofs.Try.prog).orc Go.Proofs.Try.prog 400 17 as17 rs17 ((x0,x0',x0'',x0''',x0'''',x0''''',x0'''''',(x0'''''''_,x0'''''''_',()),()),())) (t17 x0 x0' x0'' x0''' x0'''' x0''''' x0'''''' x0'''''''_ x0'''''''_') [([true,true],[1,1,1,1,1,1,1,1,1,1,1,1,1,1,1,1,1,1,1,1,1,1,1,1,1,1,1,1,1,1,1,1,1,1,1,1,1,1,1,1,1,2,2,2,2,2,2,4]),([true,false,true,true],[1,1,1,1,1,1,1,1,1,1,1,1,1,1,1,1,1,1,1,1,1,1,1,1,1,1,1,1,1,1,1,1,1,1,1,2,2,2,2,2,2,6,6,4,6,6,6,6,8]),([true,false,true,false,true,true],[1,1,1,1,1,1,1,1,1,1,1,1,1,1,1,1,1,1,1,1,1,1,1,1,1,1,1,1,1,2,2,2,2,2,2,6,6,4,6,6,6,6,10,10,8,10,10,10,10,12]),([true,false,true,false,true,false,true,true],[1,1,1,1,1,1,1,1,1,1,1,1,1,1,1,1,1,1,1,1,1,1,1,1,2,2,2,2,2,6,6,4,6,6,6,6,10,10,8,10,10,10,10,14,14,12,14,14,14,14,16]),([true,false,true,false,true,false,true,false,true,true],[1,1,1,1,1,1,1,1,1,1,1,1,1,1,1,1,1,1,1,2,2,2,2,2,6,6,4,6,6,6,10,10,8,10,10,10,10,14,14,12,14,14,14,14,18,18,16,18,18,18,18,20]),([true,false,true,false,true,false,true,false,true,false,true,true],[1,1,1,1,1,1,1,1,1,1,2,2,2,2,2,2,2,2,2,6,6,4,6,6,6,10,10,8,10,10,10,14,14,12,14,14,14,14,18,18,16,18,18,18,18,22,22,20,22,22,22,22,24]),([true,false,true,false,true,false,true,false,true,false,true,false,true,true],[1,2,2,2,2,2,2,2,2,2,6,6,4,6,6,6,6,6,6,6,10,10,8,10,10,10,14,14,12,14,14,14,18,18,16,18,18,18,18,22,22,20,22,22,22,22,26,26,24,26,26,26,26,28]),([true,false,true,false,true,false,true,false,true,false,true,false,true,false,true,true],[2,6,6,4,6,6,6,6,6,6,6,10,10,8,10,10,10,10,10,10,10,14,14,12,14,14,14,18,18,16,18,18,18,22,22,20,22,22,22,22,26,26,24,26,26,26,26,30,30,28,30,30,30,30,32]),([true,false,true,false,true,false,true,false,true,false,true,false,true,false,true,false,true],[2,4,8,8,6,8,8,8,8,8,8,8,12,12,10,12,12,12,12,12,12,12,16,16,14,16,16,16,20,20,18,20,20,20,24,24,22,24,24,24,24,28,28,26,28,28,28,28,32,32,30,32,32,32,32,34]),([true,false,true,false,true,false,true,false,true,false,true,false,true,false,true,false,false,true],[2,4,6,10,10,8,10,10,10,10,10,10,10,14,14,12,14,14,14,14,14,14,14,18,18,16,18,18,18,22,22,20,22,22,22,26,26,24,26,26,26,26,30,30,28,30,30,30,30,34,34,32,34,34,34,34,36]),([true,false,true,false,true,false,true,false,true,false,true,false,true,false,true,false,false,false],[2,4,6,10,10,8,10,10,10,10,10,10,10,14,14,12,14,14,14,14,14,14,14,18,18,16,18,18,18,22,22,20,22,22,22,26,26,24,26,26,26,26,30,30,28,30,30,30,30,34,34,32,34,34,34,34,36])] :=
  ⟨by kernel_rfl,by kernel_rfl,by kernel_rfl,by kernel_rfl,by kernel_rfl,by kernel_rfl,by kernel_rfl,by kernel_rfl,by kernel_rfl,by kernel_rfl,by kernel_rfl,trivial⟩

theorem ok17_t (x0:Int) (x0':Int) (x0'':Int) (x0''':Int) (x0'''':Int) (x0''''':Bool) (x0'''''':Int) (x0'''''''_:Int) (x0'''''''_':Int):TrOk (PureRuns Go.Proofs.Try.prog (kf39 Go.Proofs.Try.prog).orc 17 as17 rs17 ((x0,x0',x0'',x0''',x0'''',x0''''',x0'''''',(x0'''''''_,x0'''''''_',()),()),())) (t17 x0 x0' x0'' x0''' x0'''' x0''''' x0'''''' x0'''''''_ x0'''''''_') :=
  Walks.ok (fun _ _ _=>PureRuns.of) (wk17 x0 x0' x0'' x0''' x0'''' x0''''' x0'''''' x0'''''''_ x0'''''''_') (by kernel_rfl)

theorem ok17:PureOk Go.Proofs.Try.prog 17 p17:=pureOk_of kf39_ok.base (T:=fun (d:Tys.data as17)=>t17 d.1.1 d.1.2.1 d.1.2.2.1 d.1.2.2.2.1 d.1.2.2.2.2.1 d.1.2.2.2.2.2.1 d.1.2.2.2.2.2.2.1 d.1.2.2.2.2.2.2.2.1.1 d.1.2.2.2.2.2.2.2.1.2.1) (by kernel_rfl) (fun (d:Tys.data as17)=>ok17_t d.1.1 d.1.2.1 d.1.2.2.1 d.1.2.2.2.1 d.1.2.2.2.2.1 d.1.2.2.2.2.2.1 d.1.2.2.2.2.2.2.1 d.1.2.2.2.2.2.2.2.1.1 d.1.2.2.2.2.2.2.2.1.2.1)
def kf17 (P:Go.Program):Known:=(kf39 P).func 17 p17
theorem kf17_ok:KnownOk Go.Proofs.Try.prog (kf17 Go.Proofs.Try.prog):=kf39_ok.func ok17

/-! loop 0 of ductility/ductilityref08.ForcesErr -/

abbrev sh27_0:Sh:={ n:=27,slots:=[1,2,5],pats:=[.ty (.slice (.int .i64)),.ptr 0 9 0,.ty (.int .i64)],boxes:=[.row [.ty (.int .i64),.ty (.int .i64),.ty (.int .i64),.ty (.int .i64),.ty (.int .i64),.ty .bool,.ty (.int .i64),.ty (.int .i64),.ty (.int .i64)]] }
abbrev shb27_0:Sh:={ n:=27,slots:=[],pats:=[],boxes:=[.row [.ty (.int .i64),.ty (.int .i64),.ty (.int .i64),.ty (.int .i64),.ty (.int .i64),.ty .bool,.ty (.int .i64),.ty (.int .i64),.ty (.int .i64)]] }
abbrev shr27_0:Sh:={ n:=27,slots:=[4],pats:=[.ty (.int .i64)],boxes:=[.row [.ty (.int .i64),.ty (.int .i64),.ty (.int .i64),.ty (.int .i64),.ty (.int .i64),.ty .bool,.ty (.int .i64),.ty (.int .i64),.ty (.int .i64)]] }

def t27_0 (x0:(List Int)) (x2:Int) (b0_0:Int) (b0_1:Int) (b0_2:Int) (b0_3:Int) (b0_4:Int) (b0_5:Bool) (b0_6:Int) (b0_7:Int) (b0_8:Int):Tr (Out sh27_0.data shb27_0.data shr27_0.data) :=
  Tr.test ((!leF (↑(List.length x0):Int) x2:Bool))
    (Tr.test (decide ((0:Int) ≤ x2) && decide (x2 < (↑(List.length x0):Int)))
      (Tr.test (Option.isSome (f39 ((List.getD x0 (Int.toNat x2) (0:Int):Int),(b0_7,(b0_8,())))))
        (let r0:=g39 ((List.getD x0 (Int.toNat x2) (0:Int):Int),(b0_7,(b0_8,())));
        Tr.test ((!r0.1:Bool))
          (Tr.fin (.ret (((2:Int),()),((b0_0,(b0_1,(b0_2,(b0_3,(b0_4,(b0_5,(b0_6,(b0_7,(b0_8,()))))))))),()))))
          (Tr.fin (.again ((x0,((wrap64 (x2 + (1:Int)):Int),())),((b0_0,(b0_1,(b0_2,(b0_3,(b0_4,(b0_5,(b0_6,(b0_7,(b0_8,()))))))))),())))))
        (Tr.stop))
      (Tr.stop))
    (Tr.fin (.brk ((),((b0_0,(b0_1,(b0_2,(b0_3,(b0_4,(b0_5,(b0_6,(b0_7,(b0_8,()))))))))),()))))

def s27_0 (d:sh27_0.data):Option (Out sh27_0.data shb27_0.data shr27_0.data):=(t27_0 d.1.1 d.1.2.1 d.2.1.1 d.2.1.2.1 d.2.1.2.2.1 d.2.1.2.2.2.1 d.2.1.2.2.2.2.1 d.2.1.2.2.2.2.2.1 d.2.1.2.2.2.2.2.2.1 d.2.1.2.2.2.2.2.2.2.1 d.2.1.2.2.2.2.2.2.2.2.1).val
def l27_0 (d:sh27_0.data):Option (shb27_0.data ⊕ shr27_0.data):=itr s27_0 rounds d
def b27_0 (d:sh27_0.data):shb27_0.data:=outB shb27_0.dflt (l27_0 d)
def r27_0 (d:sh27_0.data):shr27_0.data:=outR shr27_0.dflt (l27_0 d)
def lc27_0:LoopC:=lcOf sh27_0 shb27_0 shr27_0 l27_0 b27_0 r27_0

theorem wk27_0 (x0:(List Int)) (x2:Int) (b0_0:Int) (b0_1:Int) (b0_2:Int) (b0_3:Int) (b0_4:Int) (b0_5:Bool) (b0_6:Int) (b0_7:Int) (b0_8:Int):Walks (runBody (kf17 Go.Proofs.Try.prog).orc Go.Proofs.Try.prog 400 27 0 sh27_0 shb27_0 shr27_0 ((x0,x2,()),(b0_0,b0_1,b0_2,b0_3,b0_4,b0_5,b0_6,b0_7,b0_8,()),())) (t27_0 x0 x2 b0_0 b0_1 b0_2 b0_3 b0_4 b0_5 b0_6 b0_7 b0_8) [([true,true,true,true],[2,4,6,8]),([true,true,true,false],[2,4,6,8]),([ff],[2])] :=
  ⟨by kernel_rfl,by kernel_rfl,by kernel_rfl,trivial⟩

theorem ok27_0_t (x0:(List Int)) (x2:Int) (b0_0:Int) (b0_1:Int) (b0_2:Int) (b0_3:Int) (b0_4:Int) (b0_5:Bool) (b0_6:Int) (b0_7:Int) (b0_8:Int):TrOk (BodyRuns Go.Proofs.Try.prog (kf17 Go.Proofs.Try.prog).orc 27 0 sh27_0 shb27_0 shr27_0 ((x0,x2,()),(b0_0,b0_1,b0_2,b0_3,b0_4,b0_5,b0_6,b0_7,b0_8,()),())) (t27_0 x0 x2 b0_0 b0_1 b0_2 b0_3 b0_4 b0_5 b0_6 b0_7 b0_8) :=
  Walks.ok (fun _ _ _=>BodyRuns.of) (wk27_0 x0 x2 b0_0 b0_1 b0_2 b0_3 b0_4 b0_5 b0_6 b0_7 b0_8) (by kernel_rfl)

theorem ok27_0:LoopOk Go.Proofs.Try.prog 27 0 lc27_0:=loopOk_of (sh:=sh27_0) (shB:=shb27_0) (shR:=shr27_0) kf17_ok.base (T:=fun (d:sh27_0.data)=>t27_0 d.1.1 d.1.2.1 d.2.1.1 d.2.1.2.1 d.2.1.2.2.1 d.2.1.2.2.2.1 d.2.1.2.2.2.2.1 d.2.1.2.2.2.2.2.1 d.2.1.2.2.2.2.2.2.1 d.2.1.2.2.2.2.2.2.2.1 d.2.1.2.2.2.2.2.2.2.2.1) (by kernel_rfl) rfl (fun (d:sh27_0.data)=>ok27_0_t d.1.1 d.1.2.1 d.2.1.1 d.2.1.2.1 d.2.1.2.2.1 d.2.1.2.2.2.1 d.2.1.2.2.2.2.1 d.2.1.2.2.2.2.2.1 d.2.1.2.2.2.2.2.2.1 d.2.1.2.2.2.2.2.2.2.1 d.2.1.2.2.2.2.2.2.2.2.1) (fun _=>rfl)
def kl27_0 (P:Go.Program):Known:=(kf17 P).loop 27 0 lc27_0
theorem kl27_0_ok:KnownOk Go.Proofs.Try.prog (kl27_0 Go.Proofs.Try.prog):=kf17_ok.loop ok27_0

/-! ductility/ductilityref08.ForcesErr -/

abbrev as27:List Ty:=[(.pair (.int .i64) (.pair (.int .i64) (.pair (.int .i64) (.pair (.int .i64) (.pair (.int .i64) (.pair .bool (.pair (.int .i64) (.pair (.pair (.int .i64) (.pair (.int .i64) .unit)) .unit)))))))),(.slice (.int .i64))]
abbrev rs27:List Ty:=[(.int .i64)]

def t27 (x0:Int) (x0':Int) (x0'':Int) (x0''':Int) (x0'''':Int) (x0''''':Bool) (x0'''''':Int) (x0'''''''_:Int) (x0'''''''_':Int) (x1:(List Int)):Tr (Tys.data rs27) :=
  Tr.test ((!leF (↑(List.length x1):Int) (60:Int):Bool))
    (Tr.fin (((8:Int),())))
    (Tr.test (Option.isSome (l27_0 ((x1,((0:Int),())),((x0,(x0',(x0'',(x0''',(x0'''',(x0''''',(x0'''''',(x0'''''''_,(x0'''''''_',()))))))))),()))))
      (Tr.test (isRet (l27_0 ((x1,((0:Int),())),((x0,(x0',(x0'',(x0''',(x0'''',(x0''''',(x0'''''',(x0'''''''_,(x0'''''''_',()))))))))),()))))
        (let r0:=r27_0 ((x1,((0:Int),())),((x0,(x0',(x0'',(x0''',(x0'''',(x0''''',(x0'''''',(x0'''''''_,(x0'''''''_',()))))))))),()));
        Tr.fin ((r0.1.1,())))
        (Tr.fin (((0:Int),()))))
      (Tr.stop))

def f27 (d:Tys.data as27):Option (Tys.data rs27):=(t27 d.1.1 d.1.2.1 d.1.2.2.1 d.1.2.2.2.1 d.1.2.2.2.2.1 d.1.2.2.2.2.2.1 d.1.2.2.2.2.2.2.1 d.1.2.2.2.2.2.2.2.1.1 d.1.2.2.2.2.2.2.2.1.2.1 d.2.1).val
def g27 (d:Tys.data as27):Tys.data rs27:=(f27 d).getD (Tys.dflt rs27)
def p27:PureC:=pcOf as27 rs27 f27 g27

theorem wk27 (x0:Int) (x0':Int) (x0'':Int) (x0''':Int) (x0'''':Int) (x0''''':Bool) (x0'''''':Int) (x0'''''''_:Int) (x0'''''''_':Int) (x1:(List Int)):Walks (runPure (kl27_0 Go.Proofs.Try.prog).orc Go.Proofs.Try.prog 400 27 as27 rs27 ((x0,x0',x0'',x0''',x0'''',x0''''',x0'''''',(x0'''''''_,x0'''''''_',()),()),x1,())) (t27 x0 x0' x0'' x0''' x0'''' x0''''' x0'''''' x0'''''''_ x0'''''''_' x1) [([tt],[2]),([false,true,true],[2,4,6]),([false,true,false],[2,4,6])] :=
  ⟨by kernel_rfl,by kernel_rfl,by kernel_rfl,trivial⟩

theorem ok27_t (x0:Int) (x0':Int) (x0'':Int) (x0''':Int) (x0'''':Int) (x0''''':Bool) (x0'''''':Int) (x0'''''''_:Int) (x0'''''''_':Int) (x1:(List Int)):TrOk (PureRuns Go.Proofs.Try.prog (kl27_0 Go.Proofs.Try.prog).orc 27 as27 rs27 ((x0,x0',x0'',x0''',x0'''',x0''''',x0'''''',(x0'''''''_,x0'''''''_',()),()),x1,())) (t27 x0 x0' x0'' x0''' x0'''' x0''''' x0'''''' x0'''''''_ x0'''''''_' x1) :=
  Walks.ok (fun _ _ _=>PureRuns.of) (wk27 x0 x0' x0'' x0''' x0'''' x0''''' x0'''''' x0'''''''_ x0'''''''_' x1) (by kernel_rfl)

theorem ok27:PureOk Go.Proofs.Try.prog 27 p27:=pureOk_of kl27_0_ok.base (T:=fun (d:Tys.data as27)=>t27 d.1.1 d.1.2.1 d.1.2.2.1 d.1.2.2.2.1 d.1.2.2.2.2.1 d.1.2.2.2.2.2.1 d.1.2.2.2.2.2.2.1 d.1.2.2.2.2.2.2.2.1.1 d.1.2.2.2.2.2.2.2.1.2.1 d.2.1) (by kernel_rfl) (fun (d:Tys.data as27)=>ok27_t d.1.1 d.1.2.1 d.1.2.2.1 d.1.2.2.2.1 d.1.2.2.2.2.1 d.1.2.2.2.2.2.1 d.1.2.2.2.2.2.2.1 d.1.2.2.2.2.2.2.2.1.1 d.1.2.2.2.2.2.2.2.1.2.1 d.2.1)
def kf27 (P:Go.Program):Known:=(kl27_0 P).func 27 p27
theorem kf27_ok:KnownOk Go.Proofs.Try.prog (kf27 Go.Proofs.Try.prog):=kl27_0_ok.func ok27

/-! ductility/ductilityref08.OffErr -/

abbrev as29:List Ty:=[(.int .i64)]
abbrev rs29:List Ty:=[(.int .i64)]

def t29 (x0:Int):Tr (Tys.data rs29) :=
  Tr.test (Option.isSome (f39 (x0,((0:Int),((1000:Int),())))))
    (let r0:=g39 (x0,((0:Int),((1000:Int),())));
    Tr.test ((!r0.1:Bool))
      (Tr.fin (((2:Int),())))
      (Tr.fin (((0:Int),()))))
    (Tr.stop)

def f29 (d:Tys.data as29):Option (Tys.data rs29):=(t29 d.1).val
def g29 (d:Tys.data as29):Tys.data rs29:=(f29 d).getD (Tys.dflt rs29)
def p29:PureC:=pcOf as29 rs29 f29 g29

theorem wk29 (x0:Int):Walks (runPure (kf27 Go.Proofs.Try.prog).orc Go.Proofs.Try.prog 400 29 as29 rs29 (x0,())) (t29 x0) [([true,true],[2,4]),([true,false],[2,4])] :=
  ⟨by kernel_rfl,by kernel_rfl,trivial⟩

theorem ok29_t (x0:Int):TrOk (PureRuns Go.Proofs.Try.prog (kf27 Go.Proofs.Try.prog).orc 29 as29 rs29 (x0,())) (t29 x0) :=
  Walks.ok (fun _ _ _=>PureRuns.of) (wk29 x0) (by kernel_rfl)

theorem ok29:PureOk Go.Proofs.Try.prog 29 p29:=pureOk_of kf27_ok.base (T:=fun (d:Tys.data as29)=>t29 d.1) (by kernel_rfl) (fun (d:Tys.data as29)=>ok29_t d.1)
def kf29 (P:Go.Program):Known:=(kf27 P).func 29 p29
theorem kf29_ok:KnownOk Go.Proofs.Try.prog (kf29 Go.Proofs.Try.prog):=kf27_ok.func ok29

/-! ductility/ductilitybase.CopyInts -/

abbrev as12:List Ty:=[(.slice (.int .i64))]
abbrev rs12:List Ty:=[(.slice (.int .i64))]

def t12 (x0:(List Int)):Tr (Tys.data rs12) :=
  Tr.test ((Nat.beq (List.length x0) (0:Nat):Bool))
    (Tr.fin ((([]:List Int),())))
    (Tr.test (Nat.ble ((0:Nat) + List.length x0) (0:Nat))
      (Tr.stop)
      (Tr.test ((Nat.ble (((2:Nat) * ((0:Nat) + List.length x0) + (192:Nat)) * (8:Nat)) (281474976710656:Nat) && Nat.ble ((0:Nat) + List.length x0) (281474976710656:Nat):Bool))
        (Tr.test ((Nat.beq ((0:Nat) + List.length x0) (List.length ([]++x0)):Bool))
          (Tr.fin ((([]++x0:List Int),())))
          (Tr.stop))
        (Tr.stop)))

def f12 (d:Tys.data as12):Option (Tys.data rs12):=(t12 d.1).val
def g12 (d:Tys.data as12):Tys.data rs12:=(f12 d).getD (Tys.dflt rs12)
def p12:PureC:=pcOf as12 rs12 f12 g12

theorem wk12 (x0:(List Int)):Walks (runPure (kf29 Go.Proofs.Try.prog).orc Go.Proofs.Try.prog 400 12 as12 rs12 (x0,())) (t12 x0) [([tt],[2]),([false,false,true,true],[2,4,6,8])] :=
  ⟨by kernel_rfl,by kernel_rfl,trivial⟩

theorem ok12_t (x0:(List Int)):TrOk (PureRuns Go.Proofs.Try.prog (kf29 Go.Proofs.Try.prog).orc 12 as12 rs12 (x0,())) (t12 x0) :=
  Walks.ok (fun _ _ _=>PureRuns.of) (wk12 x0) (by kernel_rfl)

theorem ok12:PureOk Go.Proofs.Try.prog 12 p12:=pureOk_of kf29_ok.base (T:=fun (d:Tys.data as12)=>t12 d.1) (by kernel_rfl) (fun (d:Tys.data as12)=>ok12_t d.1)
def kf12 (P:Go.Program):Known:=(kf29 P).func 12 p12
theorem kf12_ok:KnownOk Go.Proofs.Try.prog (kf12 Go.Proofs.Try.prog):=kf29_ok.func ok12

/-! ductility/hybrid.isBeyond -/

abbrev as58:List Ty:=[(.int .i64),(.slice (.int .i64))]
abbrev rs58:List Ty:=[.bool]

def t58 (x0:Int) (x1:(List Int)):Tr (Tys.data rs58) :=
  Tr.test (Option.isSome (f57 ((Go.IntKind.wrap Go.IntKind.i64 ((0:Int) - x0):Int),(x0,(x1,())))))
    (let r0:=g57 ((Go.IntKind.wrap Go.IntKind.i64 ((0:Int) - x0):Int),(x0,(x1,())));
    Tr.fin (((!r0.1:Bool),())))
    (Tr.stop)

def f58 (d:Tys.data as58):Option (Tys.data rs58):=(t58 d.1 d.2.1).val
def g58 (d:Tys.data as58):Tys.data rs58:=(f58 d).getD (Tys.dflt rs58)
def p58:PureC:=pcOf as58 rs58 f58 g58

theorem wk58 (x0:Int) (x1:(List Int)):Walks (runPure (kf12 Go.Proofs.Try.prog).orc Go.Proofs.Try.prog 400 58 as58 rs58 (x0,x1,())) (t58 x0 x1) [([tt],[2])] :=
  ⟨by kernel_rfl,trivial⟩

theorem ok58_t (x0:Int) (x1:(List Int)):TrOk (PureRuns Go.Proofs.Try.prog (kf12 Go.Proofs.Try.prog).orc 58 as58 rs58 (x0,x1,())) (t58 x0 x1) :=
  Walks.ok (fun _ _ _=>PureRuns.of) (wk58 x0 x1) (by kernel_rfl)

theorem ok58:PureOk Go.Proofs.Try.prog 58 p58:=pureOk_of kf12_ok.base (T:=fun (d:Tys.data as58)=>t58 d.1 d.2.1) (by kernel_rfl) (fun (d:Tys.data as58)=>ok58_t d.1 d.2.1)
def kf58 (P:Go.Program):Known:=(kf12 P).func 58 p58
theorem kf58_ok:KnownOk Go.Proofs.Try.prog (kf58 Go.Proofs.Try.prog):=kf12_ok.func ok58

/-! ductility/hybrid.CheckTest -/

abbrev as10:List Ty:=[(.pair (.int .i64) (.pair (.int .i64) (.pair (.int .i64) (.pair (.int .i64) (.pair (.int .i64) (.pair .bool (.pair (.int .i64) (.pair (.pair (.int .i64) (.pair (.int .i64) .unit)) .unit))))))))]
abbrev rs10:List Ty:=[(.int .i64)]

def t10 (x0:Int) (x0':Int) (x0'':Int) (x0''':Int) (x0'''':Int) (x0''''':Bool) (x0'''''':Int) (x0'''''''_:Int) (x0'''''''_':Int):Tr (Tys.data rs10) :=
  Tr.test (Option.isSome (f57 ((1:Int),((1000:Int),(([x0]:List Int),())))))
    (let r0:=g57 ((1:Int),((1000:Int),(([x0]:List Int),())));
    Tr.test (r0.1)
      (Tr.test (Option.isSome (f57 ((0:Int),((1000:Int),(([x0',x0'',x0''']:List Int),())))))
        (let r1:=g57 ((0:Int),((1000:Int),(([x0',x0'',x0''']:List Int),())));
        Tr.test (r1.1)
          (Tr.test (Option.isSome (f57 ((0:Int),((2:Int),(([x0'''']:List Int),())))))
            (let r2:=g57 ((0:Int),((2:Int),(([x0'''']:List Int),())));
            Tr.test (r2.1)
              (Tr.test (Option.isSome (f57 ((0:Int),((3:Int),(([x0'''''']:List Int),())))))
                (let r3:=g57 ((0:Int),((3:Int),(([x0'''''']:List Int),())));
                Tr.test (r3.1)
                  (Tr.test (Option.isSome (f58 ((1000:Int),(([x0'''''''_,x0'''''''_']:List Int),()))))
                    (let r4:=g58 ((1000:Int),(([x0'''''''_,x0'''''''_']:List Int),()));
                    Tr.test (Option.isSome (f60 ((!!r4.1:Bool),((2:Int),()))))
                      (Tr.test (Option.isSome (f60 ((!leF x0'''''''_ x0'''''''_':Bool),((9:Int),()))))
                        (Tr.test (Option.isSome (f60 ((!leF (wrap64 (wrap64 (x0'''''''_' - x0'''''''_) + (1:Int))) (9:Int):Bool),((8:Int),()))))
                          (let r5:=g60 ((!!r4.1:Bool),((2:Int),()));
                          let r6:=g60 ((!leF x0'''''''_ x0'''''''_':Bool),((9:Int),()));
                          let r7:=g60 ((!leF (wrap64 (wrap64 (x0'''''''_' - x0'''''''_) + (1:Int))) (9:Int):Bool),((8:Int),()));
                          Tr.test (Option.isSome (f59 (([r5.1,r6.1,r7.1]:List Int),())))
                            (let r8:=g59 (([r5.1,r6.1,r7.1]:List Int),());
                            Tr.fin ((r8.1,())))
                            (Tr.stop))
                          (Tr.stop))
                        (Tr.stop))
                      (Tr.stop))
                    (Tr.stop))
                  (Tr.test (Option.isSome (f60 ((true:Bool),((2:Int),()))))
                    (Tr.test (Option.isSome (f60 ((!leF x0'''''''_ x0'''''''_':Bool),((9:Int),()))))
                      (Tr.test (Option.isSome (f60 ((!leF (wrap64 (wrap64 (x0'''''''_' - x0'''''''_) + (1:Int))) (9:Int):Bool),((8:Int),()))))
                        (let r6:=g60 ((!leF x0'''''''_ x0'''''''_':Bool),((9:Int),()));
                        let r7:=g60 ((!leF (wrap64 (wrap64 (x0'''''''_' - x0'''''''_) + (1:Int))) (9:Int):Bool),((8:Int),()));
                        let r9:=g60 ((true:Bool),((2:Int),()));
                        Tr.test (Option.isSome (f59 (([r9.1,r6.1,r7.1]:List Int),())))
                          (let r10:=g59 (([r9.1,r6.1,r7.1]:List Int),());
                          Tr.fin ((r10.1,())))
                          (Tr.stop))
                        (Tr.stop))
                      (Tr.stop))
                    (Tr.stop)))
                (Tr.stop))
              (Tr.test (Option.isSome (f60 ((true:Bool),((2:Int),()))))
                (Tr.test (Option.isSome (f60 ((!leF x0'''''''_ x0'''''''_':Bool),((9:Int),()))))
                  (Tr.test (Option.isSome (f60 ((!leF (wrap64 (wrap64 (x0'''''''_' - x0'''''''_) + (1:Int))) (9:Int):Bool),((8:Int),()))))
                    (let r6:=g60 ((!leF x0'''''''_ x0'''''''_':Bool),((9:Int),()));
                    let r7:=g60 ((!leF (wrap64 (wrap64 (x0'''''''_' - x0'''''''_) + (1:Int))) (9:Int):Bool),((8:Int),()));
                    let r9:=g60 ((true:Bool),((2:Int),()));
                    Tr.test (Option.isSome (f59 (([r9.1,r6.1,r7.1]:List Int),())))
                      (let r10:=g59 (([r9.1,r6.1,r7.1]:List Int),());
                      Tr.fin ((r10.1,())))
                      (Tr.stop))
                    (Tr.stop))
                  (Tr.stop))
                (Tr.stop)))
            (Tr.stop))
          (Tr.test (Option.isSome (f60 ((true:Bool),((2:Int),()))))
            (Tr.test (Option.isSome (f60 ((!leF x0'''''''_ x0'''''''_':Bool),((9:Int),()))))
              (Tr.test (Option.isSome (f60 ((!leF (wrap64 (wrap64 (x0'''''''_' - x0'''''''_) + (1:Int))) (9:Int):Bool),((8:Int),()))))
                (let r6:=g60 ((!leF x0'''''''_ x0'''''''_':Bool),((9:Int),()));
                let r7:=g60 ((!leF (wrap64 (wrap64 (x0'''''''_' - x0'''''''_) + (1:Int))) (9:Int):Bool),((8:Int),()));
                let r9:=g60 ((true:Bool),((2:Int),()));
                Tr.test (Option.isSome (f59 (([r9.1,r6.1,r7.1]:List Int),())))
                  (let r10:=g59 (([r9.1,r6.1,r7.1]:List Int),());
                  Tr.fin ((r10.1,())))
                  (Tr.stop))
                (Tr.stop))
              (Tr.stop))
            (Tr.stop)))
        (Tr.stop))
      (Tr.test (Option.isSome (f60 ((true:Bool),((2:Int),()))))
        (Tr.test (Option.isSome (f60 ((!leF x0'''''''_ x0'''''''_':Bool),((9:Int),()))))
          (Tr.test (Option.isSome (f60 ((!leF (wrap64 (wrap64 (x0'''''''_' - x0'''''''_) + (1:Int))) (9:Int):Bool),((8:Int),()))))
            (let r6:=g60 ((!leF x0'''''''_ x0'''''''_':Bool),((9:Int),()));
            let r7:=g60 ((!leF (wrap64 (wrap64 (x0'''''''_' - x0'''''''_) + (1:Int))) (9:Int):Bool),((8:Int),()));
            let r9:=g60 ((true:Bool),((2:Int),()));
            Tr.test (Option.isSome (f59 (([r9.1,r6.1,r7.1]:List Int),())))
              (let r10:=g59 (([r9.1,r6.1,r7.1]:List Int),());
              Tr.fin ((r10.1,())))
              (Tr.stop))
            (Tr.stop))
          (Tr.stop))
        (Tr.stop)))
    (Tr.stop)

def f10 (d:Tys.data as10):Option (Tys.data rs10):=(t10 d.1.1 d.1.2.1 d.1.2.2.1 d.1.2.2.2.1 d.1.2.2.2.2.1 d.1.2.2.2.2.2.1 d.1.2.2.2.2.2.2.1 d.1.2.2.2.2.2.2.2.1.1 d.1.2.2.2.2.2.2.2.1.2.1).val
def g10 (d:Tys.data as10):Tys.data rs10:=(f10 d).getD (Tys.dflt rs10)
def p10:PureC:=pcOf as10 rs10 f10 g10

theorem wk10 (x0:Int) (x0':Int) (x0'':Int) (x0''':Int) (x0'''':Int) (x0''''':Bool) (x0'''''':Int) (x0'''''''_:Int) (x0'''''''_':Int):Walks (runPure (kf58 Go.Proofs.Try.prog).orc Go.Proofs.Try.prog 400 10 as10 rs10 ((x0,x0',x0'',x0''',x0'''',x0''''',x0'''''',(x0'''''''_,x0'''''''_',()),()),())) (t10 x0 x0' x0'' x0''' x0'''' x0''''' x0'''''' x0'''''''_ x0'''''''_') [([true,true,true,true,true,true,true,true,true,true,true,true,true],[2,4,6,8,12,12,10,12,12,12,12,12,12,12,12,16,14,16,16,16,16,20,18,20,20,20,20,24,22,24,24,24,24,24,24,24,24,26]),([true,true,true,true,true,true,true,false,true,true,true,true],[2,4,6,8,10,10,10,10,10,10,10,10,10,10,14,12,14,14,14,14,18,16,18,18,18,18,22,20,22,22,22,22,22,22,22,22,24]),([true,true,true,true,true,false,true,true,true,true],[2,4,6,8,0,0,0,0,0,0,0,0,0,0,10,10,10,10,10,14,12,14,14,14,14,18,16,18,18,18,18,18,18,18,18,20]),([true,true,true,false,true,true,true,true],[2,4,6,8,0,0,0,0,0,0,0,0,0,0,0,0,0,0,0,10,10,10,10,10,14,12,14,14,14,14,14,14,14,14,16]),([true,false,true,true,true,true],[2,4,6,8,0,0,0,0,0,0,0,0,0,0,0,0,0,0,0,0,0,0,0,0,10,10,10,10,10,10,10,10,10,12])] :=
  ⟨by kernel_rfl,by kernel_rfl,by kernel_rfl,by kernel_rfl,by kernel_rfl,trivial⟩

theorem ok10_t (x0:Int) (x0':Int) (x0'':Int) (x0''':Int) (x0'''':Int) (x0''''':Bool) (x0'''''':Int) (x0'''''''_:Int) (x0'''''''_':Int):TrOk (PureRuns Go.Proofs.Try.prog (kf58 Go.Proofs.Try.prog).orc 10 as10 rs10 ((x0,x0',x0'',x0''',x0'''',x0''''',x0'''''',(x0'''''''_,x0'''''''_',()),()),())) (t10 x0 x0' x0'' x0''' x0'''' x0''''' x0'''''' x0'''''''_ x0'''''''_') :=
  Walks.ok (fun _ _ _=>PureRuns.of) (wk10 x0 x0' x0'' x0''' x0'''' x0''''' x0'''''' x0'''''''_ x0'''''''_') (by kernel_rfl)

theorem ok10:PureOk Go.Proofs.Try.prog 10 p10:=pureOk_of kf58_ok.base (T:=fun (d:Tys.data as10)=>t10 d.1.1 d.1.2.1 d.1.2.2.1 d.1.2.2.2.1 d.1.2.2.2.2.1 d.1.2.2.2.2.2.1 d.1.2.2.2.2.2.2.1 d.1.2.2.2.2.2.2.2.1.1 d.1.2.2.2.2.2.2.2.1.2.1) (by kernel_rfl) (fun (d:Tys.data as10)=>ok10_t d.1.1 d.1.2.1 d.1.2.2.1 d.1.2.2.2.1 d.1.2.2.2.2.1 d.1.2.2.2.2.2.1 d.1.2.2.2.2.2.2.1 d.1.2.2.2.2.2.2.2.1.1 d.1.2.2.2.2.2.2.2.1.2.1)
def kf10 (P:Go.Program):Known:=(kf58 P).func 10 p10
theorem kf10_ok:KnownOk Go.Proofs.Try.prog (kf10 Go.Proofs.Try.prog):=kf58_ok.func ok10

/-! ductility/hybrid.testOf -/

abbrev as61:List Ty:=[(.pair (.int .i64) (.pair (.int .i64) (.pair (.int .i64) (.pair (.int .i64) (.pair (.int .i64) (.pair .bool (.pair (.int .i64) (.pair (.pair (.int .i64) (.pair (.int .i64) .unit)) .unit))))))))]
abbrev rs61:List Ty:=[(.pair (.pair (.int .i64) (.pair (.int .i64) (.pair (.int .i64) (.pair (.int .i64) (.pair (.int .i64) (.pair .bool (.pair (.int .i64) (.pair (.pair (.int .i64) (.pair (.int .i64) .unit)) .unit)))))))) .unit),(.int .i64)]

def t61 (x0:Int) (x0':Int) (x0'':Int) (x0''':Int) (x0'''':Int) (x0''''':Bool) (x0'''''':Int) (x0'''''''_:Int) (x0'''''''_':Int):Tr (Tys.data rs61) :=
  Tr.test (Option.isSome (f10 ((x0,(x0',(x0'',(x0''',(x0'''',(x0''''',(x0'''''',((x0'''''''_,(x0'''''''_',())),())))))))),())))
    (let r0:=g10 ((x0,(x0',(x0'',(x0''',(x0'''',(x0''''',(x0'''''',((x0'''''''_,(x0'''''''_',())),())))))))),());
    Tr.test ((!eqF r0.1 0:Bool))
      (Tr.fin (((((0:Int),((0:Int),((0:Int),((0:Int),((0:Int),((false:Bool),((0:Int),(((0:Int),((0:Int),())),())))))))),()),(r0.1,()))))
      (Tr.fin ((((x0,(x0',(x0'',(x0''',(x0'''',(x0''''',(x0'''''',((x0'''''''_,(x0'''''''_',())),())))))))),()),((0:Int),())))))
    (Tr.stop)

def f61 (d:Tys.data as61):Option (Tys.data rs61):=(t61 d.1.1 d.1.2.1 d.1.2.2.1 d.1.2.2.2.1 d.1.2.2.2.2.1 d.1.2.2.2.2.2.1 d.1.2.2.2.2.2.2.1 d.1.2.2.2.2.2.2.2.1.1 d.1.2.2.2.2.2.2.2.1.2.1).val
def g61 (d:Tys.data as61):Tys.data rs61:=(f61 d).getD (Tys.dflt rs61)
def p61:PureC:=pcOf as61 rs61 f61 g61

theorem wk61 (x0:Int) (x0':Int) (x0'':Int) (x0''':Int) (x0'''':Int) (x0''''':Bool) (x0'''''':Int) (x0'''''''_:Int) (x0'''''''_':Int):Walks (runPure (kf10 Go.Proofs.Try.prog).orc Go.Proofs.Try.prog 400 61 as61 rs61 ((x0,x0',x0'',x0''',x0'''',x0''''',x0'''''',(x0'''''''_,x0'''''''_',()),()),())) (t61 x0 x0' x0'' x0''' x0'''' x0''''' x0'''''' x0'''''''_ x0'''''''_') [([true,true],[2,4]),([true,false],[2,4])] :=
  ⟨by kernel_rfl,by kernel_rfl,trivial⟩

theorem ok61_t (x0:Int) (x0':Int) (x0'':Int) (x0''':Int) (x0'''':Int) (x0''''':Bool) (x0'''''':Int) (x0'''''''_:Int) (x0'''''''_':Int):TrOk (PureRuns Go.Proofs.Try.prog (kf10 Go.Proofs.Try.prog).orc 61 as61 rs61 ((x0,x0',x0'',x0''',x0'''',x0''''',x0'''''',(x0'''''''_,x0'''''''_',()),()),())) (t61 x0 x0' x0'' x0''' x0'''' x0''''' x0'''''' x0'''''''_ x0'''''''_') :=
  Walks.ok (fun _ _ _=>PureRuns.of) (wk61 x0 x0' x0'' x0''' x0'''' x0''''' x0'''''' x0'''''''_ x0'''''''_') (by kernel_rfl)

theorem ok61:PureOk Go.Proofs.Try.prog 61 p61:=pureOk_of kf10_ok.base (T:=fun (d:Tys.data as61)=>t61 d.1.1 d.1.2.1 d.1.2.2.1 d.1.2.2.2.1 d.1.2.2.2.2.1 d.1.2.2.2.2.2.1 d.1.2.2.2.2.2.2.1 d.1.2.2.2.2.2.2.2.1.1 d.1.2.2.2.2.2.2.2.1.2.1) (by kernel_rfl) (fun (d:Tys.data as61)=>ok61_t d.1.1 d.1.2.1 d.1.2.2.1 d.1.2.2.2.1 d.1.2.2.2.2.1 d.1.2.2.2.2.2.1 d.1.2.2.2.2.2.2.1 d.1.2.2.2.2.2.2.2.1.1 d.1.2.2.2.2.2.2.2.1.2.1)
def kf61 (P:Go.Program):Known:=(kf10 P).func 61 p61
theorem kf61_ok:KnownOk Go.Proofs.Try.prog (kf61 Go.Proofs.Try.prog):=kf10_ok.func ok61

/-! (ductility/hybrid.test).forcesError -/

abbrev as71:List Ty:=[(.pair (.pair (.int .i64) (.pair (.int .i64) (.pair (.int .i64) (.pair (.int .i64) (.pair (.int .i64) (.pair .bool (.pair (.int .i64) (.pair (.pair (.int .i64) (.pair (.int .i64) .unit)) .unit)))))))) .unit),(.slice (.int .i64))]
abbrev rs71:List Ty:=[(.int .i64)]

def t71 (x0_:Int) (x0_':Int) (x0_'':Int) (x0_''':Int) (x0_'''':Int) (x0_''''':Bool) (x0_'''''':Int) (x0_'''''''_:Int) (x0_'''''''_':Int) (x1:(List Int)):Tr (Tys.data rs71) :=
  Tr.test (Option.isSome (f60 ((!leF (↑(List.length x1):Int) (60:Int):Bool),((8:Int),()))))
    (Tr.test (Option.isSome (f57 (x0_'''''''_,(x0_'''''''_',(x1,())))))
      (let r1:=g57 (x0_'''''''_,(x0_'''''''_',(x1,())));
      Tr.test (Option.isSome (f60 ((!r1.1:Bool),((2:Int),()))))
        (let r0:=g60 ((!leF (↑(List.length x1):Int) (60:Int):Bool),((8:Int),()));
        let r2:=g60 ((!r1.1:Bool),((2:Int),()));
        Tr.test (Option.isSome (f59 (([r0.1,r2.1]:List Int),())))
          (let r3:=g59 (([r0.1,r2.1]:List Int),());
          Tr.fin ((r3.1,())))
          (Tr.stop))
        (Tr.stop))
      (Tr.stop))
    (Tr.stop)

def f71 (d:Tys.data as71):Option (Tys.data rs71):=(t71 d.1.1.1 d.1.1.2.1 d.1.1.2.2.1 d.1.1.2.2.2.1 d.1.1.2.2.2.2.1 d.1.1.2.2.2.2.2.1 d.1.1.2.2.2.2.2.2.1 d.1.1.2.2.2.2.2.2.2.1.1 d.1.1.2.2.2.2.2.2.2.1.2.1 d.2.1).val
def g71 (d:Tys.data as71):Tys.data rs71:=(f71 d).getD (Tys.dflt rs71)
def p71:PureC:=pcOf as71 rs71 f71 g71

theorem wk71 (x0_:Int) (x0_':Int) (x0_'':Int) (x0_''':Int) (x0_'''':Int) (x0_''''':Bool) (x0_'''''':Int) (x0_'''''''_:Int) (x0_'''''''_':Int) (x1:(List Int)):Walks (runPure (kf61 Go.Proofs.Try.prog).orc Go.Proofs.Try.prog 400 71 as71 rs71 (((x0_,x0_',x0_'',x0_''',x0_'''',x0_''''',x0_'''''',(x0_'''''''_,x0_'''''''_',()),()),()),x1,())) (t71 x0_ x0_' x0_'' x0_''' x0_'''' x0_''''' x0_'''''' x0_'''''''_ x0_'''''''_' x1) [([true,true,true,true],[2,4,6,8])] :=
  ⟨by kernel_rfl,trivial⟩

theorem ok71_t (x0_:Int) (x0_':Int) (x0_'':Int) (x0_''':Int) (x0_'''':Int) (x0_''''':Bool) (x0_'''''':Int) (x0_'''''''_:Int) (x0_'''''''_':Int) (x1:(List Int)):TrOk (PureRuns Go.Proofs.Try.prog (kf61 Go.Proofs.Try.prog).orc 71 as71 rs71 (((x0_,x0_',x0_'',x0_''',x0_'''',x0_''''',x0_'''''',(x0_'''''''_,x0_'''''''_',()),()),()),x1,())) (t71 x0_ x0_' x0_'' x0_''' x0_'''' x0_''''' x0_'''''' x0_'''''''_ x0_'''''''_' x1) :=
  Walks.ok (fun _ _ _=>PureRuns.of) (wk71 x0_ x0_' x0_'' x0_''' x0_'''' x0_''''' x0_'''''' x0_'''''''_ x0_'''''''_' x1) (by kernel_rfl)

theorem ok71:PureOk Go.Proofs.Try.prog 71 p71:=pureOk_of kf61_ok.base (T:=fun (d:Tys.data as71)=>t71 d.1.1.1 d.1.1.2.1 d.1.1.2.2.1 d.1.1.2.2.2.1 d.1.1.2.2.2.2.1 d.1.1.2.2.2.2.2.1 d.1.1.2.2.2.2.2.2.1 d.1.1.2.2.2.2.2.2.2.1.1 d.1.1.2.2.2.2.2.2.2.1.2.1 d.2.1) (by kernel_rfl) (fun (d:Tys.data as71)=>ok71_t d.1.1.1 d.1.1.2.1 d.1.1.2.2.1 d.1.1.2.2.2.1 d.1.1.2.2.2.2.1 d.1.1.2.2.2.2.2.1 d.1.1.2.2.2.2.2.2.1 d.1.1.2.2.2.2.2.2.2.1.1 d.1.1.2.2.2.2.2.2.2.1.2.1 d.2.1)
def kf71 (P:Go.Program):Known:=(kf61 P).func 71 p71
theorem kf71_ok:KnownOk Go.Proofs.Try.prog (kf71 Go.Proofs.Try.prog):=kf61_ok.func ok71

/-! (ductility/hybrid.test).asDisplaced -/

abbrev as93:List Ty:=[(.pair (.pair (.int .i64) (.pair (.int .i64) (.pair (.int .i64) (.pair (.int .i64) (.pair (.int .i64) (.pair .bool (.pair (.int .i64) (.pair (.pair (.int .i64) (.pair (.int .i64) .unit)) .unit)))))))) .unit),(.int .i64),(.int .i64)]
abbrev rs93:List Ty:=[(.int .i64)]

def t93 (x0_:Int) (x0_':Int) (x0_'':Int) (x0_''':Int) (x0_'''':Int) (x0_''''':Bool) (x0_'''''':Int) (x0_'''''''_:Int) (x0_'''''''_':Int) (x1:Int) (x2:Int):Tr (Tys.data rs93) :=
  Tr.fin ((x1,()))

def f93 (d:Tys.data as93):Option (Tys.data rs93):=(t93 d.1.1.1 d.1.1.2.1 d.1.1.2.2.1 d.1.1.2.2.2.1 d.1.1.2.2.2.2.1 d.1.1.2.2.2.2.2.1 d.1.1.2.2.2.2.2.2.1 d.1.1.2.2.2.2.2.2.2.1.1 d.1.1.2.2.2.2.2.2.2.1.2.1 d.2.1 d.2.2.1).val
def g93 (d:Tys.data as93):Tys.data rs93:=(f93 d).getD (Tys.dflt rs93)
def p93:PureC:=pcOf as93 rs93 f93 g93

theorem wk93 (x0_:Int) (x0_':Int) (x0_'':Int) (x0_''':Int) (x0_'''':Int) (x0_''''':Bool) (x0_'''''':Int) (x0_'''''''_:Int) (x0_'''''''_':Int) (x1:Int) (x2:Int):Walks (runPure (kf71 Go.Proofs.Try.prog).orc Go.Proofs.Try.prog 400 93 as93 rs93 (((x0_,x0_',x0_'',x0_''',x0_'''',x0_''''',x0_'''''',(x0_'''''''_,x0_'''''''_',()),()),()),x1,x2,())) (t93 x0_ x0_' x0_'' x0_''' x0_'''' x0_''''' x0_'''''' x0_'''''''_ x0_'''''''_' x1 x2) [([],[])] :=
  ⟨by kernel_rfl,trivial⟩

theorem ok93_t (x0_:Int) (x0_':Int) (x0_'':Int) (x0_''':Int) (x0_'''':Int) (x0_''''':Bool) (x0_'''''':Int) (x0_'''''''_:Int) (x0_'''''''_':Int) (x1:Int) (x2:Int):TrOk (PureRuns Go.Proofs.Try.prog (kf71 Go.Proofs.Try.prog).orc 93 as93 rs93 (((x0_,x0_',x0_'',x0_''',x0_'''',x0_''''',x0_'''''',(x0_'''''''_,x0_'''''''_',()),()),()),x1,x2,())) (t93 x0_ x0_' x0_'' x0_''' x0_'''' x0_''''' x0_'''''' x0_'''''''_ x0_'''''''_' x1 x2) :=
  Walks.ok (fun _ _ _=>PureRuns.of) (wk93 x0_ x0_' x0_'' x0_''' x0_'''' x0_''''' x0_'''''' x0_'''''''_ x0_'''''''_' x1 x2) (by kernel_rfl)

theorem ok93:PureOk Go.Proofs.Try.prog 93 p93:=pureOk_of kf71_ok.base (T:=fun (d:Tys.data as93)=>t93 d.1.1.1 d.1.1.2.1 d.1.1.2.2.1 d.1.1.2.2.2.1 d.1.1.2.2.2.2.1 d.1.1.2.2.2.2.2.1 d.1.1.2.2.2.2.2.2.1 d.1.1.2.2.2.2.2.2.2.1.1 d.1.1.2.2.2.2.2.2.2.1.2.1 d.2.1 d.2.2.1) (by kernel_rfl) (fun (d:Tys.data as93)=>ok93_t d.1.1.1 d.1.1.2.1 d.1.1.2.2.1 d.1.1.2.2.2.1 d.1.1.2.2.2.2.1 d.1.1.2.2.2.2.2.1 d.1.1.2.2.2.2.2.2.1 d.1.1.2.2.2.2.2.2.2.1.1 d.1.1.2.2.2.2.2.2.2.1.2.1 d.2.1 d.2.2.1)
def kf93 (P:Go.Program):Known:=(kf71 P).func 93 p93
theorem kf93_ok:KnownOk Go.Proofs.Try.prog (kf93 Go.Proofs.Try.prog):=kf71_ok.func ok93

/-! (ductility/hybrid.test).ahead -/

abbrev as94:List Ty:=[(.pair (.pair (.int .i64) (.pair (.int .i64) (.pair (.int .i64) (.pair (.int .i64) (.pair (.int .i64) (.pair .bool (.pair (.int .i64) (.pair (.pair (.int .i64) (.pair (.int .i64) .unit)) .unit)))))))) .unit),(.int .i64),(.int .i64)]
abbrev rs94:List Ty:=[(.int .i64)]

def t94 (x0_:Int) (x0_':Int) (x0_'':Int) (x0_''':Int) (x0_'''':Int) (x0_''''':Bool) (x0_'''''':Int) (x0_'''''''_:Int) (x0_'''''''_':Int) (x1:Int) (x2:Int):Tr (Tys.data rs94) :=
  Tr.fin (((wrap64 (x1 + wrap64 (x0_'''' * wrap64 (x1 - x2))):Int),()))

def f94 (d:Tys.data as94):Option (Tys.data rs94):=(t94 d.1.1.1 d.1.1.2.1 d.1.1.2.2.1 d.1.1.2.2.2.1 d.1.1.2.2.2.2.1 d.1.1.2.2.2.2.2.1 d.1.1.2.2.2.2.2.2.1 d.1.1.2.2.2.2.2.2.2.1.1 d.1.1.2.2.2.2.2.2.2.1.2.1 d.2.1 d.2.2.1).val
def g94 (d:Tys.data as94):Tys.data rs94:=(f94 d).getD (Tys.dflt rs94)
def p94:PureC:=pcOf as94 rs94 f94 g94

theorem wk94 (x0_:Int) (x0_':Int) (x0_'':Int) (x0_''':Int) (x0_'''':Int) (x0_''''':Bool) (x0_'''''':Int) (x0_'''''''_:Int) (x0_'''''''_':Int) (x1:Int) (x2:Int):Walks (runPure (kf93 Go.Proofs.Try.prog).orc Go.Proofs.Try.prog 400 94 as94 rs94 (((x0_,x0_',x0_'',x0_''',x0_'''',x0_''''',x0_'''''',(x0_'''''''_,x0_'''''''_',()),()),()),x1,x2,())) (t94 x0_ x0_' x0_'' x0_''' x0_'''' x0_''''' x0_'''''' x0_'''''''_ x0_'''''''_' x1 x2) [([],[])] :=
  ⟨by kernel_rfl,trivial⟩

theorem ok94_t (x0_:Int) (x0_':Int) (x0_'':Int) (x0_''':Int) (x0_'''':Int) (x0_''''':Bool) (x0_'''''':Int) (x0_'''''''_:Int) (x0_'''''''_':Int) (x1:Int) (x2:Int):TrOk (PureRuns Go.Proofs.Try.prog (kf93 Go.Proofs.Try.prog).orc 94 as94 rs94 (((x0_,x0_',x0_'',x0_''',x0_'''',x0_''''',x0_'''''',(x0_'''''''_,x0_'''''''_',()),()),()),x1,x2,())) (t94 x0_ x0_' x0_'' x0_''' x0_'''' x0_''''' x0_'''''' x0_'''''''_ x0_'''''''_' x1 x2) :=
  Walks.ok (fun _ _ _=>PureRuns.of) (wk94 x0_ x0_' x0_'' x0_''' x0_'''' x0_''''' x0_'''''' x0_'''''''_ x0_'''''''_' x1 x2) (by kernel_rfl)

theorem ok94:PureOk Go.Proofs.Try.prog 94 p94:=pureOk_of kf93_ok.base (T:=fun (d:Tys.data as94)=>t94 d.1.1.1 d.1.1.2.1 d.1.1.2.2.1 d.1.1.2.2.2.1 d.1.1.2.2.2.2.1 d.1.1.2.2.2.2.2.1 d.1.1.2.2.2.2.2.2.1 d.1.1.2.2.2.2.2.2.2.1.1 d.1.1.2.2.2.2.2.2.2.1.2.1 d.2.1 d.2.2.1) (by kernel_rfl) (fun (d:Tys.data as94)=>ok94_t d.1.1.1 d.1.1.2.1 d.1.1.2.2.1 d.1.1.2.2.2.1 d.1.1.2.2.2.2.1 d.1.1.2.2.2.2.2.1 d.1.1.2.2.2.2.2.2.1 d.1.1.2.2.2.2.2.2.2.1.1 d.1.1.2.2.2.2.2.2.2.1.2.1 d.2.1 d.2.2.1)
def kf94 (P:Go.Program):Known:=(kf93 P).func 94 p94
theorem kf94_ok:KnownOk Go.Proofs.Try.prog (kf94 Go.Proofs.Try.prog):=kf93_ok.func ok94

/-! (ductility/hybrid.test).commanded -/

abbrev as63:List Ty:=[(.pair (.pair (.int .i64) (.pair (.int .i64) (.pair (.int .i64) (.pair (.int .i64) (.pair (.int .i64) (.pair .bool (.pair (.int .i64) (.pair (.pair (.int .i64) (.pair (.int .i64) .unit)) .unit)))))))) .unit),(.pair (.int .i64) (.pair (.int .i64) (.pair (.int .i64) (.pair (.int .i64) .unit)))),(.int .i64)]
abbrev rs63:List Ty:=[(.int .i64)]

def t63 (x0_:Int) (x0_':Int) (x0_'':Int) (x0_''':Int) (x0_'''':Int) (x0_''''':Bool) (x0_'''''':Int) (x0_'''''''_:Int) (x0_'''''''_':Int) (x1:Int) (x1':Int) (x1'':Int) (x1''':Int) (x2:Int):Tr (Tys.data rs63) :=
  Tr.test (x0_''''')
    (Tr.test (decide ((0:Int) ≤ x2) && decide (x2 < (4:Int)))
      (Tr.test ((Nat.ble ((0:Nat) + Int.toNat x2 * (1:Nat) + (1:Nat)) (4:Nat):Bool))
        (Tr.test ((decide ((0:Int) ≤ wrap64 (x2 + (1:Int))) && decide (wrap64 (x2 + (1:Int)) < (4:Int)):Bool))
          (Tr.test ((Nat.ble ((0:Nat) + Int.toNat (wrap64 (x2 + (1:Int))) * (1:Nat) + (1:Nat)) (4:Nat):Bool))
            (Tr.test (Option.isSome (f94 (((x0_,(x0_',(x0_'',(x0_''',(x0_'''',(x0_''''',(x0_'''''',((x0_'''''''_,(x0_'''''''_',())),())))))))),()),((List.getD [x1,x1',x1'',x1'''] ((0:Nat) + Int.toNat x2 * (1:Nat)) (0:Int):Int),((List.getD [x1,x1',x1'',x1'''] ((0:Nat) + Int.toNat (wrap64 (x2 + (1:Int))) * (1:Nat)) (0:Int):Int),())))))
              (let r0:=g94 (((x0_,(x0_',(x0_'',(x0_''',(x0_'''',(x0_''''',(x0_'''''',((x0_'''''''_,(x0_'''''''_',())),())))))))),()),((List.getD [x1,x1',x1'',x1'''] ((0:Nat) + Int.toNat x2 * (1:Nat)) (0:Int):Int),((List.getD [x1,x1',x1'',x1'''] ((0:Nat) + Int.toNat (wrap64 (x2 + (1:Int))) * (1:Nat)) (0:Int):Int),())));
              Tr.fin ((r0.1,())))
              (Tr.stop))
            (Tr.stop))
          (Tr.stop))
        (Tr.stop))
      (Tr.stop))
    (Tr.test (decide ((0:Int) ≤ x2) && decide (x2 < (4:Int)))
      (Tr.test ((Nat.ble ((0:Nat) + Int.toNat x2 * (1:Nat) + (1:Nat)) (4:Nat):Bool))
        (Tr.test ((decide ((0:Int) ≤ wrap64 (x2 + (1:Int))) && decide (wrap64 (x2 + (1:Int)) < (4:Int)):Bool))
          (Tr.test ((Nat.ble ((0:Nat) + Int.toNat (wrap64 (x2 + (1:Int))) * (1:Nat) + (1:Nat)) (4:Nat):Bool))
            (Tr.test (Option.isSome (f93 (((x0_,(x0_',(x0_'',(x0_''',(x0_'''',(x0_''''',(x0_'''''',((x0_'''''''_,(x0_'''''''_',())),())))))))),()),((List.getD [x1,x1',x1'',x1'''] ((0:Nat) + Int.toNat x2 * (1:Nat)) (0:Int):Int),((List.getD [x1,x1',x1'',x1'''] ((0:Nat) + Int.toNat (wrap64 (x2 + (1:Int))) * (1:Nat)) (0:Int):Int),())))))
              (let r1:=g93 (((x0_,(x0_',(x0_'',(x0_''',(x0_'''',(x0_''''',(x0_'''''',((x0_'''''''_,(x0_'''''''_',())),())))))))),()),((List.getD [x1,x1',x1'',x1'''] ((0:Nat) + Int.toNat x2 * (1:Nat)) (0:Int):Int),((List.getD [x1,x1',x1'',x1'''] ((0:Nat) + Int.toNat (wrap64 (x2 + (1:Int))) * (1:Nat)) (0:Int):Int),())));
              Tr.fin ((r1.1,())))
              (Tr.stop))
            (Tr.stop))
          (Tr.stop))
        (Tr.stop))
      (Tr.stop))

def f63 (d:Tys.data as63):Option (Tys.data rs63):=(t63 d.1.1.1 d.1.1.2.1 d.1.1.2.2.1 d.1.1.2.2.2.1 d.1.1.2.2.2.2.1 d.1.1.2.2.2.2.2.1 d.1.1.2.2.2.2.2.2.1 d.1.1.2.2.2.2.2.2.2.1.1 d.1.1.2.2.2.2.2.2.2.1.2.1 d.2.1.1 d.2.1.2.1 d.2.1.2.2.1 d.2.1.2.2.2.1 d.2.2.1).val
def g63 (d:Tys.data as63):Tys.data rs63:=(f63 d).getD (Tys.dflt rs63)
def p63:PureC:=pcOf as63 rs63 f63 g63

theorem wk63 (x0_:Int) (x0_':Int) (x0_'':Int) (x0_''':Int) (x0_'''':Int) (x0_''''':Bool) (x0_'''''':Int) (x0_'''''''_:Int) (x0_'''''''_':Int) (x1:Int) (x1':Int) (x1'':Int) (x1''':Int) (x2:Int):Walks (runPure (kf94 Go.Proofs.Try.prog).orc Go.Proofs.Try.prog 400 63 as63 rs63 (((x0_,x0_',x0_'',x0_''',x0_'''',x0_''''',x0_'''''',(x0_'''''''_,x0_'''''''_',()),()),()),(x1,x1',x1'',x1''',()),x2,())) (t63 x0_ x0_' x0_'' x0_''' x0_'''' x0_''''' x0_'''''' x0_'''''''_ x0_'''''''_' x1 x1' x1'' x1''' x2) [([true,true,true,true,true,true],[2,4,6,8,10,12]),([false,true,true,true,true,true],[2,4,6,8,10,12])] :=
  ⟨by kernel_rfl,by kernel_rfl,trivial⟩

theorem ok63_t (x0_:Int) (x0_':Int) (x0_'':Int) (x0_''':Int) (x0_'''':Int) (x0_''''':Bool) (x0_'''''':Int) (x0_'''''''_:Int) (x0_'''''''_':Int) (x1:Int) (x1':Int) (x1'':Int) (x1''':Int) (x2:Int):TrOk (PureRuns Go.Proofs.Try.prog (kf94 Go.Proofs.Try.prog).orc 63 as63 rs63 (((x0_,x0_',x0_'',x0_''',x0_'''',x0_''''',x0_'''''',(x0_'''''''_,x0_'''''''_',()),()),()),(x1,x1',x1'',x1''',()),x2,())) (t63 x0_ x0_' x0_'' x0_''' x0_'''' x0_''''' x0_'''''' x0_'''''''_ x0_'''''''_' x1 x1' x1'' x1''' x2) :=
  Walks.ok (fun _ _ _=>PureRuns.of) (wk63 x0_ x0_' x0_'' x0_''' x0_'''' x0_''''' x0_'''''' x0_'''''''_ x0_'''''''_' x1 x1' x1'' x1''' x2) (by kernel_rfl)

theorem ok63:PureOk Go.Proofs.Try.prog 63 p63:=pureOk_of kf94_ok.base (T:=fun (d:Tys.data as63)=>t63 d.1.1.1 d.1.1.2.1 d.1.1.2.2.1 d.1.1.2.2.2.1 d.1.1.2.2.2.2.1 d.1.1.2.2.2.2.2.1 d.1.1.2.2.2.2.2.2.1 d.1.1.2.2.2.2.2.2.2.1.1 d.1.1.2.2.2.2.2.2.2.1.2.1 d.2.1.1 d.2.1.2.1 d.2.1.2.2.1 d.2.1.2.2.2.1 d.2.2.1) (by kernel_rfl) (fun (d:Tys.data as63)=>ok63_t d.1.1.1 d.1.1.2.1 d.1.1.2.2.1 d.1.1.2.2.2.1 d.1.1.2.2.2.2.1 d.1.1.2.2.2.2.2.1 d.1.1.2.2.2.2.2.2.1 d.1.1.2.2.2.2.2.2.2.1.1 d.1.1.2.2.2.2.2.2.2.1.2.1 d.2.1.1 d.2.1.2.1 d.2.1.2.2.1 d.2.1.2.2.2.1 d.2.2.1)
def kf63 (P:Go.Program):Known:=(kf94 P).func 63 p63
theorem kf63_ok:KnownOk Go.Proofs.Try.prog (kf63 Go.Proofs.Try.prog):=kf94_ok.func ok63

/-! (ductility/hybrid.test).actuators -/

abbrev as65:List Ty:=[(.pair (.pair (.int .i64) (.pair (.int .i64) (.pair (.int .i64) (.pair (.int .i64) (.pair (.int .i64) (.pair .bool (.pair (.int .i64) (.pair (.pair (.int .i64) (.pair (.int .i64) .unit)) .unit)))))))) .unit),(.pair (.int .i64) (.pair (.int .i64) (.pair (.int .i64) (.pair (.int .i64) .unit))))]
abbrev rs65:List Ty:=[(.int .i64)]

def t65 (x0_:Int) (x0_':Int) (x0_'':Int) (x0_''':Int) (x0_'''':Int) (x0_''''':Bool) (x0_'''''':Int) (x0_'''''''_:Int) (x0_'''''''_':Int) (x1:Int) (x1':Int) (x1'':Int) (x1''':Int):Tr (Tys.data rs65) :=
  Tr.test (Option.isSome (f63 (((x0_,(x0_',(x0_'',(x0_''',(x0_'''',(x0_''''',(x0_'''''',((x0_'''''''_,(x0_'''''''_',())),())))))))),()),((x1,(x1',(x1'',(x1''',())))),(x0_'''',())))))
    (let r0:=g63 (((x0_,(x0_',(x0_'',(x0_''',(x0_'''',(x0_''''',(x0_'''''',((x0_'''''''_,(x0_'''''''_',())),())))))))),()),((x1,(x1',(x1'',(x1''',())))),(x0_'''',())));
    Tr.fin ((r0.1,())))
    (Tr.stop)

def f65 (d:Tys.data as65):Option (Tys.data rs65):=(t65 d.1.1.1 d.1.1.2.1 d.1.1.2.2.1 d.1.1.2.2.2.1 d.1.1.2.2.2.2.1 d.1.1.2.2.2.2.2.1 d.1.1.2.2.2.2.2.2.1 d.1.1.2.2.2.2.2.2.2.1.1 d.1.1.2.2.2.2.2.2.2.1.2.1 d.2.1.1 d.2.1.2.1 d.2.1.2.2.1 d.2.1.2.2.2.1).val
def g65 (d:Tys.data as65):Tys.data rs65:=(f65 d).getD (Tys.dflt rs65)
def p65:PureC:=pcOf as65 rs65 f65 g65

theorem wk65 (x0_:Int) (x0_':Int) (x0_'':Int) (x0_''':Int) (x0_'''':Int) (x0_''''':Bool) (x0_'''''':Int) (x0_'''''''_:Int) (x0_'''''''_':Int) (x1:Int) (x1':Int) (x1'':Int) (x1''':Int):Walks (runPure (kf63 Go.Proofs.Try.prog).orc Go.Proofs.Try.prog 400 65 as65 rs65 (((x0_,x0_',x0_'',x0_''',x0_'''',x0_''''',x0_'''''',(x0_'''''''_,x0_'''''''_',()),()),()),(x1,x1',x1'',x1''',()),())) (t65 x0_ x0_' x0_'' x0_''' x0_'''' x0_''''' x0_'''''' x0_'''''''_ x0_'''''''_' x1 x1' x1'' x1''') [([tt],[2])] :=
  ⟨by kernel_rfl,trivial⟩

theorem ok65_t (x0_:Int) (x0_':Int) (x0_'':Int) (x0_''':Int) (x0_'''':Int) (x0_''''':Bool) (x0_'''''':Int) (x0_'''''''_:Int) (x0_'''''''_':Int) (x1:Int) (x1':Int) (x1'':Int) (x1''':Int):TrOk (PureRuns Go.Proofs.Try.prog (kf63 Go.Proofs.Try.prog).orc 65 as65 rs65 (((x0_,x0_',x0_'',x0_''',x0_'''',x0_''''',x0_'''''',(x0_'''''''_,x0_'''''''_',()),()),()),(x1,x1',x1'',x1''',()),())) (t65 x0_ x0_' x0_'' x0_''' x0_'''' x0_''''' x0_'''''' x0_'''''''_ x0_'''''''_' x1 x1' x1'' x1''') :=
  Walks.ok (fun _ _ _=>PureRuns.of) (wk65 x0_ x0_' x0_'' x0_''' x0_'''' x0_''''' x0_'''''' x0_'''''''_ x0_'''''''_' x1 x1' x1'' x1''') (by kernel_rfl)

theorem ok65:PureOk Go.Proofs.Try.prog 65 p65:=pureOk_of kf63_ok.base (T:=fun (d:Tys.data as65)=>t65 d.1.1.1 d.1.1.2.1 d.1.1.2.2.1 d.1.1.2.2.2.1 d.1.1.2.2.2.2.1 d.1.1.2.2.2.2.2.1 d.1.1.2.2.2.2.2.2.1 d.1.1.2.2.2.2.2.2.2.1.1 d.1.1.2.2.2.2.2.2.2.1.2.1 d.2.1.1 d.2.1.2.1 d.2.1.2.2.1 d.2.1.2.2.2.1) (by kernel_rfl) (fun (d:Tys.data as65)=>ok65_t d.1.1.1 d.1.1.2.1 d.1.1.2.2.1 d.1.1.2.2.2.1 d.1.1.2.2.2.2.1 d.1.1.2.2.2.2.2.1 d.1.1.2.2.2.2.2.2.1 d.1.1.2.2.2.2.2.2.2.1.1 d.1.1.2.2.2.2.2.2.2.1.2.1 d.2.1.1 d.2.1.2.1 d.2.1.2.2.1 d.2.1.2.2.2.1)
def kf65 (P:Go.Program):Known:=(kf63 P).func 65 p65
theorem kf65_ok:KnownOk Go.Proofs.Try.prog (kf65 Go.Proofs.Try.prog):=kf63_ok.func ok65

/-! ductility/hybrid.down -/

abbrev as95:List Ty:=[(.int .i64),(.int .i64)]
abbrev rs95:List Ty:=[(.int .i64)]

def t95 (x0:Int) (x1:Int):Tr (Tys.data rs95) :=
  Tr.test ((x1 == (0:Int):Bool))
    (Tr.stop)
    (Tr.test (!leF (0:Int) (Int.tmod x0 x1))
      (Tr.fin (((wrap64 (Go.IntKind.wrap Go.IntKind.i64 (Int.tdiv x0 x1) - (1:Int)):Int),())))
      (Tr.fin (((Go.IntKind.wrap Go.IntKind.i64 (Int.tdiv x0 x1):Int),()))))

def f95 (d:Tys.data as95):Option (Tys.data rs95):=(t95 d.1 d.2.1).val
def g95 (d:Tys.data as95):Tys.data rs95:=(f95 d).getD (Tys.dflt rs95)
def p95:PureC:=pcOf as95 rs95 f95 g95

theorem wk95 (x0:Int) (x1:Int):Walks (runPure (kf65 Go.Proofs.Try.prog).orc Go.Proofs.Try.prog 400 95 as95 rs95 (x0,x1,())) (t95 x0 x1) [([false,true],[4,2,4]),([false,false],[4,2,4])] :=
  ⟨by kernel_rfl,by kernel_rfl,trivial⟩

theorem ok95_t (x0:Int) (x1:Int):TrOk (PureRuns Go.Proofs.Try.prog (kf65 Go.Proofs.Try.prog).orc 95 as95 rs95 (x0,x1,())) (t95 x0 x1) :=
  Walks.ok (fun _ _ _=>PureRuns.of) (wk95 x0 x1) (by kernel_rfl)

theorem ok95:PureOk Go.Proofs.Try.prog 95 p95:=pureOk_of kf65_ok.base (T:=fun (d:Tys.data as95)=>t95 d.1 d.2.1) (by kernel_rfl) (fun (d:Tys.data as95)=>ok95_t d.1 d.2.1)
def kf95 (P:Go.Program):Known:=(kf65 P).func 95 p95
theorem kf95_ok:KnownOk Go.Proofs.Try.prog (kf95 Go.Proofs.Try.prog):=kf65_ok.func ok95

/-! (ductility/hybrid.test).moved -/

abbrev as66:List Ty:=[(.pair (.pair (.int .i64) (.pair (.int .i64) (.pair (.int .i64) (.pair (.int .i64) (.pair (.int .i64) (.pair .bool (.pair (.int .i64) (.pair (.pair (.int .i64) (.pair (.int .i64) .unit)) .unit)))))))) .unit),(.pair (.int .i64) (.pair (.int .i64) (.pair (.int .i64) (.pair (.int .i64) .unit)))),(.int .i64)]
abbrev rs66:List Ty:=[(.int .i64)]

def t66 (x0_:Int) (x0_':Int) (x0_'':Int) (x0_''':Int) (x0_'''':Int) (x0_''''':Bool) (x0_'''''':Int) (x0_'''''''_:Int) (x0_'''''''_':Int) (x1:Int) (x1':Int) (x1'':Int) (x1''':Int) (x2:Int):Tr (Tys.data rs66) :=
  Tr.test (Option.isSome (f65 (((x0_,(x0_',(x0_'',(x0_''',(x0_'''',(x0_''''',(x0_'''''',((x0_'''''''_,(x0_'''''''_',())),())))))))),()),((x1,(x1',(x1'',(x1''',())))),()))))
    (let r0:=g65 (((x0_,(x0_',(x0_'',(x0_''',(x0_'''',(x0_''''',(x0_'''''',((x0_'''''''_,(x0_'''''''_',())),())))))))),()),((x1,(x1',(x1'',(x1''',())))),()));
    Tr.test (Option.isSome (f95 ((wrap64 (wrap64 (wrap64 (x2 - wrap64 (x0_' * wrap64 (x1 - x1'))) - wrap64 (x0_'' * x1)) - wrap64 (x0_''' * r0.1)):Int),(x0_,()))))
      (let r1:=g95 ((wrap64 (wrap64 (wrap64 (x2 - wrap64 (x0_' * wrap64 (x1 - x1'))) - wrap64 (x0_'' * x1)) - wrap64 (x0_''' * r0.1)):Int),(x0_,()));
      Tr.fin (((wrap64 (wrap64 (x1 + wrap64 (x1 - x1')) + r1.1):Int),())))
      (Tr.stop))
    (Tr.stop)

def f66 (d:Tys.data as66):Option (Tys.data rs66):=(t66 d.1.1.1 d.1.1.2.1 d.1.1.2.2.1 d.1.1.2.2.2.1 d.1.1.2.2.2.2.1 d.1.1.2.2.2.2.2.1 d.1.1.2.2.2.2.2.2.1 d.1.1.2.2.2.2.2.2.2.1.1 d.1.1.2.2.2.2.2.2.2.1.2.1 d.2.1.1 d.2.1.2.1 d.2.1.2.2.1 d.2.1.2.2.2.1 d.2.2.1).val
def g66 (d:Tys.data as66):Tys.data rs66:=(f66 d).getD (Tys.dflt rs66)
def p66:PureC:=pcOf as66 rs66 f66 g66

theorem wk66 (x0_:Int) (x0_':Int) (x0_'':Int) (x0_''':Int) (x0_'''':Int) (x0_''''':Bool) (x0_'''''':Int) (x0_'''''''_:Int) (x0_'''''''_':Int) (x1:Int) (x1':Int) (x1'':Int) (x1''':Int) (x2:Int):Walks (runPure (kf95 Go.Proofs.Try.prog).orc Go.Proofs.Try.prog 400 66 as66 rs66 (((x0_,x0_',x0_'',x0_''',x0_'''',x0_''''',x0_'''''',(x0_'''''''_,x0_'''''''_',()),()),()),(x1,x1',x1'',x1''',()),x2,())) (t66 x0_ x0_' x0_'' x0_''' x0_'''' x0_''''' x0_'''''' x0_'''''''_ x0_'''''''_' x1 x1' x1'' x1''' x2) [([true,true],[2,1,1,4,1,1,1,1,1,1])] :=
  ⟨by kernel_rfl,trivial⟩

theorem ok66_t (x0_:Int) (x0_':Int) (x0_'':Int) (x0_''':Int) (x0_'''':Int) (x0_''''':Bool) (x0_'''''':Int) (x0_'''''''_:Int) (x0_'''''''_':Int) (x1:Int) (x1':Int) (x1'':Int) (x1''':Int) (x2:Int):TrOk (PureRuns Go.Proofs.Try.prog (kf95 Go.Proofs.Try.prog).orc 66 as66 rs66 (((x0_,x0_',x0_'',x0_''',x0_'''',x0_''''',x0_'''''',(x0_'''''''_,x0_'''''''_',()),()),()),(x1,x1',x1'',x1''',()),x2,())) (t66 x0_ x0_' x0_'' x0_''' x0_'''' x0_''''' x0_'''''' x0_'''''''_ x0_'''''''_' x1 x1' x1'' x1''' x2) :=
  Walks.ok (fun _ _ _=>PureRuns.of) (wk66 x0_ x0_' x0_'' x0_''' x0_'''' x0_''''' x0_'''''' x0_'''''''_ x0_'''''''_' x1 x1' x1'' x1''' x2) (by kernel_rfl)

theorem ok66:PureOk Go.Proofs.Try.prog 66 p66:=pureOk_of kf95_ok.base (T:=fun (d:Tys.data as66)=>t66 d.1.1.1 d.1.1.2.1 d.1.1.2.2.1 d.1.1.2.2.2.1 d.1.1.2.2.2.2.1 d.1.1.2.2.2.2.2.1 d.1.1.2.2.2.2.2.2.1 d.1.1.2.2.2.2.2.2.2.1.1 d.1.1.2.2.2.2.2.2.2.1.2.1 d.2.1.1 d.2.1.2.1 d.2.1.2.2.1 d.2.1.2.2.2.1 d.2.2.1) (by kernel_rfl) (fun (d:Tys.data as66)=>ok66_t d.1.1.1 d.1.1.2.1 d.1.1.2.2.1 d.1.1.2.2.2.1 d.1.1.2.2.2.2.1 d.1.1.2.2.2.2.2.1 d.1.1.2.2.2.2.2.2.1 d.1.1.2.2.2.2.2.2.2.1.1 d.1.1.2.2.2.2.2.2.2.1.2.1 d.2.1.1 d.2.1.2.1 d.2.1.2.2.1 d.2.1.2.2.2.1 d.2.2.1)
def kf66 (P:Go.Program):Known:=(kf95 P).func 66 p66
theorem kf66_ok:KnownOk Go.Proofs.Try.prog (kf66 Go.Proofs.Try.prog):=kf95_ok.func ok66

end Go.Vm.Mo
