import Derived.Test.YtlmcodagfhdncaaA4
import Derived.KernelRfl
import Derived.Test.YtlmcodagfhdncaaProg
import Derived.Test.YtlmcodagfhdncaaRsFa
set_option linter.unusedVariables false
set_option linter.unusedSimpArgs false

namespace Go.Vm.Mo
open Go
set_option linter.unusedVariables false

/-! ductility/ductilitylaw08.Chain -/

abbrev as55:List Ty:=[]
abbrev rs55:List Ty:=[(.pair (.slice (.int .i64)) (.pair (.slice (.int .i64)) .unit))]

def t55 :Tr (Tys.data rs55) :=
  Tr.fin (((([(2:Int),(4:Int)]:List Int),(([(6:Int),(4:Int)]:List Int),())),()))

def f55 (d:Tys.data as55):Option (Tys.data rs55):=(t55 ).val
def g55 (d:Tys.data as55):Tys.data rs55:=(f55 d).getD (Tys.dflt rs55)
def p55:PureC:=pcOf as55 rs55 f55 g55

theorem wk55 :Walks (runPure (kf42 Go.Proofs.Try.prog).orc Go.Proofs.Try.prog 400 55 as55 rs55 ()) (t55 ) [([],[])] :=
  ⟨by kernel_rfl,trivial⟩

theorem ok55_t :TrOk (PureRuns Go.Proofs.Try.prog (kf42 Go.Proofs.Try.prog).orc 55 as55 rs55 ()) (t55 ) :=
  Walks.ok (fun _ _ _=>PureRuns.of) (wk55 ) (by kernel_rfl)

theorem ok55:PureOk Go.Proofs.Try.prog 55 p55:=pureOk_of kf42_ok.base (T:=fun (d:Tys.data as55)=>t55 ) (by kernel_rfl) (fun (d:Tys.data as55)=>ok55_t )
def kf55 (P:Go.Program):Known:=(kf42 P).func 55 p55
theorem kf55_ok:KnownOk Go.Proofs.Try.prog (kf55 Go.Proofs.Try.prog):=kf42_ok.func ok55

/-! loop 0 of ductility/ductilitybase.Ints -/

abbrev sh24_0:Sh:={ n:=26,slots:=[0,1,5],pats:=[.ty (.slice (.int .i64)),.ty (.slice (.int .i64)),.ty (.int .i64)],boxes:=[] }
abbrev shb24_0:Sh:={ n:=26,slots:=[],pats:=[],boxes:=[] }
abbrev shr24_0:Sh:={ n:=26,slots:=[4],pats:=[.ty .bool],boxes:=[] }

def t24_0 (x0:(List Int)) (x1:(List Int)) (x2:Int):Tr (Out sh24_0.data shb24_0.data shr24_0.data) :=
  Tr.test ((!leF (↑(List.length x0):Int) x2:Bool))
    (Tr.test (decide ((0:Int) ≤ x2) && decide (x2 < (↑(List.length x0):Int)))
      (Tr.test ((decide ((0:Int) ≤ x2) && decide (x2 < (↑(List.length x1):Int)):Bool))
        (Tr.test ((!eqF (List.getD x0 (Int.toNat x2) (0:Int)) (List.getD x1 (Int.toNat x2) (0:Int)):Bool))
          (Tr.fin (.ret (((false:Bool),()),())))
          (Tr.fin (.again ((x0,(x1,((wrap64 (x2 + (1:Int)):Int),()))),()))))
        (Tr.stop))
      (Tr.stop))
    (Tr.fin (.brk ((),())))

def s24_0 (d:sh24_0.data):Option (Out sh24_0.data shb24_0.data shr24_0.data):=(t24_0 d.1.1 d.1.2.1 d.1.2.2.1).val
def l24_0 (d:sh24_0.data):Option (shb24_0.data ⊕ shr24_0.data):=itr s24_0 rounds d
def b24_0 (d:sh24_0.data):shb24_0.data:=outB shb24_0.dflt (l24_0 d)
def r24_0 (d:sh24_0.data):shr24_0.data:=outR shr24_0.dflt (l24_0 d)
def lc24_0:LoopC:=lcOf sh24_0 shb24_0 shr24_0 l24_0 b24_0 r24_0

theorem wk24_0 (x0:(List Int)) (x1:(List Int)) (x2:Int):Walks (runBody (kf55 Go.Proofs.Try.prog).orc Go.Proofs.Try.prog 400 24 0 sh24_0 shb24_0 shr24_0 ((x0,x1,x2,()),())) (t24_0 x0 x1 x2) [([true,true,true,true],[2,4,6,8]),([true,true,true,false],[2,4,6,8]),([ff],[2])] :=
  ⟨by kernel_rfl,by kernel_rfl,by kernel_rfl,trivial⟩

theorem ok24_0_t (x0:(List Int)) (x1:(List Int)) (x2:Int):TrOk (BodyRuns Go.Proofs.Try.prog (kf55 Go.Proofs.Try.prog).orc 24 0 sh24_0 shb24_0 shr24_0 ((x0,x1,x2,()),())) (t24_0 x0 x1 x2) :=
  Walks.ok (fun _ _ _=>BodyRuns.of) (wk24_0 x0 x1 x2) (by kernel_rfl)

theorem ok24_0:LoopOk Go.Proofs.Try.prog 24 0 lc24_0:=loopOk_of (sh:=sh24_0) (shB:=shb24_0) (shR:=shr24_0) kf55_ok.base (T:=fun (d:sh24_0.data)=>t24_0 d.1.1 d.1.2.1 d.1.2.2.1) (by kernel_rfl) rfl (fun (d:sh24_0.data)=>ok24_0_t d.1.1 d.1.2.1 d.1.2.2.1) (fun _=>rfl)
def kl24_0 (P:Go.Program):Known:=(kf55 P).loop 24 0 lc24_0
theorem kl24_0_ok:KnownOk Go.Proofs.Try.prog (kl24_0 Go.Proofs.Try.prog):=kf55_ok.loop ok24_0

/-! ductility/ductilitybase.Ints -/

abbrev as24:List Ty:=[(.slice (.int .i64)),(.slice (.int .i64))]
abbrev rs24:List Ty:=[.bool]

def t24 (x0:(List Int)) (x1:(List Int)):Tr (Tys.data rs24) :=
  Tr.test ((!eqF (↑(List.length x0):Int) (↑(List.length x1):Int):Bool))
    (Tr.fin ((false,())))
    (Tr.test (Option.isSome (l24_0 ((x0,(x1,((0:Int),()))),())))
      (Tr.test (isRet (l24_0 ((x0,(x1,((0:Int),()))),())))
        (let r0:=r24_0 ((x0,(x1,((0:Int),()))),());
        Tr.fin ((r0.1.1,())))
        (Tr.fin (((true:Bool),()))))
      (Tr.stop))

def f24 (d:Tys.data as24):Option (Tys.data rs24):=(t24 d.1 d.2.1).val
def g24 (d:Tys.data as24):Tys.data rs24:=(f24 d).getD (Tys.dflt rs24)
def p24:PureC:=pcOf as24 rs24 f24 g24

theorem wk24 (x0:(List Int)) (x1:(List Int)):Walks (runPure (kl24_0 Go.Proofs.Try.prog).orc Go.Proofs.Try.prog 400 24 as24 rs24 (x0,x1,())) (t24 x0 x1) [([tt],[2]),([false,true,true],[2,4,6]),([false,true,false],[2,4,6])] :=
  ⟨by kernel_rfl,by kernel_rfl,by kernel_rfl,trivial⟩

theorem ok24_t (x0:(List Int)) (x1:(List Int)):TrOk (PureRuns Go.Proofs.Try.prog (kl24_0 Go.Proofs.Try.prog).orc 24 as24 rs24 (x0,x1,())) (t24 x0 x1) :=
  Walks.ok (fun _ _ _=>PureRuns.of) (wk24 x0 x1) (by kernel_rfl)

theorem ok24:PureOk Go.Proofs.Try.prog 24 p24:=pureOk_of kl24_0_ok.base (T:=fun (d:Tys.data as24)=>t24 d.1 d.2.1) (by kernel_rfl) (fun (d:Tys.data as24)=>ok24_t d.1 d.2.1)
def kf24 (P:Go.Program):Known:=(kl24_0 P).func 24 p24
theorem kf24_ok:KnownOk Go.Proofs.Try.prog (kf24 Go.Proofs.Try.prog):=kl24_0_ok.func ok24

/-! loop 0 of ductility/ductilitybase.Fracs -/

abbrev sh56_0:Sh:={ n:=26,slots:=[0,1,5],pats:=[.ty (.slice (.pair (.int .i64) (.pair (.int .i64) .unit))),.ty (.slice (.pair (.int .i64) (.pair (.int .i64) .unit))),.ty (.int .i64)],boxes:=[] }
abbrev shb56_0:Sh:={ n:=26,slots:=[],pats:=[],boxes:=[] }
abbrev shr56_0:Sh:={ n:=26,slots:=[4],pats:=[.ty .bool],boxes:=[] }

def t56_0 (x0:(List (Int×(Int×Unit)))) (x1:(List (Int×(Int×Unit)))) (x2:Int):Tr (Out sh56_0.data shb56_0.data shr56_0.data) :=
  Tr.test ((!leF (↑(List.length x0):Int) x2:Bool))
    (Tr.test (decide ((0:Int) ≤ x2) && decide (x2 < (↑(List.length x0):Int)))
      (Tr.test ((decide ((0:Int) ≤ x2) && decide (x2 < (↑(List.length x1):Int)):Bool))
        (Tr.test ((!((List.getD x0 (Int.toNat x2) ((0:Int),(0:Int),())).1 == (List.getD x1 (Int.toNat x2) ((0:Int),(0:Int),())).1 && ((List.getD x0 (Int.toNat x2) ((0:Int),(0:Int),())).2.1 == (List.getD x1 (Int.toNat x2) ((0:Int),(0:Int),())).2.1 && true)):Bool))
          (Tr.fin (.ret (((false:Bool),()),())))
          (Tr.fin (.again ((x0,(x1,((wrap64 (x2 + (1:Int)):Int),()))),()))))
        (Tr.stop))
      (Tr.stop))
    (Tr.fin (.brk ((),())))

def s56_0 (d:sh56_0.data):Option (Out sh56_0.data shb56_0.data shr56_0.data):=(t56_0 d.1.1 d.1.2.1 d.1.2.2.1).val
def l56_0 (d:sh56_0.data):Option (shb56_0.data ⊕ shr56_0.data):=itr s56_0 rounds d
def b56_0 (d:sh56_0.data):shb56_0.data:=outB shb56_0.dflt (l56_0 d)
def r56_0 (d:sh56_0.data):shr56_0.data:=outR shr56_0.dflt (l56_0 d)
def lc56_0:LoopC:=lcOf sh56_0 shb56_0 shr56_0 l56_0 b56_0 r56_0

theorem wk56_0 (x0:(List (Int×(Int×Unit)))) (x1:(List (Int×(Int×Unit)))) (x2:Int):Walks (runBody (kf24 Go.Proofs.Try.prog).orc Go.Proofs.Try.prog 400 56 0 sh56_0 shb56_0 shr56_0 ((x0,x1,x2,()),())) (t56_0 x0 x1 x2) [([true,true,true,true],[2,4,6,8]),([true,true,true,false],[2,4,6,8]),([ff],[2])] :=
  ⟨by kernel_rfl,by kernel_rfl,by kernel_rfl,trivial⟩

theorem ok56_0_t (x0:(List (Int×(Int×Unit)))) (x1:(List (Int×(Int×Unit)))) (x2:Int):TrOk (BodyRuns Go.Proofs.Try.prog (kf24 Go.Proofs.Try.prog).orc 56 0 sh56_0 shb56_0 shr56_0 ((x0,x1,x2,()),())) (t56_0 x0 x1 x2) :=
  Walks.ok (fun _ _ _=>BodyRuns.of) (wk56_0 x0 x1 x2) (by kernel_rfl)

theorem ok56_0:LoopOk Go.Proofs.Try.prog 56 0 lc56_0:=loopOk_of (sh:=sh56_0) (shB:=shb56_0) (shR:=shr56_0) kf24_ok.base (T:=fun (d:sh56_0.data)=>t56_0 d.1.1 d.1.2.1 d.1.2.2.1) (by kernel_rfl) rfl (fun (d:sh56_0.data)=>ok56_0_t d.1.1 d.1.2.1 d.1.2.2.1) (fun _=>rfl)
def kl56_0 (P:Go.Program):Known:=(kf24 P).loop 56 0 lc56_0
theorem kl56_0_ok:KnownOk Go.Proofs.Try.prog (kl56_0 Go.Proofs.Try.prog):=kf24_ok.loop ok56_0

/-! ductility/ductilitybase.Fracs -/

abbrev as56:List Ty:=[(.slice (.pair (.int .i64) (.pair (.int .i64) .unit))),(.slice (.pair (.int .i64) (.pair (.int .i64) .unit)))]
abbrev rs56:List Ty:=[.bool]

def t56 (x0:(List (Int×(Int×Unit)))) (x1:(List (Int×(Int×Unit)))):Tr (Tys.data rs56) :=
  Tr.test ((!eqF (↑(List.length x0):Int) (↑(List.length x1):Int):Bool))
    (Tr.fin ((false,())))
    (Tr.test (Option.isSome (l56_0 ((x0,(x1,((0:Int),()))),())))
      (Tr.test (isRet (l56_0 ((x0,(x1,((0:Int),()))),())))
        (let r0:=r56_0 ((x0,(x1,((0:Int),()))),());
        Tr.fin ((r0.1.1,())))
        (Tr.fin (((true:Bool),()))))
      (Tr.stop))

def f56 (d:Tys.data as56):Option (Tys.data rs56):=(t56 d.1 d.2.1).val
def g56 (d:Tys.data as56):Tys.data rs56:=(f56 d).getD (Tys.dflt rs56)
def p56:PureC:=pcOf as56 rs56 f56 g56

theorem wk56 (x0:(List (Int×(Int×Unit)))) (x1:(List (Int×(Int×Unit)))):Walks (runPure (kl56_0 Go.Proofs.Try.prog).orc Go.Proofs.Try.prog 400 56 as56 rs56 (x0,x1,())) (t56 x0 x1) [([tt],[2]),([false,true,true],[2,4,6]),([false,true,false],[2,4,6])] :=
  ⟨by kernel_rfl,by kernel_rfl,by kernel_rfl,trivial⟩

theorem ok56_t (x0:(List (Int×(Int×Unit)))) (x1:(List (Int×(Int×Unit)))):TrOk (PureRuns Go.Proofs.Try.prog (kl56_0 Go.Proofs.Try.prog).orc 56 as56 rs56 (x0,x1,())) (t56 x0 x1) :=
  Walks.ok (fun _ _ _=>PureRuns.of) (wk56 x0 x1) (by kernel_rfl)

theorem ok56:PureOk Go.Proofs.Try.prog 56 p56:=pureOk_of kl56_0_ok.base (T:=fun (d:Tys.data as56)=>t56 d.1 d.2.1) (by kernel_rfl) (fun (d:Tys.data as56)=>ok56_t d.1 d.2.1)
def kf56 (P:Go.Program):Known:=(kl56_0 P).func 56 p56
theorem kf56_ok:KnownOk Go.Proofs.Try.prog (kf56 Go.Proofs.Try.prog):=kl56_0_ok.func ok56

/-! ductility/ductilitylaw08.awake -/

abbrev as9:List Ty:=[]
abbrev rs9:List Ty:=[.bool]
def f9 (_:Tys.data as9):Option (Tys.data rs9):=some (true,())
def g9 (_:Tys.data as9):Tys.data rs9:=(true,())
def p9:PureC:=pcOf as9 rs9 f9 g9

theorem e9:runAsk (kf56 Go.Proofs.Try.prog).orc Go.Proofs.Try.prog 400 9 as9 rs9 () none = some ((true,()),[]):=by kernel_rfl
theorem ok9:PureOk Go.Proofs.Try.prog 9 p9:=pureOk_closed kf56_ok.base (by kernel_rfl) e9 All.nil
def kf9 (P:Go.Program):Known:=(kf56 P).func 9 p9
theorem kf9_ok:KnownOk Go.Proofs.Try.prog (kf9 Go.Proofs.Try.prog):=kf56_ok.func ok9

/-! ductility/ductilitybase.CopyInts -/

abbrev as12:List Ty:=[(.slice (.int .i64))]
abbrev rs12:List Ty:=[(.slice (.int .i64))]

def t12 (x0:(List Int)):Tr (Tys.data rs12) :=
  Tr.test ((Nat.beq (List.length x0) (0:Nat):Bool))
    (Tr.fin ((([]:List Int),())))
    (Tr.test (Nat.ble ((0:Nat) + List.length x0) (0:Nat))
      (Tr.stop)
      (Tr.test ((Nat.ble (((2:Nat) * ((0:Nat) + List.length x0) + (192:Nat)) * (8:Nat)) (281474976710656:Nat) && Nat.ble ((0:Nat) + List.length x0) (281474976710656:Nat):Bool))
        (Tr.test ((Nat.beq ((0:Nat) + List.length x0) (List.length ([]++x0)):Bool))
          (Tr.fin ((([]++x0:List Int),())))
          (Tr.stop))
        (Tr.stop)))

def f12 (d:Tys.data as12):Option (Tys.data rs12):=(t12 d.1).val
def g12 (d:Tys.data as12):Tys.data rs12:=(f12 d).getD (Tys.dflt rs12)
def p12:PureC:=pcOf as12 rs12 f12 g12

theorem wk12 (x0:(List Int)):Walks (runPure (kf9 Go.Proofs.Try.prog).orc Go.Proofs.Try.prog 400 12 as12 rs12 (x0,())) (t12 x0) [([tt],[2]),([false,false,true,true],[2,4,6,8])] :=
  ⟨by kernel_rfl,by kernel_rfl,trivial⟩

theorem ok12_t (x0:(List Int)):TrOk (PureRuns Go.Proofs.Try.prog (kf9 Go.Proofs.Try.prog).orc 12 as12 rs12 (x0,())) (t12 x0) :=
  Walks.ok (fun _ _ _=>PureRuns.of) (wk12 x0) (by kernel_rfl)

theorem ok12:PureOk Go.Proofs.Try.prog 12 p12:=pureOk_of kf9_ok.base (T:=fun (d:Tys.data as12)=>t12 d.1) (by kernel_rfl) (fun (d:Tys.data as12)=>ok12_t d.1)
def kf12 (P:Go.Program):Known:=(kf9 P).func 12 p12
theorem kf12_ok:KnownOk Go.Proofs.Try.prog (kf12 Go.Proofs.Try.prog):=kf9_ok.func ok12

/-! ductility/hybrid.isBeyond -/

abbrev as58:List Ty:=[(.int .i64),(.slice (.int .i64))]
abbrev rs58:List Ty:=[.bool]

def t58 (x0:Int) (x1:(List Int)):Tr (Tys.data rs58) :=
  Tr.test (Option.isSome (f57 ((Go.IntKind.wrap Go.IntKind.i64 ((0:Int) - x0):Int),(x0,(x1,())))))
    (let r0:=g57 ((Go.IntKind.wrap Go.IntKind.i64 ((0:Int) - x0):Int),(x0,(x1,())));
    Tr.fin (((!r0.1:Bool),())))
    (Tr.stop)

def f58 (d:Tys.data as58):Option (Tys.data rs58):=(t58 d.1 d.2.1).val
def g58 (d:Tys.data as58):Tys.data rs58:=(f58 d).getD (Tys.dflt rs58)
def p58:PureC:=pcOf as58 rs58 f58 g58

theorem wk58 (x0:Int) (x1:(List Int)):Walks (runPure (kf12 Go.Proofs.Try.prog).orc Go.Proofs.Try.prog 400 58 as58 rs58 (x0,x1,())) (t58 x0 x1) [([tt],[2])] :=
  ⟨by kernel_rfl,trivial⟩

theorem ok58_t (x0:Int) (x1:(List Int)):TrOk (PureRuns Go.Proofs.Try.prog (kf12 Go.Proofs.Try.prog).orc 58 as58 rs58 (x0,x1,())) (t58 x0 x1) :=
  Walks.ok (fun _ _ _=>PureRuns.of) (wk58 x0 x1) (by kernel_rfl)

theorem ok58:PureOk Go.Proofs.Try.prog 58 p58:=pureOk_of kf12_ok.base (T:=fun (d:Tys.data as58)=>t58 d.1 d.2.1) (by kernel_rfl) (fun (d:Tys.data as58)=>ok58_t d.1 d.2.1)
def kf58 (P:Go.Program):Known:=(kf12 P).func 58 p58
theorem kf58_ok:KnownOk Go.Proofs.Try.prog (kf58 Go.Proofs.Try.prog):=kf12_ok.func ok58

/-! ductility/hybrid.CheckTest -/

abbrev as10:List Ty:=[(.pair (.int .i64) (.pair (.int .i64) (.pair (.int .i64) (.pair (.int .i64) (.pair (.int .i64) (.pair .bool (.pair (.int .i64) (.pair (.pair (.int .i64) (.pair (.int .i64) .unit)) .unit))))))))]
abbrev rs10:List Ty:=[(.int .i64)]

def t10 (x0:Int) (x0':Int) (x0'':Int) (x0''':Int) (x0'''':Int) (x0''''':Bool) (x0'''''':Int) (x0'''''''_:Int) (x0'''''''_':Int):Tr (Tys.data rs10) :=
  Tr.test (Option.isSome (f57 ((1:Int),((1000:Int),(([x0]:List Int),())))))
    (let r0:=g57 ((1:Int),((1000:Int),(([x0]:List Int),())));
    Tr.test (r0.1)
      (Tr.test (Option.isSome (f57 ((0:Int),((1000:Int),(([x0',x0'',x0''']:List Int),())))))
        (let r1:=g57 ((0:Int),((1000:Int),(([x0',x0'',x0''']:List Int),())));
        Tr.test (r1.1)
          (Tr.test (Option.isSome (f57 ((0:Int),((2:Int),(([x0'''']:List Int),())))))
            (let r2:=g57 ((0:Int),((2:Int),(([x0'''']:List Int),())));
            Tr.test (r2.1)
              (Tr.test (Option.isSome (f57 ((0:Int),((3:Int),(([x0'''''']:List Int),())))))
                (let r3:=g57 ((0:Int),((3:Int),(([x0'''''']:List Int),())));
                Tr.test (r3.1)
                  (Tr.test (Option.isSome (f58 ((1000:Int),(([x0'''''''_,x0'''''''_']:List Int),()))))
                    (let r4:=g58 ((1000:Int),(([x0'''''''_,x0'''''''_']:List Int),()));
                    Tr.test (Option.isSome (f60 ((!!r4.1:Bool),((2:Int),()))))
                      (Tr.test (Option.isSome (f60 ((!leF x0'''''''_ x0'''''''_':Bool),((9:Int),()))))
                        (Tr.test (Option.isSome (f60 ((!leF (wrap64 (wrap64 (x0'''''''_' - x0'''''''_) + (1:Int))) (9:Int):Bool),((8:Int),()))))
                          (let r5:=g60 ((!!r4.1:Bool),((2:Int),()));
                          let r6:=g60 ((!leF x0'''''''_ x0'''''''_':Bool),((9:Int),()));
                          let r7:=g60 ((!leF (wrap64 (wrap64 (x0'''''''_' - x0'''''''_) + (1:Int))) (9:Int):Bool),((8:Int),()));
                          Tr.test (Option.isSome (f59 (([r5.1,r6.1,r7.1]:List Int),())))
                            (let r8:=g59 (([r5.1,r6.1,r7.1]:List Int),());
                            Tr.fin ((r8.1,())))
                            (Tr.stop))
                          (Tr.stop))
                        (Tr.stop))
                      (Tr.stop))
                    (Tr.stop))
                  (Tr.test (Option.isSome (f60 ((true:Bool),((2:Int),()))))
                    (Tr.test (Option.isSome (f60 ((!leF x0'''''''_ x0'''''''_':Bool),((9:Int),()))))
                      (Tr.test (Option.isSome (f60 ((!leF (wrap64 (wrap64 (x0'''''''_' - x0'''''''_) + (1:Int))) (9:Int):Bool),((8:Int),()))))
                        (let r6:=g60 ((!leF x0'''''''_ x0'''''''_':Bool),((9:Int),()));
                        let r7:=g60 ((!leF (wrap64 (wrap64 (x0'''''''_' - x0'''''''_) + (1:Int))) (9:Int):Bool),((8:Int),()));
                        let r9:=g60 ((true:Bool),((2:Int),()));
                        Tr.test (Option.isSome (f59 (([r9.1,r6.1,r7.1]:List Int),())))
                          (let r10:=g59 (([r9.1,r6.1,r7.1]:List Int),());
                          Tr.fin ((r10.1,())))
                          (Tr.stop))
                        (Tr.stop))
                      (Tr.stop))
                    (Tr.stop)))
                (Tr.stop))
              (Tr.test (Option.isSome (f60 ((true:Bool),((2:Int),()))))
                (Tr.test (Option.isSome (f60 ((!leF x0'''''''_ x0'''''''_':Bool),((9:Int),()))))
                  (Tr.test (Option.isSome (f60 ((!leF (wrap64 (wrap64 (x0'''''''_' - x0'''''''_) + (1:Int))) (9:Int):Bool),((8:Int),()))))
                    (let r6:=g60 ((!leF x0'''''''_ x0'''''''_':Bool),((9:Int),()));
                    let r7:=g60 ((!leF (wrap64 (wrap64 (x0'''''''_' - x0'''''''_) + (1:Int))) (9:Int):Bool),((8:Int),()));
                    let r9:=g60 ((true:Bool),((2:Int),()));
                    Tr.test (Option.isSome (f59 (([r9.1,r6.1,r7.1]:List Int),())))
                      (let r10:=g59 (([r9.1,r6.1,r7.1]:List Int),());
                      Tr.fin ((r10.1,())))
                      (Tr.stop))
                    (Tr.stop))
                  (Tr.stop))
                (Tr.stop)))
            (Tr.stop))
          (Tr.test (Option.isSome (f60 ((true:Bool),((2:Int),()))))
            (Tr.test (Option.isSome (f60 ((!leF x0'''''''_ x0'''''''_':Bool),((9:Int),()))))
              (Tr.test (Option.isSome (f60 ((!leF (wrap64 (wrap64 (x0'''''''_' - x0'''''''_) + (1:Int))) (9:Int):Bool),((8:Int),()))))
                (let r6:=g60 ((!leF x0'''''''_ x0'''''''_':Bool),((9:Int),()));
                let r7:=g60 ((!leF (wrap64 (wrap64 (x0'''''''_' - x0'''''''_) + (1:Int))) (9:Int):Bool),((8:Int),()));
                let r9:=g60 ((true:Bool),((2:Int),()));
                Tr.test (Option.isSome (f59 (([r9.1,r6.1,r7.1]:List Int),())))
                  (let r10:=g59 (([r9.1,r6.1,r7.1]:List Int),());
                  Tr.fin ((r10.1,())))
                  (Tr.stop))
                (Tr.stop))
              (Tr.stop))
            (Tr.stop)))
        (Tr.stop))
      (Tr.test (Option.isSome (f60 ((true:Bool),((2:Int),()))))
        (Tr.test (Option.isSome (f60 ((!leF x0'''''''_ x0'''''''_':Bool),((9:Int),()))))
          (Tr.test (Option.isSome (f60 ((!leF (wrap64 (wrap64 (x0'''''''_' - x0'''''''_) + (1:Int))) (9:Int):Bool),((8:Int),()))))
            (let r6:=g60 ((!leF x0'''''''_ x0'''''''_':Bool),((9:Int),()));
            let r7:=g60 ((!leF (wrap64 (wrap64 (x0'''''''_' - x0'''''''_) + (1:Int))) (9:Int):Bool),((8:Int),()));
            let r9:=g60 ((true:Bool),((2:Int),()));
            Tr.test (Option.isSome (f59 (([r9.1,r6.1,r7.1]:List Int),())))
              (let r10:=g59 (([r9.1,r6.1,r7.1]:List Int),());
              Tr.fin ((r10.1,())))
              (Tr.stop))
            (Tr.stop))
          (Tr.stop))
        (Tr.stop)))
    (Tr.stop)

def f10 (d:Tys.data as10):Option (Tys.data rs10):=(t10 d.1.1 d.1.2.1 d.1.2.2.1 d.1.2.2.2.1 d.1.2.2.2.2.1 d.1.2.2.2.2.2.1 d.1.2.2.2.2.2.2.1 d.1.2.2.2.2.2.2.2.1.1 d.1.2.2.2.2.2.2.2.1.2.1).val
def g10 (d:Tys.data as10):Tys.data rs10:=(f10 d).getD (Tys.dflt rs10)
def p10:PureC:=pcOf as10 rs10 f10 g10

theorem wk10 (x0:Int) (x0':Int) (x0'':Int) (x0''':Int) (x0'''':Int) (x0''''':Bool) (x0'''''':Int) (x0'''''''_:Int) (x0'''''''_':Int):Walks (runPure (kf58 Go.Proofs.Try.prog).orc Go.Proofs.Try.prog 400 10 as10 rs10 ((x0,x0',x0'',x0''',x0'''',x0''''',x0'''''',(x0'''''''_,x0'''''''_',()),()),())) (t10 x0 x0' x0'' x0''' x0'''' x0''''' x0'''''' x0'''''''_ x0'''''''_') [([true,true,true,true,true,true,true,true,true,true,true,true,true],[2,4,6,8,12,12,10,12,12,12,12,12,12,12,12,16,14,16,16,16,16,20,18,20,20,20,20,24,22,24,24,24,24,24,24,24,24,26]),([true,true,true,true,true,true,true,false,true,true,true,true],[2,4,6,8,10,10,10,10,10,10,10,10,10,10,14,12,14,14,14,14,18,16,18,18,18,18,22,20,22,22,22,22,22,22,22,22,24]),([true,true,true,true,true,false,true,true,true,true],[2,4,6,8,0,0,0,0,0,0,0,0,0,0,10,10,10,10,10,14,12,14,14,14,14,18,16,18,18,18,18,18,18,18,18,20]),([true,true,true,false,true,true,true,true],[2,4,6,8,0,0,0,0,0,0,0,0,0,0,0,0,0,0,0,10,10,10,10,10,14,12,14,14,14,14,14,14,14,14,16]),([true,false,true,true,true,true],[2,4,6,8,0,0,0,0,0,0,0,0,0,0,0,0,0,0,0,0,0,0,0,0,10,10,10,10,10,10,10,10,10,12])] :=
  ⟨by kernel_rfl,by kernel_rfl,by kernel_rfl,by kernel_rfl,by kernel_rfl,trivial⟩

theorem ok10_t (x0:Int) (x0':Int) (x0'':Int) (x0''':Int) (x0'''':Int) (x0''''':Bool) (x0'''''':Int) (x0'''''''_:Int) (x0'''''''_':Int):TrOk (PureRuns Go.Proofs.Try.prog (kf58 Go.Proofs.Try.prog).orc 10 as10 rs10 ((x0,x0',x0'',x0''',x0'''',x0''''',x0'''''',(x0'''''''_,x0'''''''_',()),()),())) (t10 x0 x0' x0'' x0''' x0'''' x0''''' x0'''''' x0'''''''_ x0'''''''_') :=
  Walks.ok (fun _ _ _=>PureRuns.of) (wk10 x0 x0' x0'' x0''' x0'''' x0''''' x0'''''' x0'''''''_ x0'''''''_') (by kernel_rfl)

theorem ok10:PureOk Go.Proofs.Try.prog 10 p10:=pureOk_of kf58_ok.base (T:=fun (d:Tys.data as10)=>t10 d.1.1 d.1.2.1 d.1.2.2.1 d.1.2.2.2.1 d.1.2.2.2.2.1 d.1.2.2.2.2.2.1 d.1.2.2.2.2.2.2.1 d.1.2.2.2.2.2.2.2.1.1 d.1.2.2.2.2.2.2.2.1.2.1) (by kernel_rfl) (fun (d:Tys.data as10)=>ok10_t d.1.1 d.1.2.1 d.1.2.2.1 d.1.2.2.2.1 d.1.2.2.2.2.1 d.1.2.2.2.2.2.1 d.1.2.2.2.2.2.2.1 d.1.2.2.2.2.2.2.2.1.1 d.1.2.2.2.2.2.2.2.1.2.1)
def kf10 (P:Go.Program):Known:=(kf58 P).func 10 p10
theorem kf10_ok:KnownOk Go.Proofs.Try.prog (kf10 Go.Proofs.Try.prog):=kf58_ok.func ok10

/-! ductility/hybrid.testOf -/

abbrev as61:List Ty:=[(.pair (.int .i64) (.pair (.int .i64) (.pair (.int .i64) (.pair (.int .i64) (.pair (.int .i64) (.pair .bool (.pair (.int .i64) (.pair (.pair (.int .i64) (.pair (.int .i64) .unit)) .unit))))))))]
abbrev rs61:List Ty:=[(.pair (.pair (.int .i64) (.pair (.int .i64) (.pair (.int .i64) (.pair (.int .i64) (.pair (.int .i64) (.pair .bool (.pair (.int .i64) (.pair (.pair (.int .i64) (.pair (.int .i64) .unit)) .unit)))))))) .unit),(.int .i64)]

def t61 (x0:Int) (x0':Int) (x0'':Int) (x0''':Int) (x0'''':Int) (x0''''':Bool) (x0'''''':Int) (x0'''''''_:Int) (x0'''''''_':Int):Tr (Tys.data rs61) :=
  Tr.test (Option.isSome (f10 ((x0,(x0',(x0'',(x0''',(x0'''',(x0''''',(x0'''''',((x0'''''''_,(x0'''''''_',())),())))))))),())))
    (let r0:=g10 ((x0,(x0',(x0'',(x0''',(x0'''',(x0''''',(x0'''''',((x0'''''''_,(x0'''''''_',())),())))))))),());
    Tr.test ((!eqF r0.1 0:Bool))
      (Tr.fin (((((0:Int),((0:Int),((0:Int),((0:Int),((0:Int),((false:Bool),((0:Int),(((0:Int),((0:Int),())),())))))))),()),(r0.1,()))))
      (Tr.fin ((((x0,(x0',(x0'',(x0''',(x0'''',(x0''''',(x0'''''',((x0'''''''_,(x0'''''''_',())),())))))))),()),((0:Int),())))))
    (Tr.stop)

def f61 (d:Tys.data as61):Option (Tys.data rs61):=(t61 d.1.1 d.1.2.1 d.1.2.2.1 d.1.2.2.2.1 d.1.2.2.2.2.1 d.1.2.2.2.2.2.1 d.1.2.2.2.2.2.2.1 d.1.2.2.2.2.2.2.2.1.1 d.1.2.2.2.2.2.2.2.1.2.1).val
def g61 (d:Tys.data as61):Tys.data rs61:=(f61 d).getD (Tys.dflt rs61)
def p61:PureC:=pcOf as61 rs61 f61 g61

theorem wk61 (x0:Int) (x0':Int) (x0'':Int) (x0''':Int) (x0'''':Int) (x0''''':Bool) (x0'''''':Int) (x0'''''''_:Int) (x0'''''''_':Int):Walks (runPure (kf10 Go.Proofs.Try.prog).orc Go.Proofs.Try.prog 400 61 as61 rs61 ((x0,x0',x0'',x0''',x0'''',x0''''',x0'''''',(x0'''''''_,x0'''''''_',()),()),())) (t61 x0 x0' x0'' x0''' x0'''' x0''''' x0'''''' x0'''''''_ x0'''''''_') [([true,true],[2,4]),([true,false],[2,4])] :=
  ⟨by kernel_rfl,by kernel_rfl,trivial⟩

theorem ok61_t (x0:Int) (x0':Int) (x0'':Int) (x0''':Int) (x0'''':Int) (x0''''':Bool) (x0'''''':Int) (x0'''''''_:Int) (x0'''''''_':Int):TrOk (PureRuns Go.Proofs.Try.prog (kf10 Go.Proofs.Try.prog).orc 61 as61 rs61 ((x0,x0',x0'',x0''',x0'''',x0''''',x0'''''',(x0'''''''_,x0'''''''_',()),()),())) (t61 x0 x0' x0'' x0''' x0'''' x0''''' x0'''''' x0'''''''_ x0'''''''_') :=
  Walks.ok (fun _ _ _=>PureRuns.of) (wk61 x0 x0' x0'' x0''' x0'''' x0''''' x0'''''' x0'''''''_ x0'''''''_') (by kernel_rfl)

theorem ok61:PureOk Go.Proofs.Try.prog 61 p61:=pureOk_of kf10_ok.base (T:=fun (d:Tys.data as61)=>t61 d.1.1 d.1.2.1 d.1.2.2.1 d.1.2.2.2.1 d.1.2.2.2.2.1 d.1.2.2.2.2.2.1 d.1.2.2.2.2.2.2.1 d.1.2.2.2.2.2.2.2.1.1 d.1.2.2.2.2.2.2.2.1.2.1) (by kernel_rfl) (fun (d:Tys.data as61)=>ok61_t d.1.1 d.1.2.1 d.1.2.2.1 d.1.2.2.2.1 d.1.2.2.2.2.1 d.1.2.2.2.2.2.1 d.1.2.2.2.2.2.2.1 d.1.2.2.2.2.2.2.2.1.1 d.1.2.2.2.2.2.2.2.1.2.1)
def kf61 (P:Go.Program):Known:=(kf10 P).func 61 p61
theorem kf61_ok:KnownOk Go.Proofs.Try.prog (kf61 Go.Proofs.Try.prog):=kf10_ok.func ok61

/-! (ductility/hybrid.test).forcesError -/

abbrev as71:List Ty:=[(.pair (.pair (.int .i64) (.pair (.int .i64) (.pair (.int .i64) (.pair (.int .i64) (.pair (.int .i64) (.pair .bool (.pair (.int .i64) (.pair (.pair (.int .i64) (.pair (.int .i64) .unit)) .unit)))))))) .unit),(.slice (.int .i64))]
abbrev rs71:List Ty:=[(.int .i64)]

def t71 (x0_:Int) (x0_':Int) (x0_'':Int) (x0_''':Int) (x0_'''':Int) (x0_''''':Bool) (x0_'''''':Int) (x0_'''''''_:Int) (x0_'''''''_':Int) (x1:(List Int)):Tr (Tys.data rs71) :=
  Tr.test (Option.isSome (f60 ((!leF (↑(List.length x1):Int) (60:Int):Bool),((8:Int),()))))
    (Tr.test (Option.isSome (f57 (x0_'''''''_,(x0_'''''''_',(x1,())))))
      (let r1:=g57 (x0_'''''''_,(x0_'''''''_',(x1,())));
      Tr.test (Option.isSome (f60 ((!r1.1:Bool),((2:Int),()))))
        (let r0:=g60 ((!leF (↑(List.length x1):Int) (60:Int):Bool),((8:Int),()));
        let r2:=g60 ((!r1.1:Bool),((2:Int),()));
        Tr.test (Option.isSome (f59 (([r0.1,r2.1]:List Int),())))
          (let r3:=g59 (([r0.1,r2.1]:List Int),());
          Tr.fin ((r3.1,())))
          (Tr.stop))
        (Tr.stop))
      (Tr.stop))
    (Tr.stop)

def f71 (d:Tys.data as71):Option (Tys.data rs71):=(t71 d.1.1.1 d.1.1.2.1 d.1.1.2.2.1 d.1.1.2.2.2.1 d.1.1.2.2.2.2.1 d.1.1.2.2.2.2.2.1 d.1.1.2.2.2.2.2.2.1 d.1.1.2.2.2.2.2.2.2.1.1 d.1.1.2.2.2.2.2.2.2.1.2.1 d.2.1).val
def g71 (d:Tys.data as71):Tys.data rs71:=(f71 d).getD (Tys.dflt rs71)
def p71:PureC:=pcOf as71 rs71 f71 g71

theorem wk71 (x0_:Int) (x0_':Int) (x0_'':Int) (x0_''':Int) (x0_'''':Int) (x0_''''':Bool) (x0_'''''':Int) (x0_'''''''_:Int) (x0_'''''''_':Int) (x1:(List Int)):Walks (runPure (kf61 Go.Proofs.Try.prog).orc Go.Proofs.Try.prog 400 71 as71 rs71 (((x0_,x0_',x0_'',x0_''',x0_'''',x0_''''',x0_'''''',(x0_'''''''_,x0_'''''''_',()),()),()),x1,())) (t71 x0_ x0_' x0_'' x0_''' x0_'''' x0_''''' x0_'''''' x0_'''''''_ x0_'''''''_' x1) [([true,true,true,true],[2,4,6,8])] :=
  ⟨by kernel_rfl,trivial⟩

theorem ok71_t (x0_:Int) (x0_':Int) (x0_'':Int) (x0_''':Int) (x0_'''':Int) (x0_''''':Bool) (x0_'''''':Int) (x0_'''''''_:Int) (x0_'''''''_':Int) (x1:(List Int)):TrOk (PureRuns Go.Proofs.Try.prog (kf61 Go.Proofs.Try.prog).orc 71 as71 rs71 (((x0_,x0_',x0_'',x0_''',x0_'''',x0_''''',x0_'''''',(x0_'''''''_,x0_'''''''_',()),()),()),x1,())) (t71 x0_ x0_' x0_'' x0_''' x0_'''' x0_''''' x0_'''''' x0_'''''''_ x0_'''''''_' x1) :=
  Walks.ok (fun _ _ _=>PureRuns.of) (wk71 x0_ x0_' x0_'' x0_''' x0_'''' x0_''''' x0_'''''' x0_'''''''_ x0_'''''''_' x1) (by kernel_rfl)

theorem ok71:PureOk Go.Proofs.Try.prog 71 p71:=pureOk_of kf61_ok.base (T:=fun (d:Tys.data as71)=>t71 d.1.1.1 d.1.1.2.1 d.1.1.2.2.1 d.1.1.2.2.2.1 d.1.1.2.2.2.2.1 d.1.1.2.2.2.2.2.1 d.1.1.2.2.2.2.2.2.1 d.1.1.2.2.2.2.2.2.2.1.1 d.1.1.2.2.2.2.2.2.2.1.2.1 d.2.1) (by kernel_rfl) (fun (d:Tys.data as71)=>ok71_t d.1.1.1 d.1.1.2.1 d.1.1.2.2.1 d.1.1.2.2.2.1 d.1.1.2.2.2.2.1 d.1.1.2.2.2.2.2.1 d.1.1.2.2.2.2.2.2.1 d.1.1.2.2.2.2.2.2.2.1.1 d.1.1.2.2.2.2.2.2.2.1.2.1 d.2.1)
def kf71 (P:Go.Program):Known:=(kf61 P).func 71 p71
theorem kf71_ok:KnownOk Go.Proofs.Try.prog (kf71 Go.Proofs.Try.prog):=kf61_ok.func ok71

/-! (ductility/hybrid.test).asDisplaced -/

abbrev as93:List Ty:=[(.pair (.pair (.int .i64) (.pair (.int .i64) (.pair (.int .i64) (.pair (.int .i64) (.pair (.int .i64) (.pair .bool (.pair (.int .i64) (.pair (.pair (.int .i64) (.pair (.int .i64) .unit)) .unit)))))))) .unit),(.int .i64),(.int .i64)]
abbrev rs93:List Ty:=[(.int .i64)]

def t93 (x0_:Int) (x0_':Int) (x0_'':Int) (x0_''':Int) (x0_'''':Int) (x0_''''':Bool) (x0_'''''':Int) (x0_'''''''_:Int) (x0_'''''''_':Int) (x1:Int) (x2:Int):Tr (Tys.data rs93) :=
  Tr.fin ((x1,()))

def f93 (d:Tys.data as93):Option (Tys.data rs93):=(t93 d.1.1.1 d.1.1.2.1 d.1.1.2.2.1 d.1.1.2.2.2.1 d.1.1.2.2.2.2.1 d.1.1.2.2.2.2.2.1 d.1.1.2.2.2.2.2.2.1 d.1.1.2.2.2.2.2.2.2.1.1 d.1.1.2.2.2.2.2.2.2.1.2.1 d.2.1 d.2.2.1).val
def g93 (d:Tys.data as93):Tys.data rs93:=(f93 d).getD (Tys.dflt rs93)
def p93:PureC:=pcOf as93 rs93 f93 g93

theorem wk93 (x0_:Int) (x0_':Int) (x0_'':Int) (x0_''':Int) (x0_'''':Int) (x0_''''':Bool) (x0_'''''':Int) (x0_'''''''_:Int) (x0_'''''''_':Int) (x1:Int) (x2:Int):Walks (runPure (kf71 Go.Proofs.Try.prog).orc Go.Proofs.Try.prog 400 93 as93 rs93 (((x0_,x0_',x0_'',x0_''',x0_'''',x0_''''',x0_'''''',(x0_'''''''_,x0_'''''''_',()),()),()),x1,x2,())) (t93 x0_ x0_' x0_'' x0_''' x0_'''' x0_''''' x0_'''''' x0_'''''''_ x0_'''''''_' x1 x2) [([],[])] :=
  ⟨by kernel_rfl,trivial⟩

theorem ok93_t (x0_:Int) (x0_':Int) (x0_'':Int) (x0_''':Int) (x0_'''':Int) (x0_''''':Bool) (x0_'''''':Int) (x0_'''''''_:Int) (x0_'''''''_':Int) (x1:Int) (x2:Int):TrOk (PureRuns Go.Proofs.Try.prog (kf71 Go.Proofs.Try.prog).orc 93 as93 rs93 (((x0_,x0_',x0_'',x0_''',x0_'''',x0_''''',x0_'''''',(x0_'''''''_,x0_'''''''_',()),()),()),x1,x2,())) (t93 x0_ x0_' x0_'' x0_''' x0_'''' x0_''''' x0_'''''' x0_'''''''_ x0_'''''''_' x1 x2) :=
  Walks.ok (fun _ _ _=>PureRuns.of) (wk93 x0_ x0_' x0_'' x0_''' x0_'''' x0_''''' x0_'''''' x0_'''''''_ x0_'''''''_' x1 x2) (by kernel_rfl)

theorem ok93:PureOk Go.Proofs.Try.prog 93 p93:=pureOk_of kf71_ok.base (T:=fun (d:Tys.data as93)=>t93 d.1.1.1 d.1.1.2.1 d.1.1.2.2.1 d.1.1.2.2.2.1 d.1.1.2.2.2.2.1 d.1.1.2.2.2.2.2.1 d.1.1.2.2.2.2.2.2.1 d.1.1.2.2.2.2.2.2.2.1.1 d.1.1.2.2.2.2.2.2.2.1.2.1 d.2.1 d.2.2.1) (by kernel_rfl) (fun (d:Tys.data as93)=>ok93_t d.1.1.1 d.1.1.2.1 d.1.1.2.2.1 d.1.1.2.2.2.1 d.1.1.2.2.2.2.1 d.1.1.2.2.2.2.2.1 d.1.1.2.2.2.2.2.2.1 d.1.1.2.2.2.2.2.2.2.1.1 d.1.1.2.2.2.2.2.2.2.1.2.1 d.2.1 d.2.2.1)
def kf93 (P:Go.Program):Known:=(kf71 P).func 93 p93
theorem kf93_ok:KnownOk Go.Proofs.Try.prog (kf93 Go.Proofs.Try.prog):=kf71_ok.func ok93

/-! (ductility/hybrid.test).ahead -/

abbrev as94:List Ty:=[(.pair (.pair (.int .i64) (.pair (.int .i64) (.pair (.int .i64) (.pair (.int .i64) (.pair (.int .i64) (.pair .bool (.pair (.int .i64) (.pair (.pair (.int .i64) (.pair (.int .i64) .unit)) .unit)))))))) .unit),(.int .i64),(.int .i64)]
abbrev rs94:List Ty:=[(.int .i64)]

def t94 (x0_:Int) (x0_':Int) (x0_'':Int) (x0_''':Int) (x0_'''':Int) (x0_''''':Bool) (x0_'''''':Int) (x0_'''''''_:Int) (x0_'''''''_':Int) (x1:Int) (x2:Int):Tr (Tys.data rs94) :=
  Tr.fin (((wrap64 (x1 + wrap64 (x0_'''' * wrap64 (x1 - x2))):Int),()))

def f94 (d:Tys.data as94):Option (Tys.data rs94):=(t94 d.1.1.1 d.1.1.2.1 d.1.1.2.2.1 d.1.1.2.2.2.1 d.1.1.2.2.2.2.1 d.1.1.2.2.2.2.2.1 d.1.1.2.2.2.2.2.2.1 d.1.1.2.2.2.2.2.2.2.1.1 d.1.1.2.2.2.2.2.2.2.1.2.1 d.2.1 d.2.2.1).val
def g94 (d:Tys.data as94):Tys.data rs94:=(f94 d).getD (Tys.dflt rs94)
def p94:PureC:=pcOf as94 rs94 f94 g94

theorem wk94 (x0_:Int) (x0_':Int) (x0_'':Int) (x0_''':Int) (x0_'''':Int) (x0_''''':Bool) (x0_'''''':Int) (x0_'''''''_:Int) (x0_'''''''_':Int) (x1:Int) (x2:Int):Walks (runPure (kf93 Go.Proofs.Try.prog).orc Go.Proofs.Try.prog 400 94 as94 rs94 (((x0_,x0_',x0_'',x0_''',x0_'''',x0_''''',x0_'''''',(x0_'''''''_,x0_'''''''_',()),()),()),x1,x2,())) (t94 x0_ x0_' x0_'' x0_''' x0_'''' x0_''''' x0_'''''' x0_'''''''_ x0_'''''''_' x1 x2) [([],[])] :=
  ⟨by kernel_rfl,trivial⟩

theorem ok94_t (x0_:Int) (x0_':Int) (x0_'':Int) (x0_''':Int) (x0_'''':Int) (x0_''''':Bool) (x0_'''''':Int) (x0_'''''''_:Int) (x0_'''''''_':Int) (x1:Int) (x2:Int):TrOk (PureRuns Go.Proofs.Try.prog (kf93 Go.Proofs.Try.prog).orc 94 as94 rs94 (((x0_,x0_',x0_'',x0_''',x0_'''',x0_''''',x0_'''''',(x0_'''''''_,x0_'''''''_',()),()),()),x1,x2,())) (t94 x0_ x0_' x0_'' x0_''' x0_'''' x0_''''' x0_'''''' x0_'''''''_ x0_'''''''_' x1 x2) :=
  Walks.ok (fun _ _ _=>PureRuns.of) (wk94 x0_ x0_' x0_'' x0_''' x0_'''' x0_''''' x0_'''''' x0_'''''''_ x0_'''''''_' x1 x2) (by kernel_rfl)

theorem ok94:PureOk Go.Proofs.Try.prog 94 p94:=pureOk_of kf93_ok.base (T:=fun (d:Tys.data as94)=>t94 d.1.1.1 d.1.1.2.1 d.1.1.2.2.1 d.1.1.2.2.2.1 d.1.1.2.2.2.2.1 d.1.1.2.2.2.2.2.1 d.1.1.2.2.2.2.2.2.1 d.1.1.2.2.2.2.2.2.2.1.1 d.1.1.2.2.2.2.2.2.2.1.2.1 d.2.1 d.2.2.1) (by kernel_rfl) (fun (d:Tys.data as94)=>ok94_t d.1.1.1 d.1.1.2.1 d.1.1.2.2.1 d.1.1.2.2.2.1 d.1.1.2.2.2.2.1 d.1.1.2.2.2.2.2.1 d.1.1.2.2.2.2.2.2.1 d.1.1.2.2.2.2.2.2.2.1.1 d.1.1.2.2.2.2.2.2.2.1.2.1 d.2.1 d.2.2.1)
def kf94 (P:Go.Program):Known:=(kf93 P).func 94 p94
theorem kf94_ok:KnownOk Go.Proofs.Try.prog (kf94 Go.Proofs.Try.prog):=kf93_ok.func ok94

/-! (ductility/hybrid.test).commanded -/

abbrev as63:List Ty:=[(.pair (.pair (.int .i64) (.pair (.int .i64) (.pair (.int .i64) (.pair (.int .i64) (.pair (.int .i64) (.pair .bool (.pair (.int .i64) (.pair (.pair (.int .i64) (.pair (.int .i64) .unit)) .unit)))))))) .unit),(.pair (.int .i64) (.pair (.int .i64) (.pair (.int .i64) (.pair (.int .i64) .unit)))),(.int .i64)]
abbrev rs63:List Ty:=[(.int .i64)]

def t63 (x0_:Int) (x0_':Int) (x0_'':Int) (x0_''':Int) (x0_'''':Int) (x0_''''':Bool) (x0_'''''':Int) (x0_'''''''_:Int) (x0_'''''''_':Int) (x1:Int) (x1':Int) (x1'':Int) (x1''':Int) (x2:Int):Tr (Tys.data rs63) :=
  Tr.test (x0_''''')
    (Tr.test (decide ((0:Int) ≤ x2) && decide (x2 < (4:Int)))
      (Tr.test ((Nat.ble ((0:Nat) + Int.toNat x2 * (1:Nat) + (1:Nat)) (4:Nat):Bool))
        (Tr.test ((decide ((0:Int) ≤ wrap64 (x2 + (1:Int))) && decide (wrap64 (x2 + (1:Int)) < (4:Int)):Bool))
          (Tr.test ((Nat.ble ((0:Nat) + Int.toNat (wrap64 (x2 + (1:Int))) * (1:Nat) + (1:Nat)) (4:Nat):Bool))
            (Tr.test (Option.isSome (f94 (((x0_,(x0_',(x0_'',(x0_''',(x0_'''',(x0_''''',(x0_'''''',((x0_'''''''_,(x0_'''''''_',())),())))))))),()),((List.getD [x1,x1',x1'',x1'''] ((0:Nat) + Int.toNat x2 * (1:Nat)) (0:Int):Int),((List.getD [x1,x1',x1'',x1'''] ((0:Nat) + Int.toNat (wrap64 (x2 + (1:Int))) * (1:Nat)) (0:Int):Int),())))))
              (let r0:=g94 (((x0_,(x0_',(x0_'',(x0_''',(x0_'''',(x0_''''',(x0_'''''',((x0_'''''''_,(x0_'''''''_',())),())))))))),()),((List.getD [x1,x1',x1'',x1'''] ((0:Nat) + Int.toNat x2 * (1:Nat)) (0:Int):Int),((List.getD [x1,x1',x1'',x1'''] ((0:Nat) + Int.toNat (wrap64 (x2 + (1:Int))) * (1:Nat)) (0:Int):Int),())));
              Tr.fin ((r0.1,())))
              (Tr.stop))
            (Tr.stop))
          (Tr.stop))
        (Tr.stop))
      (Tr.stop))
    (Tr.test (decide ((0:Int) ≤ x2) && decide (x2 < (4:Int)))
      (Tr.test ((Nat.ble ((0:Nat) + Int.toNat x2 * (1:Nat) + (1:Nat)) (4:Nat):Bool))
        (Tr.test ((decide ((0:Int) ≤ wrap64 (x2 + (1:Int))) && decide (wrap64 (x2 + (1:Int)) < (4:Int)):Bool))
          (Tr.test ((Nat.ble ((0:Nat) + Int.toNat (wrap64 (x2 + (1:Int))) * (1:Nat) + (1:Nat)) (4:Nat):Bool))
            (Tr.test (Option.isSome (f93 (((x0_,(x0_',(x0_'',(x0_''',(x0_'''',(x0_''''',(x0_'''''',((x0_'''''''_,(x0_'''''''_',())),())))))))),()),((List.getD [x1,x1',x1'',x1'''] ((0:Nat) + Int.toNat x2 * (1:Nat)) (0:Int):Int),((List.getD [x1,x1',x1'',x1'''] ((0:Nat) + Int.toNat (wrap64 (x2 + (1:Int))) * (1:Nat)) (0:Int):Int),())))))
              (let r1:=g93 (((x0_,(x0_',(x0_'',(x0_''',(x0_'''',(x0_''''',(x0_'''''',((x0_'''''''_,(x0_'''''''_',())),())))))))),()),((List.getD [x1,x1',x1'',x1'''] ((0:Nat) + Int.toNat x2 * (1:Nat)) (0:Int):Int),((List.getD [x1,x1',x1'',x1'''] ((0:Nat) + Int.toNat (wrap64 (x2 + (1:Int))) * (1:Nat)) (0:Int):Int),())));
              Tr.fin ((r1.1,())))
              (Tr.stop))
            (Tr.stop))
          (Tr.stop))
        (Tr.stop))
      (Tr.stop))

def f63 (d:Tys.data as63):Option (Tys.data rs63):=(t63 d.1.1.1 d.1.1.2.1 d.1.1.2.2.1 d.1.1.2.2.2.1 d.1.1.2.2.2.2.1 d.1.1.2.2.2.2.2.1 d.1.1.2.2.2.2.2.2.1 d.1.1.2.2.2.2.2.2.2.1.1 d.1.1.2.2.2.2.2.2.2.1.2.1 d.2.1.1 d.2.1.2.1 d.2.1.2.2.1 d.2.1.2.2.2.1 d.2.2.1).val
def g63 (d:Tys.data as63):Tys.data rs63:=(f63 d).getD (Tys.dflt rs63)
def p63:PureC:=pcOf as63 rs63 f63 g63

theorem wk63 (x0_:Int) (x0_':Int) (x0_'':Int) (x0_''':Int) (x0_'''':Int) (x0_''''':Bool) (x0_'''''':Int) (x0_'''''''_:Int) (x0_'''''''_':Int) (x1:Int) (x1':Int) (x1'':Int) (x1''':Int) (x2:Int):Walks (runPure (kf94 Go.Proofs.Try.prog).orc Go.Proofs.Try.prog 400 63 as63 rs63 (((x0_,x0_',x0_'',x0_''',x0_'''',x0_''''',x0_'''''',(x0_'''''''_,x0_'''''''_',()),()),()),(x1,x1',x1'',x1''',()),x2,())) (t63 x0_ x0_' x0_'' x0_''' x0_'''' x0_''''' x0_'''''' x0_'''''''_ x0_'''''''_' x1 x1' x1'' x1''' x2) [([true,true,true,true,true,true],[2,4,6,8,10,12]),([false,true,true,true,true,true],[2,4,6,8,10,12])] :=
  ⟨by kernel_rfl,by kernel_rfl,trivial⟩

theorem ok63_t (x0_:Int) (x0_':Int) (x0_'':Int) (x0_''':Int) (x0_'''':Int) (x0_''''':Bool) (x0_'''''':Int) (x0_'''''''_:Int) (x0_'''''''_':Int) (x1:Int) (x1':Int) (x1'':Int) (x1''':Int) (x2:Int):TrOk (PureRuns Go.Proofs.Try.prog (kf94 Go.Proofs.Try.prog).orc 63 as63 rs63 (((x0_,x0_',x0_'',x0_''',x0_'''',x0_''''',x0_'''''',(x0_'''''''_,x0_'''''''_',()),()),()),(x1,x1',x1'',x1''',()),x2,())) (t63 x0_ x0_' x0_'' x0_''' x0_'''' x0_''''' x0_'''''' x0_'''''''_ x0_'''''''_' x1 x1' x1'' x1''' x2) :=
  Walks.ok (fun _ _ _=>PureRuns.of) (wk63 x0_ x0_' x0_'' x0_''' x0_'''' x0_''''' x0_'''''' x0_'''''''_ x0_'''''''_' x1 x1' x1'' x1''' x2) (by kernel_rfl)

theorem ok63:PureOk Go.Proofs.Try.prog 63 p63:=pureOk_of kf94_ok.base (T:=fun (d:Tys.data as63)=>t63 d.1.1.1 d.1.1.2.1 d.1.1.2.2.1 d.1.1.2.2.2.1 d.1.1.2.2.2.2.1 d.1.1.2.2.2.2.2.1 d.1.1.2.2.2.2.2.2.1 d.1.1.2.2.2.2.2.2.2.1.1 d.1.1.2.2.2.2.2.2.2.1.2.1 d.2.1.1 d.2.1.2.1 d.2.1.2.2.1 d.2.1.2.2.2.1 d.2.2.1) (by kernel_rfl) (fun (d:Tys.data as63)=>ok63_t d.1.1.1 d.1.1.2.1 d.1.1.2.2.1 d.1.1.2.2.2.1 d.1.1.2.2.2.2.1 d.1.1.2.2.2.2.2.1 d.1.1.2.2.2.2.2.2.1 d.1.1.2.2.2.2.2.2.2.1.1 d.1.1.2.2.2.2.2.2.2.1.2.1 d.2.1.1 d.2.1.2.1 d.2.1.2.2.1 d.2.1.2.2.2.1 d.2.2.1)
def kf63 (P:Go.Program):Known:=(kf94 P).func 63 p63
theorem kf63_ok:KnownOk Go.Proofs.Try.prog (kf63 Go.Proofs.Try.prog):=kf94_ok.func ok63

/-! (ductility/hybrid.test).actuators -/

abbrev as65:List Ty:=[(.pair (.pair (.int .i64) (.pair (.int .i64) (.pair (.int .i64) (.pair (.int .i64) (.pair (.int .i64) (.pair .bool (.pair (.int .i64) (.pair (.pair (.int .i64) (.pair (.int .i64) .unit)) .unit)))))))) .unit),(.pair (.int .i64) (.pair (.int .i64) (.pair (.int .i64) (.pair (.int .i64) .unit))))]
abbrev rs65:List Ty:=[(.int .i64)]

def t65 (x0_:Int) (x0_':Int) (x0_'':Int) (x0_''':Int) (x0_'''':Int) (x0_''''':Bool) (x0_'''''':Int) (x0_'''''''_:Int) (x0_'''''''_':Int) (x1:Int) (x1':Int) (x1'':Int) (x1''':Int):Tr (Tys.data rs65) :=
  Tr.test (Option.isSome (f63 (((x0_,(x0_',(x0_'',(x0_''',(x0_'''',(x0_''''',(x0_'''''',((x0_'''''''_,(x0_'''''''_',())),())))))))),()),((x1,(x1',(x1'',(x1''',())))),(x0_'''',())))))
    (let r0:=g63 (((x0_,(x0_',(x0_'',(x0_''',(x0_'''',(x0_''''',(x0_'''''',((x0_'''''''_,(x0_'''''''_',())),())))))))),()),((x1,(x1',(x1'',(x1''',())))),(x0_'''',())));
    Tr.fin ((r0.1,())))
    (Tr.stop)

def f65 (d:Tys.data as65):Option (Tys.data rs65):=(t65 d.1.1.1 d.1.1.2.1 d.1.1.2.2.1 d.1.1.2.2.2.1 d.1.1.2.2.2.2.1 d.1.1.2.2.2.2.2.1 d.1.1.2.2.2.2.2.2.1 d.1.1.2.2.2.2.2.2.2.1.1 d.1.1.2.2.2.2.2.2.2.1.2.1 d.2.1.1 d.2.1.2.1 d.2.1.2.2.1 d.2.1.2.2.2.1).val
def g65 (d:Tys.data as65):Tys.data rs65:=(f65 d).getD (Tys.dflt rs65)
def p65:PureC:=pcOf as65 rs65 f65 g65

theorem wk65 (x0_:Int) (x0_':Int) (x0_'':Int) (x0_''':Int) (x0_'''':Int) (x0_''''':Bool) (x0_'''''':Int) (x0_'''''''_:Int) (x0_'''''''_':Int) (x1:Int) (x1':Int) (x1'':Int) (x1''':Int):Walks (runPure (kf63 Go.Proofs.Try.prog).orc Go.Proofs.Try.prog 400 65 as65 rs65 (((x0_,x0_',x0_'',x0_''',x0_'''',x0_''''',x0_'''''',(x0_'''''''_,x0_'''''''_',()),()),()),(x1,x1',x1'',x1''',()),())) (t65 x0_ x0_' x0_'' x0_''' x0_'''' x0_''''' x0_'''''' x0_'''''''_ x0_'''''''_' x1 x1' x1'' x1''') [([tt],[2])] :=
  ⟨by kernel_rfl,trivial⟩

theorem ok65_t (x0_:Int) (x0_':Int) (x0_'':Int) (x0_''':Int) (x0_'''':Int) (x0_''''':Bool) (x0_'''''':Int) (x0_'''''''_:Int) (x0_'''''''_':Int) (x1:Int) (x1':Int) (x1'':Int) (x1''':Int):TrOk (PureRuns Go.Proofs.Try.prog (kf63 Go.Proofs.Try.prog).orc 65 as65 rs65 (((x0_,x0_',x0_'',x0_''',x0_'''',x0_''''',x0_'''''',(x0_'''''''_,x0_'''''''_',()),()),()),(x1,x1',x1'',x1''',()),())) (t65 x0_ x0_' x0_'' x0_''' x0_'''' x0_''''' x0_'''''' x0_'''''''_ x0_'''''''_' x1 x1' x1'' x1''') :=
  Walks.ok (fun _ _ _=>PureRuns.of) (wk65 x0_ x0_' x0_'' x0_''' x0_'''' x0_''''' x0_'''''' x0_'''''''_ x0_'''''''_' x1 x1' x1'' x1''') (by kernel_rfl)

theorem ok65:PureOk Go.Proofs.Try.prog 65 p65:=pureOk_of kf63_ok.base (T:=fun (d:Tys.data as65)=>t65 d.1.1.1 d.1.1.2.1 d.1.1.2.2.1 d.1.1.2.2.2.1 d.1.1.2.2.2.2.1 d.1.1.2.2.2.2.2.1 d.1.1.2.2.2.2.2.2.1 d.1.1.2.2.2.2.2.2.2.1.1 d.1.1.2.2.2.2.2.2.2.1.2.1 d.2.1.1 d.2.1.2.1 d.2.1.2.2.1 d.2.1.2.2.2.1) (by kernel_rfl) (fun (d:Tys.data as65)=>ok65_t d.1.1.1 d.1.1.2.1 d.1.1.2.2.1 d.1.1.2.2.2.1 d.1.1.2.2.2.2.1 d.1.1.2.2.2.2.2.1 d.1.1.2.2.2.2.2.2.1 d.1.1.2.2.2.2.2.2.2.1.1 d.1.1.2.2.2.2.2.2.2.1.2.1 d.2.1.1 d.2.1.2.1 d.2.1.2.2.1 d.2.1.2.2.2.1)
def kf65 (P:Go.Program):Known:=(kf63 P).func 65 p65
theorem kf65_ok:KnownOk Go.Proofs.Try.prog (kf65 Go.Proofs.Try.prog):=kf63_ok.func ok65

/-! ductility/hybrid.down -/

abbrev as95:List Ty:=[(.int .i64),(.int .i64)]
abbrev rs95:List Ty:=[(.int .i64)]

def t95 (x0:Int) (x1:Int):Tr (Tys.data rs95) :=
  Tr.test ((x1 == (0:Int):Bool))
    (Tr.stop)
    (Tr.test (!leF (0:Int) (Int.tmod x0 x1))
      (Tr.fin (((wrap64 (Go.IntKind.wrap Go.IntKind.i64 (Int.tdiv x0 x1) - (1:Int)):Int),())))
      (Tr.fin (((Go.IntKind.wrap Go.IntKind.i64 (Int.tdiv x0 x1):Int),()))))

def f95 (d:Tys.data as95):Option (Tys.data rs95):=(t95 d.1 d.2.1).val
def g95 (d:Tys.data as95):Tys.data rs95:=(f95 d).getD (Tys.dflt rs95)
def p95:PureC:=pcOf as95 rs95 f95 g95

theorem wk95 (x0:Int) (x1:Int):Walks (runPure (kf65 Go.Proofs.Try.prog).orc Go.Proofs.Try.prog 400 95 as95 rs95 (x0,x1,())) (t95 x0 x1) [([false,true],[4,2,4]),([false,false],[4,2,4])] :=
  ⟨by kernel_rfl,by kernel_rfl,trivial⟩

theorem ok95_t (x0:Int) (x1:Int):TrOk (PureRuns Go.Proofs.Try.prog (kf65 Go.Proofs.Try.prog).orc 95 as95 rs95 (x0,x1,())) (t95 x0 x1) :=
  Walks.ok (fun _ _ _=>PureRuns.of) (wk95 x0 x1) (by kernel_rfl)

theorem ok95:PureOk Go.Proofs.Try.prog 95 p95:=pureOk_of kf65_ok.base (T:=fun (d:Tys.data as95)=>t95 d.1 d.2.1) (by kernel_rfl) (fun (d:Tys.data as95)=>ok95_t d.1 d.2.1)
def kf95 (P:Go.Program):Known:=(kf65 P).func 95 p95
theorem kf95_ok:KnownOk Go.Proofs.Try.prog (kf95 Go.Proofs.Try.prog):=kf65_ok.func ok95

/-! (ductility/hybrid.test).moved -/

abbrev as66:List Ty:=[(.pair (.pair (.int .i64) (.pair (.int .i64) (.pair (.int .i64) (.pair (.int .i64) (.pair (.int .i64) (.pair .bool (.pair (.int .i64) (.pair (.pair (.int .i64) (.pair (.int .i64) .unit)) .unit)))))))) .unit),(.pair (.int .i64) (.pair (.int .i64) (.pair (.int .i64) (.pair (.int .i64) .unit)))),(.int .i64)]
abbrev rs66:List Ty:=[(.int .i64)]

def t66 (x0_:Int) (x0_':Int) (x0_'':Int) (x0_''':Int) (x0_'''':Int) (x0_''''':Bool) (x0_'''''':Int) (x0_'''''''_:Int) (x0_'''''''_':Int) (x1:Int) (x1':Int) (x1'':Int) (x1''':Int) (x2:Int):Tr (Tys.data rs66) :=
  Tr.test (Option.isSome (f65 (((x0_,(x0_',(x0_'',(x0_''',(x0_'''',(x0_''''',(x0_'''''',((x0_'''''''_,(x0_'''''''_',())),())))))))),()),((x1,(x1',(x1'',(x1''',())))),()))))
    (let r0:=g65 (((x0_,(x0_',(x0_'',(x0_''',(x0_'''',(x0_''''',(x0_'''''',((x0_'''''''_,(x0_'''''''_',())),())))))))),()),((x1,(x1',(x1'',(x1''',())))),()));
    Tr.test (Option.isSome (f95 ((wrap64 (wrap64 (wrap64 (x2 - wrap64 (x0_' * wrap64 (x1 - x1'))) - wrap64 (x0_'' * x1)) - wrap64 (x0_''' * r0.1)):Int),(x0_,()))))
      (let r1:=g95 ((wrap64 (wrap64 (wrap64 (x2 - wrap64 (x0_' * wrap64 (x1 - x1'))) - wrap64 (x0_'' * x1)) - wrap64 (x0_''' * r0.1)):Int),(x0_,()));
      Tr.fin (((wrap64 (wrap64 (x1 + wrap64 (x1 - x1')) + r1.1):Int),())))
      (Tr.stop))
    (Tr.stop)

def f66 (d:Tys.data as66):Option (Tys.data rs66):=(t66 d.1.1.1 d.1.1.2.1 d.1.1.2.2.1 d.1.1.2.2.2.1 d.1.1.2.2.2.2.1 d.1.1.2.2.2.2.2.1 d.1.1.2.2.2.2.2.2.1 d.1.1.2.2.2.2.2.2.2.1.1 d.1.1.2.2.2.2.2.2.2.1.2.1 d.2.1.1 d.2.1.2.1 d.2.1.2.2.1 d.2.1.2.2.2.1 d.2.2.1).val
def g66 (d:Tys.data as66):Tys.data rs66:=(f66 d).getD (Tys.dflt rs66)
def p66:PureC:=pcOf as66 rs66 f66 g66

theorem wk66 (x0_:Int) (x0_':Int) (x0_'':Int) (x0_''':Int) (x0_'''':Int) (x0_''''':Bool) (x0_'''''':Int) (x0_'''''''_:Int) (x0_'''''''_':Int) (x1:Int) (x1':Int) (x1'':Int) (x1''':Int) (x2:Int):Walks (runPure (kf95 Go.Proofs.Try.prog).orc Go.Proofs.Try.prog 400 66 as66 rs66 (((x0_,x0_',x0_'',x0_''',x0_'''',x0_''''',x0_'''''',(x0_'''''''_,x0_'''''''_',()),()),()),(x1,x1',x1'',x1''',()),x2,())) (t66 x0_ x0_' x0_'' x0_''' x0_'''' x0_''''' x0_'''''' x0_'''''''_ x0_'''''''_' x1 x1' x1'' x1''' x2) [([true,true],[2,1,1,4,1,1,1,1,1,1])] :=
  ⟨by kernel_rfl,trivial⟩

theorem ok66_t (x0_:Int) (x0_':Int) (x0_'':Int) (x0_''':Int) (x0_'''':Int) (x0_''''':Bool) (x0_'''''':Int) (x0_'''''''_:Int) (x0_'''''''_':Int) (x1:Int) (x1':Int) (x1'':Int) (x1''':Int) (x2:Int):TrOk (PureRuns Go.Proofs.Try.prog (kf95 Go.Proofs.Try.prog).orc 66 as66 rs66 (((x0_,x0_',x0_'',x0_''',x0_'''',x0_''''',x0_'''''',(x0_'''''''_,x0_'''''''_',()),()),()),(x1,x1',x1'',x1''',()),x2,())) (t66 x0_ x0_' x0_'' x0_''' x0_'''' x0_''''' x0_'''''' x0_'''''''_ x0_'''''''_' x1 x1' x1'' x1''' x2) :=
  Walks.ok (fun _ _ _=>PureRuns.of) (wk66 x0_ x0_' x0_'' x0_''' x0_'''' x0_''''' x0_'''''' x0_'''''''_ x0_'''''''_' x1 x1' x1'' x1''' x2) (by kernel_rfl)

theorem ok66:PureOk Go.Proofs.Try.prog 66 p66:=pureOk_of kf95_ok.base (T:=fun (d:Tys.data as66)=>t66 d.1.1.1 d.1.1.2.1 d.1.1.2.2.1 d.1.1.2.2.2.1 d.1.1.2.2.2.2.1 d.1.1.2.2.2.2.2.1 d.1.1.2.2.2.2.2.2.1 d.1.1.2.2.2.2.2.2.2.1.1 d.1.1.2.2.2.2.2.2.2.1.2.1 d.2.1.1 d.2.1.2.1 d.2.1.2.2.1 d.2.1.2.2.2.1 d.2.2.1) (by kernel_rfl) (fun (d:Tys.data as66)=>ok66_t d.1.1.1 d.1.1.2.1 d.1.1.2.2.1 d.1.1.2.2.2.1 d.1.1.2.2.2.2.1 d.1.1.2.2.2.2.2.1 d.1.1.2.2.2.2.2.2.1 d.1.1.2.2.2.2.2.2.2.1.1 d.1.1.2.2.2.2.2.2.2.1.2.1 d.2.1.1 d.2.1.2.1 d.2.1.2.2.1 d.2.1.2.2.2.1 d.2.2.1)
def kf66 (P:Go.Program):Known:=(kf95 P).func 66 p66
theorem kf66_ok:KnownOk Go.Proofs.Try.prog (kf66 Go.Proofs.Try.prog):=kf95_ok.func ok66

/-! (ductility/hybrid.test).leaves -/

abbrev as67:List Ty:=[(.pair (.pair (.int .i64) (.pair (.int .i64) (.pair (.int .i64) (.pair (.int .i64) (.pair (.int .i64) (.pair .bool (.pair (.int .i64) (.pair (.pair (.int .i64) (.pair (.int .i64) .unit)) .unit)))))))) .unit),(.int .i64)]
abbrev rs67:List Ty:=[.bool]

def t67 (x0_:Int) (x0_':Int) (x0_'':Int) (x0_''':Int) (x0_'''':Int) (x0_''''':Bool) (x0_'''''':Int) (x0_'''''''_:Int) (x0_'''''''_':Int) (x1:Int):Tr (Tys.data rs67) :=
  Tr.test (Option.isSome (f58 (x0_'''''',(([x1]:List Int),()))))
    (let r0:=g58 (x0_'''''',(([x1]:List Int),()));
    Tr.fin ((r0.1,())))
    (Tr.stop)

def f67 (d:Tys.data as67):Option (Tys.data rs67):=(t67 d.1.1.1 d.1.1.2.1 d.1.1.2.2.1 d.1.1.2.2.2.1 d.1.1.2.2.2.2.1 d.1.1.2.2.2.2.2.1 d.1.1.2.2.2.2.2.2.1 d.1.1.2.2.2.2.2.2.2.1.1 d.1.1.2.2.2.2.2.2.2.1.2.1 d.2.1).val
def g67 (d:Tys.data as67):Tys.data rs67:=(f67 d).getD (Tys.dflt rs67)
def p67:PureC:=pcOf as67 rs67 f67 g67

theorem wk67 (x0_:Int) (x0_':Int) (x0_'':Int) (x0_''':Int) (x0_'''':Int) (x0_''''':Bool) (x0_'''''':Int) (x0_'''''''_:Int) (x0_'''''''_':Int) (x1:Int):Walks (runPure (kf66 Go.Proofs.Try.prog).orc Go.Proofs.Try.prog 400 67 as67 rs67 (((x0_,x0_',x0_'',x0_''',x0_'''',x0_''''',x0_'''''',(x0_'''''''_,x0_'''''''_',()),()),()),x1,())) (t67 x0_ x0_' x0_'' x0_''' x0_'''' x0_''''' x0_'''''' x0_'''''''_ x0_'''''''_' x1) [([tt],[2])] :=
  ⟨by kernel_rfl,trivial⟩

theorem ok67_t (x0_:Int) (x0_':Int) (x0_'':Int) (x0_''':Int) (x0_'''':Int) (x0_''''':Bool) (x0_'''''':Int) (x0_'''''''_:Int) (x0_'''''''_':Int) (x1:Int):TrOk (PureRuns Go.Proofs.Try.prog (kf66 Go.Proofs.Try.prog).orc 67 as67 rs67 (((x0_,x0_',x0_'',x0_''',x0_'''',x0_''''',x0_'''''',(x0_'''''''_,x0_'''''''_',()),()),()),x1,())) (t67 x0_ x0_' x0_'' x0_''' x0_'''' x0_''''' x0_'''''' x0_'''''''_ x0_'''''''_' x1) :=
  Walks.ok (fun _ _ _=>PureRuns.of) (wk67 x0_ x0_' x0_'' x0_''' x0_'''' x0_''''' x0_'''''' x0_'''''''_ x0_'''''''_' x1) (by kernel_rfl)

theorem ok67:PureOk Go.Proofs.Try.prog 67 p67:=pureOk_of kf66_ok.base (T:=fun (d:Tys.data as67)=>t67 d.1.1.1 d.1.1.2.1 d.1.1.2.2.1 d.1.1.2.2.2.1 d.1.1.2.2.2.2.1 d.1.1.2.2.2.2.2.1 d.1.1.2.2.2.2.2.2.1 d.1.1.2.2.2.2.2.2.2.1.1 d.1.1.2.2.2.2.2.2.2.1.2.1 d.2.1) (by kernel_rfl) (fun (d:Tys.data as67)=>ok67_t d.1.1.1 d.1.1.2.1 d.1.1.2.2.1 d.1.1.2.2.2.1 d.1.1.2.2.2.2.1 d.1.1.2.2.2.2.2.1 d.1.1.2.2.2.2.2.2.1 d.1.1.2.2.2.2.2.2.2.1.1 d.1.1.2.2.2.2.2.2.2.1.2.1 d.2.1)
def kf67 (P:Go.Program):Known:=(kf66 P).func 67 p67
theorem kf67_ok:KnownOk Go.Proofs.Try.prog (kf67 Go.Proofs.Try.prog):=kf66_ok.func ok67

/-! (ductility/hybrid.test).length -/

abbrev as92:List Ty:=[(.pair (.pair (.int .i64) (.pair (.int .i64) (.pair (.int .i64) (.pair (.int .i64) (.pair (.int .i64) (.pair .bool (.pair (.int .i64) (.pair (.pair (.int .i64) (.pair (.int .i64) .unit)) .unit)))))))) .unit)]
abbrev rs92:List Ty:=[(.int .i64)]

def t92 (x0_:Int) (x0_':Int) (x0_'':Int) (x0_''':Int) (x0_'''':Int) (x0_''''':Bool) (x0_'''''':Int) (x0_'''''''_:Int) (x0_'''''''_':Int):Tr (Tys.data rs92) :=
  Tr.fin (((wrap64 (x0_'''' + (2:Int)):Int),()))

def f92 (d:Tys.data as92):Option (Tys.data rs92):=(t92 d.1.1.1 d.1.1.2.1 d.1.1.2.2.1 d.1.1.2.2.2.1 d.1.1.2.2.2.2.1 d.1.1.2.2.2.2.2.1 d.1.1.2.2.2.2.2.2.1 d.1.1.2.2.2.2.2.2.2.1.1 d.1.1.2.2.2.2.2.2.2.1.2.1).val
def g92 (d:Tys.data as92):Tys.data rs92:=(f92 d).getD (Tys.dflt rs92)
def p92:PureC:=pcOf as92 rs92 f92 g92

theorem wk92 (x0_:Int) (x0_':Int) (x0_'':Int) (x0_''':Int) (x0_'''':Int) (x0_''''':Bool) (x0_'''''':Int) (x0_'''''''_:Int) (x0_'''''''_':Int):Walks (runPure (kf67 Go.Proofs.Try.prog).orc Go.Proofs.Try.prog 400 92 as92 rs92 (((x0_,x0_',x0_'',x0_''',x0_'''',x0_''''',x0_'''''',(x0_'''''''_,x0_'''''''_',()),()),()),())) (t92 x0_ x0_' x0_'' x0_''' x0_'''' x0_''''' x0_'''''' x0_'''''''_ x0_'''''''_') [([],[])] :=
  ⟨by kernel_rfl,trivial⟩

theorem ok92_t (x0_:Int) (x0_':Int) (x0_'':Int) (x0_''':Int) (x0_'''':Int) (x0_''''':Bool) (x0_'''''':Int) (x0_'''''''_:Int) (x0_'''''''_':Int):TrOk (PureRuns Go.Proofs.Try.prog (kf67 Go.Proofs.Try.prog).orc 92 as92 rs92 (((x0_,x0_',x0_'',x0_''',x0_'''',x0_''''',x0_'''''',(x0_'''''''_,x0_'''''''_',()),()),()),())) (t92 x0_ x0_' x0_'' x0_''' x0_'''' x0_''''' x0_'''''' x0_'''''''_ x0_'''''''_') :=
  Walks.ok (fun _ _ _=>PureRuns.of) (wk92 x0_ x0_' x0_'' x0_''' x0_'''' x0_''''' x0_'''''' x0_'''''''_ x0_'''''''_') (by kernel_rfl)

theorem ok92:PureOk Go.Proofs.Try.prog 92 p92:=pureOk_of kf67_ok.base (T:=fun (d:Tys.data as92)=>t92 d.1.1.1 d.1.1.2.1 d.1.1.2.2.1 d.1.1.2.2.2.1 d.1.1.2.2.2.2.1 d.1.1.2.2.2.2.2.1 d.1.1.2.2.2.2.2.2.1 d.1.1.2.2.2.2.2.2.2.1.1 d.1.1.2.2.2.2.2.2.2.1.2.1) (by kernel_rfl) (fun (d:Tys.data as92)=>ok92_t d.1.1.1 d.1.1.2.1 d.1.1.2.2.1 d.1.1.2.2.2.1 d.1.1.2.2.2.2.1 d.1.1.2.2.2.2.2.1 d.1.1.2.2.2.2.2.2.1 d.1.1.2.2.2.2.2.2.2.1.1 d.1.1.2.2.2.2.2.2.2.1.2.1)
def kf92 (P:Go.Program):Known:=(kf67 P).func 92 p92
theorem kf92_ok:KnownOk Go.Proofs.Try.prog (kf92 Go.Proofs.Try.prog):=kf67_ok.func ok92

/-! (ductility/hybrid.test).after -/

abbrev as69:List Ty:=[(.pair (.pair (.int .i64) (.pair (.int .i64) (.pair (.int .i64) (.pair (.int .i64) (.pair (.int .i64) (.pair .bool (.pair (.int .i64) (.pair (.pair (.int .i64) (.pair (.int .i64) .unit)) .unit)))))))) .unit),(.pair (.int .i64) (.pair (.int .i64) (.pair (.int .i64) (.pair (.int .i64) .unit)))),(.int .i64)]
abbrev rs69:List Ty:=[(.pair (.int .i64) (.pair (.int .i64) (.pair (.int .i64) (.pair (.int .i64) .unit))))]

def t69 (x0_:Int) (x0_':Int) (x0_'':Int) (x0_''':Int) (x0_'''':Int) (x0_''''':Bool) (x0_'''''':Int) (x0_'''''''_:Int) (x0_'''''''_':Int) (x1:Int) (x1':Int) (x1'':Int) (x1''':Int) (x2:Int):Tr (Tys.data rs69) :=
  Tr.test (Option.isSome (f92 (((x0_,(x0_',(x0_'',(x0_''',(x0_'''',(x0_''''',(x0_'''''',((x0_'''''''_,(x0_'''''''_',())),())))))))),()),())))
    (let r0:=g92 (((x0_,(x0_',(x0_'',(x0_''',(x0_'''',(x0_''''',(x0_'''''',((x0_'''''''_,(x0_'''''''_',())),())))))))),()),());
    Tr.test ((decide ((0:Int) ≤ r0.1) && decide (r0.1 ≤ (4:Int)):Bool))
      (Tr.test ((true && decide ((1:Int) ≤ (↑(Int.toNat r0.1):Int)):Bool))
        (Tr.test ((Nat.ble (4:Nat) (Int.toNat r0.1 - (1:Nat)):Bool))
          (Tr.stop)
          (Tr.test ((Nat.beq (Int.toNat r0.1 - (1:Nat)) (0:Nat):Bool))
            (Tr.fin (((x2,((0:Int),((0:Int),((0:Int),())))),())))
            (Tr.test ((Nat.beq (Int.toNat r0.1 - (1:Nat)) (1:Nat):Bool))
              (Tr.fin (((x2,(x1,((0:Int),((0:Int),())))),())))
              (Tr.test ((Nat.beq (Int.toNat r0.1 - (1:Nat)) (2:Nat):Bool))
                (Tr.fin (((x2,(x1,(x1',((0:Int),())))),())))
                (Tr.test ((Nat.beq (Int.toNat r0.1 - (1:Nat)) (3:Nat):Bool))
                  (Tr.fin (((x2,(x1,(x1',(x1'',())))),())))
                  (Tr.stop))))))
        (Tr.stop))
      (Tr.stop))
    (Tr.stop)

def f69 (d:Tys.data as69):Option (Tys.data rs69):=(t69 d.1.1.1 d.1.1.2.1 d.1.1.2.2.1 d.1.1.2.2.2.1 d.1.1.2.2.2.2.1 d.1.1.2.2.2.2.2.1 d.1.1.2.2.2.2.2.2.1 d.1.1.2.2.2.2.2.2.2.1.1 d.1.1.2.2.2.2.2.2.2.1.2.1 d.2.1.1 d.2.1.2.1 d.2.1.2.2.1 d.2.1.2.2.2.1 d.2.2.1).val
def g69 (d:Tys.data as69):Tys.data rs69:=(f69 d).getD (Tys.dflt rs69)
def p69:PureC:=pcOf as69 rs69 f69 g69

theorem wk69 (x0_:Int) (x0_':Int) (x0_'':Int) (x0_''':Int) (x0_'''':Int) (x0_''''':Bool) (x0_'''''':Int) (x0_'''''''_:Int) (x0_'''''''_':Int) (x1:Int) (x1':Int) (x1'':Int) (x1''':Int) (x2:Int):Walks (runPure (kf92 Go.Proofs.Try.prog).orc Go.Proofs.Try.prog 400 69 as69 rs69 (((x0_,x0_',x0_'',x0_''',x0_'''',x0_''''',x0_'''''',(x0_'''''''_,x0_'''''''_',()),()),()),(x1,x1',x1'',x1''',()),x2,())) (t69 x0_ x0_' x0_'' x0_''' x0_'''' x0_''''' x0_'''''' x0_'''''''_ x0_'''''''_' x1 x1' x1'' x1''' x2) [([true,true,true,false,true],[0,1,2,4,0,6,8,10]),([true,true,true,false,false,true],[0,1,2,4,6,0,8,10,12]),([true,true,true,false,false,false,true],[0,1,2,4,6,8,0,10,12,14]),([true,true,true,false,false,false,false,true],[0,1,2,4,6,8,10,0,12,14,16])] :=
  ⟨by kernel_rfl,by kernel_rfl,by kernel_rfl,by kernel_rfl,trivial⟩

theorem ok69_t (x0_:Int) (x0_':Int) (x0_'':Int) (x0_''':Int) (x0_'''':Int) (x0_''''':Bool) (x0_'''''':Int) (x0_'''''''_:Int) (x0_'''''''_':Int) (x1:Int) (x1':Int) (x1'':Int) (x1''':Int) (x2:Int):TrOk (PureRuns Go.Proofs.Try.prog (kf92 Go.Proofs.Try.prog).orc 69 as69 rs69 (((x0_,x0_',x0_'',x0_''',x0_'''',x0_''''',x0_'''''',(x0_'''''''_,x0_'''''''_',()),()),()),(x1,x1',x1'',x1''',()),x2,())) (t69 x0_ x0_' x0_'' x0_''' x0_'''' x0_''''' x0_'''''' x0_'''''''_ x0_'''''''_' x1 x1' x1'' x1''' x2) :=
  Walks.ok (fun _ _ _=>PureRuns.of) (wk69 x0_ x0_' x0_'' x0_''' x0_'''' x0_''''' x0_'''''' x0_'''''''_ x0_'''''''_' x1 x1' x1'' x1''' x2) (by kernel_rfl)

theorem ok69:PureOk Go.Proofs.Try.prog 69 p69:=pureOk_of kf92_ok.base (T:=fun (d:Tys.data as69)=>t69 d.1.1.1 d.1.1.2.1 d.1.1.2.2.1 d.1.1.2.2.2.1 d.1.1.2.2.2.2.1 d.1.1.2.2.2.2.2.1 d.1.1.2.2.2.2.2.2.1 d.1.1.2.2.2.2.2.2.2.1.1 d.1.1.2.2.2.2.2.2.2.1.2.1 d.2.1.1 d.2.1.2.1 d.2.1.2.2.1 d.2.1.2.2.2.1 d.2.2.1) (by kernel_rfl) (fun (d:Tys.data as69)=>ok69_t d.1.1.1 d.1.1.2.1 d.1.1.2.2.1 d.1.1.2.2.2.1 d.1.1.2.2.2.2.1 d.1.1.2.2.2.2.2.1 d.1.1.2.2.2.2.2.2.1 d.1.1.2.2.2.2.2.2.2.1.1 d.1.1.2.2.2.2.2.2.2.1.2.1 d.2.1.1 d.2.1.2.1 d.2.1.2.2.1 d.2.1.2.2.2.1 d.2.2.1)
def kf69 (P:Go.Program):Known:=(kf92 P).func 69 p69
theorem kf69_ok:KnownOk Go.Proofs.Try.prog (kf69 Go.Proofs.Try.prog):=kf92_ok.func ok69

theorem sc25_0:sameRf Go.Proofs.Try.prog 25 0 = true:=sameRf_ok (by kernel_rfl)

end Go.Vm.Mo
