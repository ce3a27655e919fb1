import Derived.Test.YtiodahganfihkaaGreatA4
import Derived.KernelRfl
import Derived.Test.YtiodahganfihkaaGreatProg
import Derived.Test.YtiodahganfihkaaGreatRsFa
set_option linter.unusedVariables false
set_option linter.unusedSimpArgs false

namespace Go.Vm.Mo
open Go
set_option linter.unusedVariables false

/-! loop 0 of ductility/ductilityref09.WatchErr -/

abbrev sh54_0:Sh:={ n:=52,slots:=[1,5],pats:=[.ty (.slice (.pair (.int .i64) (.pair (.int .i64) .unit))),.ty (.int .i64)],boxes:=[] }
abbrev shb54_0:Sh:={ n:=52,slots:=[],pats:=[],boxes:=[] }
abbrev shr54_0:Sh:={ n:=52,slots:=[4],pats:=[.ty (.int .i64)],boxes:=[] }

def t54_0 (x0:(List (Int×(Int×Unit)))) (x1:Int):Tr (Out sh54_0.data shb54_0.data shr54_0.data) :=
  Tr.test ((!leF (↑(List.length x0):Int) x1:Bool))
    (Tr.test (decide ((0:Int) ≤ x1) && decide (x1 < (↑(List.length x0):Int)))
      (Tr.test (Option.isSome (f128 (((List.getD x0 (Int.toNat x1) ((0:Int),(0:Int),())).1:Int),())))
        (let r0:=g128 (((List.getD x0 (Int.toNat x1) ((0:Int),(0:Int),())).1:Int),());
        Tr.test ((!r0.1:Bool))
          (Tr.fin (.ret (((2:Int),()),())))
          (Tr.test (Option.isSome (f128 (((List.getD x0 (Int.toNat x1) ((0:Int),(0:Int),())).2.1:Int),())))
            (let r1:=g128 (((List.getD x0 (Int.toNat x1) ((0:Int),(0:Int),())).2.1:Int),());
            Tr.test ((!r1.1:Bool))
              (Tr.fin (.ret (((2:Int),()),())))
              (Tr.test ((!leF (List.getD x0 (Int.toNat x1) ((0:Int),(0:Int),())).1 (List.getD x0 (Int.toNat x1) ((0:Int),(0:Int),())).2.1:Bool))
                (Tr.fin (.ret (((9:Int),()),())))
                (Tr.fin (.again ((x0,((wrap64 (x1 + (1:Int)):Int),())),())))))
            (Tr.stop)))
        (Tr.stop))
      (Tr.stop))
    (Tr.fin (.brk ((),())))

def s54_0 (d:sh54_0.data):Option (Out sh54_0.data shb54_0.data shr54_0.data):=(t54_0 d.1.1 d.1.2.1).val
def l54_0 (d:sh54_0.data):Option (shb54_0.data ⊕ shr54_0.data):=itr s54_0 rounds d
def b54_0 (d:sh54_0.data):shb54_0.data:=outB shb54_0.dflt (l54_0 d)
def r54_0 (d:sh54_0.data):shr54_0.data:=outR shr54_0.dflt (l54_0 d)
def lc54_0:LoopC:=lcOf sh54_0 shb54_0 shr54_0 l54_0 b54_0 r54_0

theorem wk54_0 (x0:(List (Int×(Int×Unit)))) (x1:Int):Walks (runBody (kf128 Go.Proofs.Tryz.prog).orc Go.Proofs.Tryz.prog 400 54 0 sh54_0 shb54_0 shr54_0 ((x0,x1,()),())) (t54_0 x0 x1) [(bl 4 15,[1,2,2,2,2,2,2,2,2,4,6,8]),(bl 6 55,[2,6,6,4,6,6,6,10,6,6,6,8,10,12]),(bl 7 87,[2,12,12,4,8,8,6,8,8,8,12,8,8,8,10,12,14]),(bl 7 23,[2,12,12,4,8,8,6,8,8,8,12,8,8,8,10,12,14]),(bl 1 0,[2])] :=
  ⟨by kernel_rfl,by kernel_rfl,by kernel_rfl,by kernel_rfl,by kernel_rfl,trivial⟩

theorem ok54_0_t (x0:(List (Int×(Int×Unit)))) (x1:Int):TrOk (BodyRuns Go.Proofs.Tryz.prog (kf128 Go.Proofs.Tryz.prog).orc 54 0 sh54_0 shb54_0 shr54_0 ((x0,x1,()),())) (t54_0 x0 x1) :=
  Walks.ok (fun _ _ _=>BodyRuns.of) (wk54_0 x0 x1) (by kernel_rfl)

theorem ok54_0:LoopOk Go.Proofs.Tryz.prog 54 0 lc54_0:=loopOk_of (sh:=sh54_0) (shB:=shb54_0) (shR:=shr54_0) kf128_ok.base (T:=fun (d:sh54_0.data)=>t54_0 d.1.1 d.1.2.1) (by kernel_rfl) rfl (fun (d:sh54_0.data)=>ok54_0_t d.1.1 d.1.2.1) (fun _=>rfl)
def kl54_0 (P:Go.Program):Known:=(kf128 P).loop 54 0 lc54_0
theorem kl54_0_ok:KnownOk Go.Proofs.Tryz.prog (kl54_0 Go.Proofs.Tryz.prog):=kf128_ok.loop ok54_0

/-! ductility/ductilityref09.WatchErr -/

abbrev as54:List Ty:=[(.pair (.int .i64) (.pair (.int .i64) .unit)),(.slice (.pair (.int .i64) (.pair (.int .i64) .unit)))]
abbrev rs54:List Ty:=[(.int .i64)]

def t54 (x0:Int) (x0':Int) (x1:(List (Int×(Int×Unit)))):Tr (Tys.data rs54) :=
  Tr.test (Option.isSome (f128 (x0,())))
    (let r0:=g128 (x0,());
    Tr.test ((!r0.1:Bool))
      (Tr.fin (((2:Int),())))
      (Tr.test (Option.isSome (f25 (x0',((1:Int),((8:Int),())))))
        (let r1:=g25 (x0',((1:Int),((8:Int),())));
        Tr.test ((!r1.1:Bool))
          (Tr.fin (((2:Int),())))
          (Tr.test ((!leF (↑(List.length x1):Int) (8:Int):Bool))
            (Tr.fin (((8:Int),())))
            (Tr.test (Option.isSome (l54_0 ((x1,((0:Int),())),())))
              (Tr.test (isRet (l54_0 ((x1,((0:Int),())),())))
                (let r2:=r54_0 ((x1,((0:Int),())),());
                Tr.fin ((r2.1.1,())))
                (Tr.fin (((0:Int),()))))
              (Tr.stop))))
        (Tr.stop)))
    (Tr.stop)

def f54 (d:Tys.data as54):Option (Tys.data rs54):=(t54 d.1.1 d.1.2.1 d.2.1).val
def g54 (d:Tys.data as54):Tys.data rs54:=(f54 d).getD (Tys.dflt rs54)
def p54:PureC:=pcOf as54 rs54 f54 g54

theorem wk54 (x0:Int) (x0':Int) (x1:(List (Int×(Int×Unit)))):Walks (runPure (kl54_0 Go.Proofs.Tryz.prog).orc Go.Proofs.Tryz.prog 400 54 as54 rs54 ((x0,x0',()),x1,())) (t54 x0 x0' x1) [(bl 2 3,[1,2,2,2,2,2,4]),(bl 4 13,[2,6,6,4,6,6,6,8]),(bl 5 21,[2,4,8,8,6,8,8,8,10]),(bl 7 101,[2,4,6,8,12,12,10,12,12,12,14]),(bl 7 37,[2,4,6,8,12,12,10,12,12,12,14])] :=
  ⟨by kernel_rfl,by kernel_rfl,by kernel_rfl,by kernel_rfl,by kernel_rfl,trivial⟩

theorem ok54_t (x0:Int) (x0':Int) (x1:(List (Int×(Int×Unit)))):TrOk (PureRuns Go.Proofs.Tryz.prog (kl54_0 Go.Proofs.Tryz.prog).orc 54 as54 rs54 ((x0,x0',()),x1,())) (t54 x0 x0' x1) :=
  Walks.ok (fun _ _ _=>PureRuns.of) (wk54 x0 x0' x1) (by kernel_rfl)

theorem ok54:PureOk Go.Proofs.Tryz.prog 54 p54:=pureOk_of kl54_0_ok.base (T:=fun (d:Tys.data as54)=>t54 d.1.1 d.1.2.1 d.2.1) (by kernel_rfl) (fun (d:Tys.data as54)=>ok54_t d.1.1 d.1.2.1 d.2.1)
def kf54 (P:Go.Program):Known:=(kl54_0 P).func 54 p54
theorem kf54_ok:KnownOk Go.Proofs.Tryz.prog (kf54 Go.Proofs.Tryz.prog):=kl54_0_ok.func ok54

/-! loop 0 of ductility/ductilityref09.Trip -/

abbrev sh55_0:Sh:={ n:=42,slots:=[1,2,5,6,7],pats:=[.ty (.slice (.pair (.int .i64) (.pair (.int .i64) .unit))),.ptr 0 2 0,.ty (.int .i64),.ty (.int .i64),.ty (.int .i64)],boxes:=[.row [.ty (.int .i64),.ty (.int .i64)]] }
abbrev shb55_0:Sh:={ n:=42,slots:=[2,5,6],pats:=[.ptr 0 2 0,.ty (.int .i64),.ty (.int .i64)],boxes:=[.row [.ty (.int .i64),.ty (.int .i64)]] }
abbrev shr55_0:Sh:={ n:=42,slots:=[],pats:=[],boxes:=[.row [.ty (.int .i64),.ty (.int .i64)]] }

def t55_0 (x0:(List (Int×(Int×Unit)))) (x2:Int) (x3:Int) (x4:Int) (b0_0:Int) (b0_1:Int):Tr (Out sh55_0.data shb55_0.data shr55_0.data) :=
  Tr.test ((!leF (↑(List.length x0):Int) x4:Bool))
    (Tr.test (decide ((0:Int) ≤ x4) && decide (x4 < (↑(List.length x0):Int)))
      (Tr.test ((!leF (List.getD x0 (Int.toNat x4) ((0:Int),(0:Int),())).1 b0_0:Bool))
        (Tr.test ((!leF (List.getD x0 (Int.toNat x4) ((0:Int),(0:Int),())).2.1 b0_0:Bool))
          (Tr.fin (.again ((x0,((wrap64 (x2 + (1:Int)):Int),((wrap64 (x3 + (1:Int)):Int),((wrap64 (x4 + (1:Int)):Int),())))),((b0_0,(b0_1,())),()))))
          (Tr.fin (.again ((x0,((wrap64 (x2 + (1:Int)):Int),(x3,((wrap64 (x4 + (1:Int)):Int),())))),((b0_0,(b0_1,())),())))))
        (Tr.test ((!leF (List.getD x0 (Int.toNat x4) ((0:Int),(0:Int),())).2.1 b0_0:Bool))
          (Tr.fin (.again ((x0,(x2,((wrap64 (x3 + (1:Int)):Int),((wrap64 (x4 + (1:Int)):Int),())))),((b0_0,(b0_1,())),()))))
          (Tr.fin (.again ((x0,(x2,(x3,((wrap64 (x4 + (1:Int)):Int),())))),((b0_0,(b0_1,())),()))))))
      (Tr.stop))
    (Tr.fin (.brk ((x2,(x3,())),((b0_0,(b0_1,())),()))))

def s55_0 (d:sh55_0.data):Option (Out sh55_0.data shb55_0.data shr55_0.data):=(t55_0 d.1.1 d.1.2.1 d.1.2.2.1 d.1.2.2.2.1 d.2.1.1 d.2.1.2.1).val
def l55_0 (d:sh55_0.data):Option (shb55_0.data ⊕ shr55_0.data):=itr s55_0 rounds d
def b55_0 (d:sh55_0.data):shb55_0.data:=outB shb55_0.dflt (l55_0 d)
def lc55_0:LoopC:=lcB sh55_0 shb55_0 shr55_0 l55_0 b55_0

theorem wk55_0 (x0:(List (Int×(Int×Unit)))) (x2:Int) (x3:Int) (x4:Int) (b0_0:Int) (b0_1:Int):Walks (runBody (kf54 Go.Proofs.Tryz.prog).orc Go.Proofs.Tryz.prog 400 55 0 sh55_0 shb55_0 shr55_0 ((x0,x2,x3,x4,()),(b0_0,b0_1,()),())) (t55_0 x0 x2 x3 x4 b0_0 b0_1) [(bl 4 15,[2,6,4,6,8]),(bl 4 7,[2,6,4,6,8]),(bl 4 11,[2,6,4,6,8]),(bl 4 3,[2,6,4,6,8]),(bl 1 0,[2])] :=
  ⟨by kernel_rfl,by kernel_rfl,by kernel_rfl,by kernel_rfl,by kernel_rfl,trivial⟩

theorem ok55_0_t (x0:(List (Int×(Int×Unit)))) (x2:Int) (x3:Int) (x4:Int) (b0_0:Int) (b0_1:Int):TrOk (BodyRuns Go.Proofs.Tryz.prog (kf54 Go.Proofs.Tryz.prog).orc 55 0 sh55_0 shb55_0 shr55_0 ((x0,x2,x3,x4,()),(b0_0,b0_1,()),())) (t55_0 x0 x2 x3 x4 b0_0 b0_1) :=
  Walks.ok (fun _ _ _=>BodyRuns.of) (wk55_0 x0 x2 x3 x4 b0_0 b0_1) (by kernel_rfl)

theorem ok55_0:LoopOk Go.Proofs.Tryz.prog 55 0 lc55_0:=loopOk_ofB (sh:=sh55_0) (shB:=shb55_0) (shR:=shr55_0) kf54_ok.base (T:=fun (d:sh55_0.data)=>t55_0 d.1.1 d.1.2.1 d.1.2.2.1 d.1.2.2.2.1 d.2.1.1 d.2.1.2.1) (by kernel_rfl) rfl (fun (d:sh55_0.data)=>ok55_0_t d.1.1 d.1.2.1 d.1.2.2.1 d.1.2.2.2.1 d.2.1.1 d.2.1.2.1) (fun _=>rfl)
def kl55_0 (P:Go.Program):Known:=(kf54 P).loop 55 0 lc55_0
theorem kl55_0_ok:KnownOk Go.Proofs.Tryz.prog (kl55_0 Go.Proofs.Tryz.prog):=kf54_ok.loop ok55_0

/-! ductility/ductilityref09.Trip -/

abbrev as55:List Ty:=[(.pair (.int .i64) (.pair (.int .i64) .unit)),(.slice (.pair (.int .i64) (.pair (.int .i64) .unit)))]
abbrev rs55:List Ty:=[(.int .i64)]

def t55 (x0:Int) (x0':Int) (x1:(List (Int×(Int×Unit)))):Tr (Tys.data rs55) :=
  Tr.test (isBrk (l55_0 ((x1,((0:Int),((0:Int),((0:Int),())))),((x0,(x0',())),()))))
    (let r0:=b55_0 ((x1,((0:Int),((0:Int),((0:Int),())))),((x0,(x0',())),()));
    Tr.test ((leF r0.2.1.2.1 r0.1.1:Bool))
      (Tr.fin (((2:Int),())))
      (Tr.test ((!leF r0.2.1.2.1 r0.1.2.1:Bool))
        (Tr.fin (((0:Int),())))
        (Tr.fin (((1:Int),())))))
    (Tr.stop)

def f55 (d:Tys.data as55):Option (Tys.data rs55):=(t55 d.1.1 d.1.2.1 d.2.1).val
def g55 (d:Tys.data as55):Tys.data rs55:=(f55 d).getD (Tys.dflt rs55)
def p55:PureC:=pcOf as55 rs55 f55 g55

theorem wk55 (x0:Int) (x0':Int) (x1:(List (Int×(Int×Unit)))):Walks (runPure (kl55_0 Go.Proofs.Tryz.prog).orc Go.Proofs.Tryz.prog 400 55 as55 rs55 ((x0,x0',()),x1,())) (t55 x0 x0' x1) [(bl 2 3,[2,1,4]),(bl 3 5,[2,4,1,6]),(bl 3 1,[2,4,1,6])] :=
  ⟨by kernel_rfl,by kernel_rfl,by kernel_rfl,trivial⟩

theorem ok55_t (x0:Int) (x0':Int) (x1:(List (Int×(Int×Unit)))):TrOk (PureRuns Go.Proofs.Tryz.prog (kl55_0 Go.Proofs.Tryz.prog).orc 55 as55 rs55 ((x0,x0',()),x1,())) (t55 x0 x0' x1) :=
  Walks.ok (fun _ _ _=>PureRuns.of) (wk55 x0 x0' x1) (by kernel_rfl)

theorem ok55:PureOk Go.Proofs.Tryz.prog 55 p55:=pureOk_of kl55_0_ok.base (T:=fun (d:Tys.data as55)=>t55 d.1.1 d.1.2.1 d.2.1) (by kernel_rfl) (fun (d:Tys.data as55)=>ok55_t d.1.1 d.1.2.1 d.2.1)
def kf55 (P:Go.Program):Known:=(kl55_0 P).func 55 p55
theorem kf55_ok:KnownOk Go.Proofs.Tryz.prog (kf55 Go.Proofs.Tryz.prog):=kl55_0_ok.func ok55

/-! ductility/ductilitybase.Mod -/

abbrev as56:List Ty:=[(.int .i64),(.int .i64)]
abbrev rs56:List Ty:=[(.int .i64)]

def t56 (x0:Int) (x1:Int):Tr (Tys.data rs56) :=
  Tr.test ((x1 == (0:Int):Bool))
    (Tr.stop)
    (Tr.test (!leF (0:Int) (Int.tmod x0 x1))
      (Tr.fin (((wrap64 (Int.tmod x0 x1 + x1):Int),())))
      (Tr.fin (((Int.tmod x0 x1:Int),()))))

def f56 (d:Tys.data as56):Option (Tys.data rs56):=(t56 d.1 d.2.1).val
def g56 (d:Tys.data as56):Tys.data rs56:=(f56 d).getD (Tys.dflt rs56)
def p56:PureC:=pcOf as56 rs56 f56 g56

theorem wk56 (x0:Int) (x1:Int):Walks (runPure (kf55 Go.Proofs.Tryz.prog).orc Go.Proofs.Tryz.prog 400 56 as56 rs56 (x0,x1,())) (t56 x0 x1) [(bl 2 2,[2,4]),(bl 2 0,[2,4])] :=
  ⟨by kernel_rfl,by kernel_rfl,trivial⟩

theorem ok56_t (x0:Int) (x1:Int):TrOk (PureRuns Go.Proofs.Tryz.prog (kf55 Go.Proofs.Tryz.prog).orc 56 as56 rs56 (x0,x1,())) (t56 x0 x1) :=
  Walks.ok (fun _ _ _=>PureRuns.of) (wk56 x0 x1) (by kernel_rfl)

theorem ok56:PureOk Go.Proofs.Tryz.prog 56 p56:=pureOk_of kf55_ok.base (T:=fun (d:Tys.data as56)=>t56 d.1 d.2.1) (by kernel_rfl) (fun (d:Tys.data as56)=>ok56_t d.1 d.2.1)
def kf56 (P:Go.Program):Known:=(kf55 P).func 56 p56
theorem kf56_ok:KnownOk Go.Proofs.Tryz.prog (kf56 Go.Proofs.Tryz.prog):=kf55_ok.func ok56

/-! loop 0 of ductility/ductilitylaw09.SafetyWatchers -/

abbrev sh10_0:Sh:={ n:=129,slots:=[1,2,3,7,13,14],pats:=[.ty (.slice (.pair (.int .i64) (.pair (.int .i64) .unit))),.ty (.slice (.int .i64)),.ptr 0 2 0,.ty (.int .i64),.ty (.int .i64),.ty (.int .i64)],boxes:=[.row [.ty (.int .i64),.ty (.int .i64)]] }
abbrev shb10_0:Sh:={ n:=129,slots:=[3,7,13],pats:=[.ptr 0 2 0,.ty (.int .i64),.ty (.int .i64)],boxes:=[.row [.ty (.int .i64),.ty (.int .i64)]] }
abbrev shr10_0:Sh:={ n:=129,slots:=[],pats:=[],boxes:=[.row [.ty (.int .i64),.ty (.int .i64)]] }

def t10_0 (x0:(List (Int×(Int×Unit)))) (x1:(List Int)) (x3:Int) (x4:Int) (x5:Int) (b0_0:Int) (b0_1:Int):Tr (Out sh10_0.data shb10_0.data shr10_0.data) :=
  Tr.test ((!leF (↑(List.length x0):Int) x5:Bool))
    (Tr.test (decide ((0:Int) ≤ x5) && decide (x5 < (↑(List.length x0):Int)))
      (Tr.test ((↑(List.length x1):Int) == (0:Int))
        (Tr.stop)
        (Tr.test ((decide ((0:Int) ≤ Int.tmod x5 (↑(List.length x1):Int)) && decide (Int.tmod x5 (↑(List.length x1):Int) < (↑(List.length x1):Int)):Bool))
          (Tr.test (Option.isSome (f56 ((List.getD x1 (Int.toNat (Int.tmod x5 (↑(List.length x1):Int))) (0:Int):Int),((wrap64 (wrap64 ((List.getD x0 (Int.toNat x5) ((0:Int),(0:Int),())).2.1 - (List.getD x0 (Int.toNat x5) ((0:Int),(0:Int),())).1) + (1:Int)):Int),()))))
            (let r0:=g56 ((List.getD x1 (Int.toNat (Int.tmod x5 (↑(List.length x1):Int))) (0:Int):Int),((wrap64 (wrap64 ((List.getD x0 (Int.toNat x5) ((0:Int),(0:Int),())).2.1 - (List.getD x0 (Int.toNat x5) ((0:Int),(0:Int),())).1) + (1:Int)):Int),()));
            Tr.test ((!leF (wrap64 ((List.getD x0 (Int.toNat x5) ((0:Int),(0:Int),())).1 + r0.1)) b0_0:Bool))
              (Tr.fin (.again ((x0,(x1,(x3,((wrap64 (x4 + (1:Int)):Int),((wrap64 (x5 + (1:Int)):Int),()))))),((b0_0,(b0_1,())),()))))
              (Tr.fin (.again ((x0,(x1,(x3,(x4,((wrap64 (x5 + (1:Int)):Int),()))))),((b0_0,(b0_1,())),())))))
            (Tr.stop))
          (Tr.stop)))
      (Tr.stop))
    (Tr.fin (.brk ((x3,(x4,())),((b0_0,(b0_1,())),()))))

def s10_0 (d:sh10_0.data):Option (Out sh10_0.data shb10_0.data shr10_0.data):=(t10_0 d.1.1 d.1.2.1 d.1.2.2.1 d.1.2.2.2.1 d.1.2.2.2.2.1 d.2.1.1 d.2.1.2.1).val
def l10_0 (d:sh10_0.data):Option (shb10_0.data ⊕ shr10_0.data):=itr s10_0 rounds d
def b10_0 (d:sh10_0.data):shb10_0.data:=outB shb10_0.dflt (l10_0 d)
def lc10_0:LoopC:=lcB sh10_0 shb10_0 shr10_0 l10_0 b10_0

theorem wk10_0 (x0:(List (Int×(Int×Unit)))) (x1:(List Int)) (x3:Int) (x4:Int) (x5:Int) (b0_0:Int) (b0_1:Int):Walks (runBody (kf56 Go.Proofs.Tryz.prog).orc Go.Proofs.Tryz.prog 400 10 0 sh10_0 shb10_0 shr10_0 ((x0,x1,x3,x4,x5,()),(b0_0,b0_1,()),())) (t10_0 x0 x1 x3 x4 x5 b0_0 b0_1) [(bl 6 59,[2,4,10,10,6,8,10,12]),(bl 6 27,[2,4,10,10,6,8,10,12]),(bl 1 0,[2])] :=
  ⟨by kernel_rfl,by kernel_rfl,by kernel_rfl,trivial⟩

theorem ok10_0_t (x0:(List (Int×(Int×Unit)))) (x1:(List Int)) (x3:Int) (x4:Int) (x5:Int) (b0_0:Int) (b0_1:Int):TrOk (BodyRuns Go.Proofs.Tryz.prog (kf56 Go.Proofs.Tryz.prog).orc 10 0 sh10_0 shb10_0 shr10_0 ((x0,x1,x3,x4,x5,()),(b0_0,b0_1,()),())) (t10_0 x0 x1 x3 x4 x5 b0_0 b0_1) :=
  Walks.ok (fun _ _ _=>BodyRuns.of) (wk10_0 x0 x1 x3 x4 x5 b0_0 b0_1) (by kernel_rfl)

theorem ok10_0:LoopOk Go.Proofs.Tryz.prog 10 0 lc10_0:=loopOk_ofB (sh:=sh10_0) (shB:=shb10_0) (shR:=shr10_0) kf56_ok.base (T:=fun (d:sh10_0.data)=>t10_0 d.1.1 d.1.2.1 d.1.2.2.1 d.1.2.2.2.1 d.1.2.2.2.2.1 d.2.1.1 d.2.1.2.1) (by kernel_rfl) rfl (fun (d:sh10_0.data)=>ok10_0_t d.1.1 d.1.2.1 d.1.2.2.1 d.1.2.2.2.1 d.1.2.2.2.2.1 d.2.1.1 d.2.1.2.1) (fun _=>rfl)
def kl10_0 (P:Go.Program):Known:=(kf56 P).loop 10 0 lc10_0
theorem kl10_0_ok:KnownOk Go.Proofs.Tryz.prog (kl10_0 Go.Proofs.Tryz.prog):=kf56_ok.loop ok10_0

/-! ductility/ductilitylaw09.SafetyWatchers -/

abbrev as10:List Ty:=[(.pair (.int .i64) (.pair (.int .i64) .unit)),(.slice (.pair (.int .i64) (.pair (.int .i64) .unit))),(.slice (.int .i64))]
abbrev rs10:List Ty:=[.bool]

def t10 (x0:Int) (x0':Int) (x1:(List (Int×(Int×Unit)))) (x2:(List Int)):Tr (Tys.data rs10) :=
  Tr.test ((!leF (↑(List.length x1):Int) (10:Int):Bool))
    (Tr.fin ((true,())))
    (Tr.test (Option.isSome (f53 (x1,())))
      (let r0:=g53 (x1,());
      Tr.test (Option.isSome (f52 ((x0,(x0',())),(r0.1,()))))
        (Tr.test (Option.isSome (f54 ((x0,(x0',())),(x1,()))))
          (let r2:=g54 ((x0,(x0',())),(x1,()));
          Tr.test ((!eqF r2.1 0:Bool))
            (let r1:=g52 ((x0,(x0',())),(r0.1,()));
            Tr.test ((eqF r1.2.1 r2.1:Bool))
              (Tr.fin (((eqF r1.1 0:Bool),())))
              (Tr.fin (((false:Bool),()))))
            (let r1:=g52 ((x0,(x0',())),(r0.1,()));
            Tr.test ((!eqF r1.2.1 0:Bool))
              (Tr.fin (((false:Bool),())))
              (Tr.test (Option.isSome (f55 ((x0,(x0',())),(x1,()))))
                (let r3:=g55 ((x0,(x0',())),(x1,()));
                Tr.test ((!eqF r1.1 r3.1:Bool))
                  (Tr.fin (((false:Bool),())))
                  (Tr.test (Option.isSome (f52 (((if (-1000000:Int) < wrap64 (x0 - (1:Int)) then wrap64 (x0 - (1:Int)) else (-1000000:Int):Int),((if (1:Int) < wrap64 (x0' - (1:Int)) then wrap64 (x0' - (1:Int)) else (1:Int):Int),())),(r0.1,()))))
                    (let r4:=g52 (((if (-1000000:Int) < wrap64 (x0 - (1:Int)) then wrap64 (x0 - (1:Int)) else (-1000000:Int):Int),((if (1:Int) < wrap64 (x0' - (1:Int)) then wrap64 (x0' - (1:Int)) else (1:Int):Int),())),(r0.1,()));
                    Tr.test ((!eqF r4.2.1 0:Bool))
                      (Tr.fin (((false:Bool),())))
                      (Tr.test ((!leF r1.1 r4.1:Bool))
                        (Tr.fin (((false:Bool),())))
                        (Tr.test ((eqF (↑(List.length x2):Int) (0:Int):Bool))
                          (Tr.fin (((true:Bool),())))
                          (Tr.test (isBrk (l10_0 ((x1,(x2,(r1.1,((0:Int),((0:Int),()))))),((x0,(x0',())),()))))
                            (let r5:=b10_0 ((x1,(x2,(r1.1,((0:Int),((0:Int),()))))),((x0,(x0',())),()));
                            Tr.test ((eqF r5.1.1 2:Bool))
                              (Tr.test ((leF r5.2.1.2.1 r5.1.2.1:Bool))
                                (Tr.fin (((true:Bool),())))
                                (Tr.fin (((false:Bool),()))))
                              (Tr.test ((!eqF r5.1.1 0:Bool))
                                (Tr.fin (((true:Bool),())))
                                (Tr.fin (((!leF r5.2.1.2.1 r5.1.2.1:Bool),())))))
                            (Tr.stop)))))
                    (Tr.stop)))
                (Tr.stop))))
          (Tr.stop))
        (Tr.stop))
      (Tr.stop))

def f10 (d:Tys.data as10):Option (Tys.data rs10):=(t10 d.1.1 d.1.2.1 d.2.1 d.2.2.1).val
def g10 (d:Tys.data as10):Tys.data rs10:=(f10 d).getD (Tys.dflt rs10)
def p10:PureC:=pcOf as10 rs10 f10 g10

theorem e10_0 (x0:Int) (x0':Int) (x1:(List (Int×(Int×Unit)))) (x2:(List Int)):runPure (kl10_0 Go.Proofs.Tryz.prog).orc Go.Proofs.Tryz.prog 400 10 as10 rs10 ((x0,x0',()),x1,x2,()) [tt,ff,tt] =
    (some ((true,()),[(!leF (↑(List.length x1):Int) (10:Int),true),(false,false),(true,true)])):=by kernel_rfl
theorem e10_1 (x0:Int) (x0':Int) (x1:(List (Int×(Int×Unit)))) (x2:(List Int)):runPure (kl10_0 Go.Proofs.Tryz.prog).orc Go.Proofs.Tryz.prog 400 10 as10 rs10 ((x0,x0',()),x1,x2,()) [tt,ff,ff,tt,tt,tt,tt,tt,tt,tt] =
    (let r0:=g53 (x1,());let r2:=g54 ((x0,(x0',())),(x1,()));let r1:=g52 ((x0,(x0',())),(r0.1,())); some ((eqF r1.1 0,()),[(eqF r1.2.1 r2.1,true),(eqF r1.2.1 r2.1,true),(eqF r1.2.1 r2.1,true),(!eqF r2.1 0,true),(Option.isSome (f54 ((x0,(x0',())),(x1,()))),true),(Option.isSome (f52 ((x0,(x0',())),(r0.1,()))),true),(Option.isSome (f53 (x1,())),true),(!leF (↑(List.length x1):Int) (10:Int),false),(false,false),(true,true)])):=by kernel_rfl
theorem e10_2 (x0:Int) (x0':Int) (x1:(List (Int×(Int×Unit)))) (x2:(List Int)):runPure (kl10_0 Go.Proofs.Tryz.prog).orc Go.Proofs.Tryz.prog 400 10 as10 rs10 ((x0,x0',()),x1,x2,()) [tt,ff,ff,tt,tt,tt,tt,ff,ff,ff] =
    (let r0:=g53 (x1,());let r2:=g54 ((x0,(x0',())),(x1,()));let r1:=g52 ((x0,(x0',())),(r0.1,())); some ((false,()),[(eqF r1.2.1 r2.1,false),(eqF r1.2.1 r2.1,false),(eqF r1.2.1 r2.1,false),(!eqF r2.1 0,true),(Option.isSome (f54 ((x0,(x0',())),(x1,()))),true),(Option.isSome (f52 ((x0,(x0',())),(r0.1,()))),true),(Option.isSome (f53 (x1,())),true),(!leF (↑(List.length x1):Int) (10:Int),false),(false,false),(true,true)])):=by kernel_rfl
theorem e10_3 (x0:Int) (x0':Int) (x1:(List (Int×(Int×Unit)))) (x2:(List Int)):runPure (kl10_0 Go.Proofs.Tryz.prog).orc Go.Proofs.Tryz.prog 400 10 as10 rs10 ((x0,x0',()),x1,x2,()) [tt,ff,ff,tt,tt,tt,ff,tt,tt,tt,tt,tt,tt,tt] =
    (let r0:=g53 (x1,());let r2:=g54 ((x0,(x0',())),(x1,()));let r1:=g52 ((x0,(x0',())),(r0.1,())); some ((false,()),[(true,true),(!eqF r1.2.1 0,true),(!eqF r1.2.1 0,true),(!eqF r1.2.1 0,true),(!eqF r1.2.1 0,true),(!eqF r1.2.1 0,true),(!eqF r1.2.1 0,true),(!eqF r2.1 0,false),(Option.isSome (f54 ((x0,(x0',())),(x1,()))),true),(Option.isSome (f52 ((x0,(x0',())),(r0.1,()))),true),(Option.isSome (f53 (x1,())),true),(!leF (↑(List.length x1):Int) (10:Int),false),(false,false),(true,true)])):=by kernel_rfl
theorem e10_4 (x0:Int) (x0':Int) (x1:(List (Int×(Int×Unit)))) (x2:(List Int)):runPure (kl10_0 Go.Proofs.Tryz.prog).orc Go.Proofs.Tryz.prog 400 10 as10 rs10 ((x0,x0',()),x1,x2,()) [tt,ff,ff,tt,tt,tt,ff,ff,ff,ff,ff,tt,ff,ff,tt] =
    (let r0:=g53 (x1,());let r2:=g54 ((x0,(x0',())),(x1,()));let r1:=g52 ((x0,(x0',())),(r0.1,()));let r3:=g55 ((x0,(x0',())),(x1,())); some ((false,()),[(!eqF r1.1 r3.1,true),(!eqF r1.2.1 0,false),(!eqF r1.2.1 0,false),(Option.isSome (f55 ((x0,(x0',())),(x1,()))),true),(!eqF r1.2.1 0,false),(!eqF r1.2.1 0,false),(!eqF r1.2.1 0,false),(!eqF r1.2.1 0,false),(!eqF r2.1 0,false),(Option.isSome (f54 ((x0,(x0',())),(x1,()))),true),(Option.isSome (f52 ((x0,(x0',())),(r0.1,()))),true),(Option.isSome (f53 (x1,())),true),(!leF (↑(List.length x1):Int) (10:Int),false),(false,false),(true,true)])):=by kernel_rfl
theorem e10_5 (x0:Int) (x0':Int) (x1:(List (Int×(Int×Unit)))) (x2:(List Int)):runPure (kl10_0 Go.Proofs.Tryz.prog).orc Go.Proofs.Tryz.prog 400 10 as10 rs10 ((x0,x0',()),x1,x2,()) [tt,ff,ff,tt,tt,tt,ff,ff,ff,ff,ff,tt,ff,ff,ff,tt,tt,tt,tt,tt,tt,tt] =
    (let r0:=g53 (x1,());let r2:=g54 ((x0,(x0',())),(x1,()));let r1:=g52 ((x0,(x0',())),(r0.1,()));let r3:=g55 ((x0,(x0',())),(x1,()));let r4:=g52 (((if (-1000000:Int) < wrap64 (x0 - (1:Int)) then wrap64 (x0 - (1:Int)) else (-1000000:Int):Int),((if (1:Int) < wrap64 (x0' - (1:Int)) then wrap64 (x0' - (1:Int)) else (1:Int):Int),())),(r0.1,())); some ((false,()),[(true,true),(!eqF r4.2.1 0,true),(!eqF r4.2.1 0,true),(!eqF r4.2.1 0,true),(!eqF r4.2.1 0,true),(Option.isSome (f52 (((if (-1000000:Int) < wrap64 (x0 - (1:Int)) then wrap64 (x0 - (1:Int)) else (-1000000:Int):Int),((if (1:Int) < wrap64 (x0' - (1:Int)) then wrap64 (x0' - (1:Int)) else (1:Int):Int),())),(r0.1,()))),true),(Option.isSome (f53 (x1,())),true),(!eqF r1.1 r3.1,false),(!eqF r1.2.1 0,false),(!eqF r1.2.1 0,false),(Option.isSome (f55 ((x0,(x0',())),(x1,()))),true),(!eqF r1.2.1 0,false),(!eqF r1.2.1 0,false),(!eqF r1.2.1 0,false),(!eqF r1.2.1 0,false),(!eqF r2.1 0,false),(Option.isSome (f54 ((x0,(x0',())),(x1,()))),true),(Option.isSome (f52 ((x0,(x0',())),(r0.1,()))),true),(Option.isSome (f53 (x1,())),true),(!leF (↑(List.length x1):Int) (10:Int),false),(false,false),(true,true)])):=by kernel_rfl
theorem e10_6 (x0:Int) (x0':Int) (x1:(List (Int×(Int×Unit)))) (x2:(List Int)):runPure (kl10_0 Go.Proofs.Tryz.prog).orc Go.Proofs.Tryz.prog 400 10 as10 rs10 ((x0,x0',()),x1,x2,()) [tt,ff,ff,tt,tt,tt,ff,ff,ff,ff,ff,tt,ff,ff,ff,tt,tt,ff,ff,ff,ff,tt] =
    (let r0:=g53 (x1,());let r2:=g54 ((x0,(x0',())),(x1,()));let r1:=g52 ((x0,(x0',())),(r0.1,()));let r3:=g55 ((x0,(x0',())),(x1,()));let r4:=g52 (((if (-1000000:Int) < wrap64 (x0 - (1:Int)) then wrap64 (x0 - (1:Int)) else (-1000000:Int):Int),((if (1:Int) < wrap64 (x0' - (1:Int)) then wrap64 (x0' - (1:Int)) else (1:Int):Int),())),(r0.1,())); some ((false,()),[(!leF r1.1 r4.1,true),(!eqF r4.2.1 0,false),(!eqF r4.2.1 0,false),(!eqF r4.2.1 0,false),(!eqF r4.2.1 0,false),(Option.isSome (f52 (((if (-1000000:Int) < wrap64 (x0 - (1:Int)) then wrap64 (x0 - (1:Int)) else (-1000000:Int):Int),((if (1:Int) < wrap64 (x0' - (1:Int)) then wrap64 (x0' - (1:Int)) else (1:Int):Int),())),(r0.1,()))),true),(Option.isSome (f53 (x1,())),true),(!eqF r1.1 r3.1,false),(!eqF r1.2.1 0,false),(!eqF r1.2.1 0,false),(Option.isSome (f55 ((x0,(x0',())),(x1,()))),true),(!eqF r1.2.1 0,false),(!eqF r1.2.1 0,false),(!eqF r1.2.1 0,false),(!eqF r1.2.1 0,false),(!eqF r2.1 0,false),(Option.isSome (f54 ((x0,(x0',())),(x1,()))),true),(Option.isSome (f52 ((x0,(x0',())),(r0.1,()))),true),(Option.isSome (f53 (x1,())),true),(!leF (↑(List.length x1):Int) (10:Int),false),(false,false),(true,true)])):=by kernel_rfl
theorem e10_7 (x0:Int) (x0':Int) (x1:(List (Int×(Int×Unit)))) (x2:(List Int)):runPure (kl10_0 Go.Proofs.Tryz.prog).orc Go.Proofs.Tryz.prog 400 10 as10 rs10 ((x0,x0',()),x1,x2,()) [tt,ff,ff,tt,tt,tt,ff,ff,ff,ff,ff,tt,ff,ff,ff,tt,tt,ff,ff,ff,ff,ff,tt] =
    (let r0:=g53 (x1,());let r2:=g54 ((x0,(x0',())),(x1,()));let r1:=g52 ((x0,(x0',())),(r0.1,()));let r3:=g55 ((x0,(x0',())),(x1,()));let r4:=g52 (((if (-1000000:Int) < wrap64 (x0 - (1:Int)) then wrap64 (x0 - (1:Int)) else (-1000000:Int):Int),((if (1:Int) < wrap64 (x0' - (1:Int)) then wrap64 (x0' - (1:Int)) else (1:Int):Int),())),(r0.1,())); some ((true,()),[(eqF (↑(List.length x2):Int) (0:Int),true),(!leF r1.1 r4.1,false),(!eqF r4.2.1 0,false),(!eqF r4.2.1 0,false),(!eqF r4.2.1 0,false),(!eqF r4.2.1 0,false),(Option.isSome (f52 (((if (-1000000:Int) < wrap64 (x0 - (1:Int)) then wrap64 (x0 - (1:Int)) else (-1000000:Int):Int),((if (1:Int) < wrap64 (x0' - (1:Int)) then wrap64 (x0' - (1:Int)) else (1:Int):Int),())),(r0.1,()))),true),(Option.isSome (f53 (x1,())),true),(!eqF r1.1 r3.1,false),(!eqF r1.2.1 0,false),(!eqF r1.2.1 0,false),(Option.isSome (f55 ((x0,(x0',())),(x1,()))),true),(!eqF r1.2.1 0,false),(!eqF r1.2.1 0,false),(!eqF r1.2.1 0,false),(!eqF r1.2.1 0,false),(!eqF r2.1 0,false),(Option.isSome (f54 ((x0,(x0',())),(x1,()))),true),(Option.isSome (f52 ((x0,(x0',())),(r0.1,()))),true),(Option.isSome (f53 (x1,())),true),(!leF (↑(List.length x1):Int) (10:Int),false),(false,false),(true,true)])):=by kernel_rfl
theorem e10_8 (x0:Int) (x0':Int) (x1:(List (Int×(Int×Unit)))) (x2:(List Int)):runPure (kl10_0 Go.Proofs.Tryz.prog).orc Go.Proofs.Tryz.prog 400 10 as10 rs10 ((x0,x0',()),x1,x2,()) [tt,ff,ff,tt,tt,tt,ff,ff,ff,ff,ff,tt,ff,ff,ff,tt,tt,ff,ff,ff,ff,ff,ff,tt,tt,tt,tt,tt,tt,tt,tt,tt,tt,tt,tt,tt,tt,tt,tt,tt] =
    (let r0:=g53 (x1,());let r2:=g54 ((x0,(x0',())),(x1,()));let r1:=g52 ((x0,(x0',())),(r0.1,()));let r3:=g55 ((x0,(x0',())),(x1,()));let r4:=g52 (((if (-1000000:Int) < wrap64 (x0 - (1:Int)) then wrap64 (x0 - (1:Int)) else (-1000000:Int):Int),((if (1:Int) < wrap64 (x0' - (1:Int)) then wrap64 (x0' - (1:Int)) else (1:Int):Int),())),(r0.1,()));let r5:=b10_0 ((x1,(x2,(r1.1,((0:Int),((0:Int),()))))),((x0,(x0',())),())); some ((true,()),[(true,true),(!eqF r5.1.1 0,true),(true,true),(!eqF r5.1.1 0,true),(!eqF r5.1.1 0,true),(!eqF r5.1.1 0,true),(!eqF r5.1.1 0,true),(true,true),(true,true),(true,true),(!eqF r5.1.1 2,true),(!eqF r5.1.1 2,true),(!eqF r5.1.1 2,true),(!eqF r5.1.1 2,true),(!eqF r5.1.1 2,true),(true,true),(isBrk (l10_0 ((x1,(x2,(r1.1,((0:Int),((0:Int),()))))),((x0,(x0',())),()))),true),(eqF (↑(List.length x2):Int) (0:Int),false),(!leF r1.1 r4.1,false),(!eqF r4.2.1 0,false),(!eqF r4.2.1 0,false),(!eqF r4.2.1 0,false),(!eqF r4.2.1 0,false),(Option.isSome (f52 (((if (-1000000:Int) < wrap64 (x0 - (1:Int)) then wrap64 (x0 - (1:Int)) else (-1000000:Int):Int),((if (1:Int) < wrap64 (x0' - (1:Int)) then wrap64 (x0' - (1:Int)) else (1:Int):Int),())),(r0.1,()))),true),(Option.isSome (f53 (x1,())),true),(!eqF r1.1 r3.1,false),(!eqF r1.2.1 0,false),(!eqF r1.2.1 0,false),(Option.isSome (f55 ((x0,(x0',())),(x1,()))),true),(!eqF r1.2.1 0,false),(!eqF r1.2.1 0,false),(!eqF r1.2.1 0,false),(!eqF r1.2.1 0,false),(!eqF r2.1 0,false),(Option.isSome (f54 ((x0,(x0',())),(x1,()))),true),(Option.isSome (f52 ((x0,(x0',())),(r0.1,()))),true),(Option.isSome (f53 (x1,())),true),(!leF (↑(List.length x1):Int) (10:Int),false),(false,false),(true,true)])):=by kernel_rfl
theorem e10_9 (x0:Int) (x0':Int) (x1:(List (Int×(Int×Unit)))) (x2:(List Int)):runPure (kl10_0 Go.Proofs.Tryz.prog).orc Go.Proofs.Tryz.prog 400 10 as10 rs10 ((x0,x0',()),x1,x2,()) [tt,ff,ff,tt,tt,tt,ff,ff,ff,ff,ff,tt,ff,ff,ff,tt,tt,ff,ff,ff,ff,ff,ff,tt,tt,tt,tt,tt,tt,tt,tt,tt,tt,ff,ff,ff,ff,tt,ff,tt] =
    (let r0:=g53 (x1,());let r2:=g54 ((x0,(x0',())),(x1,()));let r1:=g52 ((x0,(x0',())),(r0.1,()));let r3:=g55 ((x0,(x0',())),(x1,()));let r4:=g52 (((if (-1000000:Int) < wrap64 (x0 - (1:Int)) then wrap64 (x0 - (1:Int)) else (-1000000:Int):Int),((if (1:Int) < wrap64 (x0' - (1:Int)) then wrap64 (x0' - (1:Int)) else (1:Int):Int),())),(r0.1,()));let r5:=b10_0 ((x1,(x2,(r1.1,((0:Int),((0:Int),()))))),((x0,(x0',())),())); some ((!leF r5.2.1.2.1 r5.1.2.1,()),[(true,true),(!eqF r5.1.1 0,false),(true,true),(!eqF r5.1.1 0,false),(!eqF r5.1.1 0,false),(!eqF r5.1.1 0,false),(!eqF r5.1.1 0,false),(true,true),(true,true),(true,true),(!eqF r5.1.1 2,true),(!eqF r5.1.1 2,true),(!eqF r5.1.1 2,true),(!eqF r5.1.1 2,true),(!eqF r5.1.1 2,true),(true,true),(isBrk (l10_0 ((x1,(x2,(r1.1,((0:Int),((0:Int),()))))),((x0,(x0',())),()))),true),(eqF (↑(List.length x2):Int) (0:Int),false),(!leF r1.1 r4.1,false),(!eqF r4.2.1 0,false),(!eqF r4.2.1 0,false),(!eqF r4.2.1 0,false),(!eqF r4.2.1 0,false),(Option.isSome (f52 (((if (-1000000:Int) < wrap64 (x0 - (1:Int)) then wrap64 (x0 - (1:Int)) else (-1000000:Int):Int),((if (1:Int) < wrap64 (x0' - (1:Int)) then wrap64 (x0' - (1:Int)) else (1:Int):Int),())),(r0.1,()))),true),(Option.isSome (f53 (x1,())),true),(!eqF r1.1 r3.1,false),(!eqF r1.2.1 0,false),(!eqF r1.2.1 0,false),(Option.isSome (f55 ((x0,(x0',())),(x1,()))),true),(!eqF r1.2.1 0,false),(!eqF r1.2.1 0,false),(!eqF r1.2.1 0,false),(!eqF r1.2.1 0,false),(!eqF r2.1 0,false),(Option.isSome (f54 ((x0,(x0',())),(x1,()))),true),(Option.isSome (f52 ((x0,(x0',())),(r0.1,()))),true),(Option.isSome (f53 (x1,())),true),(!leF (↑(List.length x1):Int) (10:Int),false),(false,false),(true,true)])):=by kernel_rfl
theorem e10_10 (x0:Int) (x0':Int) (x1:(List (Int×(Int×Unit)))) (x2:(List Int)):runPure (kl10_0 Go.Proofs.Tryz.prog).orc Go.Proofs.Tryz.prog 400 10 as10 rs10 ((x0,x0',()),x1,x2,()) [tt,ff,ff,tt,tt,tt,ff,ff,ff,ff,ff,tt,ff,ff,ff,tt,tt,ff,ff,ff,ff,ff,ff,tt,tt,ff,ff,ff,ff,ff,tt,tt,tt,tt,tt,tt,tt,tt,tt,tt] =
    (let r0:=g53 (x1,());let r2:=g54 ((x0,(x0',())),(x1,()));let r1:=g52 ((x0,(x0',())),(r0.1,()));let r3:=g55 ((x0,(x0',())),(x1,()));let r4:=g52 (((if (-1000000:Int) < wrap64 (x0 - (1:Int)) then wrap64 (x0 - (1:Int)) else (-1000000:Int):Int),((if (1:Int) < wrap64 (x0' - (1:Int)) then wrap64 (x0' - (1:Int)) else (1:Int):Int),())),(r0.1,()));let r5:=b10_0 ((x1,(x2,(r1.1,((0:Int),((0:Int),()))))),((x0,(x0',())),())); some ((true,()),[(leF r5.2.1.2.1 r5.1.2.1,true),(!eqF r5.1.1 0,true),(leF r5.2.1.2.1 r5.1.2.1,true),(!eqF r5.1.1 0,true),(!eqF r5.1.1 0,true),(!eqF r5.1.1 0,true),(!eqF r5.1.1 0,true),(leF r5.2.1.2.1 r5.1.2.1,true),(leF r5.2.1.2.1 r5.1.2.1,true),(leF r5.2.1.2.1 r5.1.2.1,true),(!eqF r5.1.1 2,false),(!eqF r5.1.1 2,false),(!eqF r5.1.1 2,false),(!eqF r5.1.1 2,false),(!eqF r5.1.1 2,false),(true,true),(isBrk (l10_0 ((x1,(x2,(r1.1,((0:Int),((0:Int),()))))),((x0,(x0',())),()))),true),(eqF (↑(List.length x2):Int) (0:Int),false),(!leF r1.1 r4.1,false),(!eqF r4.2.1 0,false),(!eqF r4.2.1 0,false),(!eqF r4.2.1 0,false),(!eqF r4.2.1 0,false),(Option.isSome (f52 (((if (-1000000:Int) < wrap64 (x0 - (1:Int)) then wrap64 (x0 - (1:Int)) else (-1000000:Int):Int),((if (1:Int) < wrap64 (x0' - (1:Int)) then wrap64 (x0' - (1:Int)) else (1:Int):Int),())),(r0.1,()))),true),(Option.isSome (f53 (x1,())),true),(!eqF r1.1 r3.1,false),(!eqF r1.2.1 0,false),(!eqF r1.2.1 0,false),(Option.isSome (f55 ((x0,(x0',())),(x1,()))),true),(!eqF r1.2.1 0,false),(!eqF r1.2.1 0,false),(!eqF r1.2.1 0,false),(!eqF r1.2.1 0,false),(!eqF r2.1 0,false),(Option.isSome (f54 ((x0,(x0',())),(x1,()))),true),(Option.isSome (f52 ((x0,(x0',())),(r0.1,()))),true),(Option.isSome (f53 (x1,())),true),(!leF (↑(List.length x1):Int) (10:Int),false),(false,false),(true,true)])):=by kernel_rfl
theorem e10_11 (x0:Int) (x0':Int) (x1:(List (Int×(Int×Unit)))) (x2:(List Int)):runPure (kl10_0 Go.Proofs.Tryz.prog).orc Go.Proofs.Tryz.prog 400 10 as10 rs10 ((x0,x0',()),x1,x2,()) [tt,ff,ff,tt,tt,tt,ff,ff,ff,ff,ff,tt,ff,ff,ff,tt,tt,ff,ff,ff,ff,ff,ff,tt,tt,ff,ff,ff,ff,ff,ff,ff,ff,ff,ff] =
    (let r0:=g53 (x1,());let r2:=g54 ((x0,(x0',())),(x1,()));let r1:=g52 ((x0,(x0',())),(r0.1,()));let r3:=g55 ((x0,(x0',())),(x1,()));let r4:=g52 (((if (-1000000:Int) < wrap64 (x0 - (1:Int)) then wrap64 (x0 - (1:Int)) else (-1000000:Int):Int),((if (1:Int) < wrap64 (x0' - (1:Int)) then wrap64 (x0' - (1:Int)) else (1:Int):Int),())),(r0.1,()));let r5:=b10_0 ((x1,(x2,(r1.1,((0:Int),((0:Int),()))))),((x0,(x0',())),())); some ((false,()),[(leF r5.2.1.2.1 r5.1.2.1,false),(leF r5.2.1.2.1 r5.1.2.1,false),(leF r5.2.1.2.1 r5.1.2.1,false),(leF r5.2.1.2.1 r5.1.2.1,false),(leF r5.2.1.2.1 r5.1.2.1,false),(!eqF r5.1.1 2,false),(!eqF r5.1.1 2,false),(!eqF r5.1.1 2,false),(!eqF r5.1.1 2,false),(!eqF r5.1.1 2,false),(true,true),(isBrk (l10_0 ((x1,(x2,(r1.1,((0:Int),((0:Int),()))))),((x0,(x0',())),()))),true),(eqF (↑(List.length x2):Int) (0:Int),false),(!leF r1.1 r4.1,false),(!eqF r4.2.1 0,false),(!eqF r4.2.1 0,false),(!eqF r4.2.1 0,false),(!eqF r4.2.1 0,false),(Option.isSome (f52 (((if (-1000000:Int) < wrap64 (x0 - (1:Int)) then wrap64 (x0 - (1:Int)) else (-1000000:Int):Int),((if (1:Int) < wrap64 (x0' - (1:Int)) then wrap64 (x0' - (1:Int)) else (1:Int):Int),())),(r0.1,()))),true),(Option.isSome (f53 (x1,())),true),(!eqF r1.1 r3.1,false),(!eqF r1.2.1 0,false),(!eqF r1.2.1 0,false),(Option.isSome (f55 ((x0,(x0',())),(x1,()))),true),(!eqF r1.2.1 0,false),(!eqF r1.2.1 0,false),(!eqF r1.2.1 0,false),(!eqF r1.2.1 0,false),(!eqF r2.1 0,false),(Option.isSome (f54 ((x0,(x0',())),(x1,()))),true),(Option.isSome (f52 ((x0,(x0',())),(r0.1,()))),true),(Option.isSome (f53 (x1,())),true),(!leF (↑(List.length x1):Int) (10:Int),false),(false,false),(true,true)])):=by kernel_rfl

set_option maxRecDepth 100000 in
theorem ok10_t (x0:Int) (x0':Int) (x1:(List (Int×(Int×Unit)))) (x2:(List Int)):TrOk (PureRuns Go.Proofs.Tryz.prog (kl10_0 Go.Proofs.Tryz.prog).orc 10 as10 rs10 ((x0,x0',()),x1,x2,())) (t10 x0 x0' x1 x2) :=
  TrOk.ofTest (fun h2=>TrOk.ofFin (PureRuns.of (e10_0 x0 x0' x1 x2) (ac h2 (ac rfl (ac rfl All.nil))))) (fun h2=>TrOk.ofTest (fun h3=>TrOk.ofTest (fun h4=>TrOk.ofTest (fun h5=>TrOk.ofTest (fun h6=>TrOk.ofTest (fun h7=>TrOk.ofFin (PureRuns.of (e10_1 x0 x0' x1 x2) (ac h7 (ac h7 (ac h7 (ac h6 (ac h5 (ac h4 (ac h3 (ac h2 (ac rfl (ac rfl All.nil)))))))))))) (fun h7=>TrOk.ofFin (PureRuns.of (e10_2 x0 x0' x1 x2) (ac h7 (ac h7 (ac h7 (ac h6 (ac h5 (ac h4 (ac h3 (ac h2 (ac rfl (ac rfl All.nil))))))))))))) (fun h6=>TrOk.ofTest (fun h7=>TrOk.ofFin (PureRuns.of (e10_3 x0 x0' x1 x2) (ac rfl (ac (nn h7) (ac (nn h7) (ac (nn h7) (ac (nn h7) (ac (nn h7) (ac h7 (ac h6 (ac h5 (ac h4 (ac h3 (ac h2 (ac rfl (ac rfl All.nil)))))))))))))))) (fun h7=>TrOk.ofTest (fun h11=>TrOk.ofTest (fun h14=>TrOk.ofFin (PureRuns.of (e10_4 x0 x0' x1 x2) (ac h14 (ac (nn h7) (ac (nn h7) (ac h11 (ac (nn h7) (ac (nn h7) (ac (nn h7) (ac h7 (ac h6 (ac h5 (ac h4 (ac h3 (ac h2 (ac rfl (ac rfl All.nil))))))))))))))))) (fun h14=>TrOk.ofTest (fun h16=>TrOk.ofTest (fun h17=>TrOk.ofFin (PureRuns.of (e10_5 x0 x0' x1 x2) (ac rfl (ac (nn h17) (ac (nn h17) (ac (nn h17) (ac h17 (ac h16 (ac h3 (ac h14 (ac (nn h7) (ac (nn h7) (ac h11 (ac (nn h7) (ac (nn h7) (ac (nn h7) (ac h7 (ac h6 (ac h5 (ac h4 (ac h3 (ac h2 (ac rfl (ac rfl All.nil)))))))))))))))))))))))) (fun h17=>TrOk.ofTest (fun h21=>TrOk.ofFin (PureRuns.of (e10_6 x0 x0' x1 x2) (ac h21 (ac (nn h17) (ac (nn h17) (ac (nn h17) (ac h17 (ac h16 (ac h3 (ac h14 (ac (nn h7) (ac (nn h7) (ac h11 (ac (nn h7) (ac (nn h7) (ac (nn h7) (ac h7 (ac h6 (ac h5 (ac h4 (ac h3 (ac h2 (ac rfl (ac rfl All.nil)))))))))))))))))))))))) (fun h21=>TrOk.ofTest (fun h22=>TrOk.ofFin (PureRuns.of (e10_7 x0 x0' x1 x2) (ac h22 (ac h21 (ac (nn h17) (ac (nn h17) (ac (nn h17) (ac h17 (ac h16 (ac h3 (ac h14 (ac (nn h7) (ac (nn h7) (ac h11 (ac (nn h7) (ac (nn h7) (ac (nn h7) (ac h7 (ac h6 (ac h5 (ac h4 (ac h3 (ac h2 (ac rfl (ac rfl All.nil))))))))))))))))))))))))) (fun h22=>TrOk.ofTest (fun h23=>TrOk.ofTest (fun h25=>TrOk.ofTest (fun h30=>TrOk.ofFin (PureRuns.of (e10_10 x0 x0' x1 x2) (ac h30 (ac (not_of (eq_other h25 rfl)) (ac h30 (ac (not_of (eq_other h25 rfl)) (ac (not_of (eq_other h25 rfl)) (ac (not_of (eq_other h25 rfl)) (ac (not_of (eq_other h25 rfl)) (ac h30 (ac h30 (ac h30 (ac (not_of h25) (ac (not_of h25) (ac (not_of h25) (ac (not_of h25) (ac (not_of h25) (ac rfl (ac h23 (ac h22 (ac h21 (ac (nn h17) (ac (nn h17) (ac (nn h17) (ac h17 (ac h16 (ac h3 (ac h14 (ac (nn h7) (ac (nn h7) (ac h11 (ac (nn h7) (ac (nn h7) (ac (nn h7) (ac h7 (ac h6 (ac h5 (ac h4 (ac h3 (ac h2 (ac rfl (ac rfl All.nil)))))))))))))))))))))))))))))))))))))))))) (fun h30=>TrOk.ofFin (PureRuns.of (e10_11 x0 x0' x1 x2) (ac h30 (ac h30 (ac h30 (ac h30 (ac h30 (ac (not_of h25) (ac (not_of h25) (ac (not_of h25) (ac (not_of h25) (ac (not_of h25) (ac rfl (ac h23 (ac h22 (ac h21 (ac (nn h17) (ac (nn h17) (ac (nn h17) (ac h17 (ac h16 (ac h3 (ac h14 (ac (nn h7) (ac (nn h7) (ac h11 (ac (nn h7) (ac (nn h7) (ac (nn h7) (ac h7 (ac h6 (ac h5 (ac h4 (ac h3 (ac h2 (ac rfl (ac rfl All.nil)))))))))))))))))))))))))))))))))))))) (fun h25=>TrOk.ofTest (fun h33=>TrOk.ofFin (PureRuns.of (e10_8 x0 x0' x1 x2) (ac rfl (ac (nn h33) (ac rfl (ac (nn h33) (ac (nn h33) (ac (nn h33) (ac h33 (ac rfl (ac rfl (ac rfl (ac (not_of h25) (ac (not_of h25) (ac (not_of h25) (ac (not_of h25) (ac (not_of h25) (ac rfl (ac h23 (ac h22 (ac h21 (ac (nn h17) (ac (nn h17) (ac (nn h17) (ac h17 (ac h16 (ac h3 (ac h14 (ac (nn h7) (ac (nn h7) (ac h11 (ac (nn h7) (ac (nn h7) (ac (nn h7) (ac h7 (ac h6 (ac h5 (ac h4 (ac h3 (ac h2 (ac rfl (ac rfl All.nil)))))))))))))))))))))))))))))))))))))))))) (fun h33=>TrOk.ofFin (PureRuns.of (e10_9 x0 x0' x1 x2) (ac rfl (ac (nn h33) (ac rfl (ac (nn h33) (ac (nn h33) (ac (nn h33) (ac h33 (ac rfl (ac rfl (ac rfl (ac (not_of h25) (ac (not_of h25) (ac (not_of h25) (ac (not_of h25) (ac (not_of h25) (ac rfl (ac h23 (ac h22 (ac h21 (ac (nn h17) (ac (nn h17) (ac (nn h17) (ac h17 (ac h16 (ac h3 (ac h14 (ac (nn h7) (ac (nn h7) (ac h11 (ac (nn h7) (ac (nn h7) (ac (nn h7) (ac h7 (ac h6 (ac h5 (ac h4 (ac h3 (ac h2 (ac rfl (ac rfl All.nil)))))))))))))))))))))))))))))))))))))))))))) (fun h23=>TrOk.ofStop))))) (fun h16=>TrOk.ofStop))) (fun h11=>TrOk.ofStop)))) (fun h5=>TrOk.ofStop)) (fun h4=>TrOk.ofStop)) (fun h3=>TrOk.ofStop))

theorem ok10:PureOk Go.Proofs.Tryz.prog 10 p10:=pureOk_of kl10_0_ok.base (T:=fun (d:Tys.data as10)=>t10 d.1.1 d.1.2.1 d.2.1 d.2.2.1) (by kernel_rfl) (fun (d:Tys.data as10)=>ok10_t d.1.1 d.1.2.1 d.2.1 d.2.2.1)

end Go.Vm.Mo
