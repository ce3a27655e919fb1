import Derived.Test.YtkhlccjbpejpjaaGreatA4
import Derived.KernelRfl
import Derived.Test.YtkhlccjbpejpjaaGreatProg
import Derived.Test.YtkhlccjbpejpjaaGreatRsFa
set_option linter.unusedVariables false
set_option linter.unusedSimpArgs false

namespace Go.Vm.Mo
open Go
set_option linter.unusedVariables false

/-! (ductility/sensor.watch).votersAt -/

abbrev as89:List Ty:=[(.pair (.pair (.int .i64) (.pair (.int .i64) (.pair (.int .i64) .unit))) (.pair (.slice (.slice (.int .i64))) .unit)),(.int .i64)]
abbrev rs89:List Ty:=[(.slice (.int .i64))]

def t89 (x0_:Int) (x0_':Int) (x0_'':Int) (x0':(List (List Int))) (x1:Int):Tr (Tys.data rs89) :=
  Tr.test (isBrk (l89_0 ((x1,(([]:List Int),(x0',((↑(List.length x0'):Int),((0:Int),()))))),((x0_,(x0_',(x0_'',(x0',())))),()))))
    (let r0:=b89_0 ((x1,(([]:List Int),(x0',((↑(List.length x0'):Int),((0:Int),()))))),((x0_,(x0_',(x0_'',(x0',())))),()));
    Tr.fin ((r0.1.1,())))
    (Tr.stop)

def f89 (d:Tys.data as89):Option (Tys.data rs89):=(t89 d.1.1.1 d.1.1.2.1 d.1.1.2.2.1 d.1.2.1 d.2.1).val
def g89 (d:Tys.data as89):Tys.data rs89:=(f89 d).getD (Tys.dflt rs89)
def p89:PureC:=pcOf as89 rs89 f89 g89

theorem wk89 (x0_:Int) (x0_':Int) (x0_'':Int) (x0':(List (List Int))) (x1:Int):Walks (runPure (kl89_0 Go.Proofs.Tryz.prog).orc Go.Proofs.Tryz.prog 400 89 as89 rs89 (((x0_,x0_',x0_'',()),x0',()),x1,())) (t89 x0_ x0_' x0_'' x0' x1) [([tt],[1,2])] :=
  ⟨by kernel_rfl,trivial⟩

theorem ok89_t (x0_:Int) (x0_':Int) (x0_'':Int) (x0':(List (List Int))) (x1:Int):TrOk (PureRuns Go.Proofs.Tryz.prog (kl89_0 Go.Proofs.Tryz.prog).orc 89 as89 rs89 (((x0_,x0_',x0_'',()),x0',()),x1,())) (t89 x0_ x0_' x0_'' x0' x1) :=
  Walks.ok (fun _ _ _=>PureRuns.of) (wk89 x0_ x0_' x0_'' x0' x1) (by kernel_rfl)

theorem ok89:PureOk Go.Proofs.Tryz.prog 89 p89:=pureOk_of kl89_0_ok.base (T:=fun (d:Tys.data as89)=>t89 d.1.1.1 d.1.1.2.1 d.1.1.2.2.1 d.1.2.1 d.2.1) (by kernel_rfl) (fun (d:Tys.data as89)=>ok89_t d.1.1.1 d.1.1.2.1 d.1.1.2.2.1 d.1.2.1 d.2.1)
def kf89 (P:Go.Program):Known:=(kl89_0 P).func 89 p89
theorem kf89_ok:KnownOk Go.Proofs.Tryz.prog (kf89 Go.Proofs.Tryz.prog):=kl89_0_ok.func ok89

/-! loop 0 of ductility/sensor.TrippedIn -/

abbrev sh42_0:Sh:={ n:=41,slots:=[3,6,8,22,23],pats:=[.ptr 0 3 0,.ptr 1 4 0,.ty (.int .i64),.ty (.int .i64),.ty (.int .i64)],boxes:=[.row [.ty (.int .i64),.ty (.int .i64),.ty (.int .i64)],.row [.ty (.int .i64),.ty (.int .i64),.ty (.int .i64),.ty (.slice (.slice (.int .i64)))]] }
abbrev shb42_0:Sh:={ n:=41,slots:=[],pats:=[],boxes:=[.row [.ty (.int .i64),.ty (.int .i64),.ty (.int .i64)],.row [.ty (.int .i64),.ty (.int .i64),.ty (.int .i64),.ty (.slice (.slice (.int .i64)))]] }
abbrev shr42_0:Sh:={ n:=41,slots:=[4,5],pats:=[.ty (.int .i64),.ty (.int .i64)],boxes:=[.row [.ty (.int .i64),.ty (.int .i64),.ty (.int .i64)],.row [.ty (.int .i64),.ty (.int .i64),.ty (.int .i64),.ty (.slice (.slice (.int .i64)))]] }

def t42_0 (x2:Int) (x3:Int) (x4:Int) (b0_0:Int) (b0_1:Int) (b0_2:Int) (b1_0:Int) (b1_1:Int) (b1_2:Int) (b1_3:(List (List Int))):Tr (Out sh42_0.data shb42_0.data shr42_0.data) :=
  Tr.test ((!leF x3 x4:Bool))
    (Tr.test (Option.isSome (f89 (((b1_0,(b1_1,(b1_2,()))),(b1_3,())),(x4,()))))
      (let r0:=g89 (((b1_0,(b1_1,(b1_2,()))),(b1_3,())),(x4,()));
      Tr.test ((!leF b0_1 (↑(List.length r0.1):Int):Bool))
        (Tr.test ((eqF (0:Int) b0_2:Bool))
          (Tr.fin (.ret ((x4,((0:Int),())),((b0_0,(b0_1,(b0_2,()))),((b1_0,(b1_1,(b1_2,(b1_3,())))),())))))
          (Tr.fin (.again (((0:Int),(x3,((wrap64 (x4 + (1:Int)):Int),()))),((b0_0,(b0_1,(b0_2,()))),((b1_0,(b1_1,(b1_2,(b1_3,())))),()))))))
        (Tr.test ((eqF (wrap64 (x2 + (1:Int))) b0_2:Bool))
          (Tr.fin (.ret ((x4,((0:Int),())),((b0_0,(b0_1,(b0_2,()))),((b1_0,(b1_1,(b1_2,(b1_3,())))),())))))
          (Tr.fin (.again (((wrap64 (x2 + (1:Int)):Int),(x3,((wrap64 (x4 + (1:Int)):Int),()))),((b0_0,(b0_1,(b0_2,()))),((b1_0,(b1_1,(b1_2,(b1_3,())))),())))))))
      (Tr.stop))
    (Tr.fin (.brk ((),((b0_0,(b0_1,(b0_2,()))),((b1_0,(b1_1,(b1_2,(b1_3,())))),())))))

def s42_0 (d:sh42_0.data):Option (Out sh42_0.data shb42_0.data shr42_0.data):=(t42_0 d.1.1 d.1.2.1 d.1.2.2.1 d.2.1.1 d.2.1.2.1 d.2.1.2.2.1 d.2.2.1.1 d.2.2.1.2.1 d.2.2.1.2.2.1 d.2.2.1.2.2.2.1).val
def l42_0 (d:sh42_0.data):Option (shb42_0.data ⊕ shr42_0.data):=itr s42_0 rounds d
def b42_0 (d:sh42_0.data):shb42_0.data:=outB shb42_0.dflt (l42_0 d)
def r42_0 (d:sh42_0.data):shr42_0.data:=outR shr42_0.dflt (l42_0 d)
def lc42_0:LoopC:=lcOf sh42_0 shb42_0 shr42_0 l42_0 b42_0 r42_0

theorem wk42_0 (x2:Int) (x3:Int) (x4:Int) (b0_0:Int) (b0_1:Int) (b0_2:Int) (b1_0:Int) (b1_1:Int) (b1_2:Int) (b1_3:(List (List Int))):Walks (runBody (kf89 Go.Proofs.Tryz.prog).orc Go.Proofs.Tryz.prog 400 42 0 sh42_0 shb42_0 shr42_0 ((x2,x3,x4,()),(b0_0,b0_1,b0_2,()),(b1_0,b1_1,b1_2,b1_3,()),())) (t42_0 x2 x3 x4 b0_0 b0_1 b0_2 b1_0 b1_1 b1_2 b1_3) [([true,true,true,true],[2,4,6,8]),([true,true,true,false],[2,4,6,8]),([true,true,false,true],[2,4,6,8]),([true,true,false,false],[2,4,6,8]),([ff],[2])] :=
  ⟨by kernel_rfl,by kernel_rfl,by kernel_rfl,by kernel_rfl,by kernel_rfl,trivial⟩

theorem ok42_0_t (x2:Int) (x3:Int) (x4:Int) (b0_0:Int) (b0_1:Int) (b0_2:Int) (b1_0:Int) (b1_1:Int) (b1_2:Int) (b1_3:(List (List Int))):TrOk (BodyRuns Go.Proofs.Tryz.prog (kf89 Go.Proofs.Tryz.prog).orc 42 0 sh42_0 shb42_0 shr42_0 ((x2,x3,x4,()),(b0_0,b0_1,b0_2,()),(b1_0,b1_1,b1_2,b1_3,()),())) (t42_0 x2 x3 x4 b0_0 b0_1 b0_2 b1_0 b1_1 b1_2 b1_3) :=
  Walks.ok (fun _ _ _=>BodyRuns.of) (wk42_0 x2 x3 x4 b0_0 b0_1 b0_2 b1_0 b1_1 b1_2 b1_3) (by kernel_rfl)

theorem ok42_0:LoopOk Go.Proofs.Tryz.prog 42 0 lc42_0:=loopOk_of (sh:=sh42_0) (shB:=shb42_0) (shR:=shr42_0) kf89_ok.base (T:=fun (d:sh42_0.data)=>t42_0 d.1.1 d.1.2.1 d.1.2.2.1 d.2.1.1 d.2.1.2.1 d.2.1.2.2.1 d.2.2.1.1 d.2.2.1.2.1 d.2.2.1.2.2.1 d.2.2.1.2.2.2.1) (by kernel_rfl) rfl (fun (d:sh42_0.data)=>ok42_0_t d.1.1 d.1.2.1 d.1.2.2.1 d.2.1.1 d.2.1.2.1 d.2.1.2.2.1 d.2.2.1.1 d.2.2.1.2.1 d.2.2.1.2.2.1 d.2.2.1.2.2.2.1) (fun _=>rfl)
def kl42_0 (P:Go.Program):Known:=(kf89 P).loop 42 0 lc42_0
theorem kl42_0_ok:KnownOk Go.Proofs.Tryz.prog (kl42_0 Go.Proofs.Tryz.prog):=kf89_ok.loop ok42_0

/-! ductility/sensor.TrippedIn -/

abbrev as42:List Ty:=[(.slice (.slice (.int .i64))),(.pair (.int .i64) (.pair (.int .i64) (.pair (.int .i64) .unit)))]
abbrev rs42:List Ty:=[(.int .i64),(.int .i64)]

def t42 (x0:(List (List Int))) (x1:Int) (x1':Int) (x1'':Int):Tr (Tys.data rs42) :=
  Tr.test (Option.isSome (f88 (x0,((x1,(x1',(x1'',()))),()))))
    (let r0:=g88 (x0,((x1,(x1',(x1'',()))),()));
    Tr.test ((!eqF r0.2.1 0:Bool))
      (Tr.fin (((0:Int),(r0.2.1,()))))
      (Tr.test ((true && decide ((0:Int) < (↑(List.length x0):Int)):Bool))
        (Tr.test (Option.isSome (l42_0 (((0:Int),((↑(List.length (List.getD x0 (0:Nat) [])):Int),((0:Int),()))),((x1,(x1',(x1'',()))),((r0.1.1.1,(r0.1.1.2.1,(r0.1.1.2.2.1,(r0.1.2.1,())))),())))))
          (Tr.test (isRet (l42_0 (((0:Int),((↑(List.length (List.getD x0 (0:Nat) [])):Int),((0:Int),()))),((x1,(x1',(x1'',()))),((r0.1.1.1,(r0.1.1.2.1,(r0.1.1.2.2.1,(r0.1.2.1,())))),())))))
            (let r1:=r42_0 (((0:Int),((↑(List.length (List.getD x0 (0:Nat) [])):Int),((0:Int),()))),((x1,(x1',(x1'',()))),((r0.1.1.1,(r0.1.1.2.1,(r0.1.1.2.2.1,(r0.1.2.1,())))),())));
            Tr.fin ((r1.1.1,(r1.1.2.1,()))))
            (Tr.fin (((0:Int),((12:Int),())))))
          (Tr.stop))
        (Tr.stop)))
    (Tr.stop)

def f42 (d:Tys.data as42):Option (Tys.data rs42):=(t42 d.1 d.2.1.1 d.2.1.2.1 d.2.1.2.2.1).val
def g42 (d:Tys.data as42):Tys.data rs42:=(f42 d).getD (Tys.dflt rs42)
def p42:PureC:=pcOf as42 rs42 f42 g42

theorem wk42 (x0:(List (List Int))) (x1:Int) (x1':Int) (x1'':Int):Walks (runPure (kl42_0 Go.Proofs.Tryz.prog).orc Go.Proofs.Tryz.prog 400 42 as42 rs42 (x0,(x1,x1',x1'',()),())) (t42 x0 x1 x1' x1'') [([true,true],[2,4]),([true,false,true,true,true],[2,4,6,8,10]),([true,false,true,true,false],[2,4,6,8,10])] :=
  ⟨by kernel_rfl,by kernel_rfl,by kernel_rfl,trivial⟩

theorem ok42_t (x0:(List (List Int))) (x1:Int) (x1':Int) (x1'':Int):TrOk (PureRuns Go.Proofs.Tryz.prog (kl42_0 Go.Proofs.Tryz.prog).orc 42 as42 rs42 (x0,(x1,x1',x1'',()),())) (t42 x0 x1 x1' x1'') :=
  Walks.ok (fun _ _ _=>PureRuns.of) (wk42 x0 x1 x1' x1'') (by kernel_rfl)

theorem ok42:PureOk Go.Proofs.Tryz.prog 42 p42:=pureOk_of kl42_0_ok.base (T:=fun (d:Tys.data as42)=>t42 d.1 d.2.1.1 d.2.1.2.1 d.2.1.2.2.1) (by kernel_rfl) (fun (d:Tys.data as42)=>ok42_t d.1 d.2.1.1 d.2.1.2.1 d.2.1.2.2.1)
def kf42 (P:Go.Program):Known:=(kl42_0 P).func 42 p42
theorem kf42_ok:KnownOk Go.Proofs.Tryz.prog (kf42 Go.Proofs.Tryz.prog):=kl42_0_ok.func ok42

/-! loop 0 of ductility/sensor.checkItems[[]int] -/

abbrev sh102_0_1:Sh:={ n:=25,slots:=[1,9,10,11],pats:=[.fn 103 [(0,1)],.ty (.slice (.slice (.int .i64))),.ty (.int .i64),.ty (.int .i64)],boxes:=[.row [.ty (.int .i64)]] }
abbrev shb102_0_1:Sh:={ n:=25,slots:=[],pats:=[],boxes:=[.row [.ty (.int .i64)]] }
abbrev shr102_0_1:Sh:={ n:=25,slots:=[4,5],pats:=[.ty (.int .i64),.ty (.int .i64)],boxes:=[.row [.ty (.int .i64)]] }

def t102_0_1 (x1:(List (List Int))) (x2:Int) (x3:Int) (b0_0:Int):Tr (Out sh102_0_1.data shb102_0_1.data shr102_0_1.data) :=
  Tr.test ((!leF x2 x3:Bool))
    (Tr.test (decide ((0:Int) ≤ x3) && decide (x3 < (↑(List.length x1):Int)))
      (Tr.test ((eqF (↑(List.length (List.getD x1 (Int.toNat x3) [])):Int) (0:Int):Bool))
        (Tr.test (Option.isSome (f62 ((true:Bool),((10:Int),()))))
          (let r0:=g62 ((true:Bool),((10:Int),()));
          Tr.test ((!eqF r0.1 0:Bool))
            (Tr.fin (.ret ((x3,(r0.1,())),((b0_0,()),()))))
            (Tr.fin (.again ((x1,(x2,((wrap64 (x3 + (1:Int)):Int),()))),((b0_0,()),())))))
          (Tr.stop))
        (Tr.test (Option.isSome (f62 ((!eqF (↑(List.length (List.getD x1 (Int.toNat x3) [])):Int) b0_0:Bool),((10:Int),()))))
          (let r1:=g62 ((!eqF (↑(List.length (List.getD x1 (Int.toNat x3) [])):Int) b0_0:Bool),((10:Int),()));
          Tr.test ((!eqF r1.1 0:Bool))
            (Tr.fin (.ret ((x3,(r1.1,())),((b0_0,()),()))))
            (Tr.fin (.again ((x1,(x2,((wrap64 (x3 + (1:Int)):Int),()))),((b0_0,()),())))))
          (Tr.stop)))
      (Tr.stop))
    (Tr.fin (.brk ((),((b0_0,()),()))))

def s102_0_1 (d:sh102_0_1.data):Option (Out sh102_0_1.data shb102_0_1.data shr102_0_1.data):=(t102_0_1 d.1.1 d.1.2.1 d.1.2.2.1 d.2.1.1).val
def l102_0_1 (d:sh102_0_1.data):Option (shb102_0_1.data ⊕ shr102_0_1.data):=itr s102_0_1 rounds d
def b102_0_1 (d:sh102_0_1.data):shb102_0_1.data:=outB shb102_0_1.dflt (l102_0_1 d)
def r102_0_1 (d:sh102_0_1.data):shr102_0_1.data:=outR shr102_0_1.dflt (l102_0_1 d)
def lc102_0_1:LoopC:=lcOf sh102_0_1 shb102_0_1 shr102_0_1 l102_0_1 b102_0_1 r102_0_1

theorem wk102_0_1 (x1:(List (List Int))) (x2:Int) (x3:Int) (b0_0:Int):Walks (runBody (kf42 Go.Proofs.Tryz.prog).orc Go.Proofs.Tryz.prog 400 102 0 sh102_0_1 shb102_0_1 shr102_0_1 ((x1,x2,x3,()),(b0_0,()),())) (t102_0_1 x1 x2 x3 b0_0) [([true,true,true,true,true],[2,4,6,6,6,6,6,8,10]),([true,true,true,true,false],[2,4,6,6,6,6,6,8,10]),([true,true,false,true,true],[2,4,6,6,6,6,6,8,10]),([true,true,false,true,false],[2,4,6,6,6,6,6,8,10]),([ff],[2])] :=
  ⟨by kernel_rfl,by kernel_rfl,by kernel_rfl,by kernel_rfl,by kernel_rfl,trivial⟩

theorem ok102_0_1_t (x1:(List (List Int))) (x2:Int) (x3:Int) (b0_0:Int):TrOk (BodyRuns Go.Proofs.Tryz.prog (kf42 Go.Proofs.Tryz.prog).orc 102 0 sh102_0_1 shb102_0_1 shr102_0_1 ((x1,x2,x3,()),(b0_0,()),())) (t102_0_1 x1 x2 x3 b0_0) :=
  Walks.ok (fun _ _ _=>BodyRuns.of) (wk102_0_1 x1 x2 x3 b0_0) (by kernel_rfl)

theorem ok102_0_1:LoopOk Go.Proofs.Tryz.prog 102 0 lc102_0_1:=loopOk_of (sh:=sh102_0_1) (shB:=shb102_0_1) (shR:=shr102_0_1) kf42_ok.base (T:=fun (d:sh102_0_1.data)=>t102_0_1 d.1.1 d.1.2.1 d.1.2.2.1 d.2.1.1) (by kernel_rfl) rfl (fun (d:sh102_0_1.data)=>ok102_0_1_t d.1.1 d.1.2.1 d.1.2.2.1 d.2.1.1) (fun _=>rfl)
def kl102_0_1 (P:Go.Program):Known:=(kf42 P).loop 102 0 lc102_0_1
theorem kl102_0_1_ok:KnownOk Go.Proofs.Tryz.prog (kl102_0_1 Go.Proofs.Tryz.prog):=kf42_ok.loop ok102_0_1

/-! loop 0 of ductility/sensor.checkItems[[]int] -/

abbrev sh102_0_2:Sh:={ n:=25,slots:=[1,9,10,11],pats:=[.fn 104 [],.ty (.slice (.slice (.int .i64))),.ty (.int .i64),.ty (.int .i64)],boxes:=[] }
abbrev shb102_0_2:Sh:={ n:=25,slots:=[],pats:=[],boxes:=[] }
abbrev shr102_0_2:Sh:={ n:=25,slots:=[4,5],pats:=[.ty (.int .i64),.ty (.int .i64)],boxes:=[] }

def t102_0_2 (x1:(List (List Int))) (x2:Int) (x3:Int):Tr (Out sh102_0_2.data shb102_0_2.data shr102_0_2.data) :=
  Tr.test ((!leF x2 x3:Bool))
    (Tr.test (decide ((0:Int) ≤ x3) && decide (x3 < (↑(List.length x1):Int)))
      (Tr.test (Option.isSome (f66 ((0:Int),((255:Int),((List.getD x1 (Int.toNat x3) []:List Int),())))))
        (let r0:=g66 ((0:Int),((255:Int),((List.getD x1 (Int.toNat x3) []:List Int),())));
        Tr.test (Option.isSome (f62 ((!r0.1:Bool),((2:Int),()))))
          (let r1:=g62 ((!r0.1:Bool),((2:Int),()));
          Tr.test ((!eqF r1.1 0:Bool))
            (Tr.fin (.ret ((x3,(r1.1,())),())))
            (Tr.fin (.again ((x1,(x2,((wrap64 (x3 + (1:Int)):Int),()))),()))))
          (Tr.stop))
        (Tr.stop))
      (Tr.stop))
    (Tr.fin (.brk ((),())))

def s102_0_2 (d:sh102_0_2.data):Option (Out sh102_0_2.data shb102_0_2.data shr102_0_2.data):=(t102_0_2 d.1.1 d.1.2.1 d.1.2.2.1).val
def l102_0_2 (d:sh102_0_2.data):Option (shb102_0_2.data ⊕ shr102_0_2.data):=itr s102_0_2 rounds d
def b102_0_2 (d:sh102_0_2.data):shb102_0_2.data:=outB shb102_0_2.dflt (l102_0_2 d)
def r102_0_2 (d:sh102_0_2.data):shr102_0_2.data:=outR shr102_0_2.dflt (l102_0_2 d)
def lc102_0_2:LoopC:=lcOf sh102_0_2 shb102_0_2 shr102_0_2 l102_0_2 b102_0_2 r102_0_2

theorem wk102_0_2 (x1:(List (List Int))) (x2:Int) (x3:Int):Walks (runBody (kl102_0_1 Go.Proofs.Tryz.prog).orc Go.Proofs.Tryz.prog 400 102 0 sh102_0_2 shb102_0_2 shr102_0_2 ((x1,x2,x3,()),())) (t102_0_2 x1 x2 x3) [([true,true,true,true,true],[2,4,6,8,10]),([true,true,true,true,false],[2,4,6,8,10]),([ff],[2])] :=
  ⟨by kernel_rfl,by kernel_rfl,by kernel_rfl,trivial⟩

theorem ok102_0_2_t (x1:(List (List Int))) (x2:Int) (x3:Int):TrOk (BodyRuns Go.Proofs.Tryz.prog (kl102_0_1 Go.Proofs.Tryz.prog).orc 102 0 sh102_0_2 shb102_0_2 shr102_0_2 ((x1,x2,x3,()),())) (t102_0_2 x1 x2 x3) :=
  Walks.ok (fun _ _ _=>BodyRuns.of) (wk102_0_2 x1 x2 x3) (by kernel_rfl)

theorem ok102_0_2:LoopOk Go.Proofs.Tryz.prog 102 0 lc102_0_2:=loopOk_of (sh:=sh102_0_2) (shB:=shb102_0_2) (shR:=shr102_0_2) kl102_0_1_ok.base (T:=fun (d:sh102_0_2.data)=>t102_0_2 d.1.1 d.1.2.1 d.1.2.2.1) (by kernel_rfl) rfl (fun (d:sh102_0_2.data)=>ok102_0_2_t d.1.1 d.1.2.1 d.1.2.2.1) (fun _=>rfl)
def kl102_0_2 (P:Go.Program):Known:=(kl102_0_1 P).loop 102 0 lc102_0_2
theorem kl102_0_2_ok:KnownOk Go.Proofs.Tryz.prog (kl102_0_2 Go.Proofs.Tryz.prog):=kl102_0_1_ok.loop ok102_0_2

/-! loop 0 of slices.IndexFunc[[][]int,[]int] -/

abbrev sh125_0:Sh:={ n:=19,slots:=[0,1,7,8],pats:=[.ty (.slice (.slice (.int .i64))),.fn 106 [],.ty (.int .i64),.ty (.int .i64)],boxes:=[] }
abbrev shb125_0:Sh:={ n:=19,slots:=[],pats:=[],boxes:=[] }
abbrev shr125_0:Sh:={ n:=19,slots:=[4],pats:=[.ty (.int .i64)],boxes:=[] }

def t125_0 (x0:(List (List Int))) (x2:Int) (x3:Int):Tr (Out sh125_0.data shb125_0.data shr125_0.data) :=
  Tr.test ((!leF x2 x3:Bool))
    (Tr.test (decide ((0:Int) ≤ x3) && decide (x3 < (↑(List.length x0):Int)))
      (Tr.test (Option.isSome (f66 ((0:Int),((0:Int),((List.getD x0 (Int.toNat x3) []:List Int),())))))
        (let r0:=g66 ((0:Int),((0:Int),((List.getD x0 (Int.toNat x3) []:List Int),())));
        Tr.test ((!r0.1:Bool))
          (Tr.fin (.ret ((x3,()),())))
          (Tr.fin (.again ((x0,(x2,((wrap64 (x3 + (1:Int)):Int),()))),()))))
        (Tr.stop))
      (Tr.stop))
    (Tr.fin (.brk ((),())))

def s125_0 (d:sh125_0.data):Option (Out sh125_0.data shb125_0.data shr125_0.data):=(t125_0 d.1.1 d.1.2.1 d.1.2.2.1).val
def l125_0 (d:sh125_0.data):Option (shb125_0.data ⊕ shr125_0.data):=itr s125_0 rounds d
def b125_0 (d:sh125_0.data):shb125_0.data:=outB shb125_0.dflt (l125_0 d)
def r125_0 (d:sh125_0.data):shr125_0.data:=outR shr125_0.dflt (l125_0 d)
def lc125_0:LoopC:=lcOf sh125_0 shb125_0 shr125_0 l125_0 b125_0 r125_0

theorem wk125_0 (x0:(List (List Int))) (x2:Int) (x3:Int):Walks (runBody (kl102_0_2 Go.Proofs.Tryz.prog).orc Go.Proofs.Tryz.prog 400 125 0 sh125_0 shb125_0 shr125_0 ((x0,x2,x3,()),())) (t125_0 x0 x2 x3) [([true,true,true,true],[2,4,6,8]),([true,true,true,false],[2,4,6,8]),([ff],[2])] :=
  ⟨by kernel_rfl,by kernel_rfl,by kernel_rfl,trivial⟩

theorem ok125_0_t (x0:(List (List Int))) (x2:Int) (x3:Int):TrOk (BodyRuns Go.Proofs.Tryz.prog (kl102_0_2 Go.Proofs.Tryz.prog).orc 125 0 sh125_0 shb125_0 shr125_0 ((x0,x2,x3,()),())) (t125_0 x0 x2 x3) :=
  Walks.ok (fun _ _ _=>BodyRuns.of) (wk125_0 x0 x2 x3) (by kernel_rfl)

theorem ok125_0:LoopOk Go.Proofs.Tryz.prog 125 0 lc125_0:=loopOk_of (sh:=sh125_0) (shB:=shb125_0) (shR:=shr125_0) kl102_0_2_ok.base (T:=fun (d:sh125_0.data)=>t125_0 d.1.1 d.1.2.1 d.1.2.2.1) (by kernel_rfl) rfl (fun (d:sh125_0.data)=>ok125_0_t d.1.1 d.1.2.1 d.1.2.2.1) (fun _=>rfl)
def kl125_0 (P:Go.Program):Known:=(kl102_0_2 P).loop 125 0 lc125_0
theorem kl125_0_ok:KnownOk Go.Proofs.Tryz.prog (kl125_0 Go.Proofs.Tryz.prog):=kl102_0_2_ok.loop ok125_0

/-! ductility/sensor.imageError -/

abbrev as76:List Ty:=[(.slice (.slice (.int .i64)))]
abbrev rs76:List Ty:=[(.int .i64)]

def t76 (x0:(List (List Int))):Tr (Tys.data rs76) :=
  Tr.test ((eqF (↑(List.length x0):Int) (0:Int):Bool))
    (Tr.fin (((10:Int),())))
    (Tr.test (true && decide ((0:Int) < (↑(List.length x0):Int)))
      (Tr.test (Option.isSome (l102_0_1 ((x0,((↑(List.length x0):Int),((0:Int),()))),(((↑(List.length (List.getD x0 (0:Nat) [])):Int),()),()))))
        (Tr.test (isRet (l102_0_1 ((x0,((↑(List.length x0):Int),((0:Int),()))),(((↑(List.length (List.getD x0 (0:Nat) [])):Int),()),()))))
          (Tr.test (Option.isSome (l102_0_2 ((x0,((↑(List.length x0):Int),((0:Int),()))),())))
            (Tr.test (isRet (l102_0_2 ((x0,((↑(List.length x0):Int),((0:Int),()))),())))
              (Tr.test (Option.isSome (l125_0 ((x0,((↑(List.length x0):Int),((0:Int),()))),())))
                (Tr.test (isRet (l125_0 ((x0,((↑(List.length x0):Int),((0:Int),()))),())))
                  (Tr.test ((!leF (↑(List.length x0):Int) (10:Int):Bool))
                    (Tr.test (Option.isSome (f62 ((true:Bool),((8:Int),()))))
                      (let r3:=r125_0 ((x0,((↑(List.length x0):Int),((0:Int),()))),());
                      Tr.test (Option.isSome (f62 ((!leF (0:Int) r3.1.1:Bool),((11:Int),()))))
                        (let r0:=r102_0_1 ((x0,((↑(List.length x0):Int),((0:Int),()))),(((↑(List.length (List.getD x0 (0:Nat) [])):Int),()),()));
                        let r2:=r102_0_2 ((x0,((↑(List.length x0):Int),((0:Int),()))),());
                        let r4:=g62 ((true:Bool),((8:Int),()));
                        let r6:=g62 ((!leF (0:Int) r3.1.1:Bool),((11:Int),()));
                        Tr.test (Option.isSome (f48 (([r0.1.2.1,r4.1,r2.1.2.1,r6.1]:List Int),())))
                          (let r7:=g48 (([r0.1.2.1,r4.1,r2.1.2.1,r6.1]:List Int),());
                          Tr.fin ((r7.1,())))
                          (Tr.stop))
                        (Tr.stop))
                      (Tr.stop))
                    (let r0:=r102_0_1 ((x0,((↑(List.length x0):Int),((0:Int),()))),(((↑(List.length (List.getD x0 (0:Nat) [])):Int),()),()));
                    Tr.test (Option.isSome (f62 ((!leF r0.2.1.1 10:Bool),((8:Int),()))))
                      (let r3:=r125_0 ((x0,((↑(List.length x0):Int),((0:Int),()))),());
                      Tr.test (Option.isSome (f62 ((!leF (0:Int) r3.1.1:Bool),((11:Int),()))))
                        (let r2:=r102_0_2 ((x0,((↑(List.length x0):Int),((0:Int),()))),());
                        let r5:=g62 ((!leF r0.2.1.1 10:Bool),((8:Int),()));
                        let r6:=g62 ((!leF (0:Int) r3.1.1:Bool),((11:Int),()));
                        Tr.test (Option.isSome (f48 (([r0.1.2.1,r5.1,r2.1.2.1,r6.1]:List Int),())))
                          (let r8:=g48 (([r0.1.2.1,r5.1,r2.1.2.1,r6.1]:List Int),());
                          Tr.fin ((r8.1,())))
                          (Tr.stop))
                        (Tr.stop))
                      (Tr.stop)))
                  (Tr.test ((!leF (↑(List.length x0):Int) (10:Int):Bool))
                    (Tr.test (Option.isSome (f62 ((true:Bool),((8:Int),()))))
                      (Tr.test (Option.isSome (f62 ((true:Bool),((11:Int),()))))
                        (let r0:=r102_0_1 ((x0,((↑(List.length x0):Int),((0:Int),()))),(((↑(List.length (List.getD x0 (0:Nat) [])):Int),()),()));
                        let r2:=r102_0_2 ((x0,((↑(List.length x0):Int),((0:Int),()))),());
                        let r4:=g62 ((true:Bool),((8:Int),()));
                        let r9:=g62 ((true:Bool),((11:Int),()));
                        Tr.test (Option.isSome (f48 (([r0.1.2.1,r4.1,r2.1.2.1,r9.1]:List Int),())))
                          (let r10:=g48 (([r0.1.2.1,r4.1,r2.1.2.1,r9.1]:List Int),());
                          Tr.fin ((r10.1,())))
                          (Tr.stop))
                        (Tr.stop))
                      (Tr.stop))
                    (let r0:=r102_0_1 ((x0,((↑(List.length x0):Int),((0:Int),()))),(((↑(List.length (List.getD x0 (0:Nat) [])):Int),()),()));
                    Tr.test (Option.isSome (f62 ((!leF r0.2.1.1 10:Bool),((8:Int),()))))
                      (Tr.test (Option.isSome (f62 ((true:Bool),((11:Int),()))))
                        (let r2:=r102_0_2 ((x0,((↑(List.length x0):Int),((0:Int),()))),());
                        let r5:=g62 ((!leF r0.2.1.1 10:Bool),((8:Int),()));
                        let r9:=g62 ((true:Bool),((11:Int),()));
                        Tr.test (Option.isSome (f48 (([r0.1.2.1,r5.1,r2.1.2.1,r9.1]:List Int),())))
                          (let r11:=g48 (([r0.1.2.1,r5.1,r2.1.2.1,r9.1]:List Int),());
                          Tr.fin ((r11.1,())))
                          (Tr.stop))
                        (Tr.stop))
                      (Tr.stop))))
                (Tr.stop))
              (Tr.test (Option.isSome (l125_0 ((x0,((↑(List.length x0):Int),((0:Int),()))),())))
                (Tr.test (isRet (l125_0 ((x0,((↑(List.length x0):Int),((0:Int),()))),())))
                  (Tr.test ((!leF (↑(List.length x0):Int) (10:Int):Bool))
                    (Tr.test (Option.isSome (f62 ((true:Bool),((8:Int),()))))
                      (let r3:=r125_0 ((x0,((↑(List.length x0):Int),((0:Int),()))),());
                      Tr.test (Option.isSome (f62 ((!leF (0:Int) r3.1.1:Bool),((11:Int),()))))
                        (let r0:=r102_0_1 ((x0,((↑(List.length x0):Int),((0:Int),()))),(((↑(List.length (List.getD x0 (0:Nat) [])):Int),()),()));
                        let r4:=g62 ((true:Bool),((8:Int),()));
                        let r6:=g62 ((!leF (0:Int) r3.1.1:Bool),((11:Int),()));
                        Tr.test (Option.isSome (f48 (([r0.1.2.1,r4.1,(0:Int),r6.1]:List Int),())))
                          (let r12:=g48 (([r0.1.2.1,r4.1,(0:Int),r6.1]:List Int),());
                          Tr.fin ((r12.1,())))
                          (Tr.stop))
                        (Tr.stop))
                      (Tr.stop))
                    (let r0:=r102_0_1 ((x0,((↑(List.length x0):Int),((0:Int),()))),(((↑(List.length (List.getD x0 (0:Nat) [])):Int),()),()));
                    Tr.test (Option.isSome (f62 ((!leF r0.2.1.1 10:Bool),((8:Int),()))))
                      (let r3:=r125_0 ((x0,((↑(List.length x0):Int),((0:Int),()))),());
                      Tr.test (Option.isSome (f62 ((!leF (0:Int) r3.1.1:Bool),((11:Int),()))))
                        (let r5:=g62 ((!leF r0.2.1.1 10:Bool),((8:Int),()));
                        let r6:=g62 ((!leF (0:Int) r3.1.1:Bool),((11:Int),()));
                        Tr.test (Option.isSome (f48 (([r0.1.2.1,r5.1,(0:Int),r6.1]:List Int),())))
                          (let r13:=g48 (([r0.1.2.1,r5.1,(0:Int),r6.1]:List Int),());
                          Tr.fin ((r13.1,())))
                          (Tr.stop))
                        (Tr.stop))
                      (Tr.stop)))
                  (Tr.test ((!leF (↑(List.length x0):Int) (10:Int):Bool))
                    (Tr.test (Option.isSome (f62 ((true:Bool),((8:Int),()))))
                      (Tr.test (Option.isSome (f62 ((true:Bool),((11:Int),()))))
                        (let r0:=r102_0_1 ((x0,((↑(List.length x0):Int),((0:Int),()))),(((↑(List.length (List.getD x0 (0:Nat) [])):Int),()),()));
                        let r4:=g62 ((true:Bool),((8:Int),()));
                        let r9:=g62 ((true:Bool),((11:Int),()));
                        Tr.test (Option.isSome (f48 (([r0.1.2.1,r4.1,(0:Int),r9.1]:List Int),())))
                          (let r14:=g48 (([r0.1.2.1,r4.1,(0:Int),r9.1]:List Int),());
                          Tr.fin ((r14.1,())))
                          (Tr.stop))
                        (Tr.stop))
                      (Tr.stop))
                    (let r0:=r102_0_1 ((x0,((↑(List.length x0):Int),((0:Int),()))),(((↑(List.length (List.getD x0 (0:Nat) [])):Int),()),()));
                    Tr.test (Option.isSome (f62 ((!leF r0.2.1.1 10:Bool),((8:Int),()))))
                      (Tr.test (Option.isSome (f62 ((true:Bool),((11:Int),()))))
                        (let r5:=g62 ((!leF r0.2.1.1 10:Bool),((8:Int),()));
                        let r9:=g62 ((true:Bool),((11:Int),()));
                        Tr.test (Option.isSome (f48 (([r0.1.2.1,r5.1,(0:Int),r9.1]:List Int),())))
                          (let r15:=g48 (([r0.1.2.1,r5.1,(0:Int),r9.1]:List Int),());
                          Tr.fin ((r15.1,())))
                          (Tr.stop))
                        (Tr.stop))
                      (Tr.stop))))
                (Tr.stop)))
            (Tr.stop))
          (Tr.test (Option.isSome (l102_0_2 ((x0,((↑(List.length x0):Int),((0:Int),()))),())))
            (Tr.test (isRet (l102_0_2 ((x0,((↑(List.length x0):Int),((0:Int),()))),())))
              (Tr.test (Option.isSome (l125_0 ((x0,((↑(List.length x0):Int),((0:Int),()))),())))
                (Tr.test (isRet (l125_0 ((x0,((↑(List.length x0):Int),((0:Int),()))),())))
                  (Tr.test ((!leF (↑(List.length x0):Int) (10:Int):Bool))
                    (Tr.test (Option.isSome (f62 ((true:Bool),((8:Int),()))))
                      (let r3:=r125_0 ((x0,((↑(List.length x0):Int),((0:Int),()))),());
                      Tr.test (Option.isSome (f62 ((!leF (0:Int) r3.1.1:Bool),((11:Int),()))))
                        (let r2:=r102_0_2 ((x0,((↑(List.length x0):Int),((0:Int),()))),());
                        let r4:=g62 ((true:Bool),((8:Int),()));
                        let r6:=g62 ((!leF (0:Int) r3.1.1:Bool),((11:Int),()));
                        Tr.test (Option.isSome (f48 (([(0:Int),r4.1,r2.1.2.1,r6.1]:List Int),())))
                          (let r17:=g48 (([(0:Int),r4.1,r2.1.2.1,r6.1]:List Int),());
                          Tr.fin ((r17.1,())))
                          (Tr.stop))
                        (Tr.stop))
                      (Tr.stop))
                    (let r1:=b102_0_1 ((x0,((↑(List.length x0):Int),((0:Int),()))),(((↑(List.length (List.getD x0 (0:Nat) [])):Int),()),()));
                    Tr.test (Option.isSome (f62 ((!leF r1.2.1.1 10:Bool),((8:Int),()))))
                      (let r3:=r125_0 ((x0,((↑(List.length x0):Int),((0:Int),()))),());
                      Tr.test (Option.isSome (f62 ((!leF (0:Int) r3.1.1:Bool),((11:Int),()))))
                        (let r2:=r102_0_2 ((x0,((↑(List.length x0):Int),((0:Int),()))),());
                        let r6:=g62 ((!leF (0:Int) r3.1.1:Bool),((11:Int),()));
                        let r16:=g62 ((!leF r1.2.1.1 10:Bool),((8:Int),()));
                        Tr.test (Option.isSome (f48 (([(0:Int),r16.1,r2.1.2.1,r6.1]:List Int),())))
                          (let r18:=g48 (([(0:Int),r16.1,r2.1.2.1,r6.1]:List Int),());
                          Tr.fin ((r18.1,())))
                          (Tr.stop))
                        (Tr.stop))
                      (Tr.stop)))
                  (Tr.test ((!leF (↑(List.length x0):Int) (10:Int):Bool))
                    (Tr.test (Option.isSome (f62 ((true:Bool),((8:Int),()))))
                      (Tr.test (Option.isSome (f62 ((true:Bool),((11:Int),()))))
                        (let r2:=r102_0_2 ((x0,((↑(List.length x0):Int),((0:Int),()))),());
                        let r4:=g62 ((true:Bool),((8:Int),()));
                        let r9:=g62 ((true:Bool),((11:Int),()));
                        Tr.test (Option.isSome (f48 (([(0:Int),r4.1,r2.1.2.1,r9.1]:List Int),())))
                          (let r19:=g48 (([(0:Int),r4.1,r2.1.2.1,r9.1]:List Int),());
                          Tr.fin ((r19.1,())))
                          (Tr.stop))
                        (Tr.stop))
                      (Tr.stop))
                    (let r1:=b102_0_1 ((x0,((↑(List.length x0):Int),((0:Int),()))),(((↑(List.length (List.getD x0 (0:Nat) [])):Int),()),()));
                    Tr.test (Option.isSome (f62 ((!leF r1.2.1.1 10:Bool),((8:Int),()))))
                      (Tr.test (Option.isSome (f62 ((true:Bool),((11:Int),()))))
                        (let r2:=r102_0_2 ((x0,((↑(List.length x0):Int),((0:Int),()))),());
                        let r9:=g62 ((true:Bool),((11:Int),()));
                        let r16:=g62 ((!leF r1.2.1.1 10:Bool),((8:Int),()));
                        Tr.test (Option.isSome (f48 (([(0:Int),r16.1,r2.1.2.1,r9.1]:List Int),())))
                          (let r20:=g48 (([(0:Int),r16.1,r2.1.2.1,r9.1]:List Int),());
                          Tr.fin ((r20.1,())))
                          (Tr.stop))
                        (Tr.stop))
                      (Tr.stop))))
                (Tr.stop))
              (Tr.test (Option.isSome (l125_0 ((x0,((↑(List.length x0):Int),((0:Int),()))),())))
                (Tr.test (isRet (l125_0 ((x0,((↑(List.length x0):Int),((0:Int),()))),())))
                  (Tr.test ((!leF (↑(List.length x0):Int) (10:Int):Bool))
                    (Tr.test (Option.isSome (f62 ((true:Bool),((8:Int),()))))
                      (let r3:=r125_0 ((x0,((↑(List.length x0):Int),((0:Int),()))),());
                      Tr.test (Option.isSome (f62 ((!leF (0:Int) r3.1.1:Bool),((11:Int),()))))
                        (let r4:=g62 ((true:Bool),((8:Int),()));
                        let r6:=g62 ((!leF (0:Int) r3.1.1:Bool),((11:Int),()));
                        Tr.test (Option.isSome (f48 (([(0:Int),r4.1,(0:Int),r6.1]:List Int),())))
                          (let r21:=g48 (([(0:Int),r4.1,(0:Int),r6.1]:List Int),());
                          Tr.fin ((r21.1,())))
                          (Tr.stop))
                        (Tr.stop))
                      (Tr.stop))
                    (let r1:=b102_0_1 ((x0,((↑(List.length x0):Int),((0:Int),()))),(((↑(List.length (List.getD x0 (0:Nat) [])):Int),()),()));
                    Tr.test (Option.isSome (f62 ((!leF r1.2.1.1 10:Bool),((8:Int),()))))
                      (let r3:=r125_0 ((x0,((↑(List.length x0):Int),((0:Int),()))),());
                      Tr.test (Option.isSome (f62 ((!leF (0:Int) r3.1.1:Bool),((11:Int),()))))
                        (let r6:=g62 ((!leF (0:Int) r3.1.1:Bool),((11:Int),()));
                        let r16:=g62 ((!leF r1.2.1.1 10:Bool),((8:Int),()));
                        Tr.test (Option.isSome (f48 (([(0:Int),r16.1,(0:Int),r6.1]:List Int),())))
                          (let r22:=g48 (([(0:Int),r16.1,(0:Int),r6.1]:List Int),());
                          Tr.fin ((r22.1,())))
                          (Tr.stop))
                        (Tr.stop))
                      (Tr.stop)))
                  (Tr.test ((!leF (↑(List.length x0):Int) (10:Int):Bool))
                    (Tr.test (Option.isSome (f62 ((true:Bool),((8:Int),()))))
                      (Tr.test (Option.isSome (f62 ((true:Bool),((11:Int),()))))
                        (let r4:=g62 ((true:Bool),((8:Int),()));
                        let r9:=g62 ((true:Bool),((11:Int),()));
                        Tr.test (Option.isSome (f48 (([(0:Int),r4.1,(0:Int),r9.1]:List Int),())))
                          (let r23:=g48 (([(0:Int),r4.1,(0:Int),r9.1]:List Int),());
                          Tr.fin ((r23.1,())))
                          (Tr.stop))
                        (Tr.stop))
                      (Tr.stop))
                    (let r1:=b102_0_1 ((x0,((↑(List.length x0):Int),((0:Int),()))),(((↑(List.length (List.getD x0 (0:Nat) [])):Int),()),()));
                    Tr.test (Option.isSome (f62 ((!leF r1.2.1.1 10:Bool),((8:Int),()))))
                      (Tr.test (Option.isSome (f62 ((true:Bool),((11:Int),()))))
                        (let r9:=g62 ((true:Bool),((11:Int),()));
                        let r16:=g62 ((!leF r1.2.1.1 10:Bool),((8:Int),()));
                        Tr.test (Option.isSome (f48 (([(0:Int),r16.1,(0:Int),r9.1]:List Int),())))
                          (let r24:=g48 (([(0:Int),r16.1,(0:Int),r9.1]:List Int),());
                          Tr.fin ((r24.1,())))
                          (Tr.stop))
                        (Tr.stop))
                      (Tr.stop))))
                (Tr.stop)))
            (Tr.stop)))
        (Tr.stop))
      (Tr.stop))

def f76 (d:Tys.data as76):Option (Tys.data rs76):=(t76 d.1).val
def g76 (d:Tys.data as76):Tys.data rs76:=(f76 d).getD (Tys.dflt rs76)
def p76:PureC:=pcOf as76 rs76 f76 g76

theorem wk76 (x0:(List (List Int))):Walks (runPure (kl125_0 Go.Proofs.Tryz.prog).orc Go.Proofs.Tryz.prog 400 76 as76 rs76 (x0,())) (t76 x0) [([tt],[2]),([false,true,true,true,true,true,true,true,true,true,true,true],[2,1,4,6,8,8,8,10,12,14,16,18,20,22,24]),([false,true,true,true,true,true,true,true,false,true,true,true],[2,1,4,6,8,8,8,10,12,14,16,18,20,22,24]),([false,true,true,true,true,true,true,false,true,true,true,true],[2,1,4,6,8,8,8,10,12,14,16,18,20,22,24]),([false,true,true,true,true,true,true,false,false,true,true,true],[2,1,4,6,8,8,8,10,12,14,16,18,20,22,24]),([false,true,true,true,true,false,true,true,true,true,true,true],[2,1,4,6,8,8,8,10,12,14,16,18,20,22,24]),([false,true,true,true,true,false,true,true,false,true,true,true],[2,1,4,6,8,8,8,10,12,14,16,18,20,22,24]),([false,true,true,true,true,false,true,false,true,true,true,true],[2,1,4,6,8,8,8,10,12,14,16,18,20,22,24]),([false,true,true,true,true,false,true,false,false,true,true,true],[2,1,4,6,8,8,8,10,12,14,16,18,20,22,24]),([false,true,true,false,true,true,true,true,true,true,true,true],[2,1,4,6,8,8,8,10,12,14,16,18,20,22,24]),([false,true,true,false,true,true,true,true,false,true,true,true],[2,1,4,6,8,8,8,10,12,14,16,18,20,22,24]),([false,true,true,false,true,true,true,false,true,true,true,true],[2,1,4,6,8,8,8,10,12,14,16,18,20,22,24]),([false,true,true,false,true,true,true,false,false,true,true,true],[2,1,4,6,8,8,8,10,12,14,16,18,20,22,24]),([false,true,true,false,true,false,true,true,true,true,true,true],[2,1,4,6,8,8,8,10,12,14,16,18,20,22,24]),([false,true,true,false,true,false,true,true,false,true,true,true],[2,1,4,6,8,8,8,10,12,14,16,18,20,22,24]),([false,true,true,false,true,false,true,false,true,true,true,true],[2,1,4,6,8,8,8,10,12,14,16,18,20,22,24]),([false,true,true,false,true,false,true,false,false,true,true,true],[2,1,4,6,8,8,8,10,12,14,16,18,20,22,24])] :=
  ⟨by kernel_rfl,by kernel_rfl,by kernel_rfl,by kernel_rfl,by kernel_rfl,by kernel_rfl,by kernel_rfl,by kernel_rfl,by kernel_rfl,by kernel_rfl,by kernel_rfl,by kernel_rfl,by kernel_rfl,by kernel_rfl,by kernel_rfl,by kernel_rfl,by kernel_rfl,trivial⟩

theorem ok76_t (x0:(List (List Int))):TrOk (PureRuns Go.Proofs.Tryz.prog (kl125_0 Go.Proofs.Tryz.prog).orc 76 as76 rs76 (x0,())) (t76 x0) :=
  Walks.ok (fun _ _ _=>PureRuns.of) (wk76 x0) (by kernel_rfl)

theorem ok76:PureOk Go.Proofs.Tryz.prog 76 p76:=pureOk_of kl125_0_ok.base (T:=fun (d:Tys.data as76)=>t76 d.1) (by kernel_rfl) (fun (d:Tys.data as76)=>ok76_t d.1)
def kf76 (P:Go.Program):Known:=(kl125_0 P).func 76 p76
theorem kf76_ok:KnownOk Go.Proofs.Tryz.prog (kf76 Go.Proofs.Tryz.prog):=kl125_0_ok.func ok76

/-! ductility/sensor.fraction -/

abbrev as65:List Ty:=[(.int .i64),(.int .i64)]
abbrev rs65:List Ty:=[(.pair (.int .i64) (.pair (.int .i64) .unit))]

def t65 (x0:Int) (x1:Int):Tr (Tys.data rs65) :=
  Tr.test (Option.isSome (f56 (x1,(([x0]:List Int),()))))
    (let r0:=g56 (x1,(([x0]:List Int),()));
    Tr.test ((r0.1 == (0:Int):Bool))
      (Tr.stop)
      (Tr.fin ((((Go.IntKind.wrap Go.IntKind.i64 (Int.tdiv x0 r0.1):Int),((Go.IntKind.wrap Go.IntKind.i64 (Int.tdiv x1 r0.1):Int),())),()))))
    (Tr.stop)

def f65 (d:Tys.data as65):Option (Tys.data rs65):=(t65 d.1 d.2.1).val
def g65 (d:Tys.data as65):Tys.data rs65:=(f65 d).getD (Tys.dflt rs65)
def p65:PureC:=pcOf as65 rs65 f65 g65

theorem wk65 (x0:Int) (x1:Int):Walks (runPure (kf76 Go.Proofs.Tryz.prog).orc Go.Proofs.Tryz.prog 400 65 as65 rs65 (x0,x1,())) (t65 x0 x1) [([true,false],[2,2,4,1])] :=
  ⟨by kernel_rfl,trivial⟩

theorem ok65_t (x0:Int) (x1:Int):TrOk (PureRuns Go.Proofs.Tryz.prog (kf76 Go.Proofs.Tryz.prog).orc 65 as65 rs65 (x0,x1,())) (t65 x0 x1) :=
  Walks.ok (fun _ _ _=>PureRuns.of) (wk65 x0 x1) (by kernel_rfl)

theorem ok65:PureOk Go.Proofs.Tryz.prog 65 p65:=pureOk_of kf76_ok.base (T:=fun (d:Tys.data as65)=>t65 d.1 d.2.1) (by kernel_rfl) (fun (d:Tys.data as65)=>ok65_t d.1 d.2.1)
def kf65 (P:Go.Program):Known:=(kf76 P).func 65 p65
theorem kf65_ok:KnownOk Go.Proofs.Tryz.prog (kf65 Go.Proofs.Tryz.prog):=kf76_ok.func ok65

/-! loop 2 of ductility/sensor.centerOf -/

abbrev sh77_2:Sh:={ n:=46,slots:=[2,3,4,5,6,10,11,12,17,18,19],pats:=[.ptr 0 4 0,.ty (.int .i64),.ty (.int .i64),.ty (.int .i64),.ty (.int .i64),.ty (.slice (.slice (.int .i64))),.ty (.int .i64),.ty (.int .i64),.ty (.slice (.int .i64)),.ty (.int .i64),.ty (.int .i64)],boxes:=[.row [.ty (.int .i64),.ty (.int .i64),.ty (.int .i64),.ty (.int .i64)]] }
abbrev shb77_2:Sh:={ n:=46,slots:=[2,3,4,5,10,11,12],pats:=[.ptr 0 4 0,.ty (.int .i64),.ty (.int .i64),.ty (.int .i64),.ty (.slice (.slice (.int .i64))),.ty (.int .i64),.ty (.int .i64)],boxes:=[.row [.ty (.int .i64),.ty (.int .i64),.ty (.int .i64),.ty (.int .i64)]] }
abbrev shr77_2:Sh:={ n:=46,slots:=[],pats:=[],boxes:=[.row [.ty (.int .i64),.ty (.int .i64),.ty (.int .i64),.ty (.int .i64)]] }

def t77_2 (x1:Int) (x2:Int) (x3:Int) (x4:Int) (x5:(List (List Int))) (x6:Int) (x7:Int) (x8:(List Int)) (x9:Int) (x10:Int) (b0_0:Int) (b0_1:Int) (b0_2:Int) (b0_3:Int):Tr (Out sh77_2.data shb77_2.data shr77_2.data) :=
  Tr.test ((!leF x9 x10:Bool))
    (Tr.test (decide ((0:Int) ≤ x10) && decide (x10 < (↑(List.length x8):Int)))
      (Tr.fin (.again (((wrap64 (x1 + wrap64 (x10 * List.getD x8 (Int.toNat x10) (0:Int))):Int),((wrap64 (x2 + wrap64 (x4 * List.getD x8 (Int.toNat x10) (0:Int))):Int),((wrap64 (x3 + List.getD x8 (Int.toNat x10) (0:Int)):Int),(x4,(x5,(x6,(x7,(x8,(x9,((wrap64 (x10 + (1:Int)):Int),())))))))))),((b0_0,(b0_1,(b0_2,(b0_3,())))),()))))
      (Tr.stop))
    (Tr.fin (.brk ((x1,(x2,(x3,(x5,(x6,(x7,())))))),((b0_0,(b0_1,(b0_2,(b0_3,())))),()))))

def s77_2 (d:sh77_2.data):Option (Out sh77_2.data shb77_2.data shr77_2.data):=(t77_2 d.1.1 d.1.2.1 d.1.2.2.1 d.1.2.2.2.1 d.1.2.2.2.2.1 d.1.2.2.2.2.2.1 d.1.2.2.2.2.2.2.1 d.1.2.2.2.2.2.2.2.1 d.1.2.2.2.2.2.2.2.2.1 d.1.2.2.2.2.2.2.2.2.2.1 d.2.1.1 d.2.1.2.1 d.2.1.2.2.1 d.2.1.2.2.2.1).val
def l77_2 (d:sh77_2.data):Option (shb77_2.data ⊕ shr77_2.data):=itr s77_2 rounds d
def b77_2 (d:sh77_2.data):shb77_2.data:=outB shb77_2.dflt (l77_2 d)
def lc77_2:LoopC:=lcB sh77_2 shb77_2 shr77_2 l77_2 b77_2

theorem wk77_2 (x1:Int) (x2:Int) (x3:Int) (x4:Int) (x5:(List (List Int))) (x6:Int) (x7:Int) (x8:(List Int)) (x9:Int) (x10:Int) (b0_0:Int) (b0_1:Int) (b0_2:Int) (b0_3:Int):Walks (runBody (kf65 Go.Proofs.Tryz.prog).orc Go.Proofs.Tryz.prog 400 77 2 sh77_2 shb77_2 shr77_2 ((x1,x2,x3,x4,x5,x6,x7,x8,x9,x10,()),(b0_0,b0_1,b0_2,b0_3,()),())) (t77_2 x1 x2 x3 x4 x5 x6 x7 x8 x9 x10 b0_0 b0_1 b0_2 b0_3) [([true,true],[2,4]),([ff],[2])] :=
  ⟨by kernel_rfl,by kernel_rfl,trivial⟩

theorem ok77_2_t (x1:Int) (x2:Int) (x3:Int) (x4:Int) (x5:(List (List Int))) (x6:Int) (x7:Int) (x8:(List Int)) (x9:Int) (x10:Int) (b0_0:Int) (b0_1:Int) (b0_2:Int) (b0_3:Int):TrOk (BodyRuns Go.Proofs.Tryz.prog (kf65 Go.Proofs.Tryz.prog).orc 77 2 sh77_2 shb77_2 shr77_2 ((x1,x2,x3,x4,x5,x6,x7,x8,x9,x10,()),(b0_0,b0_1,b0_2,b0_3,()),())) (t77_2 x1 x2 x3 x4 x5 x6 x7 x8 x9 x10 b0_0 b0_1 b0_2 b0_3) :=
  Walks.ok (fun _ _ _=>BodyRuns.of) (wk77_2 x1 x2 x3 x4 x5 x6 x7 x8 x9 x10 b0_0 b0_1 b0_2 b0_3) (by kernel_rfl)

theorem ok77_2:LoopOk Go.Proofs.Tryz.prog 77 2 lc77_2:=loopOk_ofB (sh:=sh77_2) (shB:=shb77_2) (shR:=shr77_2) kf65_ok.base (T:=fun (d:sh77_2.data)=>t77_2 d.1.1 d.1.2.1 d.1.2.2.1 d.1.2.2.2.1 d.1.2.2.2.2.1 d.1.2.2.2.2.2.1 d.1.2.2.2.2.2.2.1 d.1.2.2.2.2.2.2.2.1 d.1.2.2.2.2.2.2.2.2.1 d.1.2.2.2.2.2.2.2.2.2.1 d.2.1.1 d.2.1.2.1 d.2.1.2.2.1 d.2.1.2.2.2.1) (by kernel_rfl) rfl (fun (d:sh77_2.data)=>ok77_2_t d.1.1 d.1.2.1 d.1.2.2.1 d.1.2.2.2.1 d.1.2.2.2.2.1 d.1.2.2.2.2.2.1 d.1.2.2.2.2.2.2.1 d.1.2.2.2.2.2.2.2.1 d.1.2.2.2.2.2.2.2.2.1 d.1.2.2.2.2.2.2.2.2.2.1 d.2.1.1 d.2.1.2.1 d.2.1.2.2.1 d.2.1.2.2.2.1) (fun _=>rfl)
def kl77_2 (P:Go.Program):Known:=(kf65 P).loop 77 2 lc77_2
theorem kl77_2_ok:KnownOk Go.Proofs.Tryz.prog (kl77_2 Go.Proofs.Tryz.prog):=kf65_ok.loop ok77_2

/-! loop 0 of ductility/sensor.centerOf -/

abbrev sh77_0:Sh:={ n:=46,slots:=[2,3,4,5,10,11,12],pats:=[.ptr 0 4 0,.ty (.int .i64),.ty (.int .i64),.ty (.int .i64),.ty (.slice (.slice (.int .i64))),.ty (.int .i64),.ty (.int .i64)],boxes:=[.row [.ty (.int .i64),.ty (.int .i64),.ty (.int .i64),.ty (.int .i64)]] }
abbrev shb77_0:Sh:={ n:=46,slots:=[2,3,4,5],pats:=[.ptr 0 4 0,.ty (.int .i64),.ty (.int .i64),.ty (.int .i64)],boxes:=[.row [.ty (.int .i64),.ty (.int .i64),.ty (.int .i64),.ty (.int .i64)]] }
abbrev shr77_0:Sh:={ n:=46,slots:=[],pats:=[],boxes:=[.row [.ty (.int .i64),.ty (.int .i64),.ty (.int .i64),.ty (.int .i64)]] }

def t77_0 (x1:Int) (x2:Int) (x3:Int) (x4:(List (List Int))) (x5:Int) (x6:Int) (b0_0:Int) (b0_1:Int) (b0_2:Int) (b0_3:Int):Tr (Out sh77_0.data shb77_0.data shr77_0.data) :=
  Tr.test ((!leF x5 x6:Bool))
    (Tr.test (decide ((0:Int) ≤ x6) && decide (x6 < (↑(List.length x4):Int)))
      (Tr.test (isBrk (l77_2 ((x1,(x2,(x3,(x6,(x4,(x5,(x6,((List.getD x4 (Int.toNat x6) []:List Int),((↑(List.length (List.getD x4 (Int.toNat x6) [])):Int),((0:Int),())))))))))),((b0_0,(b0_1,(b0_2,(b0_3,())))),()))))
        (let r0:=b77_2 ((x1,(x2,(x3,(x6,(x4,(x5,(x6,((List.getD x4 (Int.toNat x6) []:List Int),((↑(List.length (List.getD x4 (Int.toNat x6) [])):Int),((0:Int),())))))))))),((b0_0,(b0_1,(b0_2,(b0_3,())))),()));
        Tr.fin (.again ((r0.1.1,(r0.1.2.1,(r0.1.2.2.1,(r0.1.2.2.2.1,(r0.1.2.2.2.2.1,((wrap64 (r0.1.2.2.2.2.2.1 + (1:Int)):Int),())))))),((r0.2.1.1,(r0.2.1.2.1,(r0.2.1.2.2.1,(r0.2.1.2.2.2.1,())))),()))))
        (Tr.stop))
      (Tr.stop))
    (Tr.fin (.brk ((x1,(x2,(x3,()))),((b0_0,(b0_1,(b0_2,(b0_3,())))),()))))

def s77_0 (d:sh77_0.data):Option (Out sh77_0.data shb77_0.data shr77_0.data):=(t77_0 d.1.1 d.1.2.1 d.1.2.2.1 d.1.2.2.2.1 d.1.2.2.2.2.1 d.1.2.2.2.2.2.1 d.2.1.1 d.2.1.2.1 d.2.1.2.2.1 d.2.1.2.2.2.1).val
def l77_0 (d:sh77_0.data):Option (shb77_0.data ⊕ shr77_0.data):=itr s77_0 rounds d
def b77_0 (d:sh77_0.data):shb77_0.data:=outB shb77_0.dflt (l77_0 d)
def lc77_0:LoopC:=lcB sh77_0 shb77_0 shr77_0 l77_0 b77_0

theorem wk77_0 (x1:Int) (x2:Int) (x3:Int) (x4:(List (List Int))) (x5:Int) (x6:Int) (b0_0:Int) (b0_1:Int) (b0_2:Int) (b0_3:Int):Walks (runBody (kl77_2 Go.Proofs.Tryz.prog).orc Go.Proofs.Tryz.prog 400 77 0 sh77_0 shb77_0 shr77_0 ((x1,x2,x3,x4,x5,x6,()),(b0_0,b0_1,b0_2,b0_3,()),())) (t77_0 x1 x2 x3 x4 x5 x6 b0_0 b0_1 b0_2 b0_3) [([true,true,true],[1,2,4,6]),([ff],[2])] :=
  ⟨by kernel_rfl,by kernel_rfl,trivial⟩

theorem ok77_0_t (x1:Int) (x2:Int) (x3:Int) (x4:(List (List Int))) (x5:Int) (x6:Int) (b0_0:Int) (b0_1:Int) (b0_2:Int) (b0_3:Int):TrOk (BodyRuns Go.Proofs.Tryz.prog (kl77_2 Go.Proofs.Tryz.prog).orc 77 0 sh77_0 shb77_0 shr77_0 ((x1,x2,x3,x4,x5,x6,()),(b0_0,b0_1,b0_2,b0_3,()),())) (t77_0 x1 x2 x3 x4 x5 x6 b0_0 b0_1 b0_2 b0_3) :=
  Walks.ok (fun _ _ _=>BodyRuns.of) (wk77_0 x1 x2 x3 x4 x5 x6 b0_0 b0_1 b0_2 b0_3) (by kernel_rfl)

theorem ok77_0:LoopOk Go.Proofs.Tryz.prog 77 0 lc77_0:=loopOk_ofB (sh:=sh77_0) (shB:=shb77_0) (shR:=shr77_0) kl77_2_ok.base (T:=fun (d:sh77_0.data)=>t77_0 d.1.1 d.1.2.1 d.1.2.2.1 d.1.2.2.2.1 d.1.2.2.2.2.1 d.1.2.2.2.2.2.1 d.2.1.1 d.2.1.2.1 d.2.1.2.2.1 d.2.1.2.2.2.1) (by kernel_rfl) rfl (fun (d:sh77_0.data)=>ok77_0_t d.1.1 d.1.2.1 d.1.2.2.1 d.1.2.2.2.1 d.1.2.2.2.2.1 d.1.2.2.2.2.2.1 d.2.1.1 d.2.1.2.1 d.2.1.2.2.1 d.2.1.2.2.2.1) (fun _=>rfl)
def kl77_0 (P:Go.Program):Known:=(kl77_2 P).loop 77 0 lc77_0
theorem kl77_0_ok:KnownOk Go.Proofs.Tryz.prog (kl77_0 Go.Proofs.Tryz.prog):=kl77_2_ok.loop ok77_0

/-! ductility/sensor.centerOf -/

abbrev as77:List Ty:=[(.slice (.slice (.int .i64)))]
abbrev rs77:List Ty:=[(.pair (.pair (.int .i64) (.pair (.int .i64) .unit)) (.pair (.pair (.int .i64) (.pair (.int .i64) .unit)) .unit))]

def t77 (x0:(List (List Int))):Tr (Tys.data rs77) :=
  Tr.test (isBrk (l77_0 (((0:Int),((0:Int),((0:Int),(x0,((↑(List.length x0):Int),((0:Int),())))))),(((0:Int),((0:Int),((0:Int),((0:Int),())))),()))))
    (let r0:=b77_0 (((0:Int),((0:Int),((0:Int),(x0,((↑(List.length x0):Int),((0:Int),())))))),(((0:Int),((0:Int),((0:Int),((0:Int),())))),()));
    Tr.test (Option.isSome (f65 (r0.1.1,(r0.1.2.2.1,()))))
      (Tr.test (Option.isSome (f65 (r0.1.2.1,(r0.1.2.2.1,()))))
        (let r1:=g65 (r0.1.1,(r0.1.2.2.1,()));
        let r2:=g65 (r0.1.2.1,(r0.1.2.2.1,()));
        Tr.fin ((((r1.1.1,(r1.1.2.1,())),((r2.1.1,(r2.1.2.1,())),())),())))
        (Tr.stop))
      (Tr.stop))
    (Tr.stop)

def f77 (d:Tys.data as77):Option (Tys.data rs77):=(t77 d.1).val
def g77 (d:Tys.data as77):Tys.data rs77:=(f77 d).getD (Tys.dflt rs77)
def p77:PureC:=pcOf as77 rs77 f77 g77

theorem wk77 (x0:(List (List Int))):Walks (runPure (kl77_0 Go.Proofs.Tryz.prog).orc Go.Proofs.Tryz.prog 400 77 as77 rs77 (x0,())) (t77 x0) [([true,true,true],[2,4,1,6])] :=
  ⟨by kernel_rfl,trivial⟩

theorem ok77_t (x0:(List (List Int))):TrOk (PureRuns Go.Proofs.Tryz.prog (kl77_0 Go.Proofs.Tryz.prog).orc 77 as77 rs77 (x0,())) (t77 x0) :=
  Walks.ok (fun _ _ _=>PureRuns.of) (wk77 x0) (by kernel_rfl)

theorem ok77:PureOk Go.Proofs.Tryz.prog 77 p77:=pureOk_of kl77_0_ok.base (T:=fun (d:Tys.data as77)=>t77 d.1) (by kernel_rfl) (fun (d:Tys.data as77)=>ok77_t d.1)
def kf77 (P:Go.Program):Known:=(kl77_0 P).func 77 p77
theorem kf77_ok:KnownOk Go.Proofs.Tryz.prog (kf77 Go.Proofs.Tryz.prog):=kl77_0_ok.func ok77

/-! ductility/sensor.CenterOf -/

abbrev as28:List Ty:=[(.slice (.slice (.int .i64)))]
abbrev rs28:List Ty:=[(.pair (.pair (.int .i64) (.pair (.int .i64) .unit)) (.pair (.pair (.int .i64) (.pair (.int .i64) .unit)) .unit)),(.int .i64)]

def t28 (x0:(List (List Int))):Tr (Tys.data rs28) :=
  Tr.test (Option.isSome (f76 (x0,())))
    (let r0:=g76 (x0,());
    Tr.test ((!eqF r0.1 0:Bool))
      (Tr.fin (((((0:Int),((0:Int),())),(((0:Int),((0:Int),())),())),(r0.1,()))))
      (Tr.test (Option.isSome (f77 (x0,())))
        (let r1:=g77 (x0,());
        Tr.fin ((((r1.1.1.1,(r1.1.1.2.1,())),((r1.1.2.1.1,(r1.1.2.1.2.1,())),())),((0:Int),()))))
        (Tr.stop)))
    (Tr.stop)

def f28 (d:Tys.data as28):Option (Tys.data rs28):=(t28 d.1).val
def g28 (d:Tys.data as28):Tys.data rs28:=(f28 d).getD (Tys.dflt rs28)
def p28:PureC:=pcOf as28 rs28 f28 g28

theorem wk28 (x0:(List (List Int))):Walks (runPure (kf77 Go.Proofs.Tryz.prog).orc Go.Proofs.Tryz.prog 400 28 as28 rs28 (x0,())) (t28 x0) [([true,true],[2,4]),([true,false,true],[2,4,6])] :=
  ⟨by kernel_rfl,by kernel_rfl,trivial⟩

theorem ok28_t (x0:(List (List Int))):TrOk (PureRuns Go.Proofs.Tryz.prog (kf77 Go.Proofs.Tryz.prog).orc 28 as28 rs28 (x0,())) (t28 x0) :=
  Walks.ok (fun _ _ _=>PureRuns.of) (wk28 x0) (by kernel_rfl)

theorem ok28:PureOk Go.Proofs.Tryz.prog 28 p28:=pureOk_of kf77_ok.base (T:=fun (d:Tys.data as28)=>t28 d.1) (by kernel_rfl) (fun (d:Tys.data as28)=>ok28_t d.1)
def kf28 (P:Go.Program):Known:=(kf77 P).func 28 p28
theorem kf28_ok:KnownOk Go.Proofs.Tryz.prog (kf28 Go.Proofs.Tryz.prog):=kf77_ok.func ok28

/-! loop 0 of ductility/ductilitybase.Ranges -/

abbrev sh45_0:Sh:={ n:=26,slots:=[0,1,5],pats:=[.ty (.slice (.pair (.int .i64) (.pair (.int .i64) .unit))),.ty (.slice (.pair (.int .i64) (.pair (.int .i64) .unit))),.ty (.int .i64)],boxes:=[] }
abbrev shb45_0:Sh:={ n:=26,slots:=[],pats:=[],boxes:=[] }
abbrev shr45_0:Sh:={ n:=26,slots:=[4],pats:=[.ty .bool],boxes:=[] }

def t45_0 (x0:(List (Int×(Int×Unit)))) (x1:(List (Int×(Int×Unit)))) (x2:Int):Tr (Out sh45_0.data shb45_0.data shr45_0.data) :=
  Tr.test ((!leF (↑(List.length x0):Int) x2:Bool))
    (Tr.test (decide ((0:Int) ≤ x2) && decide (x2 < (↑(List.length x0):Int)))
      (Tr.test ((decide ((0:Int) ≤ x2) && decide (x2 < (↑(List.length x1):Int)):Bool))
        (Tr.test ((!((List.getD x0 (Int.toNat x2) ((0:Int),(0:Int),())).1 == (List.getD x1 (Int.toNat x2) ((0:Int),(0:Int),())).1 && ((List.getD x0 (Int.toNat x2) ((0:Int),(0:Int),())).2.1 == (List.getD x1 (Int.toNat x2) ((0:Int),(0:Int),())).2.1 && true)):Bool))
          (Tr.fin (.ret (((false:Bool),()),())))
          (Tr.fin (.again ((x0,(x1,((wrap64 (x2 + (1:Int)):Int),()))),()))))
        (Tr.stop))
      (Tr.stop))
    (Tr.fin (.brk ((),())))

def s45_0 (d:sh45_0.data):Option (Out sh45_0.data shb45_0.data shr45_0.data):=(t45_0 d.1.1 d.1.2.1 d.1.2.2.1).val
def l45_0 (d:sh45_0.data):Option (shb45_0.data ⊕ shr45_0.data):=itr s45_0 rounds d
def b45_0 (d:sh45_0.data):shb45_0.data:=outB shb45_0.dflt (l45_0 d)
def r45_0 (d:sh45_0.data):shr45_0.data:=outR shr45_0.dflt (l45_0 d)
def lc45_0:LoopC:=lcOf sh45_0 shb45_0 shr45_0 l45_0 b45_0 r45_0

theorem wk45_0 (x0:(List (Int×(Int×Unit)))) (x1:(List (Int×(Int×Unit)))) (x2:Int):Walks (runBody (kf28 Go.Proofs.Tryz.prog).orc Go.Proofs.Tryz.prog 400 45 0 sh45_0 shb45_0 shr45_0 ((x0,x1,x2,()),())) (t45_0 x0 x1 x2) [([true,true,true,true],[2,4,6,8]),([true,true,true,false],[2,4,6,8]),([ff],[2])] :=
  ⟨by kernel_rfl,by kernel_rfl,by kernel_rfl,trivial⟩

theorem ok45_0_t (x0:(List (Int×(Int×Unit)))) (x1:(List (Int×(Int×Unit)))) (x2:Int):TrOk (BodyRuns Go.Proofs.Tryz.prog (kf28 Go.Proofs.Tryz.prog).orc 45 0 sh45_0 shb45_0 shr45_0 ((x0,x1,x2,()),())) (t45_0 x0 x1 x2) :=
  Walks.ok (fun _ _ _=>BodyRuns.of) (wk45_0 x0 x1 x2) (by kernel_rfl)

theorem ok45_0:LoopOk Go.Proofs.Tryz.prog 45 0 lc45_0:=loopOk_of (sh:=sh45_0) (shB:=shb45_0) (shR:=shr45_0) kf28_ok.base (T:=fun (d:sh45_0.data)=>t45_0 d.1.1 d.1.2.1 d.1.2.2.1) (by kernel_rfl) rfl (fun (d:sh45_0.data)=>ok45_0_t d.1.1 d.1.2.1 d.1.2.2.1) (fun _=>rfl)
def kl45_0 (P:Go.Program):Known:=(kf28 P).loop 45 0 lc45_0
theorem kl45_0_ok:KnownOk Go.Proofs.Tryz.prog (kl45_0 Go.Proofs.Tryz.prog):=kf28_ok.loop ok45_0

/-! ductility/ductilitybase.Ranges -/

abbrev as45:List Ty:=[(.slice (.pair (.int .i64) (.pair (.int .i64) .unit))),(.slice (.pair (.int .i64) (.pair (.int .i64) .unit)))]
abbrev rs45:List Ty:=[.bool]

def t45 (x0:(List (Int×(Int×Unit)))) (x1:(List (Int×(Int×Unit)))):Tr (Tys.data rs45) :=
  Tr.test ((!eqF (↑(List.length x0):Int) (↑(List.length x1):Int):Bool))
    (Tr.fin ((false,())))
    (Tr.test (Option.isSome (l45_0 ((x0,(x1,((0:Int),()))),())))
      (Tr.test (isRet (l45_0 ((x0,(x1,((0:Int),()))),())))
        (let r0:=r45_0 ((x0,(x1,((0:Int),()))),());
        Tr.fin ((r0.1.1,())))
        (Tr.fin (((true:Bool),()))))
      (Tr.stop))

def f45 (d:Tys.data as45):Option (Tys.data rs45):=(t45 d.1 d.2.1).val
def g45 (d:Tys.data as45):Tys.data rs45:=(f45 d).getD (Tys.dflt rs45)
def p45:PureC:=pcOf as45 rs45 f45 g45

theorem wk45 (x0:(List (Int×(Int×Unit)))) (x1:(List (Int×(Int×Unit)))):Walks (runPure (kl45_0 Go.Proofs.Tryz.prog).orc Go.Proofs.Tryz.prog 400 45 as45 rs45 (x0,x1,())) (t45 x0 x1) [([tt],[2]),([false,true,true],[2,4,6]),([false,true,false],[2,4,6])] :=
  ⟨by kernel_rfl,by kernel_rfl,by kernel_rfl,trivial⟩

theorem ok45_t (x0:(List (Int×(Int×Unit)))) (x1:(List (Int×(Int×Unit)))):TrOk (PureRuns Go.Proofs.Tryz.prog (kl45_0 Go.Proofs.Tryz.prog).orc 45 as45 rs45 (x0,x1,())) (t45 x0 x1) :=
  Walks.ok (fun _ _ _=>PureRuns.of) (wk45 x0 x1) (by kernel_rfl)

theorem ok45:PureOk Go.Proofs.Tryz.prog 45 p45:=pureOk_of kl45_0_ok.base (T:=fun (d:Tys.data as45)=>t45 d.1 d.2.1) (by kernel_rfl) (fun (d:Tys.data as45)=>ok45_t d.1 d.2.1)
def kf45 (P:Go.Program):Known:=(kl45_0 P).func 45 p45
theorem kf45_ok:KnownOk Go.Proofs.Tryz.prog (kf45 Go.Proofs.Tryz.prog):=kl45_0_ok.func ok45

/-! loop 0 of ductility/ductilitybase.Ints -/

abbrev sh90_0:Sh:={ n:=26,slots:=[0,1,5],pats:=[.ty (.slice (.int .i64)),.ty (.slice (.int .i64)),.ty (.int .i64)],boxes:=[] }
abbrev shb90_0:Sh:={ n:=26,slots:=[],pats:=[],boxes:=[] }
abbrev shr90_0:Sh:={ n:=26,slots:=[4],pats:=[.ty .bool],boxes:=[] }

def t90_0 (x0:(List Int)) (x1:(List Int)) (x2:Int):Tr (Out sh90_0.data shb90_0.data shr90_0.data) :=
  Tr.test ((!leF (↑(List.length x0):Int) x2:Bool))
    (Tr.test (decide ((0:Int) ≤ x2) && decide (x2 < (↑(List.length x0):Int)))
      (Tr.test ((decide ((0:Int) ≤ x2) && decide (x2 < (↑(List.length x1):Int)):Bool))
        (Tr.test ((!eqF (List.getD x0 (Int.toNat x2) (0:Int)) (List.getD x1 (Int.toNat x2) (0:Int)):Bool))
          (Tr.fin (.ret (((false:Bool),()),())))
          (Tr.fin (.again ((x0,(x1,((wrap64 (x2 + (1:Int)):Int),()))),()))))
        (Tr.stop))
      (Tr.stop))
    (Tr.fin (.brk ((),())))

def s90_0 (d:sh90_0.data):Option (Out sh90_0.data shb90_0.data shr90_0.data):=(t90_0 d.1.1 d.1.2.1 d.1.2.2.1).val
def l90_0 (d:sh90_0.data):Option (shb90_0.data ⊕ shr90_0.data):=itr s90_0 rounds d
def b90_0 (d:sh90_0.data):shb90_0.data:=outB shb90_0.dflt (l90_0 d)
def r90_0 (d:sh90_0.data):shr90_0.data:=outR shr90_0.dflt (l90_0 d)
def lc90_0:LoopC:=lcOf sh90_0 shb90_0 shr90_0 l90_0 b90_0 r90_0

theorem wk90_0 (x0:(List Int)) (x1:(List Int)) (x2:Int):Walks (runBody (kf45 Go.Proofs.Tryz.prog).orc Go.Proofs.Tryz.prog 400 90 0 sh90_0 shb90_0 shr90_0 ((x0,x1,x2,()),())) (t90_0 x0 x1 x2) [([true,true,true,true],[2,4,6,8]),([true,true,true,false],[2,4,6,8]),([ff],[2])] :=
  ⟨by kernel_rfl,by kernel_rfl,by kernel_rfl,trivial⟩

theorem ok90_0_t (x0:(List Int)) (x1:(List Int)) (x2:Int):TrOk (BodyRuns Go.Proofs.Tryz.prog (kf45 Go.Proofs.Tryz.prog).orc 90 0 sh90_0 shb90_0 shr90_0 ((x0,x1,x2,()),())) (t90_0 x0 x1 x2) :=
  Walks.ok (fun _ _ _=>BodyRuns.of) (wk90_0 x0 x1 x2) (by kernel_rfl)

theorem ok90_0:LoopOk Go.Proofs.Tryz.prog 90 0 lc90_0:=loopOk_of (sh:=sh90_0) (shB:=shb90_0) (shR:=shr90_0) kf45_ok.base (T:=fun (d:sh90_0.data)=>t90_0 d.1.1 d.1.2.1 d.1.2.2.1) (by kernel_rfl) rfl (fun (d:sh90_0.data)=>ok90_0_t d.1.1 d.1.2.1 d.1.2.2.1) (fun _=>rfl)
def kl90_0 (P:Go.Program):Known:=(kf45 P).loop 90 0 lc90_0
theorem kl90_0_ok:KnownOk Go.Proofs.Tryz.prog (kl90_0 Go.Proofs.Tryz.prog):=kf45_ok.loop ok90_0

/-! ductility/ductilitybase.Ints -/

abbrev as90:List Ty:=[(.slice (.int .i64)),(.slice (.int .i64))]
abbrev rs90:List Ty:=[.bool]

def t90 (x0:(List Int)) (x1:(List Int)):Tr (Tys.data rs90) :=
  Tr.test ((!eqF (↑(List.length x0):Int) (↑(List.length x1):Int):Bool))
    (Tr.fin ((false,())))
    (Tr.test (Option.isSome (l90_0 ((x0,(x1,((0:Int),()))),())))
      (Tr.test (isRet (l90_0 ((x0,(x1,((0:Int),()))),())))
        (let r0:=r90_0 ((x0,(x1,((0:Int),()))),());
        Tr.fin ((r0.1.1,())))
        (Tr.fin (((true:Bool),()))))
      (Tr.stop))

def f90 (d:Tys.data as90):Option (Tys.data rs90):=(t90 d.1 d.2.1).val
def g90 (d:Tys.data as90):Tys.data rs90:=(f90 d).getD (Tys.dflt rs90)
def p90:PureC:=pcOf as90 rs90 f90 g90

theorem wk90 (x0:(List Int)) (x1:(List Int)):Walks (runPure (kl90_0 Go.Proofs.Tryz.prog).orc Go.Proofs.Tryz.prog 400 90 as90 rs90 (x0,x1,())) (t90 x0 x1) [([tt],[2]),([false,true,true],[2,4,6]),([false,true,false],[2,4,6])] :=
  ⟨by kernel_rfl,by kernel_rfl,by kernel_rfl,trivial⟩

theorem ok90_t (x0:(List Int)) (x1:(List Int)):TrOk (PureRuns Go.Proofs.Tryz.prog (kl90_0 Go.Proofs.Tryz.prog).orc 90 as90 rs90 (x0,x1,())) (t90 x0 x1) :=
  Walks.ok (fun _ _ _=>PureRuns.of) (wk90 x0 x1) (by kernel_rfl)

theorem ok90:PureOk Go.Proofs.Tryz.prog 90 p90:=pureOk_of kl90_0_ok.base (T:=fun (d:Tys.data as90)=>t90 d.1 d.2.1) (by kernel_rfl) (fun (d:Tys.data as90)=>ok90_t d.1 d.2.1)
def kf90 (P:Go.Program):Known:=(kl90_0 P).func 90 p90
theorem kf90_ok:KnownOk Go.Proofs.Tryz.prog (kf90 Go.Proofs.Tryz.prog):=kl90_0_ok.func ok90

/-! loop 0 of ductility/ductilityref07.SameExplanation -/

abbrev sh46_0:Sh:={ n:=39,slots:=[2,3,5],pats:=[.ptr 0 2 0,.ptr 1 2 0,.ty (.int .i64)],boxes:=[.row [.ty (.slice (.int .i64)),.ty (.slice .bool)],.row [.ty (.slice (.int .i64)),.ty (.slice .bool)]] }
abbrev shb46_0:Sh:={ n:=39,slots:=[],pats:=[],boxes:=[.row [.ty (.slice (.int .i64)),.ty (.slice .bool)],.row [.ty (.slice (.int .i64)),.ty (.slice .bool)]] }
abbrev shr46_0:Sh:={ n:=39,slots:=[4],pats:=[.ty .bool],boxes:=[.row [.ty (.slice (.int .i64)),.ty (.slice .bool)],.row [.ty (.slice (.int .i64)),.ty (.slice .bool)]] }

def t46_0 (x2:Int) (b0_0:(List Int)) (b0_1:(List Bool)) (b1_0:(List Int)) (b1_1:(List Bool)):Tr (Out sh46_0.data shb46_0.data shr46_0.data) :=
  Tr.test ((!leF (↑(List.length b0_1):Int) x2:Bool))
    (Tr.test (decide ((0:Int) ≤ x2) && decide (x2 < (↑(List.length b0_1):Int)))
      (Tr.test ((decide ((0:Int) ≤ x2) && decide (x2 < (↑(List.length b1_1):Int)):Bool))
        (Tr.test ((!List.getD b0_1 (Int.toNat x2) false == List.getD b1_1 (Int.toNat x2) false:Bool))
          (Tr.fin (.ret (((false:Bool),()),((b0_0,(b0_1,())),((b1_0,(b1_1,())),())))))
          (Tr.fin (.again (((wrap64 (x2 + (1:Int)):Int),()),((b0_0,(b0_1,())),((b1_0,(b1_1,())),()))))))
        (Tr.stop))
      (Tr.stop))
    (Tr.fin (.brk ((),((b0_0,(b0_1,())),((b1_0,(b1_1,())),())))))

def s46_0 (d:sh46_0.data):Option (Out sh46_0.data shb46_0.data shr46_0.data):=(t46_0 d.1.1 d.2.1.1 d.2.1.2.1 d.2.2.1.1 d.2.2.1.2.1).val
def l46_0 (d:sh46_0.data):Option (shb46_0.data ⊕ shr46_0.data):=itr s46_0 rounds d
def b46_0 (d:sh46_0.data):shb46_0.data:=outB shb46_0.dflt (l46_0 d)
def r46_0 (d:sh46_0.data):shr46_0.data:=outR shr46_0.dflt (l46_0 d)
def lc46_0:LoopC:=lcOf sh46_0 shb46_0 shr46_0 l46_0 b46_0 r46_0

theorem wk46_0 (x2:Int) (b0_0:(List Int)) (b0_1:(List Bool)) (b1_0:(List Int)) (b1_1:(List Bool)):Walks (runBody (kf90 Go.Proofs.Tryz.prog).orc Go.Proofs.Tryz.prog 400 46 0 sh46_0 shb46_0 shr46_0 ((x2,()),(b0_0,b0_1,()),(b1_0,b1_1,()),())) (t46_0 x2 b0_0 b0_1 b1_0 b1_1) [([true,true,true,true],[2,4,6,8]),([true,true,true,false],[2,4,6,8]),([ff],[2])] :=
  ⟨by kernel_rfl,by kernel_rfl,by kernel_rfl,trivial⟩

theorem ok46_0_t (x2:Int) (b0_0:(List Int)) (b0_1:(List Bool)) (b1_0:(List Int)) (b1_1:(List Bool)):TrOk (BodyRuns Go.Proofs.Tryz.prog (kf90 Go.Proofs.Tryz.prog).orc 46 0 sh46_0 shb46_0 shr46_0 ((x2,()),(b0_0,b0_1,()),(b1_0,b1_1,()),())) (t46_0 x2 b0_0 b0_1 b1_0 b1_1) :=
  Walks.ok (fun _ _ _=>BodyRuns.of) (wk46_0 x2 b0_0 b0_1 b1_0 b1_1) (by kernel_rfl)

theorem ok46_0:LoopOk Go.Proofs.Tryz.prog 46 0 lc46_0:=loopOk_of (sh:=sh46_0) (shB:=shb46_0) (shR:=shr46_0) kf90_ok.base (T:=fun (d:sh46_0.data)=>t46_0 d.1.1 d.2.1.1 d.2.1.2.1 d.2.2.1.1 d.2.2.1.2.1) (by kernel_rfl) rfl (fun (d:sh46_0.data)=>ok46_0_t d.1.1 d.2.1.1 d.2.1.2.1 d.2.2.1.1 d.2.2.1.2.1) (fun _=>rfl)
def kl46_0 (P:Go.Program):Known:=(kf90 P).loop 46 0 lc46_0
theorem kl46_0_ok:KnownOk Go.Proofs.Tryz.prog (kl46_0 Go.Proofs.Tryz.prog):=kf90_ok.loop ok46_0

/-! ductility/ductilityref07.SameExplanation -/

abbrev as46:List Ty:=[(.pair (.slice (.int .i64)) (.pair (.slice .bool) .unit)),(.pair (.slice (.int .i64)) (.pair (.slice .bool) .unit))]
abbrev rs46:List Ty:=[.bool]

def t46 (x0:(List Int)) (x0':(List Bool)) (x1:(List Int)) (x1':(List Bool)):Tr (Tys.data rs46) :=
  Tr.test (Option.isSome (f90 (x0,(x1,()))))
    (let r0:=g90 (x0,(x1,()));
    Tr.test ((!r0.1:Bool))
      (Tr.fin (((false:Bool),())))
      (Tr.test ((!eqF (↑(List.length x0'):Int) (↑(List.length x1'):Int):Bool))
        (Tr.fin (((false:Bool),())))
        (Tr.test (Option.isSome (l46_0 (((0:Int),()),((x0,(x0',())),((x1,(x1',())),())))))
          (Tr.test (isRet (l46_0 (((0:Int),()),((x0,(x0',())),((x1,(x1',())),())))))
            (let r1:=r46_0 (((0:Int),()),((x0,(x0',())),((x1,(x1',())),())));
            Tr.fin ((r1.1.1,())))
            (Tr.fin (((true:Bool),()))))
          (Tr.stop))))
    (Tr.stop)

def f46 (d:Tys.data as46):Option (Tys.data rs46):=(t46 d.1.1 d.1.2.1 d.2.1.1 d.2.1.2.1).val
def g46 (d:Tys.data as46):Tys.data rs46:=(f46 d).getD (Tys.dflt rs46)
def p46:PureC:=pcOf as46 rs46 f46 g46

theorem wk46 (x0:(List Int)) (x0':(List Bool)) (x1:(List Int)) (x1':(List Bool)):Walks (runPure (kl46_0 Go.Proofs.Tryz.prog).orc Go.Proofs.Tryz.prog 400 46 as46 rs46 ((x0,x0',()),(x1,x1',()),())) (t46 x0 x0' x1 x1') [([true,true],[1,2,2,2,2,2,2,2,2,4]),([true,false,true],[2,4,4,4,4,4,4,4,4,6]),([true,false,false,true,true],[2,4,6,8,8,8,8,8,8,8,8,10]),([true,false,false,true,false],[2,4,6,8,8,8,8,8,8,8,8,10])] :=
  ⟨by kernel_rfl,by kernel_rfl,by kernel_rfl,by kernel_rfl,trivial⟩

theorem ok46_t (x0:(List Int)) (x0':(List Bool)) (x1:(List Int)) (x1':(List Bool)):TrOk (PureRuns Go.Proofs.Tryz.prog (kl46_0 Go.Proofs.Tryz.prog).orc 46 as46 rs46 ((x0,x0',()),(x1,x1',()),())) (t46 x0 x0' x1 x1') :=
  Walks.ok (fun _ _ _=>PureRuns.of) (wk46 x0 x0' x1 x1') (by kernel_rfl)

theorem ok46:PureOk Go.Proofs.Tryz.prog 46 p46:=pureOk_of kl46_0_ok.base (T:=fun (d:Tys.data as46)=>t46 d.1.1 d.1.2.1 d.2.1.1 d.2.1.2.1) (by kernel_rfl) (fun (d:Tys.data as46)=>ok46_t d.1.1 d.1.2.1 d.2.1.1 d.2.1.2.1)
def kf46 (P:Go.Program):Known:=(kl46_0 P).func 46 p46
theorem kf46_ok:KnownOk Go.Proofs.Tryz.prog (kf46 Go.Proofs.Tryz.prog):=kl46_0_ok.func ok46

/-! ductility/ductilitybase.Size -/

abbrev as21:List Ty:=[(.int .i64)]
abbrev rs21:List Ty:=[(.int .i64)]

def t21 (x0:Int):Tr (Tys.data rs21) :=
  Tr.fin (((if x0 < Go.IntKind.wrap Go.IntKind.i64 ((0:Int) - x0) then Go.IntKind.wrap Go.IntKind.i64 ((0:Int) - x0) else x0:Int),()))

def f21 (d:Tys.data as21):Option (Tys.data rs21):=(t21 d.1).val
def g21 (d:Tys.data as21):Tys.data rs21:=(f21 d).getD (Tys.dflt rs21)
def p21:PureC:=pcOf as21 rs21 f21 g21

theorem wk21 (x0:Int):Walks (runPure (kf46 Go.Proofs.Tryz.prog).orc Go.Proofs.Tryz.prog 400 21 as21 rs21 (x0,())) (t21 x0) [([],[])] :=
  ⟨by kernel_rfl,trivial⟩

theorem ok21_t (x0:Int):TrOk (PureRuns Go.Proofs.Tryz.prog (kf46 Go.Proofs.Tryz.prog).orc 21 as21 rs21 (x0,())) (t21 x0) :=
  Walks.ok (fun _ _ _=>PureRuns.of) (wk21 x0) (by kernel_rfl)

theorem ok21:PureOk Go.Proofs.Tryz.prog 21 p21:=pureOk_of kf46_ok.base (T:=fun (d:Tys.data as21)=>t21 d.1) (by kernel_rfl) (fun (d:Tys.data as21)=>ok21_t d.1)
def kf21 (P:Go.Program):Known:=(kf46 P).func 21 p21
theorem kf21_ok:KnownOk Go.Proofs.Tryz.prog (kf21 Go.Proofs.Tryz.prog):=kf46_ok.func ok21

/-! loop 0 of ductility/ductilitybase.Gcd -/

abbrev sh67_0:Sh:={ n:=13,slots:=[0,1],pats:=[.ty (.int .i64),.ty (.int .i64)],boxes:=[] }
abbrev shb67_0:Sh:={ n:=13,slots:=[0],pats:=[.ty (.int .i64)],boxes:=[] }
abbrev shr67_0:Sh:={ n:=13,slots:=[],pats:=[],boxes:=[] }

def t67_0 (x0:Int) (x1:Int):Tr (Out sh67_0.data shb67_0.data shr67_0.data) :=
  Tr.test ((!eqF x1 0:Bool))
    (Tr.test (x1 == (0:Int))
      (Tr.stop)
      (Tr.fin (.again ((x1,((Int.tmod x0 x1:Int),())),()))))
    (Tr.fin (.brk ((x0,()),())))

def s67_0 (d:sh67_0.data):Option (Out sh67_0.data shb67_0.data shr67_0.data):=(t67_0 d.1.1 d.1.2.1).val
def l67_0 (d:sh67_0.data):Option (shb67_0.data ⊕ shr67_0.data):=itr s67_0 rounds d
def b67_0 (d:sh67_0.data):shb67_0.data:=outB shb67_0.dflt (l67_0 d)
def lc67_0:LoopC:=lcB sh67_0 shb67_0 shr67_0 l67_0 b67_0

theorem wk67_0 (x0:Int) (x1:Int):Walks (runBody (kf21 Go.Proofs.Tryz.prog).orc Go.Proofs.Tryz.prog 400 67 0 sh67_0 shb67_0 shr67_0 ((x0,x1,()),())) (t67_0 x0 x1) [([true,false],[2,4]),([ff],[2])] :=
  ⟨by kernel_rfl,by kernel_rfl,trivial⟩

theorem ok67_0_t (x0:Int) (x1:Int):TrOk (BodyRuns Go.Proofs.Tryz.prog (kf21 Go.Proofs.Tryz.prog).orc 67 0 sh67_0 shb67_0 shr67_0 ((x0,x1,()),())) (t67_0 x0 x1) :=
  Walks.ok (fun _ _ _=>BodyRuns.of) (wk67_0 x0 x1) (by kernel_rfl)

theorem ok67_0:LoopOk Go.Proofs.Tryz.prog 67 0 lc67_0:=loopOk_ofB (sh:=sh67_0) (shB:=shb67_0) (shR:=shr67_0) kf21_ok.base (T:=fun (d:sh67_0.data)=>t67_0 d.1.1 d.1.2.1) (by kernel_rfl) rfl (fun (d:sh67_0.data)=>ok67_0_t d.1.1 d.1.2.1) (fun _=>rfl)
def kl67_0 (P:Go.Program):Known:=(kf21 P).loop 67 0 lc67_0
theorem kl67_0_ok:KnownOk Go.Proofs.Tryz.prog (kl67_0 Go.Proofs.Tryz.prog):=kf21_ok.loop ok67_0

/-! ductility/ductilitybase.Gcd -/

abbrev as67:List Ty:=[(.int .i64),(.int .i64)]
abbrev rs67:List Ty:=[(.int .i64)]

def t67 (x0:Int) (x1:Int):Tr (Tys.data rs67) :=
  Tr.test (isBrk (l67_0 ((x0,(x1,())),())))
    (let r0:=b67_0 ((x0,(x1,())),());
    Tr.test (Option.isSome (f21 (r0.1.1,())))
      (let r1:=g21 (r0.1.1,());
      Tr.fin ((r1.1,())))
      (Tr.stop))
    (Tr.stop)

def f67 (d:Tys.data as67):Option (Tys.data rs67):=(t67 d.1 d.2.1).val
def g67 (d:Tys.data as67):Tys.data rs67:=(f67 d).getD (Tys.dflt rs67)
def p67:PureC:=pcOf as67 rs67 f67 g67

theorem wk67 (x0:Int) (x1:Int):Walks (runPure (kl67_0 Go.Proofs.Tryz.prog).orc Go.Proofs.Tryz.prog 400 67 as67 rs67 (x0,x1,())) (t67 x0 x1) [([true,true],[2,1,4])] :=
  ⟨by kernel_rfl,trivial⟩

theorem ok67_t (x0:Int) (x1:Int):TrOk (PureRuns Go.Proofs.Tryz.prog (kl67_0 Go.Proofs.Tryz.prog).orc 67 as67 rs67 (x0,x1,())) (t67 x0 x1) :=
  Walks.ok (fun _ _ _=>PureRuns.of) (wk67 x0 x1) (by kernel_rfl)

theorem ok67:PureOk Go.Proofs.Tryz.prog 67 p67:=pureOk_of kl67_0_ok.base (T:=fun (d:Tys.data as67)=>t67 d.1 d.2.1) (by kernel_rfl) (fun (d:Tys.data as67)=>ok67_t d.1 d.2.1)
def kf67 (P:Go.Program):Known:=(kl67_0 P).func 67 p67
theorem kf67_ok:KnownOk Go.Proofs.Tryz.prog (kf67 Go.Proofs.Tryz.prog):=kl67_0_ok.func ok67

/-! ductility/ductilitybase.Lowest -/

abbrev as47:List Ty:=[(.int .i64),(.int .i64)]
abbrev rs47:List Ty:=[(.pair (.int .i64) (.pair (.int .i64) .unit))]

def t47 (x0:Int) (x1:Int):Tr (Tys.data rs47) :=
  Tr.test (Option.isSome (f67 (x0,(x1,()))))
    (Tr.test (!leF (0:Int) x1)
      (let r0:=g67 (x0,(x1,()));
      Tr.test ((Go.IntKind.wrap Go.IntKind.i64 ((0:Int) - r0.1) == (0:Int):Bool))
        (Tr.stop)
        (Tr.fin ((((Go.IntKind.wrap Go.IntKind.i64 (Int.tdiv x0 (Go.IntKind.wrap Go.IntKind.i64 ((0:Int) - r0.1))):Int),((Go.IntKind.wrap Go.IntKind.i64 (Int.tdiv x1 (Go.IntKind.wrap Go.IntKind.i64 ((0:Int) - r0.1))):Int),())),()))))
      (let r0:=g67 (x0,(x1,()));
      Tr.test ((r0.1 == (0:Int):Bool))
        (Tr.stop)
        (Tr.fin ((((Go.IntKind.wrap Go.IntKind.i64 (Int.tdiv x0 r0.1):Int),((Go.IntKind.wrap Go.IntKind.i64 (Int.tdiv x1 r0.1):Int),())),())))))
    (Tr.stop)

def f47 (d:Tys.data as47):Option (Tys.data rs47):=(t47 d.1 d.2.1).val
def g47 (d:Tys.data as47):Tys.data rs47:=(f47 d).getD (Tys.dflt rs47)
def p47:PureC:=pcOf as47 rs47 f47 g47

theorem wk47 (x0:Int) (x1:Int):Walks (runPure (kf67 Go.Proofs.Tryz.prog).orc Go.Proofs.Tryz.prog 400 47 as47 rs47 (x0,x1,())) (t47 x0 x1) [([true,true,false],[2,2,4,6]),([true,false,false],[2,2,4,6])] :=
  ⟨by kernel_rfl,by kernel_rfl,trivial⟩

theorem ok47_t (x0:Int) (x1:Int):TrOk (PureRuns Go.Proofs.Tryz.prog (kf67 Go.Proofs.Tryz.prog).orc 47 as47 rs47 (x0,x1,())) (t47 x0 x1) :=
  Walks.ok (fun _ _ _=>PureRuns.of) (wk47 x0 x1) (by kernel_rfl)

theorem ok47:PureOk Go.Proofs.Tryz.prog 47 p47:=pureOk_of kf67_ok.base (T:=fun (d:Tys.data as47)=>t47 d.1 d.2.1) (by kernel_rfl) (fun (d:Tys.data as47)=>ok47_t d.1 d.2.1)
def kf47 (P:Go.Program):Known:=(kf67 P).func 47 p47
theorem kf47_ok:KnownOk Go.Proofs.Tryz.prog (kf47 Go.Proofs.Tryz.prog):=kf67_ok.func ok47

/-! ductility/ductilitylaw07.awake -/

abbrev as6:List Ty:=[]
abbrev rs6:List Ty:=[.bool]
def f6 (_:Tys.data as6):Option (Tys.data rs6):=some (true,())
def g6 (_:Tys.data as6):Tys.data rs6:=(true,())
def p6:PureC:=pcOf as6 rs6 f6 g6

theorem e6:runAsk (kf47 Go.Proofs.Tryz.prog).orc Go.Proofs.Tryz.prog 400 6 as6 rs6 () none = some ((true,()),[]):=by kernel_rfl
theorem ok6:PureOk Go.Proofs.Tryz.prog 6 p6:=pureOk_closed kf47_ok.base (by kernel_rfl) e6 All.nil
def kf6 (P:Go.Program):Known:=(kf47 P).func 6 p6
theorem kf6_ok:KnownOk Go.Proofs.Tryz.prog (kf6 Go.Proofs.Tryz.prog):=kf47_ok.func ok6

/-! ductility/ductilitylaw07.few -/

abbrev as7:List Ty:=[(.slice (.pair (.int .i64) (.pair (.int .i64) .unit)))]
abbrev rs7:List Ty:=[.bool]

def t7 (x0:(List (Int×(Int×Unit)))):Tr (Tys.data rs7) :=
  Tr.fin (((leF (↑(List.length x0):Int) (12:Int):Bool),()))

def f7 (d:Tys.data as7):Option (Tys.data rs7):=(t7 d.1).val
def g7 (d:Tys.data as7):Tys.data rs7:=(f7 d).getD (Tys.dflt rs7)
def p7:PureC:=pcOf as7 rs7 f7 g7

theorem wk7 (x0:(List (Int×(Int×Unit)))):Walks (runPure (kf6 Go.Proofs.Tryz.prog).orc Go.Proofs.Tryz.prog 400 7 as7 rs7 (x0,())) (t7 x0) [([],[])] :=
  ⟨by kernel_rfl,trivial⟩

theorem ok7_t (x0:(List (Int×(Int×Unit)))):TrOk (PureRuns Go.Proofs.Tryz.prog (kf6 Go.Proofs.Tryz.prog).orc 7 as7 rs7 (x0,())) (t7 x0) :=
  Walks.ok (fun _ _ _=>PureRuns.of) (wk7 x0) (by kernel_rfl)

theorem ok7:PureOk Go.Proofs.Tryz.prog 7 p7:=pureOk_of kf6_ok.base (T:=fun (d:Tys.data as7)=>t7 d.1) (by kernel_rfl) (fun (d:Tys.data as7)=>ok7_t d.1)
def kf7 (P:Go.Program):Known:=(kf6 P).func 7 p7
theorem kf7_ok:KnownOk Go.Proofs.Tryz.prog (kf7 Go.Proofs.Tryz.prog):=kf6_ok.func ok7

/-! ductility/ductilityref07.CopyPairs -/

abbrev as9:List Ty:=[(.slice (.pair (.int .i64) (.pair (.int .i64) .unit)))]
abbrev rs9:List Ty:=[(.slice (.pair (.int .i64) (.pair (.int .i64) .unit)))]

def t9 (x0:(List (Int×(Int×Unit)))):Tr (Tys.data rs9) :=
  Tr.test ((Nat.beq (List.length x0) (0:Nat):Bool))
    (Tr.fin ((([]:List (Int×Int×PUnit)),())))
    (Tr.test (Nat.ble ((0:Nat) + List.length x0) (0:Nat))
      (Tr.stop)
      (Tr.test ((Nat.ble (((2:Nat) * ((0:Nat) + List.length x0) + (192:Nat)) * (16:Nat)) (281474976710656:Nat) && Nat.ble ((0:Nat) + List.length x0) (281474976710656:Nat):Bool))
        (Tr.test ((Nat.beq ((0:Nat) + List.length x0) (List.length ([]++x0)):Bool))
          (Tr.fin ((([]++x0:List (Int×Int×PUnit)),())))
          (Tr.stop))
        (Tr.stop)))

def f9 (d:Tys.data as9):Option (Tys.data rs9):=(t9 d.1).val
def g9 (d:Tys.data as9):Tys.data rs9:=(f9 d).getD (Tys.dflt rs9)
def p9:PureC:=pcOf as9 rs9 f9 g9

theorem wk9 (x0:(List (Int×(Int×Unit)))):Walks (runPure (kf7 Go.Proofs.Tryz.prog).orc Go.Proofs.Tryz.prog 400 9 as9 rs9 (x0,())) (t9 x0) [([tt],[2]),([false,false,true,true],[2,4,6,8])] :=
  ⟨by kernel_rfl,by kernel_rfl,trivial⟩

theorem ok9_t (x0:(List (Int×(Int×Unit)))):TrOk (PureRuns Go.Proofs.Tryz.prog (kf7 Go.Proofs.Tryz.prog).orc 9 as9 rs9 (x0,())) (t9 x0) :=
  Walks.ok (fun _ _ _=>PureRuns.of) (wk9 x0) (by kernel_rfl)

theorem ok9:PureOk Go.Proofs.Tryz.prog 9 p9:=pureOk_of kf7_ok.base (T:=fun (d:Tys.data as9)=>t9 d.1) (by kernel_rfl) (fun (d:Tys.data as9)=>ok9_t d.1)
def kf9 (P:Go.Program):Known:=(kf7 P).func 9 p9
theorem kf9_ok:KnownOk Go.Proofs.Tryz.prog (kf9 Go.Proofs.Tryz.prog):=kf7_ok.func ok9

/-! ductility/sensor.restOf -/

abbrev as58:List Ty:=[(.pair (.int .i64) (.pair (.int .i64) (.pair (.int .i64) .unit))),(.pair (.int .i64) (.pair (.int .i64) .unit))]
abbrev rs58:List Ty:=[(.int .i64)]

def t58 (x0:Int) (x0':Int) (x0'':Int) (x1:Int) (x1':Int):Tr (Tys.data rs58) :=
  Tr.test (Option.isSome (f72 ((x0,(x0',(x0'',()))),(x1',()))))
    (let r0:=g72 ((x0,(x0',(x0'',()))),(x1',()));
    Tr.fin (((wrap64 (r0.1 - wrap64 (x0'' * x1)):Int),())))
    (Tr.stop)

def f58 (d:Tys.data as58):Option (Tys.data rs58):=(t58 d.1.1 d.1.2.1 d.1.2.2.1 d.2.1.1 d.2.1.2.1).val
def g58 (d:Tys.data as58):Tys.data rs58:=(f58 d).getD (Tys.dflt rs58)
def p58:PureC:=pcOf as58 rs58 f58 g58

theorem wk58 (x0:Int) (x0':Int) (x0'':Int) (x1:Int) (x1':Int):Walks (runPure (kf9 Go.Proofs.Tryz.prog).orc Go.Proofs.Tryz.prog 400 58 as58 rs58 ((x0,x0',x0'',()),(x1,x1',()),())) (t58 x0 x0' x0'' x1 x1') [([tt],[2])] :=
  ⟨by kernel_rfl,trivial⟩

theorem ok58_t (x0:Int) (x0':Int) (x0'':Int) (x1:Int) (x1':Int):TrOk (PureRuns Go.Proofs.Tryz.prog (kf9 Go.Proofs.Tryz.prog).orc 58 as58 rs58 ((x0,x0',x0'',()),(x1,x1',()),())) (t58 x0 x0' x0'' x1 x1') :=
  Walks.ok (fun _ _ _=>PureRuns.of) (wk58 x0 x0' x0'' x1 x1') (by kernel_rfl)

theorem ok58:PureOk Go.Proofs.Tryz.prog 58 p58:=pureOk_of kf9_ok.base (T:=fun (d:Tys.data as58)=>t58 d.1.1 d.1.2.1 d.1.2.2.1 d.2.1.1 d.2.1.2.1) (by kernel_rfl) (fun (d:Tys.data as58)=>ok58_t d.1.1 d.1.2.1 d.1.2.2.1 d.2.1.1 d.2.1.2.1)
def kf58 (P:Go.Program):Known:=(kf9 P).func 58 p58
theorem kf58_ok:KnownOk Go.Proofs.Tryz.prog (kf58 Go.Proofs.Tryz.prog):=kf9_ok.func ok58

/-! loop 0 of ductility/sensor.sumOf -/

abbrev sh51_0_4:Sh:={ n:=21,slots:=[1,5,8,9,10],pats:=[.fn 57 [(0,3)],.ty (.int .i64),.ty (.slice (.pair (.int .i64) (.pair (.int .i64) .unit))),.ty (.int .i64),.ty (.int .i64)],boxes:=[.row [.ty (.int .i64),.ty (.int .i64),.ty (.int .i64)]] }
abbrev shb51_0_4:Sh:={ n:=21,slots:=[5],pats:=[.ty (.int .i64)],boxes:=[.row [.ty (.int .i64),.ty (.int .i64),.ty (.int .i64)]] }
abbrev shr51_0_4:Sh:={ n:=21,slots:=[],pats:=[],boxes:=[.row [.ty (.int .i64),.ty (.int .i64),.ty (.int .i64)]] }

def t51_0_4 (x1:Int) (x2:(List (Int×(Int×Unit)))) (x3:Int) (x4:Int) (b0_0:Int) (b0_1:Int) (b0_2:Int):Tr (Out sh51_0_4.data shb51_0_4.data shr51_0_4.data) :=
  Tr.test ((!leF x3 x4:Bool))
    (Tr.test (decide ((0:Int) ≤ x4) && decide (x4 < (↑(List.length x2):Int)))
      (Tr.test (Option.isSome (f58 ((b0_0,(b0_1,(b0_2,()))),((((List.getD x2 (Int.toNat x4) ((0:Int),(0:Int),())).1:Int),(((List.getD x2 (Int.toNat x4) ((0:Int),(0:Int),())).2.1:Int),())),()))))
        (let r0:=g58 ((b0_0,(b0_1,(b0_2,()))),((((List.getD x2 (Int.toNat x4) ((0:Int),(0:Int),())).1:Int),(((List.getD x2 (Int.toNat x4) ((0:Int),(0:Int),())).2.1:Int),())),()));
        Tr.fin (.again (((wrap64 (x1 + r0.1):Int),(x2,(x3,((wrap64 (x4 + (1:Int)):Int),())))),((b0_0,(b0_1,(b0_2,()))),()))))
        (Tr.stop))
      (Tr.stop))
    (Tr.fin (.brk ((x1,()),((b0_0,(b0_1,(b0_2,()))),()))))

def s51_0_4 (d:sh51_0_4.data):Option (Out sh51_0_4.data shb51_0_4.data shr51_0_4.data):=(t51_0_4 d.1.1 d.1.2.1 d.1.2.2.1 d.1.2.2.2.1 d.2.1.1 d.2.1.2.1 d.2.1.2.2.1).val
def l51_0_4 (d:sh51_0_4.data):Option (shb51_0_4.data ⊕ shr51_0_4.data):=itr s51_0_4 rounds d
def b51_0_4 (d:sh51_0_4.data):shb51_0_4.data:=outB shb51_0_4.dflt (l51_0_4 d)
def lc51_0_4:LoopC:=lcB sh51_0_4 shb51_0_4 shr51_0_4 l51_0_4 b51_0_4

theorem wk51_0_4 (x1:Int) (x2:(List (Int×(Int×Unit)))) (x3:Int) (x4:Int) (b0_0:Int) (b0_1:Int) (b0_2:Int):Walks (runBody (kf58 Go.Proofs.Tryz.prog).orc Go.Proofs.Tryz.prog 400 51 0 sh51_0_4 shb51_0_4 shr51_0_4 ((x1,x2,x3,x4,()),(b0_0,b0_1,b0_2,()),())) (t51_0_4 x1 x2 x3 x4 b0_0 b0_1 b0_2) [([true,true,true],[2,4,6]),([ff],[2])] :=
  ⟨by kernel_rfl,by kernel_rfl,trivial⟩

theorem ok51_0_4_t (x1:Int) (x2:(List (Int×(Int×Unit)))) (x3:Int) (x4:Int) (b0_0:Int) (b0_1:Int) (b0_2:Int):TrOk (BodyRuns Go.Proofs.Tryz.prog (kf58 Go.Proofs.Tryz.prog).orc 51 0 sh51_0_4 shb51_0_4 shr51_0_4 ((x1,x2,x3,x4,()),(b0_0,b0_1,b0_2,()),())) (t51_0_4 x1 x2 x3 x4 b0_0 b0_1 b0_2) :=
  Walks.ok (fun _ _ _=>BodyRuns.of) (wk51_0_4 x1 x2 x3 x4 b0_0 b0_1 b0_2) (by kernel_rfl)

theorem ok51_0_4:LoopOk Go.Proofs.Tryz.prog 51 0 lc51_0_4:=loopOk_ofB (sh:=sh51_0_4) (shB:=shb51_0_4) (shR:=shr51_0_4) kf58_ok.base (T:=fun (d:sh51_0_4.data)=>t51_0_4 d.1.1 d.1.2.1 d.1.2.2.1 d.1.2.2.2.1 d.2.1.1 d.2.1.2.1 d.2.1.2.2.1) (by kernel_rfl) rfl (fun (d:sh51_0_4.data)=>ok51_0_4_t d.1.1 d.1.2.1 d.1.2.2.1 d.1.2.2.2.1 d.2.1.1 d.2.1.2.1 d.2.1.2.2.1) (fun _=>rfl)
def kl51_0_4 (P:Go.Program):Known:=(kf58 P).loop 51 0 lc51_0_4
theorem kl51_0_4_ok:KnownOk Go.Proofs.Tryz.prog (kl51_0_4 Go.Proofs.Tryz.prog):=kf58_ok.loop ok51_0_4

/-! loop 0 of ductility/sensor.sumOf -/

abbrev sh51_0_5:Sh:={ n:=21,slots:=[1,5,8,9,10],pats:=[.fn 59 [(0,3)],.ty (.int .i64),.ty (.slice (.pair (.int .i64) (.pair (.int .i64) .unit))),.ty (.int .i64),.ty (.int .i64)],boxes:=[.row [.ty (.int .i64),.ty (.int .i64),.ty (.int .i64)]] }
abbrev shb51_0_5:Sh:={ n:=21,slots:=[5],pats:=[.ty (.int .i64)],boxes:=[.row [.ty (.int .i64),.ty (.int .i64),.ty (.int .i64)]] }
abbrev shr51_0_5:Sh:={ n:=21,slots:=[],pats:=[],boxes:=[.row [.ty (.int .i64),.ty (.int .i64),.ty (.int .i64)]] }

def t51_0_5 (x1:Int) (x2:(List (Int×(Int×Unit)))) (x3:Int) (x4:Int) (b0_0:Int) (b0_1:Int) (b0_2:Int):Tr (Out sh51_0_5.data shb51_0_5.data shr51_0_5.data) :=
  Tr.test ((!leF x3 x4:Bool))
    (Tr.test (decide ((0:Int) ≤ x4) && decide (x4 < (↑(List.length x2):Int)))
      (Tr.test (Option.isSome (f58 ((b0_0,(b0_1,(b0_2,()))),((((List.getD x2 (Int.toNat x4) ((0:Int),(0:Int),())).1:Int),(((List.getD x2 (Int.toNat x4) ((0:Int),(0:Int),())).2.1:Int),())),()))))
        (let r0:=g58 ((b0_0,(b0_1,(b0_2,()))),((((List.getD x2 (Int.toNat x4) ((0:Int),(0:Int),())).1:Int),(((List.getD x2 (Int.toNat x4) ((0:Int),(0:Int),())).2.1:Int),())),()));
        Tr.fin (.again (((wrap64 (x1 + wrap64 (r0.1 * (List.getD x2 (Int.toNat x4) ((0:Int),(0:Int),())).2.1)):Int),(x2,(x3,((wrap64 (x4 + (1:Int)):Int),())))),((b0_0,(b0_1,(b0_2,()))),()))))
        (Tr.stop))
      (Tr.stop))
    (Tr.fin (.brk ((x1,()),((b0_0,(b0_1,(b0_2,()))),()))))

def s51_0_5 (d:sh51_0_5.data):Option (Out sh51_0_5.data shb51_0_5.data shr51_0_5.data):=(t51_0_5 d.1.1 d.1.2.1 d.1.2.2.1 d.1.2.2.2.1 d.2.1.1 d.2.1.2.1 d.2.1.2.2.1).val
def l51_0_5 (d:sh51_0_5.data):Option (shb51_0_5.data ⊕ shr51_0_5.data):=itr s51_0_5 rounds d
def b51_0_5 (d:sh51_0_5.data):shb51_0_5.data:=outB shb51_0_5.dflt (l51_0_5 d)
def lc51_0_5:LoopC:=lcB sh51_0_5 shb51_0_5 shr51_0_5 l51_0_5 b51_0_5

theorem wk51_0_5 (x1:Int) (x2:(List (Int×(Int×Unit)))) (x3:Int) (x4:Int) (b0_0:Int) (b0_1:Int) (b0_2:Int):Walks (runBody (kl51_0_4 Go.Proofs.Tryz.prog).orc Go.Proofs.Tryz.prog 400 51 0 sh51_0_5 shb51_0_5 shr51_0_5 ((x1,x2,x3,x4,()),(b0_0,b0_1,b0_2,()),())) (t51_0_5 x1 x2 x3 x4 b0_0 b0_1 b0_2) [([true,true,true],[2,4,6]),([ff],[2])] :=
  ⟨by kernel_rfl,by kernel_rfl,trivial⟩

theorem ok51_0_5_t (x1:Int) (x2:(List (Int×(Int×Unit)))) (x3:Int) (x4:Int) (b0_0:Int) (b0_1:Int) (b0_2:Int):TrOk (BodyRuns Go.Proofs.Tryz.prog (kl51_0_4 Go.Proofs.Tryz.prog).orc 51 0 sh51_0_5 shb51_0_5 shr51_0_5 ((x1,x2,x3,x4,()),(b0_0,b0_1,b0_2,()),())) (t51_0_5 x1 x2 x3 x4 b0_0 b0_1 b0_2) :=
  Walks.ok (fun _ _ _=>BodyRuns.of) (wk51_0_5 x1 x2 x3 x4 b0_0 b0_1 b0_2) (by kernel_rfl)

theorem ok51_0_5:LoopOk Go.Proofs.Tryz.prog 51 0 lc51_0_5:=loopOk_ofB (sh:=sh51_0_5) (shB:=shb51_0_5) (shR:=shr51_0_5) kl51_0_4_ok.base (T:=fun (d:sh51_0_5.data)=>t51_0_5 d.1.1 d.1.2.1 d.1.2.2.1 d.1.2.2.2.1 d.2.1.1 d.2.1.2.1 d.2.1.2.2.1) (by kernel_rfl) rfl (fun (d:sh51_0_5.data)=>ok51_0_5_t d.1.1 d.1.2.1 d.1.2.2.1 d.1.2.2.2.1 d.2.1.1 d.2.1.2.1 d.2.1.2.2.1) (fun _=>rfl)
def kl51_0_5 (P:Go.Program):Known:=(kl51_0_4 P).loop 51 0 lc51_0_5
theorem kl51_0_5_ok:KnownOk Go.Proofs.Tryz.prog (kl51_0_5 Go.Proofs.Tryz.prog):=kl51_0_4_ok.loop ok51_0_5

/-! loop 0 of ductility/sensor.checkItems[int] -/

abbrev sh60_0_1:Sh:={ n:=25,slots:=[1,9,10,11],pats:=[.fn 61 [],.sli 0 1,.ty (.int .i64),.ty (.int .i64)],boxes:=[.arr (.int .i64)] }
abbrev shb60_0_1:Sh:={ n:=25,slots:=[],pats:=[],boxes:=[.arr (.int .i64)] }
abbrev shr60_0_1:Sh:={ n:=25,slots:=[4,5],pats:=[.ty (.int .i64),.ty (.int .i64)],boxes:=[.arr (.int .i64)] }

def t60_0_1 (x1n:Nat) (x1c:Nat) (x2:Int) (x3:Int) (b0:(List Int)):Tr (Out sh60_0_1.data shb60_0_1.data shr60_0_1.data) :=
  Tr.test ((!leF x2 x3:Bool))
    (Tr.test (decide ((0:Int) ≤ x3) && decide (x3 < (↑x1n:Int)))
      (Tr.test ((Nat.ble ((0:Nat) + Int.toNat x3 + (1:Nat)) (List.length b0):Bool))
        (Tr.test (Option.isSome (f62 ((!eqF (List.getD b0 ((0:Nat) + Int.toNat x3) (0:Int)) (0:Int):Bool),((19:Int),()))))
          (let r0:=g62 ((!eqF (List.getD b0 ((0:Nat) + Int.toNat x3) (0:Int)) (0:Int):Bool),((19:Int),()));
          Tr.test ((!eqF r0.1 0:Bool))
            (Tr.fin (.ret ((x3,(r0.1,())),(b0,()))))
            (Tr.fin (.again (((x1n,x1c),(x2,((wrap64 (x3 + (1:Int)):Int),()))),(b0,())))))
          (Tr.stop))
        (Tr.stop))
      (Tr.stop))
    (Tr.fin (.brk ((),(b0,()))))

def s60_0_1 (d:sh60_0_1.data):Option (Out sh60_0_1.data shb60_0_1.data shr60_0_1.data):=(t60_0_1 d.1.1.1 d.1.1.2 d.1.2.1 d.1.2.2.1 d.2.1).val
def l60_0_1 (d:sh60_0_1.data):Option (shb60_0_1.data ⊕ shr60_0_1.data):=itr s60_0_1 rounds d
def b60_0_1 (d:sh60_0_1.data):shb60_0_1.data:=outB shb60_0_1.dflt (l60_0_1 d)
def r60_0_1 (d:sh60_0_1.data):shr60_0_1.data:=outR shr60_0_1.dflt (l60_0_1 d)
def lc60_0_1:LoopC:=lcOf sh60_0_1 shb60_0_1 shr60_0_1 l60_0_1 b60_0_1 r60_0_1

theorem wk60_0_1 (x1n:Nat) (x1c:Nat) (x2:Int) (x3:Int) (b0:(List Int)):Walks (runBody (kl51_0_5 Go.Proofs.Tryz.prog).orc Go.Proofs.Tryz.prog 400 60 0 sh60_0_1 shb60_0_1 shr60_0_1 (((x1n,x1c),x2,x3,()),b0,())) (t60_0_1 x1n x1c x2 x3 b0) [([true,true,true,true,true],[2,4,6,8,10]),([true,true,true,true,false],[2,4,6,8,10]),([ff],[2])] :=
  ⟨by kernel_rfl,by kernel_rfl,by kernel_rfl,trivial⟩

theorem ok60_0_1_t (x1n:Nat) (x1c:Nat) (x2:Int) (x3:Int) (b0:(List Int)):TrOk (BodyRuns Go.Proofs.Tryz.prog (kl51_0_5 Go.Proofs.Tryz.prog).orc 60 0 sh60_0_1 shb60_0_1 shr60_0_1 (((x1n,x1c),x2,x3,()),b0,())) (t60_0_1 x1n x1c x2 x3 b0) :=
  Walks.ok (fun _ _ _=>BodyRuns.of) (wk60_0_1 x1n x1c x2 x3 b0) (by kernel_rfl)

theorem ok60_0_1:LoopOk Go.Proofs.Tryz.prog 60 0 lc60_0_1:=loopOk_of (sh:=sh60_0_1) (shB:=shb60_0_1) (shR:=shr60_0_1) kl51_0_5_ok.base (T:=fun (d:sh60_0_1.data)=>t60_0_1 d.1.1.1 d.1.1.2 d.1.2.1 d.1.2.2.1 d.2.1) (by kernel_rfl) rfl (fun (d:sh60_0_1.data)=>ok60_0_1_t d.1.1.1 d.1.1.2 d.1.2.1 d.1.2.2.1 d.2.1) (fun _=>rfl)
def kl60_0_1 (P:Go.Program):Known:=(kl51_0_5 P).loop 60 0 lc60_0_1
theorem kl60_0_1_ok:KnownOk Go.Proofs.Tryz.prog (kl60_0_1 Go.Proofs.Tryz.prog):=kl51_0_5_ok.loop ok60_0_1

/-! ductility/sensor.CheckCalibration -/

abbrev as10:List Ty:=[(.slice (.pair (.int .i64) (.pair (.int .i64) .unit))),(.pair (.int .i64) (.pair (.int .i64) (.pair (.int .i64) .unit)))]
abbrev rs10:List Ty:=[(.int .i64),(.int .i64)]

def t10 (x0:(List (Int×(Int×Unit)))) (x1:Int) (x1':Int) (x1'':Int):Tr (Tys.data rs10) :=
  Tr.test (Option.isSome (f49 (x0,())))
    (Tr.test (Option.isSome (f12 ((x1,(x1',(x1'',()))),())))
      (let r0:=g49 (x0,());
      let r1:=g12 ((x1,(x1',(x1'',()))),());
      Tr.test (Option.isSome (f48 (([r0.1,r1.1]:List Int),())))
        (let r2:=g48 (([r0.1,r1.1]:List Int),());
        Tr.test ((!eqF r2.1 0:Bool))
          (Tr.fin (((0:Int),(r2.1,()))))
          (Tr.test (isBrk (l51_0_4 (((0:Int),(x0,((↑(List.length x0):Int),((0:Int),())))),((x1,(x1',(x1'',()))),()))))
            (let r3:=b51_0_4 (((0:Int),(x0,((↑(List.length x0):Int),((0:Int),())))),((x1,(x1',(x1'',()))),()));
            Tr.test (isBrk (l51_0_5 (((0:Int),(x0,((↑(List.length x0):Int),((0:Int),())))),((r3.2.1.1,(r3.2.1.2.1,(r3.2.1.2.2.1,()))),()))))
              (let r4:=b51_0_5 (((0:Int),(x0,((↑(List.length x0):Int),((0:Int),())))),((r3.2.1.1,(r3.2.1.2.1,(r3.2.1.2.2.1,()))),()));
              Tr.test (Option.isSome (l60_0_1 ((((2:Nat),(2:Nat)),((2:Int),((0:Int),()))),(([r3.1.1,r4.1.1]:List Int),()))))
                (Tr.test (isRet (l60_0_1 ((((2:Nat),(2:Nat)),((2:Int),((0:Int),()))),(([r3.1.1,r4.1.1]:List Int),()))))
                  (Tr.test (Option.isSome (f50 (x0,())))
                    (let r5:=r60_0_1 ((((2:Nat),(2:Nat)),((2:Int),((0:Int),()))),(([r3.1.1,r4.1.1]:List Int),()));
                    let r7:=g50 (x0,());
                    Tr.test (Option.isSome (f48 (([r5.1.2.1,r7.1]:List Int),())))
                      (let r8:=g48 (([r5.1.2.1,r7.1]:List Int),());
                      Tr.fin ((r5.1.1,(r8.1,()))))
                      (Tr.stop))
                    (Tr.stop))
                  (Tr.test (Option.isSome (f50 (x0,())))
                    (let r7:=g50 (x0,());
                    Tr.test (Option.isSome (f48 (([(0:Int),r7.1]:List Int),())))
                      (let r9:=g48 (([(0:Int),r7.1]:List Int),());
                      Tr.fin (((0:Int),(r9.1,()))))
                      (Tr.stop))
                    (Tr.stop)))
                (Tr.stop))
              (Tr.stop))
            (Tr.stop)))
        (Tr.stop))
      (Tr.stop))
    (Tr.stop)

def f10 (d:Tys.data as10):Option (Tys.data rs10):=(t10 d.1 d.2.1.1 d.2.1.2.1 d.2.1.2.2.1).val
def g10 (d:Tys.data as10):Tys.data rs10:=(f10 d).getD (Tys.dflt rs10)
def p10:PureC:=pcOf as10 rs10 f10 g10

theorem wk10 (x0:(List (Int×(Int×Unit)))) (x1:Int) (x1':Int) (x1'':Int):Walks (runPure (kl60_0_1 Go.Proofs.Tryz.prog).orc Go.Proofs.Tryz.prog 400 10 as10 rs10 (x0,(x1,x1',x1'',()),())) (t10 x0 x1 x1' x1'') [([true,true,true,true],[2,4,1,6,8]),([true,true,true,false,true,true,true,true,true,true],[2,1,4,6,8,1,10,1,12,14,16,1,18,20]),([true,true,true,false,true,true,true,false,true,true],[2,1,4,6,8,1,10,1,12,14,16,1,18,20])] :=
  ⟨by kernel_rfl,by kernel_rfl,by kernel_rfl,trivial⟩

theorem ok10_t (x0:(List (Int×(Int×Unit)))) (x1:Int) (x1':Int) (x1'':Int):TrOk (PureRuns Go.Proofs.Tryz.prog (kl60_0_1 Go.Proofs.Tryz.prog).orc 10 as10 rs10 (x0,(x1,x1',x1'',()),())) (t10 x0 x1 x1' x1'') :=
  Walks.ok (fun _ _ _=>PureRuns.of) (wk10 x0 x1 x1' x1'') (by kernel_rfl)

theorem ok10:PureOk Go.Proofs.Tryz.prog 10 p10:=pureOk_of kl60_0_1_ok.base (T:=fun (d:Tys.data as10)=>t10 d.1 d.2.1.1 d.2.1.2.1 d.2.1.2.2.1) (by kernel_rfl) (fun (d:Tys.data as10)=>ok10_t d.1 d.2.1.1 d.2.1.2.1 d.2.1.2.2.1)
def kf10 (P:Go.Program):Known:=(kl60_0_1 P).func 10 p10
theorem kf10_ok:KnownOk Go.Proofs.Tryz.prog (kf10 Go.Proofs.Tryz.prog):=kl60_0_1_ok.func ok10

/-! loop 0 of ductility/sensor.sumOf -/

abbrev sh51_0_6:Sh:={ n:=21,slots:=[1,5,8,9,10],pats:=[.fn 64 [(0,3)],.ty (.int .i64),.ty (.slice (.pair (.int .i64) (.pair (.int .i64) .unit))),.ty (.int .i64),.ty (.int .i64)],boxes:=[.row [.ty (.int .i64),.ty (.int .i64),.ty (.int .i64)]] }
abbrev shb51_0_6:Sh:={ n:=21,slots:=[5],pats:=[.ty (.int .i64)],boxes:=[.row [.ty (.int .i64),.ty (.int .i64),.ty (.int .i64)]] }
abbrev shr51_0_6:Sh:={ n:=21,slots:=[],pats:=[],boxes:=[.row [.ty (.int .i64),.ty (.int .i64),.ty (.int .i64)]] }

def t51_0_6 (x1:Int) (x2:(List (Int×(Int×Unit)))) (x3:Int) (x4:Int) (b0_0:Int) (b0_1:Int) (b0_2:Int):Tr (Out sh51_0_6.data shb51_0_6.data shr51_0_6.data) :=
  Tr.test ((!leF x3 x4:Bool))
    (Tr.test (decide ((0:Int) ≤ x4) && decide (x4 < (↑(List.length x2):Int)))
      (Tr.test (Option.isSome (f58 ((b0_0,(b0_1,(b0_2,()))),((((List.getD x2 (Int.toNat x4) ((0:Int),(0:Int),())).1:Int),(((List.getD x2 (Int.toNat x4) ((0:Int),(0:Int),())).2.1:Int),())),()))))
        (let r0:=g58 ((b0_0,(b0_1,(b0_2,()))),((((List.getD x2 (Int.toNat x4) ((0:Int),(0:Int),())).1:Int),(((List.getD x2 (Int.toNat x4) ((0:Int),(0:Int),())).2.1:Int),())),()));
        Tr.fin (.again (((wrap64 (x1 + wrap64 (r0.1 * r0.1)):Int),(x2,(x3,((wrap64 (x4 + (1:Int)):Int),())))),((b0_0,(b0_1,(b0_2,()))),()))))
        (Tr.stop))
      (Tr.stop))
    (Tr.fin (.brk ((x1,()),((b0_0,(b0_1,(b0_2,()))),()))))

def s51_0_6 (d:sh51_0_6.data):Option (Out sh51_0_6.data shb51_0_6.data shr51_0_6.data):=(t51_0_6 d.1.1 d.1.2.1 d.1.2.2.1 d.1.2.2.2.1 d.2.1.1 d.2.1.2.1 d.2.1.2.2.1).val
def l51_0_6 (d:sh51_0_6.data):Option (shb51_0_6.data ⊕ shr51_0_6.data):=itr s51_0_6 rounds d
def b51_0_6 (d:sh51_0_6.data):shb51_0_6.data:=outB shb51_0_6.dflt (l51_0_6 d)
def lc51_0_6:LoopC:=lcB sh51_0_6 shb51_0_6 shr51_0_6 l51_0_6 b51_0_6

theorem wk51_0_6 (x1:Int) (x2:(List (Int×(Int×Unit)))) (x3:Int) (x4:Int) (b0_0:Int) (b0_1:Int) (b0_2:Int):Walks (runBody (kf10 Go.Proofs.Tryz.prog).orc Go.Proofs.Tryz.prog 400 51 0 sh51_0_6 shb51_0_6 shr51_0_6 ((x1,x2,x3,x4,()),(b0_0,b0_1,b0_2,()),())) (t51_0_6 x1 x2 x3 x4 b0_0 b0_1 b0_2) [([true,true,true],[2,4,6]),([ff],[2])] :=
  ⟨by kernel_rfl,by kernel_rfl,trivial⟩

theorem ok51_0_6_t (x1:Int) (x2:(List (Int×(Int×Unit)))) (x3:Int) (x4:Int) (b0_0:Int) (b0_1:Int) (b0_2:Int):TrOk (BodyRuns Go.Proofs.Tryz.prog (kf10 Go.Proofs.Tryz.prog).orc 51 0 sh51_0_6 shb51_0_6 shr51_0_6 ((x1,x2,x3,x4,()),(b0_0,b0_1,b0_2,()),())) (t51_0_6 x1 x2 x3 x4 b0_0 b0_1 b0_2) :=
  Walks.ok (fun _ _ _=>BodyRuns.of) (wk51_0_6 x1 x2 x3 x4 b0_0 b0_1 b0_2) (by kernel_rfl)

theorem ok51_0_6:LoopOk Go.Proofs.Tryz.prog 51 0 lc51_0_6:=loopOk_ofB (sh:=sh51_0_6) (shB:=shb51_0_6) (shR:=shr51_0_6) kf10_ok.base (T:=fun (d:sh51_0_6.data)=>t51_0_6 d.1.1 d.1.2.1 d.1.2.2.1 d.1.2.2.2.1 d.2.1.1 d.2.1.2.1 d.2.1.2.2.1) (by kernel_rfl) rfl (fun (d:sh51_0_6.data)=>ok51_0_6_t d.1.1 d.1.2.1 d.1.2.2.1 d.1.2.2.2.1 d.2.1.1 d.2.1.2.1 d.2.1.2.2.1) (fun _=>rfl)
def kl51_0_6 (P:Go.Program):Known:=(kf10 P).loop 51 0 lc51_0_6
theorem kl51_0_6_ok:KnownOk Go.Proofs.Tryz.prog (kl51_0_6 Go.Proofs.Tryz.prog):=kf10_ok.loop ok51_0_6

/-! ductility/sensor.MisfitOf -/

abbrev as11:List Ty:=[(.slice (.pair (.int .i64) (.pair (.int .i64) .unit))),(.pair (.int .i64) (.pair (.int .i64) (.pair (.int .i64) .unit)))]
abbrev rs11:List Ty:=[(.pair (.int .i64) (.pair (.int .i64) .unit)),(.int .i64)]

def t11 (x0:(List (Int×(Int×Unit)))) (x1:Int) (x1':Int) (x1'':Int):Tr (Tys.data rs11) :=
  Tr.test (Option.isSome (f63 ((10000:Int),(([x1,x1',x1'']:List Int),()))))
    (Tr.test (Option.isSome (f49 (x0,())))
      (Tr.test (Option.isSome (f12 ((x1,(x1',(x1'',()))),())))
        (let r0:=g63 ((10000:Int),(([x1,x1',x1'']:List Int),()));
        Tr.test (Option.isSome (f62 (r0.1,((8:Int),()))))
          (let r1:=g49 (x0,());
          let r2:=g12 ((x1,(x1',(x1'',()))),());
          let r3:=g62 (r0.1,((8:Int),()));
          Tr.test (Option.isSome (f48 (([r1.1,r2.1,r3.1]:List Int),())))
            (let r4:=g48 (([r1.1,r2.1,r3.1]:List Int),());
            Tr.test ((!eqF r4.1 0:Bool))
              (Tr.fin ((((0:Int),((0:Int),())),(r4.1,()))))
              (Tr.test (isBrk (l51_0_6 (((0:Int),(x0,((↑(List.length x0):Int),((0:Int),())))),((x1,(x1',(x1'',()))),()))))
                (let r5:=b51_0_6 (((0:Int),(x0,((↑(List.length x0):Int),((0:Int),())))),((x1,(x1',(x1'',()))),()));
                Tr.test (Option.isSome (f65 (r5.1.1,((wrap64 (r5.2.1.2.2.1 * r5.2.1.2.2.1):Int),()))))
                  (let r6:=g65 (r5.1.1,((wrap64 (r5.2.1.2.2.1 * r5.2.1.2.2.1):Int),()));
                  Tr.fin (((r6.1.1,(r6.1.2.1,())),((0:Int),()))))
                  (Tr.stop))
                (Tr.stop)))
            (Tr.stop))
          (Tr.stop))
        (Tr.stop))
      (Tr.stop))
    (Tr.stop)

def f11 (d:Tys.data as11):Option (Tys.data rs11):=(t11 d.1 d.2.1.1 d.2.1.2.1 d.2.1.2.2.1).val
def g11 (d:Tys.data as11):Tys.data rs11:=(f11 d).getD (Tys.dflt rs11)
def p11:PureC:=pcOf as11 rs11 f11 g11

theorem wk11 (x0:(List (Int×(Int×Unit)))) (x1:Int) (x1':Int) (x1'':Int):Walks (runPure (kl51_0_6 Go.Proofs.Tryz.prog).orc Go.Proofs.Tryz.prog 400 11 as11 rs11 (x0,(x1,x1',x1'',()),())) (t11 x0 x1 x1' x1'') [([true,true,true,true,true,true],[2,4,1,6,8,10,12,1]),([true,true,true,true,true,false,true,true],[2,1,4,6,8,1,10,12,14,16,1])] :=
  ⟨by kernel_rfl,by kernel_rfl,trivial⟩

theorem ok11_t (x0:(List (Int×(Int×Unit)))) (x1:Int) (x1':Int) (x1'':Int):TrOk (PureRuns Go.Proofs.Tryz.prog (kl51_0_6 Go.Proofs.Tryz.prog).orc 11 as11 rs11 (x0,(x1,x1',x1'',()),())) (t11 x0 x1 x1' x1'') :=
  Walks.ok (fun _ _ _=>PureRuns.of) (wk11 x0 x1 x1' x1'') (by kernel_rfl)

theorem ok11:PureOk Go.Proofs.Tryz.prog 11 p11:=pureOk_of kl51_0_6_ok.base (T:=fun (d:Tys.data as11)=>t11 d.1 d.2.1.1 d.2.1.2.1 d.2.1.2.2.1) (by kernel_rfl) (fun (d:Tys.data as11)=>ok11_t d.1 d.2.1.1 d.2.1.2.1 d.2.1.2.2.1)
def kf11 (P:Go.Program):Known:=(kl51_0_6 P).func 11 p11
theorem kf11_ok:KnownOk Go.Proofs.Tryz.prog (kf11 Go.Proofs.Tryz.prog):=kl51_0_6_ok.func ok11

/-! ductility/ductilitybase.Within -/

abbrev as20:List Ty:=[(.int .i64),(.int .i64),(.int .i64)]
abbrev rs20:List Ty:=[.bool]

def t20 (x0:Int) (x1:Int) (x2:Int):Tr (Tys.data rs20) :=
  Tr.test ((leF x1 x0:Bool))
    (Tr.fin ((leF x0 x2,())))
    (Tr.fin ((false,())))

def f20 (d:Tys.data as20):Option (Tys.data rs20):=(t20 d.1 d.2.1 d.2.2.1).val
def g20 (d:Tys.data as20):Tys.data rs20:=(f20 d).getD (Tys.dflt rs20)
def p20:PureC:=pcOf as20 rs20 f20 g20

theorem wk20 (x0:Int) (x1:Int) (x2:Int):Walks (runPure (kf11 Go.Proofs.Tryz.prog).orc Go.Proofs.Tryz.prog 400 20 as20 rs20 (x0,x1,x2,())) (t20 x0 x1 x2) [([tt],[2,2,2,2]),([ff],[2,2,2,2])] :=
  ⟨by kernel_rfl,by kernel_rfl,trivial⟩

theorem ok20_t (x0:Int) (x1:Int) (x2:Int):TrOk (PureRuns Go.Proofs.Tryz.prog (kf11 Go.Proofs.Tryz.prog).orc 20 as20 rs20 (x0,x1,x2,())) (t20 x0 x1 x2) :=
  Walks.ok (fun _ _ _=>PureRuns.of) (wk20 x0 x1 x2) (by kernel_rfl)

theorem ok20:PureOk Go.Proofs.Tryz.prog 20 p20:=pureOk_of kf11_ok.base (T:=fun (d:Tys.data as20)=>t20 d.1 d.2.1 d.2.2.1) (by kernel_rfl) (fun (d:Tys.data as20)=>ok20_t d.1 d.2.1 d.2.2.1)
def kf20 (P:Go.Program):Known:=(kf11 P).func 20 p20
theorem kf20_ok:KnownOk Go.Proofs.Tryz.prog (kf20 Go.Proofs.Tryz.prog):=kf11_ok.func ok20

/-! ductility/ductilityref07.LineErr -/

abbrev as13:List Ty:=[(.pair (.int .i64) (.pair (.int .i64) (.pair (.int .i64) .unit)))]
abbrev rs13:List Ty:=[(.int .i64)]

def t13 (x0:Int) (x0':Int) (x0'':Int):Tr (Tys.data rs13) :=
  Tr.test (Option.isSome (f20 (x0'',((1:Int),((300000000000:Int),())))))
    (let r0:=g20 (x0'',((1:Int),((300000000000:Int),())));
    Tr.test ((!r0.1:Bool))
      (Tr.fin (((2:Int),())))
      (Tr.test (Option.isSome (f20 (x0,((-300000000000:Int),((300000000000:Int),())))))
        (let r1:=g20 (x0,((-300000000000:Int),((300000000000:Int),())));
        Tr.test ((!r1.1:Bool))
          (Tr.fin (((2:Int),())))
          (Tr.test (Option.isSome (f20 (x0',((-300000000000:Int),((300000000000:Int),())))))
            (let r2:=g20 (x0',((-300000000000:Int),((300000000000:Int),())));
            Tr.test ((!r2.1:Bool))
              (Tr.fin (((2:Int),())))
              (Tr.test (Option.isSome (f67 (x0,(x0',()))))
                (let r3:=g67 (x0,(x0',()));
                Tr.test (Option.isSome (f67 (r3.1,(x0'',()))))
                  (let r4:=g67 (r3.1,(x0'',()));
                  Tr.test ((!eqF r4.1 1:Bool))
                    (Tr.fin (((3:Int),())))
                    (Tr.fin (((0:Int),()))))
                  (Tr.stop))
                (Tr.stop)))
            (Tr.stop)))
        (Tr.stop)))
    (Tr.stop)

def f13 (d:Tys.data as13):Option (Tys.data rs13):=(t13 d.1.1 d.1.2.1 d.1.2.2.1).val
def g13 (d:Tys.data as13):Tys.data rs13:=(f13 d).getD (Tys.dflt rs13)
def p13:PureC:=pcOf as13 rs13 f13 g13

theorem wk13 (x0:Int) (x0':Int) (x0'':Int):Walks (runPure (kf20 Go.Proofs.Tryz.prog).orc Go.Proofs.Tryz.prog 400 13 as13 rs13 ((x0,x0',x0'',()),())) (t13 x0 x0' x0'') [([true,true],[1,1,1,1,1,1,2,2,2,2,2,4]),([true,false,true,true],[1,2,2,2,2,2,6,6,4,6,6,6,8]),([true,false,true,false,true,true],[2,6,6,4,6,6,6,10,10,8,10,10,10,12]),([true,false,true,false,true,false,true,true,true],[2,4,6,8,12,12,10,12,12,12,16,16,14,16,16,16,18]),([true,false,true,false,true,false,true,true,false],[2,4,6,8,12,12,10,12,12,12,16,16,14,16,16,16,18])] :=
  ⟨by kernel_rfl,by kernel_rfl,by kernel_rfl,by kernel_rfl,by kernel_rfl,trivial⟩

theorem ok13_t (x0:Int) (x0':Int) (x0'':Int):TrOk (PureRuns Go.Proofs.Tryz.prog (kf20 Go.Proofs.Tryz.prog).orc 13 as13 rs13 ((x0,x0',x0'',()),())) (t13 x0 x0' x0'') :=
  Walks.ok (fun _ _ _=>PureRuns.of) (wk13 x0 x0' x0'') (by kernel_rfl)

theorem ok13:PureOk Go.Proofs.Tryz.prog 13 p13:=pureOk_of kf20_ok.base (T:=fun (d:Tys.data as13)=>t13 d.1.1 d.1.2.1 d.1.2.2.1) (by kernel_rfl) (fun (d:Tys.data as13)=>ok13_t d.1.1 d.1.2.1 d.1.2.2.1)
def kf13 (P:Go.Program):Known:=(kf20 P).func 13 p13
theorem kf13_ok:KnownOk Go.Proofs.Tryz.prog (kf13 Go.Proofs.Tryz.prog):=kf20_ok.func ok13

end Go.Vm.Mo
