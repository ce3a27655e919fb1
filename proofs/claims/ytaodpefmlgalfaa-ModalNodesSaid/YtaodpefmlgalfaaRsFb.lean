import Derived.Test.YtaodpefmlgalfaaA4
import Derived.KernelRfl
import Derived.Test.YtaodpefmlgalfaaProg
import Derived.Test.YtaodpefmlgalfaaRsFa
set_option linter.unusedVariables false
set_option linter.unusedSimpArgs false

namespace Go.Vm.Mo
open Go
set_option linter.unusedVariables false

/-! (ductility/modal.frame).countUpTo -/

abbrev as85:List Ty:=[(.pair (.pair (.slice (.int .i64)) (.pair (.slice (.int .i64)) .unit)) .unit),(.pair (.int .i64) (.pair (.int .i64) .unit))]
abbrev rs85:List Ty:=[(.int .i64)]

def t85 (x0_:(List Int)) (x0_':(List Int)) (x1:Int) (x1':Int):Tr (Tys.data rs85) :=
  Tr.test (Option.isSome (f61 (((x0_,(x0_',())),()),((x1,(x1',())),()))))
    (let r0:=g61 (((x0_,(x0_',())),()),((x1,(x1',())),()));
    Tr.test (r0.1)
      (Tr.test (Option.isSome (f60 (((x0_,(x0_',())),()),((x1,(x1',())),()))))
        (let r1:=g60 (((x0_,(x0_',())),()),((x1,(x1',())),()));
        Tr.fin (((wrap64 (r1.1 + (1:Int)):Int),())))
        (Tr.stop))
      (Tr.test (Option.isSome (f60 (((x0_,(x0_',())),()),((x1,(x1',())),()))))
        (let r1:=g60 (((x0_,(x0_',())),()),((x1,(x1',())),()));
        Tr.fin ((r1.1,())))
        (Tr.stop)))
    (Tr.stop)

def f85 (d:Tys.data as85):Option (Tys.data rs85):=(t85 d.1.1.1 d.1.1.2.1 d.2.1.1 d.2.1.2.1).val
def g85 (d:Tys.data as85):Tys.data rs85:=(f85 d).getD (Tys.dflt rs85)
def p85:PureC:=pcOf as85 rs85 f85 g85

theorem wk85 (x0_:(List Int)) (x0_':(List Int)) (x1:Int) (x1':Int):Walks (runPure (kf61 Go.Proofs.Try.prog).orc Go.Proofs.Try.prog 400 85 as85 rs85 (((x0_,x0_',()),()),(x1,x1',()),())) (t85 x0_ x0_' x1 x1') [([true,true,true],[2,4,6]),([true,false,true],[2,4,6])] :=
  ⟨by kernel_rfl,by kernel_rfl,trivial⟩

theorem ok85_t (x0_:(List Int)) (x0_':(List Int)) (x1:Int) (x1':Int):TrOk (PureRuns Go.Proofs.Try.prog (kf61 Go.Proofs.Try.prog).orc 85 as85 rs85 (((x0_,x0_',()),()),(x1,x1',()),())) (t85 x0_ x0_' x1 x1') :=
  Walks.ok (fun _ _ _=>PureRuns.of) (wk85 x0_ x0_' x1 x1') (by kernel_rfl)

theorem ok85:PureOk Go.Proofs.Try.prog 85 p85:=pureOk_of kf61_ok.base (T:=fun (d:Tys.data as85)=>t85 d.1.1.1 d.1.1.2.1 d.2.1.1 d.2.1.2.1) (by kernel_rfl) (fun (d:Tys.data as85)=>ok85_t d.1.1.1 d.1.1.2.1 d.2.1.1 d.2.1.2.1)
def kf85 (P:Go.Program):Known:=(kf61 P).func 85 p85
theorem kf85_ok:KnownOk Go.Proofs.Try.prog (kf85 Go.Proofs.Try.prog):=kf61_ok.func ok85

/-! loop 0 of sort.Search -/

abbrev sh82_0:Sh:={ n:=26,slots:=[1,5,6],pats:=[.fn 83 [(0,2),(1,1),(2,1)],.ty (.int .i64),.ty (.int .i64)],boxes:=[.row [.ty (.slice (.int .i64)),.ty (.slice (.int .i64))],.row [.ty (.int .i64)],.row [.ty (.int .i64)]] }
abbrev shb82_0:Sh:={ n:=26,slots:=[5],pats:=[.ty (.int .i64)],boxes:=[.row [.ty (.slice (.int .i64)),.ty (.slice (.int .i64))],.row [.ty (.int .i64)],.row [.ty (.int .i64)]] }
abbrev shr82_0:Sh:={ n:=26,slots:=[],pats:=[],boxes:=[.row [.ty (.slice (.int .i64)),.ty (.slice (.int .i64))],.row [.ty (.int .i64)],.row [.ty (.int .i64)]] }

def t82_0 (x1:Int) (x2:Int) (b0_0:(List Int)) (b0_1:(List Int)) (b1_0:Int) (b2_0:Int):Tr (Out sh82_0.data shb82_0.data shr82_0.data) :=
  Tr.test ((!leF x2 x1:Bool))
    (Tr.test (Option.isSome (f60 (((b0_0,(b0_1,())),()),(((Go.IntKind.wrap Go.IntKind.i64 (Int.fdiv (Go.IntKind.wrap Go.IntKind.u64 (wrap64 (x1 + x2))) (2:Int)):Int),(b1_0,())),()))))
      (let r0:=g60 (((b0_0,(b0_1,())),()),(((Go.IntKind.wrap Go.IntKind.i64 (Int.fdiv (Go.IntKind.wrap Go.IntKind.u64 (wrap64 (x1 + x2))) (2:Int)):Int),(b1_0,())),()));
      Tr.test ((!!leF r0.1 b2_0:Bool))
        (Tr.fin (.again (((wrap64 (Go.IntKind.wrap Go.IntKind.i64 (Int.fdiv (Go.IntKind.wrap Go.IntKind.u64 (wrap64 (x1 + x2))) (2:Int)) + (1:Int)):Int),(x2,())),((b0_0,(b0_1,())),((b1_0,()),((b2_0,()),()))))))
        (Tr.fin (.again ((x1,((Go.IntKind.wrap Go.IntKind.i64 (Int.fdiv (Go.IntKind.wrap Go.IntKind.u64 (wrap64 (x1 + x2))) (2:Int)):Int),())),((b0_0,(b0_1,())),((b1_0,()),((b2_0,()),())))))))
      (Tr.stop))
    (Tr.fin (.brk ((x1,()),((b0_0,(b0_1,())),((b1_0,()),((b2_0,()),()))))))

def s82_0 (d:sh82_0.data):Option (Out sh82_0.data shb82_0.data shr82_0.data):=(t82_0 d.1.1 d.1.2.1 d.2.1.1 d.2.1.2.1 d.2.2.1.1 d.2.2.2.1.1).val
def l82_0 (d:sh82_0.data):Option (shb82_0.data ⊕ shr82_0.data):=itr s82_0 rounds d
def b82_0 (d:sh82_0.data):shb82_0.data:=outB shb82_0.dflt (l82_0 d)
def lc82_0:LoopC:=lcB sh82_0 shb82_0 shr82_0 l82_0 b82_0

theorem wk82_0 (x1:Int) (x2:Int) (b0_0:(List Int)) (b0_1:(List Int)) (b1_0:Int) (b2_0:Int):Walks (runBody (kf85 Go.Proofs.Try.prog).orc Go.Proofs.Try.prog 400 82 0 sh82_0 shb82_0 shr82_0 ((x1,x2,()),(b0_0,b0_1,()),(b1_0,()),(b2_0,()),())) (t82_0 x1 x2 b0_0 b0_1 b1_0 b2_0) [([true,true,true],[2,4,6]),([true,true,false],[2,4,6]),([ff],[2])] :=
  ⟨by kernel_rfl,by kernel_rfl,by kernel_rfl,trivial⟩

theorem ok82_0_t (x1:Int) (x2:Int) (b0_0:(List Int)) (b0_1:(List Int)) (b1_0:Int) (b2_0:Int):TrOk (BodyRuns Go.Proofs.Try.prog (kf85 Go.Proofs.Try.prog).orc 82 0 sh82_0 shb82_0 shr82_0 ((x1,x2,()),(b0_0,b0_1,()),(b1_0,()),(b2_0,()),())) (t82_0 x1 x2 b0_0 b0_1 b1_0 b2_0) :=
  Walks.ok (fun _ _ _=>BodyRuns.of) (wk82_0 x1 x2 b0_0 b0_1 b1_0 b2_0) (by kernel_rfl)

theorem ok82_0:LoopOk Go.Proofs.Try.prog 82 0 lc82_0:=loopOk_ofB (sh:=sh82_0) (shB:=shb82_0) (shR:=shr82_0) kf85_ok.base (T:=fun (d:sh82_0.data)=>t82_0 d.1.1 d.1.2.1 d.2.1.1 d.2.1.2.1 d.2.2.1.1 d.2.2.2.1.1) (by kernel_rfl) rfl (fun (d:sh82_0.data)=>ok82_0_t d.1.1 d.1.2.1 d.2.1.1 d.2.1.2.1 d.2.2.1.1 d.2.2.2.1.1) (fun _=>rfl)
def kl82_0 (P:Go.Program):Known:=(kf85 P).loop 82 0 lc82_0
theorem kl82_0_ok:KnownOk Go.Proofs.Try.prog (kl82_0 Go.Proofs.Try.prog):=kf85_ok.loop ok82_0

/-! loop 0 of sort.Search -/

abbrev sh82_0_1:Sh:={ n:=26,slots:=[1,5,6],pats:=[.fn 84 [(0,2),(1,1),(2,1)],.ty (.int .i64),.ty (.int .i64)],boxes:=[.row [.ty (.slice (.int .i64)),.ty (.slice (.int .i64))],.row [.ty (.int .i64)],.row [.ty (.int .i64)]] }
abbrev shb82_0_1:Sh:={ n:=26,slots:=[5],pats:=[.ty (.int .i64)],boxes:=[.row [.ty (.slice (.int .i64)),.ty (.slice (.int .i64))],.row [.ty (.int .i64)],.row [.ty (.int .i64)]] }
abbrev shr82_0_1:Sh:={ n:=26,slots:=[],pats:=[],boxes:=[.row [.ty (.slice (.int .i64)),.ty (.slice (.int .i64))],.row [.ty (.int .i64)],.row [.ty (.int .i64)]] }

def t82_0_1 (x1:Int) (x2:Int) (b0_0:(List Int)) (b0_1:(List Int)) (b1_0:Int) (b2_0:Int):Tr (Out sh82_0_1.data shb82_0_1.data shr82_0_1.data) :=
  Tr.test ((!leF x2 x1:Bool))
    (Tr.test (Option.isSome (f85 (((b0_0,(b0_1,())),()),(((Go.IntKind.wrap Go.IntKind.i64 (Int.fdiv (Go.IntKind.wrap Go.IntKind.u64 (wrap64 (x1 + x2))) (2:Int)):Int),(b1_0,())),()))))
      (let r0:=g85 (((b0_0,(b0_1,())),()),(((Go.IntKind.wrap Go.IntKind.i64 (Int.fdiv (Go.IntKind.wrap Go.IntKind.u64 (wrap64 (x1 + x2))) (2:Int)):Int),(b1_0,())),()));
      Tr.test ((!!leF r0.1 b2_0:Bool))
        (Tr.fin (.again (((wrap64 (Go.IntKind.wrap Go.IntKind.i64 (Int.fdiv (Go.IntKind.wrap Go.IntKind.u64 (wrap64 (x1 + x2))) (2:Int)) + (1:Int)):Int),(x2,())),((b0_0,(b0_1,())),((b1_0,()),((b2_0,()),()))))))
        (Tr.fin (.again ((x1,((Go.IntKind.wrap Go.IntKind.i64 (Int.fdiv (Go.IntKind.wrap Go.IntKind.u64 (wrap64 (x1 + x2))) (2:Int)):Int),())),((b0_0,(b0_1,())),((b1_0,()),((b2_0,()),())))))))
      (Tr.stop))
    (Tr.fin (.brk ((x1,()),((b0_0,(b0_1,())),((b1_0,()),((b2_0,()),()))))))

def s82_0_1 (d:sh82_0_1.data):Option (Out sh82_0_1.data shb82_0_1.data shr82_0_1.data):=(t82_0_1 d.1.1 d.1.2.1 d.2.1.1 d.2.1.2.1 d.2.2.1.1 d.2.2.2.1.1).val
def l82_0_1 (d:sh82_0_1.data):Option (shb82_0_1.data ⊕ shr82_0_1.data):=itr s82_0_1 rounds d
def b82_0_1 (d:sh82_0_1.data):shb82_0_1.data:=outB shb82_0_1.dflt (l82_0_1 d)
def lc82_0_1:LoopC:=lcB sh82_0_1 shb82_0_1 shr82_0_1 l82_0_1 b82_0_1

theorem wk82_0_1 (x1:Int) (x2:Int) (b0_0:(List Int)) (b0_1:(List Int)) (b1_0:Int) (b2_0:Int):Walks (runBody (kl82_0 Go.Proofs.Try.prog).orc Go.Proofs.Try.prog 400 82 0 sh82_0_1 shb82_0_1 shr82_0_1 ((x1,x2,()),(b0_0,b0_1,()),(b1_0,()),(b2_0,()),())) (t82_0_1 x1 x2 b0_0 b0_1 b1_0 b2_0) [([true,true,true],[2,4,6]),([true,true,false],[2,4,6]),([ff],[2])] :=
  ⟨by kernel_rfl,by kernel_rfl,by kernel_rfl,trivial⟩

theorem ok82_0_1_t (x1:Int) (x2:Int) (b0_0:(List Int)) (b0_1:(List Int)) (b1_0:Int) (b2_0:Int):TrOk (BodyRuns Go.Proofs.Try.prog (kl82_0 Go.Proofs.Try.prog).orc 82 0 sh82_0_1 shb82_0_1 shr82_0_1 ((x1,x2,()),(b0_0,b0_1,()),(b1_0,()),(b2_0,()),())) (t82_0_1 x1 x2 b0_0 b0_1 b1_0 b2_0) :=
  Walks.ok (fun _ _ _=>BodyRuns.of) (wk82_0_1 x1 x2 b0_0 b0_1 b1_0 b2_0) (by kernel_rfl)

theorem ok82_0_1:LoopOk Go.Proofs.Try.prog 82 0 lc82_0_1:=loopOk_ofB (sh:=sh82_0_1) (shB:=shb82_0_1) (shR:=shr82_0_1) kl82_0_ok.base (T:=fun (d:sh82_0_1.data)=>t82_0_1 d.1.1 d.1.2.1 d.2.1.1 d.2.1.2.1 d.2.2.1.1 d.2.2.2.1.1) (by kernel_rfl) rfl (fun (d:sh82_0_1.data)=>ok82_0_1_t d.1.1 d.1.2.1 d.2.1.1 d.2.1.2.1 d.2.2.1.1 d.2.2.2.1.1) (fun _=>rfl)
def kl82_0_1 (P:Go.Program):Known:=(kl82_0 P).loop 82 0 lc82_0_1
theorem kl82_0_1_ok:KnownOk Go.Proofs.Try.prog (kl82_0_1 Go.Proofs.Try.prog):=kl82_0_ok.loop ok82_0_1

/-! (ductility/modal.frame).enclosure -/

abbrev as57:List Ty:=[(.pair (.pair (.slice (.int .i64)) (.pair (.slice (.int .i64)) .unit)) .unit),(.int .i64),(.int .i64)]
abbrev rs57:List Ty:=[(.pair (.int .i64) (.pair (.int .i64) .unit))]

def t57 (x0_:(List Int)) (x0_':(List Int)) (x1:Int) (x2:Int):Tr (Tys.data rs57) :=
  Tr.test (isBrk (l82_0 (((0:Int),((4001:Int),())),((x0_,(x0_',())),((x2,()),((x1,()),()))))))
    (let r0:=b82_0 (((0:Int),((4001:Int),())),((x0_,(x0_',())),((x2,()),((x1,()),()))));
    Tr.test (isBrk (l82_0_1 (((0:Int),((4000:Int),())),((r0.2.1.1,(r0.2.1.2.1,())),((r0.2.2.1.1,()),((r0.2.2.2.1.1,()),()))))))
      (let r1:=b82_0_1 (((0:Int),((4000:Int),())),((r0.2.1.1,(r0.2.1.2.1,())),((r0.2.2.1.1,()),((r0.2.2.2.1.1,()),()))));
      Tr.fin ((((wrap64 (r0.1.1 - (1:Int)):Int),(r1.1.1,())),())))
      (Tr.stop))
    (Tr.stop)

def f57 (d:Tys.data as57):Option (Tys.data rs57):=(t57 d.1.1.1 d.1.1.2.1 d.2.1 d.2.2.1).val
def g57 (d:Tys.data as57):Tys.data rs57:=(f57 d).getD (Tys.dflt rs57)
def p57:PureC:=pcOf as57 rs57 f57 g57

theorem wk57 (x0_:(List Int)) (x0_':(List Int)) (x1:Int) (x2:Int):Walks (runPure (kl82_0_1 Go.Proofs.Try.prog).orc Go.Proofs.Try.prog 400 57 as57 rs57 (((x0_,x0_',()),()),x1,x2,())) (t57 x0_ x0_' x1 x2) [([true,true],[1,2,1,4])] :=
  ⟨by kernel_rfl,trivial⟩

theorem ok57_t (x0_:(List Int)) (x0_':(List Int)) (x1:Int) (x2:Int):TrOk (PureRuns Go.Proofs.Try.prog (kl82_0_1 Go.Proofs.Try.prog).orc 57 as57 rs57 (((x0_,x0_',()),()),x1,x2,())) (t57 x0_ x0_' x1 x2) :=
  Walks.ok (fun _ _ _=>PureRuns.of) (wk57 x0_ x0_' x1 x2) (by kernel_rfl)

theorem ok57:PureOk Go.Proofs.Try.prog 57 p57:=pureOk_of kl82_0_1_ok.base (T:=fun (d:Tys.data as57)=>t57 d.1.1.1 d.1.1.2.1 d.2.1 d.2.2.1) (by kernel_rfl) (fun (d:Tys.data as57)=>ok57_t d.1.1.1 d.1.1.2.1 d.2.1 d.2.2.1)
def kf57 (P:Go.Program):Known:=(kl82_0_1 P).func 57 p57
theorem kf57_ok:KnownOk Go.Proofs.Try.prog (kf57 Go.Proofs.Try.prog):=kl82_0_1_ok.func ok57

/-! ductility/modal.EnclosureOf -/

abbrev as19:List Ty:=[(.pair (.slice (.int .i64)) (.pair (.slice (.int .i64)) .unit)),(.int .i64),(.int .i64)]
abbrev rs19:List Ty:=[(.pair (.int .i64) (.pair (.int .i64) .unit)),(.int .i64)]

def t19 (x0:(List Int)) (x0':(List Int)) (x1:Int) (x2:Int):Tr (Tys.data rs19) :=
  Tr.test (Option.isSome (f48 ((0:Int),((wrap64 ((↑(List.length x0):Int) - (1:Int)):Int),(([x1]:List Int),())))))
    (let r0:=g48 ((0:Int),((wrap64 ((↑(List.length x0):Int) - (1:Int)):Int),(([x1]:List Int),())));
    Tr.test (Option.isSome (f45 ((!r0.1:Bool),((6:Int),()))))
      (Tr.test (Option.isSome (f56 (x2,())))
        (Tr.test (Option.isSome (f9 ((x0,(x0',())),())))
          (let r1:=g45 ((!r0.1:Bool),((6:Int),()));
          let r2:=g56 (x2,());
          Tr.test (Option.isSome (f44 (([r1.1,r2.1]:List Int),())))
            (let r3:=g9 ((x0,(x0',())),());
            let r4:=g44 (([r1.1,r2.1]:List Int),());
            Tr.test (Option.isSome (f44 (([r3.2.1,r4.1]:List Int),())))
              (let r5:=g44 (([r3.2.1,r4.1]:List Int),());
              Tr.test ((!eqF r5.1 0:Bool))
                (Tr.fin ((((0:Int),((0:Int),())),(r5.1,()))))
                (Tr.test (Option.isSome (f57 (((x0,(x0',())),()),(x1,(x2,())))))
                  (let r6:=g57 (((x0,(x0',())),()),(x1,(x2,())));
                  Tr.fin (((r6.1.1,(r6.1.2.1,())),((0:Int),()))))
                  (Tr.stop)))
              (Tr.stop))
            (Tr.stop))
          (Tr.stop))
        (Tr.stop))
      (Tr.stop))
    (Tr.stop)

def f19 (d:Tys.data as19):Option (Tys.data rs19):=(t19 d.1.1 d.1.2.1 d.2.1 d.2.2.1).val
def g19 (d:Tys.data as19):Tys.data rs19:=(f19 d).getD (Tys.dflt rs19)
def p19:PureC:=pcOf as19 rs19 f19 g19

theorem wk19 (x0:(List Int)) (x0':(List Int)) (x1:Int) (x2:Int):Walks (runPure (kf57 Go.Proofs.Try.prog).orc Go.Proofs.Try.prog 400 19 as19 rs19 ((x0,x0',()),x1,x2,())) (t19 x0 x0' x1 x2) [([true,true,true,true,true,true,true],[2,2,4,1,6,1,8,10,12,14,1]),([true,true,true,true,true,true,false,true],[2,0,4,6,1,8,1,10,12,14,16,1])] :=
  ⟨by kernel_rfl,by kernel_rfl,trivial⟩

theorem ok19_t (x0:(List Int)) (x0':(List Int)) (x1:Int) (x2:Int):TrOk (PureRuns Go.Proofs.Try.prog (kf57 Go.Proofs.Try.prog).orc 19 as19 rs19 ((x0,x0',()),x1,x2,())) (t19 x0 x0' x1 x2) :=
  Walks.ok (fun _ _ _=>PureRuns.of) (wk19 x0 x0' x1 x2) (by kernel_rfl)

theorem ok19:PureOk Go.Proofs.Try.prog 19 p19:=pureOk_of kf57_ok.base (T:=fun (d:Tys.data as19)=>t19 d.1.1 d.1.2.1 d.2.1 d.2.2.1) (by kernel_rfl) (fun (d:Tys.data as19)=>ok19_t d.1.1 d.1.2.1 d.2.1 d.2.2.1)
def kf19 (P:Go.Program):Known:=(kf57 P).func 19 p19
theorem kf19_ok:KnownOk Go.Proofs.Try.prog (kf19 Go.Proofs.Try.prog):=kf57_ok.func ok19

/-! ductility/ductilitylaw06.Decay -/

abbrev as42:List Ty:=[]
abbrev rs42:List Ty:=[(.pair (.slice (.int .i64)) (.pair (.int .i64) .unit))]

def t42 :Tr (Tys.data rs42) :=
  Tr.fin (((([(-3:Int),(5:Int),(8:Int),(4:Int),(-6:Int),(-2:Int),(3:Int),(5:Int),(-4:Int),(-1:Int),(4:Int)]:List Int),((2:Int),())),()))

def f42 (d:Tys.data as42):Option (Tys.data rs42):=(t42 ).val
def g42 (d:Tys.data as42):Tys.data rs42:=(f42 d).getD (Tys.dflt rs42)
def p42:PureC:=pcOf as42 rs42 f42 g42

theorem wk42 :Walks (runPure (kf19 Go.Proofs.Try.prog).orc Go.Proofs.Try.prog 400 42 as42 rs42 ()) (t42 ) [([],[1])] :=
  ⟨by kernel_rfl,trivial⟩

theorem ok42_t :TrOk (PureRuns Go.Proofs.Try.prog (kf19 Go.Proofs.Try.prog).orc 42 as42 rs42 ()) (t42 ) :=
  Walks.ok (fun _ _ _=>PureRuns.of) (wk42 ) (by kernel_rfl)

theorem ok42:PureOk Go.Proofs.Try.prog 42 p42:=pureOk_of kf19_ok.base (T:=fun (d:Tys.data as42)=>t42 ) (by kernel_rfl) (fun (d:Tys.data as42)=>ok42_t )
def kf42 (P:Go.Program):Known:=(kf19 P).func 42 p42
theorem kf42_ok:KnownOk Go.Proofs.Try.prog (kf42 Go.Proofs.Try.prog):=kf19_ok.func ok42

/-! ductility/modal.countError -/

abbrev as99:List Ty:=[(.int .i64),(.int .i64)]
abbrev rs99:List Ty:=[(.int .i64)]

def t99 (x0:Int) (x1:Int):Tr (Tys.data rs99) :=
  Tr.test (Option.isSome (f45 ((eqF x0 0:Bool),((10:Int),()))))
    (Tr.test (Option.isSome (f45 (!leF x0 x1,((8:Int),()))))
      (let r0:=g45 ((eqF x0 0:Bool),((10:Int),()));
      let r1:=g45 ((!leF x0 x1:Bool),((8:Int),()));
      Tr.test (Option.isSome (f44 (([r0.1,r1.1]:List Int),())))
        (let r2:=g44 (([r0.1,r1.1]:List Int),());
        Tr.fin ((r2.1,())))
        (Tr.stop))
      (Tr.stop))
    (Tr.stop)

def f99 (d:Tys.data as99):Option (Tys.data rs99):=(t99 d.1 d.2.1).val
def g99 (d:Tys.data as99):Tys.data rs99:=(f99 d).getD (Tys.dflt rs99)
def p99:PureC:=pcOf as99 rs99 f99 g99

theorem wk99 (x0:Int) (x1:Int):Walks (runPure (kf42 Go.Proofs.Try.prog).orc Go.Proofs.Try.prog 400 99 as99 rs99 (x0,x1,())) (t99 x0 x1) [([true,true,true],[2,1,4,6])] :=
  ⟨by kernel_rfl,trivial⟩

theorem ok99_t (x0:Int) (x1:Int):TrOk (PureRuns Go.Proofs.Try.prog (kf42 Go.Proofs.Try.prog).orc 99 as99 rs99 (x0,x1,())) (t99 x0 x1) :=
  Walks.ok (fun _ _ _=>PureRuns.of) (wk99 x0 x1) (by kernel_rfl)

theorem ok99:PureOk Go.Proofs.Try.prog 99 p99:=pureOk_of kf42_ok.base (T:=fun (d:Tys.data as99)=>t99 d.1 d.2.1) (by kernel_rfl) (fun (d:Tys.data as99)=>ok99_t d.1 d.2.1)
def kf99 (P:Go.Program):Known:=(kf42 P).func 99 p99
theorem kf99_ok:KnownOk Go.Proofs.Try.prog (kf99 Go.Proofs.Try.prog):=kf42_ok.func ok99

/-! ductility/modal.limitError -/

abbrev as88:List Ty:=[(.int .i64),(.slice (.int .i64))]
abbrev rs88:List Ty:=[(.int .i64)]

def t88 (x0:Int) (x1:(List Int)):Tr (Tys.data rs88) :=
  Tr.test (Option.isSome (f48 ((Go.IntKind.wrap Go.IntKind.i64 ((0:Int) - x0):Int),(x0,(x1,())))))
    (let r0:=g48 ((Go.IntKind.wrap Go.IntKind.i64 ((0:Int) - x0):Int),(x0,(x1,())));
    Tr.test (Option.isSome (f45 ((!r0.1:Bool),((2:Int),()))))
      (let r1:=g45 ((!r0.1:Bool),((2:Int),()));
      Tr.fin ((r1.1,())))
      (Tr.stop))
    (Tr.stop)

def f88 (d:Tys.data as88):Option (Tys.data rs88):=(t88 d.1 d.2.1).val
def g88 (d:Tys.data as88):Tys.data rs88:=(f88 d).getD (Tys.dflt rs88)
def p88:PureC:=pcOf as88 rs88 f88 g88

theorem wk88 (x0:Int) (x1:(List Int)):Walks (runPure (kf99 Go.Proofs.Try.prog).orc Go.Proofs.Try.prog 400 88 as88 rs88 (x0,x1,())) (t88 x0 x1) [([true,true],[2,4])] :=
  ⟨by kernel_rfl,trivial⟩

theorem ok88_t (x0:Int) (x1:(List Int)):TrOk (PureRuns Go.Proofs.Try.prog (kf99 Go.Proofs.Try.prog).orc 88 as88 rs88 (x0,x1,())) (t88 x0 x1) :=
  Walks.ok (fun _ _ _=>PureRuns.of) (wk88 x0 x1) (by kernel_rfl)

theorem ok88:PureOk Go.Proofs.Try.prog 88 p88:=pureOk_of kf99_ok.base (T:=fun (d:Tys.data as88)=>t88 d.1 d.2.1) (by kernel_rfl) (fun (d:Tys.data as88)=>ok88_t d.1 d.2.1)
def kf88 (P:Go.Program):Known:=(kf99 P).func 88 p88
theorem kf88_ok:KnownOk Go.Proofs.Try.prog (kf88 Go.Proofs.Try.prog):=kf99_ok.func ok88

/-! ductility/modal.decayOf -/

abbrev as73:List Ty:=[(.pair (.slice (.int .i64)) (.pair (.int .i64) .unit))]
abbrev rs73:List Ty:=[(.pair (.pair (.slice (.int .i64)) (.pair (.int .i64) .unit)) .unit),(.int .i64)]

def t73 (x0:(List Int)) (x0':Int):Tr (Tys.data rs73) :=
  Tr.test (Option.isSome (f48 ((0:Int),((10000:Int),(([x0']:List Int),())))))
    (Tr.test (Option.isSome (f99 ((↑(List.length x0):Int),((60:Int),()))))
      (Tr.test (Option.isSome (f88 ((10000:Int),(x0,()))))
        (let r0:=g48 ((0:Int),((10000:Int),(([x0']:List Int),())));
        Tr.test (Option.isSome (f45 ((!r0.1:Bool),((2:Int),()))))
          (let r1:=g99 ((↑(List.length x0):Int),((60:Int),()));
          let r2:=g88 ((10000:Int),(x0,()));
          let r3:=g45 ((!r0.1:Bool),((2:Int),()));
          Tr.test (Option.isSome (f44 (([r1.1,r2.1,r3.1]:List Int),())))
            (let r4:=g44 (([r1.1,r2.1,r3.1]:List Int),());
            Tr.test ((!eqF r4.1 0:Bool))
              (Tr.fin ((((([]:List Int),((0:Int),())),()),(r4.1,()))))
              (Tr.fin ((((x0,(x0',())),()),((0:Int),())))))
            (Tr.stop))
          (Tr.stop))
        (Tr.stop))
      (Tr.stop))
    (Tr.stop)

def f73 (d:Tys.data as73):Option (Tys.data rs73):=(t73 d.1.1 d.1.2.1).val
def g73 (d:Tys.data as73):Tys.data rs73:=(f73 d).getD (Tys.dflt rs73)
def p73:PureC:=pcOf as73 rs73 f73 g73

theorem wk73 (x0:(List Int)) (x0':Int):Walks (runPure (kf88 Go.Proofs.Try.prog).orc Go.Proofs.Try.prog 400 73 as73 rs73 ((x0,x0',()),())) (t73 x0 x0') [([true,true,true,true,true,true],[2,4,1,6,8,10,12,1]),([true,true,true,true,true,false],[2,4,1,6,8,10,12,1])] :=
  ⟨by kernel_rfl,by kernel_rfl,trivial⟩

theorem ok73_t (x0:(List Int)) (x0':Int):TrOk (PureRuns Go.Proofs.Try.prog (kf88 Go.Proofs.Try.prog).orc 73 as73 rs73 ((x0,x0',()),())) (t73 x0 x0') :=
  Walks.ok (fun _ _ _=>PureRuns.of) (wk73 x0 x0') (by kernel_rfl)

theorem ok73:PureOk Go.Proofs.Try.prog 73 p73:=pureOk_of kf88_ok.base (T:=fun (d:Tys.data as73)=>t73 d.1.1 d.1.2.1) (by kernel_rfl) (fun (d:Tys.data as73)=>ok73_t d.1.1 d.1.2.1)
def kf73 (P:Go.Program):Known:=(kf88 P).func 73 p73
theorem kf73_ok:KnownOk Go.Proofs.Try.prog (kf73 Go.Proofs.Try.prog):=kf88_ok.func ok73

/-! loop 0 of (ductility/modal.decay).crossings -/

abbrev sh74_0:Sh:={ n:=40,slots:=[1,3,4,9,10,11],pats:=[.ptr 0 2 0,.acc (.pair (.int .i64) (.pair (.int .i64) .unit)),.ty (.int .i64),.ty (.slice (.int .i64)),.ty (.int .i64),.ty (.int .i64)],boxes:=[.row [.ty (.slice (.int .i64)),.ty (.int .i64)]] }
abbrev shb74_0:Sh:={ n:=40,slots:=[3],pats:=[.acc (.pair (.int .i64) (.pair (.int .i64) .unit))],boxes:=[.row [.ty (.slice (.int .i64)),.ty (.int .i64)]] }
abbrev shr74_0:Sh:={ n:=40,slots:=[],pats:=[],boxes:=[.row [.ty (.slice (.int .i64)),.ty (.int .i64)]] }

def t74_0 (x1:(List (Int×(Int×Unit)))) (x2:Int) (x3:(List Int)) (x4:Int) (x5:Int) (b0_0:(List Int)) (b0_1:Int):Tr (Out sh74_0.data shb74_0.data shr74_0.data) :=
  Tr.test ((!leF x4 x5:Bool))
    (Tr.test (decide ((0:Int) ≤ x5) && decide (x5 < (↑(List.length x3):Int)))
      (Tr.test ((!leF (Go.IntKind.wrap Go.IntKind.i64 ((0:Int) - b0_1)) (List.getD x3 (Int.toNat x5) (0:Int)):Bool))
        (Tr.test ((!leF (List.getD x3 (Int.toNat x5) (0:Int)) b0_1:Bool))
          (Tr.test ((!eqF x5 (-1):Bool))
            (Tr.test ((Nat.ble (((2:Nat) * (List.length x1 + (1:Nat)) + (192:Nat)) * (16:Nat)) (281474976710656:Nat) && Nat.ble (List.length x1 + (1:Nat)) (281474976710656:Nat):Bool))
              (Tr.fin (.again (((x1++[(x5,x5,())]:List (Int×Int×PUnit)),((-1:Int),(x3,(x4,((wrap64 (x5 + (1:Int)):Int),()))))),((b0_0,(b0_1,())),()))))
              (Tr.stop))
            (Tr.fin (.again ((x1,(x5,(x3,(x4,((wrap64 (x5 + (1:Int)):Int),()))))),((b0_0,(b0_1,())),())))))
          (Tr.fin (.again ((x1,(x5,(x3,(x4,((wrap64 (x5 + (1:Int)):Int),()))))),((b0_0,(b0_1,())),())))))
        (Tr.test ((!leF (List.getD x3 (Int.toNat x5) (0:Int)) b0_1:Bool))
          (Tr.test ((!eqF x2 (-1):Bool))
            (Tr.test ((Nat.ble (((2:Nat) * (List.length x1 + (1:Nat)) + (192:Nat)) * (16:Nat)) (281474976710656:Nat) && Nat.ble (List.length x1 + (1:Nat)) (281474976710656:Nat):Bool))
              (Tr.fin (.again (((x1++[(x2,x5,())]:List (Int×Int×PUnit)),((-1:Int),(x3,(x4,((wrap64 (x5 + (1:Int)):Int),()))))),((b0_0,(b0_1,())),()))))
              (Tr.stop))
            (Tr.fin (.again ((x1,(x2,(x3,(x4,((wrap64 (x5 + (1:Int)):Int),()))))),((b0_0,(b0_1,())),())))))
          (Tr.fin (.again ((x1,(x2,(x3,(x4,((wrap64 (x5 + (1:Int)):Int),()))))),((b0_0,(b0_1,())),()))))))
      (Tr.stop))
    (Tr.fin (.brk ((x1,()),((b0_0,(b0_1,())),()))))

def s74_0 (d:sh74_0.data):Option (Out sh74_0.data shb74_0.data shr74_0.data):=(t74_0 d.1.1 d.1.2.1 d.1.2.2.1 d.1.2.2.2.1 d.1.2.2.2.2.1 d.2.1.1 d.2.1.2.1).val
def l74_0 (d:sh74_0.data):Option (shb74_0.data ⊕ shr74_0.data):=itr s74_0 rounds d
def b74_0 (d:sh74_0.data):shb74_0.data:=outB shb74_0.dflt (l74_0 d)
def lc74_0:LoopC:=lcB sh74_0 shb74_0 shr74_0 l74_0 b74_0

theorem wk74_0 (x1:(List (Int×(Int×Unit)))) (x2:Int) (x3:(List Int)) (x4:Int) (x5:Int) (b0_0:(List Int)) (b0_1:Int):Walks (runBody (kf73 Go.Proofs.Try.prog).orc Go.Proofs.Try.prog 400 74 0 sh74_0 shb74_0 shr74_0 ((x1,x2,x3,x4,x5,()),(b0_0,b0_1,()),())) (t74_0 x1 x2 x3 x4 x5 b0_0 b0_1) [([true,true,true,true,true,true],[1,2,0,4,6,6,6,8,10,12]),([true,true,true,true,false],[2,4,4,4,6,8,10]),([true,true,true,false],[0,2,2,2,4,6,8]),([true,true,false,true,true,true],[1,2,0,4,6,6,6,8,10,12]),([true,true,false,true,false],[2,4,4,4,6,8,10]),([true,true,false,false],[0,2,2,2,4,6,8]),([ff],[2])] :=
  ⟨by kernel_rfl,by kernel_rfl,by kernel_rfl,by kernel_rfl,by kernel_rfl,by kernel_rfl,by kernel_rfl,trivial⟩

theorem ok74_0_t (x1:(List (Int×(Int×Unit)))) (x2:Int) (x3:(List Int)) (x4:Int) (x5:Int) (b0_0:(List Int)) (b0_1:Int):TrOk (BodyRuns Go.Proofs.Try.prog (kf73 Go.Proofs.Try.prog).orc 74 0 sh74_0 shb74_0 shr74_0 ((x1,x2,x3,x4,x5,()),(b0_0,b0_1,()),())) (t74_0 x1 x2 x3 x4 x5 b0_0 b0_1) :=
  Walks.ok (fun _ _ _=>BodyRuns.of) (wk74_0 x1 x2 x3 x4 x5 b0_0 b0_1) (by kernel_rfl)

theorem ok74_0:LoopOk Go.Proofs.Try.prog 74 0 lc74_0:=loopOk_ofB (sh:=sh74_0) (shB:=shb74_0) (shR:=shr74_0) kf73_ok.base (T:=fun (d:sh74_0.data)=>t74_0 d.1.1 d.1.2.1 d.1.2.2.1 d.1.2.2.2.1 d.1.2.2.2.2.1 d.2.1.1 d.2.1.2.1) (by kernel_rfl) rfl (fun (d:sh74_0.data)=>ok74_0_t d.1.1 d.1.2.1 d.1.2.2.1 d.1.2.2.2.1 d.1.2.2.2.2.1 d.2.1.1 d.2.1.2.1) (fun _=>rfl)
def kl74_0 (P:Go.Program):Known:=(kf73 P).loop 74 0 lc74_0
theorem kl74_0_ok:KnownOk Go.Proofs.Try.prog (kl74_0 Go.Proofs.Try.prog):=kf73_ok.loop ok74_0

/-! (ductility/modal.decay).crossings -/

abbrev as74:List Ty:=[(.pair (.pair (.slice (.int .i64)) (.pair (.int .i64) .unit)) .unit)]
abbrev rs74:List Ty:=[(.slice (.pair (.int .i64) (.pair (.int .i64) .unit)))]

def t74 (x0_:(List Int)) (x0_':Int):Tr (Tys.data rs74) :=
  Tr.test (isBrk (l74_0 ((([]:List (Int×Int×PUnit)),((-1:Int),(x0_,((↑(List.length x0_):Int),((0:Int),()))))),((x0_,(x0_',())),()))))
    (let r0:=b74_0 ((([]:List (Int×Int×PUnit)),((-1:Int),(x0_,((↑(List.length x0_):Int),((0:Int),()))))),((x0_,(x0_',())),()));
    Tr.fin ((r0.1.1,())))
    (Tr.stop)

def f74 (d:Tys.data as74):Option (Tys.data rs74):=(t74 d.1.1.1 d.1.1.2.1).val
def g74 (d:Tys.data as74):Tys.data rs74:=(f74 d).getD (Tys.dflt rs74)
def p74:PureC:=pcOf as74 rs74 f74 g74

theorem wk74 (x0_:(List Int)) (x0_':Int):Walks (runPure (kl74_0 Go.Proofs.Try.prog).orc Go.Proofs.Try.prog 400 74 as74 rs74 (((x0_,x0_',()),()),())) (t74 x0_ x0_') [([tt],[1,2])] :=
  ⟨by kernel_rfl,trivial⟩

theorem ok74_t (x0_:(List Int)) (x0_':Int):TrOk (PureRuns Go.Proofs.Try.prog (kl74_0 Go.Proofs.Try.prog).orc 74 as74 rs74 (((x0_,x0_',()),()),())) (t74 x0_ x0_') :=
  Walks.ok (fun _ _ _=>PureRuns.of) (wk74 x0_ x0_') (by kernel_rfl)

theorem ok74:PureOk Go.Proofs.Try.prog 74 p74:=pureOk_of kl74_0_ok.base (T:=fun (d:Tys.data as74)=>t74 d.1.1.1 d.1.1.2.1) (by kernel_rfl) (fun (d:Tys.data as74)=>ok74_t d.1.1.1 d.1.1.2.1)
def kf74 (P:Go.Program):Known:=(kl74_0 P).func 74 p74
theorem kf74_ok:KnownOk Go.Proofs.Try.prog (kf74 Go.Proofs.Try.prog):=kl74_0_ok.func ok74

/-! loop 2 of ductility/modal.divisorOf -/

abbrev sh80_2:Sh:={ n:=26,slots:=[5,7,9,10,11],pats:=[.ty (.int .i64),.ty (.int .i64),.ty (.slice (.int .i64)),.ty (.int .i64),.ty (.int .i64)],boxes:=[] }
abbrev shb80_2:Sh:={ n:=26,slots:=[5,9,10,11],pats:=[.ty (.int .i64),.ty (.slice (.int .i64)),.ty (.int .i64),.ty (.int .i64)],boxes:=[] }
abbrev shr80_2:Sh:={ n:=26,slots:=[],pats:=[],boxes:=[] }

def t80_2 (x0:Int) (x1:Int) (x2:(List Int)) (x3:Int) (x4:Int):Tr (Out sh80_2.data shb80_2.data shr80_2.data) :=
  Tr.test ((!eqF x1 0:Bool))
    (Tr.test (x1 == (0:Int))
      (Tr.stop)
      (Tr.fin (.again ((x1,((Int.tmod x0 x1:Int),(x2,(x3,(x4,()))))),()))))
    (Tr.fin (.brk ((x0,(x2,(x3,(x4,())))),())))

def s80_2 (d:sh80_2.data):Option (Out sh80_2.data shb80_2.data shr80_2.data):=(t80_2 d.1.1 d.1.2.1 d.1.2.2.1 d.1.2.2.2.1 d.1.2.2.2.2.1).val
def l80_2 (d:sh80_2.data):Option (shb80_2.data ⊕ shr80_2.data):=itr s80_2 rounds d
def b80_2 (d:sh80_2.data):shb80_2.data:=outB shb80_2.dflt (l80_2 d)
def lc80_2:LoopC:=lcB sh80_2 shb80_2 shr80_2 l80_2 b80_2

theorem wk80_2 (x0:Int) (x1:Int) (x2:(List Int)) (x3:Int) (x4:Int):Walks (runBody (kf74 Go.Proofs.Try.prog).orc Go.Proofs.Try.prog 400 80 2 sh80_2 shb80_2 shr80_2 ((x0,x1,x2,x3,x4,()),())) (t80_2 x0 x1 x2 x3 x4) [([true,false],[2,4]),([ff],[2])] :=
  ⟨by kernel_rfl,by kernel_rfl,trivial⟩

theorem ok80_2_t (x0:Int) (x1:Int) (x2:(List Int)) (x3:Int) (x4:Int):TrOk (BodyRuns Go.Proofs.Try.prog (kf74 Go.Proofs.Try.prog).orc 80 2 sh80_2 shb80_2 shr80_2 ((x0,x1,x2,x3,x4,()),())) (t80_2 x0 x1 x2 x3 x4) :=
  Walks.ok (fun _ _ _=>BodyRuns.of) (wk80_2 x0 x1 x2 x3 x4) (by kernel_rfl)

theorem ok80_2:LoopOk Go.Proofs.Try.prog 80 2 lc80_2:=loopOk_ofB (sh:=sh80_2) (shB:=shb80_2) (shR:=shr80_2) kf74_ok.base (T:=fun (d:sh80_2.data)=>t80_2 d.1.1 d.1.2.1 d.1.2.2.1 d.1.2.2.2.1 d.1.2.2.2.2.1) (by kernel_rfl) rfl (fun (d:sh80_2.data)=>ok80_2_t d.1.1 d.1.2.1 d.1.2.2.1 d.1.2.2.2.1 d.1.2.2.2.2.1) (fun _=>rfl)
def kl80_2 (P:Go.Program):Known:=(kf74 P).loop 80 2 lc80_2
theorem kl80_2_ok:KnownOk Go.Proofs.Try.prog (kl80_2 Go.Proofs.Try.prog):=kf74_ok.loop ok80_2

/-! loop 0 of ductility/modal.divisorOf -/

abbrev sh80_0:Sh:={ n:=26,slots:=[5,9,10,11],pats:=[.ty (.int .i64),.ty (.slice (.int .i64)),.ty (.int .i64),.ty (.int .i64)],boxes:=[] }
abbrev shb80_0:Sh:={ n:=26,slots:=[5],pats:=[.ty (.int .i64)],boxes:=[] }
abbrev shr80_0:Sh:={ n:=26,slots:=[],pats:=[],boxes:=[] }

def t80_0 (x0:Int) (x1:(List Int)) (x2:Int) (x3:Int):Tr (Out sh80_0.data shb80_0.data shr80_0.data) :=
  Tr.test ((!leF x2 x3:Bool))
    (Tr.test (decide ((0:Int) ≤ x3) && decide (x3 < (↑(List.length x1):Int)))
      (Tr.test (isBrk (l80_2 ((x0,((List.getD x1 (Int.toNat x3) (0:Int):Int),(x1,(x2,(x3,()))))),())))
        (let r0:=b80_2 ((x0,((List.getD x1 (Int.toNat x3) (0:Int):Int),(x1,(x2,(x3,()))))),());
        Tr.fin (.again ((r0.1.1,(r0.1.2.1,(r0.1.2.2.1,((wrap64 (r0.1.2.2.2.1 + (1:Int)):Int),())))),())))
        (Tr.stop))
      (Tr.stop))
    (Tr.fin (.brk ((x0,()),())))

def s80_0 (d:sh80_0.data):Option (Out sh80_0.data shb80_0.data shr80_0.data):=(t80_0 d.1.1 d.1.2.1 d.1.2.2.1 d.1.2.2.2.1).val
def l80_0 (d:sh80_0.data):Option (shb80_0.data ⊕ shr80_0.data):=itr s80_0 rounds d
def b80_0 (d:sh80_0.data):shb80_0.data:=outB shb80_0.dflt (l80_0 d)
def lc80_0:LoopC:=lcB sh80_0 shb80_0 shr80_0 l80_0 b80_0

theorem wk80_0 (x0:Int) (x1:(List Int)) (x2:Int) (x3:Int):Walks (runBody (kl80_2 Go.Proofs.Try.prog).orc Go.Proofs.Try.prog 400 80 0 sh80_0 shb80_0 shr80_0 ((x0,x1,x2,x3,()),())) (t80_0 x0 x1 x2 x3) [([true,true,true],[1,2,4,6]),([ff],[2])] :=
  ⟨by kernel_rfl,by kernel_rfl,trivial⟩

theorem ok80_0_t (x0:Int) (x1:(List Int)) (x2:Int) (x3:Int):TrOk (BodyRuns Go.Proofs.Try.prog (kl80_2 Go.Proofs.Try.prog).orc 80 0 sh80_0 shb80_0 shr80_0 ((x0,x1,x2,x3,()),())) (t80_0 x0 x1 x2 x3) :=
  Walks.ok (fun _ _ _=>BodyRuns.of) (wk80_0 x0 x1 x2 x3) (by kernel_rfl)

theorem ok80_0:LoopOk Go.Proofs.Try.prog 80 0 lc80_0:=loopOk_ofB (sh:=sh80_0) (shB:=shb80_0) (shR:=shr80_0) kl80_2_ok.base (T:=fun (d:sh80_0.data)=>t80_0 d.1.1 d.1.2.1 d.1.2.2.1 d.1.2.2.2.1) (by kernel_rfl) rfl (fun (d:sh80_0.data)=>ok80_0_t d.1.1 d.1.2.1 d.1.2.2.1 d.1.2.2.2.1) (fun _=>rfl)
def kl80_0 (P:Go.Program):Known:=(kl80_2 P).loop 80 0 lc80_0
theorem kl80_0_ok:KnownOk Go.Proofs.Try.prog (kl80_0 Go.Proofs.Try.prog):=kl80_2_ok.loop ok80_0

/-! ductility/modal.divisorOf -/

abbrev as80:List Ty:=[(.int .i64),(.slice (.int .i64))]
abbrev rs80:List Ty:=[(.int .i64)]

def t80 (x0:Int) (x1:(List Int)):Tr (Tys.data rs80) :=
  Tr.test (isBrk (l80_0 ((x0,(x1,((↑(List.length x1):Int),((0:Int),())))),())))
    (let r0:=b80_0 ((x0,(x1,((↑(List.length x1):Int),((0:Int),())))),());
    Tr.fin (((if r0.1.1 < Go.IntKind.wrap Go.IntKind.i64 ((0:Int) - r0.1.1) then Go.IntKind.wrap Go.IntKind.i64 ((0:Int) - r0.1.1) else r0.1.1:Int),())))
    (Tr.stop)

def f80 (d:Tys.data as80):Option (Tys.data rs80):=(t80 d.1 d.2.1).val
def g80 (d:Tys.data as80):Tys.data rs80:=(f80 d).getD (Tys.dflt rs80)
def p80:PureC:=pcOf as80 rs80 f80 g80

theorem wk80 (x0:Int) (x1:(List Int)):Walks (runPure (kl80_0 Go.Proofs.Try.prog).orc Go.Proofs.Try.prog 400 80 as80 rs80 (x0,x1,())) (t80 x0 x1) [([tt],[1,2])] :=
  ⟨by kernel_rfl,trivial⟩

theorem ok80_t (x0:Int) (x1:(List Int)):TrOk (PureRuns Go.Proofs.Try.prog (kl80_0 Go.Proofs.Try.prog).orc 80 as80 rs80 (x0,x1,())) (t80 x0 x1) :=
  Walks.ok (fun _ _ _=>PureRuns.of) (wk80 x0 x1) (by kernel_rfl)

theorem ok80:PureOk Go.Proofs.Try.prog 80 p80:=pureOk_of kl80_0_ok.base (T:=fun (d:Tys.data as80)=>t80 d.1 d.2.1) (by kernel_rfl) (fun (d:Tys.data as80)=>ok80_t d.1 d.2.1)
def kf80 (P:Go.Program):Known:=(kl80_0 P).func 80 p80
theorem kf80_ok:KnownOk Go.Proofs.Try.prog (kf80 Go.Proofs.Try.prog):=kl80_0_ok.func ok80

/-! ductility/modal.fraction -/

abbrev as53:List Ty:=[(.int .i64),(.int .i64)]
abbrev rs53:List Ty:=[(.pair (.int .i64) (.pair (.int .i64) .unit))]

def t53 (x0:Int) (x1:Int):Tr (Tys.data rs53) :=
  Tr.test (Option.isSome (f80 (x1,(([x0]:List Int),()))))
    (let r0:=g80 (x1,(([x0]:List Int),()));
    Tr.test ((r0.1 == (0:Int):Bool))
      (Tr.stop)
      (Tr.fin ((((Go.IntKind.wrap Go.IntKind.i64 (Int.tdiv x0 r0.1):Int),((Go.IntKind.wrap Go.IntKind.i64 (Int.tdiv x1 r0.1):Int),())),()))))
    (Tr.stop)

def f53 (d:Tys.data as53):Option (Tys.data rs53):=(t53 d.1 d.2.1).val
def g53 (d:Tys.data as53):Tys.data rs53:=(f53 d).getD (Tys.dflt rs53)
def p53:PureC:=pcOf as53 rs53 f53 g53

theorem wk53 (x0:Int) (x1:Int):Walks (runPure (kf80 Go.Proofs.Try.prog).orc Go.Proofs.Try.prog 400 53 as53 rs53 (x0,x1,())) (t53 x0 x1) [([true,false],[2,2,4,1])] :=
  ⟨by kernel_rfl,trivial⟩

theorem ok53_t (x0:Int) (x1:Int):TrOk (PureRuns Go.Proofs.Try.prog (kf80 Go.Proofs.Try.prog).orc 53 as53 rs53 (x0,x1,())) (t53 x0 x1) :=
  Walks.ok (fun _ _ _=>PureRuns.of) (wk53 x0 x1) (by kernel_rfl)

theorem ok53:PureOk Go.Proofs.Try.prog 53 p53:=pureOk_of kf80_ok.base (T:=fun (d:Tys.data as53)=>t53 d.1 d.2.1) (by kernel_rfl) (fun (d:Tys.data as53)=>ok53_t d.1 d.2.1)
def kf53 (P:Go.Program):Known:=(kf80 P).func 53 p53
theorem kf53_ok:KnownOk Go.Proofs.Try.prog (kf53 Go.Proofs.Try.prog):=kf80_ok.func ok53

/-! ductility/modal.PeriodIn -/

abbrev as41:List Ty:=[(.pair (.slice (.int .i64)) (.pair (.int .i64) .unit))]
abbrev rs41:List Ty:=[(.pair (.pair (.int .i64) (.pair (.int .i64) .unit)) (.pair (.pair (.int .i64) (.pair (.int .i64) .unit)) .unit)),(.int .i64)]

def t41 (x0:(List Int)) (x0':Int):Tr (Tys.data rs41) :=
  Tr.test (Option.isSome (f73 ((x0,(x0',())),())))
    (let r0:=g73 ((x0,(x0',())),());
    Tr.test ((!eqF r0.2.1 0:Bool))
      (Tr.fin (((((0:Int),((0:Int),())),(((0:Int),((0:Int),())),())),(r0.2.1,()))))
      (Tr.test (Option.isSome (f74 (((r0.1.1.1,(r0.1.1.2.1,())),()),())))
        (let r1:=g74 (((r0.1.1.1,(r0.1.1.2.1,())),()),());
        Tr.test ((!leF (1:Int) (wrap64 ((↑(List.length r1.1):Int) - (1:Int))):Bool))
          (Tr.fin (((((0:Int),((0:Int),())),(((0:Int),((0:Int),())),())),((12:Int),()))))
          (Tr.test ((true && decide ((0:Int) < (↑(List.length r1.1):Int)):Bool))
            (Tr.test ((decide ((0:Int) ≤ wrap64 ((↑(List.length r1.1):Int) - (1:Int))) && decide (wrap64 ((↑(List.length r1.1):Int) - (1:Int)) < (↑(List.length r1.1):Int)):Bool))
              (Tr.test (Option.isSome (f53 ((wrap64 ((List.getD r1.1 (Int.toNat (wrap64 ((↑(List.length r1.1):Int) - (1:Int)))) ((0:Int),(0:Int),())).1 - (List.getD r1.1 (0:Nat) ((0:Int),(0:Int),())).2.1):Int),((wrap64 ((↑(List.length r1.1):Int) - (1:Int)):Int),()))))
                (Tr.test (Option.isSome (f53 ((wrap64 ((List.getD r1.1 (Int.toNat (wrap64 ((↑(List.length r1.1):Int) - (1:Int)))) ((0:Int),(0:Int),())).2.1 - (List.getD r1.1 (0:Nat) ((0:Int),(0:Int),())).1):Int),((wrap64 ((↑(List.length r1.1):Int) - (1:Int)):Int),()))))
                  (let r2:=g53 ((wrap64 ((List.getD r1.1 (Int.toNat (wrap64 ((↑(List.length r1.1):Int) - (1:Int)))) ((0:Int),(0:Int),())).1 - (List.getD r1.1 (0:Nat) ((0:Int),(0:Int),())).2.1):Int),((wrap64 ((↑(List.length r1.1):Int) - (1:Int)):Int),()));
                  let r3:=g53 ((wrap64 ((List.getD r1.1 (Int.toNat (wrap64 ((↑(List.length r1.1):Int) - (1:Int)))) ((0:Int),(0:Int),())).2.1 - (List.getD r1.1 (0:Nat) ((0:Int),(0:Int),())).1):Int),((wrap64 ((↑(List.length r1.1):Int) - (1:Int)):Int),()));
                  Tr.fin ((((r2.1.1,(r2.1.2.1,())),((r3.1.1,(r3.1.2.1,())),())),((0:Int),()))))
                  (Tr.stop))
                (Tr.stop))
              (Tr.stop))
            (Tr.stop)))
        (Tr.stop)))
    (Tr.stop)

def f41 (d:Tys.data as41):Option (Tys.data rs41):=(t41 d.1.1 d.1.2.1).val
def g41 (d:Tys.data as41):Tys.data rs41:=(f41 d).getD (Tys.dflt rs41)
def p41:PureC:=pcOf as41 rs41 f41 g41

theorem wk41 (x0:(List Int)) (x0':Int):Walks (runPure (kf53 Go.Proofs.Try.prog).orc Go.Proofs.Try.prog 400 41 as41 rs41 ((x0,x0',()),())) (t41 x0 x0') [([true,true],[2,4]),([true,false,true,true],[2,4,6,8]),([true,false,true,false,true,true,true,true],[2,4,6,8,10,12,14,16])] :=
  ⟨by kernel_rfl,by kernel_rfl,by kernel_rfl,trivial⟩

theorem ok41_t (x0:(List Int)) (x0':Int):TrOk (PureRuns Go.Proofs.Try.prog (kf53 Go.Proofs.Try.prog).orc 41 as41 rs41 ((x0,x0',()),())) (t41 x0 x0') :=
  Walks.ok (fun _ _ _=>PureRuns.of) (wk41 x0 x0') (by kernel_rfl)

theorem ok41:PureOk Go.Proofs.Try.prog 41 p41:=pureOk_of kf53_ok.base (T:=fun (d:Tys.data as41)=>t41 d.1.1 d.1.2.1) (by kernel_rfl) (fun (d:Tys.data as41)=>ok41_t d.1.1 d.1.2.1)
def kf41 (P:Go.Program):Known:=(kf53 P).func 41 p41
theorem kf41_ok:KnownOk Go.Proofs.Try.prog (kf41 Go.Proofs.Try.prog):=kf53_ok.func ok41

/-! loop 0 of ductility/modal.checkItems[ductility/api.Range] -/

abbrev sh107_0:Sh:={ n:=25,slots:=[1,9,10,11],pats:=[.fn 108 [(0,1),(1,1)],.ty (.slice (.pair (.int .i64) (.pair (.int .i64) .unit))),.ty (.int .i64),.ty (.int .i64)],boxes:=[.row [.ty (.int .i64)],.row [.ty (.int .i64)]] }
abbrev shb107_0:Sh:={ n:=25,slots:=[],pats:=[],boxes:=[.row [.ty (.int .i64)],.row [.ty (.int .i64)]] }
abbrev shr107_0:Sh:={ n:=25,slots:=[4,5],pats:=[.ty (.int .i64),.ty (.int .i64)],boxes:=[.row [.ty (.int .i64)],.row [.ty (.int .i64)]] }

def t107_0 (x1:(List (Int×(Int×Unit)))) (x2:Int) (x3:Int) (b0_0:Int) (b1_0:Int):Tr (Out sh107_0.data shb107_0.data shr107_0.data) :=
  Tr.test ((!leF x2 x3:Bool))
    (Tr.test (decide ((0:Int) ≤ x3) && decide (x3 < (↑(List.length x1):Int)))
      (Tr.test (Option.isSome (f48 (b0_0,(b1_0,(([(List.getD x1 (Int.toNat x3) ((0:Int),(0:Int),())).1,(List.getD x1 (Int.toNat x3) ((0:Int),(0:Int),())).2.1]:List Int),())))))
        (let r0:=g48 (b0_0,(b1_0,(([(List.getD x1 (Int.toNat x3) ((0:Int),(0:Int),())).1,(List.getD x1 (Int.toNat x3) ((0:Int),(0:Int),())).2.1]:List Int),())));
        Tr.test (Option.isSome (f45 ((!r0.1:Bool),((2:Int),()))))
          (Tr.test (Option.isSome (f45 ((!leF (List.getD x1 (Int.toNat x3) ((0:Int),(0:Int),())).1 (List.getD x1 (Int.toNat x3) ((0:Int),(0:Int),())).2.1:Bool),((9:Int),()))))
            (let r1:=g45 ((!r0.1:Bool),((2:Int),()));
            let r2:=g45 ((!leF (List.getD x1 (Int.toNat x3) ((0:Int),(0:Int),())).1 (List.getD x1 (Int.toNat x3) ((0:Int),(0:Int),())).2.1:Bool),((9:Int),()));
            Tr.test (Option.isSome (f44 (([r1.1,r2.1]:List Int),())))
              (let r3:=g44 (([r1.1,r2.1]:List Int),());
              Tr.test ((!eqF r3.1 0:Bool))
                (Tr.fin (.ret ((x3,(r3.1,())),((b0_0,()),((b1_0,()),())))))
                (Tr.fin (.again ((x1,(x2,((wrap64 (x3 + (1:Int)):Int),()))),((b0_0,()),((b1_0,()),()))))))
              (Tr.stop))
            (Tr.stop))
          (Tr.stop))
        (Tr.stop))
      (Tr.stop))
    (Tr.fin (.brk ((),((b0_0,()),((b1_0,()),())))))

def s107_0 (d:sh107_0.data):Option (Out sh107_0.data shb107_0.data shr107_0.data):=(t107_0 d.1.1 d.1.2.1 d.1.2.2.1 d.2.1.1 d.2.2.1.1).val
def l107_0 (d:sh107_0.data):Option (shb107_0.data ⊕ shr107_0.data):=itr s107_0 rounds d
def b107_0 (d:sh107_0.data):shb107_0.data:=outB shb107_0.dflt (l107_0 d)
def r107_0 (d:sh107_0.data):shr107_0.data:=outR shr107_0.dflt (l107_0 d)
def lc107_0:LoopC:=lcOf sh107_0 shb107_0 shr107_0 l107_0 b107_0 r107_0

theorem wk107_0 (x1:(List (Int×(Int×Unit)))) (x2:Int) (x3:Int) (b0_0:Int) (b1_0:Int):Walks (runBody (kf41 Go.Proofs.Try.prog).orc Go.Proofs.Try.prog 400 107 0 sh107_0 shb107_0 shr107_0 ((x1,x2,x3,()),(b0_0,()),(b1_0,()),())) (t107_0 x1 x2 x3 b0_0 b1_0) [([true,true,true,true,true,true,true],[2,4,1,6,8,10,1,12,14]),([true,true,true,true,true,true,false],[2,4,1,6,8,10,1,12,14]),([ff],[2])] :=
  ⟨by kernel_rfl,by kernel_rfl,by kernel_rfl,trivial⟩

theorem ok107_0_t (x1:(List (Int×(Int×Unit)))) (x2:Int) (x3:Int) (b0_0:Int) (b1_0:Int):TrOk (BodyRuns Go.Proofs.Try.prog (kf41 Go.Proofs.Try.prog).orc 107 0 sh107_0 shb107_0 shr107_0 ((x1,x2,x3,()),(b0_0,()),(b1_0,()),())) (t107_0 x1 x2 x3 b0_0 b1_0) :=
  Walks.ok (fun _ _ _=>BodyRuns.of) (wk107_0 x1 x2 x3 b0_0 b1_0) (by kernel_rfl)

theorem ok107_0:LoopOk Go.Proofs.Try.prog 107 0 lc107_0:=loopOk_of (sh:=sh107_0) (shB:=shb107_0) (shR:=shr107_0) kf41_ok.base (T:=fun (d:sh107_0.data)=>t107_0 d.1.1 d.1.2.1 d.1.2.2.1 d.2.1.1 d.2.2.1.1) (by kernel_rfl) rfl (fun (d:sh107_0.data)=>ok107_0_t d.1.1 d.1.2.1 d.1.2.2.1 d.2.1.1 d.2.2.1.1) (fun _=>rfl)
def kl107_0 (P:Go.Program):Known:=(kf41 P).loop 107 0 lc107_0
theorem kl107_0_ok:KnownOk Go.Proofs.Try.prog (kl107_0 Go.Proofs.Try.prog):=kf41_ok.loop ok107_0

/-! ductility/modal.endsError -/

abbrev as100:List Ty:=[(.slice (.pair (.int .i64) (.pair (.int .i64) .unit))),(.int .i64),(.int .i64)]
abbrev rs100:List Ty:=[(.int .i64)]

def t100 (x0:(List (Int×(Int×Unit)))) (x1:Int) (x2:Int):Tr (Tys.data rs100) :=
  Tr.test (Option.isSome (l107_0 ((x0,((↑(List.length x0):Int),((0:Int),()))),((x1,()),((x2,()),())))))
    (Tr.test (isRet (l107_0 ((x0,((↑(List.length x0):Int),((0:Int),()))),((x1,()),((x2,()),())))))
      (let r0:=r107_0 ((x0,((↑(List.length x0):Int),((0:Int),()))),((x1,()),((x2,()),())));
      Tr.fin ((r0.1.2.1,())))
      (Tr.fin (((0:Int),()))))
    (Tr.stop)

def f100 (d:Tys.data as100):Option (Tys.data rs100):=(t100 d.1 d.2.1 d.2.2.1).val
def g100 (d:Tys.data as100):Tys.data rs100:=(f100 d).getD (Tys.dflt rs100)
def p100:PureC:=pcOf as100 rs100 f100 g100

theorem wk100 (x0:(List (Int×(Int×Unit)))) (x1:Int) (x2:Int):Walks (runPure (kl107_0 Go.Proofs.Try.prog).orc Go.Proofs.Try.prog 400 100 as100 rs100 (x0,x1,x2,())) (t100 x0 x1 x2) [([true,true],[2,4]),([true,false],[2,4])] :=
  ⟨by kernel_rfl,by kernel_rfl,trivial⟩

theorem ok100_t (x0:(List (Int×(Int×Unit)))) (x1:Int) (x2:Int):TrOk (PureRuns Go.Proofs.Try.prog (kl107_0 Go.Proofs.Try.prog).orc 100 as100 rs100 (x0,x1,x2,())) (t100 x0 x1 x2) :=
  Walks.ok (fun _ _ _=>PureRuns.of) (wk100 x0 x1 x2) (by kernel_rfl)

theorem ok100:PureOk Go.Proofs.Try.prog 100 p100:=pureOk_of kl107_0_ok.base (T:=fun (d:Tys.data as100)=>t100 d.1 d.2.1 d.2.2.1) (by kernel_rfl) (fun (d:Tys.data as100)=>ok100_t d.1 d.2.1 d.2.2.1)
def kf100 (P:Go.Program):Known:=(kl107_0 P).func 100 p100
theorem kf100_ok:KnownOk Go.Proofs.Try.prog (kf100 Go.Proofs.Try.prog):=kl107_0_ok.func ok100

/-! ductility/modal.afterError -/

abbrev as75:List Ty:=[(.pair (.int .i64) (.pair (.slice (.pair (.int .i64) (.pair (.int .i64) .unit))) .unit)),(.int .i64)]
abbrev rs75:List Ty:=[(.int .i64)]

def t75 (x0:Int) (x0':(List (Int×(Int×Unit)))) (x1:Int):Tr (Tys.data rs75) :=
  Tr.test (Option.isSome (f56 (x0,())))
    (Tr.test (Option.isSome (f45 (!eqF (↑(List.length x0'):Int) x1,((10:Int),()))))
      (let r0:=g56 (x0,());
      let r1:=g45 ((!eqF (↑(List.length x0'):Int) x1:Bool),((10:Int),()));
      Tr.test (Option.isSome (f44 (([r0.1,r1.1]:List Int),())))
        (let r2:=g44 (([r0.1,r1.1]:List Int),());
        Tr.test ((!eqF r2.1 0:Bool))
          (Tr.fin ((r2.1,())))
          (Tr.test (Option.isSome (f100 (x0',((0:Int),((1000000000:Int),())))))
            (let r3:=g100 (x0',((0:Int),((1000000000:Int),())));
            Tr.fin ((r3.1,())))
            (Tr.stop)))
        (Tr.stop))
      (Tr.stop))
    (Tr.stop)

def f75 (d:Tys.data as75):Option (Tys.data rs75):=(t75 d.1.1 d.1.2.1 d.2.1).val
def g75 (d:Tys.data as75):Tys.data rs75:=(f75 d).getD (Tys.dflt rs75)
def p75:PureC:=pcOf as75 rs75 f75 g75

theorem wk75 (x0:Int) (x0':(List (Int×(Int×Unit)))) (x1:Int):Walks (runPure (kf100 Go.Proofs.Try.prog).orc Go.Proofs.Try.prog 400 75 as75 rs75 ((x0,x0',()),x1,())) (t75 x0 x0' x1) [([true,true,true,true],[2,4,1,6,8]),([true,true,true,false,true],[2,4,6,1,8,10])] :=
  ⟨by kernel_rfl,by kernel_rfl,trivial⟩

theorem ok75_t (x0:Int) (x0':(List (Int×(Int×Unit)))) (x1:Int):TrOk (PureRuns Go.Proofs.Try.prog (kf100 Go.Proofs.Try.prog).orc 75 as75 rs75 ((x0,x0',()),x1,())) (t75 x0 x0' x1) :=
  Walks.ok (fun _ _ _=>PureRuns.of) (wk75 x0 x0' x1) (by kernel_rfl)

theorem ok75:PureOk Go.Proofs.Try.prog 75 p75:=pureOk_of kf100_ok.base (T:=fun (d:Tys.data as75)=>t75 d.1.1 d.1.2.1 d.2.1) (by kernel_rfl) (fun (d:Tys.data as75)=>ok75_t d.1.1 d.1.2.1 d.2.1)
def kf75 (P:Go.Program):Known:=(kf100 P).func 75 p75
theorem kf75_ok:KnownOk Go.Proofs.Try.prog (kf75 Go.Proofs.Try.prog):=kf100_ok.func ok75

/-! loop 0 of ductility/modal.agreed -/

abbrev sh110_0:Sh:={ n:=34,slots:=[4,6,10,11,12],pats:=[.ptr 0 2 0,.ptr 1 2 0,.ty (.slice (.pair (.int .i64) (.pair (.int .i64) .unit))),.ty (.int .i64),.ty (.int .i64)],boxes:=[.row [.ty (.int .i64),.ty (.int .i64)],.row [.ty (.int .i64),.ty (.int .i64)]] }
abbrev shb110_0:Sh:={ n:=34,slots:=[4,6],pats:=[.ptr 0 2 0,.ptr 1 2 0],boxes:=[.row [.ty (.int .i64),.ty (.int .i64)],.row [.ty (.int .i64),.ty (.int .i64)]] }
abbrev shr110_0:Sh:={ n:=34,slots:=[],pats:=[],boxes:=[.row [.ty (.int .i64),.ty (.int .i64)],.row [.ty (.int .i64),.ty (.int .i64)]] }

def t110_0 (x2:(List (Int×(Int×Unit)))) (x3:Int) (x4:Int) (b0_0:Int) (b0_1:Int) (b1_0:Int) (b1_1:Int):Tr (Out sh110_0.data shb110_0.data shr110_0.data) :=
  Tr.test ((!leF x3 x4:Bool))
    (Tr.test (decide ((0:Int) ≤ x4) && decide (x4 < (↑(List.length x2):Int)))
      (Tr.fin (.again ((x2,(x3,((wrap64 (x4 + (1:Int)):Int),()))),((b0_0,(b0_1,())),(((if b1_0 < (List.getD x2 (Int.toNat x4) ((0:Int),(0:Int),())).1 then (List.getD x2 (Int.toNat x4) ((0:Int),(0:Int),())).1 else b1_0:Int),((if (List.getD x2 (Int.toNat x4) ((0:Int),(0:Int),())).2.1 < b1_1 then (List.getD x2 (Int.toNat x4) ((0:Int),(0:Int),())).2.1 else b1_1:Int),())),())))))
      (Tr.stop))
    (Tr.fin (.brk ((),((b0_0,(b0_1,())),((b1_0,(b1_1,())),())))))

def s110_0 (d:sh110_0.data):Option (Out sh110_0.data shb110_0.data shr110_0.data):=(t110_0 d.1.1 d.1.2.1 d.1.2.2.1 d.2.1.1 d.2.1.2.1 d.2.2.1.1 d.2.2.1.2.1).val
def l110_0 (d:sh110_0.data):Option (shb110_0.data ⊕ shr110_0.data):=itr s110_0 rounds d
def b110_0 (d:sh110_0.data):shb110_0.data:=outB shb110_0.dflt (l110_0 d)
def lc110_0:LoopC:=lcB sh110_0 shb110_0 shr110_0 l110_0 b110_0

theorem wk110_0 (x2:(List (Int×(Int×Unit)))) (x3:Int) (x4:Int) (b0_0:Int) (b0_1:Int) (b1_0:Int) (b1_1:Int):Walks (runBody (kf75 Go.Proofs.Try.prog).orc Go.Proofs.Try.prog 400 110 0 sh110_0 shb110_0 shr110_0 ((x2,x3,x4,()),(b0_0,b0_1,()),(b1_0,b1_1,()),())) (t110_0 x2 x3 x4 b0_0 b0_1 b1_0 b1_1) [([true,true],[2,4]),([ff],[2])] :=
  ⟨by kernel_rfl,by kernel_rfl,trivial⟩

theorem ok110_0_t (x2:(List (Int×(Int×Unit)))) (x3:Int) (x4:Int) (b0_0:Int) (b0_1:Int) (b1_0:Int) (b1_1:Int):TrOk (BodyRuns Go.Proofs.Try.prog (kf75 Go.Proofs.Try.prog).orc 110 0 sh110_0 shb110_0 shr110_0 ((x2,x3,x4,()),(b0_0,b0_1,()),(b1_0,b1_1,()),())) (t110_0 x2 x3 x4 b0_0 b0_1 b1_0 b1_1) :=
  Walks.ok (fun _ _ _=>BodyRuns.of) (wk110_0 x2 x3 x4 b0_0 b0_1 b1_0 b1_1) (by kernel_rfl)

theorem ok110_0:LoopOk Go.Proofs.Try.prog 110 0 lc110_0:=loopOk_ofB (sh:=sh110_0) (shB:=shb110_0) (shR:=shr110_0) kf75_ok.base (T:=fun (d:sh110_0.data)=>t110_0 d.1.1 d.1.2.1 d.1.2.2.1 d.2.1.1 d.2.1.2.1 d.2.2.1.1 d.2.2.1.2.1) (by kernel_rfl) rfl (fun (d:sh110_0.data)=>ok110_0_t d.1.1 d.1.2.1 d.1.2.2.1 d.2.1.1 d.2.1.2.1 d.2.2.1.1 d.2.2.1.2.1) (fun _=>rfl)
def kl110_0 (P:Go.Program):Known:=(kf75 P).loop 110 0 lc110_0
theorem kl110_0_ok:KnownOk Go.Proofs.Try.prog (kl110_0 Go.Proofs.Try.prog):=kf75_ok.loop ok110_0

/-! ductility/modal.agreed -/

abbrev as110:List Ty:=[(.pair (.int .i64) (.pair (.int .i64) .unit)),(.slice (.pair (.int .i64) (.pair (.int .i64) .unit)))]
abbrev rs110:List Ty:=[(.pair (.int .i64) (.pair (.int .i64) .unit)),.bool]

def t110 (x0:Int) (x0':Int) (x1:(List (Int×(Int×Unit)))):Tr (Tys.data rs110) :=
  Tr.test (isBrk (l110_0 ((x1,((↑(List.length x1):Int),((0:Int),()))),(((0:Int),((0:Int),())),((x0,(x0',())),())))))
    (let r0:=b110_0 ((x1,((↑(List.length x1):Int),((0:Int),()))),(((0:Int),((0:Int),())),((x0,(x0',())),())));
    Tr.fin (((r0.2.2.1.1,(r0.2.2.1.2.1,())),((decide (r0.2.2.1.1 ≤ r0.2.2.1.2.1):Bool),()))))
    (Tr.stop)

def f110 (d:Tys.data as110):Option (Tys.data rs110):=(t110 d.1.1 d.1.2.1 d.2.1).val
def g110 (d:Tys.data as110):Tys.data rs110:=(f110 d).getD (Tys.dflt rs110)
def p110:PureC:=pcOf as110 rs110 f110 g110

theorem wk110 (x0:Int) (x0':Int) (x1:(List (Int×(Int×Unit)))):Walks (runPure (kl110_0 Go.Proofs.Try.prog).orc Go.Proofs.Try.prog 400 110 as110 rs110 ((x0,x0',()),x1,())) (t110 x0 x0' x1) [([tt],[1,2])] :=
  ⟨by kernel_rfl,trivial⟩

theorem ok110_t (x0:Int) (x0':Int) (x1:(List (Int×(Int×Unit)))):TrOk (PureRuns Go.Proofs.Try.prog (kl110_0 Go.Proofs.Try.prog).orc 110 as110 rs110 ((x0,x0',()),x1,())) (t110 x0 x0' x1) :=
  Walks.ok (fun _ _ _=>PureRuns.of) (wk110 x0 x0' x1) (by kernel_rfl)

theorem ok110:PureOk Go.Proofs.Try.prog 110 p110:=pureOk_of kl110_0_ok.base (T:=fun (d:Tys.data as110)=>t110 d.1.1 d.1.2.1 d.2.1) (by kernel_rfl) (fun (d:Tys.data as110)=>ok110_t d.1.1 d.1.2.1 d.2.1)
def kf110 (P:Go.Program):Known:=(kl110_0 P).func 110 p110
theorem kf110_ok:KnownOk Go.Proofs.Try.prog (kf110 Go.Proofs.Try.prog):=kl110_0_ok.func ok110

/-! loop 0 of ductility/modal.checkItems[ductility/api.Range] -/

abbrev sh107_0_1:Sh:={ n:=25,slots:=[1,9,10,11],pats:=[.fn 109 [(0,2),(1,2)],.ty (.slice (.pair (.int .i64) (.pair (.int .i64) .unit))),.ty (.int .i64),.ty (.int .i64)],boxes:=[.row [.ty (.slice (.int .i64)),.ty (.slice (.int .i64))],.row [.ty (.int .i64),.ty (.slice (.pair (.int .i64) (.pair (.int .i64) .unit)))]] }
abbrev shb107_0_1:Sh:={ n:=25,slots:=[],pats:=[],boxes:=[.row [.ty (.slice (.int .i64)),.ty (.slice (.int .i64))],.row [.ty (.int .i64),.ty (.slice (.pair (.int .i64) (.pair (.int .i64) .unit)))]] }
abbrev shr107_0_1:Sh:={ n:=25,slots:=[4,5],pats:=[.ty (.int .i64),.ty (.int .i64)],boxes:=[.row [.ty (.slice (.int .i64)),.ty (.slice (.int .i64))],.row [.ty (.int .i64),.ty (.slice (.pair (.int .i64) (.pair (.int .i64) .unit)))]] }

def t107_0_1 (x1:(List (Int×(Int×Unit)))) (x2:Int) (x3:Int) (b0_0:(List Int)) (b0_1:(List Int)) (b1_0:Int) (b1_1:(List (Int×(Int×Unit)))):Tr (Out sh107_0_1.data shb107_0_1.data shr107_0_1.data) :=
  Tr.test ((!leF x2 x3:Bool))
    (Tr.test (decide ((0:Int) ≤ x3) && decide (x3 < (↑(List.length x1):Int)))
      (Tr.test (Option.isSome (f57 (((b0_0,(b0_1,())),()),(x3,(b1_0,())))))
        (let r0:=g57 (((b0_0,(b0_1,())),()),(x3,(b1_0,())));
        Tr.test (Option.isSome (f110 ((r0.1.1,(r0.1.2.1,())),(([((List.getD x1 (Int.toNat x3) ((0:Int),(0:Int),())).1,(List.getD x1 (Int.toNat x3) ((0:Int),(0:Int),())).2.1,())]:List (Int×Int×PUnit)),()))))
          (let r1:=g110 ((r0.1.1,(r0.1.2.1,())),(([((List.getD x1 (Int.toNat x3) ((0:Int),(0:Int),())).1,(List.getD x1 (Int.toNat x3) ((0:Int),(0:Int),())).2.1,())]:List (Int×Int×PUnit)),()));
          Tr.test (Option.isSome (f45 ((!r1.2.1:Bool),((19:Int),()))))
            (let r2:=g45 ((!r1.2.1:Bool),((19:Int),()));
            Tr.test ((!eqF r2.1 0:Bool))
              (Tr.fin (.ret ((x3,(r2.1,())),((b0_0,(b0_1,())),((b1_0,(b1_1,())),())))))
              (Tr.fin (.again ((x1,(x2,((wrap64 (x3 + (1:Int)):Int),()))),((b0_0,(b0_1,())),((b1_0,(b1_1,())),()))))))
            (Tr.stop))
          (Tr.stop))
        (Tr.stop))
      (Tr.stop))
    (Tr.fin (.brk ((),((b0_0,(b0_1,())),((b1_0,(b1_1,())),())))))

def s107_0_1 (d:sh107_0_1.data):Option (Out sh107_0_1.data shb107_0_1.data shr107_0_1.data):=(t107_0_1 d.1.1 d.1.2.1 d.1.2.2.1 d.2.1.1 d.2.1.2.1 d.2.2.1.1 d.2.2.1.2.1).val
def l107_0_1 (d:sh107_0_1.data):Option (shb107_0_1.data ⊕ shr107_0_1.data):=itr s107_0_1 rounds d
def b107_0_1 (d:sh107_0_1.data):shb107_0_1.data:=outB shb107_0_1.dflt (l107_0_1 d)
def r107_0_1 (d:sh107_0_1.data):shr107_0_1.data:=outR shr107_0_1.dflt (l107_0_1 d)
def lc107_0_1:LoopC:=lcOf sh107_0_1 shb107_0_1 shr107_0_1 l107_0_1 b107_0_1 r107_0_1

theorem wk107_0_1 (x1:(List (Int×(Int×Unit)))) (x2:Int) (x3:Int) (b0_0:(List Int)) (b0_1:(List Int)) (b1_0:Int) (b1_1:(List (Int×(Int×Unit)))):Walks (runBody (kf110 Go.Proofs.Try.prog).orc Go.Proofs.Try.prog 400 107 0 sh107_0_1 shb107_0_1 shr107_0_1 ((x1,x2,x3,()),(b0_0,b0_1,()),(b1_0,b1_1,()),())) (t107_0_1 x1 x2 x3 b0_0 b0_1 b1_0 b1_1) [([true,true,true,true,true,true],[2,4,6,1,8,10,12]),([true,true,true,true,true,false],[2,4,6,1,8,10,12]),([ff],[2])] :=
  ⟨by kernel_rfl,by kernel_rfl,by kernel_rfl,trivial⟩

theorem ok107_0_1_t (x1:(List (Int×(Int×Unit)))) (x2:Int) (x3:Int) (b0_0:(List Int)) (b0_1:(List Int)) (b1_0:Int) (b1_1:(List (Int×(Int×Unit)))):TrOk (BodyRuns Go.Proofs.Try.prog (kf110 Go.Proofs.Try.prog).orc 107 0 sh107_0_1 shb107_0_1 shr107_0_1 ((x1,x2,x3,()),(b0_0,b0_1,()),(b1_0,b1_1,()),())) (t107_0_1 x1 x2 x3 b0_0 b0_1 b1_0 b1_1) :=
  Walks.ok (fun _ _ _=>BodyRuns.of) (wk107_0_1 x1 x2 x3 b0_0 b0_1 b1_0 b1_1) (by kernel_rfl)

theorem ok107_0_1:LoopOk Go.Proofs.Try.prog 107 0 lc107_0_1:=loopOk_of (sh:=sh107_0_1) (shB:=shb107_0_1) (shR:=shr107_0_1) kf110_ok.base (T:=fun (d:sh107_0_1.data)=>t107_0_1 d.1.1 d.1.2.1 d.1.2.2.1 d.2.1.1 d.2.1.2.1 d.2.2.1.1 d.2.2.1.2.1) (by kernel_rfl) rfl (fun (d:sh107_0_1.data)=>ok107_0_1_t d.1.1 d.1.2.1 d.1.2.2.1 d.2.1.1 d.2.1.2.1 d.2.2.1.1 d.2.2.1.2.1) (fun _=>rfl)
def kl107_0_1 (P:Go.Program):Known:=(kf110 P).loop 107 0 lc107_0_1
theorem kl107_0_1_ok:KnownOk Go.Proofs.Try.prog (kl107_0_1 Go.Proofs.Try.prog):=kf110_ok.loop ok107_0_1

/-! (ductility/modal.frame).proofError -/

abbrev as102:List Ty:=[(.pair (.pair (.slice (.int .i64)) (.pair (.slice (.int .i64)) .unit)) .unit),(.pair (.int .i64) (.pair (.slice (.pair (.int .i64) (.pair (.int .i64) .unit))) .unit))]
abbrev rs102:List Ty:=[(.int .i64),(.int .i64)]

def t102 (x0_:(List Int)) (x0_':(List Int)) (x1:Int) (x1':(List (Int×(Int×Unit)))):Tr (Tys.data rs102) :=
  Tr.test (Option.isSome (l107_0_1 ((x1',((↑(List.length x1'):Int),((0:Int),()))),((x0_,(x0_',())),((x1,(x1',())),())))))
    (Tr.test (isRet (l107_0_1 ((x1',((↑(List.length x1'):Int),((0:Int),()))),((x0_,(x0_',())),((x1,(x1',())),())))))
      (let r0:=r107_0_1 ((x1',((↑(List.length x1'):Int),((0:Int),()))),((x0_,(x0_',())),((x1,(x1',())),())));
      Tr.fin ((r0.1.1,(r0.1.2.1,()))))
      (Tr.fin (((0:Int),((0:Int),())))))
    (Tr.stop)

def f102 (d:Tys.data as102):Option (Tys.data rs102):=(t102 d.1.1.1 d.1.1.2.1 d.2.1.1 d.2.1.2.1).val
def g102 (d:Tys.data as102):Tys.data rs102:=(f102 d).getD (Tys.dflt rs102)
def p102:PureC:=pcOf as102 rs102 f102 g102

theorem wk102 (x0_:(List Int)) (x0_':(List Int)) (x1:Int) (x1':(List (Int×(Int×Unit)))):Walks (runPure (kl107_0_1 Go.Proofs.Try.prog).orc Go.Proofs.Try.prog 400 102 as102 rs102 (((x0_,x0_',()),()),(x1,x1',()),())) (t102 x0_ x0_' x1 x1') [([true,true],[2,4]),([true,false],[2,4])] :=
  ⟨by kernel_rfl,by kernel_rfl,trivial⟩

theorem ok102_t (x0_:(List Int)) (x0_':(List Int)) (x1:Int) (x1':(List (Int×(Int×Unit)))):TrOk (PureRuns Go.Proofs.Try.prog (kl107_0_1 Go.Proofs.Try.prog).orc 102 as102 rs102 (((x0_,x0_',()),()),(x1,x1',()),())) (t102 x0_ x0_' x1 x1') :=
  Walks.ok (fun _ _ _=>PureRuns.of) (wk102 x0_ x0_' x1 x1') (by kernel_rfl)

theorem ok102:PureOk Go.Proofs.Try.prog 102 p102:=pureOk_of kl107_0_1_ok.base (T:=fun (d:Tys.data as102)=>t102 d.1.1.1 d.1.1.2.1 d.2.1.1 d.2.1.2.1) (by kernel_rfl) (fun (d:Tys.data as102)=>ok102_t d.1.1.1 d.1.1.2.1 d.2.1.1 d.2.1.2.1)
def kf102 (P:Go.Program):Known:=(kl107_0_1 P).func 102 p102
theorem kf102_ok:KnownOk Go.Proofs.Try.prog (kf102 Go.Proofs.Try.prog):=kl107_0_1_ok.func ok102

/-! loop 0 of (ductility/modal.frame).leftAt -/

abbrev sh76_0:Sh:={ n:=33,slots:=[1,3,5,7],pats:=[.ty (.int .i64),.ptr 0 2 0,.ptr 1 2 0,.ty (.int .i64)],boxes:=[.row [.ty (.slice (.int .i64)),.ty (.slice (.int .i64))],.row [.ty (.int .i64),.ty (.slice (.pair (.int .i64) (.pair (.int .i64) .unit)))]] }
abbrev shb76_0:Sh:={ n:=33,slots:=[7],pats:=[.ty (.int .i64)],boxes:=[.row [.ty (.slice (.int .i64)),.ty (.slice (.int .i64))],.row [.ty (.int .i64),.ty (.slice (.pair (.int .i64) (.pair (.int .i64) .unit)))]] }
abbrev shr76_0:Sh:={ n:=33,slots:=[],pats:=[],boxes:=[.row [.ty (.slice (.int .i64)),.ty (.slice (.int .i64))],.row [.ty (.int .i64),.ty (.slice (.pair (.int .i64) (.pair (.int .i64) .unit)))]] }

def t76_0 (x0:Int) (x3:Int) (b0_0:(List Int)) (b0_1:(List Int)) (b1_0:Int) (b1_1:(List (Int×(Int×Unit)))):Tr (Out sh76_0.data shb76_0.data shr76_0.data) :=
  Tr.test ((!leF x3 0:Bool))
    (Tr.test (Option.isSome (f51 (b0_1,())))
      (let r0:=g51 (b0_1,());
      Tr.test ((decide ((0:Int) ≤ x0) && decide (x0 < (↑(List.length r0.1):Int)):Bool))
        (Tr.stop)
        (Tr.stop))
      (Tr.stop))
    (Tr.fin (.brk ((x3,()),((b0_0,(b0_1,())),((b1_0,(b1_1,())),())))))

def s76_0 (d:sh76_0.data):Option (Out sh76_0.data shb76_0.data shr76_0.data):=(t76_0 d.1.1 d.1.2.1 d.2.1.1 d.2.1.2.1 d.2.2.1.1 d.2.2.1.2.1).val
def l76_0 (d:sh76_0.data):Option (shb76_0.data ⊕ shr76_0.data):=itr s76_0 rounds d
def b76_0 (d:sh76_0.data):shb76_0.data:=outB shb76_0.dflt (l76_0 d)
def lc76_0:LoopC:=lcB sh76_0 shb76_0 shr76_0 l76_0 b76_0

theorem wk76_0 (x0:Int) (x3:Int) (b0_0:(List Int)) (b0_1:(List Int)) (b1_0:Int) (b1_1:(List (Int×(Int×Unit)))):Walks (runBody (kf102 Go.Proofs.Try.prog).orc Go.Proofs.Try.prog 400 76 0 sh76_0 shb76_0 shr76_0 ((x0,x3,()),(b0_0,b0_1,()),(b1_0,b1_1,()),())) (t76_0 x0 x3 b0_0 b0_1 b1_0 b1_1) [([ff],[2])] :=
  ⟨by kernel_rfl,trivial⟩

theorem ok76_0_t (x0:Int) (x3:Int) (b0_0:(List Int)) (b0_1:(List Int)) (b1_0:Int) (b1_1:(List (Int×(Int×Unit)))):TrOk (BodyRuns Go.Proofs.Try.prog (kf102 Go.Proofs.Try.prog).orc 76 0 sh76_0 shb76_0 shr76_0 ((x0,x3,()),(b0_0,b0_1,()),(b1_0,b1_1,()),())) (t76_0 x0 x3 b0_0 b0_1 b1_0 b1_1) :=
  Walks.ok (fun _ _ _=>BodyRuns.of) (wk76_0 x0 x3 b0_0 b0_1 b1_0 b1_1) (by kernel_rfl)

theorem ok76_0:LoopOk Go.Proofs.Try.prog 76 0 lc76_0:=loopOk_ofB (sh:=sh76_0) (shB:=shb76_0) (shR:=shr76_0) kf102_ok.base (T:=fun (d:sh76_0.data)=>t76_0 d.1.1 d.1.2.1 d.2.1.1 d.2.1.2.1 d.2.2.1.1 d.2.2.1.2.1) (by kernel_rfl) rfl (fun (d:sh76_0.data)=>ok76_0_t d.1.1 d.1.2.1 d.2.1.1 d.2.1.2.1 d.2.2.1.1 d.2.2.1.2.1) (fun _=>rfl)
def kl76_0 (P:Go.Program):Known:=(kf102 P).loop 76 0 lc76_0
theorem kl76_0_ok:KnownOk Go.Proofs.Try.prog (kl76_0 Go.Proofs.Try.prog):=kf102_ok.loop ok76_0

/-! (ductility/modal.frame).leftAt -/

abbrev as76:List Ty:=[(.pair (.pair (.slice (.int .i64)) (.pair (.slice (.int .i64)) .unit)) .unit),(.int .i64),(.pair (.int .i64) (.pair (.slice (.pair (.int .i64) (.pair (.int .i64) .unit))) .unit))]
abbrev rs76:List Ty:=[(.int .i64)]

def t76 (x0_:(List Int)) (x0_':(List Int)) (x1:Int) (x2:Int) (x2':(List (Int×(Int×Unit)))):Tr (Tys.data rs76) :=
  Tr.test ((decide ((0:Int) ≤ x1) && decide (x1 < (↑(List.length x0_'):Int)):Bool))
    (Tr.test (isBrk (l76_0 ((x1,((List.getD x0_' (Int.toNat x1) (0:Int):Int),())),((x0_,(x0_',())),((x2,(x2',())),())))))
      (let r0:=b76_0 ((x1,((List.getD x0_' (Int.toNat x1) (0:Int):Int),())),((x0_,(x0_',())),((x2,(x2',())),())));
      Tr.fin ((r0.1.1,())))
      (Tr.stop))
    (Tr.stop)

def f76 (d:Tys.data as76):Option (Tys.data rs76):=(t76 d.1.1.1 d.1.1.2.1 d.2.1 d.2.2.1.1 d.2.2.1.2.1).val
def g76 (d:Tys.data as76):Tys.data rs76:=(f76 d).getD (Tys.dflt rs76)
def p76:PureC:=pcOf as76 rs76 f76 g76

theorem wk76 (x0_:(List Int)) (x0_':(List Int)) (x1:Int) (x2:Int) (x2':(List (Int×(Int×Unit)))):Walks (runPure (kl76_0 Go.Proofs.Try.prog).orc Go.Proofs.Try.prog 400 76 as76 rs76 (((x0_,x0_',()),()),x1,(x2,x2',()),())) (t76 x0_ x0_' x1 x2 x2') [([true,true],[1,2,4])] :=
  ⟨by kernel_rfl,trivial⟩

theorem ok76_t (x0_:(List Int)) (x0_':(List Int)) (x1:Int) (x2:Int) (x2':(List (Int×(Int×Unit)))):TrOk (PureRuns Go.Proofs.Try.prog (kl76_0 Go.Proofs.Try.prog).orc 76 as76 rs76 (((x0_,x0_',()),()),x1,(x2,x2',()),())) (t76 x0_ x0_' x1 x2 x2') :=
  Walks.ok (fun _ _ _=>PureRuns.of) (wk76 x0_ x0_' x1 x2 x2') (by kernel_rfl)

theorem ok76:PureOk Go.Proofs.Try.prog 76 p76:=pureOk_of kl76_0_ok.base (T:=fun (d:Tys.data as76)=>t76 d.1.1.1 d.1.1.2.1 d.2.1 d.2.2.1.1 d.2.2.1.2.1) (by kernel_rfl) (fun (d:Tys.data as76)=>ok76_t d.1.1.1 d.1.1.2.1 d.2.1 d.2.2.1.1 d.2.2.1.2.1)
def kf76 (P:Go.Program):Known:=(kl76_0 P).func 76 p76
theorem kf76_ok:KnownOk Go.Proofs.Try.prog (kf76 Go.Proofs.Try.prog):=kl76_0_ok.func ok76

/-! loop 0 of ductility/modal.ExplainedBy -/

abbrev sh43_0:Sh:={ n:=61,slots:=[2,3,4,6,8,28,29,30],pats:=[.ptr 0 2 0,.ptr 1 2 0,.ptr 2 2 0,.ptr 3 2 0,.ptr 4 2 0,.ty (.slice (.int .i64)),.ty (.int .i64),.ty (.int .i64)],boxes:=[.row [.ty (.slice (.int .i64)),.ty (.slice (.int .i64))],.row [.ty (.int .i64),.ty (.slice (.pair (.int .i64) (.pair (.int .i64) .unit)))],.row [.ty (.int .i64),.ty (.int .i64)],.row [.ty (.slice (.int .i64)),.ty (.slice (.int .i64))],.row [.ty (.int .i64),.ty (.int .i64)]] }
abbrev shb43_0:Sh:={ n:=61,slots:=[4,8],pats:=[.ptr 2 2 0,.ptr 4 2 0],boxes:=[.row [.ty (.slice (.int .i64)),.ty (.slice (.int .i64))],.row [.ty (.int .i64),.ty (.slice (.pair (.int .i64) (.pair (.int .i64) .unit)))],.row [.ty (.int .i64),.ty (.int .i64)],.row [.ty (.slice (.int .i64)),.ty (.slice (.int .i64))],.row [.ty (.int .i64),.ty (.int .i64)]] }
abbrev shr43_0:Sh:={ n:=61,slots:=[],pats:=[],boxes:=[.row [.ty (.slice (.int .i64)),.ty (.slice (.int .i64))],.row [.ty (.int .i64),.ty (.slice (.pair (.int .i64) (.pair (.int .i64) .unit)))],.row [.ty (.int .i64),.ty (.int .i64)],.row [.ty (.slice (.int .i64)),.ty (.slice (.int .i64))],.row [.ty (.int .i64),.ty (.int .i64)]] }

def t43_0 (x5:(List Int)) (x6:Int) (x7:Int) (b0_0:(List Int)) (b0_1:(List Int)) (b1_0:Int) (b1_1:(List (Int×(Int×Unit)))) (b2_0:Int) (b2_1:Int) (b3_0:(List Int)) (b3_1:(List Int)) (b4_0:Int) (b4_1:Int):Tr (Out sh43_0.data shb43_0.data shr43_0.data) :=
  Tr.test ((!leF x6 x7:Bool))
    (Tr.test (decide ((0:Int) ≤ x7) && decide (x7 < (↑(List.length x5):Int)))
      (Tr.test (Option.isSome (f76 (((b3_0,(b3_1,())),()),(x7,((b1_0,(b1_1,())),())))))
        (Tr.test ((decide ((0:Int) ≤ b4_0) && decide (b4_0 < (↑(List.length b0_1):Int)):Bool))
          (let r0:=g76 (((b3_0,(b3_1,())),()),(x7,((b1_0,(b1_1,())),())));
          Tr.test ((!leF (wrap64 (r0.1 * List.getD b0_1 (Int.toNat b4_0) (0:Int))) (wrap64 (b4_1 * List.getD x5 (Int.toNat x7) (0:Int))):Bool))
            (Tr.fin (.again ((x5,(x6,((wrap64 (x7 + (1:Int)):Int),()))),((b0_0,(b0_1,())),((b1_0,(b1_1,())),((b2_0,(b2_1,())),((b3_0,(b3_1,())),((x7,(r0.1,())),()))))))))
            (Tr.fin (.again ((x5,(x6,((wrap64 (x7 + (1:Int)):Int),()))),((b0_0,(b0_1,())),((b1_0,(b1_1,())),((b2_0,(b2_1,())),((b3_0,(b3_1,())),((b4_0,(b4_1,())),())))))))))
          (Tr.stop))
        (Tr.stop))
      (Tr.stop))
    (Tr.fin (.brk ((),((b0_0,(b0_1,())),((b1_0,(b1_1,())),((b2_0,(b2_1,())),((b3_0,(b3_1,())),((b4_0,(b4_1,())),()))))))))

def s43_0 (d:sh43_0.data):Option (Out sh43_0.data shb43_0.data shr43_0.data):=(t43_0 d.1.1 d.1.2.1 d.1.2.2.1 d.2.1.1 d.2.1.2.1 d.2.2.1.1 d.2.2.1.2.1 d.2.2.2.1.1 d.2.2.2.1.2.1 d.2.2.2.2.1.1 d.2.2.2.2.1.2.1 d.2.2.2.2.2.1.1 d.2.2.2.2.2.1.2.1).val
def l43_0 (d:sh43_0.data):Option (shb43_0.data ⊕ shr43_0.data):=itr s43_0 rounds d
def b43_0 (d:sh43_0.data):shb43_0.data:=outB shb43_0.dflt (l43_0 d)
def lc43_0:LoopC:=lcB sh43_0 shb43_0 shr43_0 l43_0 b43_0

theorem wk43_0 (x5:(List Int)) (x6:Int) (x7:Int) (b0_0:(List Int)) (b0_1:(List Int)) (b1_0:Int) (b1_1:(List (Int×(Int×Unit)))) (b2_0:Int) (b2_1:Int) (b3_0:(List Int)) (b3_1:(List Int)) (b4_0:Int) (b4_1:Int):Walks (runBody (kf76 Go.Proofs.Try.prog).orc Go.Proofs.Try.prog 400 43 0 sh43_0 shb43_0 shr43_0 ((x5,x6,x7,()),(b0_0,b0_1,()),(b1_0,b1_1,()),(b2_0,b2_1,()),(b3_0,b3_1,()),(b4_0,b4_1,()),())) (t43_0 x5 x6 x7 b0_0 b0_1 b1_0 b1_1 b2_0 b2_1 b3_0 b3_1 b4_0 b4_1) [([true,true,true,true,true],[2,4,6,8,10]),([true,true,true,true,false],[2,4,6,8,10]),([ff],[2])] :=
  ⟨by kernel_rfl,by kernel_rfl,by kernel_rfl,trivial⟩

theorem ok43_0_t (x5:(List Int)) (x6:Int) (x7:Int) (b0_0:(List Int)) (b0_1:(List Int)) (b1_0:Int) (b1_1:(List (Int×(Int×Unit)))) (b2_0:Int) (b2_1:Int) (b3_0:(List Int)) (b3_1:(List Int)) (b4_0:Int) (b4_1:Int):TrOk (BodyRuns Go.Proofs.Try.prog (kf76 Go.Proofs.Try.prog).orc 43 0 sh43_0 shb43_0 shr43_0 ((x5,x6,x7,()),(b0_0,b0_1,()),(b1_0,b1_1,()),(b2_0,b2_1,()),(b3_0,b3_1,()),(b4_0,b4_1,()),())) (t43_0 x5 x6 x7 b0_0 b0_1 b1_0 b1_1 b2_0 b2_1 b3_0 b3_1 b4_0 b4_1) :=
  Walks.ok (fun _ _ _=>BodyRuns.of) (wk43_0 x5 x6 x7 b0_0 b0_1 b1_0 b1_1 b2_0 b2_1 b3_0 b3_1 b4_0 b4_1) (by kernel_rfl)

theorem ok43_0:LoopOk Go.Proofs.Try.prog 43 0 lc43_0:=loopOk_ofB (sh:=sh43_0) (shB:=shb43_0) (shR:=shr43_0) kf76_ok.base (T:=fun (d:sh43_0.data)=>t43_0 d.1.1 d.1.2.1 d.1.2.2.1 d.2.1.1 d.2.1.2.1 d.2.2.1.1 d.2.2.1.2.1 d.2.2.2.1.1 d.2.2.2.1.2.1 d.2.2.2.2.1.1 d.2.2.2.2.1.2.1 d.2.2.2.2.2.1.1 d.2.2.2.2.2.1.2.1) (by kernel_rfl) rfl (fun (d:sh43_0.data)=>ok43_0_t d.1.1 d.1.2.1 d.1.2.2.1 d.2.1.1 d.2.1.2.1 d.2.2.1.1 d.2.2.1.2.1 d.2.2.2.1.1 d.2.2.2.1.2.1 d.2.2.2.2.1.1 d.2.2.2.2.1.2.1 d.2.2.2.2.2.1.1 d.2.2.2.2.2.1.2.1) (fun _=>rfl)
def kl43_0 (P:Go.Program):Known:=(kf76 P).loop 43 0 lc43_0
theorem kl43_0_ok:KnownOk Go.Proofs.Try.prog (kl43_0 Go.Proofs.Try.prog):=kf76_ok.loop ok43_0

/-! ductility/modal.ExplainedBy -/

abbrev as43:List Ty:=[(.pair (.slice (.int .i64)) (.pair (.slice (.int .i64)) .unit)),(.pair (.int .i64) (.pair (.slice (.pair (.int .i64) (.pair (.int .i64) .unit))) .unit))]
abbrev rs43:List Ty:=[(.pair (.int .i64) (.pair (.int .i64) .unit)),(.int .i64)]

def t43 (x0:(List Int)) (x0':(List Int)) (x1:Int) (x1':(List (Int×(Int×Unit)))):Tr (Tys.data rs43) :=
  Tr.test (Option.isSome (f75 ((x1,(x1',())),((↑(List.length x0):Int),()))))
    (Tr.test (Option.isSome (f9 ((x0,(x0',())),())))
      (let r0:=g75 ((x1,(x1',())),((↑(List.length x0):Int),()));
      Tr.test (Option.isSome (f44 (([r0.1]:List Int),())))
        (let r1:=g9 ((x0,(x0',())),());
        let r2:=g44 (([r0.1]:List Int),());
        Tr.test (Option.isSome (f44 (([r1.2.1,r2.1]:List Int),())))
          (let r3:=g44 (([r1.2.1,r2.1]:List Int),());
          Tr.test ((!eqF r3.1 0:Bool))
            (Tr.fin ((((0:Int),((0:Int),())),(r3.1,()))))
            (Tr.test (isBrk (l43_0 ((x0',((↑(List.length x0'):Int),((0:Int),()))),((x0,(x0',())),((x1,(x1',())),(((0:Int),((0:Int),())),((x0,(x0',())),(((0:Int),((0:Int),())),()))))))))
              (let r4:=b43_0 ((x0',((↑(List.length x0'):Int),((0:Int),()))),((x0,(x0',())),((x1,(x1',())),(((0:Int),((0:Int),())),((x0,(x0',())),(((0:Int),((0:Int),())),()))))));
              Tr.test (Option.isSome (f45 ((eqF r4.2.2.2.2.2.1.2.1 0:Bool),((12:Int),()))))
                (let r5:=g45 ((eqF r4.2.2.2.2.2.1.2.1 0:Bool),((12:Int),()));
                Tr.fin (((r4.2.2.2.2.2.1.1,(r4.2.2.2.2.2.1.2.1,())),(r5.1,()))))
                (Tr.stop))
              (Tr.stop)))
          (Tr.stop))
        (Tr.stop))
      (Tr.stop))
    (Tr.stop)

def f43 (d:Tys.data as43):Option (Tys.data rs43):=(t43 d.1.1 d.1.2.1 d.2.1.1 d.2.1.2.1).val
def g43 (d:Tys.data as43):Tys.data rs43:=(f43 d).getD (Tys.dflt rs43)
def p43:PureC:=pcOf as43 rs43 f43 g43

theorem wk43 (x0:(List Int)) (x0':(List Int)) (x1:Int) (x1':(List (Int×(Int×Unit)))):Walks (runPure (kl43_0 Go.Proofs.Try.prog).orc Go.Proofs.Try.prog 400 43 as43 rs43 ((x0,x0',()),(x1,x1',()),())) (t43 x0 x0' x1 x1') [([true,true,true,true,true],[2,2,4,1,6,1,8,10]),([true,true,true,true,false,true,true],[2,1,4,0,6,8,1,10,1,12,14])] :=
  ⟨by kernel_rfl,by kernel_rfl,trivial⟩

theorem ok43_t (x0:(List Int)) (x0':(List Int)) (x1:Int) (x1':(List (Int×(Int×Unit)))):TrOk (PureRuns Go.Proofs.Try.prog (kl43_0 Go.Proofs.Try.prog).orc 43 as43 rs43 ((x0,x0',()),(x1,x1',()),())) (t43 x0 x0' x1 x1') :=
  Walks.ok (fun _ _ _=>PureRuns.of) (wk43 x0 x0' x1 x1') (by kernel_rfl)

theorem ok43:PureOk Go.Proofs.Try.prog 43 p43:=pureOk_of kl43_0_ok.base (T:=fun (d:Tys.data as43)=>t43 d.1.1 d.1.2.1 d.2.1.1 d.2.1.2.1) (by kernel_rfl) (fun (d:Tys.data as43)=>ok43_t d.1.1 d.1.2.1 d.2.1.1 d.2.1.2.1)
def kf43 (P:Go.Program):Known:=(kl43_0 P).func 43 p43
theorem kf43_ok:KnownOk Go.Proofs.Try.prog (kf43 Go.Proofs.Try.prog):=kl43_0_ok.func ok43

/-! loop 0 of ductility/ductilitybase.Ints -/

abbrev sh14_0:Sh:={ n:=26,slots:=[0,1,5],pats:=[.ty (.slice (.int .i64)),.ty (.slice (.int .i64)),.ty (.int .i64)],boxes:=[] }
abbrev shb14_0:Sh:={ n:=26,slots:=[],pats:=[],boxes:=[] }
abbrev shr14_0:Sh:={ n:=26,slots:=[4],pats:=[.ty .bool],boxes:=[] }

def t14_0 (x0:(List Int)) (x1:(List Int)) (x2:Int):Tr (Out sh14_0.data shb14_0.data shr14_0.data) :=
  Tr.test ((!leF (↑(List.length x0):Int) x2:Bool))
    (Tr.test (decide ((0:Int) ≤ x2) && decide (x2 < (↑(List.length x0):Int)))
      (Tr.test ((decide ((0:Int) ≤ x2) && decide (x2 < (↑(List.length x1):Int)):Bool))
        (Tr.test ((!eqF (List.getD x0 (Int.toNat x2) (0:Int)) (List.getD x1 (Int.toNat x2) (0:Int)):Bool))
          (Tr.fin (.ret (((false:Bool),()),())))
          (Tr.fin (.again ((x0,(x1,((wrap64 (x2 + (1:Int)):Int),()))),()))))
        (Tr.stop))
      (Tr.stop))
    (Tr.fin (.brk ((),())))

def s14_0 (d:sh14_0.data):Option (Out sh14_0.data shb14_0.data shr14_0.data):=(t14_0 d.1.1 d.1.2.1 d.1.2.2.1).val
def l14_0 (d:sh14_0.data):Option (shb14_0.data ⊕ shr14_0.data):=itr s14_0 rounds d
def b14_0 (d:sh14_0.data):shb14_0.data:=outB shb14_0.dflt (l14_0 d)
def r14_0 (d:sh14_0.data):shr14_0.data:=outR shr14_0.dflt (l14_0 d)
def lc14_0:LoopC:=lcOf sh14_0 shb14_0 shr14_0 l14_0 b14_0 r14_0

theorem wk14_0 (x0:(List Int)) (x1:(List Int)) (x2:Int):Walks (runBody (kf43 Go.Proofs.Try.prog).orc Go.Proofs.Try.prog 400 14 0 sh14_0 shb14_0 shr14_0 ((x0,x1,x2,()),())) (t14_0 x0 x1 x2) [([true,true,true,true],[2,4,6,8]),([true,true,true,false],[2,4,6,8]),([ff],[2])] :=
  ⟨by kernel_rfl,by kernel_rfl,by kernel_rfl,trivial⟩

theorem ok14_0_t (x0:(List Int)) (x1:(List Int)) (x2:Int):TrOk (BodyRuns Go.Proofs.Try.prog (kf43 Go.Proofs.Try.prog).orc 14 0 sh14_0 shb14_0 shr14_0 ((x0,x1,x2,()),())) (t14_0 x0 x1 x2) :=
  Walks.ok (fun _ _ _=>BodyRuns.of) (wk14_0 x0 x1 x2) (by kernel_rfl)

theorem ok14_0:LoopOk Go.Proofs.Try.prog 14 0 lc14_0:=loopOk_of (sh:=sh14_0) (shB:=shb14_0) (shR:=shr14_0) kf43_ok.base (T:=fun (d:sh14_0.data)=>t14_0 d.1.1 d.1.2.1 d.1.2.2.1) (by kernel_rfl) rfl (fun (d:sh14_0.data)=>ok14_0_t d.1.1 d.1.2.1 d.1.2.2.1) (fun _=>rfl)
def kl14_0 (P:Go.Program):Known:=(kf43 P).loop 14 0 lc14_0
theorem kl14_0_ok:KnownOk Go.Proofs.Try.prog (kl14_0 Go.Proofs.Try.prog):=kf43_ok.loop ok14_0

/-! ductility/ductilitybase.Ints -/

abbrev as14:List Ty:=[(.slice (.int .i64)),(.slice (.int .i64))]
abbrev rs14:List Ty:=[.bool]

def t14 (x0:(List Int)) (x1:(List Int)):Tr (Tys.data rs14) :=
  Tr.test ((!eqF (↑(List.length x0):Int) (↑(List.length x1):Int):Bool))
    (Tr.fin ((false,())))
    (Tr.test (Option.isSome (l14_0 ((x0,(x1,((0:Int),()))),())))
      (Tr.test (isRet (l14_0 ((x0,(x1,((0:Int),()))),())))
        (let r0:=r14_0 ((x0,(x1,((0:Int),()))),());
        Tr.fin ((r0.1.1,())))
        (Tr.fin (((true:Bool),()))))
      (Tr.stop))

def f14 (d:Tys.data as14):Option (Tys.data rs14):=(t14 d.1 d.2.1).val
def g14 (d:Tys.data as14):Tys.data rs14:=(f14 d).getD (Tys.dflt rs14)
def p14:PureC:=pcOf as14 rs14 f14 g14

theorem wk14 (x0:(List Int)) (x1:(List Int)):Walks (runPure (kl14_0 Go.Proofs.Try.prog).orc Go.Proofs.Try.prog 400 14 as14 rs14 (x0,x1,())) (t14 x0 x1) [([tt],[2]),([false,true,true],[2,4,6]),([false,true,false],[2,4,6])] :=
  ⟨by kernel_rfl,by kernel_rfl,by kernel_rfl,trivial⟩

theorem ok14_t (x0:(List Int)) (x1:(List Int)):TrOk (PureRuns Go.Proofs.Try.prog (kl14_0 Go.Proofs.Try.prog).orc 14 as14 rs14 (x0,x1,())) (t14 x0 x1) :=
  Walks.ok (fun _ _ _=>PureRuns.of) (wk14 x0 x1) (by kernel_rfl)

theorem ok14:PureOk Go.Proofs.Try.prog 14 p14:=pureOk_of kl14_0_ok.base (T:=fun (d:Tys.data as14)=>t14 d.1 d.2.1) (by kernel_rfl) (fun (d:Tys.data as14)=>ok14_t d.1 d.2.1)
def kf14 (P:Go.Program):Known:=(kl14_0 P).func 14 p14
theorem kf14_ok:KnownOk Go.Proofs.Try.prog (kf14 Go.Proofs.Try.prog):=kl14_0_ok.func ok14

/-! ductility/ductilitylaw06.awake -/

abbrev as7:List Ty:=[]
abbrev rs7:List Ty:=[.bool]
def f7 (_:Tys.data as7):Option (Tys.data rs7):=some (true,())
def g7 (_:Tys.data as7):Tys.data rs7:=(true,())
def p7:PureC:=pcOf as7 rs7 f7 g7

def kz (P:Go.Program):Known:=(((((((((((((((((((((((((kf79 P).func 56 p56).func 89 p89).func 63 p63).func 65 p65).func 66 p66).func 60 p60).func 61 p61).func 85 p85).func 57 p57).func 19 p19).func 42 p42).func 99 p99).func 88 p88).func 73 p73).func 74 p74).func 80 p80).func 53 p53).func 41 p41).func 100 p100).func 75 p75).func 110 p110).func 102 p102).func 43 p43).func 14 p14)
theorem kz_ok:KnownOk Go.Proofs.Try.prog (kz Go.Proofs.Try.prog):=((((((((((((((((((((((((kf79_ok.func ok56).func ok89).func ok63).func ok65).func ok66).func ok60).func ok61).func ok85).func ok57).func ok19).func ok42).func ok99).func ok88).func ok73).func ok74).func ok80).func ok53).func ok41).func ok100).func ok75).func ok110).func ok102).func ok43).func ok14)

theorem e7:runAsk (kz Go.Proofs.Try.prog).orc Go.Proofs.Try.prog 400 7 as7 rs7 () none = some ((true,()),[]):=by kernel_rfl
theorem ok7:PureOk Go.Proofs.Try.prog 7 p7:=pureOk_closed kz_ok.base (by kernel_rfl) e7 All.nil
def kf7 (P:Go.Program):Known:=(kf14 P).func 7 p7
theorem kf7_ok:KnownOk Go.Proofs.Try.prog (kf7 Go.Proofs.Try.prog):=kf14_ok.func ok7

/-! ductility/ductilitybase.Within -/

abbrev as18:List Ty:=[(.int .i64),(.int .i64),(.int .i64)]
abbrev rs18:List Ty:=[.bool]

def t18 (x0:Int) (x1:Int) (x2:Int):Tr (Tys.data rs18) :=
  Tr.test ((leF x1 x0:Bool))
    (Tr.fin ((leF x0 x2,())))
    (Tr.fin ((false,())))

def f18 (d:Tys.data as18):Option (Tys.data rs18):=(t18 d.1 d.2.1 d.2.2.1).val
def g18 (d:Tys.data as18):Tys.data rs18:=(f18 d).getD (Tys.dflt rs18)
def p18:PureC:=pcOf as18 rs18 f18 g18

theorem wk18 (x0:Int) (x1:Int) (x2:Int):Walks (runPure (kf7 Go.Proofs.Try.prog).orc Go.Proofs.Try.prog 400 18 as18 rs18 (x0,x1,x2,())) (t18 x0 x1 x2) [([tt],[2,2,2,2]),([ff],[2,2,2,2])] :=
  ⟨by kernel_rfl,by kernel_rfl,trivial⟩

theorem ok18_t (x0:Int) (x1:Int) (x2:Int):TrOk (PureRuns Go.Proofs.Try.prog (kf7 Go.Proofs.Try.prog).orc 18 as18 rs18 (x0,x1,x2,())) (t18 x0 x1 x2) :=
  Walks.ok (fun _ _ _=>PureRuns.of) (wk18 x0 x1 x2) (by kernel_rfl)

theorem ok18:PureOk Go.Proofs.Try.prog 18 p18:=pureOk_of kf7_ok.base (T:=fun (d:Tys.data as18)=>t18 d.1 d.2.1 d.2.2.1) (by kernel_rfl) (fun (d:Tys.data as18)=>ok18_t d.1 d.2.1 d.2.2.1)
def kf18 (P:Go.Program):Known:=(kf7 P).func 18 p18
theorem kf18_ok:KnownOk Go.Proofs.Try.prog (kf18 Go.Proofs.Try.prog):=kf7_ok.func ok18

end Go.Vm.Mo
