import Derived.Test.YtklljhgfniodaaaA4
import Derived.KernelRfl
import Derived.Test.YtklljhgfniodaaaProg
import Derived.Test.YtklljhgfniodaaaRsFb
set_option linter.unusedVariables false
set_option linter.unusedSimpArgs false

namespace Go.Vm.Mo
open Go
set_option linter.unusedVariables false

/-! loop 0 of ductility/ductilitybase.trimmed -/

abbrev sh113_0:Sh:={ n:=21,slots:=[0,3],pats:=[.ty (.slice (.int .i64)),.ty (.int .i64)],boxes:=[] }
abbrev shb113_0:Sh:={ n:=21,slots:=[0,3],pats:=[.ty (.slice (.int .i64)),.ty (.int .i64)],boxes:=[] }
abbrev shr113_0:Sh:={ n:=21,slots:=[],pats:=[],boxes:=[] }

def t113_0 (x0:(List Int)) (x1:Int):Tr (Out sh113_0.data shb113_0.data shr113_0.data) :=
  Tr.test ((!leF x1 0:Bool))
    (Tr.test (decide ((0:Int) ≤ wrap64 (x1 - (1:Int))) && decide (wrap64 (x1 - (1:Int)) < (↑(List.length x0):Int)))
      (Tr.test ((eqF (List.getD x0 (Int.toNat (wrap64 (x1 - (1:Int)))) (0:Int)) (0:Int):Bool))
        (Tr.fin (.again ((x0,((wrap64 (x1 - (1:Int)):Int),())),())))
        (Tr.fin (.brk ((x0,(x1,())),()))))
      (Tr.stop))
    (Tr.fin (.brk ((x0,(x1,())),())))

def s113_0 (d:sh113_0.data):Option (Out sh113_0.data shb113_0.data shr113_0.data):=(t113_0 d.1.1 d.1.2.1).val
def l113_0 (d:sh113_0.data):Option (shb113_0.data ⊕ shr113_0.data):=itr s113_0 rounds d
def b113_0 (d:sh113_0.data):shb113_0.data:=outB shb113_0.dflt (l113_0 d)
def lc113_0:LoopC:=lcB sh113_0 shb113_0 shr113_0 l113_0 b113_0

theorem wk113_0 (x0:(List Int)) (x1:Int):Walks (runBody (kf94 Go.Proofs.Try.prog).orc Go.Proofs.Try.prog 400 113 0 sh113_0 shb113_0 shr113_0 ((x0,x1,()),())) (t113_0 x0 x1) [([true,true,true],[2,6,6,6,4,6,6,6,6]),([true,true,false],[2,6,6,6,4,6,6,6,6]),([ff],[0,2,2,2,2,2,2,2])] :=
  ⟨by kernel_rfl,by kernel_rfl,by kernel_rfl,trivial⟩

theorem ok113_0_t (x0:(List Int)) (x1:Int):TrOk (BodyRuns Go.Proofs.Try.prog (kf94 Go.Proofs.Try.prog).orc 113 0 sh113_0 shb113_0 shr113_0 ((x0,x1,()),())) (t113_0 x0 x1) :=
  Walks.ok (fun _ _ _=>BodyRuns.of) (wk113_0 x0 x1) (by kernel_rfl)

theorem ok113_0:LoopOk Go.Proofs.Try.prog 113 0 lc113_0:=loopOk_ofB (sh:=sh113_0) (shB:=shb113_0) (shR:=shr113_0) kf94_ok.base (T:=fun (d:sh113_0.data)=>t113_0 d.1.1 d.1.2.1) (by kernel_rfl) rfl (fun (d:sh113_0.data)=>ok113_0_t d.1.1 d.1.2.1) (fun _=>rfl)
def kl113_0 (P:Go.Program):Known:=(kf94 P).loop 113 0 lc113_0
theorem kl113_0_ok:KnownOk Go.Proofs.Try.prog (kl113_0 Go.Proofs.Try.prog):=kf94_ok.loop ok113_0

/-! ductility/ductilitybase.trimmed -/

abbrev as113:List Ty:=[(.slice (.int .i64))]
abbrev rs113:List Ty:=[(.slice (.int .i64))]

def t113 (x0:(List Int)):Tr (Tys.data rs113) :=
  Tr.test (isBrk (l113_0 ((x0,((↑(List.length x0):Int),())),())))
    (let r0:=b113_0 ((x0,((↑(List.length x0):Int),())),());
    Tr.test ((decide ((0:Int) ≤ r0.1.2.1) && decide (r0.1.2.1 ≤ (↑(List.length r0.1.1):Int)):Bool))
      (Tr.fin (((List.take (Int.toNat r0.1.2.1) r0.1.1:List Int),())))
      (Tr.stop))
    (Tr.stop)

def f113 (d:Tys.data as113):Option (Tys.data rs113):=(t113 d.1).val
def g113 (d:Tys.data as113):Tys.data rs113:=(f113 d).getD (Tys.dflt rs113)
def p113:PureC:=pcOf as113 rs113 f113 g113

theorem wk113 (x0:(List Int)):Walks (runPure (kl113_0 Go.Proofs.Try.prog).orc Go.Proofs.Try.prog 400 113 as113 rs113 (x0,())) (t113 x0) [([true,true],[2,1,4])] :=
  ⟨by kernel_rfl,trivial⟩

theorem ok113_t (x0:(List Int)):TrOk (PureRuns Go.Proofs.Try.prog (kl113_0 Go.Proofs.Try.prog).orc 113 as113 rs113 (x0,())) (t113 x0) :=
  Walks.ok (fun _ _ _=>PureRuns.of) (wk113 x0) (by kernel_rfl)

theorem ok113:PureOk Go.Proofs.Try.prog 113 p113:=pureOk_of kl113_0_ok.base (T:=fun (d:Tys.data as113)=>t113 d.1) (by kernel_rfl) (fun (d:Tys.data as113)=>ok113_t d.1)
def kf113 (P:Go.Program):Known:=(kl113_0 P).func 113 p113
theorem kf113_ok:KnownOk Go.Proofs.Try.prog (kf113 Go.Proofs.Try.prog):=kl113_0_ok.func ok113

/-! ductility/ductilitybase.wideOf -/

abbrev as95:List Ty:=[(.int .i64),(.slice (.int .i64))]
abbrev rs95:List Ty:=[(.pair (.int .i64) (.pair (.slice (.int .i64)) .unit))]

def t95 (x0:Int) (x1:(List Int)):Tr (Tys.data rs95) :=
  Tr.test (Option.isSome (f113 (x1,())))
    (let r0:=g113 (x1,());
    Tr.test ((eqF (↑(List.length r0.1):Int) (0:Int):Bool))
      (Tr.fin ((((0:Int),(r0.1,())),())))
      (Tr.fin (((x0,(r0.1,())),()))))
    (Tr.stop)

def f95 (d:Tys.data as95):Option (Tys.data rs95):=(t95 d.1 d.2.1).val
def g95 (d:Tys.data as95):Tys.data rs95:=(f95 d).getD (Tys.dflt rs95)
def p95:PureC:=pcOf as95 rs95 f95 g95

theorem wk95 (x0:Int) (x1:(List Int)):Walks (runPure (kf113 Go.Proofs.Try.prog).orc Go.Proofs.Try.prog 400 95 as95 rs95 (x0,x1,())) (t95 x0 x1) [([true,true],[2,4]),([true,false],[2,4])] :=
  ⟨by kernel_rfl,by kernel_rfl,trivial⟩

theorem ok95_t (x0:Int) (x1:(List Int)):TrOk (PureRuns Go.Proofs.Try.prog (kf113 Go.Proofs.Try.prog).orc 95 as95 rs95 (x0,x1,())) (t95 x0 x1) :=
  Walks.ok (fun _ _ _=>PureRuns.of) (wk95 x0 x1) (by kernel_rfl)

theorem ok95:PureOk Go.Proofs.Try.prog 95 p95:=pureOk_of kf113_ok.base (T:=fun (d:Tys.data as95)=>t95 d.1 d.2.1) (by kernel_rfl) (fun (d:Tys.data as95)=>ok95_t d.1 d.2.1)
def kf95 (P:Go.Program):Known:=(kf113 P).func 95 p95
theorem kf95_ok:KnownOk Go.Proofs.Try.prog (kf95 Go.Proofs.Try.prog):=kf113_ok.func ok95

/-! loop 0 of ductility/ductilitybase.WideOf -/

abbrev sh61_0:Sh:={ n:=20,slots:=[0,2,3,4],pats:=[.ty (.int .i64),.ptr 0 2 0,.ty (.int .i64),.acc (.int .i64)],boxes:=[.row [.ty (.int .i64),.nil]] }
abbrev shb61_0:Sh:={ n:=20,slots:=[2,3,4],pats:=[.ptr 0 2 0,.ty (.int .i64),.acc (.int .i64)],boxes:=[.row [.ty (.int .i64),.nil]] }
abbrev shr61_0:Sh:={ n:=20,slots:=[],pats:=[],boxes:=[.row [.ty (.int .i64),.nil]] }

def t61_0 (x0:Int) (x2:Int) (x3:(List Int)) (b0_0:Int):Tr (Out sh61_0.data shb61_0.data shr61_0.data) :=
  Tr.test ((!eqF x0 0:Bool))
    (Tr.test (Option.isSome (f94 ((Int.tmod x0 (1000000000:Int):Int),())))
      (Tr.test ((Nat.ble (((2:Nat) * (List.length x3 + (1:Nat)) + (192:Nat)) * (8:Nat)) (281474976710656:Nat) && Nat.ble (List.length x3 + (1:Nat)) (281474976710656:Nat):Bool))
        (let r0:=g94 ((Int.tmod x0 (1000000000:Int):Int),());
        Tr.fin (.again (((Go.IntKind.wrap Go.IntKind.i64 (Int.tdiv x0 (1000000000:Int)):Int),(x2,((x3++[r0.1]:List Int),()))),((b0_0,()),()))))
        (Tr.stop))
      (Tr.stop))
    (Tr.fin (.brk ((x2,(x3,())),((b0_0,()),()))))

def s61_0 (d:sh61_0.data):Option (Out sh61_0.data shb61_0.data shr61_0.data):=(t61_0 d.1.1 d.1.2.1 d.1.2.2.1 d.2.1.1).val
def l61_0 (d:sh61_0.data):Option (shb61_0.data ⊕ shr61_0.data):=itr s61_0 rounds d
def b61_0 (d:sh61_0.data):shb61_0.data:=outB shb61_0.dflt (l61_0 d)
def lc61_0:LoopC:=lcB sh61_0 shb61_0 shr61_0 l61_0 b61_0

theorem wk61_0 (x0:Int) (x2:Int) (x3:(List Int)) (b0_0:Int):Walks (runBody (kf95 Go.Proofs.Try.prog).orc Go.Proofs.Try.prog 400 61 0 sh61_0 shb61_0 shr61_0 ((x0,x2,x3,()),(b0_0,()),())) (t61_0 x0 x2 x3 b0_0) [([true,true,true],[0,1,2,0,4,0,6]),([ff],[2])] :=
  ⟨by kernel_rfl,by kernel_rfl,trivial⟩

theorem ok61_0_t (x0:Int) (x2:Int) (x3:(List Int)) (b0_0:Int):TrOk (BodyRuns Go.Proofs.Try.prog (kf95 Go.Proofs.Try.prog).orc 61 0 sh61_0 shb61_0 shr61_0 ((x0,x2,x3,()),(b0_0,()),())) (t61_0 x0 x2 x3 b0_0) :=
  Walks.ok (fun _ _ _=>BodyRuns.of) (wk61_0 x0 x2 x3 b0_0) (by kernel_rfl)

theorem ok61_0:LoopOk Go.Proofs.Try.prog 61 0 lc61_0:=loopOk_ofB (sh:=sh61_0) (shB:=shb61_0) (shR:=shr61_0) kf95_ok.base (T:=fun (d:sh61_0.data)=>t61_0 d.1.1 d.1.2.1 d.1.2.2.1 d.2.1.1) (by kernel_rfl) rfl (fun (d:sh61_0.data)=>ok61_0_t d.1.1 d.1.2.1 d.1.2.2.1 d.2.1.1) (fun _=>rfl)
def kl61_0 (P:Go.Program):Known:=(kf95 P).loop 61 0 lc61_0
theorem kl61_0_ok:KnownOk Go.Proofs.Try.prog (kl61_0 Go.Proofs.Try.prog):=kf95_ok.loop ok61_0

/-! ductility/ductilitybase.WideOf -/

abbrev as61:List Ty:=[(.int .i64)]
abbrev rs61:List Ty:=[(.pair (.int .i64) (.pair (.slice (.int .i64)) .unit))]

def t61 (x0:Int):Tr (Tys.data rs61) :=
  Tr.test ((!leF (0:Int) x0:Bool))
    (Tr.test (isBrk (l61_0 ((x0,((-1:Int),(([]:List Int),()))),(((0:Int),()),()))))
      (let r0:=b61_0 ((x0,((-1:Int),(([]:List Int),()))),(((0:Int),()),()));
      Tr.test (Option.isSome (f95 (r0.1.1,(r0.1.2.1,()))))
        (let r1:=g95 (r0.1.1,(r0.1.2.1,()));
        Tr.fin (((r1.1.1,(r1.1.2.1,())),())))
        (Tr.stop))
      (Tr.stop))
    (Tr.test (isBrk (l61_0 ((x0,((1:Int),(([]:List Int),()))),(((0:Int),()),()))))
      (let r2:=b61_0 ((x0,((1:Int),(([]:List Int),()))),(((0:Int),()),()));
      Tr.test (Option.isSome (f95 (r2.1.1,(r2.1.2.1,()))))
        (let r3:=g95 (r2.1.1,(r2.1.2.1,()));
        Tr.fin (((r3.1.1,(r3.1.2.1,())),())))
        (Tr.stop))
      (Tr.stop))

def f61 (d:Tys.data as61):Option (Tys.data rs61):=(t61 d.1).val
def g61 (d:Tys.data as61):Tys.data rs61:=(f61 d).getD (Tys.dflt rs61)
def p61:PureC:=pcOf as61 rs61 f61 g61

theorem wk61 (x0:Int):Walks (runPure (kl61_0 Go.Proofs.Try.prog).orc Go.Proofs.Try.prog 400 61 as61 rs61 (x0,())) (t61 x0) [([true,true,true],[2,1,4,6]),([false,true,true],[2,1,4,6])] :=
  ⟨by kernel_rfl,by kernel_rfl,trivial⟩

theorem ok61_t (x0:Int):TrOk (PureRuns Go.Proofs.Try.prog (kl61_0 Go.Proofs.Try.prog).orc 61 as61 rs61 (x0,())) (t61 x0) :=
  Walks.ok (fun _ _ _=>PureRuns.of) (wk61 x0) (by kernel_rfl)

theorem ok61:PureOk Go.Proofs.Try.prog 61 p61:=pureOk_of kl61_0_ok.base (T:=fun (d:Tys.data as61)=>t61 d.1) (by kernel_rfl) (fun (d:Tys.data as61)=>ok61_t d.1)
def kf61 (P:Go.Program):Known:=(kl61_0 P).func 61 p61
theorem kf61_ok:KnownOk Go.Proofs.Try.prog (kf61 Go.Proofs.Try.prog):=kl61_0_ok.func ok61

/-! ductility/ductilitybase.WideSign -/

abbrev as65:List Ty:=[(.pair (.int .i64) (.pair (.slice (.int .i64)) .unit))]
abbrev rs65:List Ty:=[(.int .i64)]

def t65 (x0:Int) (x0':(List Int)):Tr (Tys.data rs65) :=
  Tr.fin ((x0,()))

def f65 (d:Tys.data as65):Option (Tys.data rs65):=(t65 d.1.1 d.1.2.1).val
def g65 (d:Tys.data as65):Tys.data rs65:=(f65 d).getD (Tys.dflt rs65)
def p65:PureC:=pcOf as65 rs65 f65 g65

theorem wk65 (x0:Int) (x0':(List Int)):Walks (runPure (kf61 Go.Proofs.Try.prog).orc Go.Proofs.Try.prog 400 65 as65 rs65 ((x0,x0',()),())) (t65 x0 x0') [([],[])] :=
  ⟨by kernel_rfl,trivial⟩

theorem ok65_t (x0:Int) (x0':(List Int)):TrOk (PureRuns Go.Proofs.Try.prog (kf61 Go.Proofs.Try.prog).orc 65 as65 rs65 ((x0,x0',()),())) (t65 x0 x0') :=
  Walks.ok (fun _ _ _=>PureRuns.of) (wk65 x0 x0') (by kernel_rfl)

theorem ok65:PureOk Go.Proofs.Try.prog 65 p65:=pureOk_of kf61_ok.base (T:=fun (d:Tys.data as65)=>t65 d.1.1 d.1.2.1) (by kernel_rfl) (fun (d:Tys.data as65)=>ok65_t d.1.1 d.1.2.1)
def kf65 (P:Go.Program):Known:=(kf61 P).func 65 p65
theorem kf65_ok:KnownOk Go.Proofs.Try.prog (kf65 Go.Proofs.Try.prog):=kf61_ok.func ok65

/-! ductility/ductilitybase.WideNeg -/

abbrev as96:List Ty:=[(.pair (.int .i64) (.pair (.slice (.int .i64)) .unit))]
abbrev rs96:List Ty:=[(.pair (.int .i64) (.pair (.slice (.int .i64)) .unit))]

def t96 (x0:Int) (x0':(List Int)):Tr (Tys.data rs96) :=
  Tr.fin ((((Go.IntKind.wrap Go.IntKind.i64 ((0:Int) - x0):Int),(x0',())),()))

def f96 (d:Tys.data as96):Option (Tys.data rs96):=(t96 d.1.1 d.1.2.1).val
def g96 (d:Tys.data as96):Tys.data rs96:=(f96 d).getD (Tys.dflt rs96)
def p96:PureC:=pcOf as96 rs96 f96 g96

theorem wk96 (x0:Int) (x0':(List Int)):Walks (runPure (kf65 Go.Proofs.Try.prog).orc Go.Proofs.Try.prog 400 96 as96 rs96 ((x0,x0',()),())) (t96 x0 x0') [([],[])] :=
  ⟨by kernel_rfl,trivial⟩

theorem ok96_t (x0:Int) (x0':(List Int)):TrOk (PureRuns Go.Proofs.Try.prog (kf65 Go.Proofs.Try.prog).orc 96 as96 rs96 ((x0,x0',()),())) (t96 x0 x0') :=
  Walks.ok (fun _ _ _=>PureRuns.of) (wk96 x0 x0') (by kernel_rfl)

theorem ok96:PureOk Go.Proofs.Try.prog 96 p96:=pureOk_of kf65_ok.base (T:=fun (d:Tys.data as96)=>t96 d.1.1 d.1.2.1) (by kernel_rfl) (fun (d:Tys.data as96)=>ok96_t d.1.1 d.1.2.1)
def kf96 (P:Go.Program):Known:=(kf65 P).func 96 p96
theorem kf96_ok:KnownOk Go.Proofs.Try.prog (kf96 Go.Proofs.Try.prog):=kf65_ok.func ok96

/-! ductility/ductilitybase.wideSize -/

abbrev as114:List Ty:=[(.pair (.int .i64) (.pair (.slice (.int .i64)) .unit))]
abbrev rs114:List Ty:=[(.pair (.int .i64) (.pair (.slice (.int .i64)) .unit))]

def t114 (x0:Int) (x0':(List Int)):Tr (Tys.data rs114) :=
  Tr.test ((!leF (0:Int) x0:Bool))
    (Tr.test (Option.isSome (f96 ((x0,(x0',())),())))
      (let r0:=g96 ((x0,(x0',())),());
      Tr.fin (((r0.1.1,(r0.1.2.1,())),())))
      (Tr.stop))
    (Tr.fin (((x0,(x0',())),())))

def f114 (d:Tys.data as114):Option (Tys.data rs114):=(t114 d.1.1 d.1.2.1).val
def g114 (d:Tys.data as114):Tys.data rs114:=(f114 d).getD (Tys.dflt rs114)
def p114:PureC:=pcOf as114 rs114 f114 g114

theorem wk114 (x0:Int) (x0':(List Int)):Walks (runPure (kf96 Go.Proofs.Try.prog).orc Go.Proofs.Try.prog 400 114 as114 rs114 ((x0,x0',()),())) (t114 x0 x0') [([true,true],[2,4]),([ff],[2])] :=
  ⟨by kernel_rfl,by kernel_rfl,trivial⟩

theorem ok114_t (x0:Int) (x0':(List Int)):TrOk (PureRuns Go.Proofs.Try.prog (kf96 Go.Proofs.Try.prog).orc 114 as114 rs114 ((x0,x0',()),())) (t114 x0 x0') :=
  Walks.ok (fun _ _ _=>PureRuns.of) (wk114 x0 x0') (by kernel_rfl)

theorem ok114:PureOk Go.Proofs.Try.prog 114 p114:=pureOk_of kf96_ok.base (T:=fun (d:Tys.data as114)=>t114 d.1.1 d.1.2.1) (by kernel_rfl) (fun (d:Tys.data as114)=>ok114_t d.1.1 d.1.2.1)
def kf114 (P:Go.Program):Known:=(kf96 P).func 114 p114
theorem kf114_ok:KnownOk Go.Proofs.Try.prog (kf114 Go.Proofs.Try.prog):=kf96_ok.func ok114

/-! loop 2 of ductility/ductilitybase.WideMul -/

abbrev sh64_2:Sh:={ n:=86,slots:=[2,3,4,5,6,7,8],pats:=[.ptr 0 2 0,.ptr 1 2 0,.ptr 2 2 0,.sli 3 1,.ty (.int .i64),.ty (.int .i64),.ty (.int .i64)],boxes:=[.row [.ty (.int .i64),.ty (.slice (.int .i64))],.row [.ty (.int .i64),.ty (.slice (.int .i64))],.row [.ty (.int .i64),.nil],.arr (.int .i64)] }
abbrev shb64_2:Sh:={ n:=86,slots:=[2,3,4,5,6,7],pats:=[.ptr 0 2 0,.ptr 1 2 0,.ptr 2 2 0,.sli 3 1,.ty (.int .i64),.ty (.int .i64)],boxes:=[.row [.ty (.int .i64),.ty (.slice (.int .i64))],.row [.ty (.int .i64),.ty (.slice (.int .i64))],.row [.ty (.int .i64),.nil],.arr (.int .i64)] }
abbrev shr64_2:Sh:={ n:=86,slots:=[],pats:=[],boxes:=[.row [.ty (.int .i64),.ty (.slice (.int .i64))],.row [.ty (.int .i64),.ty (.slice (.int .i64))],.row [.ty (.int .i64),.nil],.arr (.int .i64)] }

def t64_2 (x3n:Nat) (x3c:Nat) (x4:Int) (x5:Int) (x6:Int) (b0_0:Int) (b0_1:(List Int)) (b1_0:Int) (b1_1:(List Int)) (b2_0:Int) (b3:(List Int)):Tr (Out sh64_2.data shb64_2.data shr64_2.data) :=
  Tr.test ((!leF (↑(List.length b1_1):Int) x6:Bool))
    (Tr.test (decide ((0:Int) ≤ wrap64 (x4 + x6)) && decide (wrap64 (x4 + x6) < (↑x3n:Int)))
      (Tr.test ((Nat.ble ((0:Nat) + Int.toNat (wrap64 (x4 + x6)) + (1:Nat)) (List.length b3):Bool))
        (Tr.test ((decide ((0:Int) ≤ x4) && decide (x4 < (↑(List.length b0_1):Int)):Bool))
          (Tr.test ((decide ((0:Int) ≤ x6) && decide (x6 < (↑(List.length b1_1):Int)):Bool))
            (Tr.fin (.again (((x3n,x3c),(x4,((Go.IntKind.wrap Go.IntKind.i64 (Int.tdiv (wrap64 (wrap64 (List.getD b3 ((0:Nat) + Int.toNat (wrap64 (x4 + x6))) (0:Int) + wrap64 (List.getD b0_1 (Int.toNat x4) (0:Int) * List.getD b1_1 (Int.toNat x6) (0:Int))) + x5)) (1000000000:Int)):Int),((wrap64 (x6 + (1:Int)):Int),())))),((b0_0,(b0_1,())),((b1_0,(b1_1,())),((b2_0,()),((List.set b3 ((0:Nat) + Int.toNat (wrap64 (x4 + x6))) (Int.tmod (wrap64 (wrap64 (List.getD b3 ((0:Nat) + Int.toNat (wrap64 (x4 + x6))) (0:Int) + wrap64 (List.getD b0_1 (Int.toNat x4) (0:Int) * List.getD b1_1 (Int.toNat x6) (0:Int))) + x5)) (1000000000:Int)):List Int),())))))))
            (Tr.stop))
          (Tr.stop))
        (Tr.stop))
      (Tr.stop))
    (Tr.fin (.brk (((x3n,x3c),(x4,(x5,()))),((b0_0,(b0_1,())),((b1_0,(b1_1,())),((b2_0,()),(b3,())))))))

def s64_2 (d:sh64_2.data):Option (Out sh64_2.data shb64_2.data shr64_2.data):=(t64_2 d.1.1.1 d.1.1.2 d.1.2.1 d.1.2.2.1 d.1.2.2.2.1 d.2.1.1 d.2.1.2.1 d.2.2.1.1 d.2.2.1.2.1 d.2.2.2.1.1 d.2.2.2.2.1).val
def l64_2 (d:sh64_2.data):Option (shb64_2.data ⊕ shr64_2.data):=itr s64_2 rounds d
def b64_2 (d:sh64_2.data):shb64_2.data:=outB shb64_2.dflt (l64_2 d)
def lc64_2:LoopC:=lcB sh64_2 shb64_2 shr64_2 l64_2 b64_2

theorem wk64_2 (x3n:Nat) (x3c:Nat) (x4:Int) (x5:Int) (x6:Int) (b0_0:Int) (b0_1:(List Int)) (b1_0:Int) (b1_1:(List Int)) (b2_0:Int) (b3:(List Int)):Walks (runBody (kf114 Go.Proofs.Try.prog).orc Go.Proofs.Try.prog 400 64 2 sh64_2 shb64_2 shr64_2 (((x3n,x3c),x4,x5,x6,()),(b0_0,b0_1,()),(b1_0,b1_1,()),(b2_0,()),b3,())) (t64_2 x3n x3c x4 x5 x6 b0_0 b0_1 b1_0 b1_1 b2_0 b3) [([true,true,true,true,true],[6,8,0,0,2,4,6,8,10]),([ff],[2])] :=
  ⟨by kernel_rfl,by kernel_rfl,trivial⟩

theorem ok64_2_t (x3n:Nat) (x3c:Nat) (x4:Int) (x5:Int) (x6:Int) (b0_0:Int) (b0_1:(List Int)) (b1_0:Int) (b1_1:(List Int)) (b2_0:Int) (b3:(List Int)):TrOk (BodyRuns Go.Proofs.Try.prog (kf114 Go.Proofs.Try.prog).orc 64 2 sh64_2 shb64_2 shr64_2 (((x3n,x3c),x4,x5,x6,()),(b0_0,b0_1,()),(b1_0,b1_1,()),(b2_0,()),b3,())) (t64_2 x3n x3c x4 x5 x6 b0_0 b0_1 b1_0 b1_1 b2_0 b3) :=
  Walks.ok (fun _ _ _=>BodyRuns.of) (wk64_2 x3n x3c x4 x5 x6 b0_0 b0_1 b1_0 b1_1 b2_0 b3) (by kernel_rfl)

theorem ok64_2:LoopOk Go.Proofs.Try.prog 64 2 lc64_2:=loopOk_ofB (sh:=sh64_2) (shB:=shb64_2) (shR:=shr64_2) kf114_ok.base (T:=fun (d:sh64_2.data)=>t64_2 d.1.1.1 d.1.1.2 d.1.2.1 d.1.2.2.1 d.1.2.2.2.1 d.2.1.1 d.2.1.2.1 d.2.2.1.1 d.2.2.1.2.1 d.2.2.2.1.1 d.2.2.2.2.1) (by kernel_rfl) rfl (fun (d:sh64_2.data)=>ok64_2_t d.1.1.1 d.1.1.2 d.1.2.1 d.1.2.2.1 d.1.2.2.2.1 d.2.1.1 d.2.1.2.1 d.2.2.1.1 d.2.2.1.2.1 d.2.2.2.1.1 d.2.2.2.2.1) (fun _=>rfl)
def kl64_2 (P:Go.Program):Known:=(kf114 P).loop 64 2 lc64_2
theorem kl64_2_ok:KnownOk Go.Proofs.Try.prog (kl64_2 Go.Proofs.Try.prog):=kf114_ok.loop ok64_2

/-! loop 0 of ductility/ductilitybase.WideMul -/

abbrev sh64_0:Sh:={ n:=86,slots:=[2,3,4,5,6],pats:=[.ptr 0 2 0,.ptr 1 2 0,.ptr 2 2 0,.sli 3 1,.ty (.int .i64)],boxes:=[.row [.ty (.int .i64),.ty (.slice (.int .i64))],.row [.ty (.int .i64),.ty (.slice (.int .i64))],.row [.ty (.int .i64),.nil],.arr (.int .i64)] }
abbrev shb64_0:Sh:={ n:=86,slots:=[2,3,4,5],pats:=[.ptr 0 2 0,.ptr 1 2 0,.ptr 2 2 0,.sli 3 1],boxes:=[.row [.ty (.int .i64),.ty (.slice (.int .i64))],.row [.ty (.int .i64),.ty (.slice (.int .i64))],.row [.ty (.int .i64),.nil],.arr (.int .i64)] }
abbrev shr64_0:Sh:={ n:=86,slots:=[],pats:=[],boxes:=[.row [.ty (.int .i64),.ty (.slice (.int .i64))],.row [.ty (.int .i64),.ty (.slice (.int .i64))],.row [.ty (.int .i64),.nil],.arr (.int .i64)] }

def t64_0 (x3n:Nat) (x3c:Nat) (x4:Int) (b0_0:Int) (b0_1:(List Int)) (b1_0:Int) (b1_1:(List Int)) (b2_0:Int) (b3:(List Int)):Tr (Out sh64_0.data shb64_0.data shr64_0.data) :=
  Tr.test ((!leF (↑(List.length b0_1):Int) x4:Bool))
    (Tr.test (isBrk (l64_2 (((x3n,x3c),(x4,((0:Int),((0:Int),())))),((b0_0,(b0_1,())),((b1_0,(b1_1,())),((b2_0,()),(b3,())))))))
      (let r0:=b64_2 (((x3n,x3c),(x4,((0:Int),((0:Int),())))),((b0_0,(b0_1,())),((b1_0,(b1_1,())),((b2_0,()),(b3,())))));
      Tr.test ((decide ((0:Int) ≤ wrap64 (r0.1.2.1 + (↑(List.length r0.2.2.1.2.1):Int))) && decide (wrap64 (r0.1.2.1 + (↑(List.length r0.2.2.1.2.1):Int)) < (↑r0.1.1.1:Int)):Bool))
        (Tr.test ((Nat.ble ((0:Nat) + Int.toNat (wrap64 (r0.1.2.1 + (↑(List.length r0.2.2.1.2.1):Int))) + (1:Nat)) (List.length r0.2.2.2.2.1):Bool))
          (Tr.fin (.again (((r0.1.1.1,r0.1.1.2),((wrap64 (r0.1.2.1 + (1:Int)):Int),())),((r0.2.1.1,(r0.2.1.2.1,())),((r0.2.2.1.1,(r0.2.2.1.2.1,())),((r0.2.2.2.1.1,()),((List.set r0.2.2.2.2.1 ((0:Nat) + Int.toNat (wrap64 (r0.1.2.1 + (↑(List.length r0.2.2.1.2.1):Int)))) (wrap64 (List.getD r0.2.2.2.2.1 ((0:Nat) + Int.toNat (wrap64 (r0.1.2.1 + (↑(List.length r0.2.2.1.2.1):Int)))) (0:Int) + r0.1.2.2.1)):List Int),())))))))
          (Tr.stop))
        (Tr.stop))
      (Tr.stop))
    (Tr.fin (.brk (((x3n,x3c),()),((b0_0,(b0_1,())),((b1_0,(b1_1,())),((b2_0,()),(b3,())))))))

def s64_0 (d:sh64_0.data):Option (Out sh64_0.data shb64_0.data shr64_0.data):=(t64_0 d.1.1.1 d.1.1.2 d.1.2.1 d.2.1.1 d.2.1.2.1 d.2.2.1.1 d.2.2.1.2.1 d.2.2.2.1.1 d.2.2.2.2.1).val
def l64_0 (d:sh64_0.data):Option (shb64_0.data ⊕ shr64_0.data):=itr s64_0 rounds d
def b64_0 (d:sh64_0.data):shb64_0.data:=outB shb64_0.dflt (l64_0 d)
def lc64_0:LoopC:=lcB sh64_0 shb64_0 shr64_0 l64_0 b64_0

theorem wk64_0 (x3n:Nat) (x3c:Nat) (x4:Int) (b0_0:Int) (b0_1:(List Int)) (b1_0:Int) (b1_1:(List Int)) (b2_0:Int) (b3:(List Int)):Walks (runBody (kl64_2 Go.Proofs.Try.prog).orc Go.Proofs.Try.prog 400 64 0 sh64_0 shb64_0 shr64_0 (((x3n,x3c),x4,()),(b0_0,b0_1,()),(b1_0,b1_1,()),(b2_0,()),b3,())) (t64_0 x3n x3c x4 b0_0 b0_1 b1_0 b1_1 b2_0 b3) [([true,true,true,true],[2,4,2,4,1,6,8]),([ff],[2])] :=
  ⟨by kernel_rfl,by kernel_rfl,trivial⟩

theorem ok64_0_t (x3n:Nat) (x3c:Nat) (x4:Int) (b0_0:Int) (b0_1:(List Int)) (b1_0:Int) (b1_1:(List Int)) (b2_0:Int) (b3:(List Int)):TrOk (BodyRuns Go.Proofs.Try.prog (kl64_2 Go.Proofs.Try.prog).orc 64 0 sh64_0 shb64_0 shr64_0 (((x3n,x3c),x4,()),(b0_0,b0_1,()),(b1_0,b1_1,()),(b2_0,()),b3,())) (t64_0 x3n x3c x4 b0_0 b0_1 b1_0 b1_1 b2_0 b3) :=
  Walks.ok (fun _ _ _=>BodyRuns.of) (wk64_0 x3n x3c x4 b0_0 b0_1 b1_0 b1_1 b2_0 b3) (by kernel_rfl)

theorem ok64_0:LoopOk Go.Proofs.Try.prog 64 0 lc64_0:=loopOk_ofB (sh:=sh64_0) (shB:=shb64_0) (shR:=shr64_0) kl64_2_ok.base (T:=fun (d:sh64_0.data)=>t64_0 d.1.1.1 d.1.1.2 d.1.2.1 d.2.1.1 d.2.1.2.1 d.2.2.1.1 d.2.2.1.2.1 d.2.2.2.1.1 d.2.2.2.2.1) (by kernel_rfl) rfl (fun (d:sh64_0.data)=>ok64_0_t d.1.1.1 d.1.1.2 d.1.2.1 d.2.1.1 d.2.1.2.1 d.2.2.1.1 d.2.2.1.2.1 d.2.2.2.1.1 d.2.2.2.2.1) (fun _=>rfl)
def kl64_0 (P:Go.Program):Known:=(kl64_2 P).loop 64 0 lc64_0
theorem kl64_0_ok:KnownOk Go.Proofs.Try.prog (kl64_0 Go.Proofs.Try.prog):=kl64_2_ok.loop ok64_0

/-! ductility/ductilitybase.WideMul -/

abbrev as64:List Ty:=[(.pair (.int .i64) (.pair (.slice (.int .i64)) .unit)),(.pair (.int .i64) (.pair (.slice (.int .i64)) .unit))]
abbrev rs64:List Ty:=[(.pair (.int .i64) (.pair (.slice (.int .i64)) .unit))]

def t64 (x0:Int) (x0':(List Int)) (x1:Int) (x1':(List Int)):Tr (Tys.data rs64) :=
  Tr.test ((decide ((0:Int) ≤ wrap64 (wrap64 ((↑(List.length x0'):Int) + (↑(List.length x1'):Int)) + (1:Int))) && decide (wrap64 (wrap64 ((↑(List.length x0'):Int) + (↑(List.length x1'):Int)) + (1:Int)) ≤ wrap64 (wrap64 ((↑(List.length x0'):Int) + (↑(List.length x1'):Int)) + (1:Int))) && decide ((8:Int) * wrap64 (wrap64 ((↑(List.length x0'):Int) + (↑(List.length x1'):Int)) + (1:Int)) ≤ (281474976710656:Int)) && decide (wrap64 (wrap64 ((↑(List.length x0'):Int) + (↑(List.length x1'):Int)) + (1:Int)) ≤ (281474976710656:Int)):Bool))
    (Tr.test (isBrk (l64_0 ((((Int.toNat (wrap64 (wrap64 ((↑(List.length x0'):Int) + (↑(List.length x1'):Int)) + (1:Int))):Nat),(Int.toNat (wrap64 (wrap64 ((↑(List.length x0'):Int) + (↑(List.length x1'):Int)) + (1:Int))):Nat)),((0:Int),())),((x0,(x0',())),((x1,(x1',())),(((0:Int),()),((List.replicate (Int.toNat (wrap64 (wrap64 ((↑(List.length x0'):Int) + (↑(List.length x1'):Int)) + (1:Int)))) (0:Int):List Int),())))))))
      (let r0:=b64_0 ((((Int.toNat (wrap64 (wrap64 ((↑(List.length x0'):Int) + (↑(List.length x1'):Int)) + (1:Int))):Nat),(Int.toNat (wrap64 (wrap64 ((↑(List.length x0'):Int) + (↑(List.length x1'):Int)) + (1:Int))):Nat)),((0:Int),())),((x0,(x0',())),((x1,(x1',())),(((0:Int),()),((List.replicate (Int.toNat (wrap64 (wrap64 ((↑(List.length x0'):Int) + (↑(List.length x1'):Int)) + (1:Int)))) (0:Int):List Int),())))));
      Tr.test ((Nat.beq r0.1.1.1 (List.length r0.2.2.2.2.1):Bool))
        (Tr.test (Option.isSome (f95 ((wrap64 (r0.2.1.1 * r0.2.2.1.1):Int),(r0.2.2.2.2.1,()))))
          (let r1:=g95 ((wrap64 (r0.2.1.1 * r0.2.2.1.1):Int),(r0.2.2.2.2.1,()));
          Tr.fin (((r1.1.1,(r1.1.2.1,())),())))
          (Tr.stop))
        (Tr.test ((Nat.ble r0.1.1.1 (List.length r0.2.2.2.2.1):Bool))
          (Tr.test (Option.isSome (f95 ((wrap64 (r0.2.1.1 * r0.2.2.1.1):Int),((List.take r0.1.1.1 r0.2.2.2.2.1:List Int),()))))
            (let r2:=g95 ((wrap64 (r0.2.1.1 * r0.2.2.1.1):Int),((List.take r0.1.1.1 r0.2.2.2.2.1:List Int),()));
            Tr.fin (((r2.1.1,(r2.1.2.1,())),())))
            (Tr.stop))
          (Tr.stop /- a known call [op 6 of region 12 of F64] -/)))
      (Tr.stop))
    (Tr.stop)

def f64 (d:Tys.data as64):Option (Tys.data rs64):=(t64 d.1.1 d.1.2.1 d.2.1.1 d.2.1.2.1).val
def g64 (d:Tys.data as64):Tys.data rs64:=(f64 d).getD (Tys.dflt rs64)
def p64:PureC:=pcOf as64 rs64 f64 g64

theorem wk64 (x0:Int) (x0':(List Int)) (x1:Int) (x1':(List Int)):Walks (runPure (kl64_0 Go.Proofs.Try.prog).orc Go.Proofs.Try.prog 400 64 as64 rs64 ((x0,x0',()),(x1,x1',()),())) (t64 x0 x0' x1 x1') [([true,true,true,true],[2,4,1,6,8]),([true,true,false,true,true],[2,4,6,1,8,10])] :=
  ⟨by kernel_rfl,by kernel_rfl,trivial⟩

theorem ok64_t (x0:Int) (x0':(List Int)) (x1:Int) (x1':(List Int)):TrOk (PureRuns Go.Proofs.Try.prog (kl64_0 Go.Proofs.Try.prog).orc 64 as64 rs64 ((x0,x0',()),(x1,x1',()),())) (t64 x0 x0' x1 x1') :=
  Walks.ok (fun _ _ _=>PureRuns.of) (wk64 x0 x0' x1 x1') (by kernel_rfl)

theorem ok64:PureOk Go.Proofs.Try.prog 64 p64:=pureOk_of kl64_0_ok.base (T:=fun (d:Tys.data as64)=>t64 d.1.1 d.1.2.1 d.2.1.1 d.2.1.2.1) (by kernel_rfl) (fun (d:Tys.data as64)=>ok64_t d.1.1 d.1.2.1 d.2.1.1 d.2.1.2.1)
def kf64 (P:Go.Program):Known:=(kl64_0 P).func 64 p64
theorem kf64_ok:KnownOk Go.Proofs.Try.prog (kf64 Go.Proofs.Try.prog):=kl64_0_ok.func ok64

/-! loop 0 of ductility/ductilitybase.cmpDigits -/

abbrev sh101_0:Sh:={ n:=41,slots:=[0,1,5],pats:=[.ty (.slice (.int .i64)),.ty (.slice (.int .i64)),.ty (.int .i64)],boxes:=[] }
abbrev shb101_0:Sh:={ n:=41,slots:=[],pats:=[],boxes:=[] }
abbrev shr101_0:Sh:={ n:=41,slots:=[4],pats:=[.ty (.int .i64)],boxes:=[] }

def t101_0 (x0:(List Int)) (x1:(List Int)) (x2:Int):Tr (Out sh101_0.data shb101_0.data shr101_0.data) :=
  Tr.test ((leF (0:Int) x2:Bool))
    (Tr.test (decide ((0:Int) ≤ x2) && decide (x2 < (↑(List.length x0):Int)))
      (Tr.test ((decide ((0:Int) ≤ x2) && decide (x2 < (↑(List.length x1):Int)):Bool))
        (Tr.test ((!leF (List.getD x1 (Int.toNat x2) (0:Int)) (List.getD x0 (Int.toNat x2) (0:Int)):Bool))
          (Tr.fin (.ret (((-1:Int),()),())))
          (Tr.test ((!leF (List.getD x0 (Int.toNat x2) (0:Int)) (List.getD x1 (Int.toNat x2) (0:Int)):Bool))
            (Tr.fin (.ret (((1:Int),()),())))
            (Tr.fin (.again ((x0,(x1,((wrap64 (x2 - (1:Int)):Int),()))),())))))
        (Tr.stop))
      (Tr.stop))
    (Tr.fin (.brk ((),())))

def s101_0 (d:sh101_0.data):Option (Out sh101_0.data shb101_0.data shr101_0.data):=(t101_0 d.1.1 d.1.2.1 d.1.2.2.1).val
def l101_0 (d:sh101_0.data):Option (shb101_0.data ⊕ shr101_0.data):=itr s101_0 rounds d
def b101_0 (d:sh101_0.data):shb101_0.data:=outB shb101_0.dflt (l101_0 d)
def r101_0 (d:sh101_0.data):shr101_0.data:=outR shr101_0.dflt (l101_0 d)
def lc101_0:LoopC:=lcOf sh101_0 shb101_0 shr101_0 l101_0 b101_0 r101_0

theorem wk101_0 (x0:(List Int)) (x1:(List Int)) (x2:Int):Walks (runBody (kf64 Go.Proofs.Try.prog).orc Go.Proofs.Try.prog 400 101 0 sh101_0 shb101_0 shr101_0 ((x0,x1,x2,()),())) (t101_0 x0 x1 x2) [([true,true,true,true],[2,4,6,8]),([true,true,true,false,true],[2,6,8,4,6,8,10]),([true,true,true,false,false],[2,6,8,4,6,8,10]),([ff],[2])] :=
  ⟨by kernel_rfl,by kernel_rfl,by kernel_rfl,by kernel_rfl,trivial⟩

theorem ok101_0_t (x0:(List Int)) (x1:(List Int)) (x2:Int):TrOk (BodyRuns Go.Proofs.Try.prog (kf64 Go.Proofs.Try.prog).orc 101 0 sh101_0 shb101_0 shr101_0 ((x0,x1,x2,()),())) (t101_0 x0 x1 x2) :=
  Walks.ok (fun _ _ _=>BodyRuns.of) (wk101_0 x0 x1 x2) (by kernel_rfl)

theorem ok101_0:LoopOk Go.Proofs.Try.prog 101 0 lc101_0:=loopOk_of (sh:=sh101_0) (shB:=shb101_0) (shR:=shr101_0) kf64_ok.base (T:=fun (d:sh101_0.data)=>t101_0 d.1.1 d.1.2.1 d.1.2.2.1) (by kernel_rfl) rfl (fun (d:sh101_0.data)=>ok101_0_t d.1.1 d.1.2.1 d.1.2.2.1) (fun _=>rfl)
def kl101_0 (P:Go.Program):Known:=(kf64 P).loop 101 0 lc101_0
theorem kl101_0_ok:KnownOk Go.Proofs.Try.prog (kl101_0 Go.Proofs.Try.prog):=kf64_ok.loop ok101_0

/-! ductility/ductilitybase.cmpDigits -/

abbrev as101:List Ty:=[(.slice (.int .i64)),(.slice (.int .i64))]
abbrev rs101:List Ty:=[(.int .i64)]

def t101 (x0:(List Int)) (x1:(List Int)):Tr (Tys.data rs101) :=
  Tr.test ((!eqF (↑(List.length x0):Int) (↑(List.length x1):Int):Bool))
    (Tr.test (!leF (↑(List.length x1):Int) (↑(List.length x0):Int))
      (Tr.fin (((-1:Int),())))
      (Tr.fin (((1:Int),()))))
    (Tr.test (Option.isSome (l101_0 ((x0,(x1,((wrap64 ((↑(List.length x0):Int) - (1:Int)):Int),()))),())))
      (Tr.test (isRet (l101_0 ((x0,(x1,((wrap64 ((↑(List.length x0):Int) - (1:Int)):Int),()))),())))
        (let r0:=r101_0 ((x0,(x1,((wrap64 ((↑(List.length x0):Int) - (1:Int)):Int),()))),());
        Tr.fin ((r0.1.1,())))
        (Tr.fin (((0:Int),()))))
      (Tr.stop))

def f101 (d:Tys.data as101):Option (Tys.data rs101):=(t101 d.1 d.2.1).val
def g101 (d:Tys.data as101):Tys.data rs101:=(f101 d).getD (Tys.dflt rs101)
def p101:PureC:=pcOf as101 rs101 f101 g101

theorem wk101 (x0:(List Int)) (x1:(List Int)):Walks (runPure (kl101_0 Go.Proofs.Try.prog).orc Go.Proofs.Try.prog 400 101 as101 rs101 (x0,x1,())) (t101 x0 x1) [([true,true],[2,4]),([true,false],[2,4]),([false,true,true],[2,4,6]),([false,true,false],[2,4,6])] :=
  ⟨by kernel_rfl,by kernel_rfl,by kernel_rfl,by kernel_rfl,trivial⟩

theorem ok101_t (x0:(List Int)) (x1:(List Int)):TrOk (PureRuns Go.Proofs.Try.prog (kl101_0 Go.Proofs.Try.prog).orc 101 as101 rs101 (x0,x1,())) (t101 x0 x1) :=
  Walks.ok (fun _ _ _=>PureRuns.of) (wk101 x0 x1) (by kernel_rfl)

theorem ok101:PureOk Go.Proofs.Try.prog 101 p101:=pureOk_of kl101_0_ok.base (T:=fun (d:Tys.data as101)=>t101 d.1 d.2.1) (by kernel_rfl) (fun (d:Tys.data as101)=>ok101_t d.1 d.2.1)
def kf101 (P:Go.Program):Known:=(kl101_0 P).func 101 p101
theorem kf101_ok:KnownOk Go.Proofs.Try.prog (kf101 Go.Proofs.Try.prog):=kl101_0_ok.func ok101

/-! ductility/ductilitybase.digit -/

abbrev as116:List Ty:=[(.slice (.int .i64)),(.int .i64)]
abbrev rs116:List Ty:=[(.int .i64)]

def t116 (x0:(List Int)) (x1:Int):Tr (Tys.data rs116) :=
  Tr.test ((!leF (↑(List.length x0):Int) x1:Bool))
    (Tr.test (decide ((0:Int) ≤ x1) && decide (x1 < (↑(List.length x0):Int)))
      (Tr.fin (((List.getD x0 (Int.toNat x1) (0:Int):Int),())))
      (Tr.stop))
    (Tr.fin (((0:Int),())))

def f116 (d:Tys.data as116):Option (Tys.data rs116):=(t116 d.1 d.2.1).val
def g116 (d:Tys.data as116):Tys.data rs116:=(f116 d).getD (Tys.dflt rs116)
def p116:PureC:=pcOf as116 rs116 f116 g116

theorem wk116 (x0:(List Int)) (x1:Int):Walks (runPure (kf101 Go.Proofs.Try.prog).orc Go.Proofs.Try.prog 400 116 as116 rs116 (x0,x1,())) (t116 x0 x1) [([true,true],[2,4]),([ff],[2])] :=
  ⟨by kernel_rfl,by kernel_rfl,trivial⟩

theorem ok116_t (x0:(List Int)) (x1:Int):TrOk (PureRuns Go.Proofs.Try.prog (kf101 Go.Proofs.Try.prog).orc 116 as116 rs116 (x0,x1,())) (t116 x0 x1) :=
  Walks.ok (fun _ _ _=>PureRuns.of) (wk116 x0 x1) (by kernel_rfl)

theorem ok116:PureOk Go.Proofs.Try.prog 116 p116:=pureOk_of kf101_ok.base (T:=fun (d:Tys.data as116)=>t116 d.1 d.2.1) (by kernel_rfl) (fun (d:Tys.data as116)=>ok116_t d.1 d.2.1)
def kf116 (P:Go.Program):Known:=(kf101 P).func 116 p116
theorem kf116_ok:KnownOk Go.Proofs.Try.prog (kf116 Go.Proofs.Try.prog):=kf101_ok.func ok116

/-! loop 0 of ductility/ductilitybase.subDigits -/

abbrev sh102_0:Sh:={ n:=35,slots:=[0,1,5,6,7],pats:=[.ty (.slice (.int .i64)),.ty (.slice (.int .i64)),.acc (.int .i64),.ty (.int .i64),.ty (.int .i64)],boxes:=[] }
abbrev shb102_0:Sh:={ n:=35,slots:=[5],pats:=[.acc (.int .i64)],boxes:=[] }
abbrev shr102_0:Sh:={ n:=35,slots:=[],pats:=[],boxes:=[] }

def t102_0 (x0:(List Int)) (x1:(List Int)) (x2:(List Int)) (x3:Int) (x4:Int):Tr (Out sh102_0.data shb102_0.data shr102_0.data) :=
  Tr.test ((!leF (↑(List.length x0):Int) x4:Bool))
    (Tr.test (decide ((0:Int) ≤ x4) && decide (x4 < (↑(List.length x0):Int)))
      (Tr.test (Option.isSome (f116 (x1,(x4,()))))
        (let r0:=g116 (x1,(x4,()));
        Tr.test ((!leF (0:Int) (wrap64 (wrap64 (List.getD x0 (Int.toNat x4) (0:Int) - r0.1) - x3)):Bool))
          (Tr.test ((Nat.ble (((2:Nat) * (List.length x2 + (1:Nat)) + (192:Nat)) * (8:Nat)) (281474976710656:Nat) && Nat.ble (List.length x2 + (1:Nat)) (281474976710656:Nat):Bool))
            (Tr.fin (.again ((x0,(x1,((x2++[wrap64 (wrap64 (wrap64 (List.getD x0 (Int.toNat x4) (0:Int) - r0.1) - x3) + (1000000000:Int))]:List Int),((1:Int),((wrap64 (x4 + (1:Int)):Int),()))))),())))
            (Tr.stop))
          (Tr.test ((Nat.ble (((2:Nat) * (List.length x2 + (1:Nat)) + (192:Nat)) * (8:Nat)) (281474976710656:Nat) && Nat.ble (List.length x2 + (1:Nat)) (281474976710656:Nat):Bool))
            (Tr.fin (.again ((x0,(x1,((x2++[wrap64 (wrap64 (List.getD x0 (Int.toNat x4) (0:Int) - r0.1) - x3)]:List Int),((0:Int),((wrap64 (x4 + (1:Int)):Int),()))))),())))
            (Tr.stop)))
        (Tr.stop))
      (Tr.stop))
    (Tr.fin (.brk ((x2,()),())))

def s102_0 (d:sh102_0.data):Option (Out sh102_0.data shb102_0.data shr102_0.data):=(t102_0 d.1.1 d.1.2.1 d.1.2.2.1 d.1.2.2.2.1 d.1.2.2.2.2.1).val
def l102_0 (d:sh102_0.data):Option (shb102_0.data ⊕ shr102_0.data):=itr s102_0 rounds d
def b102_0 (d:sh102_0.data):shb102_0.data:=outB shb102_0.dflt (l102_0 d)
def lc102_0:LoopC:=lcB sh102_0 shb102_0 shr102_0 l102_0 b102_0

theorem wk102_0 (x0:(List Int)) (x1:(List Int)) (x2:(List Int)) (x3:Int) (x4:Int):Walks (runBody (kf116 Go.Proofs.Try.prog).orc Go.Proofs.Try.prog 400 102 0 sh102_0 shb102_0 shr102_0 ((x0,x1,x2,x3,x4,()),())) (t102_0 x0 x1 x2 x3 x4) [([true,true,true,true,true],[1,2,0,4,6,8,10]),([true,true,true,false,true],[1,2,0,4,6,8,10]),([ff],[2])] :=
  ⟨by kernel_rfl,by kernel_rfl,by kernel_rfl,trivial⟩

theorem ok102_0_t (x0:(List Int)) (x1:(List Int)) (x2:(List Int)) (x3:Int) (x4:Int):TrOk (BodyRuns Go.Proofs.Try.prog (kf116 Go.Proofs.Try.prog).orc 102 0 sh102_0 shb102_0 shr102_0 ((x0,x1,x2,x3,x4,()),())) (t102_0 x0 x1 x2 x3 x4) :=
  Walks.ok (fun _ _ _=>BodyRuns.of) (wk102_0 x0 x1 x2 x3 x4) (by kernel_rfl)

theorem ok102_0:LoopOk Go.Proofs.Try.prog 102 0 lc102_0:=loopOk_ofB (sh:=sh102_0) (shB:=shb102_0) (shR:=shr102_0) kf116_ok.base (T:=fun (d:sh102_0.data)=>t102_0 d.1.1 d.1.2.1 d.1.2.2.1 d.1.2.2.2.1 d.1.2.2.2.2.1) (by kernel_rfl) rfl (fun (d:sh102_0.data)=>ok102_0_t d.1.1 d.1.2.1 d.1.2.2.1 d.1.2.2.2.1 d.1.2.2.2.2.1) (fun _=>rfl)
def kl102_0 (P:Go.Program):Known:=(kf116 P).loop 102 0 lc102_0
theorem kl102_0_ok:KnownOk Go.Proofs.Try.prog (kl102_0 Go.Proofs.Try.prog):=kf116_ok.loop ok102_0

/-! ductility/ductilitybase.subDigits -/

abbrev as102:List Ty:=[(.slice (.int .i64)),(.slice (.int .i64))]
abbrev rs102:List Ty:=[(.slice (.int .i64))]

def t102 (x0:(List Int)) (x1:(List Int)):Tr (Tys.data rs102) :=
  Tr.test (isBrk (l102_0 ((x0,(x1,(([]:List Int),((0:Int),((0:Int),()))))),())))
    (let r0:=b102_0 ((x0,(x1,(([]:List Int),((0:Int),((0:Int),()))))),());
    Tr.test (Option.isSome (f113 (r0.1.1,())))
      (let r1:=g113 (r0.1.1,());
      Tr.fin ((r1.1,())))
      (Tr.stop))
    (Tr.stop)

def f102 (d:Tys.data as102):Option (Tys.data rs102):=(t102 d.1 d.2.1).val
def g102 (d:Tys.data as102):Tys.data rs102:=(f102 d).getD (Tys.dflt rs102)
def p102:PureC:=pcOf as102 rs102 f102 g102

theorem wk102 (x0:(List Int)) (x1:(List Int)):Walks (runPure (kl102_0 Go.Proofs.Try.prog).orc Go.Proofs.Try.prog 400 102 as102 rs102 (x0,x1,())) (t102 x0 x1) [([true,true],[2,1,4])] :=
  ⟨by kernel_rfl,trivial⟩

theorem ok102_t (x0:(List Int)) (x1:(List Int)):TrOk (PureRuns Go.Proofs.Try.prog (kl102_0 Go.Proofs.Try.prog).orc 102 as102 rs102 (x0,x1,())) (t102 x0 x1) :=
  Walks.ok (fun _ _ _=>PureRuns.of) (wk102 x0 x1) (by kernel_rfl)

theorem ok102:PureOk Go.Proofs.Try.prog 102 p102:=pureOk_of kl102_0_ok.base (T:=fun (d:Tys.data as102)=>t102 d.1 d.2.1) (by kernel_rfl) (fun (d:Tys.data as102)=>ok102_t d.1 d.2.1)
def kf102 (P:Go.Program):Known:=(kl102_0 P).func 102 p102
theorem kf102_ok:KnownOk Go.Proofs.Try.prog (kf102 Go.Proofs.Try.prog):=kl102_0_ok.func ok102

/-! loop 0 of ductility/ductilitybase.addDigits -/

abbrev sh100_0:Sh:={ n:=42,slots:=[0,1,5,6,7],pats:=[.ty (.slice (.int .i64)),.ty (.slice (.int .i64)),.acc (.int .i64),.ty (.int .i64),.ty (.int .i64)],boxes:=[] }
abbrev shb100_0:Sh:={ n:=42,slots:=[5],pats:=[.acc (.int .i64)],boxes:=[] }
abbrev shr100_0:Sh:={ n:=42,slots:=[],pats:=[],boxes:=[] }

def t100_0 (x0:(List Int)) (x1:(List Int)) (x2:(List Int)) (x3:Int) (x4:Int):Tr (Out sh100_0.data shb100_0.data shr100_0.data) :=
  Tr.test ((!leF (↑(List.length x0):Int) x4:Bool))
    (Tr.test (Option.isSome (f116 (x0,(x4,()))))
      (Tr.test (Option.isSome (f116 (x1,(x4,()))))
        (Tr.test ((Nat.ble (((2:Nat) * (List.length x2 + (1:Nat)) + (192:Nat)) * (8:Nat)) (281474976710656:Nat) && Nat.ble (List.length x2 + (1:Nat)) (281474976710656:Nat):Bool))
          (let r0:=g116 (x0,(x4,()));
          let r1:=g116 (x1,(x4,()));
          Tr.fin (.again ((x0,(x1,((x2++[Int.tmod (wrap64 (wrap64 (r0.1 + r1.1) + x3)) (1000000000:Int)]:List Int),((Go.IntKind.wrap Go.IntKind.i64 (Int.tdiv (wrap64 (wrap64 (r0.1 + r1.1) + x3)) (1000000000:Int)):Int),((wrap64 (x4 + (1:Int)):Int),()))))),())))
          (Tr.stop))
        (Tr.stop))
      (Tr.stop))
    (Tr.test (!leF (↑(List.length x1):Int) x4)
      (Tr.test (Option.isSome (f116 (x0,(x4,()))))
        (Tr.test (Option.isSome (f116 (x1,(x4,()))))
          (Tr.test ((Nat.ble (((2:Nat) * (List.length x2 + (1:Nat)) + (192:Nat)) * (8:Nat)) (281474976710656:Nat) && Nat.ble (List.length x2 + (1:Nat)) (281474976710656:Nat):Bool))
            (let r0:=g116 (x0,(x4,()));
            let r1:=g116 (x1,(x4,()));
            Tr.fin (.again ((x0,(x1,((x2++[Int.tmod (wrap64 (wrap64 (r0.1 + r1.1) + x3)) (1000000000:Int)]:List Int),((Go.IntKind.wrap Go.IntKind.i64 (Int.tdiv (wrap64 (wrap64 (r0.1 + r1.1) + x3)) (1000000000:Int)):Int),((wrap64 (x4 + (1:Int)):Int),()))))),())))
            (Tr.stop))
          (Tr.stop))
        (Tr.stop))
      (Tr.test ((!leF x3 0:Bool))
        (Tr.test (Option.isSome (f116 (x0,(x4,()))))
          (Tr.test (Option.isSome (f116 (x1,(x4,()))))
            (Tr.test ((Nat.ble (((2:Nat) * (List.length x2 + (1:Nat)) + (192:Nat)) * (8:Nat)) (281474976710656:Nat) && Nat.ble (List.length x2 + (1:Nat)) (281474976710656:Nat):Bool))
              (let r0:=g116 (x0,(x4,()));
              let r1:=g116 (x1,(x4,()));
              Tr.fin (.again ((x0,(x1,((x2++[Int.tmod (wrap64 (wrap64 (r0.1 + r1.1) + x3)) (1000000000:Int)]:List Int),((Go.IntKind.wrap Go.IntKind.i64 (Int.tdiv (wrap64 (wrap64 (r0.1 + r1.1) + x3)) (1000000000:Int)):Int),((wrap64 (x4 + (1:Int)):Int),()))))),())))
              (Tr.stop))
            (Tr.stop))
          (Tr.stop))
        (Tr.fin (.brk ((x2,()),())))))

def s100_0 (d:sh100_0.data):Option (Out sh100_0.data shb100_0.data shr100_0.data):=(t100_0 d.1.1 d.1.2.1 d.1.2.2.1 d.1.2.2.2.1 d.1.2.2.2.2.1).val
def l100_0 (d:sh100_0.data):Option (shb100_0.data ⊕ shr100_0.data):=itr s100_0 rounds d
def b100_0 (d:sh100_0.data):shb100_0.data:=outB shb100_0.dflt (l100_0 d)
def lc100_0:LoopC:=lcB sh100_0 shb100_0 shr100_0 l100_0 b100_0

theorem wk100_0 (x0:(List Int)) (x1:(List Int)) (x2:(List Int)) (x3:Int) (x4:Int):Walks (runBody (kf102 Go.Proofs.Try.prog).orc Go.Proofs.Try.prog 400 100 0 sh100_0 shb100_0 shr100_0 ((x0,x1,x2,x3,x4,()),())) (t100_0 x0 x1 x2 x3 x4) [([true,true,true,true],[0,1,2,0,0,4,6,1,1,1,1,8,8,8,8,8]),([false,true,true,true,true],[0,1,2,0,0,4,6,1,8,8,8,10,10,10,10,10]),([false,false,true,true,true,true],[0,1,2,0,0,4,6,8,10,10,10,12,12,12,12,12]),([false,false,false],[2,4,4,4,6,6,6,6,6])] :=
  ⟨by kernel_rfl,by kernel_rfl,by kernel_rfl,by kernel_rfl,trivial⟩

theorem ok100_0_t (x0:(List Int)) (x1:(List Int)) (x2:(List Int)) (x3:Int) (x4:Int):TrOk (BodyRuns Go.Proofs.Try.prog (kf102 Go.Proofs.Try.prog).orc 100 0 sh100_0 shb100_0 shr100_0 ((x0,x1,x2,x3,x4,()),())) (t100_0 x0 x1 x2 x3 x4) :=
  Walks.ok (fun _ _ _=>BodyRuns.of) (wk100_0 x0 x1 x2 x3 x4) (by kernel_rfl)

theorem ok100_0:LoopOk Go.Proofs.Try.prog 100 0 lc100_0:=loopOk_ofB (sh:=sh100_0) (shB:=shb100_0) (shR:=shr100_0) kf102_ok.base (T:=fun (d:sh100_0.data)=>t100_0 d.1.1 d.1.2.1 d.1.2.2.1 d.1.2.2.2.1 d.1.2.2.2.2.1) (by kernel_rfl) rfl (fun (d:sh100_0.data)=>ok100_0_t d.1.1 d.1.2.1 d.1.2.2.1 d.1.2.2.2.1 d.1.2.2.2.2.1) (fun _=>rfl)
def kl100_0 (P:Go.Program):Known:=(kf102 P).loop 100 0 lc100_0
theorem kl100_0_ok:KnownOk Go.Proofs.Try.prog (kl100_0 Go.Proofs.Try.prog):=kf102_ok.loop ok100_0

/-! ductility/ductilitybase.addDigits -/

abbrev as100:List Ty:=[(.slice (.int .i64)),(.slice (.int .i64))]
abbrev rs100:List Ty:=[(.slice (.int .i64))]

def t100 (x0:(List Int)) (x1:(List Int)):Tr (Tys.data rs100) :=
  Tr.test (isBrk (l100_0 ((x0,(x1,(([]:List Int),((0:Int),((0:Int),()))))),())))
    (let r0:=b100_0 ((x0,(x1,(([]:List Int),((0:Int),((0:Int),()))))),());
    Tr.fin ((r0.1.1,())))
    (Tr.stop)

def f100 (d:Tys.data as100):Option (Tys.data rs100):=(t100 d.1 d.2.1).val
def g100 (d:Tys.data as100):Tys.data rs100:=(f100 d).getD (Tys.dflt rs100)
def p100:PureC:=pcOf as100 rs100 f100 g100

theorem wk100 (x0:(List Int)) (x1:(List Int)):Walks (runPure (kl100_0 Go.Proofs.Try.prog).orc Go.Proofs.Try.prog 400 100 as100 rs100 (x0,x1,())) (t100 x0 x1) [([tt],[1,2])] :=
  ⟨by kernel_rfl,trivial⟩

theorem ok100_t (x0:(List Int)) (x1:(List Int)):TrOk (PureRuns Go.Proofs.Try.prog (kl100_0 Go.Proofs.Try.prog).orc 100 as100 rs100 (x0,x1,())) (t100 x0 x1) :=
  Walks.ok (fun _ _ _=>PureRuns.of) (wk100 x0 x1) (by kernel_rfl)

theorem ok100:PureOk Go.Proofs.Try.prog 100 p100:=pureOk_of kl100_0_ok.base (T:=fun (d:Tys.data as100)=>t100 d.1 d.2.1) (by kernel_rfl) (fun (d:Tys.data as100)=>ok100_t d.1 d.2.1)
def kf100 (P:Go.Program):Known:=(kl100_0 P).func 100 p100
theorem kf100_ok:KnownOk Go.Proofs.Try.prog (kf100 Go.Proofs.Try.prog):=kl100_0_ok.func ok100

/-! ductility/ductilitybase.WideAdd -/

abbrev as63:List Ty:=[(.pair (.int .i64) (.pair (.slice (.int .i64)) .unit)),(.pair (.int .i64) (.pair (.slice (.int .i64)) .unit))]
abbrev rs63:List Ty:=[(.pair (.int .i64) (.pair (.slice (.int .i64)) .unit))]

def t63 (x0:Int) (x0':(List Int)) (x1:Int) (x1':(List Int)):Tr (Tys.data rs63) :=
  Tr.test ((eqF x0 0:Bool))
    (Tr.fin (((x1,(x1',())),())))
    (Tr.test (eqF x1 0)
      (Tr.fin (((x0,(x0',())),())))
      (Tr.test ((eqF x0 x1:Bool))
        (Tr.test (Option.isSome (f100 (x0',(x1',()))))
          (let r0:=g100 (x0',(x1',()));
          Tr.test (Option.isSome (f95 (x0,(r0.1,()))))
            (let r1:=g95 (x0,(r0.1,()));
            Tr.fin (((r1.1.1,(r1.1.2.1,())),())))
            (Tr.stop))
          (Tr.stop))
        (Tr.test (Option.isSome (f101 (x0',(x1',()))))
          (let r2:=g101 (x0',(x1',()));
          Tr.test ((eqF r2.1 0:Bool))
            (Tr.fin ((((0:Int),(([]:List Int),())),())))
            (Tr.test ((!leF r2.1 0:Bool))
              (Tr.test (Option.isSome (f102 (x0',(x1',()))))
                (let r3:=g102 (x0',(x1',()));
                Tr.test (Option.isSome (f95 (x0,(r3.1,()))))
                  (let r4:=g95 (x0,(r3.1,()));
                  Tr.fin (((r4.1.1,(r4.1.2.1,())),())))
                  (Tr.stop))
                (Tr.stop))
              (Tr.test (Option.isSome (f102 (x1',(x0',()))))
                (let r5:=g102 (x1',(x0',()));
                Tr.test (Option.isSome (f95 (x1,(r5.1,()))))
                  (let r6:=g95 (x1,(r5.1,()));
                  Tr.fin (((r6.1.1,(r6.1.2.1,())),())))
                  (Tr.stop))
                (Tr.stop))))
          (Tr.stop))))

def f63 (d:Tys.data as63):Option (Tys.data rs63):=(t63 d.1.1 d.1.2.1 d.2.1.1 d.2.1.2.1).val
def g63 (d:Tys.data as63):Tys.data rs63:=(f63 d).getD (Tys.dflt rs63)
def p63:PureC:=pcOf as63 rs63 f63 g63

theorem wk63 (x0:Int) (x0':(List Int)) (x1:Int) (x1':(List Int)):Walks (runPure (kf100 Go.Proofs.Try.prog).orc Go.Proofs.Try.prog 400 63 as63 rs63 ((x0,x0',()),(x1,x1',()),())) (t63 x0 x0' x1 x1') [([tt],[2]),([false,true],[2,4]),([false,false,true,true,true],[2,4,6,8,10]),([false,false,false,true,true],[2,4,6,8,10]),([false,false,false,true,false,true,true,true],[2,4,6,8,10,12,14,16]),([false,false,false,true,false,false,true,true],[2,4,6,8,10,12,14,16])] :=
  ⟨by kernel_rfl,by kernel_rfl,by kernel_rfl,by kernel_rfl,by kernel_rfl,by kernel_rfl,trivial⟩

theorem ok63_t (x0:Int) (x0':(List Int)) (x1:Int) (x1':(List Int)):TrOk (PureRuns Go.Proofs.Try.prog (kf100 Go.Proofs.Try.prog).orc 63 as63 rs63 ((x0,x0',()),(x1,x1',()),())) (t63 x0 x0' x1 x1') :=
  Walks.ok (fun _ _ _=>PureRuns.of) (wk63 x0 x0' x1 x1') (by kernel_rfl)

theorem ok63:PureOk Go.Proofs.Try.prog 63 p63:=pureOk_of kf100_ok.base (T:=fun (d:Tys.data as63)=>t63 d.1.1 d.1.2.1 d.2.1.1 d.2.1.2.1) (by kernel_rfl) (fun (d:Tys.data as63)=>ok63_t d.1.1 d.1.2.1 d.2.1.1 d.2.1.2.1)
def kf63 (P:Go.Program):Known:=(kf100 P).func 63 p63
theorem kf63_ok:KnownOk Go.Proofs.Try.prog (kf63 Go.Proofs.Try.prog):=kf100_ok.func ok63

/-! ductility/ductilitybase.WideSub -/

abbrev as115:List Ty:=[(.pair (.int .i64) (.pair (.slice (.int .i64)) .unit)),(.pair (.int .i64) (.pair (.slice (.int .i64)) .unit))]
abbrev rs115:List Ty:=[(.pair (.int .i64) (.pair (.slice (.int .i64)) .unit))]

def t115 (x0:Int) (x0':(List Int)) (x1:Int) (x1':(List Int)):Tr (Tys.data rs115) :=
  Tr.test (Option.isSome (f96 ((x1,(x1',())),())))
    (let r0:=g96 ((x1,(x1',())),());
    Tr.test (Option.isSome (f63 ((x0,(x0',())),((r0.1.1,(r0.1.2.1,())),()))))
      (let r1:=g63 ((x0,(x0',())),((r0.1.1,(r0.1.2.1,())),()));
      Tr.fin (((r1.1.1,(r1.1.2.1,())),())))
      (Tr.stop))
    (Tr.stop)

def f115 (d:Tys.data as115):Option (Tys.data rs115):=(t115 d.1.1 d.1.2.1 d.2.1.1 d.2.1.2.1).val
def g115 (d:Tys.data as115):Tys.data rs115:=(f115 d).getD (Tys.dflt rs115)
def p115:PureC:=pcOf as115 rs115 f115 g115

theorem wk115 (x0:Int) (x0':(List Int)) (x1:Int) (x1':(List Int)):Walks (runPure (kf63 Go.Proofs.Try.prog).orc Go.Proofs.Try.prog 400 115 as115 rs115 ((x0,x0',()),(x1,x1',()),())) (t115 x0 x0' x1 x1') [([true,true],[2,4])] :=
  ⟨by kernel_rfl,trivial⟩

theorem ok115_t (x0:Int) (x0':(List Int)) (x1:Int) (x1':(List Int)):TrOk (PureRuns Go.Proofs.Try.prog (kf63 Go.Proofs.Try.prog).orc 115 as115 rs115 ((x0,x0',()),(x1,x1',()),())) (t115 x0 x0' x1 x1') :=
  Walks.ok (fun _ _ _=>PureRuns.of) (wk115 x0 x0' x1 x1') (by kernel_rfl)

theorem ok115:PureOk Go.Proofs.Try.prog 115 p115:=pureOk_of kf63_ok.base (T:=fun (d:Tys.data as115)=>t115 d.1.1 d.1.2.1 d.2.1.1 d.2.1.2.1) (by kernel_rfl) (fun (d:Tys.data as115)=>ok115_t d.1.1 d.1.2.1 d.2.1.1 d.2.1.2.1)
def kf115 (P:Go.Program):Known:=(kf63 P).func 115 p115
theorem kf115_ok:KnownOk Go.Proofs.Try.prog (kf115 Go.Proofs.Try.prog):=kf63_ok.func ok115

/-! loop 2 of ductility/ductilitybase.WideFloor -/

abbrev sh99_2:Sh:={ n:=88,slots:=[2,3,4,5,6,7,8,9],pats:=[.ptr 0 2 0,.ptr 1 2 0,.ptr 2 2 0,.sli 3 1,.ty (.slice (.int .i64)),.ty (.int .i64),.ty (.int .i64),.ty (.int .i64)],boxes:=[.row [.ty (.int .i64),.ty (.slice (.int .i64))],.row [.ty (.int .i64),.ty (.slice (.int .i64))],.row [.ty (.int .i64),.nil],.arr (.int .i64)] }
abbrev shb99_2:Sh:={ n:=88,slots:=[2,3,4,5,6,7,8],pats:=[.ptr 0 2 0,.ptr 1 2 0,.ptr 2 2 0,.sli 3 1,.ty (.slice (.int .i64)),.ty (.int .i64),.ty (.int .i64)],boxes:=[.row [.ty (.int .i64),.ty (.slice (.int .i64))],.row [.ty (.int .i64),.ty (.slice (.int .i64))],.row [.ty (.int .i64),.nil],.arr (.int .i64)] }
abbrev shr99_2:Sh:={ n:=88,slots:=[],pats:=[],boxes:=[.row [.ty (.int .i64),.ty (.slice (.int .i64))],.row [.ty (.int .i64),.ty (.slice (.int .i64))],.row [.ty (.int .i64),.nil],.arr (.int .i64)] }

def t99_2 (x3n:Nat) (x3c:Nat) (x4:(List Int)) (x5:Int) (x6:Int) (x7:Int) (b0_0:Int) (b0_1:(List Int)) (b1_0:Int) (b1_1:(List Int)) (b2_0:Int) (b3:(List Int)):Tr (Out sh99_2.data shb99_2.data shr99_2.data) :=
  Tr.test ((!leF x7 x6:Bool))
    (Tr.test (Option.isSome (f95 ((1:Int),(b1_1,()))))
      (Tr.test (Option.isSome (f61 ((Go.IntKind.wrap Go.IntKind.i64 (Int.tdiv (wrap64 (wrap64 (x6 + x7) + (1:Int))) (2:Int)):Int),())))
        (let r0:=g95 ((1:Int),(b1_1,()));
        let r1:=g61 ((Go.IntKind.wrap Go.IntKind.i64 (Int.tdiv (wrap64 (wrap64 (x6 + x7) + (1:Int))) (2:Int)):Int),());
        Tr.test (Option.isSome (f64 ((r0.1.1,(r0.1.2.1,())),((r1.1.1,(r1.1.2.1,())),()))))
          (let r2:=g64 ((r0.1.1,(r0.1.2.1,())),((r1.1.1,(r1.1.2.1,())),()));
          Tr.test (Option.isSome (f101 (r2.1.2.1,(x4,()))))
            (let r3:=g101 (r2.1.2.1,(x4,()));
            Tr.test ((leF r3.1 0:Bool))
              (Tr.fin (.again (((x3n,x3c),(x4,(x5,((Go.IntKind.wrap Go.IntKind.i64 (Int.tdiv (wrap64 (wrap64 (x6 + x7) + (1:Int))) (2:Int)):Int),(x7,()))))),((b0_0,(b0_1,())),((b1_0,(b1_1,())),((b2_0,()),(b3,())))))))
              (Tr.fin (.again (((x3n,x3c),(x4,(x5,(x6,((wrap64 (Go.IntKind.wrap Go.IntKind.i64 (Int.tdiv (wrap64 (wrap64 (x6 + x7) + (1:Int))) (2:Int)) - (1:Int)):Int),()))))),((b0_0,(b0_1,())),((b1_0,(b1_1,())),((b2_0,()),(b3,()))))))))
            (Tr.stop))
          (Tr.stop))
        (Tr.stop))
      (Tr.stop))
    (Tr.fin (.brk (((x3n,x3c),(x4,(x5,(x6,())))),((b0_0,(b0_1,())),((b1_0,(b1_1,())),((b2_0,()),(b3,())))))))

def s99_2 (d:sh99_2.data):Option (Out sh99_2.data shb99_2.data shr99_2.data):=(t99_2 d.1.1.1 d.1.1.2 d.1.2.1 d.1.2.2.1 d.1.2.2.2.1 d.1.2.2.2.2.1 d.2.1.1 d.2.1.2.1 d.2.2.1.1 d.2.2.1.2.1 d.2.2.2.1.1 d.2.2.2.2.1).val
def l99_2 (d:sh99_2.data):Option (shb99_2.data ⊕ shr99_2.data):=itr s99_2 rounds d
def b99_2 (d:sh99_2.data):shb99_2.data:=outB shb99_2.dflt (l99_2 d)
def lc99_2:LoopC:=lcB sh99_2 shb99_2 shr99_2 l99_2 b99_2

theorem wk99_2 (x3n:Nat) (x3c:Nat) (x4:(List Int)) (x5:Int) (x6:Int) (x7:Int) (b0_0:Int) (b0_1:(List Int)) (b1_0:Int) (b1_1:(List Int)) (b2_0:Int) (b3:(List Int)):Walks (runBody (kf115 Go.Proofs.Try.prog).orc Go.Proofs.Try.prog 400 99 2 sh99_2 shb99_2 shr99_2 (((x3n,x3c),x4,x5,x6,x7,()),(b0_0,b0_1,()),(b1_0,b1_1,()),(b2_0,()),b3,())) (t99_2 x3n x3c x4 x5 x6 x7 b0_0 b0_1 b1_0 b1_1 b2_0 b3) [([true,true,true,true,true,true],[2,4,6,8,10,0,12]),([true,true,true,true,true,false],[2,4,6,8,10,0,12]),([ff],[2])] :=
  ⟨by kernel_rfl,by kernel_rfl,by kernel_rfl,trivial⟩

theorem ok99_2_t (x3n:Nat) (x3c:Nat) (x4:(List Int)) (x5:Int) (x6:Int) (x7:Int) (b0_0:Int) (b0_1:(List Int)) (b1_0:Int) (b1_1:(List Int)) (b2_0:Int) (b3:(List Int)):TrOk (BodyRuns Go.Proofs.Try.prog (kf115 Go.Proofs.Try.prog).orc 99 2 sh99_2 shb99_2 shr99_2 (((x3n,x3c),x4,x5,x6,x7,()),(b0_0,b0_1,()),(b1_0,b1_1,()),(b2_0,()),b3,())) (t99_2 x3n x3c x4 x5 x6 x7 b0_0 b0_1 b1_0 b1_1 b2_0 b3) :=
  Walks.ok (fun _ _ _=>BodyRuns.of) (wk99_2 x3n x3c x4 x5 x6 x7 b0_0 b0_1 b1_0 b1_1 b2_0 b3) (by kernel_rfl)

theorem ok99_2:LoopOk Go.Proofs.Try.prog 99 2 lc99_2:=loopOk_ofB (sh:=sh99_2) (shB:=shb99_2) (shR:=shr99_2) kf115_ok.base (T:=fun (d:sh99_2.data)=>t99_2 d.1.1.1 d.1.1.2 d.1.2.1 d.1.2.2.1 d.1.2.2.2.1 d.1.2.2.2.2.1 d.2.1.1 d.2.1.2.1 d.2.2.1.1 d.2.2.1.2.1 d.2.2.2.1.1 d.2.2.2.2.1) (by kernel_rfl) rfl (fun (d:sh99_2.data)=>ok99_2_t d.1.1.1 d.1.1.2 d.1.2.1 d.1.2.2.1 d.1.2.2.2.1 d.1.2.2.2.2.1 d.2.1.1 d.2.1.2.1 d.2.2.1.1 d.2.2.1.2.1 d.2.2.2.1.1 d.2.2.2.2.1) (fun _=>rfl)
def kl99_2 (P:Go.Program):Known:=(kf115 P).loop 99 2 lc99_2
theorem kl99_2_ok:KnownOk Go.Proofs.Try.prog (kl99_2 Go.Proofs.Try.prog):=kf115_ok.loop ok99_2

/-! loop 0 of ductility/ductilitybase.WideFloor -/

abbrev sh99_0:Sh:={ n:=88,slots:=[2,3,4,5,6,7],pats:=[.ptr 0 2 0,.ptr 1 2 0,.ptr 2 2 0,.sli 3 1,.ty (.slice (.int .i64)),.ty (.int .i64)],boxes:=[.row [.ty (.int .i64),.ty (.slice (.int .i64))],.row [.ty (.int .i64),.ty (.slice (.int .i64))],.row [.ty (.int .i64),.nil],.arr (.int .i64)] }
abbrev shb99_0:Sh:={ n:=88,slots:=[2,4,5,6],pats:=[.ptr 0 2 0,.ptr 2 2 0,.sli 3 1,.ty (.slice (.int .i64))],boxes:=[.row [.ty (.int .i64),.ty (.slice (.int .i64))],.row [.ty (.int .i64),.ty (.slice (.int .i64))],.row [.ty (.int .i64),.nil],.arr (.int .i64)] }
abbrev shr99_0:Sh:={ n:=88,slots:=[],pats:=[],boxes:=[.row [.ty (.int .i64),.ty (.slice (.int .i64))],.row [.ty (.int .i64),.ty (.slice (.int .i64))],.row [.ty (.int .i64),.nil],.arr (.int .i64)] }

def t99_0 (x3n:Nat) (x3c:Nat) (x4:(List Int)) (x5:Int) (b0_0:Int) (b0_1:(List Int)) (b1_0:Int) (b1_1:(List Int)) (b2_0:Int) (b3:(List Int)):Tr (Out sh99_0.data shb99_0.data shr99_0.data) :=
  Tr.test ((leF (0:Int) x5:Bool))
    (Tr.test (decide ((0:Int) ≤ x5) && decide (x5 < (↑(List.length b0_1):Int)))
      (Tr.test ((Nat.beq (List.length x4) (0:Nat):Bool))
        (Tr.test (Option.isSome (f113 (([List.getD b0_1 (Int.toNat x5) (0:Int)]:List Int),())))
          (let r0:=g113 (([List.getD b0_1 (Int.toNat x5) (0:Int)]:List Int),());
          Tr.test (isBrk (l99_2 (((x3n,x3c),(r0.1,(x5,((0:Int),((999999999:Int),()))))),((b0_0,(b0_1,())),((b1_0,(b1_1,())),((b2_0,()),(b3,())))))))
            (let r2:=b99_2 (((x3n,x3c),(r0.1,(x5,((0:Int),((999999999:Int),()))))),((b0_0,(b0_1,())),((b1_0,(b1_1,())),((b2_0,()),(b3,())))));
            Tr.test ((decide ((0:Int) ≤ r2.1.2.2.1) && decide (r2.1.2.2.1 < (↑r2.1.1.1:Int)):Bool))
              (Tr.test ((Nat.ble ((0:Nat) + Int.toNat r2.1.2.2.1 + (1:Nat)) (List.length r2.2.2.2.2.1):Bool))
                (Tr.test (Option.isSome (f95 ((1:Int),(r2.2.2.1.2.1,()))))
                  (Tr.test (Option.isSome (f61 (r2.1.2.2.2.1,())))
                    (let r3:=g95 ((1:Int),(r2.2.2.1.2.1,()));
                    let r4:=g61 (r2.1.2.2.2.1,());
                    Tr.test (Option.isSome (f64 ((r3.1.1,(r3.1.2.1,())),((r4.1.1,(r4.1.2.1,())),()))))
                      (let r5:=g64 ((r3.1.1,(r3.1.2.1,())),((r4.1.1,(r4.1.2.1,())),()));
                      Tr.test (Option.isSome (f102 (r2.1.2.1,(r5.1.2.1,()))))
                        (let r6:=g102 (r2.1.2.1,(r5.1.2.1,()));
                        Tr.fin (.again (((r2.1.1.1,r2.1.1.2),(r6.1,((wrap64 (r2.1.2.2.1 - (1:Int)):Int),()))),((r2.2.1.1,(r2.2.1.2.1,())),((r2.2.2.1.1,(r2.2.2.1.2.1,())),((r2.2.2.2.1.1,()),((List.set r2.2.2.2.2.1 ((0:Nat) + Int.toNat r2.1.2.2.1) r2.1.2.2.2.1:List Int),())))))))
                        (Tr.stop))
                      (Tr.stop))
                    (Tr.stop))
                  (Tr.stop))
                (Tr.stop))
              (Tr.stop))
            (Tr.stop))
          (Tr.stop))
        (Tr.test ((Nat.ble ((1:Nat) + List.length x4) (1:Nat):Bool))
          (Tr.stop)
          (Tr.test ((Nat.ble (((2:Nat) * ((1:Nat) + List.length x4) + (192:Nat)) * (8:Nat)) (281474976710656:Nat) && Nat.ble ((1:Nat) + List.length x4) (281474976710656:Nat):Bool))
            (Tr.test ((Nat.beq ((1:Nat) + List.length x4) (List.length ([List.getD b0_1 (Int.toNat x5) (0:Int)]++x4)):Bool))
              (Tr.test (Option.isSome (f113 (([List.getD b0_1 (Int.toNat x5) (0:Int)]++x4:List Int),())))
                (let r1:=g113 (([List.getD b0_1 (Int.toNat x5) (0:Int)]++x4:List Int),());
                Tr.test (isBrk (l99_2 (((x3n,x3c),(r1.1,(x5,((0:Int),((999999999:Int),()))))),((b0_0,(b0_1,())),((b1_0,(b1_1,())),((b2_0,()),(b3,())))))))
                  (let r7:=b99_2 (((x3n,x3c),(r1.1,(x5,((0:Int),((999999999:Int),()))))),((b0_0,(b0_1,())),((b1_0,(b1_1,())),((b2_0,()),(b3,())))));
                  Tr.test ((decide ((0:Int) ≤ r7.1.2.2.1) && decide (r7.1.2.2.1 < (↑r7.1.1.1:Int)):Bool))
                    (Tr.test ((Nat.ble ((0:Nat) + Int.toNat r7.1.2.2.1 + (1:Nat)) (List.length r7.2.2.2.2.1):Bool))
                      (Tr.test (Option.isSome (f95 ((1:Int),(r7.2.2.1.2.1,()))))
                        (Tr.test (Option.isSome (f61 (r7.1.2.2.2.1,())))
                          (let r8:=g95 ((1:Int),(r7.2.2.1.2.1,()));
                          let r9:=g61 (r7.1.2.2.2.1,());
                          Tr.test (Option.isSome (f64 ((r8.1.1,(r8.1.2.1,())),((r9.1.1,(r9.1.2.1,())),()))))
                            (let r10:=g64 ((r8.1.1,(r8.1.2.1,())),((r9.1.1,(r9.1.2.1,())),()));
                            Tr.test (Option.isSome (f102 (r7.1.2.1,(r10.1.2.1,()))))
                              (let r11:=g102 (r7.1.2.1,(r10.1.2.1,()));
                              Tr.fin (.again (((r7.1.1.1,r7.1.1.2),(r11.1,((wrap64 (r7.1.2.2.1 - (1:Int)):Int),()))),((r7.2.1.1,(r7.2.1.2.1,())),((r7.2.2.1.1,(r7.2.2.1.2.1,())),((r7.2.2.2.1.1,()),((List.set r7.2.2.2.2.1 ((0:Nat) + Int.toNat r7.1.2.2.1) r7.1.2.2.2.1:List Int),())))))))
                              (Tr.stop))
                            (Tr.stop))
                          (Tr.stop))
                        (Tr.stop))
                      (Tr.stop))
                    (Tr.stop))
                  (Tr.stop))
                (Tr.stop))
              (Tr.stop))
            (Tr.stop))))
      (Tr.stop))
    (Tr.fin (.brk (((x3n,x3c),(x4,())),((b0_0,(b0_1,())),((b1_0,(b1_1,())),((b2_0,()),(b3,())))))))

def s99_0 (d:sh99_0.data):Option (Out sh99_0.data shb99_0.data shr99_0.data):=(t99_0 d.1.1.1 d.1.1.2 d.1.2.1 d.1.2.2.1 d.2.1.1 d.2.1.2.1 d.2.2.1.1 d.2.2.1.2.1 d.2.2.2.1.1 d.2.2.2.2.1).val
def l99_0 (d:sh99_0.data):Option (shb99_0.data ⊕ shr99_0.data):=itr s99_0 rounds d
def b99_0 (d:sh99_0.data):shb99_0.data:=outB shb99_0.dflt (l99_0 d)
def lc99_0:LoopC:=lcB sh99_0 shb99_0 shr99_0 l99_0 b99_0

theorem wk99_0 (x3n:Nat) (x3c:Nat) (x4:(List Int)) (x5:Int) (b0_0:Int) (b0_1:(List Int)) (b1_0:Int) (b1_1:(List Int)) (b2_0:Int) (b3:(List Int)):Walks (runBody (kl99_2 Go.Proofs.Try.prog).orc Go.Proofs.Try.prog 400 99 0 sh99_0 shb99_0 shr99_0 (((x3n,x3c),x4,x5,()),(b0_0,b0_1,()),(b1_0,b1_1,()),(b2_0,()),b3,())) (t99_0 x3n x3c x4 x5 b0_0 b0_1 b1_0 b1_1 b2_0 b3) [([true,true,true,true,true,true,true,true,true,true,true],[2,4,6,8,10,12,1,14,16,1,18,20,22]),([true,true,false,false,true,true,true,true,true,true,true,true,true,true],[2,4,6,8,10,12,1,14,16,18,1,20,22,24,26,28]),([ff],[2])] :=
  ⟨by kernel_rfl,by kernel_rfl,by kernel_rfl,trivial⟩

theorem ok99_0_t (x3n:Nat) (x3c:Nat) (x4:(List Int)) (x5:Int) (b0_0:Int) (b0_1:(List Int)) (b1_0:Int) (b1_1:(List Int)) (b2_0:Int) (b3:(List Int)):TrOk (BodyRuns Go.Proofs.Try.prog (kl99_2 Go.Proofs.Try.prog).orc 99 0 sh99_0 shb99_0 shr99_0 (((x3n,x3c),x4,x5,()),(b0_0,b0_1,()),(b1_0,b1_1,()),(b2_0,()),b3,())) (t99_0 x3n x3c x4 x5 b0_0 b0_1 b1_0 b1_1 b2_0 b3) :=
  Walks.ok (fun _ _ _=>BodyRuns.of) (wk99_0 x3n x3c x4 x5 b0_0 b0_1 b1_0 b1_1 b2_0 b3) (by kernel_rfl)

theorem ok99_0:LoopOk Go.Proofs.Try.prog 99 0 lc99_0:=loopOk_ofB (sh:=sh99_0) (shB:=shb99_0) (shR:=shr99_0) kl99_2_ok.base (T:=fun (d:sh99_0.data)=>t99_0 d.1.1.1 d.1.1.2 d.1.2.1 d.1.2.2.1 d.2.1.1 d.2.1.2.1 d.2.2.1.1 d.2.2.1.2.1 d.2.2.2.1.1 d.2.2.2.2.1) (by kernel_rfl) rfl (fun (d:sh99_0.data)=>ok99_0_t d.1.1.1 d.1.1.2 d.1.2.1 d.1.2.2.1 d.2.1.1 d.2.1.2.1 d.2.2.1.1 d.2.2.1.2.1 d.2.2.2.1.1 d.2.2.2.2.1) (fun _=>rfl)
def kl99_0 (P:Go.Program):Known:=(kl99_2 P).loop 99 0 lc99_0
theorem kl99_0_ok:KnownOk Go.Proofs.Try.prog (kl99_0 Go.Proofs.Try.prog):=kl99_2_ok.loop ok99_0

/-! ductility/ductilitybase.WideFloor -/

abbrev as99:List Ty:=[(.pair (.int .i64) (.pair (.slice (.int .i64)) .unit)),(.pair (.int .i64) (.pair (.slice (.int .i64)) .unit))]
abbrev rs99:List Ty:=[(.pair (.int .i64) (.pair (.slice (.int .i64)) .unit))]

def t99 (x0:Int) (x0':(List Int)) (x1:Int) (x1':(List Int)):Tr (Tys.data rs99) :=
  Tr.test ((eqF x0 0:Bool))
    (Tr.fin ((((0:Int),(([]:List Int),())),())))
    (Tr.test (decide ((0:Int) ≤ (↑(List.length x0'):Int)) && decide ((↑(List.length x0'):Int) ≤ (↑(List.length x0'):Int)) && decide ((8:Int) * (↑(List.length x0'):Int) ≤ (281474976710656:Int)) && decide ((↑(List.length x0'):Int) ≤ (281474976710656:Int)))
      (Tr.test (isBrk (l99_0 ((((Int.toNat (↑(List.length x0'):Int):Nat),(Int.toNat (↑(List.length x0'):Int):Nat)),(([]:List Int),((wrap64 ((↑(List.length x0'):Int) - (1:Int)):Int),()))),((x0,(x0',())),((x1,(x1',())),(((0:Int),()),((List.replicate (Int.toNat (↑(List.length x0'):Int)) (0:Int):List Int),())))))))
        (let r0:=b99_0 ((((Int.toNat (↑(List.length x0'):Int):Nat),(Int.toNat (↑(List.length x0'):Int):Nat)),(([]:List Int),((wrap64 ((↑(List.length x0'):Int) - (1:Int)):Int),()))),((x0,(x0',())),((x1,(x1',())),(((0:Int),()),((List.replicate (Int.toNat (↑(List.length x0'):Int)) (0:Int):List Int),())))));
        Tr.test ((Nat.beq r0.1.1.1 (List.length r0.2.2.2.2.1):Bool))
          (Tr.test (Option.isSome (f95 (r0.2.1.1,(r0.2.2.2.2.1,()))))
            (Tr.test ((!leF (0:Int) r0.2.1.1:Bool))
              (Tr.test ((!leF (↑(List.length r0.1.2.1):Int) (0:Int):Bool))
                (Tr.test (Option.isSome (f61 ((1:Int),())))
                  (let r1:=g95 (r0.2.1.1,(r0.2.2.2.2.1,()));
                  let r3:=g61 ((1:Int),());
                  Tr.test (Option.isSome (f115 ((r1.1.1,(r1.1.2.1,())),((r3.1.1,(r3.1.2.1,())),()))))
                    (let r4:=g115 ((r1.1.1,(r1.1.2.1,())),((r3.1.1,(r3.1.2.1,())),()));
                    Tr.fin (((r4.1.1,(r4.1.2.1,())),())))
                    (Tr.stop))
                  (Tr.stop))
                (let r1:=g95 (r0.2.1.1,(r0.2.2.2.2.1,()));
                Tr.fin (((r1.1.1,(r1.1.2.1,())),()))))
              (let r1:=g95 (r0.2.1.1,(r0.2.2.2.2.1,()));
              Tr.fin (((r1.1.1,(r1.1.2.1,())),()))))
            (Tr.stop))
          (Tr.test ((Nat.ble r0.1.1.1 (List.length r0.2.2.2.2.1):Bool))
            (Tr.test (Option.isSome (f95 (r0.2.1.1,((List.take r0.1.1.1 r0.2.2.2.2.1:List Int),()))))
              (Tr.test ((!leF (0:Int) r0.2.1.1:Bool))
                (Tr.test ((!leF (↑(List.length r0.1.2.1):Int) (0:Int):Bool))
                  (Tr.test (Option.isSome (f61 ((1:Int),())))
                    (let r2:=g95 (r0.2.1.1,((List.take r0.1.1.1 r0.2.2.2.2.1:List Int),()));
                    let r3:=g61 ((1:Int),());
                    Tr.test (Option.isSome (f115 ((r2.1.1,(r2.1.2.1,())),((r3.1.1,(r3.1.2.1,())),()))))
                      (let r5:=g115 ((r2.1.1,(r2.1.2.1,())),((r3.1.1,(r3.1.2.1,())),()));
                      Tr.fin (((r5.1.1,(r5.1.2.1,())),())))
                      (Tr.stop))
                    (Tr.stop))
                  (let r2:=g95 (r0.2.1.1,((List.take r0.1.1.1 r0.2.2.2.2.1:List Int),()));
                  Tr.fin (((r2.1.1,(r2.1.2.1,())),()))))
                (let r2:=g95 (r0.2.1.1,((List.take r0.1.1.1 r0.2.2.2.2.1:List Int),()));
                Tr.fin (((r2.1.1,(r2.1.2.1,())),()))))
              (Tr.stop))
            (Tr.stop /- a known call [op 3 of region 16 of F99] -/)))
        (Tr.stop))
      (Tr.stop))

def f99 (d:Tys.data as99):Option (Tys.data rs99):=(t99 d.1.1 d.1.2.1 d.2.1.1 d.2.1.2.1).val
def g99 (d:Tys.data as99):Tys.data rs99:=(f99 d).getD (Tys.dflt rs99)
def p99:PureC:=pcOf as99 rs99 f99 g99

theorem wk99 (x0:Int) (x0':(List Int)) (x1:Int) (x1':(List Int)):Walks (runPure (kl99_0 Go.Proofs.Try.prog).orc Go.Proofs.Try.prog 400 99 as99 rs99 ((x0,x0',()),(x1,x1',()),())) (t99 x0 x0' x1 x1') [([tt],[2]),([false,true,true,true,true,true,true,true,true],[2,4,6,8,8,8,8,10,12,1,14,16,18]),([false,true,true,true,true,true,false],[2,4,4,4,4,6,8,1,10,12,14]),([false,true,true,true,true,false],[0,2,2,2,2,4,6,1,8,10,12]),([false,true,true,false,true,true,true,true,true,true],[2,4,6,8,8,8,8,10,12,14,1,16,18,20]),([false,true,true,false,true,true,true,false],[2,4,4,4,4,6,8,10,1,12,14,16]),([false,true,true,false,true,true,false],[0,2,2,2,2,4,6,8,1,10,12,14])] :=
  ⟨by kernel_rfl,by kernel_rfl,by kernel_rfl,by kernel_rfl,by kernel_rfl,by kernel_rfl,by kernel_rfl,trivial⟩

theorem ok99_t (x0:Int) (x0':(List Int)) (x1:Int) (x1':(List Int)):TrOk (PureRuns Go.Proofs.Try.prog (kl99_0 Go.Proofs.Try.prog).orc 99 as99 rs99 ((x0,x0',()),(x1,x1',()),())) (t99 x0 x0' x1 x1') :=
  Walks.ok (fun _ _ _=>PureRuns.of) (wk99 x0 x0' x1 x1') (by kernel_rfl)

theorem ok99:PureOk Go.Proofs.Try.prog 99 p99:=pureOk_of kl99_0_ok.base (T:=fun (d:Tys.data as99)=>t99 d.1.1 d.1.2.1 d.2.1.1 d.2.1.2.1) (by kernel_rfl) (fun (d:Tys.data as99)=>ok99_t d.1.1 d.1.2.1 d.2.1.1 d.2.1.2.1)
def kf99 (P:Go.Program):Known:=(kl99_0 P).func 99 p99
theorem kf99_ok:KnownOk Go.Proofs.Try.prog (kf99 Go.Proofs.Try.prog):=kl99_0_ok.func ok99

/-! loop 0 of ductility/ductilitybase.wideGcd -/

abbrev sh97_0:Sh:={ n:=23,slots:=[2,3,4],pats:=[.ptr 0 2 0,.ptr 1 2 0,.ptr 2 2 0],boxes:=[.row [.ty (.int .i64),.ty (.slice (.int .i64))],.row [.ty (.int .i64),.ty (.slice (.int .i64))],.row [.ty (.int .i64),.nil]] }
abbrev shb97_0:Sh:={ n:=23,slots:=[2,4],pats:=[.ptr 0 2 0,.ptr 2 2 0],boxes:=[.row [.ty (.int .i64),.ty (.slice (.int .i64))],.row [.ty (.int .i64),.ty (.slice (.int .i64))],.row [.ty (.int .i64),.nil]] }
abbrev shr97_0:Sh:={ n:=23,slots:=[],pats:=[],boxes:=[.row [.ty (.int .i64),.ty (.slice (.int .i64))],.row [.ty (.int .i64),.ty (.slice (.int .i64))],.row [.ty (.int .i64),.nil]] }

def t97_0 (b0_0:Int) (b0_1:(List Int)) (b1_0:Int) (b1_1:(List Int)) (b2_0:Int):Tr (Out sh97_0.data shb97_0.data shr97_0.data) :=
  Tr.test (Option.isSome (f65 ((b1_0,(b1_1,())),())))
    (let r0:=g65 ((b1_0,(b1_1,())),());
    Tr.test ((!eqF r0.1 0:Bool))
      (Tr.test (Option.isSome (f99 ((b0_0,(b0_1,())),((b1_0,(b1_1,())),()))))
        (let r1:=g99 ((b0_0,(b0_1,())),((b1_0,(b1_1,())),()));
        Tr.test (Option.isSome (f64 ((r1.1.1,(r1.1.2.1,())),((b1_0,(b1_1,())),()))))
          (let r2:=g64 ((r1.1.1,(r1.1.2.1,())),((b1_0,(b1_1,())),()));
          Tr.test (Option.isSome (f115 ((b0_0,(b0_1,())),((r2.1.1,(r2.1.2.1,())),()))))
            (let r3:=g115 ((b0_0,(b0_1,())),((r2.1.1,(r2.1.2.1,())),()));
            Tr.fin (.again ((),((b1_0,(b1_1,())),((r3.1.1,(r3.1.2.1,())),((b2_0,()),()))))))
            (Tr.stop))
          (Tr.stop))
        (Tr.stop))
      (Tr.fin (.brk ((),((b0_0,(b0_1,())),((b1_0,(b1_1,())),((b2_0,()),())))))))
    (Tr.stop)

def s97_0 (d:sh97_0.data):Option (Out sh97_0.data shb97_0.data shr97_0.data):=(t97_0 d.2.1.1 d.2.1.2.1 d.2.2.1.1 d.2.2.1.2.1 d.2.2.2.1.1).val
def l97_0 (d:sh97_0.data):Option (shb97_0.data ⊕ shr97_0.data):=itr s97_0 rounds d
def b97_0 (d:sh97_0.data):shb97_0.data:=outB shb97_0.dflt (l97_0 d)
def lc97_0:LoopC:=lcB sh97_0 shb97_0 shr97_0 l97_0 b97_0

theorem wk97_0 (b0_0:Int) (b0_1:(List Int)) (b1_0:Int) (b1_1:(List Int)) (b2_0:Int):Walks (runBody (kf99 Go.Proofs.Try.prog).orc Go.Proofs.Try.prog 400 97 0 sh97_0 shb97_0 shr97_0 ((),(b0_0,b0_1,()),(b1_0,b1_1,()),(b2_0,()),())) (t97_0 b0_0 b0_1 b1_0 b1_1 b2_0) [([true,true,true,true,true],[2,4,6,8,10]),([true,false],[2,4])] :=
  ⟨by kernel_rfl,by kernel_rfl,trivial⟩

theorem ok97_0_t (b0_0:Int) (b0_1:(List Int)) (b1_0:Int) (b1_1:(List Int)) (b2_0:Int):TrOk (BodyRuns Go.Proofs.Try.prog (kf99 Go.Proofs.Try.prog).orc 97 0 sh97_0 shb97_0 shr97_0 ((),(b0_0,b0_1,()),(b1_0,b1_1,()),(b2_0,()),())) (t97_0 b0_0 b0_1 b1_0 b1_1 b2_0) :=
  Walks.ok (fun _ _ _=>BodyRuns.of) (wk97_0 b0_0 b0_1 b1_0 b1_1 b2_0) (by kernel_rfl)

theorem ok97_0:LoopOk Go.Proofs.Try.prog 97 0 lc97_0:=loopOk_ofB (sh:=sh97_0) (shB:=shb97_0) (shR:=shr97_0) kf99_ok.base (T:=fun (d:sh97_0.data)=>t97_0 d.2.1.1 d.2.1.2.1 d.2.2.1.1 d.2.2.1.2.1 d.2.2.2.1.1) (by kernel_rfl) rfl (fun (d:sh97_0.data)=>ok97_0_t d.2.1.1 d.2.1.2.1 d.2.2.1.1 d.2.2.1.2.1 d.2.2.2.1.1) (fun _=>rfl)
def kl97_0 (P:Go.Program):Known:=(kf99 P).loop 97 0 lc97_0
theorem kl97_0_ok:KnownOk Go.Proofs.Try.prog (kl97_0 Go.Proofs.Try.prog):=kf99_ok.loop ok97_0

/-! ductility/ductilitybase.wideGcd -/

abbrev as97:List Ty:=[(.pair (.int .i64) (.pair (.slice (.int .i64)) .unit)),(.pair (.int .i64) (.pair (.slice (.int .i64)) .unit))]
abbrev rs97:List Ty:=[(.pair (.int .i64) (.pair (.slice (.int .i64)) .unit))]

def t97 (x0:Int) (x0':(List Int)) (x1:Int) (x1':(List Int)):Tr (Tys.data rs97) :=
  Tr.test (Option.isSome (f114 ((x0,(x0',())),())))
    (Tr.test (Option.isSome (f114 ((x1,(x1',())),())))
      (let r0:=g114 ((x0,(x0',())),());
      let r1:=g114 ((x1,(x1',())),());
      Tr.test (isBrk (l97_0 ((),((r0.1.1,(r0.1.2.1,())),((r1.1.1,(r1.1.2.1,())),(((0:Int),()),()))))))
        (let r2:=b97_0 ((),((r0.1.1,(r0.1.2.1,())),((r1.1.1,(r1.1.2.1,())),(((0:Int),()),()))));
        Tr.fin (((r2.2.1.1,(r2.2.1.2.1,())),())))
        (Tr.stop))
      (Tr.stop))
    (Tr.stop)

def f97 (d:Tys.data as97):Option (Tys.data rs97):=(t97 d.1.1 d.1.2.1 d.2.1.1 d.2.1.2.1).val
def g97 (d:Tys.data as97):Tys.data rs97:=(f97 d).getD (Tys.dflt rs97)
def p97:PureC:=pcOf as97 rs97 f97 g97

theorem wk97 (x0:Int) (x0':(List Int)) (x1:Int) (x1':(List Int)):Walks (runPure (kl97_0 Go.Proofs.Try.prog).orc Go.Proofs.Try.prog 400 97 as97 rs97 ((x0,x0',()),(x1,x1',()),())) (t97 x0 x0' x1 x1') [([true,true,true],[1,2,4,6])] :=
  ⟨by kernel_rfl,trivial⟩

theorem ok97_t (x0:Int) (x0':(List Int)) (x1:Int) (x1':(List Int)):TrOk (PureRuns Go.Proofs.Try.prog (kl97_0 Go.Proofs.Try.prog).orc 97 as97 rs97 ((x0,x0',()),(x1,x1',()),())) (t97 x0 x0' x1 x1') :=
  Walks.ok (fun _ _ _=>PureRuns.of) (wk97 x0 x0' x1 x1') (by kernel_rfl)

theorem ok97:PureOk Go.Proofs.Try.prog 97 p97:=pureOk_of kl97_0_ok.base (T:=fun (d:Tys.data as97)=>t97 d.1.1 d.1.2.1 d.2.1.1 d.2.1.2.1) (by kernel_rfl) (fun (d:Tys.data as97)=>ok97_t d.1.1 d.1.2.1 d.2.1.1 d.2.1.2.1)
def kf97 (P:Go.Program):Known:=(kl97_0 P).func 97 p97
theorem kf97_ok:KnownOk Go.Proofs.Try.prog (kf97 Go.Proofs.Try.prog):=kl97_0_ok.func ok97

/-! ductility/ductilitybase.WideCmp -/

abbrev as98:List Ty:=[(.pair (.int .i64) (.pair (.slice (.int .i64)) .unit)),(.pair (.int .i64) (.pair (.slice (.int .i64)) .unit))]
abbrev rs98:List Ty:=[(.int .i64)]

def t98 (x0:Int) (x0':(List Int)) (x1:Int) (x1':(List Int)):Tr (Tys.data rs98) :=
  Tr.test (Option.isSome (f115 ((x0,(x0',())),((x1,(x1',())),()))))
    (let r0:=g115 ((x0,(x0',())),((x1,(x1',())),()));
    Tr.fin ((r0.1.1,())))
    (Tr.stop)

def f98 (d:Tys.data as98):Option (Tys.data rs98):=(t98 d.1.1 d.1.2.1 d.2.1.1 d.2.1.2.1).val
def g98 (d:Tys.data as98):Tys.data rs98:=(f98 d).getD (Tys.dflt rs98)
def p98:PureC:=pcOf as98 rs98 f98 g98

theorem wk98 (x0:Int) (x0':(List Int)) (x1:Int) (x1':(List Int)):Walks (runPure (kf97 Go.Proofs.Try.prog).orc Go.Proofs.Try.prog 400 98 as98 rs98 ((x0,x0',()),(x1,x1',()),())) (t98 x0 x0' x1 x1') [([tt],[2])] :=
  ⟨by kernel_rfl,trivial⟩

theorem ok98_t (x0:Int) (x0':(List Int)) (x1:Int) (x1':(List Int)):TrOk (PureRuns Go.Proofs.Try.prog (kf97 Go.Proofs.Try.prog).orc 98 as98 rs98 ((x0,x0',()),(x1,x1',()),())) (t98 x0 x0' x1 x1') :=
  Walks.ok (fun _ _ _=>PureRuns.of) (wk98 x0 x0' x1 x1') (by kernel_rfl)

theorem ok98:PureOk Go.Proofs.Try.prog 98 p98:=pureOk_of kf97_ok.base (T:=fun (d:Tys.data as98)=>t98 d.1.1 d.1.2.1 d.2.1.1 d.2.1.2.1) (by kernel_rfl) (fun (d:Tys.data as98)=>ok98_t d.1.1 d.1.2.1 d.2.1.1 d.2.1.2.1)
def kf98 (P:Go.Program):Known:=(kf97 P).func 98 p98
theorem kf98_ok:KnownOk Go.Proofs.Try.prog (kf98 Go.Proofs.Try.prog):=kf97_ok.func ok98

/-! ductility/ductilitybase.RatioMake -/

abbrev as62:List Ty:=[(.pair (.int .i64) (.pair (.slice (.int .i64)) .unit)),(.pair (.int .i64) (.pair (.slice (.int .i64)) .unit))]
abbrev rs62:List Ty:=[(.pair (.pair (.int .i64) (.pair (.slice (.int .i64)) .unit)) (.pair (.pair (.int .i64) (.pair (.slice (.int .i64)) .unit)) .unit))]

def t62 (x0:Int) (x0':(List Int)) (x1:Int) (x1':(List Int)):Tr (Tys.data rs62) :=
  Tr.test (Option.isSome (f65 ((x1,(x1',())),())))
    (let r0:=g65 ((x1,(x1',())),());
    Tr.test ((!leF (0:Int) r0.1:Bool))
      (Tr.test (Option.isSome (f96 ((x0,(x0',())),())))
        (Tr.test (Option.isSome (f96 ((x1,(x1',())),())))
          (let r1:=g96 ((x0,(x0',())),());
          let r2:=g96 ((x1,(x1',())),());
          Tr.test (Option.isSome (f97 ((r1.1.1,(r1.1.2.1,())),((r2.1.1,(r2.1.2.1,())),()))))
            (Tr.test (Option.isSome (f61 ((1:Int),())))
              (let r3:=g97 ((r1.1.1,(r1.1.2.1,())),((r2.1.1,(r2.1.2.1,())),()));
              let r4:=g61 ((1:Int),());
              Tr.test (Option.isSome (f98 ((r3.1.1,(r3.1.2.1,())),((r4.1.1,(r4.1.2.1,())),()))))
                (let r5:=g98 ((r3.1.1,(r3.1.2.1,())),((r4.1.1,(r4.1.2.1,())),()));
                Tr.test ((eqF r5.1 0:Bool))
                  (Tr.fin ((((r1.1.1,(r1.1.2.1,())),((r2.1.1,(r2.1.2.1,())),())),())))
                  (Tr.test (Option.isSome (f99 ((r1.1.1,(r1.1.2.1,())),((r3.1.1,(r3.1.2.1,())),()))))
                    (Tr.test (Option.isSome (f99 ((r2.1.1,(r2.1.2.1,())),((r3.1.1,(r3.1.2.1,())),()))))
                      (let r6:=g99 ((r1.1.1,(r1.1.2.1,())),((r3.1.1,(r3.1.2.1,())),()));
                      let r7:=g99 ((r2.1.1,(r2.1.2.1,())),((r3.1.1,(r3.1.2.1,())),()));
                      Tr.fin ((((r6.1.1,(r6.1.2.1,())),((r7.1.1,(r7.1.2.1,())),())),())))
                      (Tr.stop))
                    (Tr.stop)))
                (Tr.stop))
              (Tr.stop))
            (Tr.stop))
          (Tr.stop))
        (Tr.stop))
      (Tr.test (Option.isSome (f97 ((x0,(x0',())),((x1,(x1',())),()))))
        (Tr.test (Option.isSome (f61 ((1:Int),())))
          (let r4:=g61 ((1:Int),());
          let r8:=g97 ((x0,(x0',())),((x1,(x1',())),()));
          Tr.test (Option.isSome (f98 ((r8.1.1,(r8.1.2.1,())),((r4.1.1,(r4.1.2.1,())),()))))
            (let r9:=g98 ((r8.1.1,(r8.1.2.1,())),((r4.1.1,(r4.1.2.1,())),()));
            Tr.test ((eqF r9.1 0:Bool))
              (Tr.fin ((((x0,(x0',())),((x1,(x1',())),())),())))
              (Tr.test (Option.isSome (f99 ((x0,(x0',())),((r8.1.1,(r8.1.2.1,())),()))))
                (Tr.test (Option.isSome (f99 ((x1,(x1',())),((r8.1.1,(r8.1.2.1,())),()))))
                  (let r10:=g99 ((x0,(x0',())),((r8.1.1,(r8.1.2.1,())),()));
                  let r11:=g99 ((x1,(x1',())),((r8.1.1,(r8.1.2.1,())),()));
                  Tr.fin ((((r10.1.1,(r10.1.2.1,())),((r11.1.1,(r11.1.2.1,())),())),())))
                  (Tr.stop))
                (Tr.stop)))
            (Tr.stop))
          (Tr.stop))
        (Tr.stop)))
    (Tr.stop)

def f62 (d:Tys.data as62):Option (Tys.data rs62):=(t62 d.1.1 d.1.2.1 d.2.1.1 d.2.1.2.1).val
def g62 (d:Tys.data as62):Tys.data rs62:=(f62 d).getD (Tys.dflt rs62)
def p62:PureC:=pcOf as62 rs62 f62 g62

theorem wk62 (x0:Int) (x0':(List Int)) (x1:Int) (x1':(List Int)):Walks (runPure (kf98 Go.Proofs.Try.prog).orc Go.Proofs.Try.prog 400 62 as62 rs62 ((x0,x0',()),(x1,x1',()),())) (t62 x0 x0' x1 x1') [([true,true,true,true,true,true,true,true],[2,4,6,8,10,12,14,16]),([true,true,true,true,true,true,true,false,true,true],[2,4,6,8,10,12,14,16,18,20]),([true,false,true,true,true,true],[2,4,6,8,10,12]),([true,false,true,true,true,false,true,true],[2,4,6,8,10,12,14,16])] :=
  ⟨by kernel_rfl,by kernel_rfl,by kernel_rfl,by kernel_rfl,trivial⟩

theorem ok62_t (x0:Int) (x0':(List Int)) (x1:Int) (x1':(List Int)):TrOk (PureRuns Go.Proofs.Try.prog (kf98 Go.Proofs.Try.prog).orc 62 as62 rs62 ((x0,x0',()),(x1,x1',()),())) (t62 x0 x0' x1 x1') :=
  Walks.ok (fun _ _ _=>PureRuns.of) (wk62 x0 x0' x1 x1') (by kernel_rfl)

theorem ok62:PureOk Go.Proofs.Try.prog 62 p62:=pureOk_of kf98_ok.base (T:=fun (d:Tys.data as62)=>t62 d.1.1 d.1.2.1 d.2.1.1 d.2.1.2.1) (by kernel_rfl) (fun (d:Tys.data as62)=>ok62_t d.1.1 d.1.2.1 d.2.1.1 d.2.1.2.1)
def kf62 (P:Go.Program):Known:=(kf98 P).func 62 p62
theorem kf62_ok:KnownOk Go.Proofs.Try.prog (kf62 Go.Proofs.Try.prog):=kf98_ok.func ok62

/-! ductility/ductilitybase.RatioOf -/

abbrev as57:List Ty:=[(.int .i64),(.int .i64)]
abbrev rs57:List Ty:=[(.pair (.pair (.int .i64) (.pair (.slice (.int .i64)) .unit)) (.pair (.pair (.int .i64) (.pair (.slice (.int .i64)) .unit)) .unit))]

def t57 (x0:Int) (x1:Int):Tr (Tys.data rs57) :=
  Tr.test (Option.isSome (f61 (x0,())))
    (Tr.test (Option.isSome (f61 (x1,())))
      (let r0:=g61 (x0,());
      let r1:=g61 (x1,());
      Tr.test (Option.isSome (f62 ((r0.1.1,(r0.1.2.1,())),((r1.1.1,(r1.1.2.1,())),()))))
        (let r2:=g62 ((r0.1.1,(r0.1.2.1,())),((r1.1.1,(r1.1.2.1,())),()));
        Tr.fin ((((r2.1.1.1,(r2.1.1.2.1,())),((r2.1.2.1.1,(r2.1.2.1.2.1,())),())),())))
        (Tr.stop))
      (Tr.stop))
    (Tr.stop)

def f57 (d:Tys.data as57):Option (Tys.data rs57):=(t57 d.1 d.2.1).val
def g57 (d:Tys.data as57):Tys.data rs57:=(f57 d).getD (Tys.dflt rs57)
def p57:PureC:=pcOf as57 rs57 f57 g57

theorem wk57 (x0:Int) (x1:Int):Walks (runPure (kf62 Go.Proofs.Try.prog).orc Go.Proofs.Try.prog 400 57 as57 rs57 (x0,x1,())) (t57 x0 x1) [([true,true,true],[2,4,6])] :=
  ⟨by kernel_rfl,trivial⟩

theorem ok57_t (x0:Int) (x1:Int):TrOk (PureRuns Go.Proofs.Try.prog (kf62 Go.Proofs.Try.prog).orc 57 as57 rs57 (x0,x1,())) (t57 x0 x1) :=
  Walks.ok (fun _ _ _=>PureRuns.of) (wk57 x0 x1) (by kernel_rfl)

theorem ok57:PureOk Go.Proofs.Try.prog 57 p57:=pureOk_of kf62_ok.base (T:=fun (d:Tys.data as57)=>t57 d.1 d.2.1) (by kernel_rfl) (fun (d:Tys.data as57)=>ok57_t d.1 d.2.1)
def kf57 (P:Go.Program):Known:=(kf62 P).func 57 p57
theorem kf57_ok:KnownOk Go.Proofs.Try.prog (kf57 Go.Proofs.Try.prog):=kf62_ok.func ok57

/-! ductility/ductilitybase.RatioInt -/

abbrev as25:List Ty:=[(.int .i64)]
abbrev rs25:List Ty:=[(.pair (.pair (.int .i64) (.pair (.slice (.int .i64)) .unit)) (.pair (.pair (.int .i64) (.pair (.slice (.int .i64)) .unit)) .unit))]

def t25 (x0:Int):Tr (Tys.data rs25) :=
  Tr.test (Option.isSome (f61 (x0,())))
    (Tr.test (Option.isSome (f61 ((1:Int),())))
      (let r0:=g61 (x0,());
      let r1:=g61 ((1:Int),());
      Tr.fin ((((r0.1.1,(r0.1.2.1,())),((r1.1.1,(r1.1.2.1,())),())),())))
      (Tr.stop))
    (Tr.stop)

def f25 (d:Tys.data as25):Option (Tys.data rs25):=(t25 d.1).val
def g25 (d:Tys.data as25):Tys.data rs25:=(f25 d).getD (Tys.dflt rs25)
def p25:PureC:=pcOf as25 rs25 f25 g25

theorem wk25 (x0:Int):Walks (runPure (kf57 Go.Proofs.Try.prog).orc Go.Proofs.Try.prog 400 25 as25 rs25 (x0,())) (t25 x0) [([true,true],[2,4])] :=
  ⟨by kernel_rfl,trivial⟩

theorem ok25_t (x0:Int):TrOk (PureRuns Go.Proofs.Try.prog (kf57 Go.Proofs.Try.prog).orc 25 as25 rs25 (x0,())) (t25 x0) :=
  Walks.ok (fun _ _ _=>PureRuns.of) (wk25 x0) (by kernel_rfl)

theorem ok25:PureOk Go.Proofs.Try.prog 25 p25:=pureOk_of kf57_ok.base (T:=fun (d:Tys.data as25)=>t25 d.1) (by kernel_rfl) (fun (d:Tys.data as25)=>ok25_t d.1)
def kf25 (P:Go.Program):Known:=(kf57 P).func 25 p25
theorem kf25_ok:KnownOk Go.Proofs.Try.prog (kf25 Go.Proofs.Try.prog):=kf57_ok.func ok25

/-! ductility/ductilityref06.Own -/

abbrev as89:List Ty:=[(.pair (.slice (.int .i64)) (.pair (.slice (.int .i64)) .unit)),(.int .i64)]
abbrev rs89:List Ty:=[(.int .i64)]

def t89 (x0:(List Int)) (x0':(List Int)) (x1:Int):Tr (Tys.data rs89) :=
  Tr.test ((!leF (↑(List.length x0'):Int) (wrap64 (x1 + (1:Int))):Bool))
    (Tr.test (decide ((0:Int) ≤ x1) && decide (x1 < (↑(List.length x0'):Int)))
      (Tr.test ((decide ((0:Int) ≤ wrap64 (x1 + (1:Int))) && decide (wrap64 (x1 + (1:Int)) < (↑(List.length x0'):Int)):Bool))
        (Tr.fin (((wrap64 (List.getD x0' (Int.toNat x1) (0:Int) + List.getD x0' (Int.toNat (wrap64 (x1 + (1:Int)))) (0:Int)):Int),())))
        (Tr.stop))
      (Tr.stop))
    (Tr.test (decide ((0:Int) ≤ x1) && decide (x1 < (↑(List.length x0'):Int)))
      (Tr.fin (((List.getD x0' (Int.toNat x1) (0:Int):Int),())))
      (Tr.stop))

def f89 (d:Tys.data as89):Option (Tys.data rs89):=(t89 d.1.1 d.1.2.1 d.2.1).val
def g89 (d:Tys.data as89):Tys.data rs89:=(f89 d).getD (Tys.dflt rs89)
def p89:PureC:=pcOf as89 rs89 f89 g89

theorem wk89 (x0:(List Int)) (x0':(List Int)) (x1:Int):Walks (runPure (kf25 Go.Proofs.Try.prog).orc Go.Proofs.Try.prog 400 89 as89 rs89 ((x0,x0',()),x1,())) (t89 x0 x0' x1) [([true,true,true],[2,4,6]),([false,true],[2,4])] :=
  ⟨by kernel_rfl,by kernel_rfl,trivial⟩

theorem ok89_t (x0:(List Int)) (x0':(List Int)) (x1:Int):TrOk (PureRuns Go.Proofs.Try.prog (kf25 Go.Proofs.Try.prog).orc 89 as89 rs89 ((x0,x0',()),x1,())) (t89 x0 x0' x1) :=
  Walks.ok (fun _ _ _=>PureRuns.of) (wk89 x0 x0' x1) (by kernel_rfl)

theorem ok89:PureOk Go.Proofs.Try.prog 89 p89:=pureOk_of kf25_ok.base (T:=fun (d:Tys.data as89)=>t89 d.1.1 d.1.2.1 d.2.1) (by kernel_rfl) (fun (d:Tys.data as89)=>ok89_t d.1.1 d.1.2.1 d.2.1)
def kf89 (P:Go.Program):Known:=(kf25 P).func 89 p89
theorem kf89_ok:KnownOk Go.Proofs.Try.prog (kf89 Go.Proofs.Try.prog):=kf25_ok.func ok89

end Go.Vm.Mo
