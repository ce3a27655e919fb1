import Derived.Test.YtaodpefmlgalfaaA4
import Derived.KernelRfl
import Derived.Test.YtaodpefmlgalfaaProg
import Derived.Test.YtaodpefmlgalfaaRsFc
set_option linter.unusedVariables false
set_option linter.unusedSimpArgs false

namespace Go.Vm.Mo
open Go
set_option linter.unusedVariables false

/-! loop 0 of ductility/ductilitybase.WideMul -/

abbrev sh71_0:Sh:={ n:=86,slots:=[2,3,4,5,6],pats:=[.ptr 0 2 0,.ptr 1 2 0,.ptr 2 2 0,.sli 3 1,.ty (.int .i64)],boxes:=[.row [.ty (.int .i64),.ty (.slice (.int .i64))],.row [.ty (.int .i64),.ty (.slice (.int .i64))],.row [.ty (.int .i64),.nil],.arr (.int .i64)] }
abbrev shb71_0:Sh:={ n:=86,slots:=[2,3,4,5],pats:=[.ptr 0 2 0,.ptr 1 2 0,.ptr 2 2 0,.sli 3 1],boxes:=[.row [.ty (.int .i64),.ty (.slice (.int .i64))],.row [.ty (.int .i64),.ty (.slice (.int .i64))],.row [.ty (.int .i64),.nil],.arr (.int .i64)] }
abbrev shr71_0:Sh:={ n:=86,slots:=[],pats:=[],boxes:=[.row [.ty (.int .i64),.ty (.slice (.int .i64))],.row [.ty (.int .i64),.ty (.slice (.int .i64))],.row [.ty (.int .i64),.nil],.arr (.int .i64)] }

def t71_0 (x3n:Nat) (x3c:Nat) (x4:Int) (b0_0:Int) (b0_1:(List Int)) (b1_0:Int) (b1_1:(List Int)) (b2_0:Int) (b3:(List Int)):Tr (Out sh71_0.data shb71_0.data shr71_0.data) :=
  Tr.test ((!leF (↑(List.length b0_1):Int) x4:Bool))
    (Tr.test (isBrk (l71_2 (((x3n,x3c),(x4,((0:Int),((0:Int),())))),((b0_0,(b0_1,())),((b1_0,(b1_1,())),((b2_0,()),(b3,())))))))
      (let r0:=b71_2 (((x3n,x3c),(x4,((0:Int),((0:Int),())))),((b0_0,(b0_1,())),((b1_0,(b1_1,())),((b2_0,()),(b3,())))));
      Tr.test ((decide ((0:Int) ≤ wrap64 (r0.1.2.1 + (↑(List.length r0.2.2.1.2.1):Int))) && decide (wrap64 (r0.1.2.1 + (↑(List.length r0.2.2.1.2.1):Int)) < (↑r0.1.1.1:Int)):Bool))
        (Tr.test ((Nat.ble ((0:Nat) + Int.toNat (wrap64 (r0.1.2.1 + (↑(List.length r0.2.2.1.2.1):Int))) + (1:Nat)) (List.length r0.2.2.2.2.1):Bool))
          (Tr.fin (.again (((r0.1.1.1,r0.1.1.2),((wrap64 (r0.1.2.1 + (1:Int)):Int),())),((r0.2.1.1,(r0.2.1.2.1,())),((r0.2.2.1.1,(r0.2.2.1.2.1,())),((r0.2.2.2.1.1,()),((List.set r0.2.2.2.2.1 ((0:Nat) + Int.toNat (wrap64 (r0.1.2.1 + (↑(List.length r0.2.2.1.2.1):Int)))) (wrap64 (List.getD r0.2.2.2.2.1 ((0:Nat) + Int.toNat (wrap64 (r0.1.2.1 + (↑(List.length r0.2.2.1.2.1):Int)))) (0:Int) + r0.1.2.2.1)):List Int),())))))))
          (Tr.stop))
        (Tr.stop))
      (Tr.stop))
    (Tr.fin (.brk (((x3n,x3c),()),((b0_0,(b0_1,())),((b1_0,(b1_1,())),((b2_0,()),(b3,())))))))

def s71_0 (d:sh71_0.data):Option (Out sh71_0.data shb71_0.data shr71_0.data):=(t71_0 d.1.1.1 d.1.1.2 d.1.2.1 d.2.1.1 d.2.1.2.1 d.2.2.1.1 d.2.2.1.2.1 d.2.2.2.1.1 d.2.2.2.2.1).val
def l71_0 (d:sh71_0.data):Option (shb71_0.data ⊕ shr71_0.data):=itr s71_0 rounds d
def b71_0 (d:sh71_0.data):shb71_0.data:=outB shb71_0.dflt (l71_0 d)
def lc71_0:LoopC:=lcB sh71_0 shb71_0 shr71_0 l71_0 b71_0

theorem wk71_0 (x3n:Nat) (x3c:Nat) (x4:Int) (b0_0:Int) (b0_1:(List Int)) (b1_0:Int) (b1_1:(List Int)) (b2_0:Int) (b3:(List Int)):Walks (runBody (kl71_2 Go.Proofs.Try.prog).orc Go.Proofs.Try.prog 400 71 0 sh71_0 shb71_0 shr71_0 (((x3n,x3c),x4,()),(b0_0,b0_1,()),(b1_0,b1_1,()),(b2_0,()),b3,())) (t71_0 x3n x3c x4 b0_0 b0_1 b1_0 b1_1 b2_0 b3) [([true,true,true,true],[2,4,2,4,1,6,8]),([ff],[2])] :=
  ⟨by kernel_rfl,by kernel_rfl,trivial⟩

theorem ok71_0_t (x3n:Nat) (x3c:Nat) (x4:Int) (b0_0:Int) (b0_1:(List Int)) (b1_0:Int) (b1_1:(List Int)) (b2_0:Int) (b3:(List Int)):TrOk (BodyRuns Go.Proofs.Try.prog (kl71_2 Go.Proofs.Try.prog).orc 71 0 sh71_0 shb71_0 shr71_0 (((x3n,x3c),x4,()),(b0_0,b0_1,()),(b1_0,b1_1,()),(b2_0,()),b3,())) (t71_0 x3n x3c x4 b0_0 b0_1 b1_0 b1_1 b2_0 b3) :=
  Walks.ok (fun _ _ _=>BodyRuns.of) (wk71_0 x3n x3c x4 b0_0 b0_1 b1_0 b1_1 b2_0 b3) (by kernel_rfl)

theorem ok71_0:LoopOk Go.Proofs.Try.prog 71 0 lc71_0:=loopOk_ofB (sh:=sh71_0) (shB:=shb71_0) (shR:=shr71_0) kl71_2_ok.base (T:=fun (d:sh71_0.data)=>t71_0 d.1.1.1 d.1.1.2 d.1.2.1 d.2.1.1 d.2.1.2.1 d.2.2.1.1 d.2.2.1.2.1 d.2.2.2.1.1 d.2.2.2.2.1) (by kernel_rfl) rfl (fun (d:sh71_0.data)=>ok71_0_t d.1.1.1 d.1.1.2 d.1.2.1 d.2.1.1 d.2.1.2.1 d.2.2.1.1 d.2.2.1.2.1 d.2.2.2.1.1 d.2.2.2.2.1) (fun _=>rfl)
def kl71_0 (P:Go.Program):Known:=(kl71_2 P).loop 71 0 lc71_0
theorem kl71_0_ok:KnownOk Go.Proofs.Try.prog (kl71_0 Go.Proofs.Try.prog):=kl71_2_ok.loop ok71_0

/-! ductility/ductilitybase.WideMul -/

abbrev as71:List Ty:=[(.pair (.int .i64) (.pair (.slice (.int .i64)) .unit)),(.pair (.int .i64) (.pair (.slice (.int .i64)) .unit))]
abbrev rs71:List Ty:=[(.pair (.int .i64) (.pair (.slice (.int .i64)) .unit))]

def t71 (x0:Int) (x0':(List Int)) (x1:Int) (x1':(List Int)):Tr (Tys.data rs71) :=
  Tr.test ((decide ((0:Int) ≤ wrap64 (wrap64 ((↑(List.length x0'):Int) + (↑(List.length x1'):Int)) + (1:Int))) && decide (wrap64 (wrap64 ((↑(List.length x0'):Int) + (↑(List.length x1'):Int)) + (1:Int)) ≤ wrap64 (wrap64 ((↑(List.length x0'):Int) + (↑(List.length x1'):Int)) + (1:Int))) && decide ((8:Int) * wrap64 (wrap64 ((↑(List.length x0'):Int) + (↑(List.length x1'):Int)) + (1:Int)) ≤ (281474976710656:Int)) && decide (wrap64 (wrap64 ((↑(List.length x0'):Int) + (↑(List.length x1'):Int)) + (1:Int)) ≤ (281474976710656:Int)):Bool))
    (Tr.test (isBrk (l71_0 ((((Int.toNat (wrap64 (wrap64 ((↑(List.length x0'):Int) + (↑(List.length x1'):Int)) + (1:Int))):Nat),(Int.toNat (wrap64 (wrap64 ((↑(List.length x0'):Int) + (↑(List.length x1'):Int)) + (1:Int))):Nat)),((0:Int),())),((x0,(x0',())),((x1,(x1',())),(((0:Int),()),((List.replicate (Int.toNat (wrap64 (wrap64 ((↑(List.length x0'):Int) + (↑(List.length x1'):Int)) + (1:Int)))) (0:Int):List Int),())))))))
      (let r0:=b71_0 ((((Int.toNat (wrap64 (wrap64 ((↑(List.length x0'):Int) + (↑(List.length x1'):Int)) + (1:Int))):Nat),(Int.toNat (wrap64 (wrap64 ((↑(List.length x0'):Int) + (↑(List.length x1'):Int)) + (1:Int))):Nat)),((0:Int),())),((x0,(x0',())),((x1,(x1',())),(((0:Int),()),((List.replicate (Int.toNat (wrap64 (wrap64 ((↑(List.length x0'):Int) + (↑(List.length x1'):Int)) + (1:Int)))) (0:Int):List Int),())))));
      Tr.test ((Nat.beq r0.1.1.1 (List.length r0.2.2.2.2.1):Bool))
        (Tr.test (Option.isSome (f90 ((wrap64 (r0.2.1.1 * r0.2.2.1.1):Int),(r0.2.2.2.2.1,()))))
          (let r1:=g90 ((wrap64 (r0.2.1.1 * r0.2.2.1.1):Int),(r0.2.2.2.2.1,()));
          Tr.fin (((r1.1.1,(r1.1.2.1,())),())))
          (Tr.stop))
        (Tr.test ((Nat.ble r0.1.1.1 (List.length r0.2.2.2.2.1):Bool))
          (Tr.test (Option.isSome (f90 ((wrap64 (r0.2.1.1 * r0.2.2.1.1):Int),((List.take r0.1.1.1 r0.2.2.2.2.1:List Int),()))))
            (let r2:=g90 ((wrap64 (r0.2.1.1 * r0.2.2.1.1):Int),((List.take r0.1.1.1 r0.2.2.2.2.1:List Int),()));
            Tr.fin (((r2.1.1,(r2.1.2.1,())),())))
            (Tr.stop))
          (Tr.stop /- a known call [op 6 of region 12 of F71] -/)))
      (Tr.stop))
    (Tr.stop)

def f71 (d:Tys.data as71):Option (Tys.data rs71):=(t71 d.1.1 d.1.2.1 d.2.1.1 d.2.1.2.1).val
def g71 (d:Tys.data as71):Tys.data rs71:=(f71 d).getD (Tys.dflt rs71)
def p71:PureC:=pcOf as71 rs71 f71 g71

theorem wk71 (x0:Int) (x0':(List Int)) (x1:Int) (x1':(List Int)):Walks (runPure (kl71_0 Go.Proofs.Try.prog).orc Go.Proofs.Try.prog 400 71 as71 rs71 ((x0,x0',()),(x1,x1',()),())) (t71 x0 x0' x1 x1') [([true,true,true,true],[2,4,1,6,8]),([true,true,false,true,true],[2,4,6,1,8,10])] :=
  ⟨by kernel_rfl,by kernel_rfl,trivial⟩

theorem ok71_t (x0:Int) (x0':(List Int)) (x1:Int) (x1':(List Int)):TrOk (PureRuns Go.Proofs.Try.prog (kl71_0 Go.Proofs.Try.prog).orc 71 as71 rs71 ((x0,x0',()),(x1,x1',()),())) (t71 x0 x0' x1 x1') :=
  Walks.ok (fun _ _ _=>PureRuns.of) (wk71 x0 x0' x1 x1') (by kernel_rfl)

theorem ok71:PureOk Go.Proofs.Try.prog 71 p71:=pureOk_of kl71_0_ok.base (T:=fun (d:Tys.data as71)=>t71 d.1.1 d.1.2.1 d.2.1.1 d.2.1.2.1) (by kernel_rfl) (fun (d:Tys.data as71)=>ok71_t d.1.1 d.1.2.1 d.2.1.1 d.2.1.2.1)
def kf71 (P:Go.Program):Known:=(kl71_0 P).func 71 p71
theorem kf71_ok:KnownOk Go.Proofs.Try.prog (kf71 Go.Proofs.Try.prog):=kl71_0_ok.func ok71

/-! loop 0 of ductility/ductilitybase.cmpDigits -/

abbrev sh97_0:Sh:={ n:=41,slots:=[0,1,5],pats:=[.ty (.slice (.int .i64)),.ty (.slice (.int .i64)),.ty (.int .i64)],boxes:=[] }
abbrev shb97_0:Sh:={ n:=41,slots:=[],pats:=[],boxes:=[] }
abbrev shr97_0:Sh:={ n:=41,slots:=[4],pats:=[.ty (.int .i64)],boxes:=[] }

def t97_0 (x0:(List Int)) (x1:(List Int)) (x2:Int):Tr (Out sh97_0.data shb97_0.data shr97_0.data) :=
  Tr.test ((leF (0:Int) x2:Bool))
    (Tr.test (decide ((0:Int) ≤ x2) && decide (x2 < (↑(List.length x0):Int)))
      (Tr.test ((decide ((0:Int) ≤ x2) && decide (x2 < (↑(List.length x1):Int)):Bool))
        (Tr.test ((!leF (List.getD x1 (Int.toNat x2) (0:Int)) (List.getD x0 (Int.toNat x2) (0:Int)):Bool))
          (Tr.fin (.ret (((-1:Int),()),())))
          (Tr.test ((!leF (List.getD x0 (Int.toNat x2) (0:Int)) (List.getD x1 (Int.toNat x2) (0:Int)):Bool))
            (Tr.fin (.ret (((1:Int),()),())))
            (Tr.fin (.again ((x0,(x1,((wrap64 (x2 - (1:Int)):Int),()))),())))))
        (Tr.stop))
      (Tr.stop))
    (Tr.fin (.brk ((),())))

def s97_0 (d:sh97_0.data):Option (Out sh97_0.data shb97_0.data shr97_0.data):=(t97_0 d.1.1 d.1.2.1 d.1.2.2.1).val
def l97_0 (d:sh97_0.data):Option (shb97_0.data ⊕ shr97_0.data):=itr s97_0 rounds d
def b97_0 (d:sh97_0.data):shb97_0.data:=outB shb97_0.dflt (l97_0 d)
def r97_0 (d:sh97_0.data):shr97_0.data:=outR shr97_0.dflt (l97_0 d)
def lc97_0:LoopC:=lcOf sh97_0 shb97_0 shr97_0 l97_0 b97_0 r97_0

theorem wk97_0 (x0:(List Int)) (x1:(List Int)) (x2:Int):Walks (runBody (kf71 Go.Proofs.Try.prog).orc Go.Proofs.Try.prog 400 97 0 sh97_0 shb97_0 shr97_0 ((x0,x1,x2,()),())) (t97_0 x0 x1 x2) [([true,true,true,true],[2,4,6,8]),([true,true,true,false,true],[2,6,8,4,6,8,10]),([true,true,true,false,false],[2,6,8,4,6,8,10]),([ff],[2])] :=
  ⟨by kernel_rfl,by kernel_rfl,by kernel_rfl,by kernel_rfl,trivial⟩

theorem ok97_0_t (x0:(List Int)) (x1:(List Int)) (x2:Int):TrOk (BodyRuns Go.Proofs.Try.prog (kf71 Go.Proofs.Try.prog).orc 97 0 sh97_0 shb97_0 shr97_0 ((x0,x1,x2,()),())) (t97_0 x0 x1 x2) :=
  Walks.ok (fun _ _ _=>BodyRuns.of) (wk97_0 x0 x1 x2) (by kernel_rfl)

theorem ok97_0:LoopOk Go.Proofs.Try.prog 97 0 lc97_0:=loopOk_of (sh:=sh97_0) (shB:=shb97_0) (shR:=shr97_0) kf71_ok.base (T:=fun (d:sh97_0.data)=>t97_0 d.1.1 d.1.2.1 d.1.2.2.1) (by kernel_rfl) rfl (fun (d:sh97_0.data)=>ok97_0_t d.1.1 d.1.2.1 d.1.2.2.1) (fun _=>rfl)
def kl97_0 (P:Go.Program):Known:=(kf71 P).loop 97 0 lc97_0
theorem kl97_0_ok:KnownOk Go.Proofs.Try.prog (kl97_0 Go.Proofs.Try.prog):=kf71_ok.loop ok97_0

/-! ductility/ductilitybase.cmpDigits -/

abbrev as97:List Ty:=[(.slice (.int .i64)),(.slice (.int .i64))]
abbrev rs97:List Ty:=[(.int .i64)]

def t97 (x0:(List Int)) (x1:(List Int)):Tr (Tys.data rs97) :=
  Tr.test ((!eqF (↑(List.length x0):Int) (↑(List.length x1):Int):Bool))
    (Tr.test (!leF (↑(List.length x1):Int) (↑(List.length x0):Int))
      (Tr.fin (((-1:Int),())))
      (Tr.fin (((1:Int),()))))
    (Tr.test (Option.isSome (l97_0 ((x0,(x1,((wrap64 ((↑(List.length x0):Int) - (1:Int)):Int),()))),())))
      (Tr.test (isRet (l97_0 ((x0,(x1,((wrap64 ((↑(List.length x0):Int) - (1:Int)):Int),()))),())))
        (let r0:=r97_0 ((x0,(x1,((wrap64 ((↑(List.length x0):Int) - (1:Int)):Int),()))),());
        Tr.fin ((r0.1.1,())))
        (Tr.fin (((0:Int),()))))
      (Tr.stop))

def f97 (d:Tys.data as97):Option (Tys.data rs97):=(t97 d.1 d.2.1).val
def g97 (d:Tys.data as97):Tys.data rs97:=(f97 d).getD (Tys.dflt rs97)
def p97:PureC:=pcOf as97 rs97 f97 g97

theorem wk97 (x0:(List Int)) (x1:(List Int)):Walks (runPure (kl97_0 Go.Proofs.Try.prog).orc Go.Proofs.Try.prog 400 97 as97 rs97 (x0,x1,())) (t97 x0 x1) [([true,true],[2,4]),([true,false],[2,4]),([false,true,true],[2,4,6]),([false,true,false],[2,4,6])] :=
  ⟨by kernel_rfl,by kernel_rfl,by kernel_rfl,by kernel_rfl,trivial⟩

theorem ok97_t (x0:(List Int)) (x1:(List Int)):TrOk (PureRuns Go.Proofs.Try.prog (kl97_0 Go.Proofs.Try.prog).orc 97 as97 rs97 (x0,x1,())) (t97 x0 x1) :=
  Walks.ok (fun _ _ _=>PureRuns.of) (wk97 x0 x1) (by kernel_rfl)

theorem ok97:PureOk Go.Proofs.Try.prog 97 p97:=pureOk_of kl97_0_ok.base (T:=fun (d:Tys.data as97)=>t97 d.1 d.2.1) (by kernel_rfl) (fun (d:Tys.data as97)=>ok97_t d.1 d.2.1)
def kf97 (P:Go.Program):Known:=(kl97_0 P).func 97 p97
theorem kf97_ok:KnownOk Go.Proofs.Try.prog (kf97 Go.Proofs.Try.prog):=kl97_0_ok.func ok97

/-! ductility/ductilitybase.digit -/

abbrev as106:List Ty:=[(.slice (.int .i64)),(.int .i64)]
abbrev rs106:List Ty:=[(.int .i64)]

def t106 (x0:(List Int)) (x1:Int):Tr (Tys.data rs106) :=
  Tr.test ((!leF (↑(List.length x0):Int) x1:Bool))
    (Tr.test (decide ((0:Int) ≤ x1) && decide (x1 < (↑(List.length x0):Int)))
      (Tr.fin (((List.getD x0 (Int.toNat x1) (0:Int):Int),())))
      (Tr.stop))
    (Tr.fin (((0:Int),())))

def f106 (d:Tys.data as106):Option (Tys.data rs106):=(t106 d.1 d.2.1).val
def g106 (d:Tys.data as106):Tys.data rs106:=(f106 d).getD (Tys.dflt rs106)
def p106:PureC:=pcOf as106 rs106 f106 g106

theorem wk106 (x0:(List Int)) (x1:Int):Walks (runPure (kf97 Go.Proofs.Try.prog).orc Go.Proofs.Try.prog 400 106 as106 rs106 (x0,x1,())) (t106 x0 x1) [([true,true],[2,4]),([ff],[2])] :=
  ⟨by kernel_rfl,by kernel_rfl,trivial⟩

theorem ok106_t (x0:(List Int)) (x1:Int):TrOk (PureRuns Go.Proofs.Try.prog (kf97 Go.Proofs.Try.prog).orc 106 as106 rs106 (x0,x1,())) (t106 x0 x1) :=
  Walks.ok (fun _ _ _=>PureRuns.of) (wk106 x0 x1) (by kernel_rfl)

theorem ok106:PureOk Go.Proofs.Try.prog 106 p106:=pureOk_of kf97_ok.base (T:=fun (d:Tys.data as106)=>t106 d.1 d.2.1) (by kernel_rfl) (fun (d:Tys.data as106)=>ok106_t d.1 d.2.1)
def kf106 (P:Go.Program):Known:=(kf97 P).func 106 p106
theorem kf106_ok:KnownOk Go.Proofs.Try.prog (kf106 Go.Proofs.Try.prog):=kf97_ok.func ok106

/-! loop 0 of ductility/ductilitybase.subDigits -/

abbrev sh98_0:Sh:={ n:=35,slots:=[0,1,5,6,7],pats:=[.ty (.slice (.int .i64)),.ty (.slice (.int .i64)),.acc (.int .i64),.ty (.int .i64),.ty (.int .i64)],boxes:=[] }
abbrev shb98_0:Sh:={ n:=35,slots:=[5],pats:=[.acc (.int .i64)],boxes:=[] }
abbrev shr98_0:Sh:={ n:=35,slots:=[],pats:=[],boxes:=[] }

def t98_0 (x0:(List Int)) (x1:(List Int)) (x2:(List Int)) (x3:Int) (x4:Int):Tr (Out sh98_0.data shb98_0.data shr98_0.data) :=
  Tr.test ((!leF (↑(List.length x0):Int) x4:Bool))
    (Tr.test (decide ((0:Int) ≤ x4) && decide (x4 < (↑(List.length x0):Int)))
      (Tr.test (Option.isSome (f106 (x1,(x4,()))))
        (let r0:=g106 (x1,(x4,()));
        Tr.test ((!leF (0:Int) (wrap64 (wrap64 (List.getD x0 (Int.toNat x4) (0:Int) - r0.1) - x3)):Bool))
          (Tr.test ((Nat.ble (((2:Nat) * (List.length x2 + (1:Nat)) + (192:Nat)) * (8:Nat)) (281474976710656:Nat) && Nat.ble (List.length x2 + (1:Nat)) (281474976710656:Nat):Bool))
            (Tr.fin (.again ((x0,(x1,((x2++[wrap64 (wrap64 (wrap64 (List.getD x0 (Int.toNat x4) (0:Int) - r0.1) - x3) + (1000000000:Int))]:List Int),((1:Int),((wrap64 (x4 + (1:Int)):Int),()))))),())))
            (Tr.stop))
          (Tr.test ((Nat.ble (((2:Nat) * (List.length x2 + (1:Nat)) + (192:Nat)) * (8:Nat)) (281474976710656:Nat) && Nat.ble (List.length x2 + (1:Nat)) (281474976710656:Nat):Bool))
            (Tr.fin (.again ((x0,(x1,((x2++[wrap64 (wrap64 (List.getD x0 (Int.toNat x4) (0:Int) - r0.1) - x3)]:List Int),((0:Int),((wrap64 (x4 + (1:Int)):Int),()))))),())))
            (Tr.stop)))
        (Tr.stop))
      (Tr.stop))
    (Tr.fin (.brk ((x2,()),())))

def s98_0 (d:sh98_0.data):Option (Out sh98_0.data shb98_0.data shr98_0.data):=(t98_0 d.1.1 d.1.2.1 d.1.2.2.1 d.1.2.2.2.1 d.1.2.2.2.2.1).val
def l98_0 (d:sh98_0.data):Option (shb98_0.data ⊕ shr98_0.data):=itr s98_0 rounds d
def b98_0 (d:sh98_0.data):shb98_0.data:=outB shb98_0.dflt (l98_0 d)
def lc98_0:LoopC:=lcB sh98_0 shb98_0 shr98_0 l98_0 b98_0

theorem wk98_0 (x0:(List Int)) (x1:(List Int)) (x2:(List Int)) (x3:Int) (x4:Int):Walks (runBody (kf106 Go.Proofs.Try.prog).orc Go.Proofs.Try.prog 400 98 0 sh98_0 shb98_0 shr98_0 ((x0,x1,x2,x3,x4,()),())) (t98_0 x0 x1 x2 x3 x4) [([true,true,true,true,true],[1,2,0,4,6,8,10]),([true,true,true,false,true],[1,2,0,4,6,8,10]),([ff],[2])] :=
  ⟨by kernel_rfl,by kernel_rfl,by kernel_rfl,trivial⟩

theorem ok98_0_t (x0:(List Int)) (x1:(List Int)) (x2:(List Int)) (x3:Int) (x4:Int):TrOk (BodyRuns Go.Proofs.Try.prog (kf106 Go.Proofs.Try.prog).orc 98 0 sh98_0 shb98_0 shr98_0 ((x0,x1,x2,x3,x4,()),())) (t98_0 x0 x1 x2 x3 x4) :=
  Walks.ok (fun _ _ _=>BodyRuns.of) (wk98_0 x0 x1 x2 x3 x4) (by kernel_rfl)

theorem ok98_0:LoopOk Go.Proofs.Try.prog 98 0 lc98_0:=loopOk_ofB (sh:=sh98_0) (shB:=shb98_0) (shR:=shr98_0) kf106_ok.base (T:=fun (d:sh98_0.data)=>t98_0 d.1.1 d.1.2.1 d.1.2.2.1 d.1.2.2.2.1 d.1.2.2.2.2.1) (by kernel_rfl) rfl (fun (d:sh98_0.data)=>ok98_0_t d.1.1 d.1.2.1 d.1.2.2.1 d.1.2.2.2.1 d.1.2.2.2.2.1) (fun _=>rfl)
def kl98_0 (P:Go.Program):Known:=(kf106 P).loop 98 0 lc98_0
theorem kl98_0_ok:KnownOk Go.Proofs.Try.prog (kl98_0 Go.Proofs.Try.prog):=kf106_ok.loop ok98_0

/-! ductility/ductilitybase.subDigits -/

abbrev as98:List Ty:=[(.slice (.int .i64)),(.slice (.int .i64))]
abbrev rs98:List Ty:=[(.slice (.int .i64))]

def t98 (x0:(List Int)) (x1:(List Int)):Tr (Tys.data rs98) :=
  Tr.test (isBrk (l98_0 ((x0,(x1,(([]:List Int),((0:Int),((0:Int),()))))),())))
    (let r0:=b98_0 ((x0,(x1,(([]:List Int),((0:Int),((0:Int),()))))),());
    Tr.test (Option.isSome (f104 (r0.1.1,())))
      (let r1:=g104 (r0.1.1,());
      Tr.fin ((r1.1,())))
      (Tr.stop))
    (Tr.stop)

def f98 (d:Tys.data as98):Option (Tys.data rs98):=(t98 d.1 d.2.1).val
def g98 (d:Tys.data as98):Tys.data rs98:=(f98 d).getD (Tys.dflt rs98)
def p98:PureC:=pcOf as98 rs98 f98 g98

theorem wk98 (x0:(List Int)) (x1:(List Int)):Walks (runPure (kl98_0 Go.Proofs.Try.prog).orc Go.Proofs.Try.prog 400 98 as98 rs98 (x0,x1,())) (t98 x0 x1) [([true,true],[2,1,4])] :=
  ⟨by kernel_rfl,trivial⟩

theorem ok98_t (x0:(List Int)) (x1:(List Int)):TrOk (PureRuns Go.Proofs.Try.prog (kl98_0 Go.Proofs.Try.prog).orc 98 as98 rs98 (x0,x1,())) (t98 x0 x1) :=
  Walks.ok (fun _ _ _=>PureRuns.of) (wk98 x0 x1) (by kernel_rfl)

theorem ok98:PureOk Go.Proofs.Try.prog 98 p98:=pureOk_of kl98_0_ok.base (T:=fun (d:Tys.data as98)=>t98 d.1 d.2.1) (by kernel_rfl) (fun (d:Tys.data as98)=>ok98_t d.1 d.2.1)
def kf98 (P:Go.Program):Known:=(kl98_0 P).func 98 p98
theorem kf98_ok:KnownOk Go.Proofs.Try.prog (kf98 Go.Proofs.Try.prog):=kl98_0_ok.func ok98

/-! loop 0 of ductility/ductilitybase.addDigits -/

abbrev sh96_0:Sh:={ n:=42,slots:=[0,1,5,6,7],pats:=[.ty (.slice (.int .i64)),.ty (.slice (.int .i64)),.acc (.int .i64),.ty (.int .i64),.ty (.int .i64)],boxes:=[] }
abbrev shb96_0:Sh:={ n:=42,slots:=[5],pats:=[.acc (.int .i64)],boxes:=[] }
abbrev shr96_0:Sh:={ n:=42,slots:=[],pats:=[],boxes:=[] }

def t96_0 (x0:(List Int)) (x1:(List Int)) (x2:(List Int)) (x3:Int) (x4:Int):Tr (Out sh96_0.data shb96_0.data shr96_0.data) :=
  Tr.test ((!leF (↑(List.length x0):Int) x4:Bool))
    (Tr.test (Option.isSome (f106 (x0,(x4,()))))
      (Tr.test (Option.isSome (f106 (x1,(x4,()))))
        (Tr.test ((Nat.ble (((2:Nat) * (List.length x2 + (1:Nat)) + (192:Nat)) * (8:Nat)) (281474976710656:Nat) && Nat.ble (List.length x2 + (1:Nat)) (281474976710656:Nat):Bool))
          (let r0:=g106 (x0,(x4,()));
          let r1:=g106 (x1,(x4,()));
          Tr.fin (.again ((x0,(x1,((x2++[Int.tmod (wrap64 (wrap64 (r0.1 + r1.1) + x3)) (1000000000:Int)]:List Int),((Go.IntKind.wrap Go.IntKind.i64 (Int.tdiv (wrap64 (wrap64 (r0.1 + r1.1) + x3)) (1000000000:Int)):Int),((wrap64 (x4 + (1:Int)):Int),()))))),())))
          (Tr.stop))
        (Tr.stop))
      (Tr.stop))
    (Tr.test (!leF (↑(List.length x1):Int) x4)
      (Tr.test (Option.isSome (f106 (x0,(x4,()))))
        (Tr.test (Option.isSome (f106 (x1,(x4,()))))
          (Tr.test ((Nat.ble (((2:Nat) * (List.length x2 + (1:Nat)) + (192:Nat)) * (8:Nat)) (281474976710656:Nat) && Nat.ble (List.length x2 + (1:Nat)) (281474976710656:Nat):Bool))
            (let r0:=g106 (x0,(x4,()));
            let r1:=g106 (x1,(x4,()));
            Tr.fin (.again ((x0,(x1,((x2++[Int.tmod (wrap64 (wrap64 (r0.1 + r1.1) + x3)) (1000000000:Int)]:List Int),((Go.IntKind.wrap Go.IntKind.i64 (Int.tdiv (wrap64 (wrap64 (r0.1 + r1.1) + x3)) (1000000000:Int)):Int),((wrap64 (x4 + (1:Int)):Int),()))))),())))
            (Tr.stop))
          (Tr.stop))
        (Tr.stop))
      (Tr.test ((!leF x3 0:Bool))
        (Tr.test (Option.isSome (f106 (x0,(x4,()))))
          (Tr.test (Option.isSome (f106 (x1,(x4,()))))
            (Tr.test ((Nat.ble (((2:Nat) * (List.length x2 + (1:Nat)) + (192:Nat)) * (8:Nat)) (281474976710656:Nat) && Nat.ble (List.length x2 + (1:Nat)) (281474976710656:Nat):Bool))
              (let r0:=g106 (x0,(x4,()));
              let r1:=g106 (x1,(x4,()));
              Tr.fin (.again ((x0,(x1,((x2++[Int.tmod (wrap64 (wrap64 (r0.1 + r1.1) + x3)) (1000000000:Int)]:List Int),((Go.IntKind.wrap Go.IntKind.i64 (Int.tdiv (wrap64 (wrap64 (r0.1 + r1.1) + x3)) (1000000000:Int)):Int),((wrap64 (x4 + (1:Int)):Int),()))))),())))
              (Tr.stop))
            (Tr.stop))
          (Tr.stop))
        (Tr.fin (.brk ((x2,()),())))))

def s96_0 (d:sh96_0.data):Option (Out sh96_0.data shb96_0.data shr96_0.data):=(t96_0 d.1.1 d.1.2.1 d.1.2.2.1 d.1.2.2.2.1 d.1.2.2.2.2.1).val
def l96_0 (d:sh96_0.data):Option (shb96_0.data ⊕ shr96_0.data):=itr s96_0 rounds d
def b96_0 (d:sh96_0.data):shb96_0.data:=outB shb96_0.dflt (l96_0 d)
def lc96_0:LoopC:=lcB sh96_0 shb96_0 shr96_0 l96_0 b96_0

theorem wk96_0 (x0:(List Int)) (x1:(List Int)) (x2:(List Int)) (x3:Int) (x4:Int):Walks (runBody (kf98 Go.Proofs.Try.prog).orc Go.Proofs.Try.prog 400 96 0 sh96_0 shb96_0 shr96_0 ((x0,x1,x2,x3,x4,()),())) (t96_0 x0 x1 x2 x3 x4) [([true,true,true,true],[0,1,2,0,0,4,6,1,1,1,1,8,8,8,8,8]),([false,true,true,true,true],[0,1,2,0,0,4,6,1,8,8,8,10,10,10,10,10]),([false,false,true,true,true,true],[0,1,2,0,0,4,6,8,10,10,10,12,12,12,12,12]),([false,false,false],[2,4,4,4,6,6,6,6,6])] :=
  ⟨by kernel_rfl,by kernel_rfl,by kernel_rfl,by kernel_rfl,trivial⟩

theorem ok96_0_t (x0:(List Int)) (x1:(List Int)) (x2:(List Int)) (x3:Int) (x4:Int):TrOk (BodyRuns Go.Proofs.Try.prog (kf98 Go.Proofs.Try.prog).orc 96 0 sh96_0 shb96_0 shr96_0 ((x0,x1,x2,x3,x4,()),())) (t96_0 x0 x1 x2 x3 x4) :=
  Walks.ok (fun _ _ _=>BodyRuns.of) (wk96_0 x0 x1 x2 x3 x4) (by kernel_rfl)

theorem ok96_0:LoopOk Go.Proofs.Try.prog 96 0 lc96_0:=loopOk_ofB (sh:=sh96_0) (shB:=shb96_0) (shR:=shr96_0) kf98_ok.base (T:=fun (d:sh96_0.data)=>t96_0 d.1.1 d.1.2.1 d.1.2.2.1 d.1.2.2.2.1 d.1.2.2.2.2.1) (by kernel_rfl) rfl (fun (d:sh96_0.data)=>ok96_0_t d.1.1 d.1.2.1 d.1.2.2.1 d.1.2.2.2.1 d.1.2.2.2.2.1) (fun _=>rfl)
def kl96_0 (P:Go.Program):Known:=(kf98 P).loop 96 0 lc96_0
theorem kl96_0_ok:KnownOk Go.Proofs.Try.prog (kl96_0 Go.Proofs.Try.prog):=kf98_ok.loop ok96_0

/-! ductility/ductilitybase.addDigits -/

abbrev as96:List Ty:=[(.slice (.int .i64)),(.slice (.int .i64))]
abbrev rs96:List Ty:=[(.slice (.int .i64))]

def t96 (x0:(List Int)) (x1:(List Int)):Tr (Tys.data rs96) :=
  Tr.test (isBrk (l96_0 ((x0,(x1,(([]:List Int),((0:Int),((0:Int),()))))),())))
    (let r0:=b96_0 ((x0,(x1,(([]:List Int),((0:Int),((0:Int),()))))),());
    Tr.fin ((r0.1.1,())))
    (Tr.stop)

def f96 (d:Tys.data as96):Option (Tys.data rs96):=(t96 d.1 d.2.1).val
def g96 (d:Tys.data as96):Tys.data rs96:=(f96 d).getD (Tys.dflt rs96)
def p96:PureC:=pcOf as96 rs96 f96 g96

theorem wk96 (x0:(List Int)) (x1:(List Int)):Walks (runPure (kl96_0 Go.Proofs.Try.prog).orc Go.Proofs.Try.prog 400 96 as96 rs96 (x0,x1,())) (t96 x0 x1) [([tt],[1,2])] :=
  ⟨by kernel_rfl,trivial⟩

theorem ok96_t (x0:(List Int)) (x1:(List Int)):TrOk (PureRuns Go.Proofs.Try.prog (kl96_0 Go.Proofs.Try.prog).orc 96 as96 rs96 (x0,x1,())) (t96 x0 x1) :=
  Walks.ok (fun _ _ _=>PureRuns.of) (wk96 x0 x1) (by kernel_rfl)

theorem ok96:PureOk Go.Proofs.Try.prog 96 p96:=pureOk_of kl96_0_ok.base (T:=fun (d:Tys.data as96)=>t96 d.1 d.2.1) (by kernel_rfl) (fun (d:Tys.data as96)=>ok96_t d.1 d.2.1)
def kf96 (P:Go.Program):Known:=(kl96_0 P).func 96 p96
theorem kf96_ok:KnownOk Go.Proofs.Try.prog (kf96 Go.Proofs.Try.prog):=kl96_0_ok.func ok96

/-! ductility/ductilitybase.WideAdd -/

abbrev as72:List Ty:=[(.pair (.int .i64) (.pair (.slice (.int .i64)) .unit)),(.pair (.int .i64) (.pair (.slice (.int .i64)) .unit))]
abbrev rs72:List Ty:=[(.pair (.int .i64) (.pair (.slice (.int .i64)) .unit))]

def t72 (x0:Int) (x0':(List Int)) (x1:Int) (x1':(List Int)):Tr (Tys.data rs72) :=
  Tr.test ((eqF x0 0:Bool))
    (Tr.fin (((x1,(x1',())),())))
    (Tr.test (eqF x1 0)
      (Tr.fin (((x0,(x0',())),())))
      (Tr.test ((eqF x0 x1:Bool))
        (Tr.test (Option.isSome (f96 (x0',(x1',()))))
          (let r0:=g96 (x0',(x1',()));
          Tr.test (Option.isSome (f90 (x0,(r0.1,()))))
            (let r1:=g90 (x0,(r0.1,()));
            Tr.fin (((r1.1.1,(r1.1.2.1,())),())))
            (Tr.stop))
          (Tr.stop))
        (Tr.test (Option.isSome (f97 (x0',(x1',()))))
          (let r2:=g97 (x0',(x1',()));
          Tr.test ((eqF r2.1 0:Bool))
            (Tr.fin ((((0:Int),(([]:List Int),())),())))
            (Tr.test ((!leF r2.1 0:Bool))
              (Tr.test (Option.isSome (f98 (x0',(x1',()))))
                (let r3:=g98 (x0',(x1',()));
                Tr.test (Option.isSome (f90 (x0,(r3.1,()))))
                  (let r4:=g90 (x0,(r3.1,()));
                  Tr.fin (((r4.1.1,(r4.1.2.1,())),())))
                  (Tr.stop))
                (Tr.stop))
              (Tr.test (Option.isSome (f98 (x1',(x0',()))))
                (let r5:=g98 (x1',(x0',()));
                Tr.test (Option.isSome (f90 (x1,(r5.1,()))))
                  (let r6:=g90 (x1,(r5.1,()));
                  Tr.fin (((r6.1.1,(r6.1.2.1,())),())))
                  (Tr.stop))
                (Tr.stop))))
          (Tr.stop))))

def f72 (d:Tys.data as72):Option (Tys.data rs72):=(t72 d.1.1 d.1.2.1 d.2.1.1 d.2.1.2.1).val
def g72 (d:Tys.data as72):Tys.data rs72:=(f72 d).getD (Tys.dflt rs72)
def p72:PureC:=pcOf as72 rs72 f72 g72

theorem wk72 (x0:Int) (x0':(List Int)) (x1:Int) (x1':(List Int)):Walks (runPure (kf96 Go.Proofs.Try.prog).orc Go.Proofs.Try.prog 400 72 as72 rs72 ((x0,x0',()),(x1,x1',()),())) (t72 x0 x0' x1 x1') [([tt],[2]),([false,true],[2,4]),([false,false,true,true,true],[2,4,6,8,10]),([false,false,false,true,true],[2,4,6,8,10]),([false,false,false,true,false,true,true,true],[2,4,6,8,10,12,14,16]),([false,false,false,true,false,false,true,true],[2,4,6,8,10,12,14,16])] :=
  ⟨by kernel_rfl,by kernel_rfl,by kernel_rfl,by kernel_rfl,by kernel_rfl,by kernel_rfl,trivial⟩

theorem ok72_t (x0:Int) (x0':(List Int)) (x1:Int) (x1':(List Int)):TrOk (PureRuns Go.Proofs.Try.prog (kf96 Go.Proofs.Try.prog).orc 72 as72 rs72 ((x0,x0',()),(x1,x1',()),())) (t72 x0 x0' x1 x1') :=
  Walks.ok (fun _ _ _=>PureRuns.of) (wk72 x0 x0' x1 x1') (by kernel_rfl)

theorem ok72:PureOk Go.Proofs.Try.prog 72 p72:=pureOk_of kf96_ok.base (T:=fun (d:Tys.data as72)=>t72 d.1.1 d.1.2.1 d.2.1.1 d.2.1.2.1) (by kernel_rfl) (fun (d:Tys.data as72)=>ok72_t d.1.1 d.1.2.1 d.2.1.1 d.2.1.2.1)
def kf72 (P:Go.Program):Known:=(kf96 P).func 72 p72
theorem kf72_ok:KnownOk Go.Proofs.Try.prog (kf72 Go.Proofs.Try.prog):=kf96_ok.func ok72

/-! ductility/ductilitybase.WideSub -/

abbrev as95:List Ty:=[(.pair (.int .i64) (.pair (.slice (.int .i64)) .unit)),(.pair (.int .i64) (.pair (.slice (.int .i64)) .unit))]
abbrev rs95:List Ty:=[(.pair (.int .i64) (.pair (.slice (.int .i64)) .unit))]

def t95 (x0:Int) (x0':(List Int)) (x1:Int) (x1':(List Int)):Tr (Tys.data rs95) :=
  Tr.test (Option.isSome (f92 ((x1,(x1',())),())))
    (let r0:=g92 ((x1,(x1',())),());
    Tr.test (Option.isSome (f72 ((x0,(x0',())),((r0.1.1,(r0.1.2.1,())),()))))
      (let r1:=g72 ((x0,(x0',())),((r0.1.1,(r0.1.2.1,())),()));
      Tr.fin (((r1.1.1,(r1.1.2.1,())),())))
      (Tr.stop))
    (Tr.stop)

def f95 (d:Tys.data as95):Option (Tys.data rs95):=(t95 d.1.1 d.1.2.1 d.2.1.1 d.2.1.2.1).val
def g95 (d:Tys.data as95):Tys.data rs95:=(f95 d).getD (Tys.dflt rs95)
def p95:PureC:=pcOf as95 rs95 f95 g95

theorem wk95 (x0:Int) (x0':(List Int)) (x1:Int) (x1':(List Int)):Walks (runPure (kf72 Go.Proofs.Try.prog).orc Go.Proofs.Try.prog 400 95 as95 rs95 ((x0,x0',()),(x1,x1',()),())) (t95 x0 x0' x1 x1') [([true,true],[2,4])] :=
  ⟨by kernel_rfl,trivial⟩

theorem ok95_t (x0:Int) (x0':(List Int)) (x1:Int) (x1':(List Int)):TrOk (PureRuns Go.Proofs.Try.prog (kf72 Go.Proofs.Try.prog).orc 95 as95 rs95 ((x0,x0',()),(x1,x1',()),())) (t95 x0 x0' x1 x1') :=
  Walks.ok (fun _ _ _=>PureRuns.of) (wk95 x0 x0' x1 x1') (by kernel_rfl)

theorem ok95:PureOk Go.Proofs.Try.prog 95 p95:=pureOk_of kf72_ok.base (T:=fun (d:Tys.data as95)=>t95 d.1.1 d.1.2.1 d.2.1.1 d.2.1.2.1) (by kernel_rfl) (fun (d:Tys.data as95)=>ok95_t d.1.1 d.1.2.1 d.2.1.1 d.2.1.2.1)
def kf95 (P:Go.Program):Known:=(kf72 P).func 95 p95
theorem kf95_ok:KnownOk Go.Proofs.Try.prog (kf95 Go.Proofs.Try.prog):=kf72_ok.func ok95

/-! loop 2 of ductility/ductilitybase.WideFloor -/

abbrev sh94_2:Sh:={ n:=88,slots:=[2,3,4,5,6,7,8,9],pats:=[.ptr 0 2 0,.ptr 1 2 0,.ptr 2 2 0,.sli 3 1,.ty (.slice (.int .i64)),.ty (.int .i64),.ty (.int .i64),.ty (.int .i64)],boxes:=[.row [.ty (.int .i64),.ty (.slice (.int .i64))],.row [.ty (.int .i64),.ty (.slice (.int .i64))],.row [.ty (.int .i64),.nil],.arr (.int .i64)] }
abbrev shb94_2:Sh:={ n:=88,slots:=[2,3,4,5,6,7,8],pats:=[.ptr 0 2 0,.ptr 1 2 0,.ptr 2 2 0,.sli 3 1,.ty (.slice (.int .i64)),.ty (.int .i64),.ty (.int .i64)],boxes:=[.row [.ty (.int .i64),.ty (.slice (.int .i64))],.row [.ty (.int .i64),.ty (.slice (.int .i64))],.row [.ty (.int .i64),.nil],.arr (.int .i64)] }
abbrev shr94_2:Sh:={ n:=88,slots:=[],pats:=[],boxes:=[.row [.ty (.int .i64),.ty (.slice (.int .i64))],.row [.ty (.int .i64),.ty (.slice (.int .i64))],.row [.ty (.int .i64),.nil],.arr (.int .i64)] }

def t94_2 (x3n:Nat) (x3c:Nat) (x4:(List Int)) (x5:Int) (x6:Int) (x7:Int) (b0_0:Int) (b0_1:(List Int)) (b1_0:Int) (b1_1:(List Int)) (b2_0:Int) (b3:(List Int)):Tr (Out sh94_2.data shb94_2.data shr94_2.data) :=
  Tr.test ((!leF x7 x6:Bool))
    (Tr.test (Option.isSome (f90 ((1:Int),(b1_1,()))))
      (Tr.test (Option.isSome (f68 ((Go.IntKind.wrap Go.IntKind.i64 (Int.tdiv (wrap64 (wrap64 (x6 + x7) + (1:Int))) (2:Int)):Int),())))
        (let r0:=g90 ((1:Int),(b1_1,()));
        let r1:=g68 ((Go.IntKind.wrap Go.IntKind.i64 (Int.tdiv (wrap64 (wrap64 (x6 + x7) + (1:Int))) (2:Int)):Int),());
        Tr.test (Option.isSome (f71 ((r0.1.1,(r0.1.2.1,())),((r1.1.1,(r1.1.2.1,())),()))))
          (let r2:=g71 ((r0.1.1,(r0.1.2.1,())),((r1.1.1,(r1.1.2.1,())),()));
          Tr.test (Option.isSome (f97 (r2.1.2.1,(x4,()))))
            (let r3:=g97 (r2.1.2.1,(x4,()));
            Tr.test ((leF r3.1 0:Bool))
              (Tr.fin (.again (((x3n,x3c),(x4,(x5,((Go.IntKind.wrap Go.IntKind.i64 (Int.tdiv (wrap64 (wrap64 (x6 + x7) + (1:Int))) (2:Int)):Int),(x7,()))))),((b0_0,(b0_1,())),((b1_0,(b1_1,())),((b2_0,()),(b3,())))))))
              (Tr.fin (.again (((x3n,x3c),(x4,(x5,(x6,((wrap64 (Go.IntKind.wrap Go.IntKind.i64 (Int.tdiv (wrap64 (wrap64 (x6 + x7) + (1:Int))) (2:Int)) - (1:Int)):Int),()))))),((b0_0,(b0_1,())),((b1_0,(b1_1,())),((b2_0,()),(b3,()))))))))
            (Tr.stop))
          (Tr.stop))
        (Tr.stop))
      (Tr.stop))
    (Tr.fin (.brk (((x3n,x3c),(x4,(x5,(x6,())))),((b0_0,(b0_1,())),((b1_0,(b1_1,())),((b2_0,()),(b3,())))))))

def s94_2 (d:sh94_2.data):Option (Out sh94_2.data shb94_2.data shr94_2.data):=(t94_2 d.1.1.1 d.1.1.2 d.1.2.1 d.1.2.2.1 d.1.2.2.2.1 d.1.2.2.2.2.1 d.2.1.1 d.2.1.2.1 d.2.2.1.1 d.2.2.1.2.1 d.2.2.2.1.1 d.2.2.2.2.1).val
def l94_2 (d:sh94_2.data):Option (shb94_2.data ⊕ shr94_2.data):=itr s94_2 rounds d
def b94_2 (d:sh94_2.data):shb94_2.data:=outB shb94_2.dflt (l94_2 d)
def lc94_2:LoopC:=lcB sh94_2 shb94_2 shr94_2 l94_2 b94_2

theorem wk94_2 (x3n:Nat) (x3c:Nat) (x4:(List Int)) (x5:Int) (x6:Int) (x7:Int) (b0_0:Int) (b0_1:(List Int)) (b1_0:Int) (b1_1:(List Int)) (b2_0:Int) (b3:(List Int)):Walks (runBody (kf95 Go.Proofs.Try.prog).orc Go.Proofs.Try.prog 400 94 2 sh94_2 shb94_2 shr94_2 (((x3n,x3c),x4,x5,x6,x7,()),(b0_0,b0_1,()),(b1_0,b1_1,()),(b2_0,()),b3,())) (t94_2 x3n x3c x4 x5 x6 x7 b0_0 b0_1 b1_0 b1_1 b2_0 b3) [([true,true,true,true,true,true],[2,4,6,8,10,0,12]),([true,true,true,true,true,false],[2,4,6,8,10,0,12]),([ff],[2])] :=
  ⟨by kernel_rfl,by kernel_rfl,by kernel_rfl,trivial⟩

theorem ok94_2_t (x3n:Nat) (x3c:Nat) (x4:(List Int)) (x5:Int) (x6:Int) (x7:Int) (b0_0:Int) (b0_1:(List Int)) (b1_0:Int) (b1_1:(List Int)) (b2_0:Int) (b3:(List Int)):TrOk (BodyRuns Go.Proofs.Try.prog (kf95 Go.Proofs.Try.prog).orc 94 2 sh94_2 shb94_2 shr94_2 (((x3n,x3c),x4,x5,x6,x7,()),(b0_0,b0_1,()),(b1_0,b1_1,()),(b2_0,()),b3,())) (t94_2 x3n x3c x4 x5 x6 x7 b0_0 b0_1 b1_0 b1_1 b2_0 b3) :=
  Walks.ok (fun _ _ _=>BodyRuns.of) (wk94_2 x3n x3c x4 x5 x6 x7 b0_0 b0_1 b1_0 b1_1 b2_0 b3) (by kernel_rfl)

theorem ok94_2:LoopOk Go.Proofs.Try.prog 94 2 lc94_2:=loopOk_ofB (sh:=sh94_2) (shB:=shb94_2) (shR:=shr94_2) kf95_ok.base (T:=fun (d:sh94_2.data)=>t94_2 d.1.1.1 d.1.1.2 d.1.2.1 d.1.2.2.1 d.1.2.2.2.1 d.1.2.2.2.2.1 d.2.1.1 d.2.1.2.1 d.2.2.1.1 d.2.2.1.2.1 d.2.2.2.1.1 d.2.2.2.2.1) (by kernel_rfl) rfl (fun (d:sh94_2.data)=>ok94_2_t d.1.1.1 d.1.1.2 d.1.2.1 d.1.2.2.1 d.1.2.2.2.1 d.1.2.2.2.2.1 d.2.1.1 d.2.1.2.1 d.2.2.1.1 d.2.2.1.2.1 d.2.2.2.1.1 d.2.2.2.2.1) (fun _=>rfl)
def kl94_2 (P:Go.Program):Known:=(kf95 P).loop 94 2 lc94_2
theorem kl94_2_ok:KnownOk Go.Proofs.Try.prog (kl94_2 Go.Proofs.Try.prog):=kf95_ok.loop ok94_2

/-! loop 0 of ductility/ductilitybase.WideFloor -/

abbrev sh94_0:Sh:={ n:=88,slots:=[2,3,4,5,6,7],pats:=[.ptr 0 2 0,.ptr 1 2 0,.ptr 2 2 0,.sli 3 1,.ty (.slice (.int .i64)),.ty (.int .i64)],boxes:=[.row [.ty (.int .i64),.ty (.slice (.int .i64))],.row [.ty (.int .i64),.ty (.slice (.int .i64))],.row [.ty (.int .i64),.nil],.arr (.int .i64)] }
abbrev shb94_0:Sh:={ n:=88,slots:=[2,4,5,6],pats:=[.ptr 0 2 0,.ptr 2 2 0,.sli 3 1,.ty (.slice (.int .i64))],boxes:=[.row [.ty (.int .i64),.ty (.slice (.int .i64))],.row [.ty (.int .i64),.ty (.slice (.int .i64))],.row [.ty (.int .i64),.nil],.arr (.int .i64)] }
abbrev shr94_0:Sh:={ n:=88,slots:=[],pats:=[],boxes:=[.row [.ty (.int .i64),.ty (.slice (.int .i64))],.row [.ty (.int .i64),.ty (.slice (.int .i64))],.row [.ty (.int .i64),.nil],.arr (.int .i64)] }

def t94_0 (x3n:Nat) (x3c:Nat) (x4:(List Int)) (x5:Int) (b0_0:Int) (b0_1:(List Int)) (b1_0:Int) (b1_1:(List Int)) (b2_0:Int) (b3:(List Int)):Tr (Out sh94_0.data shb94_0.data shr94_0.data) :=
  Tr.test ((leF (0:Int) x5:Bool))
    (Tr.test (decide ((0:Int) ≤ x5) && decide (x5 < (↑(List.length b0_1):Int)))
      (Tr.test ((Nat.beq (List.length x4) (0:Nat):Bool))
        (Tr.test (Option.isSome (f104 (([List.getD b0_1 (Int.toNat x5) (0:Int)]:List Int),())))
          (let r0:=g104 (([List.getD b0_1 (Int.toNat x5) (0:Int)]:List Int),());
          Tr.test (isBrk (l94_2 (((x3n,x3c),(r0.1,(x5,((0:Int),((999999999:Int),()))))),((b0_0,(b0_1,())),((b1_0,(b1_1,())),((b2_0,()),(b3,())))))))
            (let r2:=b94_2 (((x3n,x3c),(r0.1,(x5,((0:Int),((999999999:Int),()))))),((b0_0,(b0_1,())),((b1_0,(b1_1,())),((b2_0,()),(b3,())))));
            Tr.test ((decide ((0:Int) ≤ r2.1.2.2.1) && decide (r2.1.2.2.1 < (↑r2.1.1.1:Int)):Bool))
              (Tr.test ((Nat.ble ((0:Nat) + Int.toNat r2.1.2.2.1 + (1:Nat)) (List.length r2.2.2.2.2.1):Bool))
                (Tr.test (Option.isSome (f90 ((1:Int),(r2.2.2.1.2.1,()))))
                  (Tr.test (Option.isSome (f68 (r2.1.2.2.2.1,())))
                    (let r3:=g90 ((1:Int),(r2.2.2.1.2.1,()));
                    let r4:=g68 (r2.1.2.2.2.1,());
                    Tr.test (Option.isSome (f71 ((r3.1.1,(r3.1.2.1,())),((r4.1.1,(r4.1.2.1,())),()))))
                      (let r5:=g71 ((r3.1.1,(r3.1.2.1,())),((r4.1.1,(r4.1.2.1,())),()));
                      Tr.test (Option.isSome (f98 (r2.1.2.1,(r5.1.2.1,()))))
                        (let r6:=g98 (r2.1.2.1,(r5.1.2.1,()));
                        Tr.fin (.again (((r2.1.1.1,r2.1.1.2),(r6.1,((wrap64 (r2.1.2.2.1 - (1:Int)):Int),()))),((r2.2.1.1,(r2.2.1.2.1,())),((r2.2.2.1.1,(r2.2.2.1.2.1,())),((r2.2.2.2.1.1,()),((List.set r2.2.2.2.2.1 ((0:Nat) + Int.toNat r2.1.2.2.1) r2.1.2.2.2.1:List Int),())))))))
                        (Tr.stop))
                      (Tr.stop))
                    (Tr.stop))
                  (Tr.stop))
                (Tr.stop))
              (Tr.stop))
            (Tr.stop))
          (Tr.stop))
        (Tr.test ((Nat.ble ((1:Nat) + List.length x4) (1:Nat):Bool))
          (Tr.stop)
          (Tr.test ((Nat.ble (((2:Nat) * ((1:Nat) + List.length x4) + (192:Nat)) * (8:Nat)) (281474976710656:Nat) && Nat.ble ((1:Nat) + List.length x4) (281474976710656:Nat):Bool))
            (Tr.test ((Nat.beq ((1:Nat) + List.length x4) (List.length ([List.getD b0_1 (Int.toNat x5) (0:Int)]++x4)):Bool))
              (Tr.test (Option.isSome (f104 (([List.getD b0_1 (Int.toNat x5) (0:Int)]++x4:List Int),())))
                (let r1:=g104 (([List.getD b0_1 (Int.toNat x5) (0:Int)]++x4:List Int),());
                Tr.test (isBrk (l94_2 (((x3n,x3c),(r1.1,(x5,((0:Int),((999999999:Int),()))))),((b0_0,(b0_1,())),((b1_0,(b1_1,())),((b2_0,()),(b3,())))))))
                  (let r7:=b94_2 (((x3n,x3c),(r1.1,(x5,((0:Int),((999999999:Int),()))))),((b0_0,(b0_1,())),((b1_0,(b1_1,())),((b2_0,()),(b3,())))));
                  Tr.test ((decide ((0:Int) ≤ r7.1.2.2.1) && decide (r7.1.2.2.1 < (↑r7.1.1.1:Int)):Bool))
                    (Tr.test ((Nat.ble ((0:Nat) + Int.toNat r7.1.2.2.1 + (1:Nat)) (List.length r7.2.2.2.2.1):Bool))
                      (Tr.test (Option.isSome (f90 ((1:Int),(r7.2.2.1.2.1,()))))
                        (Tr.test (Option.isSome (f68 (r7.1.2.2.2.1,())))
                          (let r8:=g90 ((1:Int),(r7.2.2.1.2.1,()));
                          let r9:=g68 (r7.1.2.2.2.1,());
                          Tr.test (Option.isSome (f71 ((r8.1.1,(r8.1.2.1,())),((r9.1.1,(r9.1.2.1,())),()))))
                            (let r10:=g71 ((r8.1.1,(r8.1.2.1,())),((r9.1.1,(r9.1.2.1,())),()));
                            Tr.test (Option.isSome (f98 (r7.1.2.1,(r10.1.2.1,()))))
                              (let r11:=g98 (r7.1.2.1,(r10.1.2.1,()));
                              Tr.fin (.again (((r7.1.1.1,r7.1.1.2),(r11.1,((wrap64 (r7.1.2.2.1 - (1:Int)):Int),()))),((r7.2.1.1,(r7.2.1.2.1,())),((r7.2.2.1.1,(r7.2.2.1.2.1,())),((r7.2.2.2.1.1,()),((List.set r7.2.2.2.2.1 ((0:Nat) + Int.toNat r7.1.2.2.1) r7.1.2.2.2.1:List Int),())))))))
                              (Tr.stop))
                            (Tr.stop))
                          (Tr.stop))
                        (Tr.stop))
                      (Tr.stop))
                    (Tr.stop))
                  (Tr.stop))
                (Tr.stop))
              (Tr.stop))
            (Tr.stop))))
      (Tr.stop))
    (Tr.fin (.brk (((x3n,x3c),(x4,())),((b0_0,(b0_1,())),((b1_0,(b1_1,())),((b2_0,()),(b3,())))))))

def s94_0 (d:sh94_0.data):Option (Out sh94_0.data shb94_0.data shr94_0.data):=(t94_0 d.1.1.1 d.1.1.2 d.1.2.1 d.1.2.2.1 d.2.1.1 d.2.1.2.1 d.2.2.1.1 d.2.2.1.2.1 d.2.2.2.1.1 d.2.2.2.2.1).val
def l94_0 (d:sh94_0.data):Option (shb94_0.data ⊕ shr94_0.data):=itr s94_0 rounds d
def b94_0 (d:sh94_0.data):shb94_0.data:=outB shb94_0.dflt (l94_0 d)
def lc94_0:LoopC:=lcB sh94_0 shb94_0 shr94_0 l94_0 b94_0

theorem wk94_0 (x3n:Nat) (x3c:Nat) (x4:(List Int)) (x5:Int) (b0_0:Int) (b0_1:(List Int)) (b1_0:Int) (b1_1:(List Int)) (b2_0:Int) (b3:(List Int)):Walks (runBody (kl94_2 Go.Proofs.Try.prog).orc Go.Proofs.Try.prog 400 94 0 sh94_0 shb94_0 shr94_0 (((x3n,x3c),x4,x5,()),(b0_0,b0_1,()),(b1_0,b1_1,()),(b2_0,()),b3,())) (t94_0 x3n x3c x4 x5 b0_0 b0_1 b1_0 b1_1 b2_0 b3) [([true,true,true,true,true,true,true,true,true,true,true],[2,4,6,8,10,12,1,14,16,1,18,20,22]),([true,true,false,false,true,true,true,true,true,true,true,true,true,true],[2,4,6,8,10,12,1,14,16,18,1,20,22,24,26,28]),([ff],[2])] :=
  ⟨by kernel_rfl,by kernel_rfl,by kernel_rfl,trivial⟩

theorem ok94_0_t (x3n:Nat) (x3c:Nat) (x4:(List Int)) (x5:Int) (b0_0:Int) (b0_1:(List Int)) (b1_0:Int) (b1_1:(List Int)) (b2_0:Int) (b3:(List Int)):TrOk (BodyRuns Go.Proofs.Try.prog (kl94_2 Go.Proofs.Try.prog).orc 94 0 sh94_0 shb94_0 shr94_0 (((x3n,x3c),x4,x5,()),(b0_0,b0_1,()),(b1_0,b1_1,()),(b2_0,()),b3,())) (t94_0 x3n x3c x4 x5 b0_0 b0_1 b1_0 b1_1 b2_0 b3) :=
  Walks.ok (fun _ _ _=>BodyRuns.of) (wk94_0 x3n x3c x4 x5 b0_0 b0_1 b1_0 b1_1 b2_0 b3) (by kernel_rfl)

theorem ok94_0:LoopOk Go.Proofs.Try.prog 94 0 lc94_0:=loopOk_ofB (sh:=sh94_0) (shB:=shb94_0) (shR:=shr94_0) kl94_2_ok.base (T:=fun (d:sh94_0.data)=>t94_0 d.1.1.1 d.1.1.2 d.1.2.1 d.1.2.2.1 d.2.1.1 d.2.1.2.1 d.2.2.1.1 d.2.2.1.2.1 d.2.2.2.1.1 d.2.2.2.2.1) (by kernel_rfl) rfl (fun (d:sh94_0.data)=>ok94_0_t d.1.1.1 d.1.1.2 d.1.2.1 d.1.2.2.1 d.2.1.1 d.2.1.2.1 d.2.2.1.1 d.2.2.1.2.1 d.2.2.2.1.1 d.2.2.2.2.1) (fun _=>rfl)
def kl94_0 (P:Go.Program):Known:=(kl94_2 P).loop 94 0 lc94_0
theorem kl94_0_ok:KnownOk Go.Proofs.Try.prog (kl94_0 Go.Proofs.Try.prog):=kl94_2_ok.loop ok94_0

/-! ductility/ductilitybase.WideFloor -/

abbrev as94:List Ty:=[(.pair (.int .i64) (.pair (.slice (.int .i64)) .unit)),(.pair (.int .i64) (.pair (.slice (.int .i64)) .unit))]
abbrev rs94:List Ty:=[(.pair (.int .i64) (.pair (.slice (.int .i64)) .unit))]

def t94 (x0:Int) (x0':(List Int)) (x1:Int) (x1':(List Int)):Tr (Tys.data rs94) :=
  Tr.test ((eqF x0 0:Bool))
    (Tr.fin ((((0:Int),(([]:List Int),())),())))
    (Tr.test (decide ((0:Int) ≤ (↑(List.length x0'):Int)) && decide ((↑(List.length x0'):Int) ≤ (↑(List.length x0'):Int)) && decide ((8:Int) * (↑(List.length x0'):Int) ≤ (281474976710656:Int)) && decide ((↑(List.length x0'):Int) ≤ (281474976710656:Int)))
      (Tr.test (isBrk (l94_0 ((((Int.toNat (↑(List.length x0'):Int):Nat),(Int.toNat (↑(List.length x0'):Int):Nat)),(([]:List Int),((wrap64 ((↑(List.length x0'):Int) - (1:Int)):Int),()))),((x0,(x0',())),((x1,(x1',())),(((0:Int),()),((List.replicate (Int.toNat (↑(List.length x0'):Int)) (0:Int):List Int),())))))))
        (let r0:=b94_0 ((((Int.toNat (↑(List.length x0'):Int):Nat),(Int.toNat (↑(List.length x0'):Int):Nat)),(([]:List Int),((wrap64 ((↑(List.length x0'):Int) - (1:Int)):Int),()))),((x0,(x0',())),((x1,(x1',())),(((0:Int),()),((List.replicate (Int.toNat (↑(List.length x0'):Int)) (0:Int):List Int),())))));
        Tr.test ((Nat.beq r0.1.1.1 (List.length r0.2.2.2.2.1):Bool))
          (Tr.test (Option.isSome (f90 (r0.2.1.1,(r0.2.2.2.2.1,()))))
            (Tr.test ((!leF (0:Int) r0.2.1.1:Bool))
              (Tr.test ((!leF (↑(List.length r0.1.2.1):Int) (0:Int):Bool))
                (Tr.test (Option.isSome (f68 ((1:Int),())))
                  (let r1:=g90 (r0.2.1.1,(r0.2.2.2.2.1,()));
                  let r3:=g68 ((1:Int),());
                  Tr.test (Option.isSome (f95 ((r1.1.1,(r1.1.2.1,())),((r3.1.1,(r3.1.2.1,())),()))))
                    (let r4:=g95 ((r1.1.1,(r1.1.2.1,())),((r3.1.1,(r3.1.2.1,())),()));
                    Tr.fin (((r4.1.1,(r4.1.2.1,())),())))
                    (Tr.stop))
                  (Tr.stop))
                (let r1:=g90 (r0.2.1.1,(r0.2.2.2.2.1,()));
                Tr.fin (((r1.1.1,(r1.1.2.1,())),()))))
              (let r1:=g90 (r0.2.1.1,(r0.2.2.2.2.1,()));
              Tr.fin (((r1.1.1,(r1.1.2.1,())),()))))
            (Tr.stop))
          (Tr.test ((Nat.ble r0.1.1.1 (List.length r0.2.2.2.2.1):Bool))
            (Tr.test (Option.isSome (f90 (r0.2.1.1,((List.take r0.1.1.1 r0.2.2.2.2.1:List Int),()))))
              (Tr.test ((!leF (0:Int) r0.2.1.1:Bool))
                (Tr.test ((!leF (↑(List.length r0.1.2.1):Int) (0:Int):Bool))
                  (Tr.test (Option.isSome (f68 ((1:Int),())))
                    (let r2:=g90 (r0.2.1.1,((List.take r0.1.1.1 r0.2.2.2.2.1:List Int),()));
                    let r3:=g68 ((1:Int),());
                    Tr.test (Option.isSome (f95 ((r2.1.1,(r2.1.2.1,())),((r3.1.1,(r3.1.2.1,())),()))))
                      (let r5:=g95 ((r2.1.1,(r2.1.2.1,())),((r3.1.1,(r3.1.2.1,())),()));
                      Tr.fin (((r5.1.1,(r5.1.2.1,())),())))
                      (Tr.stop))
                    (Tr.stop))
                  (let r2:=g90 (r0.2.1.1,((List.take r0.1.1.1 r0.2.2.2.2.1:List Int),()));
                  Tr.fin (((r2.1.1,(r2.1.2.1,())),()))))
                (let r2:=g90 (r0.2.1.1,((List.take r0.1.1.1 r0.2.2.2.2.1:List Int),()));
                Tr.fin (((r2.1.1,(r2.1.2.1,())),()))))
              (Tr.stop))
            (Tr.stop /- a known call [op 3 of region 16 of F94] -/)))
        (Tr.stop))
      (Tr.stop))

def f94 (d:Tys.data as94):Option (Tys.data rs94):=(t94 d.1.1 d.1.2.1 d.2.1.1 d.2.1.2.1).val
def g94 (d:Tys.data as94):Tys.data rs94:=(f94 d).getD (Tys.dflt rs94)
def p94:PureC:=pcOf as94 rs94 f94 g94

theorem wk94 (x0:Int) (x0':(List Int)) (x1:Int) (x1':(List Int)):Walks (runPure (kl94_0 Go.Proofs.Try.prog).orc Go.Proofs.Try.prog 400 94 as94 rs94 ((x0,x0',()),(x1,x1',()),())) (t94 x0 x0' x1 x1') [([tt],[2]),([false,true,true,true,true,true,true,true,true],[2,4,6,8,8,8,8,10,12,1,14,16,18]),([false,true,true,true,true,true,false],[2,4,4,4,4,6,8,1,10,12,14]),([false,true,true,true,true,false],[0,2,2,2,2,4,6,1,8,10,12]),([false,true,true,false,true,true,true,true,true,true],[2,4,6,8,8,8,8,10,12,14,1,16,18,20]),([false,true,true,false,true,true,true,false],[2,4,4,4,4,6,8,10,1,12,14,16]),([false,true,true,false,true,true,false],[0,2,2,2,2,4,6,8,1,10,12,14])] :=
  ⟨by kernel_rfl,by kernel_rfl,by kernel_rfl,by kernel_rfl,by kernel_rfl,by kernel_rfl,by kernel_rfl,trivial⟩

theorem ok94_t (x0:Int) (x0':(List Int)) (x1:Int) (x1':(List Int)):TrOk (PureRuns Go.Proofs.Try.prog (kl94_0 Go.Proofs.Try.prog).orc 94 as94 rs94 ((x0,x0',()),(x1,x1',()),())) (t94 x0 x0' x1 x1') :=
  Walks.ok (fun _ _ _=>PureRuns.of) (wk94 x0 x0' x1 x1') (by kernel_rfl)

theorem ok94:PureOk Go.Proofs.Try.prog 94 p94:=pureOk_of kl94_0_ok.base (T:=fun (d:Tys.data as94)=>t94 d.1.1 d.1.2.1 d.2.1.1 d.2.1.2.1) (by kernel_rfl) (fun (d:Tys.data as94)=>ok94_t d.1.1 d.1.2.1 d.2.1.1 d.2.1.2.1)
def kf94 (P:Go.Program):Known:=(kl94_0 P).func 94 p94
theorem kf94_ok:KnownOk Go.Proofs.Try.prog (kf94 Go.Proofs.Try.prog):=kl94_0_ok.func ok94

/-! loop 0 of ductility/ductilitybase.wideGcd -/

abbrev sh93_0:Sh:={ n:=23,slots:=[2,3,4],pats:=[.ptr 0 2 0,.ptr 1 2 0,.ptr 2 2 0],boxes:=[.row [.ty (.int .i64),.ty (.slice (.int .i64))],.row [.ty (.int .i64),.ty (.slice (.int .i64))],.row [.ty (.int .i64),.nil]] }
abbrev shb93_0:Sh:={ n:=23,slots:=[2,4],pats:=[.ptr 0 2 0,.ptr 2 2 0],boxes:=[.row [.ty (.int .i64),.ty (.slice (.int .i64))],.row [.ty (.int .i64),.ty (.slice (.int .i64))],.row [.ty (.int .i64),.nil]] }
abbrev shr93_0:Sh:={ n:=23,slots:=[],pats:=[],boxes:=[.row [.ty (.int .i64),.ty (.slice (.int .i64))],.row [.ty (.int .i64),.ty (.slice (.int .i64))],.row [.ty (.int .i64),.nil]] }

def t93_0 (b0_0:Int) (b0_1:(List Int)) (b1_0:Int) (b1_1:(List Int)) (b2_0:Int):Tr (Out sh93_0.data shb93_0.data shr93_0.data) :=
  Tr.test (Option.isSome (f91 ((b1_0,(b1_1,())),())))
    (let r0:=g91 ((b1_0,(b1_1,())),());
    Tr.test ((!eqF r0.1 0:Bool))
      (Tr.test (Option.isSome (f94 ((b0_0,(b0_1,())),((b1_0,(b1_1,())),()))))
        (let r1:=g94 ((b0_0,(b0_1,())),((b1_0,(b1_1,())),()));
        Tr.test (Option.isSome (f71 ((r1.1.1,(r1.1.2.1,())),((b1_0,(b1_1,())),()))))
          (let r2:=g71 ((r1.1.1,(r1.1.2.1,())),((b1_0,(b1_1,())),()));
          Tr.test (Option.isSome (f95 ((b0_0,(b0_1,())),((r2.1.1,(r2.1.2.1,())),()))))
            (let r3:=g95 ((b0_0,(b0_1,())),((r2.1.1,(r2.1.2.1,())),()));
            Tr.fin (.again ((),((b1_0,(b1_1,())),((r3.1.1,(r3.1.2.1,())),((b2_0,()),()))))))
            (Tr.stop))
          (Tr.stop))
        (Tr.stop))
      (Tr.fin (.brk ((),((b0_0,(b0_1,())),((b1_0,(b1_1,())),((b2_0,()),())))))))
    (Tr.stop)

def s93_0 (d:sh93_0.data):Option (Out sh93_0.data shb93_0.data shr93_0.data):=(t93_0 d.2.1.1 d.2.1.2.1 d.2.2.1.1 d.2.2.1.2.1 d.2.2.2.1.1).val
def l93_0 (d:sh93_0.data):Option (shb93_0.data ⊕ shr93_0.data):=itr s93_0 rounds d
def b93_0 (d:sh93_0.data):shb93_0.data:=outB shb93_0.dflt (l93_0 d)
def lc93_0:LoopC:=lcB sh93_0 shb93_0 shr93_0 l93_0 b93_0

theorem wk93_0 (b0_0:Int) (b0_1:(List Int)) (b1_0:Int) (b1_1:(List Int)) (b2_0:Int):Walks (runBody (kf94 Go.Proofs.Try.prog).orc Go.Proofs.Try.prog 400 93 0 sh93_0 shb93_0 shr93_0 ((),(b0_0,b0_1,()),(b1_0,b1_1,()),(b2_0,()),())) (t93_0 b0_0 b0_1 b1_0 b1_1 b2_0) [([true,true,true,true,true],[2,4,6,8,10]),([true,false],[2,4])] :=
  ⟨by kernel_rfl,by kernel_rfl,trivial⟩

theorem ok93_0_t (b0_0:Int) (b0_1:(List Int)) (b1_0:Int) (b1_1:(List Int)) (b2_0:Int):TrOk (BodyRuns Go.Proofs.Try.prog (kf94 Go.Proofs.Try.prog).orc 93 0 sh93_0 shb93_0 shr93_0 ((),(b0_0,b0_1,()),(b1_0,b1_1,()),(b2_0,()),())) (t93_0 b0_0 b0_1 b1_0 b1_1 b2_0) :=
  Walks.ok (fun _ _ _=>BodyRuns.of) (wk93_0 b0_0 b0_1 b1_0 b1_1 b2_0) (by kernel_rfl)

theorem ok93_0:LoopOk Go.Proofs.Try.prog 93 0 lc93_0:=loopOk_ofB (sh:=sh93_0) (shB:=shb93_0) (shR:=shr93_0) kf94_ok.base (T:=fun (d:sh93_0.data)=>t93_0 d.2.1.1 d.2.1.2.1 d.2.2.1.1 d.2.2.1.2.1 d.2.2.2.1.1) (by kernel_rfl) rfl (fun (d:sh93_0.data)=>ok93_0_t d.2.1.1 d.2.1.2.1 d.2.2.1.1 d.2.2.1.2.1 d.2.2.2.1.1) (fun _=>rfl)
def kl93_0 (P:Go.Program):Known:=(kf94 P).loop 93 0 lc93_0
theorem kl93_0_ok:KnownOk Go.Proofs.Try.prog (kl93_0 Go.Proofs.Try.prog):=kf94_ok.loop ok93_0

/-! ductility/ductilitybase.wideGcd -/

abbrev as93:List Ty:=[(.pair (.int .i64) (.pair (.slice (.int .i64)) .unit)),(.pair (.int .i64) (.pair (.slice (.int .i64)) .unit))]
abbrev rs93:List Ty:=[(.pair (.int .i64) (.pair (.slice (.int .i64)) .unit))]

def t93 (x0:Int) (x0':(List Int)) (x1:Int) (x1':(List Int)):Tr (Tys.data rs93) :=
  Tr.test (Option.isSome (f105 ((x0,(x0',())),())))
    (Tr.test (Option.isSome (f105 ((x1,(x1',())),())))
      (let r0:=g105 ((x0,(x0',())),());
      let r1:=g105 ((x1,(x1',())),());
      Tr.test (isBrk (l93_0 ((),((r0.1.1,(r0.1.2.1,())),((r1.1.1,(r1.1.2.1,())),(((0:Int),()),()))))))
        (let r2:=b93_0 ((),((r0.1.1,(r0.1.2.1,())),((r1.1.1,(r1.1.2.1,())),(((0:Int),()),()))));
        Tr.fin (((r2.2.1.1,(r2.2.1.2.1,())),())))
        (Tr.stop))
      (Tr.stop))
    (Tr.stop)

def f93 (d:Tys.data as93):Option (Tys.data rs93):=(t93 d.1.1 d.1.2.1 d.2.1.1 d.2.1.2.1).val
def g93 (d:Tys.data as93):Tys.data rs93:=(f93 d).getD (Tys.dflt rs93)
def p93:PureC:=pcOf as93 rs93 f93 g93

theorem wk93 (x0:Int) (x0':(List Int)) (x1:Int) (x1':(List Int)):Walks (runPure (kl93_0 Go.Proofs.Try.prog).orc Go.Proofs.Try.prog 400 93 as93 rs93 ((x0,x0',()),(x1,x1',()),())) (t93 x0 x0' x1 x1') [([true,true,true],[1,2,4,6])] :=
  ⟨by kernel_rfl,trivial⟩

theorem ok93_t (x0:Int) (x0':(List Int)) (x1:Int) (x1':(List Int)):TrOk (PureRuns Go.Proofs.Try.prog (kl93_0 Go.Proofs.Try.prog).orc 93 as93 rs93 ((x0,x0',()),(x1,x1',()),())) (t93 x0 x0' x1 x1') :=
  Walks.ok (fun _ _ _=>PureRuns.of) (wk93 x0 x0' x1 x1') (by kernel_rfl)

theorem ok93:PureOk Go.Proofs.Try.prog 93 p93:=pureOk_of kl93_0_ok.base (T:=fun (d:Tys.data as93)=>t93 d.1.1 d.1.2.1 d.2.1.1 d.2.1.2.1) (by kernel_rfl) (fun (d:Tys.data as93)=>ok93_t d.1.1 d.1.2.1 d.2.1.1 d.2.1.2.1)
def kf93 (P:Go.Program):Known:=(kl93_0 P).func 93 p93
theorem kf93_ok:KnownOk Go.Proofs.Try.prog (kf93 Go.Proofs.Try.prog):=kl93_0_ok.func ok93

/-! ductility/ductilitybase.WideCmp -/

abbrev as70:List Ty:=[(.pair (.int .i64) (.pair (.slice (.int .i64)) .unit)),(.pair (.int .i64) (.pair (.slice (.int .i64)) .unit))]
abbrev rs70:List Ty:=[(.int .i64)]

def t70 (x0:Int) (x0':(List Int)) (x1:Int) (x1':(List Int)):Tr (Tys.data rs70) :=
  Tr.test (Option.isSome (f95 ((x0,(x0',())),((x1,(x1',())),()))))
    (let r0:=g95 ((x0,(x0',())),((x1,(x1',())),()));
    Tr.fin ((r0.1.1,())))
    (Tr.stop)

def f70 (d:Tys.data as70):Option (Tys.data rs70):=(t70 d.1.1 d.1.2.1 d.2.1.1 d.2.1.2.1).val
def g70 (d:Tys.data as70):Tys.data rs70:=(f70 d).getD (Tys.dflt rs70)
def p70:PureC:=pcOf as70 rs70 f70 g70

theorem wk70 (x0:Int) (x0':(List Int)) (x1:Int) (x1':(List Int)):Walks (runPure (kf93 Go.Proofs.Try.prog).orc Go.Proofs.Try.prog 400 70 as70 rs70 ((x0,x0',()),(x1,x1',()),())) (t70 x0 x0' x1 x1') [([tt],[2])] :=
  ⟨by kernel_rfl,trivial⟩

theorem ok70_t (x0:Int) (x0':(List Int)) (x1:Int) (x1':(List Int)):TrOk (PureRuns Go.Proofs.Try.prog (kf93 Go.Proofs.Try.prog).orc 70 as70 rs70 ((x0,x0',()),(x1,x1',()),())) (t70 x0 x0' x1 x1') :=
  Walks.ok (fun _ _ _=>PureRuns.of) (wk70 x0 x0' x1 x1') (by kernel_rfl)

theorem ok70:PureOk Go.Proofs.Try.prog 70 p70:=pureOk_of kf93_ok.base (T:=fun (d:Tys.data as70)=>t70 d.1.1 d.1.2.1 d.2.1.1 d.2.1.2.1) (by kernel_rfl) (fun (d:Tys.data as70)=>ok70_t d.1.1 d.1.2.1 d.2.1.1 d.2.1.2.1)
def kf70 (P:Go.Program):Known:=(kf93 P).func 70 p70
theorem kf70_ok:KnownOk Go.Proofs.Try.prog (kf70 Go.Proofs.Try.prog):=kf93_ok.func ok70

/-! ductility/ductilitybase.RatioMake -/

abbrev as69:List Ty:=[(.pair (.int .i64) (.pair (.slice (.int .i64)) .unit)),(.pair (.int .i64) (.pair (.slice (.int .i64)) .unit))]
abbrev rs69:List Ty:=[(.pair (.pair (.int .i64) (.pair (.slice (.int .i64)) .unit)) (.pair (.pair (.int .i64) (.pair (.slice (.int .i64)) .unit)) .unit))]

def t69 (x0:Int) (x0':(List Int)) (x1:Int) (x1':(List Int)):Tr (Tys.data rs69) :=
  Tr.test (Option.isSome (f91 ((x1,(x1',())),())))
    (let r0:=g91 ((x1,(x1',())),());
    Tr.test ((!leF (0:Int) r0.1:Bool))
      (Tr.test (Option.isSome (f92 ((x0,(x0',())),())))
        (Tr.test (Option.isSome (f92 ((x1,(x1',())),())))
          (let r1:=g92 ((x0,(x0',())),());
          let r2:=g92 ((x1,(x1',())),());
          Tr.test (Option.isSome (f93 ((r1.1.1,(r1.1.2.1,())),((r2.1.1,(r2.1.2.1,())),()))))
            (Tr.test (Option.isSome (f68 ((1:Int),())))
              (let r3:=g93 ((r1.1.1,(r1.1.2.1,())),((r2.1.1,(r2.1.2.1,())),()));
              let r4:=g68 ((1:Int),());
              Tr.test (Option.isSome (f70 ((r3.1.1,(r3.1.2.1,())),((r4.1.1,(r4.1.2.1,())),()))))
                (let r5:=g70 ((r3.1.1,(r3.1.2.1,())),((r4.1.1,(r4.1.2.1,())),()));
                Tr.test ((eqF r5.1 0:Bool))
                  (Tr.fin ((((r1.1.1,(r1.1.2.1,())),((r2.1.1,(r2.1.2.1,())),())),())))
                  (Tr.test (Option.isSome (f94 ((r1.1.1,(r1.1.2.1,())),((r3.1.1,(r3.1.2.1,())),()))))
                    (Tr.test (Option.isSome (f94 ((r2.1.1,(r2.1.2.1,())),((r3.1.1,(r3.1.2.1,())),()))))
                      (let r6:=g94 ((r1.1.1,(r1.1.2.1,())),((r3.1.1,(r3.1.2.1,())),()));
                      let r7:=g94 ((r2.1.1,(r2.1.2.1,())),((r3.1.1,(r3.1.2.1,())),()));
                      Tr.fin ((((r6.1.1,(r6.1.2.1,())),((r7.1.1,(r7.1.2.1,())),())),())))
                      (Tr.stop))
                    (Tr.stop)))
                (Tr.stop))
              (Tr.stop))
            (Tr.stop))
          (Tr.stop))
        (Tr.stop))
      (Tr.test (Option.isSome (f93 ((x0,(x0',())),((x1,(x1',())),()))))
        (Tr.test (Option.isSome (f68 ((1:Int),())))
          (let r4:=g68 ((1:Int),());
          let r8:=g93 ((x0,(x0',())),((x1,(x1',())),()));
          Tr.test (Option.isSome (f70 ((r8.1.1,(r8.1.2.1,())),((r4.1.1,(r4.1.2.1,())),()))))
            (let r9:=g70 ((r8.1.1,(r8.1.2.1,())),((r4.1.1,(r4.1.2.1,())),()));
            Tr.test ((eqF r9.1 0:Bool))
              (Tr.fin ((((x0,(x0',())),((x1,(x1',())),())),())))
              (Tr.test (Option.isSome (f94 ((x0,(x0',())),((r8.1.1,(r8.1.2.1,())),()))))
                (Tr.test (Option.isSome (f94 ((x1,(x1',())),((r8.1.1,(r8.1.2.1,())),()))))
                  (let r10:=g94 ((x0,(x0',())),((r8.1.1,(r8.1.2.1,())),()));
                  let r11:=g94 ((x1,(x1',())),((r8.1.1,(r8.1.2.1,())),()));
                  Tr.fin ((((r10.1.1,(r10.1.2.1,())),((r11.1.1,(r11.1.2.1,())),())),())))
                  (Tr.stop))
                (Tr.stop)))
            (Tr.stop))
          (Tr.stop))
        (Tr.stop)))
    (Tr.stop)

def f69 (d:Tys.data as69):Option (Tys.data rs69):=(t69 d.1.1 d.1.2.1 d.2.1.1 d.2.1.2.1).val
def g69 (d:Tys.data as69):Tys.data rs69:=(f69 d).getD (Tys.dflt rs69)
def p69:PureC:=pcOf as69 rs69 f69 g69

theorem wk69 (x0:Int) (x0':(List Int)) (x1:Int) (x1':(List Int)):Walks (runPure (kf70 Go.Proofs.Try.prog).orc Go.Proofs.Try.prog 400 69 as69 rs69 ((x0,x0',()),(x1,x1',()),())) (t69 x0 x0' x1 x1') [([true,true,true,true,true,true,true,true],[2,4,6,8,10,12,14,16]),([true,true,true,true,true,true,true,false,true,true],[2,4,6,8,10,12,14,16,18,20]),([true,false,true,true,true,true],[2,4,6,8,10,12]),([true,false,true,true,true,false,true,true],[2,4,6,8,10,12,14,16])] :=
  ⟨by kernel_rfl,by kernel_rfl,by kernel_rfl,by kernel_rfl,trivial⟩

theorem ok69_t (x0:Int) (x0':(List Int)) (x1:Int) (x1':(List Int)):TrOk (PureRuns Go.Proofs.Try.prog (kf70 Go.Proofs.Try.prog).orc 69 as69 rs69 ((x0,x0',()),(x1,x1',()),())) (t69 x0 x0' x1 x1') :=
  Walks.ok (fun _ _ _=>PureRuns.of) (wk69 x0 x0' x1 x1') (by kernel_rfl)

theorem ok69:PureOk Go.Proofs.Try.prog 69 p69:=pureOk_of kf70_ok.base (T:=fun (d:Tys.data as69)=>t69 d.1.1 d.1.2.1 d.2.1.1 d.2.1.2.1) (by kernel_rfl) (fun (d:Tys.data as69)=>ok69_t d.1.1 d.1.2.1 d.2.1.1 d.2.1.2.1)
def kf69 (P:Go.Program):Known:=(kf70 P).func 69 p69
theorem kf69_ok:KnownOk Go.Proofs.Try.prog (kf69 Go.Proofs.Try.prog):=kf70_ok.func ok69

/-! ductility/ductilitybase.RatioOf -/

abbrev as34:List Ty:=[(.int .i64),(.int .i64)]
abbrev rs34:List Ty:=[(.pair (.pair (.int .i64) (.pair (.slice (.int .i64)) .unit)) (.pair (.pair (.int .i64) (.pair (.slice (.int .i64)) .unit)) .unit))]

def t34 (x0:Int) (x1:Int):Tr (Tys.data rs34) :=
  Tr.test (Option.isSome (f68 (x0,())))
    (Tr.test (Option.isSome (f68 (x1,())))
      (let r0:=g68 (x0,());
      let r1:=g68 (x1,());
      Tr.test (Option.isSome (f69 ((r0.1.1,(r0.1.2.1,())),((r1.1.1,(r1.1.2.1,())),()))))
        (let r2:=g69 ((r0.1.1,(r0.1.2.1,())),((r1.1.1,(r1.1.2.1,())),()));
        Tr.fin ((((r2.1.1.1,(r2.1.1.2.1,())),((r2.1.2.1.1,(r2.1.2.1.2.1,())),())),())))
        (Tr.stop))
      (Tr.stop))
    (Tr.stop)

def f34 (d:Tys.data as34):Option (Tys.data rs34):=(t34 d.1 d.2.1).val
def g34 (d:Tys.data as34):Tys.data rs34:=(f34 d).getD (Tys.dflt rs34)
def p34:PureC:=pcOf as34 rs34 f34 g34

theorem wk34 (x0:Int) (x1:Int):Walks (runPure (kf69 Go.Proofs.Try.prog).orc Go.Proofs.Try.prog 400 34 as34 rs34 (x0,x1,())) (t34 x0 x1) [([true,true,true],[2,4,6])] :=
  ⟨by kernel_rfl,trivial⟩

theorem ok34_t (x0:Int) (x1:Int):TrOk (PureRuns Go.Proofs.Try.prog (kf69 Go.Proofs.Try.prog).orc 34 as34 rs34 (x0,x1,())) (t34 x0 x1) :=
  Walks.ok (fun _ _ _=>PureRuns.of) (wk34 x0 x1) (by kernel_rfl)

theorem ok34:PureOk Go.Proofs.Try.prog 34 p34:=pureOk_of kf69_ok.base (T:=fun (d:Tys.data as34)=>t34 d.1 d.2.1) (by kernel_rfl) (fun (d:Tys.data as34)=>ok34_t d.1 d.2.1)
def kf34 (P:Go.Program):Known:=(kf69 P).func 34 p34
theorem kf34_ok:KnownOk Go.Proofs.Try.prog (kf34 Go.Proofs.Try.prog):=kf69_ok.func ok34

/-! ductility/ductilitybase.RatioAdd -/

abbrev as36:List Ty:=[(.pair (.pair (.int .i64) (.pair (.slice (.int .i64)) .unit)) (.pair (.pair (.int .i64) (.pair (.slice (.int .i64)) .unit)) .unit)),(.pair (.pair (.int .i64) (.pair (.slice (.int .i64)) .unit)) (.pair (.pair (.int .i64) (.pair (.slice (.int .i64)) .unit)) .unit))]
abbrev rs36:List Ty:=[(.pair (.pair (.int .i64) (.pair (.slice (.int .i64)) .unit)) (.pair (.pair (.int .i64) (.pair (.slice (.int .i64)) .unit)) .unit))]

def t36 (x0_:Int) (x0_':(List Int)) (x0'_:Int) (x0'_':(List Int)) (x1_:Int) (x1_':(List Int)) (x1'_:Int) (x1'_':(List Int)):Tr (Tys.data rs36) :=
  Tr.test (Option.isSome (f71 ((x0_,(x0_',())),((x1'_,(x1'_',())),()))))
    (Tr.test (Option.isSome (f71 ((x1_,(x1_',())),((x0'_,(x0'_',())),()))))
      (let r0:=g71 ((x0_,(x0_',())),((x1'_,(x1'_',())),()));
      let r1:=g71 ((x1_,(x1_',())),((x0'_,(x0'_',())),()));
      Tr.test (Option.isSome (f72 ((r0.1.1,(r0.1.2.1,())),((r1.1.1,(r1.1.2.1,())),()))))
        (Tr.test (Option.isSome (f71 ((x0'_,(x0'_',())),((x1'_,(x1'_',())),()))))
          (let r2:=g72 ((r0.1.1,(r0.1.2.1,())),((r1.1.1,(r1.1.2.1,())),()));
          let r3:=g71 ((x0'_,(x0'_',())),((x1'_,(x1'_',())),()));
          Tr.test (Option.isSome (f69 ((r2.1.1,(r2.1.2.1,())),((r3.1.1,(r3.1.2.1,())),()))))
            (let r4:=g69 ((r2.1.1,(r2.1.2.1,())),((r3.1.1,(r3.1.2.1,())),()));
            Tr.fin ((((r4.1.1.1,(r4.1.1.2.1,())),((r4.1.2.1.1,(r4.1.2.1.2.1,())),())),())))
            (Tr.stop))
          (Tr.stop))
        (Tr.stop))
      (Tr.stop))
    (Tr.stop)

def f36 (d:Tys.data as36):Option (Tys.data rs36):=(t36 d.1.1.1 d.1.1.2.1 d.1.2.1.1 d.1.2.1.2.1 d.2.1.1.1 d.2.1.1.2.1 d.2.1.2.1.1 d.2.1.2.1.2.1).val
def g36 (d:Tys.data as36):Tys.data rs36:=(f36 d).getD (Tys.dflt rs36)
def p36:PureC:=pcOf as36 rs36 f36 g36

theorem wk36 (x0_:Int) (x0_':(List Int)) (x0'_:Int) (x0'_':(List Int)) (x1_:Int) (x1_':(List Int)) (x1'_:Int) (x1'_':(List Int)):Walks (runPure (kf34 Go.Proofs.Try.prog).orc Go.Proofs.Try.prog 400 36 as36 rs36 (((x0_,x0_',()),(x0'_,x0'_',()),()),((x1_,x1_',()),(x1'_,x1'_',()),()),())) (t36 x0_ x0_' x0'_ x0'_' x1_ x1_' x1'_ x1'_') [([true,true,true,true,true],[2,4,6,8,10])] :=
  ⟨by kernel_rfl,trivial⟩

theorem ok36_t (x0_:Int) (x0_':(List Int)) (x0'_:Int) (x0'_':(List Int)) (x1_:Int) (x1_':(List Int)) (x1'_:Int) (x1'_':(List Int)):TrOk (PureRuns Go.Proofs.Try.prog (kf34 Go.Proofs.Try.prog).orc 36 as36 rs36 (((x0_,x0_',()),(x0'_,x0'_',()),()),((x1_,x1_',()),(x1'_,x1'_',()),()),())) (t36 x0_ x0_' x0'_ x0'_' x1_ x1_' x1'_ x1'_') :=
  Walks.ok (fun _ _ _=>PureRuns.of) (wk36 x0_ x0_' x0'_ x0'_' x1_ x1_' x1'_ x1'_') (by kernel_rfl)

theorem ok36:PureOk Go.Proofs.Try.prog 36 p36:=pureOk_of kf34_ok.base (T:=fun (d:Tys.data as36)=>t36 d.1.1.1 d.1.1.2.1 d.1.2.1.1 d.1.2.1.2.1 d.2.1.1.1 d.2.1.1.2.1 d.2.1.2.1.1 d.2.1.2.1.2.1) (by kernel_rfl) (fun (d:Tys.data as36)=>ok36_t d.1.1.1 d.1.1.2.1 d.1.2.1.1 d.1.2.1.2.1 d.2.1.1.1 d.2.1.1.2.1 d.2.1.2.1.1 d.2.1.2.1.2.1)
def kf36 (P:Go.Program):Known:=(kf34 P).func 36 p36
theorem kf36_ok:KnownOk Go.Proofs.Try.prog (kf36 Go.Proofs.Try.prog):=kf34_ok.func ok36

/-! loop 0 of ductility/ductilitybase.WideInt -/

abbrev sh81_0:Sh:={ n:=30,slots:=[1,4,5],pats:=[.ptr 0 2 0,.ty (.int .i64),.ty (.int .i64)],boxes:=[.row [.ty (.int .i64),.ty (.slice (.int .i64))]] }
abbrev shb81_0:Sh:={ n:=30,slots:=[1,4],pats:=[.ptr 0 2 0,.ty (.int .i64)],boxes:=[.row [.ty (.int .i64),.ty (.slice (.int .i64))]] }
abbrev shr81_0:Sh:={ n:=30,slots:=[],pats:=[],boxes:=[.row [.ty (.int .i64),.ty (.slice (.int .i64))]] }

def t81_0 (x1:Int) (x2:Int) (b0_0:Int) (b0_1:(List Int)):Tr (Out sh81_0.data shb81_0.data shr81_0.data) :=
  Tr.test ((leF (0:Int) x2:Bool))
    (Tr.test (decide ((0:Int) ≤ x2) && decide (x2 < (↑(List.length b0_1):Int)))
      (Tr.fin (.again (((wrap64 (wrap64 (x1 * (1000000000:Int)) + List.getD b0_1 (Int.toNat x2) (0:Int)):Int),((wrap64 (x2 - (1:Int)):Int),())),((b0_0,(b0_1,())),()))))
      (Tr.stop))
    (Tr.fin (.brk ((x1,()),((b0_0,(b0_1,())),()))))

def s81_0 (d:sh81_0.data):Option (Out sh81_0.data shb81_0.data shr81_0.data):=(t81_0 d.1.1 d.1.2.1 d.2.1.1 d.2.1.2.1).val
def l81_0 (d:sh81_0.data):Option (shb81_0.data ⊕ shr81_0.data):=itr s81_0 rounds d
def b81_0 (d:sh81_0.data):shb81_0.data:=outB shb81_0.dflt (l81_0 d)
def lc81_0:LoopC:=lcB sh81_0 shb81_0 shr81_0 l81_0 b81_0

theorem wk81_0 (x1:Int) (x2:Int) (b0_0:Int) (b0_1:(List Int)):Walks (runBody (kf36 Go.Proofs.Try.prog).orc Go.Proofs.Try.prog 400 81 0 sh81_0 shb81_0 shr81_0 ((x1,x2,()),(b0_0,b0_1,()),())) (t81_0 x1 x2 b0_0 b0_1) [([true,true],[2,4]),([ff],[2])] :=
  ⟨by kernel_rfl,by kernel_rfl,trivial⟩

theorem ok81_0_t (x1:Int) (x2:Int) (b0_0:Int) (b0_1:(List Int)):TrOk (BodyRuns Go.Proofs.Try.prog (kf36 Go.Proofs.Try.prog).orc 81 0 sh81_0 shb81_0 shr81_0 ((x1,x2,()),(b0_0,b0_1,()),())) (t81_0 x1 x2 b0_0 b0_1) :=
  Walks.ok (fun _ _ _=>BodyRuns.of) (wk81_0 x1 x2 b0_0 b0_1) (by kernel_rfl)

theorem ok81_0:LoopOk Go.Proofs.Try.prog 81 0 lc81_0:=loopOk_ofB (sh:=sh81_0) (shB:=shb81_0) (shR:=shr81_0) kf36_ok.base (T:=fun (d:sh81_0.data)=>t81_0 d.1.1 d.1.2.1 d.2.1.1 d.2.1.2.1) (by kernel_rfl) rfl (fun (d:sh81_0.data)=>ok81_0_t d.1.1 d.1.2.1 d.2.1.1 d.2.1.2.1) (fun _=>rfl)
def kl81_0 (P:Go.Program):Known:=(kf36 P).loop 81 0 lc81_0
theorem kl81_0_ok:KnownOk Go.Proofs.Try.prog (kl81_0 Go.Proofs.Try.prog):=kf36_ok.loop ok81_0

/-! ductility/ductilitybase.WideInt -/

abbrev as81:List Ty:=[(.pair (.int .i64) (.pair (.slice (.int .i64)) .unit))]
abbrev rs81:List Ty:=[(.int .i64),.bool]

def t81 (x0:Int) (x0':(List Int)):Tr (Tys.data rs81) :=
  Tr.test ((!leF (↑(List.length x0'):Int) (2:Int):Bool))
    (Tr.fin (((0:Int),(false,()))))
    (Tr.test (isBrk (l81_0 (((0:Int),((wrap64 ((↑(List.length x0'):Int) - (1:Int)):Int),())),((x0,(x0',())),()))))
      (let r0:=b81_0 (((0:Int),((wrap64 ((↑(List.length x0'):Int) - (1:Int)):Int),())),((x0,(x0',())),()));
      Tr.fin (((wrap64 (r0.2.1.1 * r0.1.1):Int),((true:Bool),()))))
      (Tr.stop))

def f81 (d:Tys.data as81):Option (Tys.data rs81):=(t81 d.1.1 d.1.2.1).val
def g81 (d:Tys.data as81):Tys.data rs81:=(f81 d).getD (Tys.dflt rs81)
def p81:PureC:=pcOf as81 rs81 f81 g81

theorem wk81 (x0:Int) (x0':(List Int)):Walks (runPure (kl81_0 Go.Proofs.Try.prog).orc Go.Proofs.Try.prog 400 81 as81 rs81 ((x0,x0',()),())) (t81 x0 x0') [([tt],[2]),([false,true],[1,2,4])] :=
  ⟨by kernel_rfl,by kernel_rfl,trivial⟩

theorem ok81_t (x0:Int) (x0':(List Int)):TrOk (PureRuns Go.Proofs.Try.prog (kl81_0 Go.Proofs.Try.prog).orc 81 as81 rs81 ((x0,x0',()),())) (t81 x0 x0') :=
  Walks.ok (fun _ _ _=>PureRuns.of) (wk81 x0 x0') (by kernel_rfl)

theorem ok81:PureOk Go.Proofs.Try.prog 81 p81:=pureOk_of kl81_0_ok.base (T:=fun (d:Tys.data as81)=>t81 d.1.1 d.1.2.1) (by kernel_rfl) (fun (d:Tys.data as81)=>ok81_t d.1.1 d.1.2.1)
def kf81 (P:Go.Program):Known:=(kl81_0 P).func 81 p81
theorem kf81_ok:KnownOk Go.Proofs.Try.prog (kf81 Go.Proofs.Try.prog):=kl81_0_ok.func ok81

/-! ductility/ductilitybase.IsSmall -/

abbrev as25:List Ty:=[(.pair (.int .i64) (.pair (.int .i64) .unit))]
abbrev rs25:List Ty:=[.bool]

def t25 (x0:Int) (x0':Int):Tr (Tys.data rs25) :=
  Tr.test (Option.isSome (f18 (x0,((-1000000000:Int),((1000000000:Int),())))))
    (let r0:=g18 (x0,((-1000000000:Int),((1000000000:Int),())));
    Tr.test (r0.1)
      (Tr.test (Option.isSome (f18 (x0',((1:Int),((1000000000:Int),())))))
        (let r1:=g18 (x0',((1:Int),((1000000000:Int),())));
        Tr.fin ((r1.1,())))
        (Tr.stop))
      (Tr.fin (((false:Bool),()))))
    (Tr.stop)

def f25 (d:Tys.data as25):Option (Tys.data rs25):=(t25 d.1.1 d.1.2.1).val
def g25 (d:Tys.data as25):Tys.data rs25:=(f25 d).getD (Tys.dflt rs25)
def p25:PureC:=pcOf as25 rs25 f25 g25

theorem wk25 (x0:Int) (x0':Int):Walks (runPure (kf81 Go.Proofs.Try.prog).orc Go.Proofs.Try.prog 400 25 as25 rs25 ((x0,x0',()),())) (t25 x0 x0') [([true,true,true],[4,2,4,4,4,6]),([true,false],[2,2,2,2,4])] :=
  ⟨by kernel_rfl,by kernel_rfl,trivial⟩

theorem ok25_t (x0:Int) (x0':Int):TrOk (PureRuns Go.Proofs.Try.prog (kf81 Go.Proofs.Try.prog).orc 25 as25 rs25 ((x0,x0',()),())) (t25 x0 x0') :=
  Walks.ok (fun _ _ _=>PureRuns.of) (wk25 x0 x0') (by kernel_rfl)

theorem ok25:PureOk Go.Proofs.Try.prog 25 p25:=pureOk_of kf81_ok.base (T:=fun (d:Tys.data as25)=>t25 d.1.1 d.1.2.1) (by kernel_rfl) (fun (d:Tys.data as25)=>ok25_t d.1.1 d.1.2.1)
def kf25 (P:Go.Program):Known:=(kf81 P).func 25 p25
theorem kf25_ok:KnownOk Go.Proofs.Try.prog (kf25 Go.Proofs.Try.prog):=kf81_ok.func ok25

/-! ductility/ductilitybase.RatioFrac -/

abbrev as55:List Ty:=[(.pair (.pair (.int .i64) (.pair (.slice (.int .i64)) .unit)) (.pair (.pair (.int .i64) (.pair (.slice (.int .i64)) .unit)) .unit))]
abbrev rs55:List Ty:=[(.pair (.int .i64) (.pair (.int .i64) .unit)),.bool]

def t55 (x0_:Int) (x0_':(List Int)) (x0'_:Int) (x0'_':(List Int)):Tr (Tys.data rs55) :=
  Tr.test (Option.isSome (f81 ((x0_,(x0_',())),())))
    (Tr.test (Option.isSome (f81 ((x0'_,(x0'_',())),())))
      (let r0:=g81 ((x0_,(x0_',())),());
      Tr.test ((!r0.2.1:Bool))
        (Tr.fin ((((0:Int),((0:Int),())),((false:Bool),()))))
        (let r1:=g81 ((x0'_,(x0'_',())),());
        Tr.test ((!r1.2.1:Bool))
          (Tr.fin ((((0:Int),((0:Int),())),((false:Bool),()))))
          (Tr.test (Option.isSome (f25 ((r0.1,(r1.1,())),())))
            (let r2:=g25 ((r0.1,(r1.1,())),());
            Tr.test ((!r2.1:Bool))
              (Tr.fin ((((0:Int),((0:Int),())),((false:Bool),()))))
              (Tr.fin (((r0.1,(r1.1,())),((true:Bool),())))))
            (Tr.stop))))
      (Tr.stop))
    (Tr.stop)

def f55 (d:Tys.data as55):Option (Tys.data rs55):=(t55 d.1.1.1 d.1.1.2.1 d.1.2.1.1 d.1.2.1.2.1).val
def g55 (d:Tys.data as55):Tys.data rs55:=(f55 d).getD (Tys.dflt rs55)
def p55:PureC:=pcOf as55 rs55 f55 g55

theorem wk55 (x0_:Int) (x0_':(List Int)) (x0'_:Int) (x0'_':(List Int)):Walks (runPure (kf25 Go.Proofs.Try.prog).orc Go.Proofs.Try.prog 400 55 as55 rs55 (((x0_,x0_',()),(x0'_,x0'_',()),()),())) (t55 x0_ x0_' x0'_ x0'_') [([true,true,true],[1,1,1,1,1,2,2,2,4,6]),([true,true,false,true],[1,2,2,2,2,4,4,4,6,8]),([true,true,false,false,true,true],[2,6,6,4,6,6,8,8,8,10,12]),([true,true,false,false,true,false],[2,6,6,4,6,6,8,8,8,10,12])] :=
  ⟨by kernel_rfl,by kernel_rfl,by kernel_rfl,by kernel_rfl,trivial⟩

theorem ok55_t (x0_:Int) (x0_':(List Int)) (x0'_:Int) (x0'_':(List Int)):TrOk (PureRuns Go.Proofs.Try.prog (kf25 Go.Proofs.Try.prog).orc 55 as55 rs55 (((x0_,x0_',()),(x0'_,x0'_',()),()),())) (t55 x0_ x0_' x0'_ x0'_') :=
  Walks.ok (fun _ _ _=>PureRuns.of) (wk55 x0_ x0_' x0'_ x0'_') (by kernel_rfl)

theorem ok55:PureOk Go.Proofs.Try.prog 55 p55:=pureOk_of kf25_ok.base (T:=fun (d:Tys.data as55)=>t55 d.1.1.1 d.1.1.2.1 d.1.2.1.1 d.1.2.1.2.1) (by kernel_rfl) (fun (d:Tys.data as55)=>ok55_t d.1.1.1 d.1.1.2.1 d.1.2.1.1 d.1.2.1.2.1)
def kf55 (P:Go.Program):Known:=(kf25 P).func 55 p55
theorem kf55_ok:KnownOk Go.Proofs.Try.prog (kf55 Go.Proofs.Try.prog):=kf25_ok.func ok55

/-! loop 0 of ductility/ductilityref06.Sum -/

abbrev sh16_0:Sh:={ n:=32,slots:=[1,2,3,4],pats:=[.ptr 0 2 0,.ptr 1 2 0,.ptr 2 4 0,.ty (.int .i64)],boxes:=[.row [.ty (.slice (.int .i64)),.ty (.slice (.int .i64))],.row [.ty (.int .i64),.ty (.int .i64)],.row [.ty (.int .i64),.ty (.slice (.int .i64)),.ty (.int .i64),.ty (.slice (.int .i64))]] }
abbrev shb16_0:Sh:={ n:=32,slots:=[2,3],pats:=[.ptr 1 2 0,.ptr 2 4 0],boxes:=[.row [.ty (.slice (.int .i64)),.ty (.slice (.int .i64))],.row [.ty (.int .i64),.ty (.int .i64)],.row [.ty (.int .i64),.ty (.slice (.int .i64)),.ty (.int .i64),.ty (.slice (.int .i64))]] }
abbrev shr16_0:Sh:={ n:=32,slots:=[],pats:=[],boxes:=[.row [.ty (.slice (.int .i64)),.ty (.slice (.int .i64))],.row [.ty (.int .i64),.ty (.int .i64)],.row [.ty (.int .i64),.ty (.slice (.int .i64)),.ty (.int .i64),.ty (.slice (.int .i64))]] }

def t16_0 (x3:Int) (b0_0:(List Int)) (b0_1:(List Int)) (b1_0:Int) (b1_1:Int) (b2_0:Int) (b2_1:(List Int)) (b2_2:Int) (b2_3:(List Int)):Tr (Out sh16_0.data shb16_0.data shr16_0.data) :=
  Tr.test ((!leF (↑(List.length b0_0):Int) x3:Bool))
    (Tr.test (Option.isSome (f54 ((b0_0,(b0_1,())),(x3,()))))
      (Tr.test ((decide ((0:Int) ≤ x3) && decide (x3 < (↑(List.length b0_0):Int)):Bool))
        (let r0:=g54 ((b0_0,(b0_1,())),(x3,()));
        Tr.test (Option.isSome (f34 (r0.1,((List.getD b0_0 (Int.toNat x3) (0:Int):Int),()))))
          (let r1:=g34 (r0.1,((List.getD b0_0 (Int.toNat x3) (0:Int):Int),()));
          Tr.test (Option.isSome (f36 (((b2_0,(b2_1,())),((b2_2,(b2_3,())),())),(((r1.1.1.1,(r1.1.1.2.1,())),((r1.1.2.1.1,(r1.1.2.1.2.1,())),())),()))))
            (let r2:=g36 (((b2_0,(b2_1,())),((b2_2,(b2_3,())),())),(((r1.1.1.1,(r1.1.1.2.1,())),((r1.1.2.1.1,(r1.1.2.1.2.1,())),())),()));
            Tr.fin (.again (((wrap64 (x3 + (1:Int)):Int),()),((b0_0,(b0_1,())),((b1_0,(b1_1,())),((r2.1.1.1,(r2.1.1.2.1,(r2.1.2.1.1,(r2.1.2.1.2.1,())))),()))))))
            (Tr.stop))
          (Tr.stop))
        (Tr.stop))
      (Tr.stop))
    (Tr.fin (.brk ((),((b0_0,(b0_1,())),((b1_0,(b1_1,())),((b2_0,(b2_1,(b2_2,(b2_3,())))),()))))))

def s16_0 (d:sh16_0.data):Option (Out sh16_0.data shb16_0.data shr16_0.data):=(t16_0 d.1.1 d.2.1.1 d.2.1.2.1 d.2.2.1.1 d.2.2.1.2.1 d.2.2.2.1.1 d.2.2.2.1.2.1 d.2.2.2.1.2.2.1 d.2.2.2.1.2.2.2.1).val
def l16_0 (d:sh16_0.data):Option (shb16_0.data ⊕ shr16_0.data):=itr s16_0 rounds d
def b16_0 (d:sh16_0.data):shb16_0.data:=outB shb16_0.dflt (l16_0 d)
def lc16_0:LoopC:=lcB sh16_0 shb16_0 shr16_0 l16_0 b16_0

theorem wk16_0 (x3:Int) (b0_0:(List Int)) (b0_1:(List Int)) (b1_0:Int) (b1_1:Int) (b2_0:Int) (b2_1:(List Int)) (b2_2:Int) (b2_3:(List Int)):Walks (runBody (kf55 Go.Proofs.Try.prog).orc Go.Proofs.Try.prog 400 16 0 sh16_0 shb16_0 shr16_0 ((x3,()),(b0_0,b0_1,()),(b1_0,b1_1,()),(b2_0,b2_1,b2_2,b2_3,()),())) (t16_0 x3 b0_0 b0_1 b1_0 b1_1 b2_0 b2_1 b2_2 b2_3) [([true,true,true,true,true],[2,4,6,8,10]),([ff],[2])] :=
  ⟨by kernel_rfl,by kernel_rfl,trivial⟩

theorem ok16_0_t (x3:Int) (b0_0:(List Int)) (b0_1:(List Int)) (b1_0:Int) (b1_1:Int) (b2_0:Int) (b2_1:(List Int)) (b2_2:Int) (b2_3:(List Int)):TrOk (BodyRuns Go.Proofs.Try.prog (kf55 Go.Proofs.Try.prog).orc 16 0 sh16_0 shb16_0 shr16_0 ((x3,()),(b0_0,b0_1,()),(b1_0,b1_1,()),(b2_0,b2_1,b2_2,b2_3,()),())) (t16_0 x3 b0_0 b0_1 b1_0 b1_1 b2_0 b2_1 b2_2 b2_3) :=
  Walks.ok (fun _ _ _=>BodyRuns.of) (wk16_0 x3 b0_0 b0_1 b1_0 b1_1 b2_0 b2_1 b2_2 b2_3) (by kernel_rfl)

theorem ok16_0:LoopOk Go.Proofs.Try.prog 16 0 lc16_0:=loopOk_ofB (sh:=sh16_0) (shB:=shb16_0) (shR:=shr16_0) kf55_ok.base (T:=fun (d:sh16_0.data)=>t16_0 d.1.1 d.2.1.1 d.2.1.2.1 d.2.2.1.1 d.2.2.1.2.1 d.2.2.2.1.1 d.2.2.2.1.2.1 d.2.2.2.1.2.2.1 d.2.2.2.1.2.2.2.1) (by kernel_rfl) rfl (fun (d:sh16_0.data)=>ok16_0_t d.1.1 d.2.1.1 d.2.1.2.1 d.2.2.1.1 d.2.2.1.2.1 d.2.2.2.1.1 d.2.2.2.1.2.1 d.2.2.2.1.2.2.1 d.2.2.2.1.2.2.2.1) (fun _=>rfl)
def kl16_0 (P:Go.Program):Known:=(kf55 P).loop 16 0 lc16_0
theorem kl16_0_ok:KnownOk Go.Proofs.Try.prog (kl16_0 Go.Proofs.Try.prog):=kf55_ok.loop ok16_0

/-! ductility/ductilityref06.Sum -/

abbrev as16:List Ty:=[(.pair (.slice (.int .i64)) (.pair (.slice (.int .i64)) .unit))]
abbrev rs16:List Ty:=[(.pair (.int .i64) (.pair (.int .i64) .unit))]

def t16 (x0:(List Int)) (x0':(List Int)):Tr (Tys.data rs16) :=
  Tr.test (Option.isSome (f33 ((0:Int),())))
    (let r0:=g33 ((0:Int),());
    Tr.test (isBrk (l16_0 (((0:Int),()),((x0,(x0',())),(((0:Int),((0:Int),())),((r0.1.1.1,(r0.1.1.2.1,(r0.1.2.1.1,(r0.1.2.1.2.1,())))),()))))))
      (let r1:=b16_0 (((0:Int),()),((x0,(x0',())),(((0:Int),((0:Int),())),((r0.1.1.1,(r0.1.1.2.1,(r0.1.2.1.1,(r0.1.2.1.2.1,())))),()))));
      Tr.test (Option.isSome (f55 (((r1.2.2.2.1.1,(r1.2.2.2.1.2.1,())),((r1.2.2.2.1.2.2.1,(r1.2.2.2.1.2.2.2.1,())),())),())))
        (let r2:=g55 (((r1.2.2.2.1.1,(r1.2.2.2.1.2.1,())),((r1.2.2.2.1.2.2.1,(r1.2.2.2.1.2.2.2.1,())),())),());
        Tr.fin (((r2.1.1,(r2.1.2.1,())),())))
        (Tr.stop))
      (Tr.stop))
    (Tr.stop)

def f16 (d:Tys.data as16):Option (Tys.data rs16):=(t16 d.1.1 d.1.2.1).val
def g16 (d:Tys.data as16):Tys.data rs16:=(f16 d).getD (Tys.dflt rs16)
def p16:PureC:=pcOf as16 rs16 f16 g16

theorem wk16 (x0:(List Int)) (x0':(List Int)):Walks (runPure (kl16_0 Go.Proofs.Try.prog).orc Go.Proofs.Try.prog 400 16 as16 rs16 ((x0,x0',()),())) (t16 x0 x0') [([true,true,true],[2,1,4,6])] :=
  ⟨by kernel_rfl,trivial⟩

theorem ok16_t (x0:(List Int)) (x0':(List Int)):TrOk (PureRuns Go.Proofs.Try.prog (kl16_0 Go.Proofs.Try.prog).orc 16 as16 rs16 ((x0,x0',()),())) (t16 x0 x0') :=
  Walks.ok (fun _ _ _=>PureRuns.of) (wk16 x0 x0') (by kernel_rfl)

theorem ok16:PureOk Go.Proofs.Try.prog 16 p16:=pureOk_of kl16_0_ok.base (T:=fun (d:Tys.data as16)=>t16 d.1.1 d.1.2.1) (by kernel_rfl) (fun (d:Tys.data as16)=>ok16_t d.1.1 d.1.2.1)
def kf16 (P:Go.Program):Known:=(kl16_0 P).func 16 p16
theorem kf16_ok:KnownOk Go.Proofs.Try.prog (kf16 Go.Proofs.Try.prog):=kl16_0_ok.func ok16

/-! ductility/ductilitylaw06.ModalFrames -/

abbrev as3:List Ty:=[(.pair (.slice (.int .i64)) (.pair (.slice (.int .i64)) .unit))]
abbrev rs3:List Ty:=[.bool]

def t3 (x0:(List Int)) (x0':(List Int)):Tr (Tys.data rs3) :=
  Tr.test (Option.isSome (f8 ((x0,(x0',())),())))
    (let r0:=g8 ((x0,(x0',())),());
    Tr.test ((!r0.1:Bool))
      (Tr.fin (((true:Bool),())))
      (Tr.test (Option.isSome (f10 ((x0,(x0',())),())))
        (let r1:=g10 ((x0,(x0',())),());
        Tr.test (Option.isSome (f9 ((r1.1.1,(r1.1.2.1,())),())))
          (Tr.test (Option.isSome (f11 ((r1.1.1,(r1.1.2.1,())),())))
            (Tr.test (Option.isSome (f12 ((r1.1.1,(r1.1.2.1,())),())))
              (Tr.test (Option.isSome (f13 ((x0,(x0',())),())))
                (let r2:=g9 ((r1.1.1,(r1.1.2.1,())),());
                let r5:=g13 ((x0,(x0',())),());
                Tr.test ((!eqF r2.2.1 r5.2.1:Bool))
                  (Tr.fin (((false:Bool),())))
                  (Tr.test ((!eqF r2.1 r5.1:Bool))
                    (Tr.fin (((false:Bool),())))
                    (Tr.test ((!eqF r5.2.1 0:Bool))
                      (let r3:=g11 ((r1.1.1,(r1.1.2.1,())),());
                      Tr.test ((eqF r3.2.1 r5.2.1:Bool))
                        (Tr.test ((eqF (↑(List.length r3.1):Int) (0:Int):Bool))
                          (let r4:=g12 ((r1.1.1,(r1.1.2.1,())),());
                          Tr.test ((eqF r4.2.1 r5.2.1:Bool))
                            (Tr.fin (((r4.1.1 == (0:Int) && (r4.1.2.1 == (0:Int) && true):Bool),())))
                            (Tr.fin (((false:Bool),()))))
                          (Tr.fin (((false:Bool),()))))
                        (Tr.fin (((false:Bool),()))))
                      (let r3:=g11 ((r1.1.1,(r1.1.2.1,())),());
                      Tr.test ((eqF r3.2.1 0:Bool))
                        (Tr.test (Option.isSome (f15 ((x0,(x0',())),())))
                          (let r6:=g15 ((x0,(x0',())),());
                          Tr.test (Option.isSome (f14 (r3.1,(r6.1,()))))
                            (let r7:=g14 (r3.1,(r6.1,()));
                            Tr.test (r7.1)
                              (let r4:=g12 ((r1.1.1,(r1.1.2.1,())),());
                              Tr.test ((eqF r4.2.1 0:Bool))
                                (Tr.test (Option.isSome (f16 ((x0,(x0',())),())))
                                  (let r8:=g16 ((x0,(x0',())),());
                                  Tr.fin (((r4.1.1 == r8.1.1 && (r4.1.2.1 == r8.1.2.1 && true):Bool),())))
                                  (Tr.stop))
                                (Tr.fin (((false:Bool),()))))
                              (Tr.fin (((false:Bool),()))))
                            (Tr.stop))
                          (Tr.stop))
                        (Tr.fin (((false:Bool),())))))))
                (Tr.stop))
              (Tr.stop))
            (Tr.stop))
          (Tr.stop))
        (Tr.stop)))
    (Tr.stop)

def f3 (d:Tys.data as3):Option (Tys.data rs3):=(t3 d.1.1 d.1.2.1).val
def g3 (d:Tys.data as3):Tys.data rs3:=(f3 d).getD (Tys.dflt rs3)
def p3:PureC:=pcOf as3 rs3 f3 g3

theorem wk3 (x0:(List Int)) (x0':(List Int)):Walks (runPure (kf16 Go.Proofs.Try.prog).orc Go.Proofs.Try.prog 400 3 as3 rs3 ((x0,x0',()),())) (t3 x0 x0') [([true,true],[2,4,0,1]),([true,false,true,true,true,true,true,true],[1,2,2,2,2,4,6,12,8,12,10,12,14,16,0,1]),([true,false,true,true,true,true,true,false,true],[2,4,4,4,4,6,8,14,10,14,12,14,16,18,0,1]),([true,false,true,true,true,true,true,false,false,true,true,true,true],[2,2,2,2,4,4,4,4,6,6,6,6,8,10,12,12,12,12,14,16,22,18,22,20,22,24,26,0,1]),([true,false,true,true,true,true,true,false,false,true,true,true,false],[2,2,2,2,4,4,4,4,6,6,6,6,8,10,12,12,12,12,14,16,22,18,22,20,22,24,26,0,1]),([true,false,true,true,true,true,true,false,false,true,true,false],[0,0,0,0,2,2,2,2,4,4,4,4,6,8,10,10,10,10,12,14,20,16,20,18,20,22,24,0,1]),([true,false,true,true,true,true,true,false,false,true,false],[0,0,0,0,0,0,0,0,2,2,2,2,4,6,8,8,8,8,10,12,18,14,18,16,18,20,22,0,1]),([true,false,true,true,true,true,true,false,false,false,true,true,true,true,true,true],[4,4,2,4,4,4,6,6,6,12,8,12,10,12,12,12,14,16,18,18,18,18,20,22,28,24,28,26,28,30,32,0,1]),([true,false,true,true,true,true,true,false,false,false,true,true,true,true,false],[2,2,2,2,2,4,4,4,10,6,10,8,10,10,10,12,14,16,16,16,16,18,20,26,22,26,24,26,28,30,0,1]),([true,false,true,true,true,true,true,false,false,false,true,true,true,false],[0,0,0,0,0,2,2,2,8,4,8,6,8,8,8,10,12,14,14,14,14,16,18,24,20,24,22,24,26,28,0,1]),([true,false,true,true,true,true,true,false,false,false,false],[0,0,0,0,0,0,0,0,2,2,2,2,2,4,6,8,8,8,8,10,12,18,14,18,16,18,20,22,0,1])] :=
  ⟨by kernel_rfl,by kernel_rfl,by kernel_rfl,by kernel_rfl,by kernel_rfl,by kernel_rfl,by kernel_rfl,by kernel_rfl,by kernel_rfl,by kernel_rfl,by kernel_rfl,trivial⟩

theorem ok3_t (x0:(List Int)) (x0':(List Int)):TrOk (PureRuns Go.Proofs.Try.prog (kf16 Go.Proofs.Try.prog).orc 3 as3 rs3 ((x0,x0',()),())) (t3 x0 x0') :=
  Walks.ok (fun _ _ _=>PureRuns.of) (wk3 x0 x0') (by kernel_rfl)

theorem ok3:PureOk Go.Proofs.Try.prog 3 p3:=pureOk_of kf16_ok.base (T:=fun (d:Tys.data as3)=>t3 d.1.1 d.1.2.1) (by kernel_rfl) (fun (d:Tys.data as3)=>ok3_t d.1.1 d.1.2.1)

end Go.Vm.Mo
