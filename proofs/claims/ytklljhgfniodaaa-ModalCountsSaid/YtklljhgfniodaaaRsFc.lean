import Derived.Test.YtklljhgfniodaaaA4
import Derived.KernelRfl
import Derived.Test.YtklljhgfniodaaaProg
import Derived.Test.YtklljhgfniodaaaRsFb
set_option linter.unusedVariables false
set_option linter.unusedSimpArgs false

namespace Go.Vm.Mo
open Go
set_option linter.unusedVariables false

/-! loop 0 of ductility/ductilitybase.addDigits -/

abbrev sh100_0:Sh:={ n:=42,slots:=[0,1,5,6,7],pats:=[.ty (.slice (.int .i64)),.ty (.slice (.int .i64)),.acc (.int .i64),.ty (.int .i64),.ty (.int .i64)],boxes:=[] }
abbrev shb100_0:Sh:={ n:=42,slots:=[5],pats:=[.acc (.int .i64)],boxes:=[] }
abbrev shr100_0:Sh:={ n:=42,slots:=[],pats:=[],boxes:=[] }

def t100_0 (x0:(List Int)) (x1:(List Int)) (x2:(List Int)) (x3:Int) (x4:Int):Tr (Out sh100_0.data shb100_0.data shr100_0.data) :=
  Tr.test ((!leF (↑(List.length x0):Int) x4:Bool))
    (Tr.test (Option.isSome (f116 (x0,(x4,()))))
      (Tr.test (Option.isSome (f116 (x1,(x4,()))))
        (Tr.test ((Nat.ble (((2:Nat) * (List.length x2 + (1:Nat)) + (192:Nat)) * (8:Nat)) (281474976710656:Nat) && Nat.ble (List.length x2 + (1:Nat)) (281474976710656:Nat):Bool))
          (let r0:=g116 (x0,(x4,()));
          let r1:=g116 (x1,(x4,()));
          Tr.fin (.again ((x0,(x1,((x2++[Int.tmod (wrap64 (wrap64 (r0.1 + r1.1) + x3)) (1000000000:Int)]:List Int),((Go.IntKind.wrap Go.IntKind.i64 (Int.tdiv (wrap64 (wrap64 (r0.1 + r1.1) + x3)) (1000000000:Int)):Int),((wrap64 (x4 + (1:Int)):Int),()))))),())))
          (Tr.stop))
        (Tr.stop))
      (Tr.stop))
    (Tr.test (!leF (↑(List.length x1):Int) x4)
      (Tr.test (Option.isSome (f116 (x0,(x4,()))))
        (Tr.test (Option.isSome (f116 (x1,(x4,()))))
          (Tr.test ((Nat.ble (((2:Nat) * (List.length x2 + (1:Nat)) + (192:Nat)) * (8:Nat)) (281474976710656:Nat) && Nat.ble (List.length x2 + (1:Nat)) (281474976710656:Nat):Bool))
            (let r0:=g116 (x0,(x4,()));
            let r1:=g116 (x1,(x4,()));
            Tr.fin (.again ((x0,(x1,((x2++[Int.tmod (wrap64 (wrap64 (r0.1 + r1.1) + x3)) (1000000000:Int)]:List Int),((Go.IntKind.wrap Go.IntKind.i64 (Int.tdiv (wrap64 (wrap64 (r0.1 + r1.1) + x3)) (1000000000:Int)):Int),((wrap64 (x4 + (1:Int)):Int),()))))),())))
            (Tr.stop))
          (Tr.stop))
        (Tr.stop))
      (Tr.test ((!leF x3 0:Bool))
        (Tr.test (Option.isSome (f116 (x0,(x4,()))))
          (Tr.test (Option.isSome (f116 (x1,(x4,()))))
            (Tr.test ((Nat.ble (((2:Nat) * (List.length x2 + (1:Nat)) + (192:Nat)) * (8:Nat)) (281474976710656:Nat) && Nat.ble (List.length x2 + (1:Nat)) (281474976710656:Nat):Bool))
              (let r0:=g116 (x0,(x4,()));
              let r1:=g116 (x1,(x4,()));
              Tr.fin (.again ((x0,(x1,((x2++[Int.tmod (wrap64 (wrap64 (r0.1 + r1.1) + x3)) (1000000000:Int)]:List Int),((Go.IntKind.wrap Go.IntKind.i64 (Int.tdiv (wrap64 (wrap64 (r0.1 + r1.1) + x3)) (1000000000:Int)):Int),((wrap64 (x4 + (1:Int)):Int),()))))),())))
              (Tr.stop))
            (Tr.stop))
          (Tr.stop))
        (Tr.fin (.brk ((x2,()),())))))

def s100_0 (d:sh100_0.data):Option (Out sh100_0.data shb100_0.data shr100_0.data):=(t100_0 d.1.1 d.1.2.1 d.1.2.2.1 d.1.2.2.2.1 d.1.2.2.2.2.1).val
def l100_0 (d:sh100_0.data):Option (shb100_0.data ⊕ shr100_0.data):=itr s100_0 rounds d
def b100_0 (d:sh100_0.data):shb100_0.data:=outB shb100_0.dflt (l100_0 d)
def lc100_0:LoopC:=lcB sh100_0 shb100_0 shr100_0 l100_0 b100_0

theorem wk100_0 (x0:(List Int)) (x1:(List Int)) (x2:(List Int)) (x3:Int) (x4:Int):Walks (runBody (kf102 Go.Proofs.Try.prog).orc Go.Proofs.Try.prog 400 100 0 sh100_0 shb100_0 shr100_0 ((x0,x1,x2,x3,x4,()),())) (t100_0 x0 x1 x2 x3 x4) [([true,true,true,true],[0,1,2,0,0,4,6,1,1,1,1,8,8,8,8,8]),([false,true,true,true,true],[0,1,2,0,0,4,6,1,8,8,8,10,10,10,10,10]),([false,false,true,true,true,true],[0,1,2,0,0,4,6,8,10,10,10,12,12,12,12,12]),([false,false,false],[2,4,4,4,6,6,6,6,6])] :=
  ⟨by kernel_rfl,by kernel_rfl,by kernel_rfl,by kernel_rfl,trivial⟩

theorem ok100_0_t (x0:(List Int)) (x1:(List Int)) (x2:(List Int)) (x3:Int) (x4:Int):TrOk (BodyRuns Go.Proofs.Try.prog (kf102 Go.Proofs.Try.prog).orc 100 0 sh100_0 shb100_0 shr100_0 ((x0,x1,x2,x3,x4,()),())) (t100_0 x0 x1 x2 x3 x4) :=
  Walks.ok (fun _ _ _=>BodyRuns.of) (wk100_0 x0 x1 x2 x3 x4) (by kernel_rfl)

theorem ok100_0:LoopOk Go.Proofs.Try.prog 100 0 lc100_0:=loopOk_ofB (sh:=sh100_0) (shB:=shb100_0) (shR:=shr100_0) kf102_ok.base (T:=fun (d:sh100_0.data)=>t100_0 d.1.1 d.1.2.1 d.1.2.2.1 d.1.2.2.2.1 d.1.2.2.2.2.1) (by kernel_rfl) rfl (fun (d:sh100_0.data)=>ok100_0_t d.1.1 d.1.2.1 d.1.2.2.1 d.1.2.2.2.1 d.1.2.2.2.2.1) (fun _=>rfl)
def kl100_0 (P:Go.Program):Known:=(kf102 P).loop 100 0 lc100_0
theorem kl100_0_ok:KnownOk Go.Proofs.Try.prog (kl100_0 Go.Proofs.Try.prog):=kf102_ok.loop ok100_0

/-! ductility/ductilitybase.addDigits -/

abbrev as100:List Ty:=[(.slice (.int .i64)),(.slice (.int .i64))]
abbrev rs100:List Ty:=[(.slice (.int .i64))]

def t100 (x0:(List Int)) (x1:(List Int)):Tr (Tys.data rs100) :=
  Tr.test (isBrk (l100_0 ((x0,(x1,(([]:List Int),((0:Int),((0:Int),()))))),())))
    (let r0:=b100_0 ((x0,(x1,(([]:List Int),((0:Int),((0:Int),()))))),());
    Tr.fin ((r0.1.1,())))
    (Tr.stop)

def f100 (d:Tys.data as100):Option (Tys.data rs100):=(t100 d.1 d.2.1).val
def g100 (d:Tys.data as100):Tys.data rs100:=(f100 d).getD (Tys.dflt rs100)
def p100:PureC:=pcOf as100 rs100 f100 g100

theorem wk100 (x0:(List Int)) (x1:(List Int)):Walks (runPure (kl100_0 Go.Proofs.Try.prog).orc Go.Proofs.Try.prog 400 100 as100 rs100 (x0,x1,())) (t100 x0 x1) [([tt],[1,2])] :=
  ⟨by kernel_rfl,trivial⟩

theorem ok100_t (x0:(List Int)) (x1:(List Int)):TrOk (PureRuns Go.Proofs.Try.prog (kl100_0 Go.Proofs.Try.prog).orc 100 as100 rs100 (x0,x1,())) (t100 x0 x1) :=
  Walks.ok (fun _ _ _=>PureRuns.of) (wk100 x0 x1) (by kernel_rfl)

theorem ok100:PureOk Go.Proofs.Try.prog 100 p100:=pureOk_of kl100_0_ok.base (T:=fun (d:Tys.data as100)=>t100 d.1 d.2.1) (by kernel_rfl) (fun (d:Tys.data as100)=>ok100_t d.1 d.2.1)
def kf100 (P:Go.Program):Known:=(kl100_0 P).func 100 p100
theorem kf100_ok:KnownOk Go.Proofs.Try.prog (kf100 Go.Proofs.Try.prog):=kl100_0_ok.func ok100

/-! ductility/ductilitybase.WideAdd -/

abbrev as63:List Ty:=[(.pair (.int .i64) (.pair (.slice (.int .i64)) .unit)),(.pair (.int .i64) (.pair (.slice (.int .i64)) .unit))]
abbrev rs63:List Ty:=[(.pair (.int .i64) (.pair (.slice (.int .i64)) .unit))]

def t63 (x0:Int) (x0':(List Int)) (x1:Int) (x1':(List Int)):Tr (Tys.data rs63) :=
  Tr.test ((eqF x0 0:Bool))
    (Tr.fin (((x1,(x1',())),())))
    (Tr.test (eqF x1 0)
      (Tr.fin (((x0,(x0',())),())))
      (Tr.test ((eqF x0 x1:Bool))
        (Tr.test (Option.isSome (f100 (x0',(x1',()))))
          (let r0:=g100 (x0',(x1',()));
          Tr.test (Option.isSome (f95 (x0,(r0.1,()))))
            (let r1:=g95 (x0,(r0.1,()));
            Tr.fin (((r1.1.1,(r1.1.2.1,())),())))
            (Tr.stop))
          (Tr.stop))
        (Tr.test (Option.isSome (f101 (x0',(x1',()))))
          (let r2:=g101 (x0',(x1',()));
          Tr.test ((eqF r2.1 0:Bool))
            (Tr.fin ((((0:Int),(([]:List Int),())),())))
            (Tr.test ((!leF r2.1 0:Bool))
              (Tr.test (Option.isSome (f102 (x0',(x1',()))))
                (let r3:=g102 (x0',(x1',()));
                Tr.test (Option.isSome (f95 (x0,(r3.1,()))))
                  (let r4:=g95 (x0,(r3.1,()));
                  Tr.fin (((r4.1.1,(r4.1.2.1,())),())))
                  (Tr.stop))
                (Tr.stop))
              (Tr.test (Option.isSome (f102 (x1',(x0',()))))
                (let r5:=g102 (x1',(x0',()));
                Tr.test (Option.isSome (f95 (x1,(r5.1,()))))
                  (let r6:=g95 (x1,(r5.1,()));
                  Tr.fin (((r6.1.1,(r6.1.2.1,())),())))
                  (Tr.stop))
                (Tr.stop))))
          (Tr.stop))))

def f63 (d:Tys.data as63):Option (Tys.data rs63):=(t63 d.1.1 d.1.2.1 d.2.1.1 d.2.1.2.1).val
def g63 (d:Tys.data as63):Tys.data rs63:=(f63 d).getD (Tys.dflt rs63)
def p63:PureC:=pcOf as63 rs63 f63 g63

theorem wk63 (x0:Int) (x0':(List Int)) (x1:Int) (x1':(List Int)):Walks (runPure (kf100 Go.Proofs.Try.prog).orc Go.Proofs.Try.prog 400 63 as63 rs63 ((x0,x0',()),(x1,x1',()),())) (t63 x0 x0' x1 x1') [([tt],[2]),([false,true],[2,4]),([false,false,true,true,true],[2,4,6,8,10]),([false,false,false,true,true],[2,4,6,8,10]),([false,false,false,true,false,true,true,true],[2,4,6,8,10,12,14,16]),([false,false,false,true,false,false,true,true],[2,4,6,8,10,12,14,16])] :=
  ⟨by kernel_rfl,by kernel_rfl,by kernel_rfl,by kernel_rfl,by kernel_rfl,by kernel_rfl,trivial⟩

theorem ok63_t (x0:Int) (x0':(List Int)) (x1:Int) (x1':(List Int)):TrOk (PureRuns Go.Proofs.Try.prog (kf100 Go.Proofs.Try.prog).orc 63 as63 rs63 ((x0,x0',()),(x1,x1',()),())) (t63 x0 x0' x1 x1') :=
  Walks.ok (fun _ _ _=>PureRuns.of) (wk63 x0 x0' x1 x1') (by kernel_rfl)

theorem ok63:PureOk Go.Proofs.Try.prog 63 p63:=pureOk_of kf100_ok.base (T:=fun (d:Tys.data as63)=>t63 d.1.1 d.1.2.1 d.2.1.1 d.2.1.2.1) (by kernel_rfl) (fun (d:Tys.data as63)=>ok63_t d.1.1 d.1.2.1 d.2.1.1 d.2.1.2.1)
def kf63 (P:Go.Program):Known:=(kf100 P).func 63 p63
theorem kf63_ok:KnownOk Go.Proofs.Try.prog (kf63 Go.Proofs.Try.prog):=kf100_ok.func ok63

/-! ductility/ductilitybase.WideSub -/

abbrev as115:List Ty:=[(.pair (.int .i64) (.pair (.slice (.int .i64)) .unit)),(.pair (.int .i64) (.pair (.slice (.int .i64)) .unit))]
abbrev rs115:List Ty:=[(.pair (.int .i64) (.pair (.slice (.int .i64)) .unit))]

def t115 (x0:Int) (x0':(List Int)) (x1:Int) (x1':(List Int)):Tr (Tys.data rs115) :=
  Tr.test (Option.isSome (f96 ((x1,(x1',())),())))
    (let r0:=g96 ((x1,(x1',())),());
    Tr.test (Option.isSome (f63 ((x0,(x0',())),((r0.1.1,(r0.1.2.1,())),()))))
      (let r1:=g63 ((x0,(x0',())),((r0.1.1,(r0.1.2.1,())),()));
      Tr.fin (((r1.1.1,(r1.1.2.1,())),())))
      (Tr.stop))
    (Tr.stop)

def f115 (d:Tys.data as115):Option (Tys.data rs115):=(t115 d.1.1 d.1.2.1 d.2.1.1 d.2.1.2.1).val
def g115 (d:Tys.data as115):Tys.data rs115:=(f115 d).getD (Tys.dflt rs115)
def p115:PureC:=pcOf as115 rs115 f115 g115

theorem wk115 (x0:Int) (x0':(List Int)) (x1:Int) (x1':(List Int)):Walks (runPure (kf63 Go.Proofs.Try.prog).orc Go.Proofs.Try.prog 400 115 as115 rs115 ((x0,x0',()),(x1,x1',()),())) (t115 x0 x0' x1 x1') [([true,true],[2,4])] :=
  ⟨by kernel_rfl,trivial⟩

theorem ok115_t (x0:Int) (x0':(List Int)) (x1:Int) (x1':(List Int)):TrOk (PureRuns Go.Proofs.Try.prog (kf63 Go.Proofs.Try.prog).orc 115 as115 rs115 ((x0,x0',()),(x1,x1',()),())) (t115 x0 x0' x1 x1') :=
  Walks.ok (fun _ _ _=>PureRuns.of) (wk115 x0 x0' x1 x1') (by kernel_rfl)

theorem ok115:PureOk Go.Proofs.Try.prog 115 p115:=pureOk_of kf63_ok.base (T:=fun (d:Tys.data as115)=>t115 d.1.1 d.1.2.1 d.2.1.1 d.2.1.2.1) (by kernel_rfl) (fun (d:Tys.data as115)=>ok115_t d.1.1 d.1.2.1 d.2.1.1 d.2.1.2.1)
def kf115 (P:Go.Program):Known:=(kf63 P).func 115 p115
theorem kf115_ok:KnownOk Go.Proofs.Try.prog (kf115 Go.Proofs.Try.prog):=kf63_ok.func ok115

/-! loop 2 of ductility/ductilitybase.WideFloor -/

abbrev sh99_2:Sh:={ n:=88,slots:=[2,3,4,5,6,7,8,9],pats:=[.ptr 0 2 0,.ptr 1 2 0,.ptr 2 2 0,.sli 3 1,.ty (.slice (.int .i64)),.ty (.int .i64),.ty (.int .i64),.ty (.int .i64)],boxes:=[.row [.ty (.int .i64),.ty (.slice (.int .i64))],.row [.ty (.int .i64),.ty (.slice (.int .i64))],.row [.ty (.int .i64),.nil],.arr (.int .i64)] }
abbrev shb99_2:Sh:={ n:=88,slots:=[2,3,4,5,6,7,8],pats:=[.ptr 0 2 0,.ptr 1 2 0,.ptr 2 2 0,.sli 3 1,.ty (.slice (.int .i64)),.ty (.int .i64),.ty (.int .i64)],boxes:=[.row [.ty (.int .i64),.ty (.slice (.int .i64))],.row [.ty (.int .i64),.ty (.slice (.int .i64))],.row [.ty (.int .i64),.nil],.arr (.int .i64)] }
abbrev shr99_2:Sh:={ n:=88,slots:=[],pats:=[],boxes:=[.row [.ty (.int .i64),.ty (.slice (.int .i64))],.row [.ty (.int .i64),.ty (.slice (.int .i64))],.row [.ty (.int .i64),.nil],.arr (.int .i64)] }

def t99_2 (x3n:Nat) (x3c:Nat) (x4:(List Int)) (x5:Int) (x6:Int) (x7:Int) (b0_0:Int) (b0_1:(List Int)) (b1_0:Int) (b1_1:(List Int)) (b2_0:Int) (b3:(List Int)):Tr (Out sh99_2.data shb99_2.data shr99_2.data) :=
  Tr.test ((!leF x7 x6:Bool))
    (Tr.test (Option.isSome (f95 ((1:Int),(b1_1,()))))
      (Tr.test (Option.isSome (f61 ((Go.IntKind.wrap Go.IntKind.i64 (Int.tdiv (wrap64 (wrap64 (x6 + x7) + (1:Int))) (2:Int)):Int),())))
        (let r0:=g95 ((1:Int),(b1_1,()));
        let r1:=g61 ((Go.IntKind.wrap Go.IntKind.i64 (Int.tdiv (wrap64 (wrap64 (x6 + x7) + (1:Int))) (2:Int)):Int),());
        Tr.test (Option.isSome (f64 ((r0.1.1,(r0.1.2.1,())),((r1.1.1,(r1.1.2.1,())),()))))
          (let r2:=g64 ((r0.1.1,(r0.1.2.1,())),((r1.1.1,(r1.1.2.1,())),()));
          Tr.test (Option.isSome (f101 (r2.1.2.1,(x4,()))))
            (let r3:=g101 (r2.1.2.1,(x4,()));
            Tr.test ((leF r3.1 0:Bool))
              (Tr.fin (.again (((x3n,x3c),(x4,(x5,((Go.IntKind.wrap Go.IntKind.i64 (Int.tdiv (wrap64 (wrap64 (x6 + x7) + (1:Int))) (2:Int)):Int),(x7,()))))),((b0_0,(b0_1,())),((b1_0,(b1_1,())),((b2_0,()),(b3,())))))))
              (Tr.fin (.again (((x3n,x3c),(x4,(x5,(x6,((wrap64 (Go.IntKind.wrap Go.IntKind.i64 (Int.tdiv (wrap64 (wrap64 (x6 + x7) + (1:Int))) (2:Int)) - (1:Int)):Int),()))))),((b0_0,(b0_1,())),((b1_0,(b1_1,())),((b2_0,()),(b3,()))))))))
            (Tr.stop))
          (Tr.stop))
        (Tr.stop))
      (Tr.stop))
    (Tr.fin (.brk (((x3n,x3c),(x4,(x5,(x6,())))),((b0_0,(b0_1,())),((b1_0,(b1_1,())),((b2_0,()),(b3,())))))))

def s99_2 (d:sh99_2.data):Option (Out sh99_2.data shb99_2.data shr99_2.data):=(t99_2 d.1.1.1 d.1.1.2 d.1.2.1 d.1.2.2.1 d.1.2.2.2.1 d.1.2.2.2.2.1 d.2.1.1 d.2.1.2.1 d.2.2.1.1 d.2.2.1.2.1 d.2.2.2.1.1 d.2.2.2.2.1).val
def l99_2 (d:sh99_2.data):Option (shb99_2.data ⊕ shr99_2.data):=itr s99_2 rounds d
def b99_2 (d:sh99_2.data):shb99_2.data:=outB shb99_2.dflt (l99_2 d)
def lc99_2:LoopC:=lcB sh99_2 shb99_2 shr99_2 l99_2 b99_2

theorem wk99_2 (x3n:Nat) (x3c:Nat) (x4:(List Int)) (x5:Int) (x6:Int) (x7:Int) (b0_0:Int) (b0_1:(List Int)) (b1_0:Int) (b1_1:(List Int)) (b2_0:Int) (b3:(List Int)):Walks (runBody (kf115 Go.Proofs.Try.prog).orc Go.Proofs.Try.prog 400 99 2 sh99_2 shb99_2 shr99_2 (((x3n,x3c),x4,x5,x6,x7,()),(b0_0,b0_1,()),(b1_0,b1_1,()),(b2_0,()),b3,())) (t99_2 x3n x3c x4 x5 x6 x7 b0_0 b0_1 b1_0 b1_1 b2_0 b3) [([true,true,true,true,true,true],[2,4,6,8,10,0,12]),([true,true,true,true,true,false],[2,4,6,8,10,0,12]),([ff],[2])] :=
  ⟨by kernel_rfl,by kernel_rfl,by kernel_rfl,trivial⟩

theorem ok99_2_t (x3n:Nat) (x3c:Nat) (x4:(List Int)) (x5:Int) (x6:Int) (x7:Int) (b0_0:Int) (b0_1:(List Int)) (b1_0:Int) (b1_1:(List Int)) (b2_0:Int) (b3:(List Int)):TrOk (BodyRuns Go.Proofs.Try.prog (kf115 Go.Proofs.Try.prog).orc 99 2 sh99_2 shb99_2 shr99_2 (((x3n,x3c),x4,x5,x6,x7,()),(b0_0,b0_1,()),(b1_0,b1_1,()),(b2_0,()),b3,())) (t99_2 x3n x3c x4 x5 x6 x7 b0_0 b0_1 b1_0 b1_1 b2_0 b3) :=
  Walks.ok (fun _ _ _=>BodyRuns.of) (wk99_2 x3n x3c x4 x5 x6 x7 b0_0 b0_1 b1_0 b1_1 b2_0 b3) (by kernel_rfl)

theorem ok99_2:LoopOk Go.Proofs.Try.prog 99 2 lc99_2:=loopOk_ofB (sh:=sh99_2) (shB:=shb99_2) (shR:=shr99_2) kf115_ok.base (T:=fun (d:sh99_2.data)=>t99_2 d.1.1.1 d.1.1.2 d.1.2.1 d.1.2.2.1 d.1.2.2.2.1 d.1.2.2.2.2.1 d.2.1.1 d.2.1.2.1 d.2.2.1.1 d.2.2.1.2.1 d.2.2.2.1.1 d.2.2.2.2.1) (by kernel_rfl) rfl (fun (d:sh99_2.data)=>ok99_2_t d.1.1.1 d.1.1.2 d.1.2.1 d.1.2.2.1 d.1.2.2.2.1 d.1.2.2.2.2.1 d.2.1.1 d.2.1.2.1 d.2.2.1.1 d.2.2.1.2.1 d.2.2.2.1.1 d.2.2.2.2.1) (fun _=>rfl)
def kl99_2 (P:Go.Program):Known:=(kf115 P).loop 99 2 lc99_2
theorem kl99_2_ok:KnownOk Go.Proofs.Try.prog (kl99_2 Go.Proofs.Try.prog):=kf115_ok.loop ok99_2

/-! loop 0 of ductility/ductilitybase.WideFloor -/

abbrev sh99_0:Sh:={ n:=88,slots:=[2,3,4,5,6,7],pats:=[.ptr 0 2 0,.ptr 1 2 0,.ptr 2 2 0,.sli 3 1,.ty (.slice (.int .i64)),.ty (.int .i64)],boxes:=[.row [.ty (.int .i64),.ty (.slice (.int .i64))],.row [.ty (.int .i64),.ty (.slice (.int .i64))],.row [.ty (.int .i64),.nil],.arr (.int .i64)] }
abbrev shb99_0:Sh:={ n:=88,slots:=[2,4,5,6],pats:=[.ptr 0 2 0,.ptr 2 2 0,.sli 3 1,.ty (.slice (.int .i64))],boxes:=[.row [.ty (.int .i64),.ty (.slice (.int .i64))],.row [.ty (.int .i64),.ty (.slice (.int .i64))],.row [.ty (.int .i64),.nil],.arr (.int .i64)] }
abbrev shr99_0:Sh:={ n:=88,slots:=[],pats:=[],boxes:=[.row [.ty (.int .i64),.ty (.slice (.int .i64))],.row [.ty (.int .i64),.ty (.slice (.int .i64))],.row [.ty (.int .i64),.nil],.arr (.int .i64)] }

def t99_0 (x3n:Nat) (x3c:Nat) (x4:(List Int)) (x5:Int) (b0_0:Int) (b0_1:(List Int)) (b1_0:Int) (b1_1:(List Int)) (b2_0:Int) (b3:(List Int)):Tr (Out sh99_0.data shb99_0.data shr99_0.data) :=
  Tr.test ((leF (0:Int) x5:Bool))
    (Tr.test (decide ((0:Int) ≤ x5) && decide (x5 < (↑(List.length b0_1):Int)))
      (Tr.test ((Nat.beq (List.length x4) (0:Nat):Bool))
        (Tr.test (Option.isSome (f113 (([List.getD b0_1 (Int.toNat x5) (0:Int)]:List Int),())))
          (let r0:=g113 (([List.getD b0_1 (Int.toNat x5) (0:Int)]:List Int),());
          Tr.test (isBrk (l99_2 (((x3n,x3c),(r0.1,(x5,((0:Int),((999999999:Int),()))))),((b0_0,(b0_1,())),((b1_0,(b1_1,())),((b2_0,()),(b3,())))))))
            (let r2:=b99_2 (((x3n,x3c),(r0.1,(x5,((0:Int),((999999999:Int),()))))),((b0_0,(b0_1,())),((b1_0,(b1_1,())),((b2_0,()),(b3,())))));
            Tr.test ((decide ((0:Int) ≤ r2.1.2.2.1) && decide (r2.1.2.2.1 < (↑r2.1.1.1:Int)):Bool))
              (Tr.test ((Nat.ble ((0:Nat) + Int.toNat r2.1.2.2.1 + (1:Nat)) (List.length r2.2.2.2.2.1):Bool))
                (Tr.test (Option.isSome (f95 ((1:Int),(r2.2.2.1.2.1,()))))
                  (Tr.test (Option.isSome (f61 (r2.1.2.2.2.1,())))
                    (let r3:=g95 ((1:Int),(r2.2.2.1.2.1,()));
                    let r4:=g61 (r2.1.2.2.2.1,());
                    Tr.test (Option.isSome (f64 ((r3.1.1,(r3.1.2.1,())),((r4.1.1,(r4.1.2.1,())),()))))
                      (let r5:=g64 ((r3.1.1,(r3.1.2.1,())),((r4.1.1,(r4.1.2.1,())),()));
                      Tr.test (Option.isSome (f102 (r2.1.2.1,(r5.1.2.1,()))))
                        (let r6:=g102 (r2.1.2.1,(r5.1.2.1,()));
                        Tr.fin (.again (((r2.1.1.1,r2.1.1.2),(r6.1,((wrap64 (r2.1.2.2.1 - (1:Int)):Int),()))),((r2.2.1.1,(r2.2.1.2.1,())),((r2.2.2.1.1,(r2.2.2.1.2.1,())),((r2.2.2.2.1.1,()),((List.set r2.2.2.2.2.1 ((0:Nat) + Int.toNat r2.1.2.2.1) r2.1.2.2.2.1:List Int),())))))))
                        (Tr.stop))
                      (Tr.stop))
                    (Tr.stop))
                  (Tr.stop))
                (Tr.stop))
              (Tr.stop))
            (Tr.stop))
          (Tr.stop))
        (Tr.test ((Nat.ble ((1:Nat) + List.length x4) (1:Nat):Bool))
          (Tr.stop)
          (Tr.test ((Nat.ble (((2:Nat) * ((1:Nat) + List.length x4) + (192:Nat)) * (8:Nat)) (281474976710656:Nat) && Nat.ble ((1:Nat) + List.length x4) (281474976710656:Nat):Bool))
            (Tr.test ((Nat.beq ((1:Nat) + List.length x4) (List.length ([List.getD b0_1 (Int.toNat x5) (0:Int)]++x4)):Bool))
              (Tr.test (Option.isSome (f113 (([List.getD b0_1 (Int.toNat x5) (0:Int)]++x4:List Int),())))
                (let r1:=g113 (([List.getD b0_1 (Int.toNat x5) (0:Int)]++x4:List Int),());
                Tr.test (isBrk (l99_2 (((x3n,x3c),(r1.1,(x5,((0:Int),((999999999:Int),()))))),((b0_0,(b0_1,())),((b1_0,(b1_1,())),((b2_0,()),(b3,())))))))
                  (let r7:=b99_2 (((x3n,x3c),(r1.1,(x5,((0:Int),((999999999:Int),()))))),((b0_0,(b0_1,())),((b1_0,(b1_1,())),((b2_0,()),(b3,())))));
                  Tr.test ((decide ((0:Int) ≤ r7.1.2.2.1) && decide (r7.1.2.2.1 < (↑r7.1.1.1:Int)):Bool))
                    (Tr.test ((Nat.ble ((0:Nat) + Int.toNat r7.1.2.2.1 + (1:Nat)) (List.length r7.2.2.2.2.1):Bool))
                      (Tr.test (Option.isSome (f95 ((1:Int),(r7.2.2.1.2.1,()))))
                        (Tr.test (Option.isSome (f61 (r7.1.2.2.2.1,())))
                          (let r8:=g95 ((1:Int),(r7.2.2.1.2.1,()));
                          let r9:=g61 (r7.1.2.2.2.1,());
                          Tr.test (Option.isSome (f64 ((r8.1.1,(r8.1.2.1,())),((r9.1.1,(r9.1.2.1,())),()))))
                            (let r10:=g64 ((r8.1.1,(r8.1.2.1,())),((r9.1.1,(r9.1.2.1,())),()));
                            Tr.test (Option.isSome (f102 (r7.1.2.1,(r10.1.2.1,()))))
                              (let r11:=g102 (r7.1.2.1,(r10.1.2.1,()));
                              Tr.fin (.again (((r7.1.1.1,r7.1.1.2),(r11.1,((wrap64 (r7.1.2.2.1 - (1:Int)):Int),()))),((r7.2.1.1,(r7.2.1.2.1,())),((r7.2.2.1.1,(r7.2.2.1.2.1,())),((r7.2.2.2.1.1,()),((List.set r7.2.2.2.2.1 ((0:Nat) + Int.toNat r7.1.2.2.1) r7.1.2.2.2.1:List Int),())))))))
                              (Tr.stop))
                            (Tr.stop))
                          (Tr.stop))
                        (Tr.stop))
                      (Tr.stop))
                    (Tr.stop))
                  (Tr.stop))
                (Tr.stop))
              (Tr.stop))
            (Tr.stop))))
      (Tr.stop))
    (Tr.fin (.brk (((x3n,x3c),(x4,())),((b0_0,(b0_1,())),((b1_0,(b1_1,())),((b2_0,()),(b3,())))))))

def s99_0 (d:sh99_0.data):Option (Out sh99_0.data shb99_0.data shr99_0.data):=(t99_0 d.1.1.1 d.1.1.2 d.1.2.1 d.1.2.2.1 d.2.1.1 d.2.1.2.1 d.2.2.1.1 d.2.2.1.2.1 d.2.2.2.1.1 d.2.2.2.2.1).val
def l99_0 (d:sh99_0.data):Option (shb99_0.data ⊕ shr99_0.data):=itr s99_0 rounds d
def b99_0 (d:sh99_0.data):shb99_0.data:=outB shb99_0.dflt (l99_0 d)
def lc99_0:LoopC:=lcB sh99_0 shb99_0 shr99_0 l99_0 b99_0

theorem wk99_0 (x3n:Nat) (x3c:Nat) (x4:(List Int)) (x5:Int) (b0_0:Int) (b0_1:(List Int)) (b1_0:Int) (b1_1:(List Int)) (b2_0:Int) (b3:(List Int)):Walks (runBody (kl99_2 Go.Proofs.Try.prog).orc Go.Proofs.Try.prog 400 99 0 sh99_0 shb99_0 shr99_0 (((x3n,x3c),x4,x5,()),(b0_0,b0_1,()),(b1_0,b1_1,()),(b2_0,()),b3,())) (t99_0 x3n x3c x4 x5 b0_0 b0_1 b1_0 b1_1 b2_0 b3) [([true,true,true,true,true,true,true,true,true,true,true],[2,4,6,8,10,12,1,14,16,1,18,20,22]),([true,true,false,false,true,true,true,true,true,true,true,true,true,true],[2,4,6,8,10,12,1,14,16,18,1,20,22,24,26,28]),([ff],[2])] :=
  ⟨by kernel_rfl,by kernel_rfl,by kernel_rfl,trivial⟩

theorem ok99_0_t (x3n:Nat) (x3c:Nat) (x4:(List Int)) (x5:Int) (b0_0:Int) (b0_1:(List Int)) (b1_0:Int) (b1_1:(List Int)) (b2_0:Int) (b3:(List Int)):TrOk (BodyRuns Go.Proofs.Try.prog (kl99_2 Go.Proofs.Try.prog).orc 99 0 sh99_0 shb99_0 shr99_0 (((x3n,x3c),x4,x5,()),(b0_0,b0_1,()),(b1_0,b1_1,()),(b2_0,()),b3,())) (t99_0 x3n x3c x4 x5 b0_0 b0_1 b1_0 b1_1 b2_0 b3) :=
  Walks.ok (fun _ _ _=>BodyRuns.of) (wk99_0 x3n x3c x4 x5 b0_0 b0_1 b1_0 b1_1 b2_0 b3) (by kernel_rfl)

theorem ok99_0:LoopOk Go.Proofs.Try.prog 99 0 lc99_0:=loopOk_ofB (sh:=sh99_0) (shB:=shb99_0) (shR:=shr99_0) kl99_2_ok.base (T:=fun (d:sh99_0.data)=>t99_0 d.1.1.1 d.1.1.2 d.1.2.1 d.1.2.2.1 d.2.1.1 d.2.1.2.1 d.2.2.1.1 d.2.2.1.2.1 d.2.2.2.1.1 d.2.2.2.2.1) (by kernel_rfl) rfl (fun (d:sh99_0.data)=>ok99_0_t d.1.1.1 d.1.1.2 d.1.2.1 d.1.2.2.1 d.2.1.1 d.2.1.2.1 d.2.2.1.1 d.2.2.1.2.1 d.2.2.2.1.1 d.2.2.2.2.1) (fun _=>rfl)
def kl99_0 (P:Go.Program):Known:=(kl99_2 P).loop 99 0 lc99_0
theorem kl99_0_ok:KnownOk Go.Proofs.Try.prog (kl99_0 Go.Proofs.Try.prog):=kl99_2_ok.loop ok99_0

/-! ductility/ductilitybase.WideFloor -/

abbrev as99:List Ty:=[(.pair (.int .i64) (.pair (.slice (.int .i64)) .unit)),(.pair (.int .i64) (.pair (.slice (.int .i64)) .unit))]
abbrev rs99:List Ty:=[(.pair (.int .i64) (.pair (.slice (.int .i64)) .unit))]

def t99 (x0:Int) (x0':(List Int)) (x1:Int) (x1':(List Int)):Tr (Tys.data rs99) :=
  Tr.test ((eqF x0 0:Bool))
    (Tr.fin ((((0:Int),(([]:List Int),())),())))
    (Tr.test (decide ((0:Int) ≤ (↑(List.length x0'):Int)) && decide ((↑(List.length x0'):Int) ≤ (↑(List.length x0'):Int)) && decide ((8:Int) * (↑(List.length x0'):Int) ≤ (281474976710656:Int)) && decide ((↑(List.length x0'):Int) ≤ (281474976710656:Int)))
      (Tr.test (isBrk (l99_0 ((((Int.toNat (↑(List.length x0'):Int):Nat),(Int.toNat (↑(List.length x0'):Int):Nat)),(([]:List Int),((wrap64 ((↑(List.length x0'):Int) - (1:Int)):Int),()))),((x0,(x0',())),((x1,(x1',())),(((0:Int),()),((List.replicate (Int.toNat (↑(List.length x0'):Int)) (0:Int):List Int),())))))))
        (let r0:=b99_0 ((((Int.toNat (↑(List.length x0'):Int):Nat),(Int.toNat (↑(List.length x0'):Int):Nat)),(([]:List Int),((wrap64 ((↑(List.length x0'):Int) - (1:Int)):Int),()))),((x0,(x0',())),((x1,(x1',())),(((0:Int),()),((List.replicate (Int.toNat (↑(List.length x0'):Int)) (0:Int):List Int),())))));
        Tr.test ((Nat.beq r0.1.1.1 (List.length r0.2.2.2.2.1):Bool))
          (Tr.test (Option.isSome (f95 (r0.2.1.1,(r0.2.2.2.2.1,()))))
            (Tr.test ((!leF (0:Int) r0.2.1.1:Bool))
              (Tr.test ((!leF (↑(List.length r0.1.2.1):Int) (0:Int):Bool))
                (Tr.test (Option.isSome (f61 ((1:Int),())))
                  (let r1:=g95 (r0.2.1.1,(r0.2.2.2.2.1,()));
                  let r3:=g61 ((1:Int),());
                  Tr.test (Option.isSome (f115 ((r1.1.1,(r1.1.2.1,())),((r3.1.1,(r3.1.2.1,())),()))))
                    (let r4:=g115 ((r1.1.1,(r1.1.2.1,())),((r3.1.1,(r3.1.2.1,())),()));
                    Tr.fin (((r4.1.1,(r4.1.2.1,())),())))
                    (Tr.stop))
                  (Tr.stop))
                (let r1:=g95 (r0.2.1.1,(r0.2.2.2.2.1,()));
                Tr.fin (((r1.1.1,(r1.1.2.1,())),()))))
              (let r1:=g95 (r0.2.1.1,(r0.2.2.2.2.1,()));
              Tr.fin (((r1.1.1,(r1.1.2.1,())),()))))
            (Tr.stop))
          (Tr.test ((Nat.ble r0.1.1.1 (List.length r0.2.2.2.2.1):Bool))
            (Tr.test (Option.isSome (f95 (r0.2.1.1,((List.take r0.1.1.1 r0.2.2.2.2.1:List Int),()))))
              (Tr.test ((!leF (0:Int) r0.2.1.1:Bool))
                (Tr.test ((!leF (↑(List.length r0.1.2.1):Int) (0:Int):Bool))
                  (Tr.test (Option.isSome (f61 ((1:Int),())))
                    (let r2:=g95 (r0.2.1.1,((List.take r0.1.1.1 r0.2.2.2.2.1:List Int),()));
                    let r3:=g61 ((1:Int),());
                    Tr.test (Option.isSome (f115 ((r2.1.1,(r2.1.2.1,())),((r3.1.1,(r3.1.2.1,())),()))))
                      (let r5:=g115 ((r2.1.1,(r2.1.2.1,())),((r3.1.1,(r3.1.2.1,())),()));
                      Tr.fin (((r5.1.1,(r5.1.2.1,())),())))
                      (Tr.stop))
                    (Tr.stop))
                  (let r2:=g95 (r0.2.1.1,((List.take r0.1.1.1 r0.2.2.2.2.1:List Int),()));
                  Tr.fin (((r2.1.1,(r2.1.2.1,())),()))))
                (let r2:=g95 (r0.2.1.1,((List.take r0.1.1.1 r0.2.2.2.2.1:List Int),()));
                Tr.fin (((r2.1.1,(r2.1.2.1,())),()))))
              (Tr.stop))
            (Tr.stop /- a known call [op 3 of region 16 of F99] -/)))
        (Tr.stop))
      (Tr.stop))

def f99 (d:Tys.data as99):Option (Tys.data rs99):=(t99 d.1.1 d.1.2.1 d.2.1.1 d.2.1.2.1).val
def g99 (d:Tys.data as99):Tys.data rs99:=(f99 d).getD (Tys.dflt rs99)
def p99:PureC:=pcOf as99 rs99 f99 g99

theorem wk99 (x0:Int) (x0':(List Int)) (x1:Int) (x1':(List Int)):Walks (runPure (kl99_0 Go.Proofs.Try.prog).orc Go.Proofs.Try.prog 400 99 as99 rs99 ((x0,x0',()),(x1,x1',()),())) (t99 x0 x0' x1 x1') [([tt],[2]),([false,true,true,true,true,true,true,true,true],[2,4,6,8,8,8,8,10,12,1,14,16,18]),([false,true,true,true,true,true,false],[2,4,4,4,4,6,8,1,10,12,14]),([false,true,true,true,true,false],[0,2,2,2,2,4,6,1,8,10,12]),([false,true,true,false,true,true,true,true,true,true],[2,4,6,8,8,8,8,10,12,14,1,16,18,20]),([false,true,true,false,true,true,true,false],[2,4,4,4,4,6,8,10,1,12,14,16]),([false,true,true,false,true,true,false],[0,2,2,2,2,4,6,8,1,10,12,14])] :=
  ⟨by kernel_rfl,by kernel_rfl,by kernel_rfl,by kernel_rfl,by kernel_rfl,by kernel_rfl,by kernel_rfl,trivial⟩

theorem ok99_t (x0:Int) (x0':(List Int)) (x1:Int) (x1':(List Int)):TrOk (PureRuns Go.Proofs.Try.prog (kl99_0 Go.Proofs.Try.prog).orc 99 as99 rs99 ((x0,x0',()),(x1,x1',()),())) (t99 x0 x0' x1 x1') :=
  Walks.ok (fun _ _ _=>PureRuns.of) (wk99 x0 x0' x1 x1') (by kernel_rfl)

theorem ok99:PureOk Go.Proofs.Try.prog 99 p99:=pureOk_of kl99_0_ok.base (T:=fun (d:Tys.data as99)=>t99 d.1.1 d.1.2.1 d.2.1.1 d.2.1.2.1) (by kernel_rfl) (fun (d:Tys.data as99)=>ok99_t d.1.1 d.1.2.1 d.2.1.1 d.2.1.2.1)
def kf99 (P:Go.Program):Known:=(kl99_0 P).func 99 p99
theorem kf99_ok:KnownOk Go.Proofs.Try.prog (kf99 Go.Proofs.Try.prog):=kl99_0_ok.func ok99

/-! loop 0 of ductility/ductilitybase.wideGcd -/

abbrev sh97_0:Sh:={ n:=23,slots:=[2,3,4],pats:=[.ptr 0 2 0,.ptr 1 2 0,.ptr 2 2 0],boxes:=[.row [.ty (.int .i64),.ty (.slice (.int .i64))],.row [.ty (.int .i64),.ty (.slice (.int .i64))],.row [.ty (.int .i64),.nil]] }
abbrev shb97_0:Sh:={ n:=23,slots:=[2,4],pats:=[.ptr 0 2 0,.ptr 2 2 0],boxes:=[.row [.ty (.int .i64),.ty (.slice (.int .i64))],.row [.ty (.int .i64),.ty (.slice (.int .i64))],.row [.ty (.int .i64),.nil]] }
abbrev shr97_0:Sh:={ n:=23,slots:=[],pats:=[],boxes:=[.row [.ty (.int .i64),.ty (.slice (.int .i64))],.row [.ty (.int .i64),.ty (.slice (.int .i64))],.row [.ty (.int .i64),.nil]] }

def t97_0 (b0_0:Int) (b0_1:(List Int)) (b1_0:Int) (b1_1:(List Int)) (b2_0:Int):Tr (Out sh97_0.data shb97_0.data shr97_0.data) :=
  Tr.test (Option.isSome (f65 ((b1_0,(b1_1,())),())))
    (let r0:=g65 ((b1_0,(b1_1,())),());
    Tr.test ((!eqF r0.1 0:Bool))
      (Tr.test (Option.isSome (f99 ((b0_0,(b0_1,())),((b1_0,(b1_1,())),()))))
        (let r1:=g99 ((b0_0,(b0_1,())),((b1_0,(b1_1,())),()));
        Tr.test (Option.isSome (f64 ((r1.1.1,(r1.1.2.1,())),((b1_0,(b1_1,())),()))))
          (let r2:=g64 ((r1.1.1,(r1.1.2.1,())),((b1_0,(b1_1,())),()));
          Tr.test (Option.isSome (f115 ((b0_0,(b0_1,())),((r2.1.1,(r2.1.2.1,())),()))))
            (let r3:=g115 ((b0_0,(b0_1,())),((r2.1.1,(r2.1.2.1,())),()));
            Tr.fin (.again ((),((b1_0,(b1_1,())),((r3.1.1,(r3.1.2.1,())),((b2_0,()),()))))))
            (Tr.stop))
          (Tr.stop))
        (Tr.stop))
      (Tr.fin (.brk ((),((b0_0,(b0_1,())),((b1_0,(b1_1,())),((b2_0,()),())))))))
    (Tr.stop)

def s97_0 (d:sh97_0.data):Option (Out sh97_0.data shb97_0.data shr97_0.data):=(t97_0 d.2.1.1 d.2.1.2.1 d.2.2.1.1 d.2.2.1.2.1 d.2.2.2.1.1).val
def l97_0 (d:sh97_0.data):Option (shb97_0.data ⊕ shr97_0.data):=itr s97_0 rounds d
def b97_0 (d:sh97_0.data):shb97_0.data:=outB shb97_0.dflt (l97_0 d)
def lc97_0:LoopC:=lcB sh97_0 shb97_0 shr97_0 l97_0 b97_0

theorem wk97_0 (b0_0:Int) (b0_1:(List Int)) (b1_0:Int) (b1_1:(List Int)) (b2_0:Int):Walks (runBody (kf99 Go.Proofs.Try.prog).orc Go.Proofs.Try.prog 400 97 0 sh97_0 shb97_0 shr97_0 ((),(b0_0,b0_1,()),(b1_0,b1_1,()),(b2_0,()),())) (t97_0 b0_0 b0_1 b1_0 b1_1 b2_0) [([true,true,true,true,true],[2,4,6,8,10]),([true,false],[2,4])] :=
  ⟨by kernel_rfl,by kernel_rfl,trivial⟩

theorem ok97_0_t (b0_0:Int) (b0_1:(List Int)) (b1_0:Int) (b1_1:(List Int)) (b2_0:Int):TrOk (BodyRuns Go.Proofs.Try.prog (kf99 Go.Proofs.Try.prog).orc 97 0 sh97_0 shb97_0 shr97_0 ((),(b0_0,b0_1,()),(b1_0,b1_1,()),(b2_0,()),())) (t97_0 b0_0 b0_1 b1_0 b1_1 b2_0) :=
  Walks.ok (fun _ _ _=>BodyRuns.of) (wk97_0 b0_0 b0_1 b1_0 b1_1 b2_0) (by kernel_rfl)

theorem ok97_0:LoopOk Go.Proofs.Try.prog 97 0 lc97_0:=loopOk_ofB (sh:=sh97_0) (shB:=shb97_0) (shR:=shr97_0) kf99_ok.base (T:=fun (d:sh97_0.data)=>t97_0 d.2.1.1 d.2.1.2.1 d.2.2.1.1 d.2.2.1.2.1 d.2.2.2.1.1) (by kernel_rfl) rfl (fun (d:sh97_0.data)=>ok97_0_t d.2.1.1 d.2.1.2.1 d.2.2.1.1 d.2.2.1.2.1 d.2.2.2.1.1) (fun _=>rfl)
def kl97_0 (P:Go.Program):Known:=(kf99 P).loop 97 0 lc97_0
theorem kl97_0_ok:KnownOk Go.Proofs.Try.prog (kl97_0 Go.Proofs.Try.prog):=kf99_ok.loop ok97_0

/-! ductility/ductilitybase.wideGcd -/

abbrev as97:List Ty:=[(.pair (.int .i64) (.pair (.slice (.int .i64)) .unit)),(.pair (.int .i64) (.pair (.slice (.int .i64)) .unit))]
abbrev rs97:List Ty:=[(.pair (.int .i64) (.pair (.slice (.int .i64)) .unit))]

def t97 (x0:Int) (x0':(List Int)) (x1:Int) (x1':(List Int)):Tr (Tys.data rs97) :=
  Tr.test (Option.isSome (f114 ((x0,(x0',())),())))
    (Tr.test (Option.isSome (f114 ((x1,(x1',())),())))
      (let r0:=g114 ((x0,(x0',())),());
      let r1:=g114 ((x1,(x1',())),());
      Tr.test (isBrk (l97_0 ((),((r0.1.1,(r0.1.2.1,())),((r1.1.1,(r1.1.2.1,())),(((0:Int),()),()))))))
        (let r2:=b97_0 ((),((r0.1.1,(r0.1.2.1,())),((r1.1.1,(r1.1.2.1,())),(((0:Int),()),()))));
        Tr.fin (((r2.2.1.1,(r2.2.1.2.1,())),())))
        (Tr.stop))
      (Tr.stop))
    (Tr.stop)

def f97 (d:Tys.data as97):Option (Tys.data rs97):=(t97 d.1.1 d.1.2.1 d.2.1.1 d.2.1.2.1).val
def g97 (d:Tys.data as97):Tys.data rs97:=(f97 d).getD (Tys.dflt rs97)
def p97:PureC:=pcOf as97 rs97 f97 g97

theorem wk97 (x0:Int) (x0':(List Int)) (x1:Int) (x1':(List Int)):Walks (runPure (kl97_0 Go.Proofs.Try.prog).orc Go.Proofs.Try.prog 400 97 as97 rs97 ((x0,x0',()),(x1,x1',()),())) (t97 x0 x0' x1 x1') [([true,true,true],[1,2,4,6])] :=
  ⟨by kernel_rfl,trivial⟩

theorem ok97_t (x0:Int) (x0':(List Int)) (x1:Int) (x1':(List Int)):TrOk (PureRuns Go.Proofs.Try.prog (kl97_0 Go.Proofs.Try.prog).orc 97 as97 rs97 ((x0,x0',()),(x1,x1',()),())) (t97 x0 x0' x1 x1') :=
  Walks.ok (fun _ _ _=>PureRuns.of) (wk97 x0 x0' x1 x1') (by kernel_rfl)

theorem ok97:PureOk Go.Proofs.Try.prog 97 p97:=pureOk_of kl97_0_ok.base (T:=fun (d:Tys.data as97)=>t97 d.1.1 d.1.2.1 d.2.1.1 d.2.1.2.1) (by kernel_rfl) (fun (d:Tys.data as97)=>ok97_t d.1.1 d.1.2.1 d.2.1.1 d.2.1.2.1)
def kf97 (P:Go.Program):Known:=(kl97_0 P).func 97 p97
theorem kf97_ok:KnownOk Go.Proofs.Try.prog (kf97 Go.Proofs.Try.prog):=kl97_0_ok.func ok97

/-! ductility/ductilitybase.WideCmp -/

abbrev as98:List Ty:=[(.pair (.int .i64) (.pair (.slice (.int .i64)) .unit)),(.pair (.int .i64) (.pair (.slice (.int .i64)) .unit))]
abbrev rs98:List Ty:=[(.int .i64)]

def t98 (x0:Int) (x0':(List Int)) (x1:Int) (x1':(List Int)):Tr (Tys.data rs98) :=
  Tr.test (Option.isSome (f115 ((x0,(x0',())),((x1,(x1',())),()))))
    (let r0:=g115 ((x0,(x0',())),((x1,(x1',())),()));
    Tr.fin ((r0.1.1,())))
    (Tr.stop)

def f98 (d:Tys.data as98):Option (Tys.data rs98):=(t98 d.1.1 d.1.2.1 d.2.1.1 d.2.1.2.1).val
def g98 (d:Tys.data as98):Tys.data rs98:=(f98 d).getD (Tys.dflt rs98)
def p98:PureC:=pcOf as98 rs98 f98 g98

theorem wk98 (x0:Int) (x0':(List Int)) (x1:Int) (x1':(List Int)):Walks (runPure (kf97 Go.Proofs.Try.prog).orc Go.Proofs.Try.prog 400 98 as98 rs98 ((x0,x0',()),(x1,x1',()),())) (t98 x0 x0' x1 x1') [([tt],[2])] :=
  ⟨by kernel_rfl,trivial⟩

theorem ok98_t (x0:Int) (x0':(List Int)) (x1:Int) (x1':(List Int)):TrOk (PureRuns Go.Proofs.Try.prog (kf97 Go.Proofs.Try.prog).orc 98 as98 rs98 ((x0,x0',()),(x1,x1',()),())) (t98 x0 x0' x1 x1') :=
  Walks.ok (fun _ _ _=>PureRuns.of) (wk98 x0 x0' x1 x1') (by kernel_rfl)

theorem ok98:PureOk Go.Proofs.Try.prog 98 p98:=pureOk_of kf97_ok.base (T:=fun (d:Tys.data as98)=>t98 d.1.1 d.1.2.1 d.2.1.1 d.2.1.2.1) (by kernel_rfl) (fun (d:Tys.data as98)=>ok98_t d.1.1 d.1.2.1 d.2.1.1 d.2.1.2.1)
def kf98 (P:Go.Program):Known:=(kf97 P).func 98 p98
theorem kf98_ok:KnownOk Go.Proofs.Try.prog (kf98 Go.Proofs.Try.prog):=kf97_ok.func ok98

/-! ductility/ductilitybase.RatioMake -/

abbrev as62:List Ty:=[(.pair (.int .i64) (.pair (.slice (.int .i64)) .unit)),(.pair (.int .i64) (.pair (.slice (.int .i64)) .unit))]
abbrev rs62:List Ty:=[(.pair (.pair (.int .i64) (.pair (.slice (.int .i64)) .unit)) (.pair (.pair (.int .i64) (.pair (.slice (.int .i64)) .unit)) .unit))]

def t62 (x0:Int) (x0':(List Int)) (x1:Int) (x1':(List Int)):Tr (Tys.data rs62) :=
  Tr.test (Option.isSome (f65 ((x1,(x1',())),())))
    (let r0:=g65 ((x1,(x1',())),());
    Tr.test ((!leF (0:Int) r0.1:Bool))
      (Tr.test (Option.isSome (f96 ((x0,(x0',())),())))
        (Tr.test (Option.isSome (f96 ((x1,(x1',())),())))
          (let r1:=g96 ((x0,(x0',())),());
          let r2:=g96 ((x1,(x1',())),());
          Tr.test (Option.isSome (f97 ((r1.1.1,(r1.1.2.1,())),((r2.1.1,(r2.1.2.1,())),()))))
            (Tr.test (Option.isSome (f61 ((1:Int),())))
              (let r3:=g97 ((r1.1.1,(r1.1.2.1,())),((r2.1.1,(r2.1.2.1,())),()));
              let r4:=g61 ((1:Int),());
              Tr.test (Option.isSome (f98 ((r3.1.1,(r3.1.2.1,())),((r4.1.1,(r4.1.2.1,())),()))))
                (let r5:=g98 ((r3.1.1,(r3.1.2.1,())),((r4.1.1,(r4.1.2.1,())),()));
                Tr.test ((eqF r5.1 0:Bool))
                  (Tr.fin ((((r1.1.1,(r1.1.2.1,())),((r2.1.1,(r2.1.2.1,())),())),())))
                  (Tr.test (Option.isSome (f99 ((r1.1.1,(r1.1.2.1,())),((r3.1.1,(r3.1.2.1,())),()))))
                    (Tr.test (Option.isSome (f99 ((r2.1.1,(r2.1.2.1,())),((r3.1.1,(r3.1.2.1,())),()))))
                      (let r6:=g99 ((r1.1.1,(r1.1.2.1,())),((r3.1.1,(r3.1.2.1,())),()));
                      let r7:=g99 ((r2.1.1,(r2.1.2.1,())),((r3.1.1,(r3.1.2.1,())),()));
                      Tr.fin ((((r6.1.1,(r6.1.2.1,())),((r7.1.1,(r7.1.2.1,())),())),())))
                      (Tr.stop))
                    (Tr.stop)))
                (Tr.stop))
              (Tr.stop))
            (Tr.stop))
          (Tr.stop))
        (Tr.stop))
      (Tr.test (Option.isSome (f97 ((x0,(x0',())),((x1,(x1',())),()))))
        (Tr.test (Option.isSome (f61 ((1:Int),())))
          (let r4:=g61 ((1:Int),());
          let r8:=g97 ((x0,(x0',())),((x1,(x1',())),()));
          Tr.test (Option.isSome (f98 ((r8.1.1,(r8.1.2.1,())),((r4.1.1,(r4.1.2.1,())),()))))
            (let r9:=g98 ((r8.1.1,(r8.1.2.1,())),((r4.1.1,(r4.1.2.1,())),()));
            Tr.test ((eqF r9.1 0:Bool))
              (Tr.fin ((((x0,(x0',())),((x1,(x1',())),())),())))
              (Tr.test (Option.isSome (f99 ((x0,(x0',())),((r8.1.1,(r8.1.2.1,())),()))))
                (Tr.test (Option.isSome (f99 ((x1,(x1',())),((r8.1.1,(r8.1.2.1,())),()))))
                  (let r10:=g99 ((x0,(x0',())),((r8.1.1,(r8.1.2.1,())),()));
                  let r11:=g99 ((x1,(x1',())),((r8.1.1,(r8.1.2.1,())),()));
                  Tr.fin ((((r10.1.1,(r10.1.2.1,())),((r11.1.1,(r11.1.2.1,())),())),())))
                  (Tr.stop))
                (Tr.stop)))
            (Tr.stop))
          (Tr.stop))
        (Tr.stop)))
    (Tr.stop)

def f62 (d:Tys.data as62):Option (Tys.data rs62):=(t62 d.1.1 d.1.2.1 d.2.1.1 d.2.1.2.1).val
def g62 (d:Tys.data as62):Tys.data rs62:=(f62 d).getD (Tys.dflt rs62)
def p62:PureC:=pcOf as62 rs62 f62 g62

theorem wk62 (x0:Int) (x0':(List Int)) (x1:Int) (x1':(List Int)):Walks (runPure (kf98 Go.Proofs.Try.prog).orc Go.Proofs.Try.prog 400 62 as62 rs62 ((x0,x0',()),(x1,x1',()),())) (t62 x0 x0' x1 x1') [([true,true,true,true,true,true,true,true],[2,4,6,8,10,12,14,16]),([true,true,true,true,true,true,true,false,true,true],[2,4,6,8,10,12,14,16,18,20]),([true,false,true,true,true,true],[2,4,6,8,10,12]),([true,false,true,true,true,false,true,true],[2,4,6,8,10,12,14,16])] :=
  ⟨by kernel_rfl,by kernel_rfl,by kernel_rfl,by kernel_rfl,trivial⟩

theorem ok62_t (x0:Int) (x0':(List Int)) (x1:Int) (x1':(List Int)):TrOk (PureRuns Go.Proofs.Try.prog (kf98 Go.Proofs.Try.prog).orc 62 as62 rs62 ((x0,x0',()),(x1,x1',()),())) (t62 x0 x0' x1 x1') :=
  Walks.ok (fun _ _ _=>PureRuns.of) (wk62 x0 x0' x1 x1') (by kernel_rfl)

theorem ok62:PureOk Go.Proofs.Try.prog 62 p62:=pureOk_of kf98_ok.base (T:=fun (d:Tys.data as62)=>t62 d.1.1 d.1.2.1 d.2.1.1 d.2.1.2.1) (by kernel_rfl) (fun (d:Tys.data as62)=>ok62_t d.1.1 d.1.2.1 d.2.1.1 d.2.1.2.1)
def kf62 (P:Go.Program):Known:=(kf98 P).func 62 p62
theorem kf62_ok:KnownOk Go.Proofs.Try.prog (kf62 Go.Proofs.Try.prog):=kf98_ok.func ok62

/-! ductility/ductilitybase.RatioOf -/

abbrev as57:List Ty:=[(.int .i64),(.int .i64)]
abbrev rs57:List Ty:=[(.pair (.pair (.int .i64) (.pair (.slice (.int .i64)) .unit)) (.pair (.pair (.int .i64) (.pair (.slice (.int .i64)) .unit)) .unit))]

def t57 (x0:Int) (x1:Int):Tr (Tys.data rs57) :=
  Tr.test (Option.isSome (f61 (x0,())))
    (Tr.test (Option.isSome (f61 (x1,())))
      (let r0:=g61 (x0,());
      let r1:=g61 (x1,());
      Tr.test (Option.isSome (f62 ((r0.1.1,(r0.1.2.1,())),((r1.1.1,(r1.1.2.1,())),()))))
        (let r2:=g62 ((r0.1.1,(r0.1.2.1,())),((r1.1.1,(r1.1.2.1,())),()));
        Tr.fin ((((r2.1.1.1,(r2.1.1.2.1,())),((r2.1.2.1.1,(r2.1.2.1.2.1,())),())),())))
        (Tr.stop))
      (Tr.stop))
    (Tr.stop)

def f57 (d:Tys.data as57):Option (Tys.data rs57):=(t57 d.1 d.2.1).val
def g57 (d:Tys.data as57):Tys.data rs57:=(f57 d).getD (Tys.dflt rs57)
def p57:PureC:=pcOf as57 rs57 f57 g57

theorem wk57 (x0:Int) (x1:Int):Walks (runPure (kf62 Go.Proofs.Try.prog).orc Go.Proofs.Try.prog 400 57 as57 rs57 (x0,x1,())) (t57 x0 x1) [([true,true,true],[2,4,6])] :=
  ⟨by kernel_rfl,trivial⟩

theorem ok57_t (x0:Int) (x1:Int):TrOk (PureRuns Go.Proofs.Try.prog (kf62 Go.Proofs.Try.prog).orc 57 as57 rs57 (x0,x1,())) (t57 x0 x1) :=
  Walks.ok (fun _ _ _=>PureRuns.of) (wk57 x0 x1) (by kernel_rfl)

theorem ok57:PureOk Go.Proofs.Try.prog 57 p57:=pureOk_of kf62_ok.base (T:=fun (d:Tys.data as57)=>t57 d.1 d.2.1) (by kernel_rfl) (fun (d:Tys.data as57)=>ok57_t d.1 d.2.1)
def kf57 (P:Go.Program):Known:=(kf62 P).func 57 p57
theorem kf57_ok:KnownOk Go.Proofs.Try.prog (kf57 Go.Proofs.Try.prog):=kf62_ok.func ok57

/-! ductility/ductilitybase.RatioFrom -/

abbrev as17:List Ty:=[(.pair (.int .i64) (.pair (.int .i64) .unit))]
abbrev rs17:List Ty:=[(.pair (.pair (.int .i64) (.pair (.slice (.int .i64)) .unit)) (.pair (.pair (.int .i64) (.pair (.slice (.int .i64)) .unit)) .unit))]

def t17 (x0:Int) (x0':Int):Tr (Tys.data rs17) :=
  Tr.test (Option.isSome (f57 (x0,(x0',()))))
    (let r0:=g57 (x0,(x0',()));
    Tr.fin ((((r0.1.1.1,(r0.1.1.2.1,())),((r0.1.2.1.1,(r0.1.2.1.2.1,())),())),())))
    (Tr.stop)

def f17 (d:Tys.data as17):Option (Tys.data rs17):=(t17 d.1.1 d.1.2.1).val
def g17 (d:Tys.data as17):Tys.data rs17:=(f17 d).getD (Tys.dflt rs17)
def p17:PureC:=pcOf as17 rs17 f17 g17

theorem wk17 (x0:Int) (x0':Int):Walks (runPure (kf57 Go.Proofs.Try.prog).orc Go.Proofs.Try.prog 400 17 as17 rs17 ((x0,x0',()),())) (t17 x0 x0') [([tt],[2])] :=
  ⟨by kernel_rfl,trivial⟩

theorem ok17_t (x0:Int) (x0':Int):TrOk (PureRuns Go.Proofs.Try.prog (kf57 Go.Proofs.Try.prog).orc 17 as17 rs17 ((x0,x0',()),())) (t17 x0 x0') :=
  Walks.ok (fun _ _ _=>PureRuns.of) (wk17 x0 x0') (by kernel_rfl)

theorem ok17:PureOk Go.Proofs.Try.prog 17 p17:=pureOk_of kf57_ok.base (T:=fun (d:Tys.data as17)=>t17 d.1.1 d.1.2.1) (by kernel_rfl) (fun (d:Tys.data as17)=>ok17_t d.1.1 d.1.2.1)
def kf17 (P:Go.Program):Known:=(kf57 P).func 17 p17
theorem kf17_ok:KnownOk Go.Proofs.Try.prog (kf17 Go.Proofs.Try.prog):=kf57_ok.func ok17

/-! ductility/ductilitybase.RatioInt -/

abbrev as25:List Ty:=[(.int .i64)]
abbrev rs25:List Ty:=[(.pair (.pair (.int .i64) (.pair (.slice (.int .i64)) .unit)) (.pair (.pair (.int .i64) (.pair (.slice (.int .i64)) .unit)) .unit))]

def t25 (x0:Int):Tr (Tys.data rs25) :=
  Tr.test (Option.isSome (f61 (x0,())))
    (Tr.test (Option.isSome (f61 ((1:Int),())))
      (let r0:=g61 (x0,());
      let r1:=g61 ((1:Int),());
      Tr.fin ((((r0.1.1,(r0.1.2.1,())),((r1.1.1,(r1.1.2.1,())),())),())))
      (Tr.stop))
    (Tr.stop)

def f25 (d:Tys.data as25):Option (Tys.data rs25):=(t25 d.1).val
def g25 (d:Tys.data as25):Tys.data rs25:=(f25 d).getD (Tys.dflt rs25)
def p25:PureC:=pcOf as25 rs25 f25 g25

theorem wk25 (x0:Int):Walks (runPure (kf17 Go.Proofs.Try.prog).orc Go.Proofs.Try.prog 400 25 as25 rs25 (x0,())) (t25 x0) [([true,true],[2,4])] :=
  ⟨by kernel_rfl,trivial⟩

theorem ok25_t (x0:Int):TrOk (PureRuns Go.Proofs.Try.prog (kf17 Go.Proofs.Try.prog).orc 25 as25 rs25 (x0,())) (t25 x0) :=
  Walks.ok (fun _ _ _=>PureRuns.of) (wk25 x0) (by kernel_rfl)

theorem ok25:PureOk Go.Proofs.Try.prog 25 p25:=pureOk_of kf17_ok.base (T:=fun (d:Tys.data as25)=>t25 d.1) (by kernel_rfl) (fun (d:Tys.data as25)=>ok25_t d.1)
def kf25 (P:Go.Program):Known:=(kf17 P).func 25 p25
theorem kf25_ok:KnownOk Go.Proofs.Try.prog (kf25 Go.Proofs.Try.prog):=kf17_ok.func ok25

/-! ductility/ductilityref06.Own -/

abbrev as89:List Ty:=[(.pair (.slice (.int .i64)) (.pair (.slice (.int .i64)) .unit)),(.int .i64)]
abbrev rs89:List Ty:=[(.int .i64)]

def t89 (x0:(List Int)) (x0':(List Int)) (x1:Int):Tr (Tys.data rs89) :=
  Tr.test ((!leF (↑(List.length x0'):Int) (wrap64 (x1 + (1:Int))):Bool))
    (Tr.test (decide ((0:Int) ≤ x1) && decide (x1 < (↑(List.length x0'):Int)))
      (Tr.test ((decide ((0:Int) ≤ wrap64 (x1 + (1:Int))) && decide (wrap64 (x1 + (1:Int)) < (↑(List.length x0'):Int)):Bool))
        (Tr.fin (((wrap64 (List.getD x0' (Int.toNat x1) (0:Int) + List.getD x0' (Int.toNat (wrap64 (x1 + (1:Int)))) (0:Int)):Int),())))
        (Tr.stop))
      (Tr.stop))
    (Tr.test (decide ((0:Int) ≤ x1) && decide (x1 < (↑(List.length x0'):Int)))
      (Tr.fin (((List.getD x0' (Int.toNat x1) (0:Int):Int),())))
      (Tr.stop))

def f89 (d:Tys.data as89):Option (Tys.data rs89):=(t89 d.1.1 d.1.2.1 d.2.1).val
def g89 (d:Tys.data as89):Tys.data rs89:=(f89 d).getD (Tys.dflt rs89)
def p89:PureC:=pcOf as89 rs89 f89 g89

theorem wk89 (x0:(List Int)) (x0':(List Int)) (x1:Int):Walks (runPure (kf25 Go.Proofs.Try.prog).orc Go.Proofs.Try.prog 400 89 as89 rs89 ((x0,x0',()),x1,())) (t89 x0 x0' x1) [([true,true,true],[2,4,6]),([false,true],[2,4])] :=
  ⟨by kernel_rfl,by kernel_rfl,trivial⟩

theorem ok89_t (x0:(List Int)) (x0':(List Int)) (x1:Int):TrOk (PureRuns Go.Proofs.Try.prog (kf25 Go.Proofs.Try.prog).orc 89 as89 rs89 ((x0,x0',()),x1,())) (t89 x0 x0' x1) :=
  Walks.ok (fun _ _ _=>PureRuns.of) (wk89 x0 x0' x1) (by kernel_rfl)

theorem ok89:PureOk Go.Proofs.Try.prog 89 p89:=pureOk_of kf25_ok.base (T:=fun (d:Tys.data as89)=>t89 d.1.1 d.1.2.1 d.2.1) (by kernel_rfl) (fun (d:Tys.data as89)=>ok89_t d.1.1 d.1.2.1 d.2.1)
def kf89 (P:Go.Program):Known:=(kf25 P).func 89 p89
theorem kf89_ok:KnownOk Go.Proofs.Try.prog (kf89 Go.Proofs.Try.prog):=kf25_ok.func ok89

/-! ductility/ductilitybase.RatioMul -/

abbrev as27:List Ty:=[(.pair (.pair (.int .i64) (.pair (.slice (.int .i64)) .unit)) (.pair (.pair (.int .i64) (.pair (.slice (.int .i64)) .unit)) .unit)),(.pair (.pair (.int .i64) (.pair (.slice (.int .i64)) .unit)) (.pair (.pair (.int .i64) (.pair (.slice (.int .i64)) .unit)) .unit))]
abbrev rs27:List Ty:=[(.pair (.pair (.int .i64) (.pair (.slice (.int .i64)) .unit)) (.pair (.pair (.int .i64) (.pair (.slice (.int .i64)) .unit)) .unit))]

def t27 (x0_:Int) (x0_':(List Int)) (x0'_:Int) (x0'_':(List Int)) (x1_:Int) (x1_':(List Int)) (x1'_:Int) (x1'_':(List Int)):Tr (Tys.data rs27) :=
  Tr.test (Option.isSome (f64 ((x0_,(x0_',())),((x1_,(x1_',())),()))))
    (Tr.test (Option.isSome (f64 ((x0'_,(x0'_',())),((x1'_,(x1'_',())),()))))
      (let r0:=g64 ((x0_,(x0_',())),((x1_,(x1_',())),()));
      let r1:=g64 ((x0'_,(x0'_',())),((x1'_,(x1'_',())),()));
      Tr.test (Option.isSome (f62 ((r0.1.1,(r0.1.2.1,())),((r1.1.1,(r1.1.2.1,())),()))))
        (let r2:=g62 ((r0.1.1,(r0.1.2.1,())),((r1.1.1,(r1.1.2.1,())),()));
        Tr.fin ((((r2.1.1.1,(r2.1.1.2.1,())),((r2.1.2.1.1,(r2.1.2.1.2.1,())),())),())))
        (Tr.stop))
      (Tr.stop))
    (Tr.stop)

def f27 (d:Tys.data as27):Option (Tys.data rs27):=(t27 d.1.1.1 d.1.1.2.1 d.1.2.1.1 d.1.2.1.2.1 d.2.1.1.1 d.2.1.1.2.1 d.2.1.2.1.1 d.2.1.2.1.2.1).val
def g27 (d:Tys.data as27):Tys.data rs27:=(f27 d).getD (Tys.dflt rs27)
def p27:PureC:=pcOf as27 rs27 f27 g27

theorem wk27 (x0_:Int) (x0_':(List Int)) (x0'_:Int) (x0'_':(List Int)) (x1_:Int) (x1_':(List Int)) (x1'_:Int) (x1'_':(List Int)):Walks (runPure (kf89 Go.Proofs.Try.prog).orc Go.Proofs.Try.prog 400 27 as27 rs27 (((x0_,x0_',()),(x0'_,x0'_',()),()),((x1_,x1_',()),(x1'_,x1'_',()),()),())) (t27 x0_ x0_' x0'_ x0'_' x1_ x1_' x1'_ x1'_') [([true,true,true],[2,4,6])] :=
  ⟨by kernel_rfl,trivial⟩

theorem ok27_t (x0_:Int) (x0_':(List Int)) (x0'_:Int) (x0'_':(List Int)) (x1_:Int) (x1_':(List Int)) (x1'_:Int) (x1'_':(List Int)):TrOk (PureRuns Go.Proofs.Try.prog (kf89 Go.Proofs.Try.prog).orc 27 as27 rs27 (((x0_,x0_',()),(x0'_,x0'_',()),()),((x1_,x1_',()),(x1'_,x1'_',()),()),())) (t27 x0_ x0_' x0'_ x0'_' x1_ x1_' x1'_ x1'_') :=
  Walks.ok (fun _ _ _=>PureRuns.of) (wk27 x0_ x0_' x0'_ x0'_' x1_ x1_' x1'_ x1'_') (by kernel_rfl)

theorem ok27:PureOk Go.Proofs.Try.prog 27 p27:=pureOk_of kf89_ok.base (T:=fun (d:Tys.data as27)=>t27 d.1.1.1 d.1.1.2.1 d.1.2.1.1 d.1.2.1.2.1 d.2.1.1.1 d.2.1.1.2.1 d.2.1.2.1.1 d.2.1.2.1.2.1) (by kernel_rfl) (fun (d:Tys.data as27)=>ok27_t d.1.1.1 d.1.1.2.1 d.1.2.1.1 d.1.2.1.2.1 d.2.1.1.1 d.2.1.1.2.1 d.2.1.2.1.1 d.2.1.2.1.2.1)
def kf27 (P:Go.Program):Known:=(kf89 P).func 27 p27
theorem kf27_ok:KnownOk Go.Proofs.Try.prog (kf27 Go.Proofs.Try.prog):=kf89_ok.func ok27

/-! ductility/ductilitybase.RatioNeg -/

abbrev as112:List Ty:=[(.pair (.pair (.int .i64) (.pair (.slice (.int .i64)) .unit)) (.pair (.pair (.int .i64) (.pair (.slice (.int .i64)) .unit)) .unit))]
abbrev rs112:List Ty:=[(.pair (.pair (.int .i64) (.pair (.slice (.int .i64)) .unit)) (.pair (.pair (.int .i64) (.pair (.slice (.int .i64)) .unit)) .unit))]

def t112 (x0_:Int) (x0_':(List Int)) (x0'_:Int) (x0'_':(List Int)):Tr (Tys.data rs112) :=
  Tr.test (Option.isSome (f96 ((x0_,(x0_',())),())))
    (let r0:=g96 ((x0_,(x0_',())),());
    Tr.fin ((((r0.1.1,(r0.1.2.1,())),((x0'_,(x0'_',())),())),())))
    (Tr.stop)

def f112 (d:Tys.data as112):Option (Tys.data rs112):=(t112 d.1.1.1 d.1.1.2.1 d.1.2.1.1 d.1.2.1.2.1).val
def g112 (d:Tys.data as112):Tys.data rs112:=(f112 d).getD (Tys.dflt rs112)
def p112:PureC:=pcOf as112 rs112 f112 g112

theorem wk112 (x0_:Int) (x0_':(List Int)) (x0'_:Int) (x0'_':(List Int)):Walks (runPure (kf27 Go.Proofs.Try.prog).orc Go.Proofs.Try.prog 400 112 as112 rs112 (((x0_,x0_',()),(x0'_,x0'_',()),()),())) (t112 x0_ x0_' x0'_ x0'_') [([tt],[2])] :=
  ⟨by kernel_rfl,trivial⟩

theorem ok112_t (x0_:Int) (x0_':(List Int)) (x0'_:Int) (x0'_':(List Int)):TrOk (PureRuns Go.Proofs.Try.prog (kf27 Go.Proofs.Try.prog).orc 112 as112 rs112 (((x0_,x0_',()),(x0'_,x0'_',()),()),())) (t112 x0_ x0_' x0'_ x0'_') :=
  Walks.ok (fun _ _ _=>PureRuns.of) (wk112 x0_ x0_' x0'_ x0'_') (by kernel_rfl)

theorem ok112:PureOk Go.Proofs.Try.prog 112 p112:=pureOk_of kf27_ok.base (T:=fun (d:Tys.data as112)=>t112 d.1.1.1 d.1.1.2.1 d.1.2.1.1 d.1.2.1.2.1) (by kernel_rfl) (fun (d:Tys.data as112)=>ok112_t d.1.1.1 d.1.1.2.1 d.1.2.1.1 d.1.2.1.2.1)
def kf112 (P:Go.Program):Known:=(kf27 P).func 112 p112
theorem kf112_ok:KnownOk Go.Proofs.Try.prog (kf112 Go.Proofs.Try.prog):=kf27_ok.func ok112

/-! ductility/ductilitybase.RatioAdd -/

abbrev as26:List Ty:=[(.pair (.pair (.int .i64) (.pair (.slice (.int .i64)) .unit)) (.pair (.pair (.int .i64) (.pair (.slice (.int .i64)) .unit)) .unit)),(.pair (.pair (.int .i64) (.pair (.slice (.int .i64)) .unit)) (.pair (.pair (.int .i64) (.pair (.slice (.int .i64)) .unit)) .unit))]
abbrev rs26:List Ty:=[(.pair (.pair (.int .i64) (.pair (.slice (.int .i64)) .unit)) (.pair (.pair (.int .i64) (.pair (.slice (.int .i64)) .unit)) .unit))]

def t26 (x0_:Int) (x0_':(List Int)) (x0'_:Int) (x0'_':(List Int)) (x1_:Int) (x1_':(List Int)) (x1'_:Int) (x1'_':(List Int)):Tr (Tys.data rs26) :=
  Tr.test (Option.isSome (f64 ((x0_,(x0_',())),((x1'_,(x1'_',())),()))))
    (Tr.test (Option.isSome (f64 ((x1_,(x1_',())),((x0'_,(x0'_',())),()))))
      (let r0:=g64 ((x0_,(x0_',())),((x1'_,(x1'_',())),()));
      let r1:=g64 ((x1_,(x1_',())),((x0'_,(x0'_',())),()));
      Tr.test (Option.isSome (f63 ((r0.1.1,(r0.1.2.1,())),((r1.1.1,(r1.1.2.1,())),()))))
        (Tr.test (Option.isSome (f64 ((x0'_,(x0'_',())),((x1'_,(x1'_',())),()))))
          (let r2:=g63 ((r0.1.1,(r0.1.2.1,())),((r1.1.1,(r1.1.2.1,())),()));
          let r3:=g64 ((x0'_,(x0'_',())),((x1'_,(x1'_',())),()));
          Tr.test (Option.isSome (f62 ((r2.1.1,(r2.1.2.1,())),((r3.1.1,(r3.1.2.1,())),()))))
            (let r4:=g62 ((r2.1.1,(r2.1.2.1,())),((r3.1.1,(r3.1.2.1,())),()));
            Tr.fin ((((r4.1.1.1,(r4.1.1.2.1,())),((r4.1.2.1.1,(r4.1.2.1.2.1,())),())),())))
            (Tr.stop))
          (Tr.stop))
        (Tr.stop))
      (Tr.stop))
    (Tr.stop)

def f26 (d:Tys.data as26):Option (Tys.data rs26):=(t26 d.1.1.1 d.1.1.2.1 d.1.2.1.1 d.1.2.1.2.1 d.2.1.1.1 d.2.1.1.2.1 d.2.1.2.1.1 d.2.1.2.1.2.1).val
def g26 (d:Tys.data as26):Tys.data rs26:=(f26 d).getD (Tys.dflt rs26)
def p26:PureC:=pcOf as26 rs26 f26 g26

theorem wk26 (x0_:Int) (x0_':(List Int)) (x0'_:Int) (x0'_':(List Int)) (x1_:Int) (x1_':(List Int)) (x1'_:Int) (x1'_':(List Int)):Walks (runPure (kf112 Go.Proofs.Try.prog).orc Go.Proofs.Try.prog 400 26 as26 rs26 (((x0_,x0_',()),(x0'_,x0'_',()),()),((x1_,x1_',()),(x1'_,x1'_',()),()),())) (t26 x0_ x0_' x0'_ x0'_' x1_ x1_' x1'_ x1'_') [([true,true,true,true,true],[2,4,6,8,10])] :=
  ⟨by kernel_rfl,trivial⟩

theorem ok26_t (x0_:Int) (x0_':(List Int)) (x0'_:Int) (x0'_':(List Int)) (x1_:Int) (x1_':(List Int)) (x1'_:Int) (x1'_':(List Int)):TrOk (PureRuns Go.Proofs.Try.prog (kf112 Go.Proofs.Try.prog).orc 26 as26 rs26 (((x0_,x0_',()),(x0'_,x0'_',()),()),((x1_,x1_',()),(x1'_,x1'_',()),()),())) (t26 x0_ x0_' x0'_ x0'_' x1_ x1_' x1'_ x1'_') :=
  Walks.ok (fun _ _ _=>PureRuns.of) (wk26 x0_ x0_' x0'_ x0'_' x1_ x1_' x1'_ x1'_') (by kernel_rfl)

theorem ok26:PureOk Go.Proofs.Try.prog 26 p26:=pureOk_of kf112_ok.base (T:=fun (d:Tys.data as26)=>t26 d.1.1.1 d.1.1.2.1 d.1.2.1.1 d.1.2.1.2.1 d.2.1.1.1 d.2.1.1.2.1 d.2.1.2.1.1 d.2.1.2.1.2.1) (by kernel_rfl) (fun (d:Tys.data as26)=>ok26_t d.1.1.1 d.1.1.2.1 d.1.2.1.1 d.1.2.1.2.1 d.2.1.1.1 d.2.1.1.2.1 d.2.1.2.1.1 d.2.1.2.1.2.1)
def kf26 (P:Go.Program):Known:=(kf112 P).func 26 p26
theorem kf26_ok:KnownOk Go.Proofs.Try.prog (kf26 Go.Proofs.Try.prog):=kf112_ok.func ok26

/-! ductility/ductilitybase.RatioSub -/

abbrev as88:List Ty:=[(.pair (.pair (.int .i64) (.pair (.slice (.int .i64)) .unit)) (.pair (.pair (.int .i64) (.pair (.slice (.int .i64)) .unit)) .unit)),(.pair (.pair (.int .i64) (.pair (.slice (.int .i64)) .unit)) (.pair (.pair (.int .i64) (.pair (.slice (.int .i64)) .unit)) .unit))]
abbrev rs88:List Ty:=[(.pair (.pair (.int .i64) (.pair (.slice (.int .i64)) .unit)) (.pair (.pair (.int .i64) (.pair (.slice (.int .i64)) .unit)) .unit))]

def t88 (x0_:Int) (x0_':(List Int)) (x0'_:Int) (x0'_':(List Int)) (x1_:Int) (x1_':(List Int)) (x1'_:Int) (x1'_':(List Int)):Tr (Tys.data rs88) :=
  Tr.test (Option.isSome (f112 (((x1_,(x1_',())),((x1'_,(x1'_',())),())),())))
    (let r0:=g112 (((x1_,(x1_',())),((x1'_,(x1'_',())),())),());
    Tr.test (Option.isSome (f26 (((x0_,(x0_',())),((x0'_,(x0'_',())),())),(((r0.1.1.1,(r0.1.1.2.1,())),((r0.1.2.1.1,(r0.1.2.1.2.1,())),())),()))))
      (let r1:=g26 (((x0_,(x0_',())),((x0'_,(x0'_',())),())),(((r0.1.1.1,(r0.1.1.2.1,())),((r0.1.2.1.1,(r0.1.2.1.2.1,())),())),()));
      Tr.fin ((((r1.1.1.1,(r1.1.1.2.1,())),((r1.1.2.1.1,(r1.1.2.1.2.1,())),())),())))
      (Tr.stop))
    (Tr.stop)

def f88 (d:Tys.data as88):Option (Tys.data rs88):=(t88 d.1.1.1 d.1.1.2.1 d.1.2.1.1 d.1.2.1.2.1 d.2.1.1.1 d.2.1.1.2.1 d.2.1.2.1.1 d.2.1.2.1.2.1).val
def g88 (d:Tys.data as88):Tys.data rs88:=(f88 d).getD (Tys.dflt rs88)
def p88:PureC:=pcOf as88 rs88 f88 g88

theorem wk88 (x0_:Int) (x0_':(List Int)) (x0'_:Int) (x0'_':(List Int)) (x1_:Int) (x1_':(List Int)) (x1'_:Int) (x1'_':(List Int)):Walks (runPure (kf26 Go.Proofs.Try.prog).orc Go.Proofs.Try.prog 400 88 as88 rs88 (((x0_,x0_',()),(x0'_,x0'_',()),()),((x1_,x1_',()),(x1'_,x1'_',()),()),())) (t88 x0_ x0_' x0'_ x0'_' x1_ x1_' x1'_ x1'_') [([true,true],[2,4])] :=
  ⟨by kernel_rfl,trivial⟩

theorem ok88_t (x0_:Int) (x0_':(List Int)) (x0'_:Int) (x0'_':(List Int)) (x1_:Int) (x1_':(List Int)) (x1'_:Int) (x1'_':(List Int)):TrOk (PureRuns Go.Proofs.Try.prog (kf26 Go.Proofs.Try.prog).orc 88 as88 rs88 (((x0_,x0_',()),(x0'_,x0'_',()),()),((x1_,x1_',()),(x1'_,x1'_',()),()),())) (t88 x0_ x0_' x0'_ x0'_' x1_ x1_' x1'_ x1'_') :=
  Walks.ok (fun _ _ _=>PureRuns.of) (wk88 x0_ x0_' x0'_ x0'_' x1_ x1_' x1'_ x1'_') (by kernel_rfl)

theorem ok88:PureOk Go.Proofs.Try.prog 88 p88:=pureOk_of kf26_ok.base (T:=fun (d:Tys.data as88)=>t88 d.1.1.1 d.1.1.2.1 d.1.2.1.1 d.1.2.1.2.1 d.2.1.1.1 d.2.1.1.2.1 d.2.1.2.1.1 d.2.1.2.1.2.1) (by kernel_rfl) (fun (d:Tys.data as88)=>ok88_t d.1.1.1 d.1.1.2.1 d.1.2.1.1 d.1.2.1.2.1 d.2.1.1.1 d.2.1.1.2.1 d.2.1.2.1.1 d.2.1.2.1.2.1)
def kf88 (P:Go.Program):Known:=(kf26 P).func 88 p88
theorem kf88_ok:KnownOk Go.Proofs.Try.prog (kf88 Go.Proofs.Try.prog):=kf26_ok.func ok88

/-! loop 0 of ductility/ductilityref06.Determinants -/

abbrev sh58_0:Sh:={ n:=64,slots:=[2,3,5,6],pats:=[.ptr 0 2 0,.ptr 1 4 0,.acc (.pair (.pair (.int .i64) (.pair (.slice (.int .i64)) .unit)) (.pair (.pair (.int .i64) (.pair (.slice (.int .i64)) .unit)) .unit)),.ty (.int .i64)],boxes:=[.row [.ty (.slice (.int .i64)),.ty (.slice (.int .i64))],.row [.ty (.int .i64),.ty (.slice (.int .i64)),.ty (.int .i64),.ty (.slice (.int .i64))]] }
abbrev shb58_0:Sh:={ n:=64,slots:=[5],pats:=[.acc (.pair (.pair (.int .i64) (.pair (.slice (.int .i64)) .unit)) (.pair (.pair (.int .i64) (.pair (.slice (.int .i64)) .unit)) .unit))],boxes:=[.row [.ty (.slice (.int .i64)),.ty (.slice (.int .i64))],.row [.ty (.int .i64),.ty (.slice (.int .i64)),.ty (.int .i64),.ty (.slice (.int .i64))]] }
abbrev shr58_0:Sh:={ n:=64,slots:=[],pats:=[],boxes:=[.row [.ty (.slice (.int .i64)),.ty (.slice (.int .i64))],.row [.ty (.int .i64),.ty (.slice (.int .i64)),.ty (.int .i64),.ty (.slice (.int .i64))]] }

def t58_0 (x2:(List ((Int×((List Int)×Unit))×((Int×((List Int)×Unit))×Unit)))) (x3:Int) (b0_0:(List Int)) (b0_1:(List Int)) (b1_0:Int) (b1_1:(List Int)) (b1_2:Int) (b1_3:(List Int)):Tr (Out sh58_0.data shb58_0.data shr58_0.data) :=
  Tr.test ((!leF (↑(List.length b0_0):Int) x3:Bool))
    (Tr.test (Option.isSome (f89 ((b0_0,(b0_1,())),(x3,()))))
      (let r0:=g89 ((b0_0,(b0_1,())),(x3,()));
      Tr.test (Option.isSome (f25 (r0.1,())))
        (Tr.test ((decide ((0:Int) ≤ x3) && decide (x3 < (↑(List.length b0_0):Int)):Bool))
          (Tr.test (Option.isSome (f25 ((List.getD b0_0 (Int.toNat x3) (0:Int):Int),())))
            (let r2:=g25 ((List.getD b0_0 (Int.toNat x3) (0:Int):Int),());
            Tr.test (Option.isSome (f27 (((b1_0,(b1_1,())),((b1_2,(b1_3,())),())),(((r2.1.1.1,(r2.1.1.2.1,())),((r2.1.2.1.1,(r2.1.2.1.2.1,())),())),()))))
              (let r1:=g25 (r0.1,());
              let r3:=g27 (((b1_0,(b1_1,())),((b1_2,(b1_3,())),())),(((r2.1.1.1,(r2.1.1.2.1,())),((r2.1.2.1.1,(r2.1.2.1.2.1,())),())),()));
              Tr.test (Option.isSome (f88 (((r1.1.1.1,(r1.1.1.2.1,())),((r1.1.2.1.1,(r1.1.2.1.2.1,())),())),(((r3.1.1.1,(r3.1.1.2.1,())),((r3.1.2.1.1,(r3.1.2.1.2.1,())),())),()))))
                (Tr.test ((decide ((0:Int) ≤ x3) && decide (x3 < (↑(List.length x2):Int)):Bool))
                  (let r4:=g88 (((r1.1.1.1,(r1.1.1.2.1,())),((r1.1.2.1.1,(r1.1.2.1.2.1,())),())),(((r3.1.1.1,(r3.1.1.2.1,())),((r3.1.2.1.1,(r3.1.2.1.2.1,())),())),()));
                  Tr.test (Option.isSome (f27 (((r4.1.1.1,(r4.1.1.2.1,())),((r4.1.2.1.1,(r4.1.2.1.2.1,())),())),(((((List.getD x2 (Int.toNat x3) (((0:Int),[],()),((0:Int),[],()),())).1.1:Int),(((List.getD x2 (Int.toNat x3) (((0:Int),[],()),((0:Int),[],()),())).1.2.1:List Int),())),((((List.getD x2 (Int.toNat x3) (((0:Int),[],()),((0:Int),[],()),())).2.1.1:Int),(((List.getD x2 (Int.toNat x3) (((0:Int),[],()),((0:Int),[],()),())).2.1.2.1:List Int),())),())),()))))
                    (Tr.test ((!leF x3 0:Bool))
                      (Tr.test ((decide ((0:Int) ≤ x3) && decide (x3 < (↑(List.length b0_1):Int)):Bool))
                        (Tr.test (Option.isSome (f25 ((wrap64 (List.getD b0_1 (Int.toNat x3) (0:Int) * List.getD b0_1 (Int.toNat x3) (0:Int)):Int),())))
                          (Tr.test ((decide ((0:Int) ≤ wrap64 (x3 - (1:Int))) && decide (wrap64 (x3 - (1:Int)) < (↑(List.length x2):Int)):Bool))
                            (let r6:=g25 ((wrap64 (List.getD b0_1 (Int.toNat x3) (0:Int) * List.getD b0_1 (Int.toNat x3) (0:Int)):Int),());
                            Tr.test (Option.isSome (f27 (((r6.1.1.1,(r6.1.1.2.1,())),((r6.1.2.1.1,(r6.1.2.1.2.1,())),())),(((((List.getD x2 (Int.toNat (wrap64 (x3 - (1:Int)))) (((0:Int),[],()),((0:Int),[],()),())).1.1:Int),(((List.getD x2 (Int.toNat (wrap64 (x3 - (1:Int)))) (((0:Int),[],()),((0:Int),[],()),())).1.2.1:List Int),())),((((List.getD x2 (Int.toNat (wrap64 (x3 - (1:Int)))) (((0:Int),[],()),((0:Int),[],()),())).2.1.1:Int),(((List.getD x2 (Int.toNat (wrap64 (x3 - (1:Int)))) (((0:Int),[],()),((0:Int),[],()),())).2.1.2.1:List Int),())),())),()))))
                              (let r5:=g27 (((r4.1.1.1,(r4.1.1.2.1,())),((r4.1.2.1.1,(r4.1.2.1.2.1,())),())),(((((List.getD x2 (Int.toNat x3) (((0:Int),[],()),((0:Int),[],()),())).1.1:Int),(((List.getD x2 (Int.toNat x3) (((0:Int),[],()),((0:Int),[],()),())).1.2.1:List Int),())),((((List.getD x2 (Int.toNat x3) (((0:Int),[],()),((0:Int),[],()),())).2.1.1:Int),(((List.getD x2 (Int.toNat x3) (((0:Int),[],()),((0:Int),[],()),())).2.1.2.1:List Int),())),())),()));
                              let r7:=g27 (((r6.1.1.1,(r6.1.1.2.1,())),((r6.1.2.1.1,(r6.1.2.1.2.1,())),())),(((((List.getD x2 (Int.toNat (wrap64 (x3 - (1:Int)))) (((0:Int),[],()),((0:Int),[],()),())).1.1:Int),(((List.getD x2 (Int.toNat (wrap64 (x3 - (1:Int)))) (((0:Int),[],()),((0:Int),[],()),())).1.2.1:List Int),())),((((List.getD x2 (Int.toNat (wrap64 (x3 - (1:Int)))) (((0:Int),[],()),((0:Int),[],()),())).2.1.1:Int),(((List.getD x2 (Int.toNat (wrap64 (x3 - (1:Int)))) (((0:Int),[],()),((0:Int),[],()),())).2.1.2.1:List Int),())),())),()));
                              Tr.test (Option.isSome (f88 (((r5.1.1.1,(r5.1.1.2.1,())),((r5.1.2.1.1,(r5.1.2.1.2.1,())),())),(((r7.1.1.1,(r7.1.1.2.1,())),((r7.1.2.1.1,(r7.1.2.1.2.1,())),())),()))))
                                (Tr.test ((Nat.ble (((2:Nat) * (List.length x2 + (1:Nat)) + (192:Nat)) * (64:Nat)) (281474976710656:Nat) && Nat.ble (List.length x2 + (1:Nat)) (281474976710656:Nat):Bool))
                                  (let r8:=g88 (((r5.1.1.1,(r5.1.1.2.1,())),((r5.1.2.1.1,(r5.1.2.1.2.1,())),())),(((r7.1.1.1,(r7.1.1.2.1,())),((r7.1.2.1.1,(r7.1.2.1.2.1,())),())),()));
                                  Tr.fin (.again (((x2++[((r8.1.1.1,r8.1.1.2.1,()),(r8.1.2.1.1,r8.1.2.1.2.1,()),())]:List ((Int×List Int×PUnit)×(Int×List Int×PUnit)×PUnit)),((wrap64 (x3 + (1:Int)):Int),())),((b0_0,(b0_1,())),((b1_0,(b1_1,(b1_2,(b1_3,())))),())))))
                                  (Tr.stop))
                                (Tr.stop))
                              (Tr.stop))
                            (Tr.stop))
                          (Tr.stop))
                        (Tr.stop))
                      (Tr.test ((Nat.ble (((2:Nat) * (List.length x2 + (1:Nat)) + (192:Nat)) * (64:Nat)) (281474976710656:Nat) && Nat.ble (List.length x2 + (1:Nat)) (281474976710656:Nat):Bool))
                        (let r5:=g27 (((r4.1.1.1,(r4.1.1.2.1,())),((r4.1.2.1.1,(r4.1.2.1.2.1,())),())),(((((List.getD x2 (Int.toNat x3) (((0:Int),[],()),((0:Int),[],()),())).1.1:Int),(((List.getD x2 (Int.toNat x3) (((0:Int),[],()),((0:Int),[],()),())).1.2.1:List Int),())),((((List.getD x2 (Int.toNat x3) (((0:Int),[],()),((0:Int),[],()),())).2.1.1:Int),(((List.getD x2 (Int.toNat x3) (((0:Int),[],()),((0:Int),[],()),())).2.1.2.1:List Int),())),())),()));
                        Tr.fin (.again (((x2++[((r5.1.1.1,r5.1.1.2.1,()),(r5.1.2.1.1,r5.1.2.1.2.1,()),())]:List ((Int×List Int×PUnit)×(Int×List Int×PUnit)×PUnit)),((wrap64 (x3 + (1:Int)):Int),())),((b0_0,(b0_1,())),((b1_0,(b1_1,(b1_2,(b1_3,())))),())))))
                        (Tr.stop)))
                    (Tr.stop))
                  (Tr.stop))
                (Tr.stop))
              (Tr.stop))
            (Tr.stop))
          (Tr.stop))
        (Tr.stop))
      (Tr.stop))
    (Tr.fin (.brk ((x2,()),((b0_0,(b0_1,())),((b1_0,(b1_1,(b1_2,(b1_3,())))),())))))

def s58_0 (d:sh58_0.data):Option (Out sh58_0.data shb58_0.data shr58_0.data):=(t58_0 d.1.1 d.1.2.1 d.2.1.1 d.2.1.2.1 d.2.2.1.1 d.2.2.1.2.1 d.2.2.1.2.2.1 d.2.2.1.2.2.2.1).val
def l58_0 (d:sh58_0.data):Option (shb58_0.data ⊕ shr58_0.data):=itr s58_0 rounds d
def b58_0 (d:sh58_0.data):shb58_0.data:=outB shb58_0.dflt (l58_0 d)
def lc58_0:LoopC:=lcB sh58_0 shb58_0 shr58_0 l58_0 b58_0

theorem wk58_0 (x2:(List ((Int×((List Int)×Unit))×((Int×((List Int)×Unit))×Unit)))) (x3:Int) (b0_0:(List Int)) (b0_1:(List Int)) (b1_0:Int) (b1_1:(List Int)) (b1_2:Int) (b1_3:(List Int)):Walks (runBody (kf88 Go.Proofs.Try.prog).orc Go.Proofs.Try.prog 400 58 0 sh58_0 shb58_0 shr58_0 ((x2,x3,()),(b0_0,b0_1,()),(b1_0,b1_1,b1_2,b1_3,()),())) (t58_0 x2 x3 b0_0 b0_1 b1_0 b1_1 b1_2 b1_3) [([true,true,true,true,true,true,true,true,true,true,true,true,true,true,true,true],[1,2,0,4,6,8,10,12,12,14,16,18,20,22,24,26,28,30,32]),([true,true,true,true,true,true,true,true,true,false,true],[1,2,0,4,6,8,10,12,14,16,18,20,22]),([ff],[2])] :=
  ⟨by kernel_rfl,by kernel_rfl,by kernel_rfl,trivial⟩

theorem ok58_0_t (x2:(List ((Int×((List Int)×Unit))×((Int×((List Int)×Unit))×Unit)))) (x3:Int) (b0_0:(List Int)) (b0_1:(List Int)) (b1_0:Int) (b1_1:(List Int)) (b1_2:Int) (b1_3:(List Int)):TrOk (BodyRuns Go.Proofs.Try.prog (kf88 Go.Proofs.Try.prog).orc 58 0 sh58_0 shb58_0 shr58_0 ((x2,x3,()),(b0_0,b0_1,()),(b1_0,b1_1,b1_2,b1_3,()),())) (t58_0 x2 x3 b0_0 b0_1 b1_0 b1_1 b1_2 b1_3) :=
  Walks.ok (fun _ _ _=>BodyRuns.of) (wk58_0 x2 x3 b0_0 b0_1 b1_0 b1_1 b1_2 b1_3) (by kernel_rfl)

theorem ok58_0:LoopOk Go.Proofs.Try.prog 58 0 lc58_0:=loopOk_ofB (sh:=sh58_0) (shB:=shb58_0) (shR:=shr58_0) kf88_ok.base (T:=fun (d:sh58_0.data)=>t58_0 d.1.1 d.1.2.1 d.2.1.1 d.2.1.2.1 d.2.2.1.1 d.2.2.1.2.1 d.2.2.1.2.2.1 d.2.2.1.2.2.2.1) (by kernel_rfl) rfl (fun (d:sh58_0.data)=>ok58_0_t d.1.1 d.1.2.1 d.2.1.1 d.2.1.2.1 d.2.2.1.1 d.2.2.1.2.1 d.2.2.1.2.2.1 d.2.2.1.2.2.2.1) (fun _=>rfl)
def kl58_0 (P:Go.Program):Known:=(kf88 P).loop 58 0 lc58_0
theorem kl58_0_ok:KnownOk Go.Proofs.Try.prog (kl58_0 Go.Proofs.Try.prog):=kf88_ok.loop ok58_0

/-! ductility/ductilityref06.Determinants -/

abbrev as58:List Ty:=[(.pair (.slice (.int .i64)) (.pair (.slice (.int .i64)) .unit)),(.pair (.pair (.int .i64) (.pair (.slice (.int .i64)) .unit)) (.pair (.pair (.int .i64) (.pair (.slice (.int .i64)) .unit)) .unit))]
abbrev rs58:List Ty:=[(.slice (.pair (.pair (.int .i64) (.pair (.slice (.int .i64)) .unit)) (.pair (.pair (.int .i64) (.pair (.slice (.int .i64)) .unit)) .unit)))]

def t58 (x0:(List Int)) (x0':(List Int)) (x1_:Int) (x1_':(List Int)) (x1'_:Int) (x1'_':(List Int)):Tr (Tys.data rs58) :=
  Tr.test (Option.isSome (f25 ((1:Int),())))
    (let r0:=g25 ((1:Int),());
    Tr.test (isBrk (l58_0 ((([((r0.1.1.1,r0.1.1.2.1,()),(r0.1.2.1.1,r0.1.2.1.2.1,()),())]:List ((Int×List Int×PUnit)×(Int×List Int×PUnit)×PUnit)),((0:Int),())),((x0,(x0',())),((x1_,(x1_',(x1'_,(x1'_',())))),())))))
      (let r1:=b58_0 ((([((r0.1.1.1,r0.1.1.2.1,()),(r0.1.2.1.1,r0.1.2.1.2.1,()),())]:List ((Int×List Int×PUnit)×(Int×List Int×PUnit)×PUnit)),((0:Int),())),((x0,(x0',())),((x1_,(x1_',(x1'_,(x1'_',())))),())));
      Tr.fin (((r1.1.1:List ((Int×List Int×PUnit)×(Int×List Int×PUnit)×PUnit)),())))
      (Tr.stop))
    (Tr.stop)

def f58 (d:Tys.data as58):Option (Tys.data rs58):=(t58 d.1.1 d.1.2.1 d.2.1.1.1 d.2.1.1.2.1 d.2.1.2.1.1 d.2.1.2.1.2.1).val
def g58 (d:Tys.data as58):Tys.data rs58:=(f58 d).getD (Tys.dflt rs58)
def p58:PureC:=pcOf as58 rs58 f58 g58

theorem wk58 (x0:(List Int)) (x0':(List Int)) (x1_:Int) (x1_':(List Int)) (x1'_:Int) (x1'_':(List Int)):Walks (runPure (kl58_0 Go.Proofs.Try.prog).orc Go.Proofs.Try.prog 400 58 as58 rs58 ((x0,x0',()),((x1_,x1_',()),(x1'_,x1'_',()),()),())) (t58 x0 x0' x1_ x1_' x1'_ x1'_') [([true,true],[1,2,4])] :=
  ⟨by kernel_rfl,trivial⟩

theorem ok58_t (x0:(List Int)) (x0':(List Int)) (x1_:Int) (x1_':(List Int)) (x1'_:Int) (x1'_':(List Int)):TrOk (PureRuns Go.Proofs.Try.prog (kl58_0 Go.Proofs.Try.prog).orc 58 as58 rs58 ((x0,x0',()),((x1_,x1_',()),(x1'_,x1'_',()),()),())) (t58 x0 x0' x1_ x1_' x1'_ x1'_') :=
  Walks.ok (fun _ _ _=>PureRuns.of) (wk58 x0 x0' x1_ x1_' x1'_ x1'_') (by kernel_rfl)

theorem ok58:PureOk Go.Proofs.Try.prog 58 p58:=pureOk_of kl58_0_ok.base (T:=fun (d:Tys.data as58)=>t58 d.1.1 d.1.2.1 d.2.1.1.1 d.2.1.1.2.1 d.2.1.2.1.1 d.2.1.2.1.2.1) (by kernel_rfl) (fun (d:Tys.data as58)=>ok58_t d.1.1 d.1.2.1 d.2.1.1.1 d.2.1.1.2.1 d.2.1.2.1.1 d.2.1.2.1.2.1)
def kf58 (P:Go.Program):Known:=(kl58_0 P).func 58 p58
theorem kf58_ok:KnownOk Go.Proofs.Try.prog (kf58 Go.Proofs.Try.prog):=kl58_0_ok.func ok58

/-! ductility/ductilitybase.RatioSign -/

abbrev as28:List Ty:=[(.pair (.pair (.int .i64) (.pair (.slice (.int .i64)) .unit)) (.pair (.pair (.int .i64) (.pair (.slice (.int .i64)) .unit)) .unit))]
abbrev rs28:List Ty:=[(.int .i64)]

def t28 (x0_:Int) (x0_':(List Int)) (x0'_:Int) (x0'_':(List Int)):Tr (Tys.data rs28) :=
  Tr.test (Option.isSome (f65 ((x0_,(x0_',())),())))
    (let r0:=g65 ((x0_,(x0_',())),());
    Tr.fin ((r0.1,())))
    (Tr.stop)

def f28 (d:Tys.data as28):Option (Tys.data rs28):=(t28 d.1.1.1 d.1.1.2.1 d.1.2.1.1 d.1.2.1.2.1).val
def g28 (d:Tys.data as28):Tys.data rs28:=(f28 d).getD (Tys.dflt rs28)
def p28:PureC:=pcOf as28 rs28 f28 g28

theorem wk28 (x0_:Int) (x0_':(List Int)) (x0'_:Int) (x0'_':(List Int)):Walks (runPure (kf58 Go.Proofs.Try.prog).orc Go.Proofs.Try.prog 400 28 as28 rs28 (((x0_,x0_',()),(x0'_,x0'_',()),()),())) (t28 x0_ x0_' x0'_ x0'_') [([tt],[2])] :=
  ⟨by kernel_rfl,trivial⟩

theorem ok28_t (x0_:Int) (x0_':(List Int)) (x0'_:Int) (x0'_':(List Int)):TrOk (PureRuns Go.Proofs.Try.prog (kf58 Go.Proofs.Try.prog).orc 28 as28 rs28 (((x0_,x0_',()),(x0'_,x0'_',()),()),())) (t28 x0_ x0_' x0'_ x0'_') :=
  Walks.ok (fun _ _ _=>PureRuns.of) (wk28 x0_ x0_' x0'_ x0'_') (by kernel_rfl)

theorem ok28:PureOk Go.Proofs.Try.prog 28 p28:=pureOk_of kf58_ok.base (T:=fun (d:Tys.data as28)=>t28 d.1.1.1 d.1.1.2.1 d.1.2.1.1 d.1.2.1.2.1) (by kernel_rfl) (fun (d:Tys.data as28)=>ok28_t d.1.1.1 d.1.1.2.1 d.1.2.1.1 d.1.2.1.2.1)
def kf28 (P:Go.Program):Known:=(kf58 P).func 28 p28
theorem kf28_ok:KnownOk Go.Proofs.Try.prog (kf28 Go.Proofs.Try.prog):=kf58_ok.func ok28

/-! loop 0 of ductility/ductilityref06.Below -/

abbrev sh18_0:Sh:={ n:=37,slots:=[5,6,7,8],pats:=[.ty (.slice (.pair (.pair (.int .i64) (.pair (.slice (.int .i64)) .unit)) (.pair (.pair (.int .i64) (.pair (.slice (.int .i64)) .unit)) .unit))),.ty (.int .i64),.ty (.int .i64),.ty (.int .i64)],boxes:=[] }
abbrev shb18_0:Sh:={ n:=37,slots:=[6],pats:=[.ty (.int .i64)],boxes:=[] }
abbrev shr18_0:Sh:={ n:=37,slots:=[],pats:=[],boxes:=[] }

def t18_0 (x0:(List ((Int×((List Int)×Unit))×((Int×((List Int)×Unit))×Unit)))) (x1:Int) (x2:Int) (x3:Int):Tr (Out sh18_0.data shb18_0.data shr18_0.data) :=
  Tr.test ((!leF (↑(List.length x0):Int) x3:Bool))
    (Tr.test (decide ((0:Int) ≤ x3) && decide (x3 < (↑(List.length x0):Int)))
      (Tr.test (Option.isSome (f28 (((((List.getD x0 (Int.toNat x3) (((0:Int),[],()),((0:Int),[],()),())).1.1:Int),(((List.getD x0 (Int.toNat x3) (((0:Int),[],()),((0:Int),[],()),())).1.2.1:List Int),())),((((List.getD x0 (Int.toNat x3) (((0:Int),[],()),((0:Int),[],()),())).2.1.1:Int),(((List.getD x0 (Int.toNat x3) (((0:Int),[],()),((0:Int),[],()),())).2.1.2.1:List Int),())),())),())))
        (let r0:=g28 (((((List.getD x0 (Int.toNat x3) (((0:Int),[],()),((0:Int),[],()),())).1.1:Int),(((List.getD x0 (Int.toNat x3) (((0:Int),[],()),((0:Int),[],()),())).1.2.1:List Int),())),((((List.getD x0 (Int.toNat x3) (((0:Int),[],()),((0:Int),[],()),())).2.1.1:Int),(((List.getD x0 (Int.toNat x3) (((0:Int),[],()),((0:Int),[],()),())).2.1.2.1:List Int),())),())),());
        Tr.test ((!eqF r0.1 0:Bool))
          (Tr.test ((!eqF r0.1 x2:Bool))
            (Tr.fin (.again ((x0,((wrap64 (x1 + (1:Int)):Int),(r0.1,((wrap64 (x3 + (1:Int)):Int),())))),())))
            (Tr.fin (.again ((x0,(x1,(r0.1,((wrap64 (x3 + (1:Int)):Int),())))),()))))
          (Tr.fin (.again ((x0,(x1,(x2,((wrap64 (x3 + (1:Int)):Int),())))),()))))
        (Tr.stop))
      (Tr.stop))
    (Tr.fin (.brk ((x1,()),())))

def s18_0 (d:sh18_0.data):Option (Out sh18_0.data shb18_0.data shr18_0.data):=(t18_0 d.1.1 d.1.2.1 d.1.2.2.1 d.1.2.2.2.1).val
def l18_0 (d:sh18_0.data):Option (shb18_0.data ⊕ shr18_0.data):=itr s18_0 rounds d
def b18_0 (d:sh18_0.data):shb18_0.data:=outB shb18_0.dflt (l18_0 d)
def lc18_0:LoopC:=lcB sh18_0 shb18_0 shr18_0 l18_0 b18_0

theorem wk18_0 (x0:(List ((Int×((List Int)×Unit))×((Int×((List Int)×Unit))×Unit)))) (x1:Int) (x2:Int) (x3:Int):Walks (runBody (kf28 Go.Proofs.Try.prog).orc Go.Proofs.Try.prog 400 18 0 sh18_0 shb18_0 shr18_0 ((x0,x1,x2,x3,()),())) (t18_0 x0 x1 x2 x3) [([true,true,true,true,true],[4,2,4,4,4,4,6,8,10]),([true,true,true,true,false],[4,2,4,4,4,4,6,8,10]),([true,true,true,false],[2,0,2,2,2,2,4,6,8]),([ff],[2])] :=
  ⟨by kernel_rfl,by kernel_rfl,by kernel_rfl,by kernel_rfl,trivial⟩

theorem ok18_0_t (x0:(List ((Int×((List Int)×Unit))×((Int×((List Int)×Unit))×Unit)))) (x1:Int) (x2:Int) (x3:Int):TrOk (BodyRuns Go.Proofs.Try.prog (kf28 Go.Proofs.Try.prog).orc 18 0 sh18_0 shb18_0 shr18_0 ((x0,x1,x2,x3,()),())) (t18_0 x0 x1 x2 x3) :=
  Walks.ok (fun _ _ _=>BodyRuns.of) (wk18_0 x0 x1 x2 x3) (by kernel_rfl)

theorem ok18_0:LoopOk Go.Proofs.Try.prog 18 0 lc18_0:=loopOk_ofB (sh:=sh18_0) (shB:=shb18_0) (shR:=shr18_0) kf28_ok.base (T:=fun (d:sh18_0.data)=>t18_0 d.1.1 d.1.2.1 d.1.2.2.1 d.1.2.2.2.1) (by kernel_rfl) rfl (fun (d:sh18_0.data)=>ok18_0_t d.1.1 d.1.2.1 d.1.2.2.1 d.1.2.2.2.1) (fun _=>rfl)
def kl18_0 (P:Go.Program):Known:=(kf28 P).loop 18 0 lc18_0
theorem kl18_0_ok:KnownOk Go.Proofs.Try.prog (kl18_0 Go.Proofs.Try.prog):=kf28_ok.loop ok18_0

/-! ductility/ductilityref06.Below -/

abbrev as18:List Ty:=[(.pair (.slice (.int .i64)) (.pair (.slice (.int .i64)) .unit)),(.pair (.pair (.int .i64) (.pair (.slice (.int .i64)) .unit)) (.pair (.pair (.int .i64) (.pair (.slice (.int .i64)) .unit)) .unit))]
abbrev rs18:List Ty:=[(.int .i64)]

def t18 (x0:(List Int)) (x0':(List Int)) (x1_:Int) (x1_':(List Int)) (x1'_:Int) (x1'_':(List Int)):Tr (Tys.data rs18) :=
  Tr.test (Option.isSome (f58 ((x0,(x0',())),(((x1_,(x1_',())),((x1'_,(x1'_',())),())),()))))
    (let r0:=g58 ((x0,(x0',())),(((x1_,(x1_',())),((x1'_,(x1'_',())),())),()));
    Tr.test (isBrk (l18_0 (((r0.1:List ((Int×List Int×PUnit)×(Int×List Int×PUnit)×PUnit)),((0:Int),((1:Int),((1:Int),())))),())))
      (let r1:=b18_0 (((r0.1:List ((Int×List Int×PUnit)×(Int×List Int×PUnit)×PUnit)),((0:Int),((1:Int),((1:Int),())))),());
      Tr.fin ((r1.1.1,())))
      (Tr.stop))
    (Tr.stop)

def f18 (d:Tys.data as18):Option (Tys.data rs18):=(t18 d.1.1 d.1.2.1 d.2.1.1.1 d.2.1.1.2.1 d.2.1.2.1.1 d.2.1.2.1.2.1).val
def g18 (d:Tys.data as18):Tys.data rs18:=(f18 d).getD (Tys.dflt rs18)
def p18:PureC:=pcOf as18 rs18 f18 g18

theorem wk18 (x0:(List Int)) (x0':(List Int)) (x1_:Int) (x1_':(List Int)) (x1'_:Int) (x1'_':(List Int)):Walks (runPure (kl18_0 Go.Proofs.Try.prog).orc Go.Proofs.Try.prog 400 18 as18 rs18 ((x0,x0',()),((x1_,x1_',()),(x1'_,x1'_',()),()),())) (t18 x0 x0' x1_ x1_' x1'_ x1'_') [([true,true],[1,2,4])] :=
  ⟨by kernel_rfl,trivial⟩

theorem ok18_t (x0:(List Int)) (x0':(List Int)) (x1_:Int) (x1_':(List Int)) (x1'_:Int) (x1'_':(List Int)):TrOk (PureRuns Go.Proofs.Try.prog (kl18_0 Go.Proofs.Try.prog).orc 18 as18 rs18 ((x0,x0',()),((x1_,x1_',()),(x1'_,x1'_',()),()),())) (t18 x0 x0' x1_ x1_' x1'_ x1'_') :=
  Walks.ok (fun _ _ _=>PureRuns.of) (wk18 x0 x0' x1_ x1_' x1'_ x1'_') (by kernel_rfl)

theorem ok18:PureOk Go.Proofs.Try.prog 18 p18:=pureOk_of kl18_0_ok.base (T:=fun (d:Tys.data as18)=>t18 d.1.1 d.1.2.1 d.2.1.1.1 d.2.1.1.2.1 d.2.1.2.1.1 d.2.1.2.1.2.1) (by kernel_rfl) (fun (d:Tys.data as18)=>ok18_t d.1.1 d.1.2.1 d.2.1.1.1 d.2.1.1.2.1 d.2.1.2.1.1 d.2.1.2.1.2.1)
def kf18 (P:Go.Program):Known:=(kl18_0 P).func 18 p18
theorem kf18_ok:KnownOk Go.Proofs.Try.prog (kf18 Go.Proofs.Try.prog):=kl18_0_ok.func ok18

/-! ductility/ductilityref06.IsMode -/

abbrev as19:List Ty:=[(.pair (.slice (.int .i64)) (.pair (.slice (.int .i64)) .unit)),(.pair (.pair (.int .i64) (.pair (.slice (.int .i64)) .unit)) (.pair (.pair (.int .i64) (.pair (.slice (.int .i64)) .unit)) .unit))]
abbrev rs19:List Ty:=[.bool]

def t19 (x0:(List Int)) (x0':(List Int)) (x1_:Int) (x1_':(List Int)) (x1'_:Int) (x1'_':(List Int)):Tr (Tys.data rs19) :=
  Tr.test (Option.isSome (f58 ((x0,(x0',())),(((x1_,(x1_',())),((x1'_,(x1'_',())),())),()))))
    (let r0:=g58 ((x0,(x0',())),(((x1_,(x1_',())),((x1'_,(x1'_',())),())),()));
    Tr.test ((decide ((0:Int) ≤ wrap64 ((↑(List.length r0.1):Int) - (1:Int))) && decide (wrap64 ((↑(List.length r0.1):Int) - (1:Int)) < (↑(List.length r0.1):Int)):Bool))
      (Tr.test (Option.isSome (f28 (((((List.getD r0.1 (Int.toNat (wrap64 ((↑(List.length r0.1):Int) - (1:Int)))) (((0:Int),[],()),((0:Int),[],()),())).1.1:Int),(((List.getD r0.1 (Int.toNat (wrap64 ((↑(List.length r0.1):Int) - (1:Int)))) (((0:Int),[],()),((0:Int),[],()),())).1.2.1:List Int),())),((((List.getD r0.1 (Int.toNat (wrap64 ((↑(List.length r0.1):Int) - (1:Int)))) (((0:Int),[],()),((0:Int),[],()),())).2.1.1:Int),(((List.getD r0.1 (Int.toNat (wrap64 ((↑(List.length r0.1):Int) - (1:Int)))) (((0:Int),[],()),((0:Int),[],()),())).2.1.2.1:List Int),())),())),())))
        (let r1:=g28 (((((List.getD r0.1 (Int.toNat (wrap64 ((↑(List.length r0.1):Int) - (1:Int)))) (((0:Int),[],()),((0:Int),[],()),())).1.1:Int),(((List.getD r0.1 (Int.toNat (wrap64 ((↑(List.length r0.1):Int) - (1:Int)))) (((0:Int),[],()),((0:Int),[],()),())).1.2.1:List Int),())),((((List.getD r0.1 (Int.toNat (wrap64 ((↑(List.length r0.1):Int) - (1:Int)))) (((0:Int),[],()),((0:Int),[],()),())).2.1.1:Int),(((List.getD r0.1 (Int.toNat (wrap64 ((↑(List.length r0.1):Int) - (1:Int)))) (((0:Int),[],()),((0:Int),[],()),())).2.1.2.1:List Int),())),())),());
        Tr.fin (((eqF r1.1 0:Bool),())))
        (Tr.stop))
      (Tr.stop))
    (Tr.stop)

def f19 (d:Tys.data as19):Option (Tys.data rs19):=(t19 d.1.1 d.1.2.1 d.2.1.1.1 d.2.1.1.2.1 d.2.1.2.1.1 d.2.1.2.1.2.1).val
def g19 (d:Tys.data as19):Tys.data rs19:=(f19 d).getD (Tys.dflt rs19)
def p19:PureC:=pcOf as19 rs19 f19 g19

theorem wk19 (x0:(List Int)) (x0':(List Int)) (x1_:Int) (x1_':(List Int)) (x1'_:Int) (x1'_':(List Int)):Walks (runPure (kf18 Go.Proofs.Try.prog).orc Go.Proofs.Try.prog 400 19 as19 rs19 ((x0,x0',()),((x1_,x1_',()),(x1'_,x1'_',()),()),())) (t19 x0 x0' x1_ x1_' x1'_ x1'_') [([true,true,true],[2,4,6])] :=
  ⟨by kernel_rfl,trivial⟩

theorem ok19_t (x0:(List Int)) (x0':(List Int)) (x1_:Int) (x1_':(List Int)) (x1'_:Int) (x1'_':(List Int)):TrOk (PureRuns Go.Proofs.Try.prog (kf18 Go.Proofs.Try.prog).orc 19 as19 rs19 ((x0,x0',()),((x1_,x1_',()),(x1'_,x1'_',()),()),())) (t19 x0 x0' x1_ x1_' x1'_ x1'_') :=
  Walks.ok (fun _ _ _=>PureRuns.of) (wk19 x0 x0' x1_ x1_' x1'_ x1'_') (by kernel_rfl)

theorem ok19:PureOk Go.Proofs.Try.prog 19 p19:=pureOk_of kf18_ok.base (T:=fun (d:Tys.data as19)=>t19 d.1.1 d.1.2.1 d.2.1.1.1 d.2.1.1.2.1 d.2.1.2.1.1 d.2.1.2.1.2.1) (by kernel_rfl) (fun (d:Tys.data as19)=>ok19_t d.1.1 d.1.2.1 d.2.1.1.1 d.2.1.1.2.1 d.2.1.2.1.1 d.2.1.2.1.2.1)
def kf19 (P:Go.Program):Known:=(kf18 P).func 19 p19
theorem kf19_ok:KnownOk Go.Proofs.Try.prog (kf19 Go.Proofs.Try.prog):=kf18_ok.func ok19

/-! ductility/ductilitylaw06.isMode -/

abbrev as20:List Ty:=[(.pair (.slice (.int .i64)) (.pair (.slice (.int .i64)) .unit)),(.int .i64)]
abbrev rs20:List Ty:=[.bool]

def t20 (x0:(List Int)) (x0':(List Int)) (x1:Int):Tr (Tys.data rs20) :=
  Tr.test (Option.isSome (f21 (x1,((0:Int),((wrap64 ((↑(List.length x0):Int) - (1:Int)):Int),())))))
    (let r0:=g21 (x1,((0:Int),((wrap64 ((↑(List.length x0):Int) - (1:Int)):Int),())));
    Tr.fin ((r0.1,())))
    (Tr.stop)

def f20 (d:Tys.data as20):Option (Tys.data rs20):=(t20 d.1.1 d.1.2.1 d.2.1).val
def g20 (d:Tys.data as20):Tys.data rs20:=(f20 d).getD (Tys.dflt rs20)
def p20:PureC:=pcOf as20 rs20 f20 g20

theorem wk20 (x0:(List Int)) (x0':(List Int)) (x1:Int):Walks (runPure (kf19 Go.Proofs.Try.prog).orc Go.Proofs.Try.prog 400 20 as20 rs20 ((x0,x0',()),x1,())) (t20 x0 x0' x1) [([tt],[2])] :=
  ⟨by kernel_rfl,trivial⟩

theorem ok20_t (x0:(List Int)) (x0':(List Int)) (x1:Int):TrOk (PureRuns Go.Proofs.Try.prog (kf19 Go.Proofs.Try.prog).orc 20 as20 rs20 ((x0,x0',()),x1,())) (t20 x0 x0' x1) :=
  Walks.ok (fun _ _ _=>PureRuns.of) (wk20 x0 x0' x1) (by kernel_rfl)

theorem ok20:PureOk Go.Proofs.Try.prog 20 p20:=pureOk_of kf19_ok.base (T:=fun (d:Tys.data as20)=>t20 d.1.1 d.1.2.1 d.2.1) (by kernel_rfl) (fun (d:Tys.data as20)=>ok20_t d.1.1 d.1.2.1 d.2.1)
def kf20 (P:Go.Program):Known:=(kf19 P).func 20 p20
theorem kf20_ok:KnownOk Go.Proofs.Try.prog (kf20 Go.Proofs.Try.prog):=kf19_ok.func ok20

/-! loop 0 of ductility/ductilityref06.Enclosure -/

abbrev sh22_0:Sh:={ n:=51,slots:=[1,2,3,6,7,8],pats:=[.ty (.int .i64),.ty (.int .i64),.ptr 0 2 0,.ptr 1 2 0,.ty (.int .i64),.ty (.int .i64)],boxes:=[.row [.ty (.slice (.int .i64)),.ty (.slice (.int .i64))],.row [.ty (.int .i64),.ty (.int .i64)]] }
abbrev shb22_0:Sh:={ n:=51,slots:=[1,2,3,6,7],pats:=[.ty (.int .i64),.ty (.int .i64),.ptr 0 2 0,.ptr 1 2 0,.ty (.int .i64)],boxes:=[.row [.ty (.slice (.int .i64)),.ty (.slice (.int .i64))],.row [.ty (.int .i64),.ty (.int .i64)]] }
abbrev shr22_0:Sh:={ n:=51,slots:=[],pats:=[],boxes:=[.row [.ty (.slice (.int .i64)),.ty (.slice (.int .i64))],.row [.ty (.int .i64),.ty (.int .i64)]] }

def t22_0 (x0:Int) (x1:Int) (x4:Int) (x5:Int) (b0_0:(List Int)) (b0_1:(List Int)) (b1_0:Int) (b1_1:Int):Tr (Out sh22_0.data shb22_0.data shr22_0.data) :=
  Tr.test ((!leF (wrap64 (x5 - x4)) (1:Int):Bool))
    (Tr.test (Option.isSome (f57 ((Go.IntKind.wrap Go.IntKind.i64 (Int.tdiv (wrap64 (x4 + x5)) (2:Int)):Int),(x1,()))))
      (let r0:=g57 ((Go.IntKind.wrap Go.IntKind.i64 (Int.tdiv (wrap64 (x4 + x5)) (2:Int)):Int),(x1,()));
      Tr.test (Option.isSome (f18 ((b0_0,(b0_1,())),(((r0.1.1.1,(r0.1.1.2.1,())),((r0.1.2.1.1,(r0.1.2.1.2.1,())),())),()))))
        (let r1:=g18 ((b0_0,(b0_1,())),(((r0.1.1.1,(r0.1.1.2.1,())),((r0.1.2.1.1,(r0.1.2.1.2.1,())),())),()));
        Tr.test ((leF r1.1 x0:Bool))
          (Tr.fin (.again ((x0,(x1,((Go.IntKind.wrap Go.IntKind.i64 (Int.tdiv (wrap64 (x4 + x5)) (2:Int)):Int),(x5,())))),((b0_0,(b0_1,())),((b1_0,(b1_1,())),())))))
          (Tr.fin (.again ((x0,(x1,(x4,((Go.IntKind.wrap Go.IntKind.i64 (Int.tdiv (wrap64 (x4 + x5)) (2:Int)):Int),())))),((b0_0,(b0_1,())),((b1_0,(b1_1,())),()))))))
        (Tr.stop))
      (Tr.stop))
    (Tr.fin (.brk ((x0,(x1,(x4,()))),((b0_0,(b0_1,())),((b1_0,(b1_1,())),())))))

def s22_0 (d:sh22_0.data):Option (Out sh22_0.data shb22_0.data shr22_0.data):=(t22_0 d.1.1 d.1.2.1 d.1.2.2.1 d.1.2.2.2.1 d.2.1.1 d.2.1.2.1 d.2.2.1.1 d.2.2.1.2.1).val
def l22_0 (d:sh22_0.data):Option (shb22_0.data ⊕ shr22_0.data):=itr s22_0 rounds d
def b22_0 (d:sh22_0.data):shb22_0.data:=outB shb22_0.dflt (l22_0 d)
def lc22_0:LoopC:=lcB sh22_0 shb22_0 shr22_0 l22_0 b22_0

theorem wk22_0 (x0:Int) (x1:Int) (x4:Int) (x5:Int) (b0_0:(List Int)) (b0_1:(List Int)) (b1_0:Int) (b1_1:Int):Walks (runBody (kf20 Go.Proofs.Try.prog).orc Go.Proofs.Try.prog 400 22 0 sh22_0 shb22_0 shr22_0 ((x0,x1,x4,x5,()),(b0_0,b0_1,()),(b1_0,b1_1,()),())) (t22_0 x0 x1 x4 x5 b0_0 b0_1 b1_0 b1_1) [([true,true,true,true],[2,4,6,0,8]),([true,true,true,false],[2,4,6,0,8]),([ff],[2])] :=
  ⟨by kernel_rfl,by kernel_rfl,by kernel_rfl,trivial⟩

theorem ok22_0_t (x0:Int) (x1:Int) (x4:Int) (x5:Int) (b0_0:(List Int)) (b0_1:(List Int)) (b1_0:Int) (b1_1:Int):TrOk (BodyRuns Go.Proofs.Try.prog (kf20 Go.Proofs.Try.prog).orc 22 0 sh22_0 shb22_0 shr22_0 ((x0,x1,x4,x5,()),(b0_0,b0_1,()),(b1_0,b1_1,()),())) (t22_0 x0 x1 x4 x5 b0_0 b0_1 b1_0 b1_1) :=
  Walks.ok (fun _ _ _=>BodyRuns.of) (wk22_0 x0 x1 x4 x5 b0_0 b0_1 b1_0 b1_1) (by kernel_rfl)

theorem ok22_0:LoopOk Go.Proofs.Try.prog 22 0 lc22_0:=loopOk_ofB (sh:=sh22_0) (shB:=shb22_0) (shR:=shr22_0) kf20_ok.base (T:=fun (d:sh22_0.data)=>t22_0 d.1.1 d.1.2.1 d.1.2.2.1 d.1.2.2.2.1 d.2.1.1 d.2.1.2.1 d.2.2.1.1 d.2.2.1.2.1) (by kernel_rfl) rfl (fun (d:sh22_0.data)=>ok22_0_t d.1.1 d.1.2.1 d.1.2.2.1 d.1.2.2.2.1 d.2.1.1 d.2.1.2.1 d.2.2.1.1 d.2.2.1.2.1) (fun _=>rfl)
def kl22_0 (P:Go.Program):Known:=(kf20 P).loop 22 0 lc22_0
theorem kl22_0_ok:KnownOk Go.Proofs.Try.prog (kl22_0 Go.Proofs.Try.prog):=kf20_ok.loop ok22_0

/-! ductility/ductilityref06.Enclosure -/

abbrev as22:List Ty:=[(.pair (.slice (.int .i64)) (.pair (.slice (.int .i64)) .unit)),(.int .i64),(.int .i64)]
abbrev rs22:List Ty:=[(.pair (.int .i64) (.pair (.int .i64) .unit))]

def t22 (x0:(List Int)) (x0':(List Int)) (x1:Int) (x2:Int):Tr (Tys.data rs22) :=
  Tr.test (isBrk (l22_0 ((x1,(x2,((0:Int),((wrap64 (wrap64 ((80:Int) * x2) + (1:Int)):Int),())))),((x0,(x0',())),(((0:Int),((0:Int),())),())))))
    (let r0:=b22_0 ((x1,(x2,((0:Int),((wrap64 (wrap64 ((80:Int) * x2) + (1:Int)):Int),())))),((x0,(x0',())),(((0:Int),((0:Int),())),())));
    Tr.test (Option.isSome (f57 (r0.1.2.2.1,(r0.1.2.1,()))))
      (let r1:=g57 (r0.1.2.2.1,(r0.1.2.1,()));
      Tr.test (Option.isSome (f19 ((r0.2.1.1,(r0.2.1.2.1,())),(((r1.1.1.1,(r1.1.1.2.1,())),((r1.1.2.1.1,(r1.1.2.1.2.1,())),())),()))))
        (let r2:=g19 ((r0.2.1.1,(r0.2.1.2.1,())),(((r1.1.1.1,(r1.1.1.2.1,())),((r1.1.2.1.1,(r1.1.2.1.2.1,())),())),()));
        Tr.test (r2.1)
          (Tr.test (Option.isSome (f18 ((r0.2.1.1,(r0.2.1.2.1,())),(((r1.1.1.1,(r1.1.1.2.1,())),((r1.1.2.1.1,(r1.1.2.1.2.1,())),())),()))))
            (let r3:=g18 ((r0.2.1.1,(r0.2.1.2.1,())),(((r1.1.1.1,(r1.1.1.2.1,())),((r1.1.2.1.1,(r1.1.2.1.2.1,())),())),()));
            Tr.test ((eqF r3.1 r0.1.1:Bool))
              (Tr.fin (((r0.1.2.2.1,(r0.1.2.2.1,())),())))
              (Tr.fin (((r0.1.2.2.1,((wrap64 (r0.1.2.2.1 + (1:Int)):Int),())),()))))
            (Tr.stop))
          (Tr.fin (((r0.1.2.2.1,((wrap64 (r0.1.2.2.1 + (1:Int)):Int),())),()))))
        (Tr.stop))
      (Tr.stop))
    (Tr.stop)

def f22 (d:Tys.data as22):Option (Tys.data rs22):=(t22 d.1.1 d.1.2.1 d.2.1 d.2.2.1).val
def g22 (d:Tys.data as22):Tys.data rs22:=(f22 d).getD (Tys.dflt rs22)
def p22:PureC:=pcOf as22 rs22 f22 g22

theorem wk22 (x0:(List Int)) (x0':(List Int)) (x1:Int) (x2:Int):Walks (runPure (kl22_0 Go.Proofs.Try.prog).orc Go.Proofs.Try.prog 400 22 as22 rs22 ((x0,x0',()),x1,x2,())) (t22 x0 x0' x1 x2) [([true,true,true,true,true,true],[2,6,6,6,4,6,6,6,8,10,1,12]),([true,true,true,true,true,false],[2,6,6,6,4,6,6,6,8,10,1,12]),([true,true,true,false],[0,2,2,2,2,2,2,4,6,1,8])] :=
  ⟨by kernel_rfl,by kernel_rfl,by kernel_rfl,trivial⟩

theorem ok22_t (x0:(List Int)) (x0':(List Int)) (x1:Int) (x2:Int):TrOk (PureRuns Go.Proofs.Try.prog (kl22_0 Go.Proofs.Try.prog).orc 22 as22 rs22 ((x0,x0',()),x1,x2,())) (t22 x0 x0' x1 x2) :=
  Walks.ok (fun _ _ _=>PureRuns.of) (wk22 x0 x0' x1 x2) (by kernel_rfl)

theorem ok22:PureOk Go.Proofs.Try.prog 22 p22:=pureOk_of kl22_0_ok.base (T:=fun (d:Tys.data as22)=>t22 d.1.1 d.1.2.1 d.2.1 d.2.2.1) (by kernel_rfl) (fun (d:Tys.data as22)=>ok22_t d.1.1 d.1.2.1 d.2.1 d.2.2.1)
def kf22 (P:Go.Program):Known:=(kl22_0 P).func 22 p22
theorem kf22_ok:KnownOk Go.Proofs.Try.prog (kf22 Go.Proofs.Try.prog):=kl22_0_ok.func ok22

/-! ductility/ductilitylaw06.ModalCounts -/

abbrev as3:List Ty:=[(.pair (.slice (.int .i64)) (.pair (.slice (.int .i64)) .unit)),(.pair (.int .i64) (.pair (.int .i64) .unit)),(.pair (.int .i64) (.pair (.int .i64) .unit))]
abbrev rs3:List Ty:=[.bool]

def t3 (x0:(List Int)) (x0':(List Int)) (x1:Int) (x1':Int) (x2:Int) (x2':Int):Tr (Tys.data rs3) :=
  Tr.test (Option.isSome (f9 ((x0,(x0',())),())))
    (let r0:=g9 ((x0,(x0',())),());
    Tr.test ((!r0.1:Bool))
      (Tr.fin (((true:Bool),())))
      (Tr.test (Option.isSome (f11 ((x0,(x0',())),())))
        (let r1:=g11 ((x0,(x0',())),());
        Tr.test (Option.isSome (f10 ((r1.1.1,(r1.1.2.1,())),((x1,(x1',())),()))))
          (Tr.test (Option.isSome (f12 ((r1.1.1,(r1.1.2.1,())),((x1,(x1',())),()))))
            (Tr.test (Option.isSome (f13 ((r1.1.1,(r1.1.2.1,())),(x2,(x2',())))))
              (Tr.test (Option.isSome (f14 ((x0,(x0',())),())))
                (Tr.test (Option.isSome (f16 ((x1,(x1',())),())))
                  (let r5:=g14 ((x0,(x0',())),());
                  let r6:=g16 ((x1,(x1',())),());
                  Tr.test (Option.isSome (f15 (r5.1,(r6.1,()))))
                    (let r7:=g15 (r5.1,(r6.1,()));
                    Tr.test ((!eqF r7.1 0:Bool))
                      (let r2:=g10 ((r1.1.1,(r1.1.2.1,())),((x1,(x1',())),()));
                      Tr.test ((!eqF r2.2.1 r7.1:Bool))
                        (Tr.fin (((false:Bool),())))
                        (Tr.test ((!eqF r2.1 0:Bool))
                          (Tr.fin (((false:Bool),())))
                          (let r3:=g12 ((r1.1.1,(r1.1.2.1,())),((x1,(x1',())),()));
                          Tr.test ((!eqF r3.2.1 r7.1:Bool))
                            (Tr.fin (((false:Bool),())))
                            (Tr.test (r3.1)
                              (Tr.fin (((false:Bool),())))
                              (Tr.test ((eqF r5.1 0:Bool))
                                (Tr.test (Option.isSome (f20 ((x0,(x0',())),(x2,()))))
                                  (let r11:=g20 ((x0,(x0',())),(x2,()));
                                  Tr.test ((!r11.1:Bool))
                                    (let r4:=g13 ((r1.1.1,(r1.1.2.1,())),(x2,(x2',())));
                                    Tr.test ((eqF r4.2.1 6:Bool))
                                      (Tr.fin (((r4.1.1 == (0:Int) && (r4.1.2.1 == (0:Int) && true):Bool),())))
                                      (Tr.fin (((false:Bool),()))))
                                    (Tr.test (Option.isSome (f21 (x2',((1:Int),((50:Int),())))))
                                      (let r12:=g21 (x2',((1:Int),((50:Int),())));
                                      Tr.test ((!r12.1:Bool))
                                        (let r4:=g13 ((r1.1.1,(r1.1.2.1,())),(x2,(x2',())));
                                        Tr.test ((eqF r4.2.1 2:Bool))
                                          (Tr.fin (((r4.1.1 == (0:Int) && (r4.1.2.1 == (0:Int) && true):Bool),())))
                                          (Tr.fin (((false:Bool),()))))
                                        (let r4:=g13 ((r1.1.1,(r1.1.2.1,())),(x2,(x2',())));
                                        Tr.test ((eqF r4.2.1 0:Bool))
                                          (Tr.test (Option.isSome (f22 ((x0,(x0',())),(x2,(x2',())))))
                                            (let r13:=g22 ((x0,(x0',())),(x2,(x2',())));
                                            Tr.fin (((r4.1.1 == r13.1.1 && (r4.1.2.1 == r13.1.2.1 && true):Bool),())))
                                            (Tr.stop))
                                          (Tr.fin (((false:Bool),())))))
                                      (Tr.stop)))
                                  (Tr.stop))
                                (let r4:=g13 ((r1.1.1,(r1.1.2.1,())),(x2,(x2',())));
                                Tr.test ((eqF r4.2.1 r5.1:Bool))
                                  (Tr.fin (((r4.1.1 == (0:Int) && (r4.1.2.1 == (0:Int) && true):Bool),())))
                                  (Tr.fin (((false:Bool),())))))))))
                      (Tr.test (Option.isSome (f17 ((x1,(x1',())),())))
                        (let r2:=g10 ((r1.1.1,(r1.1.2.1,())),((x1,(x1',())),()));
                        Tr.test ((!eqF r2.2.1 0:Bool))
                          (Tr.fin (((false:Bool),())))
                          (let r8:=g17 ((x1,(x1',())),());
                          Tr.test (Option.isSome (f18 ((x0,(x0',())),(((r8.1.1.1,(r8.1.1.2.1,())),((r8.1.2.1.1,(r8.1.2.1.2.1,())),())),()))))
                            (let r9:=g18 ((x0,(x0',())),(((r8.1.1.1,(r8.1.1.2.1,())),((r8.1.2.1.1,(r8.1.2.1.2.1,())),())),()));
                            Tr.test ((!eqF r2.1 r9.1:Bool))
                              (Tr.fin (((false:Bool),())))
                              (let r3:=g12 ((r1.1.1,(r1.1.2.1,())),((x1,(x1',())),()));
                              Tr.test ((!eqF r3.2.1 0:Bool))
                                (Tr.fin (((false:Bool),())))
                                (Tr.test (Option.isSome (f19 ((x0,(x0',())),(((r8.1.1.1,(r8.1.1.2.1,())),((r8.1.2.1.1,(r8.1.2.1.2.1,())),())),()))))
                                  (let r10:=g19 ((x0,(x0',())),(((r8.1.1.1,(r8.1.1.2.1,())),((r8.1.2.1.1,(r8.1.2.1.2.1,())),())),()));
                                  Tr.test ((!r3.1 == r10.1:Bool))
                                    (Tr.fin (((false:Bool),())))
                                    (Tr.test ((eqF r5.1 0:Bool))
                                      (Tr.test (Option.isSome (f20 ((x0,(x0',())),(x2,()))))
                                        (let r11:=g20 ((x0,(x0',())),(x2,()));
                                        Tr.test ((!r11.1:Bool))
                                          (let r4:=g13 ((r1.1.1,(r1.1.2.1,())),(x2,(x2',())));
                                          Tr.test ((eqF r4.2.1 6:Bool))
                                            (Tr.fin (((r4.1.1 == (0:Int) && (r4.1.2.1 == (0:Int) && true):Bool),())))
                                            (Tr.fin (((false:Bool),()))))
                                          (Tr.test (Option.isSome (f21 (x2',((1:Int),((50:Int),())))))
                                            (let r12:=g21 (x2',((1:Int),((50:Int),())));
                                            Tr.test ((!r12.1:Bool))
                                              (let r4:=g13 ((r1.1.1,(r1.1.2.1,())),(x2,(x2',())));
                                              Tr.test ((eqF r4.2.1 2:Bool))
                                                (Tr.fin (((r4.1.1 == (0:Int) && (r4.1.2.1 == (0:Int) && true):Bool),())))
                                                (Tr.fin (((false:Bool),()))))
                                              (let r4:=g13 ((r1.1.1,(r1.1.2.1,())),(x2,(x2',())));
                                              Tr.test ((eqF r4.2.1 0:Bool))
                                                (Tr.test (Option.isSome (f22 ((x0,(x0',())),(x2,(x2',())))))
                                                  (let r13:=g22 ((x0,(x0',())),(x2,(x2',())));
                                                  Tr.fin (((r4.1.1 == r13.1.1 && (r4.1.2.1 == r13.1.2.1 && true):Bool),())))
                                                  (Tr.stop))
                                                (Tr.fin (((false:Bool),())))))
                                            (Tr.stop)))
                                        (Tr.stop))
                                      (let r4:=g13 ((r1.1.1,(r1.1.2.1,())),(x2,(x2',())));
                                      Tr.test ((eqF r4.2.1 r5.1:Bool))
                                        (Tr.fin (((r4.1.1 == (0:Int) && (r4.1.2.1 == (0:Int) && true):Bool),())))
                                        (Tr.fin (((false:Bool),()))))))
                                  (Tr.stop))))
                            (Tr.stop)))
                        (Tr.stop)))
                    (Tr.stop))
                  (Tr.stop))
                (Tr.stop))
              (Tr.stop))
            (Tr.stop))
          (Tr.stop))
        (Tr.stop)))
    (Tr.stop)

def f3 (d:Tys.data as3):Option (Tys.data rs3):=(t3 d.1.1 d.1.2.1 d.2.1.1 d.2.1.2.1 d.2.2.1.1 d.2.2.1.2.1).val
def g3 (d:Tys.data as3):Tys.data rs3:=(f3 d).getD (Tys.dflt rs3)
def p3:PureC:=pcOf as3 rs3 f3 g3

theorem wk3 (x0:(List Int)) (x0':(List Int)) (x1:Int) (x1':Int) (x2:Int) (x2':Int):Walks (runPure (kf22 Go.Proofs.Try.prog).orc Go.Proofs.Try.prog 400 3 as3 rs3 ((x0,x0',()),(x1,x1',()),(x2,x2',()),())) (t3 x0 x0' x1 x1' x2 x2') [([true,true],[2,4,0,1]),([true,false,true,true,true,true,true,true,true,true,true],[1,1,1,1,1,1,1,2,2,2,4,6,8,10,12,1,1,18,14,18,16,18,20,22,0,1]),([true,false,true,true,true,true,true,true,true,true,false,true],[1,1,1,2,2,2,2,4,4,4,6,8,10,12,14,1,1,20,16,20,18,20,22,24,0,1]),([true,false,true,true,true,true,true,true,true,true,false,false,true],[1,2,2,4,4,4,4,6,6,6,8,10,12,14,16,1,1,22,18,22,20,22,24,26,0,1]),([true,false,true,true,true,true,true,true,true,true,false,false,false,true],[2,4,4,6,6,6,6,8,8,8,10,12,14,16,18,1,1,24,20,24,22,24,26,28,0,1]),([true,false,true,true,true,true,true,true,true,true,false,false,false,false,true,true,true,true],[2,2,2,2,1,0,0,0,0,0,0,4,8,8,6,8,8,1,8,8,10,12,12,14,14,14,14,16,16,16,18,20,22,24,26,1,1,32,28,32,30,32,34,36,0,1]),([true,false,true,true,true,true,true,true,true,true,false,false,false,false,true,true,true,false],[2,2,2,2,1,0,0,0,0,0,0,4,8,8,6,8,8,1,8,8,10,12,12,14,14,14,14,16,16,16,18,20,22,24,26,1,1,32,28,32,30,32,34,36,0,1]),([true,false,true,true,true,true,true,true,true,true,false,false,false,false,true,true,false,true,true,true],[2,2,2,2,1,4,12,12,6,12,12,1,12,8,12,12,10,12,12,1,12,12,14,16,16,18,18,18,18,20,20,20,22,24,26,28,30,1,1,36,32,36,34,36,38,40,0,1]),([true,false,true,true,true,true,true,true,true,true,false,false,false,false,true,true,false,true,true,false],[2,2,2,2,1,4,12,12,6,12,12,1,12,8,12,12,10,12,12,1,12,12,14,16,16,18,18,18,18,20,20,20,22,24,26,28,30,1,1,36,32,36,34,36,38,40,0,1]),([true,false,true,true,true,true,true,true,true,true,false,false,false,false,true,true,false,true,false,true,true],[4,4,2,4,4,1,4,4,1,4,4,4,15,6,14,14,8,14,14,1,14,10,14,14,12,14,14,1,14,14,16,18,18,20,20,20,20,22,22,22,24,26,28,30,32,1,1,38,34,38,36,38,40,42,0,1]),([true,false,true,true,true,true,true,true,true,true,false,false,false,false,true,true,false,true,false,false],[2,2,2,2,2,2,2,2,2,13,4,12,12,6,12,12,1,12,8,12,12,10,12,12,1,12,12,14,16,16,18,18,18,18,20,20,20,22,24,26,28,30,1,1,36,32,36,34,36,38,40,0,1]),([true,false,true,true,true,true,true,true,true,true,false,false,false,false,false,true],[2,2,2,2,5,0,4,4,4,4,4,0,4,4,4,4,4,4,6,8,8,10,10,10,10,12,12,12,14,16,18,20,22,1,1,28,24,28,26,28,30,32,0,1]),([true,false,true,true,true,true,true,true,true,true,false,false,false,false,false,false],[2,2,2,2,5,0,4,4,4,4,4,0,4,4,4,4,4,4,6,8,8,10,10,10,10,12,12,12,14,16,18,20,22,1,1,28,24,28,26,28,30,32,0,1]),([true,false,true,true,true,true,true,true,true,false,true,true],[1,1,1,1,1,1,1,1,1,1,2,2,2,2,2,2,4,6,8,10,12,14,1,1,20,16,20,18,20,22,24,0,1]),([true,false,true,true,true,true,true,true,true,false,true,false,true,true],[1,1,1,1,1,1,1,2,2,2,6,6,4,6,6,6,6,8,10,12,14,16,18,1,1,24,20,24,22,24,26,28,0,1]),([true,false,true,true,true,true,true,true,true,false,true,false,true,false,true],[1,2,2,2,2,2,2,4,4,4,8,8,6,8,8,8,8,10,12,14,16,18,20,1,1,26,22,26,24,26,28,30,0,1]),([true,false,true,true,true,true,true,true,true,false,true,false,true,false,false,true,true],[2,6,6,4,6,6,6,6,8,8,8,12,12,10,12,12,12,12,14,16,18,20,22,24,1,1,30,26,30,28,30,32,34,0,1]),([true,false,true,true,true,true,true,true,true,false,true,false,true,false,false,true,false,true,true,true,true],[2,2,2,2,1,0,0,0,0,0,0,4,8,8,6,8,8,1,8,8,10,14,14,12,14,14,14,14,16,16,16,20,20,18,20,20,20,20,22,24,26,28,30,32,1,1,38,34,38,36,38,40,42,0,1]),([true,false,true,true,true,true,true,true,true,false,true,false,true,false,false,true,false,true,true,true,false],[2,2,2,2,1,0,0,0,0,0,0,4,8,8,6,8,8,1,8,8,10,14,14,12,14,14,14,14,16,16,16,20,20,18,20,20,20,20,22,24,26,28,30,32,1,1,38,34,38,36,38,40,42,0,1]),([true,false,true,true,true,true,true,true,true,false,true,false,true,false,false,true,false,true,true,false,true,true,true],[2,2,2,2,1,4,12,12,6,12,12,1,12,8,12,12,10,12,12,1,12,12,14,18,18,16,18,18,18,18,20,20,20,24,24,22,24,24,24,24,26,28,30,32,34,36,1,1,42,38,42,40,42,44,46,0,1]),([true,false,true,true,true,true,true,true,true,false,true,false,true,false,false,true,false,true,true,false,true,true,false],[2,2,2,2,1,4,12,12,6,12,12,1,12,8,12,12,10,12,12,1,12,12,14,18,18,16,18,18,18,18,20,20,20,24,24,22,24,24,24,24,26,28,30,32,34,36,1,1,42,38,42,40,42,44,46,0,1]),([true,false,true,true,true,true,true,true,true,false,true,false,true,false,false,true,false,true,true,false,true,false,true,true],[4,4,2,4,4,1,4,4,1,4,4,4,15,6,14,14,8,14,14,1,14,10,14,14,12,14,14,1,14,14,16,20,20,18,20,20,20,20,22,22,22,26,26,24,26,26,26,26,28,30,32,34,36,38,1,1,44,40,44,42,44,46,48,0,1]),([true,false,true,true,true,true,true,true,true,false,true,false,true,false,false,true,false,true,true,false,true,false,false],[2,2,2,2,2,2,2,2,2,13,4,12,12,6,12,12,1,12,8,12,12,10,12,12,1,12,12,14,18,18,16,18,18,18,18,20,20,20,24,24,22,24,24,24,24,26,28,30,32,34,36,1,1,42,38,42,40,42,44,46,0,1]),([true,false,true,true,true,true,true,true,true,false,true,false,true,false,false,true,false,false,true],[2,2,2,2,5,0,4,4,4,4,4,0,4,4,4,4,4,4,6,10,10,8,10,10,10,10,12,12,12,16,16,14,16,16,16,16,18,20,22,24,26,28,1,1,34,30,34,32,34,36,38,0,1]),([true,false,true,true,true,true,true,true,true,false,true,false,true,false,false,true,false,false,false],[2,2,2,2,5,0,4,4,4,4,4,0,4,4,4,4,4,4,6,10,10,8,10,10,10,10,12,12,12,16,16,14,16,16,16,16,18,20,22,24,26,28,1,1,34,30,34,32,34,36,38,0,1])] :=
  ⟨by kernel_rfl,by kernel_rfl,by kernel_rfl,by kernel_rfl,by kernel_rfl,by kernel_rfl,by kernel_rfl,by kernel_rfl,by kernel_rfl,by kernel_rfl,by kernel_rfl,by kernel_rfl,by kernel_rfl,by kernel_rfl,by kernel_rfl,by kernel_rfl,by kernel_rfl,by kernel_rfl,by kernel_rfl,by kernel_rfl,by kernel_rfl,by kernel_rfl,by kernel_rfl,by kernel_rfl,by kernel_rfl,trivial⟩

theorem ok3_t (x0:(List Int)) (x0':(List Int)) (x1:Int) (x1':Int) (x2:Int) (x2':Int):TrOk (PureRuns Go.Proofs.Try.prog (kf22 Go.Proofs.Try.prog).orc 3 as3 rs3 ((x0,x0',()),(x1,x1',()),(x2,x2',()),())) (t3 x0 x0' x1 x1' x2 x2') :=
  Walks.ok (fun _ _ _=>PureRuns.of) (wk3 x0 x0' x1 x1' x2 x2') (by kernel_rfl)

theorem ok3:PureOk Go.Proofs.Try.prog 3 p3:=pureOk_of kf22_ok.base (T:=fun (d:Tys.data as3)=>t3 d.1.1 d.1.2.1 d.2.1.1 d.2.1.2.1 d.2.2.1.1 d.2.2.1.2.1) (by kernel_rfl) (fun (d:Tys.data as3)=>ok3_t d.1.1 d.1.2.1 d.2.1.1 d.2.1.2.1 d.2.2.1.1 d.2.2.1.2.1)

end Go.Vm.Mo
