import Derived.Test.YtkhlccjbpejpjaaGreatA4
import Derived.KernelRfl
import Derived.Test.YtkhlccjbpejpjaaGreatProg
import Derived.Test.YtkhlccjbpejpjaaGreatRsFb
set_option linter.unusedVariables false
set_option linter.unusedSimpArgs false

namespace Go.Vm.Mo
open Go
set_option linter.unusedVariables false

/-! loop 0 of ductility/ductilitybase.subDigits -/

abbrev sh120_0:Sh:={ n:=35,slots:=[0,1,5,6,7],pats:=[.ty (.slice (.int .i64)),.ty (.slice (.int .i64)),.acc (.int .i64),.ty (.int .i64),.ty (.int .i64)],boxes:=[] }
abbrev shb120_0:Sh:={ n:=35,slots:=[5],pats:=[.acc (.int .i64)],boxes:=[] }
abbrev shr120_0:Sh:={ n:=35,slots:=[],pats:=[],boxes:=[] }

def t120_0 (x0:(List Int)) (x1:(List Int)) (x2:(List Int)) (x3:Int) (x4:Int):Tr (Out sh120_0.data shb120_0.data shr120_0.data) :=
  Tr.test ((!leF (↑(List.length x0):Int) x4:Bool))
    (Tr.test (decide ((0:Int) ≤ x4) && decide (x4 < (↑(List.length x0):Int)))
      (Tr.test (Option.isSome (f131 (x1,(x4,()))))
        (let r0:=g131 (x1,(x4,()));
        Tr.test ((!leF (0:Int) (wrap64 (wrap64 (List.getD x0 (Int.toNat x4) (0:Int) - r0.1) - x3)):Bool))
          (Tr.test ((Nat.ble (((2:Nat) * (List.length x2 + (1:Nat)) + (192:Nat)) * (8:Nat)) (281474976710656:Nat) && Nat.ble (List.length x2 + (1:Nat)) (281474976710656:Nat):Bool))
            (Tr.fin (.again ((x0,(x1,((x2++[wrap64 (wrap64 (wrap64 (List.getD x0 (Int.toNat x4) (0:Int) - r0.1) - x3) + (1000000000:Int))]:List Int),((1:Int),((wrap64 (x4 + (1:Int)):Int),()))))),())))
            (Tr.stop))
          (Tr.test ((Nat.ble (((2:Nat) * (List.length x2 + (1:Nat)) + (192:Nat)) * (8:Nat)) (281474976710656:Nat) && Nat.ble (List.length x2 + (1:Nat)) (281474976710656:Nat):Bool))
            (Tr.fin (.again ((x0,(x1,((x2++[wrap64 (wrap64 (List.getD x0 (Int.toNat x4) (0:Int) - r0.1) - x3)]:List Int),((0:Int),((wrap64 (x4 + (1:Int)):Int),()))))),())))
            (Tr.stop)))
        (Tr.stop))
      (Tr.stop))
    (Tr.fin (.brk ((x2,()),())))

def s120_0 (d:sh120_0.data):Option (Out sh120_0.data shb120_0.data shr120_0.data):=(t120_0 d.1.1 d.1.2.1 d.1.2.2.1 d.1.2.2.2.1 d.1.2.2.2.2.1).val
def l120_0 (d:sh120_0.data):Option (shb120_0.data ⊕ shr120_0.data):=itr s120_0 rounds d
def b120_0 (d:sh120_0.data):shb120_0.data:=outB shb120_0.dflt (l120_0 d)
def lc120_0:LoopC:=lcB sh120_0 shb120_0 shr120_0 l120_0 b120_0

theorem wk120_0 (x0:(List Int)) (x1:(List Int)) (x2:(List Int)) (x3:Int) (x4:Int):Walks (runBody (kf131 Go.Proofs.Tryz.prog).orc Go.Proofs.Tryz.prog 400 120 0 sh120_0 shb120_0 shr120_0 ((x0,x1,x2,x3,x4,()),())) (t120_0 x0 x1 x2 x3 x4) [([true,true,true,true,true],[1,2,0,4,6,8,10]),([true,true,true,false,true],[1,2,0,4,6,8,10]),([ff],[2])] :=
  ⟨by kernel_rfl,by kernel_rfl,by kernel_rfl,trivial⟩

theorem ok120_0_t (x0:(List Int)) (x1:(List Int)) (x2:(List Int)) (x3:Int) (x4:Int):TrOk (BodyRuns Go.Proofs.Tryz.prog (kf131 Go.Proofs.Tryz.prog).orc 120 0 sh120_0 shb120_0 shr120_0 ((x0,x1,x2,x3,x4,()),())) (t120_0 x0 x1 x2 x3 x4) :=
  Walks.ok (fun _ _ _=>BodyRuns.of) (wk120_0 x0 x1 x2 x3 x4) (by kernel_rfl)

theorem ok120_0:LoopOk Go.Proofs.Tryz.prog 120 0 lc120_0:=loopOk_ofB (sh:=sh120_0) (shB:=shb120_0) (shR:=shr120_0) kf131_ok.base (T:=fun (d:sh120_0.data)=>t120_0 d.1.1 d.1.2.1 d.1.2.2.1 d.1.2.2.2.1 d.1.2.2.2.2.1) (by kernel_rfl) rfl (fun (d:sh120_0.data)=>ok120_0_t d.1.1 d.1.2.1 d.1.2.2.1 d.1.2.2.2.1 d.1.2.2.2.2.1) (fun _=>rfl)
def kl120_0 (P:Go.Program):Known:=(kf131 P).loop 120 0 lc120_0
theorem kl120_0_ok:KnownOk Go.Proofs.Tryz.prog (kl120_0 Go.Proofs.Tryz.prog):=kf131_ok.loop ok120_0

/-! ductility/ductilitybase.subDigits -/

abbrev as120:List Ty:=[(.slice (.int .i64)),(.slice (.int .i64))]
abbrev rs120:List Ty:=[(.slice (.int .i64))]

def t120 (x0:(List Int)) (x1:(List Int)):Tr (Tys.data rs120) :=
  Tr.test (isBrk (l120_0 ((x0,(x1,(([]:List Int),((0:Int),((0:Int),()))))),())))
    (let r0:=b120_0 ((x0,(x1,(([]:List Int),((0:Int),((0:Int),()))))),());
    Tr.test (Option.isSome (f122 (r0.1.1,())))
      (let r1:=g122 (r0.1.1,());
      Tr.fin ((r1.1,())))
      (Tr.stop))
    (Tr.stop)

def f120 (d:Tys.data as120):Option (Tys.data rs120):=(t120 d.1 d.2.1).val
def g120 (d:Tys.data as120):Tys.data rs120:=(f120 d).getD (Tys.dflt rs120)
def p120:PureC:=pcOf as120 rs120 f120 g120

theorem wk120 (x0:(List Int)) (x1:(List Int)):Walks (runPure (kl120_0 Go.Proofs.Tryz.prog).orc Go.Proofs.Tryz.prog 400 120 as120 rs120 (x0,x1,())) (t120 x0 x1) [([true,true],[2,1,4])] :=
  ⟨by kernel_rfl,trivial⟩

theorem ok120_t (x0:(List Int)) (x1:(List Int)):TrOk (PureRuns Go.Proofs.Tryz.prog (kl120_0 Go.Proofs.Tryz.prog).orc 120 as120 rs120 (x0,x1,())) (t120 x0 x1) :=
  Walks.ok (fun _ _ _=>PureRuns.of) (wk120 x0 x1) (by kernel_rfl)

theorem ok120:PureOk Go.Proofs.Tryz.prog 120 p120:=pureOk_of kl120_0_ok.base (T:=fun (d:Tys.data as120)=>t120 d.1 d.2.1) (by kernel_rfl) (fun (d:Tys.data as120)=>ok120_t d.1 d.2.1)
def kf120 (P:Go.Program):Known:=(kl120_0 P).func 120 p120
theorem kf120_ok:KnownOk Go.Proofs.Tryz.prog (kf120 Go.Proofs.Tryz.prog):=kl120_0_ok.func ok120

/-! loop 0 of ductility/ductilitybase.addDigits -/

abbrev sh118_0:Sh:={ n:=42,slots:=[0,1,5,6,7],pats:=[.ty (.slice (.int .i64)),.ty (.slice (.int .i64)),.acc (.int .i64),.ty (.int .i64),.ty (.int .i64)],boxes:=[] }
abbrev shb118_0:Sh:={ n:=42,slots:=[5],pats:=[.acc (.int .i64)],boxes:=[] }
abbrev shr118_0:Sh:={ n:=42,slots:=[],pats:=[],boxes:=[] }

def t118_0 (x0:(List Int)) (x1:(List Int)) (x2:(List Int)) (x3:Int) (x4:Int):Tr (Out sh118_0.data shb118_0.data shr118_0.data) :=
  Tr.test ((!leF (↑(List.length x0):Int) x4:Bool))
    (Tr.test (Option.isSome (f131 (x0,(x4,()))))
      (Tr.test (Option.isSome (f131 (x1,(x4,()))))
        (Tr.test ((Nat.ble (((2:Nat) * (List.length x2 + (1:Nat)) + (192:Nat)) * (8:Nat)) (281474976710656:Nat) && Nat.ble (List.length x2 + (1:Nat)) (281474976710656:Nat):Bool))
          (let r0:=g131 (x0,(x4,()));
          let r1:=g131 (x1,(x4,()));
          Tr.fin (.again ((x0,(x1,((x2++[Int.tmod (wrap64 (wrap64 (r0.1 + r1.1) + x3)) (1000000000:Int)]:List Int),((Go.IntKind.wrap Go.IntKind.i64 (Int.tdiv (wrap64 (wrap64 (r0.1 + r1.1) + x3)) (1000000000:Int)):Int),((wrap64 (x4 + (1:Int)):Int),()))))),())))
          (Tr.stop))
        (Tr.stop))
      (Tr.stop))
    (Tr.test (!leF (↑(List.length x1):Int) x4)
      (Tr.test (Option.isSome (f131 (x0,(x4,()))))
        (Tr.test (Option.isSome (f131 (x1,(x4,()))))
          (Tr.test ((Nat.ble (((2:Nat) * (List.length x2 + (1:Nat)) + (192:Nat)) * (8:Nat)) (281474976710656:Nat) && Nat.ble (List.length x2 + (1:Nat)) (281474976710656:Nat):Bool))
            (let r0:=g131 (x0,(x4,()));
            let r1:=g131 (x1,(x4,()));
            Tr.fin (.again ((x0,(x1,((x2++[Int.tmod (wrap64 (wrap64 (r0.1 + r1.1) + x3)) (1000000000:Int)]:List Int),((Go.IntKind.wrap Go.IntKind.i64 (Int.tdiv (wrap64 (wrap64 (r0.1 + r1.1) + x3)) (1000000000:Int)):Int),((wrap64 (x4 + (1:Int)):Int),()))))),())))
            (Tr.stop))
          (Tr.stop))
        (Tr.stop))
      (Tr.test ((!leF x3 0:Bool))
        (Tr.test (Option.isSome (f131 (x0,(x4,()))))
          (Tr.test (Option.isSome (f131 (x1,(x4,()))))
            (Tr.test ((Nat.ble (((2:Nat) * (List.length x2 + (1:Nat)) + (192:Nat)) * (8:Nat)) (281474976710656:Nat) && Nat.ble (List.length x2 + (1:Nat)) (281474976710656:Nat):Bool))
              (let r0:=g131 (x0,(x4,()));
              let r1:=g131 (x1,(x4,()));
              Tr.fin (.again ((x0,(x1,((x2++[Int.tmod (wrap64 (wrap64 (r0.1 + r1.1) + x3)) (1000000000:Int)]:List Int),((Go.IntKind.wrap Go.IntKind.i64 (Int.tdiv (wrap64 (wrap64 (r0.1 + r1.1) + x3)) (1000000000:Int)):Int),((wrap64 (x4 + (1:Int)):Int),()))))),())))
              (Tr.stop))
            (Tr.stop))
          (Tr.stop))
        (Tr.fin (.brk ((x2,()),())))))

def s118_0 (d:sh118_0.data):Option (Out sh118_0.data shb118_0.data shr118_0.data):=(t118_0 d.1.1 d.1.2.1 d.1.2.2.1 d.1.2.2.2.1 d.1.2.2.2.2.1).val
def l118_0 (d:sh118_0.data):Option (shb118_0.data ⊕ shr118_0.data):=itr s118_0 rounds d
def b118_0 (d:sh118_0.data):shb118_0.data:=outB shb118_0.dflt (l118_0 d)
def lc118_0:LoopC:=lcB sh118_0 shb118_0 shr118_0 l118_0 b118_0

theorem wk118_0 (x0:(List Int)) (x1:(List Int)) (x2:(List Int)) (x3:Int) (x4:Int):Walks (runBody (kf120 Go.Proofs.Tryz.prog).orc Go.Proofs.Tryz.prog 400 118 0 sh118_0 shb118_0 shr118_0 ((x0,x1,x2,x3,x4,()),())) (t118_0 x0 x1 x2 x3 x4) [([true,true,true,true],[0,1,2,0,0,4,6,1,1,1,1,8,8,8,8,8]),([false,true,true,true,true],[0,1,2,0,0,4,6,1,8,8,8,10,10,10,10,10]),([false,false,true,true,true,true],[0,1,2,0,0,4,6,8,10,10,10,12,12,12,12,12]),([false,false,false],[2,4,4,4,6,6,6,6,6])] :=
  ⟨by kernel_rfl,by kernel_rfl,by kernel_rfl,by kernel_rfl,trivial⟩

theorem ok118_0_t (x0:(List Int)) (x1:(List Int)) (x2:(List Int)) (x3:Int) (x4:Int):TrOk (BodyRuns Go.Proofs.Tryz.prog (kf120 Go.Proofs.Tryz.prog).orc 118 0 sh118_0 shb118_0 shr118_0 ((x0,x1,x2,x3,x4,()),())) (t118_0 x0 x1 x2 x3 x4) :=
  Walks.ok (fun _ _ _=>BodyRuns.of) (wk118_0 x0 x1 x2 x3 x4) (by kernel_rfl)

theorem ok118_0:LoopOk Go.Proofs.Tryz.prog 118 0 lc118_0:=loopOk_ofB (sh:=sh118_0) (shB:=shb118_0) (shR:=shr118_0) kf120_ok.base (T:=fun (d:sh118_0.data)=>t118_0 d.1.1 d.1.2.1 d.1.2.2.1 d.1.2.2.2.1 d.1.2.2.2.2.1) (by kernel_rfl) rfl (fun (d:sh118_0.data)=>ok118_0_t d.1.1 d.1.2.1 d.1.2.2.1 d.1.2.2.2.1 d.1.2.2.2.2.1) (fun _=>rfl)
def kl118_0 (P:Go.Program):Known:=(kf120 P).loop 118 0 lc118_0
theorem kl118_0_ok:KnownOk Go.Proofs.Tryz.prog (kl118_0 Go.Proofs.Tryz.prog):=kf120_ok.loop ok118_0

/-! ductility/ductilitybase.addDigits -/

abbrev as118:List Ty:=[(.slice (.int .i64)),(.slice (.int .i64))]
abbrev rs118:List Ty:=[(.slice (.int .i64))]

def t118 (x0:(List Int)) (x1:(List Int)):Tr (Tys.data rs118) :=
  Tr.test (isBrk (l118_0 ((x0,(x1,(([]:List Int),((0:Int),((0:Int),()))))),())))
    (let r0:=b118_0 ((x0,(x1,(([]:List Int),((0:Int),((0:Int),()))))),());
    Tr.fin ((r0.1.1,())))
    (Tr.stop)

def f118 (d:Tys.data as118):Option (Tys.data rs118):=(t118 d.1 d.2.1).val
def g118 (d:Tys.data as118):Tys.data rs118:=(f118 d).getD (Tys.dflt rs118)
def p118:PureC:=pcOf as118 rs118 f118 g118

theorem wk118 (x0:(List Int)) (x1:(List Int)):Walks (runPure (kl118_0 Go.Proofs.Tryz.prog).orc Go.Proofs.Tryz.prog 400 118 as118 rs118 (x0,x1,())) (t118 x0 x1) [([tt],[1,2])] :=
  ⟨by kernel_rfl,trivial⟩

theorem ok118_t (x0:(List Int)) (x1:(List Int)):TrOk (PureRuns Go.Proofs.Tryz.prog (kl118_0 Go.Proofs.Tryz.prog).orc 118 as118 rs118 (x0,x1,())) (t118 x0 x1) :=
  Walks.ok (fun _ _ _=>PureRuns.of) (wk118 x0 x1) (by kernel_rfl)

theorem ok118:PureOk Go.Proofs.Tryz.prog 118 p118:=pureOk_of kl118_0_ok.base (T:=fun (d:Tys.data as118)=>t118 d.1 d.2.1) (by kernel_rfl) (fun (d:Tys.data as118)=>ok118_t d.1 d.2.1)
def kf118 (P:Go.Program):Known:=(kl118_0 P).func 118 p118
theorem kf118_ok:KnownOk Go.Proofs.Tryz.prog (kf118 Go.Proofs.Tryz.prog):=kl118_0_ok.func ok118

/-! ductility/ductilitybase.WideAdd -/

abbrev as97:List Ty:=[(.pair (.int .i64) (.pair (.slice (.int .i64)) .unit)),(.pair (.int .i64) (.pair (.slice (.int .i64)) .unit))]
abbrev rs97:List Ty:=[(.pair (.int .i64) (.pair (.slice (.int .i64)) .unit))]

def t97 (x0:Int) (x0':(List Int)) (x1:Int) (x1':(List Int)):Tr (Tys.data rs97) :=
  Tr.test ((eqF x0 0:Bool))
    (Tr.fin (((x1,(x1',())),())))
    (Tr.test (eqF x1 0)
      (Tr.fin (((x0,(x0',())),())))
      (Tr.test ((eqF x0 x1:Bool))
        (Tr.test (Option.isSome (f118 (x0',(x1',()))))
          (let r0:=g118 (x0',(x1',()));
          Tr.test (Option.isSome (f100 (x0,(r0.1,()))))
            (let r1:=g100 (x0,(r0.1,()));
            Tr.fin (((r1.1.1,(r1.1.2.1,())),())))
            (Tr.stop))
          (Tr.stop))
        (Tr.test (Option.isSome (f119 (x0',(x1',()))))
          (let r2:=g119 (x0',(x1',()));
          Tr.test ((eqF r2.1 0:Bool))
            (Tr.fin ((((0:Int),(([]:List Int),())),())))
            (Tr.test ((!leF r2.1 0:Bool))
              (Tr.test (Option.isSome (f120 (x0',(x1',()))))
                (let r3:=g120 (x0',(x1',()));
                Tr.test (Option.isSome (f100 (x0,(r3.1,()))))
                  (let r4:=g100 (x0,(r3.1,()));
                  Tr.fin (((r4.1.1,(r4.1.2.1,())),())))
                  (Tr.stop))
                (Tr.stop))
              (Tr.test (Option.isSome (f120 (x1',(x0',()))))
                (let r5:=g120 (x1',(x0',()));
                Tr.test (Option.isSome (f100 (x1,(r5.1,()))))
                  (let r6:=g100 (x1,(r5.1,()));
                  Tr.fin (((r6.1.1,(r6.1.2.1,())),())))
                  (Tr.stop))
                (Tr.stop))))
          (Tr.stop))))

def f97 (d:Tys.data as97):Option (Tys.data rs97):=(t97 d.1.1 d.1.2.1 d.2.1.1 d.2.1.2.1).val
def g97 (d:Tys.data as97):Tys.data rs97:=(f97 d).getD (Tys.dflt rs97)
def p97:PureC:=pcOf as97 rs97 f97 g97

theorem wk97 (x0:Int) (x0':(List Int)) (x1:Int) (x1':(List Int)):Walks (runPure (kf118 Go.Proofs.Tryz.prog).orc Go.Proofs.Tryz.prog 400 97 as97 rs97 ((x0,x0',()),(x1,x1',()),())) (t97 x0 x0' x1 x1') [([tt],[2]),([false,true],[2,4]),([false,false,true,true,true],[2,4,6,8,10]),([false,false,false,true,true],[2,4,6,8,10]),([false,false,false,true,false,true,true,true],[2,4,6,8,10,12,14,16]),([false,false,false,true,false,false,true,true],[2,4,6,8,10,12,14,16])] :=
  ⟨by kernel_rfl,by kernel_rfl,by kernel_rfl,by kernel_rfl,by kernel_rfl,by kernel_rfl,trivial⟩

theorem ok97_t (x0:Int) (x0':(List Int)) (x1:Int) (x1':(List Int)):TrOk (PureRuns Go.Proofs.Tryz.prog (kf118 Go.Proofs.Tryz.prog).orc 97 as97 rs97 ((x0,x0',()),(x1,x1',()),())) (t97 x0 x0' x1 x1') :=
  Walks.ok (fun _ _ _=>PureRuns.of) (wk97 x0 x0' x1 x1') (by kernel_rfl)

theorem ok97:PureOk Go.Proofs.Tryz.prog 97 p97:=pureOk_of kf118_ok.base (T:=fun (d:Tys.data as97)=>t97 d.1.1 d.1.2.1 d.2.1.1 d.2.1.2.1) (by kernel_rfl) (fun (d:Tys.data as97)=>ok97_t d.1.1 d.1.2.1 d.2.1.1 d.2.1.2.1)
def kf97 (P:Go.Program):Known:=(kf118 P).func 97 p97
theorem kf97_ok:KnownOk Go.Proofs.Tryz.prog (kf97 Go.Proofs.Tryz.prog):=kf118_ok.func ok97

/-! ductility/ductilitybase.WideSub -/

abbrev as96:List Ty:=[(.pair (.int .i64) (.pair (.slice (.int .i64)) .unit)),(.pair (.int .i64) (.pair (.slice (.int .i64)) .unit))]
abbrev rs96:List Ty:=[(.pair (.int .i64) (.pair (.slice (.int .i64)) .unit))]

def t96 (x0:Int) (x0':(List Int)) (x1:Int) (x1':(List Int)):Tr (Tys.data rs96) :=
  Tr.test (Option.isSome (f117 ((x1,(x1',())),())))
    (let r0:=g117 ((x1,(x1',())),());
    Tr.test (Option.isSome (f97 ((x0,(x0',())),((r0.1.1,(r0.1.2.1,())),()))))
      (let r1:=g97 ((x0,(x0',())),((r0.1.1,(r0.1.2.1,())),()));
      Tr.fin (((r1.1.1,(r1.1.2.1,())),())))
      (Tr.stop))
    (Tr.stop)

def f96 (d:Tys.data as96):Option (Tys.data rs96):=(t96 d.1.1 d.1.2.1 d.2.1.1 d.2.1.2.1).val
def g96 (d:Tys.data as96):Tys.data rs96:=(f96 d).getD (Tys.dflt rs96)
def p96:PureC:=pcOf as96 rs96 f96 g96

theorem wk96 (x0:Int) (x0':(List Int)) (x1:Int) (x1':(List Int)):Walks (runPure (kf97 Go.Proofs.Tryz.prog).orc Go.Proofs.Tryz.prog 400 96 as96 rs96 ((x0,x0',()),(x1,x1',()),())) (t96 x0 x0' x1 x1') [([true,true],[2,4])] :=
  ⟨by kernel_rfl,trivial⟩

theorem ok96_t (x0:Int) (x0':(List Int)) (x1:Int) (x1':(List Int)):TrOk (PureRuns Go.Proofs.Tryz.prog (kf97 Go.Proofs.Tryz.prog).orc 96 as96 rs96 ((x0,x0',()),(x1,x1',()),())) (t96 x0 x0' x1 x1') :=
  Walks.ok (fun _ _ _=>PureRuns.of) (wk96 x0 x0' x1 x1') (by kernel_rfl)

theorem ok96:PureOk Go.Proofs.Tryz.prog 96 p96:=pureOk_of kf97_ok.base (T:=fun (d:Tys.data as96)=>t96 d.1.1 d.1.2.1 d.2.1.1 d.2.1.2.1) (by kernel_rfl) (fun (d:Tys.data as96)=>ok96_t d.1.1 d.1.2.1 d.2.1.1 d.2.1.2.1)
def kf96 (P:Go.Program):Known:=(kf97 P).func 96 p96
theorem kf96_ok:KnownOk Go.Proofs.Tryz.prog (kf96 Go.Proofs.Tryz.prog):=kf97_ok.func ok96

/-! loop 2 of ductility/ductilitybase.WideFloor -/

abbrev sh124_2:Sh:={ n:=88,slots:=[2,3,4,5,6,7,8,9],pats:=[.ptr 0 2 0,.ptr 1 2 0,.ptr 2 2 0,.sli 3 1,.ty (.slice (.int .i64)),.ty (.int .i64),.ty (.int .i64),.ty (.int .i64)],boxes:=[.row [.ty (.int .i64),.ty (.slice (.int .i64))],.row [.ty (.int .i64),.ty (.slice (.int .i64))],.row [.ty (.int .i64),.nil],.arr (.int .i64)] }
abbrev shb124_2:Sh:={ n:=88,slots:=[2,3,4,5,6,7,8],pats:=[.ptr 0 2 0,.ptr 1 2 0,.ptr 2 2 0,.sli 3 1,.ty (.slice (.int .i64)),.ty (.int .i64),.ty (.int .i64)],boxes:=[.row [.ty (.int .i64),.ty (.slice (.int .i64))],.row [.ty (.int .i64),.ty (.slice (.int .i64))],.row [.ty (.int .i64),.nil],.arr (.int .i64)] }
abbrev shr124_2:Sh:={ n:=88,slots:=[],pats:=[],boxes:=[.row [.ty (.int .i64),.ty (.slice (.int .i64))],.row [.ty (.int .i64),.ty (.slice (.int .i64))],.row [.ty (.int .i64),.nil],.arr (.int .i64)] }

def t124_2 (x3n:Nat) (x3c:Nat) (x4:(List Int)) (x5:Int) (x6:Int) (x7:Int) (b0_0:Int) (b0_1:(List Int)) (b1_0:Int) (b1_1:(List Int)) (b2_0:Int) (b3:(List Int)):Tr (Out sh124_2.data shb124_2.data shr124_2.data) :=
  Tr.test ((!leF x7 x6:Bool))
    (Tr.test (Option.isSome (f100 ((1:Int),(b1_1,()))))
      (Tr.test (Option.isSome (f98 ((Go.IntKind.wrap Go.IntKind.i64 (Int.tdiv (wrap64 (wrap64 (x6 + x7) + (1:Int))) (2:Int)):Int),())))
        (let r0:=g100 ((1:Int),(b1_1,()));
        let r1:=g98 ((Go.IntKind.wrap Go.IntKind.i64 (Int.tdiv (wrap64 (wrap64 (x6 + x7) + (1:Int))) (2:Int)):Int),());
        Tr.test (Option.isSome (f74 ((r0.1.1,(r0.1.2.1,())),((r1.1.1,(r1.1.2.1,())),()))))
          (let r2:=g74 ((r0.1.1,(r0.1.2.1,())),((r1.1.1,(r1.1.2.1,())),()));
          Tr.test (Option.isSome (f119 (r2.1.2.1,(x4,()))))
            (let r3:=g119 (r2.1.2.1,(x4,()));
            Tr.test ((leF r3.1 0:Bool))
              (Tr.fin (.again (((x3n,x3c),(x4,(x5,((Go.IntKind.wrap Go.IntKind.i64 (Int.tdiv (wrap64 (wrap64 (x6 + x7) + (1:Int))) (2:Int)):Int),(x7,()))))),((b0_0,(b0_1,())),((b1_0,(b1_1,())),((b2_0,()),(b3,())))))))
              (Tr.fin (.again (((x3n,x3c),(x4,(x5,(x6,((wrap64 (Go.IntKind.wrap Go.IntKind.i64 (Int.tdiv (wrap64 (wrap64 (x6 + x7) + (1:Int))) (2:Int)) - (1:Int)):Int),()))))),((b0_0,(b0_1,())),((b1_0,(b1_1,())),((b2_0,()),(b3,()))))))))
            (Tr.stop))
          (Tr.stop))
        (Tr.stop))
      (Tr.stop))
    (Tr.fin (.brk (((x3n,x3c),(x4,(x5,(x6,())))),((b0_0,(b0_1,())),((b1_0,(b1_1,())),((b2_0,()),(b3,())))))))

def s124_2 (d:sh124_2.data):Option (Out sh124_2.data shb124_2.data shr124_2.data):=(t124_2 d.1.1.1 d.1.1.2 d.1.2.1 d.1.2.2.1 d.1.2.2.2.1 d.1.2.2.2.2.1 d.2.1.1 d.2.1.2.1 d.2.2.1.1 d.2.2.1.2.1 d.2.2.2.1.1 d.2.2.2.2.1).val
def l124_2 (d:sh124_2.data):Option (shb124_2.data ⊕ shr124_2.data):=itr s124_2 rounds d
def b124_2 (d:sh124_2.data):shb124_2.data:=outB shb124_2.dflt (l124_2 d)
def lc124_2:LoopC:=lcB sh124_2 shb124_2 shr124_2 l124_2 b124_2

theorem wk124_2 (x3n:Nat) (x3c:Nat) (x4:(List Int)) (x5:Int) (x6:Int) (x7:Int) (b0_0:Int) (b0_1:(List Int)) (b1_0:Int) (b1_1:(List Int)) (b2_0:Int) (b3:(List Int)):Walks (runBody (kf96 Go.Proofs.Tryz.prog).orc Go.Proofs.Tryz.prog 400 124 2 sh124_2 shb124_2 shr124_2 (((x3n,x3c),x4,x5,x6,x7,()),(b0_0,b0_1,()),(b1_0,b1_1,()),(b2_0,()),b3,())) (t124_2 x3n x3c x4 x5 x6 x7 b0_0 b0_1 b1_0 b1_1 b2_0 b3) [([true,true,true,true,true,true],[2,4,6,8,10,0,12]),([true,true,true,true,true,false],[2,4,6,8,10,0,12]),([ff],[2])] :=
  ⟨by kernel_rfl,by kernel_rfl,by kernel_rfl,trivial⟩

theorem ok124_2_t (x3n:Nat) (x3c:Nat) (x4:(List Int)) (x5:Int) (x6:Int) (x7:Int) (b0_0:Int) (b0_1:(List Int)) (b1_0:Int) (b1_1:(List Int)) (b2_0:Int) (b3:(List Int)):TrOk (BodyRuns Go.Proofs.Tryz.prog (kf96 Go.Proofs.Tryz.prog).orc 124 2 sh124_2 shb124_2 shr124_2 (((x3n,x3c),x4,x5,x6,x7,()),(b0_0,b0_1,()),(b1_0,b1_1,()),(b2_0,()),b3,())) (t124_2 x3n x3c x4 x5 x6 x7 b0_0 b0_1 b1_0 b1_1 b2_0 b3) :=
  Walks.ok (fun _ _ _=>BodyRuns.of) (wk124_2 x3n x3c x4 x5 x6 x7 b0_0 b0_1 b1_0 b1_1 b2_0 b3) (by kernel_rfl)

theorem ok124_2:LoopOk Go.Proofs.Tryz.prog 124 2 lc124_2:=loopOk_ofB (sh:=sh124_2) (shB:=shb124_2) (shR:=shr124_2) kf96_ok.base (T:=fun (d:sh124_2.data)=>t124_2 d.1.1.1 d.1.1.2 d.1.2.1 d.1.2.2.1 d.1.2.2.2.1 d.1.2.2.2.2.1 d.2.1.1 d.2.1.2.1 d.2.2.1.1 d.2.2.1.2.1 d.2.2.2.1.1 d.2.2.2.2.1) (by kernel_rfl) rfl (fun (d:sh124_2.data)=>ok124_2_t d.1.1.1 d.1.1.2 d.1.2.1 d.1.2.2.1 d.1.2.2.2.1 d.1.2.2.2.2.1 d.2.1.1 d.2.1.2.1 d.2.2.1.1 d.2.2.1.2.1 d.2.2.2.1.1 d.2.2.2.2.1) (fun _=>rfl)
def kl124_2 (P:Go.Program):Known:=(kf96 P).loop 124 2 lc124_2
theorem kl124_2_ok:KnownOk Go.Proofs.Tryz.prog (kl124_2 Go.Proofs.Tryz.prog):=kf96_ok.loop ok124_2

/-! loop 0 of ductility/ductilitybase.WideFloor -/

abbrev sh124_0:Sh:={ n:=88,slots:=[2,3,4,5,6,7],pats:=[.ptr 0 2 0,.ptr 1 2 0,.ptr 2 2 0,.sli 3 1,.ty (.slice (.int .i64)),.ty (.int .i64)],boxes:=[.row [.ty (.int .i64),.ty (.slice (.int .i64))],.row [.ty (.int .i64),.ty (.slice (.int .i64))],.row [.ty (.int .i64),.nil],.arr (.int .i64)] }
abbrev shb124_0:Sh:={ n:=88,slots:=[2,4,5,6],pats:=[.ptr 0 2 0,.ptr 2 2 0,.sli 3 1,.ty (.slice (.int .i64))],boxes:=[.row [.ty (.int .i64),.ty (.slice (.int .i64))],.row [.ty (.int .i64),.ty (.slice (.int .i64))],.row [.ty (.int .i64),.nil],.arr (.int .i64)] }
abbrev shr124_0:Sh:={ n:=88,slots:=[],pats:=[],boxes:=[.row [.ty (.int .i64),.ty (.slice (.int .i64))],.row [.ty (.int .i64),.ty (.slice (.int .i64))],.row [.ty (.int .i64),.nil],.arr (.int .i64)] }

def t124_0 (x3n:Nat) (x3c:Nat) (x4:(List Int)) (x5:Int) (b0_0:Int) (b0_1:(List Int)) (b1_0:Int) (b1_1:(List Int)) (b2_0:Int) (b3:(List Int)):Tr (Out sh124_0.data shb124_0.data shr124_0.data) :=
  Tr.test ((leF (0:Int) x5:Bool))
    (Tr.test (decide ((0:Int) ≤ x5) && decide (x5 < (↑(List.length b0_1):Int)))
      (Tr.test ((Nat.beq (List.length x4) (0:Nat):Bool))
        (Tr.test (Option.isSome (f122 (([List.getD b0_1 (Int.toNat x5) (0:Int)]:List Int),())))
          (let r0:=g122 (([List.getD b0_1 (Int.toNat x5) (0:Int)]:List Int),());
          Tr.test (isBrk (l124_2 (((x3n,x3c),(r0.1,(x5,((0:Int),((999999999:Int),()))))),((b0_0,(b0_1,())),((b1_0,(b1_1,())),((b2_0,()),(b3,())))))))
            (let r2:=b124_2 (((x3n,x3c),(r0.1,(x5,((0:Int),((999999999:Int),()))))),((b0_0,(b0_1,())),((b1_0,(b1_1,())),((b2_0,()),(b3,())))));
            Tr.test ((decide ((0:Int) ≤ r2.1.2.2.1) && decide (r2.1.2.2.1 < (↑r2.1.1.1:Int)):Bool))
              (Tr.test ((Nat.ble ((0:Nat) + Int.toNat r2.1.2.2.1 + (1:Nat)) (List.length r2.2.2.2.2.1):Bool))
                (Tr.test (Option.isSome (f100 ((1:Int),(r2.2.2.1.2.1,()))))
                  (Tr.test (Option.isSome (f98 (r2.1.2.2.2.1,())))
                    (let r3:=g100 ((1:Int),(r2.2.2.1.2.1,()));
                    let r4:=g98 (r2.1.2.2.2.1,());
                    Tr.test (Option.isSome (f74 ((r3.1.1,(r3.1.2.1,())),((r4.1.1,(r4.1.2.1,())),()))))
                      (let r5:=g74 ((r3.1.1,(r3.1.2.1,())),((r4.1.1,(r4.1.2.1,())),()));
                      Tr.test (Option.isSome (f120 (r2.1.2.1,(r5.1.2.1,()))))
                        (let r6:=g120 (r2.1.2.1,(r5.1.2.1,()));
                        Tr.fin (.again (((r2.1.1.1,r2.1.1.2),(r6.1,((wrap64 (r2.1.2.2.1 - (1:Int)):Int),()))),((r2.2.1.1,(r2.2.1.2.1,())),((r2.2.2.1.1,(r2.2.2.1.2.1,())),((r2.2.2.2.1.1,()),((List.set r2.2.2.2.2.1 ((0:Nat) + Int.toNat r2.1.2.2.1) r2.1.2.2.2.1:List Int),())))))))
                        (Tr.stop))
                      (Tr.stop))
                    (Tr.stop))
                  (Tr.stop))
                (Tr.stop))
              (Tr.stop))
            (Tr.stop))
          (Tr.stop))
        (Tr.test ((Nat.ble ((1:Nat) + List.length x4) (1:Nat):Bool))
          (Tr.stop)
          (Tr.test ((Nat.ble (((2:Nat) * ((1:Nat) + List.length x4) + (192:Nat)) * (8:Nat)) (281474976710656:Nat) && Nat.ble ((1:Nat) + List.length x4) (281474976710656:Nat):Bool))
            (Tr.test ((Nat.beq ((1:Nat) + List.length x4) (List.length ([List.getD b0_1 (Int.toNat x5) (0:Int)]++x4)):Bool))
              (Tr.test (Option.isSome (f122 (([List.getD b0_1 (Int.toNat x5) (0:Int)]++x4:List Int),())))
                (let r1:=g122 (([List.getD b0_1 (Int.toNat x5) (0:Int)]++x4:List Int),());
                Tr.test (isBrk (l124_2 (((x3n,x3c),(r1.1,(x5,((0:Int),((999999999:Int),()))))),((b0_0,(b0_1,())),((b1_0,(b1_1,())),((b2_0,()),(b3,())))))))
                  (let r7:=b124_2 (((x3n,x3c),(r1.1,(x5,((0:Int),((999999999:Int),()))))),((b0_0,(b0_1,())),((b1_0,(b1_1,())),((b2_0,()),(b3,())))));
                  Tr.test ((decide ((0:Int) ≤ r7.1.2.2.1) && decide (r7.1.2.2.1 < (↑r7.1.1.1:Int)):Bool))
                    (Tr.test ((Nat.ble ((0:Nat) + Int.toNat r7.1.2.2.1 + (1:Nat)) (List.length r7.2.2.2.2.1):Bool))
                      (Tr.test (Option.isSome (f100 ((1:Int),(r7.2.2.1.2.1,()))))
                        (Tr.test (Option.isSome (f98 (r7.1.2.2.2.1,())))
                          (let r8:=g100 ((1:Int),(r7.2.2.1.2.1,()));
                          let r9:=g98 (r7.1.2.2.2.1,());
                          Tr.test (Option.isSome (f74 ((r8.1.1,(r8.1.2.1,())),((r9.1.1,(r9.1.2.1,())),()))))
                            (let r10:=g74 ((r8.1.1,(r8.1.2.1,())),((r9.1.1,(r9.1.2.1,())),()));
                            Tr.test (Option.isSome (f120 (r7.1.2.1,(r10.1.2.1,()))))
                              (let r11:=g120 (r7.1.2.1,(r10.1.2.1,()));
                              Tr.fin (.again (((r7.1.1.1,r7.1.1.2),(r11.1,((wrap64 (r7.1.2.2.1 - (1:Int)):Int),()))),((r7.2.1.1,(r7.2.1.2.1,())),((r7.2.2.1.1,(r7.2.2.1.2.1,())),((r7.2.2.2.1.1,()),((List.set r7.2.2.2.2.1 ((0:Nat) + Int.toNat r7.1.2.2.1) r7.1.2.2.2.1:List Int),())))))))
                              (Tr.stop))
                            (Tr.stop))
                          (Tr.stop))
                        (Tr.stop))
                      (Tr.stop))
                    (Tr.stop))
                  (Tr.stop))
                (Tr.stop))
              (Tr.stop))
            (Tr.stop))))
      (Tr.stop))
    (Tr.fin (.brk (((x3n,x3c),(x4,())),((b0_0,(b0_1,())),((b1_0,(b1_1,())),((b2_0,()),(b3,())))))))

def s124_0 (d:sh124_0.data):Option (Out sh124_0.data shb124_0.data shr124_0.data):=(t124_0 d.1.1.1 d.1.1.2 d.1.2.1 d.1.2.2.1 d.2.1.1 d.2.1.2.1 d.2.2.1.1 d.2.2.1.2.1 d.2.2.2.1.1 d.2.2.2.2.1).val
def l124_0 (d:sh124_0.data):Option (shb124_0.data ⊕ shr124_0.data):=itr s124_0 rounds d
def b124_0 (d:sh124_0.data):shb124_0.data:=outB shb124_0.dflt (l124_0 d)
def lc124_0:LoopC:=lcB sh124_0 shb124_0 shr124_0 l124_0 b124_0

theorem wk124_0 (x3n:Nat) (x3c:Nat) (x4:(List Int)) (x5:Int) (b0_0:Int) (b0_1:(List Int)) (b1_0:Int) (b1_1:(List Int)) (b2_0:Int) (b3:(List Int)):Walks (runBody (kl124_2 Go.Proofs.Tryz.prog).orc Go.Proofs.Tryz.prog 400 124 0 sh124_0 shb124_0 shr124_0 (((x3n,x3c),x4,x5,()),(b0_0,b0_1,()),(b1_0,b1_1,()),(b2_0,()),b3,())) (t124_0 x3n x3c x4 x5 b0_0 b0_1 b1_0 b1_1 b2_0 b3) [([true,true,true,true,true,true,true,true,true,true,true],[2,4,6,8,10,12,1,14,16,1,18,20,22]),([true,true,false,false,true,true,true,true,true,true,true,true,true,true],[2,4,6,8,10,12,1,14,16,18,1,20,22,24,26,28]),([ff],[2])] :=
  ⟨by kernel_rfl,by kernel_rfl,by kernel_rfl,trivial⟩

theorem ok124_0_t (x3n:Nat) (x3c:Nat) (x4:(List Int)) (x5:Int) (b0_0:Int) (b0_1:(List Int)) (b1_0:Int) (b1_1:(List Int)) (b2_0:Int) (b3:(List Int)):TrOk (BodyRuns Go.Proofs.Tryz.prog (kl124_2 Go.Proofs.Tryz.prog).orc 124 0 sh124_0 shb124_0 shr124_0 (((x3n,x3c),x4,x5,()),(b0_0,b0_1,()),(b1_0,b1_1,()),(b2_0,()),b3,())) (t124_0 x3n x3c x4 x5 b0_0 b0_1 b1_0 b1_1 b2_0 b3) :=
  Walks.ok (fun _ _ _=>BodyRuns.of) (wk124_0 x3n x3c x4 x5 b0_0 b0_1 b1_0 b1_1 b2_0 b3) (by kernel_rfl)

theorem ok124_0:LoopOk Go.Proofs.Tryz.prog 124 0 lc124_0:=loopOk_ofB (sh:=sh124_0) (shB:=shb124_0) (shR:=shr124_0) kl124_2_ok.base (T:=fun (d:sh124_0.data)=>t124_0 d.1.1.1 d.1.1.2 d.1.2.1 d.1.2.2.1 d.2.1.1 d.2.1.2.1 d.2.2.1.1 d.2.2.1.2.1 d.2.2.2.1.1 d.2.2.2.2.1) (by kernel_rfl) rfl (fun (d:sh124_0.data)=>ok124_0_t d.1.1.1 d.1.1.2 d.1.2.1 d.1.2.2.1 d.2.1.1 d.2.1.2.1 d.2.2.1.1 d.2.2.1.2.1 d.2.2.2.1.1 d.2.2.2.2.1) (fun _=>rfl)
def kl124_0 (P:Go.Program):Known:=(kl124_2 P).loop 124 0 lc124_0
theorem kl124_0_ok:KnownOk Go.Proofs.Tryz.prog (kl124_0 Go.Proofs.Tryz.prog):=kl124_2_ok.loop ok124_0

/-! ductility/ductilitybase.WideFloor -/

abbrev as124:List Ty:=[(.pair (.int .i64) (.pair (.slice (.int .i64)) .unit)),(.pair (.int .i64) (.pair (.slice (.int .i64)) .unit))]
abbrev rs124:List Ty:=[(.pair (.int .i64) (.pair (.slice (.int .i64)) .unit))]

def t124 (x0:Int) (x0':(List Int)) (x1:Int) (x1':(List Int)):Tr (Tys.data rs124) :=
  Tr.test ((eqF x0 0:Bool))
    (Tr.fin ((((0:Int),(([]:List Int),())),())))
    (Tr.test (decide ((0:Int) ≤ (↑(List.length x0'):Int)) && decide ((↑(List.length x0'):Int) ≤ (↑(List.length x0'):Int)) && decide ((8:Int) * (↑(List.length x0'):Int) ≤ (281474976710656:Int)) && decide ((↑(List.length x0'):Int) ≤ (281474976710656:Int)))
      (Tr.test (isBrk (l124_0 ((((Int.toNat (↑(List.length x0'):Int):Nat),(Int.toNat (↑(List.length x0'):Int):Nat)),(([]:List Int),((wrap64 ((↑(List.length x0'):Int) - (1:Int)):Int),()))),((x0,(x0',())),((x1,(x1',())),(((0:Int),()),((List.replicate (Int.toNat (↑(List.length x0'):Int)) (0:Int):List Int),())))))))
        (let r0:=b124_0 ((((Int.toNat (↑(List.length x0'):Int):Nat),(Int.toNat (↑(List.length x0'):Int):Nat)),(([]:List Int),((wrap64 ((↑(List.length x0'):Int) - (1:Int)):Int),()))),((x0,(x0',())),((x1,(x1',())),(((0:Int),()),((List.replicate (Int.toNat (↑(List.length x0'):Int)) (0:Int):List Int),())))));
        Tr.test ((Nat.beq r0.1.1.1 (List.length r0.2.2.2.2.1):Bool))
          (Tr.test (Option.isSome (f100 (r0.2.1.1,(r0.2.2.2.2.1,()))))
            (Tr.test ((!leF (0:Int) r0.2.1.1:Bool))
              (Tr.test ((!leF (↑(List.length r0.1.2.1):Int) (0:Int):Bool))
                (Tr.test (Option.isSome (f98 ((1:Int),())))
                  (let r1:=g100 (r0.2.1.1,(r0.2.2.2.2.1,()));
                  let r3:=g98 ((1:Int),());
                  Tr.test (Option.isSome (f96 ((r1.1.1,(r1.1.2.1,())),((r3.1.1,(r3.1.2.1,())),()))))
                    (let r4:=g96 ((r1.1.1,(r1.1.2.1,())),((r3.1.1,(r3.1.2.1,())),()));
                    Tr.fin (((r4.1.1,(r4.1.2.1,())),())))
                    (Tr.stop))
                  (Tr.stop))
                (let r1:=g100 (r0.2.1.1,(r0.2.2.2.2.1,()));
                Tr.fin (((r1.1.1,(r1.1.2.1,())),()))))
              (let r1:=g100 (r0.2.1.1,(r0.2.2.2.2.1,()));
              Tr.fin (((r1.1.1,(r1.1.2.1,())),()))))
            (Tr.stop))
          (Tr.test ((Nat.ble r0.1.1.1 (List.length r0.2.2.2.2.1):Bool))
            (Tr.test (Option.isSome (f100 (r0.2.1.1,((List.take r0.1.1.1 r0.2.2.2.2.1:List Int),()))))
              (Tr.test ((!leF (0:Int) r0.2.1.1:Bool))
                (Tr.test ((!leF (↑(List.length r0.1.2.1):Int) (0:Int):Bool))
                  (Tr.test (Option.isSome (f98 ((1:Int),())))
                    (let r2:=g100 (r0.2.1.1,((List.take r0.1.1.1 r0.2.2.2.2.1:List Int),()));
                    let r3:=g98 ((1:Int),());
                    Tr.test (Option.isSome (f96 ((r2.1.1,(r2.1.2.1,())),((r3.1.1,(r3.1.2.1,())),()))))
                      (let r5:=g96 ((r2.1.1,(r2.1.2.1,())),((r3.1.1,(r3.1.2.1,())),()));
                      Tr.fin (((r5.1.1,(r5.1.2.1,())),())))
                      (Tr.stop))
                    (Tr.stop))
                  (let r2:=g100 (r0.2.1.1,((List.take r0.1.1.1 r0.2.2.2.2.1:List Int),()));
                  Tr.fin (((r2.1.1,(r2.1.2.1,())),()))))
                (let r2:=g100 (r0.2.1.1,((List.take r0.1.1.1 r0.2.2.2.2.1:List Int),()));
                Tr.fin (((r2.1.1,(r2.1.2.1,())),()))))
              (Tr.stop))
            (Tr.stop /- a known call [op 3 of region 16 of F124] -/)))
        (Tr.stop))
      (Tr.stop))

def f124 (d:Tys.data as124):Option (Tys.data rs124):=(t124 d.1.1 d.1.2.1 d.2.1.1 d.2.1.2.1).val
def g124 (d:Tys.data as124):Tys.data rs124:=(f124 d).getD (Tys.dflt rs124)
def p124:PureC:=pcOf as124 rs124 f124 g124

theorem wk124 (x0:Int) (x0':(List Int)) (x1:Int) (x1':(List Int)):Walks (runPure (kl124_0 Go.Proofs.Tryz.prog).orc Go.Proofs.Tryz.prog 400 124 as124 rs124 ((x0,x0',()),(x1,x1',()),())) (t124 x0 x0' x1 x1') [([tt],[2]),([false,true,true,true,true,true,true,true,true],[2,4,6,8,8,8,8,10,12,1,14,16,18]),([false,true,true,true,true,true,false],[2,4,4,4,4,6,8,1,10,12,14]),([false,true,true,true,true,false],[0,2,2,2,2,4,6,1,8,10,12]),([false,true,true,false,true,true,true,true,true,true],[2,4,6,8,8,8,8,10,12,14,1,16,18,20]),([false,true,true,false,true,true,true,false],[2,4,4,4,4,6,8,10,1,12,14,16]),([false,true,true,false,true,true,false],[0,2,2,2,2,4,6,8,1,10,12,14])] :=
  ⟨by kernel_rfl,by kernel_rfl,by kernel_rfl,by kernel_rfl,by kernel_rfl,by kernel_rfl,by kernel_rfl,trivial⟩

theorem ok124_t (x0:Int) (x0':(List Int)) (x1:Int) (x1':(List Int)):TrOk (PureRuns Go.Proofs.Tryz.prog (kl124_0 Go.Proofs.Tryz.prog).orc 124 as124 rs124 ((x0,x0',()),(x1,x1',()),())) (t124 x0 x0' x1 x1') :=
  Walks.ok (fun _ _ _=>PureRuns.of) (wk124 x0 x0' x1 x1') (by kernel_rfl)

theorem ok124:PureOk Go.Proofs.Tryz.prog 124 p124:=pureOk_of kl124_0_ok.base (T:=fun (d:Tys.data as124)=>t124 d.1.1 d.1.2.1 d.2.1.1 d.2.1.2.1) (by kernel_rfl) (fun (d:Tys.data as124)=>ok124_t d.1.1 d.1.2.1 d.2.1.1 d.2.1.2.1)
def kf124 (P:Go.Program):Known:=(kl124_0 P).func 124 p124
theorem kf124_ok:KnownOk Go.Proofs.Tryz.prog (kf124 Go.Proofs.Tryz.prog):=kl124_0_ok.func ok124

/-! loop 0 of ductility/ductilitybase.wideGcd -/

abbrev sh123_0:Sh:={ n:=23,slots:=[2,3,4],pats:=[.ptr 0 2 0,.ptr 1 2 0,.ptr 2 2 0],boxes:=[.row [.ty (.int .i64),.ty (.slice (.int .i64))],.row [.ty (.int .i64),.ty (.slice (.int .i64))],.row [.ty (.int .i64),.nil]] }
abbrev shb123_0:Sh:={ n:=23,slots:=[2,4],pats:=[.ptr 0 2 0,.ptr 2 2 0],boxes:=[.row [.ty (.int .i64),.ty (.slice (.int .i64))],.row [.ty (.int .i64),.ty (.slice (.int .i64))],.row [.ty (.int .i64),.nil]] }
abbrev shr123_0:Sh:={ n:=23,slots:=[],pats:=[],boxes:=[.row [.ty (.int .i64),.ty (.slice (.int .i64))],.row [.ty (.int .i64),.ty (.slice (.int .i64))],.row [.ty (.int .i64),.nil]] }

def t123_0 (b0_0:Int) (b0_1:(List Int)) (b1_0:Int) (b1_1:(List Int)) (b2_0:Int):Tr (Out sh123_0.data shb123_0.data shr123_0.data) :=
  Tr.test (Option.isSome (f70 ((b1_0,(b1_1,())),())))
    (let r0:=g70 ((b1_0,(b1_1,())),());
    Tr.test ((!eqF r0.1 0:Bool))
      (Tr.test (Option.isSome (f124 ((b0_0,(b0_1,())),((b1_0,(b1_1,())),()))))
        (let r1:=g124 ((b0_0,(b0_1,())),((b1_0,(b1_1,())),()));
        Tr.test (Option.isSome (f74 ((r1.1.1,(r1.1.2.1,())),((b1_0,(b1_1,())),()))))
          (let r2:=g74 ((r1.1.1,(r1.1.2.1,())),((b1_0,(b1_1,())),()));
          Tr.test (Option.isSome (f96 ((b0_0,(b0_1,())),((r2.1.1,(r2.1.2.1,())),()))))
            (let r3:=g96 ((b0_0,(b0_1,())),((r2.1.1,(r2.1.2.1,())),()));
            Tr.fin (.again ((),((b1_0,(b1_1,())),((r3.1.1,(r3.1.2.1,())),((b2_0,()),()))))))
            (Tr.stop))
          (Tr.stop))
        (Tr.stop))
      (Tr.fin (.brk ((),((b0_0,(b0_1,())),((b1_0,(b1_1,())),((b2_0,()),())))))))
    (Tr.stop)

def s123_0 (d:sh123_0.data):Option (Out sh123_0.data shb123_0.data shr123_0.data):=(t123_0 d.2.1.1 d.2.1.2.1 d.2.2.1.1 d.2.2.1.2.1 d.2.2.2.1.1).val
def l123_0 (d:sh123_0.data):Option (shb123_0.data ⊕ shr123_0.data):=itr s123_0 rounds d
def b123_0 (d:sh123_0.data):shb123_0.data:=outB shb123_0.dflt (l123_0 d)
def lc123_0:LoopC:=lcB sh123_0 shb123_0 shr123_0 l123_0 b123_0

theorem wk123_0 (b0_0:Int) (b0_1:(List Int)) (b1_0:Int) (b1_1:(List Int)) (b2_0:Int):Walks (runBody (kf124 Go.Proofs.Tryz.prog).orc Go.Proofs.Tryz.prog 400 123 0 sh123_0 shb123_0 shr123_0 ((),(b0_0,b0_1,()),(b1_0,b1_1,()),(b2_0,()),())) (t123_0 b0_0 b0_1 b1_0 b1_1 b2_0) [([true,true,true,true,true],[2,4,6,8,10]),([true,false],[2,4])] :=
  ⟨by kernel_rfl,by kernel_rfl,trivial⟩

theorem ok123_0_t (b0_0:Int) (b0_1:(List Int)) (b1_0:Int) (b1_1:(List Int)) (b2_0:Int):TrOk (BodyRuns Go.Proofs.Tryz.prog (kf124 Go.Proofs.Tryz.prog).orc 123 0 sh123_0 shb123_0 shr123_0 ((),(b0_0,b0_1,()),(b1_0,b1_1,()),(b2_0,()),())) (t123_0 b0_0 b0_1 b1_0 b1_1 b2_0) :=
  Walks.ok (fun _ _ _=>BodyRuns.of) (wk123_0 b0_0 b0_1 b1_0 b1_1 b2_0) (by kernel_rfl)

theorem ok123_0:LoopOk Go.Proofs.Tryz.prog 123 0 lc123_0:=loopOk_ofB (sh:=sh123_0) (shB:=shb123_0) (shR:=shr123_0) kf124_ok.base (T:=fun (d:sh123_0.data)=>t123_0 d.2.1.1 d.2.1.2.1 d.2.2.1.1 d.2.2.1.2.1 d.2.2.2.1.1) (by kernel_rfl) rfl (fun (d:sh123_0.data)=>ok123_0_t d.2.1.1 d.2.1.2.1 d.2.2.1.1 d.2.2.1.2.1 d.2.2.2.1.1) (fun _=>rfl)
def kl123_0 (P:Go.Program):Known:=(kf124 P).loop 123 0 lc123_0
theorem kl123_0_ok:KnownOk Go.Proofs.Tryz.prog (kl123_0 Go.Proofs.Tryz.prog):=kf124_ok.loop ok123_0

/-! ductility/ductilitybase.wideGcd -/

abbrev as123:List Ty:=[(.pair (.int .i64) (.pair (.slice (.int .i64)) .unit)),(.pair (.int .i64) (.pair (.slice (.int .i64)) .unit))]
abbrev rs123:List Ty:=[(.pair (.int .i64) (.pair (.slice (.int .i64)) .unit))]

def t123 (x0:Int) (x0':(List Int)) (x1:Int) (x1':(List Int)):Tr (Tys.data rs123) :=
  Tr.test (Option.isSome (f132 ((x0,(x0',())),())))
    (Tr.test (Option.isSome (f132 ((x1,(x1',())),())))
      (let r0:=g132 ((x0,(x0',())),());
      let r1:=g132 ((x1,(x1',())),());
      Tr.test (isBrk (l123_0 ((),((r0.1.1,(r0.1.2.1,())),((r1.1.1,(r1.1.2.1,())),(((0:Int),()),()))))))
        (let r2:=b123_0 ((),((r0.1.1,(r0.1.2.1,())),((r1.1.1,(r1.1.2.1,())),(((0:Int),()),()))));
        Tr.fin (((r2.2.1.1,(r2.2.1.2.1,())),())))
        (Tr.stop))
      (Tr.stop))
    (Tr.stop)

def f123 (d:Tys.data as123):Option (Tys.data rs123):=(t123 d.1.1 d.1.2.1 d.2.1.1 d.2.1.2.1).val
def g123 (d:Tys.data as123):Tys.data rs123:=(f123 d).getD (Tys.dflt rs123)
def p123:PureC:=pcOf as123 rs123 f123 g123

theorem wk123 (x0:Int) (x0':(List Int)) (x1:Int) (x1':(List Int)):Walks (runPure (kl123_0 Go.Proofs.Tryz.prog).orc Go.Proofs.Tryz.prog 400 123 as123 rs123 ((x0,x0',()),(x1,x1',()),())) (t123 x0 x0' x1 x1') [([true,true,true],[1,2,4,6])] :=
  ⟨by kernel_rfl,trivial⟩

theorem ok123_t (x0:Int) (x0':(List Int)) (x1:Int) (x1':(List Int)):TrOk (PureRuns Go.Proofs.Tryz.prog (kl123_0 Go.Proofs.Tryz.prog).orc 123 as123 rs123 ((x0,x0',()),(x1,x1',()),())) (t123 x0 x0' x1 x1') :=
  Walks.ok (fun _ _ _=>PureRuns.of) (wk123 x0 x0' x1 x1') (by kernel_rfl)

theorem ok123:PureOk Go.Proofs.Tryz.prog 123 p123:=pureOk_of kl123_0_ok.base (T:=fun (d:Tys.data as123)=>t123 d.1.1 d.1.2.1 d.2.1.1 d.2.1.2.1) (by kernel_rfl) (fun (d:Tys.data as123)=>ok123_t d.1.1 d.1.2.1 d.2.1.1 d.2.1.2.1)
def kf123 (P:Go.Program):Known:=(kl123_0 P).func 123 p123
theorem kf123_ok:KnownOk Go.Proofs.Tryz.prog (kf123 Go.Proofs.Tryz.prog):=kl123_0_ok.func ok123

/-! ductility/ductilitybase.WideCmp -/

abbrev as73:List Ty:=[(.pair (.int .i64) (.pair (.slice (.int .i64)) .unit)),(.pair (.int .i64) (.pair (.slice (.int .i64)) .unit))]
abbrev rs73:List Ty:=[(.int .i64)]

def t73 (x0:Int) (x0':(List Int)) (x1:Int) (x1':(List Int)):Tr (Tys.data rs73) :=
  Tr.test (Option.isSome (f96 ((x0,(x0',())),((x1,(x1',())),()))))
    (let r0:=g96 ((x0,(x0',())),((x1,(x1',())),()));
    Tr.fin ((r0.1.1,())))
    (Tr.stop)

def f73 (d:Tys.data as73):Option (Tys.data rs73):=(t73 d.1.1 d.1.2.1 d.2.1.1 d.2.1.2.1).val
def g73 (d:Tys.data as73):Tys.data rs73:=(f73 d).getD (Tys.dflt rs73)
def p73:PureC:=pcOf as73 rs73 f73 g73

theorem wk73 (x0:Int) (x0':(List Int)) (x1:Int) (x1':(List Int)):Walks (runPure (kf123 Go.Proofs.Tryz.prog).orc Go.Proofs.Tryz.prog 400 73 as73 rs73 ((x0,x0',()),(x1,x1',()),())) (t73 x0 x0' x1 x1') [([tt],[2])] :=
  ⟨by kernel_rfl,trivial⟩

theorem ok73_t (x0:Int) (x0':(List Int)) (x1:Int) (x1':(List Int)):TrOk (PureRuns Go.Proofs.Tryz.prog (kf123 Go.Proofs.Tryz.prog).orc 73 as73 rs73 ((x0,x0',()),(x1,x1',()),())) (t73 x0 x0' x1 x1') :=
  Walks.ok (fun _ _ _=>PureRuns.of) (wk73 x0 x0' x1 x1') (by kernel_rfl)

theorem ok73:PureOk Go.Proofs.Tryz.prog 73 p73:=pureOk_of kf123_ok.base (T:=fun (d:Tys.data as73)=>t73 d.1.1 d.1.2.1 d.2.1.1 d.2.1.2.1) (by kernel_rfl) (fun (d:Tys.data as73)=>ok73_t d.1.1 d.1.2.1 d.2.1.1 d.2.1.2.1)
def kf73 (P:Go.Program):Known:=(kf123 P).func 73 p73
theorem kf73_ok:KnownOk Go.Proofs.Tryz.prog (kf73 Go.Proofs.Tryz.prog):=kf123_ok.func ok73

/-! ductility/ductilitybase.RatioMake -/

abbrev as101:List Ty:=[(.pair (.int .i64) (.pair (.slice (.int .i64)) .unit)),(.pair (.int .i64) (.pair (.slice (.int .i64)) .unit))]
abbrev rs101:List Ty:=[(.pair (.pair (.int .i64) (.pair (.slice (.int .i64)) .unit)) (.pair (.pair (.int .i64) (.pair (.slice (.int .i64)) .unit)) .unit))]

def t101 (x0:Int) (x0':(List Int)) (x1:Int) (x1':(List Int)):Tr (Tys.data rs101) :=
  Tr.test (Option.isSome (f70 ((x1,(x1',())),())))
    (let r0:=g70 ((x1,(x1',())),());
    Tr.test ((!leF (0:Int) r0.1:Bool))
      (Tr.test (Option.isSome (f117 ((x0,(x0',())),())))
        (Tr.test (Option.isSome (f117 ((x1,(x1',())),())))
          (let r1:=g117 ((x0,(x0',())),());
          let r2:=g117 ((x1,(x1',())),());
          Tr.test (Option.isSome (f123 ((r1.1.1,(r1.1.2.1,())),((r2.1.1,(r2.1.2.1,())),()))))
            (Tr.test (Option.isSome (f98 ((1:Int),())))
              (let r3:=g123 ((r1.1.1,(r1.1.2.1,())),((r2.1.1,(r2.1.2.1,())),()));
              let r4:=g98 ((1:Int),());
              Tr.test (Option.isSome (f73 ((r3.1.1,(r3.1.2.1,())),((r4.1.1,(r4.1.2.1,())),()))))
                (let r5:=g73 ((r3.1.1,(r3.1.2.1,())),((r4.1.1,(r4.1.2.1,())),()));
                Tr.test ((eqF r5.1 0:Bool))
                  (Tr.fin ((((r1.1.1,(r1.1.2.1,())),((r2.1.1,(r2.1.2.1,())),())),())))
                  (Tr.test (Option.isSome (f124 ((r1.1.1,(r1.1.2.1,())),((r3.1.1,(r3.1.2.1,())),()))))
                    (Tr.test (Option.isSome (f124 ((r2.1.1,(r2.1.2.1,())),((r3.1.1,(r3.1.2.1,())),()))))
                      (let r6:=g124 ((r1.1.1,(r1.1.2.1,())),((r3.1.1,(r3.1.2.1,())),()));
                      let r7:=g124 ((r2.1.1,(r2.1.2.1,())),((r3.1.1,(r3.1.2.1,())),()));
                      Tr.fin ((((r6.1.1,(r6.1.2.1,())),((r7.1.1,(r7.1.2.1,())),())),())))
                      (Tr.stop))
                    (Tr.stop)))
                (Tr.stop))
              (Tr.stop))
            (Tr.stop))
          (Tr.stop))
        (Tr.stop))
      (Tr.test (Option.isSome (f123 ((x0,(x0',())),((x1,(x1',())),()))))
        (Tr.test (Option.isSome (f98 ((1:Int),())))
          (let r4:=g98 ((1:Int),());
          let r8:=g123 ((x0,(x0',())),((x1,(x1',())),()));
          Tr.test (Option.isSome (f73 ((r8.1.1,(r8.1.2.1,())),((r4.1.1,(r4.1.2.1,())),()))))
            (let r9:=g73 ((r8.1.1,(r8.1.2.1,())),((r4.1.1,(r4.1.2.1,())),()));
            Tr.test ((eqF r9.1 0:Bool))
              (Tr.fin ((((x0,(x0',())),((x1,(x1',())),())),())))
              (Tr.test (Option.isSome (f124 ((x0,(x0',())),((r8.1.1,(r8.1.2.1,())),()))))
                (Tr.test (Option.isSome (f124 ((x1,(x1',())),((r8.1.1,(r8.1.2.1,())),()))))
                  (let r10:=g124 ((x0,(x0',())),((r8.1.1,(r8.1.2.1,())),()));
                  let r11:=g124 ((x1,(x1',())),((r8.1.1,(r8.1.2.1,())),()));
                  Tr.fin ((((r10.1.1,(r10.1.2.1,())),((r11.1.1,(r11.1.2.1,())),())),())))
                  (Tr.stop))
                (Tr.stop)))
            (Tr.stop))
          (Tr.stop))
        (Tr.stop)))
    (Tr.stop)

def f101 (d:Tys.data as101):Option (Tys.data rs101):=(t101 d.1.1 d.1.2.1 d.2.1.1 d.2.1.2.1).val
def g101 (d:Tys.data as101):Tys.data rs101:=(f101 d).getD (Tys.dflt rs101)
def p101:PureC:=pcOf as101 rs101 f101 g101

theorem wk101 (x0:Int) (x0':(List Int)) (x1:Int) (x1':(List Int)):Walks (runPure (kf73 Go.Proofs.Tryz.prog).orc Go.Proofs.Tryz.prog 400 101 as101 rs101 ((x0,x0',()),(x1,x1',()),())) (t101 x0 x0' x1 x1') [([true,true,true,true,true,true,true,true],[2,4,6,8,10,12,14,16]),([true,true,true,true,true,true,true,false,true,true],[2,4,6,8,10,12,14,16,18,20]),([true,false,true,true,true,true],[2,4,6,8,10,12]),([true,false,true,true,true,false,true,true],[2,4,6,8,10,12,14,16])] :=
  ⟨by kernel_rfl,by kernel_rfl,by kernel_rfl,by kernel_rfl,trivial⟩

theorem ok101_t (x0:Int) (x0':(List Int)) (x1:Int) (x1':(List Int)):TrOk (PureRuns Go.Proofs.Tryz.prog (kf73 Go.Proofs.Tryz.prog).orc 101 as101 rs101 ((x0,x0',()),(x1,x1',()),())) (t101 x0 x0' x1 x1') :=
  Walks.ok (fun _ _ _=>PureRuns.of) (wk101 x0 x0' x1 x1') (by kernel_rfl)

theorem ok101:PureOk Go.Proofs.Tryz.prog 101 p101:=pureOk_of kf73_ok.base (T:=fun (d:Tys.data as101)=>t101 d.1.1 d.1.2.1 d.2.1.1 d.2.1.2.1) (by kernel_rfl) (fun (d:Tys.data as101)=>ok101_t d.1.1 d.1.2.1 d.2.1.1 d.2.1.2.1)
def kf101 (P:Go.Program):Known:=(kf73 P).func 101 p101
theorem kf101_ok:KnownOk Go.Proofs.Tryz.prog (kf101 Go.Proofs.Tryz.prog):=kf73_ok.func ok101

/-! ductility/ductilitybase.RatioOf -/

abbrev as75:List Ty:=[(.int .i64),(.int .i64)]
abbrev rs75:List Ty:=[(.pair (.pair (.int .i64) (.pair (.slice (.int .i64)) .unit)) (.pair (.pair (.int .i64) (.pair (.slice (.int .i64)) .unit)) .unit))]

def t75 (x0:Int) (x1:Int):Tr (Tys.data rs75) :=
  Tr.test (Option.isSome (f98 (x0,())))
    (Tr.test (Option.isSome (f98 (x1,())))
      (let r0:=g98 (x0,());
      let r1:=g98 (x1,());
      Tr.test (Option.isSome (f101 ((r0.1.1,(r0.1.2.1,())),((r1.1.1,(r1.1.2.1,())),()))))
        (let r2:=g101 ((r0.1.1,(r0.1.2.1,())),((r1.1.1,(r1.1.2.1,())),()));
        Tr.fin ((((r2.1.1.1,(r2.1.1.2.1,())),((r2.1.2.1.1,(r2.1.2.1.2.1,())),())),())))
        (Tr.stop))
      (Tr.stop))
    (Tr.stop)

def f75 (d:Tys.data as75):Option (Tys.data rs75):=(t75 d.1 d.2.1).val
def g75 (d:Tys.data as75):Tys.data rs75:=(f75 d).getD (Tys.dflt rs75)
def p75:PureC:=pcOf as75 rs75 f75 g75

theorem wk75 (x0:Int) (x1:Int):Walks (runPure (kf101 Go.Proofs.Tryz.prog).orc Go.Proofs.Tryz.prog 400 75 as75 rs75 (x0,x1,())) (t75 x0 x1) [([true,true,true],[2,4,6])] :=
  ⟨by kernel_rfl,trivial⟩

theorem ok75_t (x0:Int) (x1:Int):TrOk (PureRuns Go.Proofs.Tryz.prog (kf101 Go.Proofs.Tryz.prog).orc 75 as75 rs75 (x0,x1,())) (t75 x0 x1) :=
  Walks.ok (fun _ _ _=>PureRuns.of) (wk75 x0 x1) (by kernel_rfl)

theorem ok75:PureOk Go.Proofs.Tryz.prog 75 p75:=pureOk_of kf101_ok.base (T:=fun (d:Tys.data as75)=>t75 d.1 d.2.1) (by kernel_rfl) (fun (d:Tys.data as75)=>ok75_t d.1 d.2.1)
def kf75 (P:Go.Program):Known:=(kf101 P).func 75 p75
theorem kf75_ok:KnownOk Go.Proofs.Tryz.prog (kf75 Go.Proofs.Tryz.prog):=kf101_ok.func ok75

/-! loop 2 of ductility/ductilityref07.Center -/

abbrev sh33_2:Sh:={ n:=61,slots:=[0,2,3,4,5,6,7],pats:=[.ty (.slice (.slice (.int .i64))),.ptr 0 8 0,.ty (.int .i64),.ty (.int .i64),.ty (.int .i64),.ty (.int .i64),.ty (.int .i64)],boxes:=[.row [.ty (.int .i64),.nil,.ty (.int .i64),.nil,.ty (.int .i64),.nil,.ty (.int .i64),.nil]] }
abbrev shb33_2:Sh:={ n:=61,slots:=[0,2,3,4,5,6],pats:=[.ty (.slice (.slice (.int .i64))),.ptr 0 8 0,.ty (.int .i64),.ty (.int .i64),.ty (.int .i64),.ty (.int .i64)],boxes:=[.row [.ty (.int .i64),.nil,.ty (.int .i64),.nil,.ty (.int .i64),.nil,.ty (.int .i64),.nil]] }
abbrev shr33_2:Sh:={ n:=61,slots:=[],pats:=[],boxes:=[.row [.ty (.int .i64),.nil,.ty (.int .i64),.nil,.ty (.int .i64),.nil,.ty (.int .i64),.nil]] }

def t33_2 (x0:(List (List Int))) (x2:Int) (x3:Int) (x4:Int) (x5:Int) (x6:Int) (b0_0:Int) (b0_2:Int) (b0_4:Int) (b0_6:Int):Tr (Out sh33_2.data shb33_2.data shr33_2.data) :=
  Tr.test ((decide ((0:Int) ≤ x5) && decide (x5 < (↑(List.length x0):Int)):Bool))
    (Tr.test (!leF (↑(List.length (List.getD x0 (Int.toNat x5) [])):Int) x6)
      (Tr.test ((decide ((0:Int) ≤ x6) && decide (x6 < (↑(List.length (List.getD x0 (Int.toNat x5) [])):Int)):Bool))
        (Tr.fin (.again ((x0,((wrap64 (x2 + wrap64 (x6 * List.getD (List.getD x0 (Int.toNat x5) []) (Int.toNat x6) (0:Int))):Int),((wrap64 (x3 + wrap64 (x5 * List.getD (List.getD x0 (Int.toNat x5) []) (Int.toNat x6) (0:Int))):Int),((wrap64 (x4 + List.getD (List.getD x0 (Int.toNat x5) []) (Int.toNat x6) (0:Int)):Int),(x5,((wrap64 (x6 + (1:Int)):Int),())))))),((b0_0,(b0_2,(b0_4,(b0_6,())))),()))))
        (Tr.stop))
      (Tr.fin (.brk ((x0,(x2,(x3,(x4,(x5,()))))),((b0_0,(b0_2,(b0_4,(b0_6,())))),())))))
    (Tr.stop)

def s33_2 (d:sh33_2.data):Option (Out sh33_2.data shb33_2.data shr33_2.data):=(t33_2 d.1.1 d.1.2.1 d.1.2.2.1 d.1.2.2.2.1 d.1.2.2.2.2.1 d.1.2.2.2.2.2.1 d.2.1.1 d.2.1.2.1 d.2.1.2.2.1 d.2.1.2.2.2.1).val
def l33_2 (d:sh33_2.data):Option (shb33_2.data ⊕ shr33_2.data):=itr s33_2 rounds d
def b33_2 (d:sh33_2.data):shb33_2.data:=outB shb33_2.dflt (l33_2 d)
def lc33_2:LoopC:=lcB sh33_2 shb33_2 shr33_2 l33_2 b33_2

theorem wk33_2 (x0:(List (List Int))) (x2:Int) (x3:Int) (x4:Int) (x5:Int) (x6:Int) (b0_0:Int) (b0_2:Int) (b0_4:Int) (b0_6:Int):Walks (runBody (kf75 Go.Proofs.Tryz.prog).orc Go.Proofs.Tryz.prog 400 33 2 sh33_2 shb33_2 shr33_2 ((x0,x2,x3,x4,x5,x6,()),(b0_0,b0_2,b0_4,b0_6,()),())) (t33_2 x0 x2 x3 x4 x5 x6 b0_0 b0_2 b0_4 b0_6) [([true,true,true],[2,6,2,6,2,6,4,6]),([true,false],[2,4])] :=
  ⟨by kernel_rfl,by kernel_rfl,trivial⟩

theorem ok33_2_t (x0:(List (List Int))) (x2:Int) (x3:Int) (x4:Int) (x5:Int) (x6:Int) (b0_0:Int) (b0_2:Int) (b0_4:Int) (b0_6:Int):TrOk (BodyRuns Go.Proofs.Tryz.prog (kf75 Go.Proofs.Tryz.prog).orc 33 2 sh33_2 shb33_2 shr33_2 ((x0,x2,x3,x4,x5,x6,()),(b0_0,b0_2,b0_4,b0_6,()),())) (t33_2 x0 x2 x3 x4 x5 x6 b0_0 b0_2 b0_4 b0_6) :=
  Walks.ok (fun _ _ _=>BodyRuns.of) (wk33_2 x0 x2 x3 x4 x5 x6 b0_0 b0_2 b0_4 b0_6) (by kernel_rfl)

theorem ok33_2:LoopOk Go.Proofs.Tryz.prog 33 2 lc33_2:=loopOk_ofB (sh:=sh33_2) (shB:=shb33_2) (shR:=shr33_2) kf75_ok.base (T:=fun (d:sh33_2.data)=>t33_2 d.1.1 d.1.2.1 d.1.2.2.1 d.1.2.2.2.1 d.1.2.2.2.2.1 d.1.2.2.2.2.2.1 d.2.1.1 d.2.1.2.1 d.2.1.2.2.1 d.2.1.2.2.2.1) (by kernel_rfl) rfl (fun (d:sh33_2.data)=>ok33_2_t d.1.1 d.1.2.1 d.1.2.2.1 d.1.2.2.2.1 d.1.2.2.2.2.1 d.1.2.2.2.2.2.1 d.2.1.1 d.2.1.2.1 d.2.1.2.2.1 d.2.1.2.2.2.1) (fun _=>rfl)
def kl33_2 (P:Go.Program):Known:=(kf75 P).loop 33 2 lc33_2
theorem kl33_2_ok:KnownOk Go.Proofs.Tryz.prog (kl33_2 Go.Proofs.Tryz.prog):=kf75_ok.loop ok33_2

/-! loop 0 of ductility/ductilityref07.Center -/

abbrev sh33_0:Sh:={ n:=61,slots:=[0,2,3,4,5,6],pats:=[.ty (.slice (.slice (.int .i64))),.ptr 0 8 0,.ty (.int .i64),.ty (.int .i64),.ty (.int .i64),.ty (.int .i64)],boxes:=[.row [.ty (.int .i64),.nil,.ty (.int .i64),.nil,.ty (.int .i64),.nil,.ty (.int .i64),.nil]] }
abbrev shb33_0:Sh:={ n:=61,slots:=[2,3,4,5],pats:=[.ptr 0 8 0,.ty (.int .i64),.ty (.int .i64),.ty (.int .i64)],boxes:=[.row [.ty (.int .i64),.nil,.ty (.int .i64),.nil,.ty (.int .i64),.nil,.ty (.int .i64),.nil]] }
abbrev shr33_0:Sh:={ n:=61,slots:=[],pats:=[],boxes:=[.row [.ty (.int .i64),.nil,.ty (.int .i64),.nil,.ty (.int .i64),.nil,.ty (.int .i64),.nil]] }

def t33_0 (x0:(List (List Int))) (x2:Int) (x3:Int) (x4:Int) (x5:Int) (b0_0:Int) (b0_2:Int) (b0_4:Int) (b0_6:Int):Tr (Out sh33_0.data shb33_0.data shr33_0.data) :=
  Tr.test ((!leF (↑(List.length x0):Int) x5:Bool))
    (Tr.test (isBrk (l33_2 ((x0,(x2,(x3,(x4,(x5,((0:Int),())))))),((b0_0,(b0_2,(b0_4,(b0_6,())))),()))))
      (let r0:=b33_2 ((x0,(x2,(x3,(x4,(x5,((0:Int),())))))),((b0_0,(b0_2,(b0_4,(b0_6,())))),()));
      Tr.fin (.again ((r0.1.1,(r0.1.2.1,(r0.1.2.2.1,(r0.1.2.2.2.1,((wrap64 (r0.1.2.2.2.2.1 + (1:Int)):Int),()))))),((r0.2.1.1,(r0.2.1.2.1,(r0.2.1.2.2.1,(r0.2.1.2.2.2.1,())))),()))))
      (Tr.stop))
    (Tr.fin (.brk ((x2,(x3,(x4,()))),((b0_0,(b0_2,(b0_4,(b0_6,())))),()))))

def s33_0 (d:sh33_0.data):Option (Out sh33_0.data shb33_0.data shr33_0.data):=(t33_0 d.1.1 d.1.2.1 d.1.2.2.1 d.1.2.2.2.1 d.1.2.2.2.2.1 d.2.1.1 d.2.1.2.1 d.2.1.2.2.1 d.2.1.2.2.2.1).val
def l33_0 (d:sh33_0.data):Option (shb33_0.data ⊕ shr33_0.data):=itr s33_0 rounds d
def b33_0 (d:sh33_0.data):shb33_0.data:=outB shb33_0.dflt (l33_0 d)
def lc33_0:LoopC:=lcB sh33_0 shb33_0 shr33_0 l33_0 b33_0

theorem wk33_0 (x0:(List (List Int))) (x2:Int) (x3:Int) (x4:Int) (x5:Int) (b0_0:Int) (b0_2:Int) (b0_4:Int) (b0_6:Int):Walks (runBody (kl33_2 Go.Proofs.Tryz.prog).orc Go.Proofs.Tryz.prog 400 33 0 sh33_0 shb33_0 shr33_0 ((x0,x2,x3,x4,x5,()),(b0_0,b0_2,b0_4,b0_6,()),())) (t33_0 x0 x2 x3 x4 x5 b0_0 b0_2 b0_4 b0_6) [([true,true],[1,2,4]),([ff],[2])] :=
  ⟨by kernel_rfl,by kernel_rfl,trivial⟩

theorem ok33_0_t (x0:(List (List Int))) (x2:Int) (x3:Int) (x4:Int) (x5:Int) (b0_0:Int) (b0_2:Int) (b0_4:Int) (b0_6:Int):TrOk (BodyRuns Go.Proofs.Tryz.prog (kl33_2 Go.Proofs.Tryz.prog).orc 33 0 sh33_0 shb33_0 shr33_0 ((x0,x2,x3,x4,x5,()),(b0_0,b0_2,b0_4,b0_6,()),())) (t33_0 x0 x2 x3 x4 x5 b0_0 b0_2 b0_4 b0_6) :=
  Walks.ok (fun _ _ _=>BodyRuns.of) (wk33_0 x0 x2 x3 x4 x5 b0_0 b0_2 b0_4 b0_6) (by kernel_rfl)

theorem ok33_0:LoopOk Go.Proofs.Tryz.prog 33 0 lc33_0:=loopOk_ofB (sh:=sh33_0) (shB:=shb33_0) (shR:=shr33_0) kl33_2_ok.base (T:=fun (d:sh33_0.data)=>t33_0 d.1.1 d.1.2.1 d.1.2.2.1 d.1.2.2.2.1 d.1.2.2.2.2.1 d.2.1.1 d.2.1.2.1 d.2.1.2.2.1 d.2.1.2.2.2.1) (by kernel_rfl) rfl (fun (d:sh33_0.data)=>ok33_0_t d.1.1 d.1.2.1 d.1.2.2.1 d.1.2.2.2.1 d.1.2.2.2.2.1 d.2.1.1 d.2.1.2.1 d.2.1.2.2.1 d.2.1.2.2.2.1) (fun _=>rfl)
def kl33_0 (P:Go.Program):Known:=(kl33_2 P).loop 33 0 lc33_0
theorem kl33_0_ok:KnownOk Go.Proofs.Tryz.prog (kl33_0 Go.Proofs.Tryz.prog):=kl33_2_ok.loop ok33_0

/-! ductility/ductilityref07.Center -/

abbrev as33:List Ty:=[(.slice (.slice (.int .i64)))]
abbrev rs33:List Ty:=[(.pair (.pair (.pair (.int .i64) (.pair (.slice (.int .i64)) .unit)) (.pair (.pair (.int .i64) (.pair (.slice (.int .i64)) .unit)) .unit)) (.pair (.pair (.pair (.int .i64) (.pair (.slice (.int .i64)) .unit)) (.pair (.pair (.int .i64) (.pair (.slice (.int .i64)) .unit)) .unit)) .unit))]

def t33 (x0:(List (List Int))):Tr (Tys.data rs33) :=
  Tr.test (isBrk (l33_0 ((x0,((0:Int),((0:Int),((0:Int),((0:Int),()))))),(((0:Int),((0:Int),((0:Int),((0:Int),())))),()))))
    (let r0:=b33_0 ((x0,((0:Int),((0:Int),((0:Int),((0:Int),()))))),(((0:Int),((0:Int),((0:Int),((0:Int),())))),()));
    Tr.test (Option.isSome (f75 (r0.1.1,(r0.1.2.2.1,()))))
      (Tr.test (Option.isSome (f75 (r0.1.2.1,(r0.1.2.2.1,()))))
        (let r1:=g75 (r0.1.1,(r0.1.2.2.1,()));
        let r2:=g75 (r0.1.2.1,(r0.1.2.2.1,()));
        Tr.fin (((((r1.1.1.1,(r1.1.1.2.1,())),((r1.1.2.1.1,(r1.1.2.1.2.1,())),())),(((r2.1.1.1,(r2.1.1.2.1,())),((r2.1.2.1.1,(r2.1.2.1.2.1,())),())),())),())))
        (Tr.stop))
      (Tr.stop))
    (Tr.stop)

def f33 (d:Tys.data as33):Option (Tys.data rs33):=(t33 d.1).val
def g33 (d:Tys.data as33):Tys.data rs33:=(f33 d).getD (Tys.dflt rs33)
def p33:PureC:=pcOf as33 rs33 f33 g33

theorem wk33 (x0:(List (List Int))):Walks (runPure (kl33_0 Go.Proofs.Tryz.prog).orc Go.Proofs.Tryz.prog 400 33 as33 rs33 (x0,())) (t33 x0) [([true,true,true],[2,4,1,6])] :=
  ⟨by kernel_rfl,trivial⟩

theorem ok33_t (x0:(List (List Int))):TrOk (PureRuns Go.Proofs.Tryz.prog (kl33_0 Go.Proofs.Tryz.prog).orc 33 as33 rs33 (x0,())) (t33 x0) :=
  Walks.ok (fun _ _ _=>PureRuns.of) (wk33 x0) (by kernel_rfl)

theorem ok33:PureOk Go.Proofs.Tryz.prog 33 p33:=pureOk_of kl33_0_ok.base (T:=fun (d:Tys.data as33)=>t33 d.1) (by kernel_rfl) (fun (d:Tys.data as33)=>ok33_t d.1)
def kf33 (P:Go.Program):Known:=(kl33_0 P).func 33 p33
theorem kf33_ok:KnownOk Go.Proofs.Tryz.prog (kf33 Go.Proofs.Tryz.prog):=kl33_0_ok.func ok33

/-! loop 0 of ductility/ductilitybase.WideInt -/

abbrev sh107_0:Sh:={ n:=30,slots:=[1,4,5],pats:=[.ptr 0 2 0,.ty (.int .i64),.ty (.int .i64)],boxes:=[.row [.ty (.int .i64),.ty (.slice (.int .i64))]] }
abbrev shb107_0:Sh:={ n:=30,slots:=[1,4],pats:=[.ptr 0 2 0,.ty (.int .i64)],boxes:=[.row [.ty (.int .i64),.ty (.slice (.int .i64))]] }
abbrev shr107_0:Sh:={ n:=30,slots:=[],pats:=[],boxes:=[.row [.ty (.int .i64),.ty (.slice (.int .i64))]] }

def t107_0 (x1:Int) (x2:Int) (b0_0:Int) (b0_1:(List Int)):Tr (Out sh107_0.data shb107_0.data shr107_0.data) :=
  Tr.test ((leF (0:Int) x2:Bool))
    (Tr.test (decide ((0:Int) ≤ x2) && decide (x2 < (↑(List.length b0_1):Int)))
      (Tr.fin (.again (((wrap64 (wrap64 (x1 * (1000000000:Int)) + List.getD b0_1 (Int.toNat x2) (0:Int)):Int),((wrap64 (x2 - (1:Int)):Int),())),((b0_0,(b0_1,())),()))))
      (Tr.stop))
    (Tr.fin (.brk ((x1,()),((b0_0,(b0_1,())),()))))

def s107_0 (d:sh107_0.data):Option (Out sh107_0.data shb107_0.data shr107_0.data):=(t107_0 d.1.1 d.1.2.1 d.2.1.1 d.2.1.2.1).val
def l107_0 (d:sh107_0.data):Option (shb107_0.data ⊕ shr107_0.data):=itr s107_0 rounds d
def b107_0 (d:sh107_0.data):shb107_0.data:=outB shb107_0.dflt (l107_0 d)
def lc107_0:LoopC:=lcB sh107_0 shb107_0 shr107_0 l107_0 b107_0

theorem wk107_0 (x1:Int) (x2:Int) (b0_0:Int) (b0_1:(List Int)):Walks (runBody (kf33 Go.Proofs.Tryz.prog).orc Go.Proofs.Tryz.prog 400 107 0 sh107_0 shb107_0 shr107_0 ((x1,x2,()),(b0_0,b0_1,()),())) (t107_0 x1 x2 b0_0 b0_1) [([true,true],[2,4]),([ff],[2])] :=
  ⟨by kernel_rfl,by kernel_rfl,trivial⟩

theorem ok107_0_t (x1:Int) (x2:Int) (b0_0:Int) (b0_1:(List Int)):TrOk (BodyRuns Go.Proofs.Tryz.prog (kf33 Go.Proofs.Tryz.prog).orc 107 0 sh107_0 shb107_0 shr107_0 ((x1,x2,()),(b0_0,b0_1,()),())) (t107_0 x1 x2 b0_0 b0_1) :=
  Walks.ok (fun _ _ _=>BodyRuns.of) (wk107_0 x1 x2 b0_0 b0_1) (by kernel_rfl)

theorem ok107_0:LoopOk Go.Proofs.Tryz.prog 107 0 lc107_0:=loopOk_ofB (sh:=sh107_0) (shB:=shb107_0) (shR:=shr107_0) kf33_ok.base (T:=fun (d:sh107_0.data)=>t107_0 d.1.1 d.1.2.1 d.2.1.1 d.2.1.2.1) (by kernel_rfl) rfl (fun (d:sh107_0.data)=>ok107_0_t d.1.1 d.1.2.1 d.2.1.1 d.2.1.2.1) (fun _=>rfl)
def kl107_0 (P:Go.Program):Known:=(kf33 P).loop 107 0 lc107_0
theorem kl107_0_ok:KnownOk Go.Proofs.Tryz.prog (kl107_0 Go.Proofs.Tryz.prog):=kf33_ok.loop ok107_0

/-! ductility/ductilitybase.WideInt -/

abbrev as107:List Ty:=[(.pair (.int .i64) (.pair (.slice (.int .i64)) .unit))]
abbrev rs107:List Ty:=[(.int .i64),.bool]

def t107 (x0:Int) (x0':(List Int)):Tr (Tys.data rs107) :=
  Tr.test ((!leF (↑(List.length x0'):Int) (2:Int):Bool))
    (Tr.fin (((0:Int),(false,()))))
    (Tr.test (isBrk (l107_0 (((0:Int),((wrap64 ((↑(List.length x0'):Int) - (1:Int)):Int),())),((x0,(x0',())),()))))
      (let r0:=b107_0 (((0:Int),((wrap64 ((↑(List.length x0'):Int) - (1:Int)):Int),())),((x0,(x0',())),()));
      Tr.fin (((wrap64 (r0.2.1.1 * r0.1.1):Int),((true:Bool),()))))
      (Tr.stop))

def f107 (d:Tys.data as107):Option (Tys.data rs107):=(t107 d.1.1 d.1.2.1).val
def g107 (d:Tys.data as107):Tys.data rs107:=(f107 d).getD (Tys.dflt rs107)
def p107:PureC:=pcOf as107 rs107 f107 g107

theorem wk107 (x0:Int) (x0':(List Int)):Walks (runPure (kl107_0 Go.Proofs.Tryz.prog).orc Go.Proofs.Tryz.prog 400 107 as107 rs107 ((x0,x0',()),())) (t107 x0 x0') [([tt],[2]),([false,true],[1,2,4])] :=
  ⟨by kernel_rfl,by kernel_rfl,trivial⟩

theorem ok107_t (x0:Int) (x0':(List Int)):TrOk (PureRuns Go.Proofs.Tryz.prog (kl107_0 Go.Proofs.Tryz.prog).orc 107 as107 rs107 ((x0,x0',()),())) (t107 x0 x0') :=
  Walks.ok (fun _ _ _=>PureRuns.of) (wk107 x0 x0') (by kernel_rfl)

theorem ok107:PureOk Go.Proofs.Tryz.prog 107 p107:=pureOk_of kl107_0_ok.base (T:=fun (d:Tys.data as107)=>t107 d.1.1 d.1.2.1) (by kernel_rfl) (fun (d:Tys.data as107)=>ok107_t d.1.1 d.1.2.1)
def kf107 (P:Go.Program):Known:=(kl107_0 P).func 107 p107
theorem kf107_ok:KnownOk Go.Proofs.Tryz.prog (kf107 Go.Proofs.Tryz.prog):=kl107_0_ok.func ok107

/-! ductility/ductilitybase.IsSmall -/

abbrev as108:List Ty:=[(.pair (.int .i64) (.pair (.int .i64) .unit))]
abbrev rs108:List Ty:=[.bool]

def t108 (x0:Int) (x0':Int):Tr (Tys.data rs108) :=
  Tr.test (Option.isSome (f20 (x0,((-1000000000:Int),((1000000000:Int),())))))
    (let r0:=g20 (x0,((-1000000000:Int),((1000000000:Int),())));
    Tr.test (r0.1)
      (Tr.test (Option.isSome (f20 (x0',((1:Int),((1000000000:Int),())))))
        (let r1:=g20 (x0',((1:Int),((1000000000:Int),())));
        Tr.fin ((r1.1,())))
        (Tr.stop))
      (Tr.fin (((false:Bool),()))))
    (Tr.stop)

def f108 (d:Tys.data as108):Option (Tys.data rs108):=(t108 d.1.1 d.1.2.1).val
def g108 (d:Tys.data as108):Tys.data rs108:=(f108 d).getD (Tys.dflt rs108)
def p108:PureC:=pcOf as108 rs108 f108 g108

theorem wk108 (x0:Int) (x0':Int):Walks (runPure (kf107 Go.Proofs.Tryz.prog).orc Go.Proofs.Tryz.prog 400 108 as108 rs108 ((x0,x0',()),())) (t108 x0 x0') [([true,true,true],[4,2,4,4,4,6]),([true,false],[2,2,2,2,4])] :=
  ⟨by kernel_rfl,by kernel_rfl,trivial⟩

theorem ok108_t (x0:Int) (x0':Int):TrOk (PureRuns Go.Proofs.Tryz.prog (kf107 Go.Proofs.Tryz.prog).orc 108 as108 rs108 ((x0,x0',()),())) (t108 x0 x0') :=
  Walks.ok (fun _ _ _=>PureRuns.of) (wk108 x0 x0') (by kernel_rfl)

theorem ok108:PureOk Go.Proofs.Tryz.prog 108 p108:=pureOk_of kf107_ok.base (T:=fun (d:Tys.data as108)=>t108 d.1.1 d.1.2.1) (by kernel_rfl) (fun (d:Tys.data as108)=>ok108_t d.1.1 d.1.2.1)
def kf108 (P:Go.Program):Known:=(kf107 P).func 108 p108
theorem kf108_ok:KnownOk Go.Proofs.Tryz.prog (kf108 Go.Proofs.Tryz.prog):=kf107_ok.func ok108

/-! ductility/ductilitybase.RatioFrac -/

abbrev as79:List Ty:=[(.pair (.pair (.int .i64) (.pair (.slice (.int .i64)) .unit)) (.pair (.pair (.int .i64) (.pair (.slice (.int .i64)) .unit)) .unit))]
abbrev rs79:List Ty:=[(.pair (.int .i64) (.pair (.int .i64) .unit)),.bool]

def t79 (x0_:Int) (x0_':(List Int)) (x0'_:Int) (x0'_':(List Int)):Tr (Tys.data rs79) :=
  Tr.test (Option.isSome (f107 ((x0_,(x0_',())),())))
    (Tr.test (Option.isSome (f107 ((x0'_,(x0'_',())),())))
      (let r0:=g107 ((x0_,(x0_',())),());
      Tr.test ((!r0.2.1:Bool))
        (Tr.fin ((((0:Int),((0:Int),())),((false:Bool),()))))
        (let r1:=g107 ((x0'_,(x0'_',())),());
        Tr.test ((!r1.2.1:Bool))
          (Tr.fin ((((0:Int),((0:Int),())),((false:Bool),()))))
          (Tr.test (Option.isSome (f108 ((r0.1,(r1.1,())),())))
            (let r2:=g108 ((r0.1,(r1.1,())),());
            Tr.test ((!r2.1:Bool))
              (Tr.fin ((((0:Int),((0:Int),())),((false:Bool),()))))
              (Tr.fin (((r0.1,(r1.1,())),((true:Bool),())))))
            (Tr.stop))))
      (Tr.stop))
    (Tr.stop)

def f79 (d:Tys.data as79):Option (Tys.data rs79):=(t79 d.1.1.1 d.1.1.2.1 d.1.2.1.1 d.1.2.1.2.1).val
def g79 (d:Tys.data as79):Tys.data rs79:=(f79 d).getD (Tys.dflt rs79)
def p79:PureC:=pcOf as79 rs79 f79 g79

theorem wk79 (x0_:Int) (x0_':(List Int)) (x0'_:Int) (x0'_':(List Int)):Walks (runPure (kf108 Go.Proofs.Tryz.prog).orc Go.Proofs.Tryz.prog 400 79 as79 rs79 (((x0_,x0_',()),(x0'_,x0'_',()),()),())) (t79 x0_ x0_' x0'_ x0'_') [([true,true,true],[1,1,1,1,1,2,2,2,4,6]),([true,true,false,true],[1,2,2,2,2,4,4,4,6,8]),([true,true,false,false,true,true],[2,6,6,4,6,6,8,8,8,10,12]),([true,true,false,false,true,false],[2,6,6,4,6,6,8,8,8,10,12])] :=
  ⟨by kernel_rfl,by kernel_rfl,by kernel_rfl,by kernel_rfl,trivial⟩

theorem ok79_t (x0_:Int) (x0_':(List Int)) (x0'_:Int) (x0'_':(List Int)):TrOk (PureRuns Go.Proofs.Tryz.prog (kf108 Go.Proofs.Tryz.prog).orc 79 as79 rs79 (((x0_,x0_',()),(x0'_,x0'_',()),()),())) (t79 x0_ x0_' x0'_ x0'_') :=
  Walks.ok (fun _ _ _=>PureRuns.of) (wk79 x0_ x0_' x0'_ x0'_') (by kernel_rfl)

theorem ok79:PureOk Go.Proofs.Tryz.prog 79 p79:=pureOk_of kf108_ok.base (T:=fun (d:Tys.data as79)=>t79 d.1.1.1 d.1.1.2.1 d.1.2.1.1 d.1.2.1.2.1) (by kernel_rfl) (fun (d:Tys.data as79)=>ok79_t d.1.1.1 d.1.1.2.1 d.1.2.1.1 d.1.2.1.2.1)
def kf79 (P:Go.Program):Known:=(kf108 P).func 79 p79
theorem kf79_ok:KnownOk Go.Proofs.Tryz.prog (kf79 Go.Proofs.Tryz.prog):=kf108_ok.func ok79

/-! ductility/ductilityref07.Fractions -/

abbrev as32:List Ty:=[(.pair (.pair (.pair (.int .i64) (.pair (.slice (.int .i64)) .unit)) (.pair (.pair (.int .i64) (.pair (.slice (.int .i64)) .unit)) .unit)) (.pair (.pair (.pair (.int .i64) (.pair (.slice (.int .i64)) .unit)) (.pair (.pair (.int .i64) (.pair (.slice (.int .i64)) .unit)) .unit)) .unit))]
abbrev rs32:List Ty:=[(.pair (.pair (.int .i64) (.pair (.int .i64) .unit)) (.pair (.pair (.int .i64) (.pair (.int .i64) .unit)) .unit))]

def t32 (x0__:Int) (x0__':(List Int)) (x0_'_:Int) (x0_'_':(List Int)) (x0'__:Int) (x0'__':(List Int)) (x0'_'_:Int) (x0'_'_':(List Int)):Tr (Tys.data rs32) :=
  Tr.test (Option.isSome (f79 (((x0__,(x0__',())),((x0_'_,(x0_'_',())),())),())))
    (Tr.test (Option.isSome (f79 (((x0'__,(x0'__',())),((x0'_'_,(x0'_'_',())),())),())))
      (let r0:=g79 (((x0__,(x0__',())),((x0_'_,(x0_'_',())),())),());
      let r1:=g79 (((x0'__,(x0'__',())),((x0'_'_,(x0'_'_',())),())),());
      Tr.fin ((((r0.1.1,(r0.1.2.1,())),((r1.1.1,(r1.1.2.1,())),())),())))
      (Tr.stop))
    (Tr.stop)

def f32 (d:Tys.data as32):Option (Tys.data rs32):=(t32 d.1.1.1.1 d.1.1.1.2.1 d.1.1.2.1.1 d.1.1.2.1.2.1 d.1.2.1.1.1 d.1.2.1.1.2.1 d.1.2.1.2.1.1 d.1.2.1.2.1.2.1).val
def g32 (d:Tys.data as32):Tys.data rs32:=(f32 d).getD (Tys.dflt rs32)
def p32:PureC:=pcOf as32 rs32 f32 g32

theorem wk32 (x0__:Int) (x0__':(List Int)) (x0_'_:Int) (x0_'_':(List Int)) (x0'__:Int) (x0'__':(List Int)) (x0'_'_:Int) (x0'_'_':(List Int)):Walks (runPure (kf79 Go.Proofs.Tryz.prog).orc Go.Proofs.Tryz.prog 400 32 as32 rs32 ((((x0__,x0__',()),(x0_'_,x0_'_',()),()),((x0'__,x0'__',()),(x0'_'_,x0'_'_',()),()),()),())) (t32 x0__ x0__' x0_'_ x0_'_' x0'__ x0'__' x0'_'_ x0'_'_') [([true,true],[2,1,4,1])] :=
  ⟨by kernel_rfl,trivial⟩

theorem ok32_t (x0__:Int) (x0__':(List Int)) (x0_'_:Int) (x0_'_':(List Int)) (x0'__:Int) (x0'__':(List Int)) (x0'_'_:Int) (x0'_'_':(List Int)):TrOk (PureRuns Go.Proofs.Tryz.prog (kf79 Go.Proofs.Tryz.prog).orc 32 as32 rs32 ((((x0__,x0__',()),(x0_'_,x0_'_',()),()),((x0'__,x0'__',()),(x0'_'_,x0'_'_',()),()),()),())) (t32 x0__ x0__' x0_'_ x0_'_' x0'__ x0'__' x0'_'_ x0'_'_') :=
  Walks.ok (fun _ _ _=>PureRuns.of) (wk32 x0__ x0__' x0_'_ x0_'_' x0'__ x0'__' x0'_'_ x0'_'_') (by kernel_rfl)

theorem ok32:PureOk Go.Proofs.Tryz.prog 32 p32:=pureOk_of kf79_ok.base (T:=fun (d:Tys.data as32)=>t32 d.1.1.1.1 d.1.1.1.2.1 d.1.1.2.1.1 d.1.1.2.1.2.1 d.1.2.1.1.1 d.1.2.1.1.2.1 d.1.2.1.2.1.1 d.1.2.1.2.1.2.1) (by kernel_rfl) (fun (d:Tys.data as32)=>ok32_t d.1.1.1.1 d.1.1.1.2.1 d.1.1.2.1.1 d.1.1.2.1.2.1 d.1.2.1.1.1 d.1.2.1.1.2.1 d.1.2.1.2.1.1 d.1.2.1.2.1.2.1)
def kf32 (P:Go.Program):Known:=(kf79 P).func 32 p32
theorem kf32_ok:KnownOk Go.Proofs.Tryz.prog (kf32 Go.Proofs.Tryz.prog):=kf79_ok.func ok32

/-! ductility/ductilityref07.MovedErr -/

abbrev as34:List Ty:=[(.slice (.slice (.int .i64))),(.slice (.slice (.int .i64)))]
abbrev rs34:List Ty:=[(.int .i64)]

def t34 (x0:(List (List Int))) (x1:(List (List Int))):Tr (Tys.data rs34) :=
  Tr.test (Option.isSome (f31 (x0,())))
    (let r0:=g31 (x0,());
    Tr.test ((!eqF r0.1 0:Bool))
      (Tr.fin ((r0.1,())))
      (Tr.test (Option.isSome (f31 (x1,())))
        (let r1:=g31 (x1,());
        Tr.test ((!eqF r1.1 0:Bool))
          (Tr.fin ((r1.1,())))
          (Tr.test ((!eqF (↑(List.length x0):Int) (↑(List.length x1):Int):Bool))
            (Tr.fin (((13:Int),())))
            (Tr.test ((true && decide ((0:Int) < (↑(List.length x0):Int)):Bool))
              (Tr.test ((true && decide ((0:Int) < (↑(List.length x1):Int)):Bool))
                (Tr.test ((!eqF (↑(List.length (List.getD x0 (0:Nat) [])):Int) (↑(List.length (List.getD x1 (0:Nat) [])):Int):Bool))
                  (Tr.fin (((13:Int),())))
                  (Tr.fin (((0:Int),()))))
                (Tr.stop))
              (Tr.stop))))
        (Tr.stop)))
    (Tr.stop)

def f34 (d:Tys.data as34):Option (Tys.data rs34):=(t34 d.1 d.2.1).val
def g34 (d:Tys.data as34):Tys.data rs34:=(f34 d).getD (Tys.dflt rs34)
def p34:PureC:=pcOf as34 rs34 f34 g34

theorem wk34 (x0:(List (List Int))) (x1:(List (List Int))):Walks (runPure (kf32 Go.Proofs.Tryz.prog).orc Go.Proofs.Tryz.prog 400 34 as34 rs34 (x0,x1,())) (t34 x0 x1) [([true,true],[2,4]),([true,false,true,true],[2,4,6,8]),([true,false,true,false,true],[1,2,2,2,2,2,2,2,2,2,2,4,6,8,10]),([true,false,true,false,false,true,true,true],[2,8,8,8,8,4,8,8,8,8,6,8,8,10,12,14,16]),([true,false,true,false,false,true,true,false],[2,8,8,8,8,4,8,8,8,8,6,8,8,10,12,14,16])] :=
  ⟨by kernel_rfl,by kernel_rfl,by kernel_rfl,by kernel_rfl,by kernel_rfl,trivial⟩

theorem ok34_t (x0:(List (List Int))) (x1:(List (List Int))):TrOk (PureRuns Go.Proofs.Tryz.prog (kf32 Go.Proofs.Tryz.prog).orc 34 as34 rs34 (x0,x1,())) (t34 x0 x1) :=
  Walks.ok (fun _ _ _=>PureRuns.of) (wk34 x0 x1) (by kernel_rfl)

theorem ok34:PureOk Go.Proofs.Tryz.prog 34 p34:=pureOk_of kf32_ok.base (T:=fun (d:Tys.data as34)=>t34 d.1 d.2.1) (by kernel_rfl) (fun (d:Tys.data as34)=>ok34_t d.1 d.2.1)
def kf34 (P:Go.Program):Known:=(kf32 P).func 34 p34
theorem kf34_ok:KnownOk Go.Proofs.Tryz.prog (kf34 Go.Proofs.Tryz.prog):=kf32_ok.func ok34

/-! ductility/ductilitybase.RatioNeg -/

abbrev as110:List Ty:=[(.pair (.pair (.int .i64) (.pair (.slice (.int .i64)) .unit)) (.pair (.pair (.int .i64) (.pair (.slice (.int .i64)) .unit)) .unit))]
abbrev rs110:List Ty:=[(.pair (.pair (.int .i64) (.pair (.slice (.int .i64)) .unit)) (.pair (.pair (.int .i64) (.pair (.slice (.int .i64)) .unit)) .unit))]

def t110 (x0_:Int) (x0_':(List Int)) (x0'_:Int) (x0'_':(List Int)):Tr (Tys.data rs110) :=
  Tr.test (Option.isSome (f117 ((x0_,(x0_',())),())))
    (let r0:=g117 ((x0_,(x0_',())),());
    Tr.fin ((((r0.1.1,(r0.1.2.1,())),((x0'_,(x0'_',())),())),())))
    (Tr.stop)

def f110 (d:Tys.data as110):Option (Tys.data rs110):=(t110 d.1.1.1 d.1.1.2.1 d.1.2.1.1 d.1.2.1.2.1).val
def g110 (d:Tys.data as110):Tys.data rs110:=(f110 d).getD (Tys.dflt rs110)
def p110:PureC:=pcOf as110 rs110 f110 g110

theorem wk110 (x0_:Int) (x0_':(List Int)) (x0'_:Int) (x0'_':(List Int)):Walks (runPure (kf34 Go.Proofs.Tryz.prog).orc Go.Proofs.Tryz.prog 400 110 as110 rs110 (((x0_,x0_',()),(x0'_,x0'_',()),()),())) (t110 x0_ x0_' x0'_ x0'_') [([tt],[2])] :=
  ⟨by kernel_rfl,trivial⟩

theorem ok110_t (x0_:Int) (x0_':(List Int)) (x0'_:Int) (x0'_':(List Int)):TrOk (PureRuns Go.Proofs.Tryz.prog (kf34 Go.Proofs.Tryz.prog).orc 110 as110 rs110 (((x0_,x0_',()),(x0'_,x0'_',()),()),())) (t110 x0_ x0_' x0'_ x0'_') :=
  Walks.ok (fun _ _ _=>PureRuns.of) (wk110 x0_ x0_' x0'_ x0'_') (by kernel_rfl)

theorem ok110:PureOk Go.Proofs.Tryz.prog 110 p110:=pureOk_of kf34_ok.base (T:=fun (d:Tys.data as110)=>t110 d.1.1.1 d.1.1.2.1 d.1.2.1.1 d.1.2.1.2.1) (by kernel_rfl) (fun (d:Tys.data as110)=>ok110_t d.1.1.1 d.1.1.2.1 d.1.2.1.1 d.1.2.1.2.1)
def kf110 (P:Go.Program):Known:=(kf34 P).func 110 p110
theorem kf110_ok:KnownOk Go.Proofs.Tryz.prog (kf110 Go.Proofs.Tryz.prog):=kf34_ok.func ok110

/-! ductility/ductilitybase.RatioAdd -/

abbrev as109:List Ty:=[(.pair (.pair (.int .i64) (.pair (.slice (.int .i64)) .unit)) (.pair (.pair (.int .i64) (.pair (.slice (.int .i64)) .unit)) .unit)),(.pair (.pair (.int .i64) (.pair (.slice (.int .i64)) .unit)) (.pair (.pair (.int .i64) (.pair (.slice (.int .i64)) .unit)) .unit))]
abbrev rs109:List Ty:=[(.pair (.pair (.int .i64) (.pair (.slice (.int .i64)) .unit)) (.pair (.pair (.int .i64) (.pair (.slice (.int .i64)) .unit)) .unit))]

def t109 (x0_:Int) (x0_':(List Int)) (x0'_:Int) (x0'_':(List Int)) (x1_:Int) (x1_':(List Int)) (x1'_:Int) (x1'_':(List Int)):Tr (Tys.data rs109) :=
  Tr.test (Option.isSome (f74 ((x0_,(x0_',())),((x1'_,(x1'_',())),()))))
    (Tr.test (Option.isSome (f74 ((x1_,(x1_',())),((x0'_,(x0'_',())),()))))
      (let r0:=g74 ((x0_,(x0_',())),((x1'_,(x1'_',())),()));
      let r1:=g74 ((x1_,(x1_',())),((x0'_,(x0'_',())),()));
      Tr.test (Option.isSome (f97 ((r0.1.1,(r0.1.2.1,())),((r1.1.1,(r1.1.2.1,())),()))))
        (Tr.test (Option.isSome (f74 ((x0'_,(x0'_',())),((x1'_,(x1'_',())),()))))
          (let r2:=g97 ((r0.1.1,(r0.1.2.1,())),((r1.1.1,(r1.1.2.1,())),()));
          let r3:=g74 ((x0'_,(x0'_',())),((x1'_,(x1'_',())),()));
          Tr.test (Option.isSome (f101 ((r2.1.1,(r2.1.2.1,())),((r3.1.1,(r3.1.2.1,())),()))))
            (let r4:=g101 ((r2.1.1,(r2.1.2.1,())),((r3.1.1,(r3.1.2.1,())),()));
            Tr.fin ((((r4.1.1.1,(r4.1.1.2.1,())),((r4.1.2.1.1,(r4.1.2.1.2.1,())),())),())))
            (Tr.stop))
          (Tr.stop))
        (Tr.stop))
      (Tr.stop))
    (Tr.stop)

def f109 (d:Tys.data as109):Option (Tys.data rs109):=(t109 d.1.1.1 d.1.1.2.1 d.1.2.1.1 d.1.2.1.2.1 d.2.1.1.1 d.2.1.1.2.1 d.2.1.2.1.1 d.2.1.2.1.2.1).val
def g109 (d:Tys.data as109):Tys.data rs109:=(f109 d).getD (Tys.dflt rs109)
def p109:PureC:=pcOf as109 rs109 f109 g109

theorem wk109 (x0_:Int) (x0_':(List Int)) (x0'_:Int) (x0'_':(List Int)) (x1_:Int) (x1_':(List Int)) (x1'_:Int) (x1'_':(List Int)):Walks (runPure (kf110 Go.Proofs.Tryz.prog).orc Go.Proofs.Tryz.prog 400 109 as109 rs109 (((x0_,x0_',()),(x0'_,x0'_',()),()),((x1_,x1_',()),(x1'_,x1'_',()),()),())) (t109 x0_ x0_' x0'_ x0'_' x1_ x1_' x1'_ x1'_') [([true,true,true,true,true],[2,4,6,8,10])] :=
  ⟨by kernel_rfl,trivial⟩

theorem ok109_t (x0_:Int) (x0_':(List Int)) (x0'_:Int) (x0'_':(List Int)) (x1_:Int) (x1_':(List Int)) (x1'_:Int) (x1'_':(List Int)):TrOk (PureRuns Go.Proofs.Tryz.prog (kf110 Go.Proofs.Tryz.prog).orc 109 as109 rs109 (((x0_,x0_',()),(x0'_,x0'_',()),()),((x1_,x1_',()),(x1'_,x1'_',()),()),())) (t109 x0_ x0_' x0'_ x0'_' x1_ x1_' x1'_ x1'_') :=
  Walks.ok (fun _ _ _=>PureRuns.of) (wk109 x0_ x0_' x0'_ x0'_' x1_ x1_' x1'_ x1'_') (by kernel_rfl)

theorem ok109:PureOk Go.Proofs.Tryz.prog 109 p109:=pureOk_of kf110_ok.base (T:=fun (d:Tys.data as109)=>t109 d.1.1.1 d.1.1.2.1 d.1.2.1.1 d.1.2.1.2.1 d.2.1.1.1 d.2.1.1.2.1 d.2.1.2.1.1 d.2.1.2.1.2.1) (by kernel_rfl) (fun (d:Tys.data as109)=>ok109_t d.1.1.1 d.1.1.2.1 d.1.2.1.1 d.1.2.1.2.1 d.2.1.1.1 d.2.1.1.2.1 d.2.1.2.1.1 d.2.1.2.1.2.1)
def kf109 (P:Go.Program):Known:=(kf110 P).func 109 p109
theorem kf109_ok:KnownOk Go.Proofs.Tryz.prog (kf109 Go.Proofs.Tryz.prog):=kf110_ok.func ok109

/-! ductility/ductilitybase.RatioSub -/

abbrev as80:List Ty:=[(.pair (.pair (.int .i64) (.pair (.slice (.int .i64)) .unit)) (.pair (.pair (.int .i64) (.pair (.slice (.int .i64)) .unit)) .unit)),(.pair (.pair (.int .i64) (.pair (.slice (.int .i64)) .unit)) (.pair (.pair (.int .i64) (.pair (.slice (.int .i64)) .unit)) .unit))]
abbrev rs80:List Ty:=[(.pair (.pair (.int .i64) (.pair (.slice (.int .i64)) .unit)) (.pair (.pair (.int .i64) (.pair (.slice (.int .i64)) .unit)) .unit))]

def t80 (x0_:Int) (x0_':(List Int)) (x0'_:Int) (x0'_':(List Int)) (x1_:Int) (x1_':(List Int)) (x1'_:Int) (x1'_':(List Int)):Tr (Tys.data rs80) :=
  Tr.test (Option.isSome (f110 (((x1_,(x1_',())),((x1'_,(x1'_',())),())),())))
    (let r0:=g110 (((x1_,(x1_',())),((x1'_,(x1'_',())),())),());
    Tr.test (Option.isSome (f109 (((x0_,(x0_',())),((x0'_,(x0'_',())),())),(((r0.1.1.1,(r0.1.1.2.1,())),((r0.1.2.1.1,(r0.1.2.1.2.1,())),())),()))))
      (let r1:=g109 (((x0_,(x0_',())),((x0'_,(x0'_',())),())),(((r0.1.1.1,(r0.1.1.2.1,())),((r0.1.2.1.1,(r0.1.2.1.2.1,())),())),()));
      Tr.fin ((((r1.1.1.1,(r1.1.1.2.1,())),((r1.1.2.1.1,(r1.1.2.1.2.1,())),())),())))
      (Tr.stop))
    (Tr.stop)

def f80 (d:Tys.data as80):Option (Tys.data rs80):=(t80 d.1.1.1 d.1.1.2.1 d.1.2.1.1 d.1.2.1.2.1 d.2.1.1.1 d.2.1.1.2.1 d.2.1.2.1.1 d.2.1.2.1.2.1).val
def g80 (d:Tys.data as80):Tys.data rs80:=(f80 d).getD (Tys.dflt rs80)
def p80:PureC:=pcOf as80 rs80 f80 g80

theorem wk80 (x0_:Int) (x0_':(List Int)) (x0'_:Int) (x0'_':(List Int)) (x1_:Int) (x1_':(List Int)) (x1'_:Int) (x1'_':(List Int)):Walks (runPure (kf109 Go.Proofs.Tryz.prog).orc Go.Proofs.Tryz.prog 400 80 as80 rs80 (((x0_,x0_',()),(x0'_,x0'_',()),()),((x1_,x1_',()),(x1'_,x1'_',()),()),())) (t80 x0_ x0_' x0'_ x0'_' x1_ x1_' x1'_ x1'_') [([true,true],[2,4])] :=
  ⟨by kernel_rfl,trivial⟩

theorem ok80_t (x0_:Int) (x0_':(List Int)) (x0'_:Int) (x0'_':(List Int)) (x1_:Int) (x1_':(List Int)) (x1'_:Int) (x1'_':(List Int)):TrOk (PureRuns Go.Proofs.Tryz.prog (kf109 Go.Proofs.Tryz.prog).orc 80 as80 rs80 (((x0_,x0_',()),(x0'_,x0'_',()),()),((x1_,x1_',()),(x1'_,x1'_',()),()),())) (t80 x0_ x0_' x0'_ x0'_' x1_ x1_' x1'_ x1'_') :=
  Walks.ok (fun _ _ _=>PureRuns.of) (wk80 x0_ x0_' x0'_ x0'_' x1_ x1_' x1'_ x1'_') (by kernel_rfl)

theorem ok80:PureOk Go.Proofs.Tryz.prog 80 p80:=pureOk_of kf109_ok.base (T:=fun (d:Tys.data as80)=>t80 d.1.1.1 d.1.1.2.1 d.1.2.1.1 d.1.2.1.2.1 d.2.1.1.1 d.2.1.1.2.1 d.2.1.2.1.1 d.2.1.2.1.2.1) (by kernel_rfl) (fun (d:Tys.data as80)=>ok80_t d.1.1.1 d.1.1.2.1 d.1.2.1.1 d.1.2.1.2.1 d.2.1.1.1 d.2.1.1.2.1 d.2.1.2.1.1 d.2.1.2.1.2.1)
def kf80 (P:Go.Program):Known:=(kf109 P).func 80 p80
theorem kf80_ok:KnownOk Go.Proofs.Tryz.prog (kf80 Go.Proofs.Tryz.prog):=kf109_ok.func ok80

/-! ductility/ductilityref07.Moved -/

abbrev as35:List Ty:=[(.slice (.slice (.int .i64))),(.slice (.slice (.int .i64)))]
abbrev rs35:List Ty:=[(.pair (.pair (.int .i64) (.pair (.int .i64) .unit)) (.pair (.pair (.int .i64) (.pair (.int .i64) .unit)) .unit))]

def t35 (x0:(List (List Int))) (x1:(List (List Int))):Tr (Tys.data rs35) :=
  Tr.test (Option.isSome (f33 (x0,())))
    (Tr.test (Option.isSome (f33 (x1,())))
      (let r0:=g33 (x0,());
      let r1:=g33 (x1,());
      Tr.test (Option.isSome (f80 (((r1.1.1.1.1,(r1.1.1.1.2.1,())),((r1.1.1.2.1.1,(r1.1.1.2.1.2.1,())),())),(((r0.1.1.1.1,(r0.1.1.1.2.1,())),((r0.1.1.2.1.1,(r0.1.1.2.1.2.1,())),())),()))))
        (Tr.test (Option.isSome (f80 (((r1.1.2.1.1.1,(r1.1.2.1.1.2.1,())),((r1.1.2.1.2.1.1,(r1.1.2.1.2.1.2.1,())),())),(((r0.1.2.1.1.1,(r0.1.2.1.1.2.1,())),((r0.1.2.1.2.1.1,(r0.1.2.1.2.1.2.1,())),())),()))))
          (let r2:=g80 (((r1.1.1.1.1,(r1.1.1.1.2.1,())),((r1.1.1.2.1.1,(r1.1.1.2.1.2.1,())),())),(((r0.1.1.1.1,(r0.1.1.1.2.1,())),((r0.1.1.2.1.1,(r0.1.1.2.1.2.1,())),())),()));
          let r3:=g80 (((r1.1.2.1.1.1,(r1.1.2.1.1.2.1,())),((r1.1.2.1.2.1.1,(r1.1.2.1.2.1.2.1,())),())),(((r0.1.2.1.1.1,(r0.1.2.1.1.2.1,())),((r0.1.2.1.2.1.1,(r0.1.2.1.2.1.2.1,())),())),()));
          Tr.test (Option.isSome (f32 ((((r2.1.1.1,(r2.1.1.2.1,())),((r2.1.2.1.1,(r2.1.2.1.2.1,())),())),(((r3.1.1.1,(r3.1.1.2.1,())),((r3.1.2.1.1,(r3.1.2.1.2.1,())),())),())),())))
            (let r4:=g32 ((((r2.1.1.1,(r2.1.1.2.1,())),((r2.1.2.1.1,(r2.1.2.1.2.1,())),())),(((r3.1.1.1,(r3.1.1.2.1,())),((r3.1.2.1.1,(r3.1.2.1.2.1,())),())),())),());
            Tr.fin ((((r4.1.1.1,(r4.1.1.2.1,())),((r4.1.2.1.1,(r4.1.2.1.2.1,())),())),())))
            (Tr.stop))
          (Tr.stop))
        (Tr.stop))
      (Tr.stop))
    (Tr.stop)

def f35 (d:Tys.data as35):Option (Tys.data rs35):=(t35 d.1 d.2.1).val
def g35 (d:Tys.data as35):Tys.data rs35:=(f35 d).getD (Tys.dflt rs35)
def p35:PureC:=pcOf as35 rs35 f35 g35

theorem wk35 (x0:(List (List Int))) (x1:(List (List Int))):Walks (runPure (kf80 Go.Proofs.Tryz.prog).orc Go.Proofs.Tryz.prog 400 35 as35 rs35 (x0,x1,())) (t35 x0 x1) [([true,true,true,true,true],[2,4,1,1,6,1,1,8,10])] :=
  ⟨by kernel_rfl,trivial⟩

theorem ok35_t (x0:(List (List Int))) (x1:(List (List Int))):TrOk (PureRuns Go.Proofs.Tryz.prog (kf80 Go.Proofs.Tryz.prog).orc 35 as35 rs35 (x0,x1,())) (t35 x0 x1) :=
  Walks.ok (fun _ _ _=>PureRuns.of) (wk35 x0 x1) (by kernel_rfl)

theorem ok35:PureOk Go.Proofs.Tryz.prog 35 p35:=pureOk_of kf80_ok.base (T:=fun (d:Tys.data as35)=>t35 d.1 d.2.1) (by kernel_rfl) (fun (d:Tys.data as35)=>ok35_t d.1 d.2.1)
def kf35 (P:Go.Program):Known:=(kf80 P).func 35 p35
theorem kf35_ok:KnownOk Go.Proofs.Tryz.prog (kf35 Go.Proofs.Tryz.prog):=kf80_ok.func ok35

/-! ductility/ductilitylaw07.SensorImages -/

abbrev as5:List Ty:=[(.slice (.slice (.int .i64))),(.slice (.slice (.int .i64)))]
abbrev rs5:List Ty:=[.bool]

def t5 (x0:(List (List Int))) (x1:(List (List Int))):Tr (Tys.data rs5) :=
  Tr.test (Option.isSome (f27 (x0,())))
    (let r0:=g27 (x0,());
    Tr.test ((!r0.1:Bool))
      (Tr.fin (((true:Bool),())))
      (Tr.test (Option.isSome (f27 (x1,())))
        (let r1:=g27 (x1,());
        Tr.test ((!r1.1:Bool))
          (Tr.fin (((true:Bool),())))
          (Tr.test (Option.isSome (f29 (x0,())))
            (let r2:=g29 (x0,());
            Tr.test (Option.isSome (f28 (r2.1,())))
              (Tr.test (Option.isSome (f29 (x1,())))
                (let r4:=g29 (x1,());
                Tr.test (Option.isSome (f30 (r2.1,(r4.1,()))))
                  (Tr.test (Option.isSome (f31 (x0,())))
                    (let r3:=g28 (r2.1,());
                    let r6:=g31 (x0,());
                    Tr.test ((!eqF r3.2.1 r6.1:Bool))
                      (Tr.fin (((false:Bool),())))
                      (Tr.test ((!eqF r6.1 0:Bool))
                        (Tr.test ((!(r3.1.1.1 == (0:Int) && (r3.1.1.2.1 == (0:Int) && true) && (r3.1.2.1.1 == (0:Int) && (r3.1.2.1.2.1 == (0:Int) && true) && true)):Bool))
                          (Tr.fin (((false:Bool),())))
                          (Tr.test (Option.isSome (f34 (x0,(x1,()))))
                            (let r9:=g34 (x0,(x1,()));
                            Tr.test ((!eqF r9.1 0:Bool))
                              (let r5:=g30 (r2.1,(r4.1,()));
                              Tr.test ((eqF r5.2.1 r9.1:Bool))
                                (Tr.fin (((r5.1.1.1 == (0:Int) && (r5.1.1.2.1 == (0:Int) && true) && (r5.1.2.1.1 == (0:Int) && (r5.1.2.1.2.1 == (0:Int) && true) && true):Bool),())))
                                (Tr.fin (((false:Bool),()))))
                              (let r5:=g30 (r2.1,(r4.1,()));
                              Tr.test ((eqF r5.2.1 0:Bool))
                                (Tr.test (Option.isSome (f35 (x0,(x1,()))))
                                  (let r10:=g35 (x0,(x1,()));
                                  Tr.fin (((r5.1.1.1 == r10.1.1.1 && (r5.1.1.2.1 == r10.1.1.2.1 && true) && (r5.1.2.1.1 == r10.1.2.1.1 && (r5.1.2.1.2.1 == r10.1.2.1.2.1 && true) && true):Bool),())))
                                  (Tr.stop))
                                (Tr.fin (((false:Bool),())))))
                            (Tr.stop)))
                        (Tr.test (Option.isSome (f33 (x0,())))
                          (let r7:=g33 (x0,());
                          Tr.test (Option.isSome (f32 ((((r7.1.1.1.1,(r7.1.1.1.2.1,())),((r7.1.1.2.1.1,(r7.1.1.2.1.2.1,())),())),(((r7.1.2.1.1.1,(r7.1.2.1.1.2.1,())),((r7.1.2.1.2.1.1,(r7.1.2.1.2.1.2.1,())),())),())),())))
                            (let r8:=g32 ((((r7.1.1.1.1,(r7.1.1.1.2.1,())),((r7.1.1.2.1.1,(r7.1.1.2.1.2.1,())),())),(((r7.1.2.1.1.1,(r7.1.2.1.1.2.1,())),((r7.1.2.1.2.1.1,(r7.1.2.1.2.1.2.1,())),())),())),());
                            Tr.test ((!(r3.1.1.1 == r8.1.1.1 && (r3.1.1.2.1 == r8.1.1.2.1 && true) && (r3.1.2.1.1 == r8.1.2.1.1 && (r3.1.2.1.2.1 == r8.1.2.1.2.1 && true) && true)):Bool))
                              (Tr.fin (((false:Bool),())))
                              (Tr.test (Option.isSome (f34 (x0,(x1,()))))
                                (let r9:=g34 (x0,(x1,()));
                                Tr.test ((!eqF r9.1 0:Bool))
                                  (let r5:=g30 (r2.1,(r4.1,()));
                                  Tr.test ((eqF r5.2.1 r9.1:Bool))
                                    (Tr.fin (((r5.1.1.1 == (0:Int) && (r5.1.1.2.1 == (0:Int) && true) && (r5.1.2.1.1 == (0:Int) && (r5.1.2.1.2.1 == (0:Int) && true) && true):Bool),())))
                                    (Tr.fin (((false:Bool),()))))
                                  (let r5:=g30 (r2.1,(r4.1,()));
                                  Tr.test ((eqF r5.2.1 0:Bool))
                                    (Tr.test (Option.isSome (f35 (x0,(x1,()))))
                                      (let r10:=g35 (x0,(x1,()));
                                      Tr.fin (((r5.1.1.1 == r10.1.1.1 && (r5.1.1.2.1 == r10.1.1.2.1 && true) && (r5.1.2.1.1 == r10.1.2.1.1 && (r5.1.2.1.2.1 == r10.1.2.1.2.1 && true) && true):Bool),())))
                                      (Tr.stop))
                                    (Tr.fin (((false:Bool),())))))
                                (Tr.stop)))
                            (Tr.stop))
                          (Tr.stop))))
                    (Tr.stop))
                  (Tr.stop))
                (Tr.stop))
              (Tr.stop))
            (Tr.stop)))
        (Tr.stop)))
    (Tr.stop)

def f5 (d:Tys.data as5):Option (Tys.data rs5):=(t5 d.1 d.2.1).val
def g5 (d:Tys.data as5):Tys.data rs5:=(f5 d).getD (Tys.dflt rs5)
def p5:PureC:=pcOf as5 rs5 f5 g5

theorem e5_0 (x0:(List (List Int))) (x1:(List (List Int))):runPure (kf35 Go.Proofs.Tryz.prog).orc Go.Proofs.Tryz.prog 400 5 as5 rs5 (x0,x1,()) [tt,ff,tt,tt,tt,tt,tt,tt] =
    (let r0:=g27 (x0,()); some ((true,()),[(true,true),(!r0.1,true),(!r0.1,true),(!r0.1,true),(!r0.1,true),(Option.isSome (f27 (x0,())),true),(false,false),(true,true)])):=by kernel_rfl
theorem e5_1 (x0:(List (List Int))) (x1:(List (List Int))):runPure (kf35 Go.Proofs.Tryz.prog).orc Go.Proofs.Tryz.prog 400 5 as5 rs5 (x0,x1,()) [tt,ff,tt,ff,ff,tt,ff,ff,tt] =
    (let r0:=g27 (x0,());let r1:=g27 (x1,()); some ((true,()),[(!r1.1,true),(!r0.1,false),(!r0.1,false),(Option.isSome (f27 (x1,())),true),(!r0.1,false),(!r0.1,false),(Option.isSome (f27 (x0,())),true),(false,false),(true,true)])):=by kernel_rfl
theorem e5_2 (x0:(List (List Int))) (x1:(List (List Int))):runPure (kf35 Go.Proofs.Tryz.prog).orc Go.Proofs.Tryz.prog 400 5 as5 rs5 (x0,x1,()) [tt,ff,tt,ff,ff,tt,ff,ff,ff,tt,tt,tt,tt,tt,tt,tt,tt,tt,tt,tt,tt,tt,tt,tt,tt,tt] =
    (let r0:=g27 (x0,());let r1:=g27 (x1,());let r2:=g29 (x0,());let r4:=g29 (x1,());let r3:=g28 (r2.1,());let r6:=g31 (x0,()); some ((false,()),[(true,true),(true,true),(true,true),(true,true),(true,true),(true,true),(!eqF r3.2.1 r6.1,true),(!eqF r3.2.1 r6.1,true),(!eqF r3.2.1 r6.1,true),(!eqF r3.2.1 r6.1,true),(!eqF r3.2.1 r6.1,true),(Option.isSome (f31 (x0,())),true),(Option.isSome (f30 (r2.1,(r4.1,()))),true),(Option.isSome (f29 (x1,())),true),(Option.isSome (f29 (x0,())),true),(Option.isSome (f28 (r2.1,())),true),(Option.isSome (f29 (x0,())),true),(!r1.1,false),(!r0.1,false),(!r0.1,false),(Option.isSome (f27 (x1,())),true),(!r0.1,false),(!r0.1,false),(Option.isSome (f27 (x0,())),true),(false,false),(true,true)])):=by kernel_rfl
theorem e5_3 (x0:(List (List Int))) (x1:(List (List Int))):runPure (kf35 Go.Proofs.Tryz.prog).orc Go.Proofs.Tryz.prog 400 5 as5 rs5 (x0,x1,()) [tt,ff,tt,ff,ff,tt,ff,ff,ff,tt,tt,tt,tt,tt,tt,ff,ff,ff,tt,tt,tt,ff,tt,ff,tt,tt,tt,tt,tt,tt] =
    (let r0:=g27 (x0,());let r1:=g27 (x1,());let r2:=g29 (x0,());let r4:=g29 (x1,());let r3:=g28 (r2.1,());let r6:=g31 (x0,()); some ((false,()),[(true,true),(!(r3.1.1.1 == (0:Int) && (r3.1.1.2.1 == (0:Int) && true) && (r3.1.2.1.1 == (0:Int) && (r3.1.2.1.2.1 == (0:Int) && true) && true)),true),(!(r3.1.1.1 == (0:Int) && (r3.1.1.2.1 == (0:Int) && true) && (r3.1.2.1.1 == (0:Int) && (r3.1.2.1.2.1 == (0:Int) && true) && true)),true),(!(r3.1.1.1 == (0:Int) && (r3.1.1.2.1 == (0:Int) && true) && (r3.1.2.1.1 == (0:Int) && (r3.1.2.1.2.1 == (0:Int) && true) && true)),true),(!(r3.1.1.1 == (0:Int) && (r3.1.1.2.1 == (0:Int) && true) && (r3.1.2.1.1 == (0:Int) && (r3.1.2.1.2.1 == (0:Int) && true) && true)),true),(!(r3.1.1.1 == (0:Int) && (r3.1.1.2.1 == (0:Int) && true) && (r3.1.2.1.1 == (0:Int) && (r3.1.2.1.2.1 == (0:Int) && true) && true)),true),(!eqF r3.2.1 r6.1,false),(!eqF r6.1 0,true),(!eqF r3.2.1 r6.1,false),(!eqF r6.1 0,true),(!eqF r6.1 0,true),(!eqF r6.1 0,true),(!eqF r3.2.1 r6.1,false),(!eqF r3.2.1 r6.1,false),(!eqF r3.2.1 r6.1,false),(Option.isSome (f31 (x0,())),true),(Option.isSome (f30 (r2.1,(r4.1,()))),true),(Option.isSome (f29 (x1,())),true),(Option.isSome (f29 (x0,())),true),(Option.isSome (f28 (r2.1,())),true),(Option.isSome (f29 (x0,())),true),(!r1.1,false),(!r0.1,false),(!r0.1,false),(Option.isSome (f27 (x1,())),true),(!r0.1,false),(!r0.1,false),(Option.isSome (f27 (x0,())),true),(false,false),(true,true)])):=by kernel_rfl
theorem e5_4 (x0:(List (List Int))) (x1:(List (List Int))):runPure (kf35 Go.Proofs.Tryz.prog).orc Go.Proofs.Tryz.prog 400 5 as5 rs5 (x0,x1,()) [tt,ff,tt,ff,ff,tt,ff,ff,ff,tt,tt,tt,tt,tt,tt,ff,ff,ff,tt,tt,tt,ff,tt,ff,ff,ff,ff,ff,ff,ff,ff,ff,ff,ff,ff,ff,tt,tt,tt,tt,tt,tt] =
    (let r0:=g27 (x0,());let r1:=g27 (x1,());let r2:=g29 (x0,());let r4:=g29 (x1,());let r3:=g28 (r2.1,());let r6:=g31 (x0,());let r9:=g34 (x0,(x1,()));let r5:=g30 (r2.1,(r4.1,())); some ((r5.1.1.1 == (0:Int) && (r5.1.1.2.1 == (0:Int) && true) && (r5.1.2.1.1 == (0:Int) && (r5.1.2.1.2.1 == (0:Int) && true) && true),()),[(eqF r5.2.1 r9.1,true),(eqF r5.2.1 r9.1,true),(eqF r5.2.1 r9.1,true),(eqF r5.2.1 r9.1,true),(!eqF r9.1 0,true),(Option.isSome (f34 (x0,(x1,()))),true),(false,false),(!(r3.1.1.1 == (0:Int) && (r3.1.1.2.1 == (0:Int) && true) && (r3.1.2.1.1 == (0:Int) && (r3.1.2.1.2.1 == (0:Int) && true) && true)),false),(eqF r6.1 0,false),(!(r3.1.1.1 == (0:Int) && (r3.1.1.2.1 == (0:Int) && true) && (r3.1.2.1.1 == (0:Int) && (r3.1.2.1.2.1 == (0:Int) && true) && true)),false),(eqF r6.1 0,false),(eqF r6.1 0,false),(eqF r6.1 0,false),(eqF r6.1 0,false),(eqF r6.1 0,false),(!(r3.1.1.1 == (0:Int) && (r3.1.1.2.1 == (0:Int) && true) && (r3.1.2.1.1 == (0:Int) && (r3.1.2.1.2.1 == (0:Int) && true) && true)),false),(!(r3.1.1.1 == (0:Int) && (r3.1.1.2.1 == (0:Int) && true) && (r3.1.2.1.1 == (0:Int) && (r3.1.2.1.2.1 == (0:Int) && true) && true)),false),(!(r3.1.1.1 == (0:Int) && (r3.1.1.2.1 == (0:Int) && true) && (r3.1.2.1.1 == (0:Int) && (r3.1.2.1.2.1 == (0:Int) && true) && true)),false),(!eqF r3.2.1 r6.1,false),(!eqF r6.1 0,true),(!eqF r3.2.1 r6.1,false),(!eqF r6.1 0,true),(!eqF r6.1 0,true),(!eqF r6.1 0,true),(!eqF r3.2.1 r6.1,false),(!eqF r3.2.1 r6.1,false),(!eqF r3.2.1 r6.1,false),(Option.isSome (f31 (x0,())),true),(Option.isSome (f30 (r2.1,(r4.1,()))),true),(Option.isSome (f29 (x1,())),true),(Option.isSome (f29 (x0,())),true),(Option.isSome (f28 (r2.1,())),true),(Option.isSome (f29 (x0,())),true),(!r1.1,false),(!r0.1,false),(!r0.1,false),(Option.isSome (f27 (x1,())),true),(!r0.1,false),(!r0.1,false),(Option.isSome (f27 (x0,())),true),(false,false),(true,true)])):=by kernel_rfl
theorem e5_5 (x0:(List (List Int))) (x1:(List (List Int))):runPure (kf35 Go.Proofs.Tryz.prog).orc Go.Proofs.Tryz.prog 400 5 as5 rs5 (x0,x1,()) [tt,ff,tt,ff,ff,tt,ff,ff,ff,tt,tt,tt,tt,tt,tt,ff,ff,ff,tt,tt,tt,ff,tt,ff,ff,ff,ff,ff,ff,ff,ff,ff,ff,ff,ff,ff,tt,tt,ff,ff,ff,ff] =
    (let r0:=g27 (x0,());let r1:=g27 (x1,());let r2:=g29 (x0,());let r4:=g29 (x1,());let r3:=g28 (r2.1,());let r6:=g31 (x0,());let r9:=g34 (x0,(x1,()));let r5:=g30 (r2.1,(r4.1,())); some ((false,()),[(eqF r5.2.1 r9.1,false),(eqF r5.2.1 r9.1,false),(eqF r5.2.1 r9.1,false),(eqF r5.2.1 r9.1,false),(!eqF r9.1 0,true),(Option.isSome (f34 (x0,(x1,()))),true),(false,false),(!(r3.1.1.1 == (0:Int) && (r3.1.1.2.1 == (0:Int) && true) && (r3.1.2.1.1 == (0:Int) && (r3.1.2.1.2.1 == (0:Int) && true) && true)),false),(eqF r6.1 0,false),(!(r3.1.1.1 == (0:Int) && (r3.1.1.2.1 == (0:Int) && true) && (r3.1.2.1.1 == (0:Int) && (r3.1.2.1.2.1 == (0:Int) && true) && true)),false),(eqF r6.1 0,false),(eqF r6.1 0,false),(eqF r6.1 0,false),(eqF r6.1 0,false),(eqF r6.1 0,false),(!(r3.1.1.1 == (0:Int) && (r3.1.1.2.1 == (0:Int) && true) && (r3.1.2.1.1 == (0:Int) && (r3.1.2.1.2.1 == (0:Int) && true) && true)),false),(!(r3.1.1.1 == (0:Int) && (r3.1.1.2.1 == (0:Int) && true) && (r3.1.2.1.1 == (0:Int) && (r3.1.2.1.2.1 == (0:Int) && true) && true)),false),(!(r3.1.1.1 == (0:Int) && (r3.1.1.2.1 == (0:Int) && true) && (r3.1.2.1.1 == (0:Int) && (r3.1.2.1.2.1 == (0:Int) && true) && true)),false),(!eqF r3.2.1 r6.1,false),(!eqF r6.1 0,true),(!eqF r3.2.1 r6.1,false),(!eqF r6.1 0,true),(!eqF r6.1 0,true),(!eqF r6.1 0,true),(!eqF r3.2.1 r6.1,false),(!eqF r3.2.1 r6.1,false),(!eqF r3.2.1 r6.1,false),(Option.isSome (f31 (x0,())),true),(Option.isSome (f30 (r2.1,(r4.1,()))),true),(Option.isSome (f29 (x1,())),true),(Option.isSome (f29 (x0,())),true),(Option.isSome (f28 (r2.1,())),true),(Option.isSome (f29 (x0,())),true),(!r1.1,false),(!r0.1,false),(!r0.1,false),(Option.isSome (f27 (x1,())),true),(!r0.1,false),(!r0.1,false),(Option.isSome (f27 (x0,())),true),(false,false),(true,true)])):=by kernel_rfl
theorem e5_6 (x0:(List (List Int))) (x1:(List (List Int))):runPure (kf35 Go.Proofs.Tryz.prog).orc Go.Proofs.Tryz.prog 400 5 as5 rs5 (x0,x1,()) [tt,ff,tt,ff,ff,tt,ff,ff,ff,tt,tt,tt,tt,tt,tt,ff,ff,ff,tt,tt,tt,ff,tt,ff,ff,ff,ff,ff,ff,ff,ff,ff,ff,ff,ff,ff,tt,ff,tt,tt,tt,tt,tt,tt,tt] =
    (let r0:=g27 (x0,());let r1:=g27 (x1,());let r2:=g29 (x0,());let r4:=g29 (x1,());let r3:=g28 (r2.1,());let r6:=g31 (x0,());let r9:=g34 (x0,(x1,()));let r5:=g30 (r2.1,(r4.1,()));let r10:=g35 (x0,(x1,())); some ((r5.1.1.1 == r10.1.1.1 && (r5.1.1.2.1 == r10.1.1.2.1 && true) && (r5.1.2.1.1 == r10.1.2.1.1 && (r5.1.2.1.2.1 == r10.1.2.1.2.1 && true) && true),()),[(eqF r5.2.1 0,true),(eqF r5.2.1 0,true),(Option.isSome (f35 (x0,(x1,()))),true),(eqF r5.2.1 0,true),(eqF r5.2.1 0,true),(eqF r5.2.1 0,true),(eqF r5.2.1 0,true),(!eqF r9.1 0,false),(Option.isSome (f34 (x0,(x1,()))),true),(false,false),(!(r3.1.1.1 == (0:Int) && (r3.1.1.2.1 == (0:Int) && true) && (r3.1.2.1.1 == (0:Int) && (r3.1.2.1.2.1 == (0:Int) && true) && true)),false),(eqF r6.1 0,false),(!(r3.1.1.1 == (0:Int) && (r3.1.1.2.1 == (0:Int) && true) && (r3.1.2.1.1 == (0:Int) && (r3.1.2.1.2.1 == (0:Int) && true) && true)),false),(eqF r6.1 0,false),(eqF r6.1 0,false),(eqF r6.1 0,false),(eqF r6.1 0,false),(eqF r6.1 0,false),(!(r3.1.1.1 == (0:Int) && (r3.1.1.2.1 == (0:Int) && true) && (r3.1.2.1.1 == (0:Int) && (r3.1.2.1.2.1 == (0:Int) && true) && true)),false),(!(r3.1.1.1 == (0:Int) && (r3.1.1.2.1 == (0:Int) && true) && (r3.1.2.1.1 == (0:Int) && (r3.1.2.1.2.1 == (0:Int) && true) && true)),false),(!(r3.1.1.1 == (0:Int) && (r3.1.1.2.1 == (0:Int) && true) && (r3.1.2.1.1 == (0:Int) && (r3.1.2.1.2.1 == (0:Int) && true) && true)),false),(!eqF r3.2.1 r6.1,false),(!eqF r6.1 0,true),(!eqF r3.2.1 r6.1,false),(!eqF r6.1 0,true),(!eqF r6.1 0,true),(!eqF r6.1 0,true),(!eqF r3.2.1 r6.1,false),(!eqF r3.2.1 r6.1,false),(!eqF r3.2.1 r6.1,false),(Option.isSome (f31 (x0,())),true),(Option.isSome (f30 (r2.1,(r4.1,()))),true),(Option.isSome (f29 (x1,())),true),(Option.isSome (f29 (x0,())),true),(Option.isSome (f28 (r2.1,())),true),(Option.isSome (f29 (x0,())),true),(!r1.1,false),(!r0.1,false),(!r0.1,false),(Option.isSome (f27 (x1,())),true),(!r0.1,false),(!r0.1,false),(Option.isSome (f27 (x0,())),true),(false,false),(true,true)])):=by kernel_rfl
theorem e5_7 (x0:(List (List Int))) (x1:(List (List Int))):runPure (kf35 Go.Proofs.Tryz.prog).orc Go.Proofs.Tryz.prog 400 5 as5 rs5 (x0,x1,()) [tt,ff,tt,ff,ff,tt,ff,ff,ff,tt,tt,tt,tt,tt,tt,ff,ff,ff,tt,tt,tt,ff,tt,ff,ff,ff,ff,ff,ff,ff,ff,ff,ff,ff,ff,ff,tt,ff,ff,ff,ff,ff,ff,ff] =
    (let r0:=g27 (x0,());let r1:=g27 (x1,());let r2:=g29 (x0,());let r4:=g29 (x1,());let r3:=g28 (r2.1,());let r6:=g31 (x0,());let r9:=g34 (x0,(x1,()));let r5:=g30 (r2.1,(r4.1,())); some ((false,()),[(eqF r5.2.1 0,false),(eqF r5.2.1 0,false),(eqF r5.2.1 0,false),(eqF r5.2.1 0,false),(eqF r5.2.1 0,false),(eqF r5.2.1 0,false),(!eqF r9.1 0,false),(Option.isSome (f34 (x0,(x1,()))),true),(false,false),(!(r3.1.1.1 == (0:Int) && (r3.1.1.2.1 == (0:Int) && true) && (r3.1.2.1.1 == (0:Int) && (r3.1.2.1.2.1 == (0:Int) && true) && true)),false),(eqF r6.1 0,false),(!(r3.1.1.1 == (0:Int) && (r3.1.1.2.1 == (0:Int) && true) && (r3.1.2.1.1 == (0:Int) && (r3.1.2.1.2.1 == (0:Int) && true) && true)),false),(eqF r6.1 0,false),(eqF r6.1 0,false),(eqF r6.1 0,false),(eqF r6.1 0,false),(eqF r6.1 0,false),(!(r3.1.1.1 == (0:Int) && (r3.1.1.2.1 == (0:Int) && true) && (r3.1.2.1.1 == (0:Int) && (r3.1.2.1.2.1 == (0:Int) && true) && true)),false),(!(r3.1.1.1 == (0:Int) && (r3.1.1.2.1 == (0:Int) && true) && (r3.1.2.1.1 == (0:Int) && (r3.1.2.1.2.1 == (0:Int) && true) && true)),false),(!(r3.1.1.1 == (0:Int) && (r3.1.1.2.1 == (0:Int) && true) && (r3.1.2.1.1 == (0:Int) && (r3.1.2.1.2.1 == (0:Int) && true) && true)),false),(!eqF r3.2.1 r6.1,false),(!eqF r6.1 0,true),(!eqF r3.2.1 r6.1,false),(!eqF r6.1 0,true),(!eqF r6.1 0,true),(!eqF r6.1 0,true),(!eqF r3.2.1 r6.1,false),(!eqF r3.2.1 r6.1,false),(!eqF r3.2.1 r6.1,false),(Option.isSome (f31 (x0,())),true),(Option.isSome (f30 (r2.1,(r4.1,()))),true),(Option.isSome (f29 (x1,())),true),(Option.isSome (f29 (x0,())),true),(Option.isSome (f28 (r2.1,())),true),(Option.isSome (f29 (x0,())),true),(!r1.1,false),(!r0.1,false),(!r0.1,false),(Option.isSome (f27 (x1,())),true),(!r0.1,false),(!r0.1,false),(Option.isSome (f27 (x0,())),true),(false,false),(true,true)])):=by kernel_rfl
theorem e5_8 (x0:(List (List Int))) (x1:(List (List Int))):runPure (kf35 Go.Proofs.Tryz.prog).orc Go.Proofs.Tryz.prog 400 5 as5 rs5 (x0,x1,()) [tt,ff,tt,ff,ff,tt,ff,ff,ff,tt,tt,tt,tt,tt,tt,ff,ff,ff,ff,ff,ff,ff,ff,ff,ff,ff,ff,tt,tt,tt,tt,tt,tt,tt,ff,tt,ff,tt] =
    (let r0:=g27 (x0,());let r1:=g27 (x1,());let r2:=g29 (x0,());let r4:=g29 (x1,());let r3:=g28 (r2.1,());let r6:=g31 (x0,());let r7:=g33 (x0,());let r8:=g32 ((((r7.1.1.1.1,(r7.1.1.1.2.1,())),((r7.1.1.2.1.1,(r7.1.1.2.1.2.1,())),())),(((r7.1.2.1.1.1,(r7.1.2.1.1.2.1,())),((r7.1.2.1.2.1.1,(r7.1.2.1.2.1.2.1,())),())),())),()); some ((false,()),[(!(r3.1.1.1 == r8.1.1.1 && (r3.1.1.2.1 == r8.1.1.2.1 && true) && (r3.1.2.1.1 == r8.1.2.1.1 && (r3.1.2.1.2.1 == r8.1.2.1.2.1 && true) && true)),true),(false,false),(eqF r6.1 0,true),(false,false),(eqF r6.1 0,true),(Option.isSome (f32 ((((r7.1.1.1.1,(r7.1.1.1.2.1,())),((r7.1.1.2.1.1,(r7.1.1.2.1.2.1,())),())),(((r7.1.2.1.1.1,(r7.1.2.1.1.2.1,())),((r7.1.2.1.2.1.1,(r7.1.2.1.2.1.2.1,())),())),())),())),true),(eqF r6.1 0,true),(Option.isSome (f33 (x0,())),true),(eqF r6.1 0,true),(eqF r6.1 0,true),(eqF r6.1 0,true),(false,false),(false,false),(false,false),(!eqF r3.2.1 r6.1,false),(!eqF r6.1 0,false),(!eqF r3.2.1 r6.1,false),(!eqF r6.1 0,false),(!eqF r6.1 0,false),(!eqF r6.1 0,false),(!eqF r3.2.1 r6.1,false),(!eqF r3.2.1 r6.1,false),(!eqF r3.2.1 r6.1,false),(Option.isSome (f31 (x0,())),true),(Option.isSome (f30 (r2.1,(r4.1,()))),true),(Option.isSome (f29 (x1,())),true),(Option.isSome (f29 (x0,())),true),(Option.isSome (f28 (r2.1,())),true),(Option.isSome (f29 (x0,())),true),(!r1.1,false),(!r0.1,false),(!r0.1,false),(Option.isSome (f27 (x1,())),true),(!r0.1,false),(!r0.1,false),(Option.isSome (f27 (x0,())),true),(false,false),(true,true)])):=by kernel_rfl
theorem e5_9 (x0:(List (List Int))) (x1:(List (List Int))):runPure (kf35 Go.Proofs.Tryz.prog).orc Go.Proofs.Tryz.prog 400 5 as5 rs5 (x0,x1,()) [tt,ff,tt,ff,ff,tt,ff,ff,ff,tt,tt,tt,tt,tt,tt,ff,ff,ff,ff,ff,ff,ff,ff,ff,ff,ff,ff,tt,tt,tt,tt,tt,tt,tt,ff,tt,ff,ff,tt,tt,tt,tt,tt,tt] =
    (let r0:=g27 (x0,());let r1:=g27 (x1,());let r2:=g29 (x0,());let r4:=g29 (x1,());let r3:=g28 (r2.1,());let r6:=g31 (x0,());let r7:=g33 (x0,());let r8:=g32 ((((r7.1.1.1.1,(r7.1.1.1.2.1,())),((r7.1.1.2.1.1,(r7.1.1.2.1.2.1,())),())),(((r7.1.2.1.1.1,(r7.1.2.1.1.2.1,())),((r7.1.2.1.2.1.1,(r7.1.2.1.2.1.2.1,())),())),())),());let r9:=g34 (x0,(x1,()));let r5:=g30 (r2.1,(r4.1,())); some ((r5.1.1.1 == (0:Int) && (r5.1.1.2.1 == (0:Int) && true) && (r5.1.2.1.1 == (0:Int) && (r5.1.2.1.2.1 == (0:Int) && true) && true),()),[(eqF r5.2.1 r9.1,true),(eqF r5.2.1 r9.1,true),(eqF r5.2.1 r9.1,true),(eqF r5.2.1 r9.1,true),(!eqF r9.1 0,true),(Option.isSome (f34 (x0,(x1,()))),true),(!(r3.1.1.1 == r8.1.1.1 && (r3.1.1.2.1 == r8.1.1.2.1 && true) && (r3.1.2.1.1 == r8.1.2.1.1 && (r3.1.2.1.2.1 == r8.1.2.1.2.1 && true) && true)),false),(false,false),(eqF r6.1 0,true),(false,false),(eqF r6.1 0,true),(Option.isSome (f32 ((((r7.1.1.1.1,(r7.1.1.1.2.1,())),((r7.1.1.2.1.1,(r7.1.1.2.1.2.1,())),())),(((r7.1.2.1.1.1,(r7.1.2.1.1.2.1,())),((r7.1.2.1.2.1.1,(r7.1.2.1.2.1.2.1,())),())),())),())),true),(eqF r6.1 0,true),(Option.isSome (f33 (x0,())),true),(eqF r6.1 0,true),(eqF r6.1 0,true),(eqF r6.1 0,true),(false,false),(false,false),(false,false),(!eqF r3.2.1 r6.1,false),(!eqF r6.1 0,false),(!eqF r3.2.1 r6.1,false),(!eqF r6.1 0,false),(!eqF r6.1 0,false),(!eqF r6.1 0,false),(!eqF r3.2.1 r6.1,false),(!eqF r3.2.1 r6.1,false),(!eqF r3.2.1 r6.1,false),(Option.isSome (f31 (x0,())),true),(Option.isSome (f30 (r2.1,(r4.1,()))),true),(Option.isSome (f29 (x1,())),true),(Option.isSome (f29 (x0,())),true),(Option.isSome (f28 (r2.1,())),true),(Option.isSome (f29 (x0,())),true),(!r1.1,false),(!r0.1,false),(!r0.1,false),(Option.isSome (f27 (x1,())),true),(!r0.1,false),(!r0.1,false),(Option.isSome (f27 (x0,())),true),(false,false),(true,true)])):=by kernel_rfl
theorem e5_10 (x0:(List (List Int))) (x1:(List (List Int))):runPure (kf35 Go.Proofs.Tryz.prog).orc Go.Proofs.Tryz.prog 400 5 as5 rs5 (x0,x1,()) [tt,ff,tt,ff,ff,tt,ff,ff,ff,tt,tt,tt,tt,tt,tt,ff,ff,ff,ff,ff,ff,ff,ff,ff,ff,ff,ff,tt,tt,tt,tt,tt,tt,tt,ff,tt,ff,ff,tt,tt,ff,ff,ff,ff] =
    (let r0:=g27 (x0,());let r1:=g27 (x1,());let r2:=g29 (x0,());let r4:=g29 (x1,());let r3:=g28 (r2.1,());let r6:=g31 (x0,());let r7:=g33 (x0,());let r8:=g32 ((((r7.1.1.1.1,(r7.1.1.1.2.1,())),((r7.1.1.2.1.1,(r7.1.1.2.1.2.1,())),())),(((r7.1.2.1.1.1,(r7.1.2.1.1.2.1,())),((r7.1.2.1.2.1.1,(r7.1.2.1.2.1.2.1,())),())),())),());let r9:=g34 (x0,(x1,()));let r5:=g30 (r2.1,(r4.1,())); some ((false,()),[(eqF r5.2.1 r9.1,false),(eqF r5.2.1 r9.1,false),(eqF r5.2.1 r9.1,false),(eqF r5.2.1 r9.1,false),(!eqF r9.1 0,true),(Option.isSome (f34 (x0,(x1,()))),true),(!(r3.1.1.1 == r8.1.1.1 && (r3.1.1.2.1 == r8.1.1.2.1 && true) && (r3.1.2.1.1 == r8.1.2.1.1 && (r3.1.2.1.2.1 == r8.1.2.1.2.1 && true) && true)),false),(false,false),(eqF r6.1 0,true),(false,false),(eqF r6.1 0,true),(Option.isSome (f32 ((((r7.1.1.1.1,(r7.1.1.1.2.1,())),((r7.1.1.2.1.1,(r7.1.1.2.1.2.1,())),())),(((r7.1.2.1.1.1,(r7.1.2.1.1.2.1,())),((r7.1.2.1.2.1.1,(r7.1.2.1.2.1.2.1,())),())),())),())),true),(eqF r6.1 0,true),(Option.isSome (f33 (x0,())),true),(eqF r6.1 0,true),(eqF r6.1 0,true),(eqF r6.1 0,true),(false,false),(false,false),(false,false),(!eqF r3.2.1 r6.1,false),(!eqF r6.1 0,false),(!eqF r3.2.1 r6.1,false),(!eqF r6.1 0,false),(!eqF r6.1 0,false),(!eqF r6.1 0,false),(!eqF r3.2.1 r6.1,false),(!eqF r3.2.1 r6.1,false),(!eqF r3.2.1 r6.1,false),(Option.isSome (f31 (x0,())),true),(Option.isSome (f30 (r2.1,(r4.1,()))),true),(Option.isSome (f29 (x1,())),true),(Option.isSome (f29 (x0,())),true),(Option.isSome (f28 (r2.1,())),true),(Option.isSome (f29 (x0,())),true),(!r1.1,false),(!r0.1,false),(!r0.1,false),(Option.isSome (f27 (x1,())),true),(!r0.1,false),(!r0.1,false),(Option.isSome (f27 (x0,())),true),(false,false),(true,true)])):=by kernel_rfl
theorem e5_11 (x0:(List (List Int))) (x1:(List (List Int))):runPure (kf35 Go.Proofs.Tryz.prog).orc Go.Proofs.Tryz.prog 400 5 as5 rs5 (x0,x1,()) [tt,ff,tt,ff,ff,tt,ff,ff,ff,tt,tt,tt,tt,tt,tt,ff,ff,ff,ff,ff,ff,ff,ff,ff,ff,ff,ff,tt,tt,tt,tt,tt,tt,tt,ff,tt,ff,ff,tt,ff,tt,tt,tt,tt,tt,tt,tt] =
    (let r0:=g27 (x0,());let r1:=g27 (x1,());let r2:=g29 (x0,());let r4:=g29 (x1,());let r3:=g28 (r2.1,());let r6:=g31 (x0,());let r7:=g33 (x0,());let r8:=g32 ((((r7.1.1.1.1,(r7.1.1.1.2.1,())),((r7.1.1.2.1.1,(r7.1.1.2.1.2.1,())),())),(((r7.1.2.1.1.1,(r7.1.2.1.1.2.1,())),((r7.1.2.1.2.1.1,(r7.1.2.1.2.1.2.1,())),())),())),());let r9:=g34 (x0,(x1,()));let r5:=g30 (r2.1,(r4.1,()));let r10:=g35 (x0,(x1,())); some ((r5.1.1.1 == r10.1.1.1 && (r5.1.1.2.1 == r10.1.1.2.1 && true) && (r5.1.2.1.1 == r10.1.2.1.1 && (r5.1.2.1.2.1 == r10.1.2.1.2.1 && true) && true),()),[(eqF r5.2.1 0,true),(eqF r5.2.1 0,true),(Option.isSome (f35 (x0,(x1,()))),true),(eqF r5.2.1 0,true),(eqF r5.2.1 0,true),(eqF r5.2.1 0,true),(eqF r5.2.1 0,true),(!eqF r9.1 0,false),(Option.isSome (f34 (x0,(x1,()))),true),(!(r3.1.1.1 == r8.1.1.1 && (r3.1.1.2.1 == r8.1.1.2.1 && true) && (r3.1.2.1.1 == r8.1.2.1.1 && (r3.1.2.1.2.1 == r8.1.2.1.2.1 && true) && true)),false),(false,false),(eqF r6.1 0,true),(false,false),(eqF r6.1 0,true),(Option.isSome (f32 ((((r7.1.1.1.1,(r7.1.1.1.2.1,())),((r7.1.1.2.1.1,(r7.1.1.2.1.2.1,())),())),(((r7.1.2.1.1.1,(r7.1.2.1.1.2.1,())),((r7.1.2.1.2.1.1,(r7.1.2.1.2.1.2.1,())),())),())),())),true),(eqF r6.1 0,true),(Option.isSome (f33 (x0,())),true),(eqF r6.1 0,true),(eqF r6.1 0,true),(eqF r6.1 0,true),(false,false),(false,false),(false,false),(!eqF r3.2.1 r6.1,false),(!eqF r6.1 0,false),(!eqF r3.2.1 r6.1,false),(!eqF r6.1 0,false),(!eqF r6.1 0,false),(!eqF r6.1 0,false),(!eqF r3.2.1 r6.1,false),(!eqF r3.2.1 r6.1,false),(!eqF r3.2.1 r6.1,false),(Option.isSome (f31 (x0,())),true),(Option.isSome (f30 (r2.1,(r4.1,()))),true),(Option.isSome (f29 (x1,())),true),(Option.isSome (f29 (x0,())),true),(Option.isSome (f28 (r2.1,())),true),(Option.isSome (f29 (x0,())),true),(!r1.1,false),(!r0.1,false),(!r0.1,false),(Option.isSome (f27 (x1,())),true),(!r0.1,false),(!r0.1,false),(Option.isSome (f27 (x0,())),true),(false,false),(true,true)])):=by kernel_rfl
theorem e5_12 (x0:(List (List Int))) (x1:(List (List Int))):runPure (kf35 Go.Proofs.Tryz.prog).orc Go.Proofs.Tryz.prog 400 5 as5 rs5 (x0,x1,()) [tt,ff,tt,ff,ff,tt,ff,ff,ff,tt,tt,tt,tt,tt,tt,ff,ff,ff,ff,ff,ff,ff,ff,ff,ff,ff,ff,tt,tt,tt,tt,tt,tt,tt,ff,tt,ff,ff,tt,ff,ff,ff,ff,ff,ff,ff] =
    (let r0:=g27 (x0,());let r1:=g27 (x1,());let r2:=g29 (x0,());let r4:=g29 (x1,());let r3:=g28 (r2.1,());let r6:=g31 (x0,());let r7:=g33 (x0,());let r8:=g32 ((((r7.1.1.1.1,(r7.1.1.1.2.1,())),((r7.1.1.2.1.1,(r7.1.1.2.1.2.1,())),())),(((r7.1.2.1.1.1,(r7.1.2.1.1.2.1,())),((r7.1.2.1.2.1.1,(r7.1.2.1.2.1.2.1,())),())),())),());let r9:=g34 (x0,(x1,()));let r5:=g30 (r2.1,(r4.1,())); some ((false,()),[(eqF r5.2.1 0,false),(eqF r5.2.1 0,false),(eqF r5.2.1 0,false),(eqF r5.2.1 0,false),(eqF r5.2.1 0,false),(eqF r5.2.1 0,false),(!eqF r9.1 0,false),(Option.isSome (f34 (x0,(x1,()))),true),(!(r3.1.1.1 == r8.1.1.1 && (r3.1.1.2.1 == r8.1.1.2.1 && true) && (r3.1.2.1.1 == r8.1.2.1.1 && (r3.1.2.1.2.1 == r8.1.2.1.2.1 && true) && true)),false),(false,false),(eqF r6.1 0,true),(false,false),(eqF r6.1 0,true),(Option.isSome (f32 ((((r7.1.1.1.1,(r7.1.1.1.2.1,())),((r7.1.1.2.1.1,(r7.1.1.2.1.2.1,())),())),(((r7.1.2.1.1.1,(r7.1.2.1.1.2.1,())),((r7.1.2.1.2.1.1,(r7.1.2.1.2.1.2.1,())),())),())),())),true),(eqF r6.1 0,true),(Option.isSome (f33 (x0,())),true),(eqF r6.1 0,true),(eqF r6.1 0,true),(eqF r6.1 0,true),(false,false),(false,false),(false,false),(!eqF r3.2.1 r6.1,false),(!eqF r6.1 0,false),(!eqF r3.2.1 r6.1,false),(!eqF r6.1 0,false),(!eqF r6.1 0,false),(!eqF r6.1 0,false),(!eqF r3.2.1 r6.1,false),(!eqF r3.2.1 r6.1,false),(!eqF r3.2.1 r6.1,false),(Option.isSome (f31 (x0,())),true),(Option.isSome (f30 (r2.1,(r4.1,()))),true),(Option.isSome (f29 (x1,())),true),(Option.isSome (f29 (x0,())),true),(Option.isSome (f28 (r2.1,())),true),(Option.isSome (f29 (x0,())),true),(!r1.1,false),(!r0.1,false),(!r0.1,false),(Option.isSome (f27 (x1,())),true),(!r0.1,false),(!r0.1,false),(Option.isSome (f27 (x0,())),true),(false,false),(true,true)])):=by kernel_rfl

set_option maxRecDepth 100000 in
theorem ok5_t (x0:(List (List Int))) (x1:(List (List Int))):TrOk (PureRuns Go.Proofs.Tryz.prog (kf35 Go.Proofs.Tryz.prog).orc 5 as5 rs5 (x0,x1,())) (t5 x0 x1) :=
  TrOk.ofTest (fun h2=>TrOk.ofTest (fun h3=>TrOk.ofFin (PureRuns.of (e5_0 x0 x1) (ac rfl (ac (nn h3) (ac (nn h3) (ac (nn h3) (ac h3 (ac h2 (ac rfl (ac rfl All.nil)))))))))) (fun h3=>TrOk.ofTest (fun h5=>TrOk.ofTest (fun h8=>TrOk.ofFin (PureRuns.of (e5_1 x0 x1) (ac h8 (ac (nn h3) (ac (nn h3) (ac h5 (ac (nn h3) (ac h3 (ac h2 (ac rfl (ac rfl All.nil))))))))))) (fun h8=>TrOk.ofTest (fun h9=>TrOk.ofTest (fun h10=>TrOk.ofTest (fun h12=>TrOk.ofTest (fun h13=>TrOk.ofTest (fun h14=>TrOk.ofTest (fun h15=>TrOk.ofFin (PureRuns.of (e5_2 x0 x1) (ac rfl (ac rfl (ac rfl (ac rfl (ac rfl (ac rfl (ac (nn h15) (ac (nn h15) (ac (nn h15) (ac (nn h15) (ac h15 (ac h14 (ac h13 (ac h12 (ac h9 (ac h10 (ac h9 (ac h8 (ac (nn h3) (ac (nn h3) (ac h5 (ac (nn h3) (ac h3 (ac h2 (ac rfl (ac rfl All.nil)))))))))))))))))))))))))))) (fun h15=>TrOk.ofTest (fun h18=>TrOk.ofTest (fun h24=>TrOk.ofFin (PureRuns.of (e5_3 x0 x1) (ac rfl (ac (nn h24) (ac (nn h24) (ac (nn h24) (ac (nn h24) (ac h24 (ac (nn h15) (ac (nn h18) (ac (nn h15) (ac (nn h18) (ac (nn h18) (ac h18 (ac (nn h15) (ac (nn h15) (ac h15 (ac h14 (ac h13 (ac h12 (ac h9 (ac h10 (ac h9 (ac h8 (ac (nn h3) (ac (nn h3) (ac h5 (ac (nn h3) (ac h3 (ac h2 (ac rfl (ac rfl All.nil)))))))))))))))))))))))))))))))) (fun h24=>TrOk.ofTest (fun h36=>TrOk.ofTest (fun h37=>TrOk.ofTest (fun h38=>TrOk.ofFin (PureRuns.of (e5_4 x0 x1) (ac h38 (ac h38 (ac h38 (ac h38 (ac h37 (ac h36 (ac rfl (ac (nn h24) (ac (of_not h18) (ac (nn h24) (ac (of_not h18) (ac (of_not h18) (ac (of_not h18) (ac (of_not h18) (ac (of_not h18) (ac (nn h24) (ac (nn h24) (ac h24 (ac (nn h15) (ac (nn h18) (ac (nn h15) (ac (nn h18) (ac (nn h18) (ac h18 (ac (nn h15) (ac (nn h15) (ac h15 (ac h14 (ac h13 (ac h12 (ac h9 (ac h10 (ac h9 (ac h8 (ac (nn h3) (ac (nn h3) (ac h5 (ac (nn h3) (ac h3 (ac h2 (ac rfl (ac rfl All.nil)))))))))))))))))))))))))))))))))))))))))))) (fun h38=>TrOk.ofFin (PureRuns.of (e5_5 x0 x1) (ac h38 (ac h38 (ac h38 (ac h38 (ac h37 (ac h36 (ac rfl (ac (nn h24) (ac (of_not h18) (ac (nn h24) (ac (of_not h18) (ac (of_not h18) (ac (of_not h18) (ac (of_not h18) (ac (of_not h18) (ac (nn h24) (ac (nn h24) (ac h24 (ac (nn h15) (ac (nn h18) (ac (nn h15) (ac (nn h18) (ac (nn h18) (ac h18 (ac (nn h15) (ac (nn h15) (ac h15 (ac h14 (ac h13 (ac h12 (ac h9 (ac h10 (ac h9 (ac h8 (ac (nn h3) (ac (nn h3) (ac h5 (ac (nn h3) (ac h3 (ac h2 (ac rfl (ac rfl All.nil))))))))))))))))))))))))))))))))))))))))))))) (fun h37=>TrOk.ofTest (fun h38=>TrOk.ofTest (fun h42=>TrOk.ofFin (PureRuns.of (e5_6 x0 x1) (ac h38 (ac h38 (ac h42 (ac h38 (ac h38 (ac h38 (ac h38 (ac h37 (ac h36 (ac rfl (ac (nn h24) (ac (of_not h18) (ac (nn h24) (ac (of_not h18) (ac (of_not h18) (ac (of_not h18) (ac (of_not h18) (ac (of_not h18) (ac (nn h24) (ac (nn h24) (ac h24 (ac (nn h15) (ac (nn h18) (ac (nn h15) (ac (nn h18) (ac (nn h18) (ac h18 (ac (nn h15) (ac (nn h15) (ac h15 (ac h14 (ac h13 (ac h12 (ac h9 (ac h10 (ac h9 (ac h8 (ac (nn h3) (ac (nn h3) (ac h5 (ac (nn h3) (ac h3 (ac h2 (ac rfl (ac rfl All.nil))))))))))))))))))))))))))))))))))))))))))))))) (fun h42=>TrOk.ofStop)) (fun h38=>TrOk.ofFin (PureRuns.of (e5_7 x0 x1) (ac h38 (ac h38 (ac h38 (ac h38 (ac h38 (ac h38 (ac h37 (ac h36 (ac rfl (ac (nn h24) (ac (of_not h18) (ac (nn h24) (ac (of_not h18) (ac (of_not h18) (ac (of_not h18) (ac (of_not h18) (ac (of_not h18) (ac (nn h24) (ac (nn h24) (ac h24 (ac (nn h15) (ac (nn h18) (ac (nn h15) (ac (nn h18) (ac (nn h18) (ac h18 (ac (nn h15) (ac (nn h15) (ac h15 (ac h14 (ac h13 (ac h12 (ac h9 (ac h10 (ac h9 (ac h8 (ac (nn h3) (ac (nn h3) (ac h5 (ac (nn h3) (ac h3 (ac h2 (ac rfl (ac rfl All.nil)))))))))))))))))))))))))))))))))))))))))))))))) (fun h36=>TrOk.ofStop))) (fun h18=>TrOk.ofTest (fun h30=>TrOk.ofTest (fun h32=>TrOk.ofTest (fun h37=>TrOk.ofFin (PureRuns.of (e5_8 x0 x1) (ac h37 (ac rfl (ac (of_not h18) (ac rfl (ac (of_not h18) (ac h32 (ac (of_not h18) (ac h30 (ac (of_not h18) (ac (of_not h18) (ac (of_not h18) (ac rfl (ac rfl (ac rfl (ac (nn h15) (ac (nn h18) (ac (nn h15) (ac (nn h18) (ac (nn h18) (ac h18 (ac (nn h15) (ac (nn h15) (ac h15 (ac h14 (ac h13 (ac h12 (ac h9 (ac h10 (ac h9 (ac h8 (ac (nn h3) (ac (nn h3) (ac h5 (ac (nn h3) (ac h3 (ac h2 (ac rfl (ac rfl All.nil)))))))))))))))))))))))))))))))))))))))) (fun h37=>TrOk.ofTest (fun h38=>TrOk.ofTest (fun h39=>TrOk.ofTest (fun h40=>TrOk.ofFin (PureRuns.of (e5_9 x0 x1) (ac h40 (ac h40 (ac h40 (ac h40 (ac h39 (ac h38 (ac h37 (ac rfl (ac (of_not h18) (ac rfl (ac (of_not h18) (ac h32 (ac (of_not h18) (ac h30 (ac (of_not h18) (ac (of_not h18) (ac (of_not h18) (ac rfl (ac rfl (ac rfl (ac (nn h15) (ac (nn h18) (ac (nn h15) (ac (nn h18) (ac (nn h18) (ac h18 (ac (nn h15) (ac (nn h15) (ac h15 (ac h14 (ac h13 (ac h12 (ac h9 (ac h10 (ac h9 (ac h8 (ac (nn h3) (ac (nn h3) (ac h5 (ac (nn h3) (ac h3 (ac h2 (ac rfl (ac rfl All.nil)))))))))))))))))))))))))))))))))))))))))))))) (fun h40=>TrOk.ofFin (PureRuns.of (e5_10 x0 x1) (ac h40 (ac h40 (ac h40 (ac h40 (ac h39 (ac h38 (ac h37 (ac rfl (ac (of_not h18) (ac rfl (ac (of_not h18) (ac h32 (ac (of_not h18) (ac h30 (ac (of_not h18) (ac (of_not h18) (ac (of_not h18) (ac rfl (ac rfl (ac rfl (ac (nn h15) (ac (nn h18) (ac (nn h15) (ac (nn h18) (ac (nn h18) (ac h18 (ac (nn h15) (ac (nn h15) (ac h15 (ac h14 (ac h13 (ac h12 (ac h9 (ac h10 (ac h9 (ac h8 (ac (nn h3) (ac (nn h3) (ac h5 (ac (nn h3) (ac h3 (ac h2 (ac rfl (ac rfl All.nil))))))))))))))))))))))))))))))))))))))))))))))) (fun h39=>TrOk.ofTest (fun h40=>TrOk.ofTest (fun h44=>TrOk.ofFin (PureRuns.of (e5_11 x0 x1) (ac h40 (ac h40 (ac h44 (ac h40 (ac h40 (ac h40 (ac h40 (ac h39 (ac h38 (ac h37 (ac rfl (ac (of_not h18) (ac rfl (ac (of_not h18) (ac h32 (ac (of_not h18) (ac h30 (ac (of_not h18) (ac (of_not h18) (ac (of_not h18) (ac rfl (ac rfl (ac rfl (ac (nn h15) (ac (nn h18) (ac (nn h15) (ac (nn h18) (ac (nn h18) (ac h18 (ac (nn h15) (ac (nn h15) (ac h15 (ac h14 (ac h13 (ac h12 (ac h9 (ac h10 (ac h9 (ac h8 (ac (nn h3) (ac (nn h3) (ac h5 (ac (nn h3) (ac h3 (ac h2 (ac rfl (ac rfl All.nil))))))))))))))))))))))))))))))))))))))))))))))))) (fun h44=>TrOk.ofStop)) (fun h40=>TrOk.ofFin (PureRuns.of (e5_12 x0 x1) (ac h40 (ac h40 (ac h40 (ac h40 (ac h40 (ac h40 (ac h39 (ac h38 (ac h37 (ac rfl (ac (of_not h18) (ac rfl (ac (of_not h18) (ac h32 (ac (of_not h18) (ac h30 (ac (of_not h18) (ac (of_not h18) (ac (of_not h18) (ac rfl (ac rfl (ac rfl (ac (nn h15) (ac (nn h18) (ac (nn h15) (ac (nn h18) (ac (nn h18) (ac h18 (ac (nn h15) (ac (nn h15) (ac h15 (ac h14 (ac h13 (ac h12 (ac h9 (ac h10 (ac h9 (ac h8 (ac (nn h3) (ac (nn h3) (ac h5 (ac (nn h3) (ac h3 (ac h2 (ac rfl (ac rfl All.nil)))))))))))))))))))))))))))))))))))))))))))))))))) (fun h38=>TrOk.ofStop))) (fun h32=>TrOk.ofStop)) (fun h30=>TrOk.ofStop)))) (fun h14=>TrOk.ofStop)) (fun h13=>TrOk.ofStop)) (fun h12=>TrOk.ofStop)) (fun h10=>TrOk.ofStop)) (fun h9=>TrOk.ofStop))) (fun h5=>TrOk.ofStop))) (fun h2=>TrOk.ofStop)

theorem ok5:PureOk Go.Proofs.Tryz.prog 5 p5:=pureOk_of kf35_ok.base (T:=fun (d:Tys.data as5)=>t5 d.1 d.2.1) (by kernel_rfl) (fun (d:Tys.data as5)=>ok5_t d.1 d.2.1)

end Go.Vm.Mo
