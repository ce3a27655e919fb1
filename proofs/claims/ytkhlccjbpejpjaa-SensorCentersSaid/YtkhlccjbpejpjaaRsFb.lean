import Derived.Test.YtkhlccjbpejpjaaA4
import Derived.KernelRfl
import Derived.Test.YtkhlccjbpejpjaaProg
import Derived.Test.YtkhlccjbpejpjaaRsFa
set_option linter.unusedVariables false
set_option linter.unusedSimpArgs false

namespace Go.Vm.Mo
open Go
set_option linter.unusedVariables false

/-! ductility/sensor.checkSamples -/

abbrev as129:List Ty:=[(.slice (.slice (.int .i64))),(.int .i64)]
abbrev rs129:List Ty:=[(.int .i64),(.int .i64)]

def t129 (x0:(List (List Int))) (x1:Int):Tr (Tys.data rs129) :=
  Tr.test (Option.isSome (l136_0 ((x0,((↑(List.length x0):Int),((0:Int),()))),((x1,()),()))))
    (Tr.test (isRet (l136_0 ((x0,((↑(List.length x0):Int),((0:Int),()))),((x1,()),()))))
      (let r0:=r136_0 ((x0,((↑(List.length x0):Int),((0:Int),()))),((x1,()),()));
      Tr.fin ((r0.1.1,(r0.1.2.1,()))))
      (Tr.fin (((0:Int),((0:Int),())))))
    (Tr.stop)

def f129 (d:Tys.data as129):Option (Tys.data rs129):=(t129 d.1 d.2.1).val
def g129 (d:Tys.data as129):Tys.data rs129:=(f129 d).getD (Tys.dflt rs129)
def p129:PureC:=pcOf as129 rs129 f129 g129

theorem wk129 (x0:(List (List Int))) (x1:Int):Walks (runPure (kl136_0 Go.Proofs.Try.prog).orc Go.Proofs.Try.prog 400 129 as129 rs129 (x0,x1,())) (t129 x0 x1) [([true,true],[2,4]),([true,false],[2,4])] :=
  ⟨by kernel_rfl,by kernel_rfl,trivial⟩

theorem ok129_t (x0:(List (List Int))) (x1:Int):TrOk (PureRuns Go.Proofs.Try.prog (kl136_0 Go.Proofs.Try.prog).orc 129 as129 rs129 (x0,x1,())) (t129 x0 x1) :=
  Walks.ok (fun _ _ _=>PureRuns.of) (wk129 x0 x1) (by kernel_rfl)

theorem ok129:PureOk Go.Proofs.Try.prog 129 p129:=pureOk_of kl136_0_ok.base (T:=fun (d:Tys.data as129)=>t129 d.1 d.2.1) (by kernel_rfl) (fun (d:Tys.data as129)=>ok129_t d.1 d.2.1)
def kf129 (P:Go.Program):Known:=(kl136_0 P).func 129 p129
theorem kf129_ok:KnownOk Go.Proofs.Try.prog (kf129 Go.Proofs.Try.prog):=kl136_0_ok.func ok129

/-! ductility/sensor.checkChannels -/

abbrev as108:List Ty:=[(.slice (.slice (.int .i64))),(.int .i64)]
abbrev rs108:List Ty:=[(.int .i64),(.int .i64)]

def t108 (x0:(List (List Int))) (x1:Int):Tr (Tys.data rs108) :=
  Tr.test (Option.isSome (f83 ((↑(List.length x0):Int),(x1,()))))
    (let r0:=g83 ((↑(List.length x0):Int),(x1,()));
    Tr.test ((!eqF r0.1 0:Bool))
      (Tr.fin (((0:Int),(r0.1,()))))
      (Tr.test ((true && decide ((0:Int) < (↑(List.length x0):Int)):Bool))
        (Tr.test (Option.isSome (f129 (x0,((↑(List.length (List.getD x0 (0:Nat) [])):Int),()))))
          (let r1:=g129 (x0,((↑(List.length (List.getD x0 (0:Nat) [])):Int),()));
          Tr.fin ((r1.1,(r1.2.1,()))))
          (Tr.stop))
        (Tr.stop)))
    (Tr.stop)

def f108 (d:Tys.data as108):Option (Tys.data rs108):=(t108 d.1 d.2.1).val
def g108 (d:Tys.data as108):Tys.data rs108:=(f108 d).getD (Tys.dflt rs108)
def p108:PureC:=pcOf as108 rs108 f108 g108

theorem wk108 (x0:(List (List Int))) (x1:Int):Walks (runPure (kf129 Go.Proofs.Try.prog).orc Go.Proofs.Try.prog 400 108 as108 rs108 (x0,x1,())) (t108 x0 x1) [([true,true],[2,4]),([true,false,true,true],[2,4,6,8])] :=
  ⟨by kernel_rfl,by kernel_rfl,trivial⟩

theorem ok108_t (x0:(List (List Int))) (x1:Int):TrOk (PureRuns Go.Proofs.Try.prog (kf129 Go.Proofs.Try.prog).orc 108 as108 rs108 (x0,x1,())) (t108 x0 x1) :=
  Walks.ok (fun _ _ _=>PureRuns.of) (wk108 x0 x1) (by kernel_rfl)

theorem ok108:PureOk Go.Proofs.Try.prog 108 p108:=pureOk_of kf129_ok.base (T:=fun (d:Tys.data as108)=>t108 d.1 d.2.1) (by kernel_rfl) (fun (d:Tys.data as108)=>ok108_t d.1 d.2.1)
def kf108 (P:Go.Program):Known:=(kf129 P).func 108 p108
theorem kf108_ok:KnownOk Go.Proofs.Try.prog (kf108 Go.Proofs.Try.prog):=kf129_ok.func ok108

/-! ductility/sensor.channelsError -/

abbrev as114:List Ty:=[(.slice (.slice (.int .i64))),(.int .i64)]
abbrev rs114:List Ty:=[(.int .i64)]

def t114 (x0:(List (List Int))) (x1:Int):Tr (Tys.data rs114) :=
  Tr.test (Option.isSome (f108 (x0,(x1,()))))
    (let r0:=g108 (x0,(x1,()));
    Tr.fin ((r0.2.1,())))
    (Tr.stop)

def f114 (d:Tys.data as114):Option (Tys.data rs114):=(t114 d.1 d.2.1).val
def g114 (d:Tys.data as114):Tys.data rs114:=(f114 d).getD (Tys.dflt rs114)
def p114:PureC:=pcOf as114 rs114 f114 g114

theorem wk114 (x0:(List (List Int))) (x1:Int):Walks (runPure (kf108 Go.Proofs.Try.prog).orc Go.Proofs.Try.prog 400 114 as114 rs114 (x0,x1,())) (t114 x0 x1) [([tt],[2])] :=
  ⟨by kernel_rfl,trivial⟩

theorem ok114_t (x0:(List (List Int))) (x1:Int):TrOk (PureRuns Go.Proofs.Try.prog (kf108 Go.Proofs.Try.prog).orc 114 as114 rs114 (x0,x1,())) (t114 x0 x1) :=
  Walks.ok (fun _ _ _=>PureRuns.of) (wk114 x0 x1) (by kernel_rfl)

theorem ok114:PureOk Go.Proofs.Try.prog 114 p114:=pureOk_of kf108_ok.base (T:=fun (d:Tys.data as114)=>t114 d.1 d.2.1) (by kernel_rfl) (fun (d:Tys.data as114)=>ok114_t d.1 d.2.1)
def kf114 (P:Go.Program):Known:=(kf108 P).func 114 p114
theorem kf114_ok:KnownOk Go.Proofs.Try.prog (kf114 Go.Proofs.Try.prog):=kf108_ok.func ok114

/-! ductility/sensor.watchError -/

abbrev as135:List Ty:=[(.pair (.int .i64) (.pair (.int .i64) (.pair (.int .i64) .unit))),(.int .i64)]
abbrev rs135:List Ty:=[(.int .i64)]

def t135 (x0:Int) (x0':Int) (x0'':Int) (x1:Int):Tr (Tys.data rs135) :=
  Tr.test (Option.isSome (f100 ((0:Int),((100000:Int),(([x0]:List Int),())))))
    (let r0:=g100 ((0:Int),((100000:Int),(([x0]:List Int),())));
    Tr.test (r0.1)
      (Tr.test (Option.isSome (f100 ((1:Int),(x1,(([x0']:List Int),())))))
        (let r1:=g100 ((1:Int),(x1,(([x0']:List Int),())));
        Tr.test (r1.1)
          (Tr.test (Option.isSome (f100 ((1:Int),((60:Int),(([x0'']:List Int),())))))
            (let r2:=g100 ((1:Int),((60:Int),(([x0'']:List Int),())));
            Tr.test (Option.isSome (f86 ((!r2.1:Bool),((2:Int),()))))
              (let r3:=g86 ((!r2.1:Bool),((2:Int),()));
              Tr.fin ((r3.1,())))
              (Tr.stop))
            (Tr.stop))
          (Tr.test (Option.isSome (f86 ((true:Bool),((2:Int),()))))
            (let r4:=g86 ((true:Bool),((2:Int),()));
            Tr.fin ((r4.1,())))
            (Tr.stop)))
        (Tr.stop))
      (Tr.test (Option.isSome (f86 ((true:Bool),((2:Int),()))))
        (let r4:=g86 ((true:Bool),((2:Int),()));
        Tr.fin ((r4.1,())))
        (Tr.stop)))
    (Tr.stop)

def f135 (d:Tys.data as135):Option (Tys.data rs135):=(t135 d.1.1 d.1.2.1 d.1.2.2.1 d.2.1).val
def g135 (d:Tys.data as135):Tys.data rs135:=(f135 d).getD (Tys.dflt rs135)
def p135:PureC:=pcOf as135 rs135 f135 g135

theorem wk135 (x0:Int) (x0':Int) (x0'':Int) (x1:Int):Walks (runPure (kf114 Go.Proofs.Try.prog).orc Go.Proofs.Try.prog 400 135 as135 rs135 ((x0,x0',x0'',()),x1,())) (t135 x0 x0' x0'' x1) [([true,true,true,true,true,true],[2,6,4,1,6,6,6,6,10,8,1,10,10,10,10,10,12,1]),([true,true,true,false,true],[2,4,4,4,4,4,8,6,1,8,8,8,8,8,10,1]),([true,false,true],[2,0,0,0,0,0,4,4,4,4,4,4,6,1])] :=
  ⟨by kernel_rfl,by kernel_rfl,by kernel_rfl,trivial⟩

theorem ok135_t (x0:Int) (x0':Int) (x0'':Int) (x1:Int):TrOk (PureRuns Go.Proofs.Try.prog (kf114 Go.Proofs.Try.prog).orc 135 as135 rs135 ((x0,x0',x0'',()),x1,())) (t135 x0 x0' x0'' x1) :=
  Walks.ok (fun _ _ _=>PureRuns.of) (wk135 x0 x0' x0'' x1) (by kernel_rfl)

theorem ok135:PureOk Go.Proofs.Try.prog 135 p135:=pureOk_of kf114_ok.base (T:=fun (d:Tys.data as135)=>t135 d.1.1 d.1.2.1 d.1.2.2.1 d.2.1) (by kernel_rfl) (fun (d:Tys.data as135)=>ok135_t d.1.1 d.1.2.1 d.1.2.2.1 d.2.1)
def kf135 (P:Go.Program):Known:=(kf114 P).func 135 p135
theorem kf135_ok:KnownOk Go.Proofs.Try.prog (kf135 Go.Proofs.Try.prog):=kf114_ok.func ok135

/-! ductility/sensor.watchOf -/

abbrev as116:List Ty:=[(.slice (.slice (.int .i64))),(.pair (.int .i64) (.pair (.int .i64) (.pair (.int .i64) .unit)))]
abbrev rs116:List Ty:=[(.pair (.pair (.int .i64) (.pair (.int .i64) (.pair (.int .i64) .unit))) (.pair (.slice (.slice (.int .i64))) .unit)),(.int .i64)]

def t116 (x0:(List (List Int))) (x1:Int) (x1':Int) (x1'':Int):Tr (Tys.data rs116) :=
  Tr.test (Option.isSome (f114 (x0,((7:Int),()))))
    (Tr.test (Option.isSome (f135 ((x1,(x1',(x1'',()))),((↑(List.length x0):Int),()))))
      (let r0:=g114 (x0,((7:Int),()));
      let r1:=g135 ((x1,(x1',(x1'',()))),((↑(List.length x0):Int),()));
      Tr.test (Option.isSome (f88 (([r0.1,r1.1]:List Int),())))
        (let r2:=g88 (([r0.1,r1.1]:List Int),());
        Tr.test ((!eqF r2.1 0:Bool))
          (Tr.fin (((((0:Int),((0:Int),((0:Int),()))),(([]:List (List Int)),())),(r2.1,()))))
          (Tr.fin ((((x1,(x1',(x1'',()))),(x0,())),((0:Int),())))))
        (Tr.stop))
      (Tr.stop))
    (Tr.stop)

def f116 (d:Tys.data as116):Option (Tys.data rs116):=(t116 d.1 d.2.1.1 d.2.1.2.1 d.2.1.2.2.1).val
def g116 (d:Tys.data as116):Tys.data rs116:=(f116 d).getD (Tys.dflt rs116)
def p116:PureC:=pcOf as116 rs116 f116 g116

theorem wk116 (x0:(List (List Int))) (x1:Int) (x1':Int) (x1'':Int):Walks (runPure (kf135 Go.Proofs.Try.prog).orc Go.Proofs.Try.prog 400 116 as116 rs116 (x0,(x1,x1',x1'',()),())) (t116 x0 x1 x1' x1'') [([true,true,true,true],[2,4,1,6,8]),([true,true,true,false],[2,4,1,6,8])] :=
  ⟨by kernel_rfl,by kernel_rfl,trivial⟩

theorem ok116_t (x0:(List (List Int))) (x1:Int) (x1':Int) (x1'':Int):TrOk (PureRuns Go.Proofs.Try.prog (kf135 Go.Proofs.Try.prog).orc 116 as116 rs116 (x0,(x1,x1',x1'',()),())) (t116 x0 x1 x1' x1'') :=
  Walks.ok (fun _ _ _=>PureRuns.of) (wk116 x0 x1 x1' x1'') (by kernel_rfl)

theorem ok116:PureOk Go.Proofs.Try.prog 116 p116:=pureOk_of kf135_ok.base (T:=fun (d:Tys.data as116)=>t116 d.1 d.2.1.1 d.2.1.2.1 d.2.1.2.2.1) (by kernel_rfl) (fun (d:Tys.data as116)=>ok116_t d.1 d.2.1.1 d.2.1.2.1 d.2.1.2.2.1)
def kf116 (P:Go.Program):Known:=(kf135 P).func 116 p116
theorem kf116_ok:KnownOk Go.Proofs.Try.prog (kf116 Go.Proofs.Try.prog):=kf135_ok.func ok116

/-! loop 0 of (ductility/sensor.watch).votersAt -/

abbrev sh117_0:Sh:={ n:=31,slots:=[1,2,5,9,10,11],pats:=[.ty (.int .i64),.ptr 0 4 0,.acc (.int .i64),.ty (.slice (.slice (.int .i64))),.ty (.int .i64),.ty (.int .i64)],boxes:=[.row [.ty (.int .i64),.ty (.int .i64),.ty (.int .i64),.ty (.slice (.slice (.int .i64)))]] }
abbrev shb117_0:Sh:={ n:=31,slots:=[5],pats:=[.acc (.int .i64)],boxes:=[.row [.ty (.int .i64),.ty (.int .i64),.ty (.int .i64),.ty (.slice (.slice (.int .i64)))]] }
abbrev shr117_0:Sh:={ n:=31,slots:=[],pats:=[],boxes:=[.row [.ty (.int .i64),.ty (.int .i64),.ty (.int .i64),.ty (.slice (.slice (.int .i64)))]] }

def t117_0 (x0:Int) (x2:(List Int)) (x3:(List (List Int))) (x4:Int) (x5:Int) (b0_0:Int) (b0_1:Int) (b0_2:Int) (b0_3:(List (List Int))):Tr (Out sh117_0.data shb117_0.data shr117_0.data) :=
  Tr.test ((!leF x4 x5:Bool))
    (Tr.test (decide ((0:Int) ≤ x5) && decide (x5 < (↑(List.length x3):Int)))
      (Tr.test ((decide ((0:Int) ≤ x0) && decide (x0 < (↑(List.length (List.getD x3 (Int.toNat x5) [])):Int)):Bool))
        (Tr.test (Option.isSome (f87 (b0_0,(([List.getD (List.getD x3 (Int.toNat x5) []) (Int.toNat x0) (0:Int)]:List Int),()))))
          (let r0:=g87 (b0_0,(([List.getD (List.getD x3 (Int.toNat x5) []) (Int.toNat x0) (0:Int)]:List Int),()));
          Tr.test (r0.1)
            (Tr.test ((Nat.ble (((2:Nat) * (List.length x2 + (1:Nat)) + (192:Nat)) * (8:Nat)) (281474976710656:Nat) && Nat.ble (List.length x2 + (1:Nat)) (281474976710656:Nat):Bool))
              (Tr.fin (.again ((x0,((x2++[x5]:List Int),(x3,(x4,((wrap64 (x5 + (1:Int)):Int),()))))),((b0_0,(b0_1,(b0_2,(b0_3,())))),()))))
              (Tr.stop))
            (Tr.fin (.again ((x0,(x2,(x3,(x4,((wrap64 (x5 + (1:Int)):Int),()))))),((b0_0,(b0_1,(b0_2,(b0_3,())))),())))))
          (Tr.stop))
        (Tr.stop))
      (Tr.stop))
    (Tr.fin (.brk ((x2,()),((b0_0,(b0_1,(b0_2,(b0_3,())))),()))))

def s117_0 (d:sh117_0.data):Option (Out sh117_0.data shb117_0.data shr117_0.data):=(t117_0 d.1.1 d.1.2.1 d.1.2.2.1 d.1.2.2.2.1 d.1.2.2.2.2.1 d.2.1.1 d.2.1.2.1 d.2.1.2.2.1 d.2.1.2.2.2.1).val
def l117_0 (d:sh117_0.data):Option (shb117_0.data ⊕ shr117_0.data):=itr s117_0 rounds d
def b117_0 (d:sh117_0.data):shb117_0.data:=outB shb117_0.dflt (l117_0 d)
def lc117_0:LoopC:=lcB sh117_0 shb117_0 shr117_0 l117_0 b117_0

theorem wk117_0 (x0:Int) (x2:(List Int)) (x3:(List (List Int))) (x4:Int) (x5:Int) (b0_0:Int) (b0_1:Int) (b0_2:Int) (b0_3:(List (List Int))):Walks (runBody (kf116 Go.Proofs.Try.prog).orc Go.Proofs.Try.prog 400 117 0 sh117_0 shb117_0 shr117_0 ((x0,x2,x3,x4,x5,()),(b0_0,b0_1,b0_2,b0_3,()),())) (t117_0 x0 x2 x3 x4 x5 b0_0 b0_1 b0_2 b0_3) [([true,true,true,true,true,true],[1,2,0,4,6,1,8,10,12]),([true,true,true,true,false],[2,4,1,6,8,10]),([ff],[2])] :=
  ⟨by kernel_rfl,by kernel_rfl,by kernel_rfl,trivial⟩

theorem ok117_0_t (x0:Int) (x2:(List Int)) (x3:(List (List Int))) (x4:Int) (x5:Int) (b0_0:Int) (b0_1:Int) (b0_2:Int) (b0_3:(List (List Int))):TrOk (BodyRuns Go.Proofs.Try.prog (kf116 Go.Proofs.Try.prog).orc 117 0 sh117_0 shb117_0 shr117_0 ((x0,x2,x3,x4,x5,()),(b0_0,b0_1,b0_2,b0_3,()),())) (t117_0 x0 x2 x3 x4 x5 b0_0 b0_1 b0_2 b0_3) :=
  Walks.ok (fun _ _ _=>BodyRuns.of) (wk117_0 x0 x2 x3 x4 x5 b0_0 b0_1 b0_2 b0_3) (by kernel_rfl)

theorem ok117_0:LoopOk Go.Proofs.Try.prog 117 0 lc117_0:=loopOk_ofB (sh:=sh117_0) (shB:=shb117_0) (shR:=shr117_0) kf116_ok.base (T:=fun (d:sh117_0.data)=>t117_0 d.1.1 d.1.2.1 d.1.2.2.1 d.1.2.2.2.1 d.1.2.2.2.2.1 d.2.1.1 d.2.1.2.1 d.2.1.2.2.1 d.2.1.2.2.2.1) (by kernel_rfl) rfl (fun (d:sh117_0.data)=>ok117_0_t d.1.1 d.1.2.1 d.1.2.2.1 d.1.2.2.2.1 d.1.2.2.2.2.1 d.2.1.1 d.2.1.2.1 d.2.1.2.2.1 d.2.1.2.2.2.1) (fun _=>rfl)
def kl117_0 (P:Go.Program):Known:=(kf116 P).loop 117 0 lc117_0
theorem kl117_0_ok:KnownOk Go.Proofs.Try.prog (kl117_0 Go.Proofs.Try.prog):=kf116_ok.loop ok117_0

/-! (ductility/sensor.watch).votersAt -/

abbrev as117:List Ty:=[(.pair (.pair (.int .i64) (.pair (.int .i64) (.pair (.int .i64) .unit))) (.pair (.slice (.slice (.int .i64))) .unit)),(.int .i64)]
abbrev rs117:List Ty:=[(.slice (.int .i64))]

def t117 (x0_:Int) (x0_':Int) (x0_'':Int) (x0':(List (List Int))) (x1:Int):Tr (Tys.data rs117) :=
  Tr.test (isBrk (l117_0 ((x1,(([]:List Int),(x0',((↑(List.length x0'):Int),((0:Int),()))))),((x0_,(x0_',(x0_'',(x0',())))),()))))
    (let r0:=b117_0 ((x1,(([]:List Int),(x0',((↑(List.length x0'):Int),((0:Int),()))))),((x0_,(x0_',(x0_'',(x0',())))),()));
    Tr.fin ((r0.1.1,())))
    (Tr.stop)

def f117 (d:Tys.data as117):Option (Tys.data rs117):=(t117 d.1.1.1 d.1.1.2.1 d.1.1.2.2.1 d.1.2.1 d.2.1).val
def g117 (d:Tys.data as117):Tys.data rs117:=(f117 d).getD (Tys.dflt rs117)
def p117:PureC:=pcOf as117 rs117 f117 g117

theorem wk117 (x0_:Int) (x0_':Int) (x0_'':Int) (x0':(List (List Int))) (x1:Int):Walks (runPure (kl117_0 Go.Proofs.Try.prog).orc Go.Proofs.Try.prog 400 117 as117 rs117 (((x0_,x0_',x0_'',()),x0',()),x1,())) (t117 x0_ x0_' x0_'' x0' x1) [([tt],[1,2])] :=
  ⟨by kernel_rfl,trivial⟩

theorem ok117_t (x0_:Int) (x0_':Int) (x0_'':Int) (x0':(List (List Int))) (x1:Int):TrOk (PureRuns Go.Proofs.Try.prog (kl117_0 Go.Proofs.Try.prog).orc 117 as117 rs117 (((x0_,x0_',x0_'',()),x0',()),x1,())) (t117 x0_ x0_' x0_'' x0' x1) :=
  Walks.ok (fun _ _ _=>PureRuns.of) (wk117 x0_ x0_' x0_'' x0' x1) (by kernel_rfl)

theorem ok117:PureOk Go.Proofs.Try.prog 117 p117:=pureOk_of kl117_0_ok.base (T:=fun (d:Tys.data as117)=>t117 d.1.1.1 d.1.1.2.1 d.1.1.2.2.1 d.1.2.1 d.2.1) (by kernel_rfl) (fun (d:Tys.data as117)=>ok117_t d.1.1.1 d.1.1.2.1 d.1.1.2.2.1 d.1.2.1 d.2.1)
def kf117 (P:Go.Program):Known:=(kl117_0 P).func 117 p117
theorem kf117_ok:KnownOk Go.Proofs.Try.prog (kf117 Go.Proofs.Try.prog):=kl117_0_ok.func ok117

/-! loop 0 of ductility/sensor.TrippedIn -/

abbrev sh64_0:Sh:={ n:=41,slots:=[3,6,8,22,23],pats:=[.ptr 0 3 0,.ptr 1 4 0,.ty (.int .i64),.ty (.int .i64),.ty (.int .i64)],boxes:=[.row [.ty (.int .i64),.ty (.int .i64),.ty (.int .i64)],.row [.ty (.int .i64),.ty (.int .i64),.ty (.int .i64),.ty (.slice (.slice (.int .i64)))]] }
abbrev shb64_0:Sh:={ n:=41,slots:=[],pats:=[],boxes:=[.row [.ty (.int .i64),.ty (.int .i64),.ty (.int .i64)],.row [.ty (.int .i64),.ty (.int .i64),.ty (.int .i64),.ty (.slice (.slice (.int .i64)))]] }
abbrev shr64_0:Sh:={ n:=41,slots:=[4,5],pats:=[.ty (.int .i64),.ty (.int .i64)],boxes:=[.row [.ty (.int .i64),.ty (.int .i64),.ty (.int .i64)],.row [.ty (.int .i64),.ty (.int .i64),.ty (.int .i64),.ty (.slice (.slice (.int .i64)))]] }

def t64_0 (x2:Int) (x3:Int) (x4:Int) (b0_0:Int) (b0_1:Int) (b0_2:Int) (b1_0:Int) (b1_1:Int) (b1_2:Int) (b1_3:(List (List Int))):Tr (Out sh64_0.data shb64_0.data shr64_0.data) :=
  Tr.test ((!leF x3 x4:Bool))
    (Tr.test (Option.isSome (f117 (((b1_0,(b1_1,(b1_2,()))),(b1_3,())),(x4,()))))
      (let r0:=g117 (((b1_0,(b1_1,(b1_2,()))),(b1_3,())),(x4,()));
      Tr.test ((!leF b0_1 (↑(List.length r0.1):Int):Bool))
        (Tr.test ((eqF (0:Int) b0_2:Bool))
          (Tr.fin (.ret ((x4,((0:Int),())),((b0_0,(b0_1,(b0_2,()))),((b1_0,(b1_1,(b1_2,(b1_3,())))),())))))
          (Tr.fin (.again (((0:Int),(x3,((wrap64 (x4 + (1:Int)):Int),()))),((b0_0,(b0_1,(b0_2,()))),((b1_0,(b1_1,(b1_2,(b1_3,())))),()))))))
        (Tr.test ((eqF (wrap64 (x2 + (1:Int))) b0_2:Bool))
          (Tr.fin (.ret ((x4,((0:Int),())),((b0_0,(b0_1,(b0_2,()))),((b1_0,(b1_1,(b1_2,(b1_3,())))),())))))
          (Tr.fin (.again (((wrap64 (x2 + (1:Int)):Int),(x3,((wrap64 (x4 + (1:Int)):Int),()))),((b0_0,(b0_1,(b0_2,()))),((b1_0,(b1_1,(b1_2,(b1_3,())))),())))))))
      (Tr.stop))
    (Tr.fin (.brk ((),((b0_0,(b0_1,(b0_2,()))),((b1_0,(b1_1,(b1_2,(b1_3,())))),())))))

def s64_0 (d:sh64_0.data):Option (Out sh64_0.data shb64_0.data shr64_0.data):=(t64_0 d.1.1 d.1.2.1 d.1.2.2.1 d.2.1.1 d.2.1.2.1 d.2.1.2.2.1 d.2.2.1.1 d.2.2.1.2.1 d.2.2.1.2.2.1 d.2.2.1.2.2.2.1).val
def l64_0 (d:sh64_0.data):Option (shb64_0.data ⊕ shr64_0.data):=itr s64_0 rounds d
def b64_0 (d:sh64_0.data):shb64_0.data:=outB shb64_0.dflt (l64_0 d)
def r64_0 (d:sh64_0.data):shr64_0.data:=outR shr64_0.dflt (l64_0 d)
def lc64_0:LoopC:=lcOf sh64_0 shb64_0 shr64_0 l64_0 b64_0 r64_0

theorem wk64_0 (x2:Int) (x3:Int) (x4:Int) (b0_0:Int) (b0_1:Int) (b0_2:Int) (b1_0:Int) (b1_1:Int) (b1_2:Int) (b1_3:(List (List Int))):Walks (runBody (kf117 Go.Proofs.Try.prog).orc Go.Proofs.Try.prog 400 64 0 sh64_0 shb64_0 shr64_0 ((x2,x3,x4,()),(b0_0,b0_1,b0_2,()),(b1_0,b1_1,b1_2,b1_3,()),())) (t64_0 x2 x3 x4 b0_0 b0_1 b0_2 b1_0 b1_1 b1_2 b1_3) [([true,true,true,true],[2,4,6,8]),([true,true,true,false],[2,4,6,8]),([true,true,false,true],[2,4,6,8]),([true,true,false,false],[2,4,6,8]),([ff],[2])] :=
  ⟨by kernel_rfl,by kernel_rfl,by kernel_rfl,by kernel_rfl,by kernel_rfl,trivial⟩

theorem ok64_0_t (x2:Int) (x3:Int) (x4:Int) (b0_0:Int) (b0_1:Int) (b0_2:Int) (b1_0:Int) (b1_1:Int) (b1_2:Int) (b1_3:(List (List Int))):TrOk (BodyRuns Go.Proofs.Try.prog (kf117 Go.Proofs.Try.prog).orc 64 0 sh64_0 shb64_0 shr64_0 ((x2,x3,x4,()),(b0_0,b0_1,b0_2,()),(b1_0,b1_1,b1_2,b1_3,()),())) (t64_0 x2 x3 x4 b0_0 b0_1 b0_2 b1_0 b1_1 b1_2 b1_3) :=
  Walks.ok (fun _ _ _=>BodyRuns.of) (wk64_0 x2 x3 x4 b0_0 b0_1 b0_2 b1_0 b1_1 b1_2 b1_3) (by kernel_rfl)

theorem ok64_0:LoopOk Go.Proofs.Try.prog 64 0 lc64_0:=loopOk_of (sh:=sh64_0) (shB:=shb64_0) (shR:=shr64_0) kf117_ok.base (T:=fun (d:sh64_0.data)=>t64_0 d.1.1 d.1.2.1 d.1.2.2.1 d.2.1.1 d.2.1.2.1 d.2.1.2.2.1 d.2.2.1.1 d.2.2.1.2.1 d.2.2.1.2.2.1 d.2.2.1.2.2.2.1) (by kernel_rfl) rfl (fun (d:sh64_0.data)=>ok64_0_t d.1.1 d.1.2.1 d.1.2.2.1 d.2.1.1 d.2.1.2.1 d.2.1.2.2.1 d.2.2.1.1 d.2.2.1.2.1 d.2.2.1.2.2.1 d.2.2.1.2.2.2.1) (fun _=>rfl)
def kl64_0 (P:Go.Program):Known:=(kf117 P).loop 64 0 lc64_0
theorem kl64_0_ok:KnownOk Go.Proofs.Try.prog (kl64_0 Go.Proofs.Try.prog):=kf117_ok.loop ok64_0

/-! ductility/sensor.TrippedIn -/

abbrev as64:List Ty:=[(.slice (.slice (.int .i64))),(.pair (.int .i64) (.pair (.int .i64) (.pair (.int .i64) .unit)))]
abbrev rs64:List Ty:=[(.int .i64),(.int .i64)]

def t64 (x0:(List (List Int))) (x1:Int) (x1':Int) (x1'':Int):Tr (Tys.data rs64) :=
  Tr.test (Option.isSome (f116 (x0,((x1,(x1',(x1'',()))),()))))
    (let r0:=g116 (x0,((x1,(x1',(x1'',()))),()));
    Tr.test ((!eqF r0.2.1 0:Bool))
      (Tr.fin (((0:Int),(r0.2.1,()))))
      (Tr.test ((true && decide ((0:Int) < (↑(List.length x0):Int)):Bool))
        (Tr.test (Option.isSome (l64_0 (((0:Int),((↑(List.length (List.getD x0 (0:Nat) [])):Int),((0:Int),()))),((x1,(x1',(x1'',()))),((r0.1.1.1,(r0.1.1.2.1,(r0.1.1.2.2.1,(r0.1.2.1,())))),())))))
          (Tr.test (isRet (l64_0 (((0:Int),((↑(List.length (List.getD x0 (0:Nat) [])):Int),((0:Int),()))),((x1,(x1',(x1'',()))),((r0.1.1.1,(r0.1.1.2.1,(r0.1.1.2.2.1,(r0.1.2.1,())))),())))))
            (let r1:=r64_0 (((0:Int),((↑(List.length (List.getD x0 (0:Nat) [])):Int),((0:Int),()))),((x1,(x1',(x1'',()))),((r0.1.1.1,(r0.1.1.2.1,(r0.1.1.2.2.1,(r0.1.2.1,())))),())));
            Tr.fin ((r1.1.1,(r1.1.2.1,()))))
            (Tr.fin (((0:Int),((12:Int),())))))
          (Tr.stop))
        (Tr.stop)))
    (Tr.stop)

def f64 (d:Tys.data as64):Option (Tys.data rs64):=(t64 d.1 d.2.1.1 d.2.1.2.1 d.2.1.2.2.1).val
def g64 (d:Tys.data as64):Tys.data rs64:=(f64 d).getD (Tys.dflt rs64)
def p64:PureC:=pcOf as64 rs64 f64 g64

theorem wk64 (x0:(List (List Int))) (x1:Int) (x1':Int) (x1'':Int):Walks (runPure (kl64_0 Go.Proofs.Try.prog).orc Go.Proofs.Try.prog 400 64 as64 rs64 (x0,(x1,x1',x1'',()),())) (t64 x0 x1 x1' x1'') [([true,true],[2,4]),([true,false,true,true,true],[2,4,6,8,10]),([true,false,true,true,false],[2,4,6,8,10])] :=
  ⟨by kernel_rfl,by kernel_rfl,by kernel_rfl,trivial⟩

theorem ok64_t (x0:(List (List Int))) (x1:Int) (x1':Int) (x1'':Int):TrOk (PureRuns Go.Proofs.Try.prog (kl64_0 Go.Proofs.Try.prog).orc 64 as64 rs64 (x0,(x1,x1',x1'',()),())) (t64 x0 x1 x1' x1'') :=
  Walks.ok (fun _ _ _=>PureRuns.of) (wk64 x0 x1 x1' x1'') (by kernel_rfl)

theorem ok64:PureOk Go.Proofs.Try.prog 64 p64:=pureOk_of kl64_0_ok.base (T:=fun (d:Tys.data as64)=>t64 d.1 d.2.1.1 d.2.1.2.1 d.2.1.2.2.1) (by kernel_rfl) (fun (d:Tys.data as64)=>ok64_t d.1 d.2.1.1 d.2.1.2.1 d.2.1.2.2.1)
def kf64 (P:Go.Program):Known:=(kl64_0 P).func 64 p64
theorem kf64_ok:KnownOk Go.Proofs.Try.prog (kf64 Go.Proofs.Try.prog):=kl64_0_ok.func ok64

/-! loop 0 of ductility/sensor.checkItems[[]int] -/

abbrev sh136_0_1:Sh:={ n:=25,slots:=[1,9,10,11],pats:=[.fn 137 [(0,1)],.ty (.slice (.slice (.int .i64))),.ty (.int .i64),.ty (.int .i64)],boxes:=[.row [.ty (.int .i64)]] }
abbrev shb136_0_1:Sh:={ n:=25,slots:=[],pats:=[],boxes:=[.row [.ty (.int .i64)]] }
abbrev shr136_0_1:Sh:={ n:=25,slots:=[4,5],pats:=[.ty (.int .i64),.ty (.int .i64)],boxes:=[.row [.ty (.int .i64)]] }

def t136_0_1 (x1:(List (List Int))) (x2:Int) (x3:Int) (b0_0:Int):Tr (Out sh136_0_1.data shb136_0_1.data shr136_0_1.data) :=
  Tr.test ((!leF x2 x3:Bool))
    (Tr.test (decide ((0:Int) ≤ x3) && decide (x3 < (↑(List.length x1):Int)))
      (Tr.test ((eqF (↑(List.length (List.getD x1 (Int.toNat x3) [])):Int) (0:Int):Bool))
        (Tr.test (Option.isSome (f86 ((true:Bool),((10:Int),()))))
          (let r0:=g86 ((true:Bool),((10:Int),()));
          Tr.test ((!eqF r0.1 0:Bool))
            (Tr.fin (.ret ((x3,(r0.1,())),((b0_0,()),()))))
            (Tr.fin (.again ((x1,(x2,((wrap64 (x3 + (1:Int)):Int),()))),((b0_0,()),())))))
          (Tr.stop))
        (Tr.test (Option.isSome (f86 ((!eqF (↑(List.length (List.getD x1 (Int.toNat x3) [])):Int) b0_0:Bool),((10:Int),()))))
          (let r1:=g86 ((!eqF (↑(List.length (List.getD x1 (Int.toNat x3) [])):Int) b0_0:Bool),((10:Int),()));
          Tr.test ((!eqF r1.1 0:Bool))
            (Tr.fin (.ret ((x3,(r1.1,())),((b0_0,()),()))))
            (Tr.fin (.again ((x1,(x2,((wrap64 (x3 + (1:Int)):Int),()))),((b0_0,()),())))))
          (Tr.stop)))
      (Tr.stop))
    (Tr.fin (.brk ((),((b0_0,()),()))))

def s136_0_1 (d:sh136_0_1.data):Option (Out sh136_0_1.data shb136_0_1.data shr136_0_1.data):=(t136_0_1 d.1.1 d.1.2.1 d.1.2.2.1 d.2.1.1).val
def l136_0_1 (d:sh136_0_1.data):Option (shb136_0_1.data ⊕ shr136_0_1.data):=itr s136_0_1 rounds d
def b136_0_1 (d:sh136_0_1.data):shb136_0_1.data:=outB shb136_0_1.dflt (l136_0_1 d)
def r136_0_1 (d:sh136_0_1.data):shr136_0_1.data:=outR shr136_0_1.dflt (l136_0_1 d)
def lc136_0_1:LoopC:=lcOf sh136_0_1 shb136_0_1 shr136_0_1 l136_0_1 b136_0_1 r136_0_1

theorem wk136_0_1 (x1:(List (List Int))) (x2:Int) (x3:Int) (b0_0:Int):Walks (runBody (kf64 Go.Proofs.Try.prog).orc Go.Proofs.Try.prog 400 136 0 sh136_0_1 shb136_0_1 shr136_0_1 ((x1,x2,x3,()),(b0_0,()),())) (t136_0_1 x1 x2 x3 b0_0) [([true,true,true,true,true],[2,4,6,6,6,6,6,8,10]),([true,true,true,true,false],[2,4,6,6,6,6,6,8,10]),([true,true,false,true,true],[2,4,6,6,6,6,6,8,10]),([true,true,false,true,false],[2,4,6,6,6,6,6,8,10]),([ff],[2])] :=
  ⟨by kernel_rfl,by kernel_rfl,by kernel_rfl,by kernel_rfl,by kernel_rfl,trivial⟩

theorem ok136_0_1_t (x1:(List (List Int))) (x2:Int) (x3:Int) (b0_0:Int):TrOk (BodyRuns Go.Proofs.Try.prog (kf64 Go.Proofs.Try.prog).orc 136 0 sh136_0_1 shb136_0_1 shr136_0_1 ((x1,x2,x3,()),(b0_0,()),())) (t136_0_1 x1 x2 x3 b0_0) :=
  Walks.ok (fun _ _ _=>BodyRuns.of) (wk136_0_1 x1 x2 x3 b0_0) (by kernel_rfl)

theorem ok136_0_1:LoopOk Go.Proofs.Try.prog 136 0 lc136_0_1:=loopOk_of (sh:=sh136_0_1) (shB:=shb136_0_1) (shR:=shr136_0_1) kf64_ok.base (T:=fun (d:sh136_0_1.data)=>t136_0_1 d.1.1 d.1.2.1 d.1.2.2.1 d.2.1.1) (by kernel_rfl) rfl (fun (d:sh136_0_1.data)=>ok136_0_1_t d.1.1 d.1.2.1 d.1.2.2.1 d.2.1.1) (fun _=>rfl)
def kl136_0_1 (P:Go.Program):Known:=(kf64 P).loop 136 0 lc136_0_1
theorem kl136_0_1_ok:KnownOk Go.Proofs.Try.prog (kl136_0_1 Go.Proofs.Try.prog):=kf64_ok.loop ok136_0_1

/-! loop 0 of ductility/sensor.checkItems[[]int] -/

abbrev sh136_0_2:Sh:={ n:=25,slots:=[1,9,10,11],pats:=[.fn 138 [],.ty (.slice (.slice (.int .i64))),.ty (.int .i64),.ty (.int .i64)],boxes:=[] }
abbrev shb136_0_2:Sh:={ n:=25,slots:=[],pats:=[],boxes:=[] }
abbrev shr136_0_2:Sh:={ n:=25,slots:=[4,5],pats:=[.ty (.int .i64),.ty (.int .i64)],boxes:=[] }

def t136_0_2 (x1:(List (List Int))) (x2:Int) (x3:Int):Tr (Out sh136_0_2.data shb136_0_2.data shr136_0_2.data) :=
  Tr.test ((!leF x2 x3:Bool))
    (Tr.test (decide ((0:Int) ≤ x3) && decide (x3 < (↑(List.length x1):Int)))
      (Tr.test (Option.isSome (f100 ((0:Int),((255:Int),((List.getD x1 (Int.toNat x3) []:List Int),())))))
        (let r0:=g100 ((0:Int),((255:Int),((List.getD x1 (Int.toNat x3) []:List Int),())));
        Tr.test (Option.isSome (f86 ((!r0.1:Bool),((2:Int),()))))
          (let r1:=g86 ((!r0.1:Bool),((2:Int),()));
          Tr.test ((!eqF r1.1 0:Bool))
            (Tr.fin (.ret ((x3,(r1.1,())),())))
            (Tr.fin (.again ((x1,(x2,((wrap64 (x3 + (1:Int)):Int),()))),()))))
          (Tr.stop))
        (Tr.stop))
      (Tr.stop))
    (Tr.fin (.brk ((),())))

def s136_0_2 (d:sh136_0_2.data):Option (Out sh136_0_2.data shb136_0_2.data shr136_0_2.data):=(t136_0_2 d.1.1 d.1.2.1 d.1.2.2.1).val
def l136_0_2 (d:sh136_0_2.data):Option (shb136_0_2.data ⊕ shr136_0_2.data):=itr s136_0_2 rounds d
def b136_0_2 (d:sh136_0_2.data):shb136_0_2.data:=outB shb136_0_2.dflt (l136_0_2 d)
def r136_0_2 (d:sh136_0_2.data):shr136_0_2.data:=outR shr136_0_2.dflt (l136_0_2 d)
def lc136_0_2:LoopC:=lcOf sh136_0_2 shb136_0_2 shr136_0_2 l136_0_2 b136_0_2 r136_0_2

theorem wk136_0_2 (x1:(List (List Int))) (x2:Int) (x3:Int):Walks (runBody (kl136_0_1 Go.Proofs.Try.prog).orc Go.Proofs.Try.prog 400 136 0 sh136_0_2 shb136_0_2 shr136_0_2 ((x1,x2,x3,()),())) (t136_0_2 x1 x2 x3) [([true,true,true,true,true],[2,4,6,8,10]),([true,true,true,true,false],[2,4,6,8,10]),([ff],[2])] :=
  ⟨by kernel_rfl,by kernel_rfl,by kernel_rfl,trivial⟩

theorem ok136_0_2_t (x1:(List (List Int))) (x2:Int) (x3:Int):TrOk (BodyRuns Go.Proofs.Try.prog (kl136_0_1 Go.Proofs.Try.prog).orc 136 0 sh136_0_2 shb136_0_2 shr136_0_2 ((x1,x2,x3,()),())) (t136_0_2 x1 x2 x3) :=
  Walks.ok (fun _ _ _=>BodyRuns.of) (wk136_0_2 x1 x2 x3) (by kernel_rfl)

theorem ok136_0_2:LoopOk Go.Proofs.Try.prog 136 0 lc136_0_2:=loopOk_of (sh:=sh136_0_2) (shB:=shb136_0_2) (shR:=shr136_0_2) kl136_0_1_ok.base (T:=fun (d:sh136_0_2.data)=>t136_0_2 d.1.1 d.1.2.1 d.1.2.2.1) (by kernel_rfl) rfl (fun (d:sh136_0_2.data)=>ok136_0_2_t d.1.1 d.1.2.1 d.1.2.2.1) (fun _=>rfl)
def kl136_0_2 (P:Go.Program):Known:=(kl136_0_1 P).loop 136 0 lc136_0_2
theorem kl136_0_2_ok:KnownOk Go.Proofs.Try.prog (kl136_0_2 Go.Proofs.Try.prog):=kl136_0_1_ok.loop ok136_0_2

/-! loop 0 of slices.IndexFunc[[][]int,[]int] -/

abbrev sh149_0:Sh:={ n:=19,slots:=[0,1,7,8],pats:=[.ty (.slice (.slice (.int .i64))),.fn 140 [],.ty (.int .i64),.ty (.int .i64)],boxes:=[] }
abbrev shb149_0:Sh:={ n:=19,slots:=[],pats:=[],boxes:=[] }
abbrev shr149_0:Sh:={ n:=19,slots:=[4],pats:=[.ty (.int .i64)],boxes:=[] }

def t149_0 (x0:(List (List Int))) (x2:Int) (x3:Int):Tr (Out sh149_0.data shb149_0.data shr149_0.data) :=
  Tr.test ((!leF x2 x3:Bool))
    (Tr.test (decide ((0:Int) ≤ x3) && decide (x3 < (↑(List.length x0):Int)))
      (Tr.test (Option.isSome (f100 ((0:Int),((0:Int),((List.getD x0 (Int.toNat x3) []:List Int),())))))
        (let r0:=g100 ((0:Int),((0:Int),((List.getD x0 (Int.toNat x3) []:List Int),())));
        Tr.test ((!r0.1:Bool))
          (Tr.fin (.ret ((x3,()),())))
          (Tr.fin (.again ((x0,(x2,((wrap64 (x3 + (1:Int)):Int),()))),()))))
        (Tr.stop))
      (Tr.stop))
    (Tr.fin (.brk ((),())))

def s149_0 (d:sh149_0.data):Option (Out sh149_0.data shb149_0.data shr149_0.data):=(t149_0 d.1.1 d.1.2.1 d.1.2.2.1).val
def l149_0 (d:sh149_0.data):Option (shb149_0.data ⊕ shr149_0.data):=itr s149_0 rounds d
def b149_0 (d:sh149_0.data):shb149_0.data:=outB shb149_0.dflt (l149_0 d)
def r149_0 (d:sh149_0.data):shr149_0.data:=outR shr149_0.dflt (l149_0 d)
def lc149_0:LoopC:=lcOf sh149_0 shb149_0 shr149_0 l149_0 b149_0 r149_0

theorem wk149_0 (x0:(List (List Int))) (x2:Int) (x3:Int):Walks (runBody (kl136_0_2 Go.Proofs.Try.prog).orc Go.Proofs.Try.prog 400 149 0 sh149_0 shb149_0 shr149_0 ((x0,x2,x3,()),())) (t149_0 x0 x2 x3) [([true,true,true,true],[2,4,6,8]),([true,true,true,false],[2,4,6,8]),([ff],[2])] :=
  ⟨by kernel_rfl,by kernel_rfl,by kernel_rfl,trivial⟩

theorem ok149_0_t (x0:(List (List Int))) (x2:Int) (x3:Int):TrOk (BodyRuns Go.Proofs.Try.prog (kl136_0_2 Go.Proofs.Try.prog).orc 149 0 sh149_0 shb149_0 shr149_0 ((x0,x2,x3,()),())) (t149_0 x0 x2 x3) :=
  Walks.ok (fun _ _ _=>BodyRuns.of) (wk149_0 x0 x2 x3) (by kernel_rfl)

theorem ok149_0:LoopOk Go.Proofs.Try.prog 149 0 lc149_0:=loopOk_of (sh:=sh149_0) (shB:=shb149_0) (shR:=shr149_0) kl136_0_2_ok.base (T:=fun (d:sh149_0.data)=>t149_0 d.1.1 d.1.2.1 d.1.2.2.1) (by kernel_rfl) rfl (fun (d:sh149_0.data)=>ok149_0_t d.1.1 d.1.2.1 d.1.2.2.1) (fun _=>rfl)
def kl149_0 (P:Go.Program):Known:=(kl136_0_2 P).loop 149 0 lc149_0
theorem kl149_0_ok:KnownOk Go.Proofs.Try.prog (kl149_0 Go.Proofs.Try.prog):=kl136_0_2_ok.loop ok149_0

/-! ductility/sensor.imageError -/

abbrev as118:List Ty:=[(.slice (.slice (.int .i64)))]
abbrev rs118:List Ty:=[(.int .i64)]

def t118 (x0:(List (List Int))):Tr (Tys.data rs118) :=
  Tr.test ((eqF (↑(List.length x0):Int) (0:Int):Bool))
    (Tr.fin (((10:Int),())))
    (Tr.test (true && decide ((0:Int) < (↑(List.length x0):Int)))
      (Tr.test (Option.isSome (l136_0_1 ((x0,((↑(List.length x0):Int),((0:Int),()))),(((↑(List.length (List.getD x0 (0:Nat) [])):Int),()),()))))
        (Tr.test (isRet (l136_0_1 ((x0,((↑(List.length x0):Int),((0:Int),()))),(((↑(List.length (List.getD x0 (0:Nat) [])):Int),()),()))))
          (Tr.test (Option.isSome (l136_0_2 ((x0,((↑(List.length x0):Int),((0:Int),()))),())))
            (Tr.test (isRet (l136_0_2 ((x0,((↑(List.length x0):Int),((0:Int),()))),())))
              (Tr.test (Option.isSome (l149_0 ((x0,((↑(List.length x0):Int),((0:Int),()))),())))
                (Tr.test (isRet (l149_0 ((x0,((↑(List.length x0):Int),((0:Int),()))),())))
                  (Tr.test ((!leF (↑(List.length x0):Int) (10:Int):Bool))
                    (Tr.test (Option.isSome (f86 ((true:Bool),((8:Int),()))))
                      (let r3:=r149_0 ((x0,((↑(List.length x0):Int),((0:Int),()))),());
                      Tr.test (Option.isSome (f86 ((!leF (0:Int) r3.1.1:Bool),((11:Int),()))))
                        (let r0:=r136_0_1 ((x0,((↑(List.length x0):Int),((0:Int),()))),(((↑(List.length (List.getD x0 (0:Nat) [])):Int),()),()));
                        let r2:=r136_0_2 ((x0,((↑(List.length x0):Int),((0:Int),()))),());
                        let r4:=g86 ((true:Bool),((8:Int),()));
                        let r6:=g86 ((!leF (0:Int) r3.1.1:Bool),((11:Int),()));
                        Tr.test (Option.isSome (f88 (([r0.1.2.1,r4.1,r2.1.2.1,r6.1]:List Int),())))
                          (let r7:=g88 (([r0.1.2.1,r4.1,r2.1.2.1,r6.1]:List Int),());
                          Tr.fin ((r7.1,())))
                          (Tr.stop))
                        (Tr.stop))
                      (Tr.stop))
                    (let r0:=r136_0_1 ((x0,((↑(List.length x0):Int),((0:Int),()))),(((↑(List.length (List.getD x0 (0:Nat) [])):Int),()),()));
                    Tr.test (Option.isSome (f86 ((!leF r0.2.1.1 10:Bool),((8:Int),()))))
                      (let r3:=r149_0 ((x0,((↑(List.length x0):Int),((0:Int),()))),());
                      Tr.test (Option.isSome (f86 ((!leF (0:Int) r3.1.1:Bool),((11:Int),()))))
                        (let r2:=r136_0_2 ((x0,((↑(List.length x0):Int),((0:Int),()))),());
                        let r5:=g86 ((!leF r0.2.1.1 10:Bool),((8:Int),()));
                        let r6:=g86 ((!leF (0:Int) r3.1.1:Bool),((11:Int),()));
                        Tr.test (Option.isSome (f88 (([r0.1.2.1,r5.1,r2.1.2.1,r6.1]:List Int),())))
                          (let r8:=g88 (([r0.1.2.1,r5.1,r2.1.2.1,r6.1]:List Int),());
                          Tr.fin ((r8.1,())))
                          (Tr.stop))
                        (Tr.stop))
                      (Tr.stop)))
                  (Tr.test ((!leF (↑(List.length x0):Int) (10:Int):Bool))
                    (Tr.test (Option.isSome (f86 ((true:Bool),((8:Int),()))))
                      (Tr.test (Option.isSome (f86 ((true:Bool),((11:Int),()))))
                        (let r0:=r136_0_1 ((x0,((↑(List.length x0):Int),((0:Int),()))),(((↑(List.length (List.getD x0 (0:Nat) [])):Int),()),()));
                        let r2:=r136_0_2 ((x0,((↑(List.length x0):Int),((0:Int),()))),());
                        let r4:=g86 ((true:Bool),((8:Int),()));
                        let r9:=g86 ((true:Bool),((11:Int),()));
                        Tr.test (Option.isSome (f88 (([r0.1.2.1,r4.1,r2.1.2.1,r9.1]:List Int),())))
                          (let r10:=g88 (([r0.1.2.1,r4.1,r2.1.2.1,r9.1]:List Int),());
                          Tr.fin ((r10.1,())))
                          (Tr.stop))
                        (Tr.stop))
                      (Tr.stop))
                    (let r0:=r136_0_1 ((x0,((↑(List.length x0):Int),((0:Int),()))),(((↑(List.length (List.getD x0 (0:Nat) [])):Int),()),()));
                    Tr.test (Option.isSome (f86 ((!leF r0.2.1.1 10:Bool),((8:Int),()))))
                      (Tr.test (Option.isSome (f86 ((true:Bool),((11:Int),()))))
                        (let r2:=r136_0_2 ((x0,((↑(List.length x0):Int),((0:Int),()))),());
                        let r5:=g86 ((!leF r0.2.1.1 10:Bool),((8:Int),()));
                        let r9:=g86 ((true:Bool),((11:Int),()));
                        Tr.test (Option.isSome (f88 (([r0.1.2.1,r5.1,r2.1.2.1,r9.1]:List Int),())))
                          (let r11:=g88 (([r0.1.2.1,r5.1,r2.1.2.1,r9.1]:List Int),());
                          Tr.fin ((r11.1,())))
                          (Tr.stop))
                        (Tr.stop))
                      (Tr.stop))))
                (Tr.stop))
              (Tr.test (Option.isSome (l149_0 ((x0,((↑(List.length x0):Int),((0:Int),()))),())))
                (Tr.test (isRet (l149_0 ((x0,((↑(List.length x0):Int),((0:Int),()))),())))
                  (Tr.test ((!leF (↑(List.length x0):Int) (10:Int):Bool))
                    (Tr.test (Option.isSome (f86 ((true:Bool),((8:Int),()))))
                      (let r3:=r149_0 ((x0,((↑(List.length x0):Int),((0:Int),()))),());
                      Tr.test (Option.isSome (f86 ((!leF (0:Int) r3.1.1:Bool),((11:Int),()))))
                        (let r0:=r136_0_1 ((x0,((↑(List.length x0):Int),((0:Int),()))),(((↑(List.length (List.getD x0 (0:Nat) [])):Int),()),()));
                        let r4:=g86 ((true:Bool),((8:Int),()));
                        let r6:=g86 ((!leF (0:Int) r3.1.1:Bool),((11:Int),()));
                        Tr.test (Option.isSome (f88 (([r0.1.2.1,r4.1,(0:Int),r6.1]:List Int),())))
                          (let r12:=g88 (([r0.1.2.1,r4.1,(0:Int),r6.1]:List Int),());
                          Tr.fin ((r12.1,())))
                          (Tr.stop))
                        (Tr.stop))
                      (Tr.stop))
                    (let r0:=r136_0_1 ((x0,((↑(List.length x0):Int),((0:Int),()))),(((↑(List.length (List.getD x0 (0:Nat) [])):Int),()),()));
                    Tr.test (Option.isSome (f86 ((!leF r0.2.1.1 10:Bool),((8:Int),()))))
                      (let r3:=r149_0 ((x0,((↑(List.length x0):Int),((0:Int),()))),());
                      Tr.test (Option.isSome (f86 ((!leF (0:Int) r3.1.1:Bool),((11:Int),()))))
                        (let r5:=g86 ((!leF r0.2.1.1 10:Bool),((8:Int),()));
                        let r6:=g86 ((!leF (0:Int) r3.1.1:Bool),((11:Int),()));
                        Tr.test (Option.isSome (f88 (([r0.1.2.1,r5.1,(0:Int),r6.1]:List Int),())))
                          (let r13:=g88 (([r0.1.2.1,r5.1,(0:Int),r6.1]:List Int),());
                          Tr.fin ((r13.1,())))
                          (Tr.stop))
                        (Tr.stop))
                      (Tr.stop)))
                  (Tr.test ((!leF (↑(List.length x0):Int) (10:Int):Bool))
                    (Tr.test (Option.isSome (f86 ((true:Bool),((8:Int),()))))
                      (Tr.test (Option.isSome (f86 ((true:Bool),((11:Int),()))))
                        (let r0:=r136_0_1 ((x0,((↑(List.length x0):Int),((0:Int),()))),(((↑(List.length (List.getD x0 (0:Nat) [])):Int),()),()));
                        let r4:=g86 ((true:Bool),((8:Int),()));
                        let r9:=g86 ((true:Bool),((11:Int),()));
                        Tr.test (Option.isSome (f88 (([r0.1.2.1,r4.1,(0:Int),r9.1]:List Int),())))
                          (let r14:=g88 (([r0.1.2.1,r4.1,(0:Int),r9.1]:List Int),());
                          Tr.fin ((r14.1,())))
                          (Tr.stop))
                        (Tr.stop))
                      (Tr.stop))
                    (let r0:=r136_0_1 ((x0,((↑(List.length x0):Int),((0:Int),()))),(((↑(List.length (List.getD x0 (0:Nat) [])):Int),()),()));
                    Tr.test (Option.isSome (f86 ((!leF r0.2.1.1 10:Bool),((8:Int),()))))
                      (Tr.test (Option.isSome (f86 ((true:Bool),((11:Int),()))))
                        (let r5:=g86 ((!leF r0.2.1.1 10:Bool),((8:Int),()));
                        let r9:=g86 ((true:Bool),((11:Int),()));
                        Tr.test (Option.isSome (f88 (([r0.1.2.1,r5.1,(0:Int),r9.1]:List Int),())))
                          (let r15:=g88 (([r0.1.2.1,r5.1,(0:Int),r9.1]:List Int),());
                          Tr.fin ((r15.1,())))
                          (Tr.stop))
                        (Tr.stop))
                      (Tr.stop))))
                (Tr.stop)))
            (Tr.stop))
          (Tr.test (Option.isSome (l136_0_2 ((x0,((↑(List.length x0):Int),((0:Int),()))),())))
            (Tr.test (isRet (l136_0_2 ((x0,((↑(List.length x0):Int),((0:Int),()))),())))
              (Tr.test (Option.isSome (l149_0 ((x0,((↑(List.length x0):Int),((0:Int),()))),())))
                (Tr.test (isRet (l149_0 ((x0,((↑(List.length x0):Int),((0:Int),()))),())))
                  (Tr.test ((!leF (↑(List.length x0):Int) (10:Int):Bool))
                    (Tr.test (Option.isSome (f86 ((true:Bool),((8:Int),()))))
                      (let r3:=r149_0 ((x0,((↑(List.length x0):Int),((0:Int),()))),());
                      Tr.test (Option.isSome (f86 ((!leF (0:Int) r3.1.1:Bool),((11:Int),()))))
                        (let r2:=r136_0_2 ((x0,((↑(List.length x0):Int),((0:Int),()))),());
                        let r4:=g86 ((true:Bool),((8:Int),()));
                        let r6:=g86 ((!leF (0:Int) r3.1.1:Bool),((11:Int),()));
                        Tr.test (Option.isSome (f88 (([(0:Int),r4.1,r2.1.2.1,r6.1]:List Int),())))
                          (let r17:=g88 (([(0:Int),r4.1,r2.1.2.1,r6.1]:List Int),());
                          Tr.fin ((r17.1,())))
                          (Tr.stop))
                        (Tr.stop))
                      (Tr.stop))
                    (let r1:=b136_0_1 ((x0,((↑(List.length x0):Int),((0:Int),()))),(((↑(List.length (List.getD x0 (0:Nat) [])):Int),()),()));
                    Tr.test (Option.isSome (f86 ((!leF r1.2.1.1 10:Bool),((8:Int),()))))
                      (let r3:=r149_0 ((x0,((↑(List.length x0):Int),((0:Int),()))),());
                      Tr.test (Option.isSome (f86 ((!leF (0:Int) r3.1.1:Bool),((11:Int),()))))
                        (let r2:=r136_0_2 ((x0,((↑(List.length x0):Int),((0:Int),()))),());
                        let r6:=g86 ((!leF (0:Int) r3.1.1:Bool),((11:Int),()));
                        let r16:=g86 ((!leF r1.2.1.1 10:Bool),((8:Int),()));
                        Tr.test (Option.isSome (f88 (([(0:Int),r16.1,r2.1.2.1,r6.1]:List Int),())))
                          (let r18:=g88 (([(0:Int),r16.1,r2.1.2.1,r6.1]:List Int),());
                          Tr.fin ((r18.1,())))
                          (Tr.stop))
                        (Tr.stop))
                      (Tr.stop)))
                  (Tr.test ((!leF (↑(List.length x0):Int) (10:Int):Bool))
                    (Tr.test (Option.isSome (f86 ((true:Bool),((8:Int),()))))
                      (Tr.test (Option.isSome (f86 ((true:Bool),((11:Int),()))))
                        (let r2:=r136_0_2 ((x0,((↑(List.length x0):Int),((0:Int),()))),());
                        let r4:=g86 ((true:Bool),((8:Int),()));
                        let r9:=g86 ((true:Bool),((11:Int),()));
                        Tr.test (Option.isSome (f88 (([(0:Int),r4.1,r2.1.2.1,r9.1]:List Int),())))
                          (let r19:=g88 (([(0:Int),r4.1,r2.1.2.1,r9.1]:List Int),());
                          Tr.fin ((r19.1,())))
                          (Tr.stop))
                        (Tr.stop))
                      (Tr.stop))
                    (let r1:=b136_0_1 ((x0,((↑(List.length x0):Int),((0:Int),()))),(((↑(List.length (List.getD x0 (0:Nat) [])):Int),()),()));
                    Tr.test (Option.isSome (f86 ((!leF r1.2.1.1 10:Bool),((8:Int),()))))
                      (Tr.test (Option.isSome (f86 ((true:Bool),((11:Int),()))))
                        (let r2:=r136_0_2 ((x0,((↑(List.length x0):Int),((0:Int),()))),());
                        let r9:=g86 ((true:Bool),((11:Int),()));
                        let r16:=g86 ((!leF r1.2.1.1 10:Bool),((8:Int),()));
                        Tr.test (Option.isSome (f88 (([(0:Int),r16.1,r2.1.2.1,r9.1]:List Int),())))
                          (let r20:=g88 (([(0:Int),r16.1,r2.1.2.1,r9.1]:List Int),());
                          Tr.fin ((r20.1,())))
                          (Tr.stop))
                        (Tr.stop))
                      (Tr.stop))))
                (Tr.stop))
              (Tr.test (Option.isSome (l149_0 ((x0,((↑(List.length x0):Int),((0:Int),()))),())))
                (Tr.test (isRet (l149_0 ((x0,((↑(List.length x0):Int),((0:Int),()))),())))
                  (Tr.test ((!leF (↑(List.length x0):Int) (10:Int):Bool))
                    (Tr.test (Option.isSome (f86 ((true:Bool),((8:Int),()))))
                      (let r3:=r149_0 ((x0,((↑(List.length x0):Int),((0:Int),()))),());
                      Tr.test (Option.isSome (f86 ((!leF (0:Int) r3.1.1:Bool),((11:Int),()))))
                        (let r4:=g86 ((true:Bool),((8:Int),()));
                        let r6:=g86 ((!leF (0:Int) r3.1.1:Bool),((11:Int),()));
                        Tr.test (Option.isSome (f88 (([(0:Int),r4.1,(0:Int),r6.1]:List Int),())))
                          (let r21:=g88 (([(0:Int),r4.1,(0:Int),r6.1]:List Int),());
                          Tr.fin ((r21.1,())))
                          (Tr.stop))
                        (Tr.stop))
                      (Tr.stop))
                    (let r1:=b136_0_1 ((x0,((↑(List.length x0):Int),((0:Int),()))),(((↑(List.length (List.getD x0 (0:Nat) [])):Int),()),()));
                    Tr.test (Option.isSome (f86 ((!leF r1.2.1.1 10:Bool),((8:Int),()))))
                      (let r3:=r149_0 ((x0,((↑(List.length x0):Int),((0:Int),()))),());
                      Tr.test (Option.isSome (f86 ((!leF (0:Int) r3.1.1:Bool),((11:Int),()))))
                        (let r6:=g86 ((!leF (0:Int) r3.1.1:Bool),((11:Int),()));
                        let r16:=g86 ((!leF r1.2.1.1 10:Bool),((8:Int),()));
                        Tr.test (Option.isSome (f88 (([(0:Int),r16.1,(0:Int),r6.1]:List Int),())))
                          (let r22:=g88 (([(0:Int),r16.1,(0:Int),r6.1]:List Int),());
                          Tr.fin ((r22.1,())))
                          (Tr.stop))
                        (Tr.stop))
                      (Tr.stop)))
                  (Tr.test ((!leF (↑(List.length x0):Int) (10:Int):Bool))
                    (Tr.test (Option.isSome (f86 ((true:Bool),((8:Int),()))))
                      (Tr.test (Option.isSome (f86 ((true:Bool),((11:Int),()))))
                        (let r4:=g86 ((true:Bool),((8:Int),()));
                        let r9:=g86 ((true:Bool),((11:Int),()));
                        Tr.test (Option.isSome (f88 (([(0:Int),r4.1,(0:Int),r9.1]:List Int),())))
                          (let r23:=g88 (([(0:Int),r4.1,(0:Int),r9.1]:List Int),());
                          Tr.fin ((r23.1,())))
                          (Tr.stop))
                        (Tr.stop))
                      (Tr.stop))
                    (let r1:=b136_0_1 ((x0,((↑(List.length x0):Int),((0:Int),()))),(((↑(List.length (List.getD x0 (0:Nat) [])):Int),()),()));
                    Tr.test (Option.isSome (f86 ((!leF r1.2.1.1 10:Bool),((8:Int),()))))
                      (Tr.test (Option.isSome (f86 ((true:Bool),((11:Int),()))))
                        (let r9:=g86 ((true:Bool),((11:Int),()));
                        let r16:=g86 ((!leF r1.2.1.1 10:Bool),((8:Int),()));
                        Tr.test (Option.isSome (f88 (([(0:Int),r16.1,(0:Int),r9.1]:List Int),())))
                          (let r24:=g88 (([(0:Int),r16.1,(0:Int),r9.1]:List Int),());
                          Tr.fin ((r24.1,())))
                          (Tr.stop))
                        (Tr.stop))
                      (Tr.stop))))
                (Tr.stop)))
            (Tr.stop)))
        (Tr.stop))
      (Tr.stop))

def f118 (d:Tys.data as118):Option (Tys.data rs118):=(t118 d.1).val
def g118 (d:Tys.data as118):Tys.data rs118:=(f118 d).getD (Tys.dflt rs118)
def p118:PureC:=pcOf as118 rs118 f118 g118

theorem wk118 (x0:(List (List Int))):Walks (runPure (kl149_0 Go.Proofs.Try.prog).orc Go.Proofs.Try.prog 400 118 as118 rs118 (x0,())) (t118 x0) [([tt],[2]),([false,true,true,true,true,true,true,true,true,true,true,true],[2,1,4,6,8,8,8,10,12,14,16,18,20,22,24]),([false,true,true,true,true,true,true,true,false,true,true,true],[2,1,4,6,8,8,8,10,12,14,16,18,20,22,24]),([false,true,true,true,true,true,true,false,true,true,true,true],[2,1,4,6,8,8,8,10,12,14,16,18,20,22,24]),([false,true,true,true,true,true,true,false,false,true,true,true],[2,1,4,6,8,8,8,10,12,14,16,18,20,22,24]),([false,true,true,true,true,false,true,true,true,true,true,true],[2,1,4,6,8,8,8,10,12,14,16,18,20,22,24]),([false,true,true,true,true,false,true,true,false,true,true,true],[2,1,4,6,8,8,8,10,12,14,16,18,20,22,24]),([false,true,true,true,true,false,true,false,true,true,true,true],[2,1,4,6,8,8,8,10,12,14,16,18,20,22,24]),([false,true,true,true,true,false,true,false,false,true,true,true],[2,1,4,6,8,8,8,10,12,14,16,18,20,22,24]),([false,true,true,false,true,true,true,true,true,true,true,true],[2,1,4,6,8,8,8,10,12,14,16,18,20,22,24]),([false,true,true,false,true,true,true,true,false,true,true,true],[2,1,4,6,8,8,8,10,12,14,16,18,20,22,24]),([false,true,true,false,true,true,true,false,true,true,true,true],[2,1,4,6,8,8,8,10,12,14,16,18,20,22,24]),([false,true,true,false,true,true,true,false,false,true,true,true],[2,1,4,6,8,8,8,10,12,14,16,18,20,22,24]),([false,true,true,false,true,false,true,true,true,true,true,true],[2,1,4,6,8,8,8,10,12,14,16,18,20,22,24]),([false,true,true,false,true,false,true,true,false,true,true,true],[2,1,4,6,8,8,8,10,12,14,16,18,20,22,24]),([false,true,true,false,true,false,true,false,true,true,true,true],[2,1,4,6,8,8,8,10,12,14,16,18,20,22,24]),([false,true,true,false,true,false,true,false,false,true,true,true],[2,1,4,6,8,8,8,10,12,14,16,18,20,22,24])] :=
  ⟨by kernel_rfl,by kernel_rfl,by kernel_rfl,by kernel_rfl,by kernel_rfl,by kernel_rfl,by kernel_rfl,by kernel_rfl,by kernel_rfl,by kernel_rfl,by kernel_rfl,by kernel_rfl,by kernel_rfl,by kernel_rfl,by kernel_rfl,by kernel_rfl,by kernel_rfl,trivial⟩

theorem ok118_t (x0:(List (List Int))):TrOk (PureRuns Go.Proofs.Try.prog (kl149_0 Go.Proofs.Try.prog).orc 118 as118 rs118 (x0,())) (t118 x0) :=
  Walks.ok (fun _ _ _=>PureRuns.of) (wk118 x0) (by kernel_rfl)

theorem ok118:PureOk Go.Proofs.Try.prog 118 p118:=pureOk_of kl149_0_ok.base (T:=fun (d:Tys.data as118)=>t118 d.1) (by kernel_rfl) (fun (d:Tys.data as118)=>ok118_t d.1)
def kf118 (P:Go.Program):Known:=(kl149_0 P).func 118 p118
theorem kf118_ok:KnownOk Go.Proofs.Try.prog (kf118 Go.Proofs.Try.prog):=kl149_0_ok.func ok118

/-! ductility/sensor.fraction -/

abbrev as141:List Ty:=[(.int .i64),(.int .i64)]
abbrev rs141:List Ty:=[(.pair (.int .i64) (.pair (.int .i64) .unit))]

def t141 (x0:Int) (x1:Int):Tr (Tys.data rs141) :=
  Tr.test (Option.isSome (f92 (x1,(([x0]:List Int),()))))
    (let r0:=g92 (x1,(([x0]:List Int),()));
    Tr.test ((r0.1 == (0:Int):Bool))
      (Tr.stop)
      (Tr.fin ((((Go.IntKind.wrap Go.IntKind.i64 (Int.tdiv x0 r0.1):Int),((Go.IntKind.wrap Go.IntKind.i64 (Int.tdiv x1 r0.1):Int),())),()))))
    (Tr.stop)

def f141 (d:Tys.data as141):Option (Tys.data rs141):=(t141 d.1 d.2.1).val
def g141 (d:Tys.data as141):Tys.data rs141:=(f141 d).getD (Tys.dflt rs141)
def p141:PureC:=pcOf as141 rs141 f141 g141

theorem wk141 (x0:Int) (x1:Int):Walks (runPure (kf118 Go.Proofs.Try.prog).orc Go.Proofs.Try.prog 400 141 as141 rs141 (x0,x1,())) (t141 x0 x1) [([true,false],[2,2,4,1])] :=
  ⟨by kernel_rfl,trivial⟩

theorem ok141_t (x0:Int) (x1:Int):TrOk (PureRuns Go.Proofs.Try.prog (kf118 Go.Proofs.Try.prog).orc 141 as141 rs141 (x0,x1,())) (t141 x0 x1) :=
  Walks.ok (fun _ _ _=>PureRuns.of) (wk141 x0 x1) (by kernel_rfl)

theorem ok141:PureOk Go.Proofs.Try.prog 141 p141:=pureOk_of kf118_ok.base (T:=fun (d:Tys.data as141)=>t141 d.1 d.2.1) (by kernel_rfl) (fun (d:Tys.data as141)=>ok141_t d.1 d.2.1)
def kf141 (P:Go.Program):Known:=(kf118 P).func 141 p141
theorem kf141_ok:KnownOk Go.Proofs.Try.prog (kf141 Go.Proofs.Try.prog):=kf118_ok.func ok141

/-! loop 2 of ductility/sensor.centerOf -/

abbrev sh119_2:Sh:={ n:=46,slots:=[2,3,4,5,6,10,11,12,17,18,19],pats:=[.ptr 0 4 0,.ty (.int .i64),.ty (.int .i64),.ty (.int .i64),.ty (.int .i64),.ty (.slice (.slice (.int .i64))),.ty (.int .i64),.ty (.int .i64),.ty (.slice (.int .i64)),.ty (.int .i64),.ty (.int .i64)],boxes:=[.row [.ty (.int .i64),.ty (.int .i64),.ty (.int .i64),.ty (.int .i64)]] }
abbrev shb119_2:Sh:={ n:=46,slots:=[2,3,4,5,10,11,12],pats:=[.ptr 0 4 0,.ty (.int .i64),.ty (.int .i64),.ty (.int .i64),.ty (.slice (.slice (.int .i64))),.ty (.int .i64),.ty (.int .i64)],boxes:=[.row [.ty (.int .i64),.ty (.int .i64),.ty (.int .i64),.ty (.int .i64)]] }
abbrev shr119_2:Sh:={ n:=46,slots:=[],pats:=[],boxes:=[.row [.ty (.int .i64),.ty (.int .i64),.ty (.int .i64),.ty (.int .i64)]] }

def t119_2 (x1:Int) (x2:Int) (x3:Int) (x4:Int) (x5:(List (List Int))) (x6:Int) (x7:Int) (x8:(List Int)) (x9:Int) (x10:Int) (b0_0:Int) (b0_1:Int) (b0_2:Int) (b0_3:Int):Tr (Out sh119_2.data shb119_2.data shr119_2.data) :=
  Tr.test ((!leF x9 x10:Bool))
    (Tr.test (decide ((0:Int) ≤ x10) && decide (x10 < (↑(List.length x8):Int)))
      (Tr.fin (.again (((wrap64 (x1 + wrap64 (x10 * List.getD x8 (Int.toNat x10) (0:Int))):Int),((wrap64 (x2 + wrap64 (x4 * List.getD x8 (Int.toNat x10) (0:Int))):Int),((wrap64 (x3 + List.getD x8 (Int.toNat x10) (0:Int)):Int),(x4,(x5,(x6,(x7,(x8,(x9,((wrap64 (x10 + (1:Int)):Int),())))))))))),((b0_0,(b0_1,(b0_2,(b0_3,())))),()))))
      (Tr.stop))
    (Tr.fin (.brk ((x1,(x2,(x3,(x5,(x6,(x7,())))))),((b0_0,(b0_1,(b0_2,(b0_3,())))),()))))

def s119_2 (d:sh119_2.data):Option (Out sh119_2.data shb119_2.data shr119_2.data):=(t119_2 d.1.1 d.1.2.1 d.1.2.2.1 d.1.2.2.2.1 d.1.2.2.2.2.1 d.1.2.2.2.2.2.1 d.1.2.2.2.2.2.2.1 d.1.2.2.2.2.2.2.2.1 d.1.2.2.2.2.2.2.2.2.1 d.1.2.2.2.2.2.2.2.2.2.1 d.2.1.1 d.2.1.2.1 d.2.1.2.2.1 d.2.1.2.2.2.1).val
def l119_2 (d:sh119_2.data):Option (shb119_2.data ⊕ shr119_2.data):=itr s119_2 rounds d
def b119_2 (d:sh119_2.data):shb119_2.data:=outB shb119_2.dflt (l119_2 d)
def lc119_2:LoopC:=lcB sh119_2 shb119_2 shr119_2 l119_2 b119_2

theorem wk119_2 (x1:Int) (x2:Int) (x3:Int) (x4:Int) (x5:(List (List Int))) (x6:Int) (x7:Int) (x8:(List Int)) (x9:Int) (x10:Int) (b0_0:Int) (b0_1:Int) (b0_2:Int) (b0_3:Int):Walks (runBody (kf141 Go.Proofs.Try.prog).orc Go.Proofs.Try.prog 400 119 2 sh119_2 shb119_2 shr119_2 ((x1,x2,x3,x4,x5,x6,x7,x8,x9,x10,()),(b0_0,b0_1,b0_2,b0_3,()),())) (t119_2 x1 x2 x3 x4 x5 x6 x7 x8 x9 x10 b0_0 b0_1 b0_2 b0_3) [([true,true],[2,4]),([ff],[2])] :=
  ⟨by kernel_rfl,by kernel_rfl,trivial⟩

theorem ok119_2_t (x1:Int) (x2:Int) (x3:Int) (x4:Int) (x5:(List (List Int))) (x6:Int) (x7:Int) (x8:(List Int)) (x9:Int) (x10:Int) (b0_0:Int) (b0_1:Int) (b0_2:Int) (b0_3:Int):TrOk (BodyRuns Go.Proofs.Try.prog (kf141 Go.Proofs.Try.prog).orc 119 2 sh119_2 shb119_2 shr119_2 ((x1,x2,x3,x4,x5,x6,x7,x8,x9,x10,()),(b0_0,b0_1,b0_2,b0_3,()),())) (t119_2 x1 x2 x3 x4 x5 x6 x7 x8 x9 x10 b0_0 b0_1 b0_2 b0_3) :=
  Walks.ok (fun _ _ _=>BodyRuns.of) (wk119_2 x1 x2 x3 x4 x5 x6 x7 x8 x9 x10 b0_0 b0_1 b0_2 b0_3) (by kernel_rfl)

theorem ok119_2:LoopOk Go.Proofs.Try.prog 119 2 lc119_2:=loopOk_ofB (sh:=sh119_2) (shB:=shb119_2) (shR:=shr119_2) kf141_ok.base (T:=fun (d:sh119_2.data)=>t119_2 d.1.1 d.1.2.1 d.1.2.2.1 d.1.2.2.2.1 d.1.2.2.2.2.1 d.1.2.2.2.2.2.1 d.1.2.2.2.2.2.2.1 d.1.2.2.2.2.2.2.2.1 d.1.2.2.2.2.2.2.2.2.1 d.1.2.2.2.2.2.2.2.2.2.1 d.2.1.1 d.2.1.2.1 d.2.1.2.2.1 d.2.1.2.2.2.1) (by kernel_rfl) rfl (fun (d:sh119_2.data)=>ok119_2_t d.1.1 d.1.2.1 d.1.2.2.1 d.1.2.2.2.1 d.1.2.2.2.2.1 d.1.2.2.2.2.2.1 d.1.2.2.2.2.2.2.1 d.1.2.2.2.2.2.2.2.1 d.1.2.2.2.2.2.2.2.2.1 d.1.2.2.2.2.2.2.2.2.2.1 d.2.1.1 d.2.1.2.1 d.2.1.2.2.1 d.2.1.2.2.2.1) (fun _=>rfl)
def kl119_2 (P:Go.Program):Known:=(kf141 P).loop 119 2 lc119_2
theorem kl119_2_ok:KnownOk Go.Proofs.Try.prog (kl119_2 Go.Proofs.Try.prog):=kf141_ok.loop ok119_2

/-! loop 0 of ductility/sensor.centerOf -/

abbrev sh119_0:Sh:={ n:=46,slots:=[2,3,4,5,10,11,12],pats:=[.ptr 0 4 0,.ty (.int .i64),.ty (.int .i64),.ty (.int .i64),.ty (.slice (.slice (.int .i64))),.ty (.int .i64),.ty (.int .i64)],boxes:=[.row [.ty (.int .i64),.ty (.int .i64),.ty (.int .i64),.ty (.int .i64)]] }
abbrev shb119_0:Sh:={ n:=46,slots:=[2,3,4,5],pats:=[.ptr 0 4 0,.ty (.int .i64),.ty (.int .i64),.ty (.int .i64)],boxes:=[.row [.ty (.int .i64),.ty (.int .i64),.ty (.int .i64),.ty (.int .i64)]] }
abbrev shr119_0:Sh:={ n:=46,slots:=[],pats:=[],boxes:=[.row [.ty (.int .i64),.ty (.int .i64),.ty (.int .i64),.ty (.int .i64)]] }

def t119_0 (x1:Int) (x2:Int) (x3:Int) (x4:(List (List Int))) (x5:Int) (x6:Int) (b0_0:Int) (b0_1:Int) (b0_2:Int) (b0_3:Int):Tr (Out sh119_0.data shb119_0.data shr119_0.data) :=
  Tr.test ((!leF x5 x6:Bool))
    (Tr.test (decide ((0:Int) ≤ x6) && decide (x6 < (↑(List.length x4):Int)))
      (Tr.test (isBrk (l119_2 ((x1,(x2,(x3,(x6,(x4,(x5,(x6,((List.getD x4 (Int.toNat x6) []:List Int),((↑(List.length (List.getD x4 (Int.toNat x6) [])):Int),((0:Int),())))))))))),((b0_0,(b0_1,(b0_2,(b0_3,())))),()))))
        (let r0:=b119_2 ((x1,(x2,(x3,(x6,(x4,(x5,(x6,((List.getD x4 (Int.toNat x6) []:List Int),((↑(List.length (List.getD x4 (Int.toNat x6) [])):Int),((0:Int),())))))))))),((b0_0,(b0_1,(b0_2,(b0_3,())))),()));
        Tr.fin (.again ((r0.1.1,(r0.1.2.1,(r0.1.2.2.1,(r0.1.2.2.2.1,(r0.1.2.2.2.2.1,((wrap64 (r0.1.2.2.2.2.2.1 + (1:Int)):Int),())))))),((r0.2.1.1,(r0.2.1.2.1,(r0.2.1.2.2.1,(r0.2.1.2.2.2.1,())))),()))))
        (Tr.stop))
      (Tr.stop))
    (Tr.fin (.brk ((x1,(x2,(x3,()))),((b0_0,(b0_1,(b0_2,(b0_3,())))),()))))

def s119_0 (d:sh119_0.data):Option (Out sh119_0.data shb119_0.data shr119_0.data):=(t119_0 d.1.1 d.1.2.1 d.1.2.2.1 d.1.2.2.2.1 d.1.2.2.2.2.1 d.1.2.2.2.2.2.1 d.2.1.1 d.2.1.2.1 d.2.1.2.2.1 d.2.1.2.2.2.1).val
def l119_0 (d:sh119_0.data):Option (shb119_0.data ⊕ shr119_0.data):=itr s119_0 rounds d
def b119_0 (d:sh119_0.data):shb119_0.data:=outB shb119_0.dflt (l119_0 d)
def lc119_0:LoopC:=lcB sh119_0 shb119_0 shr119_0 l119_0 b119_0

theorem wk119_0 (x1:Int) (x2:Int) (x3:Int) (x4:(List (List Int))) (x5:Int) (x6:Int) (b0_0:Int) (b0_1:Int) (b0_2:Int) (b0_3:Int):Walks (runBody (kl119_2 Go.Proofs.Try.prog).orc Go.Proofs.Try.prog 400 119 0 sh119_0 shb119_0 shr119_0 ((x1,x2,x3,x4,x5,x6,()),(b0_0,b0_1,b0_2,b0_3,()),())) (t119_0 x1 x2 x3 x4 x5 x6 b0_0 b0_1 b0_2 b0_3) [([true,true,true],[1,2,4,6]),([ff],[2])] :=
  ⟨by kernel_rfl,by kernel_rfl,trivial⟩

theorem ok119_0_t (x1:Int) (x2:Int) (x3:Int) (x4:(List (List Int))) (x5:Int) (x6:Int) (b0_0:Int) (b0_1:Int) (b0_2:Int) (b0_3:Int):TrOk (BodyRuns Go.Proofs.Try.prog (kl119_2 Go.Proofs.Try.prog).orc 119 0 sh119_0 shb119_0 shr119_0 ((x1,x2,x3,x4,x5,x6,()),(b0_0,b0_1,b0_2,b0_3,()),())) (t119_0 x1 x2 x3 x4 x5 x6 b0_0 b0_1 b0_2 b0_3) :=
  Walks.ok (fun _ _ _=>BodyRuns.of) (wk119_0 x1 x2 x3 x4 x5 x6 b0_0 b0_1 b0_2 b0_3) (by kernel_rfl)

theorem ok119_0:LoopOk Go.Proofs.Try.prog 119 0 lc119_0:=loopOk_ofB (sh:=sh119_0) (shB:=shb119_0) (shR:=shr119_0) kl119_2_ok.base (T:=fun (d:sh119_0.data)=>t119_0 d.1.1 d.1.2.1 d.1.2.2.1 d.1.2.2.2.1 d.1.2.2.2.2.1 d.1.2.2.2.2.2.1 d.2.1.1 d.2.1.2.1 d.2.1.2.2.1 d.2.1.2.2.2.1) (by kernel_rfl) rfl (fun (d:sh119_0.data)=>ok119_0_t d.1.1 d.1.2.1 d.1.2.2.1 d.1.2.2.2.1 d.1.2.2.2.2.1 d.1.2.2.2.2.2.1 d.2.1.1 d.2.1.2.1 d.2.1.2.2.1 d.2.1.2.2.2.1) (fun _=>rfl)
def kl119_0 (P:Go.Program):Known:=(kl119_2 P).loop 119 0 lc119_0
theorem kl119_0_ok:KnownOk Go.Proofs.Try.prog (kl119_0 Go.Proofs.Try.prog):=kl119_2_ok.loop ok119_0

/-! ductility/sensor.centerOf -/

abbrev as119:List Ty:=[(.slice (.slice (.int .i64)))]
abbrev rs119:List Ty:=[(.pair (.pair (.int .i64) (.pair (.int .i64) .unit)) (.pair (.pair (.int .i64) (.pair (.int .i64) .unit)) .unit))]

def t119 (x0:(List (List Int))):Tr (Tys.data rs119) :=
  Tr.test (isBrk (l119_0 (((0:Int),((0:Int),((0:Int),(x0,((↑(List.length x0):Int),((0:Int),())))))),(((0:Int),((0:Int),((0:Int),((0:Int),())))),()))))
    (let r0:=b119_0 (((0:Int),((0:Int),((0:Int),(x0,((↑(List.length x0):Int),((0:Int),())))))),(((0:Int),((0:Int),((0:Int),((0:Int),())))),()));
    Tr.test (Option.isSome (f141 (r0.1.1,(r0.1.2.2.1,()))))
      (Tr.test (Option.isSome (f141 (r0.1.2.1,(r0.1.2.2.1,()))))
        (let r1:=g141 (r0.1.1,(r0.1.2.2.1,()));
        let r2:=g141 (r0.1.2.1,(r0.1.2.2.1,()));
        Tr.fin ((((r1.1.1,(r1.1.2.1,())),((r2.1.1,(r2.1.2.1,())),())),())))
        (Tr.stop))
      (Tr.stop))
    (Tr.stop)

def f119 (d:Tys.data as119):Option (Tys.data rs119):=(t119 d.1).val
def g119 (d:Tys.data as119):Tys.data rs119:=(f119 d).getD (Tys.dflt rs119)
def p119:PureC:=pcOf as119 rs119 f119 g119

theorem wk119 (x0:(List (List Int))):Walks (runPure (kl119_0 Go.Proofs.Try.prog).orc Go.Proofs.Try.prog 400 119 as119 rs119 (x0,())) (t119 x0) [([true,true,true],[2,4,1,6])] :=
  ⟨by kernel_rfl,trivial⟩

theorem ok119_t (x0:(List (List Int))):TrOk (PureRuns Go.Proofs.Try.prog (kl119_0 Go.Proofs.Try.prog).orc 119 as119 rs119 (x0,())) (t119 x0) :=
  Walks.ok (fun _ _ _=>PureRuns.of) (wk119 x0) (by kernel_rfl)

theorem ok119:PureOk Go.Proofs.Try.prog 119 p119:=pureOk_of kl119_0_ok.base (T:=fun (d:Tys.data as119)=>t119 d.1) (by kernel_rfl) (fun (d:Tys.data as119)=>ok119_t d.1)
def kf119 (P:Go.Program):Known:=(kl119_0 P).func 119 p119
theorem kf119_ok:KnownOk Go.Proofs.Try.prog (kf119 Go.Proofs.Try.prog):=kl119_0_ok.func ok119

/-! ductility/sensor.CenterOf -/

abbrev as71:List Ty:=[(.slice (.slice (.int .i64)))]
abbrev rs71:List Ty:=[(.pair (.pair (.int .i64) (.pair (.int .i64) .unit)) (.pair (.pair (.int .i64) (.pair (.int .i64) .unit)) .unit)),(.int .i64)]

def t71 (x0:(List (List Int))):Tr (Tys.data rs71) :=
  Tr.test (Option.isSome (f118 (x0,())))
    (let r0:=g118 (x0,());
    Tr.test ((!eqF r0.1 0:Bool))
      (Tr.fin (((((0:Int),((0:Int),())),(((0:Int),((0:Int),())),())),(r0.1,()))))
      (Tr.test (Option.isSome (f119 (x0,())))
        (let r1:=g119 (x0,());
        Tr.fin ((((r1.1.1.1,(r1.1.1.2.1,())),((r1.1.2.1.1,(r1.1.2.1.2.1,())),())),((0:Int),()))))
        (Tr.stop)))
    (Tr.stop)

def f71 (d:Tys.data as71):Option (Tys.data rs71):=(t71 d.1).val
def g71 (d:Tys.data as71):Tys.data rs71:=(f71 d).getD (Tys.dflt rs71)
def p71:PureC:=pcOf as71 rs71 f71 g71

theorem wk71 (x0:(List (List Int))):Walks (runPure (kf119 Go.Proofs.Try.prog).orc Go.Proofs.Try.prog 400 71 as71 rs71 (x0,())) (t71 x0) [([true,true],[2,4]),([true,false,true],[2,4,6])] :=
  ⟨by kernel_rfl,by kernel_rfl,trivial⟩

theorem ok71_t (x0:(List (List Int))):TrOk (PureRuns Go.Proofs.Try.prog (kf119 Go.Proofs.Try.prog).orc 71 as71 rs71 (x0,())) (t71 x0) :=
  Walks.ok (fun _ _ _=>PureRuns.of) (wk71 x0) (by kernel_rfl)

theorem ok71:PureOk Go.Proofs.Try.prog 71 p71:=pureOk_of kf119_ok.base (T:=fun (d:Tys.data as71)=>t71 d.1) (by kernel_rfl) (fun (d:Tys.data as71)=>ok71_t d.1)
def kf71 (P:Go.Program):Known:=(kf119 P).func 71 p71
theorem kf71_ok:KnownOk Go.Proofs.Try.prog (kf71 Go.Proofs.Try.prog):=kf119_ok.func ok71

/-! loop 0 of ductility/ductilitybase.Ranges -/

abbrev sh23_0:Sh:={ n:=26,slots:=[0,1,5],pats:=[.ty (.slice (.pair (.int .i64) (.pair (.int .i64) .unit))),.ty (.slice (.pair (.int .i64) (.pair (.int .i64) .unit))),.ty (.int .i64)],boxes:=[] }
abbrev shb23_0:Sh:={ n:=26,slots:=[],pats:=[],boxes:=[] }
abbrev shr23_0:Sh:={ n:=26,slots:=[4],pats:=[.ty .bool],boxes:=[] }

def t23_0 (x0:(List (Int×(Int×Unit)))) (x1:(List (Int×(Int×Unit)))) (x2:Int):Tr (Out sh23_0.data shb23_0.data shr23_0.data) :=
  Tr.test ((!leF (↑(List.length x0):Int) x2:Bool))
    (Tr.test (decide ((0:Int) ≤ x2) && decide (x2 < (↑(List.length x0):Int)))
      (Tr.test ((decide ((0:Int) ≤ x2) && decide (x2 < (↑(List.length x1):Int)):Bool))
        (Tr.test ((!((List.getD x0 (Int.toNat x2) ((0:Int),(0:Int),())).1 == (List.getD x1 (Int.toNat x2) ((0:Int),(0:Int),())).1 && ((List.getD x0 (Int.toNat x2) ((0:Int),(0:Int),())).2.1 == (List.getD x1 (Int.toNat x2) ((0:Int),(0:Int),())).2.1 && true)):Bool))
          (Tr.fin (.ret (((false:Bool),()),())))
          (Tr.fin (.again ((x0,(x1,((wrap64 (x2 + (1:Int)):Int),()))),()))))
        (Tr.stop))
      (Tr.stop))
    (Tr.fin (.brk ((),())))

def s23_0 (d:sh23_0.data):Option (Out sh23_0.data shb23_0.data shr23_0.data):=(t23_0 d.1.1 d.1.2.1 d.1.2.2.1).val
def l23_0 (d:sh23_0.data):Option (shb23_0.data ⊕ shr23_0.data):=itr s23_0 rounds d
def b23_0 (d:sh23_0.data):shb23_0.data:=outB shb23_0.dflt (l23_0 d)
def r23_0 (d:sh23_0.data):shr23_0.data:=outR shr23_0.dflt (l23_0 d)
def lc23_0:LoopC:=lcOf sh23_0 shb23_0 shr23_0 l23_0 b23_0 r23_0

theorem wk23_0 (x0:(List (Int×(Int×Unit)))) (x1:(List (Int×(Int×Unit)))) (x2:Int):Walks (runBody (kf71 Go.Proofs.Try.prog).orc Go.Proofs.Try.prog 400 23 0 sh23_0 shb23_0 shr23_0 ((x0,x1,x2,()),())) (t23_0 x0 x1 x2) [([true,true,true,true],[2,4,6,8]),([true,true,true,false],[2,4,6,8]),([ff],[2])] :=
  ⟨by kernel_rfl,by kernel_rfl,by kernel_rfl,trivial⟩

theorem ok23_0_t (x0:(List (Int×(Int×Unit)))) (x1:(List (Int×(Int×Unit)))) (x2:Int):TrOk (BodyRuns Go.Proofs.Try.prog (kf71 Go.Proofs.Try.prog).orc 23 0 sh23_0 shb23_0 shr23_0 ((x0,x1,x2,()),())) (t23_0 x0 x1 x2) :=
  Walks.ok (fun _ _ _=>BodyRuns.of) (wk23_0 x0 x1 x2) (by kernel_rfl)

theorem ok23_0:LoopOk Go.Proofs.Try.prog 23 0 lc23_0:=loopOk_of (sh:=sh23_0) (shB:=shb23_0) (shR:=shr23_0) kf71_ok.base (T:=fun (d:sh23_0.data)=>t23_0 d.1.1 d.1.2.1 d.1.2.2.1) (by kernel_rfl) rfl (fun (d:sh23_0.data)=>ok23_0_t d.1.1 d.1.2.1 d.1.2.2.1) (fun _=>rfl)
def kl23_0 (P:Go.Program):Known:=(kf71 P).loop 23 0 lc23_0
theorem kl23_0_ok:KnownOk Go.Proofs.Try.prog (kl23_0 Go.Proofs.Try.prog):=kf71_ok.loop ok23_0

/-! ductility/ductilitybase.Ranges -/

abbrev as23:List Ty:=[(.slice (.pair (.int .i64) (.pair (.int .i64) .unit))),(.slice (.pair (.int .i64) (.pair (.int .i64) .unit)))]
abbrev rs23:List Ty:=[.bool]

def t23 (x0:(List (Int×(Int×Unit)))) (x1:(List (Int×(Int×Unit)))):Tr (Tys.data rs23) :=
  Tr.test ((!eqF (↑(List.length x0):Int) (↑(List.length x1):Int):Bool))
    (Tr.fin ((false,())))
    (Tr.test (Option.isSome (l23_0 ((x0,(x1,((0:Int),()))),())))
      (Tr.test (isRet (l23_0 ((x0,(x1,((0:Int),()))),())))
        (let r0:=r23_0 ((x0,(x1,((0:Int),()))),());
        Tr.fin ((r0.1.1,())))
        (Tr.fin (((true:Bool),()))))
      (Tr.stop))

def f23 (d:Tys.data as23):Option (Tys.data rs23):=(t23 d.1 d.2.1).val
def g23 (d:Tys.data as23):Tys.data rs23:=(f23 d).getD (Tys.dflt rs23)
def p23:PureC:=pcOf as23 rs23 f23 g23

theorem wk23 (x0:(List (Int×(Int×Unit)))) (x1:(List (Int×(Int×Unit)))):Walks (runPure (kl23_0 Go.Proofs.Try.prog).orc Go.Proofs.Try.prog 400 23 as23 rs23 (x0,x1,())) (t23 x0 x1) [([tt],[2]),([false,true,true],[2,4,6]),([false,true,false],[2,4,6])] :=
  ⟨by kernel_rfl,by kernel_rfl,by kernel_rfl,trivial⟩

theorem ok23_t (x0:(List (Int×(Int×Unit)))) (x1:(List (Int×(Int×Unit)))):TrOk (PureRuns Go.Proofs.Try.prog (kl23_0 Go.Proofs.Try.prog).orc 23 as23 rs23 (x0,x1,())) (t23 x0 x1) :=
  Walks.ok (fun _ _ _=>PureRuns.of) (wk23 x0 x1) (by kernel_rfl)

theorem ok23:PureOk Go.Proofs.Try.prog 23 p23:=pureOk_of kl23_0_ok.base (T:=fun (d:Tys.data as23)=>t23 d.1 d.2.1) (by kernel_rfl) (fun (d:Tys.data as23)=>ok23_t d.1 d.2.1)
def kf23 (P:Go.Program):Known:=(kl23_0 P).func 23 p23
theorem kf23_ok:KnownOk Go.Proofs.Try.prog (kf23 Go.Proofs.Try.prog):=kl23_0_ok.func ok23

/-! loop 0 of ductility/ductilitybase.Ints -/

abbrev sh35_0:Sh:={ n:=26,slots:=[0,1,5],pats:=[.ty (.slice (.int .i64)),.ty (.slice (.int .i64)),.ty (.int .i64)],boxes:=[] }
abbrev shb35_0:Sh:={ n:=26,slots:=[],pats:=[],boxes:=[] }
abbrev shr35_0:Sh:={ n:=26,slots:=[4],pats:=[.ty .bool],boxes:=[] }

def t35_0 (x0:(List Int)) (x1:(List Int)) (x2:Int):Tr (Out sh35_0.data shb35_0.data shr35_0.data) :=
  Tr.test ((!leF (↑(List.length x0):Int) x2:Bool))
    (Tr.test (decide ((0:Int) ≤ x2) && decide (x2 < (↑(List.length x0):Int)))
      (Tr.test ((decide ((0:Int) ≤ x2) && decide (x2 < (↑(List.length x1):Int)):Bool))
        (Tr.test ((!eqF (List.getD x0 (Int.toNat x2) (0:Int)) (List.getD x1 (Int.toNat x2) (0:Int)):Bool))
          (Tr.fin (.ret (((false:Bool),()),())))
          (Tr.fin (.again ((x0,(x1,((wrap64 (x2 + (1:Int)):Int),()))),()))))
        (Tr.stop))
      (Tr.stop))
    (Tr.fin (.brk ((),())))

def s35_0 (d:sh35_0.data):Option (Out sh35_0.data shb35_0.data shr35_0.data):=(t35_0 d.1.1 d.1.2.1 d.1.2.2.1).val
def l35_0 (d:sh35_0.data):Option (shb35_0.data ⊕ shr35_0.data):=itr s35_0 rounds d
def b35_0 (d:sh35_0.data):shb35_0.data:=outB shb35_0.dflt (l35_0 d)
def r35_0 (d:sh35_0.data):shr35_0.data:=outR shr35_0.dflt (l35_0 d)
def lc35_0:LoopC:=lcOf sh35_0 shb35_0 shr35_0 l35_0 b35_0 r35_0

theorem wk35_0 (x0:(List Int)) (x1:(List Int)) (x2:Int):Walks (runBody (kf23 Go.Proofs.Try.prog).orc Go.Proofs.Try.prog 400 35 0 sh35_0 shb35_0 shr35_0 ((x0,x1,x2,()),())) (t35_0 x0 x1 x2) [([true,true,true,true],[2,4,6,8]),([true,true,true,false],[2,4,6,8]),([ff],[2])] :=
  ⟨by kernel_rfl,by kernel_rfl,by kernel_rfl,trivial⟩

theorem ok35_0_t (x0:(List Int)) (x1:(List Int)) (x2:Int):TrOk (BodyRuns Go.Proofs.Try.prog (kf23 Go.Proofs.Try.prog).orc 35 0 sh35_0 shb35_0 shr35_0 ((x0,x1,x2,()),())) (t35_0 x0 x1 x2) :=
  Walks.ok (fun _ _ _=>BodyRuns.of) (wk35_0 x0 x1 x2) (by kernel_rfl)

theorem ok35_0:LoopOk Go.Proofs.Try.prog 35 0 lc35_0:=loopOk_of (sh:=sh35_0) (shB:=shb35_0) (shR:=shr35_0) kf23_ok.base (T:=fun (d:sh35_0.data)=>t35_0 d.1.1 d.1.2.1 d.1.2.2.1) (by kernel_rfl) rfl (fun (d:sh35_0.data)=>ok35_0_t d.1.1 d.1.2.1 d.1.2.2.1) (fun _=>rfl)
def kl35_0 (P:Go.Program):Known:=(kf23 P).loop 35 0 lc35_0
theorem kl35_0_ok:KnownOk Go.Proofs.Try.prog (kl35_0 Go.Proofs.Try.prog):=kf23_ok.loop ok35_0

/-! ductility/ductilitybase.Ints -/

abbrev as35:List Ty:=[(.slice (.int .i64)),(.slice (.int .i64))]
abbrev rs35:List Ty:=[.bool]

def t35 (x0:(List Int)) (x1:(List Int)):Tr (Tys.data rs35) :=
  Tr.test ((!eqF (↑(List.length x0):Int) (↑(List.length x1):Int):Bool))
    (Tr.fin ((false,())))
    (Tr.test (Option.isSome (l35_0 ((x0,(x1,((0:Int),()))),())))
      (Tr.test (isRet (l35_0 ((x0,(x1,((0:Int),()))),())))
        (let r0:=r35_0 ((x0,(x1,((0:Int),()))),());
        Tr.fin ((r0.1.1,())))
        (Tr.fin (((true:Bool),()))))
      (Tr.stop))

def f35 (d:Tys.data as35):Option (Tys.data rs35):=(t35 d.1 d.2.1).val
def g35 (d:Tys.data as35):Tys.data rs35:=(f35 d).getD (Tys.dflt rs35)
def p35:PureC:=pcOf as35 rs35 f35 g35

theorem wk35 (x0:(List Int)) (x1:(List Int)):Walks (runPure (kl35_0 Go.Proofs.Try.prog).orc Go.Proofs.Try.prog 400 35 as35 rs35 (x0,x1,())) (t35 x0 x1) [([tt],[2]),([false,true,true],[2,4,6]),([false,true,false],[2,4,6])] :=
  ⟨by kernel_rfl,by kernel_rfl,by kernel_rfl,trivial⟩

theorem ok35_t (x0:(List Int)) (x1:(List Int)):TrOk (PureRuns Go.Proofs.Try.prog (kl35_0 Go.Proofs.Try.prog).orc 35 as35 rs35 (x0,x1,())) (t35 x0 x1) :=
  Walks.ok (fun _ _ _=>PureRuns.of) (wk35 x0 x1) (by kernel_rfl)

theorem ok35:PureOk Go.Proofs.Try.prog 35 p35:=pureOk_of kl35_0_ok.base (T:=fun (d:Tys.data as35)=>t35 d.1 d.2.1) (by kernel_rfl) (fun (d:Tys.data as35)=>ok35_t d.1 d.2.1)
def kf35 (P:Go.Program):Known:=(kl35_0 P).func 35 p35
theorem kf35_ok:KnownOk Go.Proofs.Try.prog (kf35 Go.Proofs.Try.prog):=kl35_0_ok.func ok35

/-! loop 0 of ductility/ductilityref07.SameExplanation -/

abbrev sh51_0:Sh:={ n:=39,slots:=[2,3,5],pats:=[.ptr 0 2 0,.ptr 1 2 0,.ty (.int .i64)],boxes:=[.row [.ty (.slice (.int .i64)),.ty (.slice .bool)],.row [.ty (.slice (.int .i64)),.ty (.slice .bool)]] }
abbrev shb51_0:Sh:={ n:=39,slots:=[],pats:=[],boxes:=[.row [.ty (.slice (.int .i64)),.ty (.slice .bool)],.row [.ty (.slice (.int .i64)),.ty (.slice .bool)]] }
abbrev shr51_0:Sh:={ n:=39,slots:=[4],pats:=[.ty .bool],boxes:=[.row [.ty (.slice (.int .i64)),.ty (.slice .bool)],.row [.ty (.slice (.int .i64)),.ty (.slice .bool)]] }

def t51_0 (x2:Int) (b0_0:(List Int)) (b0_1:(List Bool)) (b1_0:(List Int)) (b1_1:(List Bool)):Tr (Out sh51_0.data shb51_0.data shr51_0.data) :=
  Tr.test ((!leF (↑(List.length b0_1):Int) x2:Bool))
    (Tr.test (decide ((0:Int) ≤ x2) && decide (x2 < (↑(List.length b0_1):Int)))
      (Tr.test ((decide ((0:Int) ≤ x2) && decide (x2 < (↑(List.length b1_1):Int)):Bool))
        (Tr.test ((!List.getD b0_1 (Int.toNat x2) false == List.getD b1_1 (Int.toNat x2) false:Bool))
          (Tr.fin (.ret (((false:Bool),()),((b0_0,(b0_1,())),((b1_0,(b1_1,())),())))))
          (Tr.fin (.again (((wrap64 (x2 + (1:Int)):Int),()),((b0_0,(b0_1,())),((b1_0,(b1_1,())),()))))))
        (Tr.stop))
      (Tr.stop))
    (Tr.fin (.brk ((),((b0_0,(b0_1,())),((b1_0,(b1_1,())),())))))

def s51_0 (d:sh51_0.data):Option (Out sh51_0.data shb51_0.data shr51_0.data):=(t51_0 d.1.1 d.2.1.1 d.2.1.2.1 d.2.2.1.1 d.2.2.1.2.1).val
def l51_0 (d:sh51_0.data):Option (shb51_0.data ⊕ shr51_0.data):=itr s51_0 rounds d
def b51_0 (d:sh51_0.data):shb51_0.data:=outB shb51_0.dflt (l51_0 d)
def r51_0 (d:sh51_0.data):shr51_0.data:=outR shr51_0.dflt (l51_0 d)
def lc51_0:LoopC:=lcOf sh51_0 shb51_0 shr51_0 l51_0 b51_0 r51_0

theorem wk51_0 (x2:Int) (b0_0:(List Int)) (b0_1:(List Bool)) (b1_0:(List Int)) (b1_1:(List Bool)):Walks (runBody (kf35 Go.Proofs.Try.prog).orc Go.Proofs.Try.prog 400 51 0 sh51_0 shb51_0 shr51_0 ((x2,()),(b0_0,b0_1,()),(b1_0,b1_1,()),())) (t51_0 x2 b0_0 b0_1 b1_0 b1_1) [([true,true,true,true],[2,4,6,8]),([true,true,true,false],[2,4,6,8]),([ff],[2])] :=
  ⟨by kernel_rfl,by kernel_rfl,by kernel_rfl,trivial⟩

theorem ok51_0_t (x2:Int) (b0_0:(List Int)) (b0_1:(List Bool)) (b1_0:(List Int)) (b1_1:(List Bool)):TrOk (BodyRuns Go.Proofs.Try.prog (kf35 Go.Proofs.Try.prog).orc 51 0 sh51_0 shb51_0 shr51_0 ((x2,()),(b0_0,b0_1,()),(b1_0,b1_1,()),())) (t51_0 x2 b0_0 b0_1 b1_0 b1_1) :=
  Walks.ok (fun _ _ _=>BodyRuns.of) (wk51_0 x2 b0_0 b0_1 b1_0 b1_1) (by kernel_rfl)

theorem ok51_0:LoopOk Go.Proofs.Try.prog 51 0 lc51_0:=loopOk_of (sh:=sh51_0) (shB:=shb51_0) (shR:=shr51_0) kf35_ok.base (T:=fun (d:sh51_0.data)=>t51_0 d.1.1 d.2.1.1 d.2.1.2.1 d.2.2.1.1 d.2.2.1.2.1) (by kernel_rfl) rfl (fun (d:sh51_0.data)=>ok51_0_t d.1.1 d.2.1.1 d.2.1.2.1 d.2.2.1.1 d.2.2.1.2.1) (fun _=>rfl)
def kl51_0 (P:Go.Program):Known:=(kf35 P).loop 51 0 lc51_0
theorem kl51_0_ok:KnownOk Go.Proofs.Try.prog (kl51_0 Go.Proofs.Try.prog):=kf35_ok.loop ok51_0

/-! ductility/ductilityref07.SameExplanation -/

abbrev as51:List Ty:=[(.pair (.slice (.int .i64)) (.pair (.slice .bool) .unit)),(.pair (.slice (.int .i64)) (.pair (.slice .bool) .unit))]
abbrev rs51:List Ty:=[.bool]

def t51 (x0:(List Int)) (x0':(List Bool)) (x1:(List Int)) (x1':(List Bool)):Tr (Tys.data rs51) :=
  Tr.test (Option.isSome (f35 (x0,(x1,()))))
    (let r0:=g35 (x0,(x1,()));
    Tr.test ((!r0.1:Bool))
      (Tr.fin (((false:Bool),())))
      (Tr.test ((!eqF (↑(List.length x0'):Int) (↑(List.length x1'):Int):Bool))
        (Tr.fin (((false:Bool),())))
        (Tr.test (Option.isSome (l51_0 (((0:Int),()),((x0,(x0',())),((x1,(x1',())),())))))
          (Tr.test (isRet (l51_0 (((0:Int),()),((x0,(x0',())),((x1,(x1',())),())))))
            (let r1:=r51_0 (((0:Int),()),((x0,(x0',())),((x1,(x1',())),())));
            Tr.fin ((r1.1.1,())))
            (Tr.fin (((true:Bool),()))))
          (Tr.stop))))
    (Tr.stop)

def f51 (d:Tys.data as51):Option (Tys.data rs51):=(t51 d.1.1 d.1.2.1 d.2.1.1 d.2.1.2.1).val
def g51 (d:Tys.data as51):Tys.data rs51:=(f51 d).getD (Tys.dflt rs51)
def p51:PureC:=pcOf as51 rs51 f51 g51

theorem wk51 (x0:(List Int)) (x0':(List Bool)) (x1:(List Int)) (x1':(List Bool)):Walks (runPure (kl51_0 Go.Proofs.Try.prog).orc Go.Proofs.Try.prog 400 51 as51 rs51 ((x0,x0',()),(x1,x1',()),())) (t51 x0 x0' x1 x1') [([true,true],[1,2,2,2,2,2,2,2,2,4]),([true,false,true],[2,4,4,4,4,4,4,4,4,6]),([true,false,false,true,true],[2,4,6,8,8,8,8,8,8,8,8,10]),([true,false,false,true,false],[2,4,6,8,8,8,8,8,8,8,8,10])] :=
  ⟨by kernel_rfl,by kernel_rfl,by kernel_rfl,by kernel_rfl,trivial⟩

theorem ok51_t (x0:(List Int)) (x0':(List Bool)) (x1:(List Int)) (x1':(List Bool)):TrOk (PureRuns Go.Proofs.Try.prog (kl51_0 Go.Proofs.Try.prog).orc 51 as51 rs51 ((x0,x0',()),(x1,x1',()),())) (t51 x0 x0' x1 x1') :=
  Walks.ok (fun _ _ _=>PureRuns.of) (wk51 x0 x0' x1 x1') (by kernel_rfl)

theorem ok51:PureOk Go.Proofs.Try.prog 51 p51:=pureOk_of kl51_0_ok.base (T:=fun (d:Tys.data as51)=>t51 d.1.1 d.1.2.1 d.2.1.1 d.2.1.2.1) (by kernel_rfl) (fun (d:Tys.data as51)=>ok51_t d.1.1 d.1.2.1 d.2.1.1 d.2.1.2.1)
def kf51 (P:Go.Program):Known:=(kl51_0 P).func 51 p51
theorem kf51_ok:KnownOk Go.Proofs.Try.prog (kf51 Go.Proofs.Try.prog):=kl51_0_ok.func ok51

/-! ductility/ductilitybase.Size -/

abbrev as104:List Ty:=[(.int .i64)]
abbrev rs104:List Ty:=[(.int .i64)]

def t104 (x0:Int):Tr (Tys.data rs104) :=
  Tr.fin (((if x0 < Go.IntKind.wrap Go.IntKind.i64 ((0:Int) - x0) then Go.IntKind.wrap Go.IntKind.i64 ((0:Int) - x0) else x0:Int),()))

def f104 (d:Tys.data as104):Option (Tys.data rs104):=(t104 d.1).val
def g104 (d:Tys.data as104):Tys.data rs104:=(f104 d).getD (Tys.dflt rs104)
def p104:PureC:=pcOf as104 rs104 f104 g104

theorem wk104 (x0:Int):Walks (runPure (kf51 Go.Proofs.Try.prog).orc Go.Proofs.Try.prog 400 104 as104 rs104 (x0,())) (t104 x0) [([],[])] :=
  ⟨by kernel_rfl,trivial⟩

theorem ok104_t (x0:Int):TrOk (PureRuns Go.Proofs.Try.prog (kf51 Go.Proofs.Try.prog).orc 104 as104 rs104 (x0,())) (t104 x0) :=
  Walks.ok (fun _ _ _=>PureRuns.of) (wk104 x0) (by kernel_rfl)

theorem ok104:PureOk Go.Proofs.Try.prog 104 p104:=pureOk_of kf51_ok.base (T:=fun (d:Tys.data as104)=>t104 d.1) (by kernel_rfl) (fun (d:Tys.data as104)=>ok104_t d.1)
def kf104 (P:Go.Program):Known:=(kf51 P).func 104 p104
theorem kf104_ok:KnownOk Go.Proofs.Try.prog (kf104 Go.Proofs.Try.prog):=kf51_ok.func ok104

/-! loop 0 of ductility/ductilitybase.Gcd -/

abbrev sh103_0:Sh:={ n:=13,slots:=[0,1],pats:=[.ty (.int .i64),.ty (.int .i64)],boxes:=[] }
abbrev shb103_0:Sh:={ n:=13,slots:=[0],pats:=[.ty (.int .i64)],boxes:=[] }
abbrev shr103_0:Sh:={ n:=13,slots:=[],pats:=[],boxes:=[] }

def t103_0 (x0:Int) (x1:Int):Tr (Out sh103_0.data shb103_0.data shr103_0.data) :=
  Tr.test ((!eqF x1 0:Bool))
    (Tr.test (x1 == (0:Int))
      (Tr.stop)
      (Tr.fin (.again ((x1,((Int.tmod x0 x1:Int),())),()))))
    (Tr.fin (.brk ((x0,()),())))

def s103_0 (d:sh103_0.data):Option (Out sh103_0.data shb103_0.data shr103_0.data):=(t103_0 d.1.1 d.1.2.1).val
def l103_0 (d:sh103_0.data):Option (shb103_0.data ⊕ shr103_0.data):=itr s103_0 rounds d
def b103_0 (d:sh103_0.data):shb103_0.data:=outB shb103_0.dflt (l103_0 d)
def lc103_0:LoopC:=lcB sh103_0 shb103_0 shr103_0 l103_0 b103_0

theorem wk103_0 (x0:Int) (x1:Int):Walks (runBody (kf104 Go.Proofs.Try.prog).orc Go.Proofs.Try.prog 400 103 0 sh103_0 shb103_0 shr103_0 ((x0,x1,()),())) (t103_0 x0 x1) [([true,false],[2,4]),([ff],[2])] :=
  ⟨by kernel_rfl,by kernel_rfl,trivial⟩

theorem ok103_0_t (x0:Int) (x1:Int):TrOk (BodyRuns Go.Proofs.Try.prog (kf104 Go.Proofs.Try.prog).orc 103 0 sh103_0 shb103_0 shr103_0 ((x0,x1,()),())) (t103_0 x0 x1) :=
  Walks.ok (fun _ _ _=>BodyRuns.of) (wk103_0 x0 x1) (by kernel_rfl)

theorem ok103_0:LoopOk Go.Proofs.Try.prog 103 0 lc103_0:=loopOk_ofB (sh:=sh103_0) (shB:=shb103_0) (shR:=shr103_0) kf104_ok.base (T:=fun (d:sh103_0.data)=>t103_0 d.1.1 d.1.2.1) (by kernel_rfl) rfl (fun (d:sh103_0.data)=>ok103_0_t d.1.1 d.1.2.1) (fun _=>rfl)
def kl103_0 (P:Go.Program):Known:=(kf104 P).loop 103 0 lc103_0
theorem kl103_0_ok:KnownOk Go.Proofs.Try.prog (kl103_0 Go.Proofs.Try.prog):=kf104_ok.loop ok103_0

/-! ductility/ductilitybase.Gcd -/

abbrev as103:List Ty:=[(.int .i64),(.int .i64)]
abbrev rs103:List Ty:=[(.int .i64)]

def t103 (x0:Int) (x1:Int):Tr (Tys.data rs103) :=
  Tr.test (isBrk (l103_0 ((x0,(x1,())),())))
    (let r0:=b103_0 ((x0,(x1,())),());
    Tr.test (Option.isSome (f104 (r0.1.1,())))
      (let r1:=g104 (r0.1.1,());
      Tr.fin ((r1.1,())))
      (Tr.stop))
    (Tr.stop)

def f103 (d:Tys.data as103):Option (Tys.data rs103):=(t103 d.1 d.2.1).val
def g103 (d:Tys.data as103):Tys.data rs103:=(f103 d).getD (Tys.dflt rs103)
def p103:PureC:=pcOf as103 rs103 f103 g103

theorem wk103 (x0:Int) (x1:Int):Walks (runPure (kl103_0 Go.Proofs.Try.prog).orc Go.Proofs.Try.prog 400 103 as103 rs103 (x0,x1,())) (t103 x0 x1) [([true,true],[2,1,4])] :=
  ⟨by kernel_rfl,trivial⟩

theorem ok103_t (x0:Int) (x1:Int):TrOk (PureRuns Go.Proofs.Try.prog (kl103_0 Go.Proofs.Try.prog).orc 103 as103 rs103 (x0,x1,())) (t103 x0 x1) :=
  Walks.ok (fun _ _ _=>PureRuns.of) (wk103 x0 x1) (by kernel_rfl)

theorem ok103:PureOk Go.Proofs.Try.prog 103 p103:=pureOk_of kl103_0_ok.base (T:=fun (d:Tys.data as103)=>t103 d.1 d.2.1) (by kernel_rfl) (fun (d:Tys.data as103)=>ok103_t d.1 d.2.1)
def kf103 (P:Go.Program):Known:=(kl103_0 P).func 103 p103
theorem kf103_ok:KnownOk Go.Proofs.Try.prog (kf103 Go.Proofs.Try.prog):=kl103_0_ok.func ok103

/-! ductility/ductilitybase.Lowest -/

abbrev as82:List Ty:=[(.int .i64),(.int .i64)]
abbrev rs82:List Ty:=[(.pair (.int .i64) (.pair (.int .i64) .unit))]

def t82 (x0:Int) (x1:Int):Tr (Tys.data rs82) :=
  Tr.test (Option.isSome (f103 (x0,(x1,()))))
    (Tr.test (!leF (0:Int) x1)
      (let r0:=g103 (x0,(x1,()));
      Tr.test ((Go.IntKind.wrap Go.IntKind.i64 ((0:Int) - r0.1) == (0:Int):Bool))
        (Tr.stop)
        (Tr.fin ((((Go.IntKind.wrap Go.IntKind.i64 (Int.tdiv x0 (Go.IntKind.wrap Go.IntKind.i64 ((0:Int) - r0.1))):Int),((Go.IntKind.wrap Go.IntKind.i64 (Int.tdiv x1 (Go.IntKind.wrap Go.IntKind.i64 ((0:Int) - r0.1))):Int),())),()))))
      (let r0:=g103 (x0,(x1,()));
      Tr.test ((r0.1 == (0:Int):Bool))
        (Tr.stop)
        (Tr.fin ((((Go.IntKind.wrap Go.IntKind.i64 (Int.tdiv x0 r0.1):Int),((Go.IntKind.wrap Go.IntKind.i64 (Int.tdiv x1 r0.1):Int),())),())))))
    (Tr.stop)

def f82 (d:Tys.data as82):Option (Tys.data rs82):=(t82 d.1 d.2.1).val
def g82 (d:Tys.data as82):Tys.data rs82:=(f82 d).getD (Tys.dflt rs82)
def p82:PureC:=pcOf as82 rs82 f82 g82

theorem wk82 (x0:Int) (x1:Int):Walks (runPure (kf103 Go.Proofs.Try.prog).orc Go.Proofs.Try.prog 400 82 as82 rs82 (x0,x1,())) (t82 x0 x1) [([true,true,false],[2,2,4,6]),([true,false,false],[2,2,4,6])] :=
  ⟨by kernel_rfl,by kernel_rfl,trivial⟩

theorem ok82_t (x0:Int) (x1:Int):TrOk (PureRuns Go.Proofs.Try.prog (kf103 Go.Proofs.Try.prog).orc 82 as82 rs82 (x0,x1,())) (t82 x0 x1) :=
  Walks.ok (fun _ _ _=>PureRuns.of) (wk82 x0 x1) (by kernel_rfl)

theorem ok82:PureOk Go.Proofs.Try.prog 82 p82:=pureOk_of kf103_ok.base (T:=fun (d:Tys.data as82)=>t82 d.1 d.2.1) (by kernel_rfl) (fun (d:Tys.data as82)=>ok82_t d.1 d.2.1)
def kf82 (P:Go.Program):Known:=(kf103 P).func 82 p82
theorem kf82_ok:KnownOk Go.Proofs.Try.prog (kf82 Go.Proofs.Try.prog):=kf103_ok.func ok82

/-! ductility/ductilitylaw07.awake -/

abbrev as11:List Ty:=[]
abbrev rs11:List Ty:=[.bool]
def f11 (_:Tys.data as11):Option (Tys.data rs11):=some (true,())
def g11 (_:Tys.data as11):Tys.data rs11:=(true,())
def p11:PureC:=pcOf as11 rs11 f11 g11

theorem e11:runAsk (kf82 Go.Proofs.Try.prog).orc Go.Proofs.Try.prog 400 11 as11 rs11 () none = some ((true,()),[]):=by kernel_rfl
theorem ok11:PureOk Go.Proofs.Try.prog 11 p11:=pureOk_closed kf82_ok.base (by kernel_rfl) e11 All.nil
def kf11 (P:Go.Program):Known:=(kf82 P).func 11 p11
theorem kf11_ok:KnownOk Go.Proofs.Try.prog (kf11 Go.Proofs.Try.prog):=kf82_ok.func ok11

/-! loop 0 of ductility/ductilitylaw07.images -/

abbrev sh69_0:Sh:={ n:=19,slots:=[0,3],pats:=[.ty (.slice (.slice (.int .i64))),.ty (.int .i64)],boxes:=[] }
abbrev shb69_0:Sh:={ n:=19,slots:=[0],pats:=[.ty (.slice (.slice (.int .i64)))],boxes:=[] }
abbrev shr69_0:Sh:={ n:=19,slots:=[2],pats:=[.ty .bool],boxes:=[] }

def t69_0 (x0:(List (List Int))) (x1:Int):Tr (Out sh69_0.data shb69_0.data shr69_0.data) :=
  Tr.test ((!leF (↑(List.length x0):Int) x1:Bool))
    (Tr.test (decide ((0:Int) ≤ x1) && decide (x1 < (↑(List.length x0):Int)))
      (Tr.test ((!leF (↑(List.length (List.getD x0 (Int.toNat x1) [])):Int) (12:Int):Bool))
        (Tr.fin (.ret (((false:Bool),()),())))
        (Tr.fin (.again ((x0,((wrap64 (x1 + (1:Int)):Int),())),()))))
      (Tr.stop))
    (Tr.fin (.brk ((x0,()),())))

def s69_0 (d:sh69_0.data):Option (Out sh69_0.data shb69_0.data shr69_0.data):=(t69_0 d.1.1 d.1.2.1).val
def l69_0 (d:sh69_0.data):Option (shb69_0.data ⊕ shr69_0.data):=itr s69_0 rounds d
def b69_0 (d:sh69_0.data):shb69_0.data:=outB shb69_0.dflt (l69_0 d)
def r69_0 (d:sh69_0.data):shr69_0.data:=outR shr69_0.dflt (l69_0 d)
def lc69_0:LoopC:=lcOf sh69_0 shb69_0 shr69_0 l69_0 b69_0 r69_0

theorem wk69_0 (x0:(List (List Int))) (x1:Int):Walks (runBody (kf11 Go.Proofs.Try.prog).orc Go.Proofs.Try.prog 400 69 0 sh69_0 shb69_0 shr69_0 ((x0,x1,()),())) (t69_0 x0 x1) [([true,true,true],[2,4,6]),([true,true,false],[2,4,6]),([ff],[2])] :=
  ⟨by kernel_rfl,by kernel_rfl,by kernel_rfl,trivial⟩

theorem ok69_0_t (x0:(List (List Int))) (x1:Int):TrOk (BodyRuns Go.Proofs.Try.prog (kf11 Go.Proofs.Try.prog).orc 69 0 sh69_0 shb69_0 shr69_0 ((x0,x1,()),())) (t69_0 x0 x1) :=
  Walks.ok (fun _ _ _=>BodyRuns.of) (wk69_0 x0 x1) (by kernel_rfl)

theorem ok69_0:LoopOk Go.Proofs.Try.prog 69 0 lc69_0:=loopOk_of (sh:=sh69_0) (shB:=shb69_0) (shR:=shr69_0) kf11_ok.base (T:=fun (d:sh69_0.data)=>t69_0 d.1.1 d.1.2.1) (by kernel_rfl) rfl (fun (d:sh69_0.data)=>ok69_0_t d.1.1 d.1.2.1) (fun _=>rfl)
def kl69_0 (P:Go.Program):Known:=(kf11 P).loop 69 0 lc69_0
theorem kl69_0_ok:KnownOk Go.Proofs.Try.prog (kl69_0 Go.Proofs.Try.prog):=kf11_ok.loop ok69_0

end Go.Vm.Mo
