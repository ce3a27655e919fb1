import Derived.Test.YtaodpefmlgalfaaA4
import Derived.KernelRfl
import Derived.Test.YtaodpefmlgalfaaProg
import Derived.Test.YtaodpefmlgalfaaRsFb
set_option linter.unusedVariables false
set_option linter.unusedSimpArgs false

namespace Go.Vm.Mo
open Go
set_option linter.unusedVariables false

/-! loop 0 of ductility/ductilityref06.CheckFrame -/

abbrev sh13_0:Sh:={ n:=46,slots:=[1,4],pats:=[.ptr 0 2 0,.ty (.int .i64)],boxes:=[.row [.ty (.slice (.int .i64)),.ty (.slice (.int .i64))]] }
abbrev shb13_0:Sh:={ n:=46,slots:=[],pats:=[],boxes:=[.row [.ty (.slice (.int .i64)),.ty (.slice (.int .i64))]] }
abbrev shr13_0:Sh:={ n:=46,slots:=[2,3],pats:=[.ty (.int .i64),.ty (.int .i64)],boxes:=[.row [.ty (.slice (.int .i64)),.ty (.slice (.int .i64))]] }

def t13_0 (x1:Int) (b0_0:(List Int)) (b0_1:(List Int)):Tr (Out sh13_0.data shb13_0.data shr13_0.data) :=
  Tr.test ((!leF (↑(List.length b0_0):Int) x1:Bool))
    (Tr.test (decide ((0:Int) ≤ x1) && decide (x1 < (↑(List.length b0_0):Int)))
      (Tr.test (Option.isSome (f18 ((List.getD b0_0 (Int.toNat x1) (0:Int):Int),((1:Int),((10:Int),())))))
        (let r0:=g18 ((List.getD b0_0 (Int.toNat x1) (0:Int):Int),((1:Int),((10:Int),())));
        Tr.test ((!r0.1:Bool))
          (Tr.fin (.ret ((x1,((2:Int),())),((b0_0,(b0_1,())),()))))
          (Tr.test ((decide ((0:Int) ≤ x1) && decide (x1 < (↑(List.length b0_1):Int)):Bool))
            (Tr.test (Option.isSome (f18 ((List.getD b0_1 (Int.toNat x1) (0:Int):Int),((1:Int),((20:Int),())))))
              (let r1:=g18 ((List.getD b0_1 (Int.toNat x1) (0:Int):Int),((1:Int),((20:Int),())));
              Tr.test ((!r1.1:Bool))
                (Tr.fin (.ret ((x1,((2:Int),())),((b0_0,(b0_1,())),()))))
                (Tr.fin (.again (((wrap64 (x1 + (1:Int)):Int),()),((b0_0,(b0_1,())),())))))
              (Tr.stop))
            (Tr.stop)))
        (Tr.stop))
      (Tr.stop))
    (Tr.fin (.brk ((),((b0_0,(b0_1,())),()))))

def s13_0 (d:sh13_0.data):Option (Out sh13_0.data shb13_0.data shr13_0.data):=(t13_0 d.1.1 d.2.1.1 d.2.1.2.1).val
def l13_0 (d:sh13_0.data):Option (shb13_0.data ⊕ shr13_0.data):=itr s13_0 rounds d
def b13_0 (d:sh13_0.data):shb13_0.data:=outB shb13_0.dflt (l13_0 d)
def r13_0 (d:sh13_0.data):shr13_0.data:=outR shr13_0.dflt (l13_0 d)
def lc13_0:LoopC:=lcOf sh13_0 shb13_0 shr13_0 l13_0 b13_0 r13_0

theorem wk13_0 (x1:Int) (b0_0:(List Int)) (b0_1:(List Int)):Walks (runBody (kf18 Go.Proofs.Try.prog).orc Go.Proofs.Try.prog 400 13 0 sh13_0 shb13_0 shr13_0 ((x1,()),(b0_0,b0_1,()),())) (t13_0 x1 b0_0 b0_1) [([true,true,true,true],[1,2,2,2,2,2,2,2,2,4,6,8]),([true,true,true,false,true,true,true],[2,8,8,4,8,8,6,8,8,8,8,10,12,14]),([true,true,true,false,true,true,false],[2,8,8,4,8,8,6,8,8,8,8,10,12,14]),([ff],[2])] :=
  ⟨by kernel_rfl,by kernel_rfl,by kernel_rfl,by kernel_rfl,trivial⟩

theorem ok13_0_t (x1:Int) (b0_0:(List Int)) (b0_1:(List Int)):TrOk (BodyRuns Go.Proofs.Try.prog (kf18 Go.Proofs.Try.prog).orc 13 0 sh13_0 shb13_0 shr13_0 ((x1,()),(b0_0,b0_1,()),())) (t13_0 x1 b0_0 b0_1) :=
  Walks.ok (fun _ _ _=>BodyRuns.of) (wk13_0 x1 b0_0 b0_1) (by kernel_rfl)

theorem ok13_0:LoopOk Go.Proofs.Try.prog 13 0 lc13_0:=loopOk_of (sh:=sh13_0) (shB:=shb13_0) (shR:=shr13_0) kf18_ok.base (T:=fun (d:sh13_0.data)=>t13_0 d.1.1 d.2.1.1 d.2.1.2.1) (by kernel_rfl) rfl (fun (d:sh13_0.data)=>ok13_0_t d.1.1 d.2.1.1 d.2.1.2.1) (fun _=>rfl)
def kl13_0 (P:Go.Program):Known:=(kf18 P).loop 13 0 lc13_0
theorem kl13_0_ok:KnownOk Go.Proofs.Try.prog (kl13_0 Go.Proofs.Try.prog):=kf18_ok.loop ok13_0

/-! ductility/ductilityref06.CheckFrame -/

abbrev as13:List Ty:=[(.pair (.slice (.int .i64)) (.pair (.slice (.int .i64)) .unit))]
abbrev rs13:List Ty:=[(.int .i64),(.int .i64)]

def t13 (x0:(List Int)) (x0':(List Int)):Tr (Tys.data rs13) :=
  Tr.test ((eqF (↑(List.length x0):Int) (0:Int):Bool))
    (Tr.fin (((0:Int),((10:Int),()))))
    (Tr.test (!eqF (↑(List.length x0'):Int) (↑(List.length x0):Int))
      (Tr.fin (((0:Int),((10:Int),()))))
      (Tr.test ((!leF (↑(List.length x0):Int) (4:Int):Bool))
        (Tr.fin (((0:Int),((8:Int),()))))
        (Tr.test (Option.isSome (l13_0 (((0:Int),()),((x0,(x0',())),()))))
          (Tr.test (isRet (l13_0 (((0:Int),()),((x0,(x0',())),()))))
            (let r0:=r13_0 (((0:Int),()),((x0,(x0',())),()));
            Tr.fin ((r0.1.1,(r0.1.2.1,()))))
            (Tr.fin (((0:Int),((0:Int),())))))
          (Tr.stop))))

def f13 (d:Tys.data as13):Option (Tys.data rs13):=(t13 d.1.1 d.1.2.1).val
def g13 (d:Tys.data as13):Tys.data rs13:=(f13 d).getD (Tys.dflt rs13)
def p13:PureC:=pcOf as13 rs13 f13 g13

theorem wk13 (x0:(List Int)) (x0':(List Int)):Walks (runPure (kl13_0 Go.Proofs.Try.prog).orc Go.Proofs.Try.prog 400 13 as13 rs13 ((x0,x0',()),())) (t13 x0 x0') [([tt],[1,2,2,2,2,2,2,2,2]),([false,true],[2,4,4,4,4,4,4,4,4]),([false,false,true],[2,4,6,6,6,6,6,6,6,6]),([false,false,false,true,true],[2,4,6,8,10,10,10,10,10,10,10,10]),([false,false,false,true,false],[2,4,6,8,10,10,10,10,10,10,10,10])] :=
  ⟨by kernel_rfl,by kernel_rfl,by kernel_rfl,by kernel_rfl,by kernel_rfl,trivial⟩

theorem ok13_t (x0:(List Int)) (x0':(List Int)):TrOk (PureRuns Go.Proofs.Try.prog (kl13_0 Go.Proofs.Try.prog).orc 13 as13 rs13 ((x0,x0',()),())) (t13 x0 x0') :=
  Walks.ok (fun _ _ _=>PureRuns.of) (wk13 x0 x0') (by kernel_rfl)

theorem ok13:PureOk Go.Proofs.Try.prog 13 p13:=pureOk_of kl13_0_ok.base (T:=fun (d:Tys.data as13)=>t13 d.1.1 d.1.2.1) (by kernel_rfl) (fun (d:Tys.data as13)=>ok13_t d.1.1 d.1.2.1)
def kf13 (P:Go.Program):Known:=(kl13_0 P).func 13 p13
theorem kf13_ok:KnownOk Go.Proofs.Try.prog (kf13 Go.Proofs.Try.prog):=kl13_0_ok.func ok13

/-! ductility/ductilityref06.FrameErr -/

abbrev as17:List Ty:=[(.pair (.slice (.int .i64)) (.pair (.slice (.int .i64)) .unit))]
abbrev rs17:List Ty:=[(.int .i64)]

def t17 (x0:(List Int)) (x0':(List Int)):Tr (Tys.data rs17) :=
  Tr.test (Option.isSome (f13 ((x0,(x0',())),())))
    (let r0:=g13 ((x0,(x0',())),());
    Tr.fin ((r0.2.1,())))
    (Tr.stop)

def f17 (d:Tys.data as17):Option (Tys.data rs17):=(t17 d.1.1 d.1.2.1).val
def g17 (d:Tys.data as17):Tys.data rs17:=(f17 d).getD (Tys.dflt rs17)
def p17:PureC:=pcOf as17 rs17 f17 g17

theorem wk17 (x0:(List Int)) (x0':(List Int)):Walks (runPure (kf13 Go.Proofs.Try.prog).orc Go.Proofs.Try.prog 400 17 as17 rs17 ((x0,x0',()),())) (t17 x0 x0') [([tt],[2])] :=
  ⟨by kernel_rfl,trivial⟩

theorem ok17_t (x0:(List Int)) (x0':(List Int)):TrOk (PureRuns Go.Proofs.Try.prog (kf13 Go.Proofs.Try.prog).orc 17 as17 rs17 ((x0,x0',()),())) (t17 x0 x0') :=
  Walks.ok (fun _ _ _=>PureRuns.of) (wk17 x0 x0') (by kernel_rfl)

theorem ok17:PureOk Go.Proofs.Try.prog 17 p17:=pureOk_of kf13_ok.base (T:=fun (d:Tys.data as17)=>t17 d.1.1 d.1.2.1) (by kernel_rfl) (fun (d:Tys.data as17)=>ok17_t d.1.1 d.1.2.1)
def kf17 (P:Go.Program):Known:=(kf13 P).func 17 p17
theorem kf17_ok:KnownOk Go.Proofs.Try.prog (kf17 Go.Proofs.Try.prog):=kf13_ok.func ok17

/-! ductility/ductilitybase.Size -/

abbrev as86:List Ty:=[(.int .i64)]
abbrev rs86:List Ty:=[(.int .i64)]

def t86 (x0:Int):Tr (Tys.data rs86) :=
  Tr.fin (((if x0 < Go.IntKind.wrap Go.IntKind.i64 ((0:Int) - x0) then Go.IntKind.wrap Go.IntKind.i64 ((0:Int) - x0) else x0:Int),()))

def f86 (d:Tys.data as86):Option (Tys.data rs86):=(t86 d.1).val
def g86 (d:Tys.data as86):Tys.data rs86:=(f86 d).getD (Tys.dflt rs86)
def p86:PureC:=pcOf as86 rs86 f86 g86

theorem wk86 (x0:Int):Walks (runPure (kf17 Go.Proofs.Try.prog).orc Go.Proofs.Try.prog 400 86 as86 rs86 (x0,())) (t86 x0) [([],[])] :=
  ⟨by kernel_rfl,trivial⟩

theorem ok86_t (x0:Int):TrOk (PureRuns Go.Proofs.Try.prog (kf17 Go.Proofs.Try.prog).orc 86 as86 rs86 (x0,())) (t86 x0) :=
  Walks.ok (fun _ _ _=>PureRuns.of) (wk86 x0) (by kernel_rfl)

theorem ok86:PureOk Go.Proofs.Try.prog 86 p86:=pureOk_of kf17_ok.base (T:=fun (d:Tys.data as86)=>t86 d.1) (by kernel_rfl) (fun (d:Tys.data as86)=>ok86_t d.1)
def kf86 (P:Go.Program):Known:=(kf17 P).func 86 p86
theorem kf86_ok:KnownOk Go.Proofs.Try.prog (kf86 Go.Proofs.Try.prog):=kf17_ok.func ok86

/-! loop 0 of ductility/ductilitybase.Gcd -/

abbrev sh58_0:Sh:={ n:=13,slots:=[0,1],pats:=[.ty (.int .i64),.ty (.int .i64)],boxes:=[] }
abbrev shb58_0:Sh:={ n:=13,slots:=[0],pats:=[.ty (.int .i64)],boxes:=[] }
abbrev shr58_0:Sh:={ n:=13,slots:=[],pats:=[],boxes:=[] }

def t58_0 (x0:Int) (x1:Int):Tr (Out sh58_0.data shb58_0.data shr58_0.data) :=
  Tr.test ((!eqF x1 0:Bool))
    (Tr.test (x1 == (0:Int))
      (Tr.stop)
      (Tr.fin (.again ((x1,((Int.tmod x0 x1:Int),())),()))))
    (Tr.fin (.brk ((x0,()),())))

def s58_0 (d:sh58_0.data):Option (Out sh58_0.data shb58_0.data shr58_0.data):=(t58_0 d.1.1 d.1.2.1).val
def l58_0 (d:sh58_0.data):Option (shb58_0.data ⊕ shr58_0.data):=itr s58_0 rounds d
def b58_0 (d:sh58_0.data):shb58_0.data:=outB shb58_0.dflt (l58_0 d)
def lc58_0:LoopC:=lcB sh58_0 shb58_0 shr58_0 l58_0 b58_0

theorem wk58_0 (x0:Int) (x1:Int):Walks (runBody (kf86 Go.Proofs.Try.prog).orc Go.Proofs.Try.prog 400 58 0 sh58_0 shb58_0 shr58_0 ((x0,x1,()),())) (t58_0 x0 x1) [([true,false],[2,4]),([ff],[2])] :=
  ⟨by kernel_rfl,by kernel_rfl,trivial⟩

theorem ok58_0_t (x0:Int) (x1:Int):TrOk (BodyRuns Go.Proofs.Try.prog (kf86 Go.Proofs.Try.prog).orc 58 0 sh58_0 shb58_0 shr58_0 ((x0,x1,()),())) (t58_0 x0 x1) :=
  Walks.ok (fun _ _ _=>BodyRuns.of) (wk58_0 x0 x1) (by kernel_rfl)

theorem ok58_0:LoopOk Go.Proofs.Try.prog 58 0 lc58_0:=loopOk_ofB (sh:=sh58_0) (shB:=shb58_0) (shR:=shr58_0) kf86_ok.base (T:=fun (d:sh58_0.data)=>t58_0 d.1.1 d.1.2.1) (by kernel_rfl) rfl (fun (d:sh58_0.data)=>ok58_0_t d.1.1 d.1.2.1) (fun _=>rfl)
def kl58_0 (P:Go.Program):Known:=(kf86 P).loop 58 0 lc58_0
theorem kl58_0_ok:KnownOk Go.Proofs.Try.prog (kl58_0 Go.Proofs.Try.prog):=kf86_ok.loop ok58_0

/-! ductility/ductilitybase.Gcd -/

abbrev as58:List Ty:=[(.int .i64),(.int .i64)]
abbrev rs58:List Ty:=[(.int .i64)]

def t58 (x0:Int) (x1:Int):Tr (Tys.data rs58) :=
  Tr.test (isBrk (l58_0 ((x0,(x1,())),())))
    (let r0:=b58_0 ((x0,(x1,())),());
    Tr.test (Option.isSome (f86 (r0.1.1,())))
      (let r1:=g86 (r0.1.1,());
      Tr.fin ((r1.1,())))
      (Tr.stop))
    (Tr.stop)

def f58 (d:Tys.data as58):Option (Tys.data rs58):=(t58 d.1 d.2.1).val
def g58 (d:Tys.data as58):Tys.data rs58:=(f58 d).getD (Tys.dflt rs58)
def p58:PureC:=pcOf as58 rs58 f58 g58

theorem wk58 (x0:Int) (x1:Int):Walks (runPure (kl58_0 Go.Proofs.Try.prog).orc Go.Proofs.Try.prog 400 58 as58 rs58 (x0,x1,())) (t58 x0 x1) [([true,true],[2,1,4])] :=
  ⟨by kernel_rfl,trivial⟩

theorem ok58_t (x0:Int) (x1:Int):TrOk (PureRuns Go.Proofs.Try.prog (kl58_0 Go.Proofs.Try.prog).orc 58 as58 rs58 (x0,x1,())) (t58 x0 x1) :=
  Walks.ok (fun _ _ _=>PureRuns.of) (wk58 x0 x1) (by kernel_rfl)

theorem ok58:PureOk Go.Proofs.Try.prog 58 p58:=pureOk_of kl58_0_ok.base (T:=fun (d:Tys.data as58)=>t58 d.1 d.2.1) (by kernel_rfl) (fun (d:Tys.data as58)=>ok58_t d.1 d.2.1)
def kf58 (P:Go.Program):Known:=(kl58_0 P).func 58 p58
theorem kf58_ok:KnownOk Go.Proofs.Try.prog (kf58 Go.Proofs.Try.prog):=kl58_0_ok.func ok58

/-! ductility/ductilitybase.IsLowest -/

abbrev as24:List Ty:=[(.pair (.int .i64) (.pair (.int .i64) .unit))]
abbrev rs24:List Ty:=[.bool]

def t24 (x0:Int) (x0':Int):Tr (Tys.data rs24) :=
  Tr.test ((!leF x0' 0:Bool))
    (Tr.test (Option.isSome (f58 (x0,(x0',()))))
      (let r0:=g58 (x0,(x0',()));
      Tr.fin (((eqF r0.1 1:Bool),())))
      (Tr.stop))
    (Tr.fin ((false,())))

def f24 (d:Tys.data as24):Option (Tys.data rs24):=(t24 d.1.1 d.1.2.1).val
def g24 (d:Tys.data as24):Tys.data rs24:=(f24 d).getD (Tys.dflt rs24)
def p24:PureC:=pcOf as24 rs24 f24 g24

theorem wk24 (x0:Int) (x0':Int):Walks (runPure (kf58 Go.Proofs.Try.prog).orc Go.Proofs.Try.prog 400 24 as24 rs24 ((x0,x0',()),())) (t24 x0 x0') [([true,true],[4,4,2,4,4,4,4,4]),([ff],[2,2,2,2,2,2,2])] :=
  ⟨by kernel_rfl,by kernel_rfl,trivial⟩

theorem ok24_t (x0:Int) (x0':Int):TrOk (PureRuns Go.Proofs.Try.prog (kf58 Go.Proofs.Try.prog).orc 24 as24 rs24 ((x0,x0',()),())) (t24 x0 x0') :=
  Walks.ok (fun _ _ _=>PureRuns.of) (wk24 x0 x0') (by kernel_rfl)

theorem ok24:PureOk Go.Proofs.Try.prog 24 p24:=pureOk_of kf58_ok.base (T:=fun (d:Tys.data as24)=>t24 d.1.1 d.1.2.1) (by kernel_rfl) (fun (d:Tys.data as24)=>ok24_t d.1.1 d.1.2.1)
def kf24 (P:Go.Program):Known:=(kf58 P).func 24 p24
theorem kf24_ok:KnownOk Go.Proofs.Try.prog (kf24 Go.Proofs.Try.prog):=kf58_ok.func ok24

/-! ductility/ductilityref06.SquareErr -/

abbrev as21:List Ty:=[(.pair (.int .i64) (.pair (.int .i64) .unit))]
abbrev rs21:List Ty:=[(.int .i64)]

def t21 (x0:Int) (x0':Int):Tr (Tys.data rs21) :=
  Tr.test (Option.isSome (f24 ((x0,(x0',())),())))
    (let r0:=g24 ((x0,(x0',())),());
    Tr.test ((!r0.1:Bool))
      (Tr.fin (((3:Int),())))
      (Tr.test (Option.isSome (f18 (x0,((-100:Int),((100:Int),())))))
        (let r1:=g18 (x0,((-100:Int),((100:Int),())));
        Tr.test ((!r1.1:Bool))
          (Tr.fin (((2:Int),())))
          (Tr.test ((!leF x0' 100:Bool))
            (Tr.fin (((2:Int),())))
            (Tr.fin (((0:Int),())))))
        (Tr.stop)))
    (Tr.stop)

def f21 (d:Tys.data as21):Option (Tys.data rs21):=(t21 d.1.1 d.1.2.1).val
def g21 (d:Tys.data as21):Tys.data rs21:=(f21 d).getD (Tys.dflt rs21)
def p21:PureC:=pcOf as21 rs21 f21 g21

theorem wk21 (x0:Int) (x0':Int):Walks (runPure (kf24 Go.Proofs.Try.prog).orc Go.Proofs.Try.prog 400 21 as21 rs21 ((x0,x0',()),())) (t21 x0 x0') [([true,true],[2,4]),([true,false,true,true],[1,2,2,2,2,4,6,8]),([true,false,true,false,true],[2,4,4,4,4,6,8,10]),([true,false,true,false,false],[2,4,4,4,4,6,8,10])] :=
  ⟨by kernel_rfl,by kernel_rfl,by kernel_rfl,by kernel_rfl,trivial⟩

theorem ok21_t (x0:Int) (x0':Int):TrOk (PureRuns Go.Proofs.Try.prog (kf24 Go.Proofs.Try.prog).orc 21 as21 rs21 ((x0,x0',()),())) (t21 x0 x0') :=
  Walks.ok (fun _ _ _=>PureRuns.of) (wk21 x0 x0') (by kernel_rfl)

theorem ok21:PureOk Go.Proofs.Try.prog 21 p21:=pureOk_of kf24_ok.base (T:=fun (d:Tys.data as21)=>t21 d.1.1 d.1.2.1) (by kernel_rfl) (fun (d:Tys.data as21)=>ok21_t d.1.1 d.1.2.1)
def kf21 (P:Go.Program):Known:=(kf24 P).func 21 p21
theorem kf21_ok:KnownOk Go.Proofs.Try.prog (kf21 Go.Proofs.Try.prog):=kf24_ok.func ok21

/-! loop 0 of ductility/ductilityref06.LoadsErr -/

abbrev sh27_0:Sh:={ n:=24,slots:=[1,5],pats:=[.ty (.slice (.int .i64)),.ty (.int .i64)],boxes:=[] }
abbrev shb27_0:Sh:={ n:=24,slots:=[],pats:=[],boxes:=[] }
abbrev shr27_0:Sh:={ n:=24,slots:=[4],pats:=[.ty (.int .i64)],boxes:=[] }

def t27_0 (x0:(List Int)) (x1:Int):Tr (Out sh27_0.data shb27_0.data shr27_0.data) :=
  Tr.test ((!leF (↑(List.length x0):Int) x1:Bool))
    (Tr.test (decide ((0:Int) ≤ x1) && decide (x1 < (↑(List.length x0):Int)))
      (Tr.test (Option.isSome (f18 ((List.getD x0 (Int.toNat x1) (0:Int):Int),((-1000:Int),((1000:Int),())))))
        (let r0:=g18 ((List.getD x0 (Int.toNat x1) (0:Int):Int),((-1000:Int),((1000:Int),())));
        Tr.test ((!r0.1:Bool))
          (Tr.fin (.ret (((2:Int),()),())))
          (Tr.fin (.again ((x0,((wrap64 (x1 + (1:Int)):Int),())),()))))
        (Tr.stop))
      (Tr.stop))
    (Tr.fin (.brk ((),())))

def s27_0 (d:sh27_0.data):Option (Out sh27_0.data shb27_0.data shr27_0.data):=(t27_0 d.1.1 d.1.2.1).val
def l27_0 (d:sh27_0.data):Option (shb27_0.data ⊕ shr27_0.data):=itr s27_0 rounds d
def b27_0 (d:sh27_0.data):shb27_0.data:=outB shb27_0.dflt (l27_0 d)
def r27_0 (d:sh27_0.data):shr27_0.data:=outR shr27_0.dflt (l27_0 d)
def lc27_0:LoopC:=lcOf sh27_0 shb27_0 shr27_0 l27_0 b27_0 r27_0

theorem wk27_0 (x0:(List Int)) (x1:Int):Walks (runBody (kf21 Go.Proofs.Try.prog).orc Go.Proofs.Try.prog 400 27 0 sh27_0 shb27_0 shr27_0 ((x0,x1,()),())) (t27_0 x0 x1) [([true,true,true,true],[2,4,6,8]),([true,true,true,false],[2,4,6,8]),([ff],[2])] :=
  ⟨by kernel_rfl,by kernel_rfl,by kernel_rfl,trivial⟩

theorem ok27_0_t (x0:(List Int)) (x1:Int):TrOk (BodyRuns Go.Proofs.Try.prog (kf21 Go.Proofs.Try.prog).orc 27 0 sh27_0 shb27_0 shr27_0 ((x0,x1,()),())) (t27_0 x0 x1) :=
  Walks.ok (fun _ _ _=>BodyRuns.of) (wk27_0 x0 x1) (by kernel_rfl)

theorem ok27_0:LoopOk Go.Proofs.Try.prog 27 0 lc27_0:=loopOk_of (sh:=sh27_0) (shB:=shb27_0) (shR:=shr27_0) kf21_ok.base (T:=fun (d:sh27_0.data)=>t27_0 d.1.1 d.1.2.1) (by kernel_rfl) rfl (fun (d:sh27_0.data)=>ok27_0_t d.1.1 d.1.2.1) (fun _=>rfl)
def kl27_0 (P:Go.Program):Known:=(kf21 P).loop 27 0 lc27_0
theorem kl27_0_ok:KnownOk Go.Proofs.Try.prog (kl27_0 Go.Proofs.Try.prog):=kf21_ok.loop ok27_0

/-! ductility/ductilityref06.LoadsErr -/

abbrev as27:List Ty:=[(.pair (.slice (.int .i64)) (.pair (.slice (.int .i64)) .unit)),(.slice (.int .i64))]
abbrev rs27:List Ty:=[(.int .i64)]

def t27 (x0:(List Int)) (x0':(List Int)) (x1:(List Int)):Tr (Tys.data rs27) :=
  Tr.test ((!eqF (↑(List.length x1):Int) (↑(List.length x0):Int):Bool))
    (Tr.fin (((10:Int),())))
    (Tr.test (Option.isSome (l27_0 ((x1,((0:Int),())),())))
      (Tr.test (isRet (l27_0 ((x1,((0:Int),())),())))
        (let r0:=r27_0 ((x1,((0:Int),())),());
        Tr.fin ((r0.1.1,())))
        (Tr.fin (((0:Int),()))))
      (Tr.stop))

def f27 (d:Tys.data as27):Option (Tys.data rs27):=(t27 d.1.1 d.1.2.1 d.2.1).val
def g27 (d:Tys.data as27):Tys.data rs27:=(f27 d).getD (Tys.dflt rs27)
def p27:PureC:=pcOf as27 rs27 f27 g27

theorem wk27 (x0:(List Int)) (x0':(List Int)) (x1:(List Int)):Walks (runPure (kl27_0 Go.Proofs.Try.prog).orc Go.Proofs.Try.prog 400 27 as27 rs27 ((x0,x0',()),x1,())) (t27 x0 x0' x1) [([tt],[2]),([false,true,true],[2,4,6]),([false,true,false],[2,4,6])] :=
  ⟨by kernel_rfl,by kernel_rfl,by kernel_rfl,trivial⟩

theorem ok27_t (x0:(List Int)) (x0':(List Int)) (x1:(List Int)):TrOk (PureRuns Go.Proofs.Try.prog (kl27_0 Go.Proofs.Try.prog).orc 27 as27 rs27 ((x0,x0',()),x1,())) (t27 x0 x0' x1) :=
  Walks.ok (fun _ _ _=>PureRuns.of) (wk27 x0 x0' x1) (by kernel_rfl)

theorem ok27:PureOk Go.Proofs.Try.prog 27 p27:=pureOk_of kl27_0_ok.base (T:=fun (d:Tys.data as27)=>t27 d.1.1 d.1.2.1 d.2.1) (by kernel_rfl) (fun (d:Tys.data as27)=>ok27_t d.1.1 d.1.2.1 d.2.1)
def kf27 (P:Go.Program):Known:=(kl27_0 P).func 27 p27
theorem kf27_ok:KnownOk Go.Proofs.Try.prog (kf27 Go.Proofs.Try.prog):=kl27_0_ok.func ok27

/-! ductility/ductilitybase.CopyInts -/

abbrev as30:List Ty:=[(.slice (.int .i64))]
abbrev rs30:List Ty:=[(.slice (.int .i64))]

def t30 (x0:(List Int)):Tr (Tys.data rs30) :=
  Tr.test ((Nat.beq (List.length x0) (0:Nat):Bool))
    (Tr.fin ((([]:List Int),())))
    (Tr.test (Nat.ble ((0:Nat) + List.length x0) (0:Nat))
      (Tr.stop)
      (Tr.test ((Nat.ble (((2:Nat) * ((0:Nat) + List.length x0) + (192:Nat)) * (8:Nat)) (281474976710656:Nat) && Nat.ble ((0:Nat) + List.length x0) (281474976710656:Nat):Bool))
        (Tr.test ((Nat.beq ((0:Nat) + List.length x0) (List.length ([]++x0)):Bool))
          (Tr.fin ((([]++x0:List Int),())))
          (Tr.stop))
        (Tr.stop)))

def f30 (d:Tys.data as30):Option (Tys.data rs30):=(t30 d.1).val
def g30 (d:Tys.data as30):Tys.data rs30:=(f30 d).getD (Tys.dflt rs30)
def p30:PureC:=pcOf as30 rs30 f30 g30

theorem wk30 (x0:(List Int)):Walks (runPure (kf27 Go.Proofs.Try.prog).orc Go.Proofs.Try.prog 400 30 as30 rs30 (x0,())) (t30 x0) [([tt],[2]),([false,false,true,true],[2,4,6,8])] :=
  ⟨by kernel_rfl,by kernel_rfl,trivial⟩

theorem ok30_t (x0:(List Int)):TrOk (PureRuns Go.Proofs.Try.prog (kf27 Go.Proofs.Try.prog).orc 30 as30 rs30 (x0,())) (t30 x0) :=
  Walks.ok (fun _ _ _=>PureRuns.of) (wk30 x0) (by kernel_rfl)

theorem ok30:PureOk Go.Proofs.Try.prog 30 p30:=pureOk_of kf27_ok.base (T:=fun (d:Tys.data as30)=>t30 d.1) (by kernel_rfl) (fun (d:Tys.data as30)=>ok30_t d.1)
def kf30 (P:Go.Program):Known:=(kf27 P).func 30 p30
theorem kf30_ok:KnownOk Go.Proofs.Try.prog (kf30 Go.Proofs.Try.prog):=kf27_ok.func ok30

/-! ductility/ductilityref06.Copy -/

abbrev as10:List Ty:=[(.pair (.slice (.int .i64)) (.pair (.slice (.int .i64)) .unit))]
abbrev rs10:List Ty:=[(.pair (.slice (.int .i64)) (.pair (.slice (.int .i64)) .unit))]

def t10 (x0:(List Int)) (x0':(List Int)):Tr (Tys.data rs10) :=
  Tr.test (Option.isSome (f30 (x0,())))
    (Tr.test (Option.isSome (f30 (x0',())))
      (let r0:=g30 (x0,());
      let r1:=g30 (x0',());
      Tr.fin (((r0.1,(r1.1,())),())))
      (Tr.stop))
    (Tr.stop)

def f10 (d:Tys.data as10):Option (Tys.data rs10):=(t10 d.1.1 d.1.2.1).val
def g10 (d:Tys.data as10):Tys.data rs10:=(f10 d).getD (Tys.dflt rs10)
def p10:PureC:=pcOf as10 rs10 f10 g10

theorem wk10 (x0:(List Int)) (x0':(List Int)):Walks (runPure (kf30 Go.Proofs.Try.prog).orc Go.Proofs.Try.prog 400 10 as10 rs10 ((x0,x0',()),())) (t10 x0 x0') [([true,true],[2,4])] :=
  ⟨by kernel_rfl,trivial⟩

theorem ok10_t (x0:(List Int)) (x0':(List Int)):TrOk (PureRuns Go.Proofs.Try.prog (kf30 Go.Proofs.Try.prog).orc 10 as10 rs10 ((x0,x0',()),())) (t10 x0 x0') :=
  Walks.ok (fun _ _ _=>PureRuns.of) (wk10 x0 x0') (by kernel_rfl)

theorem ok10:PureOk Go.Proofs.Try.prog 10 p10:=pureOk_of kf30_ok.base (T:=fun (d:Tys.data as10)=>t10 d.1.1 d.1.2.1) (by kernel_rfl) (fun (d:Tys.data as10)=>ok10_t d.1.1 d.1.2.1)
def kf10 (P:Go.Program):Known:=(kf30 P).func 10 p10
theorem kf10_ok:KnownOk Go.Proofs.Try.prog (kf10 Go.Proofs.Try.prog):=kf30_ok.func ok10

/-! ductility/modal.isLowest -/

abbrev as87:List Ty:=[(.pair (.int .i64) (.pair (.int .i64) .unit))]
abbrev rs87:List Ty:=[.bool]

def t87 (x0:Int) (x0':Int):Tr (Tys.data rs87) :=
  Tr.test ((!leF x0' 0:Bool))
    (Tr.test (Option.isSome (f80 (x0',(([x0]:List Int),()))))
      (let r0:=g80 (x0',(([x0]:List Int),()));
      Tr.fin (((eqF r0.1 1:Bool),())))
      (Tr.stop))
    (Tr.fin ((false,())))

def f87 (d:Tys.data as87):Option (Tys.data rs87):=(t87 d.1.1 d.1.2.1).val
def g87 (d:Tys.data as87):Tys.data rs87:=(f87 d).getD (Tys.dflt rs87)
def p87:PureC:=pcOf as87 rs87 f87 g87

theorem wk87 (x0:Int) (x0':Int):Walks (runPure (kf10 Go.Proofs.Try.prog).orc Go.Proofs.Try.prog 400 87 as87 rs87 ((x0,x0',()),())) (t87 x0 x0') [([true,true],[4,4,2,1,4,4,4,4,4,4]),([ff],[2,2,2,2,2,2,2,2])] :=
  ⟨by kernel_rfl,by kernel_rfl,trivial⟩

theorem ok87_t (x0:Int) (x0':Int):TrOk (PureRuns Go.Proofs.Try.prog (kf10 Go.Proofs.Try.prog).orc 87 as87 rs87 ((x0,x0',()),())) (t87 x0 x0') :=
  Walks.ok (fun _ _ _=>PureRuns.of) (wk87 x0 x0') (by kernel_rfl)

theorem ok87:PureOk Go.Proofs.Try.prog 87 p87:=pureOk_of kf10_ok.base (T:=fun (d:Tys.data as87)=>t87 d.1.1 d.1.2.1) (by kernel_rfl) (fun (d:Tys.data as87)=>ok87_t d.1.1 d.1.2.1)
def kf87 (P:Go.Program):Known:=(kf10 P).func 87 p87
theorem kf87_ok:KnownOk Go.Proofs.Try.prog (kf87 Go.Proofs.Try.prog):=kf10_ok.func ok87

/-! ductility/modal.squareError -/

abbrev as59:List Ty:=[(.pair (.int .i64) (.pair (.int .i64) .unit))]
abbrev rs59:List Ty:=[(.int .i64)]

def t59 (x0:Int) (x0':Int):Tr (Tys.data rs59) :=
  Tr.test (Option.isSome (f87 ((x0,(x0',())),())))
    (let r0:=g87 ((x0,(x0',())),());
    Tr.test (Option.isSome (f45 ((!r0.1:Bool),((3:Int),()))))
      (Tr.test (Option.isSome (f88 ((100:Int),(([x0,x0']:List Int),()))))
        (let r1:=g45 ((!r0.1:Bool),((3:Int),()));
        let r2:=g88 ((100:Int),(([x0,x0']:List Int),()));
        Tr.test (Option.isSome (f44 (([r1.1,r2.1]:List Int),())))
          (let r3:=g44 (([r1.1,r2.1]:List Int),());
          Tr.fin ((r3.1,())))
          (Tr.stop))
        (Tr.stop))
      (Tr.stop))
    (Tr.stop)

def f59 (d:Tys.data as59):Option (Tys.data rs59):=(t59 d.1.1 d.1.2.1).val
def g59 (d:Tys.data as59):Tys.data rs59:=(f59 d).getD (Tys.dflt rs59)
def p59:PureC:=pcOf as59 rs59 f59 g59

theorem wk59 (x0:Int) (x0':Int):Walks (runPure (kf87 Go.Proofs.Try.prog).orc Go.Proofs.Try.prog 400 59 as59 rs59 ((x0,x0',()),())) (t59 x0 x0') [([true,true,true,true],[2,1,4,1,6,8])] :=
  ⟨by kernel_rfl,trivial⟩

theorem ok59_t (x0:Int) (x0':Int):TrOk (PureRuns Go.Proofs.Try.prog (kf87 Go.Proofs.Try.prog).orc 59 as59 rs59 ((x0,x0',()),())) (t59 x0 x0') :=
  Walks.ok (fun _ _ _=>PureRuns.of) (wk59 x0 x0') (by kernel_rfl)

theorem ok59:PureOk Go.Proofs.Try.prog 59 p59:=pureOk_of kf87_ok.base (T:=fun (d:Tys.data as59)=>t59 d.1.1 d.1.2.1) (by kernel_rfl) (fun (d:Tys.data as59)=>ok59_t d.1.1 d.1.2.1)
def kf59 (P:Go.Program):Known:=(kf87 P).func 59 p59
theorem kf59_ok:KnownOk Go.Proofs.Try.prog (kf59 Go.Proofs.Try.prog):=kf87_ok.func ok59

/-! loop 0 of ductility/modal.shape -/

abbrev sh64_0:Sh:={ n:=32,slots:=[4,5,6,16,17,18],pats:=[.ptr 0 2 0,.ty (.int .i64),.ptr 1 2 0,.ty (.slice (.int .i64)),.ty (.int .i64),.ty (.int .i64)],boxes:=[.row [.ty (.int .i64),.nil],.row [.ty (.int .i64),.acc (.int .i64)]] }
abbrev shb64_0:Sh:={ n:=32,slots:=[4,6],pats:=[.ptr 0 2 0,.ptr 1 2 0],boxes:=[.row [.ty (.int .i64),.nil],.row [.ty (.int .i64),.acc (.int .i64)]] }
abbrev shr64_0:Sh:={ n:=32,slots:=[],pats:=[],boxes:=[.row [.ty (.int .i64),.nil],.row [.ty (.int .i64),.acc (.int .i64)]] }

def t64_0 (x1:Int) (x3:(List Int)) (x4:Int) (x5:Int) (b0_0:Int) (b1_0:Int) (b1_1:(List Int)):Tr (Out sh64_0.data shb64_0.data shr64_0.data) :=
  Tr.test ((!leF x4 x5:Bool))
    (Tr.test (decide ((0:Int) ≤ x5) && decide (x5 < (↑(List.length x3):Int)))
      (Tr.test ((x1 == (0:Int):Bool))
        (Tr.stop)
        (Tr.test ((Nat.ble (((2:Nat) * (List.length b1_1 + (1:Nat)) + (192:Nat)) * (8:Nat)) (281474976710656:Nat) && Nat.ble (List.length b1_1 + (1:Nat)) (281474976710656:Nat):Bool))
          (Tr.fin (.again ((x1,(x3,(x4,((wrap64 (x5 + (1:Int)):Int),())))),((b0_0,()),((b1_0,((b1_1++[Go.IntKind.wrap Go.IntKind.i64 (Int.tdiv (List.getD x3 (Int.toNat x5) (0:Int)) x1)]:List Int),())),())))))
          (Tr.stop)))
      (Tr.stop))
    (Tr.fin (.brk ((),((b0_0,()),((b1_0,(b1_1,())),())))))

def s64_0 (d:sh64_0.data):Option (Out sh64_0.data shb64_0.data shr64_0.data):=(t64_0 d.1.1 d.1.2.1 d.1.2.2.1 d.1.2.2.2.1 d.2.1.1 d.2.2.1.1 d.2.2.1.2.1).val
def l64_0 (d:sh64_0.data):Option (shb64_0.data ⊕ shr64_0.data):=itr s64_0 rounds d
def b64_0 (d:sh64_0.data):shb64_0.data:=outB shb64_0.dflt (l64_0 d)
def lc64_0:LoopC:=lcB sh64_0 shb64_0 shr64_0 l64_0 b64_0

theorem wk64_0 (x1:Int) (x3:(List Int)) (x4:Int) (x5:Int) (b0_0:Int) (b1_0:Int) (b1_1:(List Int)):Walks (runBody (kf59 Go.Proofs.Try.prog).orc Go.Proofs.Try.prog 400 64 0 sh64_0 shb64_0 shr64_0 ((x1,x3,x4,x5,()),(b0_0,()),(b1_0,b1_1,()),())) (t64_0 x1 x3 x4 x5 b0_0 b1_0 b1_1) [([true,true,false,true],[1,2,0,4,6,8]),([ff],[2])] :=
  ⟨by kernel_rfl,by kernel_rfl,trivial⟩

theorem ok64_0_t (x1:Int) (x3:(List Int)) (x4:Int) (x5:Int) (b0_0:Int) (b1_0:Int) (b1_1:(List Int)):TrOk (BodyRuns Go.Proofs.Try.prog (kf59 Go.Proofs.Try.prog).orc 64 0 sh64_0 shb64_0 shr64_0 ((x1,x3,x4,x5,()),(b0_0,()),(b1_0,b1_1,()),())) (t64_0 x1 x3 x4 x5 b0_0 b1_0 b1_1) :=
  Walks.ok (fun _ _ _=>BodyRuns.of) (wk64_0 x1 x3 x4 x5 b0_0 b1_0 b1_1) (by kernel_rfl)

theorem ok64_0:LoopOk Go.Proofs.Try.prog 64 0 lc64_0:=loopOk_ofB (sh:=sh64_0) (shB:=shb64_0) (shR:=shr64_0) kf59_ok.base (T:=fun (d:sh64_0.data)=>t64_0 d.1.1 d.1.2.1 d.1.2.2.1 d.1.2.2.2.1 d.2.1.1 d.2.2.1.1 d.2.2.1.2.1) (by kernel_rfl) rfl (fun (d:sh64_0.data)=>ok64_0_t d.1.1 d.1.2.1 d.1.2.2.1 d.1.2.2.2.1 d.2.1.1 d.2.2.1.1 d.2.2.1.2.1) (fun _=>rfl)
def kl64_0 (P:Go.Program):Known:=(kf59 P).loop 64 0 lc64_0
theorem kl64_0_ok:KnownOk Go.Proofs.Try.prog (kl64_0 Go.Proofs.Try.prog):=kf59_ok.loop ok64_0

/-! ductility/modal.shape -/

abbrev as64:List Ty:=[(.int .i64),(.slice (.int .i64))]
abbrev rs64:List Ty:=[(.pair (.int .i64) (.pair (.slice (.int .i64)) .unit))]

def t64 (x0:Int) (x1:(List Int)):Tr (Tys.data rs64) :=
  Tr.test (Option.isSome (f80 (x0,(x1,()))))
    (let r0:=g80 (x0,(x1,()));
    Tr.test ((r0.1 == (0:Int):Bool))
      (Tr.stop)
      (Tr.test (isBrk (l64_0 ((r0.1,(x1,((↑(List.length x1):Int),((0:Int),())))),(((0:Int),()),(((Go.IntKind.wrap Go.IntKind.i64 (Int.tdiv x0 r0.1):Int),(([]:List Int),())),())))))
        (let r1:=b64_0 ((r0.1,(x1,((↑(List.length x1):Int),((0:Int),())))),(((0:Int),()),(((Go.IntKind.wrap Go.IntKind.i64 (Int.tdiv x0 r0.1):Int),(([]:List Int),())),())));
        Tr.fin (((r1.2.2.1.1,(r1.2.2.1.2.1,())),())))
        (Tr.stop)))
    (Tr.stop)

def f64 (d:Tys.data as64):Option (Tys.data rs64):=(t64 d.1 d.2.1).val
def g64 (d:Tys.data as64):Tys.data rs64:=(f64 d).getD (Tys.dflt rs64)
def p64:PureC:=pcOf as64 rs64 f64 g64

theorem wk64 (x0:Int) (x1:(List Int)):Walks (runPure (kl64_0 Go.Proofs.Try.prog).orc Go.Proofs.Try.prog 400 64 as64 rs64 (x0,x1,())) (t64 x0 x1) [([true,false,true],[1,2,4,6])] :=
  ⟨by kernel_rfl,trivial⟩

theorem ok64_t (x0:Int) (x1:(List Int)):TrOk (PureRuns Go.Proofs.Try.prog (kl64_0 Go.Proofs.Try.prog).orc 64 as64 rs64 (x0,x1,())) (t64 x0 x1) :=
  Walks.ok (fun _ _ _=>PureRuns.of) (wk64 x0 x1) (by kernel_rfl)

theorem ok64:PureOk Go.Proofs.Try.prog 64 p64:=pureOk_of kl64_0_ok.base (T:=fun (d:Tys.data as64)=>t64 d.1 d.2.1) (by kernel_rfl) (fun (d:Tys.data as64)=>ok64_t d.1 d.2.1)
def kf64 (P:Go.Program):Known:=(kl64_0 P).func 64 p64
theorem kf64_ok:KnownOk Go.Proofs.Try.prog (kf64 Go.Proofs.Try.prog):=kl64_0_ok.func ok64

/-! ductility/modal.ShapeAt -/

abbrev as28:List Ty:=[(.pair (.slice (.int .i64)) (.pair (.slice (.int .i64)) .unit)),(.pair (.int .i64) (.pair (.int .i64) .unit))]
abbrev rs28:List Ty:=[(.pair (.int .i64) (.pair (.slice (.int .i64)) .unit)),(.int .i64),(.int .i64)]

def t28 (x0:(List Int)) (x0':(List Int)) (x1:Int) (x1':Int):Tr (Tys.data rs28) :=
  Tr.test (Option.isSome (f59 ((x1,(x1',())),())))
    (Tr.test (Option.isSome (f9 ((x0,(x0',())),())))
      (let r0:=g59 ((x1,(x1',())),());
      Tr.test (Option.isSome (f44 (([r0.1]:List Int),())))
        (let r1:=g9 ((x0,(x0',())),());
        let r2:=g44 (([r0.1]:List Int),());
        Tr.test (Option.isSome (f44 (([r1.2.1,r2.1]:List Int),())))
          (let r3:=g44 (([r1.2.1,r2.1]:List Int),());
          Tr.test ((!eqF r3.1 0:Bool))
            (Tr.fin ((((0:Int),(([]:List Int),())),((0:Int),(r3.1,())))))
            (Tr.test (Option.isSome (f63 (((x0,(x0',())),()),((x1,(x1',())),()))))
              (let r4:=g63 (((x0,(x0',())),()),((x1,(x1',())),()));
              Tr.test ((true && decide ((0:Int) < (↑(List.length r4.1):Int)):Bool))
                (Tr.test ((!leF (↑(List.length x0'):Int) (0:Int):Bool))
                  (Tr.test ((true && decide ((0:Int) < (↑(List.length x0'):Int)):Bool))
                    (Tr.test ((!leF (↑(List.length x0'):Int) (1:Int):Bool))
                      (Tr.test ((true && decide ((1:Int) < (↑(List.length x0'):Int)):Bool))
                        (Tr.test ((true && decide ((1:Int) < (↑(List.length r4.1):Int)):Bool))
                          (Tr.test ((!leF (↑(List.length x0'):Int) (2:Int):Bool))
                            (Tr.test ((true && decide ((2:Int) < (↑(List.length x0'):Int)):Bool))
                              (Tr.test ((true && decide ((2:Int) < (↑(List.length r4.1):Int)):Bool))
                                (Tr.test ((!leF (↑(List.length x0'):Int) (3:Int):Bool))
                                  (Tr.test ((true && decide ((3:Int) < (↑(List.length x0'):Int)):Bool))
                                    (Tr.test ((true && decide ((3:Int) < (↑(List.length r4.1):Int)):Bool))
                                      (Tr.test ((!leF (↑(List.length x0'):Int) (4:Int):Bool))
                                        (Tr.test ((true && decide ((4:Int) < (↑(List.length x0'):Int)):Bool))
                                          (Tr.test ((true && decide ((4:Int) < (↑(List.length r4.1):Int)):Bool))
                                            (Tr.test ((!leF (↑(List.length x0'):Int) (5:Int):Bool))
                                              (Tr.test ((true && decide ((5:Int) < (↑(List.length x0'):Int)):Bool))
                                                (Tr.test ((true && decide ((5:Int) < (↑(List.length r4.1):Int)):Bool))
                                                  (Tr.stop /- too many rounds -/)
                                                  (Tr.stop))
                                                (Tr.stop))
                                              (Tr.test (Option.isSome (f64 ((wrap64 (wrap64 (wrap64 (wrap64 (List.getD r4.1 (0:Nat) (0:Int) * List.getD x0' (1:Nat) (0:Int)) * List.getD x0' (2:Nat) (0:Int)) * List.getD x0' (3:Nat) (0:Int)) * List.getD x0' (4:Nat) (0:Int)):Int),(([wrap64 (wrap64 (wrap64 (wrap64 (List.getD r4.1 (0:Nat) (0:Int) * List.getD x0' (1:Nat) (0:Int)) * List.getD x0' (2:Nat) (0:Int)) * List.getD x0' (3:Nat) (0:Int)) * List.getD x0' (4:Nat) (0:Int)),wrap64 (wrap64 (wrap64 (List.getD r4.1 (1:Nat) (0:Int) * List.getD x0' (2:Nat) (0:Int)) * List.getD x0' (3:Nat) (0:Int)) * List.getD x0' (4:Nat) (0:Int)),wrap64 (wrap64 (List.getD r4.1 (2:Nat) (0:Int) * List.getD x0' (3:Nat) (0:Int)) * List.getD x0' (4:Nat) (0:Int)),wrap64 (List.getD r4.1 (3:Nat) (0:Int) * List.getD x0' (4:Nat) (0:Int)),List.getD r4.1 (4:Nat) (0:Int)]:List Int),()))))
                                                (Tr.test ((true && decide ((5:Int) < (↑(List.length r4.1):Int)):Bool))
                                                  (Tr.test (Option.isSome (f65 ((List.getD r4.1 (5:Nat) (0:Int):Int),())))
                                                    (let r15:=g64 ((wrap64 (wrap64 (wrap64 (wrap64 (List.getD r4.1 (0:Nat) (0:Int) * List.getD x0' (1:Nat) (0:Int)) * List.getD x0' (2:Nat) (0:Int)) * List.getD x0' (3:Nat) (0:Int)) * List.getD x0' (4:Nat) (0:Int)):Int),(([wrap64 (wrap64 (wrap64 (wrap64 (List.getD r4.1 (0:Nat) (0:Int) * List.getD x0' (1:Nat) (0:Int)) * List.getD x0' (2:Nat) (0:Int)) * List.getD x0' (3:Nat) (0:Int)) * List.getD x0' (4:Nat) (0:Int)),wrap64 (wrap64 (wrap64 (List.getD r4.1 (1:Nat) (0:Int) * List.getD x0' (2:Nat) (0:Int)) * List.getD x0' (3:Nat) (0:Int)) * List.getD x0' (4:Nat) (0:Int)),wrap64 (wrap64 (List.getD r4.1 (2:Nat) (0:Int) * List.getD x0' (3:Nat) (0:Int)) * List.getD x0' (4:Nat) (0:Int)),wrap64 (List.getD r4.1 (3:Nat) (0:Int) * List.getD x0' (4:Nat) (0:Int)),List.getD r4.1 (4:Nat) (0:Int)]:List Int),()));
                                                    let r16:=g65 ((List.getD r4.1 (5:Nat) (0:Int):Int),());
                                                    Tr.fin (((r15.1.1,(r15.1.2.1,())),(r16.1,((0:Int),())))))
                                                    (Tr.stop))
                                                  (Tr.stop))
                                                (Tr.stop)))
                                            (Tr.stop))
                                          (Tr.stop))
                                        (Tr.test (Option.isSome (f64 ((wrap64 (wrap64 (wrap64 (List.getD r4.1 (0:Nat) (0:Int) * List.getD x0' (1:Nat) (0:Int)) * List.getD x0' (2:Nat) (0:Int)) * List.getD x0' (3:Nat) (0:Int)):Int),(([wrap64 (wrap64 (wrap64 (List.getD r4.1 (0:Nat) (0:Int) * List.getD x0' (1:Nat) (0:Int)) * List.getD x0' (2:Nat) (0:Int)) * List.getD x0' (3:Nat) (0:Int)),wrap64 (wrap64 (List.getD r4.1 (1:Nat) (0:Int) * List.getD x0' (2:Nat) (0:Int)) * List.getD x0' (3:Nat) (0:Int)),wrap64 (List.getD r4.1 (2:Nat) (0:Int) * List.getD x0' (3:Nat) (0:Int)),List.getD r4.1 (3:Nat) (0:Int)]:List Int),()))))
                                          (Tr.test ((true && decide ((4:Int) < (↑(List.length r4.1):Int)):Bool))
                                            (Tr.test (Option.isSome (f65 ((List.getD r4.1 (4:Nat) (0:Int):Int),())))
                                              (let r13:=g64 ((wrap64 (wrap64 (wrap64 (List.getD r4.1 (0:Nat) (0:Int) * List.getD x0' (1:Nat) (0:Int)) * List.getD x0' (2:Nat) (0:Int)) * List.getD x0' (3:Nat) (0:Int)):Int),(([wrap64 (wrap64 (wrap64 (List.getD r4.1 (0:Nat) (0:Int) * List.getD x0' (1:Nat) (0:Int)) * List.getD x0' (2:Nat) (0:Int)) * List.getD x0' (3:Nat) (0:Int)),wrap64 (wrap64 (List.getD r4.1 (1:Nat) (0:Int) * List.getD x0' (2:Nat) (0:Int)) * List.getD x0' (3:Nat) (0:Int)),wrap64 (List.getD r4.1 (2:Nat) (0:Int) * List.getD x0' (3:Nat) (0:Int)),List.getD r4.1 (3:Nat) (0:Int)]:List Int),()));
                                              let r14:=g65 ((List.getD r4.1 (4:Nat) (0:Int):Int),());
                                              Tr.fin (((r13.1.1,(r13.1.2.1,())),(r14.1,((0:Int),())))))
                                              (Tr.stop))
                                            (Tr.stop))
                                          (Tr.stop)))
                                      (Tr.stop))
                                    (Tr.stop))
                                  (Tr.test (Option.isSome (f64 ((wrap64 (wrap64 (List.getD r4.1 (0:Nat) (0:Int) * List.getD x0' (1:Nat) (0:Int)) * List.getD x0' (2:Nat) (0:Int)):Int),(([wrap64 (wrap64 (List.getD r4.1 (0:Nat) (0:Int) * List.getD x0' (1:Nat) (0:Int)) * List.getD x0' (2:Nat) (0:Int)),wrap64 (List.getD r4.1 (1:Nat) (0:Int) * List.getD x0' (2:Nat) (0:Int)),List.getD r4.1 (2:Nat) (0:Int)]:List Int),()))))
                                    (Tr.test ((true && decide ((3:Int) < (↑(List.length r4.1):Int)):Bool))
                                      (Tr.test (Option.isSome (f65 ((List.getD r4.1 (3:Nat) (0:Int):Int),())))
                                        (let r11:=g64 ((wrap64 (wrap64 (List.getD r4.1 (0:Nat) (0:Int) * List.getD x0' (1:Nat) (0:Int)) * List.getD x0' (2:Nat) (0:Int)):Int),(([wrap64 (wrap64 (List.getD r4.1 (0:Nat) (0:Int) * List.getD x0' (1:Nat) (0:Int)) * List.getD x0' (2:Nat) (0:Int)),wrap64 (List.getD r4.1 (1:Nat) (0:Int) * List.getD x0' (2:Nat) (0:Int)),List.getD r4.1 (2:Nat) (0:Int)]:List Int),()));
                                        let r12:=g65 ((List.getD r4.1 (3:Nat) (0:Int):Int),());
                                        Tr.fin (((r11.1.1,(r11.1.2.1,())),(r12.1,((0:Int),())))))
                                        (Tr.stop))
                                      (Tr.stop))
                                    (Tr.stop)))
                                (Tr.stop))
                              (Tr.stop))
                            (Tr.test (Option.isSome (f64 ((wrap64 (List.getD r4.1 (0:Nat) (0:Int) * List.getD x0' (1:Nat) (0:Int)):Int),(([wrap64 (List.getD r4.1 (0:Nat) (0:Int) * List.getD x0' (1:Nat) (0:Int)),List.getD r4.1 (1:Nat) (0:Int)]:List Int),()))))
                              (Tr.test ((true && decide ((2:Int) < (↑(List.length r4.1):Int)):Bool))
                                (Tr.test (Option.isSome (f65 ((List.getD r4.1 (2:Nat) (0:Int):Int),())))
                                  (let r9:=g64 ((wrap64 (List.getD r4.1 (0:Nat) (0:Int) * List.getD x0' (1:Nat) (0:Int)):Int),(([wrap64 (List.getD r4.1 (0:Nat) (0:Int) * List.getD x0' (1:Nat) (0:Int)),List.getD r4.1 (1:Nat) (0:Int)]:List Int),()));
                                  let r10:=g65 ((List.getD r4.1 (2:Nat) (0:Int):Int),());
                                  Tr.fin (((r9.1.1,(r9.1.2.1,())),(r10.1,((0:Int),())))))
                                  (Tr.stop))
                                (Tr.stop))
                              (Tr.stop)))
                          (Tr.stop))
                        (Tr.stop))
                      (Tr.test (Option.isSome (f64 ((List.getD r4.1 (0:Nat) (0:Int):Int),(([List.getD r4.1 (0:Nat) (0:Int)]:List Int),()))))
                        (Tr.test ((true && decide ((1:Int) < (↑(List.length r4.1):Int)):Bool))
                          (Tr.test (Option.isSome (f65 ((List.getD r4.1 (1:Nat) (0:Int):Int),())))
                            (let r7:=g64 ((List.getD r4.1 (0:Nat) (0:Int):Int),(([List.getD r4.1 (0:Nat) (0:Int)]:List Int),()));
                            let r8:=g65 ((List.getD r4.1 (1:Nat) (0:Int):Int),());
                            Tr.fin (((r7.1.1,(r7.1.2.1,())),(r8.1,((0:Int),())))))
                            (Tr.stop))
                          (Tr.stop))
                        (Tr.stop)))
                    (Tr.stop))
                  (Tr.test (Option.isSome (f64 ((List.getD r4.1 (0:Nat) (0:Int):Int),(([]:List Int),()))))
                    (Tr.test (Option.isSome (f65 ((List.getD r4.1 (0:Nat) (0:Int):Int),())))
                      (let r5:=g64 ((List.getD r4.1 (0:Nat) (0:Int):Int),(([]:List Int),()));
                      let r6:=g65 ((List.getD r4.1 (0:Nat) (0:Int):Int),());
                      Tr.fin (((r5.1.1,(r5.1.2.1,())),(r6.1,((0:Int),())))))
                      (Tr.stop))
                    (Tr.stop)))
                (Tr.stop))
              (Tr.stop)))
          (Tr.stop))
        (Tr.stop))
      (Tr.stop))
    (Tr.stop)

def f28 (d:Tys.data as28):Option (Tys.data rs28):=(t28 d.1.1 d.1.2.1 d.2.1.1 d.2.1.2.1).val
def g28 (d:Tys.data as28):Tys.data rs28:=(f28 d).getD (Tys.dflt rs28)
def p28:PureC:=pcOf as28 rs28 f28 g28

theorem e28_0 (x0:(List Int)) (x0':(List Int)) (x1:Int) (x1':Int):runPureB (kf64 Go.Proofs.Try.prog).orc Go.Proofs.Try.prog 400 28 as28 rs28 ((x0,x0',()),(x1,x1',()),()) [tt,tt,tt,tt,tt,tt,tt,tt] =
    (let r0:=g59 ((x1,(x1',())),());let r1:=g9 ((x0,(x0',())),());let r2:=g44 (([r0.1]:List Int),());let r3:=g44 (([r1.2.1,r2.1]:List Int),()); some ((((0:Int),(([]:List Int),())),((0:Int),(r3.1,()))),[(!eqF r3.1 0,true),(!eqF r3.1 0,true),(Option.isSome (f44 (([r1.2.1,r2.1]:List Int),())),true),(true,true),(Option.isSome (f44 (([r0.1]:List Int),())),true),(true,true),(Option.isSome (f9 ((x0,(x0',())),())),true),(Option.isSome (f59 ((x1,(x1',())),())),true)])):=by kernel_rfl
theorem e28_2 (x0:(List Int)) (x0':(List Int)) (x1:Int) (x1':Int):runPureB (kf64 Go.Proofs.Try.prog).orc Go.Proofs.Try.prog 400 28 as28 rs28 ((x0,x0',()),(x1,x1',()),()) [tt,tt,tt,tt,tt,tt,ff,ff,tt,tt,ff,tt,tt,tt] =
    (let r0:=g59 ((x1,(x1',())),());let r1:=g9 ((x0,(x0',())),());let r2:=g44 (([r0.1]:List Int),());let r3:=g44 (([r1.2.1,r2.1]:List Int),());let r4:=g63 (((x0,(x0',())),()),((x1,(x1',())),()));let r5:=g64 ((List.getD r4.1 (0:Nat) (0:Int):Int),(([]:List Int),()));let r6:=g65 ((List.getD r4.1 (0:Nat) (0:Int):Int),()); some (((r5.1.1,(r5.1.2.1,())),(r6.1,((0:Int),()))),[(Option.isSome (f65 ((List.getD r4.1 (0:Nat) (0:Int):Int),())),true),(true && decide ((0:Int) < (↑(List.length r4.1):Int)),true),(Option.isSome (f64 ((List.getD r4.1 (0:Nat) (0:Int):Int),(([]:List Int),()))),true),(!leF (↑(List.length x0'):Int) (0:Int),false),(true && decide ((0:Int) < (↑(List.length r4.1):Int)),true),(Option.isSome (f63 (((x0,(x0',())),()),((x1,(x1',())),()))),true),(false,false),(!eqF r3.1 0,false),(Option.isSome (f44 (([r1.2.1,r2.1]:List Int),())),true),(true,true),(Option.isSome (f44 (([r0.1]:List Int),())),true),(true,true),(Option.isSome (f9 ((x0,(x0',())),())),true),(Option.isSome (f59 ((x1,(x1',())),())),true)])):=by kernel_rfl
theorem e28_5 (x0:(List Int)) (x0':(List Int)) (x1:Int) (x1':Int):runPureB (kf64 Go.Proofs.Try.prog).orc Go.Proofs.Try.prog 400 28 as28 rs28 ((x0,x0',()),(x1,x1',()),()) [tt,tt,tt,tt,tt,tt,ff,ff,tt,tt,tt,tt,ff,tt,ff,ff,tt,tt,ff,tt,tt,tt] =
    (let r0:=g59 ((x1,(x1',())),());let r1:=g9 ((x0,(x0',())),());let r2:=g44 (([r0.1]:List Int),());let r3:=g44 (([r1.2.1,r2.1]:List Int),());let r4:=g63 (((x0,(x0',())),()),((x1,(x1',())),()));let r7:=g64 ((List.getD r4.1 (0:Nat) (0:Int):Int),(([List.getD r4.1 (0:Nat) (0:Int)]:List Int),()));let r8:=g65 ((List.getD r4.1 (1:Nat) (0:Int):Int),()); some (((r7.1.1,(r7.1.2.1,())),(r8.1,((0:Int),()))),[(Option.isSome (f65 ((List.getD r4.1 (1:Nat) (0:Int):Int),())),true),(true && decide ((1:Int) < (↑(List.length r4.1):Int)),true),(Option.isSome (f64 ((List.getD r4.1 (0:Nat) (0:Int):Int),(([List.getD r4.1 (0:Nat) (0:Int)]:List Int),()))),true),(!leF (↑(List.length x0'):Int) (1:Int),false),(true,true),(true,true),(false,false),(false,false),(true && decide ((0:Int) < (↑(List.length r4.1):Int)),true),(false,false),(true && decide ((0:Int) < (↑(List.length x0'):Int)),true),(!leF (↑(List.length x0'):Int) (0:Int),true),(true && decide ((0:Int) < (↑(List.length r4.1):Int)),true),(Option.isSome (f63 (((x0,(x0',())),()),((x1,(x1',())),()))),true),(false,false),(!eqF r3.1 0,false),(Option.isSome (f44 (([r1.2.1,r2.1]:List Int),())),true),(true,true),(Option.isSome (f44 (([r0.1]:List Int),())),true),(true,true),(Option.isSome (f9 ((x0,(x0',())),())),true),(Option.isSome (f59 ((x1,(x1',())),())),true)])):=by kernel_rfl
theorem e28_9 (x0:(List Int)) (x0':(List Int)) (x1:Int) (x1':Int):runPureB (kf64 Go.Proofs.Try.prog).orc Go.Proofs.Try.prog 400 28 as28 rs28 ((x0,x0',()),(x1,x1',()),()) [tt,tt,tt,tt,tt,tt,ff,ff,tt,tt,tt,tt,ff,tt,ff,ff,tt,tt,tt,tt,tt,tt,tt,tt,ff,tt,ff,tt,tt,tt,ff,tt,tt,tt] =
    (let r0:=g59 ((x1,(x1',())),());let r1:=g9 ((x0,(x0',())),());let r2:=g44 (([r0.1]:List Int),());let r3:=g44 (([r1.2.1,r2.1]:List Int),());let r4:=g63 (((x0,(x0',())),()),((x1,(x1',())),()));let r9:=g64 ((wrap64 (List.getD r4.1 (0:Nat) (0:Int) * List.getD x0' (1:Nat) (0:Int)):Int),(([wrap64 (List.getD r4.1 (0:Nat) (0:Int) * List.getD x0' (1:Nat) (0:Int)),List.getD r4.1 (1:Nat) (0:Int)]:List Int),()));let r10:=g65 ((List.getD r4.1 (2:Nat) (0:Int):Int),()); some (((r9.1.1,(r9.1.2.1,())),(r10.1,((0:Int),()))),[(Option.isSome (f65 ((List.getD r4.1 (2:Nat) (0:Int):Int),())),true),(true && decide ((2:Int) < (↑(List.length r4.1):Int)),true),(Option.isSome (f64 ((wrap64 (List.getD r4.1 (0:Nat) (0:Int) * List.getD x0' (1:Nat) (0:Int)):Int),(([wrap64 (List.getD r4.1 (0:Nat) (0:Int) * List.getD x0' (1:Nat) (0:Int)),List.getD r4.1 (1:Nat) (0:Int)]:List Int),()))),true),(!leF (↑(List.length x0'):Int) (2:Int),false),(true,true),(true,true),(true,true),(false,false),(true && decide ((1:Int) < (↑(List.length r4.1):Int)),true),(false,false),(true,true),(true,true),(true,true),(true,true),(true && decide ((1:Int) < (↑(List.length x0'):Int)),true),(!leF (↑(List.length x0'):Int) (1:Int),true),(true,true),(true,true),(false,false),(false,false),(true && decide ((0:Int) < (↑(List.length r4.1):Int)),true),(false,false),(true && decide ((0:Int) < (↑(List.length x0'):Int)),true),(!leF (↑(List.length x0'):Int) (0:Int),true),(true && decide ((0:Int) < (↑(List.length r4.1):Int)),true),(Option.isSome (f63 (((x0,(x0',())),()),((x1,(x1',())),()))),true),(false,false),(!eqF r3.1 0,false),(Option.isSome (f44 (([r1.2.1,r2.1]:List Int),())),true),(true,true),(Option.isSome (f44 (([r0.1]:List Int),())),true),(true,true),(Option.isSome (f9 ((x0,(x0',())),())),true),(Option.isSome (f59 ((x1,(x1',())),())),true)])):=by kernel_rfl
theorem e28_13 (x0:(List Int)) (x0':(List Int)) (x1:Int) (x1':Int):runPureB (kf64 Go.Proofs.Try.prog).orc Go.Proofs.Try.prog 400 28 as28 rs28 ((x0,x0',()),(x1,x1',()),()) [tt,tt,tt,tt,tt,tt,ff,ff,tt,tt,tt,tt,ff,tt,ff,ff,tt,tt,tt,tt,tt,tt,tt,tt,ff,tt,ff,tt,tt,tt,tt,tt,tt,tt,tt,tt,tt,tt,tt,ff,tt,ff,tt,tt,tt,ff,tt,tt,tt] =
    (let r0:=g59 ((x1,(x1',())),());let r1:=g9 ((x0,(x0',())),());let r2:=g44 (([r0.1]:List Int),());let r3:=g44 (([r1.2.1,r2.1]:List Int),());let r4:=g63 (((x0,(x0',())),()),((x1,(x1',())),()));let r11:=g64 ((wrap64 (wrap64 (List.getD r4.1 (0:Nat) (0:Int) * List.getD x0' (1:Nat) (0:Int)) * List.getD x0' (2:Nat) (0:Int)):Int),(([wrap64 (wrap64 (List.getD r4.1 (0:Nat) (0:Int) * List.getD x0' (1:Nat) (0:Int)) * List.getD x0' (2:Nat) (0:Int)),wrap64 (List.getD r4.1 (1:Nat) (0:Int) * List.getD x0' (2:Nat) (0:Int)),List.getD r4.1 (2:Nat) (0:Int)]:List Int),()));let r12:=g65 ((List.getD r4.1 (3:Nat) (0:Int):Int),()); some (((r11.1.1,(r11.1.2.1,())),(r12.1,((0:Int),()))),[(Option.isSome (f65 ((List.getD r4.1 (3:Nat) (0:Int):Int),())),true),(true && decide ((3:Int) < (↑(List.length r4.1):Int)),true),(Option.isSome (f64 ((wrap64 (wrap64 (List.getD r4.1 (0:Nat) (0:Int) * List.getD x0' (1:Nat) (0:Int)) * List.getD x0' (2:Nat) (0:Int)):Int),(([wrap64 (wrap64 (List.getD r4.1 (0:Nat) (0:Int) * List.getD x0' (1:Nat) (0:Int)) * List.getD x0' (2:Nat) (0:Int)),wrap64 (List.getD r4.1 (1:Nat) (0:Int) * List.getD x0' (2:Nat) (0:Int)),List.getD r4.1 (2:Nat) (0:Int)]:List Int),()))),true),(!leF (↑(List.length x0'):Int) (3:Int),false),(true,true),(true,true),(true,true),(false,false),(true && decide ((2:Int) < (↑(List.length r4.1):Int)),true),(false,false),(true,true),(true,true),(true,true),(true,true),(true,true),(true,true),(true,true),(true && decide ((2:Int) < (↑(List.length x0'):Int)),true),(!leF (↑(List.length x0'):Int) (2:Int),true),(true,true),(true,true),(true,true),(false,false),(true && decide ((1:Int) < (↑(List.length r4.1):Int)),true),(false,false),(true,true),(true,true),(true,true),(true,true),(true && decide ((1:Int) < (↑(List.length x0'):Int)),true),(!leF (↑(List.length x0'):Int) (1:Int),true),(true,true),(true,true),(false,false),(false,false),(true && decide ((0:Int) < (↑(List.length r4.1):Int)),true),(false,false),(true && decide ((0:Int) < (↑(List.length x0'):Int)),true),(!leF (↑(List.length x0'):Int) (0:Int),true),(true && decide ((0:Int) < (↑(List.length r4.1):Int)),true),(Option.isSome (f63 (((x0,(x0',())),()),((x1,(x1',())),()))),true),(false,false),(!eqF r3.1 0,false),(Option.isSome (f44 (([r1.2.1,r2.1]:List Int),())),true),(true,true),(Option.isSome (f44 (([r0.1]:List Int),())),true),(true,true),(Option.isSome (f9 ((x0,(x0',())),())),true),(Option.isSome (f59 ((x1,(x1',())),())),true)])):=by kernel_rfl
theorem e28_17 (x0:(List Int)) (x0':(List Int)) (x1:Int) (x1':Int):runPureB (kf64 Go.Proofs.Try.prog).orc Go.Proofs.Try.prog 400 28 as28 rs28 ((x0,x0',()),(x1,x1',()),()) [tt,tt,tt,tt,tt,tt,ff,ff,tt,tt,tt,tt,ff,tt,ff,ff,tt,tt,tt,tt,tt,tt,tt,tt,ff,tt,ff,tt,tt,tt,tt,tt,tt,tt,tt,tt,tt,tt,tt,ff,tt,ff,tt,tt,tt,tt,tt,tt,tt,tt,tt,tt,tt,tt,tt,tt,tt,ff,tt,ff,tt,tt,tt,ff,tt,tt,tt] =
    (let r0:=g59 ((x1,(x1',())),());let r1:=g9 ((x0,(x0',())),());let r2:=g44 (([r0.1]:List Int),());let r3:=g44 (([r1.2.1,r2.1]:List Int),());let r4:=g63 (((x0,(x0',())),()),((x1,(x1',())),()));let r13:=g64 ((wrap64 (wrap64 (wrap64 (List.getD r4.1 (0:Nat) (0:Int) * List.getD x0' (1:Nat) (0:Int)) * List.getD x0' (2:Nat) (0:Int)) * List.getD x0' (3:Nat) (0:Int)):Int),(([wrap64 (wrap64 (wrap64 (List.getD r4.1 (0:Nat) (0:Int) * List.getD x0' (1:Nat) (0:Int)) * List.getD x0' (2:Nat) (0:Int)) * List.getD x0' (3:Nat) (0:Int)),wrap64 (wrap64 (List.getD r4.1 (1:Nat) (0:Int) * List.getD x0' (2:Nat) (0:Int)) * List.getD x0' (3:Nat) (0:Int)),wrap64 (List.getD r4.1 (2:Nat) (0:Int) * List.getD x0' (3:Nat) (0:Int)),List.getD r4.1 (3:Nat) (0:Int)]:List Int),()));let r14:=g65 ((List.getD r4.1 (4:Nat) (0:Int):Int),()); some (((r13.1.1,(r13.1.2.1,())),(r14.1,((0:Int),()))),[(Option.isSome (f65 ((List.getD r4.1 (4:Nat) (0:Int):Int),())),true),(true && decide ((4:Int) < (↑(List.length r4.1):Int)),true),(Option.isSome (f64 ((wrap64 (wrap64 (wrap64 (List.getD r4.1 (0:Nat) (0:Int) * List.getD x0' (1:Nat) (0:Int)) * List.getD x0' (2:Nat) (0:Int)) * List.getD x0' (3:Nat) (0:Int)):Int),(([wrap64 (wrap64 (wrap64 (List.getD r4.1 (0:Nat) (0:Int) * List.getD x0' (1:Nat) (0:Int)) * List.getD x0' (2:Nat) (0:Int)) * List.getD x0' (3:Nat) (0:Int)),wrap64 (wrap64 (List.getD r4.1 (1:Nat) (0:Int) * List.getD x0' (2:Nat) (0:Int)) * List.getD x0' (3:Nat) (0:Int)),wrap64 (List.getD r4.1 (2:Nat) (0:Int) * List.getD x0' (3:Nat) (0:Int)),List.getD r4.1 (3:Nat) (0:Int)]:List Int),()))),true),(!leF (↑(List.length x0'):Int) (4:Int),false),(true,true),(true,true),(true,true),(false,false),(true && decide ((3:Int) < (↑(List.length r4.1):Int)),true),(false,false),(true,true),(true,true),(true,true),(true,true),(true,true),(true,true),(true,true),(true,true),(true,true),(true,true),(true && decide ((3:Int) < (↑(List.length x0'):Int)),true),(!leF (↑(List.length x0'):Int) (3:Int),true),(true,true),(true,true),(true,true),(false,false),(true && decide ((2:Int) < (↑(List.length r4.1):Int)),true),(false,false),(true,true),(true,true),(true,true),(true,true),(true,true),(true,true),(true,true),(true && decide ((2:Int) < (↑(List.length x0'):Int)),true),(!leF (↑(List.length x0'):Int) (2:Int),true),(true,true),(true,true),(true,true),(false,false),(true && decide ((1:Int) < (↑(List.length r4.1):Int)),true),(false,false),(true,true),(true,true),(true,true),(true,true),(true && decide ((1:Int) < (↑(List.length x0'):Int)),true),(!leF (↑(List.length x0'):Int) (1:Int),true),(true,true),(true,true),(false,false),(false,false),(true && decide ((0:Int) < (↑(List.length r4.1):Int)),true),(false,false),(true && decide ((0:Int) < (↑(List.length x0'):Int)),true),(!leF (↑(List.length x0'):Int) (0:Int),true),(true && decide ((0:Int) < (↑(List.length r4.1):Int)),true),(Option.isSome (f63 (((x0,(x0',())),()),((x1,(x1',())),()))),true),(false,false),(!eqF r3.1 0,false),(Option.isSome (f44 (([r1.2.1,r2.1]:List Int),())),true),(true,true),(Option.isSome (f44 (([r0.1]:List Int),())),true),(true,true),(Option.isSome (f9 ((x0,(x0',())),())),true),(Option.isSome (f59 ((x1,(x1',())),())),true)])):=by kernel_rfl
theorem e28_21 (x0:(List Int)) (x0':(List Int)) (x1:Int) (x1':Int):runPureB (kf64 Go.Proofs.Try.prog).orc Go.Proofs.Try.prog 400 28 as28 rs28 ((x0,x0',()),(x1,x1',()),()) [tt,tt,tt,tt,tt,tt,ff,ff,tt,tt,tt,tt,ff,tt,ff,ff,tt,tt,tt,tt,tt,tt,tt,tt,ff,tt,ff,tt,tt,tt,tt,tt,tt,tt,tt,tt,tt,tt,tt,ff,tt,ff,tt,tt,tt,tt,tt,tt,tt,tt,tt,tt,tt,tt,tt,tt,tt,ff,tt,ff,tt,tt,tt,tt,tt,tt,tt,tt,tt,tt,tt,tt,tt,tt,tt,tt,tt,tt,ff,tt,ff,tt,tt,tt,ff,tt,tt,tt] =
    (let r0:=g59 ((x1,(x1',())),());let r1:=g9 ((x0,(x0',())),());let r2:=g44 (([r0.1]:List Int),());let r3:=g44 (([r1.2.1,r2.1]:List Int),());let r4:=g63 (((x0,(x0',())),()),((x1,(x1',())),()));let r15:=g64 ((wrap64 (wrap64 (wrap64 (wrap64 (List.getD r4.1 (0:Nat) (0:Int) * List.getD x0' (1:Nat) (0:Int)) * List.getD x0' (2:Nat) (0:Int)) * List.getD x0' (3:Nat) (0:Int)) * List.getD x0' (4:Nat) (0:Int)):Int),(([wrap64 (wrap64 (wrap64 (wrap64 (List.getD r4.1 (0:Nat) (0:Int) * List.getD x0' (1:Nat) (0:Int)) * List.getD x0' (2:Nat) (0:Int)) * List.getD x0' (3:Nat) (0:Int)) * List.getD x0' (4:Nat) (0:Int)),wrap64 (wrap64 (wrap64 (List.getD r4.1 (1:Nat) (0:Int) * List.getD x0' (2:Nat) (0:Int)) * List.getD x0' (3:Nat) (0:Int)) * List.getD x0' (4:Nat) (0:Int)),wrap64 (wrap64 (List.getD r4.1 (2:Nat) (0:Int) * List.getD x0' (3:Nat) (0:Int)) * List.getD x0' (4:Nat) (0:Int)),wrap64 (List.getD r4.1 (3:Nat) (0:Int) * List.getD x0' (4:Nat) (0:Int)),List.getD r4.1 (4:Nat) (0:Int)]:List Int),()));let r16:=g65 ((List.getD r4.1 (5:Nat) (0:Int):Int),()); some (((r15.1.1,(r15.1.2.1,())),(r16.1,((0:Int),()))),[(Option.isSome (f65 ((List.getD r4.1 (5:Nat) (0:Int):Int),())),true),(true && decide ((5:Int) < (↑(List.length r4.1):Int)),true),(Option.isSome (f64 ((wrap64 (wrap64 (wrap64 (wrap64 (List.getD r4.1 (0:Nat) (0:Int) * List.getD x0' (1:Nat) (0:Int)) * List.getD x0' (2:Nat) (0:Int)) * List.getD x0' (3:Nat) (0:Int)) * List.getD x0' (4:Nat) (0:Int)):Int),(([wrap64 (wrap64 (wrap64 (wrap64 (List.getD r4.1 (0:Nat) (0:Int) * List.getD x0' (1:Nat) (0:Int)) * List.getD x0' (2:Nat) (0:Int)) * List.getD x0' (3:Nat) (0:Int)) * List.getD x0' (4:Nat) (0:Int)),wrap64 (wrap64 (wrap64 (List.getD r4.1 (1:Nat) (0:Int) * List.getD x0' (2:Nat) (0:Int)) * List.getD x0' (3:Nat) (0:Int)) * List.getD x0' (4:Nat) (0:Int)),wrap64 (wrap64 (List.getD r4.1 (2:Nat) (0:Int) * List.getD x0' (3:Nat) (0:Int)) * List.getD x0' (4:Nat) (0:Int)),wrap64 (List.getD r4.1 (3:Nat) (0:Int) * List.getD x0' (4:Nat) (0:Int)),List.getD r4.1 (4:Nat) (0:Int)]:List Int),()))),true),(!leF (↑(List.length x0'):Int) (5:Int),false),(true,true),(true,true),(true,true),(false,false),(true && decide ((4:Int) < (↑(List.length r4.1):Int)),true),(false,false),(true,true),(true,true),(true,true),(true,true),(true,true),(true,true),(true,true),(true,true),(true,true),(true,true),(true,true),(true,true),(true,true),(true && decide ((4:Int) < (↑(List.length x0'):Int)),true),(!leF (↑(List.length x0'):Int) (4:Int),true),(true,true),(true,true),(true,true),(false,false),(true && decide ((3:Int) < (↑(List.length r4.1):Int)),true),(false,false),(true,true),(true,true),(true,true),(true,true),(true,true),(true,true),(true,true),(true,true),(true,true),(true,true),(true && decide ((3:Int) < (↑(List.length x0'):Int)),true),(!leF (↑(List.length x0'):Int) (3:Int),true),(true,true),(true,true),(true,true),(false,false),(true && decide ((2:Int) < (↑(List.length r4.1):Int)),true),(false,false),(true,true),(true,true),(true,true),(true,true),(true,true),(true,true),(true,true),(true && decide ((2:Int) < (↑(List.length x0'):Int)),true),(!leF (↑(List.length x0'):Int) (2:Int),true),(true,true),(true,true),(true,true),(false,false),(true && decide ((1:Int) < (↑(List.length r4.1):Int)),true),(false,false),(true,true),(true,true),(true,true),(true,true),(true && decide ((1:Int) < (↑(List.length x0'):Int)),true),(!leF (↑(List.length x0'):Int) (1:Int),true),(true,true),(true,true),(false,false),(false,false),(true && decide ((0:Int) < (↑(List.length r4.1):Int)),true),(false,false),(true && decide ((0:Int) < (↑(List.length x0'):Int)),true),(!leF (↑(List.length x0'):Int) (0:Int),true),(true && decide ((0:Int) < (↑(List.length r4.1):Int)),true),(Option.isSome (f63 (((x0,(x0',())),()),((x1,(x1',())),()))),true),(false,false),(!eqF r3.1 0,false),(Option.isSome (f44 (([r1.2.1,r2.1]:List Int),())),true),(true,true),(Option.isSome (f44 (([r0.1]:List Int),())),true),(true,true),(Option.isSome (f9 ((x0,(x0',())),())),true),(Option.isSome (f59 ((x1,(x1',())),())),true)])):=by kernel_rfl

set_option maxRecDepth 100000 in
theorem ok28_t (x0:(List Int)) (x0':(List Int)) (x1:Int) (x1':Int):TrOk (PureRuns Go.Proofs.Try.prog (kf64 Go.Proofs.Try.prog).orc 28 as28 rs28 ((x0,x0',()),(x1,x1',()),())) (t28 x0 x0' x1 x1') :=
  TrOk.ofTest (fun h0=>TrOk.ofTest (fun h1=>TrOk.ofTest (fun h3=>TrOk.ofTest (fun h5=>TrOk.ofTest (fun h6=>TrOk.ofFin (PureRuns.ofB (e28_0 x0 x0' x1 x1') (ac (nn h6) (ac h6 (ac h5 (ac rfl (ac h3 (ac rfl (ac h1 (ac h0 All.nil)))))))))) (fun h6=>TrOk.ofTest (fun h8=>TrOk.ofTest (fun h9=>TrOk.ofTest (fun h10=>TrOk.ofTest (fun h11=>TrOk.ofTest (fun h18=>TrOk.ofTest (fun h19=>TrOk.ofTest (fun h25=>TrOk.ofTest (fun h30=>TrOk.ofTest (fun h31=>TrOk.ofTest (fun h40=>TrOk.ofTest (fun h45=>TrOk.ofTest (fun h46=>TrOk.ofTest (fun h58=>TrOk.ofTest (fun h63=>TrOk.ofTest (fun h64=>TrOk.ofTest (fun h79=>TrOk.ofTest (fun h84=>TrOk.ofTest (fun h85=>TrOk.ofTest (fun h103=>TrOk.ofStop) (fun h103=>TrOk.ofStop)) (fun h85=>TrOk.ofStop)) (fun h84=>TrOk.ofTest (fun h85=>TrOk.ofTest (fun h86=>TrOk.ofTest (fun h87=>TrOk.ofFin (PureRuns.ofB (e28_21 x0 x0' x1 x1') (ac h87 (ac h86 (ac h85 (ac h84 (ac rfl (ac rfl (ac rfl (ac rfl (ac h79 (ac rfl (ac rfl (ac rfl (ac rfl (ac rfl (ac rfl (ac rfl (ac rfl (ac rfl (ac rfl (ac rfl (ac rfl (ac rfl (ac rfl (ac h64 (ac h63 (ac rfl (ac rfl (ac rfl (ac rfl (ac h58 (ac rfl (ac rfl (ac rfl (ac rfl (ac rfl (ac rfl (ac rfl (ac rfl (ac rfl (ac rfl (ac rfl (ac h46 (ac h45 (ac rfl (ac rfl (ac rfl (ac rfl (ac h40 (ac rfl (ac rfl (ac rfl (ac rfl (ac rfl (ac rfl (ac rfl (ac rfl (ac h31 (ac h30 (ac rfl (ac rfl (ac rfl (ac rfl (ac h25 (ac rfl (ac rfl (ac rfl (ac rfl (ac rfl (ac h19 (ac h18 (ac rfl (ac rfl (ac rfl (ac rfl (ac h9 (ac rfl (ac h11 (ac h10 (ac h9 (ac h8 (ac rfl (ac h6 (ac h5 (ac rfl (ac h3 (ac rfl (ac h1 (ac h0 All.nil)))))))))))))))))))))))))))))))))))))))))))))))))))))))))))))))))))))))))))))))))))))))))) (fun h87=>TrOk.ofStop)) (fun h86=>TrOk.ofStop)) (fun h85=>TrOk.ofStop))) (fun h79=>TrOk.ofStop)) (fun h64=>TrOk.ofStop)) (fun h63=>TrOk.ofTest (fun h64=>TrOk.ofTest (fun h65=>TrOk.ofTest (fun h66=>TrOk.ofFin (PureRuns.ofB (e28_17 x0 x0' x1 x1') (ac h66 (ac h65 (ac h64 (ac h63 (ac rfl (ac rfl (ac rfl (ac rfl (ac h58 (ac rfl (ac rfl (ac rfl (ac rfl (ac rfl (ac rfl (ac rfl (ac rfl (ac rfl (ac rfl (ac rfl (ac h46 (ac h45 (ac rfl (ac rfl (ac rfl (ac rfl (ac h40 (ac rfl (ac rfl (ac rfl (ac rfl (ac rfl (ac rfl (ac rfl (ac rfl (ac h31 (ac h30 (ac rfl (ac rfl (ac rfl (ac rfl (ac h25 (ac rfl (ac rfl (ac rfl (ac rfl (ac rfl (ac h19 (ac h18 (ac rfl (ac rfl (ac rfl (ac rfl (ac h9 (ac rfl (ac h11 (ac h10 (ac h9 (ac h8 (ac rfl (ac h6 (ac h5 (ac rfl (ac h3 (ac rfl (ac h1 (ac h0 All.nil))))))))))))))))))))))))))))))))))))))))))))))))))))))))))))))))))))) (fun h66=>TrOk.ofStop)) (fun h65=>TrOk.ofStop)) (fun h64=>TrOk.ofStop))) (fun h58=>TrOk.ofStop)) (fun h46=>TrOk.ofStop)) (fun h45=>TrOk.ofTest (fun h46=>TrOk.ofTest (fun h47=>TrOk.ofTest (fun h48=>TrOk.ofFin (PureRuns.ofB (e28_13 x0 x0' x1 x1') (ac h48 (ac h47 (ac h46 (ac h45 (ac rfl (ac rfl (ac rfl (ac rfl (ac h40 (ac rfl (ac rfl (ac rfl (ac rfl (ac rfl (ac rfl (ac rfl (ac rfl (ac h31 (ac h30 (ac rfl (ac rfl (ac rfl (ac rfl (ac h25 (ac rfl (ac rfl (ac rfl (ac rfl (ac rfl (ac h19 (ac h18 (ac rfl (ac rfl (ac rfl (ac rfl (ac h9 (ac rfl (ac h11 (ac h10 (ac h9 (ac h8 (ac rfl (ac h6 (ac h5 (ac rfl (ac h3 (ac rfl (ac h1 (ac h0 All.nil))))))))))))))))))))))))))))))))))))))))))))))))))) (fun h48=>TrOk.ofStop)) (fun h47=>TrOk.ofStop)) (fun h46=>TrOk.ofStop))) (fun h40=>TrOk.ofStop)) (fun h31=>TrOk.ofStop)) (fun h30=>TrOk.ofTest (fun h31=>TrOk.ofTest (fun h32=>TrOk.ofTest (fun h33=>TrOk.ofFin (PureRuns.ofB (e28_9 x0 x0' x1 x1') (ac h33 (ac h32 (ac h31 (ac h30 (ac rfl (ac rfl (ac rfl (ac rfl (ac h25 (ac rfl (ac rfl (ac rfl (ac rfl (ac rfl (ac h19 (ac h18 (ac rfl (ac rfl (ac rfl (ac rfl (ac h9 (ac rfl (ac h11 (ac h10 (ac h9 (ac h8 (ac rfl (ac h6 (ac h5 (ac rfl (ac h3 (ac rfl (ac h1 (ac h0 All.nil)))))))))))))))))))))))))))))))))))) (fun h33=>TrOk.ofStop)) (fun h32=>TrOk.ofStop)) (fun h31=>TrOk.ofStop))) (fun h25=>TrOk.ofStop)) (fun h19=>TrOk.ofStop)) (fun h18=>TrOk.ofTest (fun h19=>TrOk.ofTest (fun h20=>TrOk.ofTest (fun h21=>TrOk.ofFin (PureRuns.ofB (e28_5 x0 x0' x1 x1') (ac h21 (ac h20 (ac h19 (ac h18 (ac rfl (ac rfl (ac rfl (ac rfl (ac h9 (ac rfl (ac h11 (ac h10 (ac h9 (ac h8 (ac rfl (ac h6 (ac h5 (ac rfl (ac h3 (ac rfl (ac h1 (ac h0 All.nil)))))))))))))))))))))))) (fun h21=>TrOk.ofStop)) (fun h20=>TrOk.ofStop)) (fun h19=>TrOk.ofStop))) (fun h11=>TrOk.ofStop)) (fun h10=>TrOk.ofTest (fun h11=>TrOk.ofTest (fun h13=>TrOk.ofFin (PureRuns.ofB (e28_2 x0 x0' x1 x1') (ac h13 (ac h9 (ac h11 (ac h10 (ac h9 (ac h8 (ac rfl (ac h6 (ac h5 (ac rfl (ac h3 (ac rfl (ac h1 (ac h0 All.nil)))))))))))))))) (fun h13=>TrOk.ofStop)) (fun h11=>TrOk.ofStop))) (fun h9=>TrOk.ofStop)) (fun h8=>TrOk.ofStop))) (fun h5=>TrOk.ofStop)) (fun h3=>TrOk.ofStop)) (fun h1=>TrOk.ofStop)) (fun h0=>TrOk.ofStop)

theorem ok28:PureOk Go.Proofs.Try.prog 28 p28:=pureOk_of kf64_ok.base (T:=fun (d:Tys.data as28)=>t28 d.1.1 d.1.2.1 d.2.1.1 d.2.1.2.1) (by kernel_rfl) (fun (d:Tys.data as28)=>ok28_t d.1.1 d.1.2.1 d.2.1.1 d.2.1.2.1)
def kf28 (P:Go.Program):Known:=(kf64 P).func 28 p28
theorem kf28_ok:KnownOk Go.Proofs.Try.prog (kf28 Go.Proofs.Try.prog):=kf64_ok.func ok28

/-! ductility/modal.IsMode -/

abbrev as23:List Ty:=[(.pair (.slice (.int .i64)) (.pair (.slice (.int .i64)) .unit)),(.pair (.int .i64) (.pair (.int .i64) .unit))]
abbrev rs23:List Ty:=[.bool,(.int .i64)]

def t23 (x0:(List Int)) (x0':(List Int)) (x1:Int) (x1':Int):Tr (Tys.data rs23) :=
  Tr.test (Option.isSome (f59 ((x1,(x1',())),())))
    (Tr.test (Option.isSome (f9 ((x0,(x0',())),())))
      (let r0:=g59 ((x1,(x1',())),());
      Tr.test (Option.isSome (f44 (([r0.1]:List Int),())))
        (let r1:=g9 ((x0,(x0',())),());
        let r2:=g44 (([r0.1]:List Int),());
        Tr.test (Option.isSome (f44 (([r1.2.1,r2.1]:List Int),())))
          (let r3:=g44 (([r1.2.1,r2.1]:List Int),());
          Tr.test ((!eqF r3.1 0:Bool))
            (Tr.fin (((false:Bool),(r3.1,()))))
            (Tr.test (Option.isSome (f61 (((x0,(x0',())),()),((x1,(x1',())),()))))
              (let r4:=g61 (((x0,(x0',())),()),((x1,(x1',())),()));
              Tr.fin ((r4.1,((0:Int),()))))
              (Tr.stop)))
          (Tr.stop))
        (Tr.stop))
      (Tr.stop))
    (Tr.stop)

def f23 (d:Tys.data as23):Option (Tys.data rs23):=(t23 d.1.1 d.1.2.1 d.2.1.1 d.2.1.2.1).val
def g23 (d:Tys.data as23):Tys.data rs23:=(f23 d).getD (Tys.dflt rs23)
def p23:PureC:=pcOf as23 rs23 f23 g23

theorem wk23 (x0:(List Int)) (x0':(List Int)) (x1:Int) (x1':Int):Walks (runPure (kf28 Go.Proofs.Try.prog).orc Go.Proofs.Try.prog 400 23 as23 rs23 ((x0,x0',()),(x1,x1',()),())) (t23 x0 x0' x1 x1') [([true,true,true,true,true],[2,2,4,1,6,1,8,10]),([true,true,true,true,false,true],[2,0,4,6,1,8,1,10,12])] :=
  ⟨by kernel_rfl,by kernel_rfl,trivial⟩

theorem ok23_t (x0:(List Int)) (x0':(List Int)) (x1:Int) (x1':Int):TrOk (PureRuns Go.Proofs.Try.prog (kf28 Go.Proofs.Try.prog).orc 23 as23 rs23 ((x0,x0',()),(x1,x1',()),())) (t23 x0 x0' x1 x1') :=
  Walks.ok (fun _ _ _=>PureRuns.of) (wk23 x0 x0' x1 x1') (by kernel_rfl)

theorem ok23:PureOk Go.Proofs.Try.prog 23 p23:=pureOk_of kf28_ok.base (T:=fun (d:Tys.data as23)=>t23 d.1.1 d.1.2.1 d.2.1.1 d.2.1.2.1) (by kernel_rfl) (fun (d:Tys.data as23)=>ok23_t d.1.1 d.1.2.1 d.2.1.1 d.2.1.2.1)
def kf23 (P:Go.Program):Known:=(kf28 P).func 23 p23
theorem kf23_ok:KnownOk Go.Proofs.Try.prog (kf23 Go.Proofs.Try.prog):=kf28_ok.func ok23

/-! ductility/modal.CountBelow -/

abbrev as22:List Ty:=[(.pair (.slice (.int .i64)) (.pair (.slice (.int .i64)) .unit)),(.pair (.int .i64) (.pair (.int .i64) .unit))]
abbrev rs22:List Ty:=[(.int .i64),(.int .i64)]

def t22 (x0:(List Int)) (x0':(List Int)) (x1:Int) (x1':Int):Tr (Tys.data rs22) :=
  Tr.test (Option.isSome (f59 ((x1,(x1',())),())))
    (Tr.test (Option.isSome (f9 ((x0,(x0',())),())))
      (let r0:=g59 ((x1,(x1',())),());
      Tr.test (Option.isSome (f44 (([r0.1]:List Int),())))
        (let r1:=g9 ((x0,(x0',())),());
        let r2:=g44 (([r0.1]:List Int),());
        Tr.test (Option.isSome (f44 (([r1.2.1,r2.1]:List Int),())))
          (let r3:=g44 (([r1.2.1,r2.1]:List Int),());
          Tr.test ((!eqF r3.1 0:Bool))
            (Tr.fin (((0:Int),(r3.1,()))))
            (Tr.test (Option.isSome (f60 (((x0,(x0',())),()),((x1,(x1',())),()))))
              (let r4:=g60 (((x0,(x0',())),()),((x1,(x1',())),()));
              Tr.fin ((r4.1,((0:Int),()))))
              (Tr.stop)))
          (Tr.stop))
        (Tr.stop))
      (Tr.stop))
    (Tr.stop)

def f22 (d:Tys.data as22):Option (Tys.data rs22):=(t22 d.1.1 d.1.2.1 d.2.1.1 d.2.1.2.1).val
def g22 (d:Tys.data as22):Tys.data rs22:=(f22 d).getD (Tys.dflt rs22)
def p22:PureC:=pcOf as22 rs22 f22 g22

theorem wk22 (x0:(List Int)) (x0':(List Int)) (x1:Int) (x1':Int):Walks (runPure (kf23 Go.Proofs.Try.prog).orc Go.Proofs.Try.prog 400 22 as22 rs22 ((x0,x0',()),(x1,x1',()),())) (t22 x0 x0' x1 x1') [([true,true,true,true,true],[2,2,4,1,6,1,8,10]),([true,true,true,true,false,true],[2,0,4,6,1,8,1,10,12])] :=
  ⟨by kernel_rfl,by kernel_rfl,trivial⟩

theorem ok22_t (x0:(List Int)) (x0':(List Int)) (x1:Int) (x1':Int):TrOk (PureRuns Go.Proofs.Try.prog (kf23 Go.Proofs.Try.prog).orc 22 as22 rs22 ((x0,x0',()),(x1,x1',()),())) (t22 x0 x0' x1 x1') :=
  Walks.ok (fun _ _ _=>PureRuns.of) (wk22 x0 x0' x1 x1') (by kernel_rfl)

theorem ok22:PureOk Go.Proofs.Try.prog 22 p22:=pureOk_of kf23_ok.base (T:=fun (d:Tys.data as22)=>t22 d.1.1 d.1.2.1 d.2.1.1 d.2.1.2.1) (by kernel_rfl) (fun (d:Tys.data as22)=>ok22_t d.1.1 d.1.2.1 d.2.1.1 d.2.1.2.1)
def kf22 (P:Go.Program):Known:=(kf23 P).func 22 p22
theorem kf22_ok:KnownOk Go.Proofs.Try.prog (kf22 Go.Proofs.Try.prog):=kf23_ok.func ok22

/-! ductility/modal.NodesOf -/

abbrev as29:List Ty:=[(.slice (.int .i64))]
abbrev rs29:List Ty:=[(.int .i64),(.int .i64)]

def t29 (x0:(List Int)):Tr (Tys.data rs29) :=
  Tr.test ((!leF (↑(List.length x0):Int) (60:Int):Bool))
    (Tr.fin (((0:Int),((8:Int),()))))
    (Tr.test (Option.isSome (f66 (x0,())))
      (let r0:=g66 (x0,());
      Tr.fin ((r0.1,((0:Int),()))))
      (Tr.stop))

def f29 (d:Tys.data as29):Option (Tys.data rs29):=(t29 d.1).val
def g29 (d:Tys.data as29):Tys.data rs29:=(f29 d).getD (Tys.dflt rs29)
def p29:PureC:=pcOf as29 rs29 f29 g29

theorem wk29 (x0:(List Int)):Walks (runPure (kf22 Go.Proofs.Try.prog).orc Go.Proofs.Try.prog 400 29 as29 rs29 (x0,())) (t29 x0) [([tt],[2]),([false,true],[2,4])] :=
  ⟨by kernel_rfl,by kernel_rfl,trivial⟩

theorem ok29_t (x0:(List Int)):TrOk (PureRuns Go.Proofs.Try.prog (kf22 Go.Proofs.Try.prog).orc 29 as29 rs29 (x0,())) (t29 x0) :=
  Walks.ok (fun _ _ _=>PureRuns.of) (wk29 x0) (by kernel_rfl)

theorem ok29:PureOk Go.Proofs.Try.prog 29 p29:=pureOk_of kf22_ok.base (T:=fun (d:Tys.data as29)=>t29 d.1) (by kernel_rfl) (fun (d:Tys.data as29)=>ok29_t d.1)
def kf29 (P:Go.Program):Known:=(kf22 P).func 29 p29
theorem kf29_ok:KnownOk Go.Proofs.Try.prog (kf29 Go.Proofs.Try.prog):=kf22_ok.func ok29

/-! ductility/modal.loadsError -/

abbrev as67:List Ty:=[(.slice (.int .i64)),(.int .i64)]
abbrev rs67:List Ty:=[(.int .i64)]

def t67 (x0:(List Int)) (x1:Int):Tr (Tys.data rs67) :=
  Tr.test (Option.isSome (f45 ((!eqF (↑(List.length x0):Int) x1:Bool),((10:Int),()))))
    (Tr.test (Option.isSome (f88 ((1000:Int),(x0,()))))
      (let r0:=g45 ((!eqF (↑(List.length x0):Int) x1:Bool),((10:Int),()));
      let r1:=g88 ((1000:Int),(x0,()));
      Tr.test (Option.isSome (f44 (([r0.1,r1.1]:List Int),())))
        (let r2:=g44 (([r0.1,r1.1]:List Int),());
        Tr.fin ((r2.1,())))
        (Tr.stop))
      (Tr.stop))
    (Tr.stop)

def f67 (d:Tys.data as67):Option (Tys.data rs67):=(t67 d.1 d.2.1).val
def g67 (d:Tys.data as67):Tys.data rs67:=(f67 d).getD (Tys.dflt rs67)
def p67:PureC:=pcOf as67 rs67 f67 g67

theorem wk67 (x0:(List Int)) (x1:Int):Walks (runPure (kf29 Go.Proofs.Try.prog).orc Go.Proofs.Try.prog 400 67 as67 rs67 (x0,x1,())) (t67 x0 x1) [([true,true,true],[2,1,4,6])] :=
  ⟨by kernel_rfl,trivial⟩

theorem ok67_t (x0:(List Int)) (x1:Int):TrOk (PureRuns Go.Proofs.Try.prog (kf29 Go.Proofs.Try.prog).orc 67 as67 rs67 (x0,x1,())) (t67 x0 x1) :=
  Walks.ok (fun _ _ _=>PureRuns.of) (wk67 x0 x1) (by kernel_rfl)

theorem ok67:PureOk Go.Proofs.Try.prog 67 p67:=pureOk_of kf29_ok.base (T:=fun (d:Tys.data as67)=>t67 d.1 d.2.1) (by kernel_rfl) (fun (d:Tys.data as67)=>ok67_t d.1 d.2.1)
def kf67 (P:Go.Program):Known:=(kf29 P).func 67 p67
theorem kf67_ok:KnownOk Go.Proofs.Try.prog (kf67 Go.Proofs.Try.prog):=kf29_ok.func ok67

/-! loop 0 of ductility/modal.SwayOf -/

abbrev sh31_0:Sh:={ n:=78,slots:=[1,2,4,8,9,32,33,34],pats:=[.ty (.slice (.int .i64)),.ptr 0 2 0,.ptr 1 2 0,.ty (.int .i64),.ty (.int .i64),.ty (.slice (.int .i64)),.ty (.int .i64),.ty (.int .i64)],boxes:=[.row [.ty (.slice (.int .i64)),.ty (.slice (.int .i64))],.row [.ty (.int .i64),.nil]] }
abbrev shb31_0:Sh:={ n:=78,slots:=[1,2,4,8,9],pats:=[.ty (.slice (.int .i64)),.ptr 0 2 0,.ptr 1 2 0,.ty (.int .i64),.ty (.int .i64)],boxes:=[.row [.ty (.slice (.int .i64)),.ty (.slice (.int .i64))],.row [.ty (.int .i64),.nil]] }
abbrev shr31_0:Sh:={ n:=78,slots:=[],pats:=[],boxes:=[.row [.ty (.slice (.int .i64)),.ty (.slice (.int .i64))],.row [.ty (.int .i64),.nil]] }

def t31_0 (x0:(List Int)) (x3:Int) (x4:Int) (x5:(List Int)) (x6:Int) (x7:Int) (b0_0:(List Int)) (b0_1:(List Int)) (b1_0:Int):Tr (Out sh31_0.data shb31_0.data shr31_0.data) :=
  Tr.test ((!leF x6 x7:Bool))
    (Tr.test (decide ((0:Int) ≤ x7) && decide (x7 < (↑(List.length x5):Int)))
      (Tr.test ((decide ((0:Int) ≤ x7) && decide (x7 < (↑(List.length x0):Int)):Bool))
        (Tr.fin (.again ((x0,((wrap64 (x3 + List.getD x0 (Int.toNat x7) (0:Int)):Int),((wrap64 (x4 * List.getD x5 (Int.toNat x7) (0:Int)):Int),(x5,(x6,((wrap64 (x7 + (1:Int)):Int),())))))),((b0_0,(b0_1,())),((b1_0,()),())))))
        (Tr.stop))
      (Tr.stop))
    (Tr.fin (.brk ((x0,(x3,(x4,()))),((b0_0,(b0_1,())),((b1_0,()),())))))

def s31_0 (d:sh31_0.data):Option (Out sh31_0.data shb31_0.data shr31_0.data):=(t31_0 d.1.1 d.1.2.1 d.1.2.2.1 d.1.2.2.2.1 d.1.2.2.2.2.1 d.1.2.2.2.2.2.1 d.2.1.1 d.2.1.2.1 d.2.2.1.1).val
def l31_0 (d:sh31_0.data):Option (shb31_0.data ⊕ shr31_0.data):=itr s31_0 rounds d
def b31_0 (d:sh31_0.data):shb31_0.data:=outB shb31_0.dflt (l31_0 d)
def lc31_0:LoopC:=lcB sh31_0 shb31_0 shr31_0 l31_0 b31_0

theorem wk31_0 (x0:(List Int)) (x3:Int) (x4:Int) (x5:(List Int)) (x6:Int) (x7:Int) (b0_0:(List Int)) (b0_1:(List Int)) (b1_0:Int):Walks (runBody (kf67 Go.Proofs.Try.prog).orc Go.Proofs.Try.prog 400 31 0 sh31_0 shb31_0 shr31_0 ((x0,x3,x4,x5,x6,x7,()),(b0_0,b0_1,()),(b1_0,()),())) (t31_0 x0 x3 x4 x5 x6 x7 b0_0 b0_1 b1_0) [([true,true,true],[2,4,6]),([ff],[2])] :=
  ⟨by kernel_rfl,by kernel_rfl,trivial⟩

theorem ok31_0_t (x0:(List Int)) (x3:Int) (x4:Int) (x5:(List Int)) (x6:Int) (x7:Int) (b0_0:(List Int)) (b0_1:(List Int)) (b1_0:Int):TrOk (BodyRuns Go.Proofs.Try.prog (kf67 Go.Proofs.Try.prog).orc 31 0 sh31_0 shb31_0 shr31_0 ((x0,x3,x4,x5,x6,x7,()),(b0_0,b0_1,()),(b1_0,()),())) (t31_0 x0 x3 x4 x5 x6 x7 b0_0 b0_1 b1_0) :=
  Walks.ok (fun _ _ _=>BodyRuns.of) (wk31_0 x0 x3 x4 x5 x6 x7 b0_0 b0_1 b1_0) (by kernel_rfl)

theorem ok31_0:LoopOk Go.Proofs.Try.prog 31 0 lc31_0:=loopOk_ofB (sh:=sh31_0) (shB:=shb31_0) (shR:=shr31_0) kf67_ok.base (T:=fun (d:sh31_0.data)=>t31_0 d.1.1 d.1.2.1 d.1.2.2.1 d.1.2.2.2.1 d.1.2.2.2.2.1 d.1.2.2.2.2.2.1 d.2.1.1 d.2.1.2.1 d.2.2.1.1) (by kernel_rfl) rfl (fun (d:sh31_0.data)=>ok31_0_t d.1.1 d.1.2.1 d.1.2.2.1 d.1.2.2.2.1 d.1.2.2.2.2.1 d.1.2.2.2.2.2.1 d.2.1.1 d.2.1.2.1 d.2.2.1.1) (fun _=>rfl)
def kl31_0 (P:Go.Program):Known:=(kf67 P).loop 31 0 lc31_0
theorem kl31_0_ok:KnownOk Go.Proofs.Try.prog (kl31_0 Go.Proofs.Try.prog):=kf67_ok.loop ok31_0

end Go.Vm.Mo
