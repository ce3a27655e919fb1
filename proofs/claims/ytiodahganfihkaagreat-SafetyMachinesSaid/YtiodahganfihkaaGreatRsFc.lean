import Derived.Test.YtiodahganfihkaaGreatA4
import Derived.Test.YtiodahganfihkaaGreatA5
import Derived.KernelRfl
import Derived.Test.YtiodahganfihkaaGreatProg
import Derived.Test.YtiodahganfihkaaGreatRsFb
set_option linter.unusedVariables false
set_option linter.unusedSimpArgs false

namespace Go.Vm.Mo
open Go
set_option linter.unusedVariables false

/-! ductility/safety.indexesError -/

abbrev as144:List Ty:=[(.slice (.int .i64)),(.int .i64)]
abbrev rs144:List Ty:=[(.int .i64)]

def t144 (x0:(List Int)) (x1:Int):Tr (Tys.data rs144) :=
  Tr.test (Option.isSome (l111_0 ((x0,((↑(List.length x0):Int),((0:Int),()))),((x1,()),((x0,()),())))))
    (Tr.test (isRet (l111_0 ((x0,((↑(List.length x0):Int),((0:Int),()))),((x1,()),((x0,()),())))))
      (let r0:=r111_0 ((x0,((↑(List.length x0):Int),((0:Int),()))),((x1,()),((x0,()),())));
      Tr.fin ((r0.1.2.1,())))
      (Tr.fin (((0:Int),()))))
    (Tr.stop)

def f144 (d:Tys.data as144):Option (Tys.data rs144):=(t144 d.1 d.2.1).val
def g144 (d:Tys.data as144):Tys.data rs144:=(f144 d).getD (Tys.dflt rs144)
def p144:PureC:=pcOf as144 rs144 f144 g144

theorem wk144 (x0:(List Int)) (x1:Int):Walks (runPure (kl111_0 Go.Proofs.Tryz.prog).orc Go.Proofs.Tryz.prog 400 144 as144 rs144 (x0,x1,())) (t144 x0 x1) [(bl 2 3,[2,4]),(bl 2 1,[2,4])] :=
  ⟨by kernel_rfl,by kernel_rfl,trivial⟩

theorem ok144_t (x0:(List Int)) (x1:Int):TrOk (PureRuns Go.Proofs.Tryz.prog (kl111_0 Go.Proofs.Tryz.prog).orc 144 as144 rs144 (x0,x1,())) (t144 x0 x1) :=
  Walks.ok (fun _ _ _=>PureRuns.of) (wk144 x0 x1) (by kernel_rfl)

theorem ok144:PureOk Go.Proofs.Tryz.prog 144 p144:=pureOk_of kl111_0_ok.base (T:=fun (d:Tys.data as144)=>t144 d.1 d.2.1) (by kernel_rfl) (fun (d:Tys.data as144)=>ok144_t d.1 d.2.1)
def kf144 (P:Go.Program):Known:=(kl111_0 P).func 144 p144
theorem kf144_ok:KnownOk Go.Proofs.Tryz.prog (kf144 Go.Proofs.Tryz.prog):=kl111_0_ok.func ok144

/-! loop 0 of ductility/safety.flagsOf -/

abbrev sh145_0:Sh:={ n:=18,slots:=[3,6,7,8],pats:=[.ty (.int .u64),.ty (.slice (.int .i64)),.ty (.int .i64),.ty (.int .i64)],boxes:=[] }
abbrev shb145_0:Sh:={ n:=18,slots:=[3],pats:=[.ty (.int .u64)],boxes:=[] }
abbrev shr145_0:Sh:={ n:=18,slots:=[],pats:=[],boxes:=[] }

def t145_0 (x0:Int) (x1:(List Int)) (x2:Int) (x3:Int):Tr (Out sh145_0.data shb145_0.data shr145_0.data) :=
  Tr.test ((!leF x2 x3:Bool))
    (Tr.test (decide ((0:Int) ≤ x3) && decide (x3 < (↑(List.length x1):Int)))
      (Tr.test ((decide (List.getD x1 (Int.toNat x3) (0:Int) < (0:Int)):Bool))
        (Tr.stop)
        (Tr.fin (.again (((orV Go.IntKind.u64 x0 (shlV Go.IntKind.u64 (1:Int) (List.getD x1 (Int.toNat x3) (0:Int))):Int),(x1,(x2,((wrap64 (x3 + (1:Int)):Int),())))),()))))
      (Tr.stop))
    (Tr.fin (.brk ((x0,()),())))

def s145_0 (d:sh145_0.data):Option (Out sh145_0.data shb145_0.data shr145_0.data):=(t145_0 d.1.1 d.1.2.1 d.1.2.2.1 d.1.2.2.2.1).val
def l145_0 (d:sh145_0.data):Option (shb145_0.data ⊕ shr145_0.data):=itr s145_0 rounds d
def b145_0 (d:sh145_0.data):shb145_0.data:=outB shb145_0.dflt (l145_0 d)
def lc145_0:LoopC:=lcB sh145_0 shb145_0 shr145_0 l145_0 b145_0

theorem wk145_0 (x0:Int) (x1:(List Int)) (x2:Int) (x3:Int):Walks (runBody (kf144 Go.Proofs.Tryz.prog).orc Go.Proofs.Tryz.prog 400 145 0 sh145_0 shb145_0 shr145_0 ((x0,x1,x2,x3,()),())) (t145_0 x0 x1 x2 x3) [(bl 3 3,[2,4,6]),(bl 1 0,[2])] :=
  ⟨by kernel_rfl,by kernel_rfl,trivial⟩

theorem ok145_0_t (x0:Int) (x1:(List Int)) (x2:Int) (x3:Int):TrOk (BodyRuns Go.Proofs.Tryz.prog (kf144 Go.Proofs.Tryz.prog).orc 145 0 sh145_0 shb145_0 shr145_0 ((x0,x1,x2,x3,()),())) (t145_0 x0 x1 x2 x3) :=
  Walks.ok (fun _ _ _=>BodyRuns.of) (wk145_0 x0 x1 x2 x3) (by kernel_rfl)

theorem ok145_0:LoopOk Go.Proofs.Tryz.prog 145 0 lc145_0:=loopOk_ofB (sh:=sh145_0) (shB:=shb145_0) (shR:=shr145_0) kf144_ok.base (T:=fun (d:sh145_0.data)=>t145_0 d.1.1 d.1.2.1 d.1.2.2.1 d.1.2.2.2.1) (by kernel_rfl) rfl (fun (d:sh145_0.data)=>ok145_0_t d.1.1 d.1.2.1 d.1.2.2.1 d.1.2.2.2.1) (fun _=>rfl)
def kl145_0 (P:Go.Program):Known:=(kf144 P).loop 145 0 lc145_0
theorem kl145_0_ok:KnownOk Go.Proofs.Tryz.prog (kl145_0 Go.Proofs.Tryz.prog):=kf144_ok.loop ok145_0

/-! ductility/safety.flagsOf -/

abbrev as145:List Ty:=[(.slice (.int .i64))]
abbrev rs145:List Ty:=[(.int .u64)]

def t145 (x0:(List Int)):Tr (Tys.data rs145) :=
  Tr.test (isBrk (l145_0 (((0:Int),(x0,((↑(List.length x0):Int),((0:Int),())))),())))
    (let r0:=b145_0 (((0:Int),(x0,((↑(List.length x0):Int),((0:Int),())))),());
    Tr.fin ((r0.1.1,())))
    (Tr.stop)

def f145 (d:Tys.data as145):Option (Tys.data rs145):=(t145 d.1).val
def g145 (d:Tys.data as145):Tys.data rs145:=(f145 d).getD (Tys.dflt rs145)
def p145:PureC:=pcOf as145 rs145 f145 g145

theorem wk145 (x0:(List Int)):Walks (runPure (kl145_0 Go.Proofs.Tryz.prog).orc Go.Proofs.Tryz.prog 400 145 as145 rs145 (x0,())) (t145 x0) [(bl 1 1,[1,2])] :=
  ⟨by kernel_rfl,trivial⟩

theorem ok145_t (x0:(List Int)):TrOk (PureRuns Go.Proofs.Tryz.prog (kl145_0 Go.Proofs.Tryz.prog).orc 145 as145 rs145 (x0,())) (t145 x0) :=
  Walks.ok (fun _ _ _=>PureRuns.of) (wk145 x0) (by kernel_rfl)

theorem ok145:PureOk Go.Proofs.Tryz.prog 145 p145:=pureOk_of kl145_0_ok.base (T:=fun (d:Tys.data as145)=>t145 d.1) (by kernel_rfl) (fun (d:Tys.data as145)=>ok145_t d.1)
def kf145 (P:Go.Program):Known:=(kl145_0 P).func 145 p145
theorem kf145_ok:KnownOk Go.Proofs.Tryz.prog (kf145 Go.Proofs.Tryz.prog):=kl145_0_ok.func ok145

/-! ductility/safety.testError -/

abbrev as86:List Ty:=[(.pair (.slice (.int .i64)) (.pair (.slice (.int .i64)) .unit)),(.int .i64)]
abbrev rs86:List Ty:=[(.int .i64)]

def t86 (x0:(List Int)) (x0':(List Int)) (x1:Int):Tr (Tys.data rs86) :=
  Tr.test (Option.isSome (f144 (x0,(x1,()))))
    (Tr.test (Option.isSome (f144 (x0',(x1,()))))
      (let r0:=g144 (x0,(x1,()));
      let r1:=g144 (x0',(x1,()));
      Tr.test (Option.isSome (f79 (([r0.1,r1.1]:List Int),())))
        (let r2:=g79 (([r0.1,r1.1]:List Int),());
        Tr.test ((!eqF r2.1 0:Bool))
          (Tr.fin ((r2.1,())))
          (Tr.test (Option.isSome (f145 (x0,())))
            (Tr.test (Option.isSome (f145 (x0',())))
              (let r3:=g145 (x0,());
              let r4:=g145 (x0',());
              Tr.test (Option.isSome (f80 ((!andV Go.IntKind.u64 r3.1 r4.1 == (0:Int):Bool),((13:Int),()))))
                (let r5:=g80 ((!andV Go.IntKind.u64 r3.1 r4.1 == (0:Int):Bool),((13:Int),()));
                Tr.fin ((r5.1,())))
                (Tr.stop))
              (Tr.stop))
            (Tr.stop)))
        (Tr.stop))
      (Tr.stop))
    (Tr.stop)

def f86 (d:Tys.data as86):Option (Tys.data rs86):=(t86 d.1.1 d.1.2.1 d.2.1).val
def g86 (d:Tys.data as86):Tys.data rs86:=(f86 d).getD (Tys.dflt rs86)
def p86:PureC:=pcOf as86 rs86 f86 g86

theorem wk86 (x0:(List Int)) (x0':(List Int)) (x1:Int):Walks (runPure (kf145 Go.Proofs.Tryz.prog).orc Go.Proofs.Tryz.prog 400 86 as86 rs86 ((x0,x0',()),x1,())) (t86 x0 x0' x1) [(bl 4 15,[2,4,6,8]),(bl 7 119,[2,4,6,8,10,12,14])] :=
  ⟨by kernel_rfl,by kernel_rfl,trivial⟩

theorem ok86_t (x0:(List Int)) (x0':(List Int)) (x1:Int):TrOk (PureRuns Go.Proofs.Tryz.prog (kf145 Go.Proofs.Tryz.prog).orc 86 as86 rs86 ((x0,x0',()),x1,())) (t86 x0 x0' x1) :=
  Walks.ok (fun _ _ _=>PureRuns.of) (wk86 x0 x0' x1) (by kernel_rfl)

theorem ok86:PureOk Go.Proofs.Tryz.prog 86 p86:=pureOk_of kf145_ok.base (T:=fun (d:Tys.data as86)=>t86 d.1.1 d.1.2.1 d.2.1) (by kernel_rfl) (fun (d:Tys.data as86)=>ok86_t d.1.1 d.1.2.1 d.2.1)
def kf86 (P:Go.Program):Known:=(kf145 P).func 86 p86
theorem kf86_ok:KnownOk Go.Proofs.Tryz.prog (kf86 Go.Proofs.Tryz.prog):=kf145_ok.func ok86

/-! loop 0 of ductility/safety.checkItems[string] -/

abbrev sh81_0:Sh:={ n:=25,slots:=[1,9,10,11],pats:=[.fn 82 [(0,3)],.ty (.slice .str),.ty (.int .i64),.ty (.int .i64)],boxes:=[.row [.ty (.slice .str),.ty (.slice (.pair .str (.pair (.pair (.slice (.int .i64)) (.pair (.slice (.int .i64)) .unit)) (.pair (.pair (.slice (.int .i64)) (.pair (.slice (.int .i64)) .unit)) .unit)))),.ty (.slice (.pair (.slice (.int .i64)) (.pair (.slice (.int .i64)) .unit)))]] }
abbrev shb81_0:Sh:={ n:=25,slots:=[],pats:=[],boxes:=[.row [.ty (.slice .str),.ty (.slice (.pair .str (.pair (.pair (.slice (.int .i64)) (.pair (.slice (.int .i64)) .unit)) (.pair (.pair (.slice (.int .i64)) (.pair (.slice (.int .i64)) .unit)) .unit)))),.ty (.slice (.pair (.slice (.int .i64)) (.pair (.slice (.int .i64)) .unit)))]] }
abbrev shr81_0:Sh:={ n:=25,slots:=[4,5],pats:=[.ty (.int .i64),.ty (.int .i64)],boxes:=[.row [.ty (.slice .str),.ty (.slice (.pair .str (.pair (.pair (.slice (.int .i64)) (.pair (.slice (.int .i64)) .unit)) (.pair (.pair (.slice (.int .i64)) (.pair (.slice (.int .i64)) .unit)) .unit)))),.ty (.slice (.pair (.slice (.int .i64)) (.pair (.slice (.int .i64)) .unit)))]] }

def t81_0 (x1:(List ByteArray)) (x2:Int) (x3:Int) (b0_0:(List ByteArray)) (b0_1:(List (ByteArray×(((List Int)×((List Int)×Unit))×(((List Int)×((List Int)×Unit))×Unit))))) (b0_2:(List ((List Int)×((List Int)×Unit)))):Tr (Out sh81_0.data shb81_0.data shr81_0.data) :=
  Tr.test ((!leF x2 x3:Bool))
    (Tr.test (decide ((0:Int) ≤ x3) && decide (x3 < (↑(List.length x1):Int)))
      (Tr.test (Option.isSome (f83 (b0_0,(x3,((5:Int),())))))
        (let r0:=g83 (b0_0,(x3,((5:Int),())));
        Tr.test ((!eqF r0.1 0:Bool))
          (Tr.fin (.ret ((x3,(r0.1,())),((b0_0,(b0_1,(b0_2,()))),()))))
          (Tr.fin (.again ((x1,(x2,((wrap64 (x3 + (1:Int)):Int),()))),((b0_0,(b0_1,(b0_2,()))),())))))
        (Tr.stop))
      (Tr.stop))
    (Tr.fin (.brk ((),((b0_0,(b0_1,(b0_2,()))),()))))

def s81_0 (d:sh81_0.data):Option (Out sh81_0.data shb81_0.data shr81_0.data):=(t81_0 d.1.1 d.1.2.1 d.1.2.2.1 d.2.1.1 d.2.1.2.1 d.2.1.2.2.1).val
def l81_0 (d:sh81_0.data):Option (shb81_0.data ⊕ shr81_0.data):=itr s81_0 rounds d
def b81_0 (d:sh81_0.data):shb81_0.data:=outB shb81_0.dflt (l81_0 d)
def r81_0 (d:sh81_0.data):shr81_0.data:=outR shr81_0.dflt (l81_0 d)
def lc81_0:LoopC:=lcOf sh81_0 shb81_0 shr81_0 l81_0 b81_0 r81_0

theorem wk81_0 (x1:(List ByteArray)) (x2:Int) (x3:Int) (b0_0:(List ByteArray)) (b0_1:(List (ByteArray×(((List Int)×((List Int)×Unit))×(((List Int)×((List Int)×Unit))×Unit))))) (b0_2:(List ((List Int)×((List Int)×Unit)))):Walks (runBody (kf86 Go.Proofs.Tryz.prog).orc Go.Proofs.Tryz.prog 400 81 0 sh81_0 shb81_0 shr81_0 ((x1,x2,x3,()),(b0_0,b0_1,b0_2,()),())) (t81_0 x1 x2 x3 b0_0 b0_1 b0_2) [(bl 4 15,[2,4,6,8]),(bl 4 7,[2,4,6,8]),(bl 1 0,[2])] :=
  ⟨by kernel_rfl,by kernel_rfl,by kernel_rfl,trivial⟩

theorem ok81_0_t (x1:(List ByteArray)) (x2:Int) (x3:Int) (b0_0:(List ByteArray)) (b0_1:(List (ByteArray×(((List Int)×((List Int)×Unit))×(((List Int)×((List Int)×Unit))×Unit))))) (b0_2:(List ((List Int)×((List Int)×Unit)))):TrOk (BodyRuns Go.Proofs.Tryz.prog (kf86 Go.Proofs.Tryz.prog).orc 81 0 sh81_0 shb81_0 shr81_0 ((x1,x2,x3,()),(b0_0,b0_1,b0_2,()),())) (t81_0 x1 x2 x3 b0_0 b0_1 b0_2) :=
  Walks.ok (fun _ _ _=>BodyRuns.of) (wk81_0 x1 x2 x3 b0_0 b0_1 b0_2) (by kernel_rfl)

theorem ok81_0:LoopOk Go.Proofs.Tryz.prog 81 0 lc81_0:=loopOk_of (sh:=sh81_0) (shB:=shb81_0) (shR:=shr81_0) kf86_ok.base (T:=fun (d:sh81_0.data)=>t81_0 d.1.1 d.1.2.1 d.1.2.2.1 d.2.1.1 d.2.1.2.1 d.2.1.2.2.1) (by kernel_rfl) rfl (fun (d:sh81_0.data)=>ok81_0_t d.1.1 d.1.2.1 d.1.2.2.1 d.2.1.1 d.2.1.2.1 d.2.1.2.2.1) (fun _=>rfl)
def kl81_0 (P:Go.Program):Known:=(kf86 P).loop 81 0 lc81_0
theorem kl81_0_ok:KnownOk Go.Proofs.Tryz.prog (kl81_0 Go.Proofs.Tryz.prog):=kf86_ok.loop ok81_0

/-! loop 0 of ductility/safety.CheckMachine -/

abbrev sh16_0:Sh:={ n:=80,slots:=[1,4,9,51,52,53],pats:=[.ptr 0 3 0,.ptr 1 1 0,.ptr 2 1 0,.ty (.slice (.pair .str (.pair (.pair (.slice (.int .i64)) (.pair (.slice (.int .i64)) .unit)) (.pair (.pair (.slice (.int .i64)) (.pair (.slice (.int .i64)) .unit)) .unit)))),.ty (.int .i64),.ty (.int .i64)],boxes:=[.row [.ty (.slice .str),.ty (.slice (.pair .str (.pair (.pair (.slice (.int .i64)) (.pair (.slice (.int .i64)) .unit)) (.pair (.pair (.slice (.int .i64)) (.pair (.slice (.int .i64)) .unit)) .unit)))),.ty (.slice (.pair (.slice (.int .i64)) (.pair (.slice (.int .i64)) .unit)))],.row [.ty (.int .i64)],.row [.acc .str]] }
abbrev shb16_0:Sh:={ n:=80,slots:=[1,4,9],pats:=[.ptr 0 3 0,.ptr 1 1 0,.ptr 2 1 0],boxes:=[.row [.ty (.slice .str),.ty (.slice (.pair .str (.pair (.pair (.slice (.int .i64)) (.pair (.slice (.int .i64)) .unit)) (.pair (.pair (.slice (.int .i64)) (.pair (.slice (.int .i64)) .unit)) .unit)))),.ty (.slice (.pair (.slice (.int .i64)) (.pair (.slice (.int .i64)) .unit)))],.row [.ty (.int .i64)],.row [.acc .str]] }
abbrev shr16_0:Sh:={ n:=80,slots:=[],pats:=[],boxes:=[.row [.ty (.slice .str),.ty (.slice (.pair .str (.pair (.pair (.slice (.int .i64)) (.pair (.slice (.int .i64)) .unit)) (.pair (.pair (.slice (.int .i64)) (.pair (.slice (.int .i64)) .unit)) .unit)))),.ty (.slice (.pair (.slice (.int .i64)) (.pair (.slice (.int .i64)) .unit)))],.row [.ty (.int .i64)],.row [.acc .str]] }

def t16_0 (x3:(List (ByteArray×(((List Int)×((List Int)×Unit))×(((List Int)×((List Int)×Unit))×Unit))))) (x4:Int) (x5:Int) (b0_0:(List ByteArray)) (b0_1:(List (ByteArray×(((List Int)×((List Int)×Unit))×(((List Int)×((List Int)×Unit))×Unit))))) (b0_2:(List ((List Int)×((List Int)×Unit)))) (b1_0:Int) (b2_0:(List ByteArray)):Tr (Out sh16_0.data shb16_0.data shr16_0.data) :=
  Tr.test ((!leF x4 x5:Bool))
    (Tr.test (decide ((0:Int) ≤ x5) && decide (x5 < (↑(List.length x3):Int)))
      (Tr.test ((Nat.ble (((2:Nat) * (List.length b2_0 + (1:Nat)) + (192:Nat)) * (16:Nat)) (281474976710656:Nat) && Nat.ble (List.length b2_0 + (1:Nat)) (281474976710656:Nat):Bool))
        (Tr.fin (.again ((x3,(x4,((wrap64 (x5 + (1:Int)):Int),()))),((b0_0,(b0_1,(b0_2,()))),((b1_0,()),(((b2_0++[(List.getD x3 (Int.toNat x5) ({ data:={ toList:=[] } },([],[],()),([],[],()),())).1]:List ByteArray),()),()))))))
        (Tr.stop))
      (Tr.stop))
    (Tr.fin (.brk ((),((b0_0,(b0_1,(b0_2,()))),((b1_0,()),((b2_0,()),()))))))

def s16_0 (d:sh16_0.data):Option (Out sh16_0.data shb16_0.data shr16_0.data):=(t16_0 d.1.1 d.1.2.1 d.1.2.2.1 d.2.1.1 d.2.1.2.1 d.2.1.2.2.1 d.2.2.1.1 d.2.2.2.1.1).val
def l16_0 (d:sh16_0.data):Option (shb16_0.data ⊕ shr16_0.data):=itr s16_0 rounds d
def b16_0 (d:sh16_0.data):shb16_0.data:=outB shb16_0.dflt (l16_0 d)
def lc16_0:LoopC:=lcB sh16_0 shb16_0 shr16_0 l16_0 b16_0

theorem wk16_0 (x3:(List (ByteArray×(((List Int)×((List Int)×Unit))×(((List Int)×((List Int)×Unit))×Unit))))) (x4:Int) (x5:Int) (b0_0:(List ByteArray)) (b0_1:(List (ByteArray×(((List Int)×((List Int)×Unit))×(((List Int)×((List Int)×Unit))×Unit))))) (b0_2:(List ((List Int)×((List Int)×Unit)))) (b1_0:Int) (b2_0:(List ByteArray)):Walks (runBody (kl81_0 Go.Proofs.Tryz.prog).orc Go.Proofs.Tryz.prog 400 16 0 sh16_0 shb16_0 shr16_0 ((x3,x4,x5,()),(b0_0,b0_1,b0_2,()),(b1_0,()),(b2_0,()),())) (t16_0 x3 x4 x5 b0_0 b0_1 b0_2 b1_0 b2_0) [(bl 3 7,[2,4,6]),(bl 1 0,[2])] :=
  ⟨by kernel_rfl,by kernel_rfl,trivial⟩

theorem ok16_0_t (x3:(List (ByteArray×(((List Int)×((List Int)×Unit))×(((List Int)×((List Int)×Unit))×Unit))))) (x4:Int) (x5:Int) (b0_0:(List ByteArray)) (b0_1:(List (ByteArray×(((List Int)×((List Int)×Unit))×(((List Int)×((List Int)×Unit))×Unit))))) (b0_2:(List ((List Int)×((List Int)×Unit)))) (b1_0:Int) (b2_0:(List ByteArray)):TrOk (BodyRuns Go.Proofs.Tryz.prog (kl81_0 Go.Proofs.Tryz.prog).orc 16 0 sh16_0 shb16_0 shr16_0 ((x3,x4,x5,()),(b0_0,b0_1,b0_2,()),(b1_0,()),(b2_0,()),())) (t16_0 x3 x4 x5 b0_0 b0_1 b0_2 b1_0 b2_0) :=
  Walks.ok (fun _ _ _=>BodyRuns.of) (wk16_0 x3 x4 x5 b0_0 b0_1 b0_2 b1_0 b2_0) (by kernel_rfl)

theorem ok16_0:LoopOk Go.Proofs.Tryz.prog 16 0 lc16_0:=loopOk_ofB (sh:=sh16_0) (shB:=shb16_0) (shR:=shr16_0) kl81_0_ok.base (T:=fun (d:sh16_0.data)=>t16_0 d.1.1 d.1.2.1 d.1.2.2.1 d.2.1.1 d.2.1.2.1 d.2.1.2.2.1 d.2.2.1.1 d.2.2.2.1.1) (by kernel_rfl) rfl (fun (d:sh16_0.data)=>ok16_0_t d.1.1 d.1.2.1 d.1.2.2.1 d.2.1.1 d.2.1.2.1 d.2.1.2.2.1 d.2.2.1.1 d.2.2.2.1.1) (fun _=>rfl)
def kl16_0 (P:Go.Program):Known:=(kl81_0 P).loop 16 0 lc16_0
theorem kl16_0_ok:KnownOk Go.Proofs.Tryz.prog (kl16_0 Go.Proofs.Tryz.prog):=kl81_0_ok.loop ok16_0

/-! loop 0 of ductility/safety.checkItems[ductility/api.SafetyAction] -/

abbrev sh84_0:Sh:={ n:=25,slots:=[1,9,10,11],pats:=[.fn 85 [(0,1),(1,1)],.ty (.slice (.pair .str (.pair (.pair (.slice (.int .i64)) (.pair (.slice (.int .i64)) .unit)) (.pair (.pair (.slice (.int .i64)) (.pair (.slice (.int .i64)) .unit)) .unit)))),.ty (.int .i64),.ty (.int .i64)],boxes:=[.row [.acc .str],.row [.ty (.int .i64)]] }
abbrev shb84_0:Sh:={ n:=25,slots:=[],pats:=[],boxes:=[.row [.acc .str],.row [.ty (.int .i64)]] }
abbrev shr84_0:Sh:={ n:=25,slots:=[4,5],pats:=[.ty (.int .i64),.ty (.int .i64)],boxes:=[.row [.acc .str],.row [.ty (.int .i64)]] }

def t84_0 (x1:(List (ByteArray×(((List Int)×((List Int)×Unit))×(((List Int)×((List Int)×Unit))×Unit))))) (x2:Int) (x3:Int) (b0_0:(List ByteArray)) (b1_0:Int):Tr (Out sh84_0.data shb84_0.data shr84_0.data) :=
  Tr.test ((!leF x2 x3:Bool))
    (Tr.test (decide ((0:Int) ≤ x3) && decide (x3 < (↑(List.length x1):Int)))
      (Tr.test (Option.isSome (f83 (b0_0,(x3,((5:Int),())))))
        (Tr.test (Option.isSome (f86 ((((List.getD x1 (Int.toNat x3) ({ data:={ toList:=[] } },([],[],()),([],[],()),())).2.1.1:List Int),(((List.getD x1 (Int.toNat x3) ({ data:={ toList:=[] } },([],[],()),([],[],()),())).2.1.2.1:List Int),())),(b1_0,()))))
          (Tr.test (Option.isSome (f86 ((((List.getD x1 (Int.toNat x3) ({ data:={ toList:=[] } },([],[],()),([],[],()),())).2.2.1.1:List Int),(((List.getD x1 (Int.toNat x3) ({ data:={ toList:=[] } },([],[],()),([],[],()),())).2.2.1.2.1:List Int),())),(b1_0,()))))
            (let r0:=g83 (b0_0,(x3,((5:Int),())));
            let r1:=g86 ((((List.getD x1 (Int.toNat x3) ({ data:={ toList:=[] } },([],[],()),([],[],()),())).2.1.1:List Int),(((List.getD x1 (Int.toNat x3) ({ data:={ toList:=[] } },([],[],()),([],[],()),())).2.1.2.1:List Int),())),(b1_0,()));
            let r2:=g86 ((((List.getD x1 (Int.toNat x3) ({ data:={ toList:=[] } },([],[],()),([],[],()),())).2.2.1.1:List Int),(((List.getD x1 (Int.toNat x3) ({ data:={ toList:=[] } },([],[],()),([],[],()),())).2.2.1.2.1:List Int),())),(b1_0,()));
            Tr.test (Option.isSome (f79 (([r0.1,r1.1,r2.1]:List Int),())))
              (let r3:=g79 (([r0.1,r1.1,r2.1]:List Int),());
              Tr.test ((!eqF r3.1 0:Bool))
                (Tr.fin (.ret ((x3,(r3.1,())),((b0_0,()),((b1_0,()),())))))
                (Tr.fin (.again ((x1,(x2,((wrap64 (x3 + (1:Int)):Int),()))),((b0_0,()),((b1_0,()),()))))))
              (Tr.stop))
            (Tr.stop))
          (Tr.stop))
        (Tr.stop))
      (Tr.stop))
    (Tr.fin (.brk ((),((b0_0,()),((b1_0,()),())))))

def s84_0 (d:sh84_0.data):Option (Out sh84_0.data shb84_0.data shr84_0.data):=(t84_0 d.1.1 d.1.2.1 d.1.2.2.1 d.2.1.1 d.2.2.1.1).val
def l84_0 (d:sh84_0.data):Option (shb84_0.data ⊕ shr84_0.data):=itr s84_0 rounds d
def b84_0 (d:sh84_0.data):shb84_0.data:=outB shb84_0.dflt (l84_0 d)
def r84_0 (d:sh84_0.data):shr84_0.data:=outR shr84_0.dflt (l84_0 d)
def lc84_0:LoopC:=lcOf sh84_0 shb84_0 shr84_0 l84_0 b84_0 r84_0

theorem wk84_0 (x1:(List (ByteArray×(((List Int)×((List Int)×Unit))×(((List Int)×((List Int)×Unit))×Unit))))) (x2:Int) (x3:Int) (b0_0:(List ByteArray)) (b1_0:Int):Walks (runBody (kl16_0 Go.Proofs.Tryz.prog).orc Go.Proofs.Tryz.prog 400 84 0 sh84_0 shb84_0 shr84_0 ((x1,x2,x3,()),(b0_0,()),(b1_0,()),())) (t84_0 x1 x2 x3 b0_0 b1_0) [(bl 7 127,[2,4,6,8,10,12,14]),(bl 7 63,[2,4,6,8,10,12,14]),(bl 1 0,[2])] :=
  ⟨by kernel_rfl,by kernel_rfl,by kernel_rfl,trivial⟩

theorem ok84_0_t (x1:(List (ByteArray×(((List Int)×((List Int)×Unit))×(((List Int)×((List Int)×Unit))×Unit))))) (x2:Int) (x3:Int) (b0_0:(List ByteArray)) (b1_0:Int):TrOk (BodyRuns Go.Proofs.Tryz.prog (kl16_0 Go.Proofs.Tryz.prog).orc 84 0 sh84_0 shb84_0 shr84_0 ((x1,x2,x3,()),(b0_0,()),(b1_0,()),())) (t84_0 x1 x2 x3 b0_0 b1_0) :=
  Walks.ok (fun _ _ _=>BodyRuns.of) (wk84_0 x1 x2 x3 b0_0 b1_0) (by kernel_rfl)

theorem ok84_0:LoopOk Go.Proofs.Tryz.prog 84 0 lc84_0:=loopOk_of (sh:=sh84_0) (shB:=shb84_0) (shR:=shr84_0) kl16_0_ok.base (T:=fun (d:sh84_0.data)=>t84_0 d.1.1 d.1.2.1 d.1.2.2.1 d.2.1.1 d.2.2.1.1) (by kernel_rfl) rfl (fun (d:sh84_0.data)=>ok84_0_t d.1.1 d.1.2.1 d.1.2.2.1 d.2.1.1 d.2.2.1.1) (fun _=>rfl)
def kl84_0 (P:Go.Program):Known:=(kl16_0 P).loop 84 0 lc84_0
theorem kl84_0_ok:KnownOk Go.Proofs.Tryz.prog (kl84_0 Go.Proofs.Tryz.prog):=kl16_0_ok.loop ok84_0

/-! loop 0 of ductility/safety.checkItems[ductility/api.SafetyTest] -/

abbrev sh87_0:Sh:={ n:=25,slots:=[1,9,10,11],pats:=[.fn 88 [(0,1)],.ty (.slice (.pair (.slice (.int .i64)) (.pair (.slice (.int .i64)) .unit))),.ty (.int .i64),.ty (.int .i64)],boxes:=[.row [.ty (.int .i64)]] }
abbrev shb87_0:Sh:={ n:=25,slots:=[],pats:=[],boxes:=[.row [.ty (.int .i64)]] }
abbrev shr87_0:Sh:={ n:=25,slots:=[4,5],pats:=[.ty (.int .i64),.ty (.int .i64)],boxes:=[.row [.ty (.int .i64)]] }

def t87_0 (x1:(List ((List Int)×((List Int)×Unit)))) (x2:Int) (x3:Int) (b0_0:Int):Tr (Out sh87_0.data shb87_0.data shr87_0.data) :=
  Tr.test ((!leF x2 x3:Bool))
    (Tr.test (decide ((0:Int) ≤ x3) && decide (x3 < (↑(List.length x1):Int)))
      (Tr.test (Option.isSome (f86 ((((List.getD x1 (Int.toNat x3) ([],[],())).1:List Int),(((List.getD x1 (Int.toNat x3) ([],[],())).2.1:List Int),())),(b0_0,()))))
        (let r0:=g86 ((((List.getD x1 (Int.toNat x3) ([],[],())).1:List Int),(((List.getD x1 (Int.toNat x3) ([],[],())).2.1:List Int),())),(b0_0,()));
        Tr.test ((!eqF r0.1 0:Bool))
          (Tr.fin (.ret ((x3,(r0.1,())),((b0_0,()),()))))
          (Tr.fin (.again ((x1,(x2,((wrap64 (x3 + (1:Int)):Int),()))),((b0_0,()),())))))
        (Tr.stop))
      (Tr.stop))
    (Tr.fin (.brk ((),((b0_0,()),()))))

def s87_0 (d:sh87_0.data):Option (Out sh87_0.data shb87_0.data shr87_0.data):=(t87_0 d.1.1 d.1.2.1 d.1.2.2.1 d.2.1.1).val
def l87_0 (d:sh87_0.data):Option (shb87_0.data ⊕ shr87_0.data):=itr s87_0 rounds d
def b87_0 (d:sh87_0.data):shb87_0.data:=outB shb87_0.dflt (l87_0 d)
def r87_0 (d:sh87_0.data):shr87_0.data:=outR shr87_0.dflt (l87_0 d)
def lc87_0:LoopC:=lcOf sh87_0 shb87_0 shr87_0 l87_0 b87_0 r87_0

theorem wk87_0 (x1:(List ((List Int)×((List Int)×Unit)))) (x2:Int) (x3:Int) (b0_0:Int):Walks (runBody (kl84_0 Go.Proofs.Tryz.prog).orc Go.Proofs.Tryz.prog 400 87 0 sh87_0 shb87_0 shr87_0 ((x1,x2,x3,()),(b0_0,()),())) (t87_0 x1 x2 x3 b0_0) [(bl 4 15,[2,4,6,8]),(bl 4 7,[2,4,6,8]),(bl 1 0,[2])] :=
  ⟨by kernel_rfl,by kernel_rfl,by kernel_rfl,trivial⟩

theorem ok87_0_t (x1:(List ((List Int)×((List Int)×Unit)))) (x2:Int) (x3:Int) (b0_0:Int):TrOk (BodyRuns Go.Proofs.Tryz.prog (kl84_0 Go.Proofs.Tryz.prog).orc 87 0 sh87_0 shb87_0 shr87_0 ((x1,x2,x3,()),(b0_0,()),())) (t87_0 x1 x2 x3 b0_0) :=
  Walks.ok (fun _ _ _=>BodyRuns.of) (wk87_0 x1 x2 x3 b0_0) (by kernel_rfl)

theorem ok87_0:LoopOk Go.Proofs.Tryz.prog 87 0 lc87_0:=loopOk_of (sh:=sh87_0) (shB:=shb87_0) (shR:=shr87_0) kl84_0_ok.base (T:=fun (d:sh87_0.data)=>t87_0 d.1.1 d.1.2.1 d.1.2.2.1 d.2.1.1) (by kernel_rfl) rfl (fun (d:sh87_0.data)=>ok87_0_t d.1.1 d.1.2.1 d.1.2.2.1 d.2.1.1) (fun _=>rfl)
def kl87_0 (P:Go.Program):Known:=(kl84_0 P).loop 87 0 lc87_0
theorem kl87_0_ok:KnownOk Go.Proofs.Tryz.prog (kl87_0 Go.Proofs.Tryz.prog):=kl84_0_ok.loop ok87_0

end Go.Vm.Mo
