import Derived.Test.YtiodahganfihkaaGreatA4
import Derived.Test.YtiodahganfihkaaGreatA5
import Derived.KernelRfl
import Derived.Test.YtiodahganfihkaaGreatProg
import Derived.Test.YtiodahganfihkaaGreatRsFf
set_option linter.unusedVariables false
set_option linter.unusedSimpArgs false

namespace Go.Vm.Mo
open Go
set_option linter.unusedVariables false

/-! loop 2 of ductility/ductilityref09.Holds -/

abbrev sh100_2:Sh:={ n:=39,slots:=[1,2,6],pats:=[.ty (.int .i64),.ptr 0 2 0,.ty (.int .i64)],boxes:=[.row [.ty (.slice (.int .i64)),.ty (.slice (.int .i64))]] }
abbrev shb100_2:Sh:={ n:=39,slots:=[],pats:=[],boxes:=[.row [.ty (.slice (.int .i64)),.ty (.slice (.int .i64))]] }
abbrev shr100_2:Sh:={ n:=39,slots:=[4],pats:=[.ty .bool],boxes:=[.row [.ty (.slice (.int .i64)),.ty (.slice (.int .i64))]] }

def t100_2 (x0:Int) (x2:Int) (b0_0:(List Int)) (b0_1:(List Int)):Tr (Out sh100_2.data shb100_2.data shr100_2.data) :=
  Tr.test ((!leF (↑(List.length b0_1):Int) x2:Bool))
    (Tr.test (decide ((0:Int) ≤ x2) && decide (x2 < (↑(List.length b0_1):Int)))
      (Tr.test ((decide (List.getD b0_1 (Int.toNat x2) (0:Int) < (0:Int)):Bool))
        (Tr.stop)
        (Tr.test ((eqF (andV Go.IntKind.i64 (shrV Go.IntKind.i64 x0 (List.getD b0_1 (Int.toNat x2) (0:Int))) (1:Int)) (1:Int):Bool))
          (Tr.fin (.ret (((false:Bool),()),((b0_0,(b0_1,())),()))))
          (Tr.fin (.again ((x0,((wrap64 (x2 + (1:Int)):Int),())),((b0_0,(b0_1,())),()))))))
      (Tr.stop))
    (Tr.fin (.brk ((),((b0_0,(b0_1,())),()))))

def s100_2 (d:sh100_2.data):Option (Out sh100_2.data shb100_2.data shr100_2.data):=(t100_2 d.1.1 d.1.2.1 d.2.1.1 d.2.1.2.1).val
def l100_2 (d:sh100_2.data):Option (shb100_2.data ⊕ shr100_2.data):=itr s100_2 rounds d
def b100_2 (d:sh100_2.data):shb100_2.data:=outB shb100_2.dflt (l100_2 d)
def r100_2 (d:sh100_2.data):shr100_2.data:=outR shr100_2.dflt (l100_2 d)
def lc100_2:LoopC:=lcOf sh100_2 shb100_2 shr100_2 l100_2 b100_2 r100_2

theorem wk100_2 (x0:Int) (x2:Int) (b0_0:(List Int)) (b0_1:(List Int)):Walks (runBody (kl100_0 Go.Proofs.Tryz.prog).orc Go.Proofs.Tryz.prog 400 100 2 sh100_2 shb100_2 shr100_2 ((x0,x2,()),(b0_0,b0_1,()),())) (t100_2 x0 x2 b0_0 b0_1) [(bl 4 11,[2,4,6,8]),(bl 4 3,[2,4,6,8]),(bl 1 0,[2])] :=
  ⟨by kernel_rfl,by kernel_rfl,by kernel_rfl,trivial⟩

theorem ok100_2_t (x0:Int) (x2:Int) (b0_0:(List Int)) (b0_1:(List Int)):TrOk (BodyRuns Go.Proofs.Tryz.prog (kl100_0 Go.Proofs.Tryz.prog).orc 100 2 sh100_2 shb100_2 shr100_2 ((x0,x2,()),(b0_0,b0_1,()),())) (t100_2 x0 x2 b0_0 b0_1) :=
  Walks.ok (fun _ _ _=>BodyRuns.of) (wk100_2 x0 x2 b0_0 b0_1) (by kernel_rfl)

theorem ok100_2:LoopOk Go.Proofs.Tryz.prog 100 2 lc100_2:=loopOk_of (sh:=sh100_2) (shB:=shb100_2) (shR:=shr100_2) kl100_0_ok.base (T:=fun (d:sh100_2.data)=>t100_2 d.1.1 d.1.2.1 d.2.1.1 d.2.1.2.1) (by kernel_rfl) rfl (fun (d:sh100_2.data)=>ok100_2_t d.1.1 d.1.2.1 d.2.1.1 d.2.1.2.1) (fun _=>rfl)
def kl100_2 (P:Go.Program):Known:=(kl100_0 P).loop 100 2 lc100_2
theorem kl100_2_ok:KnownOk Go.Proofs.Tryz.prog (kl100_2 Go.Proofs.Tryz.prog):=kl100_0_ok.loop ok100_2

/-! ductility/ductilityref09.Holds -/

abbrev as100:List Ty:=[(.pair (.slice (.int .i64)) (.pair (.slice (.int .i64)) .unit)),(.int .i64)]
abbrev rs100:List Ty:=[.bool]

def t100 (x0:(List Int)) (x0':(List Int)) (x1:Int):Tr (Tys.data rs100) :=
  Tr.test (Option.isSome (l100_0 ((x1,((0:Int),())),((x0,(x0',())),()))))
    (Tr.test (isRet (l100_0 ((x1,((0:Int),())),((x0,(x0',())),()))))
      (let r0:=r100_0 ((x1,((0:Int),())),((x0,(x0',())),()));
      Tr.fin ((r0.1.1,())))
      (let r1:=b100_0 ((x1,((0:Int),())),((x0,(x0',())),()));
      Tr.test (Option.isSome (l100_2 ((r1.1.1,((0:Int),())),((r1.2.1.1,(r1.2.1.2.1,())),()))))
        (Tr.test (isRet (l100_2 ((r1.1.1,((0:Int),())),((r1.2.1.1,(r1.2.1.2.1,())),()))))
          (let r2:=r100_2 ((r1.1.1,((0:Int),())),((r1.2.1.1,(r1.2.1.2.1,())),()));
          Tr.fin ((r2.1.1,())))
          (Tr.fin (((true:Bool),()))))
        (Tr.stop)))
    (Tr.stop)

def f100 (d:Tys.data as100):Option (Tys.data rs100):=(t100 d.1.1 d.1.2.1 d.2.1).val
def g100 (d:Tys.data as100):Tys.data rs100:=(f100 d).getD (Tys.dflt rs100)
def p100:PureC:=pcOf as100 rs100 f100 g100

theorem wk100 (x0:(List Int)) (x0':(List Int)) (x1:Int):Walks (runPure (kl100_2 Go.Proofs.Tryz.prog).orc Go.Proofs.Tryz.prog 400 100 as100 rs100 ((x0,x0',()),x1,())) (t100 x0 x0' x1) [(bl 2 3,[2,4]),(bl 4 13,[2,4,6,8]),(bl 4 5,[2,4,6,8])] :=
  ⟨by kernel_rfl,by kernel_rfl,by kernel_rfl,trivial⟩

theorem ok100_t (x0:(List Int)) (x0':(List Int)) (x1:Int):TrOk (PureRuns Go.Proofs.Tryz.prog (kl100_2 Go.Proofs.Tryz.prog).orc 100 as100 rs100 ((x0,x0',()),x1,())) (t100 x0 x0' x1) :=
  Walks.ok (fun _ _ _=>PureRuns.of) (wk100 x0 x0' x1) (by kernel_rfl)

theorem ok100:PureOk Go.Proofs.Tryz.prog 100 p100:=pureOk_of kl100_2_ok.base (T:=fun (d:Tys.data as100)=>t100 d.1.1 d.1.2.1 d.2.1) (by kernel_rfl) (fun (d:Tys.data as100)=>ok100_t d.1.1 d.1.2.1 d.2.1)
def kf100 (P:Go.Program):Known:=(kl100_2 P).func 100 p100
theorem kf100_ok:KnownOk Go.Proofs.Tryz.prog (kf100 Go.Proofs.Tryz.prog):=kl100_2_ok.func ok100

/-! loop 0 of ductility/ductilityref09.IsHarm -/

abbrev sh32_0:Sh:={ n:=20,slots:=[1,2,5],pats:=[.ty (.int .i64),.ptr 0 3 0,.ty (.int .i64)],boxes:=[.row [.ty (.slice .str),.ty (.slice (.pair .str (.pair (.pair (.slice (.int .i64)) (.pair (.slice (.int .i64)) .unit)) (.pair (.pair (.slice (.int .i64)) (.pair (.slice (.int .i64)) .unit)) .unit)))),.ty (.slice (.pair (.slice (.int .i64)) (.pair (.slice (.int .i64)) .unit)))]] }
abbrev shb32_0:Sh:={ n:=20,slots:=[],pats:=[],boxes:=[.row [.ty (.slice .str),.ty (.slice (.pair .str (.pair (.pair (.slice (.int .i64)) (.pair (.slice (.int .i64)) .unit)) (.pair (.pair (.slice (.int .i64)) (.pair (.slice (.int .i64)) .unit)) .unit)))),.ty (.slice (.pair (.slice (.int .i64)) (.pair (.slice (.int .i64)) .unit)))]] }
abbrev shr32_0:Sh:={ n:=20,slots:=[4],pats:=[.ty .bool],boxes:=[.row [.ty (.slice .str),.ty (.slice (.pair .str (.pair (.pair (.slice (.int .i64)) (.pair (.slice (.int .i64)) .unit)) (.pair (.pair (.slice (.int .i64)) (.pair (.slice (.int .i64)) .unit)) .unit)))),.ty (.slice (.pair (.slice (.int .i64)) (.pair (.slice (.int .i64)) .unit)))]] }

def t32_0 (x0:Int) (x2:Int) (b0_0:(List ByteArray)) (b0_1:(List (ByteArray×(((List Int)×((List Int)×Unit))×(((List Int)×((List Int)×Unit))×Unit))))) (b0_2:(List ((List Int)×((List Int)×Unit)))):Tr (Out sh32_0.data shb32_0.data shr32_0.data) :=
  Tr.test ((!leF (↑(List.length b0_2):Int) x2:Bool))
    (Tr.test (decide ((0:Int) ≤ x2) && decide (x2 < (↑(List.length b0_2):Int)))
      (Tr.test (Option.isSome (f100 ((((List.getD b0_2 (Int.toNat x2) ([],[],())).1:List Int),(((List.getD b0_2 (Int.toNat x2) ([],[],())).2.1:List Int),())),(x0,()))))
        (let r0:=g100 ((((List.getD b0_2 (Int.toNat x2) ([],[],())).1:List Int),(((List.getD b0_2 (Int.toNat x2) ([],[],())).2.1:List Int),())),(x0,()));
        Tr.test (r0.1)
          (Tr.fin (.ret (((true:Bool),()),((b0_0,(b0_1,(b0_2,()))),()))))
          (Tr.fin (.again ((x0,((wrap64 (x2 + (1:Int)):Int),())),((b0_0,(b0_1,(b0_2,()))),())))))
        (Tr.stop))
      (Tr.stop))
    (Tr.fin (.brk ((),((b0_0,(b0_1,(b0_2,()))),()))))

def s32_0 (d:sh32_0.data):Option (Out sh32_0.data shb32_0.data shr32_0.data):=(t32_0 d.1.1 d.1.2.1 d.2.1.1 d.2.1.2.1 d.2.1.2.2.1).val
def l32_0 (d:sh32_0.data):Option (shb32_0.data ⊕ shr32_0.data):=itr s32_0 rounds d
def b32_0 (d:sh32_0.data):shb32_0.data:=outB shb32_0.dflt (l32_0 d)
def r32_0 (d:sh32_0.data):shr32_0.data:=outR shr32_0.dflt (l32_0 d)
def lc32_0:LoopC:=lcOf sh32_0 shb32_0 shr32_0 l32_0 b32_0 r32_0

theorem wk32_0 (x0:Int) (x2:Int) (b0_0:(List ByteArray)) (b0_1:(List (ByteArray×(((List Int)×((List Int)×Unit))×(((List Int)×((List Int)×Unit))×Unit))))) (b0_2:(List ((List Int)×((List Int)×Unit)))):Walks (runBody (kf100 Go.Proofs.Tryz.prog).orc Go.Proofs.Tryz.prog 400 32 0 sh32_0 shb32_0 shr32_0 ((x0,x2,()),(b0_0,b0_1,b0_2,()),())) (t32_0 x0 x2 b0_0 b0_1 b0_2) [(bl 4 15,[2,4,6,8]),(bl 4 7,[2,4,6,8]),(bl 1 0,[2])] :=
  ⟨by kernel_rfl,by kernel_rfl,by kernel_rfl,trivial⟩

theorem ok32_0_t (x0:Int) (x2:Int) (b0_0:(List ByteArray)) (b0_1:(List (ByteArray×(((List Int)×((List Int)×Unit))×(((List Int)×((List Int)×Unit))×Unit))))) (b0_2:(List ((List Int)×((List Int)×Unit)))):TrOk (BodyRuns Go.Proofs.Tryz.prog (kf100 Go.Proofs.Tryz.prog).orc 32 0 sh32_0 shb32_0 shr32_0 ((x0,x2,()),(b0_0,b0_1,b0_2,()),())) (t32_0 x0 x2 b0_0 b0_1 b0_2) :=
  Walks.ok (fun _ _ _=>BodyRuns.of) (wk32_0 x0 x2 b0_0 b0_1 b0_2) (by kernel_rfl)

theorem ok32_0:LoopOk Go.Proofs.Tryz.prog 32 0 lc32_0:=loopOk_of (sh:=sh32_0) (shB:=shb32_0) (shR:=shr32_0) kf100_ok.base (T:=fun (d:sh32_0.data)=>t32_0 d.1.1 d.1.2.1 d.2.1.1 d.2.1.2.1 d.2.1.2.2.1) (by kernel_rfl) rfl (fun (d:sh32_0.data)=>ok32_0_t d.1.1 d.1.2.1 d.2.1.1 d.2.1.2.1 d.2.1.2.2.1) (fun _=>rfl)
def kl32_0 (P:Go.Program):Known:=(kf100 P).loop 32 0 lc32_0
theorem kl32_0_ok:KnownOk Go.Proofs.Tryz.prog (kl32_0 Go.Proofs.Tryz.prog):=kf100_ok.loop ok32_0

/-! ductility/ductilityref09.IsHarm -/

abbrev as32:List Ty:=[(.pair (.slice .str) (.pair (.slice (.pair .str (.pair (.pair (.slice (.int .i64)) (.pair (.slice (.int .i64)) .unit)) (.pair (.pair (.slice (.int .i64)) (.pair (.slice (.int .i64)) .unit)) .unit)))) (.pair (.slice (.pair (.slice (.int .i64)) (.pair (.slice (.int .i64)) .unit))) .unit))),(.int .i64)]
abbrev rs32:List Ty:=[.bool]

def t32 (x0:(List ByteArray)) (x0':(List (ByteArray×(((List Int)×((List Int)×Unit))×(((List Int)×((List Int)×Unit))×Unit))))) (x0'':(List ((List Int)×((List Int)×Unit)))) (x1:Int):Tr (Tys.data rs32) :=
  Tr.test (Option.isSome (l32_0 ((x1,((0:Int),())),((x0,(x0',(x0'',()))),()))))
    (Tr.test (isRet (l32_0 ((x1,((0:Int),())),((x0,(x0',(x0'',()))),()))))
      (let r0:=r32_0 ((x1,((0:Int),())),((x0,(x0',(x0'',()))),()));
      Tr.fin ((r0.1.1,())))
      (Tr.fin (((false:Bool),()))))
    (Tr.stop)

def f32 (d:Tys.data as32):Option (Tys.data rs32):=(t32 d.1.1 d.1.2.1 d.1.2.2.1 d.2.1).val
def g32 (d:Tys.data as32):Tys.data rs32:=(f32 d).getD (Tys.dflt rs32)
def p32:PureC:=pcOf as32 rs32 f32 g32

theorem wk32 (x0:(List ByteArray)) (x0':(List (ByteArray×(((List Int)×((List Int)×Unit))×(((List Int)×((List Int)×Unit))×Unit))))) (x0'':(List ((List Int)×((List Int)×Unit)))) (x1:Int):Walks (runPure (kl32_0 Go.Proofs.Tryz.prog).orc Go.Proofs.Tryz.prog 400 32 as32 rs32 ((x0,x0',x0'',()),x1,())) (t32 x0 x0' x0'' x1) [(bl 2 3,[2,4]),(bl 2 1,[2,4])] :=
  ⟨by kernel_rfl,by kernel_rfl,trivial⟩

theorem ok32_t (x0:(List ByteArray)) (x0':(List (ByteArray×(((List Int)×((List Int)×Unit))×(((List Int)×((List Int)×Unit))×Unit))))) (x0'':(List ((List Int)×((List Int)×Unit)))) (x1:Int):TrOk (PureRuns Go.Proofs.Tryz.prog (kl32_0 Go.Proofs.Tryz.prog).orc 32 as32 rs32 ((x0,x0',x0'',()),x1,())) (t32 x0 x0' x0'' x1) :=
  Walks.ok (fun _ _ _=>PureRuns.of) (wk32 x0 x0' x0'' x1) (by kernel_rfl)

theorem ok32:PureOk Go.Proofs.Tryz.prog 32 p32:=pureOk_of kl32_0_ok.base (T:=fun (d:Tys.data as32)=>t32 d.1.1 d.1.2.1 d.1.2.2.1 d.2.1) (by kernel_rfl) (fun (d:Tys.data as32)=>ok32_t d.1.1 d.1.2.1 d.1.2.2.1 d.2.1)
def kf32 (P:Go.Program):Known:=(kl32_0 P).func 32 p32
theorem kf32_ok:KnownOk Go.Proofs.Tryz.prog (kf32 Go.Proofs.Tryz.prog):=kl32_0_ok.func ok32

/-! loop 0 of ductility/ductilityref09.Next -/

abbrev sh26_0:Sh:={ n:=66,slots:=[1,8,9],pats:=[.ty (.int .i64),.ptr 0 5 0,.ty (.int .i64)],boxes:=[.row [.ty .str,.ty (.slice (.int .i64)),.ty (.slice (.int .i64)),.ty (.slice (.int .i64)),.ty (.slice (.int .i64))]] }
abbrev shb26_0:Sh:={ n:=66,slots:=[1,8],pats:=[.ty (.int .i64),.ptr 0 5 0],boxes:=[.row [.ty .str,.ty (.slice (.int .i64)),.ty (.slice (.int .i64)),.ty (.slice (.int .i64)),.ty (.slice (.int .i64))]] }
abbrev shr26_0:Sh:={ n:=66,slots:=[],pats:=[],boxes:=[.row [.ty .str,.ty (.slice (.int .i64)),.ty (.slice (.int .i64)),.ty (.slice (.int .i64)),.ty (.slice (.int .i64))]] }

def t26_0 (x0:Int) (x2:Int) (b0_0:ByteArray) (b0_1:(List Int)) (b0_2:(List Int)) (b0_3:(List Int)) (b0_4:(List Int)):Tr (Out sh26_0.data shb26_0.data shr26_0.data) :=
  Tr.test ((!leF (↑(List.length b0_3):Int) x2:Bool))
    (Tr.test (decide ((0:Int) ≤ x2) && decide (x2 < (↑(List.length b0_3):Int)))
      (Tr.test ((decide (List.getD b0_3 (Int.toNat x2) (0:Int) < (0:Int)):Bool))
        (Tr.stop)
        (Tr.fin (.again (((orV Go.IntKind.i64 x0 (shlV Go.IntKind.i64 (1:Int) (List.getD b0_3 (Int.toNat x2) (0:Int))):Int),((wrap64 (x2 + (1:Int)):Int),())),((b0_0,(b0_1,(b0_2,(b0_3,(b0_4,()))))),())))))
      (Tr.stop))
    (Tr.fin (.brk ((x0,()),((b0_0,(b0_1,(b0_2,(b0_3,(b0_4,()))))),()))))

def s26_0 (d:sh26_0.data):Option (Out sh26_0.data shb26_0.data shr26_0.data):=(t26_0 d.1.1 d.1.2.1 d.2.1.1 d.2.1.2.1 d.2.1.2.2.1 d.2.1.2.2.2.1 d.2.1.2.2.2.2.1).val
def l26_0 (d:sh26_0.data):Option (shb26_0.data ⊕ shr26_0.data):=itr s26_0 rounds d
def b26_0 (d:sh26_0.data):shb26_0.data:=outB shb26_0.dflt (l26_0 d)
def lc26_0:LoopC:=lcB sh26_0 shb26_0 shr26_0 l26_0 b26_0

theorem wk26_0 (x0:Int) (x2:Int) (b0_0:ByteArray) (b0_1:(List Int)) (b0_2:(List Int)) (b0_3:(List Int)) (b0_4:(List Int)):Walks (runBody (kf32 Go.Proofs.Tryz.prog).orc Go.Proofs.Tryz.prog 400 26 0 sh26_0 shb26_0 shr26_0 ((x0,x2,()),(b0_0,b0_1,b0_2,b0_3,b0_4,()),())) (t26_0 x0 x2 b0_0 b0_1 b0_2 b0_3 b0_4) [(bl 3 3,[2,4,6]),(bl 1 0,[2])] :=
  ⟨by kernel_rfl,by kernel_rfl,trivial⟩

theorem ok26_0_t (x0:Int) (x2:Int) (b0_0:ByteArray) (b0_1:(List Int)) (b0_2:(List Int)) (b0_3:(List Int)) (b0_4:(List Int)):TrOk (BodyRuns Go.Proofs.Tryz.prog (kf32 Go.Proofs.Tryz.prog).orc 26 0 sh26_0 shb26_0 shr26_0 ((x0,x2,()),(b0_0,b0_1,b0_2,b0_3,b0_4,()),())) (t26_0 x0 x2 b0_0 b0_1 b0_2 b0_3 b0_4) :=
  Walks.ok (fun _ _ _=>BodyRuns.of) (wk26_0 x0 x2 b0_0 b0_1 b0_2 b0_3 b0_4) (by kernel_rfl)

theorem ok26_0:LoopOk Go.Proofs.Tryz.prog 26 0 lc26_0:=loopOk_ofB (sh:=sh26_0) (shB:=shb26_0) (shR:=shr26_0) kf32_ok.base (T:=fun (d:sh26_0.data)=>t26_0 d.1.1 d.1.2.1 d.2.1.1 d.2.1.2.1 d.2.1.2.2.1 d.2.1.2.2.2.1 d.2.1.2.2.2.2.1) (by kernel_rfl) rfl (fun (d:sh26_0.data)=>ok26_0_t d.1.1 d.1.2.1 d.2.1.1 d.2.1.2.1 d.2.1.2.2.1 d.2.1.2.2.2.1 d.2.1.2.2.2.2.1) (fun _=>rfl)
def kl26_0 (P:Go.Program):Known:=(kf32 P).loop 26 0 lc26_0
theorem kl26_0_ok:KnownOk Go.Proofs.Tryz.prog (kl26_0 Go.Proofs.Tryz.prog):=kf32_ok.loop ok26_0

/-! loop 2 of ductility/ductilityref09.Next -/

abbrev sh26_2:Sh:={ n:=66,slots:=[1,8,10],pats:=[.ty (.int .i64),.ptr 0 5 0,.ty (.int .i64)],boxes:=[.row [.ty .str,.ty (.slice (.int .i64)),.ty (.slice (.int .i64)),.ty (.slice (.int .i64)),.ty (.slice (.int .i64))]] }
abbrev shb26_2:Sh:={ n:=66,slots:=[1],pats:=[.ty (.int .i64)],boxes:=[.row [.ty .str,.ty (.slice (.int .i64)),.ty (.slice (.int .i64)),.ty (.slice (.int .i64)),.ty (.slice (.int .i64))]] }
abbrev shr26_2:Sh:={ n:=66,slots:=[],pats:=[],boxes:=[.row [.ty .str,.ty (.slice (.int .i64)),.ty (.slice (.int .i64)),.ty (.slice (.int .i64)),.ty (.slice (.int .i64))]] }

def t26_2 (x0:Int) (x2:Int) (b0_0:ByteArray) (b0_1:(List Int)) (b0_2:(List Int)) (b0_3:(List Int)) (b0_4:(List Int)):Tr (Out sh26_2.data shb26_2.data shr26_2.data) :=
  Tr.test ((!leF (↑(List.length b0_4):Int) x2:Bool))
    (Tr.test (decide ((0:Int) ≤ x2) && decide (x2 < (↑(List.length b0_4):Int)))
      (Tr.test ((decide (List.getD b0_4 (Int.toNat x2) (0:Int) < (0:Int)):Bool))
        (Tr.stop)
        (Tr.test ((eqF (andV Go.IntKind.i64 (shrV Go.IntKind.i64 x0 (List.getD b0_4 (Int.toNat x2) (0:Int))) (1:Int)) (1:Int):Bool))
          (Tr.fin (.again (((wrap64 (x0 - shlV Go.IntKind.i64 (1:Int) (List.getD b0_4 (Int.toNat x2) (0:Int))):Int),((wrap64 (x2 + (1:Int)):Int),())),((b0_0,(b0_1,(b0_2,(b0_3,(b0_4,()))))),()))))
          (Tr.fin (.again ((x0,((wrap64 (x2 + (1:Int)):Int),())),((b0_0,(b0_1,(b0_2,(b0_3,(b0_4,()))))),()))))))
      (Tr.stop))
    (Tr.fin (.brk ((x0,()),((b0_0,(b0_1,(b0_2,(b0_3,(b0_4,()))))),()))))

def s26_2 (d:sh26_2.data):Option (Out sh26_2.data shb26_2.data shr26_2.data):=(t26_2 d.1.1 d.1.2.1 d.2.1.1 d.2.1.2.1 d.2.1.2.2.1 d.2.1.2.2.2.1 d.2.1.2.2.2.2.1).val
def l26_2 (d:sh26_2.data):Option (shb26_2.data ⊕ shr26_2.data):=itr s26_2 rounds d
def b26_2 (d:sh26_2.data):shb26_2.data:=outB shb26_2.dflt (l26_2 d)
def lc26_2:LoopC:=lcB sh26_2 shb26_2 shr26_2 l26_2 b26_2

theorem wk26_2 (x0:Int) (x2:Int) (b0_0:ByteArray) (b0_1:(List Int)) (b0_2:(List Int)) (b0_3:(List Int)) (b0_4:(List Int)):Walks (runBody (kl26_0 Go.Proofs.Tryz.prog).orc Go.Proofs.Tryz.prog 400 26 2 sh26_2 shb26_2 shr26_2 ((x0,x2,()),(b0_0,b0_1,b0_2,b0_3,b0_4,()),())) (t26_2 x0 x2 b0_0 b0_1 b0_2 b0_3 b0_4) [(bl 4 11,[4,6,2,4,6,8]),(bl 4 3,[2,4,6,8]),(bl 1 0,[2])] :=
  ⟨by kernel_rfl,by kernel_rfl,by kernel_rfl,trivial⟩

theorem ok26_2_t (x0:Int) (x2:Int) (b0_0:ByteArray) (b0_1:(List Int)) (b0_2:(List Int)) (b0_3:(List Int)) (b0_4:(List Int)):TrOk (BodyRuns Go.Proofs.Tryz.prog (kl26_0 Go.Proofs.Tryz.prog).orc 26 2 sh26_2 shb26_2 shr26_2 ((x0,x2,()),(b0_0,b0_1,b0_2,b0_3,b0_4,()),())) (t26_2 x0 x2 b0_0 b0_1 b0_2 b0_3 b0_4) :=
  Walks.ok (fun _ _ _=>BodyRuns.of) (wk26_2 x0 x2 b0_0 b0_1 b0_2 b0_3 b0_4) (by kernel_rfl)

theorem ok26_2:LoopOk Go.Proofs.Tryz.prog 26 2 lc26_2:=loopOk_ofB (sh:=sh26_2) (shB:=shb26_2) (shR:=shr26_2) kl26_0_ok.base (T:=fun (d:sh26_2.data)=>t26_2 d.1.1 d.1.2.1 d.2.1.1 d.2.1.2.1 d.2.1.2.2.1 d.2.1.2.2.2.1 d.2.1.2.2.2.2.1) (by kernel_rfl) rfl (fun (d:sh26_2.data)=>ok26_2_t d.1.1 d.1.2.1 d.2.1.1 d.2.1.2.1 d.2.1.2.2.1 d.2.1.2.2.2.1 d.2.1.2.2.2.2.1) (fun _=>rfl)
def kl26_2 (P:Go.Program):Known:=(kl26_0 P).loop 26 2 lc26_2
theorem kl26_2_ok:KnownOk Go.Proofs.Tryz.prog (kl26_2 Go.Proofs.Tryz.prog):=kl26_0_ok.loop ok26_2

/-! ductility/ductilityref09.Next -/

abbrev as26:List Ty:=[(.pair (.slice .str) (.pair (.slice (.pair .str (.pair (.pair (.slice (.int .i64)) (.pair (.slice (.int .i64)) .unit)) (.pair (.pair (.slice (.int .i64)) (.pair (.slice (.int .i64)) .unit)) .unit)))) (.pair (.slice (.pair (.slice (.int .i64)) (.pair (.slice (.int .i64)) .unit))) .unit))),(.int .i64),(.int .i64)]
abbrev rs26:List Ty:=[(.int .i64),.bool]

def t26 (x0:(List ByteArray)) (x0':(List (ByteArray×(((List Int)×((List Int)×Unit))×(((List Int)×((List Int)×Unit))×Unit))))) (x0'':(List ((List Int)×((List Int)×Unit)))) (x1:Int) (x2:Int):Tr (Tys.data rs26) :=
  Tr.test ((decide ((0:Int) ≤ x2) && decide (x2 < (↑(List.length x0'):Int)):Bool))
    (Tr.test (Option.isSome (f100 ((((List.getD x0' (Int.toNat x2) ({ data:={ toList:=[] } },([],[],()),([],[],()),())).2.1.1:List Int),(((List.getD x0' (Int.toNat x2) ({ data:={ toList:=[] } },([],[],()),([],[],()),())).2.1.2.1:List Int),())),(x1,()))))
      (let r0:=g100 ((((List.getD x0' (Int.toNat x2) ({ data:={ toList:=[] } },([],[],()),([],[],()),())).2.1.1:List Int),(((List.getD x0' (Int.toNat x2) ({ data:={ toList:=[] } },([],[],()),([],[],()),())).2.1.2.1:List Int),())),(x1,()));
      Tr.test ((!r0.1:Bool))
        (Tr.fin (((0:Int),((false:Bool),()))))
        (Tr.test (isBrk (l26_0 ((x1,((0:Int),())),((((List.getD x0' (Int.toNat x2) ({ data:={ toList:=[] } },([],[],()),([],[],()),())).1:ByteArray),(((List.getD x0' (Int.toNat x2) ({ data:={ toList:=[] } },([],[],()),([],[],()),())).2.1.1:List Int),(((List.getD x0' (Int.toNat x2) ({ data:={ toList:=[] } },([],[],()),([],[],()),())).2.1.2.1:List Int),(((List.getD x0' (Int.toNat x2) ({ data:={ toList:=[] } },([],[],()),([],[],()),())).2.2.1.1:List Int),(((List.getD x0' (Int.toNat x2) ({ data:={ toList:=[] } },([],[],()),([],[],()),())).2.2.1.2.1:List Int),()))))),()))))
          (let r1:=b26_0 ((x1,((0:Int),())),((((List.getD x0' (Int.toNat x2) ({ data:={ toList:=[] } },([],[],()),([],[],()),())).1:ByteArray),(((List.getD x0' (Int.toNat x2) ({ data:={ toList:=[] } },([],[],()),([],[],()),())).2.1.1:List Int),(((List.getD x0' (Int.toNat x2) ({ data:={ toList:=[] } },([],[],()),([],[],()),())).2.1.2.1:List Int),(((List.getD x0' (Int.toNat x2) ({ data:={ toList:=[] } },([],[],()),([],[],()),())).2.2.1.1:List Int),(((List.getD x0' (Int.toNat x2) ({ data:={ toList:=[] } },([],[],()),([],[],()),())).2.2.1.2.1:List Int),()))))),()));
          Tr.test (isBrk (l26_2 ((r1.1.1,((0:Int),())),((r1.2.1.1,(r1.2.1.2.1,(r1.2.1.2.2.1,(r1.2.1.2.2.2.1,(r1.2.1.2.2.2.2.1,()))))),()))))
            (let r2:=b26_2 ((r1.1.1,((0:Int),())),((r1.2.1.1,(r1.2.1.2.1,(r1.2.1.2.2.1,(r1.2.1.2.2.2.1,(r1.2.1.2.2.2.2.1,()))))),()));
            Tr.fin ((r2.1.1,((true:Bool),()))))
            (Tr.stop))
          (Tr.stop)))
      (Tr.stop))
    (Tr.stop)

def f26 (d:Tys.data as26):Option (Tys.data rs26):=(t26 d.1.1 d.1.2.1 d.1.2.2.1 d.2.1 d.2.2.1).val
def g26 (d:Tys.data as26):Tys.data rs26:=(f26 d).getD (Tys.dflt rs26)
def p26:PureC:=pcOf as26 rs26 f26 g26

theorem wk26 (x0:(List ByteArray)) (x0':(List (ByteArray×(((List Int)×((List Int)×Unit))×(((List Int)×((List Int)×Unit))×Unit))))) (x0'':(List ((List Int)×((List Int)×Unit)))) (x1:Int) (x2:Int):Walks (runPure (kl26_2 Go.Proofs.Tryz.prog).orc Go.Proofs.Tryz.prog 400 26 as26 rs26 ((x0,x0',x0'',()),x1,x2,())) (t26 x0 x0' x0'' x1 x2) [(bl 3 7,[2,4,6]),(bl 5 27,[1,2,1,4,6,8,10])] :=
  ⟨by kernel_rfl,by kernel_rfl,trivial⟩

theorem ok26_t (x0:(List ByteArray)) (x0':(List (ByteArray×(((List Int)×((List Int)×Unit))×(((List Int)×((List Int)×Unit))×Unit))))) (x0'':(List ((List Int)×((List Int)×Unit)))) (x1:Int) (x2:Int):TrOk (PureRuns Go.Proofs.Tryz.prog (kl26_2 Go.Proofs.Tryz.prog).orc 26 as26 rs26 ((x0,x0',x0'',()),x1,x2,())) (t26 x0 x0' x0'' x1 x2) :=
  Walks.ok (fun _ _ _=>PureRuns.of) (wk26 x0 x0' x0'' x1 x2) (by kernel_rfl)

theorem ok26:PureOk Go.Proofs.Tryz.prog 26 p26:=pureOk_of kl26_2_ok.base (T:=fun (d:Tys.data as26)=>t26 d.1.1 d.1.2.1 d.1.2.2.1 d.2.1 d.2.2.1) (by kernel_rfl) (fun (d:Tys.data as26)=>ok26_t d.1.1 d.1.2.1 d.1.2.2.1 d.2.1 d.2.2.1)
def kf26 (P:Go.Program):Known:=(kl26_2 P).func 26 p26
theorem kf26_ok:KnownOk Go.Proofs.Tryz.prog (kf26 Go.Proofs.Tryz.prog):=kl26_2_ok.func ok26

/-! loop 0 of ductility/ductilityref09.CheckClosed -/

abbrev sh36_0:Sh:={ n:=84,slots:=[1,2,3,8],pats:=[.ty (.int .i64),.ty (.slice (.int .i64)),.ptr 0 3 0,.ty (.int .i64)],boxes:=[.row [.ty (.slice .str),.ty (.slice (.pair .str (.pair (.pair (.slice (.int .i64)) (.pair (.slice (.int .i64)) .unit)) (.pair (.pair (.slice (.int .i64)) (.pair (.slice (.int .i64)) .unit)) .unit)))),.ty (.slice (.pair (.slice (.int .i64)) (.pair (.slice (.int .i64)) .unit)))]] }
abbrev shb36_0:Sh:={ n:=84,slots:=[1,2,3],pats:=[.ty (.int .i64),.ty (.slice (.int .i64)),.ptr 0 3 0],boxes:=[.row [.ty (.slice .str),.ty (.slice (.pair .str (.pair (.pair (.slice (.int .i64)) (.pair (.slice (.int .i64)) .unit)) (.pair (.pair (.slice (.int .i64)) (.pair (.slice (.int .i64)) .unit)) .unit)))),.ty (.slice (.pair (.slice (.int .i64)) (.pair (.slice (.int .i64)) .unit)))]] }
abbrev shr36_0:Sh:={ n:=84,slots:=[6,7],pats:=[.ty (.int .i64),.ty (.int .i64)],boxes:=[.row [.ty (.slice .str),.ty (.slice (.pair .str (.pair (.pair (.slice (.int .i64)) (.pair (.slice (.int .i64)) .unit)) (.pair (.pair (.slice (.int .i64)) (.pair (.slice (.int .i64)) .unit)) .unit)))),.ty (.slice (.pair (.slice (.int .i64)) (.pair (.slice (.int .i64)) .unit)))]] }

def t36_0 (x0:Int) (x1:(List Int)) (x3:Int) (b0_0:(List ByteArray)) (b0_1:(List (ByteArray×(((List Int)×((List Int)×Unit))×(((List Int)×((List Int)×Unit))×Unit))))) (b0_2:(List ((List Int)×((List Int)×Unit)))):Tr (Out sh36_0.data shb36_0.data shr36_0.data) :=
  Tr.test ((!leF (↑(List.length x1):Int) x3:Bool))
    (Tr.test (decide ((0:Int) ≤ x3) && decide (x3 < (↑(List.length x1):Int)))
      (Tr.test (Option.isSome (f116 ((b0_0,(b0_1,(b0_2,()))),((List.getD x1 (Int.toNat x3) (0:Int):Int),()))))
        (let r0:=g116 ((b0_0,(b0_1,(b0_2,()))),((List.getD x1 (Int.toNat x3) (0:Int):Int),()));
        Tr.test ((!r0.1:Bool))
          (Tr.fin (.ret ((x3,((2:Int),())),((b0_0,(b0_1,(b0_2,()))),()))))
          (Tr.test ((!leF x3 0:Bool))
            (Tr.test ((decide ((0:Int) ≤ wrap64 (x3 - (1:Int))) && decide (wrap64 (x3 - (1:Int)) < (↑(List.length x1):Int)):Bool))
              (Tr.test ((leF (List.getD x1 (Int.toNat x3) (0:Int)) (List.getD x1 (Int.toNat (wrap64 (x3 - (1:Int)))) (0:Int)):Bool))
                (Tr.fin (.ret ((x3,((9:Int),())),((b0_0,(b0_1,(b0_2,()))),()))))
                (Tr.fin (.again ((x0,(x1,((wrap64 (x3 + (1:Int)):Int),()))),((b0_0,(b0_1,(b0_2,()))),())))))
              (Tr.stop))
            (Tr.fin (.again ((x0,(x1,((wrap64 (x3 + (1:Int)):Int),()))),((b0_0,(b0_1,(b0_2,()))),()))))))
        (Tr.stop))
      (Tr.stop))
    (Tr.fin (.brk ((x0,(x1,())),((b0_0,(b0_1,(b0_2,()))),()))))

def s36_0 (d:sh36_0.data):Option (Out sh36_0.data shb36_0.data shr36_0.data):=(t36_0 d.1.1 d.1.2.1 d.1.2.2.1 d.2.1.1 d.2.1.2.1 d.2.1.2.2.1).val
def l36_0 (d:sh36_0.data):Option (shb36_0.data ⊕ shr36_0.data):=itr s36_0 rounds d
def b36_0 (d:sh36_0.data):shb36_0.data:=outB shb36_0.dflt (l36_0 d)
def r36_0 (d:sh36_0.data):shr36_0.data:=outR shr36_0.dflt (l36_0 d)
def lc36_0:LoopC:=lcOf sh36_0 shb36_0 shr36_0 l36_0 b36_0 r36_0

theorem wk36_0 (x0:Int) (x1:(List Int)) (x3:Int) (b0_0:(List ByteArray)) (b0_1:(List (ByteArray×(((List Int)×((List Int)×Unit))×(((List Int)×((List Int)×Unit))×Unit))))) (b0_2:(List ((List Int)×((List Int)×Unit)))):Walks (runBody (kf26 Go.Proofs.Tryz.prog).orc Go.Proofs.Tryz.prog 400 36 0 sh36_0 shb36_0 shr36_0 ((x0,x1,x3,()),(b0_0,b0_1,b0_2,()),())) (t36_0 x0 x1 x3 b0_0 b0_1 b0_2) [(bl 4 15,[2,4,6,8]),(bl 7 119,[2,6,6,6,4,6,6,6,6,6,12,6,6,6,8,10,12,14]),(bl 7 55,[2,6,6,6,4,6,6,6,6,6,12,6,6,6,8,10,12,14]),(bl 5 7,[0,2,2,2,2,2,2,2,2,2,2,2,4,6,8,10]),(bl 1 0,[2])] :=
  ⟨by kernel_rfl,by kernel_rfl,by kernel_rfl,by kernel_rfl,by kernel_rfl,trivial⟩

theorem ok36_0_t (x0:Int) (x1:(List Int)) (x3:Int) (b0_0:(List ByteArray)) (b0_1:(List (ByteArray×(((List Int)×((List Int)×Unit))×(((List Int)×((List Int)×Unit))×Unit))))) (b0_2:(List ((List Int)×((List Int)×Unit)))):TrOk (BodyRuns Go.Proofs.Tryz.prog (kf26 Go.Proofs.Tryz.prog).orc 36 0 sh36_0 shb36_0 shr36_0 ((x0,x1,x3,()),(b0_0,b0_1,b0_2,()),())) (t36_0 x0 x1 x3 b0_0 b0_1 b0_2) :=
  Walks.ok (fun _ _ _=>BodyRuns.of) (wk36_0 x0 x1 x3 b0_0 b0_1 b0_2) (by kernel_rfl)

theorem ok36_0:LoopOk Go.Proofs.Tryz.prog 36 0 lc36_0:=loopOk_of (sh:=sh36_0) (shB:=shb36_0) (shR:=shr36_0) kf26_ok.base (T:=fun (d:sh36_0.data)=>t36_0 d.1.1 d.1.2.1 d.1.2.2.1 d.2.1.1 d.2.1.2.1 d.2.1.2.2.1) (by kernel_rfl) rfl (fun (d:sh36_0.data)=>ok36_0_t d.1.1 d.1.2.1 d.1.2.2.1 d.2.1.1 d.2.1.2.1 d.2.1.2.2.1) (fun _=>rfl)
def kl36_0 (P:Go.Program):Known:=(kf26 P).loop 36 0 lc36_0
theorem kl36_0_ok:KnownOk Go.Proofs.Tryz.prog (kl36_0 Go.Proofs.Tryz.prog):=kf26_ok.loop ok36_0

/-! loop 4 of ductility/ductilityref09.CheckClosed -/

abbrev sh36_4:Sh:={ n:=84,slots:=[2,3,9,10],pats:=[.ty (.slice (.int .i64)),.ptr 0 3 0,.ty (.int .i64),.ty (.int .i64)],boxes:=[.row [.ty (.slice .str),.ty (.slice (.pair .str (.pair (.pair (.slice (.int .i64)) (.pair (.slice (.int .i64)) .unit)) (.pair (.pair (.slice (.int .i64)) (.pair (.slice (.int .i64)) .unit)) .unit)))),.ty (.slice (.pair (.slice (.int .i64)) (.pair (.slice (.int .i64)) .unit)))]] }
abbrev shb36_4:Sh:={ n:=84,slots:=[2,3,9],pats:=[.ty (.slice (.int .i64)),.ptr 0 3 0,.ty (.int .i64)],boxes:=[.row [.ty (.slice .str),.ty (.slice (.pair .str (.pair (.pair (.slice (.int .i64)) (.pair (.slice (.int .i64)) .unit)) (.pair (.pair (.slice (.int .i64)) (.pair (.slice (.int .i64)) .unit)) .unit)))),.ty (.slice (.pair (.slice (.int .i64)) (.pair (.slice (.int .i64)) .unit)))]] }
abbrev shr36_4:Sh:={ n:=84,slots:=[6,7],pats:=[.ty (.int .i64),.ty (.int .i64)],boxes:=[.row [.ty (.slice .str),.ty (.slice (.pair .str (.pair (.pair (.slice (.int .i64)) (.pair (.slice (.int .i64)) .unit)) (.pair (.pair (.slice (.int .i64)) (.pair (.slice (.int .i64)) .unit)) .unit)))),.ty (.slice (.pair (.slice (.int .i64)) (.pair (.slice (.int .i64)) .unit)))]] }

def t36_4 (x0:(List Int)) (x2:Int) (x3:Int) (b0_0:(List ByteArray)) (b0_1:(List (ByteArray×(((List Int)×((List Int)×Unit))×(((List Int)×((List Int)×Unit))×Unit))))) (b0_2:(List ((List Int)×((List Int)×Unit)))):Tr (Out sh36_4.data shb36_4.data shr36_4.data) :=
  Tr.test ((!leF (↑(List.length b0_1):Int) x3:Bool))
    (Tr.test (decide ((0:Int) ≤ x2) && decide (x2 < (↑(List.length x0):Int)))
      (Tr.test (Option.isSome (f26 ((b0_0,(b0_1,(b0_2,()))),((List.getD x0 (Int.toNat x2) (0:Int):Int),(x3,())))))
        (let r0:=g26 ((b0_0,(b0_1,(b0_2,()))),((List.getD x0 (Int.toNat x2) (0:Int):Int),(x3,())));
        Tr.test (r0.2.1)
          (Tr.test (Option.isSome (f51 (x0,(r0.1,()))))
            (let r1:=g51 (x0,(r0.1,()));
            Tr.test ((!r1.1:Bool))
              (Tr.fin (.ret ((x2,((21:Int),())),((b0_0,(b0_1,(b0_2,()))),()))))
              (Tr.fin (.again ((x0,(x2,((wrap64 (x3 + (1:Int)):Int),()))),((b0_0,(b0_1,(b0_2,()))),())))))
            (Tr.stop))
          (Tr.fin (.again ((x0,(x2,((wrap64 (x3 + (1:Int)):Int),()))),((b0_0,(b0_1,(b0_2,()))),())))))
        (Tr.stop))
      (Tr.stop))
    (Tr.fin (.brk ((x0,(x2,())),((b0_0,(b0_1,(b0_2,()))),()))))

def s36_4 (d:sh36_4.data):Option (Out sh36_4.data shb36_4.data shr36_4.data):=(t36_4 d.1.1 d.1.2.1 d.1.2.2.1 d.2.1.1 d.2.1.2.1 d.2.1.2.2.1).val
def l36_4 (d:sh36_4.data):Option (shb36_4.data ⊕ shr36_4.data):=itr s36_4 rounds d
def b36_4 (d:sh36_4.data):shb36_4.data:=outB shb36_4.dflt (l36_4 d)
def r36_4 (d:sh36_4.data):shr36_4.data:=outR shr36_4.dflt (l36_4 d)
def lc36_4:LoopC:=lcOf sh36_4 shb36_4 shr36_4 l36_4 b36_4 r36_4

theorem wk36_4 (x0:(List Int)) (x2:Int) (x3:Int) (b0_0:(List ByteArray)) (b0_1:(List (ByteArray×(((List Int)×((List Int)×Unit))×(((List Int)×((List Int)×Unit))×Unit))))) (b0_2:(List ((List Int)×((List Int)×Unit)))):Walks (runBody (kl36_0 Go.Proofs.Tryz.prog).orc Go.Proofs.Tryz.prog 400 36 4 sh36_4 shb36_4 shr36_4 ((x0,x2,x3,()),(b0_0,b0_1,b0_2,()),())) (t36_4 x0 x2 x3 b0_0 b0_1 b0_2) [(bl 6 63,[2,6,6,4,6,6,6,8,10,12]),(bl 6 31,[2,6,6,4,6,6,6,8,10,12]),(bl 4 7,[0,2,2,2,2,2,4,6,8]),(bl 1 0,[2])] :=
  ⟨by kernel_rfl,by kernel_rfl,by kernel_rfl,by kernel_rfl,trivial⟩

theorem ok36_4_t (x0:(List Int)) (x2:Int) (x3:Int) (b0_0:(List ByteArray)) (b0_1:(List (ByteArray×(((List Int)×((List Int)×Unit))×(((List Int)×((List Int)×Unit))×Unit))))) (b0_2:(List ((List Int)×((List Int)×Unit)))):TrOk (BodyRuns Go.Proofs.Tryz.prog (kl36_0 Go.Proofs.Tryz.prog).orc 36 4 sh36_4 shb36_4 shr36_4 ((x0,x2,x3,()),(b0_0,b0_1,b0_2,()),())) (t36_4 x0 x2 x3 b0_0 b0_1 b0_2) :=
  Walks.ok (fun _ _ _=>BodyRuns.of) (wk36_4 x0 x2 x3 b0_0 b0_1 b0_2) (by kernel_rfl)

theorem ok36_4:LoopOk Go.Proofs.Tryz.prog 36 4 lc36_4:=loopOk_of (sh:=sh36_4) (shB:=shb36_4) (shR:=shr36_4) kl36_0_ok.base (T:=fun (d:sh36_4.data)=>t36_4 d.1.1 d.1.2.1 d.1.2.2.1 d.2.1.1 d.2.1.2.1 d.2.1.2.2.1) (by kernel_rfl) rfl (fun (d:sh36_4.data)=>ok36_4_t d.1.1 d.1.2.1 d.1.2.2.1 d.2.1.1 d.2.1.2.1 d.2.1.2.2.1) (fun _=>rfl)
def kl36_4 (P:Go.Program):Known:=(kl36_0 P).loop 36 4 lc36_4
theorem kl36_4_ok:KnownOk Go.Proofs.Tryz.prog (kl36_4 Go.Proofs.Tryz.prog):=kl36_0_ok.loop ok36_4

/-! loop 2 of ductility/ductilityref09.CheckClosed -/

abbrev sh36_2:Sh:={ n:=84,slots:=[2,3,9],pats:=[.ty (.slice (.int .i64)),.ptr 0 3 0,.ty (.int .i64)],boxes:=[.row [.ty (.slice .str),.ty (.slice (.pair .str (.pair (.pair (.slice (.int .i64)) (.pair (.slice (.int .i64)) .unit)) (.pair (.pair (.slice (.int .i64)) (.pair (.slice (.int .i64)) .unit)) .unit)))),.ty (.slice (.pair (.slice (.int .i64)) (.pair (.slice (.int .i64)) .unit)))]] }
abbrev shb36_2:Sh:={ n:=84,slots:=[],pats:=[],boxes:=[.row [.ty (.slice .str),.ty (.slice (.pair .str (.pair (.pair (.slice (.int .i64)) (.pair (.slice (.int .i64)) .unit)) (.pair (.pair (.slice (.int .i64)) (.pair (.slice (.int .i64)) .unit)) .unit)))),.ty (.slice (.pair (.slice (.int .i64)) (.pair (.slice (.int .i64)) .unit)))]] }
abbrev shr36_2:Sh:={ n:=84,slots:=[6,7],pats:=[.ty (.int .i64),.ty (.int .i64)],boxes:=[.row [.ty (.slice .str),.ty (.slice (.pair .str (.pair (.pair (.slice (.int .i64)) (.pair (.slice (.int .i64)) .unit)) (.pair (.pair (.slice (.int .i64)) (.pair (.slice (.int .i64)) .unit)) .unit)))),.ty (.slice (.pair (.slice (.int .i64)) (.pair (.slice (.int .i64)) .unit)))]] }

def t36_2 (x0:(List Int)) (x2:Int) (b0_0:(List ByteArray)) (b0_1:(List (ByteArray×(((List Int)×((List Int)×Unit))×(((List Int)×((List Int)×Unit))×Unit))))) (b0_2:(List ((List Int)×((List Int)×Unit)))):Tr (Out sh36_2.data shb36_2.data shr36_2.data) :=
  Tr.test ((!leF (↑(List.length x0):Int) x2:Bool))
    (Tr.test (decide ((0:Int) ≤ x2) && decide (x2 < (↑(List.length x0):Int)))
      (Tr.test (Option.isSome (f32 ((b0_0,(b0_1,(b0_2,()))),((List.getD x0 (Int.toNat x2) (0:Int):Int),()))))
        (let r0:=g32 ((b0_0,(b0_1,(b0_2,()))),((List.getD x0 (Int.toNat x2) (0:Int):Int),()));
        Tr.test (r0.1)
          (Tr.fin (.ret ((x2,((22:Int),())),((b0_0,(b0_1,(b0_2,()))),()))))
          (Tr.test (Option.isSome (l36_4 ((x0,(x2,((0:Int),()))),((b0_0,(b0_1,(b0_2,()))),()))))
            (Tr.test (isRet (l36_4 ((x0,(x2,((0:Int),()))),((b0_0,(b0_1,(b0_2,()))),()))))
              (let r1:=r36_4 ((x0,(x2,((0:Int),()))),((b0_0,(b0_1,(b0_2,()))),()));
              Tr.fin (.ret ((r1.1.1,(r1.1.2.1,())),((r1.2.1.1,((r1.2.1.2.1:List (ByteArray×(List Int×List Int×PUnit)×(List Int×List Int×PUnit)×PUnit)),(r1.2.1.2.2.1,()))),()))))
              (let r2:=b36_4 ((x0,(x2,((0:Int),()))),((b0_0,(b0_1,(b0_2,()))),()));
              Tr.fin (.again ((r2.1.1,((wrap64 (r2.1.2.1 + (1:Int)):Int),())),((r2.2.1.1,((r2.2.1.2.1:List (ByteArray×(List Int×List Int×PUnit)×(List Int×List Int×PUnit)×PUnit)),(r2.2.1.2.2.1,()))),())))))
            (Tr.stop)))
        (Tr.stop))
      (Tr.stop))
    (Tr.fin (.brk ((),((b0_0,(b0_1,(b0_2,()))),()))))

def s36_2 (d:sh36_2.data):Option (Out sh36_2.data shb36_2.data shr36_2.data):=(t36_2 d.1.1 d.1.2.1 d.2.1.1 d.2.1.2.1 d.2.1.2.2.1).val
def l36_2 (d:sh36_2.data):Option (shb36_2.data ⊕ shr36_2.data):=itr s36_2 rounds d
def b36_2 (d:sh36_2.data):shb36_2.data:=outB shb36_2.dflt (l36_2 d)
def r36_2 (d:sh36_2.data):shr36_2.data:=outR shr36_2.dflt (l36_2 d)
def lc36_2:LoopC:=lcOf sh36_2 shb36_2 shr36_2 l36_2 b36_2 r36_2

theorem wk36_2 (x0:(List Int)) (x2:Int) (b0_0:(List ByteArray)) (b0_1:(List (ByteArray×(((List Int)×((List Int)×Unit))×(((List Int)×((List Int)×Unit))×Unit))))) (b0_2:(List ((List Int)×((List Int)×Unit)))):Walks (runBody (kl36_4 Go.Proofs.Tryz.prog).orc Go.Proofs.Tryz.prog 400 36 2 sh36_2 shb36_2 shr36_2 ((x0,x2,()),(b0_0,b0_1,b0_2,()),())) (t36_2 x0 x2 b0_0 b0_1 b0_2) [(bl 4 15,[2,4,6,8]),(bl 6 55,[2,4,6,8,10,12]),(bl 6 23,[2,4,6,8,10,12]),(bl 1 0,[2])] :=
  ⟨by kernel_rfl,by kernel_rfl,by kernel_rfl,by kernel_rfl,trivial⟩

theorem ok36_2_t (x0:(List Int)) (x2:Int) (b0_0:(List ByteArray)) (b0_1:(List (ByteArray×(((List Int)×((List Int)×Unit))×(((List Int)×((List Int)×Unit))×Unit))))) (b0_2:(List ((List Int)×((List Int)×Unit)))):TrOk (BodyRuns Go.Proofs.Tryz.prog (kl36_4 Go.Proofs.Tryz.prog).orc 36 2 sh36_2 shb36_2 shr36_2 ((x0,x2,()),(b0_0,b0_1,b0_2,()),())) (t36_2 x0 x2 b0_0 b0_1 b0_2) :=
  Walks.ok (fun _ _ _=>BodyRuns.of) (wk36_2 x0 x2 b0_0 b0_1 b0_2) (by kernel_rfl)

theorem ok36_2:LoopOk Go.Proofs.Tryz.prog 36 2 lc36_2:=loopOk_of (sh:=sh36_2) (shB:=shb36_2) (shR:=shr36_2) kl36_4_ok.base (T:=fun (d:sh36_2.data)=>t36_2 d.1.1 d.1.2.1 d.2.1.1 d.2.1.2.1 d.2.1.2.2.1) (by kernel_rfl) rfl (fun (d:sh36_2.data)=>ok36_2_t d.1.1 d.1.2.1 d.2.1.1 d.2.1.2.1 d.2.1.2.2.1) (fun _=>rfl)
def kl36_2 (P:Go.Program):Known:=(kl36_4 P).loop 36 2 lc36_2
theorem kl36_2_ok:KnownOk Go.Proofs.Tryz.prog (kl36_2 Go.Proofs.Tryz.prog):=kl36_4_ok.loop ok36_2

/-! ductility/ductilityref09.CheckClosed -/

abbrev as36:List Ty:=[(.pair (.slice .str) (.pair (.slice (.pair .str (.pair (.pair (.slice (.int .i64)) (.pair (.slice (.int .i64)) .unit)) (.pair (.pair (.slice (.int .i64)) (.pair (.slice (.int .i64)) .unit)) .unit)))) (.pair (.slice (.pair (.slice (.int .i64)) (.pair (.slice (.int .i64)) .unit))) .unit))),(.int .i64),(.slice (.int .i64))]
abbrev rs36:List Ty:=[(.int .i64),(.int .i64)]

def t36 (x0:(List ByteArray)) (x0':(List (ByteArray×(((List Int)×((List Int)×Unit))×(((List Int)×((List Int)×Unit))×Unit))))) (x0'':(List ((List Int)×((List Int)×Unit)))) (x1:Int) (x2:(List Int)):Tr (Tys.data rs36) :=
  Tr.test (Option.isSome (l36_0 ((x1,(x2,((0:Int),()))),((x0,(x0',(x0'',()))),()))))
    (Tr.test (isRet (l36_0 ((x1,(x2,((0:Int),()))),((x0,(x0',(x0'',()))),()))))
      (let r0:=r36_0 ((x1,(x2,((0:Int),()))),((x0,(x0',(x0'',()))),()));
      Tr.fin ((r0.1.1,(r0.1.2.1,()))))
      (let r1:=b36_0 ((x1,(x2,((0:Int),()))),((x0,(x0',(x0'',()))),()));
      Tr.test (Option.isSome (f51 (r1.1.2.1,(r1.1.1,()))))
        (let r2:=g51 (r1.1.2.1,(r1.1.1,()));
        Tr.test ((!r2.1:Bool))
          (Tr.fin (((0:Int),((6:Int),()))))
          (Tr.test (Option.isSome (l36_2 ((r1.1.2.1,((0:Int),())),((r1.2.1.1,((r1.2.1.2.1:List (ByteArray×(List Int×List Int×PUnit)×(List Int×List Int×PUnit)×PUnit)),(r1.2.1.2.2.1,()))),()))))
            (Tr.test (isRet (l36_2 ((r1.1.2.1,((0:Int),())),((r1.2.1.1,((r1.2.1.2.1:List (ByteArray×(List Int×List Int×PUnit)×(List Int×List Int×PUnit)×PUnit)),(r1.2.1.2.2.1,()))),()))))
              (let r3:=r36_2 ((r1.1.2.1,((0:Int),())),((r1.2.1.1,((r1.2.1.2.1:List (ByteArray×(List Int×List Int×PUnit)×(List Int×List Int×PUnit)×PUnit)),(r1.2.1.2.2.1,()))),()));
              Tr.fin ((r3.1.1,(r3.1.2.1,()))))
              (Tr.fin (((0:Int),((0:Int),())))))
            (Tr.stop)))
        (Tr.stop)))
    (Tr.stop)

def f36 (d:Tys.data as36):Option (Tys.data rs36):=(t36 d.1.1 d.1.2.1 d.1.2.2.1 d.2.1 d.2.2.1).val
def g36 (d:Tys.data as36):Tys.data rs36:=(f36 d).getD (Tys.dflt rs36)
def p36:PureC:=pcOf as36 rs36 f36 g36

theorem wk36 (x0:(List ByteArray)) (x0':(List (ByteArray×(((List Int)×((List Int)×Unit))×(((List Int)×((List Int)×Unit))×Unit))))) (x0'':(List ((List Int)×((List Int)×Unit)))) (x1:Int) (x2:(List Int)):Walks (runPure (kl36_2 Go.Proofs.Tryz.prog).orc Go.Proofs.Tryz.prog 400 36 as36 rs36 ((x0,x0',x0'',()),x1,x2,())) (t36 x0 x0' x0'' x1 x2) [(bl 2 3,[2,4]),(bl 4 13,[2,4,6,8]),(bl 6 53,[2,4,6,8,10,12]),(bl 6 21,[2,4,6,8,10,12])] :=
  ⟨by kernel_rfl,by kernel_rfl,by kernel_rfl,by kernel_rfl,trivial⟩

theorem ok36_t (x0:(List ByteArray)) (x0':(List (ByteArray×(((List Int)×((List Int)×Unit))×(((List Int)×((List Int)×Unit))×Unit))))) (x0'':(List ((List Int)×((List Int)×Unit)))) (x1:Int) (x2:(List Int)):TrOk (PureRuns Go.Proofs.Tryz.prog (kl36_2 Go.Proofs.Tryz.prog).orc 36 as36 rs36 ((x0,x0',x0'',()),x1,x2,())) (t36 x0 x0' x0'' x1 x2) :=
  Walks.ok (fun _ _ _=>PureRuns.of) (wk36 x0 x0' x0'' x1 x2) (by kernel_rfl)

theorem ok36:PureOk Go.Proofs.Tryz.prog 36 p36:=pureOk_of kl36_2_ok.base (T:=fun (d:Tys.data as36)=>t36 d.1.1 d.1.2.1 d.1.2.2.1 d.2.1 d.2.2.1) (by kernel_rfl) (fun (d:Tys.data as36)=>ok36_t d.1.1 d.1.2.1 d.1.2.2.1 d.2.1 d.2.2.1)
def kf36 (P:Go.Program):Known:=(kl36_2 P).func 36 p36
theorem kf36_ok:KnownOk Go.Proofs.Tryz.prog (kf36 Go.Proofs.Tryz.prog):=kl36_2_ok.func ok36

/-! ductility/ductilitylaw09.SafetyClosed -/

abbrev as5:List Ty:=[(.pair (.slice .str) (.pair (.slice (.pair .str (.pair (.pair (.slice (.int .i64)) (.pair (.slice (.int .i64)) .unit)) (.pair (.pair (.slice (.int .i64)) (.pair (.slice (.int .i64)) .unit)) .unit)))) (.pair (.slice (.pair (.slice (.int .i64)) (.pair (.slice (.int .i64)) .unit))) .unit))),(.int .i64),(.slice (.int .i64))]
abbrev rs5:List Ty:=[.bool]

def t5 (x0:(List ByteArray)) (x0':(List (ByteArray×(((List Int)×((List Int)×Unit))×(((List Int)×((List Int)×Unit))×Unit))))) (x0'':(List ((List Int)×((List Int)×Unit)))) (x1:Int) (x2:(List Int)):Tr (Tys.data rs5) :=
  Tr.test (Option.isSome (f15 ((x0,(x0',(x0'',()))),())))
    (let r0:=g15 ((x0,(x0',(x0'',()))),());
    Tr.test ((!r0.1:Bool))
      (Tr.fin (((true:Bool),())))
      (Tr.test ((!leF (↑(List.length x2):Int) (300:Int):Bool))
        (Tr.fin (((true:Bool),())))
        (Tr.test (Option.isSome (f17 ((x0,(x0',(x0'',()))),())))
          (Tr.test (Option.isSome (f35 (x2,())))
            (let r1:=g17 ((x0,(x0',(x0'',()))),());
            let r2:=g35 (x2,());
            Tr.test (Option.isSome (f34 ((r1.1.1,((r1.1.2.1:List (ByteArray×(List Int×List Int×PUnit)×(List Int×List Int×PUnit)×PUnit)),(r1.1.2.2.1,()))),(x1,(r2.1,())))))
              (Tr.test (Option.isSome (f22 ((x0,(x0',(x0'',()))),(x1,()))))
                (let r4:=g22 ((x0,(x0',(x0'',()))),(x1,()));
                Tr.test ((!eqF r4.1 0:Bool))
                  (let r3:=g34 ((r1.1.1,((r1.1.2.1:List (ByteArray×(List Int×List Int×PUnit)×(List Int×List Int×PUnit)×PUnit)),(r1.1.2.2.1,()))),(x1,(r2.1,())));
                  Tr.test ((eqF r3.2.1 r4.1:Bool))
                    (Tr.fin (((eqF r3.1 0:Bool),())))
                    (Tr.fin (((false:Bool),()))))
                  (Tr.test (Option.isSome (f36 ((x0,(x0',(x0'',()))),(x1,(x2,())))))
                    (let r3:=g34 ((r1.1.1,((r1.1.2.1:List (ByteArray×(List Int×List Int×PUnit)×(List Int×List Int×PUnit)×PUnit)),(r1.1.2.2.1,()))),(x1,(r2.1,())));
                    let r5:=g36 ((x0,(x0',(x0'',()))),(x1,(x2,())));
                    Tr.test ((eqF r3.2.1 r5.2.1:Bool))
                      (Tr.fin (((eqF r3.1 r5.1:Bool),())))
                      (Tr.fin (((false:Bool),()))))
                    (Tr.stop)))
                (Tr.stop))
              (Tr.stop))
            (Tr.stop))
          (Tr.stop))))
    (Tr.stop)

def f5 (d:Tys.data as5):Option (Tys.data rs5):=(t5 d.1.1 d.1.2.1 d.1.2.2.1 d.2.1 d.2.2.1).val
def g5 (d:Tys.data as5):Tys.data rs5:=(f5 d).getD (Tys.dflt rs5)
def p5:PureC:=pcOf as5 rs5 f5 g5

theorem wk5 (x0:(List ByteArray)) (x0':(List (ByteArray×(((List Int)×((List Int)×Unit))×(((List Int)×((List Int)×Unit))×Unit))))) (x0'':(List ((List Int)×((List Int)×Unit)))) (x1:Int) (x2:(List Int)):Walks (runPure (kf36 Go.Proofs.Tryz.prog).orc Go.Proofs.Tryz.prog 400 5 as5 rs5 ((x0,x0',x0'',()),x1,x2,())) (t5 x0 x0' x0'' x1 x2) [(bl 2 3,[1,2,2,2,2,4,0,1]),(bl 3 5,[2,4,4,4,4,6,0,1]),(bl 9 505,[2,2,2,4,6,8,10,12,14,16,16,16,16,18,0,1]),(bl 9 249,[2,2,2,4,6,8,10,12,14,16,16,16,16,18,0,1]),(bl 10 889,[2,2,2,2,4,6,8,10,12,14,16,18,18,18,18,20,0,1]),(bl 10 377,[2,2,2,2,4,6,8,10,12,14,16,18,18,18,18,20,0,1])] :=
  ⟨by kernel_rfl,by kernel_rfl,by kernel_rfl,by kernel_rfl,by kernel_rfl,by kernel_rfl,trivial⟩

theorem ok5_t (x0:(List ByteArray)) (x0':(List (ByteArray×(((List Int)×((List Int)×Unit))×(((List Int)×((List Int)×Unit))×Unit))))) (x0'':(List ((List Int)×((List Int)×Unit)))) (x1:Int) (x2:(List Int)):TrOk (PureRuns Go.Proofs.Tryz.prog (kf36 Go.Proofs.Tryz.prog).orc 5 as5 rs5 ((x0,x0',x0'',()),x1,x2,())) (t5 x0 x0' x0'' x1 x2) :=
  Walks.ok (fun _ _ _=>PureRuns.of) (wk5 x0 x0' x0'' x1 x2) (by kernel_rfl)

theorem ok5:PureOk Go.Proofs.Tryz.prog 5 p5:=pureOk_of kf36_ok.base (T:=fun (d:Tys.data as5)=>t5 d.1.1 d.1.2.1 d.1.2.2.1 d.2.1 d.2.2.1) (by kernel_rfl) (fun (d:Tys.data as5)=>ok5_t d.1.1 d.1.2.1 d.1.2.2.1 d.2.1 d.2.2.1)

end Go.Vm.Mo
