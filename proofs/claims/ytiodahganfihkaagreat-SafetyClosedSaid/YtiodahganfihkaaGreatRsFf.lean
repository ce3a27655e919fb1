import Derived.Test.YtiodahganfihkaaGreatA4
import Derived.Test.YtiodahganfihkaaGreatA5
import Derived.KernelRfl
import Derived.Test.YtiodahganfihkaaGreatProg
import Derived.Test.YtiodahganfihkaaGreatRsFe
set_option linter.unusedVariables false
set_option linter.unusedSimpArgs false

namespace Go.Vm.Mo
open Go
set_option linter.unusedVariables false

/-! loop 0 of ductility/ductilityref09.TestErr -/

abbrev sh97_0:Sh:={ n:=37,slots:=[2,7],pats:=[.ptr 0 2 0,.ty (.int .i64)],boxes:=[.row [.ty (.slice (.int .i64)),.ty (.slice (.int .i64))]] }
abbrev shb97_0:Sh:={ n:=37,slots:=[],pats:=[],boxes:=[.row [.ty (.slice (.int .i64)),.ty (.slice (.int .i64))]] }
abbrev shr97_0:Sh:={ n:=37,slots:=[4],pats:=[.ty (.int .i64)],boxes:=[.row [.ty (.slice (.int .i64)),.ty (.slice (.int .i64))]] }

def t97_0 (x1:Int) (b0_0:(List Int)) (b0_1:(List Int)):Tr (Out sh97_0.data shb97_0.data shr97_0.data) :=
  Tr.test ((!leF (↑(List.length b0_0):Int) x1:Bool))
    (Tr.test (decide ((0:Int) ≤ x1) && decide (x1 < (↑(List.length b0_0):Int)))
      (Tr.test (Option.isSome (f51 (b0_1,((List.getD b0_0 (Int.toNat x1) (0:Int):Int),()))))
        (let r0:=g51 (b0_1,((List.getD b0_0 (Int.toNat x1) (0:Int):Int),()));
        Tr.test (r0.1)
          (Tr.fin (.ret (((13:Int),()),((b0_0,(b0_1,())),()))))
          (Tr.fin (.again (((wrap64 (x1 + (1:Int)):Int),()),((b0_0,(b0_1,())),())))))
        (Tr.stop))
      (Tr.stop))
    (Tr.fin (.brk ((),((b0_0,(b0_1,())),()))))

def s97_0 (d:sh97_0.data):Option (Out sh97_0.data shb97_0.data shr97_0.data):=(t97_0 d.1.1 d.2.1.1 d.2.1.2.1).val
def l97_0 (d:sh97_0.data):Option (shb97_0.data ⊕ shr97_0.data):=itr s97_0 rounds d
def b97_0 (d:sh97_0.data):shb97_0.data:=outB shb97_0.dflt (l97_0 d)
def r97_0 (d:sh97_0.data):shr97_0.data:=outR shr97_0.dflt (l97_0 d)
def lc97_0:LoopC:=lcOf sh97_0 shb97_0 shr97_0 l97_0 b97_0 r97_0

theorem wk97_0 (x1:Int) (b0_0:(List Int)) (b0_1:(List Int)):Walks (runBody (kf51 Go.Proofs.Tryz.prog).orc Go.Proofs.Tryz.prog 400 97 0 sh97_0 shb97_0 shr97_0 ((x1,()),(b0_0,b0_1,()),())) (t97_0 x1 b0_0 b0_1) [(bl 4 15,[2,4,6,8]),(bl 4 7,[2,4,6,8]),(bl 1 0,[2])] :=
  ⟨by kernel_rfl,by kernel_rfl,by kernel_rfl,trivial⟩

theorem ok97_0_t (x1:Int) (b0_0:(List Int)) (b0_1:(List Int)):TrOk (BodyRuns Go.Proofs.Tryz.prog (kf51 Go.Proofs.Tryz.prog).orc 97 0 sh97_0 shb97_0 shr97_0 ((x1,()),(b0_0,b0_1,()),())) (t97_0 x1 b0_0 b0_1) :=
  Walks.ok (fun _ _ _=>BodyRuns.of) (wk97_0 x1 b0_0 b0_1) (by kernel_rfl)

theorem ok97_0:LoopOk Go.Proofs.Tryz.prog 97 0 lc97_0:=loopOk_of (sh:=sh97_0) (shB:=shb97_0) (shR:=shr97_0) kf51_ok.base (T:=fun (d:sh97_0.data)=>t97_0 d.1.1 d.2.1.1 d.2.1.2.1) (by kernel_rfl) rfl (fun (d:sh97_0.data)=>ok97_0_t d.1.1 d.2.1.1 d.2.1.2.1) (fun _=>rfl)
def kl97_0 (P:Go.Program):Known:=(kf51 P).loop 97 0 lc97_0
theorem kl97_0_ok:KnownOk Go.Proofs.Tryz.prog (kl97_0 Go.Proofs.Tryz.prog):=kf51_ok.loop ok97_0

/-! ductility/ductilityref09.TestErr -/

abbrev as97:List Ty:=[(.pair (.slice (.int .i64)) (.pair (.slice (.int .i64)) .unit)),(.int .i64)]
abbrev rs97:List Ty:=[(.int .i64)]

def t97 (x0:(List Int)) (x0':(List Int)) (x1:Int):Tr (Tys.data rs97) :=
  Tr.test (Option.isSome (f150 (x0,(x1,()))))
    (let r0:=g150 (x0,(x1,()));
    Tr.test ((!eqF r0.1 0:Bool))
      (Tr.fin ((r0.1,())))
      (Tr.test (Option.isSome (f150 (x0',(x1,()))))
        (let r1:=g150 (x0',(x1,()));
        Tr.test ((!eqF r1.1 0:Bool))
          (Tr.fin ((r1.1,())))
          (Tr.test (Option.isSome (l97_0 (((0:Int),()),((x0,(x0',())),()))))
            (Tr.test (isRet (l97_0 (((0:Int),()),((x0,(x0',())),()))))
              (let r2:=r97_0 (((0:Int),()),((x0,(x0',())),()));
              Tr.fin ((r2.1.1,())))
              (Tr.fin (((0:Int),()))))
            (Tr.stop)))
        (Tr.stop)))
    (Tr.stop)

def f97 (d:Tys.data as97):Option (Tys.data rs97):=(t97 d.1.1 d.1.2.1 d.2.1).val
def g97 (d:Tys.data as97):Tys.data rs97:=(f97 d).getD (Tys.dflt rs97)
def p97:PureC:=pcOf as97 rs97 f97 g97

theorem wk97 (x0:(List Int)) (x0':(List Int)) (x1:Int):Walks (runPure (kl97_0 Go.Proofs.Tryz.prog).orc Go.Proofs.Tryz.prog 400 97 as97 rs97 ((x0,x0',()),x1,())) (t97 x0 x0' x1) [(bl 2 3,[2,4]),(bl 4 13,[2,4,6,8]),(bl 6 53,[2,4,6,8,10,12]),(bl 6 21,[2,4,6,8,10,12])] :=
  ⟨by kernel_rfl,by kernel_rfl,by kernel_rfl,by kernel_rfl,trivial⟩

theorem ok97_t (x0:(List Int)) (x0':(List Int)) (x1:Int):TrOk (PureRuns Go.Proofs.Tryz.prog (kl97_0 Go.Proofs.Tryz.prog).orc 97 as97 rs97 ((x0,x0',()),x1,())) (t97 x0 x0' x1) :=
  Walks.ok (fun _ _ _=>PureRuns.of) (wk97 x0 x0' x1) (by kernel_rfl)

theorem ok97:PureOk Go.Proofs.Tryz.prog 97 p97:=pureOk_of kl97_0_ok.base (T:=fun (d:Tys.data as97)=>t97 d.1.1 d.1.2.1 d.2.1) (by kernel_rfl) (fun (d:Tys.data as97)=>ok97_t d.1.1 d.1.2.1 d.2.1)
def kf97 (P:Go.Program):Known:=(kl97_0 P).func 97 p97
theorem kf97_ok:KnownOk Go.Proofs.Tryz.prog (kf97 Go.Proofs.Tryz.prog):=kl97_0_ok.func ok97

/-! loop 0 of ductility/ductilityref09.CheckMachine -/

abbrev sh21_0:Sh:={ n:=130,slots:=[1,4],pats:=[.ptr 0 3 0,.ty (.int .i64)],boxes:=[.row [.ty (.slice .str),.ty (.slice (.pair .str (.pair (.pair (.slice (.int .i64)) (.pair (.slice (.int .i64)) .unit)) (.pair (.pair (.slice (.int .i64)) (.pair (.slice (.int .i64)) .unit)) .unit)))),.ty (.slice (.pair (.slice (.int .i64)) (.pair (.slice (.int .i64)) .unit)))]] }
abbrev shb21_0:Sh:={ n:=130,slots:=[1],pats:=[.ptr 0 3 0],boxes:=[.row [.ty (.slice .str),.ty (.slice (.pair .str (.pair (.pair (.slice (.int .i64)) (.pair (.slice (.int .i64)) .unit)) (.pair (.pair (.slice (.int .i64)) (.pair (.slice (.int .i64)) .unit)) .unit)))),.ty (.slice (.pair (.slice (.int .i64)) (.pair (.slice (.int .i64)) .unit)))]] }
abbrev shr21_0:Sh:={ n:=130,slots:=[2,3],pats:=[.ty (.int .i64),.ty (.int .i64)],boxes:=[.row [.ty (.slice .str),.ty (.slice (.pair .str (.pair (.pair (.slice (.int .i64)) (.pair (.slice (.int .i64)) .unit)) (.pair (.pair (.slice (.int .i64)) (.pair (.slice (.int .i64)) .unit)) .unit)))),.ty (.slice (.pair (.slice (.int .i64)) (.pair (.slice (.int .i64)) .unit)))]] }

def t21_0 (x1:Int) (b0_0:(List ByteArray)) (b0_1:(List (ByteArray×(((List Int)×((List Int)×Unit))×(((List Int)×((List Int)×Unit))×Unit))))) (b0_2:(List ((List Int)×((List Int)×Unit)))):Tr (Out sh21_0.data shb21_0.data shr21_0.data) :=
  Tr.test ((!leF (↑(List.length b0_0):Int) x1:Bool))
    (Tr.test (decide ((0:Int) ≤ x1) && decide (x1 < (↑(List.length b0_0):Int)))
      (Tr.test (Option.isSome (f95 ((List.getD b0_0 (Int.toNat x1) { data:={ toList:=[] } }:ByteArray),())))
        (let r0:=g95 ((List.getD b0_0 (Int.toNat x1) { data:={ toList:=[] } }:ByteArray),());
        Tr.test ((!r0.1:Bool))
          (Tr.fin (.ret ((x1,((4:Int),())),((b0_0,(b0_1,(b0_2,()))),()))))
          (Tr.test ((decide ((0:Int) ≤ x1) && decide (x1 ≤ (↑(List.length b0_0):Int)):Bool))
            (Tr.test (Option.isSome (f96 ((List.take (Int.toNat x1) b0_0:List ByteArray),((List.getD b0_0 (Int.toNat x1) { data:={ toList:=[] } }:ByteArray),()))))
              (let r1:=g96 ((List.take (Int.toNat x1) b0_0:List ByteArray),((List.getD b0_0 (Int.toNat x1) { data:={ toList:=[] } }:ByteArray),()));
              Tr.test (r1.1)
                (Tr.fin (.ret ((x1,((5:Int),())),((b0_0,(b0_1,(b0_2,()))),()))))
                (Tr.fin (.again (((wrap64 (x1 + (1:Int)):Int),()),((b0_0,(b0_1,(b0_2,()))),())))))
              (Tr.stop))
            (Tr.stop)))
        (Tr.stop))
      (Tr.stop))
    (Tr.fin (.brk ((),((b0_0,(b0_1,(b0_2,()))),()))))

def s21_0 (d:sh21_0.data):Option (Out sh21_0.data shb21_0.data shr21_0.data):=(t21_0 d.1.1 d.2.1.1 d.2.1.2.1 d.2.1.2.2.1).val
def l21_0 (d:sh21_0.data):Option (shb21_0.data ⊕ shr21_0.data):=itr s21_0 rounds d
def b21_0 (d:sh21_0.data):shb21_0.data:=outB shb21_0.dflt (l21_0 d)
def r21_0 (d:sh21_0.data):shr21_0.data:=outR shr21_0.dflt (l21_0 d)
def lc21_0:LoopC:=lcOf sh21_0 shb21_0 shr21_0 l21_0 b21_0 r21_0

theorem wk21_0 (x1:Int) (b0_0:(List ByteArray)) (b0_1:(List (ByteArray×(((List Int)×((List Int)×Unit))×(((List Int)×((List Int)×Unit))×Unit))))) (b0_2:(List ((List Int)×((List Int)×Unit)))):Walks (runBody (kf97 Go.Proofs.Tryz.prog).orc Go.Proofs.Tryz.prog 400 21 0 sh21_0 shb21_0 shr21_0 ((x1,()),(b0_0,b0_1,b0_2,()),())) (t21_0 x1 b0_0 b0_1 b0_2) [(bl 4 15,[2,4,6,8]),(bl 7 119,[2,4,12,6,8,10,12,14]),(bl 7 55,[2,4,12,6,8,10,12,14]),(bl 1 0,[2])] :=
  ⟨by kernel_rfl,by kernel_rfl,by kernel_rfl,by kernel_rfl,trivial⟩

theorem ok21_0_t (x1:Int) (b0_0:(List ByteArray)) (b0_1:(List (ByteArray×(((List Int)×((List Int)×Unit))×(((List Int)×((List Int)×Unit))×Unit))))) (b0_2:(List ((List Int)×((List Int)×Unit)))):TrOk (BodyRuns Go.Proofs.Tryz.prog (kf97 Go.Proofs.Tryz.prog).orc 21 0 sh21_0 shb21_0 shr21_0 ((x1,()),(b0_0,b0_1,b0_2,()),())) (t21_0 x1 b0_0 b0_1 b0_2) :=
  Walks.ok (fun _ _ _=>BodyRuns.of) (wk21_0 x1 b0_0 b0_1 b0_2) (by kernel_rfl)

theorem ok21_0:LoopOk Go.Proofs.Tryz.prog 21 0 lc21_0:=loopOk_of (sh:=sh21_0) (shB:=shb21_0) (shR:=shr21_0) kf97_ok.base (T:=fun (d:sh21_0.data)=>t21_0 d.1.1 d.2.1.1 d.2.1.2.1 d.2.1.2.2.1) (by kernel_rfl) rfl (fun (d:sh21_0.data)=>ok21_0_t d.1.1 d.2.1.1 d.2.1.2.1 d.2.1.2.2.1) (fun _=>rfl)
def kl21_0 (P:Go.Program):Known:=(kf97 P).loop 21 0 lc21_0
theorem kl21_0_ok:KnownOk Go.Proofs.Tryz.prog (kl21_0 Go.Proofs.Tryz.prog):=kf97_ok.loop ok21_0

/-! loop 4 of ductility/ductilityref09.CheckMachine -/

abbrev sh21_4:Sh:={ n:=130,slots:=[1,5,6,7],pats:=[.ptr 0 3 0,.ty (.int .i64),.ptr 1 5 0,.ty (.int .i64)],boxes:=[.row [.ty (.slice .str),.ty (.slice (.pair .str (.pair (.pair (.slice (.int .i64)) (.pair (.slice (.int .i64)) .unit)) (.pair (.pair (.slice (.int .i64)) (.pair (.slice (.int .i64)) .unit)) .unit)))),.ty (.slice (.pair (.slice (.int .i64)) (.pair (.slice (.int .i64)) .unit)))],.row [.ty .str,.ty (.slice (.int .i64)),.ty (.slice (.int .i64)),.ty (.slice (.int .i64)),.ty (.slice (.int .i64))]] }
abbrev shb21_4:Sh:={ n:=130,slots:=[1,5,6],pats:=[.ptr 0 3 0,.ty (.int .i64),.ptr 1 5 0],boxes:=[.row [.ty (.slice .str),.ty (.slice (.pair .str (.pair (.pair (.slice (.int .i64)) (.pair (.slice (.int .i64)) .unit)) (.pair (.pair (.slice (.int .i64)) (.pair (.slice (.int .i64)) .unit)) .unit)))),.ty (.slice (.pair (.slice (.int .i64)) (.pair (.slice (.int .i64)) .unit)))],.row [.ty .str,.ty (.slice (.int .i64)),.ty (.slice (.int .i64)),.ty (.slice (.int .i64)),.ty (.slice (.int .i64))]] }
abbrev shr21_4:Sh:={ n:=130,slots:=[2,3],pats:=[.ty (.int .i64),.ty (.int .i64)],boxes:=[.row [.ty (.slice .str),.ty (.slice (.pair .str (.pair (.pair (.slice (.int .i64)) (.pair (.slice (.int .i64)) .unit)) (.pair (.pair (.slice (.int .i64)) (.pair (.slice (.int .i64)) .unit)) .unit)))),.ty (.slice (.pair (.slice (.int .i64)) (.pair (.slice (.int .i64)) .unit)))],.row [.ty .str,.ty (.slice (.int .i64)),.ty (.slice (.int .i64)),.ty (.slice (.int .i64)),.ty (.slice (.int .i64))]] }

def t21_4 (x1:Int) (x3:Int) (b0_0:(List ByteArray)) (b0_1:(List (ByteArray×(((List Int)×((List Int)×Unit))×(((List Int)×((List Int)×Unit))×Unit))))) (b0_2:(List ((List Int)×((List Int)×Unit)))) (b1_0:ByteArray) (b1_1:(List Int)) (b1_2:(List Int)) (b1_3:(List Int)) (b1_4:(List Int)):Tr (Out sh21_4.data shb21_4.data shr21_4.data) :=
  Tr.test ((!leF x1 x3:Bool))
    (Tr.test (decide ((0:Int) ≤ x3) && decide (x3 < (↑(List.length b0_1):Int)))
      (Tr.test ((strEq (List.getD b0_1 (Int.toNat x3) ({ data:={ toList:=[] } },([],[],()),([],[],()),())).1 b1_0:Bool))
        (Tr.fin (.ret ((x1,((5:Int),())),((b0_0,(b0_1,(b0_2,()))),((b1_0,(b1_1,(b1_2,(b1_3,(b1_4,()))))),())))))
        (Tr.fin (.again ((x1,((wrap64 (x3 + (1:Int)):Int),())),((b0_0,(b0_1,(b0_2,()))),((b1_0,(b1_1,(b1_2,(b1_3,(b1_4,()))))),()))))))
      (Tr.stop))
    (Tr.fin (.brk ((x1,()),((b0_0,(b0_1,(b0_2,()))),((b1_0,(b1_1,(b1_2,(b1_3,(b1_4,()))))),())))))

def s21_4 (d:sh21_4.data):Option (Out sh21_4.data shb21_4.data shr21_4.data):=(t21_4 d.1.1 d.1.2.1 d.2.1.1 d.2.1.2.1 d.2.1.2.2.1 d.2.2.1.1 d.2.2.1.2.1 d.2.2.1.2.2.1 d.2.2.1.2.2.2.1 d.2.2.1.2.2.2.2.1).val
def l21_4 (d:sh21_4.data):Option (shb21_4.data ⊕ shr21_4.data):=itr s21_4 rounds d
def b21_4 (d:sh21_4.data):shb21_4.data:=outB shb21_4.dflt (l21_4 d)
def r21_4 (d:sh21_4.data):shr21_4.data:=outR shr21_4.dflt (l21_4 d)
def lc21_4:LoopC:=lcOf sh21_4 shb21_4 shr21_4 l21_4 b21_4 r21_4

theorem wk21_4 (x1:Int) (x3:Int) (b0_0:(List ByteArray)) (b0_1:(List (ByteArray×(((List Int)×((List Int)×Unit))×(((List Int)×((List Int)×Unit))×Unit))))) (b0_2:(List ((List Int)×((List Int)×Unit)))) (b1_0:ByteArray) (b1_1:(List Int)) (b1_2:(List Int)) (b1_3:(List Int)) (b1_4:(List Int)):Walks (runBody (kl21_0 Go.Proofs.Tryz.prog).orc Go.Proofs.Tryz.prog 400 21 4 sh21_4 shb21_4 shr21_4 ((x1,x3,()),(b0_0,b0_1,b0_2,()),(b1_0,b1_1,b1_2,b1_3,b1_4,()),())) (t21_4 x1 x3 b0_0 b0_1 b0_2 b1_0 b1_1 b1_2 b1_3 b1_4) [(bl 3 7,[2,4,6]),(bl 3 3,[2,4,6]),(bl 1 0,[2])] :=
  ⟨by kernel_rfl,by kernel_rfl,by kernel_rfl,trivial⟩

theorem ok21_4_t (x1:Int) (x3:Int) (b0_0:(List ByteArray)) (b0_1:(List (ByteArray×(((List Int)×((List Int)×Unit))×(((List Int)×((List Int)×Unit))×Unit))))) (b0_2:(List ((List Int)×((List Int)×Unit)))) (b1_0:ByteArray) (b1_1:(List Int)) (b1_2:(List Int)) (b1_3:(List Int)) (b1_4:(List Int)):TrOk (BodyRuns Go.Proofs.Tryz.prog (kl21_0 Go.Proofs.Tryz.prog).orc 21 4 sh21_4 shb21_4 shr21_4 ((x1,x3,()),(b0_0,b0_1,b0_2,()),(b1_0,b1_1,b1_2,b1_3,b1_4,()),())) (t21_4 x1 x3 b0_0 b0_1 b0_2 b1_0 b1_1 b1_2 b1_3 b1_4) :=
  Walks.ok (fun _ _ _=>BodyRuns.of) (wk21_4 x1 x3 b0_0 b0_1 b0_2 b1_0 b1_1 b1_2 b1_3 b1_4) (by kernel_rfl)

theorem ok21_4:LoopOk Go.Proofs.Tryz.prog 21 4 lc21_4:=loopOk_of (sh:=sh21_4) (shB:=shb21_4) (shR:=shr21_4) kl21_0_ok.base (T:=fun (d:sh21_4.data)=>t21_4 d.1.1 d.1.2.1 d.2.1.1 d.2.1.2.1 d.2.1.2.2.1 d.2.2.1.1 d.2.2.1.2.1 d.2.2.1.2.2.1 d.2.2.1.2.2.2.1 d.2.2.1.2.2.2.2.1) (by kernel_rfl) rfl (fun (d:sh21_4.data)=>ok21_4_t d.1.1 d.1.2.1 d.2.1.1 d.2.1.2.1 d.2.1.2.2.1 d.2.2.1.1 d.2.2.1.2.1 d.2.2.1.2.2.1 d.2.2.1.2.2.2.1 d.2.2.1.2.2.2.2.1) (fun _=>rfl)
def kl21_4 (P:Go.Program):Known:=(kl21_0 P).loop 21 4 lc21_4
theorem kl21_4_ok:KnownOk Go.Proofs.Tryz.prog (kl21_4 Go.Proofs.Tryz.prog):=kl21_0_ok.loop ok21_4

/-! loop 2 of ductility/ductilityref09.CheckMachine -/

abbrev sh21_2:Sh:={ n:=130,slots:=[1,5],pats:=[.ptr 0 3 0,.ty (.int .i64)],boxes:=[.row [.ty (.slice .str),.ty (.slice (.pair .str (.pair (.pair (.slice (.int .i64)) (.pair (.slice (.int .i64)) .unit)) (.pair (.pair (.slice (.int .i64)) (.pair (.slice (.int .i64)) .unit)) .unit)))),.ty (.slice (.pair (.slice (.int .i64)) (.pair (.slice (.int .i64)) .unit)))]] }
abbrev shb21_2:Sh:={ n:=130,slots:=[1],pats:=[.ptr 0 3 0],boxes:=[.row [.ty (.slice .str),.ty (.slice (.pair .str (.pair (.pair (.slice (.int .i64)) (.pair (.slice (.int .i64)) .unit)) (.pair (.pair (.slice (.int .i64)) (.pair (.slice (.int .i64)) .unit)) .unit)))),.ty (.slice (.pair (.slice (.int .i64)) (.pair (.slice (.int .i64)) .unit)))]] }
abbrev shr21_2:Sh:={ n:=130,slots:=[2,3],pats:=[.ty (.int .i64),.ty (.int .i64)],boxes:=[.row [.ty (.slice .str),.ty (.slice (.pair .str (.pair (.pair (.slice (.int .i64)) (.pair (.slice (.int .i64)) .unit)) (.pair (.pair (.slice (.int .i64)) (.pair (.slice (.int .i64)) .unit)) .unit)))),.ty (.slice (.pair (.slice (.int .i64)) (.pair (.slice (.int .i64)) .unit)))]] }

def t21_2 (x1:Int) (b0_0:(List ByteArray)) (b0_1:(List (ByteArray×(((List Int)×((List Int)×Unit))×(((List Int)×((List Int)×Unit))×Unit))))) (b0_2:(List ((List Int)×((List Int)×Unit)))):Tr (Out sh21_2.data shb21_2.data shr21_2.data) :=
  Tr.test ((!leF (↑(List.length b0_1):Int) x1:Bool))
    (Tr.test (decide ((0:Int) ≤ x1) && decide (x1 < (↑(List.length b0_1):Int)))
      (Tr.test (Option.isSome (f95 (((List.getD b0_1 (Int.toNat x1) ({ data:={ toList:=[] } },([],[],()),([],[],()),())).1:ByteArray),())))
        (let r0:=g95 (((List.getD b0_1 (Int.toNat x1) ({ data:={ toList:=[] } },([],[],()),([],[],()),())).1:ByteArray),());
        Tr.test ((!r0.1:Bool))
          (Tr.fin (.ret ((x1,((4:Int),())),((b0_0,(b0_1,(b0_2,()))),()))))
          (Tr.test (Option.isSome (l21_4 ((x1,((0:Int),())),((b0_0,(b0_1,(b0_2,()))),((((List.getD b0_1 (Int.toNat x1) ({ data:={ toList:=[] } },([],[],()),([],[],()),())).1:ByteArray),(((List.getD b0_1 (Int.toNat x1) ({ data:={ toList:=[] } },([],[],()),([],[],()),())).2.1.1:List Int),(((List.getD b0_1 (Int.toNat x1) ({ data:={ toList:=[] } },([],[],()),([],[],()),())).2.1.2.1:List Int),(((List.getD b0_1 (Int.toNat x1) ({ data:={ toList:=[] } },([],[],()),([],[],()),())).2.2.1.1:List Int),(((List.getD b0_1 (Int.toNat x1) ({ data:={ toList:=[] } },([],[],()),([],[],()),())).2.2.1.2.1:List Int),()))))),())))))
            (Tr.test (isRet (l21_4 ((x1,((0:Int),())),((b0_0,(b0_1,(b0_2,()))),((((List.getD b0_1 (Int.toNat x1) ({ data:={ toList:=[] } },([],[],()),([],[],()),())).1:ByteArray),(((List.getD b0_1 (Int.toNat x1) ({ data:={ toList:=[] } },([],[],()),([],[],()),())).2.1.1:List Int),(((List.getD b0_1 (Int.toNat x1) ({ data:={ toList:=[] } },([],[],()),([],[],()),())).2.1.2.1:List Int),(((List.getD b0_1 (Int.toNat x1) ({ data:={ toList:=[] } },([],[],()),([],[],()),())).2.2.1.1:List Int),(((List.getD b0_1 (Int.toNat x1) ({ data:={ toList:=[] } },([],[],()),([],[],()),())).2.2.1.2.1:List Int),()))))),())))))
              (let r1:=r21_4 ((x1,((0:Int),())),((b0_0,(b0_1,(b0_2,()))),((((List.getD b0_1 (Int.toNat x1) ({ data:={ toList:=[] } },([],[],()),([],[],()),())).1:ByteArray),(((List.getD b0_1 (Int.toNat x1) ({ data:={ toList:=[] } },([],[],()),([],[],()),())).2.1.1:List Int),(((List.getD b0_1 (Int.toNat x1) ({ data:={ toList:=[] } },([],[],()),([],[],()),())).2.1.2.1:List Int),(((List.getD b0_1 (Int.toNat x1) ({ data:={ toList:=[] } },([],[],()),([],[],()),())).2.2.1.1:List Int),(((List.getD b0_1 (Int.toNat x1) ({ data:={ toList:=[] } },([],[],()),([],[],()),())).2.2.1.2.1:List Int),()))))),())));
              Tr.fin (.ret ((r1.1.1,(r1.1.2.1,())),((r1.2.1.1,((r1.2.1.2.1:List (ByteArray×(List Int×List Int×PUnit)×(List Int×List Int×PUnit)×PUnit)),(r1.2.1.2.2.1,()))),()))))
              (let r2:=b21_4 ((x1,((0:Int),())),((b0_0,(b0_1,(b0_2,()))),((((List.getD b0_1 (Int.toNat x1) ({ data:={ toList:=[] } },([],[],()),([],[],()),())).1:ByteArray),(((List.getD b0_1 (Int.toNat x1) ({ data:={ toList:=[] } },([],[],()),([],[],()),())).2.1.1:List Int),(((List.getD b0_1 (Int.toNat x1) ({ data:={ toList:=[] } },([],[],()),([],[],()),())).2.1.2.1:List Int),(((List.getD b0_1 (Int.toNat x1) ({ data:={ toList:=[] } },([],[],()),([],[],()),())).2.2.1.1:List Int),(((List.getD b0_1 (Int.toNat x1) ({ data:={ toList:=[] } },([],[],()),([],[],()),())).2.2.1.2.1:List Int),()))))),())));
              Tr.test (Option.isSome (f97 ((r2.2.2.1.2.1,(r2.2.2.1.2.2.1,())),((↑(List.length r2.2.1.1):Int),()))))
                (let r3:=g97 ((r2.2.2.1.2.1,(r2.2.2.1.2.2.1,())),((↑(List.length r2.2.1.1):Int),()));
                Tr.test ((!eqF r3.1 0:Bool))
                  (Tr.fin (.ret ((r2.1.1,(r3.1,())),((r2.2.1.1,((r2.2.1.2.1:List (ByteArray×(List Int×List Int×PUnit)×(List Int×List Int×PUnit)×PUnit)),(r2.2.1.2.2.1,()))),()))))
                  (Tr.test (Option.isSome (f97 ((r2.2.2.1.2.2.2.1,(r2.2.2.1.2.2.2.2.1,())),((↑(List.length r2.2.1.1):Int),()))))
                    (let r4:=g97 ((r2.2.2.1.2.2.2.1,(r2.2.2.1.2.2.2.2.1,())),((↑(List.length r2.2.1.1):Int),()));
                    Tr.test ((!eqF r4.1 0:Bool))
                      (Tr.fin (.ret ((r2.1.1,(r4.1,())),((r2.2.1.1,((r2.2.1.2.1:List (ByteArray×(List Int×List Int×PUnit)×(List Int×List Int×PUnit)×PUnit)),(r2.2.1.2.2.1,()))),()))))
                      (Tr.fin (.again (((wrap64 (r2.1.1 + (1:Int)):Int),()),((r2.2.1.1,((r2.2.1.2.1:List (ByteArray×(List Int×List Int×PUnit)×(List Int×List Int×PUnit)×PUnit)),(r2.2.1.2.2.1,()))),())))))
                    (Tr.stop)))
                (Tr.stop)))
            (Tr.stop)))
        (Tr.stop))
      (Tr.stop))
    (Tr.fin (.brk ((),((b0_0,(b0_1,(b0_2,()))),()))))

def s21_2 (d:sh21_2.data):Option (Out sh21_2.data shb21_2.data shr21_2.data):=(t21_2 d.1.1 d.2.1.1 d.2.1.2.1 d.2.1.2.2.1).val
def l21_2 (d:sh21_2.data):Option (shb21_2.data ⊕ shr21_2.data):=itr s21_2 rounds d
def b21_2 (d:sh21_2.data):shb21_2.data:=outB shb21_2.dflt (l21_2 d)
def r21_2 (d:sh21_2.data):shr21_2.data:=outR shr21_2.dflt (l21_2 d)
def lc21_2:LoopC:=lcOf sh21_2 shb21_2 shr21_2 l21_2 b21_2 r21_2

theorem wk21_2 (x1:Int) (b0_0:(List ByteArray)) (b0_1:(List (ByteArray×(((List Int)×((List Int)×Unit))×(((List Int)×((List Int)×Unit))×Unit))))) (b0_2:(List ((List Int)×((List Int)×Unit)))):Walks (runBody (kl21_4 Go.Proofs.Tryz.prog).orc Go.Proofs.Tryz.prog 400 21 2 sh21_2 shb21_2 shr21_2 ((x1,()),(b0_0,b0_1,b0_2,()),())) (t21_2 x1 b0_0 b0_1 b0_2) [(bl 4 15,[2,4,6,8]),(bl 6 55,[2,4,6,8,10,12]),(bl 8 215,[2,4,6,8,10,12,14,16]),(bl 10 855,[2,4,6,8,10,12,14,16,18,20]),(bl 10 343,[2,4,6,8,10,12,14,16,18,20]),(bl 1 0,[2])] :=
  ⟨by kernel_rfl,by kernel_rfl,by kernel_rfl,by kernel_rfl,by kernel_rfl,by kernel_rfl,trivial⟩

theorem ok21_2_t (x1:Int) (b0_0:(List ByteArray)) (b0_1:(List (ByteArray×(((List Int)×((List Int)×Unit))×(((List Int)×((List Int)×Unit))×Unit))))) (b0_2:(List ((List Int)×((List Int)×Unit)))):TrOk (BodyRuns Go.Proofs.Tryz.prog (kl21_4 Go.Proofs.Tryz.prog).orc 21 2 sh21_2 shb21_2 shr21_2 ((x1,()),(b0_0,b0_1,b0_2,()),())) (t21_2 x1 b0_0 b0_1 b0_2) :=
  Walks.ok (fun _ _ _=>BodyRuns.of) (wk21_2 x1 b0_0 b0_1 b0_2) (by kernel_rfl)

theorem ok21_2:LoopOk Go.Proofs.Tryz.prog 21 2 lc21_2:=loopOk_of (sh:=sh21_2) (shB:=shb21_2) (shR:=shr21_2) kl21_4_ok.base (T:=fun (d:sh21_2.data)=>t21_2 d.1.1 d.2.1.1 d.2.1.2.1 d.2.1.2.2.1) (by kernel_rfl) rfl (fun (d:sh21_2.data)=>ok21_2_t d.1.1 d.2.1.1 d.2.1.2.1 d.2.1.2.2.1) (fun _=>rfl)
def kl21_2 (P:Go.Program):Known:=(kl21_4 P).loop 21 2 lc21_2
theorem kl21_2_ok:KnownOk Go.Proofs.Tryz.prog (kl21_2 Go.Proofs.Tryz.prog):=kl21_4_ok.loop ok21_2

/-! loop 6 of ductility/ductilityref09.CheckMachine -/

abbrev sh21_6:Sh:={ n:=130,slots:=[1,10],pats:=[.ptr 0 3 0,.ty (.int .i64)],boxes:=[.row [.ty (.slice .str),.ty (.slice (.pair .str (.pair (.pair (.slice (.int .i64)) (.pair (.slice (.int .i64)) .unit)) (.pair (.pair (.slice (.int .i64)) (.pair (.slice (.int .i64)) .unit)) .unit)))),.ty (.slice (.pair (.slice (.int .i64)) (.pair (.slice (.int .i64)) .unit)))]] }
abbrev shb21_6:Sh:={ n:=130,slots:=[],pats:=[],boxes:=[.row [.ty (.slice .str),.ty (.slice (.pair .str (.pair (.pair (.slice (.int .i64)) (.pair (.slice (.int .i64)) .unit)) (.pair (.pair (.slice (.int .i64)) (.pair (.slice (.int .i64)) .unit)) .unit)))),.ty (.slice (.pair (.slice (.int .i64)) (.pair (.slice (.int .i64)) .unit)))]] }
abbrev shr21_6:Sh:={ n:=130,slots:=[2,3],pats:=[.ty (.int .i64),.ty (.int .i64)],boxes:=[.row [.ty (.slice .str),.ty (.slice (.pair .str (.pair (.pair (.slice (.int .i64)) (.pair (.slice (.int .i64)) .unit)) (.pair (.pair (.slice (.int .i64)) (.pair (.slice (.int .i64)) .unit)) .unit)))),.ty (.slice (.pair (.slice (.int .i64)) (.pair (.slice (.int .i64)) .unit)))]] }

def t21_6 (x1:Int) (b0_0:(List ByteArray)) (b0_1:(List (ByteArray×(((List Int)×((List Int)×Unit))×(((List Int)×((List Int)×Unit))×Unit))))) (b0_2:(List ((List Int)×((List Int)×Unit)))):Tr (Out sh21_6.data shb21_6.data shr21_6.data) :=
  Tr.test ((!leF (↑(List.length b0_2):Int) x1:Bool))
    (Tr.test (decide ((0:Int) ≤ x1) && decide (x1 < (↑(List.length b0_2):Int)))
      (Tr.test (Option.isSome (f97 ((((List.getD b0_2 (Int.toNat x1) ([],[],())).1:List Int),(((List.getD b0_2 (Int.toNat x1) ([],[],())).2.1:List Int),())),((↑(List.length b0_0):Int),()))))
        (let r0:=g97 ((((List.getD b0_2 (Int.toNat x1) ([],[],())).1:List Int),(((List.getD b0_2 (Int.toNat x1) ([],[],())).2.1:List Int),())),((↑(List.length b0_0):Int),()));
        Tr.test ((!eqF r0.1 0:Bool))
          (Tr.fin (.ret ((x1,(r0.1,())),((b0_0,(b0_1,(b0_2,()))),()))))
          (Tr.fin (.again (((wrap64 (x1 + (1:Int)):Int),()),((b0_0,(b0_1,(b0_2,()))),())))))
        (Tr.stop))
      (Tr.stop))
    (Tr.fin (.brk ((),((b0_0,(b0_1,(b0_2,()))),()))))

def s21_6 (d:sh21_6.data):Option (Out sh21_6.data shb21_6.data shr21_6.data):=(t21_6 d.1.1 d.2.1.1 d.2.1.2.1 d.2.1.2.2.1).val
def l21_6 (d:sh21_6.data):Option (shb21_6.data ⊕ shr21_6.data):=itr s21_6 rounds d
def b21_6 (d:sh21_6.data):shb21_6.data:=outB shb21_6.dflt (l21_6 d)
def r21_6 (d:sh21_6.data):shr21_6.data:=outR shr21_6.dflt (l21_6 d)
def lc21_6:LoopC:=lcOf sh21_6 shb21_6 shr21_6 l21_6 b21_6 r21_6

theorem wk21_6 (x1:Int) (b0_0:(List ByteArray)) (b0_1:(List (ByteArray×(((List Int)×((List Int)×Unit))×(((List Int)×((List Int)×Unit))×Unit))))) (b0_2:(List ((List Int)×((List Int)×Unit)))):Walks (runBody (kl21_2 Go.Proofs.Tryz.prog).orc Go.Proofs.Tryz.prog 400 21 6 sh21_6 shb21_6 shr21_6 ((x1,()),(b0_0,b0_1,b0_2,()),())) (t21_6 x1 b0_0 b0_1 b0_2) [(bl 4 15,[2,4,6,8]),(bl 4 7,[2,4,6,8]),(bl 1 0,[2])] :=
  ⟨by kernel_rfl,by kernel_rfl,by kernel_rfl,trivial⟩

theorem ok21_6_t (x1:Int) (b0_0:(List ByteArray)) (b0_1:(List (ByteArray×(((List Int)×((List Int)×Unit))×(((List Int)×((List Int)×Unit))×Unit))))) (b0_2:(List ((List Int)×((List Int)×Unit)))):TrOk (BodyRuns Go.Proofs.Tryz.prog (kl21_2 Go.Proofs.Tryz.prog).orc 21 6 sh21_6 shb21_6 shr21_6 ((x1,()),(b0_0,b0_1,b0_2,()),())) (t21_6 x1 b0_0 b0_1 b0_2) :=
  Walks.ok (fun _ _ _=>BodyRuns.of) (wk21_6 x1 b0_0 b0_1 b0_2) (by kernel_rfl)

theorem ok21_6:LoopOk Go.Proofs.Tryz.prog 21 6 lc21_6:=loopOk_of (sh:=sh21_6) (shB:=shb21_6) (shR:=shr21_6) kl21_2_ok.base (T:=fun (d:sh21_6.data)=>t21_6 d.1.1 d.2.1.1 d.2.1.2.1 d.2.1.2.2.1) (by kernel_rfl) rfl (fun (d:sh21_6.data)=>ok21_6_t d.1.1 d.2.1.1 d.2.1.2.1 d.2.1.2.2.1) (fun _=>rfl)
def kl21_6 (P:Go.Program):Known:=(kl21_2 P).loop 21 6 lc21_6
theorem kl21_6_ok:KnownOk Go.Proofs.Tryz.prog (kl21_6 Go.Proofs.Tryz.prog):=kl21_2_ok.loop ok21_6

/-! ductility/ductilityref09.CheckMachine -/

abbrev as21:List Ty:=[(.pair (.slice .str) (.pair (.slice (.pair .str (.pair (.pair (.slice (.int .i64)) (.pair (.slice (.int .i64)) .unit)) (.pair (.pair (.slice (.int .i64)) (.pair (.slice (.int .i64)) .unit)) .unit)))) (.pair (.slice (.pair (.slice (.int .i64)) (.pair (.slice (.int .i64)) .unit))) .unit)))]
abbrev rs21:List Ty:=[(.int .i64),(.int .i64)]

def t21 (x0:(List ByteArray)) (x0':(List (ByteArray×(((List Int)×((List Int)×Unit))×(((List Int)×((List Int)×Unit))×Unit))))) (x0'':(List ((List Int)×((List Int)×Unit)))):Tr (Tys.data rs21) :=
  Tr.test ((eqF (↑(List.length x0):Int) (0:Int):Bool))
    (Tr.fin (((0:Int),((10:Int),()))))
    (Tr.test (!leF (↑(List.length x0):Int) (8:Int))
      (Tr.fin (((0:Int),((8:Int),()))))
      (Tr.test ((!leF (↑(List.length x0'):Int) (10:Int):Bool))
        (Tr.fin (((0:Int),((8:Int),()))))
        (Tr.test ((!leF (↑(List.length x0''):Int) (4:Int):Bool))
          (Tr.fin (((0:Int),((8:Int),()))))
          (Tr.test (Option.isSome (l21_0 (((0:Int),()),((x0,(x0',(x0'',()))),()))))
            (Tr.test (isRet (l21_0 (((0:Int),()),((x0,(x0',(x0'',()))),()))))
              (let r0:=r21_0 (((0:Int),()),((x0,(x0',(x0'',()))),()));
              Tr.fin ((r0.1.1,(r0.1.2.1,()))))
              (let r1:=b21_0 (((0:Int),()),((x0,(x0',(x0'',()))),()));
              Tr.test (Option.isSome (l21_2 (((0:Int),()),((r1.2.1.1,((r1.2.1.2.1:List (ByteArray×(List Int×List Int×PUnit)×(List Int×List Int×PUnit)×PUnit)),(r1.2.1.2.2.1,()))),()))))
                (Tr.test (isRet (l21_2 (((0:Int),()),((r1.2.1.1,((r1.2.1.2.1:List (ByteArray×(List Int×List Int×PUnit)×(List Int×List Int×PUnit)×PUnit)),(r1.2.1.2.2.1,()))),()))))
                  (let r2:=r21_2 (((0:Int),()),((r1.2.1.1,((r1.2.1.2.1:List (ByteArray×(List Int×List Int×PUnit)×(List Int×List Int×PUnit)×PUnit)),(r1.2.1.2.2.1,()))),()));
                  Tr.fin ((r2.1.1,(r2.1.2.1,()))))
                  (let r3:=b21_2 (((0:Int),()),((r1.2.1.1,((r1.2.1.2.1:List (ByteArray×(List Int×List Int×PUnit)×(List Int×List Int×PUnit)×PUnit)),(r1.2.1.2.2.1,()))),()));
                  Tr.test (Option.isSome (l21_6 (((0:Int),()),((r3.2.1.1,((r3.2.1.2.1:List (ByteArray×(List Int×List Int×PUnit)×(List Int×List Int×PUnit)×PUnit)),(r3.2.1.2.2.1,()))),()))))
                    (Tr.test (isRet (l21_6 (((0:Int),()),((r3.2.1.1,((r3.2.1.2.1:List (ByteArray×(List Int×List Int×PUnit)×(List Int×List Int×PUnit)×PUnit)),(r3.2.1.2.2.1,()))),()))))
                      (let r4:=r21_6 (((0:Int),()),((r3.2.1.1,((r3.2.1.2.1:List (ByteArray×(List Int×List Int×PUnit)×(List Int×List Int×PUnit)×PUnit)),(r3.2.1.2.2.1,()))),()));
                      Tr.fin ((r4.1.1,(r4.1.2.1,()))))
                      (Tr.fin (((0:Int),((0:Int),())))))
                    (Tr.stop)))
                (Tr.stop)))
            (Tr.stop)))))

def f21 (d:Tys.data as21):Option (Tys.data rs21):=(t21 d.1.1 d.1.2.1 d.1.2.2.1).val
def g21 (d:Tys.data as21):Tys.data rs21:=(f21 d).getD (Tys.dflt rs21)
def p21:PureC:=pcOf as21 rs21 f21 g21

theorem wk21 (x0:(List ByteArray)) (x0':(List (ByteArray×(((List Int)×((List Int)×Unit))×(((List Int)×((List Int)×Unit))×Unit))))) (x0'':(List ((List Int)×((List Int)×Unit)))):Walks (runPure (kl21_6 Go.Proofs.Tryz.prog).orc Go.Proofs.Tryz.prog 400 21 as21 rs21 ((x0,x0',x0'',()),())) (t21 x0 x0' x0'') [(bl 1 1,[2]),(bl 2 2,[1,1,1,1,1,1,2,2,2,2,2,4]),(bl 3 4,[1,2,2,2,2,2,4,4,4,4,4,6]),(bl 4 8,[2,4,4,4,4,4,6,6,6,6,6,8]),(bl 6 48,[2,4,6,8,8,8,8,8,10,10,10,10,10,12]),(bl 8 208,[2,4,6,8,10,12,12,12,12,12,14,14,14,14,14,16]),(bl 10 848,[2,4,6,8,10,12,14,16,16,16,16,16,18,18,18,18,18,20]),(bl 10 336,[2,4,6,8,10,12,14,16,16,16,16,16,18,18,18,18,18,20])] :=
  ⟨by kernel_rfl,by kernel_rfl,by kernel_rfl,by kernel_rfl,by kernel_rfl,by kernel_rfl,by kernel_rfl,by kernel_rfl,trivial⟩

theorem ok21_t (x0:(List ByteArray)) (x0':(List (ByteArray×(((List Int)×((List Int)×Unit))×(((List Int)×((List Int)×Unit))×Unit))))) (x0'':(List ((List Int)×((List Int)×Unit)))):TrOk (PureRuns Go.Proofs.Tryz.prog (kl21_6 Go.Proofs.Tryz.prog).orc 21 as21 rs21 ((x0,x0',x0'',()),())) (t21 x0 x0' x0'') :=
  Walks.ok (fun _ _ _=>PureRuns.of) (wk21 x0 x0' x0'') (by kernel_rfl)

theorem ok21:PureOk Go.Proofs.Tryz.prog 21 p21:=pureOk_of kl21_6_ok.base (T:=fun (d:Tys.data as21)=>t21 d.1.1 d.1.2.1 d.1.2.2.1) (by kernel_rfl) (fun (d:Tys.data as21)=>ok21_t d.1.1 d.1.2.1 d.1.2.2.1)
def kf21 (P:Go.Program):Known:=(kl21_6 P).func 21 p21
theorem kf21_ok:KnownOk Go.Proofs.Tryz.prog (kf21 Go.Proofs.Tryz.prog):=kl21_6_ok.func ok21

/-! ductility/ductilityref09.MachineErr -/

abbrev as98:List Ty:=[(.pair (.slice .str) (.pair (.slice (.pair .str (.pair (.pair (.slice (.int .i64)) (.pair (.slice (.int .i64)) .unit)) (.pair (.pair (.slice (.int .i64)) (.pair (.slice (.int .i64)) .unit)) .unit)))) (.pair (.slice (.pair (.slice (.int .i64)) (.pair (.slice (.int .i64)) .unit))) .unit)))]
abbrev rs98:List Ty:=[(.int .i64)]

def t98 (x0:(List ByteArray)) (x0':(List (ByteArray×(((List Int)×((List Int)×Unit))×(((List Int)×((List Int)×Unit))×Unit))))) (x0'':(List ((List Int)×((List Int)×Unit)))):Tr (Tys.data rs98) :=
  Tr.test (Option.isSome (f21 ((x0,(x0',(x0'',()))),())))
    (let r0:=g21 ((x0,(x0',(x0'',()))),());
    Tr.fin ((r0.2.1,())))
    (Tr.stop)

def f98 (d:Tys.data as98):Option (Tys.data rs98):=(t98 d.1.1 d.1.2.1 d.1.2.2.1).val
def g98 (d:Tys.data as98):Tys.data rs98:=(f98 d).getD (Tys.dflt rs98)
def p98:PureC:=pcOf as98 rs98 f98 g98

theorem wk98 (x0:(List ByteArray)) (x0':(List (ByteArray×(((List Int)×((List Int)×Unit))×(((List Int)×((List Int)×Unit))×Unit))))) (x0'':(List ((List Int)×((List Int)×Unit)))):Walks (runPure (kf21 Go.Proofs.Tryz.prog).orc Go.Proofs.Tryz.prog 400 98 as98 rs98 ((x0,x0',x0'',()),())) (t98 x0 x0' x0'') [(bl 1 1,[2])] :=
  ⟨by kernel_rfl,trivial⟩

theorem ok98_t (x0:(List ByteArray)) (x0':(List (ByteArray×(((List Int)×((List Int)×Unit))×(((List Int)×((List Int)×Unit))×Unit))))) (x0'':(List ((List Int)×((List Int)×Unit)))):TrOk (PureRuns Go.Proofs.Tryz.prog (kf21 Go.Proofs.Tryz.prog).orc 98 as98 rs98 ((x0,x0',x0'',()),())) (t98 x0 x0' x0'') :=
  Walks.ok (fun _ _ _=>PureRuns.of) (wk98 x0 x0' x0'') (by kernel_rfl)

theorem ok98:PureOk Go.Proofs.Tryz.prog 98 p98:=pureOk_of kf21_ok.base (T:=fun (d:Tys.data as98)=>t98 d.1.1 d.1.2.1 d.1.2.2.1) (by kernel_rfl) (fun (d:Tys.data as98)=>ok98_t d.1.1 d.1.2.1 d.1.2.2.1)
def kf98 (P:Go.Program):Known:=(kf21 P).func 98 p98
theorem kf98_ok:KnownOk Go.Proofs.Tryz.prog (kf98 Go.Proofs.Tryz.prog):=kf21_ok.func ok98

/-! ductility/ductilityref09.IsState -/

abbrev as116:List Ty:=[(.pair (.slice .str) (.pair (.slice (.pair .str (.pair (.pair (.slice (.int .i64)) (.pair (.slice (.int .i64)) .unit)) (.pair (.pair (.slice (.int .i64)) (.pair (.slice (.int .i64)) .unit)) .unit)))) (.pair (.slice (.pair (.slice (.int .i64)) (.pair (.slice (.int .i64)) .unit))) .unit))),(.int .i64)]
abbrev rs116:List Ty:=[.bool]

def t116 (x0:(List ByteArray)) (x0':(List (ByteArray×(((List Int)×((List Int)×Unit))×(((List Int)×((List Int)×Unit))×Unit))))) (x0'':(List ((List Int)×((List Int)×Unit)))) (x1:Int):Tr (Tys.data rs116) :=
  Tr.test ((decide ((↑(List.length x0):Int) < (0:Int)):Bool))
    (Tr.stop)
    (Tr.test (Option.isSome (f25 (x1,((0:Int),((wrap64 (shlV Go.IntKind.i64 (1:Int) (↑(List.length x0):Int) - (1:Int)):Int),())))))
      (let r0:=g25 (x1,((0:Int),((wrap64 (shlV Go.IntKind.i64 (1:Int) (↑(List.length x0):Int) - (1:Int)):Int),())));
      Tr.fin ((r0.1,())))
      (Tr.stop))

def f116 (d:Tys.data as116):Option (Tys.data rs116):=(t116 d.1.1 d.1.2.1 d.1.2.2.1 d.2.1).val
def g116 (d:Tys.data as116):Tys.data rs116:=(f116 d).getD (Tys.dflt rs116)
def p116:PureC:=pcOf as116 rs116 f116 g116

theorem wk116 (x0:(List ByteArray)) (x0':(List (ByteArray×(((List Int)×((List Int)×Unit))×(((List Int)×((List Int)×Unit))×Unit))))) (x0'':(List ((List Int)×((List Int)×Unit)))) (x1:Int):Walks (runPure (kf98 Go.Proofs.Tryz.prog).orc Go.Proofs.Tryz.prog 400 116 as116 rs116 ((x0,x0',x0'',()),x1,())) (t116 x0 x0' x0'' x1) [(bl 2 2,[2,4])] :=
  ⟨by kernel_rfl,trivial⟩

theorem ok116_t (x0:(List ByteArray)) (x0':(List (ByteArray×(((List Int)×((List Int)×Unit))×(((List Int)×((List Int)×Unit))×Unit))))) (x0'':(List ((List Int)×((List Int)×Unit)))) (x1:Int):TrOk (PureRuns Go.Proofs.Tryz.prog (kf98 Go.Proofs.Tryz.prog).orc 116 as116 rs116 ((x0,x0',x0'',()),x1,())) (t116 x0 x0' x0'' x1) :=
  Walks.ok (fun _ _ _=>PureRuns.of) (wk116 x0 x0' x0'' x1) (by kernel_rfl)

theorem ok116:PureOk Go.Proofs.Tryz.prog 116 p116:=pureOk_of kf98_ok.base (T:=fun (d:Tys.data as116)=>t116 d.1.1 d.1.2.1 d.1.2.2.1 d.2.1) (by kernel_rfl) (fun (d:Tys.data as116)=>ok116_t d.1.1 d.1.2.1 d.1.2.2.1 d.2.1)
def kf116 (P:Go.Program):Known:=(kf98 P).func 116 p116
theorem kf116_ok:KnownOk Go.Proofs.Tryz.prog (kf116 Go.Proofs.Tryz.prog):=kf98_ok.func ok116

/-! ductility/ductilityref09.StateErr -/

abbrev as99:List Ty:=[(.pair (.slice .str) (.pair (.slice (.pair .str (.pair (.pair (.slice (.int .i64)) (.pair (.slice (.int .i64)) .unit)) (.pair (.pair (.slice (.int .i64)) (.pair (.slice (.int .i64)) .unit)) .unit)))) (.pair (.slice (.pair (.slice (.int .i64)) (.pair (.slice (.int .i64)) .unit))) .unit))),(.int .i64)]
abbrev rs99:List Ty:=[(.int .i64)]

def t99 (x0:(List ByteArray)) (x0':(List (ByteArray×(((List Int)×((List Int)×Unit))×(((List Int)×((List Int)×Unit))×Unit))))) (x0'':(List ((List Int)×((List Int)×Unit)))) (x1:Int):Tr (Tys.data rs99) :=
  Tr.test (Option.isSome (f116 ((x0,(x0',(x0'',()))),(x1,()))))
    (let r0:=g116 ((x0,(x0',(x0'',()))),(x1,()));
    Tr.test ((!r0.1:Bool))
      (Tr.fin (((2:Int),())))
      (Tr.fin (((0:Int),()))))
    (Tr.stop)

def f99 (d:Tys.data as99):Option (Tys.data rs99):=(t99 d.1.1 d.1.2.1 d.1.2.2.1 d.2.1).val
def g99 (d:Tys.data as99):Tys.data rs99:=(f99 d).getD (Tys.dflt rs99)
def p99:PureC:=pcOf as99 rs99 f99 g99

theorem wk99 (x0:(List ByteArray)) (x0':(List (ByteArray×(((List Int)×((List Int)×Unit))×(((List Int)×((List Int)×Unit))×Unit))))) (x0'':(List ((List Int)×((List Int)×Unit)))) (x1:Int):Walks (runPure (kf116 Go.Proofs.Tryz.prog).orc Go.Proofs.Tryz.prog 400 99 as99 rs99 ((x0,x0',x0'',()),x1,())) (t99 x0 x0' x0'' x1) [(bl 2 3,[2,4]),(bl 2 1,[2,4])] :=
  ⟨by kernel_rfl,by kernel_rfl,trivial⟩

theorem ok99_t (x0:(List ByteArray)) (x0':(List (ByteArray×(((List Int)×((List Int)×Unit))×(((List Int)×((List Int)×Unit))×Unit))))) (x0'':(List ((List Int)×((List Int)×Unit)))) (x1:Int):TrOk (PureRuns Go.Proofs.Tryz.prog (kf116 Go.Proofs.Tryz.prog).orc 99 as99 rs99 ((x0,x0',x0'',()),x1,())) (t99 x0 x0' x0'' x1) :=
  Walks.ok (fun _ _ _=>PureRuns.of) (wk99 x0 x0' x0'' x1) (by kernel_rfl)

theorem ok99:PureOk Go.Proofs.Tryz.prog 99 p99:=pureOk_of kf116_ok.base (T:=fun (d:Tys.data as99)=>t99 d.1.1 d.1.2.1 d.1.2.2.1 d.2.1) (by kernel_rfl) (fun (d:Tys.data as99)=>ok99_t d.1.1 d.1.2.1 d.1.2.2.1 d.2.1)
def kf99 (P:Go.Program):Known:=(kf116 P).func 99 p99
theorem kf99_ok:KnownOk Go.Proofs.Tryz.prog (kf99 Go.Proofs.Tryz.prog):=kf116_ok.func ok99

/-! ductility/ductilitylaw09.stateErr -/

abbrev as22:List Ty:=[(.pair (.slice .str) (.pair (.slice (.pair .str (.pair (.pair (.slice (.int .i64)) (.pair (.slice (.int .i64)) .unit)) (.pair (.pair (.slice (.int .i64)) (.pair (.slice (.int .i64)) .unit)) .unit)))) (.pair (.slice (.pair (.slice (.int .i64)) (.pair (.slice (.int .i64)) .unit))) .unit))),(.int .i64)]
abbrev rs22:List Ty:=[(.int .i64)]

def t22 (x0:(List ByteArray)) (x0':(List (ByteArray×(((List Int)×((List Int)×Unit))×(((List Int)×((List Int)×Unit))×Unit))))) (x0'':(List ((List Int)×((List Int)×Unit)))) (x1:Int):Tr (Tys.data rs22) :=
  Tr.test (Option.isSome (f98 ((x0,(x0',(x0'',()))),())))
    (let r0:=g98 ((x0,(x0',(x0'',()))),());
    Tr.test ((!eqF r0.1 0:Bool))
      (Tr.fin ((r0.1,())))
      (Tr.test (Option.isSome (f99 ((x0,(x0',(x0'',()))),(x1,()))))
        (let r1:=g99 ((x0,(x0',(x0'',()))),(x1,()));
        Tr.fin ((r1.1,())))
        (Tr.stop)))
    (Tr.stop)

def f22 (d:Tys.data as22):Option (Tys.data rs22):=(t22 d.1.1 d.1.2.1 d.1.2.2.1 d.2.1).val
def g22 (d:Tys.data as22):Tys.data rs22:=(f22 d).getD (Tys.dflt rs22)
def p22:PureC:=pcOf as22 rs22 f22 g22

theorem wk22 (x0:(List ByteArray)) (x0':(List (ByteArray×(((List Int)×((List Int)×Unit))×(((List Int)×((List Int)×Unit))×Unit))))) (x0'':(List ((List Int)×((List Int)×Unit)))) (x1:Int):Walks (runPure (kf99 Go.Proofs.Tryz.prog).orc Go.Proofs.Tryz.prog 400 22 as22 rs22 ((x0,x0',x0'',()),x1,())) (t22 x0 x0' x0'' x1) [(bl 2 3,[2,4]),(bl 3 5,[2,4,6])] :=
  ⟨by kernel_rfl,by kernel_rfl,trivial⟩

theorem ok22_t (x0:(List ByteArray)) (x0':(List (ByteArray×(((List Int)×((List Int)×Unit))×(((List Int)×((List Int)×Unit))×Unit))))) (x0'':(List ((List Int)×((List Int)×Unit)))) (x1:Int):TrOk (PureRuns Go.Proofs.Tryz.prog (kf99 Go.Proofs.Tryz.prog).orc 22 as22 rs22 ((x0,x0',x0'',()),x1,())) (t22 x0 x0' x0'' x1) :=
  Walks.ok (fun _ _ _=>PureRuns.of) (wk22 x0 x0' x0'' x1) (by kernel_rfl)

theorem ok22:PureOk Go.Proofs.Tryz.prog 22 p22:=pureOk_of kf99_ok.base (T:=fun (d:Tys.data as22)=>t22 d.1.1 d.1.2.1 d.1.2.2.1 d.2.1) (by kernel_rfl) (fun (d:Tys.data as22)=>ok22_t d.1.1 d.1.2.1 d.1.2.2.1 d.2.1)
def kf22 (P:Go.Program):Known:=(kf99 P).func 22 p22
theorem kf22_ok:KnownOk Go.Proofs.Tryz.prog (kf22 Go.Proofs.Tryz.prog):=kf99_ok.func ok22

/-! loop 0 of ductility/ductilityref09.Holds -/

abbrev sh100_0:Sh:={ n:=39,slots:=[1,2,5],pats:=[.ty (.int .i64),.ptr 0 2 0,.ty (.int .i64)],boxes:=[.row [.ty (.slice (.int .i64)),.ty (.slice (.int .i64))]] }
abbrev shb100_0:Sh:={ n:=39,slots:=[1,2],pats:=[.ty (.int .i64),.ptr 0 2 0],boxes:=[.row [.ty (.slice (.int .i64)),.ty (.slice (.int .i64))]] }
abbrev shr100_0:Sh:={ n:=39,slots:=[4],pats:=[.ty .bool],boxes:=[.row [.ty (.slice (.int .i64)),.ty (.slice (.int .i64))]] }

def t100_0 (x0:Int) (x2:Int) (b0_0:(List Int)) (b0_1:(List Int)):Tr (Out sh100_0.data shb100_0.data shr100_0.data) :=
  Tr.test ((!leF (↑(List.length b0_0):Int) x2:Bool))
    (Tr.test (decide ((0:Int) ≤ x2) && decide (x2 < (↑(List.length b0_0):Int)))
      (Tr.test ((decide (List.getD b0_0 (Int.toNat x2) (0:Int) < (0:Int)):Bool))
        (Tr.stop)
        (Tr.test ((eqF (andV Go.IntKind.i64 (shrV Go.IntKind.i64 x0 (List.getD b0_0 (Int.toNat x2) (0:Int))) (1:Int)) (0:Int):Bool))
          (Tr.fin (.ret (((false:Bool),()),((b0_0,(b0_1,())),()))))
          (Tr.fin (.again ((x0,((wrap64 (x2 + (1:Int)):Int),())),((b0_0,(b0_1,())),()))))))
      (Tr.stop))
    (Tr.fin (.brk ((x0,()),((b0_0,(b0_1,())),()))))

def s100_0 (d:sh100_0.data):Option (Out sh100_0.data shb100_0.data shr100_0.data):=(t100_0 d.1.1 d.1.2.1 d.2.1.1 d.2.1.2.1).val
def l100_0 (d:sh100_0.data):Option (shb100_0.data ⊕ shr100_0.data):=itr s100_0 rounds d
def b100_0 (d:sh100_0.data):shb100_0.data:=outB shb100_0.dflt (l100_0 d)
def r100_0 (d:sh100_0.data):shr100_0.data:=outR shr100_0.dflt (l100_0 d)
def lc100_0:LoopC:=lcOf sh100_0 shb100_0 shr100_0 l100_0 b100_0 r100_0

theorem wk100_0 (x0:Int) (x2:Int) (b0_0:(List Int)) (b0_1:(List Int)):Walks (runBody (kf22 Go.Proofs.Tryz.prog).orc Go.Proofs.Tryz.prog 400 100 0 sh100_0 shb100_0 shr100_0 ((x0,x2,()),(b0_0,b0_1,()),())) (t100_0 x0 x2 b0_0 b0_1) [(bl 4 11,[2,4,6,8]),(bl 4 3,[2,4,6,8]),(bl 1 0,[2])] :=
  ⟨by kernel_rfl,by kernel_rfl,by kernel_rfl,trivial⟩

theorem ok100_0_t (x0:Int) (x2:Int) (b0_0:(List Int)) (b0_1:(List Int)):TrOk (BodyRuns Go.Proofs.Tryz.prog (kf22 Go.Proofs.Tryz.prog).orc 100 0 sh100_0 shb100_0 shr100_0 ((x0,x2,()),(b0_0,b0_1,()),())) (t100_0 x0 x2 b0_0 b0_1) :=
  Walks.ok (fun _ _ _=>BodyRuns.of) (wk100_0 x0 x2 b0_0 b0_1) (by kernel_rfl)

theorem ok100_0:LoopOk Go.Proofs.Tryz.prog 100 0 lc100_0:=loopOk_of (sh:=sh100_0) (shB:=shb100_0) (shR:=shr100_0) kf22_ok.base (T:=fun (d:sh100_0.data)=>t100_0 d.1.1 d.1.2.1 d.2.1.1 d.2.1.2.1) (by kernel_rfl) rfl (fun (d:sh100_0.data)=>ok100_0_t d.1.1 d.1.2.1 d.2.1.1 d.2.1.2.1) (fun _=>rfl)
def kl100_0 (P:Go.Program):Known:=(kf22 P).loop 100 0 lc100_0
theorem kl100_0_ok:KnownOk Go.Proofs.Tryz.prog (kl100_0 Go.Proofs.Tryz.prog):=kf22_ok.loop ok100_0

end Go.Vm.Mo
