import Derived.Test.YtiodahganfihkaaGreatA4
import Derived.Test.YtiodahganfihkaaGreatA5
import Derived.KernelRfl
import Derived.Test.YtiodahganfihkaaGreatProg
import Derived.Test.YtiodahganfihkaaGreatRsFf
set_option linter.unusedVariables false
set_option linter.unusedSimpArgs false

namespace Go.Vm.Mo
open Go
set_option linter.unusedVariables false

/-! loop 2 of ductility/ductilityref09.CheckMachine -/

abbrev sh21_2:Sh:={ n:=130,slots:=[1,5],pats:=[.ptr 0 3 0,.ty (.int .i64)],boxes:=[.row [.ty (.slice .str),.ty (.slice (.pair .str (.pair (.pair (.slice (.int .i64)) (.pair (.slice (.int .i64)) .unit)) (.pair (.pair (.slice (.int .i64)) (.pair (.slice (.int .i64)) .unit)) .unit)))),.ty (.slice (.pair (.slice (.int .i64)) (.pair (.slice (.int .i64)) .unit)))]] }
abbrev shb21_2:Sh:={ n:=130,slots:=[1],pats:=[.ptr 0 3 0],boxes:=[.row [.ty (.slice .str),.ty (.slice (.pair .str (.pair (.pair (.slice (.int .i64)) (.pair (.slice (.int .i64)) .unit)) (.pair (.pair (.slice (.int .i64)) (.pair (.slice (.int .i64)) .unit)) .unit)))),.ty (.slice (.pair (.slice (.int .i64)) (.pair (.slice (.int .i64)) .unit)))]] }
abbrev shr21_2:Sh:={ n:=130,slots:=[2,3],pats:=[.ty (.int .i64),.ty (.int .i64)],boxes:=[.row [.ty (.slice .str),.ty (.slice (.pair .str (.pair (.pair (.slice (.int .i64)) (.pair (.slice (.int .i64)) .unit)) (.pair (.pair (.slice (.int .i64)) (.pair (.slice (.int .i64)) .unit)) .unit)))),.ty (.slice (.pair (.slice (.int .i64)) (.pair (.slice (.int .i64)) .unit)))]] }

def t21_2 (x1:Int) (b0_0:(List ByteArray)) (b0_1:(List (ByteArray×(((List Int)×((List Int)×Unit))×(((List Int)×((List Int)×Unit))×Unit))))) (b0_2:(List ((List Int)×((List Int)×Unit)))):Tr (Out sh21_2.data shb21_2.data shr21_2.data) :=
  Tr.test ((!leF (↑(List.length b0_1):Int) x1:Bool))
    (Tr.test (decide ((0:Int) ≤ x1) && decide (x1 < (↑(List.length b0_1):Int)))
      (Tr.test (Option.isSome (f95 (((List.getD b0_1 (Int.toNat x1) ({ data:={ toList:=[] } },([],[],()),([],[],()),())).1:ByteArray),())))
        (let r0:=g95 (((List.getD b0_1 (Int.toNat x1) ({ data:={ toList:=[] } },([],[],()),([],[],()),())).1:ByteArray),());
        Tr.test ((!r0.1:Bool))
          (Tr.fin (.ret ((x1,((4:Int),())),((b0_0,(b0_1,(b0_2,()))),()))))
          (Tr.test (Option.isSome (l21_4 ((x1,((0:Int),())),((b0_0,(b0_1,(b0_2,()))),((((List.getD b0_1 (Int.toNat x1) ({ data:={ toList:=[] } },([],[],()),([],[],()),())).1:ByteArray),(((List.getD b0_1 (Int.toNat x1) ({ data:={ toList:=[] } },([],[],()),([],[],()),())).2.1.1:List Int),(((List.getD b0_1 (Int.toNat x1) ({ data:={ toList:=[] } },([],[],()),([],[],()),())).2.1.2.1:List Int),(((List.getD b0_1 (Int.toNat x1) ({ data:={ toList:=[] } },([],[],()),([],[],()),())).2.2.1.1:List Int),(((List.getD b0_1 (Int.toNat x1) ({ data:={ toList:=[] } },([],[],()),([],[],()),())).2.2.1.2.1:List Int),()))))),())))))
            (Tr.test (isRet (l21_4 ((x1,((0:Int),())),((b0_0,(b0_1,(b0_2,()))),((((List.getD b0_1 (Int.toNat x1) ({ data:={ toList:=[] } },([],[],()),([],[],()),())).1:ByteArray),(((List.getD b0_1 (Int.toNat x1) ({ data:={ toList:=[] } },([],[],()),([],[],()),())).2.1.1:List Int),(((List.getD b0_1 (Int.toNat x1) ({ data:={ toList:=[] } },([],[],()),([],[],()),())).2.1.2.1:List Int),(((List.getD b0_1 (Int.toNat x1) ({ data:={ toList:=[] } },([],[],()),([],[],()),())).2.2.1.1:List Int),(((List.getD b0_1 (Int.toNat x1) ({ data:={ toList:=[] } },([],[],()),([],[],()),())).2.2.1.2.1:List Int),()))))),())))))
              (let r1:=r21_4 ((x1,((0:Int),())),((b0_0,(b0_1,(b0_2,()))),((((List.getD b0_1 (Int.toNat x1) ({ data:={ toList:=[] } },([],[],()),([],[],()),())).1:ByteArray),(((List.getD b0_1 (Int.toNat x1) ({ data:={ toList:=[] } },([],[],()),([],[],()),())).2.1.1:List Int),(((List.getD b0_1 (Int.toNat x1) ({ data:={ toList:=[] } },([],[],()),([],[],()),())).2.1.2.1:List Int),(((List.getD b0_1 (Int.toNat x1) ({ data:={ toList:=[] } },([],[],()),([],[],()),())).2.2.1.1:List Int),(((List.getD b0_1 (Int.toNat x1) ({ data:={ toList:=[] } },([],[],()),([],[],()),())).2.2.1.2.1:List Int),()))))),())));
              Tr.fin (.ret ((r1.1.1,(r1.1.2.1,())),((r1.2.1.1,((r1.2.1.2.1:List (ByteArray×(List Int×List Int×PUnit)×(List Int×List Int×PUnit)×PUnit)),(r1.2.1.2.2.1,()))),()))))
              (let r2:=b21_4 ((x1,((0:Int),())),((b0_0,(b0_1,(b0_2,()))),((((List.getD b0_1 (Int.toNat x1) ({ data:={ toList:=[] } },([],[],()),([],[],()),())).1:ByteArray),(((List.getD b0_1 (Int.toNat x1) ({ data:={ toList:=[] } },([],[],()),([],[],()),())).2.1.1:List Int),(((List.getD b0_1 (Int.toNat x1) ({ data:={ toList:=[] } },([],[],()),([],[],()),())).2.1.2.1:List Int),(((List.getD b0_1 (Int.toNat x1) ({ data:={ toList:=[] } },([],[],()),([],[],()),())).2.2.1.1:List Int),(((List.getD b0_1 (Int.toNat x1) ({ data:={ toList:=[] } },([],[],()),([],[],()),())).2.2.1.2.1:List Int),()))))),())));
              Tr.test (Option.isSome (f97 ((r2.2.2.1.2.1,(r2.2.2.1.2.2.1,())),((↑(List.length r2.2.1.1):Int),()))))
                (let r3:=g97 ((r2.2.2.1.2.1,(r2.2.2.1.2.2.1,())),((↑(List.length r2.2.1.1):Int),()));
                Tr.test ((!eqF r3.1 0:Bool))
                  (Tr.fin (.ret ((r2.1.1,(r3.1,())),((r2.2.1.1,((r2.2.1.2.1:List (ByteArray×(List Int×List Int×PUnit)×(List Int×List Int×PUnit)×PUnit)),(r2.2.1.2.2.1,()))),()))))
                  (Tr.test (Option.isSome (f97 ((r2.2.2.1.2.2.2.1,(r2.2.2.1.2.2.2.2.1,())),((↑(List.length r2.2.1.1):Int),()))))
                    (let r4:=g97 ((r2.2.2.1.2.2.2.1,(r2.2.2.1.2.2.2.2.1,())),((↑(List.length r2.2.1.1):Int),()));
                    Tr.test ((!eqF r4.1 0:Bool))
                      (Tr.fin (.ret ((r2.1.1,(r4.1,())),((r2.2.1.1,((r2.2.1.2.1:List (ByteArray×(List Int×List Int×PUnit)×(List Int×List Int×PUnit)×PUnit)),(r2.2.1.2.2.1,()))),()))))
                      (Tr.fin (.again (((wrap64 (r2.1.1 + (1:Int)):Int),()),((r2.2.1.1,((r2.2.1.2.1:List (ByteArray×(List Int×List Int×PUnit)×(List Int×List Int×PUnit)×PUnit)),(r2.2.1.2.2.1,()))),())))))
                    (Tr.stop)))
                (Tr.stop)))
            (Tr.stop)))
        (Tr.stop))
      (Tr.stop))
    (Tr.fin (.brk ((),((b0_0,(b0_1,(b0_2,()))),()))))

def s21_2 (d:sh21_2.data):Option (Out sh21_2.data shb21_2.data shr21_2.data):=(t21_2 d.1.1 d.2.1.1 d.2.1.2.1 d.2.1.2.2.1).val
def l21_2 (d:sh21_2.data):Option (shb21_2.data ⊕ shr21_2.data):=itr s21_2 rounds d
def b21_2 (d:sh21_2.data):shb21_2.data:=outB shb21_2.dflt (l21_2 d)
def r21_2 (d:sh21_2.data):shr21_2.data:=outR shr21_2.dflt (l21_2 d)
def lc21_2:LoopC:=lcOf sh21_2 shb21_2 shr21_2 l21_2 b21_2 r21_2

theorem wk21_2 (x1:Int) (b0_0:(List ByteArray)) (b0_1:(List (ByteArray×(((List Int)×((List Int)×Unit))×(((List Int)×((List Int)×Unit))×Unit))))) (b0_2:(List ((List Int)×((List Int)×Unit)))):Walks (runBody (kl21_4 Go.Proofs.Tryz.prog).orc Go.Proofs.Tryz.prog 400 21 2 sh21_2 shb21_2 shr21_2 ((x1,()),(b0_0,b0_1,b0_2,()),())) (t21_2 x1 b0_0 b0_1 b0_2) [(bl 4 15,[2,4,6,8]),(bl 6 55,[2,4,6,8,10,12]),(bl 8 215,[2,4,6,8,10,12,14,16]),(bl 10 855,[2,4,6,8,10,12,14,16,18,20]),(bl 10 343,[2,4,6,8,10,12,14,16,18,20]),(bl 1 0,[2])] :=
  ⟨by kernel_rfl,by kernel_rfl,by kernel_rfl,by kernel_rfl,by kernel_rfl,by kernel_rfl,trivial⟩

theorem ok21_2_t (x1:Int) (b0_0:(List ByteArray)) (b0_1:(List (ByteArray×(((List Int)×((List Int)×Unit))×(((List Int)×((List Int)×Unit))×Unit))))) (b0_2:(List ((List Int)×((List Int)×Unit)))):TrOk (BodyRuns Go.Proofs.Tryz.prog (kl21_4 Go.Proofs.Tryz.prog).orc 21 2 sh21_2 shb21_2 shr21_2 ((x1,()),(b0_0,b0_1,b0_2,()),())) (t21_2 x1 b0_0 b0_1 b0_2) :=
  Walks.ok (fun _ _ _=>BodyRuns.of) (wk21_2 x1 b0_0 b0_1 b0_2) (by kernel_rfl)

theorem ok21_2:LoopOk Go.Proofs.Tryz.prog 21 2 lc21_2:=loopOk_of (sh:=sh21_2) (shB:=shb21_2) (shR:=shr21_2) kl21_4_ok.base (T:=fun (d:sh21_2.data)=>t21_2 d.1.1 d.2.1.1 d.2.1.2.1 d.2.1.2.2.1) (by kernel_rfl) rfl (fun (d:sh21_2.data)=>ok21_2_t d.1.1 d.2.1.1 d.2.1.2.1 d.2.1.2.2.1) (fun _=>rfl)
def kl21_2 (P:Go.Program):Known:=(kl21_4 P).loop 21 2 lc21_2
theorem kl21_2_ok:KnownOk Go.Proofs.Tryz.prog (kl21_2 Go.Proofs.Tryz.prog):=kl21_4_ok.loop ok21_2

/-! loop 6 of ductility/ductilityref09.CheckMachine -/

abbrev sh21_6:Sh:={ n:=130,slots:=[1,10],pats:=[.ptr 0 3 0,.ty (.int .i64)],boxes:=[.row [.ty (.slice .str),.ty (.slice (.pair .str (.pair (.pair (.slice (.int .i64)) (.pair (.slice (.int .i64)) .unit)) (.pair (.pair (.slice (.int .i64)) (.pair (.slice (.int .i64)) .unit)) .unit)))),.ty (.slice (.pair (.slice (.int .i64)) (.pair (.slice (.int .i64)) .unit)))]] }
abbrev shb21_6:Sh:={ n:=130,slots:=[],pats:=[],boxes:=[.row [.ty (.slice .str),.ty (.slice (.pair .str (.pair (.pair (.slice (.int .i64)) (.pair (.slice (.int .i64)) .unit)) (.pair (.pair (.slice (.int .i64)) (.pair (.slice (.int .i64)) .unit)) .unit)))),.ty (.slice (.pair (.slice (.int .i64)) (.pair (.slice (.int .i64)) .unit)))]] }
abbrev shr21_6:Sh:={ n:=130,slots:=[2,3],pats:=[.ty (.int .i64),.ty (.int .i64)],boxes:=[.row [.ty (.slice .str),.ty (.slice (.pair .str (.pair (.pair (.slice (.int .i64)) (.pair (.slice (.int .i64)) .unit)) (.pair (.pair (.slice (.int .i64)) (.pair (.slice (.int .i64)) .unit)) .unit)))),.ty (.slice (.pair (.slice (.int .i64)) (.pair (.slice (.int .i64)) .unit)))]] }

def t21_6 (x1:Int) (b0_0:(List ByteArray)) (b0_1:(List (ByteArray×(((List Int)×((List Int)×Unit))×(((List Int)×((List Int)×Unit))×Unit))))) (b0_2:(List ((List Int)×((List Int)×Unit)))):Tr (Out sh21_6.data shb21_6.data shr21_6.data) :=
  Tr.test ((!leF (↑(List.length b0_2):Int) x1:Bool))
    (Tr.test (decide ((0:Int) ≤ x1) && decide (x1 < (↑(List.length b0_2):Int)))
      (Tr.test (Option.isSome (f97 ((((List.getD b0_2 (Int.toNat x1) ([],[],())).1:List Int),(((List.getD b0_2 (Int.toNat x1) ([],[],())).2.1:List Int),())),((↑(List.length b0_0):Int),()))))
        (let r0:=g97 ((((List.getD b0_2 (Int.toNat x1) ([],[],())).1:List Int),(((List.getD b0_2 (Int.toNat x1) ([],[],())).2.1:List Int),())),((↑(List.length b0_0):Int),()));
        Tr.test ((!eqF r0.1 0:Bool))
          (Tr.fin (.ret ((x1,(r0.1,())),((b0_0,(b0_1,(b0_2,()))),()))))
          (Tr.fin (.again (((wrap64 (x1 + (1:Int)):Int),()),((b0_0,(b0_1,(b0_2,()))),())))))
        (Tr.stop))
      (Tr.stop))
    (Tr.fin (.brk ((),((b0_0,(b0_1,(b0_2,()))),()))))

def s21_6 (d:sh21_6.data):Option (Out sh21_6.data shb21_6.data shr21_6.data):=(t21_6 d.1.1 d.2.1.1 d.2.1.2.1 d.2.1.2.2.1).val
def l21_6 (d:sh21_6.data):Option (shb21_6.data ⊕ shr21_6.data):=itr s21_6 rounds d
def b21_6 (d:sh21_6.data):shb21_6.data:=outB shb21_6.dflt (l21_6 d)
def r21_6 (d:sh21_6.data):shr21_6.data:=outR shr21_6.dflt (l21_6 d)
def lc21_6:LoopC:=lcOf sh21_6 shb21_6 shr21_6 l21_6 b21_6 r21_6

theorem wk21_6 (x1:Int) (b0_0:(List ByteArray)) (b0_1:(List (ByteArray×(((List Int)×((List Int)×Unit))×(((List Int)×((List Int)×Unit))×Unit))))) (b0_2:(List ((List Int)×((List Int)×Unit)))):Walks (runBody (kl21_2 Go.Proofs.Tryz.prog).orc Go.Proofs.Tryz.prog 400 21 6 sh21_6 shb21_6 shr21_6 ((x1,()),(b0_0,b0_1,b0_2,()),())) (t21_6 x1 b0_0 b0_1 b0_2) [(bl 4 15,[2,4,6,8]),(bl 4 7,[2,4,6,8]),(bl 1 0,[2])] :=
  ⟨by kernel_rfl,by kernel_rfl,by kernel_rfl,trivial⟩

theorem ok21_6_t (x1:Int) (b0_0:(List ByteArray)) (b0_1:(List (ByteArray×(((List Int)×((List Int)×Unit))×(((List Int)×((List Int)×Unit))×Unit))))) (b0_2:(List ((List Int)×((List Int)×Unit)))):TrOk (BodyRuns Go.Proofs.Tryz.prog (kl21_2 Go.Proofs.Tryz.prog).orc 21 6 sh21_6 shb21_6 shr21_6 ((x1,()),(b0_0,b0_1,b0_2,()),())) (t21_6 x1 b0_0 b0_1 b0_2) :=
  Walks.ok (fun _ _ _=>BodyRuns.of) (wk21_6 x1 b0_0 b0_1 b0_2) (by kernel_rfl)

theorem ok21_6:LoopOk Go.Proofs.Tryz.prog 21 6 lc21_6:=loopOk_of (sh:=sh21_6) (shB:=shb21_6) (shR:=shr21_6) kl21_2_ok.base (T:=fun (d:sh21_6.data)=>t21_6 d.1.1 d.2.1.1 d.2.1.2.1 d.2.1.2.2.1) (by kernel_rfl) rfl (fun (d:sh21_6.data)=>ok21_6_t d.1.1 d.2.1.1 d.2.1.2.1 d.2.1.2.2.1) (fun _=>rfl)
def kl21_6 (P:Go.Program):Known:=(kl21_2 P).loop 21 6 lc21_6
theorem kl21_6_ok:KnownOk Go.Proofs.Tryz.prog (kl21_6 Go.Proofs.Tryz.prog):=kl21_2_ok.loop ok21_6

/-! ductility/ductilityref09.CheckMachine -/

abbrev as21:List Ty:=[(.pair (.slice .str) (.pair (.slice (.pair .str (.pair (.pair (.slice (.int .i64)) (.pair (.slice (.int .i64)) .unit)) (.pair (.pair (.slice (.int .i64)) (.pair (.slice (.int .i64)) .unit)) .unit)))) (.pair (.slice (.pair (.slice (.int .i64)) (.pair (.slice (.int .i64)) .unit))) .unit)))]
abbrev rs21:List Ty:=[(.int .i64),(.int .i64)]

def t21 (x0:(List ByteArray)) (x0':(List (ByteArray×(((List Int)×((List Int)×Unit))×(((List Int)×((List Int)×Unit))×Unit))))) (x0'':(List ((List Int)×((List Int)×Unit)))):Tr (Tys.data rs21) :=
  Tr.test ((eqF (↑(List.length x0):Int) (0:Int):Bool))
    (Tr.fin (((0:Int),((10:Int),()))))
    (Tr.test (!leF (↑(List.length x0):Int) (8:Int))
      (Tr.fin (((0:Int),((8:Int),()))))
      (Tr.test ((!leF (↑(List.length x0'):Int) (10:Int):Bool))
        (Tr.fin (((0:Int),((8:Int),()))))
        (Tr.test ((!leF (↑(List.length x0''):Int) (4:Int):Bool))
          (Tr.fin (((0:Int),((8:Int),()))))
          (Tr.test (Option.isSome (l21_0 (((0:Int),()),((x0,(x0',(x0'',()))),()))))
            (Tr.test (isRet (l21_0 (((0:Int),()),((x0,(x0',(x0'',()))),()))))
              (let r0:=r21_0 (((0:Int),()),((x0,(x0',(x0'',()))),()));
              Tr.fin ((r0.1.1,(r0.1.2.1,()))))
              (let r1:=b21_0 (((0:Int),()),((x0,(x0',(x0'',()))),()));
              Tr.test (Option.isSome (l21_2 (((0:Int),()),((r1.2.1.1,((r1.2.1.2.1:List (ByteArray×(List Int×List Int×PUnit)×(List Int×List Int×PUnit)×PUnit)),(r1.2.1.2.2.1,()))),()))))
                (Tr.test (isRet (l21_2 (((0:Int),()),((r1.2.1.1,((r1.2.1.2.1:List (ByteArray×(List Int×List Int×PUnit)×(List Int×List Int×PUnit)×PUnit)),(r1.2.1.2.2.1,()))),()))))
                  (let r2:=r21_2 (((0:Int),()),((r1.2.1.1,((r1.2.1.2.1:List (ByteArray×(List Int×List Int×PUnit)×(List Int×List Int×PUnit)×PUnit)),(r1.2.1.2.2.1,()))),()));
                  Tr.fin ((r2.1.1,(r2.1.2.1,()))))
                  (let r3:=b21_2 (((0:Int),()),((r1.2.1.1,((r1.2.1.2.1:List (ByteArray×(List Int×List Int×PUnit)×(List Int×List Int×PUnit)×PUnit)),(r1.2.1.2.2.1,()))),()));
                  Tr.test (Option.isSome (l21_6 (((0:Int),()),((r3.2.1.1,((r3.2.1.2.1:List (ByteArray×(List Int×List Int×PUnit)×(List Int×List Int×PUnit)×PUnit)),(r3.2.1.2.2.1,()))),()))))
                    (Tr.test (isRet (l21_6 (((0:Int),()),((r3.2.1.1,((r3.2.1.2.1:List (ByteArray×(List Int×List Int×PUnit)×(List Int×List Int×PUnit)×PUnit)),(r3.2.1.2.2.1,()))),()))))
                      (let r4:=r21_6 (((0:Int),()),((r3.2.1.1,((r3.2.1.2.1:List (ByteArray×(List Int×List Int×PUnit)×(List Int×List Int×PUnit)×PUnit)),(r3.2.1.2.2.1,()))),()));
                      Tr.fin ((r4.1.1,(r4.1.2.1,()))))
                      (Tr.fin (((0:Int),((0:Int),())))))
                    (Tr.stop)))
                (Tr.stop)))
            (Tr.stop)))))

def f21 (d:Tys.data as21):Option (Tys.data rs21):=(t21 d.1.1 d.1.2.1 d.1.2.2.1).val
def g21 (d:Tys.data as21):Tys.data rs21:=(f21 d).getD (Tys.dflt rs21)
def p21:PureC:=pcOf as21 rs21 f21 g21

theorem wk21 (x0:(List ByteArray)) (x0':(List (ByteArray×(((List Int)×((List Int)×Unit))×(((List Int)×((List Int)×Unit))×Unit))))) (x0'':(List ((List Int)×((List Int)×Unit)))):Walks (runPure (kl21_6 Go.Proofs.Tryz.prog).orc Go.Proofs.Tryz.prog 400 21 as21 rs21 ((x0,x0',x0'',()),())) (t21 x0 x0' x0'') [(bl 1 1,[2]),(bl 2 2,[1,1,1,1,1,1,2,2,2,2,2,4]),(bl 3 4,[1,2,2,2,2,2,4,4,4,4,4,6]),(bl 4 8,[2,4,4,4,4,4,6,6,6,6,6,8]),(bl 6 48,[2,4,6,8,8,8,8,8,10,10,10,10,10,12]),(bl 8 208,[2,4,6,8,10,12,12,12,12,12,14,14,14,14,14,16]),(bl 10 848,[2,4,6,8,10,12,14,16,16,16,16,16,18,18,18,18,18,20]),(bl 10 336,[2,4,6,8,10,12,14,16,16,16,16,16,18,18,18,18,18,20])] :=
  ⟨by kernel_rfl,by kernel_rfl,by kernel_rfl,by kernel_rfl,by kernel_rfl,by kernel_rfl,by kernel_rfl,by kernel_rfl,trivial⟩

theorem ok21_t (x0:(List ByteArray)) (x0':(List (ByteArray×(((List Int)×((List Int)×Unit))×(((List Int)×((List Int)×Unit))×Unit))))) (x0'':(List ((List Int)×((List Int)×Unit)))):TrOk (PureRuns Go.Proofs.Tryz.prog (kl21_6 Go.Proofs.Tryz.prog).orc 21 as21 rs21 ((x0,x0',x0'',()),())) (t21 x0 x0' x0'') :=
  Walks.ok (fun _ _ _=>PureRuns.of) (wk21 x0 x0' x0'') (by kernel_rfl)

theorem ok21:PureOk Go.Proofs.Tryz.prog 21 p21:=pureOk_of kl21_6_ok.base (T:=fun (d:Tys.data as21)=>t21 d.1.1 d.1.2.1 d.1.2.2.1) (by kernel_rfl) (fun (d:Tys.data as21)=>ok21_t d.1.1 d.1.2.1 d.1.2.2.1)
def kf21 (P:Go.Program):Known:=(kl21_6 P).func 21 p21
theorem kf21_ok:KnownOk Go.Proofs.Tryz.prog (kf21 Go.Proofs.Tryz.prog):=kl21_6_ok.func ok21

/-! ductility/ductilityref09.MachineErr -/

abbrev as98:List Ty:=[(.pair (.slice .str) (.pair (.slice (.pair .str (.pair (.pair (.slice (.int .i64)) (.pair (.slice (.int .i64)) .unit)) (.pair (.pair (.slice (.int .i64)) (.pair (.slice (.int .i64)) .unit)) .unit)))) (.pair (.slice (.pair (.slice (.int .i64)) (.pair (.slice (.int .i64)) .unit))) .unit)))]
abbrev rs98:List Ty:=[(.int .i64)]

def t98 (x0:(List ByteArray)) (x0':(List (ByteArray×(((List Int)×((List Int)×Unit))×(((List Int)×((List Int)×Unit))×Unit))))) (x0'':(List ((List Int)×((List Int)×Unit)))):Tr (Tys.data rs98) :=
  Tr.test (Option.isSome (f21 ((x0,(x0',(x0'',()))),())))
    (let r0:=g21 ((x0,(x0',(x0'',()))),());
    Tr.fin ((r0.2.1,())))
    (Tr.stop)

def f98 (d:Tys.data as98):Option (Tys.data rs98):=(t98 d.1.1 d.1.2.1 d.1.2.2.1).val
def g98 (d:Tys.data as98):Tys.data rs98:=(f98 d).getD (Tys.dflt rs98)
def p98:PureC:=pcOf as98 rs98 f98 g98

theorem wk98 (x0:(List ByteArray)) (x0':(List (ByteArray×(((List Int)×((List Int)×Unit))×(((List Int)×((List Int)×Unit))×Unit))))) (x0'':(List ((List Int)×((List Int)×Unit)))):Walks (runPure (kf21 Go.Proofs.Tryz.prog).orc Go.Proofs.Tryz.prog 400 98 as98 rs98 ((x0,x0',x0'',()),())) (t98 x0 x0' x0'') [(bl 1 1,[2])] :=
  ⟨by kernel_rfl,trivial⟩

theorem ok98_t (x0:(List ByteArray)) (x0':(List (ByteArray×(((List Int)×((List Int)×Unit))×(((List Int)×((List Int)×Unit))×Unit))))) (x0'':(List ((List Int)×((List Int)×Unit)))):TrOk (PureRuns Go.Proofs.Tryz.prog (kf21 Go.Proofs.Tryz.prog).orc 98 as98 rs98 ((x0,x0',x0'',()),())) (t98 x0 x0' x0'') :=
  Walks.ok (fun _ _ _=>PureRuns.of) (wk98 x0 x0' x0'') (by kernel_rfl)

theorem ok98:PureOk Go.Proofs.Tryz.prog 98 p98:=pureOk_of kf21_ok.base (T:=fun (d:Tys.data as98)=>t98 d.1.1 d.1.2.1 d.1.2.2.1) (by kernel_rfl) (fun (d:Tys.data as98)=>ok98_t d.1.1 d.1.2.1 d.1.2.2.1)
def kf98 (P:Go.Program):Known:=(kf21 P).func 98 p98
theorem kf98_ok:KnownOk Go.Proofs.Tryz.prog (kf98 Go.Proofs.Tryz.prog):=kf21_ok.func ok98

/-! ductility/ductilityref09.IsState -/

abbrev as116:List Ty:=[(.pair (.slice .str) (.pair (.slice (.pair .str (.pair (.pair (.slice (.int .i64)) (.pair (.slice (.int .i64)) .unit)) (.pair (.pair (.slice (.int .i64)) (.pair (.slice (.int .i64)) .unit)) .unit)))) (.pair (.slice (.pair (.slice (.int .i64)) (.pair (.slice (.int .i64)) .unit))) .unit))),(.int .i64)]
abbrev rs116:List Ty:=[.bool]

def t116 (x0:(List ByteArray)) (x0':(List (ByteArray×(((List Int)×((List Int)×Unit))×(((List Int)×((List Int)×Unit))×Unit))))) (x0'':(List ((List Int)×((List Int)×Unit)))) (x1:Int):Tr (Tys.data rs116) :=
  Tr.test ((decide ((↑(List.length x0):Int) < (0:Int)):Bool))
    (Tr.stop)
    (Tr.test (Option.isSome (f25 (x1,((0:Int),((wrap64 (shlV Go.IntKind.i64 (1:Int) (↑(List.length x0):Int) - (1:Int)):Int),())))))
      (let r0:=g25 (x1,((0:Int),((wrap64 (shlV Go.IntKind.i64 (1:Int) (↑(List.length x0):Int) - (1:Int)):Int),())));
      Tr.fin ((r0.1,())))
      (Tr.stop))

def f116 (d:Tys.data as116):Option (Tys.data rs116):=(t116 d.1.1 d.1.2.1 d.1.2.2.1 d.2.1).val
def g116 (d:Tys.data as116):Tys.data rs116:=(f116 d).getD (Tys.dflt rs116)
def p116:PureC:=pcOf as116 rs116 f116 g116

theorem wk116 (x0:(List ByteArray)) (x0':(List (ByteArray×(((List Int)×((List Int)×Unit))×(((List Int)×((List Int)×Unit))×Unit))))) (x0'':(List ((List Int)×((List Int)×Unit)))) (x1:Int):Walks (runPure (kf98 Go.Proofs.Tryz.prog).orc Go.Proofs.Tryz.prog 400 116 as116 rs116 ((x0,x0',x0'',()),x1,())) (t116 x0 x0' x0'' x1) [(bl 2 2,[2,4])] :=
  ⟨by kernel_rfl,trivial⟩

theorem ok116_t (x0:(List ByteArray)) (x0':(List (ByteArray×(((List Int)×((List Int)×Unit))×(((List Int)×((List Int)×Unit))×Unit))))) (x0'':(List ((List Int)×((List Int)×Unit)))) (x1:Int):TrOk (PureRuns Go.Proofs.Tryz.prog (kf98 Go.Proofs.Tryz.prog).orc 116 as116 rs116 ((x0,x0',x0'',()),x1,())) (t116 x0 x0' x0'' x1) :=
  Walks.ok (fun _ _ _=>PureRuns.of) (wk116 x0 x0' x0'' x1) (by kernel_rfl)

theorem ok116:PureOk Go.Proofs.Tryz.prog 116 p116:=pureOk_of kf98_ok.base (T:=fun (d:Tys.data as116)=>t116 d.1.1 d.1.2.1 d.1.2.2.1 d.2.1) (by kernel_rfl) (fun (d:Tys.data as116)=>ok116_t d.1.1 d.1.2.1 d.1.2.2.1 d.2.1)
def kf116 (P:Go.Program):Known:=(kf98 P).func 116 p116
theorem kf116_ok:KnownOk Go.Proofs.Tryz.prog (kf116 Go.Proofs.Tryz.prog):=kf98_ok.func ok116

/-! ductility/ductilityref09.StateErr -/

abbrev as99:List Ty:=[(.pair (.slice .str) (.pair (.slice (.pair .str (.pair (.pair (.slice (.int .i64)) (.pair (.slice (.int .i64)) .unit)) (.pair (.pair (.slice (.int .i64)) (.pair (.slice (.int .i64)) .unit)) .unit)))) (.pair (.slice (.pair (.slice (.int .i64)) (.pair (.slice (.int .i64)) .unit))) .unit))),(.int .i64)]
abbrev rs99:List Ty:=[(.int .i64)]

def t99 (x0:(List ByteArray)) (x0':(List (ByteArray×(((List Int)×((List Int)×Unit))×(((List Int)×((List Int)×Unit))×Unit))))) (x0'':(List ((List Int)×((List Int)×Unit)))) (x1:Int):Tr (Tys.data rs99) :=
  Tr.test (Option.isSome (f116 ((x0,(x0',(x0'',()))),(x1,()))))
    (let r0:=g116 ((x0,(x0',(x0'',()))),(x1,()));
    Tr.test ((!r0.1:Bool))
      (Tr.fin (((2:Int),())))
      (Tr.fin (((0:Int),()))))
    (Tr.stop)

def f99 (d:Tys.data as99):Option (Tys.data rs99):=(t99 d.1.1 d.1.2.1 d.1.2.2.1 d.2.1).val
def g99 (d:Tys.data as99):Tys.data rs99:=(f99 d).getD (Tys.dflt rs99)
def p99:PureC:=pcOf as99 rs99 f99 g99

theorem wk99 (x0:(List ByteArray)) (x0':(List (ByteArray×(((List Int)×((List Int)×Unit))×(((List Int)×((List Int)×Unit))×Unit))))) (x0'':(List ((List Int)×((List Int)×Unit)))) (x1:Int):Walks (runPure (kf116 Go.Proofs.Tryz.prog).orc Go.Proofs.Tryz.prog 400 99 as99 rs99 ((x0,x0',x0'',()),x1,())) (t99 x0 x0' x0'' x1) [(bl 2 3,[2,4]),(bl 2 1,[2,4])] :=
  ⟨by kernel_rfl,by kernel_rfl,trivial⟩

theorem ok99_t (x0:(List ByteArray)) (x0':(List (ByteArray×(((List Int)×((List Int)×Unit))×(((List Int)×((List Int)×Unit))×Unit))))) (x0'':(List ((List Int)×((List Int)×Unit)))) (x1:Int):TrOk (PureRuns Go.Proofs.Tryz.prog (kf116 Go.Proofs.Tryz.prog).orc 99 as99 rs99 ((x0,x0',x0'',()),x1,())) (t99 x0 x0' x0'' x1) :=
  Walks.ok (fun _ _ _=>PureRuns.of) (wk99 x0 x0' x0'' x1) (by kernel_rfl)

theorem ok99:PureOk Go.Proofs.Tryz.prog 99 p99:=pureOk_of kf116_ok.base (T:=fun (d:Tys.data as99)=>t99 d.1.1 d.1.2.1 d.1.2.2.1 d.2.1) (by kernel_rfl) (fun (d:Tys.data as99)=>ok99_t d.1.1 d.1.2.1 d.1.2.2.1 d.2.1)
def kf99 (P:Go.Program):Known:=(kf116 P).func 99 p99
theorem kf99_ok:KnownOk Go.Proofs.Tryz.prog (kf99 Go.Proofs.Tryz.prog):=kf116_ok.func ok99

/-! ductility/ductilitylaw09.stateErr -/

abbrev as22:List Ty:=[(.pair (.slice .str) (.pair (.slice (.pair .str (.pair (.pair (.slice (.int .i64)) (.pair (.slice (.int .i64)) .unit)) (.pair (.pair (.slice (.int .i64)) (.pair (.slice (.int .i64)) .unit)) .unit)))) (.pair (.slice (.pair (.slice (.int .i64)) (.pair (.slice (.int .i64)) .unit))) .unit))),(.int .i64)]
abbrev rs22:List Ty:=[(.int .i64)]

def t22 (x0:(List ByteArray)) (x0':(List (ByteArray×(((List Int)×((List Int)×Unit))×(((List Int)×((List Int)×Unit))×Unit))))) (x0'':(List ((List Int)×((List Int)×Unit)))) (x1:Int):Tr (Tys.data rs22) :=
  Tr.test (Option.isSome (f98 ((x0,(x0',(x0'',()))),())))
    (let r0:=g98 ((x0,(x0',(x0'',()))),());
    Tr.test ((!eqF r0.1 0:Bool))
      (Tr.fin ((r0.1,())))
      (Tr.test (Option.isSome (f99 ((x0,(x0',(x0'',()))),(x1,()))))
        (let r1:=g99 ((x0,(x0',(x0'',()))),(x1,()));
        Tr.fin ((r1.1,())))
        (Tr.stop)))
    (Tr.stop)

def f22 (d:Tys.data as22):Option (Tys.data rs22):=(t22 d.1.1 d.1.2.1 d.1.2.2.1 d.2.1).val
def g22 (d:Tys.data as22):Tys.data rs22:=(f22 d).getD (Tys.dflt rs22)
def p22:PureC:=pcOf as22 rs22 f22 g22

theorem wk22 (x0:(List ByteArray)) (x0':(List (ByteArray×(((List Int)×((List Int)×Unit))×(((List Int)×((List Int)×Unit))×Unit))))) (x0'':(List ((List Int)×((List Int)×Unit)))) (x1:Int):Walks (runPure (kf99 Go.Proofs.Tryz.prog).orc Go.Proofs.Tryz.prog 400 22 as22 rs22 ((x0,x0',x0'',()),x1,())) (t22 x0 x0' x0'' x1) [(bl 2 3,[2,4]),(bl 3 5,[2,4,6])] :=
  ⟨by kernel_rfl,by kernel_rfl,trivial⟩

theorem ok22_t (x0:(List ByteArray)) (x0':(List (ByteArray×(((List Int)×((List Int)×Unit))×(((List Int)×((List Int)×Unit))×Unit))))) (x0'':(List ((List Int)×((List Int)×Unit)))) (x1:Int):TrOk (PureRuns Go.Proofs.Tryz.prog (kf99 Go.Proofs.Tryz.prog).orc 22 as22 rs22 ((x0,x0',x0'',()),x1,())) (t22 x0 x0' x0'' x1) :=
  Walks.ok (fun _ _ _=>PureRuns.of) (wk22 x0 x0' x0'' x1) (by kernel_rfl)

theorem ok22:PureOk Go.Proofs.Tryz.prog 22 p22:=pureOk_of kf99_ok.base (T:=fun (d:Tys.data as22)=>t22 d.1.1 d.1.2.1 d.1.2.2.1 d.2.1) (by kernel_rfl) (fun (d:Tys.data as22)=>ok22_t d.1.1 d.1.2.1 d.1.2.2.1 d.2.1)
def kf22 (P:Go.Program):Known:=(kf99 P).func 22 p22
theorem kf22_ok:KnownOk Go.Proofs.Tryz.prog (kf22 Go.Proofs.Tryz.prog):=kf99_ok.func ok22

/-! loop 0 of ductility/ductilityref09.Holds -/

abbrev sh100_0:Sh:={ n:=39,slots:=[1,2,5],pats:=[.ty (.int .i64),.ptr 0 2 0,.ty (.int .i64)],boxes:=[.row [.ty (.slice (.int .i64)),.ty (.slice (.int .i64))]] }
abbrev shb100_0:Sh:={ n:=39,slots:=[1,2],pats:=[.ty (.int .i64),.ptr 0 2 0],boxes:=[.row [.ty (.slice (.int .i64)),.ty (.slice (.int .i64))]] }
abbrev shr100_0:Sh:={ n:=39,slots:=[4],pats:=[.ty .bool],boxes:=[.row [.ty (.slice (.int .i64)),.ty (.slice (.int .i64))]] }

def t100_0 (x0:Int) (x2:Int) (b0_0:(List Int)) (b0_1:(List Int)):Tr (Out sh100_0.data shb100_0.data shr100_0.data) :=
  Tr.test ((!leF (↑(List.length b0_0):Int) x2:Bool))
    (Tr.test (decide ((0:Int) ≤ x2) && decide (x2 < (↑(List.length b0_0):Int)))
      (Tr.test ((decide (List.getD b0_0 (Int.toNat x2) (0:Int) < (0:Int)):Bool))
        (Tr.stop)
        (Tr.test ((eqF (andV Go.IntKind.i64 (shrV Go.IntKind.i64 x0 (List.getD b0_0 (Int.toNat x2) (0:Int))) (1:Int)) (0:Int):Bool))
          (Tr.fin (.ret (((false:Bool),()),((b0_0,(b0_1,())),()))))
          (Tr.fin (.again ((x0,((wrap64 (x2 + (1:Int)):Int),())),((b0_0,(b0_1,())),()))))))
      (Tr.stop))
    (Tr.fin (.brk ((x0,()),((b0_0,(b0_1,())),()))))

def s100_0 (d:sh100_0.data):Option (Out sh100_0.data shb100_0.data shr100_0.data):=(t100_0 d.1.1 d.1.2.1 d.2.1.1 d.2.1.2.1).val
def l100_0 (d:sh100_0.data):Option (shb100_0.data ⊕ shr100_0.data):=itr s100_0 rounds d
def b100_0 (d:sh100_0.data):shb100_0.data:=outB shb100_0.dflt (l100_0 d)
def r100_0 (d:sh100_0.data):shr100_0.data:=outR shr100_0.dflt (l100_0 d)
def lc100_0:LoopC:=lcOf sh100_0 shb100_0 shr100_0 l100_0 b100_0 r100_0

theorem wk100_0 (x0:Int) (x2:Int) (b0_0:(List Int)) (b0_1:(List Int)):Walks (runBody (kf22 Go.Proofs.Tryz.prog).orc Go.Proofs.Tryz.prog 400 100 0 sh100_0 shb100_0 shr100_0 ((x0,x2,()),(b0_0,b0_1,()),())) (t100_0 x0 x2 b0_0 b0_1) [(bl 4 11,[2,4,6,8]),(bl 4 3,[2,4,6,8]),(bl 1 0,[2])] :=
  ⟨by kernel_rfl,by kernel_rfl,by kernel_rfl,trivial⟩

theorem ok100_0_t (x0:Int) (x2:Int) (b0_0:(List Int)) (b0_1:(List Int)):TrOk (BodyRuns Go.Proofs.Tryz.prog (kf22 Go.Proofs.Tryz.prog).orc 100 0 sh100_0 shb100_0 shr100_0 ((x0,x2,()),(b0_0,b0_1,()),())) (t100_0 x0 x2 b0_0 b0_1) :=
  Walks.ok (fun _ _ _=>BodyRuns.of) (wk100_0 x0 x2 b0_0 b0_1) (by kernel_rfl)

theorem ok100_0:LoopOk Go.Proofs.Tryz.prog 100 0 lc100_0:=loopOk_of (sh:=sh100_0) (shB:=shb100_0) (shR:=shr100_0) kf22_ok.base (T:=fun (d:sh100_0.data)=>t100_0 d.1.1 d.1.2.1 d.2.1.1 d.2.1.2.1) (by kernel_rfl) rfl (fun (d:sh100_0.data)=>ok100_0_t d.1.1 d.1.2.1 d.2.1.1 d.2.1.2.1) (fun _=>rfl)
def kl100_0 (P:Go.Program):Known:=(kf22 P).loop 100 0 lc100_0
theorem kl100_0_ok:KnownOk Go.Proofs.Tryz.prog (kl100_0 Go.Proofs.Tryz.prog):=kf22_ok.loop ok100_0

/-! loop 2 of ductility/ductilityref09.Holds -/

abbrev sh100_2:Sh:={ n:=39,slots:=[1,2,6],pats:=[.ty (.int .i64),.ptr 0 2 0,.ty (.int .i64)],boxes:=[.row [.ty (.slice (.int .i64)),.ty (.slice (.int .i64))]] }
abbrev shb100_2:Sh:={ n:=39,slots:=[],pats:=[],boxes:=[.row [.ty (.slice (.int .i64)),.ty (.slice (.int .i64))]] }
abbrev shr100_2:Sh:={ n:=39,slots:=[4],pats:=[.ty .bool],boxes:=[.row [.ty (.slice (.int .i64)),.ty (.slice (.int .i64))]] }

def t100_2 (x0:Int) (x2:Int) (b0_0:(List Int)) (b0_1:(List Int)):Tr (Out sh100_2.data shb100_2.data shr100_2.data) :=
  Tr.test ((!leF (↑(List.length b0_1):Int) x2:Bool))
    (Tr.test (decide ((0:Int) ≤ x2) && decide (x2 < (↑(List.length b0_1):Int)))
      (Tr.test ((decide (List.getD b0_1 (Int.toNat x2) (0:Int) < (0:Int)):Bool))
        (Tr.stop)
        (Tr.test ((eqF (andV Go.IntKind.i64 (shrV Go.IntKind.i64 x0 (List.getD b0_1 (Int.toNat x2) (0:Int))) (1:Int)) (1:Int):Bool))
          (Tr.fin (.ret (((false:Bool),()),((b0_0,(b0_1,())),()))))
          (Tr.fin (.again ((x0,((wrap64 (x2 + (1:Int)):Int),())),((b0_0,(b0_1,())),()))))))
      (Tr.stop))
    (Tr.fin (.brk ((),((b0_0,(b0_1,())),()))))

def s100_2 (d:sh100_2.data):Option (Out sh100_2.data shb100_2.data shr100_2.data):=(t100_2 d.1.1 d.1.2.1 d.2.1.1 d.2.1.2.1).val
def l100_2 (d:sh100_2.data):Option (shb100_2.data ⊕ shr100_2.data):=itr s100_2 rounds d
def b100_2 (d:sh100_2.data):shb100_2.data:=outB shb100_2.dflt (l100_2 d)
def r100_2 (d:sh100_2.data):shr100_2.data:=outR shr100_2.dflt (l100_2 d)
def lc100_2:LoopC:=lcOf sh100_2 shb100_2 shr100_2 l100_2 b100_2 r100_2

theorem wk100_2 (x0:Int) (x2:Int) (b0_0:(List Int)) (b0_1:(List Int)):Walks (runBody (kl100_0 Go.Proofs.Tryz.prog).orc Go.Proofs.Tryz.prog 400 100 2 sh100_2 shb100_2 shr100_2 ((x0,x2,()),(b0_0,b0_1,()),())) (t100_2 x0 x2 b0_0 b0_1) [(bl 4 11,[2,4,6,8]),(bl 4 3,[2,4,6,8]),(bl 1 0,[2])] :=
  ⟨by kernel_rfl,by kernel_rfl,by kernel_rfl,trivial⟩

theorem ok100_2_t (x0:Int) (x2:Int) (b0_0:(List Int)) (b0_1:(List Int)):TrOk (BodyRuns Go.Proofs.Tryz.prog (kl100_0 Go.Proofs.Tryz.prog).orc 100 2 sh100_2 shb100_2 shr100_2 ((x0,x2,()),(b0_0,b0_1,()),())) (t100_2 x0 x2 b0_0 b0_1) :=
  Walks.ok (fun _ _ _=>BodyRuns.of) (wk100_2 x0 x2 b0_0 b0_1) (by kernel_rfl)

theorem ok100_2:LoopOk Go.Proofs.Tryz.prog 100 2 lc100_2:=loopOk_of (sh:=sh100_2) (shB:=shb100_2) (shR:=shr100_2) kl100_0_ok.base (T:=fun (d:sh100_2.data)=>t100_2 d.1.1 d.1.2.1 d.2.1.1 d.2.1.2.1) (by kernel_rfl) rfl (fun (d:sh100_2.data)=>ok100_2_t d.1.1 d.1.2.1 d.2.1.1 d.2.1.2.1) (fun _=>rfl)
def kl100_2 (P:Go.Program):Known:=(kl100_0 P).loop 100 2 lc100_2
theorem kl100_2_ok:KnownOk Go.Proofs.Tryz.prog (kl100_2 Go.Proofs.Tryz.prog):=kl100_0_ok.loop ok100_2

/-! ductility/ductilityref09.Holds -/

abbrev as100:List Ty:=[(.pair (.slice (.int .i64)) (.pair (.slice (.int .i64)) .unit)),(.int .i64)]
abbrev rs100:List Ty:=[.bool]

def t100 (x0:(List Int)) (x0':(List Int)) (x1:Int):Tr (Tys.data rs100) :=
  Tr.test (Option.isSome (l100_0 ((x1,((0:Int),())),((x0,(x0',())),()))))
    (Tr.test (isRet (l100_0 ((x1,((0:Int),())),((x0,(x0',())),()))))
      (let r0:=r100_0 ((x1,((0:Int),())),((x0,(x0',())),()));
      Tr.fin ((r0.1.1,())))
      (let r1:=b100_0 ((x1,((0:Int),())),((x0,(x0',())),()));
      Tr.test (Option.isSome (l100_2 ((r1.1.1,((0:Int),())),((r1.2.1.1,(r1.2.1.2.1,())),()))))
        (Tr.test (isRet (l100_2 ((r1.1.1,((0:Int),())),((r1.2.1.1,(r1.2.1.2.1,())),()))))
          (let r2:=r100_2 ((r1.1.1,((0:Int),())),((r1.2.1.1,(r1.2.1.2.1,())),()));
          Tr.fin ((r2.1.1,())))
          (Tr.fin (((true:Bool),()))))
        (Tr.stop)))
    (Tr.stop)

def f100 (d:Tys.data as100):Option (Tys.data rs100):=(t100 d.1.1 d.1.2.1 d.2.1).val
def g100 (d:Tys.data as100):Tys.data rs100:=(f100 d).getD (Tys.dflt rs100)
def p100:PureC:=pcOf as100 rs100 f100 g100

theorem wk100 (x0:(List Int)) (x0':(List Int)) (x1:Int):Walks (runPure (kl100_2 Go.Proofs.Tryz.prog).orc Go.Proofs.Tryz.prog 400 100 as100 rs100 ((x0,x0',()),x1,())) (t100 x0 x0' x1) [(bl 2 3,[2,4]),(bl 4 13,[2,4,6,8]),(bl 4 5,[2,4,6,8])] :=
  ⟨by kernel_rfl,by kernel_rfl,by kernel_rfl,trivial⟩

theorem ok100_t (x0:(List Int)) (x0':(List Int)) (x1:Int):TrOk (PureRuns Go.Proofs.Tryz.prog (kl100_2 Go.Proofs.Tryz.prog).orc 100 as100 rs100 ((x0,x0',()),x1,())) (t100 x0 x0' x1) :=
  Walks.ok (fun _ _ _=>PureRuns.of) (wk100 x0 x0' x1) (by kernel_rfl)

theorem ok100:PureOk Go.Proofs.Tryz.prog 100 p100:=pureOk_of kl100_2_ok.base (T:=fun (d:Tys.data as100)=>t100 d.1.1 d.1.2.1 d.2.1) (by kernel_rfl) (fun (d:Tys.data as100)=>ok100_t d.1.1 d.1.2.1 d.2.1)
def kf100 (P:Go.Program):Known:=(kl100_2 P).func 100 p100
theorem kf100_ok:KnownOk Go.Proofs.Tryz.prog (kf100 Go.Proofs.Tryz.prog):=kl100_2_ok.func ok100

/-! loop 0 of ductility/ductilityref09.Possible -/

abbrev sh24_0:Sh:={ n:=27,slots:=[1,2,5,6],pats:=[.ty (.int .i64),.ptr 0 3 0,.acc (.int .i64),.ty (.int .i64)],boxes:=[.row [.ty (.slice .str),.ty (.slice (.pair .str (.pair (.pair (.slice (.int .i64)) (.pair (.slice (.int .i64)) .unit)) (.pair (.pair (.slice (.int .i64)) (.pair (.slice (.int .i64)) .unit)) .unit)))),.ty (.slice (.pair (.slice (.int .i64)) (.pair (.slice (.int .i64)) .unit)))]] }
abbrev shb24_0:Sh:={ n:=27,slots:=[5],pats:=[.acc (.int .i64)],boxes:=[.row [.ty (.slice .str),.ty (.slice (.pair .str (.pair (.pair (.slice (.int .i64)) (.pair (.slice (.int .i64)) .unit)) (.pair (.pair (.slice (.int .i64)) (.pair (.slice (.int .i64)) .unit)) .unit)))),.ty (.slice (.pair (.slice (.int .i64)) (.pair (.slice (.int .i64)) .unit)))]] }
abbrev shr24_0:Sh:={ n:=27,slots:=[],pats:=[],boxes:=[.row [.ty (.slice .str),.ty (.slice (.pair .str (.pair (.pair (.slice (.int .i64)) (.pair (.slice (.int .i64)) .unit)) (.pair (.pair (.slice (.int .i64)) (.pair (.slice (.int .i64)) .unit)) .unit)))),.ty (.slice (.pair (.slice (.int .i64)) (.pair (.slice (.int .i64)) .unit)))]] }

def t24_0 (x0:Int) (x2:(List Int)) (x3:Int) (b0_0:(List ByteArray)) (b0_1:(List (ByteArray×(((List Int)×((List Int)×Unit))×(((List Int)×((List Int)×Unit))×Unit))))) (b0_2:(List ((List Int)×((List Int)×Unit)))):Tr (Out sh24_0.data shb24_0.data shr24_0.data) :=
  Tr.test ((!leF (↑(List.length b0_1):Int) x3:Bool))
    (Tr.test (decide ((0:Int) ≤ x3) && decide (x3 < (↑(List.length b0_1):Int)))
      (Tr.test (Option.isSome (f100 ((((List.getD b0_1 (Int.toNat x3) ({ data:={ toList:=[] } },([],[],()),([],[],()),())).2.1.1:List Int),(((List.getD b0_1 (Int.toNat x3) ({ data:={ toList:=[] } },([],[],()),([],[],()),())).2.1.2.1:List Int),())),(x0,()))))
        (let r0:=g100 ((((List.getD b0_1 (Int.toNat x3) ({ data:={ toList:=[] } },([],[],()),([],[],()),())).2.1.1:List Int),(((List.getD b0_1 (Int.toNat x3) ({ data:={ toList:=[] } },([],[],()),([],[],()),())).2.1.2.1:List Int),())),(x0,()));
        Tr.test (r0.1)
          (Tr.test ((Nat.ble (((2:Nat) * (List.length x2 + (1:Nat)) + (192:Nat)) * (8:Nat)) (281474976710656:Nat) && Nat.ble (List.length x2 + (1:Nat)) (281474976710656:Nat):Bool))
            (Tr.fin (.again ((x0,((x2++[x3]:List Int),((wrap64 (x3 + (1:Int)):Int),()))),((b0_0,(b0_1,(b0_2,()))),()))))
            (Tr.stop))
          (Tr.fin (.again ((x0,(x2,((wrap64 (x3 + (1:Int)):Int),()))),((b0_0,(b0_1,(b0_2,()))),())))))
        (Tr.stop))
      (Tr.stop))
    (Tr.fin (.brk ((x2,()),((b0_0,(b0_1,(b0_2,()))),()))))

def s24_0 (d:sh24_0.data):Option (Out sh24_0.data shb24_0.data shr24_0.data):=(t24_0 d.1.1 d.1.2.1 d.1.2.2.1 d.2.1.1 d.2.1.2.1 d.2.1.2.2.1).val
def l24_0 (d:sh24_0.data):Option (shb24_0.data ⊕ shr24_0.data):=itr s24_0 rounds d
def b24_0 (d:sh24_0.data):shb24_0.data:=outB shb24_0.dflt (l24_0 d)
def lc24_0:LoopC:=lcB sh24_0 shb24_0 shr24_0 l24_0 b24_0

theorem wk24_0 (x0:Int) (x2:(List Int)) (x3:Int) (b0_0:(List ByteArray)) (b0_1:(List (ByteArray×(((List Int)×((List Int)×Unit))×(((List Int)×((List Int)×Unit))×Unit))))) (b0_2:(List ((List Int)×((List Int)×Unit)))):Walks (runBody (kf100 Go.Proofs.Tryz.prog).orc Go.Proofs.Tryz.prog 400 24 0 sh24_0 shb24_0 shr24_0 ((x0,x2,x3,()),(b0_0,b0_1,b0_2,()),())) (t24_0 x0 x2 x3 b0_0 b0_1 b0_2) [(bl 5 31,[2,4,6,8,10]),(bl 4 7,[2,4,6,8]),(bl 1 0,[2])] :=
  ⟨by kernel_rfl,by kernel_rfl,by kernel_rfl,trivial⟩

theorem ok24_0_t (x0:Int) (x2:(List Int)) (x3:Int) (b0_0:(List ByteArray)) (b0_1:(List (ByteArray×(((List Int)×((List Int)×Unit))×(((List Int)×((List Int)×Unit))×Unit))))) (b0_2:(List ((List Int)×((List Int)×Unit)))):TrOk (BodyRuns Go.Proofs.Tryz.prog (kf100 Go.Proofs.Tryz.prog).orc 24 0 sh24_0 shb24_0 shr24_0 ((x0,x2,x3,()),(b0_0,b0_1,b0_2,()),())) (t24_0 x0 x2 x3 b0_0 b0_1 b0_2) :=
  Walks.ok (fun _ _ _=>BodyRuns.of) (wk24_0 x0 x2 x3 b0_0 b0_1 b0_2) (by kernel_rfl)

theorem ok24_0:LoopOk Go.Proofs.Tryz.prog 24 0 lc24_0:=loopOk_ofB (sh:=sh24_0) (shB:=shb24_0) (shR:=shr24_0) kf100_ok.base (T:=fun (d:sh24_0.data)=>t24_0 d.1.1 d.1.2.1 d.1.2.2.1 d.2.1.1 d.2.1.2.1 d.2.1.2.2.1) (by kernel_rfl) rfl (fun (d:sh24_0.data)=>ok24_0_t d.1.1 d.1.2.1 d.1.2.2.1 d.2.1.1 d.2.1.2.1 d.2.1.2.2.1) (fun _=>rfl)
def kl24_0 (P:Go.Program):Known:=(kf100 P).loop 24 0 lc24_0
theorem kl24_0_ok:KnownOk Go.Proofs.Tryz.prog (kl24_0 Go.Proofs.Tryz.prog):=kf100_ok.loop ok24_0

/-! ductility/ductilityref09.Possible -/

abbrev as24:List Ty:=[(.pair (.slice .str) (.pair (.slice (.pair .str (.pair (.pair (.slice (.int .i64)) (.pair (.slice (.int .i64)) .unit)) (.pair (.pair (.slice (.int .i64)) (.pair (.slice (.int .i64)) .unit)) .unit)))) (.pair (.slice (.pair (.slice (.int .i64)) (.pair (.slice (.int .i64)) .unit))) .unit))),(.int .i64)]
abbrev rs24:List Ty:=[(.slice (.int .i64))]

def t24 (x0:(List ByteArray)) (x0':(List (ByteArray×(((List Int)×((List Int)×Unit))×(((List Int)×((List Int)×Unit))×Unit))))) (x0'':(List ((List Int)×((List Int)×Unit)))) (x1:Int):Tr (Tys.data rs24) :=
  Tr.test (isBrk (l24_0 ((x1,(([]:List Int),((0:Int),()))),((x0,(x0',(x0'',()))),()))))
    (let r0:=b24_0 ((x1,(([]:List Int),((0:Int),()))),((x0,(x0',(x0'',()))),()));
    Tr.fin ((r0.1.1,())))
    (Tr.stop)

def f24 (d:Tys.data as24):Option (Tys.data rs24):=(t24 d.1.1 d.1.2.1 d.1.2.2.1 d.2.1).val
def g24 (d:Tys.data as24):Tys.data rs24:=(f24 d).getD (Tys.dflt rs24)
def p24:PureC:=pcOf as24 rs24 f24 g24

theorem wk24 (x0:(List ByteArray)) (x0':(List (ByteArray×(((List Int)×((List Int)×Unit))×(((List Int)×((List Int)×Unit))×Unit))))) (x0'':(List ((List Int)×((List Int)×Unit)))) (x1:Int):Walks (runPure (kl24_0 Go.Proofs.Tryz.prog).orc Go.Proofs.Tryz.prog 400 24 as24 rs24 ((x0,x0',x0'',()),x1,())) (t24 x0 x0' x0'' x1) [(bl 1 1,[1,2])] :=
  ⟨by kernel_rfl,trivial⟩

theorem ok24_t (x0:(List ByteArray)) (x0':(List (ByteArray×(((List Int)×((List Int)×Unit))×(((List Int)×((List Int)×Unit))×Unit))))) (x0'':(List ((List Int)×((List Int)×Unit)))) (x1:Int):TrOk (PureRuns Go.Proofs.Tryz.prog (kl24_0 Go.Proofs.Tryz.prog).orc 24 as24 rs24 ((x0,x0',x0'',()),x1,())) (t24 x0 x0' x0'' x1) :=
  Walks.ok (fun _ _ _=>PureRuns.of) (wk24 x0 x0' x0'' x1) (by kernel_rfl)

theorem ok24:PureOk Go.Proofs.Tryz.prog 24 p24:=pureOk_of kl24_0_ok.base (T:=fun (d:Tys.data as24)=>t24 d.1.1 d.1.2.1 d.1.2.2.1 d.2.1) (by kernel_rfl) (fun (d:Tys.data as24)=>ok24_t d.1.1 d.1.2.1 d.1.2.2.1 d.2.1)
def kf24 (P:Go.Program):Known:=(kl24_0 P).func 24 p24
theorem kf24_ok:KnownOk Go.Proofs.Tryz.prog (kf24 Go.Proofs.Tryz.prog):=kl24_0_ok.func ok24

/-! loop 0 of ductility/ductilitybase.Ints -/

abbrev sh23_0:Sh:={ n:=26,slots:=[0,1,5],pats:=[.ty (.slice (.int .i64)),.ty (.slice (.int .i64)),.ty (.int .i64)],boxes:=[] }
abbrev shb23_0:Sh:={ n:=26,slots:=[],pats:=[],boxes:=[] }
abbrev shr23_0:Sh:={ n:=26,slots:=[4],pats:=[.ty .bool],boxes:=[] }

def t23_0 (x0:(List Int)) (x1:(List Int)) (x2:Int):Tr (Out sh23_0.data shb23_0.data shr23_0.data) :=
  Tr.test ((!leF (↑(List.length x0):Int) x2:Bool))
    (Tr.test (decide ((0:Int) ≤ x2) && decide (x2 < (↑(List.length x0):Int)))
      (Tr.test ((decide ((0:Int) ≤ x2) && decide (x2 < (↑(List.length x1):Int)):Bool))
        (Tr.test ((!eqF (List.getD x0 (Int.toNat x2) (0:Int)) (List.getD x1 (Int.toNat x2) (0:Int)):Bool))
          (Tr.fin (.ret (((false:Bool),()),())))
          (Tr.fin (.again ((x0,(x1,((wrap64 (x2 + (1:Int)):Int),()))),()))))
        (Tr.stop))
      (Tr.stop))
    (Tr.fin (.brk ((),())))

def s23_0 (d:sh23_0.data):Option (Out sh23_0.data shb23_0.data shr23_0.data):=(t23_0 d.1.1 d.1.2.1 d.1.2.2.1).val
def l23_0 (d:sh23_0.data):Option (shb23_0.data ⊕ shr23_0.data):=itr s23_0 rounds d
def b23_0 (d:sh23_0.data):shb23_0.data:=outB shb23_0.dflt (l23_0 d)
def r23_0 (d:sh23_0.data):shr23_0.data:=outR shr23_0.dflt (l23_0 d)
def lc23_0:LoopC:=lcOf sh23_0 shb23_0 shr23_0 l23_0 b23_0 r23_0

theorem wk23_0 (x0:(List Int)) (x1:(List Int)) (x2:Int):Walks (runBody (kf24 Go.Proofs.Tryz.prog).orc Go.Proofs.Tryz.prog 400 23 0 sh23_0 shb23_0 shr23_0 ((x0,x1,x2,()),())) (t23_0 x0 x1 x2) [(bl 4 15,[2,4,6,8]),(bl 4 7,[2,4,6,8]),(bl 1 0,[2])] :=
  ⟨by kernel_rfl,by kernel_rfl,by kernel_rfl,trivial⟩

theorem ok23_0_t (x0:(List Int)) (x1:(List Int)) (x2:Int):TrOk (BodyRuns Go.Proofs.Tryz.prog (kf24 Go.Proofs.Tryz.prog).orc 23 0 sh23_0 shb23_0 shr23_0 ((x0,x1,x2,()),())) (t23_0 x0 x1 x2) :=
  Walks.ok (fun _ _ _=>BodyRuns.of) (wk23_0 x0 x1 x2) (by kernel_rfl)

theorem ok23_0:LoopOk Go.Proofs.Tryz.prog 23 0 lc23_0:=loopOk_of (sh:=sh23_0) (shB:=shb23_0) (shR:=shr23_0) kf24_ok.base (T:=fun (d:sh23_0.data)=>t23_0 d.1.1 d.1.2.1 d.1.2.2.1) (by kernel_rfl) rfl (fun (d:sh23_0.data)=>ok23_0_t d.1.1 d.1.2.1 d.1.2.2.1) (fun _=>rfl)
def kl23_0 (P:Go.Program):Known:=(kf24 P).loop 23 0 lc23_0
theorem kl23_0_ok:KnownOk Go.Proofs.Tryz.prog (kl23_0 Go.Proofs.Tryz.prog):=kf24_ok.loop ok23_0

/-! ductility/ductilitybase.Ints -/

abbrev as23:List Ty:=[(.slice (.int .i64)),(.slice (.int .i64))]
abbrev rs23:List Ty:=[.bool]

def t23 (x0:(List Int)) (x1:(List Int)):Tr (Tys.data rs23) :=
  Tr.test ((!eqF (↑(List.length x0):Int) (↑(List.length x1):Int):Bool))
    (Tr.fin ((false,())))
    (Tr.test (Option.isSome (l23_0 ((x0,(x1,((0:Int),()))),())))
      (Tr.test (isRet (l23_0 ((x0,(x1,((0:Int),()))),())))
        (let r0:=r23_0 ((x0,(x1,((0:Int),()))),());
        Tr.fin ((r0.1.1,())))
        (Tr.fin (((true:Bool),()))))
      (Tr.stop))

def f23 (d:Tys.data as23):Option (Tys.data rs23):=(t23 d.1 d.2.1).val
def g23 (d:Tys.data as23):Tys.data rs23:=(f23 d).getD (Tys.dflt rs23)
def p23:PureC:=pcOf as23 rs23 f23 g23

theorem wk23 (x0:(List Int)) (x1:(List Int)):Walks (runPure (kl23_0 Go.Proofs.Tryz.prog).orc Go.Proofs.Tryz.prog 400 23 as23 rs23 (x0,x1,())) (t23 x0 x1) [(bl 1 1,[2]),(bl 3 6,[2,4,6]),(bl 3 2,[2,4,6])] :=
  ⟨by kernel_rfl,by kernel_rfl,by kernel_rfl,trivial⟩

theorem ok23_t (x0:(List Int)) (x1:(List Int)):TrOk (PureRuns Go.Proofs.Tryz.prog (kl23_0 Go.Proofs.Tryz.prog).orc 23 as23 rs23 (x0,x1,())) (t23 x0 x1) :=
  Walks.ok (fun _ _ _=>PureRuns.of) (wk23 x0 x1) (by kernel_rfl)

theorem ok23:PureOk Go.Proofs.Tryz.prog 23 p23:=pureOk_of kl23_0_ok.base (T:=fun (d:Tys.data as23)=>t23 d.1 d.2.1) (by kernel_rfl) (fun (d:Tys.data as23)=>ok23_t d.1 d.2.1)
def kf23 (P:Go.Program):Known:=(kl23_0 P).func 23 p23
theorem kf23_ok:KnownOk Go.Proofs.Tryz.prog (kf23 Go.Proofs.Tryz.prog):=kl23_0_ok.func ok23

/-! loop 0 of ductility/ductilityref09.Next -/

abbrev sh26_0:Sh:={ n:=66,slots:=[1,8,9],pats:=[.ty (.int .i64),.ptr 0 5 0,.ty (.int .i64)],boxes:=[.row [.ty .str,.ty (.slice (.int .i64)),.ty (.slice (.int .i64)),.ty (.slice (.int .i64)),.ty (.slice (.int .i64))]] }
abbrev shb26_0:Sh:={ n:=66,slots:=[1,8],pats:=[.ty (.int .i64),.ptr 0 5 0],boxes:=[.row [.ty .str,.ty (.slice (.int .i64)),.ty (.slice (.int .i64)),.ty (.slice (.int .i64)),.ty (.slice (.int .i64))]] }
abbrev shr26_0:Sh:={ n:=66,slots:=[],pats:=[],boxes:=[.row [.ty .str,.ty (.slice (.int .i64)),.ty (.slice (.int .i64)),.ty (.slice (.int .i64)),.ty (.slice (.int .i64))]] }

def t26_0 (x0:Int) (x2:Int) (b0_0:ByteArray) (b0_1:(List Int)) (b0_2:(List Int)) (b0_3:(List Int)) (b0_4:(List Int)):Tr (Out sh26_0.data shb26_0.data shr26_0.data) :=
  Tr.test ((!leF (↑(List.length b0_3):Int) x2:Bool))
    (Tr.test (decide ((0:Int) ≤ x2) && decide (x2 < (↑(List.length b0_3):Int)))
      (Tr.test ((decide (List.getD b0_3 (Int.toNat x2) (0:Int) < (0:Int)):Bool))
        (Tr.stop)
        (Tr.fin (.again (((orV Go.IntKind.i64 x0 (shlV Go.IntKind.i64 (1:Int) (List.getD b0_3 (Int.toNat x2) (0:Int))):Int),((wrap64 (x2 + (1:Int)):Int),())),((b0_0,(b0_1,(b0_2,(b0_3,(b0_4,()))))),())))))
      (Tr.stop))
    (Tr.fin (.brk ((x0,()),((b0_0,(b0_1,(b0_2,(b0_3,(b0_4,()))))),()))))

def s26_0 (d:sh26_0.data):Option (Out sh26_0.data shb26_0.data shr26_0.data):=(t26_0 d.1.1 d.1.2.1 d.2.1.1 d.2.1.2.1 d.2.1.2.2.1 d.2.1.2.2.2.1 d.2.1.2.2.2.2.1).val
def l26_0 (d:sh26_0.data):Option (shb26_0.data ⊕ shr26_0.data):=itr s26_0 rounds d
def b26_0 (d:sh26_0.data):shb26_0.data:=outB shb26_0.dflt (l26_0 d)
def lc26_0:LoopC:=lcB sh26_0 shb26_0 shr26_0 l26_0 b26_0

theorem wk26_0 (x0:Int) (x2:Int) (b0_0:ByteArray) (b0_1:(List Int)) (b0_2:(List Int)) (b0_3:(List Int)) (b0_4:(List Int)):Walks (runBody (kf23 Go.Proofs.Tryz.prog).orc Go.Proofs.Tryz.prog 400 26 0 sh26_0 shb26_0 shr26_0 ((x0,x2,()),(b0_0,b0_1,b0_2,b0_3,b0_4,()),())) (t26_0 x0 x2 b0_0 b0_1 b0_2 b0_3 b0_4) [(bl 3 3,[2,4,6]),(bl 1 0,[2])] :=
  ⟨by kernel_rfl,by kernel_rfl,trivial⟩

theorem ok26_0_t (x0:Int) (x2:Int) (b0_0:ByteArray) (b0_1:(List Int)) (b0_2:(List Int)) (b0_3:(List Int)) (b0_4:(List Int)):TrOk (BodyRuns Go.Proofs.Tryz.prog (kf23 Go.Proofs.Tryz.prog).orc 26 0 sh26_0 shb26_0 shr26_0 ((x0,x2,()),(b0_0,b0_1,b0_2,b0_3,b0_4,()),())) (t26_0 x0 x2 b0_0 b0_1 b0_2 b0_3 b0_4) :=
  Walks.ok (fun _ _ _=>BodyRuns.of) (wk26_0 x0 x2 b0_0 b0_1 b0_2 b0_3 b0_4) (by kernel_rfl)

theorem ok26_0:LoopOk Go.Proofs.Tryz.prog 26 0 lc26_0:=loopOk_ofB (sh:=sh26_0) (shB:=shb26_0) (shR:=shr26_0) kf23_ok.base (T:=fun (d:sh26_0.data)=>t26_0 d.1.1 d.1.2.1 d.2.1.1 d.2.1.2.1 d.2.1.2.2.1 d.2.1.2.2.2.1 d.2.1.2.2.2.2.1) (by kernel_rfl) rfl (fun (d:sh26_0.data)=>ok26_0_t d.1.1 d.1.2.1 d.2.1.1 d.2.1.2.1 d.2.1.2.2.1 d.2.1.2.2.2.1 d.2.1.2.2.2.2.1) (fun _=>rfl)
def kl26_0 (P:Go.Program):Known:=(kf23 P).loop 26 0 lc26_0
theorem kl26_0_ok:KnownOk Go.Proofs.Tryz.prog (kl26_0 Go.Proofs.Tryz.prog):=kf23_ok.loop ok26_0

/-! loop 2 of ductility/ductilityref09.Next -/

abbrev sh26_2:Sh:={ n:=66,slots:=[1,8,10],pats:=[.ty (.int .i64),.ptr 0 5 0,.ty (.int .i64)],boxes:=[.row [.ty .str,.ty (.slice (.int .i64)),.ty (.slice (.int .i64)),.ty (.slice (.int .i64)),.ty (.slice (.int .i64))]] }
abbrev shb26_2:Sh:={ n:=66,slots:=[1],pats:=[.ty (.int .i64)],boxes:=[.row [.ty .str,.ty (.slice (.int .i64)),.ty (.slice (.int .i64)),.ty (.slice (.int .i64)),.ty (.slice (.int .i64))]] }
abbrev shr26_2:Sh:={ n:=66,slots:=[],pats:=[],boxes:=[.row [.ty .str,.ty (.slice (.int .i64)),.ty (.slice (.int .i64)),.ty (.slice (.int .i64)),.ty (.slice (.int .i64))]] }

def t26_2 (x0:Int) (x2:Int) (b0_0:ByteArray) (b0_1:(List Int)) (b0_2:(List Int)) (b0_3:(List Int)) (b0_4:(List Int)):Tr (Out sh26_2.data shb26_2.data shr26_2.data) :=
  Tr.test ((!leF (↑(List.length b0_4):Int) x2:Bool))
    (Tr.test (decide ((0:Int) ≤ x2) && decide (x2 < (↑(List.length b0_4):Int)))
      (Tr.test ((decide (List.getD b0_4 (Int.toNat x2) (0:Int) < (0:Int)):Bool))
        (Tr.stop)
        (Tr.test ((eqF (andV Go.IntKind.i64 (shrV Go.IntKind.i64 x0 (List.getD b0_4 (Int.toNat x2) (0:Int))) (1:Int)) (1:Int):Bool))
          (Tr.fin (.again (((wrap64 (x0 - shlV Go.IntKind.i64 (1:Int) (List.getD b0_4 (Int.toNat x2) (0:Int))):Int),((wrap64 (x2 + (1:Int)):Int),())),((b0_0,(b0_1,(b0_2,(b0_3,(b0_4,()))))),()))))
          (Tr.fin (.again ((x0,((wrap64 (x2 + (1:Int)):Int),())),((b0_0,(b0_1,(b0_2,(b0_3,(b0_4,()))))),()))))))
      (Tr.stop))
    (Tr.fin (.brk ((x0,()),((b0_0,(b0_1,(b0_2,(b0_3,(b0_4,()))))),()))))

def s26_2 (d:sh26_2.data):Option (Out sh26_2.data shb26_2.data shr26_2.data):=(t26_2 d.1.1 d.1.2.1 d.2.1.1 d.2.1.2.1 d.2.1.2.2.1 d.2.1.2.2.2.1 d.2.1.2.2.2.2.1).val
def l26_2 (d:sh26_2.data):Option (shb26_2.data ⊕ shr26_2.data):=itr s26_2 rounds d
def b26_2 (d:sh26_2.data):shb26_2.data:=outB shb26_2.dflt (l26_2 d)
def lc26_2:LoopC:=lcB sh26_2 shb26_2 shr26_2 l26_2 b26_2

theorem wk26_2 (x0:Int) (x2:Int) (b0_0:ByteArray) (b0_1:(List Int)) (b0_2:(List Int)) (b0_3:(List Int)) (b0_4:(List Int)):Walks (runBody (kl26_0 Go.Proofs.Tryz.prog).orc Go.Proofs.Tryz.prog 400 26 2 sh26_2 shb26_2 shr26_2 ((x0,x2,()),(b0_0,b0_1,b0_2,b0_3,b0_4,()),())) (t26_2 x0 x2 b0_0 b0_1 b0_2 b0_3 b0_4) [(bl 4 11,[4,6,2,4,6,8]),(bl 4 3,[2,4,6,8]),(bl 1 0,[2])] :=
  ⟨by kernel_rfl,by kernel_rfl,by kernel_rfl,trivial⟩

theorem ok26_2_t (x0:Int) (x2:Int) (b0_0:ByteArray) (b0_1:(List Int)) (b0_2:(List Int)) (b0_3:(List Int)) (b0_4:(List Int)):TrOk (BodyRuns Go.Proofs.Tryz.prog (kl26_0 Go.Proofs.Tryz.prog).orc 26 2 sh26_2 shb26_2 shr26_2 ((x0,x2,()),(b0_0,b0_1,b0_2,b0_3,b0_4,()),())) (t26_2 x0 x2 b0_0 b0_1 b0_2 b0_3 b0_4) :=
  Walks.ok (fun _ _ _=>BodyRuns.of) (wk26_2 x0 x2 b0_0 b0_1 b0_2 b0_3 b0_4) (by kernel_rfl)

theorem ok26_2:LoopOk Go.Proofs.Tryz.prog 26 2 lc26_2:=loopOk_ofB (sh:=sh26_2) (shB:=shb26_2) (shR:=shr26_2) kl26_0_ok.base (T:=fun (d:sh26_2.data)=>t26_2 d.1.1 d.1.2.1 d.2.1.1 d.2.1.2.1 d.2.1.2.2.1 d.2.1.2.2.2.1 d.2.1.2.2.2.2.1) (by kernel_rfl) rfl (fun (d:sh26_2.data)=>ok26_2_t d.1.1 d.1.2.1 d.2.1.1 d.2.1.2.1 d.2.1.2.2.1 d.2.1.2.2.2.1 d.2.1.2.2.2.2.1) (fun _=>rfl)
def kl26_2 (P:Go.Program):Known:=(kl26_0 P).loop 26 2 lc26_2
theorem kl26_2_ok:KnownOk Go.Proofs.Tryz.prog (kl26_2 Go.Proofs.Tryz.prog):=kl26_0_ok.loop ok26_2

/-! ductility/ductilityref09.Next -/

abbrev as26:List Ty:=[(.pair (.slice .str) (.pair (.slice (.pair .str (.pair (.pair (.slice (.int .i64)) (.pair (.slice (.int .i64)) .unit)) (.pair (.pair (.slice (.int .i64)) (.pair (.slice (.int .i64)) .unit)) .unit)))) (.pair (.slice (.pair (.slice (.int .i64)) (.pair (.slice (.int .i64)) .unit))) .unit))),(.int .i64),(.int .i64)]
abbrev rs26:List Ty:=[(.int .i64),.bool]

def t26 (x0:(List ByteArray)) (x0':(List (ByteArray×(((List Int)×((List Int)×Unit))×(((List Int)×((List Int)×Unit))×Unit))))) (x0'':(List ((List Int)×((List Int)×Unit)))) (x1:Int) (x2:Int):Tr (Tys.data rs26) :=
  Tr.test ((decide ((0:Int) ≤ x2) && decide (x2 < (↑(List.length x0'):Int)):Bool))
    (Tr.test (Option.isSome (f100 ((((List.getD x0' (Int.toNat x2) ({ data:={ toList:=[] } },([],[],()),([],[],()),())).2.1.1:List Int),(((List.getD x0' (Int.toNat x2) ({ data:={ toList:=[] } },([],[],()),([],[],()),())).2.1.2.1:List Int),())),(x1,()))))
      (let r0:=g100 ((((List.getD x0' (Int.toNat x2) ({ data:={ toList:=[] } },([],[],()),([],[],()),())).2.1.1:List Int),(((List.getD x0' (Int.toNat x2) ({ data:={ toList:=[] } },([],[],()),([],[],()),())).2.1.2.1:List Int),())),(x1,()));
      Tr.test ((!r0.1:Bool))
        (Tr.fin (((0:Int),((false:Bool),()))))
        (Tr.test (isBrk (l26_0 ((x1,((0:Int),())),((((List.getD x0' (Int.toNat x2) ({ data:={ toList:=[] } },([],[],()),([],[],()),())).1:ByteArray),(((List.getD x0' (Int.toNat x2) ({ data:={ toList:=[] } },([],[],()),([],[],()),())).2.1.1:List Int),(((List.getD x0' (Int.toNat x2) ({ data:={ toList:=[] } },([],[],()),([],[],()),())).2.1.2.1:List Int),(((List.getD x0' (Int.toNat x2) ({ data:={ toList:=[] } },([],[],()),([],[],()),())).2.2.1.1:List Int),(((List.getD x0' (Int.toNat x2) ({ data:={ toList:=[] } },([],[],()),([],[],()),())).2.2.1.2.1:List Int),()))))),()))))
          (let r1:=b26_0 ((x1,((0:Int),())),((((List.getD x0' (Int.toNat x2) ({ data:={ toList:=[] } },([],[],()),([],[],()),())).1:ByteArray),(((List.getD x0' (Int.toNat x2) ({ data:={ toList:=[] } },([],[],()),([],[],()),())).2.1.1:List Int),(((List.getD x0' (Int.toNat x2) ({ data:={ toList:=[] } },([],[],()),([],[],()),())).2.1.2.1:List Int),(((List.getD x0' (Int.toNat x2) ({ data:={ toList:=[] } },([],[],()),([],[],()),())).2.2.1.1:List Int),(((List.getD x0' (Int.toNat x2) ({ data:={ toList:=[] } },([],[],()),([],[],()),())).2.2.1.2.1:List Int),()))))),()));
          Tr.test (isBrk (l26_2 ((r1.1.1,((0:Int),())),((r1.2.1.1,(r1.2.1.2.1,(r1.2.1.2.2.1,(r1.2.1.2.2.2.1,(r1.2.1.2.2.2.2.1,()))))),()))))
            (let r2:=b26_2 ((r1.1.1,((0:Int),())),((r1.2.1.1,(r1.2.1.2.1,(r1.2.1.2.2.1,(r1.2.1.2.2.2.1,(r1.2.1.2.2.2.2.1,()))))),()));
            Tr.fin ((r2.1.1,((true:Bool),()))))
            (Tr.stop))
          (Tr.stop)))
      (Tr.stop))
    (Tr.stop)

def f26 (d:Tys.data as26):Option (Tys.data rs26):=(t26 d.1.1 d.1.2.1 d.1.2.2.1 d.2.1 d.2.2.1).val
def g26 (d:Tys.data as26):Tys.data rs26:=(f26 d).getD (Tys.dflt rs26)
def p26:PureC:=pcOf as26 rs26 f26 g26

theorem wk26 (x0:(List ByteArray)) (x0':(List (ByteArray×(((List Int)×((List Int)×Unit))×(((List Int)×((List Int)×Unit))×Unit))))) (x0'':(List ((List Int)×((List Int)×Unit)))) (x1:Int) (x2:Int):Walks (runPure (kl26_2 Go.Proofs.Tryz.prog).orc Go.Proofs.Tryz.prog 400 26 as26 rs26 ((x0,x0',x0'',()),x1,x2,())) (t26 x0 x0' x0'' x1 x2) [(bl 3 7,[2,4,6]),(bl 5 27,[1,2,1,4,6,8,10])] :=
  ⟨by kernel_rfl,by kernel_rfl,trivial⟩

theorem ok26_t (x0:(List ByteArray)) (x0':(List (ByteArray×(((List Int)×((List Int)×Unit))×(((List Int)×((List Int)×Unit))×Unit))))) (x0'':(List ((List Int)×((List Int)×Unit)))) (x1:Int) (x2:Int):TrOk (PureRuns Go.Proofs.Tryz.prog (kl26_2 Go.Proofs.Tryz.prog).orc 26 as26 rs26 ((x0,x0',x0'',()),x1,x2,())) (t26 x0 x0' x0'' x1 x2) :=
  Walks.ok (fun _ _ _=>PureRuns.of) (wk26 x0 x0' x0'' x1 x2) (by kernel_rfl)

theorem ok26:PureOk Go.Proofs.Tryz.prog 26 p26:=pureOk_of kl26_2_ok.base (T:=fun (d:Tys.data as26)=>t26 d.1.1 d.1.2.1 d.1.2.2.1 d.2.1 d.2.2.1) (by kernel_rfl) (fun (d:Tys.data as26)=>ok26_t d.1.1 d.1.2.1 d.1.2.2.1 d.2.1 d.2.2.1)
def kf26 (P:Go.Program):Known:=(kl26_2 P).func 26 p26
theorem kf26_ok:KnownOk Go.Proofs.Tryz.prog (kf26 Go.Proofs.Tryz.prog):=kl26_2_ok.func ok26

/-! ductility/ductilitylaw09.SafetyMachines -/

abbrev as3:List Ty:=[(.pair (.slice .str) (.pair (.slice (.pair .str (.pair (.pair (.slice (.int .i64)) (.pair (.slice (.int .i64)) .unit)) (.pair (.pair (.slice (.int .i64)) (.pair (.slice (.int .i64)) .unit)) .unit)))) (.pair (.slice (.pair (.slice (.int .i64)) (.pair (.slice (.int .i64)) .unit))) .unit))),(.int .i64),(.int .i64)]
abbrev rs3:List Ty:=[.bool]

def t3 (x0:(List ByteArray)) (x0':(List (ByteArray×(((List Int)×((List Int)×Unit))×(((List Int)×((List Int)×Unit))×Unit))))) (x0'':(List ((List Int)×((List Int)×Unit)))) (x1:Int) (x2:Int):Tr (Tys.data rs3) :=
  Tr.test (Option.isSome (f15 ((x0,(x0',(x0'',()))),())))
    (let r0:=g15 ((x0,(x0',(x0'',()))),());
    Tr.test ((!r0.1:Bool))
      (Tr.fin (((true:Bool),())))
      (Tr.test (Option.isSome (f17 ((x0,(x0',(x0'',()))),())))
        (let r1:=g17 ((x0,(x0',(x0'',()))),());
        Tr.test (Option.isSome (f16 ((r1.1.1,((r1.1.2.1:List (ByteArray×(List Int×List Int×PUnit)×(List Int×List Int×PUnit)×PUnit)),(r1.1.2.2.1,()))),())))
          (Tr.test (Option.isSome (f18 ((r1.1.1,((r1.1.2.1:List (ByteArray×(List Int×List Int×PUnit)×(List Int×List Int×PUnit)×PUnit)),(r1.1.2.2.1,()))),(x1,()))))
            (Tr.test (Option.isSome (f19 ((r1.1.1,((r1.1.2.1:List (ByteArray×(List Int×List Int×PUnit)×(List Int×List Int×PUnit)×PUnit)),(r1.1.2.2.1,()))),(x1,()))))
              (Tr.test (Option.isSome (f20 ((r1.1.1,((r1.1.2.1:List (ByteArray×(List Int×List Int×PUnit)×(List Int×List Int×PUnit)×PUnit)),(r1.1.2.2.1,()))),(x1,(x2,())))))
                (Tr.test (Option.isSome (f21 ((x0,(x0',(x0'',()))),())))
                  (let r2:=g16 ((r1.1.1,((r1.1.2.1:List (ByteArray×(List Int×List Int×PUnit)×(List Int×List Int×PUnit)×PUnit)),(r1.1.2.2.1,()))),());
                  let r6:=g21 ((x0,(x0',(x0'',()))),());
                  Tr.test ((!eqF r2.2.1 r6.2.1:Bool))
                    (Tr.fin (((false:Bool),())))
                    (Tr.test ((!eqF r2.1 r6.1:Bool))
                      (Tr.fin (((false:Bool),())))
                      (Tr.test (Option.isSome (f22 ((x0,(x0',(x0'',()))),(x1,()))))
                        (let r7:=g22 ((x0,(x0',(x0'',()))),(x1,()));
                        Tr.test ((!eqF r7.1 0:Bool))
                          (let r3:=g18 ((r1.1.1,((r1.1.2.1:List (ByteArray×(List Int×List Int×PUnit)×(List Int×List Int×PUnit)×PUnit)),(r1.1.2.2.1,()))),(x1,()));
                          Tr.test ((eqF r3.1 r7.1:Bool))
                            (let r4:=g19 ((r1.1.1,((r1.1.2.1:List (ByteArray×(List Int×List Int×PUnit)×(List Int×List Int×PUnit)×PUnit)),(r1.1.2.2.1,()))),(x1,()));
                            Tr.test ((eqF r4.2.1 r7.1:Bool))
                              (Tr.test ((eqF (↑(List.length r4.1):Int) (0:Int):Bool))
                                (let r5:=g20 ((r1.1.1,((r1.1.2.1:List (ByteArray×(List Int×List Int×PUnit)×(List Int×List Int×PUnit)×PUnit)),(r1.1.2.2.1,()))),(x1,(x2,())));
                                Tr.test ((eqF r5.2.1 r7.1:Bool))
                                  (Tr.fin (((eqF r5.1 0:Bool),())))
                                  (Tr.fin (((false:Bool),()))))
                                (Tr.fin (((false:Bool),()))))
                              (Tr.fin (((false:Bool),()))))
                            (Tr.fin (((false:Bool),()))))
                          (let r3:=g18 ((r1.1.1,((r1.1.2.1:List (ByteArray×(List Int×List Int×PUnit)×(List Int×List Int×PUnit)×PUnit)),(r1.1.2.2.1,()))),(x1,()));
                          Tr.test ((!eqF r3.1 0:Bool))
                            (Tr.fin (((false:Bool),())))
                            (let r4:=g19 ((r1.1.1,((r1.1.2.1:List (ByteArray×(List Int×List Int×PUnit)×(List Int×List Int×PUnit)×PUnit)),(r1.1.2.2.1,()))),(x1,()));
                            Tr.test ((!eqF r4.2.1 0:Bool))
                              (Tr.fin (((false:Bool),())))
                              (Tr.test (Option.isSome (f24 ((x0,(x0',(x0'',()))),(x1,()))))
                                (let r8:=g24 ((x0,(x0',(x0'',()))),(x1,()));
                                Tr.test (Option.isSome (f23 (r4.1,(r8.1,()))))
                                  (let r9:=g23 (r4.1,(r8.1,()));
                                  Tr.test ((!r9.1:Bool))
                                    (Tr.fin (((false:Bool),())))
                                    (Tr.test (Option.isSome (f25 (x2,((0:Int),((wrap64 ((↑(List.length x0'):Int) - (1:Int)):Int),())))))
                                      (let r10:=g25 (x2,((0:Int),((wrap64 ((↑(List.length x0'):Int) - (1:Int)):Int),())));
                                      Tr.test ((!r10.1:Bool))
                                        (let r5:=g20 ((r1.1.1,((r1.1.2.1:List (ByteArray×(List Int×List Int×PUnit)×(List Int×List Int×PUnit)×PUnit)),(r1.1.2.2.1,()))),(x1,(x2,())));
                                        Tr.test ((eqF r5.2.1 6:Bool))
                                          (Tr.fin (((eqF r5.1 0:Bool),())))
                                          (Tr.fin (((false:Bool),()))))
                                        (Tr.test (Option.isSome (f26 ((x0,(x0',(x0'',()))),(x1,(x2,())))))
                                          (let r11:=g26 ((x0,(x0',(x0'',()))),(x1,(x2,())));
                                          Tr.test ((!r11.2.1:Bool))
                                            (let r5:=g20 ((r1.1.1,((r1.1.2.1:List (ByteArray×(List Int×List Int×PUnit)×(List Int×List Int×PUnit)×PUnit)),(r1.1.2.2.1,()))),(x1,(x2,())));
                                            Tr.test ((eqF r5.2.1 20:Bool))
                                              (Tr.fin (((eqF r5.1 0:Bool),())))
                                              (Tr.fin (((false:Bool),()))))
                                            (let r5:=g20 ((r1.1.1,((r1.1.2.1:List (ByteArray×(List Int×List Int×PUnit)×(List Int×List Int×PUnit)×PUnit)),(r1.1.2.2.1,()))),(x1,(x2,())));
                                            Tr.test ((eqF r5.2.1 0:Bool))
                                              (Tr.fin (((eqF r5.1 r11.1:Bool),())))
                                              (Tr.fin (((false:Bool),())))))
                                          (Tr.stop)))
                                      (Tr.stop)))
                                  (Tr.stop))
                                (Tr.stop)))))
                        (Tr.stop))))
                  (Tr.stop))
                (Tr.stop))
              (Tr.stop))
            (Tr.stop))
          (Tr.stop))
        (Tr.stop)))
    (Tr.stop)

def f3 (d:Tys.data as3):Option (Tys.data rs3):=(t3 d.1.1 d.1.2.1 d.1.2.2.1 d.2.1 d.2.2.1).val
def g3 (d:Tys.data as3):Tys.data rs3:=(f3 d).getD (Tys.dflt rs3)
def p3:PureC:=pcOf as3 rs3 f3 g3

theorem wk3n0 (x0:(List ByteArray)) (x0':(List (ByteArray×(((List Int)×((List Int)×Unit))×(((List Int)×((List Int)×Unit))×Unit))))) (x0'':(List ((List Int)×((List Int)×Unit)))) (x1:Int) (x2:Int):Walks (runPure (kf26 Go.Proofs.Tryz.prog).orc Go.Proofs.Tryz.prog 400 3 as3 rs3 ((x0,x0',x0'',()),x1,x2,())) (t3 x0 x0' x0'' x1 x2) [(bl 2 3,[2,4,0,1]),(bl 9 509,[1,2,2,2,2,4,6,14,8,14,10,14,12,14,16,18,0,1]),(bl 10 765,[2,4,4,4,4,6,8,16,10,16,12,16,14,16,18,20,0,1]),(bl 16 64765,[2,2,2,4,4,4,4,6,6,6,6,8,8,8,8,10,12,14,16,16,16,16,18,20,28,22,28,24,28,26,28,30,32,0,1]),(bl 16 31997,[2,2,2,4,4,4,4,6,6,6,6,8,8,8,8,10,12,14,16,16,16,16,18,20,28,22,28,24,28,26,28,30,32,0,1]),(bl 15 15613,[0,0,0,2,2,2,2,4,4,4,4,6,6,6,6,8,10,12,14,14,14,14,16,18,26,20,26,22,26,24,26,28,30,0,1]),(bl 14 7421,[0,0,0,0,0,0,0,2,2,2,2,4,4,4,4,6,8,10,12,12,12,12,14,16,24,18,24,20,24,22,24,26,28,0,1]),(bl 13 3325,[0,0,0,0,0,0,0,0,0,0,0,2,2,2,2,4,6,8,10,10,10,10,12,14,22,16,22,18,22,20,22,24,26,0,1]),(bl 13 5373,[1,1,1,1,1,1,1,1,2,2,2,4,6,8,10,10,10,10,12,14,22,16,22,18,22,20,22,24,26,0,1]),(bl 14 9469,[1,2,2,2,2,2,2,2,4,4,4,6,8,10,12,12,12,12,14,16,24,18,24,20,24,22,24,26,28,0,1]),(bl 17 115965,[2,8,8,4,8,6,8,8,8,8,10,10,10,12,14,16,18,18,18,18,20,22,30,24,30,26,30,28,30,32,34,0,1]),(bl 20 967933,[2,2,2,4,6,8,14,14,10,14,12,14,14,14,14,16,16,16,18,20,22,24,24,24,24,26,28,36,30,36,32,36,34,36,38,40,0,1]),(bl 20 443645,[2,2,2,4,6,8,14,14,10,14,12,14,14,14,14,16,16,16,18,20,22,24,24,24,24,26,28,36,30,36,32,36,34,36,38,40,0,1]),(bl 22 3851517,[2,2,2,4,6,8,10,12,18,18,14,18,16,18,18,18,18,20,20,20,22,24,26,28,28,28,28,30,32,40,34,40,36,40,38,40,42,44,0,1]),(bl 22 1754365,[2,2,2,4,6,8,10,12,18,18,14,18,16,18,18,18,18,20,20,20,22,24,26,28,28,28,28,30,32,40,34,40,36,40,38,40,42,44,0,1]),(bl 22 2802941,[2,2,2,2,4,6,8,10,12,18,18,14,18,16,18,18,18,18,20,20,20,22,24,26,28,28,28,28,30,32,40,34,40,36,40,38,40,42,44,0,1])] :=
  ⟨by kernel_rfl,by kernel_rfl,by kernel_rfl,by kernel_rfl,by kernel_rfl,by kernel_rfl,by kernel_rfl,by kernel_rfl,by kernel_rfl,by kernel_rfl,by kernel_rfl,by kernel_rfl,by kernel_rfl,by kernel_rfl,by kernel_rfl,by kernel_rfl,trivial⟩

theorem wk3n1 (x0:(List ByteArray)) (x0':(List (ByteArray×(((List Int)×((List Int)×Unit))×(((List Int)×((List Int)×Unit))×Unit))))) (x0'':(List ((List Int)×((List Int)×Unit)))) (x1:Int) (x2:Int):Walks (runPure (kf26 Go.Proofs.Tryz.prog).orc Go.Proofs.Tryz.prog 400 3 as3 rs3 ((x0,x0',x0'',()),x1,x2,())) (t3 x0 x0' x0'' x1 x2) [(bl 22 705789,[2,2,2,2,4,6,8,10,12,18,18,14,18,16,18,18,18,18,20,20,20,22,24,26,28,28,28,28,30,32,40,34,40,36,40,38,40,42,44,0,1])] :=
  ⟨by kernel_rfl,trivial⟩

theorem ok3_t (x0:(List ByteArray)) (x0':(List (ByteArray×(((List Int)×((List Int)×Unit))×(((List Int)×((List Int)×Unit))×Unit))))) (x0'':(List ((List Int)×((List Int)×Unit)))) (x1:Int) (x2:Int):TrOk (PureRuns Go.Proofs.Tryz.prog (kf26 Go.Proofs.Tryz.prog).orc 3 as3 rs3 ((x0,x0',x0'',()),x1,x2,())) (t3 x0 x0' x0'' x1 x2) :=
  Walks.ok (fun _ _ _=>PureRuns.of) ((wk3n0 x0 x0' x0'' x1 x2).append (wk3n1 x0 x0' x0'' x1 x2)) (by kernel_rfl)

theorem ok3:PureOk Go.Proofs.Tryz.prog 3 p3:=pureOk_of kf26_ok.base (T:=fun (d:Tys.data as3)=>t3 d.1.1 d.1.2.1 d.1.2.2.1 d.2.1 d.2.2.1) (by kernel_rfl) (fun (d:Tys.data as3)=>ok3_t d.1.1 d.1.2.1 d.1.2.2.1 d.2.1 d.2.2.1)

end Go.Vm.Mo
