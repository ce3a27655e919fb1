import Derived.Test.YtiodahganfihkaaGreatA5
import Derived.KernelRfl
import Derived.Test.YtiodahganfihkaaGreatProg
import Derived.Test.YtiodahganfihkaaGreatRsFa
set_option linter.unusedVariables false
set_option linter.unusedSimpArgs false

namespace Go.Vm.Mo
open Go
set_option linter.unusedVariables false
abbrev sh119_0:Sh:={ n:=55,slots:=[2,6,7,8],pats:=[.ptr 0 5 0,.ptr 1 1 0,.ptr 2 1 0,.ty (.int .i64)],boxes:=[.row [.ty (.int .i64),.ty (.int .i64),.ty (.int .i64),.ty (.int .i64),.ty (.int .i64)],.row [.acc (.pair (.int .i64) (.pair (.int .i64) (.pair (.int .i64) .unit)))],.row [.map 3],.map (.pair (.int .i64) (.pair (.int .i64) (.pair (.int .i64) .unit))) (.pair (.int .i64) (.pair (.int .i64) (.pair (.int .i64) .unit)))] }
abbrev shb119_0:Sh:={ n:=55,slots:=[],pats:=[],boxes:=[.row [.ty (.int .i64),.ty (.int .i64),.ty (.int .i64),.ty (.int .i64),.ty (.int .i64)],.row [.acc (.pair (.int .i64) (.pair (.int .i64) (.pair (.int .i64) .unit)))],.row [.map 3],.map (.pair (.int .i64) (.pair (.int .i64) (.pair (.int .i64) .unit))) (.pair (.int .i64) (.pair (.int .i64) (.pair (.int .i64) .unit)))] }
abbrev shr119_0:Sh:={ n:=55,slots:=[4,5],pats:=[.ty (.slice (.int .i64)),.ty .bool],boxes:=[.row [.ty (.int .i64),.ty (.int .i64),.ty (.int .i64),.ty (.int .i64),.ty (.int .i64)],.row [.acc (.pair (.int .i64) (.pair (.int .i64) (.pair (.int .i64) .unit)))],.row [.map 3],.map (.pair (.int .i64) (.pair (.int .i64) (.pair (.int .i64) .unit))) (.pair (.int .i64) (.pair (.int .i64) (.pair (.int .i64) .unit)))] }
def t119_0 (x3:Int) (b0_0:Int) (b0_1:Int) (b0_2:Int) (b0_3:Int) (b0_4:Int) (b1_0:(List (Int×(Int×(Int×Unit))))) (b3:(List ((Int×(Int×(Int×Unit)))×(Int×(Int×(Int×Unit)))))):Tr (Out sh119_0.data shb119_0.data shr119_0.data) :=
  Tr.test ((!leF (↑(List.length b1_0):Int) x3:Bool))
    (Tr.test (decide ((0:Int) ≤ x3) && decide (x3 < (↑(List.length b1_0):Int)))
      (Tr.test (Option.isSome (f122 ((((List.getD b1_0 (Int.toNat x3) ((0:Int),(0:Int),(0:Int),())).1:Int),(((List.getD b1_0 (Int.toNat x3) ((0:Int),(0:Int),(0:Int),())).2.1:Int),(((List.getD b1_0 (Int.toNat x3) ((0:Int),(0:Int),(0:Int),())).2.2.1:Int),()))),())))
        (let r0:=g122 ((((List.getD b1_0 (Int.toNat x3) ((0:Int),(0:Int),(0:Int),())).1:Int),(((List.getD b1_0 (Int.toNat x3) ((0:Int),(0:Int),(0:Int),())).2.1:Int),(((List.getD b1_0 (Int.toNat x3) ((0:Int),(0:Int),(0:Int),())).2.2.1:Int),()))),());
        Tr.test (r0.1)
          (Tr.test (qbQ (l161_0 ((([]:List Int),()),(b3,((((List.getD b1_0 (Int.toNat x3) ((0:Int),(0:Int),(0:Int),())).1:Int),(((List.getD b1_0 (Int.toNat x3) ((0:Int),(0:Int),(0:Int),())).2.1:Int),(((List.getD b1_0 (Int.toNat x3) ((0:Int),(0:Int),(0:Int),())).2.2.1:Int),()))),())))))
            (let r1:=b161_0 ((([]:List Int),()),(b3,((((List.getD b1_0 (Int.toNat x3) ((0:Int),(0:Int),(0:Int),())).1:Int),(((List.getD b1_0 (Int.toNat x3) ((0:Int),(0:Int),(0:Int),())).2.1:Int),(((List.getD b1_0 (Int.toNat x3) ((0:Int),(0:Int),(0:Int),())).2.2.1:Int),()))),())));
            Tr.test ((Nat.ble (1:Nat) (List.length r1.1.1):Bool))
              (Tr.test (qbQ (l155_0 (((List.length r1.1.1:Nat),((0:Int),((wrap64 ((↑(List.length r1.1.1):Int) - (1:Int)):Int),()))),(r1.1.1,()))))
                (let r2:=b155_0 (((List.length r1.1.1:Nat),((0:Int),((wrap64 ((↑(List.length r1.1.1):Int) - (1:Int)):Int),()))),(r1.1.1,()));
                Tr.test ((Nat.beq (List.length r1.1.1) (List.length r2.2.1):Bool))
                  (Tr.fin (.ret ((r2.2.1,((true:Bool),())),((b0_0,(b0_1,(b0_2,(b0_3,(b0_4,()))))),((b1_0,()),((),((r1.2.1:List ((Int×Int×Int×PUnit)×Int×Int×Int×PUnit)),())))))))
                  (Tr.test ((Nat.ble (List.length r1.1.1) (List.length r2.2.1):Bool))
                    (Tr.fin (.ret (((List.take (List.length r1.1.1) r2.2.1:List Int),((true:Bool),())),((b0_0,(b0_1,(b0_2,(b0_3,(b0_4,()))))),((b1_0,()),((),((r1.2.1:List ((Int×Int×Int×PUnit)×Int×Int×Int×PUnit)),())))))))
                    (Tr.stop)))
                (Tr.stop))
              (Tr.test (qbQ (l155_0_1 ((r1.1.1,((0:Int),((wrap64 ((↑(List.length r1.1.1):Int) - (1:Int)):Int),()))),())))
                (Tr.fin (.ret ((r1.1.1,((true:Bool),())),((b0_0,(b0_1,(b0_2,(b0_3,(b0_4,()))))),((b1_0,()),((),((r1.2.1:List ((Int×Int×Int×PUnit)×Int×Int×Int×PUnit)),())))))))
                (Tr.stop)))
            (Tr.stop))
          (Tr.test (qbQ (l162_0 (((Go.IntKind.wrap Go.IntKind.i64 ((0:Int) - b0_3):Int),()),((),((b0_0,(b0_1,(b0_2,(b0_3,(b0_4,()))))),((((List.getD b1_0 (Int.toNat x3) ((0:Int),(0:Int),(0:Int),())).1:Int),(((List.getD b1_0 (Int.toNat x3) ((0:Int),(0:Int),(0:Int),())).2.1:Int),(((List.getD b1_0 (Int.toNat x3) ((0:Int),(0:Int),(0:Int),())).2.2.1:Int),()))),((b1_0,()),((),((((List.getD b1_0 (Int.toNat x3) ((0:Int),(0:Int),(0:Int),())).1:Int),(((List.getD b1_0 (Int.toNat x3) ((0:Int),(0:Int),(0:Int),())).2.1:Int),(((List.getD b1_0 (Int.toNat x3) ((0:Int),(0:Int),(0:Int),())).2.2.1:Int),()))),(b3,()))))))))))
            (let r3:=b162_0 (((Go.IntKind.wrap Go.IntKind.i64 ((0:Int) - b0_3):Int),()),((),((b0_0,(b0_1,(b0_2,(b0_3,(b0_4,()))))),((((List.getD b1_0 (Int.toNat x3) ((0:Int),(0:Int),(0:Int),())).1:Int),(((List.getD b1_0 (Int.toNat x3) ((0:Int),(0:Int),(0:Int),())).2.1:Int),(((List.getD b1_0 (Int.toNat x3) ((0:Int),(0:Int),(0:Int),())).2.2.1:Int),()))),((b1_0,()),((),((((List.getD b1_0 (Int.toNat x3) ((0:Int),(0:Int),(0:Int),())).1:Int),(((List.getD b1_0 (Int.toNat x3) ((0:Int),(0:Int),(0:Int),())).2.1:Int),(((List.getD b1_0 (Int.toNat x3) ((0:Int),(0:Int),(0:Int),())).2.2.1:Int),()))),(b3,()))))))));
            Tr.fin (.again (((wrap64 (x3 + (1:Int)):Int),()),((b0_0,(b0_1,(b0_2,(b0_3,(b0_4,()))))),((r3.2.2.2.2.1.1,()),((),((r3.2.2.2.2.2.2.2.1:List ((Int×Int×Int×PUnit)×Int×Int×Int×PUnit)),())))))))
            (Tr.stop)))
        (Tr.stop))
      (Tr.stop))
    (Tr.fin (.brk ((),((b0_0,(b0_1,(b0_2,(b0_3,(b0_4,()))))),((b1_0,()),((),(b3,())))))))
def s119_0 (d:sh119_0.data):Option (Out sh119_0.data shb119_0.data shr119_0.data):=(t119_0 d.1.1 d.2.1.1 d.2.1.2.1 d.2.1.2.2.1 d.2.1.2.2.2.1 d.2.1.2.2.2.2.1 d.2.2.1.1 d.2.2.2.2.1).val
def l119_0 (d:sh119_0.data):Option (shb119_0.data ⊕ shr119_0.data):=itr s119_0 rounds d
def b119_0 (d:sh119_0.data):shb119_0.data:=outB shb119_0.dflt (l119_0 d)
def r119_0 (d:sh119_0.data):shr119_0.data:=outR shr119_0.dflt (l119_0 d)
def lc119_0:LoopC:=lcOf sh119_0 shb119_0 shr119_0 l119_0 b119_0 r119_0
theorem e119_0_0 (x3:Int) (b0_0:Int) (b0_1:Int) (b0_2:Int) (b0_3:Int) (b0_4:Int) (b1_0:(List (Int×(Int×(Int×Unit))))) (b3:(List ((Int×(Int×(Int×Unit)))×(Int×(Int×(Int×Unit)))))):qaq (kl162_0 Proofs.Tryz.prog).orc Proofs.Tryz.prog 400 119 0 sh119_0 shb119_0 shr119_0 ((x3,()),(b0_0,b0_1,b0_2,b0_3,b0_4,()),(b1_0,()),(),b3,()) [tt,tt,tt,tt,tt,tt,tt,tt,tt,tt] =
    (let r0:=g122 ((((List.getD b1_0 (Int.toNat x3) ((0:Int),(0:Int),(0:Int),())).1:Int),(((List.getD b1_0 (Int.toNat x3) ((0:Int),(0:Int),(0:Int),())).2.1:Int),(((List.getD b1_0 (Int.toNat x3) ((0:Int),(0:Int),(0:Int),())).2.2.1:Int),()))),());let r1:=b161_0 ((([]:List Int),()),(b3,((((List.getD b1_0 (Int.toNat x3) ((0:Int),(0:Int),(0:Int),())).1:Int),(((List.getD b1_0 (Int.toNat x3) ((0:Int),(0:Int),(0:Int),())).2.1:Int),(((List.getD b1_0 (Int.toNat x3) ((0:Int),(0:Int),(0:Int),())).2.2.1:Int),()))),())));let r2:=b155_0 (((List.length r1.1.1:Nat),((0:Int),((wrap64 ((↑(List.length r1.1.1):Int) - (1:Int)):Int),()))),(r1.1.1,())); some (.ret ((r2.2.1,(true,())),((b0_0,(b0_1,(b0_2,(b0_3,(b0_4,()))))),((b1_0,()),((),((r1.2.1:List ((Int×Int×Int×PUnit)×Int×Int×Int×PUnit)),()))))),[(Nat.beq (List.length r1.1.1) (List.length r2.2.1),true),(true,true),(qbQ (l155_0 (((List.length r1.1.1:Nat),((0:Int),((wrap64 ((↑(List.length r1.1.1):Int) - (1:Int)):Int),()))),(r1.1.1,()))),true),(Nat.ble (1:Nat) (List.length r1.1.1),true),(true,true),(qbQ (l161_0 ((([]:List Int),()),(b3,((((List.getD b1_0 (Int.toNat x3) ((0:Int),(0:Int),(0:Int),())).1:Int),(((List.getD b1_0 (Int.toNat x3) ((0:Int),(0:Int),(0:Int),())).2.1:Int),(((List.getD b1_0 (Int.toNat x3) ((0:Int),(0:Int),(0:Int),())).2.2.1:Int),()))),())))),true),(r0.1,true),(Option.isSome (f122 ((((List.getD b1_0 (Int.toNat x3) ((0:Int),(0:Int),(0:Int),())).1:Int),(((List.getD b1_0 (Int.toNat x3) ((0:Int),(0:Int),(0:Int),())).2.1:Int),(((List.getD b1_0 (Int.toNat x3) ((0:Int),(0:Int),(0:Int),())).2.2.1:Int),()))),())),true),(decide ((0:Int) ≤ x3) && decide (x3 < (↑(List.length b1_0):Int)),true),(!leF (↑(List.length b1_0):Int) x3,true)])):=by kernel_rfl
theorem e119_0_1 (x3:Int) (b0_0:Int) (b0_1:Int) (b0_2:Int) (b0_3:Int) (b0_4:Int) (b1_0:(List (Int×(Int×(Int×Unit))))) (b3:(List ((Int×(Int×(Int×Unit)))×(Int×(Int×(Int×Unit)))))):qaq (kl162_0 Proofs.Tryz.prog).orc Proofs.Tryz.prog 400 119 0 sh119_0 shb119_0 shr119_0 ((x3,()),(b0_0,b0_1,b0_2,b0_3,b0_4,()),(b1_0,()),(),b3,()) [tt,tt,tt,tt,tt,tt,tt,tt,tt,ff,tt] =
    (let r0:=g122 ((((List.getD b1_0 (Int.toNat x3) ((0:Int),(0:Int),(0:Int),())).1:Int),(((List.getD b1_0 (Int.toNat x3) ((0:Int),(0:Int),(0:Int),())).2.1:Int),(((List.getD b1_0 (Int.toNat x3) ((0:Int),(0:Int),(0:Int),())).2.2.1:Int),()))),());let r1:=b161_0 ((([]:List Int),()),(b3,((((List.getD b1_0 (Int.toNat x3) ((0:Int),(0:Int),(0:Int),())).1:Int),(((List.getD b1_0 (Int.toNat x3) ((0:Int),(0:Int),(0:Int),())).2.1:Int),(((List.getD b1_0 (Int.toNat x3) ((0:Int),(0:Int),(0:Int),())).2.2.1:Int),()))),())));let r2:=b155_0 (((List.length r1.1.1:Nat),((0:Int),((wrap64 ((↑(List.length r1.1.1):Int) - (1:Int)):Int),()))),(r1.1.1,())); some (.ret (((List.take (List.length r1.1.1) r2.2.1:List Int),(true,())),((b0_0,(b0_1,(b0_2,(b0_3,(b0_4,()))))),((b1_0,()),((),((r1.2.1:List ((Int×Int×Int×PUnit)×Int×Int×Int×PUnit)),()))))),[(Nat.ble (List.length r1.1.1) (List.length r2.2.1),true),(Nat.beq (List.length r1.1.1) (List.length r2.2.1),false),(true,true),(qbQ (l155_0 (((List.length r1.1.1:Nat),((0:Int),((wrap64 ((↑(List.length r1.1.1):Int) - (1:Int)):Int),()))),(r1.1.1,()))),true),(Nat.ble (1:Nat) (List.length r1.1.1),true),(true,true),(qbQ (l161_0 ((([]:List Int),()),(b3,((((List.getD b1_0 (Int.toNat x3) ((0:Int),(0:Int),(0:Int),())).1:Int),(((List.getD b1_0 (Int.toNat x3) ((0:Int),(0:Int),(0:Int),())).2.1:Int),(((List.getD b1_0 (Int.toNat x3) ((0:Int),(0:Int),(0:Int),())).2.2.1:Int),()))),())))),true),(r0.1,true),(Option.isSome (f122 ((((List.getD b1_0 (Int.toNat x3) ((0:Int),(0:Int),(0:Int),())).1:Int),(((List.getD b1_0 (Int.toNat x3) ((0:Int),(0:Int),(0:Int),())).2.1:Int),(((List.getD b1_0 (Int.toNat x3) ((0:Int),(0:Int),(0:Int),())).2.2.1:Int),()))),())),true),(decide ((0:Int) ≤ x3) && decide (x3 < (↑(List.length b1_0):Int)),true),(!leF (↑(List.length b1_0):Int) x3,true)])):=by kernel_rfl
theorem e119_0_3 (x3:Int) (b0_0:Int) (b0_1:Int) (b0_2:Int) (b0_3:Int) (b0_4:Int) (b1_0:(List (Int×(Int×(Int×Unit))))) (b3:(List ((Int×(Int×(Int×Unit)))×(Int×(Int×(Int×Unit)))))):qaq (kl162_0 Proofs.Tryz.prog).orc Proofs.Tryz.prog 400 119 0 sh119_0 shb119_0 shr119_0 ((x3,()),(b0_0,b0_1,b0_2,b0_3,b0_4,()),(b1_0,()),(),b3,()) [tt,tt,tt,tt,tt,tt,ff,tt,tt] =
    (let r0:=g122 ((((List.getD b1_0 (Int.toNat x3) ((0:Int),(0:Int),(0:Int),())).1:Int),(((List.getD b1_0 (Int.toNat x3) ((0:Int),(0:Int),(0:Int),())).2.1:Int),(((List.getD b1_0 (Int.toNat x3) ((0:Int),(0:Int),(0:Int),())).2.2.1:Int),()))),());let r1:=b161_0 ((([]:List Int),()),(b3,((((List.getD b1_0 (Int.toNat x3) ((0:Int),(0:Int),(0:Int),())).1:Int),(((List.getD b1_0 (Int.toNat x3) ((0:Int),(0:Int),(0:Int),())).2.1:Int),(((List.getD b1_0 (Int.toNat x3) ((0:Int),(0:Int),(0:Int),())).2.2.1:Int),()))),()))); some (.ret ((r1.1.1,(true,())),((b0_0,(b0_1,(b0_2,(b0_3,(b0_4,()))))),((b1_0,()),((),((r1.2.1:List ((Int×Int×Int×PUnit)×Int×Int×Int×PUnit)),()))))),[(true,true),(qbQ (l155_0_1 ((r1.1.1,((0:Int),((wrap64 ((↑(List.length r1.1.1):Int) - (1:Int)):Int),()))),())),true),(Nat.ble (1:Nat) (List.length r1.1.1),false),(true,true),(qbQ (l161_0 ((([]:List Int),()),(b3,((((List.getD b1_0 (Int.toNat x3) ((0:Int),(0:Int),(0:Int),())).1:Int),(((List.getD b1_0 (Int.toNat x3) ((0:Int),(0:Int),(0:Int),())).2.1:Int),(((List.getD b1_0 (Int.toNat x3) ((0:Int),(0:Int),(0:Int),())).2.2.1:Int),()))),())))),true),(r0.1,true),(Option.isSome (f122 ((((List.getD b1_0 (Int.toNat x3) ((0:Int),(0:Int),(0:Int),())).1:Int),(((List.getD b1_0 (Int.toNat x3) ((0:Int),(0:Int),(0:Int),())).2.1:Int),(((List.getD b1_0 (Int.toNat x3) ((0:Int),(0:Int),(0:Int),())).2.2.1:Int),()))),())),true),(decide ((0:Int) ≤ x3) && decide (x3 < (↑(List.length b1_0):Int)),true),(!leF (↑(List.length b1_0):Int) x3,true)])):=by kernel_rfl
theorem e119_0_4 (x3:Int) (b0_0:Int) (b0_1:Int) (b0_2:Int) (b0_3:Int) (b0_4:Int) (b1_0:(List (Int×(Int×(Int×Unit))))) (b3:(List ((Int×(Int×(Int×Unit)))×(Int×(Int×(Int×Unit)))))):qaq (kl162_0 Proofs.Tryz.prog).orc Proofs.Tryz.prog 400 119 0 sh119_0 shb119_0 shr119_0 ((x3,()),(b0_0,b0_1,b0_2,b0_3,b0_4,()),(b1_0,()),(),b3,()) [tt,tt,tt,ff,tt,tt,tt,tt] =
    (let r0:=g122 ((((List.getD b1_0 (Int.toNat x3) ((0:Int),(0:Int),(0:Int),())).1:Int),(((List.getD b1_0 (Int.toNat x3) ((0:Int),(0:Int),(0:Int),())).2.1:Int),(((List.getD b1_0 (Int.toNat x3) ((0:Int),(0:Int),(0:Int),())).2.2.1:Int),()))),());let r3:=b162_0 (((Go.IntKind.wrap Go.IntKind.i64 ((0:Int) - b0_3):Int),()),((),((b0_0,(b0_1,(b0_2,(b0_3,(b0_4,()))))),((((List.getD b1_0 (Int.toNat x3) ((0:Int),(0:Int),(0:Int),())).1:Int),(((List.getD b1_0 (Int.toNat x3) ((0:Int),(0:Int),(0:Int),())).2.1:Int),(((List.getD b1_0 (Int.toNat x3) ((0:Int),(0:Int),(0:Int),())).2.2.1:Int),()))),((b1_0,()),((),((((List.getD b1_0 (Int.toNat x3) ((0:Int),(0:Int),(0:Int),())).1:Int),(((List.getD b1_0 (Int.toNat x3) ((0:Int),(0:Int),(0:Int),())).2.1:Int),(((List.getD b1_0 (Int.toNat x3) ((0:Int),(0:Int),(0:Int),())).2.2.1:Int),()))),(b3,())))))))); some (.again (((wrap64 (x3 + (1:Int)):Int),()),((b0_0,(b0_1,(b0_2,(b0_3,(b0_4,()))))),((r3.2.2.2.2.1.1,()),((),((r3.2.2.2.2.2.2.2.1:List ((Int×Int×Int×PUnit)×Int×Int×Int×PUnit)),()))))),[(true,true),(qbQ (l162_0 (((Go.IntKind.wrap Go.IntKind.i64 ((0:Int) - b0_3):Int),()),((),((b0_0,(b0_1,(b0_2,(b0_3,(b0_4,()))))),((((List.getD b1_0 (Int.toNat x3) ((0:Int),(0:Int),(0:Int),())).1:Int),(((List.getD b1_0 (Int.toNat x3) ((0:Int),(0:Int),(0:Int),())).2.1:Int),(((List.getD b1_0 (Int.toNat x3) ((0:Int),(0:Int),(0:Int),())).2.2.1:Int),()))),((b1_0,()),((),((((List.getD b1_0 (Int.toNat x3) ((0:Int),(0:Int),(0:Int),())).1:Int),(((List.getD b1_0 (Int.toNat x3) ((0:Int),(0:Int),(0:Int),())).2.1:Int),(((List.getD b1_0 (Int.toNat x3) ((0:Int),(0:Int),(0:Int),())).2.2.1:Int),()))),(b3,()))))))))),true),(qcK Proofs.Tryz.prog (nat_lit 119) (nat_lit 0),true),(true,true),(r0.1,false),(Option.isSome (f122 ((((List.getD b1_0 (Int.toNat x3) ((0:Int),(0:Int),(0:Int),())).1:Int),(((List.getD b1_0 (Int.toNat x3) ((0:Int),(0:Int),(0:Int),())).2.1:Int),(((List.getD b1_0 (Int.toNat x3) ((0:Int),(0:Int),(0:Int),())).2.2.1:Int),()))),())),true),(decide ((0:Int) ≤ x3) && decide (x3 < (↑(List.length b1_0):Int)),true),(!leF (↑(List.length b1_0):Int) x3,true)])):=by kernel_rfl
theorem e119_0_6 (x3:Int) (b0_0:Int) (b0_1:Int) (b0_2:Int) (b0_3:Int) (b0_4:Int) (b1_0:(List (Int×(Int×(Int×Unit))))) (b3:(List ((Int×(Int×(Int×Unit)))×(Int×(Int×(Int×Unit)))))):qaq (kl162_0 Proofs.Tryz.prog).orc Proofs.Tryz.prog 400 119 0 sh119_0 shb119_0 shr119_0 ((x3,()),(b0_0,b0_1,b0_2,b0_3,b0_4,()),(b1_0,()),(),b3,()) [ff] =
    (some (.brk ((),((b0_0,(b0_1,(b0_2,(b0_3,(b0_4,()))))),((b1_0,()),((),(b3,()))))),[(!leF (↑(List.length b1_0):Int) x3,false)])):=by kernel_rfl
theorem ok119_0_t (x3:Int) (b0_0:Int) (b0_1:Int) (b0_2:Int) (b0_3:Int) (b0_4:Int) (b1_0:(List (Int×(Int×(Int×Unit))))) (b3:(List ((Int×(Int×(Int×Unit)))×(Int×(Int×(Int×Unit)))))):TrOk (BodyRuns Proofs.Tryz.prog (kl162_0 Proofs.Tryz.prog).orc 119 0 sh119_0 shb119_0 shr119_0 ((x3,()),(b0_0,b0_1,b0_2,b0_3,b0_4,()),(b1_0,()),(),b3,())) (t119_0 x3 b0_0 b0_1 b0_2 b0_3 b0_4 b1_0 b3) :=
  TrOk.ofTest (fun h0=>TrOk.ofTest (fun h1=>TrOk.ofTest (fun h2=>TrOk.ofTest (fun h3=>TrOk.ofTest (fun h4=>TrOk.ofTest (fun h6=>TrOk.ofTest (fun h7=>TrOk.ofTest (fun h9=>TrOk.ofFin (BodyRuns.of (e119_0_0 x3 b0_0 b0_1 b0_2 b0_3 b0_4 b1_0 b3) (ac h9 (ac rfl (ac h7 (ac h6 (ac rfl (ac h4 (ac h3 (ac h2 (ac h1 (ac h0 All.nil)))))))))))) (fun h9=>TrOk.ofTest (fun h10=>TrOk.ofFin (BodyRuns.of (e119_0_1 x3 b0_0 b0_1 b0_2 b0_3 b0_4 b1_0 b3) (ac h10 (ac h9 (ac rfl (ac h7 (ac h6 (ac rfl (ac h4 (ac h3 (ac h2 (ac h1 (ac h0 All.nil))))))))))))) (fun h10=>TrOk.ofStop))) (fun h7=>TrOk.ofStop)) (fun h6=>TrOk.ofTest (fun h7=>TrOk.ofFin (BodyRuns.of (e119_0_3 x3 b0_0 b0_1 b0_2 b0_3 b0_4 b1_0 b3) (ac rfl (ac h7 (ac h6 (ac rfl (ac h4 (ac h3 (ac h2 (ac h1 (ac h0 All.nil))))))))))) (fun h7=>TrOk.ofStop))) (fun h4=>TrOk.ofStop)) (fun h3=>TrOk.ofTest (fun h6=>TrOk.ofFin (BodyRuns.of (e119_0_4 x3 b0_0 b0_1 b0_2 b0_3 b0_4 b1_0 b3) (ac rfl (ac h6 (ac (sc119_0) (ac rfl (ac h3 (ac h2 (ac h1 (ac h0 All.nil)))))))))) (fun h6=>TrOk.ofStop))) (fun h2=>TrOk.ofStop)) (fun h1=>TrOk.ofStop)) (fun h0=>TrOk.ofFin (BodyRuns.of (e119_0_6 x3 b0_0 b0_1 b0_2 b0_3 b0_4 b1_0 b3) (ac h0 All.nil)))
theorem ok119_0:qa6 Proofs.Tryz.prog 119 0 lc119_0:=qdE (sh:=sh119_0) (shB:=shb119_0) (shR:=shr119_0) kl162_0_ok.base (T:=fun (d:sh119_0.data)=>t119_0 d.1.1 d.2.1.1 d.2.1.2.1 d.2.1.2.2.1 d.2.1.2.2.2.1 d.2.1.2.2.2.2.1 d.2.2.1.1 d.2.2.2.2.1) (by kernel_rfl) rfl (fun (d:sh119_0.data)=>ok119_0_t d.1.1 d.2.1.1 d.2.1.2.1 d.2.1.2.2.1 d.2.1.2.2.2.1 d.2.1.2.2.2.2.1 d.2.2.1.1 d.2.2.2.2.1) (fun _=>rfl)
def kl119_0 (P:Go.Program):Known:=(kl162_0 P).loop 119 0 lc119_0
theorem kl119_0_ok:KnownOk Proofs.Tryz.prog (kl119_0 Proofs.Tryz.prog):=kl162_0_ok.loop ok119_0
abbrev as119:List Ty:=[(.pair (.pair (.pair (.int .i64) (.pair (.int .i64) .unit)) (.pair (.int .i64) (.pair (.int .i64) (.pair (.int .i64) .unit)))) .unit),(.pair (.int .i64) (.pair (.int .i64) (.pair (.int .i64) .unit)))]
abbrev rs119:List Ty:=[(.slice (.int .i64)),.bool]
def t119 (x0__:Int) (x0__':Int) (x0_':Int) (x0_'':Int) (x0_''':Int) (x1:Int) (x1':Int) (x1'':Int):Tr (Tys.data rs119) :=
  Tr.test (Option.isSome (l119_0 (((0:Int),()),((x0__,(x0__',(x0_',(x0_'',(x0_''',()))))),((([(x1,x1',x1'',())]:List (Int×Int×Int×PUnit)),()),((),((mput (k:=MT) (v:=MT) [] (x1,x1',x1'',()) (x1,x1',x1'',()):List (Ty.data (Ty.pair (Ty.int Go.IntKind.i64) (Ty.pair (Ty.int Go.IntKind.i64) (Ty.pair (Ty.int Go.IntKind.i64) Ty.unit)))×Ty.data (Ty.pair (Ty.int Go.IntKind.i64) (Ty.pair (Ty.int Go.IntKind.i64) (Ty.pair (Ty.int Go.IntKind.i64) Ty.unit))))),())))))))
    (Tr.test (qeA (l119_0 (((0:Int),()),((x0__,(x0__',(x0_',(x0_'',(x0_''',()))))),((([(x1,x1',x1'',())]:List (Int×Int×Int×PUnit)),()),((),((mput (k:=MT) (v:=MT) [] (x1,x1',x1'',()) (x1,x1',x1'',()):List (Ty.data (Ty.pair (Ty.int Go.IntKind.i64) (Ty.pair (Ty.int Go.IntKind.i64) (Ty.pair (Ty.int Go.IntKind.i64) Ty.unit)))×Ty.data (Ty.pair (Ty.int Go.IntKind.i64) (Ty.pair (Ty.int Go.IntKind.i64) (Ty.pair (Ty.int Go.IntKind.i64) Ty.unit))))),())))))))
      (let r0:=r119_0 (((0:Int),()),((x0__,(x0__',(x0_',(x0_'',(x0_''',()))))),((([(x1,x1',x1'',())]:List (Int×Int×Int×PUnit)),()),((),((mput (k:=MT) (v:=MT) [] (x1,x1',x1'',()) (x1,x1',x1'',()):List (Ty.data (Ty.pair (Ty.int Go.IntKind.i64) (Ty.pair (Ty.int Go.IntKind.i64) (Ty.pair (Ty.int Go.IntKind.i64) Ty.unit)))×Ty.data (Ty.pair (Ty.int Go.IntKind.i64) (Ty.pair (Ty.int Go.IntKind.i64) (Ty.pair (Ty.int Go.IntKind.i64) Ty.unit))))),())))));
      Tr.fin ((r0.1.1,(r0.1.2.1,()))))
      (Tr.fin ((([]:List Int),((false:Bool),())))))
    (Tr.stop)
def f119 (d:Tys.data as119):Option (Tys.data rs119):=(t119 d.1.1.1.1 d.1.1.1.2.1 d.1.1.2.1 d.1.1.2.2.1 d.1.1.2.2.2.1 d.2.1.1 d.2.1.2.1 d.2.1.2.2.1).val
def g119 (d:Tys.data as119):Tys.data rs119:=(f119 d).getD (Tys.dflt rs119)
def p119:PureC:=pcOf as119 rs119 f119 g119
theorem wk119 (x0__:Int) (x0__':Int) (x0_':Int) (x0_'':Int) (x0_''':Int) (x1:Int) (x1':Int) (x1'':Int):Walks (runPure (kl119_0 Proofs.Tryz.prog).orc Proofs.Tryz.prog 400 119 as119 rs119 ((((x0__,x0__',()),x0_',x0_'',x0_''',()),()),(x1,x1',x1'',()),())) (t119 x0__ x0__' x0_' x0_'' x0_''' x1 x1' x1'') [(bl 2 3,[2,4]),(bl 2 1,[2,4])] :=
  ⟨by kernel_rfl,by kernel_rfl,trivial⟩
theorem ok119_t (x0__:Int) (x0__':Int) (x0_':Int) (x0_'':Int) (x0_''':Int) (x1:Int) (x1':Int) (x1'':Int):TrOk (PureRuns Proofs.Tryz.prog (kl119_0 Proofs.Tryz.prog).orc 119 as119 rs119 ((((x0__,x0__',()),x0_',x0_'',x0_''',()),()),(x1,x1',x1'',()),())) (t119 x0__ x0__' x0_' x0_'' x0_''' x1 x1' x1'') :=
  Walks.ok (fun _ _ _=>PureRuns.of) (wk119 x0__ x0__' x0_' x0_'' x0_''' x1 x1' x1'') (by kernel_rfl)
theorem ok119:PureOk Proofs.Tryz.prog 119 p119:=qaj kl119_0_ok.base (T:=fun (d:Tys.data as119)=>t119 d.1.1.1.1 d.1.1.1.2.1 d.1.1.2.1 d.1.1.2.2.1 d.1.1.2.2.2.1 d.2.1.1 d.2.1.2.1 d.2.1.2.2.1) (by kernel_rfl) (fun (d:Tys.data as119)=>ok119_t d.1.1.1.1 d.1.1.1.2.1 d.1.1.2.1 d.1.1.2.2.1 d.1.1.2.2.2.1 d.2.1.1 d.2.1.2.1 d.2.1.2.2.1)
def kf119 (P:Go.Program):Known:=(kl119_0 P).func 119 p119
theorem kf119_ok:KnownOk Proofs.Tryz.prog (kf119 Proofs.Tryz.prog):=kl119_0_ok.func ok119
theorem sc47_0:qcK Proofs.Tryz.prog 47 0 = true:=qjF (by kernel_rfl)
abbrev sh162_0_1 (P:Go.Program):Sh:={ n:=29,slots:=[0,1,2,4],pats:=[.yld 0,.ptr 1 5 0,.ptr 2 3 0,.ty (.int .i64)],boxes:=[.lp (lpOf P 47 0 .ready none 39 [6,8] 3) [.ptr 4 5 0,.ptr 5 1 0],.row [.ty (.int .i64),.ty (.int .i64),.ty (.int .i64),.ty (.int .i64),.ty (.int .i64)],.row [.ty (.int .i64),.ty (.int .i64),.ty (.int .i64)],.dfr,.row [.ty (.int .i64),.ty (.int .i64),.ty (.int .i64),.ty (.int .i64),.ty (.int .i64)],.row [.aco (.int .i64)]] }
abbrev shb162_0_1 (P:Go.Program):Sh:={ n:=29,slots:=[],pats:=[],boxes:=[.lp (lpOf P 47 0 .ready none 39 [6,8] 3) [.ptr 4 5 0,.ptr 5 1 0],.row [.ty (.int .i64),.ty (.int .i64),.ty (.int .i64),.ty (.int .i64),.ty (.int .i64)],.row [.ty (.int .i64),.ty (.int .i64),.ty (.int .i64)],.dfr,.row [.ty (.int .i64),.ty (.int .i64),.ty (.int .i64),.ty (.int .i64),.ty (.int .i64)],.row [.aco (.int .i64)]] }
abbrev shr162_0_1 (P:Go.Program):Sh:={ n:=29,slots:=[],pats:=[],boxes:=[.lp (lpOf P 47 0 .ready none 39 [6,8] 3) [.ptr 4 5 0,.ptr 5 1 0],.row [.ty (.int .i64),.ty (.int .i64),.ty (.int .i64),.ty (.int .i64),.ty (.int .i64)],.row [.ty (.int .i64),.ty (.int .i64),.ty (.int .i64)],.dfr,.row [.ty (.int .i64),.ty (.int .i64),.ty (.int .i64),.ty (.int .i64),.ty (.int .i64)],.row [.aco (.int .i64)]] }
abbrev dt162_0_1:Type:=(Int×PUnit)×PUnit×(Int×Int×Int×Int×Int×PUnit)×(Int×Int×Int×PUnit)×(Int×Int×Int×Int×Int×PUnit)×(List Int×PUnit)×PUnit
abbrev db162_0_1:Type:=PUnit×PUnit×(Int×Int×Int×Int×Int×PUnit)×(Int×Int×Int×PUnit)×(Int×Int×Int×Int×Int×PUnit)×(List Int×PUnit)×PUnit
abbrev dr162_0_1:Type:=PUnit×PUnit×(Int×Int×Int×Int×Int×PUnit)×(Int×Int×Int×PUnit)×(Int×Int×Int×Int×Int×PUnit)×(List Int×PUnit)×PUnit
def t162_0_1 (x3:Int) (b1_0:Int) (b1_1:Int) (b1_2:Int) (b1_3:Int) (b1_4:Int) (b2_0:Int) (b2_1:Int) (b2_2:Int) (b4_0:Int) (b4_1:Int) (b4_2:Int) (b4_3:Int) (b4_4:Int) (b5_0:(List Int)):Tr (Out dt162_0_1 db162_0_1 dr162_0_1) :=
  Tr.test ((leF x3 b1_3:Bool))
    (Tr.test (Option.isSome (f120 ((((b1_0,(b1_1,())),(b1_2,(b1_3,(b1_4,())))),()),((b2_0,(b2_1,(b2_2,()))),(x3,())))))
      (let r0:=g120 ((((b1_0,(b1_1,())),(b1_2,(b1_3,(b1_4,())))),()),((b2_0,(b2_1,(b2_2,()))),(x3,())));
      Tr.test (r0.1)
        (Tr.test (Option.isSome (f121 ((b2_0,(b2_1,(b2_2,()))),(x3,()))))
          (let r1:=g121 ((b2_0,(b2_1,(b2_2,()))),(x3,()));
          Tr.test (Option.isSome (f119 ((((b4_0,(b4_1,())),(b4_2,(b4_3,(b4_4,())))),()),((r1.1.1,(r1.1.2.1,(r1.1.2.2.1,()))),()))))
            (let r2:=g119 ((((b4_0,(b4_1,())),(b4_2,(b4_3,(b4_4,())))),()),((r1.1.1,(r1.1.2.1,(r1.1.2.2.1,()))),()));
            Tr.test (r2.2.1)
              (Tr.test ((Nat.ble (((2:Nat) * (List.length b5_0 + (1:Nat)) + (192:Nat)) * (8:Nat)) (281474976710656:Nat) && Nat.ble (List.length b5_0 + (1:Nat)) (281474976710656:Nat):Bool))
                (Tr.fin (.again (((wrap64 (x3 + (1:Int)):Int),()),((),((b1_0,(b1_1,(b1_2,(b1_3,(b1_4,()))))),((b2_0,(b2_1,(b2_2,()))),((b4_0,(b4_1,(b4_2,(b4_3,(b4_4,()))))),(((b5_0++[x3]:List Int),()),()))))))))
                (Tr.stop))
              (Tr.fin (.again (((wrap64 (x3 + (1:Int)):Int),()),((),((b1_0,(b1_1,(b1_2,(b1_3,(b1_4,()))))),((b2_0,(b2_1,(b2_2,()))),((b4_0,(b4_1,(b4_2,(b4_3,(b4_4,()))))),((b5_0,()),())))))))))
            (Tr.stop))
          (Tr.stop))
        (Tr.fin (.again (((wrap64 (x3 + (1:Int)):Int),()),((),((b1_0,(b1_1,(b1_2,(b1_3,(b1_4,()))))),((b2_0,(b2_1,(b2_2,()))),((b4_0,(b4_1,(b4_2,(b4_3,(b4_4,()))))),((b5_0,()),())))))))))
      (Tr.stop))
    (Tr.fin (.brk ((),((),((b1_0,(b1_1,(b1_2,(b1_3,(b1_4,()))))),((b2_0,(b2_1,(b2_2,()))),((b4_0,(b4_1,(b4_2,(b4_3,(b4_4,()))))),((b5_0,()),()))))))))
def s162_0_1 (d:dt162_0_1):Option (Out dt162_0_1 db162_0_1 dr162_0_1):=(t162_0_1 d.1.1 d.2.2.1.1 d.2.2.1.2.1 d.2.2.1.2.2.1 d.2.2.1.2.2.2.1 d.2.2.1.2.2.2.2.1 d.2.2.2.1.1 d.2.2.2.1.2.1 d.2.2.2.1.2.2.1 d.2.2.2.2.1.1 d.2.2.2.2.1.2.1 d.2.2.2.2.1.2.2.1 d.2.2.2.2.1.2.2.2.1 d.2.2.2.2.1.2.2.2.2.1 d.2.2.2.2.2.1.1).val
def l162_0_1 (d:dt162_0_1):Option (db162_0_1 ⊕ dr162_0_1):=itr s162_0_1 rounds d
def b162_0_1 (d:dt162_0_1):db162_0_1:=outB (((),((),(((0:Int),((0:Int),((0:Int),((0:Int),((0:Int),()))))),(((0:Int),((0:Int),((0:Int),()))),(((0:Int),((0:Int),((0:Int),((0:Int),((0:Int),()))))),((([]:List Int),()),()))))))) (l162_0_1 d)
def lc162_0_1 (P:Go.Program):LoopC:=lcB (sh162_0_1 P) (shb162_0_1 P) (shr162_0_1 P) l162_0_1 b162_0_1
theorem e162_0_1_0 (x3:Int) (b1_0:Int) (b1_1:Int) (b1_2:Int) (b1_3:Int) (b1_4:Int) (b2_0:Int) (b2_1:Int) (b2_2:Int) (b4_0:Int) (b4_1:Int) (b4_2:Int) (b4_3:Int) (b4_4:Int) (b5_0:(List Int)):qaq (kf119 Proofs.Tryz.prog).orc Proofs.Tryz.prog 400 162 0 (sh162_0_1 Proofs.Tryz.prog) (shb162_0_1 Proofs.Tryz.prog) (shr162_0_1 Proofs.Tryz.prog) ((x3,()),(),(b1_0,b1_1,b1_2,b1_3,b1_4,()),(b2_0,b2_1,b2_2,()),(b4_0,b4_1,b4_2,b4_3,b4_4,()),(b5_0,()),()) [tt,tt,tt,tt,tt,tt,tt,tt,tt,tt,tt,tt,tt,tt,tt,ff] =
    (let r0:=g120 ((((b1_0,(b1_1,())),(b1_2,(b1_3,(b1_4,())))),()),((b2_0,(b2_1,(b2_2,()))),(x3,())));let r1:=g121 ((b2_0,(b2_1,(b2_2,()))),(x3,()));let r2:=g119 ((((b4_0,(b4_1,())),(b4_2,(b4_3,(b4_4,())))),()),((r1.1.1,(r1.1.2.1,(r1.1.2.2.1,()))),())); some (.again (((wrap64 (x3 + (1:Int)):Int),()),((),((b1_0,(b1_1,(b1_2,(b1_3,(b1_4,()))))),((b2_0,(b2_1,(b2_2,()))),((b4_0,(b4_1,(b4_2,(b4_3,(b4_4,()))))),(((b5_0++[x3]:List Int),()),())))))),[(qcK Proofs.Tryz.prog (nat_lit 47) (nat_lit 0),true),(false,false),(r0.1,true),(r0.1,true),(Nat.ble (((2:Nat) * (List.length b5_0 + (1:Nat)) + (192:Nat)) * (8:Nat)) (281474976710656:Nat) && Nat.ble (List.length b5_0 + (1:Nat)) (281474976710656:Nat),true),(r2.2.1,true),(Option.isSome (f119 ((((b4_0,(b4_1,())),(b4_2,(b4_3,(b4_4,())))),()),((r1.1.1,(r1.1.2.1,(r1.1.2.2.1,()))),()))),true),(r0.1,true),(Option.isSome (f121 ((b2_0,(b2_1,(b2_2,()))),(x3,()))),true),(r0.1,true),(r0.1,true),(r0.1,true),(r0.1,true),(r0.1,true),(Option.isSome (f120 ((((b1_0,(b1_1,())),(b1_2,(b1_3,(b1_4,())))),()),((b2_0,(b2_1,(b2_2,()))),(x3,())))),true),(leF x3 b1_3,true),(true,true)])):=by kernel_rfl
theorem e162_0_1_2 (x3:Int) (b1_0:Int) (b1_1:Int) (b1_2:Int) (b1_3:Int) (b1_4:Int) (b2_0:Int) (b2_1:Int) (b2_2:Int) (b4_0:Int) (b4_1:Int) (b4_2:Int) (b4_3:Int) (b4_4:Int) (b5_0:(List Int)):qaq (kf119 Proofs.Tryz.prog).orc Proofs.Tryz.prog 400 162 0 (sh162_0_1 Proofs.Tryz.prog) (shb162_0_1 Proofs.Tryz.prog) (shr162_0_1 Proofs.Tryz.prog) ((x3,()),(),(b1_0,b1_1,b1_2,b1_3,b1_4,()),(b2_0,b2_1,b2_2,()),(b4_0,b4_1,b4_2,b4_3,b4_4,()),(b5_0,()),()) [tt,tt,tt,tt,tt,tt,tt,tt,tt,tt,tt,ff,tt,tt,ff] =
    (let r0:=g120 ((((b1_0,(b1_1,())),(b1_2,(b1_3,(b1_4,())))),()),((b2_0,(b2_1,(b2_2,()))),(x3,())));let r1:=g121 ((b2_0,(b2_1,(b2_2,()))),(x3,()));let r2:=g119 ((((b4_0,(b4_1,())),(b4_2,(b4_3,(b4_4,())))),()),((r1.1.1,(r1.1.2.1,(r1.1.2.2.1,()))),())); some (.again (((wrap64 (x3 + (1:Int)):Int),()),((),((b1_0,(b1_1,(b1_2,(b1_3,(b1_4,()))))),((b2_0,(b2_1,(b2_2,()))),((b4_0,(b4_1,(b4_2,(b4_3,(b4_4,()))))),((b5_0,()),())))))),[(qcK Proofs.Tryz.prog (nat_lit 47) (nat_lit 0),true),(false,false),(r0.1,true),(r0.1,true),(r2.2.1,false),(Option.isSome (f119 ((((b4_0,(b4_1,())),(b4_2,(b4_3,(b4_4,())))),()),((r1.1.1,(r1.1.2.1,(r1.1.2.2.1,()))),()))),true),(r0.1,true),(Option.isSome (f121 ((b2_0,(b2_1,(b2_2,()))),(x3,()))),true),(r0.1,true),(r0.1,true),(r0.1,true),(r0.1,true),(r0.1,true),(Option.isSome (f120 ((((b1_0,(b1_1,())),(b1_2,(b1_3,(b1_4,())))),()),((b2_0,(b2_1,(b2_2,()))),(x3,())))),true),(leF x3 b1_3,true),(true,true)])):=by kernel_rfl
theorem e162_0_1_3 (x3:Int) (b1_0:Int) (b1_1:Int) (b1_2:Int) (b1_3:Int) (b1_4:Int) (b2_0:Int) (b2_1:Int) (b2_2:Int) (b4_0:Int) (b4_1:Int) (b4_2:Int) (b4_3:Int) (b4_4:Int) (b5_0:(List Int)):qaq (kf119 Proofs.Tryz.prog).orc Proofs.Tryz.prog 400 162 0 (sh162_0_1 Proofs.Tryz.prog) (shb162_0_1 Proofs.Tryz.prog) (shr162_0_1 Proofs.Tryz.prog) ((x3,()),(),(b1_0,b1_1,b1_2,b1_3,b1_4,()),(b2_0,b2_1,b2_2,()),(b4_0,b4_1,b4_2,b4_3,b4_4,()),(b5_0,()),()) [tt,tt,tt,ff,ff,ff,ff,ff,ff,ff,ff,ff] =
    (let r0:=g120 ((((b1_0,(b1_1,())),(b1_2,(b1_3,(b1_4,())))),()),((b2_0,(b2_1,(b2_2,()))),(x3,()))); some (.again (((wrap64 (x3 + (1:Int)):Int),()),((),((b1_0,(b1_1,(b1_2,(b1_3,(b1_4,()))))),((b2_0,(b2_1,(b2_2,()))),((b4_0,(b4_1,(b4_2,(b4_3,(b4_4,()))))),((b5_0,()),())))))),[(qcK Proofs.Tryz.prog (nat_lit 47) (nat_lit 0),true),(false,false),(r0.1,false),(r0.1,false),(r0.1,false),(r0.1,false),(r0.1,false),(r0.1,false),(r0.1,false),(r0.1,false),(Option.isSome (f120 ((((b1_0,(b1_1,())),(b1_2,(b1_3,(b1_4,())))),()),((b2_0,(b2_1,(b2_2,()))),(x3,())))),true),(leF x3 b1_3,true),(true,true)])):=by kernel_rfl
theorem e162_0_1_4 (x3:Int) (b1_0:Int) (b1_1:Int) (b1_2:Int) (b1_3:Int) (b1_4:Int) (b2_0:Int) (b2_1:Int) (b2_2:Int) (b4_0:Int) (b4_1:Int) (b4_2:Int) (b4_3:Int) (b4_4:Int) (b5_0:(List Int)):qaq (kf119 Proofs.Tryz.prog).orc Proofs.Tryz.prog 400 162 0 (sh162_0_1 Proofs.Tryz.prog) (shb162_0_1 Proofs.Tryz.prog) (shr162_0_1 Proofs.Tryz.prog) ((x3,()),(),(b1_0,b1_1,b1_2,b1_3,b1_4,()),(b2_0,b2_1,b2_2,()),(b4_0,b4_1,b4_2,b4_3,b4_4,()),(b5_0,()),()) [tt,ff] =
    (some (.brk ((),((),((b1_0,(b1_1,(b1_2,(b1_3,(b1_4,()))))),((b2_0,(b2_1,(b2_2,()))),((b4_0,(b4_1,(b4_2,(b4_3,(b4_4,()))))),((b5_0,()),())))))),[(qcK Proofs.Tryz.prog (nat_lit 47) (nat_lit 0),true),(leF x3 b1_3,false),(true,true)])):=by kernel_rfl
theorem ok162_0_1_t (x3:Int) (b1_0:Int) (b1_1:Int) (b1_2:Int) (b1_3:Int) (b1_4:Int) (b2_0:Int) (b2_1:Int) (b2_2:Int) (b4_0:Int) (b4_1:Int) (b4_2:Int) (b4_3:Int) (b4_4:Int) (b5_0:(List Int)):TrOk (BodyRuns Proofs.Tryz.prog (kf119 Proofs.Tryz.prog).orc 162 0 (sh162_0_1 Proofs.Tryz.prog) (shb162_0_1 Proofs.Tryz.prog) (shr162_0_1 Proofs.Tryz.prog) ((x3,()),(),(b1_0,b1_1,b1_2,b1_3,b1_4,()),(b2_0,b2_1,b2_2,()),(b4_0,b4_1,b4_2,b4_3,b4_4,()),(b5_0,()),())) (t162_0_1 x3 b1_0 b1_1 b1_2 b1_3 b1_4 b2_0 b2_1 b2_2 b4_0 b4_1 b4_2 b4_3 b4_4 b5_0) :=
  TrOk.ofTest (fun h1=>TrOk.ofTest (fun h2=>TrOk.ofTest (fun h3=>TrOk.ofTest (fun h8=>TrOk.ofTest (fun h10=>TrOk.ofTest (fun h11=>TrOk.ofTest (fun h12=>TrOk.ofFin (BodyRuns.of (e162_0_1_0 x3 b1_0 b1_1 b1_2 b1_3 b1_4 b2_0 b2_1 b2_2 b4_0 b4_1 b4_2 b4_3 b4_4 b5_0) (ac (sc47_0) (ac rfl (ac h3 (ac h3 (ac h12 (ac h11 (ac h10 (ac h3 (ac h8 (ac h3 (ac h3 (ac h3 (ac h3 (ac h3 (ac h2 (ac h1 (ac rfl All.nil))))))))))))))))))) (fun h12=>TrOk.ofStop)) (fun h11=>TrOk.ofFin (BodyRuns.of (e162_0_1_2 x3 b1_0 b1_1 b1_2 b1_3 b1_4 b2_0 b2_1 b2_2 b4_0 b4_1 b4_2 b4_3 b4_4 b5_0) (ac (sc47_0) (ac rfl (ac h3 (ac h3 (ac h11 (ac h10 (ac h3 (ac h8 (ac h3 (ac h3 (ac h3 (ac h3 (ac h3 (ac h2 (ac h1 (ac rfl All.nil))))))))))))))))))) (fun h10=>TrOk.ofStop)) (fun h8=>TrOk.ofStop)) (fun h3=>TrOk.ofFin (BodyRuns.of (e162_0_1_3 x3 b1_0 b1_1 b1_2 b1_3 b1_4 b2_0 b2_1 b2_2 b4_0 b4_1 b4_2 b4_3 b4_4 b5_0) (ac (sc47_0) (ac rfl (ac h3 (ac h3 (ac h3 (ac h3 (ac h3 (ac h3 (ac h3 (ac h3 (ac h2 (ac h1 (ac rfl All.nil)))))))))))))))) (fun h2=>TrOk.ofStop)) (fun h1=>TrOk.ofFin (BodyRuns.of (e162_0_1_4 x3 b1_0 b1_1 b1_2 b1_3 b1_4 b2_0 b2_1 b2_2 b4_0 b4_1 b4_2 b4_3 b4_4 b5_0) (ac (sc47_0) (ac h1 (ac rfl All.nil)))))
theorem ok162_0_1:qa6 Proofs.Tryz.prog 162 0 (lc162_0_1 Proofs.Tryz.prog):=qbo (sh:=(sh162_0_1 Proofs.Tryz.prog)) (shB:=(shb162_0_1 Proofs.Tryz.prog)) (shR:=(shr162_0_1 Proofs.Tryz.prog)) kf119_ok.base (T:=fun (d:dt162_0_1)=>t162_0_1 d.1.1 d.2.2.1.1 d.2.2.1.2.1 d.2.2.1.2.2.1 d.2.2.1.2.2.2.1 d.2.2.1.2.2.2.2.1 d.2.2.2.1.1 d.2.2.2.1.2.1 d.2.2.2.1.2.2.1 d.2.2.2.2.1.1 d.2.2.2.2.1.2.1 d.2.2.2.2.1.2.2.1 d.2.2.2.2.1.2.2.2.1 d.2.2.2.2.1.2.2.2.2.1 d.2.2.2.2.2.1.1) (by kernel_rfl) rfl (fun (d:dt162_0_1)=>ok162_0_1_t d.1.1 d.2.2.1.1 d.2.2.1.2.1 d.2.2.1.2.2.1 d.2.2.1.2.2.2.1 d.2.2.1.2.2.2.2.1 d.2.2.2.1.1 d.2.2.2.1.2.1 d.2.2.2.1.2.2.1 d.2.2.2.2.1.1 d.2.2.2.2.1.2.1 d.2.2.2.2.1.2.2.1 d.2.2.2.2.1.2.2.2.1 d.2.2.2.2.1.2.2.2.2.1 d.2.2.2.2.2.1.1) (fun _=>rfl)
def kl162_0_1 (P:Go.Program):Known:=(kf119 P).loop 162 0 (lc162_0_1 P)
theorem kl162_0_1_ok:KnownOk Proofs.Tryz.prog (kl162_0_1 Proofs.Tryz.prog):=kf119_ok.loop ok162_0_1
abbrev as47:List Ty:=[(.pair (.pair (.int .i64) (.pair (.int .i64) .unit)) (.pair (.int .i64) (.pair (.int .i64) (.pair (.int .i64) .unit)))),(.pair (.int .i64) (.pair (.int .i64) (.pair (.int .i64) .unit)))]
abbrev rs47:List Ty:=[(.slice (.int .i64)),(.int .i64)]
def t47 (x0_:Int) (x0_':Int) (x0':Int) (x0'':Int) (x0''':Int) (x1:Int) (x1':Int) (x1'':Int):Tr (Tys.data rs47) :=
  Tr.test (Option.isSome (f118 (((x0_,(x0_',())),(x0',(x0'',(x0''',())))),((x1,(x1',(x1'',()))),()))))
    (let r0:=g118 (((x0_,(x0_',())),(x0',(x0'',(x0''',())))),((x1,(x1',(x1'',()))),()));
    Tr.test ((!eqF r0.2.1 0:Bool))
      (Tr.fin ((([]:List Int),(r0.2.1,()))))
      (Tr.test (qbQ (l162_0_1 (((Go.IntKind.wrap Go.IntKind.i64 ((0:Int) - r0.1.1.2.2.1):Int),()),((),((r0.1.1.1.1,(r0.1.1.1.2.1,(r0.1.1.2.1,(r0.1.1.2.2.1,(r0.1.1.2.2.2.1,()))))),((x1,(x1',(x1'',()))),((r0.1.1.1.1,(r0.1.1.1.2.1,(r0.1.1.2.1,(r0.1.1.2.2.1,(r0.1.1.2.2.2.1,()))))),((([]:List Int),()),()))))))))
        (let r1:=b162_0_1 (((Go.IntKind.wrap Go.IntKind.i64 ((0:Int) - r0.1.1.2.2.1):Int),()),((),((r0.1.1.1.1,(r0.1.1.1.2.1,(r0.1.1.2.1,(r0.1.1.2.2.1,(r0.1.1.2.2.2.1,()))))),((x1,(x1',(x1'',()))),((r0.1.1.1.1,(r0.1.1.1.2.1,(r0.1.1.2.1,(r0.1.1.2.2.1,(r0.1.1.2.2.2.1,()))))),((([]:List Int),()),()))))));
        Tr.fin ((r1.2.2.2.2.2.1.1,((0:Int),()))))
        (Tr.stop)))
    (Tr.stop)
def f47 (d:Tys.data as47):Option (Tys.data rs47):=(t47 d.1.1.1 d.1.1.2.1 d.1.2.1 d.1.2.2.1 d.1.2.2.2.1 d.2.1.1 d.2.1.2.1 d.2.1.2.2.1).val
def g47 (d:Tys.data as47):Tys.data rs47:=(f47 d).getD (Tys.dflt rs47)
def p47:PureC:=pcOf as47 rs47 f47 g47
theorem e47_0 (x0_:Int) (x0_':Int) (x0':Int) (x0'':Int) (x0''':Int) (x1:Int) (x1':Int) (x1'':Int):runPure (kl162_0_1 Proofs.Tryz.prog).orc Proofs.Tryz.prog 400 47 as47 rs47 (((x0_,x0_',()),x0',x0'',x0''',()),(x1,x1',x1'',()),()) [tt,tt] =
    (let r0:=g118 (((x0_,(x0_',())),(x0',(x0'',(x0''',())))),((x1,(x1',(x1'',()))),())); some ((([]:List Int),(r0.2.1,())),[(!eqF r0.2.1 0,true),(Option.isSome (f118 (((x0_,(x0_',())),(x0',(x0'',(x0''',())))),((x1,(x1',(x1'',()))),()))),true)])):=by kernel_rfl
theorem e47_1 (x0_:Int) (x0_':Int) (x0':Int) (x0'':Int) (x0''':Int) (x1:Int) (x1':Int) (x1'':Int):runPure (kl162_0_1 Proofs.Tryz.prog).orc Proofs.Tryz.prog 400 47 as47 rs47 (((x0_,x0_',()),x0',x0'',x0''',()),(x1,x1',x1'',()),()) [tt,ff,tt,tt,tt,tt] =
    (let r0:=g118 (((x0_,(x0_',())),(x0',(x0'',(x0''',())))),((x1,(x1',(x1'',()))),()));let r1:=b162_0_1 (((Go.IntKind.wrap Go.IntKind.i64 ((0:Int) - r0.1.1.2.2.1):Int),()),((),((r0.1.1.1.1,(r0.1.1.1.2.1,(r0.1.1.2.1,(r0.1.1.2.2.1,(r0.1.1.2.2.2.1,()))))),((x1,(x1',(x1'',()))),((r0.1.1.1.1,(r0.1.1.1.2.1,(r0.1.1.2.1,(r0.1.1.2.2.1,(r0.1.1.2.2.2.1,()))))),((([]:List Int),()),())))))); some ((r1.2.2.2.2.2.1.1,((0:Int),())),[(true,true),(qbQ (l162_0_1 (((Go.IntKind.wrap Go.IntKind.i64 ((0:Int) - r0.1.1.2.2.1):Int),()),((),((r0.1.1.1.1,(r0.1.1.1.2.1,(r0.1.1.2.1,(r0.1.1.2.2.1,(r0.1.1.2.2.2.1,()))))),((x1,(x1',(x1'',()))),((r0.1.1.1.1,(r0.1.1.1.2.1,(r0.1.1.2.1,(r0.1.1.2.2.1,(r0.1.1.2.2.2.1,()))))),((([]:List Int),()),()))))))),true),(qcK Proofs.Tryz.prog (nat_lit 47) (nat_lit 0),true),(true,true),(!eqF r0.2.1 0,false),(Option.isSome (f118 (((x0_,(x0_',())),(x0',(x0'',(x0''',())))),((x1,(x1',(x1'',()))),()))),true)])):=by kernel_rfl
theorem ok47_t (x0_:Int) (x0_':Int) (x0':Int) (x0'':Int) (x0''':Int) (x1:Int) (x1':Int) (x1'':Int):TrOk (PureRuns Proofs.Tryz.prog (kl162_0_1 Proofs.Tryz.prog).orc 47 as47 rs47 (((x0_,x0_',()),x0',x0'',x0''',()),(x1,x1',x1'',()),())) (t47 x0_ x0_' x0' x0'' x0''' x1 x1' x1'') :=
  TrOk.ofTest (fun h0=>TrOk.ofTest (fun h1=>TrOk.ofFin (PureRuns.of (e47_0 x0_ x0_' x0' x0'' x0''' x1 x1' x1'') (ac h1 (ac h0 All.nil)))) (fun h1=>TrOk.ofTest (fun h4=>TrOk.ofFin (PureRuns.of (e47_1 x0_ x0_' x0' x0'' x0''' x1 x1' x1'') (ac rfl (ac h4 (ac (sc47_0) (ac rfl (ac h1 (ac h0 All.nil)))))))) (fun h4=>TrOk.ofStop))) (fun h0=>TrOk.ofStop)
theorem ok47:PureOk Proofs.Tryz.prog 47 p47:=qaj kl162_0_1_ok.base (T:=fun (d:Tys.data as47)=>t47 d.1.1.1 d.1.1.2.1 d.1.2.1 d.1.2.2.1 d.1.2.2.2.1 d.2.1.1 d.2.1.2.1 d.2.1.2.2.1) (by kernel_rfl) (fun (d:Tys.data as47)=>ok47_t d.1.1.1 d.1.1.2.1 d.1.2.1 d.1.2.2.1 d.1.2.2.2.1 d.2.1.1 d.2.1.2.1 d.2.1.2.2.1)
def kf47 (P:Go.Program):Known:=(kl162_0_1 P).func 47 p47
theorem kf47_ok:KnownOk Proofs.Tryz.prog (kf47 Proofs.Tryz.prog):=kl162_0_1_ok.func ok47
abbrev as50:List Ty:=[(.pair (.pair (.int .i64) (.pair (.int .i64) .unit)) (.pair (.int .i64) (.pair (.int .i64) (.pair (.int .i64) .unit)))),(.pair (.int .i64) (.pair (.int .i64) (.pair (.int .i64) .unit))),(.int .i64)]
abbrev rs50:List Ty:=[(.pair (.int .i64) (.pair (.int .i64) (.pair (.int .i64) .unit))),.bool]
def t50 (x0_:Int) (x0_':Int) (x0':Int) (x0'':Int) (x0''':Int) (x1:Int) (x1':Int) (x1'':Int) (x2:Int):Tr (Tys.data rs50) :=
  Tr.test (Option.isSome (f25 (x2,((Go.IntKind.wrap Go.IntKind.i64 ((0:Int) - x0''):Int),(x0'',())))))
    (let r0:=g25 (x2,((Go.IntKind.wrap Go.IntKind.i64 ((0:Int) - x0''):Int),(x0'',())));
    Tr.test ((!r0.1:Bool))
      (Tr.fin ((((0:Int),((0:Int),((0:Int),()))),((false:Bool),()))))
      (Tr.test (Option.isSome (f25 (x2,((wrap64 (x1'' - x0'''):Int),((wrap64 (x1'' + x0'''):Int),())))))
        (let r1:=g25 (x2,((wrap64 (x1'' - x0'''):Int),((wrap64 (x1'' + x0'''):Int),())));
        Tr.test ((!r1.1:Bool))
          (Tr.fin ((((0:Int),((0:Int),((0:Int),()))),((false:Bool),()))))
          (Tr.test (Option.isSome (f123 (((x0_,(x0_',())),(x0',(x0'',(x0''',())))),(((wrap64 (x1 + wrap64 (x1' + x2)):Int),((wrap64 (x1' + x2):Int),(x2,()))),()))))
            (let r2:=g123 (((x0_,(x0_',())),(x0',(x0'',(x0''',())))),(((wrap64 (x1 + wrap64 (x1' + x2)):Int),((wrap64 (x1' + x2):Int),(x2,()))),()));
            Tr.test ((!eqF r2.1 0:Bool))
              (Tr.fin ((((0:Int),((0:Int),((0:Int),()))),((false:Bool),()))))
              (Tr.fin ((((wrap64 (x1 + wrap64 (x1' + x2)):Int),((wrap64 (x1' + x2):Int),(x2,()))),((true:Bool),())))))
            (Tr.stop)))
        (Tr.stop)))
    (Tr.stop)
def f50 (d:Tys.data as50):Option (Tys.data rs50):=(t50 d.1.1.1 d.1.1.2.1 d.1.2.1 d.1.2.2.1 d.1.2.2.2.1 d.2.1.1 d.2.1.2.1 d.2.1.2.2.1 d.2.2.1).val
def g50 (d:Tys.data as50):Tys.data rs50:=(f50 d).getD (Tys.dflt rs50)
def p50:PureC:=pcOf as50 rs50 f50 g50
theorem wk50 (x0_:Int) (x0_':Int) (x0':Int) (x0'':Int) (x0''':Int) (x1:Int) (x1':Int) (x1'':Int) (x2:Int):Walks (runPure (kf47 Proofs.Tryz.prog).orc Proofs.Tryz.prog 400 50 as50 rs50 (((x0_,x0_',()),x0',x0'',x0''',()),(x1,x1',x1'',()),x2,())) (t50 x0_ x0_' x0' x0'' x0''' x1 x1' x1'' x2) [(bl 2 3,[1,2,2,2,2,2,2,2,2,2,2,2,2,2,2,4,1,1]),(bl 4 13,[2,6,6,4,6,6,1,6,6,6,6,6,1,6,6,6,6,6,8,1,1]),(bl 6 53,[2,4,6,10,10,8,10,10,1,10,10,10,10,10,1,10,10,10,10,10,12,1,1]),(bl 6 21,[2,4,6,10,10,8,10,10,1,10,10,10,10,10,1,10,10,10,10,10,12,1,1])] :=
  ⟨by kernel_rfl,by kernel_rfl,by kernel_rfl,by kernel_rfl,trivial⟩
theorem ok50_t (x0_:Int) (x0_':Int) (x0':Int) (x0'':Int) (x0''':Int) (x1:Int) (x1':Int) (x1'':Int) (x2:Int):TrOk (PureRuns Proofs.Tryz.prog (kf47 Proofs.Tryz.prog).orc 50 as50 rs50 (((x0_,x0_',()),x0',x0'',x0''',()),(x1,x1',x1'',()),x2,())) (t50 x0_ x0_' x0' x0'' x0''' x1 x1' x1'' x2) :=
  Walks.ok (fun _ _ _=>PureRuns.of) (wk50 x0_ x0_' x0' x0'' x0''' x1 x1' x1'' x2) (by kernel_rfl)
theorem ok50:PureOk Proofs.Tryz.prog 50 p50:=qaj kf47_ok.base (T:=fun (d:Tys.data as50)=>t50 d.1.1.1 d.1.1.2.1 d.1.2.1 d.1.2.2.1 d.1.2.2.2.1 d.2.1.1 d.2.1.2.1 d.2.1.2.2.1 d.2.2.1) (by kernel_rfl) (fun (d:Tys.data as50)=>ok50_t d.1.1.1 d.1.1.2.1 d.1.2.1 d.1.2.2.1 d.1.2.2.2.1 d.2.1.1 d.2.1.2.1 d.2.1.2.2.1 d.2.2.1)
def kf50 (P:Go.Program):Known:=(kf47 P).func 50 p50
theorem kf50_ok:KnownOk Proofs.Tryz.prog (kf50 Proofs.Tryz.prog):=kf47_ok.func ok50
abbrev as124:List Ty:=[(.pair (.pair (.int .i64) (.pair (.int .i64) .unit)) (.pair (.int .i64) (.pair (.int .i64) (.pair (.int .i64) .unit)))),(.pair (.int .i64) (.pair (.int .i64) (.pair (.int .i64) .unit)))]
abbrev rs124:List Ty:=[(.int .i64)]
def t124 (x0_:Int) (x0_':Int) (x0':Int) (x0'':Int) (x0''':Int) (x1:Int) (x1':Int) (x1'':Int):Tr (Tys.data rs124) :=
  Tr.fin (((wrap64 (wrap64 (wrap64 (wrap64 (wrap64 (wrap64 (wrap64 (x1 - x0_) * wrap64 (wrap64 ((2:Int) * x0') + (1:Int))) + x1') + x0') * wrap64 (wrap64 ((2:Int) * x0'') + (1:Int))) + x1'') + x0''):Int),()))
def f124 (d:Tys.data as124):Option (Tys.data rs124):=(t124 d.1.1.1 d.1.1.2.1 d.1.2.1 d.1.2.2.1 d.1.2.2.2.1 d.2.1.1 d.2.1.2.1 d.2.1.2.2.1).val
def g124 (d:Tys.data as124):Tys.data rs124:=(f124 d).getD (Tys.dflt rs124)
def p124:PureC:=pcOf as124 rs124 f124 g124
theorem wk124 (x0_:Int) (x0_':Int) (x0':Int) (x0'':Int) (x0''':Int) (x1:Int) (x1':Int) (x1'':Int):Walks (runPure (kf50 Proofs.Tryz.prog).orc Proofs.Tryz.prog 400 124 as124 rs124 (((x0_,x0_',()),x0',x0'',x0''',()),(x1,x1',x1'',()),())) (t124 x0_ x0_' x0' x0'' x0''' x1 x1' x1'') [(bl 0 0,[1,1,1,1,1])] :=
  ⟨by kernel_rfl,trivial⟩
theorem ok124_t (x0_:Int) (x0_':Int) (x0':Int) (x0'':Int) (x0''':Int) (x1:Int) (x1':Int) (x1'':Int):TrOk (PureRuns Proofs.Tryz.prog (kf50 Proofs.Tryz.prog).orc 124 as124 rs124 (((x0_,x0_',()),x0',x0'',x0''',()),(x1,x1',x1'',()),())) (t124 x0_ x0_' x0' x0'' x0''' x1 x1' x1'') :=
  Walks.ok (fun _ _ _=>PureRuns.of) (wk124 x0_ x0_' x0' x0'' x0''' x1 x1' x1'') (by kernel_rfl)
theorem ok124:PureOk Proofs.Tryz.prog 124 p124:=qaj kf50_ok.base (T:=fun (d:Tys.data as124)=>t124 d.1.1.1 d.1.1.2.1 d.1.2.1 d.1.2.2.1 d.1.2.2.2.1 d.2.1.1 d.2.1.2.1 d.2.1.2.2.1) (by kernel_rfl) (fun (d:Tys.data as124)=>ok124_t d.1.1.1 d.1.1.2.1 d.1.2.1 d.1.2.2.1 d.1.2.2.2.1 d.2.1.1 d.2.1.2.1 d.2.1.2.2.1)
def kf124 (P:Go.Program):Known:=(kf50 P).func 124 p124
theorem kf124_ok:KnownOk Proofs.Tryz.prog (kf124 Proofs.Tryz.prog):=kf50_ok.func ok124
abbrev as49:List Ty:=[(.pair (.int .i64) (.pair (.int .i64) (.pair (.int .i64) .unit)))]
abbrev rs49:List Ty:=[.bool]
def t49 (x0:Int) (x0':Int) (x0'':Int):Tr (Tys.data rs49) :=
  Tr.test ((eqF x0' 0:Bool))
    (Tr.fin ((eqF x0'' 0,())))
    (Tr.fin ((false,())))
def f49 (d:Tys.data as49):Option (Tys.data rs49):=(t49 d.1.1 d.1.2.1 d.1.2.2.1).val
def g49 (d:Tys.data as49):Tys.data rs49:=(f49 d).getD (Tys.dflt rs49)
def p49:PureC:=pcOf as49 rs49 f49 g49
theorem wk49 (x0:Int) (x0':Int) (x0'':Int):Walks (runPure (kf124 Proofs.Tryz.prog).orc Proofs.Tryz.prog 400 49 as49 rs49 ((x0,x0',x0'',()),())) (t49 x0 x0' x0'') [(bl 1 1,[2,2,2,2]),(bl 1 0,[2,2,2,2])] :=
  ⟨by kernel_rfl,by kernel_rfl,trivial⟩
theorem ok49_t (x0:Int) (x0':Int) (x0'':Int):TrOk (PureRuns Proofs.Tryz.prog (kf124 Proofs.Tryz.prog).orc 49 as49 rs49 ((x0,x0',x0'',()),())) (t49 x0 x0' x0'') :=
  Walks.ok (fun _ _ _=>PureRuns.of) (wk49 x0 x0' x0'') (by kernel_rfl)
theorem ok49:PureOk Proofs.Tryz.prog 49 p49:=qaj kf124_ok.base (T:=fun (d:Tys.data as49)=>t49 d.1.1 d.1.2.1 d.1.2.2.1) (by kernel_rfl) (fun (d:Tys.data as49)=>ok49_t d.1.1 d.1.2.1 d.1.2.2.1)
def kf49 (P:Go.Program):Known:=(kf124 P).func 49 p49
theorem kf49_ok:KnownOk Proofs.Tryz.prog (kf49 Proofs.Tryz.prog):=kf124_ok.func ok49
abbrev sh45_2:Sh:={ n:=120,slots:=[6,11,12],pats:=[.acc (.pair (.pair (.int .i64) (.pair (.int .i64) (.pair (.int .i64) .unit))) (.pair (.int .i64) (.pair (.int .i64) .unit))),.acc (.int .i64),.ty (.int .i64)],boxes:=[] }
abbrev shb45_2:Sh:={ n:=120,slots:=[11],pats:=[.acc (.int .i64)],boxes:=[] }
abbrev shr45_2:Sh:={ n:=120,slots:=[],pats:=[],boxes:=[] }
def t45_2 (x0:(List ((Int×(Int×(Int×Unit)))×(Int×(Int×Unit))))) (x1:(List Int)) (x2:Int):Tr (Out sh45_2.data shb45_2.data shr45_2.data) :=
  Tr.test ((decide ((0:Int) ≤ x2) && decide (x2 < (↑(List.length x0):Int)):Bool))
    (Tr.test (leF (0:Int) (List.getD x0 (Int.toNat x2) (((0:Int),(0:Int),(0:Int),()),(0:Int),(0:Int),())).2.1)
      (Tr.test ((Nat.ble (((2:Nat) * ((1:Nat) + List.length x1) + (192:Nat)) * (8:Nat)) (281474976710656:Nat) && Nat.ble ((1:Nat) + List.length x1) (281474976710656:Nat):Bool))
        (Tr.fin (.again ((x0,(([(List.getD x0 (Int.toNat x2) (((0:Int),(0:Int),(0:Int),()),(0:Int),(0:Int),())).2.2.1]++x1:List Int),(((List.getD x0 (Int.toNat x2) (((0:Int),(0:Int),(0:Int),()),(0:Int),(0:Int),())).2.1:Int),()))),())))
        (Tr.stop))
      (Tr.fin (.brk ((x1,()),()))))
    (Tr.stop)
def s45_2 (d:sh45_2.data):Option (Out sh45_2.data shb45_2.data shr45_2.data):=(t45_2 d.1.1 d.1.2.1 d.1.2.2.1).val
def l45_2 (d:sh45_2.data):Option (shb45_2.data ⊕ shr45_2.data):=itr s45_2 rounds d
def b45_2 (d:sh45_2.data):shb45_2.data:=outB shb45_2.dflt (l45_2 d)
def lc45_2:LoopC:=lcB sh45_2 shb45_2 shr45_2 l45_2 b45_2
theorem wk45_2 (x0:(List ((Int×(Int×(Int×Unit)))×(Int×(Int×Unit))))) (x1:(List Int)) (x2:Int):Walks (qaq (kf49 Proofs.Tryz.prog).orc Proofs.Tryz.prog 400 45 2 sh45_2 shb45_2 shr45_2 ((x0,x1,x2,()),())) (t45_2 x0 x1 x2) [(bl 3 7,[6,2,6,4,6]),(bl 2 1,[2,4])] :=
  ⟨by kernel_rfl,by kernel_rfl,trivial⟩
theorem ok45_2_t (x0:(List ((Int×(Int×(Int×Unit)))×(Int×(Int×Unit))))) (x1:(List Int)) (x2:Int):TrOk (BodyRuns Proofs.Tryz.prog (kf49 Proofs.Tryz.prog).orc 45 2 sh45_2 shb45_2 shr45_2 ((x0,x1,x2,()),())) (t45_2 x0 x1 x2) :=
  Walks.ok (fun _ _ _=>BodyRuns.of) (wk45_2 x0 x1 x2) (by kernel_rfl)
theorem ok45_2:qa6 Proofs.Tryz.prog 45 2 lc45_2:=qbo (sh:=sh45_2) (shB:=shb45_2) (shR:=shr45_2) kf49_ok.base (T:=fun (d:sh45_2.data)=>t45_2 d.1.1 d.1.2.1 d.1.2.2.1) (by kernel_rfl) rfl (fun (d:sh45_2.data)=>ok45_2_t d.1.1 d.1.2.1 d.1.2.2.1) (fun _=>rfl)
def kl45_2 (P:Go.Program):Known:=(kf49 P).loop 45 2 lc45_2
theorem kl45_2_ok:KnownOk Proofs.Tryz.prog (kl45_2 Proofs.Tryz.prog):=kf49_ok.loop ok45_2
abbrev sh45_4:Sh:={ n:=120,slots:=[2,6,9,10,13],pats:=[.ptr 0 5 0,.acc (.pair (.pair (.int .i64) (.pair (.int .i64) (.pair (.int .i64) .unit))) (.pair (.int .i64) (.pair (.int .i64) .unit))),.sli 1 1,.ty (.int .i64),.ty (.int .i64)],boxes:=[.row [.ty (.int .i64),.ty (.int .i64),.ty (.int .i64),.ty (.int .i64),.ty (.int .i64)],.arr .bool] }
abbrev shb45_4:Sh:={ n:=120,slots:=[2,6,9,10],pats:=[.ptr 0 5 0,.acc (.pair (.pair (.int .i64) (.pair (.int .i64) (.pair (.int .i64) .unit))) (.pair (.int .i64) (.pair (.int .i64) .unit))),.sli 1 1,.ty (.int .i64)],boxes:=[.row [.ty (.int .i64),.ty (.int .i64),.ty (.int .i64),.ty (.int .i64),.ty (.int .i64)],.arr .bool] }
abbrev shr45_4:Sh:={ n:=120,slots:=[],pats:=[],boxes:=[.row [.ty (.int .i64),.ty (.int .i64),.ty (.int .i64),.ty (.int .i64),.ty (.int .i64)],.arr .bool] }
def t45_4 (x1:(List ((Int×(Int×(Int×Unit)))×(Int×(Int×Unit))))) (x2n:Nat) (x2c:Nat) (x3:Int) (x4:Int) (b0_0:Int) (b0_1:Int) (b0_2:Int) (b0_3:Int) (b0_4:Int) (b1:(List Bool)):Tr (Out sh45_4.data shb45_4.data shr45_4.data) :=
  Tr.test ((leF x4 b0_3:Bool))
    (Tr.test (decide ((0:Int) ≤ x3) && decide (x3 < (↑(List.length x1):Int)))
      (Tr.test (Option.isSome (f50 (((b0_0,(b0_1,())),(b0_2,(b0_3,(b0_4,())))),((((List.getD x1 (Int.toNat x3) (((0:Int),(0:Int),(0:Int),()),(0:Int),(0:Int),())).1.1:Int),(((List.getD x1 (Int.toNat x3) (((0:Int),(0:Int),(0:Int),()),(0:Int),(0:Int),())).1.2.1:Int),(((List.getD x1 (Int.toNat x3) (((0:Int),(0:Int),(0:Int),()),(0:Int),(0:Int),())).1.2.2.1:Int),()))),(x4,())))))
        (let r0:=g50 (((b0_0,(b0_1,())),(b0_2,(b0_3,(b0_4,())))),((((List.getD x1 (Int.toNat x3) (((0:Int),(0:Int),(0:Int),()),(0:Int),(0:Int),())).1.1:Int),(((List.getD x1 (Int.toNat x3) (((0:Int),(0:Int),(0:Int),()),(0:Int),(0:Int),())).1.2.1:Int),(((List.getD x1 (Int.toNat x3) (((0:Int),(0:Int),(0:Int),()),(0:Int),(0:Int),())).1.2.2.1:Int),()))),(x4,())));
        Tr.test (r0.2.1)
          (Tr.test (Option.isSome (f124 (((b0_0,(b0_1,())),(b0_2,(b0_3,(b0_4,())))),((r0.1.1,(r0.1.2.1,(r0.1.2.2.1,()))),()))))
            (let r1:=g124 (((b0_0,(b0_1,())),(b0_2,(b0_3,(b0_4,())))),((r0.1.1,(r0.1.2.1,(r0.1.2.2.1,()))),()));
            Tr.test ((decide ((0:Int) ≤ r1.1) && decide (r1.1 < (↑x2n:Int)):Bool))
              (Tr.test ((Nat.ble ((0:Nat) + Int.toNat r1.1 + (1:Nat)) (List.length b1):Bool))
                (Tr.test ((!List.getD b1 ((0:Nat) + Int.toNat r1.1) false:Bool))
                  (Tr.test ((Nat.ble (((2:Nat) * (List.length x1 + (1:Nat)) + (192:Nat)) * (40:Nat)) (281474976710656:Nat) && Nat.ble (List.length x1 + (1:Nat)) (281474976710656:Nat):Bool))
                    (Tr.fin (.again (((x1++[((r0.1.1,r0.1.2.1,r0.1.2.2.1,()),x3,x4,())]:List ((Int×Int×Int×PUnit)×Int×Int×PUnit)),((x2n,x2c),(x3,((wrap64 (x4 + (1:Int)):Int),())))),((b0_0,(b0_1,(b0_2,(b0_3,(b0_4,()))))),((List.set b1 ((0:Nat) + Int.toNat r1.1) true:List Bool),())))))
                    (Tr.stop))
                  (Tr.fin (.again ((x1,((x2n,x2c),(x3,((wrap64 (x4 + (1:Int)):Int),())))),((b0_0,(b0_1,(b0_2,(b0_3,(b0_4,()))))),(b1,()))))))
                (Tr.stop))
              (Tr.stop))
            (Tr.stop))
          (Tr.fin (.again ((x1,((x2n,x2c),(x3,((wrap64 (x4 + (1:Int)):Int),())))),((b0_0,(b0_1,(b0_2,(b0_3,(b0_4,()))))),(b1,()))))))
        (Tr.stop))
      (Tr.stop))
    (Tr.fin (.brk ((x1,((x2n,x2c),(x3,()))),((b0_0,(b0_1,(b0_2,(b0_3,(b0_4,()))))),(b1,())))))
def s45_4 (d:sh45_4.data):Option (Out sh45_4.data shb45_4.data shr45_4.data):=(t45_4 d.1.1 d.1.2.1.1 d.1.2.1.2 d.1.2.2.1 d.1.2.2.2.1 d.2.1.1 d.2.1.2.1 d.2.1.2.2.1 d.2.1.2.2.2.1 d.2.1.2.2.2.2.1 d.2.2.1).val
def l45_4 (d:sh45_4.data):Option (shb45_4.data ⊕ shr45_4.data):=itr s45_4 rounds d
def b45_4 (d:sh45_4.data):shb45_4.data:=outB shb45_4.dflt (l45_4 d)
def lc45_4:LoopC:=lcB sh45_4 shb45_4 shr45_4 l45_4 b45_4
theorem wk45_4 (x1:(List ((Int×(Int×(Int×Unit)))×(Int×(Int×Unit))))) (x2n:Nat) (x2c:Nat) (x3:Int) (x4:Int) (b0_0:Int) (b0_1:Int) (b0_2:Int) (b0_3:Int) (b0_4:Int) (b1:(List Bool)):Walks (qaq (kl45_2 Proofs.Tryz.prog).orc Proofs.Tryz.prog 400 45 4 sh45_4 shb45_4 shr45_4 ((x1,(x2n,x2c),x3,x4,()),(b0_0,b0_1,b0_2,b0_3,b0_4,()),b1,())) (t45_4 x1 x2n x2c x3 x4 b0_0 b0_1 b0_2 b0_3 b0_4 b1) [(bl 9 511,[2,6,8,10,4,12,12,6,12,8,12,10,12,12,12,12,14,16,18,1]),(bl 8 127,[2,10,10,4,10,6,10,8,10,10,10,10,12,14,16,1]),(bl 4 7,[0,2,2,2,2,2,2,2,2,4,6,8,1]),(bl 1 0,[2,1])] :=
  ⟨by kernel_rfl,by kernel_rfl,by kernel_rfl,by kernel_rfl,trivial⟩
theorem ok45_4_t (x1:(List ((Int×(Int×(Int×Unit)))×(Int×(Int×Unit))))) (x2n:Nat) (x2c:Nat) (x3:Int) (x4:Int) (b0_0:Int) (b0_1:Int) (b0_2:Int) (b0_3:Int) (b0_4:Int) (b1:(List Bool)):TrOk (BodyRuns Proofs.Tryz.prog (kl45_2 Proofs.Tryz.prog).orc 45 4 sh45_4 shb45_4 shr45_4 ((x1,(x2n,x2c),x3,x4,()),(b0_0,b0_1,b0_2,b0_3,b0_4,()),b1,())) (t45_4 x1 x2n x2c x3 x4 b0_0 b0_1 b0_2 b0_3 b0_4 b1) :=
  Walks.ok (fun _ _ _=>BodyRuns.of) (wk45_4 x1 x2n x2c x3 x4 b0_0 b0_1 b0_2 b0_3 b0_4 b1) (by kernel_rfl)
theorem ok45_4:qa6 Proofs.Tryz.prog 45 4 lc45_4:=qbo (sh:=sh45_4) (shB:=shb45_4) (shR:=shr45_4) kl45_2_ok.base (T:=fun (d:sh45_4.data)=>t45_4 d.1.1 d.1.2.1.1 d.1.2.1.2 d.1.2.2.1 d.1.2.2.2.1 d.2.1.1 d.2.1.2.1 d.2.1.2.2.1 d.2.1.2.2.2.1 d.2.1.2.2.2.2.1 d.2.2.1) (by kernel_rfl) rfl (fun (d:sh45_4.data)=>ok45_4_t d.1.1 d.1.2.1.1 d.1.2.1.2 d.1.2.2.1 d.1.2.2.2.1 d.2.1.1 d.2.1.2.1 d.2.1.2.2.1 d.2.1.2.2.2.1 d.2.1.2.2.2.2.1 d.2.2.1) (fun _=>rfl)
def kl45_4 (P:Go.Program):Known:=(kl45_2 P).loop 45 4 lc45_4
theorem kl45_4_ok:KnownOk Proofs.Tryz.prog (kl45_4 Proofs.Tryz.prog):=kl45_2_ok.loop ok45_4
abbrev sh45_0:Sh:={ n:=120,slots:=[2,6,9,10],pats:=[.ptr 0 5 0,.acc (.pair (.pair (.int .i64) (.pair (.int .i64) (.pair (.int .i64) .unit))) (.pair (.int .i64) (.pair (.int .i64) .unit))),.sli 1 1,.ty (.int .i64)],boxes:=[.row [.ty (.int .i64),.ty (.int .i64),.ty (.int .i64),.ty (.int .i64),.ty (.int .i64)],.arr .bool] }
abbrev shb45_0:Sh:={ n:=120,slots:=[],pats:=[],boxes:=[.row [.ty (.int .i64),.ty (.int .i64),.ty (.int .i64),.ty (.int .i64),.ty (.int .i64)],.arr .bool] }
abbrev shr45_0:Sh:={ n:=120,slots:=[4,5],pats:=[.acc (.int .i64),.ty .bool],boxes:=[.row [.ty (.int .i64),.ty (.int .i64),.ty (.int .i64),.ty (.int .i64),.ty (.int .i64)],.arr .bool] }
def t45_0 (x1:(List ((Int×(Int×(Int×Unit)))×(Int×(Int×Unit))))) (x2n:Nat) (x2c:Nat) (x3:Int) (b0_0:Int) (b0_1:Int) (b0_2:Int) (b0_3:Int) (b0_4:Int) (b1:(List Bool)):Tr (Out sh45_0.data shb45_0.data shr45_0.data) :=
  Tr.test ((!leF (↑(List.length x1):Int) x3:Bool))
    (Tr.test (decide ((0:Int) ≤ x3) && decide (x3 < (↑(List.length x1):Int)))
      (Tr.test (Option.isSome (f49 ((((List.getD x1 (Int.toNat x3) (((0:Int),(0:Int),(0:Int),()),(0:Int),(0:Int),())).1.1:Int),(((List.getD x1 (Int.toNat x3) (((0:Int),(0:Int),(0:Int),()),(0:Int),(0:Int),())).1.2.1:Int),(((List.getD x1 (Int.toNat x3) (((0:Int),(0:Int),(0:Int),()),(0:Int),(0:Int),())).1.2.2.1:Int),()))),())))
        (let r0:=g49 ((((List.getD x1 (Int.toNat x3) (((0:Int),(0:Int),(0:Int),()),(0:Int),(0:Int),())).1.1:Int),(((List.getD x1 (Int.toNat x3) (((0:Int),(0:Int),(0:Int),()),(0:Int),(0:Int),())).1.2.1:Int),(((List.getD x1 (Int.toNat x3) (((0:Int),(0:Int),(0:Int),()),(0:Int),(0:Int),())).1.2.2.1:Int),()))),());
        Tr.test (r0.1)
          (Tr.test (qbQ (l45_2 ((x1,(([]:List Int),(x3,()))),())))
            (let r1:=b45_2 ((x1,(([]:List Int),(x3,()))),());
            Tr.fin (.ret ((r1.1.1,((true:Bool),())),((b0_0,(b0_1,(b0_2,(b0_3,(b0_4,()))))),(b1,())))))
            (Tr.stop))
          (Tr.test (qbQ (l45_4 ((x1,((x2n,x2c),(x3,((Go.IntKind.wrap Go.IntKind.i64 ((0:Int) - b0_3):Int),())))),((b0_0,(b0_1,(b0_2,(b0_3,(b0_4,()))))),(b1,())))))
            (let r2:=b45_4 ((x1,((x2n,x2c),(x3,((Go.IntKind.wrap Go.IntKind.i64 ((0:Int) - b0_3):Int),())))),((b0_0,(b0_1,(b0_2,(b0_3,(b0_4,()))))),(b1,())));
            Tr.fin (.again (((r2.1.1:List ((Int×Int×Int×PUnit)×Int×Int×PUnit)),((r2.1.2.1.1,r2.1.2.1.2),((wrap64 (r2.1.2.2.1 + (1:Int)):Int),()))),((r2.2.1.1,(r2.2.1.2.1,(r2.2.1.2.2.1,(r2.2.1.2.2.2.1,(r2.2.1.2.2.2.2.1,()))))),(r2.2.2.1,())))))
            (Tr.stop)))
        (Tr.stop))
      (Tr.stop))
    (Tr.fin (.brk ((),((b0_0,(b0_1,(b0_2,(b0_3,(b0_4,()))))),(b1,())))))
def s45_0 (d:sh45_0.data):Option (Out sh45_0.data shb45_0.data shr45_0.data):=(t45_0 d.1.1 d.1.2.1.1 d.1.2.1.2 d.1.2.2.1 d.2.1.1 d.2.1.2.1 d.2.1.2.2.1 d.2.1.2.2.2.1 d.2.1.2.2.2.2.1 d.2.2.1).val
def l45_0 (d:sh45_0.data):Option (shb45_0.data ⊕ shr45_0.data):=itr s45_0 rounds d
def b45_0 (d:sh45_0.data):shb45_0.data:=outB shb45_0.dflt (l45_0 d)
def r45_0 (d:sh45_0.data):shr45_0.data:=outR shr45_0.dflt (l45_0 d)
def lc45_0:LoopC:=lcOf sh45_0 shb45_0 shr45_0 l45_0 b45_0 r45_0
theorem wk45_0 (x1:(List ((Int×(Int×(Int×Unit)))×(Int×(Int×Unit))))) (x2n:Nat) (x2c:Nat) (x3:Int) (b0_0:Int) (b0_1:Int) (b0_2:Int) (b0_3:Int) (b0_4:Int) (b1:(List Bool)):Walks (qaq (kl45_4 Proofs.Tryz.prog).orc Proofs.Tryz.prog 400 45 0 sh45_0 shb45_0 shr45_0 ((x1,(x2n,x2c),x3,()),(b0_0,b0_1,b0_2,b0_3,b0_4,()),b1,())) (t45_0 x1 x2n x2c x3 b0_0 b0_1 b0_2 b0_3 b0_4 b1) [(bl 5 31,[1,2,4,6,8,10]),(bl 5 23,[1,2,1,4,6,8,10]),(bl 1 0,[2])] :=
  ⟨by kernel_rfl,by kernel_rfl,by kernel_rfl,trivial⟩
theorem ok45_0_t (x1:(List ((Int×(Int×(Int×Unit)))×(Int×(Int×Unit))))) (x2n:Nat) (x2c:Nat) (x3:Int) (b0_0:Int) (b0_1:Int) (b0_2:Int) (b0_3:Int) (b0_4:Int) (b1:(List Bool)):TrOk (BodyRuns Proofs.Tryz.prog (kl45_4 Proofs.Tryz.prog).orc 45 0 sh45_0 shb45_0 shr45_0 ((x1,(x2n,x2c),x3,()),(b0_0,b0_1,b0_2,b0_3,b0_4,()),b1,())) (t45_0 x1 x2n x2c x3 b0_0 b0_1 b0_2 b0_3 b0_4 b1) :=
  Walks.ok (fun _ _ _=>BodyRuns.of) (wk45_0 x1 x2n x2c x3 b0_0 b0_1 b0_2 b0_3 b0_4 b1) (by kernel_rfl)
theorem ok45_0:qa6 Proofs.Tryz.prog 45 0 lc45_0:=qdE (sh:=sh45_0) (shB:=shb45_0) (shR:=shr45_0) kl45_4_ok.base (T:=fun (d:sh45_0.data)=>t45_0 d.1.1 d.1.2.1.1 d.1.2.1.2 d.1.2.2.1 d.2.1.1 d.2.1.2.1 d.2.1.2.2.1 d.2.1.2.2.2.1 d.2.1.2.2.2.2.1 d.2.2.1) (by kernel_rfl) rfl (fun (d:sh45_0.data)=>ok45_0_t d.1.1 d.1.2.1.1 d.1.2.1.2 d.1.2.2.1 d.2.1.1 d.2.1.2.1 d.2.1.2.2.1 d.2.1.2.2.2.1 d.2.1.2.2.2.2.1 d.2.2.1) (fun _=>rfl)
def kl45_0 (P:Go.Program):Known:=(kl45_4 P).loop 45 0 lc45_0
theorem kl45_0_ok:KnownOk Proofs.Tryz.prog (kl45_0 Proofs.Tryz.prog):=kl45_4_ok.loop ok45_0
abbrev as45:List Ty:=[(.pair (.pair (.int .i64) (.pair (.int .i64) .unit)) (.pair (.int .i64) (.pair (.int .i64) (.pair (.int .i64) .unit)))),(.pair (.int .i64) (.pair (.int .i64) (.pair (.int .i64) .unit)))]
abbrev rs45:List Ty:=[(.slice (.int .i64)),.bool]
def t45 (x0_:Int) (x0_':Int) (x0':Int) (x0'':Int) (x0''':Int) (x1:Int) (x1':Int) (x1'':Int):Tr (Tys.data rs45) :=
  Tr.test ((decide ((0:Int) ≤ wrap64 (wrap64 (wrap64 (wrap64 (x0_' - x0_) + (1:Int)) * wrap64 (wrap64 ((2:Int) * x0') + (1:Int))) * wrap64 (wrap64 ((2:Int) * x0'') + (1:Int)))) && decide (wrap64 (wrap64 (wrap64 (wrap64 (x0_' - x0_) + (1:Int)) * wrap64 (wrap64 ((2:Int) * x0') + (1:Int))) * wrap64 (wrap64 ((2:Int) * x0'') + (1:Int))) ≤ wrap64 (wrap64 (wrap64 (wrap64 (x0_' - x0_) + (1:Int)) * wrap64 (wrap64 ((2:Int) * x0') + (1:Int))) * wrap64 (wrap64 ((2:Int) * x0'') + (1:Int)))) && decide ((1:Int) * wrap64 (wrap64 (wrap64 (wrap64 (x0_' - x0_) + (1:Int)) * wrap64 (wrap64 ((2:Int) * x0') + (1:Int))) * wrap64 (wrap64 ((2:Int) * x0'') + (1:Int))) ≤ (281474976710656:Int)) && decide (wrap64 (wrap64 (wrap64 (wrap64 (x0_' - x0_) + (1:Int)) * wrap64 (wrap64 ((2:Int) * x0') + (1:Int))) * wrap64 (wrap64 ((2:Int) * x0'') + (1:Int))) ≤ (281474976710656:Int)):Bool))
    (Tr.test (Option.isSome (f124 (((x0_,(x0_',())),(x0',(x0'',(x0''',())))),((x1,(x1',(x1'',()))),()))))
      (let r0:=g124 (((x0_,(x0_',())),(x0',(x0'',(x0''',())))),((x1,(x1',(x1'',()))),()));
      Tr.test ((decide ((0:Int) ≤ r0.1) && decide (r0.1 < (↑(Int.toNat (wrap64 (wrap64 (wrap64 (wrap64 (x0_' - x0_) + (1:Int)) * wrap64 (wrap64 ((2:Int) * x0') + (1:Int))) * wrap64 (wrap64 ((2:Int) * x0'') + (1:Int))))):Int)):Bool))
        (Tr.test ((Nat.ble ((0:Nat) + Int.toNat r0.1 + (1:Nat)) (List.length (List.replicate (Int.toNat (wrap64 (wrap64 (wrap64 (wrap64 (x0_' - x0_) + (1:Int)) * wrap64 (wrap64 ((2:Int) * x0') + (1:Int))) * wrap64 (wrap64 ((2:Int) * x0'') + (1:Int))))) false)):Bool))
          (Tr.test (Option.isSome (l45_0 ((([((x1,x1',x1'',()),(-1:Int),(0:Int),())]:List ((Int×Int×Int×PUnit)×Int×Int×PUnit)),(((Int.toNat (wrap64 (wrap64 (wrap64 (wrap64 (x0_' - x0_) + (1:Int)) * wrap64 (wrap64 ((2:Int) * x0') + (1:Int))) * wrap64 (wrap64 ((2:Int) * x0'') + (1:Int)))):Nat),(Int.toNat (wrap64 (wrap64 (wrap64 (wrap64 (x0_' - x0_) + (1:Int)) * wrap64 (wrap64 ((2:Int) * x0') + (1:Int))) * wrap64 (wrap64 ((2:Int) * x0'') + (1:Int)))):Nat)),((0:Int),()))),((x0_,(x0_',(x0',(x0'',(x0''',()))))),((List.set (List.replicate (Int.toNat (wrap64 (wrap64 (wrap64 (wrap64 (x0_' - x0_) + (1:Int)) * wrap64 (wrap64 ((2:Int) * x0') + (1:Int))) * wrap64 (wrap64 ((2:Int) * x0'') + (1:Int))))) false) ((0:Nat) + Int.toNat r0.1) true:List Bool),())))))
            (Tr.test (qeA (l45_0 ((([((x1,x1',x1'',()),(-1:Int),(0:Int),())]:List ((Int×Int×Int×PUnit)×Int×Int×PUnit)),(((Int.toNat (wrap64 (wrap64 (wrap64 (wrap64 (x0_' - x0_) + (1:Int)) * wrap64 (wrap64 ((2:Int) * x0') + (1:Int))) * wrap64 (wrap64 ((2:Int) * x0'') + (1:Int)))):Nat),(Int.toNat (wrap64 (wrap64 (wrap64 (wrap64 (x0_' - x0_) + (1:Int)) * wrap64 (wrap64 ((2:Int) * x0') + (1:Int))) * wrap64 (wrap64 ((2:Int) * x0'') + (1:Int)))):Nat)),((0:Int),()))),((x0_,(x0_',(x0',(x0'',(x0''',()))))),((List.set (List.replicate (Int.toNat (wrap64 (wrap64 (wrap64 (wrap64 (x0_' - x0_) + (1:Int)) * wrap64 (wrap64 ((2:Int) * x0') + (1:Int))) * wrap64 (wrap64 ((2:Int) * x0'') + (1:Int))))) false) ((0:Nat) + Int.toNat r0.1) true:List Bool),())))))
              (let r1:=r45_0 ((([((x1,x1',x1'',()),(-1:Int),(0:Int),())]:List ((Int×Int×Int×PUnit)×Int×Int×PUnit)),(((Int.toNat (wrap64 (wrap64 (wrap64 (wrap64 (x0_' - x0_) + (1:Int)) * wrap64 (wrap64 ((2:Int) * x0') + (1:Int))) * wrap64 (wrap64 ((2:Int) * x0'') + (1:Int)))):Nat),(Int.toNat (wrap64 (wrap64 (wrap64 (wrap64 (x0_' - x0_) + (1:Int)) * wrap64 (wrap64 ((2:Int) * x0') + (1:Int))) * wrap64 (wrap64 ((2:Int) * x0'') + (1:Int)))):Nat)),((0:Int),()))),((x0_,(x0_',(x0',(x0'',(x0''',()))))),((List.set (List.replicate (Int.toNat (wrap64 (wrap64 (wrap64 (wrap64 (x0_' - x0_) + (1:Int)) * wrap64 (wrap64 ((2:Int) * x0') + (1:Int))) * wrap64 (wrap64 ((2:Int) * x0'') + (1:Int))))) false) ((0:Nat) + Int.toNat r0.1) true:List Bool),())));
              Tr.fin ((r1.1.1,(r1.1.2.1,()))))
              (Tr.fin ((([]:List Int),((false:Bool),())))))
            (Tr.stop))
          (Tr.stop))
        (Tr.stop))
      (Tr.stop))
    (Tr.stop)
def f45 (d:Tys.data as45):Option (Tys.data rs45):=(t45 d.1.1.1 d.1.1.2.1 d.1.2.1 d.1.2.2.1 d.1.2.2.2.1 d.2.1.1 d.2.1.2.1 d.2.1.2.2.1).val
def g45 (d:Tys.data as45):Tys.data rs45:=(f45 d).getD (Tys.dflt rs45)
def p45:PureC:=pcOf as45 rs45 f45 g45
theorem wk45 (x0_:Int) (x0_':Int) (x0':Int) (x0'':Int) (x0''':Int) (x1:Int) (x1':Int) (x1'':Int):Walks (runPure (kl45_0 Proofs.Tryz.prog).orc Proofs.Tryz.prog 400 45 as45 rs45 (((x0_,x0_',()),x0',x0'',x0''',()),(x1,x1',x1'',()),())) (t45 x0_ x0_' x0' x0'' x0''' x1 x1' x1'') [(bl 6 63,[2,4,6,8,10,12,1,1,1,1]),(bl 6 31,[2,4,6,8,10,12,1,1,1,1])] :=
  ⟨by kernel_rfl,by kernel_rfl,trivial⟩
theorem ok45_t (x0_:Int) (x0_':Int) (x0':Int) (x0'':Int) (x0''':Int) (x1:Int) (x1':Int) (x1'':Int):TrOk (PureRuns Proofs.Tryz.prog (kl45_0 Proofs.Tryz.prog).orc 45 as45 rs45 (((x0_,x0_',()),x0',x0'',x0''',()),(x1,x1',x1'',()),())) (t45 x0_ x0_' x0' x0'' x0''' x1 x1' x1'') :=
  Walks.ok (fun _ _ _=>PureRuns.of) (wk45 x0_ x0_' x0' x0'' x0''' x1 x1' x1'') (by kernel_rfl)
theorem ok45:PureOk Proofs.Tryz.prog 45 p45:=qaj kl45_0_ok.base (T:=fun (d:Tys.data as45)=>t45 d.1.1.1 d.1.1.2.1 d.1.2.1 d.1.2.2.1 d.1.2.2.2.1 d.2.1.1 d.2.1.2.1 d.2.1.2.2.1) (by kernel_rfl) (fun (d:Tys.data as45)=>ok45_t d.1.1.1 d.1.1.2.1 d.1.2.1 d.1.2.2.1 d.1.2.2.2.1 d.2.1.1 d.2.1.2.1 d.2.1.2.2.1)
def kf45 (P:Go.Program):Known:=(kl45_0 P).func 45 p45
theorem kf45_ok:KnownOk Proofs.Tryz.prog (kf45 Proofs.Tryz.prog):=kl45_0_ok.func ok45
abbrev sh48_0:Sh:={ n:=40,slots:=[2,3,5,6],pats:=[.ptr 0 5 0,.ptr 1 3 0,.aco (.int .i64),.ty (.int .i64)],boxes:=[.row [.ty (.int .i64),.ty (.int .i64),.ty (.int .i64),.ty (.int .i64),.ty (.int .i64)],.row [.ty (.int .i64),.ty (.int .i64),.ty (.int .i64)]] }
abbrev shb48_0:Sh:={ n:=40,slots:=[5],pats:=[.aco (.int .i64)],boxes:=[.row [.ty (.int .i64),.ty (.int .i64),.ty (.int .i64),.ty (.int .i64),.ty (.int .i64)],.row [.ty (.int .i64),.ty (.int .i64),.ty (.int .i64)]] }
abbrev shr48_0:Sh:={ n:=40,slots:=[],pats:=[],boxes:=[.row [.ty (.int .i64),.ty (.int .i64),.ty (.int .i64),.ty (.int .i64),.ty (.int .i64)],.row [.ty (.int .i64),.ty (.int .i64),.ty (.int .i64)]] }
def t48_0 (x2:(List Int)) (x3:Int) (b0_0:Int) (b0_1:Int) (b0_2:Int) (b0_3:Int) (b0_4:Int) (b1_0:Int) (b1_1:Int) (b1_2:Int):Tr (Out sh48_0.data shb48_0.data shr48_0.data) :=
  Tr.test ((leF x3 b0_3:Bool))
    (Tr.test (Option.isSome (f50 (((b0_0,(b0_1,())),(b0_2,(b0_3,(b0_4,())))),((b1_0,(b1_1,(b1_2,()))),(x3,())))))
      (let r0:=g50 (((b0_0,(b0_1,())),(b0_2,(b0_3,(b0_4,())))),((b1_0,(b1_1,(b1_2,()))),(x3,())));
      Tr.test (r0.2.1)
        (Tr.test (Option.isSome (f45 (((b0_0,(b0_1,())),(b0_2,(b0_3,(b0_4,())))),((r0.1.1,(r0.1.2.1,(r0.1.2.2.1,()))),()))))
          (let r1:=g45 (((b0_0,(b0_1,())),(b0_2,(b0_3,(b0_4,())))),((r0.1.1,(r0.1.2.1,(r0.1.2.2.1,()))),()));
          Tr.test (r1.2.1)
            (Tr.test ((Nat.ble (((2:Nat) * (List.length x2 + (1:Nat)) + (192:Nat)) * (8:Nat)) (281474976710656:Nat) && Nat.ble (List.length x2 + (1:Nat)) (281474976710656:Nat):Bool))
              (Tr.fin (.again (((x2++[x3]:List Int),((wrap64 (x3 + (1:Int)):Int),())),((b0_0,(b0_1,(b0_2,(b0_3,(b0_4,()))))),((b1_0,(b1_1,(b1_2,()))),())))))
              (Tr.stop))
            (Tr.fin (.again ((x2,((wrap64 (x3 + (1:Int)):Int),())),((b0_0,(b0_1,(b0_2,(b0_3,(b0_4,()))))),((b1_0,(b1_1,(b1_2,()))),()))))))
          (Tr.stop))
        (Tr.fin (.again ((x2,((wrap64 (x3 + (1:Int)):Int),())),((b0_0,(b0_1,(b0_2,(b0_3,(b0_4,()))))),((b1_0,(b1_1,(b1_2,()))),()))))))
      (Tr.stop))
    (Tr.fin (.brk ((x2,()),((b0_0,(b0_1,(b0_2,(b0_3,(b0_4,()))))),((b1_0,(b1_1,(b1_2,()))),())))))
def s48_0 (d:sh48_0.data):Option (Out sh48_0.data shb48_0.data shr48_0.data):=(t48_0 d.1.1 d.1.2.1 d.2.1.1 d.2.1.2.1 d.2.1.2.2.1 d.2.1.2.2.2.1 d.2.1.2.2.2.2.1 d.2.2.1.1 d.2.2.1.2.1 d.2.2.1.2.2.1).val
def l48_0 (d:sh48_0.data):Option (shb48_0.data ⊕ shr48_0.data):=itr s48_0 rounds d
def b48_0 (d:sh48_0.data):shb48_0.data:=outB shb48_0.dflt (l48_0 d)
def lc48_0:LoopC:=lcB sh48_0 shb48_0 shr48_0 l48_0 b48_0
theorem wk48_0 (x2:(List Int)) (x3:Int) (b0_0:Int) (b0_1:Int) (b0_2:Int) (b0_3:Int) (b0_4:Int) (b1_0:Int) (b1_1:Int) (b1_2:Int):Walks (qaq (kf45 Proofs.Tryz.prog).orc Proofs.Tryz.prog 400 48 0 sh48_0 shb48_0 shr48_0 ((x2,x3,()),(b0_0,b0_1,b0_2,b0_3,b0_4,()),(b1_0,b1_1,b1_2,()),())) (t48_0 x2 x3 b0_0 b0_1 b0_2 b0_3 b0_4 b1_0 b1_1 b1_2) [(bl 6 63,[2,4,6,8,10,12,1]),(bl 5 15,[2,4,6,8,10,1]),(bl 3 3,[2,4,6,1]),(bl 1 0,[2,1])] :=
  ⟨by kernel_rfl,by kernel_rfl,by kernel_rfl,by kernel_rfl,trivial⟩
theorem ok48_0_t (x2:(List Int)) (x3:Int) (b0_0:Int) (b0_1:Int) (b0_2:Int) (b0_3:Int) (b0_4:Int) (b1_0:Int) (b1_1:Int) (b1_2:Int):TrOk (BodyRuns Proofs.Tryz.prog (kf45 Proofs.Tryz.prog).orc 48 0 sh48_0 shb48_0 shr48_0 ((x2,x3,()),(b0_0,b0_1,b0_2,b0_3,b0_4,()),(b1_0,b1_1,b1_2,()),())) (t48_0 x2 x3 b0_0 b0_1 b0_2 b0_3 b0_4 b1_0 b1_1 b1_2) :=
  Walks.ok (fun _ _ _=>BodyRuns.of) (wk48_0 x2 x3 b0_0 b0_1 b0_2 b0_3 b0_4 b1_0 b1_1 b1_2) (by kernel_rfl)
theorem ok48_0:qa6 Proofs.Tryz.prog 48 0 lc48_0:=qbo (sh:=sh48_0) (shB:=shb48_0) (shR:=shr48_0) kf45_ok.base (T:=fun (d:sh48_0.data)=>t48_0 d.1.1 d.1.2.1 d.2.1.1 d.2.1.2.1 d.2.1.2.2.1 d.2.1.2.2.2.1 d.2.1.2.2.2.2.1 d.2.2.1.1 d.2.2.1.2.1 d.2.2.1.2.2.1) (by kernel_rfl) rfl (fun (d:sh48_0.data)=>ok48_0_t d.1.1 d.1.2.1 d.2.1.1 d.2.1.2.1 d.2.1.2.2.1 d.2.1.2.2.2.1 d.2.1.2.2.2.2.1 d.2.2.1.1 d.2.2.1.2.1 d.2.2.1.2.2.1) (fun _=>rfl)
def kl48_0 (P:Go.Program):Known:=(kf45 P).loop 48 0 lc48_0
theorem kl48_0_ok:KnownOk Proofs.Tryz.prog (kl48_0 Proofs.Tryz.prog):=kf45_ok.loop ok48_0
abbrev as48:List Ty:=[(.pair (.pair (.int .i64) (.pair (.int .i64) .unit)) (.pair (.int .i64) (.pair (.int .i64) (.pair (.int .i64) .unit)))),(.pair (.int .i64) (.pair (.int .i64) (.pair (.int .i64) .unit)))]
abbrev rs48:List Ty:=[(.slice (.int .i64))]
def t48 (x0_:Int) (x0_':Int) (x0':Int) (x0'':Int) (x0''':Int) (x1:Int) (x1':Int) (x1'':Int):Tr (Tys.data rs48) :=
  Tr.test (qbQ (l48_0 ((([]:List Int),((Go.IntKind.wrap Go.IntKind.i64 ((0:Int) - x0''):Int),())),((x0_,(x0_',(x0',(x0'',(x0''',()))))),((x1,(x1',(x1'',()))),())))))
    (let r0:=b48_0 ((([]:List Int),((Go.IntKind.wrap Go.IntKind.i64 ((0:Int) - x0''):Int),())),((x0_,(x0_',(x0',(x0'',(x0''',()))))),((x1,(x1',(x1'',()))),())));
    Tr.fin ((r0.1.1,())))
    (Tr.stop)
def f48 (d:Tys.data as48):Option (Tys.data rs48):=(t48 d.1.1.1 d.1.1.2.1 d.1.2.1 d.1.2.2.1 d.1.2.2.2.1 d.2.1.1 d.2.1.2.1 d.2.1.2.2.1).val
def g48 (d:Tys.data as48):Tys.data rs48:=(f48 d).getD (Tys.dflt rs48)
def p48:PureC:=pcOf as48 rs48 f48 g48
theorem wk48 (x0_:Int) (x0_':Int) (x0':Int) (x0'':Int) (x0''':Int) (x1:Int) (x1':Int) (x1'':Int):Walks (runPure (kl48_0 Proofs.Tryz.prog).orc Proofs.Tryz.prog 400 48 as48 rs48 (((x0_,x0_',()),x0',x0'',x0''',()),(x1,x1',x1'',()),())) (t48 x0_ x0_' x0' x0'' x0''' x1 x1' x1'') [(bl 1 1,[1,2,1])] :=
  ⟨by kernel_rfl,trivial⟩
theorem ok48_t (x0_:Int) (x0_':Int) (x0':Int) (x0'':Int) (x0''':Int) (x1:Int) (x1':Int) (x1'':Int):TrOk (PureRuns Proofs.Tryz.prog (kl48_0 Proofs.Tryz.prog).orc 48 as48 rs48 (((x0_,x0_',()),x0',x0'',x0''',()),(x1,x1',x1'',()),())) (t48 x0_ x0_' x0' x0'' x0''' x1 x1' x1'') :=
  Walks.ok (fun _ _ _=>PureRuns.of) (wk48 x0_ x0_' x0' x0'' x0''' x1 x1' x1'') (by kernel_rfl)
theorem ok48:PureOk Proofs.Tryz.prog 48 p48:=qaj kl48_0_ok.base (T:=fun (d:Tys.data as48)=>t48 d.1.1.1 d.1.1.2.1 d.1.2.1 d.1.2.2.1 d.1.2.2.2.1 d.2.1.1 d.2.1.2.1 d.2.1.2.2.1) (by kernel_rfl) (fun (d:Tys.data as48)=>ok48_t d.1.1.1 d.1.1.2.1 d.1.2.1 d.1.2.2.1 d.1.2.2.2.1 d.2.1.1 d.2.1.2.1 d.2.1.2.2.1)
def kf48 (P:Go.Program):Known:=(kl48_0 P).func 48 p48
theorem kf48_ok:KnownOk Proofs.Tryz.prog (kf48 Proofs.Tryz.prog):=kl48_0_ok.func ok48
abbrev sh23_0:Sh:={ n:=26,slots:=[0,1,5],pats:=[.ty (.slice (.int .i64)),.ty (.slice (.int .i64)),.ty (.int .i64)],boxes:=[] }
abbrev shb23_0:Sh:={ n:=26,slots:=[],pats:=[],boxes:=[] }
abbrev shr23_0:Sh:={ n:=26,slots:=[4],pats:=[.ty .bool],boxes:=[] }
def t23_0 (x0:(List Int)) (x1:(List Int)) (x2:Int):Tr (Out sh23_0.data shb23_0.data shr23_0.data) :=
  Tr.test ((!leF (↑(List.length x0):Int) x2:Bool))
    (Tr.test (decide ((0:Int) ≤ x2) && decide (x2 < (↑(List.length x0):Int)))
      (Tr.test ((decide ((0:Int) ≤ x2) && decide (x2 < (↑(List.length x1):Int)):Bool))
        (Tr.test ((!eqF (List.getD x0 (Int.toNat x2) (0:Int)) (List.getD x1 (Int.toNat x2) (0:Int)):Bool))
          (Tr.fin (.ret (((false:Bool),()),())))
          (Tr.fin (.again ((x0,(x1,((wrap64 (x2 + (1:Int)):Int),()))),()))))
        (Tr.stop))
      (Tr.stop))
    (Tr.fin (.brk ((),())))
def s23_0 (d:sh23_0.data):Option (Out sh23_0.data shb23_0.data shr23_0.data):=(t23_0 d.1.1 d.1.2.1 d.1.2.2.1).val
def l23_0 (d:sh23_0.data):Option (shb23_0.data ⊕ shr23_0.data):=itr s23_0 rounds d
def b23_0 (d:sh23_0.data):shb23_0.data:=outB shb23_0.dflt (l23_0 d)
def r23_0 (d:sh23_0.data):shr23_0.data:=outR shr23_0.dflt (l23_0 d)
def lc23_0:LoopC:=lcOf sh23_0 shb23_0 shr23_0 l23_0 b23_0 r23_0
theorem wk23_0 (x0:(List Int)) (x1:(List Int)) (x2:Int):Walks (qaq (kf48 Proofs.Tryz.prog).orc Proofs.Tryz.prog 400 23 0 sh23_0 shb23_0 shr23_0 ((x0,x1,x2,()),())) (t23_0 x0 x1 x2) [(bl 4 15,[2,4,6,8]),(bl 4 7,[2,4,6,8]),(bl 1 0,[2])] :=
  ⟨by kernel_rfl,by kernel_rfl,by kernel_rfl,trivial⟩
theorem ok23_0_t (x0:(List Int)) (x1:(List Int)) (x2:Int):TrOk (BodyRuns Proofs.Tryz.prog (kf48 Proofs.Tryz.prog).orc 23 0 sh23_0 shb23_0 shr23_0 ((x0,x1,x2,()),())) (t23_0 x0 x1 x2) :=
  Walks.ok (fun _ _ _=>BodyRuns.of) (wk23_0 x0 x1 x2) (by kernel_rfl)
theorem ok23_0:qa6 Proofs.Tryz.prog 23 0 lc23_0:=qdE (sh:=sh23_0) (shB:=shb23_0) (shR:=shr23_0) kf48_ok.base (T:=fun (d:sh23_0.data)=>t23_0 d.1.1 d.1.2.1 d.1.2.2.1) (by kernel_rfl) rfl (fun (d:sh23_0.data)=>ok23_0_t d.1.1 d.1.2.1 d.1.2.2.1) (fun _=>rfl)
def kl23_0 (P:Go.Program):Known:=(kf48 P).loop 23 0 lc23_0
theorem kl23_0_ok:KnownOk Proofs.Tryz.prog (kl23_0 Proofs.Tryz.prog):=kf48_ok.loop ok23_0
abbrev as23:List Ty:=[(.slice (.int .i64)),(.slice (.int .i64))]
abbrev rs23:List Ty:=[.bool]
def t23 (x0:(List Int)) (x1:(List Int)):Tr (Tys.data rs23) :=
  Tr.test ((!eqF (↑(List.length x0):Int) (↑(List.length x1):Int):Bool))
    (Tr.fin ((false,())))
    (Tr.test (Option.isSome (l23_0 ((x0,(x1,((0:Int),()))),())))
      (Tr.test (qeA (l23_0 ((x0,(x1,((0:Int),()))),())))
        (let r0:=r23_0 ((x0,(x1,((0:Int),()))),());
        Tr.fin ((r0.1.1,())))
        (Tr.fin (((true:Bool),()))))
      (Tr.stop))
def f23 (d:Tys.data as23):Option (Tys.data rs23):=(t23 d.1 d.2.1).val
def g23 (d:Tys.data as23):Tys.data rs23:=(f23 d).getD (Tys.dflt rs23)
def p23:PureC:=pcOf as23 rs23 f23 g23
theorem wk23 (x0:(List Int)) (x1:(List Int)):Walks (runPure (kl23_0 Proofs.Tryz.prog).orc Proofs.Tryz.prog 400 23 as23 rs23 (x0,x1,())) (t23 x0 x1) [(bl 1 1,[2]),(bl 3 6,[2,4,6]),(bl 3 2,[2,4,6])] :=
  ⟨by kernel_rfl,by kernel_rfl,by kernel_rfl,trivial⟩
theorem ok23_t (x0:(List Int)) (x1:(List Int)):TrOk (PureRuns Proofs.Tryz.prog (kl23_0 Proofs.Tryz.prog).orc 23 as23 rs23 (x0,x1,())) (t23 x0 x1) :=
  Walks.ok (fun _ _ _=>PureRuns.of) (wk23 x0 x1) (by kernel_rfl)
theorem ok23:PureOk Proofs.Tryz.prog 23 p23:=qaj kl23_0_ok.base (T:=fun (d:Tys.data as23)=>t23 d.1 d.2.1) (by kernel_rfl) (fun (d:Tys.data as23)=>ok23_t d.1 d.2.1)
def kf23 (P:Go.Program):Known:=(kl23_0 P).func 23 p23
theorem kf23_ok:KnownOk Proofs.Tryz.prog (kf23 Proofs.Tryz.prog):=kl23_0_ok.func ok23
abbrev as8:List Ty:=[(.pair (.pair (.int .i64) (.pair (.int .i64) .unit)) (.pair (.int .i64) (.pair (.int .i64) (.pair (.int .i64) .unit)))),(.pair (.int .i64) (.pair (.int .i64) (.pair (.int .i64) .unit)))]
abbrev rs8:List Ty:=[.bool]
def t8 (x0_:Int) (x0_':Int) (x0':Int) (x0'':Int) (x0''':Int) (x1:Int) (x1':Int) (x1'':Int):Tr (Tys.data rs8) :=
  Tr.test (Option.isSome (f44 (((x0_,(x0_',())),(x0',(x0'',(x0''',())))),((x1,(x1',(x1'',()))),()))))
    (let r0:=g44 (((x0_,(x0_',())),(x0',(x0'',(x0''',())))),((x1,(x1',(x1'',()))),()));
    Tr.test ((eqF r0.1 0:Bool))
      (Tr.test ((!leF (wrap64 (x0_' - x0_)) (24:Int):Bool))
        (Tr.fin (((true:Bool),())))
        (Tr.test (Option.isSome (f47 (((x0_,(x0_',())),(x0',(x0'',(x0''',())))),((x1,(x1',(x1'',()))),()))))
          (let r1:=g47 (((x0_,(x0_',())),(x0',(x0'',(x0''',())))),((x1,(x1',(x1'',()))),()));
          Tr.test ((eqF r1.2.1 0:Bool))
            (Tr.test (Option.isSome (f48 (((x0_,(x0_',())),(x0',(x0'',(x0''',())))),((x1,(x1',(x1'',()))),()))))
              (let r2:=g48 (((x0_,(x0_',())),(x0',(x0'',(x0''',())))),((x1,(x1',(x1'',()))),()));
              Tr.test (Option.isSome (f23 (r1.1,(r2.1,()))))
                (let r3:=g23 (r1.1,(r2.1,()));
                Tr.fin ((r3.1,())))
                (Tr.stop))
              (Tr.stop))
            (Tr.fin (((false:Bool),()))))
          (Tr.stop)))
      (Tr.test (Option.isSome (f47 (((x0_,(x0_',())),(x0',(x0'',(x0''',())))),((x1,(x1',(x1'',()))),()))))
        (let r1:=g47 (((x0_,(x0_',())),(x0',(x0'',(x0''',())))),((x1,(x1',(x1'',()))),()));
        Tr.test ((eqF r1.2.1 r0.1:Bool))
          (Tr.fin (((eqF (↑(List.length r1.1):Int) (0:Int):Bool),())))
          (Tr.fin (((false:Bool),()))))
        (Tr.stop)))
    (Tr.stop)
def f8 (d:Tys.data as8):Option (Tys.data rs8):=(t8 d.1.1.1 d.1.1.2.1 d.1.2.1 d.1.2.2.1 d.1.2.2.2.1 d.2.1.1 d.2.1.2.1 d.2.1.2.2.1).val
def g8 (d:Tys.data as8):Tys.data rs8:=(f8 d).getD (Tys.dflt rs8)
def p8:PureC:=pcOf as8 rs8 f8 g8
theorem wk8 (x0_:Int) (x0_':Int) (x0':Int) (x0'':Int) (x0''':Int) (x1:Int) (x1':Int) (x1'':Int):Walks (runPure (kf23 Proofs.Tryz.prog).orc Proofs.Tryz.prog 400 8 as8 rs8 (((x0_,x0_',()),x0',x0'',x0''',()),(x1,x1',x1'',()),())) (t8 x0_ x0_' x0' x0'' x0''' x1 x1' x1'') [(bl 3 7,[2,4,4,4,1,4,4,4,1,4,4,4,6,0,1]),(bl 7 123,[6,2,6,4,6,6,6,6,13,8,10,12,12,12,1,12,12,12,1,12,12,12,14,0,1]),(bl 5 11,[2,2,2,2,2,2,9,4,6,8,8,8,1,8,8,8,1,8,8,8,10,0,1]),(bl 4 13,[2,2,2,2,7,4,0,6,6,6,6,6,6,6,6,6,8,0,1]),(bl 4 5,[2,2,2,2,7,4,0,6,6,6,6,6,6,6,6,6,8,0,1])] :=
  ⟨by kernel_rfl,by kernel_rfl,by kernel_rfl,by kernel_rfl,by kernel_rfl,trivial⟩
theorem ok8_t (x0_:Int) (x0_':Int) (x0':Int) (x0'':Int) (x0''':Int) (x1:Int) (x1':Int) (x1'':Int):TrOk (PureRuns Proofs.Tryz.prog (kf23 Proofs.Tryz.prog).orc 8 as8 rs8 (((x0_,x0_',()),x0',x0'',x0''',()),(x1,x1',x1'',()),())) (t8 x0_ x0_' x0' x0'' x0''' x1 x1' x1'') :=
  Walks.ok (fun _ _ _=>PureRuns.of) (wk8 x0_ x0_' x0' x0'' x0''' x1 x1' x1'') (by kernel_rfl)
theorem ok8:PureOk Proofs.Tryz.prog 8 p8:=qaj kf23_ok.base (T:=fun (d:Tys.data as8)=>t8 d.1.1.1 d.1.1.2.1 d.1.2.1 d.1.2.2.1 d.1.2.2.2.1 d.2.1.1 d.2.1.2.1 d.2.1.2.2.1) (by kernel_rfl) (fun (d:Tys.data as8)=>ok8_t d.1.1.1 d.1.1.2.1 d.1.2.1 d.1.2.2.1 d.1.2.2.2.1 d.2.1.1 d.2.1.2.1 d.2.1.2.2.1)
end Go.Vm.Mo
