import Derived.Test.YtamhnegcpdkpdaaA4
import Derived.KernelRfl
import Derived.Test.YtamhnegcpdkpdaaProg
import Derived.Test.YtamhnegcpdkpdaaRkFa
set_option linter.unusedVariables false
set_option linter.unusedSimpArgs false

namespace Go.Vm.Mo
open Go
set_option linter.unusedVariables false

/-! loop 0 of ductility/ductilityref01.CheckRig -/

abbrev sh22_0:Sh:={ n:=73,slots:=[1,4],pats:=[.ptr 0 13 0,.ty (.int .i64)],boxes:=[.row [.ty (.slice (.pair (.pair (.int .i64) (.pair (.int .i64) (.pair (.int .i64) (.pair (.int .i64) (.pair (.int .i64) (.pair (.int .i64) .unit)))))) (.pair (.pair (.int .i64) (.pair (.int .i64) .unit)) .unit))),.ty (.int .i64),.ty (.int .i64),.ty (.int .i64),.ty (.int .i64),.ty (.int .i64),.ty (.int .i64),.ty (.int .i64),.ty (.int .i64),.ty (.int .i64),.ty (.int .i64),.ty (.int .i64),.ty (.int .i64)]] }
abbrev shb22_0:Sh:={ n:=73,slots:=[1],pats:=[.ptr 0 13 0],boxes:=[.row [.ty (.slice (.pair (.pair (.int .i64) (.pair (.int .i64) (.pair (.int .i64) (.pair (.int .i64) (.pair (.int .i64) (.pair (.int .i64) .unit)))))) (.pair (.pair (.int .i64) (.pair (.int .i64) .unit)) .unit))),.ty (.int .i64),.ty (.int .i64),.ty (.int .i64),.ty (.int .i64),.ty (.int .i64),.ty (.int .i64),.ty (.int .i64),.ty (.int .i64),.ty (.int .i64),.ty (.int .i64),.ty (.int .i64),.ty (.int .i64)]] }
abbrev shr22_0:Sh:={ n:=73,slots:=[2,3],pats:=[.ty (.int .i64),.ty (.int .i64)],boxes:=[.row [.ty (.slice (.pair (.pair (.int .i64) (.pair (.int .i64) (.pair (.int .i64) (.pair (.int .i64) (.pair (.int .i64) (.pair (.int .i64) .unit)))))) (.pair (.pair (.int .i64) (.pair (.int .i64) .unit)) .unit))),.ty (.int .i64),.ty (.int .i64),.ty (.int .i64),.ty (.int .i64),.ty (.int .i64),.ty (.int .i64),.ty (.int .i64),.ty (.int .i64),.ty (.int .i64),.ty (.int .i64),.ty (.int .i64),.ty (.int .i64)]] }

def t22_0 (x1:Int) (b0_0:(List ((Int×(Int×(Int×(Int×(Int×(Int×Unit))))))×((Int×(Int×Unit))×Unit)))) (b0_1:Int) (b0_2:Int) (b0_3:Int) (b0_4:Int) (b0_5:Int) (b0_6:Int) (b0_7:Int) (b0_8:Int) (b0_9:Int) (b0_10:Int) (b0_11:Int) (b0_12:Int):Tr (Out sh22_0.data shb22_0.data shr22_0.data) :=
  Tr.test ((!leF (↑(List.length b0_0):Int) x1:Bool))
    (Tr.test (decide ((0:Int) ≤ x1) && decide (x1 < (↑(List.length b0_0):Int)))
      (Tr.test (Option.isSome (f45 ((((List.getD b0_0 (Int.toNat x1) (((0:Int),(0:Int),(0:Int),(0:Int),(0:Int),(0:Int),()),((0:Int),(0:Int),()),())).1.1:Int),(((List.getD b0_0 (Int.toNat x1) (((0:Int),(0:Int),(0:Int),(0:Int),(0:Int),(0:Int),()),((0:Int),(0:Int),()),())).1.2.1:Int),(((List.getD b0_0 (Int.toNat x1) (((0:Int),(0:Int),(0:Int),(0:Int),(0:Int),(0:Int),()),((0:Int),(0:Int),()),())).1.2.2.1:Int),(((List.getD b0_0 (Int.toNat x1) (((0:Int),(0:Int),(0:Int),(0:Int),(0:Int),(0:Int),()),((0:Int),(0:Int),()),())).1.2.2.2.1:Int),(((List.getD b0_0 (Int.toNat x1) (((0:Int),(0:Int),(0:Int),(0:Int),(0:Int),(0:Int),()),((0:Int),(0:Int),()),())).1.2.2.2.2.1:Int),(((List.getD b0_0 (Int.toNat x1) (((0:Int),(0:Int),(0:Int),(0:Int),(0:Int),(0:Int),()),((0:Int),(0:Int),()),())).1.2.2.2.2.2.1:Int),())))))),((2:Int),()))))
        (let r0:Bool×PUnit:=g45 ((((List.getD b0_0 (Int.toNat x1) (((0:Int),(0:Int),(0:Int),(0:Int),(0:Int),(0:Int),()),((0:Int),(0:Int),()),())).1.1:Int),(((List.getD b0_0 (Int.toNat x1) (((0:Int),(0:Int),(0:Int),(0:Int),(0:Int),(0:Int),()),((0:Int),(0:Int),()),())).1.2.1:Int),(((List.getD b0_0 (Int.toNat x1) (((0:Int),(0:Int),(0:Int),(0:Int),(0:Int),(0:Int),()),((0:Int),(0:Int),()),())).1.2.2.1:Int),(((List.getD b0_0 (Int.toNat x1) (((0:Int),(0:Int),(0:Int),(0:Int),(0:Int),(0:Int),()),((0:Int),(0:Int),()),())).1.2.2.2.1:Int),(((List.getD b0_0 (Int.toNat x1) (((0:Int),(0:Int),(0:Int),(0:Int),(0:Int),(0:Int),()),((0:Int),(0:Int),()),())).1.2.2.2.2.1:Int),(((List.getD b0_0 (Int.toNat x1) (((0:Int),(0:Int),(0:Int),(0:Int),(0:Int),(0:Int),()),((0:Int),(0:Int),()),())).1.2.2.2.2.2.1:Int),())))))),((2:Int),()));
        Tr.test ((!r0.1:Bool))
          (Tr.fin (.ret ((x1,((2:Int),())),((b0_0,(b0_1,(b0_2,(b0_3,(b0_4,(b0_5,(b0_6,(b0_7,(b0_8,(b0_9,(b0_10,(b0_11,(b0_12,()))))))))))))),()))))
          (Tr.test (Option.isSome (f10 (((List.getD b0_0 (Int.toNat x1) (((0:Int),(0:Int),(0:Int),(0:Int),(0:Int),(0:Int),()),((0:Int),(0:Int),()),())).2.1.1:Int),((-200:Int),((200:Int),())))))
            (let r1:Bool×PUnit:=g10 (((List.getD b0_0 (Int.toNat x1) (((0:Int),(0:Int),(0:Int),(0:Int),(0:Int),(0:Int),()),((0:Int),(0:Int),()),())).2.1.1:Int),((-200:Int),((200:Int),())));
            Tr.test ((!r1.1:Bool))
              (Tr.fin (.ret ((x1,((2:Int),())),((b0_0,(b0_1,(b0_2,(b0_3,(b0_4,(b0_5,(b0_6,(b0_7,(b0_8,(b0_9,(b0_10,(b0_11,(b0_12,()))))))))))))),()))))
              (Tr.test (Option.isSome (f10 (((List.getD b0_0 (Int.toNat x1) (((0:Int),(0:Int),(0:Int),(0:Int),(0:Int),(0:Int),()),((0:Int),(0:Int),()),())).2.1.2.1:Int),((-200:Int),((200:Int),())))))
                (let r2:Bool×PUnit:=g10 (((List.getD b0_0 (Int.toNat x1) (((0:Int),(0:Int),(0:Int),(0:Int),(0:Int),(0:Int),()),((0:Int),(0:Int),()),())).2.1.2.1:Int),((-200:Int),((200:Int),())));
                Tr.test ((!r2.1:Bool))
                  (Tr.fin (.ret ((x1,((2:Int),())),((b0_0,(b0_1,(b0_2,(b0_3,(b0_4,(b0_5,(b0_6,(b0_7,(b0_8,(b0_9,(b0_10,(b0_11,(b0_12,()))))))))))))),()))))
                  (Tr.test ((!leF (List.getD b0_0 (Int.toNat x1) (((0:Int),(0:Int),(0:Int),(0:Int),(0:Int),(0:Int),()),((0:Int),(0:Int),()),())).2.1.1 (List.getD b0_0 (Int.toNat x1) (((0:Int),(0:Int),(0:Int),(0:Int),(0:Int),(0:Int),()),((0:Int),(0:Int),()),())).2.1.2.1:Bool))
                    (Tr.fin (.ret ((x1,((9:Int),())),((b0_0,(b0_1,(b0_2,(b0_3,(b0_4,(b0_5,(b0_6,(b0_7,(b0_8,(b0_9,(b0_10,(b0_11,(b0_12,()))))))))))))),()))))
                    (Tr.test (((List.getD b0_0 (Int.toNat x1) (((0:Int),(0:Int),(0:Int),(0:Int),(0:Int),(0:Int),()),((0:Int),(0:Int),()),())).1.1 == (0:Int) && ((List.getD b0_0 (Int.toNat x1) (((0:Int),(0:Int),(0:Int),(0:Int),(0:Int),(0:Int),()),((0:Int),(0:Int),()),())).1.2.1 == (0:Int) && ((List.getD b0_0 (Int.toNat x1) (((0:Int),(0:Int),(0:Int),(0:Int),(0:Int),(0:Int),()),((0:Int),(0:Int),()),())).1.2.2.1 == (0:Int) && ((List.getD b0_0 (Int.toNat x1) (((0:Int),(0:Int),(0:Int),(0:Int),(0:Int),(0:Int),()),((0:Int),(0:Int),()),())).1.2.2.2.1 == (0:Int) && ((List.getD b0_0 (Int.toNat x1) (((0:Int),(0:Int),(0:Int),(0:Int),(0:Int),(0:Int),()),((0:Int),(0:Int),()),())).1.2.2.2.2.1 == (0:Int) && ((List.getD b0_0 (Int.toNat x1) (((0:Int),(0:Int),(0:Int),(0:Int),(0:Int),(0:Int),()),((0:Int),(0:Int),()),())).1.2.2.2.2.2.1 == (0:Int) && true))))):Bool))
                      (Tr.fin (.ret ((x1,((11:Int),())),((b0_0,(b0_1,(b0_2,(b0_3,(b0_4,(b0_5,(b0_6,(b0_7,(b0_8,(b0_9,(b0_10,(b0_11,(b0_12,()))))))))))))),()))))
                      (Tr.fin (.again (((wrap64 (x1 + (1:Int)):Int),()),((b0_0,(b0_1,(b0_2,(b0_3,(b0_4,(b0_5,(b0_6,(b0_7,(b0_8,(b0_9,(b0_10,(b0_11,(b0_12,()))))))))))))),())))))))
                (Tr.stop)))
            (Tr.stop)))
        (Tr.stop))
      (Tr.stop))
    (Tr.fin (.brk ((),((b0_0,(b0_1,(b0_2,(b0_3,(b0_4,(b0_5,(b0_6,(b0_7,(b0_8,(b0_9,(b0_10,(b0_11,(b0_12,()))))))))))))),()))))

def s22_0 (d:sh22_0.data):Option (Out sh22_0.data shb22_0.data shr22_0.data):=(t22_0 d.1.1 d.2.1.1 d.2.1.2.1 d.2.1.2.2.1 d.2.1.2.2.2.1 d.2.1.2.2.2.2.1 d.2.1.2.2.2.2.2.1 d.2.1.2.2.2.2.2.2.1 d.2.1.2.2.2.2.2.2.2.1 d.2.1.2.2.2.2.2.2.2.2.1 d.2.1.2.2.2.2.2.2.2.2.2.1 d.2.1.2.2.2.2.2.2.2.2.2.2.1 d.2.1.2.2.2.2.2.2.2.2.2.2.2.1 d.2.1.2.2.2.2.2.2.2.2.2.2.2.2.1).val
def l22_0 (d:sh22_0.data):Option (shb22_0.data ⊕ shr22_0.data):=itr s22_0 rounds d
def b22_0 (d:sh22_0.data):shb22_0.data:=outB shb22_0.dflt (l22_0 d)
def r22_0 (d:sh22_0.data):shr22_0.data:=outR shr22_0.dflt (l22_0 d)
def lc22_0:LoopC:=lcOf sh22_0 shb22_0 shr22_0 l22_0 b22_0 r22_0

theorem e22_0_0 (x1:Int) (b0_0:(List ((Int×(Int×(Int×(Int×(Int×(Int×Unit))))))×((Int×(Int×Unit))×Unit)))) (b0_1:Int) (b0_2:Int) (b0_3:Int) (b0_4:Int) (b0_5:Int) (b0_6:Int) (b0_7:Int) (b0_8:Int) (b0_9:Int) (b0_10:Int) (b0_11:Int) (b0_12:Int):runBody kf46.orc Go.Proofs.Try.prog 400 22 0 sh22_0 shb22_0 shr22_0 ((x1,()),(b0_0,b0_1,b0_2,b0_3,b0_4,b0_5,b0_6,b0_7,b0_8,b0_9,b0_10,b0_11,b0_12,()),()) [tt,tt,tt,tt,tt,tt,tt,tt,tt,tt,tt,tt,tt,tt,tt,tt] =
    (let r0:Bool×PUnit:=g45 ((((List.getD b0_0 (Int.toNat x1) (((0:Int),(0:Int),(0:Int),(0:Int),(0:Int),(0:Int),()),((0:Int),(0:Int),()),())).1.1:Int),(((List.getD b0_0 (Int.toNat x1) (((0:Int),(0:Int),(0:Int),(0:Int),(0:Int),(0:Int),()),((0:Int),(0:Int),()),())).1.2.1:Int),(((List.getD b0_0 (Int.toNat x1) (((0:Int),(0:Int),(0:Int),(0:Int),(0:Int),(0:Int),()),((0:Int),(0:Int),()),())).1.2.2.1:Int),(((List.getD b0_0 (Int.toNat x1) (((0:Int),(0:Int),(0:Int),(0:Int),(0:Int),(0:Int),()),((0:Int),(0:Int),()),())).1.2.2.2.1:Int),(((List.getD b0_0 (Int.toNat x1) (((0:Int),(0:Int),(0:Int),(0:Int),(0:Int),(0:Int),()),((0:Int),(0:Int),()),())).1.2.2.2.2.1:Int),(((List.getD b0_0 (Int.toNat x1) (((0:Int),(0:Int),(0:Int),(0:Int),(0:Int),(0:Int),()),((0:Int),(0:Int),()),())).1.2.2.2.2.2.1:Int),())))))),((2:Int),())); some (.ret ((x1,((2:Int),())),((b0_0,(b0_1,(b0_2,(b0_3,(b0_4,(b0_5,(b0_6,(b0_7,(b0_8,(b0_9,(b0_10,(b0_11,(b0_12,()))))))))))))),())),[(true,true),(true,true),(true,true),(true,true),(true,true),(true,true),(true,true),(!r0.1,true),(!r0.1,true),(!r0.1,true),(!r0.1,true),(!r0.1,true),(!r0.1,true),(Option.isSome (f45 ((((List.getD b0_0 (Int.toNat x1) (((0:Int),(0:Int),(0:Int),(0:Int),(0:Int),(0:Int),()),((0:Int),(0:Int),()),())).1.1:Int),(((List.getD b0_0 (Int.toNat x1) (((0:Int),(0:Int),(0:Int),(0:Int),(0:Int),(0:Int),()),((0:Int),(0:Int),()),())).1.2.1:Int),(((List.getD b0_0 (Int.toNat x1) (((0:Int),(0:Int),(0:Int),(0:Int),(0:Int),(0:Int),()),((0:Int),(0:Int),()),())).1.2.2.1:Int),(((List.getD b0_0 (Int.toNat x1) (((0:Int),(0:Int),(0:Int),(0:Int),(0:Int),(0:Int),()),((0:Int),(0:Int),()),())).1.2.2.2.1:Int),(((List.getD b0_0 (Int.toNat x1) (((0:Int),(0:Int),(0:Int),(0:Int),(0:Int),(0:Int),()),((0:Int),(0:Int),()),())).1.2.2.2.2.1:Int),(((List.getD b0_0 (Int.toNat x1) (((0:Int),(0:Int),(0:Int),(0:Int),(0:Int),(0:Int),()),((0:Int),(0:Int),()),())).1.2.2.2.2.2.1:Int),())))))),((2:Int),()))),true),(decide ((0:Int) ≤ x1) && decide (x1 < (↑(List.length b0_0):Int)),true),(!leF (↑(List.length b0_0):Int) x1,true)])):=by kernel_rfl
theorem e22_0_1 (x1:Int) (b0_0:(List ((Int×(Int×(Int×(Int×(Int×(Int×Unit))))))×((Int×(Int×Unit))×Unit)))) (b0_1:Int) (b0_2:Int) (b0_3:Int) (b0_4:Int) (b0_5:Int) (b0_6:Int) (b0_7:Int) (b0_8:Int) (b0_9:Int) (b0_10:Int) (b0_11:Int) (b0_12:Int):runBody kf46.orc Go.Proofs.Try.prog 400 22 0 sh22_0 shb22_0 shr22_0 ((x1,()),(b0_0,b0_1,b0_2,b0_3,b0_4,b0_5,b0_6,b0_7,b0_8,b0_9,b0_10,b0_11,b0_12,()),()) [tt,tt,tt,ff,ff,ff,tt,ff,tt,ff,ff,tt,tt,tt,tt,tt,tt,tt] =
    (let r0:Bool×PUnit:=g45 ((((List.getD b0_0 (Int.toNat x1) (((0:Int),(0:Int),(0:Int),(0:Int),(0:Int),(0:Int),()),((0:Int),(0:Int),()),())).1.1:Int),(((List.getD b0_0 (Int.toNat x1) (((0:Int),(0:Int),(0:Int),(0:Int),(0:Int),(0:Int),()),((0:Int),(0:Int),()),())).1.2.1:Int),(((List.getD b0_0 (Int.toNat x1) (((0:Int),(0:Int),(0:Int),(0:Int),(0:Int),(0:Int),()),((0:Int),(0:Int),()),())).1.2.2.1:Int),(((List.getD b0_0 (Int.toNat x1) (((0:Int),(0:Int),(0:Int),(0:Int),(0:Int),(0:Int),()),((0:Int),(0:Int),()),())).1.2.2.2.1:Int),(((List.getD b0_0 (Int.toNat x1) (((0:Int),(0:Int),(0:Int),(0:Int),(0:Int),(0:Int),()),((0:Int),(0:Int),()),())).1.2.2.2.2.1:Int),(((List.getD b0_0 (Int.toNat x1) (((0:Int),(0:Int),(0:Int),(0:Int),(0:Int),(0:Int),()),((0:Int),(0:Int),()),())).1.2.2.2.2.2.1:Int),())))))),((2:Int),()));let r1:Bool×PUnit:=g10 (((List.getD b0_0 (Int.toNat x1) (((0:Int),(0:Int),(0:Int),(0:Int),(0:Int),(0:Int),()),((0:Int),(0:Int),()),())).2.1.1:Int),((-200:Int),((200:Int),()))); some (.ret ((x1,((2:Int),())),((b0_0,(b0_1,(b0_2,(b0_3,(b0_4,(b0_5,(b0_6,(b0_7,(b0_8,(b0_9,(b0_10,(b0_11,(b0_12,()))))))))))))),())),[(true,true),(!r1.1,true),(!r1.1,true),(!r1.1,true),(!r1.1,true),(!r1.1,true),(!r1.1,true),(!r0.1,false),(!r0.1,false),(Option.isSome (f10 (((List.getD b0_0 (Int.toNat x1) (((0:Int),(0:Int),(0:Int),(0:Int),(0:Int),(0:Int),()),((0:Int),(0:Int),()),())).2.1.1:Int),((-200:Int),((200:Int),())))),true),(!r0.1,false),(true,true),(!r0.1,false),(!r0.1,false),(!r0.1,false),(Option.isSome (f45 ((((List.getD b0_0 (Int.toNat x1) (((0:Int),(0:Int),(0:Int),(0:Int),(0:Int),(0:Int),()),((0:Int),(0:Int),()),())).1.1:Int),(((List.getD b0_0 (Int.toNat x1) (((0:Int),(0:Int),(0:Int),(0:Int),(0:Int),(0:Int),()),((0:Int),(0:Int),()),())).1.2.1:Int),(((List.getD b0_0 (Int.toNat x1) (((0:Int),(0:Int),(0:Int),(0:Int),(0:Int),(0:Int),()),((0:Int),(0:Int),()),())).1.2.2.1:Int),(((List.getD b0_0 (Int.toNat x1) (((0:Int),(0:Int),(0:Int),(0:Int),(0:Int),(0:Int),()),((0:Int),(0:Int),()),())).1.2.2.2.1:Int),(((List.getD b0_0 (Int.toNat x1) (((0:Int),(0:Int),(0:Int),(0:Int),(0:Int),(0:Int),()),((0:Int),(0:Int),()),())).1.2.2.2.2.1:Int),(((List.getD b0_0 (Int.toNat x1) (((0:Int),(0:Int),(0:Int),(0:Int),(0:Int),(0:Int),()),((0:Int),(0:Int),()),())).1.2.2.2.2.2.1:Int),())))))),((2:Int),()))),true),(decide ((0:Int) ≤ x1) && decide (x1 < (↑(List.length b0_0):Int)),true),(!leF (↑(List.length b0_0):Int) x1,true)])):=by kernel_rfl
theorem e22_0_2 (x1:Int) (b0_0:(List ((Int×(Int×(Int×(Int×(Int×(Int×Unit))))))×((Int×(Int×Unit))×Unit)))) (b0_1:Int) (b0_2:Int) (b0_3:Int) (b0_4:Int) (b0_5:Int) (b0_6:Int) (b0_7:Int) (b0_8:Int) (b0_9:Int) (b0_10:Int) (b0_11:Int) (b0_12:Int):runBody kf46.orc Go.Proofs.Try.prog 400 22 0 sh22_0 shb22_0 shr22_0 ((x1,()),(b0_0,b0_1,b0_2,b0_3,b0_4,b0_5,b0_6,b0_7,b0_8,b0_9,b0_10,b0_11,b0_12,()),()) [tt,tt,tt,ff,ff,ff,tt,ff,tt,ff,ff,ff,ff,ff,tt,ff,tt,ff,ff,tt] =
    (let r0:Bool×PUnit:=g45 ((((List.getD b0_0 (Int.toNat x1) (((0:Int),(0:Int),(0:Int),(0:Int),(0:Int),(0:Int),()),((0:Int),(0:Int),()),())).1.1:Int),(((List.getD b0_0 (Int.toNat x1) (((0:Int),(0:Int),(0:Int),(0:Int),(0:Int),(0:Int),()),((0:Int),(0:Int),()),())).1.2.1:Int),(((List.getD b0_0 (Int.toNat x1) (((0:Int),(0:Int),(0:Int),(0:Int),(0:Int),(0:Int),()),((0:Int),(0:Int),()),())).1.2.2.1:Int),(((List.getD b0_0 (Int.toNat x1) (((0:Int),(0:Int),(0:Int),(0:Int),(0:Int),(0:Int),()),((0:Int),(0:Int),()),())).1.2.2.2.1:Int),(((List.getD b0_0 (Int.toNat x1) (((0:Int),(0:Int),(0:Int),(0:Int),(0:Int),(0:Int),()),((0:Int),(0:Int),()),())).1.2.2.2.2.1:Int),(((List.getD b0_0 (Int.toNat x1) (((0:Int),(0:Int),(0:Int),(0:Int),(0:Int),(0:Int),()),((0:Int),(0:Int),()),())).1.2.2.2.2.2.1:Int),())))))),((2:Int),()));let r1:Bool×PUnit:=g10 (((List.getD b0_0 (Int.toNat x1) (((0:Int),(0:Int),(0:Int),(0:Int),(0:Int),(0:Int),()),((0:Int),(0:Int),()),())).2.1.1:Int),((-200:Int),((200:Int),())));let r2:Bool×PUnit:=g10 (((List.getD b0_0 (Int.toNat x1) (((0:Int),(0:Int),(0:Int),(0:Int),(0:Int),(0:Int),()),((0:Int),(0:Int),()),())).2.1.2.1:Int),((-200:Int),((200:Int),()))); some (.ret ((x1,((2:Int),())),((b0_0,(b0_1,(b0_2,(b0_3,(b0_4,(b0_5,(b0_6,(b0_7,(b0_8,(b0_9,(b0_10,(b0_11,(b0_12,()))))))))))))),())),[(!r2.1,true),(!r1.1,false),(!r1.1,false),(Option.isSome (f10 (((List.getD b0_0 (Int.toNat x1) (((0:Int),(0:Int),(0:Int),(0:Int),(0:Int),(0:Int),()),((0:Int),(0:Int),()),())).2.1.2.1:Int),((-200:Int),((200:Int),())))),true),(!r1.1,false),(true,true),(!r1.1,false),(!r1.1,false),(!r1.1,false),(!r0.1,false),(!r0.1,false),(Option.isSome (f10 (((List.getD b0_0 (Int.toNat x1) (((0:Int),(0:Int),(0:Int),(0:Int),(0:Int),(0:Int),()),((0:Int),(0:Int),()),())).2.1.1:Int),((-200:Int),((200:Int),())))),true),(!r0.1,false),(true,true),(!r0.1,false),(!r0.1,false),(!r0.1,false),(Option.isSome (f45 ((((List.getD b0_0 (Int.toNat x1) (((0:Int),(0:Int),(0:Int),(0:Int),(0:Int),(0:Int),()),((0:Int),(0:Int),()),())).1.1:Int),(((List.getD b0_0 (Int.toNat x1) (((0:Int),(0:Int),(0:Int),(0:Int),(0:Int),(0:Int),()),((0:Int),(0:Int),()),())).1.2.1:Int),(((List.getD b0_0 (Int.toNat x1) (((0:Int),(0:Int),(0:Int),(0:Int),(0:Int),(0:Int),()),((0:Int),(0:Int),()),())).1.2.2.1:Int),(((List.getD b0_0 (Int.toNat x1) (((0:Int),(0:Int),(0:Int),(0:Int),(0:Int),(0:Int),()),((0:Int),(0:Int),()),())).1.2.2.2.1:Int),(((List.getD b0_0 (Int.toNat x1) (((0:Int),(0:Int),(0:Int),(0:Int),(0:Int),(0:Int),()),((0:Int),(0:Int),()),())).1.2.2.2.2.1:Int),(((List.getD b0_0 (Int.toNat x1) (((0:Int),(0:Int),(0:Int),(0:Int),(0:Int),(0:Int),()),((0:Int),(0:Int),()),())).1.2.2.2.2.2.1:Int),())))))),((2:Int),()))),true),(decide ((0:Int) ≤ x1) && decide (x1 < (↑(List.length b0_0):Int)),true),(!leF (↑(List.length b0_0):Int) x1,true)])):=by kernel_rfl
theorem e22_0_3 (x1:Int) (b0_0:(List ((Int×(Int×(Int×(Int×(Int×(Int×Unit))))))×((Int×(Int×Unit))×Unit)))) (b0_1:Int) (b0_2:Int) (b0_3:Int) (b0_4:Int) (b0_5:Int) (b0_6:Int) (b0_7:Int) (b0_8:Int) (b0_9:Int) (b0_10:Int) (b0_11:Int) (b0_12:Int):runBody kf46.orc Go.Proofs.Try.prog 400 22 0 sh22_0 shb22_0 shr22_0 ((x1,()),(b0_0,b0_1,b0_2,b0_3,b0_4,b0_5,b0_6,b0_7,b0_8,b0_9,b0_10,b0_11,b0_12,()),()) [tt,tt,tt,ff,ff,ff,tt,ff,tt,ff,ff,ff,ff,ff,tt,ff,tt,ff,ff,ff,tt,tt,tt] =
    (let r0:Bool×PUnit:=g45 ((((List.getD b0_0 (Int.toNat x1) (((0:Int),(0:Int),(0:Int),(0:Int),(0:Int),(0:Int),()),((0:Int),(0:Int),()),())).1.1:Int),(((List.getD b0_0 (Int.toNat x1) (((0:Int),(0:Int),(0:Int),(0:Int),(0:Int),(0:Int),()),((0:Int),(0:Int),()),())).1.2.1:Int),(((List.getD b0_0 (Int.toNat x1) (((0:Int),(0:Int),(0:Int),(0:Int),(0:Int),(0:Int),()),((0:Int),(0:Int),()),())).1.2.2.1:Int),(((List.getD b0_0 (Int.toNat x1) (((0:Int),(0:Int),(0:Int),(0:Int),(0:Int),(0:Int),()),((0:Int),(0:Int),()),())).1.2.2.2.1:Int),(((List.getD b0_0 (Int.toNat x1) (((0:Int),(0:Int),(0:Int),(0:Int),(0:Int),(0:Int),()),((0:Int),(0:Int),()),())).1.2.2.2.2.1:Int),(((List.getD b0_0 (Int.toNat x1) (((0:Int),(0:Int),(0:Int),(0:Int),(0:Int),(0:Int),()),((0:Int),(0:Int),()),())).1.2.2.2.2.2.1:Int),())))))),((2:Int),()));let r1:Bool×PUnit:=g10 (((List.getD b0_0 (Int.toNat x1) (((0:Int),(0:Int),(0:Int),(0:Int),(0:Int),(0:Int),()),((0:Int),(0:Int),()),())).2.1.1:Int),((-200:Int),((200:Int),())));let r2:Bool×PUnit:=g10 (((List.getD b0_0 (Int.toNat x1) (((0:Int),(0:Int),(0:Int),(0:Int),(0:Int),(0:Int),()),((0:Int),(0:Int),()),())).2.1.2.1:Int),((-200:Int),((200:Int),()))); some (.ret ((x1,((9:Int),())),((b0_0,(b0_1,(b0_2,(b0_3,(b0_4,(b0_5,(b0_6,(b0_7,(b0_8,(b0_9,(b0_10,(b0_11,(b0_12,()))))))))))))),())),[(!leF (List.getD b0_0 (Int.toNat x1) (((0:Int),(0:Int),(0:Int),(0:Int),(0:Int),(0:Int),()),((0:Int),(0:Int),()),())).2.1.1 (List.getD b0_0 (Int.toNat x1) (((0:Int),(0:Int),(0:Int),(0:Int),(0:Int),(0:Int),()),((0:Int),(0:Int),()),())).2.1.2.1,true),(true,true),(true,true),(!r2.1,false),(!r1.1,false),(!r1.1,false),(Option.isSome (f10 (((List.getD b0_0 (Int.toNat x1) (((0:Int),(0:Int),(0:Int),(0:Int),(0:Int),(0:Int),()),((0:Int),(0:Int),()),())).2.1.2.1:Int),((-200:Int),((200:Int),())))),true),(!r1.1,false),(true,true),(!r1.1,false),(!r1.1,false),(!r1.1,false),(!r0.1,false),(!r0.1,false),(Option.isSome (f10 (((List.getD b0_0 (Int.toNat x1) (((0:Int),(0:Int),(0:Int),(0:Int),(0:Int),(0:Int),()),((0:Int),(0:Int),()),())).2.1.1:Int),((-200:Int),((200:Int),())))),true),(!r0.1,false),(true,true),(!r0.1,false),(!r0.1,false),(!r0.1,false),(Option.isSome (f45 ((((List.getD b0_0 (Int.toNat x1) (((0:Int),(0:Int),(0:Int),(0:Int),(0:Int),(0:Int),()),((0:Int),(0:Int),()),())).1.1:Int),(((List.getD b0_0 (Int.toNat x1) (((0:Int),(0:Int),(0:Int),(0:Int),(0:Int),(0:Int),()),((0:Int),(0:Int),()),())).1.2.1:Int),(((List.getD b0_0 (Int.toNat x1) (((0:Int),(0:Int),(0:Int),(0:Int),(0:Int),(0:Int),()),((0:Int),(0:Int),()),())).1.2.2.1:Int),(((List.getD b0_0 (Int.toNat x1) (((0:Int),(0:Int),(0:Int),(0:Int),(0:Int),(0:Int),()),((0:Int),(0:Int),()),())).1.2.2.2.1:Int),(((List.getD b0_0 (Int.toNat x1) (((0:Int),(0:Int),(0:Int),(0:Int),(0:Int),(0:Int),()),((0:Int),(0:Int),()),())).1.2.2.2.2.1:Int),(((List.getD b0_0 (Int.toNat x1) (((0:Int),(0:Int),(0:Int),(0:Int),(0:Int),(0:Int),()),((0:Int),(0:Int),()),())).1.2.2.2.2.2.1:Int),())))))),((2:Int),()))),true),(decide ((0:Int) ≤ x1) && decide (x1 < (↑(List.length b0_0):Int)),true),(!leF (↑(List.length b0_0):Int) x1,true)])):=by kernel_rfl
theorem e22_0_4 (x1:Int) (b0_0:(List ((Int×(Int×(Int×(Int×(Int×(Int×Unit))))))×((Int×(Int×Unit))×Unit)))) (b0_1:Int) (b0_2:Int) (b0_3:Int) (b0_4:Int) (b0_5:Int) (b0_6:Int) (b0_7:Int) (b0_8:Int) (b0_9:Int) (b0_10:Int) (b0_11:Int) (b0_12:Int):runBody kf46.orc Go.Proofs.Try.prog 400 22 0 sh22_0 shb22_0 shr22_0 ((x1,()),(b0_0,b0_1,b0_2,b0_3,b0_4,b0_5,b0_6,b0_7,b0_8,b0_9,b0_10,b0_11,b0_12,()),()) [tt,tt,tt,ff,ff,ff,tt,ff,tt,ff,ff,ff,ff,ff,tt,ff,tt,ff,ff,ff,tt,tt,ff,tt] =
    (let r0:Bool×PUnit:=g45 ((((List.getD b0_0 (Int.toNat x1) (((0:Int),(0:Int),(0:Int),(0:Int),(0:Int),(0:Int),()),((0:Int),(0:Int),()),())).1.1:Int),(((List.getD b0_0 (Int.toNat x1) (((0:Int),(0:Int),(0:Int),(0:Int),(0:Int),(0:Int),()),((0:Int),(0:Int),()),())).1.2.1:Int),(((List.getD b0_0 (Int.toNat x1) (((0:Int),(0:Int),(0:Int),(0:Int),(0:Int),(0:Int),()),((0:Int),(0:Int),()),())).1.2.2.1:Int),(((List.getD b0_0 (Int.toNat x1) (((0:Int),(0:Int),(0:Int),(0:Int),(0:Int),(0:Int),()),((0:Int),(0:Int),()),())).1.2.2.2.1:Int),(((List.getD b0_0 (Int.toNat x1) (((0:Int),(0:Int),(0:Int),(0:Int),(0:Int),(0:Int),()),((0:Int),(0:Int),()),())).1.2.2.2.2.1:Int),(((List.getD b0_0 (Int.toNat x1) (((0:Int),(0:Int),(0:Int),(0:Int),(0:Int),(0:Int),()),((0:Int),(0:Int),()),())).1.2.2.2.2.2.1:Int),())))))),((2:Int),()));let r1:Bool×PUnit:=g10 (((List.getD b0_0 (Int.toNat x1) (((0:Int),(0:Int),(0:Int),(0:Int),(0:Int),(0:Int),()),((0:Int),(0:Int),()),())).2.1.1:Int),((-200:Int),((200:Int),())));let r2:Bool×PUnit:=g10 (((List.getD b0_0 (Int.toNat x1) (((0:Int),(0:Int),(0:Int),(0:Int),(0:Int),(0:Int),()),((0:Int),(0:Int),()),())).2.1.2.1:Int),((-200:Int),((200:Int),()))); some (.ret ((x1,((11:Int),())),((b0_0,(b0_1,(b0_2,(b0_3,(b0_4,(b0_5,(b0_6,(b0_7,(b0_8,(b0_9,(b0_10,(b0_11,(b0_12,()))))))))))))),())),[((List.getD b0_0 (Int.toNat x1) (((0:Int),(0:Int),(0:Int),(0:Int),(0:Int),(0:Int),()),((0:Int),(0:Int),()),())).1.1 == (0:Int) && ((List.getD b0_0 (Int.toNat x1) (((0:Int),(0:Int),(0:Int),(0:Int),(0:Int),(0:Int),()),((0:Int),(0:Int),()),())).1.2.1 == (0:Int) && ((List.getD b0_0 (Int.toNat x1) (((0:Int),(0:Int),(0:Int),(0:Int),(0:Int),(0:Int),()),((0:Int),(0:Int),()),())).1.2.2.1 == (0:Int) && ((List.getD b0_0 (Int.toNat x1) (((0:Int),(0:Int),(0:Int),(0:Int),(0:Int),(0:Int),()),((0:Int),(0:Int),()),())).1.2.2.2.1 == (0:Int) && ((List.getD b0_0 (Int.toNat x1) (((0:Int),(0:Int),(0:Int),(0:Int),(0:Int),(0:Int),()),((0:Int),(0:Int),()),())).1.2.2.2.2.1 == (0:Int) && ((List.getD b0_0 (Int.toNat x1) (((0:Int),(0:Int),(0:Int),(0:Int),(0:Int),(0:Int),()),((0:Int),(0:Int),()),())).1.2.2.2.2.2.1 == (0:Int) && true))))),true),(!leF (List.getD b0_0 (Int.toNat x1) (((0:Int),(0:Int),(0:Int),(0:Int),(0:Int),(0:Int),()),((0:Int),(0:Int),()),())).2.1.1 (List.getD b0_0 (Int.toNat x1) (((0:Int),(0:Int),(0:Int),(0:Int),(0:Int),(0:Int),()),((0:Int),(0:Int),()),())).2.1.2.1,false),(true,true),(true,true),(!r2.1,false),(!r1.1,false),(!r1.1,false),(Option.isSome (f10 (((List.getD b0_0 (Int.toNat x1) (((0:Int),(0:Int),(0:Int),(0:Int),(0:Int),(0:Int),()),((0:Int),(0:Int),()),())).2.1.2.1:Int),((-200:Int),((200:Int),())))),true),(!r1.1,false),(true,true),(!r1.1,false),(!r1.1,false),(!r1.1,false),(!r0.1,false),(!r0.1,false),(Option.isSome (f10 (((List.getD b0_0 (Int.toNat x1) (((0:Int),(0:Int),(0:Int),(0:Int),(0:Int),(0:Int),()),((0:Int),(0:Int),()),())).2.1.1:Int),((-200:Int),((200:Int),())))),true),(!r0.1,false),(true,true),(!r0.1,false),(!r0.1,false),(!r0.1,false),(Option.isSome (f45 ((((List.getD b0_0 (Int.toNat x1) (((0:Int),(0:Int),(0:Int),(0:Int),(0:Int),(0:Int),()),((0:Int),(0:Int),()),())).1.1:Int),(((List.getD b0_0 (Int.toNat x1) (((0:Int),(0:Int),(0:Int),(0:Int),(0:Int),(0:Int),()),((0:Int),(0:Int),()),())).1.2.1:Int),(((List.getD b0_0 (Int.toNat x1) (((0:Int),(0:Int),(0:Int),(0:Int),(0:Int),(0:Int),()),((0:Int),(0:Int),()),())).1.2.2.1:Int),(((List.getD b0_0 (Int.toNat x1) (((0:Int),(0:Int),(0:Int),(0:Int),(0:Int),(0:Int),()),((0:Int),(0:Int),()),())).1.2.2.2.1:Int),(((List.getD b0_0 (Int.toNat x1) (((0:Int),(0:Int),(0:Int),(0:Int),(0:Int),(0:Int),()),((0:Int),(0:Int),()),())).1.2.2.2.2.1:Int),(((List.getD b0_0 (Int.toNat x1) (((0:Int),(0:Int),(0:Int),(0:Int),(0:Int),(0:Int),()),((0:Int),(0:Int),()),())).1.2.2.2.2.2.1:Int),())))))),((2:Int),()))),true),(decide ((0:Int) ≤ x1) && decide (x1 < (↑(List.length b0_0):Int)),true),(!leF (↑(List.length b0_0):Int) x1,true)])):=by kernel_rfl
theorem e22_0_5 (x1:Int) (b0_0:(List ((Int×(Int×(Int×(Int×(Int×(Int×Unit))))))×((Int×(Int×Unit))×Unit)))) (b0_1:Int) (b0_2:Int) (b0_3:Int) (b0_4:Int) (b0_5:Int) (b0_6:Int) (b0_7:Int) (b0_8:Int) (b0_9:Int) (b0_10:Int) (b0_11:Int) (b0_12:Int):runBody kf46.orc Go.Proofs.Try.prog 400 22 0 sh22_0 shb22_0 shr22_0 ((x1,()),(b0_0,b0_1,b0_2,b0_3,b0_4,b0_5,b0_6,b0_7,b0_8,b0_9,b0_10,b0_11,b0_12,()),()) [tt,tt,tt,ff,ff,ff,tt,ff,tt,ff,ff,ff,ff,ff,tt,ff,tt,ff,ff,ff,tt,tt,ff,ff] =
    (let r0:Bool×PUnit:=g45 ((((List.getD b0_0 (Int.toNat x1) (((0:Int),(0:Int),(0:Int),(0:Int),(0:Int),(0:Int),()),((0:Int),(0:Int),()),())).1.1:Int),(((List.getD b0_0 (Int.toNat x1) (((0:Int),(0:Int),(0:Int),(0:Int),(0:Int),(0:Int),()),((0:Int),(0:Int),()),())).1.2.1:Int),(((List.getD b0_0 (Int.toNat x1) (((0:Int),(0:Int),(0:Int),(0:Int),(0:Int),(0:Int),()),((0:Int),(0:Int),()),())).1.2.2.1:Int),(((List.getD b0_0 (Int.toNat x1) (((0:Int),(0:Int),(0:Int),(0:Int),(0:Int),(0:Int),()),((0:Int),(0:Int),()),())).1.2.2.2.1:Int),(((List.getD b0_0 (Int.toNat x1) (((0:Int),(0:Int),(0:Int),(0:Int),(0:Int),(0:Int),()),((0:Int),(0:Int),()),())).1.2.2.2.2.1:Int),(((List.getD b0_0 (Int.toNat x1) (((0:Int),(0:Int),(0:Int),(0:Int),(0:Int),(0:Int),()),((0:Int),(0:Int),()),())).1.2.2.2.2.2.1:Int),())))))),((2:Int),()));let r1:Bool×PUnit:=g10 (((List.getD b0_0 (Int.toNat x1) (((0:Int),(0:Int),(0:Int),(0:Int),(0:Int),(0:Int),()),((0:Int),(0:Int),()),())).2.1.1:Int),((-200:Int),((200:Int),())));let r2:Bool×PUnit:=g10 (((List.getD b0_0 (Int.toNat x1) (((0:Int),(0:Int),(0:Int),(0:Int),(0:Int),(0:Int),()),((0:Int),(0:Int),()),())).2.1.2.1:Int),((-200:Int),((200:Int),()))); some (.again (((wrap64 (x1 + (1:Int)):Int),()),((b0_0,(b0_1,(b0_2,(b0_3,(b0_4,(b0_5,(b0_6,(b0_7,(b0_8,(b0_9,(b0_10,(b0_11,(b0_12,()))))))))))))),())),[((List.getD b0_0 (Int.toNat x1) (((0:Int),(0:Int),(0:Int),(0:Int),(0:Int),(0:Int),()),((0:Int),(0:Int),()),())).1.1 == (0:Int) && ((List.getD b0_0 (Int.toNat x1) (((0:Int),(0:Int),(0:Int),(0:Int),(0:Int),(0:Int),()),((0:Int),(0:Int),()),())).1.2.1 == (0:Int) && ((List.getD b0_0 (Int.toNat x1) (((0:Int),(0:Int),(0:Int),(0:Int),(0:Int),(0:Int),()),((0:Int),(0:Int),()),())).1.2.2.1 == (0:Int) && ((List.getD b0_0 (Int.toNat x1) (((0:Int),(0:Int),(0:Int),(0:Int),(0:Int),(0:Int),()),((0:Int),(0:Int),()),())).1.2.2.2.1 == (0:Int) && ((List.getD b0_0 (Int.toNat x1) (((0:Int),(0:Int),(0:Int),(0:Int),(0:Int),(0:Int),()),((0:Int),(0:Int),()),())).1.2.2.2.2.1 == (0:Int) && ((List.getD b0_0 (Int.toNat x1) (((0:Int),(0:Int),(0:Int),(0:Int),(0:Int),(0:Int),()),((0:Int),(0:Int),()),())).1.2.2.2.2.2.1 == (0:Int) && true))))),false),(!leF (List.getD b0_0 (Int.toNat x1) (((0:Int),(0:Int),(0:Int),(0:Int),(0:Int),(0:Int),()),((0:Int),(0:Int),()),())).2.1.1 (List.getD b0_0 (Int.toNat x1) (((0:Int),(0:Int),(0:Int),(0:Int),(0:Int),(0:Int),()),((0:Int),(0:Int),()),())).2.1.2.1,false),(true,true),(true,true),(!r2.1,false),(!r1.1,false),(!r1.1,false),(Option.isSome (f10 (((List.getD b0_0 (Int.toNat x1) (((0:Int),(0:Int),(0:Int),(0:Int),(0:Int),(0:Int),()),((0:Int),(0:Int),()),())).2.1.2.1:Int),((-200:Int),((200:Int),())))),true),(!r1.1,false),(true,true),(!r1.1,false),(!r1.1,false),(!r1.1,false),(!r0.1,false),(!r0.1,false),(Option.isSome (f10 (((List.getD b0_0 (Int.toNat x1) (((0:Int),(0:Int),(0:Int),(0:Int),(0:Int),(0:Int),()),((0:Int),(0:Int),()),())).2.1.1:Int),((-200:Int),((200:Int),())))),true),(!r0.1,false),(true,true),(!r0.1,false),(!r0.1,false),(!r0.1,false),(Option.isSome (f45 ((((List.getD b0_0 (Int.toNat x1) (((0:Int),(0:Int),(0:Int),(0:Int),(0:Int),(0:Int),()),((0:Int),(0:Int),()),())).1.1:Int),(((List.getD b0_0 (Int.toNat x1) (((0:Int),(0:Int),(0:Int),(0:Int),(0:Int),(0:Int),()),((0:Int),(0:Int),()),())).1.2.1:Int),(((List.getD b0_0 (Int.toNat x1) (((0:Int),(0:Int),(0:Int),(0:Int),(0:Int),(0:Int),()),((0:Int),(0:Int),()),())).1.2.2.1:Int),(((List.getD b0_0 (Int.toNat x1) (((0:Int),(0:Int),(0:Int),(0:Int),(0:Int),(0:Int),()),((0:Int),(0:Int),()),())).1.2.2.2.1:Int),(((List.getD b0_0 (Int.toNat x1) (((0:Int),(0:Int),(0:Int),(0:Int),(0:Int),(0:Int),()),((0:Int),(0:Int),()),())).1.2.2.2.2.1:Int),(((List.getD b0_0 (Int.toNat x1) (((0:Int),(0:Int),(0:Int),(0:Int),(0:Int),(0:Int),()),((0:Int),(0:Int),()),())).1.2.2.2.2.2.1:Int),())))))),((2:Int),()))),true),(decide ((0:Int) ≤ x1) && decide (x1 < (↑(List.length b0_0):Int)),true),(!leF (↑(List.length b0_0):Int) x1,true)])):=by kernel_rfl
theorem e22_0_7 (x1:Int) (b0_0:(List ((Int×(Int×(Int×(Int×(Int×(Int×Unit))))))×((Int×(Int×Unit))×Unit)))) (b0_1:Int) (b0_2:Int) (b0_3:Int) (b0_4:Int) (b0_5:Int) (b0_6:Int) (b0_7:Int) (b0_8:Int) (b0_9:Int) (b0_10:Int) (b0_11:Int) (b0_12:Int):runBody kf46.orc Go.Proofs.Try.prog 400 22 0 sh22_0 shb22_0 shr22_0 ((x1,()),(b0_0,b0_1,b0_2,b0_3,b0_4,b0_5,b0_6,b0_7,b0_8,b0_9,b0_10,b0_11,b0_12,()),()) [ff] =
    (some (.brk ((),((b0_0,(b0_1,(b0_2,(b0_3,(b0_4,(b0_5,(b0_6,(b0_7,(b0_8,(b0_9,(b0_10,(b0_11,(b0_12,()))))))))))))),())),[(!leF (↑(List.length b0_0):Int) x1,false)])):=by kernel_rfl

theorem ok22_0_t (x1:Int) (b0_0:(List ((Int×(Int×(Int×(Int×(Int×(Int×Unit))))))×((Int×(Int×Unit))×Unit)))) (b0_1:Int) (b0_2:Int) (b0_3:Int) (b0_4:Int) (b0_5:Int) (b0_6:Int) (b0_7:Int) (b0_8:Int) (b0_9:Int) (b0_10:Int) (b0_11:Int) (b0_12:Int):TrOk (BodyRuns Go.Proofs.Try.prog kf46.orc 22 0 sh22_0 shb22_0 shr22_0 ((x1,()),(b0_0,b0_1,b0_2,b0_3,b0_4,b0_5,b0_6,b0_7,b0_8,b0_9,b0_10,b0_11,b0_12,()),())) (t22_0 x1 b0_0 b0_1 b0_2 b0_3 b0_4 b0_5 b0_6 b0_7 b0_8 b0_9 b0_10 b0_11 b0_12) :=
  TrOk.ofTest (fun h0=>TrOk.ofTest (fun h1=>TrOk.ofTest (fun h2=>TrOk.ofTest (fun h3=>TrOk.ofFin (BodyRuns.of (e22_0_0 x1 b0_0 b0_1 b0_2 b0_3 b0_4 b0_5 b0_6 b0_7 b0_8 b0_9 b0_10 b0_11 b0_12) (ac rfl (ac rfl (ac rfl (ac rfl (ac rfl (ac rfl (ac rfl (ac (nn h3) (ac (nn h3) (ac (nn h3) (ac (nn h3) (ac (nn h3) (ac h3 (ac h2 (ac h1 (ac h0 All.nil)))))))))))))))))) (fun h3=>TrOk.ofTest (fun h8=>TrOk.ofTest (fun h11=>TrOk.ofFin (BodyRuns.of (e22_0_1 x1 b0_0 b0_1 b0_2 b0_3 b0_4 b0_5 b0_6 b0_7 b0_8 b0_9 b0_10 b0_11 b0_12) (ac rfl (ac (nn h11) (ac (nn h11) (ac (nn h11) (ac (nn h11) (ac (nn h11) (ac h11 (ac (nn h3) (ac (nn h3) (ac h8 (ac (nn h3) (ac rfl (ac (nn h3) (ac (nn h3) (ac h3 (ac h2 (ac h1 (ac h0 All.nil)))))))))))))))))))) (fun h11=>TrOk.ofTest (fun h16=>TrOk.ofTest (fun h19=>TrOk.ofFin (BodyRuns.of (e22_0_2 x1 b0_0 b0_1 b0_2 b0_3 b0_4 b0_5 b0_6 b0_7 b0_8 b0_9 b0_10 b0_11 b0_12) (ac h19 (ac (nn h11) (ac (nn h11) (ac h16 (ac (nn h11) (ac rfl (ac (nn h11) (ac (nn h11) (ac h11 (ac (nn h3) (ac (nn h3) (ac h8 (ac (nn h3) (ac rfl (ac (nn h3) (ac (nn h3) (ac h3 (ac h2 (ac h1 (ac h0 All.nil)))))))))))))))))))))) (fun h19=>TrOk.ofTest (fun h22=>TrOk.ofFin (BodyRuns.of (e22_0_3 x1 b0_0 b0_1 b0_2 b0_3 b0_4 b0_5 b0_6 b0_7 b0_8 b0_9 b0_10 b0_11 b0_12) (ac h22 (ac rfl (ac rfl (ac h19 (ac (nn h11) (ac (nn h11) (ac h16 (ac (nn h11) (ac rfl (ac (nn h11) (ac (nn h11) (ac h11 (ac (nn h3) (ac (nn h3) (ac h8 (ac (nn h3) (ac rfl (ac (nn h3) (ac (nn h3) (ac h3 (ac h2 (ac h1 (ac h0 All.nil))))))))))))))))))))))))) (fun h22=>TrOk.ofTest (fun h23=>TrOk.ofFin (BodyRuns.of (e22_0_4 x1 b0_0 b0_1 b0_2 b0_3 b0_4 b0_5 b0_6 b0_7 b0_8 b0_9 b0_10 b0_11 b0_12) (ac h23 (ac h22 (ac rfl (ac rfl (ac h19 (ac (nn h11) (ac (nn h11) (ac h16 (ac (nn h11) (ac rfl (ac (nn h11) (ac (nn h11) (ac h11 (ac (nn h3) (ac (nn h3) (ac h8 (ac (nn h3) (ac rfl (ac (nn h3) (ac (nn h3) (ac h3 (ac h2 (ac h1 (ac h0 All.nil)))))))))))))))))))))))))) (fun h23=>TrOk.ofFin (BodyRuns.of (e22_0_5 x1 b0_0 b0_1 b0_2 b0_3 b0_4 b0_5 b0_6 b0_7 b0_8 b0_9 b0_10 b0_11 b0_12) (ac h23 (ac h22 (ac rfl (ac rfl (ac h19 (ac (nn h11) (ac (nn h11) (ac h16 (ac (nn h11) (ac rfl (ac (nn h11) (ac (nn h11) (ac h11 (ac (nn h3) (ac (nn h3) (ac h8 (ac (nn h3) (ac rfl (ac (nn h3) (ac (nn h3) (ac h3 (ac h2 (ac h1 (ac h0 All.nil))))))))))))))))))))))))))))) (fun h16=>TrOk.ofStop))) (fun h8=>TrOk.ofStop))) (fun h2=>TrOk.ofStop)) (fun h1=>TrOk.ofStop)) (fun h0=>TrOk.ofFin (BodyRuns.of (e22_0_7 x1 b0_0 b0_1 b0_2 b0_3 b0_4 b0_5 b0_6 b0_7 b0_8 b0_9 b0_10 b0_11 b0_12) (ac h0 All.nil)))

theorem ok22_0:LoopOk Go.Proofs.Try.prog 22 0 lc22_0:=loopOk_of kf46_ok.base (T:=fun (d:sh22_0.data)=>t22_0 d.1.1 d.2.1.1 d.2.1.2.1 d.2.1.2.2.1 d.2.1.2.2.2.1 d.2.1.2.2.2.2.1 d.2.1.2.2.2.2.2.1 d.2.1.2.2.2.2.2.2.1 d.2.1.2.2.2.2.2.2.2.1 d.2.1.2.2.2.2.2.2.2.2.1 d.2.1.2.2.2.2.2.2.2.2.2.1 d.2.1.2.2.2.2.2.2.2.2.2.2.1 d.2.1.2.2.2.2.2.2.2.2.2.2.2.1 d.2.1.2.2.2.2.2.2.2.2.2.2.2.2.1) (by kernel_rfl) rfl (fun (d:sh22_0.data)=>ok22_0_t d.1.1 d.2.1.1 d.2.1.2.1 d.2.1.2.2.1 d.2.1.2.2.2.1 d.2.1.2.2.2.2.1 d.2.1.2.2.2.2.2.1 d.2.1.2.2.2.2.2.2.1 d.2.1.2.2.2.2.2.2.2.1 d.2.1.2.2.2.2.2.2.2.2.1 d.2.1.2.2.2.2.2.2.2.2.2.1 d.2.1.2.2.2.2.2.2.2.2.2.2.1 d.2.1.2.2.2.2.2.2.2.2.2.2.2.1 d.2.1.2.2.2.2.2.2.2.2.2.2.2.2.1) (fun _=>rfl)
def kl22_0:Known:=kf46.loop 22 0 lc22_0
theorem kl22_0_ok:KnownOk Go.Proofs.Try.prog kl22_0:=kf46_ok.loop ok22_0

/-! ductility/ductilityref01.CheckRig -/

abbrev as22:List Ty:=[(.pair (.slice (.pair (.pair (.int .i64) (.pair (.int .i64) (.pair (.int .i64) (.pair (.int .i64) (.pair (.int .i64) (.pair (.int .i64) .unit)))))) (.pair (.pair (.int .i64) (.pair (.int .i64) .unit)) .unit))) (.pair (.pair (.pair (.int .i64) (.pair (.int .i64) .unit)) (.pair (.pair (.int .i64) (.pair (.int .i64) .unit)) (.pair (.pair (.int .i64) (.pair (.int .i64) .unit)) (.pair (.pair (.int .i64) (.pair (.int .i64) .unit)) (.pair (.pair (.int .i64) (.pair (.int .i64) .unit)) (.pair (.pair (.int .i64) (.pair (.int .i64) .unit)) .unit)))))) .unit))]
abbrev rs22:List Ty:=[(.int .i64),(.int .i64)]

def t22 (x0:(List ((Int×(Int×(Int×(Int×(Int×(Int×Unit))))))×((Int×(Int×Unit))×Unit)))) (x0'__:Int) (x0'__':Int) (x0'_'_:Int) (x0'_'_':Int) (x0'_''_:Int) (x0'_''_':Int) (x0'_'''_:Int) (x0'_'''_':Int) (x0'_''''_:Int) (x0'_''''_':Int) (x0'_'''''_:Int) (x0'_'''''_':Int):Tr (Tys.data rs22) :=
  Tr.test ((eqF (↑(List.length x0):Int) (0:Int):Bool))
    (Tr.fin (((0:Int),((10:Int),()))))
    (Tr.test (!leF (↑(List.length x0):Int) (8:Int))
      (Tr.fin (((0:Int),((8:Int),()))))
      (Tr.test (Option.isSome (l22_0 (((0:Int),()),((x0,(x0'__,(x0'__',(x0'_'_,(x0'_'_',(x0'_''_,(x0'_''_',(x0'_'''_,(x0'_'''_',(x0'_''''_,(x0'_''''_',(x0'_'''''_,(x0'_'''''_',()))))))))))))),()))))
        (Tr.test (isRet (l22_0 (((0:Int),()),((x0,(x0'__,(x0'__',(x0'_'_,(x0'_'_',(x0'_''_,(x0'_''_',(x0'_'''_,(x0'_'''_',(x0'_''''_,(x0'_''''_',(x0'_'''''_,(x0'_'''''_',()))))))))))))),()))))
          (let r0:(Int×Int×PUnit)×(List ((Int×Int×Int×Int×Int×Int×PUnit)×(Int×Int×PUnit)×PUnit)×Int×Int×Int×Int×Int×Int×Int×Int×Int×Int×Int×Int×PUnit)×PUnit:=r22_0 (((0:Int),()),((x0,(x0'__,(x0'__',(x0'_'_,(x0'_'_',(x0'_''_,(x0'_''_',(x0'_'''_,(x0'_'''_',(x0'_''''_,(x0'_''''_',(x0'_'''''_,(x0'_'''''_',()))))))))))))),()));
          Tr.fin ((r0.1.1,(r0.1.2.1,()))))
          (let r1:PUnit×(List ((Int×Int×Int×Int×Int×Int×PUnit)×(Int×Int×PUnit)×PUnit)×Int×Int×Int×Int×Int×Int×Int×Int×Int×Int×Int×Int×PUnit)×PUnit:=b22_0 (((0:Int),()),((x0,(x0'__,(x0'__',(x0'_'_,(x0'_'_',(x0'_''_,(x0'_''_',(x0'_'''_,(x0'_'''_',(x0'_''''_,(x0'_''''_',(x0'_'''''_,(x0'_'''''_',()))))))))))))),()));
          Tr.test (Option.isSome (f46 ((r1.2.1.2.1,(r1.2.1.2.2.1,())),())))
            (let r2:Int×PUnit:=g46 ((r1.2.1.2.1,(r1.2.1.2.2.1,())),());
            Tr.test ((!eqF r2.1 0:Bool))
              (Tr.fin (((0:Int),(r2.1,()))))
              (Tr.test (Option.isSome (f46 ((r1.2.1.2.2.2.1,(r1.2.1.2.2.2.2.1,())),())))
                (let r3:Int×PUnit:=g46 ((r1.2.1.2.2.2.1,(r1.2.1.2.2.2.2.1,())),());
                Tr.test ((!eqF r3.1 0:Bool))
                  (Tr.fin (((1:Int),(r3.1,()))))
                  (Tr.test (Option.isSome (f46 ((r1.2.1.2.2.2.2.2.1,(r1.2.1.2.2.2.2.2.2.1,())),())))
                    (let r4:Int×PUnit:=g46 ((r1.2.1.2.2.2.2.2.1,(r1.2.1.2.2.2.2.2.2.1,())),());
                    Tr.test ((!eqF r4.1 0:Bool))
                      (Tr.fin (((2:Int),(r4.1,()))))
                      (Tr.test (Option.isSome (f46 ((r1.2.1.2.2.2.2.2.2.2.1,(r1.2.1.2.2.2.2.2.2.2.2.1,())),())))
                        (let r5:Int×PUnit:=g46 ((r1.2.1.2.2.2.2.2.2.2.1,(r1.2.1.2.2.2.2.2.2.2.2.1,())),());
                        Tr.test ((!eqF r5.1 0:Bool))
                          (Tr.fin (((3:Int),(r5.1,()))))
                          (Tr.test (Option.isSome (f46 ((r1.2.1.2.2.2.2.2.2.2.2.2.1,(r1.2.1.2.2.2.2.2.2.2.2.2.2.1,())),())))
                            (let r6:Int×PUnit:=g46 ((r1.2.1.2.2.2.2.2.2.2.2.2.1,(r1.2.1.2.2.2.2.2.2.2.2.2.2.1,())),());
                            Tr.test ((!eqF r6.1 0:Bool))
                              (Tr.fin (((4:Int),(r6.1,()))))
                              (Tr.test (Option.isSome (f46 ((r1.2.1.2.2.2.2.2.2.2.2.2.2.2.1,(r1.2.1.2.2.2.2.2.2.2.2.2.2.2.2.1,())),())))
                                (let r7:Int×PUnit:=g46 ((r1.2.1.2.2.2.2.2.2.2.2.2.2.2.1,(r1.2.1.2.2.2.2.2.2.2.2.2.2.2.2.1,())),());
                                Tr.test ((!eqF r7.1 0:Bool))
                                  (Tr.fin (((5:Int),(r7.1,()))))
                                  (Tr.fin (((0:Int),((0:Int),())))))
                                (Tr.stop)))
                            (Tr.stop)))
                        (Tr.stop)))
                    (Tr.stop)))
                (Tr.stop)))
            (Tr.stop)))
        (Tr.stop)))

def f22 (d:Tys.data as22):Option (Tys.data rs22):=(t22 d.1.1 d.1.2.1.1.1 d.1.2.1.1.2.1 d.1.2.1.2.1.1 d.1.2.1.2.1.2.1 d.1.2.1.2.2.1.1 d.1.2.1.2.2.1.2.1 d.1.2.1.2.2.2.1.1 d.1.2.1.2.2.2.1.2.1 d.1.2.1.2.2.2.2.1.1 d.1.2.1.2.2.2.2.1.2.1 d.1.2.1.2.2.2.2.2.1.1 d.1.2.1.2.2.2.2.2.1.2.1).val
def g22 (d:Tys.data as22):Tys.data rs22:=(f22 d).getD (Tys.dflt rs22)
def p22:PureC:=pcOf as22 rs22 f22 g22

theorem e22_0 (x0:(List ((Int×(Int×(Int×(Int×(Int×(Int×Unit))))))×((Int×(Int×Unit))×Unit)))) (x0'__:Int) (x0'__':Int) (x0'_'_:Int) (x0'_'_':Int) (x0'_''_:Int) (x0'_''_':Int) (x0'_'''_:Int) (x0'_'''_':Int) (x0'_''''_:Int) (x0'_''''_':Int) (x0'_'''''_:Int) (x0'_'''''_':Int):runPure kl22_0.orc Go.Proofs.Try.prog 400 22 as22 rs22 ((x0,((x0'__,x0'__',()),(x0'_'_,x0'_'_',()),(x0'_''_,x0'_''_',()),(x0'_'''_,x0'_'''_',()),(x0'_''''_,x0'_''''_',()),(x0'_'''''_,x0'_'''''_',()),()),()),()) [tt] =
    (some (((0:Int),((10:Int),())),[(eqF (↑(List.length x0):Int) (0:Int),true)])):=by kernel_rfl
theorem e22_1 (x0:(List ((Int×(Int×(Int×(Int×(Int×(Int×Unit))))))×((Int×(Int×Unit))×Unit)))) (x0'__:Int) (x0'__':Int) (x0'_'_:Int) (x0'_'_':Int) (x0'_''_:Int) (x0'_''_':Int) (x0'_'''_:Int) (x0'_'''_':Int) (x0'_''''_:Int) (x0'_''''_':Int) (x0'_'''''_:Int) (x0'_'''''_':Int):runPure kl22_0.orc Go.Proofs.Try.prog 400 22 as22 rs22 ((x0,((x0'__,x0'__',()),(x0'_'_,x0'_'_',()),(x0'_''_,x0'_''_',()),(x0'_'''_,x0'_'''_',()),(x0'_''''_,x0'_''''_',()),(x0'_'''''_,x0'_'''''_',()),()),()),()) [ff,tt] =
    (some (((0:Int),((8:Int),())),[(!leF (↑(List.length x0):Int) (8:Int),true),(eqF (↑(List.length x0):Int) (0:Int),false)])):=by kernel_rfl
theorem e22_2 (x0:(List ((Int×(Int×(Int×(Int×(Int×(Int×Unit))))))×((Int×(Int×Unit))×Unit)))) (x0'__:Int) (x0'__':Int) (x0'_'_:Int) (x0'_'_':Int) (x0'_''_:Int) (x0'_''_':Int) (x0'_'''_:Int) (x0'_'''_':Int) (x0'_''''_:Int) (x0'_''''_':Int) (x0'_'''''_:Int) (x0'_'''''_':Int):runPure kl22_0.orc Go.Proofs.Try.prog 400 22 as22 rs22 ((x0,((x0'__,x0'__',()),(x0'_'_,x0'_'_',()),(x0'_''_,x0'_''_',()),(x0'_'''_,x0'_'''_',()),(x0'_''''_,x0'_''''_',()),(x0'_'''''_,x0'_'''''_',()),()),()),()) [ff,ff,tt,tt] =
    (let r0:(Int×Int×PUnit)×(List ((Int×Int×Int×Int×Int×Int×PUnit)×(Int×Int×PUnit)×PUnit)×Int×Int×Int×Int×Int×Int×Int×Int×Int×Int×Int×Int×PUnit)×PUnit:=r22_0 (((0:Int),()),((x0,(x0'__,(x0'__',(x0'_'_,(x0'_'_',(x0'_''_,(x0'_''_',(x0'_'''_,(x0'_'''_',(x0'_''''_,(x0'_''''_',(x0'_'''''_,(x0'_'''''_',()))))))))))))),())); some ((r0.1.1,(r0.1.2.1,())),[(isRet (l22_0 (((0:Int),()),((x0,(x0'__,(x0'__',(x0'_'_,(x0'_'_',(x0'_''_,(x0'_''_',(x0'_'''_,(x0'_'''_',(x0'_''''_,(x0'_''''_',(x0'_'''''_,(x0'_'''''_',()))))))))))))),()))),true),(Option.isSome (l22_0 (((0:Int),()),((x0,(x0'__,(x0'__',(x0'_'_,(x0'_'_',(x0'_''_,(x0'_''_',(x0'_'''_,(x0'_'''_',(x0'_''''_,(x0'_''''_',(x0'_'''''_,(x0'_'''''_',()))))))))))))),()))),true),(!leF (↑(List.length x0):Int) (8:Int),false),(eqF (↑(List.length x0):Int) (0:Int),false)])):=by kernel_rfl
theorem e22_3 (x0:(List ((Int×(Int×(Int×(Int×(Int×(Int×Unit))))))×((Int×(Int×Unit))×Unit)))) (x0'__:Int) (x0'__':Int) (x0'_'_:Int) (x0'_'_':Int) (x0'_''_:Int) (x0'_''_':Int) (x0'_'''_:Int) (x0'_'''_':Int) (x0'_''''_:Int) (x0'_''''_':Int) (x0'_'''''_:Int) (x0'_'''''_':Int):runPure kl22_0.orc Go.Proofs.Try.prog 400 22 as22 rs22 ((x0,((x0'__,x0'__',()),(x0'_'_,x0'_'_',()),(x0'_''_,x0'_''_',()),(x0'_'''_,x0'_'''_',()),(x0'_''''_,x0'_''''_',()),(x0'_'''''_,x0'_'''''_',()),()),()),()) [ff,ff,tt,ff,tt,tt,tt,tt] =
    (let r1:PUnit×(List ((Int×Int×Int×Int×Int×Int×PUnit)×(Int×Int×PUnit)×PUnit)×Int×Int×Int×Int×Int×Int×Int×Int×Int×Int×Int×Int×PUnit)×PUnit:=b22_0 (((0:Int),()),((x0,(x0'__,(x0'__',(x0'_'_,(x0'_'_',(x0'_''_,(x0'_''_',(x0'_'''_,(x0'_'''_',(x0'_''''_,(x0'_''''_',(x0'_'''''_,(x0'_'''''_',()))))))))))))),()));let r2:Int×PUnit:=g46 ((r1.2.1.2.1,(r1.2.1.2.2.1,())),()); some (((0:Int),(r2.1,())),[(!eqF r2.1 0,true),(Option.isSome (f46 ((r1.2.1.2.1,(r1.2.1.2.2.1,())),())),true),(true,true),(true,true),(isRet (l22_0 (((0:Int),()),((x0,(x0'__,(x0'__',(x0'_'_,(x0'_'_',(x0'_''_,(x0'_''_',(x0'_'''_,(x0'_'''_',(x0'_''''_,(x0'_''''_',(x0'_'''''_,(x0'_'''''_',()))))))))))))),()))),false),(Option.isSome (l22_0 (((0:Int),()),((x0,(x0'__,(x0'__',(x0'_'_,(x0'_'_',(x0'_''_,(x0'_''_',(x0'_'''_,(x0'_'''_',(x0'_''''_,(x0'_''''_',(x0'_'''''_,(x0'_'''''_',()))))))))))))),()))),true),(!leF (↑(List.length x0):Int) (8:Int),false),(eqF (↑(List.length x0):Int) (0:Int),false)])):=by kernel_rfl
theorem e22_4 (x0:(List ((Int×(Int×(Int×(Int×(Int×(Int×Unit))))))×((Int×(Int×Unit))×Unit)))) (x0'__:Int) (x0'__':Int) (x0'_'_:Int) (x0'_'_':Int) (x0'_''_:Int) (x0'_''_':Int) (x0'_'''_:Int) (x0'_'''_':Int) (x0'_''''_:Int) (x0'_''''_':Int) (x0'_'''''_:Int) (x0'_'''''_':Int):runPure kl22_0.orc Go.Proofs.Try.prog 400 22 as22 rs22 ((x0,((x0'__,x0'__',()),(x0'_'_,x0'_'_',()),(x0'_''_,x0'_''_',()),(x0'_'''_,x0'_'''_',()),(x0'_''''_,x0'_''''_',()),(x0'_'''''_,x0'_'''''_',()),()),()),()) [ff,ff,tt,ff,tt,tt,tt,ff,tt,tt,tt,tt] =
    (let r1:PUnit×(List ((Int×Int×Int×Int×Int×Int×PUnit)×(Int×Int×PUnit)×PUnit)×Int×Int×Int×Int×Int×Int×Int×Int×Int×Int×Int×Int×PUnit)×PUnit:=b22_0 (((0:Int),()),((x0,(x0'__,(x0'__',(x0'_'_,(x0'_'_',(x0'_''_,(x0'_''_',(x0'_'''_,(x0'_'''_',(x0'_''''_,(x0'_''''_',(x0'_'''''_,(x0'_'''''_',()))))))))))))),()));let r2:Int×PUnit:=g46 ((r1.2.1.2.1,(r1.2.1.2.2.1,())),());let r3:Int×PUnit:=g46 ((r1.2.1.2.2.2.1,(r1.2.1.2.2.2.2.1,())),()); some (((1:Int),(r3.1,())),[(!eqF r3.1 0,true),(Option.isSome (f46 ((r1.2.1.2.2.2.1,(r1.2.1.2.2.2.2.1,())),())),true),(true,true),(true,true),(!eqF r2.1 0,false),(Option.isSome (f46 ((r1.2.1.2.1,(r1.2.1.2.2.1,())),())),true),(true,true),(true,true),(isRet (l22_0 (((0:Int),()),((x0,(x0'__,(x0'__',(x0'_'_,(x0'_'_',(x0'_''_,(x0'_''_',(x0'_'''_,(x0'_'''_',(x0'_''''_,(x0'_''''_',(x0'_'''''_,(x0'_'''''_',()))))))))))))),()))),false),(Option.isSome (l22_0 (((0:Int),()),((x0,(x0'__,(x0'__',(x0'_'_,(x0'_'_',(x0'_''_,(x0'_''_',(x0'_'''_,(x0'_'''_',(x0'_''''_,(x0'_''''_',(x0'_'''''_,(x0'_'''''_',()))))))))))))),()))),true),(!leF (↑(List.length x0):Int) (8:Int),false),(eqF (↑(List.length x0):Int) (0:Int),false)])):=by kernel_rfl
theorem e22_5 (x0:(List ((Int×(Int×(Int×(Int×(Int×(Int×Unit))))))×((Int×(Int×Unit))×Unit)))) (x0'__:Int) (x0'__':Int) (x0'_'_:Int) (x0'_'_':Int) (x0'_''_:Int) (x0'_''_':Int) (x0'_'''_:Int) (x0'_'''_':Int) (x0'_''''_:Int) (x0'_''''_':Int) (x0'_'''''_:Int) (x0'_'''''_':Int):runPure kl22_0.orc Go.Proofs.Try.prog 400 22 as22 rs22 ((x0,((x0'__,x0'__',()),(x0'_'_,x0'_'_',()),(x0'_''_,x0'_''_',()),(x0'_'''_,x0'_'''_',()),(x0'_''''_,x0'_''''_',()),(x0'_'''''_,x0'_'''''_',()),()),()),()) [ff,ff,tt,ff,tt,tt,tt,ff,tt,tt,tt,ff,tt,tt,tt,tt] =
    (let r1:PUnit×(List ((Int×Int×Int×Int×Int×Int×PUnit)×(Int×Int×PUnit)×PUnit)×Int×Int×Int×Int×Int×Int×Int×Int×Int×Int×Int×Int×PUnit)×PUnit:=b22_0 (((0:Int),()),((x0,(x0'__,(x0'__',(x0'_'_,(x0'_'_',(x0'_''_,(x0'_''_',(x0'_'''_,(x0'_'''_',(x0'_''''_,(x0'_''''_',(x0'_'''''_,(x0'_'''''_',()))))))))))))),()));let r2:Int×PUnit:=g46 ((r1.2.1.2.1,(r1.2.1.2.2.1,())),());let r3:Int×PUnit:=g46 ((r1.2.1.2.2.2.1,(r1.2.1.2.2.2.2.1,())),());let r4:Int×PUnit:=g46 ((r1.2.1.2.2.2.2.2.1,(r1.2.1.2.2.2.2.2.2.1,())),()); some (((2:Int),(r4.1,())),[(!eqF r4.1 0,true),(Option.isSome (f46 ((r1.2.1.2.2.2.2.2.1,(r1.2.1.2.2.2.2.2.2.1,())),())),true),(true,true),(true,true),(!eqF r3.1 0,false),(Option.isSome (f46 ((r1.2.1.2.2.2.1,(r1.2.1.2.2.2.2.1,())),())),true),(true,true),(true,true),(!eqF r2.1 0,false),(Option.isSome (f46 ((r1.2.1.2.1,(r1.2.1.2.2.1,())),())),true),(true,true),(true,true),(isRet (l22_0 (((0:Int),()),((x0,(x0'__,(x0'__',(x0'_'_,(x0'_'_',(x0'_''_,(x0'_''_',(x0'_'''_,(x0'_'''_',(x0'_''''_,(x0'_''''_',(x0'_'''''_,(x0'_'''''_',()))))))))))))),()))),false),(Option.isSome (l22_0 (((0:Int),()),((x0,(x0'__,(x0'__',(x0'_'_,(x0'_'_',(x0'_''_,(x0'_''_',(x0'_'''_,(x0'_'''_',(x0'_''''_,(x0'_''''_',(x0'_'''''_,(x0'_'''''_',()))))))))))))),()))),true),(!leF (↑(List.length x0):Int) (8:Int),false),(eqF (↑(List.length x0):Int) (0:Int),false)])):=by kernel_rfl
theorem e22_6 (x0:(List ((Int×(Int×(Int×(Int×(Int×(Int×Unit))))))×((Int×(Int×Unit))×Unit)))) (x0'__:Int) (x0'__':Int) (x0'_'_:Int) (x0'_'_':Int) (x0'_''_:Int) (x0'_''_':Int) (x0'_'''_:Int) (x0'_'''_':Int) (x0'_''''_:Int) (x0'_''''_':Int) (x0'_'''''_:Int) (x0'_'''''_':Int):runPure kl22_0.orc Go.Proofs.Try.prog 400 22 as22 rs22 ((x0,((x0'__,x0'__',()),(x0'_'_,x0'_'_',()),(x0'_''_,x0'_''_',()),(x0'_'''_,x0'_'''_',()),(x0'_''''_,x0'_''''_',()),(x0'_'''''_,x0'_'''''_',()),()),()),()) [ff,ff,tt,ff,tt,tt,tt,ff,tt,tt,tt,ff,tt,tt,tt,ff,tt,tt,tt,tt] =
    (let r1:PUnit×(List ((Int×Int×Int×Int×Int×Int×PUnit)×(Int×Int×PUnit)×PUnit)×Int×Int×Int×Int×Int×Int×Int×Int×Int×Int×Int×Int×PUnit)×PUnit:=b22_0 (((0:Int),()),((x0,(x0'__,(x0'__',(x0'_'_,(x0'_'_',(x0'_''_,(x0'_''_',(x0'_'''_,(x0'_'''_',(x0'_''''_,(x0'_''''_',(x0'_'''''_,(x0'_'''''_',()))))))))))))),()));let r2:Int×PUnit:=g46 ((r1.2.1.2.1,(r1.2.1.2.2.1,())),());let r3:Int×PUnit:=g46 ((r1.2.1.2.2.2.1,(r1.2.1.2.2.2.2.1,())),());let r4:Int×PUnit:=g46 ((r1.2.1.2.2.2.2.2.1,(r1.2.1.2.2.2.2.2.2.1,())),());let r5:Int×PUnit:=g46 ((r1.2.1.2.2.2.2.2.2.2.1,(r1.2.1.2.2.2.2.2.2.2.2.1,())),()); some (((3:Int),(r5.1,())),[(!eqF r5.1 0,true),(Option.isSome (f46 ((r1.2.1.2.2.2.2.2.2.2.1,(r1.2.1.2.2.2.2.2.2.2.2.1,())),())),true),(true,true),(true,true),(!eqF r4.1 0,false),(Option.isSome (f46 ((r1.2.1.2.2.2.2.2.1,(r1.2.1.2.2.2.2.2.2.1,())),())),true),(true,true),(true,true),(!eqF r3.1 0,false),(Option.isSome (f46 ((r1.2.1.2.2.2.1,(r1.2.1.2.2.2.2.1,())),())),true),(true,true),(true,true),(!eqF r2.1 0,false),(Option.isSome (f46 ((r1.2.1.2.1,(r1.2.1.2.2.1,())),())),true),(true,true),(true,true),(isRet (l22_0 (((0:Int),()),((x0,(x0'__,(x0'__',(x0'_'_,(x0'_'_',(x0'_''_,(x0'_''_',(x0'_'''_,(x0'_'''_',(x0'_''''_,(x0'_''''_',(x0'_'''''_,(x0'_'''''_',()))))))))))))),()))),false),(Option.isSome (l22_0 (((0:Int),()),((x0,(x0'__,(x0'__',(x0'_'_,(x0'_'_',(x0'_''_,(x0'_''_',(x0'_'''_,(x0'_'''_',(x0'_''''_,(x0'_''''_',(x0'_'''''_,(x0'_'''''_',()))))))))))))),()))),true),(!leF (↑(List.length x0):Int) (8:Int),false),(eqF (↑(List.length x0):Int) (0:Int),false)])):=by kernel_rfl
theorem e22_7 (x0:(List ((Int×(Int×(Int×(Int×(Int×(Int×Unit))))))×((Int×(Int×Unit))×Unit)))) (x0'__:Int) (x0'__':Int) (x0'_'_:Int) (x0'_'_':Int) (x0'_''_:Int) (x0'_''_':Int) (x0'_'''_:Int) (x0'_'''_':Int) (x0'_''''_:Int) (x0'_''''_':Int) (x0'_'''''_:Int) (x0'_'''''_':Int):runPure kl22_0.orc Go.Proofs.Try.prog 400 22 as22 rs22 ((x0,((x0'__,x0'__',()),(x0'_'_,x0'_'_',()),(x0'_''_,x0'_''_',()),(x0'_'''_,x0'_'''_',()),(x0'_''''_,x0'_''''_',()),(x0'_'''''_,x0'_'''''_',()),()),()),()) [ff,ff,tt,ff,tt,tt,tt,ff,tt,tt,tt,ff,tt,tt,tt,ff,tt,tt,tt,ff,tt,tt,tt,tt] =
    (let r1:PUnit×(List ((Int×Int×Int×Int×Int×Int×PUnit)×(Int×Int×PUnit)×PUnit)×Int×Int×Int×Int×Int×Int×Int×Int×Int×Int×Int×Int×PUnit)×PUnit:=b22_0 (((0:Int),()),((x0,(x0'__,(x0'__',(x0'_'_,(x0'_'_',(x0'_''_,(x0'_''_',(x0'_'''_,(x0'_'''_',(x0'_''''_,(x0'_''''_',(x0'_'''''_,(x0'_'''''_',()))))))))))))),()));let r2:Int×PUnit:=g46 ((r1.2.1.2.1,(r1.2.1.2.2.1,())),());let r3:Int×PUnit:=g46 ((r1.2.1.2.2.2.1,(r1.2.1.2.2.2.2.1,())),());let r4:Int×PUnit:=g46 ((r1.2.1.2.2.2.2.2.1,(r1.2.1.2.2.2.2.2.2.1,())),());let r5:Int×PUnit:=g46 ((r1.2.1.2.2.2.2.2.2.2.1,(r1.2.1.2.2.2.2.2.2.2.2.1,())),());let r6:Int×PUnit:=g46 ((r1.2.1.2.2.2.2.2.2.2.2.2.1,(r1.2.1.2.2.2.2.2.2.2.2.2.2.1,())),()); some (((4:Int),(r6.1,())),[(!eqF r6.1 0,true),(Option.isSome (f46 ((r1.2.1.2.2.2.2.2.2.2.2.2.1,(r1.2.1.2.2.2.2.2.2.2.2.2.2.1,())),())),true),(true,true),(true,true),(!eqF r5.1 0,false),(Option.isSome (f46 ((r1.2.1.2.2.2.2.2.2.2.1,(r1.2.1.2.2.2.2.2.2.2.2.1,())),())),true),(true,true),(true,true),(!eqF r4.1 0,false),(Option.isSome (f46 ((r1.2.1.2.2.2.2.2.1,(r1.2.1.2.2.2.2.2.2.1,())),())),true),(true,true),(true,true),(!eqF r3.1 0,false),(Option.isSome (f46 ((r1.2.1.2.2.2.1,(r1.2.1.2.2.2.2.1,())),())),true),(true,true),(true,true),(!eqF r2.1 0,false),(Option.isSome (f46 ((r1.2.1.2.1,(r1.2.1.2.2.1,())),())),true),(true,true),(true,true),(isRet (l22_0 (((0:Int),()),((x0,(x0'__,(x0'__',(x0'_'_,(x0'_'_',(x0'_''_,(x0'_''_',(x0'_'''_,(x0'_'''_',(x0'_''''_,(x0'_''''_',(x0'_'''''_,(x0'_'''''_',()))))))))))))),()))),false),(Option.isSome (l22_0 (((0:Int),()),((x0,(x0'__,(x0'__',(x0'_'_,(x0'_'_',(x0'_''_,(x0'_''_',(x0'_'''_,(x0'_'''_',(x0'_''''_,(x0'_''''_',(x0'_'''''_,(x0'_'''''_',()))))))))))))),()))),true),(!leF (↑(List.length x0):Int) (8:Int),false),(eqF (↑(List.length x0):Int) (0:Int),false)])):=by kernel_rfl
theorem e22_8 (x0:(List ((Int×(Int×(Int×(Int×(Int×(Int×Unit))))))×((Int×(Int×Unit))×Unit)))) (x0'__:Int) (x0'__':Int) (x0'_'_:Int) (x0'_'_':Int) (x0'_''_:Int) (x0'_''_':Int) (x0'_'''_:Int) (x0'_'''_':Int) (x0'_''''_:Int) (x0'_''''_':Int) (x0'_'''''_:Int) (x0'_'''''_':Int):runPure kl22_0.orc Go.Proofs.Try.prog 400 22 as22 rs22 ((x0,((x0'__,x0'__',()),(x0'_'_,x0'_'_',()),(x0'_''_,x0'_''_',()),(x0'_'''_,x0'_'''_',()),(x0'_''''_,x0'_''''_',()),(x0'_'''''_,x0'_'''''_',()),()),()),()) [ff,ff,tt,ff,tt,tt,tt,ff,tt,tt,tt,ff,tt,tt,tt,ff,tt,tt,tt,ff,tt,tt,tt,ff,tt,tt,tt,tt] =
    (let r1:PUnit×(List ((Int×Int×Int×Int×Int×Int×PUnit)×(Int×Int×PUnit)×PUnit)×Int×Int×Int×Int×Int×Int×Int×Int×Int×Int×Int×Int×PUnit)×PUnit:=b22_0 (((0:Int),()),((x0,(x0'__,(x0'__',(x0'_'_,(x0'_'_',(x0'_''_,(x0'_''_',(x0'_'''_,(x0'_'''_',(x0'_''''_,(x0'_''''_',(x0'_'''''_,(x0'_'''''_',()))))))))))))),()));let r2:Int×PUnit:=g46 ((r1.2.1.2.1,(r1.2.1.2.2.1,())),());let r3:Int×PUnit:=g46 ((r1.2.1.2.2.2.1,(r1.2.1.2.2.2.2.1,())),());let r4:Int×PUnit:=g46 ((r1.2.1.2.2.2.2.2.1,(r1.2.1.2.2.2.2.2.2.1,())),());let r5:Int×PUnit:=g46 ((r1.2.1.2.2.2.2.2.2.2.1,(r1.2.1.2.2.2.2.2.2.2.2.1,())),());let r6:Int×PUnit:=g46 ((r1.2.1.2.2.2.2.2.2.2.2.2.1,(r1.2.1.2.2.2.2.2.2.2.2.2.2.1,())),());let r7:Int×PUnit:=g46 ((r1.2.1.2.2.2.2.2.2.2.2.2.2.2.1,(r1.2.1.2.2.2.2.2.2.2.2.2.2.2.2.1,())),()); some (((5:Int),(r7.1,())),[(!eqF r7.1 0,true),(Option.isSome (f46 ((r1.2.1.2.2.2.2.2.2.2.2.2.2.2.1,(r1.2.1.2.2.2.2.2.2.2.2.2.2.2.2.1,())),())),true),(true,true),(true,true),(!eqF r6.1 0,false),(Option.isSome (f46 ((r1.2.1.2.2.2.2.2.2.2.2.2.1,(r1.2.1.2.2.2.2.2.2.2.2.2.2.1,())),())),true),(true,true),(true,true),(!eqF r5.1 0,false),(Option.isSome (f46 ((r1.2.1.2.2.2.2.2.2.2.1,(r1.2.1.2.2.2.2.2.2.2.2.1,())),())),true),(true,true),(true,true),(!eqF r4.1 0,false),(Option.isSome (f46 ((r1.2.1.2.2.2.2.2.1,(r1.2.1.2.2.2.2.2.2.1,())),())),true),(true,true),(true,true),(!eqF r3.1 0,false),(Option.isSome (f46 ((r1.2.1.2.2.2.1,(r1.2.1.2.2.2.2.1,())),())),true),(true,true),(true,true),(!eqF r2.1 0,false),(Option.isSome (f46 ((r1.2.1.2.1,(r1.2.1.2.2.1,())),())),true),(true,true),(true,true),(isRet (l22_0 (((0:Int),()),((x0,(x0'__,(x0'__',(x0'_'_,(x0'_'_',(x0'_''_,(x0'_''_',(x0'_'''_,(x0'_'''_',(x0'_''''_,(x0'_''''_',(x0'_'''''_,(x0'_'''''_',()))))))))))))),()))),false),(Option.isSome (l22_0 (((0:Int),()),((x0,(x0'__,(x0'__',(x0'_'_,(x0'_'_',(x0'_''_,(x0'_''_',(x0'_'''_,(x0'_'''_',(x0'_''''_,(x0'_''''_',(x0'_'''''_,(x0'_'''''_',()))))))))))))),()))),true),(!leF (↑(List.length x0):Int) (8:Int),false),(eqF (↑(List.length x0):Int) (0:Int),false)])):=by kernel_rfl
theorem e22_9 (x0:(List ((Int×(Int×(Int×(Int×(Int×(Int×Unit))))))×((Int×(Int×Unit))×Unit)))) (x0'__:Int) (x0'__':Int) (x0'_'_:Int) (x0'_'_':Int) (x0'_''_:Int) (x0'_''_':Int) (x0'_'''_:Int) (x0'_'''_':Int) (x0'_''''_:Int) (x0'_''''_':Int) (x0'_'''''_:Int) (x0'_'''''_':Int):runPure kl22_0.orc Go.Proofs.Try.prog 400 22 as22 rs22 ((x0,((x0'__,x0'__',()),(x0'_'_,x0'_'_',()),(x0'_''_,x0'_''_',()),(x0'_'''_,x0'_'''_',()),(x0'_''''_,x0'_''''_',()),(x0'_'''''_,x0'_'''''_',()),()),()),()) [ff,ff,tt,ff,tt,tt,tt,ff,tt,tt,tt,ff,tt,tt,tt,ff,tt,tt,tt,ff,tt,tt,tt,ff,tt,tt,tt,ff,ff] =
    (let r1:PUnit×(List ((Int×Int×Int×Int×Int×Int×PUnit)×(Int×Int×PUnit)×PUnit)×Int×Int×Int×Int×Int×Int×Int×Int×Int×Int×Int×Int×PUnit)×PUnit:=b22_0 (((0:Int),()),((x0,(x0'__,(x0'__',(x0'_'_,(x0'_'_',(x0'_''_,(x0'_''_',(x0'_'''_,(x0'_'''_',(x0'_''''_,(x0'_''''_',(x0'_'''''_,(x0'_'''''_',()))))))))))))),()));let r2:Int×PUnit:=g46 ((r1.2.1.2.1,(r1.2.1.2.2.1,())),());let r3:Int×PUnit:=g46 ((r1.2.1.2.2.2.1,(r1.2.1.2.2.2.2.1,())),());let r4:Int×PUnit:=g46 ((r1.2.1.2.2.2.2.2.1,(r1.2.1.2.2.2.2.2.2.1,())),());let r5:Int×PUnit:=g46 ((r1.2.1.2.2.2.2.2.2.2.1,(r1.2.1.2.2.2.2.2.2.2.2.1,())),());let r6:Int×PUnit:=g46 ((r1.2.1.2.2.2.2.2.2.2.2.2.1,(r1.2.1.2.2.2.2.2.2.2.2.2.2.1,())),());let r7:Int×PUnit:=g46 ((r1.2.1.2.2.2.2.2.2.2.2.2.2.2.1,(r1.2.1.2.2.2.2.2.2.2.2.2.2.2.2.1,())),()); some (((0:Int),((0:Int),())),[(false,false),(!eqF r7.1 0,false),(Option.isSome (f46 ((r1.2.1.2.2.2.2.2.2.2.2.2.2.2.1,(r1.2.1.2.2.2.2.2.2.2.2.2.2.2.2.1,())),())),true),(true,true),(true,true),(!eqF r6.1 0,false),(Option.isSome (f46 ((r1.2.1.2.2.2.2.2.2.2.2.2.1,(r1.2.1.2.2.2.2.2.2.2.2.2.2.1,())),())),true),(true,true),(true,true),(!eqF r5.1 0,false),(Option.isSome (f46 ((r1.2.1.2.2.2.2.2.2.2.1,(r1.2.1.2.2.2.2.2.2.2.2.1,())),())),true),(true,true),(true,true),(!eqF r4.1 0,false),(Option.isSome (f46 ((r1.2.1.2.2.2.2.2.1,(r1.2.1.2.2.2.2.2.2.1,())),())),true),(true,true),(true,true),(!eqF r3.1 0,false),(Option.isSome (f46 ((r1.2.1.2.2.2.1,(r1.2.1.2.2.2.2.1,())),())),true),(true,true),(true,true),(!eqF r2.1 0,false),(Option.isSome (f46 ((r1.2.1.2.1,(r1.2.1.2.2.1,())),())),true),(true,true),(true,true),(isRet (l22_0 (((0:Int),()),((x0,(x0'__,(x0'__',(x0'_'_,(x0'_'_',(x0'_''_,(x0'_''_',(x0'_'''_,(x0'_'''_',(x0'_''''_,(x0'_''''_',(x0'_'''''_,(x0'_'''''_',()))))))))))))),()))),false),(Option.isSome (l22_0 (((0:Int),()),((x0,(x0'__,(x0'__',(x0'_'_,(x0'_'_',(x0'_''_,(x0'_''_',(x0'_'''_,(x0'_'''_',(x0'_''''_,(x0'_''''_',(x0'_'''''_,(x0'_'''''_',()))))))))))))),()))),true),(!leF (↑(List.length x0):Int) (8:Int),false),(eqF (↑(List.length x0):Int) (0:Int),false)])):=by kernel_rfl

set_option maxRecDepth 100000 in
theorem ok22_t (x0:(List ((Int×(Int×(Int×(Int×(Int×(Int×Unit))))))×((Int×(Int×Unit))×Unit)))) (x0'__:Int) (x0'__':Int) (x0'_'_:Int) (x0'_'_':Int) (x0'_''_:Int) (x0'_''_':Int) (x0'_'''_:Int) (x0'_'''_':Int) (x0'_''''_:Int) (x0'_''''_':Int) (x0'_'''''_:Int) (x0'_'''''_':Int):TrOk (PureRuns Go.Proofs.Try.prog kl22_0.orc 22 as22 rs22 ((x0,((x0'__,x0'__',()),(x0'_'_,x0'_'_',()),(x0'_''_,x0'_''_',()),(x0'_'''_,x0'_'''_',()),(x0'_''''_,x0'_''''_',()),(x0'_'''''_,x0'_'''''_',()),()),()),())) (t22 x0 x0'__ x0'__' x0'_'_ x0'_'_' x0'_''_ x0'_''_' x0'_'''_ x0'_'''_' x0'_''''_ x0'_''''_' x0'_'''''_ x0'_'''''_') :=
  TrOk.ofTest (fun h0=>TrOk.ofFin (PureRuns.of (e22_0 x0 x0'__ x0'__' x0'_'_ x0'_'_' x0'_''_ x0'_''_' x0'_'''_ x0'_'''_' x0'_''''_ x0'_''''_' x0'_'''''_ x0'_'''''_') (ac h0 All.nil))) (fun h0=>TrOk.ofTest (fun h1=>TrOk.ofFin (PureRuns.of (e22_1 x0 x0'__ x0'__' x0'_'_ x0'_'_' x0'_''_ x0'_''_' x0'_'''_ x0'_'''_' x0'_''''_ x0'_''''_' x0'_'''''_ x0'_'''''_') (ac h1 (ac h0 All.nil)))) (fun h1=>TrOk.ofTest (fun h2=>TrOk.ofTest (fun h3=>TrOk.ofFin (PureRuns.of (e22_2 x0 x0'__ x0'__' x0'_'_ x0'_'_' x0'_''_ x0'_''_' x0'_'''_ x0'_'''_' x0'_''''_ x0'_''''_' x0'_'''''_ x0'_'''''_') (ac h3 (ac h2 (ac h1 (ac h0 All.nil)))))) (fun h3=>TrOk.ofTest (fun h6=>TrOk.ofTest (fun h7=>TrOk.ofFin (PureRuns.of (e22_3 x0 x0'__ x0'__' x0'_'_ x0'_'_' x0'_''_ x0'_''_' x0'_'''_ x0'_'''_' x0'_''''_ x0'_''''_' x0'_'''''_ x0'_'''''_') (ac h7 (ac h6 (ac rfl (ac rfl (ac h3 (ac h2 (ac h1 (ac h0 All.nil)))))))))) (fun h7=>TrOk.ofTest (fun h10=>TrOk.ofTest (fun h11=>TrOk.ofFin (PureRuns.of (e22_4 x0 x0'__ x0'__' x0'_'_ x0'_'_' x0'_''_ x0'_''_' x0'_'''_ x0'_'''_' x0'_''''_ x0'_''''_' x0'_'''''_ x0'_'''''_') (ac h11 (ac h10 (ac rfl (ac rfl (ac h7 (ac h6 (ac rfl (ac rfl (ac h3 (ac h2 (ac h1 (ac h0 All.nil)))))))))))))) (fun h11=>TrOk.ofTest (fun h14=>TrOk.ofTest (fun h15=>TrOk.ofFin (PureRuns.of (e22_5 x0 x0'__ x0'__' x0'_'_ x0'_'_' x0'_''_ x0'_''_' x0'_'''_ x0'_'''_' x0'_''''_ x0'_''''_' x0'_'''''_ x0'_'''''_') (ac h15 (ac h14 (ac rfl (ac rfl (ac h11 (ac h10 (ac rfl (ac rfl (ac h7 (ac h6 (ac rfl (ac rfl (ac h3 (ac h2 (ac h1 (ac h0 All.nil)))))))))))))))))) (fun h15=>TrOk.ofTest (fun h18=>TrOk.ofTest (fun h19=>TrOk.ofFin (PureRuns.of (e22_6 x0 x0'__ x0'__' x0'_'_ x0'_'_' x0'_''_ x0'_''_' x0'_'''_ x0'_'''_' x0'_''''_ x0'_''''_' x0'_'''''_ x0'_'''''_') (ac h19 (ac h18 (ac rfl (ac rfl (ac h15 (ac h14 (ac rfl (ac rfl (ac h11 (ac h10 (ac rfl (ac rfl (ac h7 (ac h6 (ac rfl (ac rfl (ac h3 (ac h2 (ac h1 (ac h0 All.nil)))))))))))))))))))))) (fun h19=>TrOk.ofTest (fun h22=>TrOk.ofTest (fun h23=>TrOk.ofFin (PureRuns.of (e22_7 x0 x0'__ x0'__' x0'_'_ x0'_'_' x0'_''_ x0'_''_' x0'_'''_ x0'_'''_' x0'_''''_ x0'_''''_' x0'_'''''_ x0'_'''''_') (ac h23 (ac h22 (ac rfl (ac rfl (ac h19 (ac h18 (ac rfl (ac rfl (ac h15 (ac h14 (ac rfl (ac rfl (ac h11 (ac h10 (ac rfl (ac rfl (ac h7 (ac h6 (ac rfl (ac rfl (ac h3 (ac h2 (ac h1 (ac h0 All.nil)))))))))))))))))))))))))) (fun h23=>TrOk.ofTest (fun h26=>TrOk.ofTest (fun h27=>TrOk.ofFin (PureRuns.of (e22_8 x0 x0'__ x0'__' x0'_'_ x0'_'_' x0'_''_ x0'_''_' x0'_'''_ x0'_'''_' x0'_''''_ x0'_''''_' x0'_'''''_ x0'_'''''_') (ac h27 (ac h26 (ac rfl (ac rfl (ac h23 (ac h22 (ac rfl (ac rfl (ac h19 (ac h18 (ac rfl (ac rfl (ac h15 (ac h14 (ac rfl (ac rfl (ac h11 (ac h10 (ac rfl (ac rfl (ac h7 (ac h6 (ac rfl (ac rfl (ac h3 (ac h2 (ac h1 (ac h0 All.nil)))))))))))))))))))))))))))))) (fun h27=>TrOk.ofFin (PureRuns.of (e22_9 x0 x0'__ x0'__' x0'_'_ x0'_'_' x0'_''_ x0'_''_' x0'_'''_ x0'_'''_' x0'_''''_ x0'_''''_' x0'_'''''_ x0'_'''''_') (ac rfl (ac h27 (ac h26 (ac rfl (ac rfl (ac h23 (ac h22 (ac rfl (ac rfl (ac h19 (ac h18 (ac rfl (ac rfl (ac h15 (ac h14 (ac rfl (ac rfl (ac h11 (ac h10 (ac rfl (ac rfl (ac h7 (ac h6 (ac rfl (ac rfl (ac h3 (ac h2 (ac h1 (ac h0 All.nil)))))))))))))))))))))))))))))))) (fun h26=>TrOk.ofStop))) (fun h22=>TrOk.ofStop))) (fun h18=>TrOk.ofStop))) (fun h14=>TrOk.ofStop))) (fun h10=>TrOk.ofStop))) (fun h6=>TrOk.ofStop))) (fun h2=>TrOk.ofStop)))

theorem ok22:PureOk Go.Proofs.Try.prog 22 p22:=pureOk_of kl22_0_ok.base (T:=fun (d:Tys.data as22)=>t22 d.1.1 d.1.2.1.1.1 d.1.2.1.1.2.1 d.1.2.1.2.1.1 d.1.2.1.2.1.2.1 d.1.2.1.2.2.1.1 d.1.2.1.2.2.1.2.1 d.1.2.1.2.2.2.1.1 d.1.2.1.2.2.2.1.2.1 d.1.2.1.2.2.2.2.1.1 d.1.2.1.2.2.2.2.1.2.1 d.1.2.1.2.2.2.2.2.1.1 d.1.2.1.2.2.2.2.2.1.2.1) (by kernel_rfl) (fun (d:Tys.data as22)=>ok22_t d.1.1 d.1.2.1.1.1 d.1.2.1.1.2.1 d.1.2.1.2.1.1 d.1.2.1.2.1.2.1 d.1.2.1.2.2.1.1 d.1.2.1.2.2.1.2.1 d.1.2.1.2.2.2.1.1 d.1.2.1.2.2.2.1.2.1 d.1.2.1.2.2.2.2.1.1 d.1.2.1.2.2.2.2.1.2.1 d.1.2.1.2.2.2.2.2.1.1 d.1.2.1.2.2.2.2.2.1.2.1)
def kf22:Known:=kl22_0.func 22 p22
theorem kf22_ok:KnownOk Go.Proofs.Try.prog kf22:=kl22_0_ok.func ok22

/-! ductility/ductilityref01.RigErr -/

abbrev as7:List Ty:=[(.pair (.slice (.pair (.pair (.int .i64) (.pair (.int .i64) (.pair (.int .i64) (.pair (.int .i64) (.pair (.int .i64) (.pair (.int .i64) .unit)))))) (.pair (.pair (.int .i64) (.pair (.int .i64) .unit)) .unit))) (.pair (.pair (.pair (.int .i64) (.pair (.int .i64) .unit)) (.pair (.pair (.int .i64) (.pair (.int .i64) .unit)) (.pair (.pair (.int .i64) (.pair (.int .i64) .unit)) (.pair (.pair (.int .i64) (.pair (.int .i64) .unit)) (.pair (.pair (.int .i64) (.pair (.int .i64) .unit)) (.pair (.pair (.int .i64) (.pair (.int .i64) .unit)) .unit)))))) .unit))]
abbrev rs7:List Ty:=[(.int .i64)]

def t7 (x0:(List ((Int×(Int×(Int×(Int×(Int×(Int×Unit))))))×((Int×(Int×Unit))×Unit)))) (x0'__:Int) (x0'__':Int) (x0'_'_:Int) (x0'_'_':Int) (x0'_''_:Int) (x0'_''_':Int) (x0'_'''_:Int) (x0'_'''_':Int) (x0'_''''_:Int) (x0'_''''_':Int) (x0'_'''''_:Int) (x0'_'''''_':Int):Tr (Tys.data rs7) :=
  Tr.test (Option.isSome (f22 ((x0,(((x0'__,(x0'__',())),((x0'_'_,(x0'_'_',())),((x0'_''_,(x0'_''_',())),((x0'_'''_,(x0'_'''_',())),((x0'_''''_,(x0'_''''_',())),((x0'_'''''_,(x0'_'''''_',())),())))))),())),())))
    (let r0:Int×Int×PUnit:=g22 ((x0,(((x0'__,(x0'__',())),((x0'_'_,(x0'_'_',())),((x0'_''_,(x0'_''_',())),((x0'_'''_,(x0'_'''_',())),((x0'_''''_,(x0'_''''_',())),((x0'_'''''_,(x0'_'''''_',())),())))))),())),());
    Tr.fin ((r0.2.1,())))
    (Tr.stop)

def f7 (d:Tys.data as7):Option (Tys.data rs7):=(t7 d.1.1 d.1.2.1.1.1 d.1.2.1.1.2.1 d.1.2.1.2.1.1 d.1.2.1.2.1.2.1 d.1.2.1.2.2.1.1 d.1.2.1.2.2.1.2.1 d.1.2.1.2.2.2.1.1 d.1.2.1.2.2.2.1.2.1 d.1.2.1.2.2.2.2.1.1 d.1.2.1.2.2.2.2.1.2.1 d.1.2.1.2.2.2.2.2.1.1 d.1.2.1.2.2.2.2.2.1.2.1).val
def g7 (d:Tys.data as7):Tys.data rs7:=(f7 d).getD (Tys.dflt rs7)
def p7:PureC:=pcOf as7 rs7 f7 g7

theorem e7_0 (x0:(List ((Int×(Int×(Int×(Int×(Int×(Int×Unit))))))×((Int×(Int×Unit))×Unit)))) (x0'__:Int) (x0'__':Int) (x0'_'_:Int) (x0'_'_':Int) (x0'_''_:Int) (x0'_''_':Int) (x0'_'''_:Int) (x0'_'''_':Int) (x0'_''''_:Int) (x0'_''''_':Int) (x0'_'''''_:Int) (x0'_'''''_':Int):runPure kf22.orc Go.Proofs.Try.prog 400 7 as7 rs7 ((x0,((x0'__,x0'__',()),(x0'_'_,x0'_'_',()),(x0'_''_,x0'_''_',()),(x0'_'''_,x0'_'''_',()),(x0'_''''_,x0'_''''_',()),(x0'_'''''_,x0'_'''''_',()),()),()),()) [tt] =
    (let r0:Int×Int×PUnit:=g22 ((x0,(((x0'__,(x0'__',())),((x0'_'_,(x0'_'_',())),((x0'_''_,(x0'_''_',())),((x0'_'''_,(x0'_'''_',())),((x0'_''''_,(x0'_''''_',())),((x0'_'''''_,(x0'_'''''_',())),())))))),())),()); some ((r0.2.1,()),[(Option.isSome (f22 ((x0,(((x0'__,(x0'__',())),((x0'_'_,(x0'_'_',())),((x0'_''_,(x0'_''_',())),((x0'_'''_,(x0'_'''_',())),((x0'_''''_,(x0'_''''_',())),((x0'_'''''_,(x0'_'''''_',())),())))))),())),())),true)])):=by kernel_rfl

theorem ok7_t (x0:(List ((Int×(Int×(Int×(Int×(Int×(Int×Unit))))))×((Int×(Int×Unit))×Unit)))) (x0'__:Int) (x0'__':Int) (x0'_'_:Int) (x0'_'_':Int) (x0'_''_:Int) (x0'_''_':Int) (x0'_'''_:Int) (x0'_'''_':Int) (x0'_''''_:Int) (x0'_''''_':Int) (x0'_'''''_:Int) (x0'_'''''_':Int):TrOk (PureRuns Go.Proofs.Try.prog kf22.orc 7 as7 rs7 ((x0,((x0'__,x0'__',()),(x0'_'_,x0'_'_',()),(x0'_''_,x0'_''_',()),(x0'_'''_,x0'_'''_',()),(x0'_''''_,x0'_''''_',()),(x0'_'''''_,x0'_'''''_',()),()),()),())) (t7 x0 x0'__ x0'__' x0'_'_ x0'_'_' x0'_''_ x0'_''_' x0'_'''_ x0'_'''_' x0'_''''_ x0'_''''_' x0'_'''''_ x0'_'''''_') :=
  TrOk.ofTest (fun h0=>TrOk.ofFin (PureRuns.of (e7_0 x0 x0'__ x0'__' x0'_'_ x0'_'_' x0'_''_ x0'_''_' x0'_'''_ x0'_'''_' x0'_''''_ x0'_''''_' x0'_'''''_ x0'_'''''_') (ac h0 All.nil))) (fun h0=>TrOk.ofStop)

theorem ok7:PureOk Go.Proofs.Try.prog 7 p7:=pureOk_of kf22_ok.base (T:=fun (d:Tys.data as7)=>t7 d.1.1 d.1.2.1.1.1 d.1.2.1.1.2.1 d.1.2.1.2.1.1 d.1.2.1.2.1.2.1 d.1.2.1.2.2.1.1 d.1.2.1.2.2.1.2.1 d.1.2.1.2.2.2.1.1 d.1.2.1.2.2.2.1.2.1 d.1.2.1.2.2.2.2.1.1 d.1.2.1.2.2.2.2.1.2.1 d.1.2.1.2.2.2.2.2.1.1 d.1.2.1.2.2.2.2.2.1.2.1) (by kernel_rfl) (fun (d:Tys.data as7)=>ok7_t d.1.1 d.1.2.1.1.1 d.1.2.1.1.2.1 d.1.2.1.2.1.1 d.1.2.1.2.1.2.1 d.1.2.1.2.2.1.1 d.1.2.1.2.2.1.2.1 d.1.2.1.2.2.2.1.1 d.1.2.1.2.2.2.1.2.1 d.1.2.1.2.2.2.2.1.1 d.1.2.1.2.2.2.2.1.2.1 d.1.2.1.2.2.2.2.2.1.1 d.1.2.1.2.2.2.2.2.1.2.1)
def kf7:Known:=kf22.func 7 p7
theorem kf7_ok:KnownOk Go.Proofs.Try.prog kf7:=kf22_ok.func ok7

/-! loop 0 of ductility/jack.isBeyond -/

abbrev sh28_0:Sh:={ n:=23,slots:=[0,7,8,9],pats:=[.ty (.int .i64),.ty (.slice (.int .i64)),.ty (.int .i64),.ty (.int .i64)],boxes:=[] }
abbrev shb28_0:Sh:={ n:=23,slots:=[],pats:=[],boxes:=[] }
abbrev shr28_0:Sh:={ n:=23,slots:=[4],pats:=[.ty .bool],boxes:=[] }

def t28_0 (x0:Int) (x1:(List Int)) (x2:Int) (x3:Int):Tr (Out sh28_0.data shb28_0.data shr28_0.data) :=
  Tr.test ((!leF x2 x3:Bool))
    (Tr.test (decide ((0:Int) ≤ x3) && decide (x3 < (↑(List.length x1):Int)))
      (Tr.test ((!leF (Go.IntKind.wrap Go.IntKind.i64 ((0:Int) - x0)) (List.getD x1 (Int.toNat x3) (0:Int)):Bool))
        (Tr.fin (.ret (((true:Bool),()),())))
        (Tr.test ((!leF (List.getD x1 (Int.toNat x3) (0:Int)) x0:Bool))
          (Tr.fin (.ret (((true:Bool),()),())))
          (Tr.fin (.again ((x0,(x1,(x2,((wrap64 (x3 + (1:Int)):Int),())))),())))))
      (Tr.stop))
    (Tr.fin (.brk ((),())))

def s28_0 (d:sh28_0.data):Option (Out sh28_0.data shb28_0.data shr28_0.data):=(t28_0 d.1.1 d.1.2.1 d.1.2.2.1 d.1.2.2.2.1).val
def l28_0 (d:sh28_0.data):Option (shb28_0.data ⊕ shr28_0.data):=itr s28_0 rounds d
def b28_0 (d:sh28_0.data):shb28_0.data:=outB shb28_0.dflt (l28_0 d)
def r28_0 (d:sh28_0.data):shr28_0.data:=outR shr28_0.dflt (l28_0 d)
def lc28_0:LoopC:=lcOf sh28_0 shb28_0 shr28_0 l28_0 b28_0 r28_0

theorem e28_0_0 (x0:Int) (x1:(List Int)) (x2:Int) (x3:Int):runBody kf7.orc Go.Proofs.Try.prog 400 28 0 sh28_0 shb28_0 shr28_0 ((x0,x1,x2,x3,()),()) [tt,tt,tt,tt,tt,tt,tt] =
    (some (.ret ((true,()),()),[(true,true),(!leF (Go.IntKind.wrap Go.IntKind.i64 ((0:Int) - x0)) (List.getD x1 (Int.toNat x3) (0:Int)),true),(!leF (Go.IntKind.wrap Go.IntKind.i64 ((0:Int) - x0)) (List.getD x1 (Int.toNat x3) (0:Int)),true),(!leF (Go.IntKind.wrap Go.IntKind.i64 ((0:Int) - x0)) (List.getD x1 (Int.toNat x3) (0:Int)),true),(!leF (Go.IntKind.wrap Go.IntKind.i64 ((0:Int) - x0)) (List.getD x1 (Int.toNat x3) (0:Int)),true),(decide ((0:Int) ≤ x3) && decide (x3 < (↑(List.length x1):Int)),true),(!leF x2 x3,true)])):=by kernel_rfl
theorem e28_0_1 (x0:Int) (x1:(List Int)) (x2:Int) (x3:Int):runBody kf7.orc Go.Proofs.Try.prog 400 28 0 sh28_0 shb28_0 shr28_0 ((x0,x1,x2,x3,()),()) [tt,tt,ff,ff,ff,ff,tt] =
    (some (.ret ((true,()),()),[(!leF (List.getD x1 (Int.toNat x3) (0:Int)) x0,true),(!leF (Go.IntKind.wrap Go.IntKind.i64 ((0:Int) - x0)) (List.getD x1 (Int.toNat x3) (0:Int)),false),(!leF (Go.IntKind.wrap Go.IntKind.i64 ((0:Int) - x0)) (List.getD x1 (Int.toNat x3) (0:Int)),false),(!leF (Go.IntKind.wrap Go.IntKind.i64 ((0:Int) - x0)) (List.getD x1 (Int.toNat x3) (0:Int)),false),(!leF (Go.IntKind.wrap Go.IntKind.i64 ((0:Int) - x0)) (List.getD x1 (Int.toNat x3) (0:Int)),false),(decide ((0:Int) ≤ x3) && decide (x3 < (↑(List.length x1):Int)),true),(!leF x2 x3,true)])):=by kernel_rfl
theorem e28_0_2 (x0:Int) (x1:(List Int)) (x2:Int) (x3:Int):runBody kf7.orc Go.Proofs.Try.prog 400 28 0 sh28_0 shb28_0 shr28_0 ((x0,x1,x2,x3,()),()) [tt,tt,ff,ff,ff,ff,ff] =
    (some (.again ((x0,(x1,(x2,((wrap64 (x3 + (1:Int)):Int),())))),()),[(!leF (List.getD x1 (Int.toNat x3) (0:Int)) x0,false),(!leF (Go.IntKind.wrap Go.IntKind.i64 ((0:Int) - x0)) (List.getD x1 (Int.toNat x3) (0:Int)),false),(!leF (Go.IntKind.wrap Go.IntKind.i64 ((0:Int) - x0)) (List.getD x1 (Int.toNat x3) (0:Int)),false),(!leF (Go.IntKind.wrap Go.IntKind.i64 ((0:Int) - x0)) (List.getD x1 (Int.toNat x3) (0:Int)),false),(!leF (Go.IntKind.wrap Go.IntKind.i64 ((0:Int) - x0)) (List.getD x1 (Int.toNat x3) (0:Int)),false),(decide ((0:Int) ≤ x3) && decide (x3 < (↑(List.length x1):Int)),true),(!leF x2 x3,true)])):=by kernel_rfl
theorem e28_0_4 (x0:Int) (x1:(List Int)) (x2:Int) (x3:Int):runBody kf7.orc Go.Proofs.Try.prog 400 28 0 sh28_0 shb28_0 shr28_0 ((x0,x1,x2,x3,()),()) [ff] =
    (some (.brk ((),()),[(!leF x2 x3,false)])):=by kernel_rfl

theorem ok28_0_t (x0:Int) (x1:(List Int)) (x2:Int) (x3:Int):TrOk (BodyRuns Go.Proofs.Try.prog kf7.orc 28 0 sh28_0 shb28_0 shr28_0 ((x0,x1,x2,x3,()),())) (t28_0 x0 x1 x2 x3) :=
  TrOk.ofTest (fun h0=>TrOk.ofTest (fun h1=>TrOk.ofTest (fun h2=>TrOk.ofFin (BodyRuns.of (e28_0_0 x0 x1 x2 x3) (ac rfl (ac (nn h2) (ac (nn h2) (ac (nn h2) (ac h2 (ac h1 (ac h0 All.nil))))))))) (fun h2=>TrOk.ofTest (fun h6=>TrOk.ofFin (BodyRuns.of (e28_0_1 x0 x1 x2 x3) (ac h6 (ac (nn h2) (ac (nn h2) (ac (nn h2) (ac h2 (ac h1 (ac h0 All.nil))))))))) (fun h6=>TrOk.ofFin (BodyRuns.of (e28_0_2 x0 x1 x2 x3) (ac h6 (ac (nn h2) (ac (nn h2) (ac (nn h2) (ac h2 (ac h1 (ac h0 All.nil))))))))))) (fun h1=>TrOk.ofStop)) (fun h0=>TrOk.ofFin (BodyRuns.of (e28_0_4 x0 x1 x2 x3) (ac h0 All.nil)))

theorem ok28_0:LoopOk Go.Proofs.Try.prog 28 0 lc28_0:=loopOk_of kf7_ok.base (T:=fun (d:sh28_0.data)=>t28_0 d.1.1 d.1.2.1 d.1.2.2.1 d.1.2.2.2.1) (by kernel_rfl) rfl (fun (d:sh28_0.data)=>ok28_0_t d.1.1 d.1.2.1 d.1.2.2.1 d.1.2.2.2.1) (fun _=>rfl)
def kl28_0:Known:=kf7.loop 28 0 lc28_0
theorem kl28_0_ok:KnownOk Go.Proofs.Try.prog kl28_0:=kf7_ok.loop ok28_0

/-! ductility/jack.isBeyond -/

abbrev as28:List Ty:=[(.int .i64),(.slice (.int .i64))]
abbrev rs28:List Ty:=[.bool]

def t28 (x0:Int) (x1:(List Int)):Tr (Tys.data rs28) :=
  Tr.test (Option.isSome (l28_0 ((x0,(x1,((↑(List.length x1):Int),((0:Int),())))),())))
    (Tr.test (isRet (l28_0 ((x0,(x1,((↑(List.length x1):Int),((0:Int),())))),())))
      (let r0:(Bool×PUnit)×PUnit:=r28_0 ((x0,(x1,((↑(List.length x1):Int),((0:Int),())))),());
      Tr.fin ((r0.1.1,())))
      (Tr.fin (((false:Bool),()))))
    (Tr.stop)

def f28 (d:Tys.data as28):Option (Tys.data rs28):=(t28 d.1 d.2.1).val
def g28 (d:Tys.data as28):Tys.data rs28:=(f28 d).getD (Tys.dflt rs28)
def p28:PureC:=pcOf as28 rs28 f28 g28

theorem e28_0 (x0:Int) (x1:(List Int)):runPure kl28_0.orc Go.Proofs.Try.prog 400 28 as28 rs28 (x0,x1,()) [tt,tt] =
    (let r0:(Bool×PUnit)×PUnit:=r28_0 ((x0,(x1,((↑(List.length x1):Int),((0:Int),())))),()); some ((r0.1.1,()),[(isRet (l28_0 ((x0,(x1,((↑(List.length x1):Int),((0:Int),())))),())),true),(Option.isSome (l28_0 ((x0,(x1,((↑(List.length x1):Int),((0:Int),())))),())),true)])):=by kernel_rfl
theorem e28_1 (x0:Int) (x1:(List Int)):runPure kl28_0.orc Go.Proofs.Try.prog 400 28 as28 rs28 (x0,x1,()) [tt,ff] =
    (some ((false,()),[(isRet (l28_0 ((x0,(x1,((↑(List.length x1):Int),((0:Int),())))),())),false),(Option.isSome (l28_0 ((x0,(x1,((↑(List.length x1):Int),((0:Int),())))),())),true)])):=by kernel_rfl

theorem ok28_t (x0:Int) (x1:(List Int)):TrOk (PureRuns Go.Proofs.Try.prog kl28_0.orc 28 as28 rs28 (x0,x1,())) (t28 x0 x1) :=
  TrOk.ofTest (fun h0=>TrOk.ofTest (fun h1=>TrOk.ofFin (PureRuns.of (e28_0 x0 x1) (ac h1 (ac h0 All.nil)))) (fun h1=>TrOk.ofFin (PureRuns.of (e28_1 x0 x1) (ac h1 (ac h0 All.nil))))) (fun h0=>TrOk.ofStop)

theorem ok28:PureOk Go.Proofs.Try.prog 28 p28:=pureOk_of kl28_0_ok.base (T:=fun (d:Tys.data as28)=>t28 d.1 d.2.1) (by kernel_rfl) (fun (d:Tys.data as28)=>ok28_t d.1 d.2.1)
def kf28:Known:=kl28_0.func 28 p28
theorem kf28_ok:KnownOk Go.Proofs.Try.prog kf28:=kl28_0_ok.func ok28

/-! ductility/jack.when -/

abbrev as30:List Ty:=[.bool,(.int .i64)]
abbrev rs30:List Ty:=[(.int .i64)]

def t30 (x0:Bool) (x1:Int):Tr (Tys.data rs30) :=
  Tr.test (x0)
    (Tr.fin ((x1,())))
    (Tr.fin (((0:Int),())))

def f30 (d:Tys.data as30):Option (Tys.data rs30):=(t30 d.1 d.2.1).val
def g30 (d:Tys.data as30):Tys.data rs30:=(f30 d).getD (Tys.dflt rs30)
def p30:PureC:=pcOf as30 rs30 f30 g30

theorem e30_0 (x0:Bool) (x1:Int):runPure kf28.orc Go.Proofs.Try.prog 400 30 as30 rs30 (x0,x1,()) [tt] =
    (some ((x1,()),[(x0,true)])):=by kernel_rfl
theorem e30_1 (x0:Bool) (x1:Int):runPure kf28.orc Go.Proofs.Try.prog 400 30 as30 rs30 (x0,x1,()) [ff] =
    (some (((0:Int),()),[(x0,false)])):=by kernel_rfl

theorem ok30_t (x0:Bool) (x1:Int):TrOk (PureRuns Go.Proofs.Try.prog kf28.orc 30 as30 rs30 (x0,x1,())) (t30 x0 x1) :=
  TrOk.ofTest (fun h0=>TrOk.ofFin (PureRuns.of (e30_0 x0 x1) (ac h0 All.nil))) (fun h0=>TrOk.ofFin (PureRuns.of (e30_1 x0 x1) (ac h0 All.nil)))

theorem ok30:PureOk Go.Proofs.Try.prog 30 p30:=pureOk_of kf28_ok.base (T:=fun (d:Tys.data as30)=>t30 d.1 d.2.1) (by kernel_rfl) (fun (d:Tys.data as30)=>ok30_t d.1 d.2.1)
def kf30:Known:=kf28.func 30 p30
theorem kf30_ok:KnownOk Go.Proofs.Try.prog kf30:=kf28_ok.func ok30

/-! loop 0 of ductility/jack.firstOf -/

abbrev sh25_0:Sh:={ n:=15,slots:=[5,6,7],pats:=[.ty (.slice (.int .i64)),.ty (.int .i64),.ty (.int .i64)],boxes:=[] }
abbrev shb25_0:Sh:={ n:=15,slots:=[],pats:=[],boxes:=[] }
abbrev shr25_0:Sh:={ n:=15,slots:=[2],pats:=[.ty (.int .i64)],boxes:=[] }

def t25_0 (x0:(List Int)) (x1:Int) (x2:Int):Tr (Out sh25_0.data shb25_0.data shr25_0.data) :=
  Tr.test ((!leF x1 x2:Bool))
    (Tr.test (decide ((0:Int) ≤ x2) && decide (x2 < (↑(List.length x0):Int)))
      (Tr.test ((!eqF (List.getD x0 (Int.toNat x2) (0:Int)) (0:Int):Bool))
        (Tr.fin (.ret (((List.getD x0 (Int.toNat x2) (0:Int):Int),()),())))
        (Tr.fin (.again ((x0,(x1,((wrap64 (x2 + (1:Int)):Int),()))),()))))
      (Tr.stop))
    (Tr.fin (.brk ((),())))

def s25_0 (d:sh25_0.data):Option (Out sh25_0.data shb25_0.data shr25_0.data):=(t25_0 d.1.1 d.1.2.1 d.1.2.2.1).val
def l25_0 (d:sh25_0.data):Option (shb25_0.data ⊕ shr25_0.data):=itr s25_0 rounds d
def b25_0 (d:sh25_0.data):shb25_0.data:=outB shb25_0.dflt (l25_0 d)
def r25_0 (d:sh25_0.data):shr25_0.data:=outR shr25_0.dflt (l25_0 d)
def lc25_0:LoopC:=lcOf sh25_0 shb25_0 shr25_0 l25_0 b25_0 r25_0

theorem e25_0_0 (x0:(List Int)) (x1:Int) (x2:Int):runBody kf30.orc Go.Proofs.Try.prog 400 25 0 sh25_0 shb25_0 shr25_0 ((x0,x1,x2,()),()) [tt,tt,tt] =
    (some (.ret (((List.getD x0 (Int.toNat x2) (0:Int):Int),()),()),[(!eqF (List.getD x0 (Int.toNat x2) (0:Int)) (0:Int),true),(decide ((0:Int) ≤ x2) && decide (x2 < (↑(List.length x0):Int)),true),(!leF x1 x2,true)])):=by kernel_rfl
theorem e25_0_1 (x0:(List Int)) (x1:Int) (x2:Int):runBody kf30.orc Go.Proofs.Try.prog 400 25 0 sh25_0 shb25_0 shr25_0 ((x0,x1,x2,()),()) [tt,tt,ff] =
    (some (.again ((x0,(x1,((wrap64 (x2 + (1:Int)):Int),()))),()),[(!eqF (List.getD x0 (Int.toNat x2) (0:Int)) (0:Int),false),(decide ((0:Int) ≤ x2) && decide (x2 < (↑(List.length x0):Int)),true),(!leF x1 x2,true)])):=by kernel_rfl
theorem e25_0_3 (x0:(List Int)) (x1:Int) (x2:Int):runBody kf30.orc Go.Proofs.Try.prog 400 25 0 sh25_0 shb25_0 shr25_0 ((x0,x1,x2,()),()) [ff] =
    (some (.brk ((),()),[(!leF x1 x2,false)])):=by kernel_rfl

theorem ok25_0_t (x0:(List Int)) (x1:Int) (x2:Int):TrOk (BodyRuns Go.Proofs.Try.prog kf30.orc 25 0 sh25_0 shb25_0 shr25_0 ((x0,x1,x2,()),())) (t25_0 x0 x1 x2) :=
  TrOk.ofTest (fun h0=>TrOk.ofTest (fun h1=>TrOk.ofTest (fun h2=>TrOk.ofFin (BodyRuns.of (e25_0_0 x0 x1 x2) (ac h2 (ac h1 (ac h0 All.nil))))) (fun h2=>TrOk.ofFin (BodyRuns.of (e25_0_1 x0 x1 x2) (ac h2 (ac h1 (ac h0 All.nil)))))) (fun h1=>TrOk.ofStop)) (fun h0=>TrOk.ofFin (BodyRuns.of (e25_0_3 x0 x1 x2) (ac h0 All.nil)))

theorem ok25_0:LoopOk Go.Proofs.Try.prog 25 0 lc25_0:=loopOk_of kf30_ok.base (T:=fun (d:sh25_0.data)=>t25_0 d.1.1 d.1.2.1 d.1.2.2.1) (by kernel_rfl) rfl (fun (d:sh25_0.data)=>ok25_0_t d.1.1 d.1.2.1 d.1.2.2.1) (fun _=>rfl)
def kl25_0:Known:=kf30.loop 25 0 lc25_0
theorem kl25_0_ok:KnownOk Go.Proofs.Try.prog kl25_0:=kf30_ok.loop ok25_0

/-! ductility/jack.firstOf -/

abbrev as25:List Ty:=[(.slice (.int .i64))]
abbrev rs25:List Ty:=[(.int .i64)]

def t25 (x0:(List Int)):Tr (Tys.data rs25) :=
  Tr.test (Option.isSome (l25_0 ((x0,((↑(List.length x0):Int),((0:Int),()))),())))
    (Tr.test (isRet (l25_0 ((x0,((↑(List.length x0):Int),((0:Int),()))),())))
      (let r0:(Int×PUnit)×PUnit:=r25_0 ((x0,((↑(List.length x0):Int),((0:Int),()))),());
      Tr.fin ((r0.1.1,())))
      (Tr.fin (((0:Int),()))))
    (Tr.stop)

def f25 (d:Tys.data as25):Option (Tys.data rs25):=(t25 d.1).val
def g25 (d:Tys.data as25):Tys.data rs25:=(f25 d).getD (Tys.dflt rs25)
def p25:PureC:=pcOf as25 rs25 f25 g25

theorem e25_0 (x0:(List Int)):runPure kl25_0.orc Go.Proofs.Try.prog 400 25 as25 rs25 (x0,()) [tt,tt] =
    (let r0:(Int×PUnit)×PUnit:=r25_0 ((x0,((↑(List.length x0):Int),((0:Int),()))),()); some ((r0.1.1,()),[(isRet (l25_0 ((x0,((↑(List.length x0):Int),((0:Int),()))),())),true),(Option.isSome (l25_0 ((x0,((↑(List.length x0):Int),((0:Int),()))),())),true)])):=by kernel_rfl
theorem e25_1 (x0:(List Int)):runPure kl25_0.orc Go.Proofs.Try.prog 400 25 as25 rs25 (x0,()) [tt,ff] =
    (some (((0:Int),()),[(isRet (l25_0 ((x0,((↑(List.length x0):Int),((0:Int),()))),())),false),(Option.isSome (l25_0 ((x0,((↑(List.length x0):Int),((0:Int),()))),())),true)])):=by kernel_rfl

theorem ok25_t (x0:(List Int)):TrOk (PureRuns Go.Proofs.Try.prog kl25_0.orc 25 as25 rs25 (x0,())) (t25 x0) :=
  TrOk.ofTest (fun h0=>TrOk.ofTest (fun h1=>TrOk.ofFin (PureRuns.of (e25_0 x0) (ac h1 (ac h0 All.nil)))) (fun h1=>TrOk.ofFin (PureRuns.of (e25_1 x0) (ac h1 (ac h0 All.nil))))) (fun h0=>TrOk.ofStop)

theorem ok25:PureOk Go.Proofs.Try.prog 25 p25:=pureOk_of kl25_0_ok.base (T:=fun (d:Tys.data as25)=>t25 d.1) (by kernel_rfl) (fun (d:Tys.data as25)=>ok25_t d.1)
def kf25:Known:=kl25_0.func 25 p25
theorem kf25_ok:KnownOk Go.Proofs.Try.prog kf25:=kl25_0_ok.func ok25

/-! ductility/jack.rangeError -/

abbrev as69:List Ty:=[(.int .i64),(.pair (.int .i64) (.pair (.int .i64) .unit))]
abbrev rs69:List Ty:=[(.int .i64)]

def t69 (x0:Int) (x1:Int) (x1':Int):Tr (Tys.data rs69) :=
  Tr.test (Option.isSome (f28 (x0,(([x1,x1']:List Int),()))))
    (let r0:Bool×PUnit:=g28 (x0,(([x1,x1']:List Int),()));
    Tr.test (Option.isSome (f30 (r0.1,((2:Int),()))))
      (Tr.test (Option.isSome (f30 ((!leF x1 x1':Bool),((9:Int),()))))
        (let r1:Int×PUnit:=g30 (r0.1,((2:Int),()));
        let r2:Int×PUnit:=g30 ((!leF x1 x1':Bool),((9:Int),()));
        Tr.test (Option.isSome (f25 (([r1.1,r2.1]:List Int),())))
          (let r3:Int×PUnit:=g25 (([r1.1,r2.1]:List Int),());
          Tr.fin ((r3.1,())))
          (Tr.stop))
        (Tr.stop))
      (Tr.stop))
    (Tr.stop)

def f69 (d:Tys.data as69):Option (Tys.data rs69):=(t69 d.1 d.2.1.1 d.2.1.2.1).val
def g69 (d:Tys.data as69):Tys.data rs69:=(f69 d).getD (Tys.dflt rs69)
def p69:PureC:=pcOf as69 rs69 f69 g69

theorem e69_0 (x0:Int) (x1:Int) (x1':Int):runPure kf25.orc Go.Proofs.Try.prog 400 69 as69 rs69 (x0,(x1,x1',()),()) [tt,tt,tt,tt,tt,tt] =
    (let r0:Bool×PUnit:=g28 (x0,(([x1,x1']:List Int),()));let r1:Int×PUnit:=g30 (r0.1,((2:Int),()));let r2:Int×PUnit:=g30 (!leF x1 x1',((9:Int),()));let r3:Int×PUnit:=g25 (([r1.1,r2.1]:List Int),()); some ((r3.1,()),[(Option.isSome (f25 (([r1.1,r2.1]:List Int),())),true),(true,true),(Option.isSome (f30 (!leF x1 x1',((9:Int),()))),true),(Option.isSome (f30 (r0.1,((2:Int),()))),true),(Option.isSome (f28 (x0,(([x1,x1']:List Int),()))),true),(true,true)])):=by kernel_rfl

theorem ok69_t (x0:Int) (x1:Int) (x1':Int):TrOk (PureRuns Go.Proofs.Try.prog kf25.orc 69 as69 rs69 (x0,(x1,x1',()),())) (t69 x0 x1 x1') :=
  TrOk.ofTest (fun h1=>TrOk.ofTest (fun h2=>TrOk.ofTest (fun h3=>TrOk.ofTest (fun h5=>TrOk.ofFin (PureRuns.of (e69_0 x0 x1 x1') (ac h5 (ac rfl (ac h3 (ac h2 (ac h1 (ac rfl All.nil)))))))) (fun h5=>TrOk.ofStop)) (fun h3=>TrOk.ofStop)) (fun h2=>TrOk.ofStop)) (fun h1=>TrOk.ofStop)

theorem ok69:PureOk Go.Proofs.Try.prog 69 p69:=pureOk_of kf25_ok.base (T:=fun (d:Tys.data as69)=>t69 d.1 d.2.1.1 d.2.1.2.1) (by kernel_rfl) (fun (d:Tys.data as69)=>ok69_t d.1 d.2.1.1 d.2.1.2.1)
def kf69:Known:=kf25.func 69 p69
theorem kf69_ok:KnownOk Go.Proofs.Try.prog kf69:=kf25_ok.func ok69

/-! ductility/jack.CheckRig$1 -/

abbrev as68:List Ty:=[(.int .i64),(.pair (.pair (.int .i64) (.pair (.int .i64) (.pair (.int .i64) (.pair (.int .i64) (.pair (.int .i64) (.pair (.int .i64) .unit)))))) (.pair (.pair (.int .i64) (.pair (.int .i64) .unit)) .unit))]
abbrev rs68:List Ty:=[(.int .i64)]

def t68 (x0:Int) (x1_:Int) (x1_':Int) (x1_'':Int) (x1_''':Int) (x1_'''':Int) (x1_''''':Int) (x1'_:Int) (x1'_':Int):Tr (Tys.data rs68) :=
  Tr.test (Option.isSome (f28 ((2:Int),(([x1_,x1_',x1_'',x1_''',x1_'''',x1_''''']:List Int),()))))
    (let r0:Bool×PUnit:=g28 ((2:Int),(([x1_,x1_',x1_'',x1_''',x1_'''',x1_''''']:List Int),()));
    Tr.test (Option.isSome (f30 (r0.1,((2:Int),()))))
      (Tr.test (Option.isSome (f69 ((200:Int),((x1'_,(x1'_',())),()))))
        (Tr.test (Option.isSome (f30 ((x1_ == (0:Int) && (x1_' == (0:Int) && (x1_'' == (0:Int) && (x1_''' == (0:Int) && (x1_'''' == (0:Int) && (x1_''''' == (0:Int) && true))))):Bool),((11:Int),()))))
          (let r1:Int×PUnit:=g30 (r0.1,((2:Int),()));
          let r2:Int×PUnit:=g69 ((200:Int),((x1'_,(x1'_',())),()));
          let r3:Int×PUnit:=g30 ((x1_ == (0:Int) && (x1_' == (0:Int) && (x1_'' == (0:Int) && (x1_''' == (0:Int) && (x1_'''' == (0:Int) && (x1_''''' == (0:Int) && true))))):Bool),((11:Int),()));
          Tr.test (Option.isSome (f25 (([r1.1,r2.1,r3.1]:List Int),())))
            (let r4:Int×PUnit:=g25 (([r1.1,r2.1,r3.1]:List Int),());
            Tr.fin ((r4.1,())))
            (Tr.stop))
          (Tr.stop))
        (Tr.stop))
      (Tr.stop))
    (Tr.stop)

def f68 (d:Tys.data as68):Option (Tys.data rs68):=(t68 d.1 d.2.1.1.1 d.2.1.1.2.1 d.2.1.1.2.2.1 d.2.1.1.2.2.2.1 d.2.1.1.2.2.2.2.1 d.2.1.1.2.2.2.2.2.1 d.2.1.2.1.1 d.2.1.2.1.2.1).val
def g68 (d:Tys.data as68):Tys.data rs68:=(f68 d).getD (Tys.dflt rs68)
def p68:PureC:=pcOf as68 rs68 f68 g68

theorem e68_0 (x0:Int) (x1_:Int) (x1_':Int) (x1_'':Int) (x1_''':Int) (x1_'''':Int) (x1_''''':Int) (x1'_:Int) (x1'_':Int):runPure kf69.orc Go.Proofs.Try.prog 400 68 as68 rs68 (x0,((x1_,x1_',x1_'',x1_''',x1_'''',x1_''''',()),(x1'_,x1'_',()),()),()) [tt,tt,tt,tt,tt,tt,tt] =
    (let r0:Bool×PUnit:=g28 ((2:Int),(([x1_,x1_',x1_'',x1_''',x1_'''',x1_''''']:List Int),()));let r1:Int×PUnit:=g30 (r0.1,((2:Int),()));let r2:Int×PUnit:=g69 ((200:Int),((x1'_,(x1'_',())),()));let r3:Int×PUnit:=g30 (x1_ == (0:Int) && (x1_' == (0:Int) && (x1_'' == (0:Int) && (x1_''' == (0:Int) && (x1_'''' == (0:Int) && (x1_''''' == (0:Int) && true))))),((11:Int),()));let r4:Int×PUnit:=g25 (([r1.1,r2.1,r3.1]:List Int),()); some ((r4.1,()),[(Option.isSome (f25 (([r1.1,r2.1,r3.1]:List Int),())),true),(true,true),(Option.isSome (f30 (x1_ == (0:Int) && (x1_' == (0:Int) && (x1_'' == (0:Int) && (x1_''' == (0:Int) && (x1_'''' == (0:Int) && (x1_''''' == (0:Int) && true))))),((11:Int),()))),true),(Option.isSome (f69 ((200:Int),((x1'_,(x1'_',())),()))),true),(Option.isSome (f30 (r0.1,((2:Int),()))),true),(Option.isSome (f28 ((2:Int),(([x1_,x1_',x1_'',x1_''',x1_'''',x1_''''']:List Int),()))),true),(true,true)])):=by kernel_rfl

theorem ok68_t (x0:Int) (x1_:Int) (x1_':Int) (x1_'':Int) (x1_''':Int) (x1_'''':Int) (x1_''''':Int) (x1'_:Int) (x1'_':Int):TrOk (PureRuns Go.Proofs.Try.prog kf69.orc 68 as68 rs68 (x0,((x1_,x1_',x1_'',x1_''',x1_'''',x1_''''',()),(x1'_,x1'_',()),()),())) (t68 x0 x1_ x1_' x1_'' x1_''' x1_'''' x1_''''' x1'_ x1'_') :=
  TrOk.ofTest (fun h1=>TrOk.ofTest (fun h2=>TrOk.ofTest (fun h3=>TrOk.ofTest (fun h4=>TrOk.ofTest (fun h6=>TrOk.ofFin (PureRuns.of (e68_0 x0 x1_ x1_' x1_'' x1_''' x1_'''' x1_''''' x1'_ x1'_') (ac h6 (ac rfl (ac h4 (ac h3 (ac h2 (ac h1 (ac rfl All.nil))))))))) (fun h6=>TrOk.ofStop)) (fun h4=>TrOk.ofStop)) (fun h3=>TrOk.ofStop)) (fun h2=>TrOk.ofStop)) (fun h1=>TrOk.ofStop)

theorem ok68:PureOk Go.Proofs.Try.prog 68 p68:=pureOk_of kf69_ok.base (T:=fun (d:Tys.data as68)=>t68 d.1 d.2.1.1.1 d.2.1.1.2.1 d.2.1.1.2.2.1 d.2.1.1.2.2.2.1 d.2.1.1.2.2.2.2.1 d.2.1.1.2.2.2.2.2.1 d.2.1.2.1.1 d.2.1.2.1.2.1) (by kernel_rfl) (fun (d:Tys.data as68)=>ok68_t d.1 d.2.1.1.1 d.2.1.1.2.1 d.2.1.1.2.2.1 d.2.1.1.2.2.2.1 d.2.1.1.2.2.2.2.1 d.2.1.1.2.2.2.2.2.1 d.2.1.2.1.1 d.2.1.2.1.2.1)
def kf68:Known:=kf69.func 68 p68
theorem kf68_ok:KnownOk Go.Proofs.Try.prog kf68:=kf69_ok.func ok68

/-! ductility/jack.countError -/

abbrev as59:List Ty:=[(.int .i64),(.int .i64)]
abbrev rs59:List Ty:=[(.int .i64)]

def t59 (x0:Int) (x1:Int):Tr (Tys.data rs59) :=
  Tr.test (Option.isSome (f30 ((eqF x0 0:Bool),((10:Int),()))))
    (Tr.test (Option.isSome (f30 (!leF x0 x1,((8:Int),()))))
      (let r0:Int×PUnit:=g30 ((eqF x0 0:Bool),((10:Int),()));
      let r1:Int×PUnit:=g30 ((!leF x0 x1:Bool),((8:Int),()));
      Tr.test (Option.isSome (f25 (([r0.1,r1.1]:List Int),())))
        (let r2:Int×PUnit:=g25 (([r0.1,r1.1]:List Int),());
        Tr.fin ((r2.1,())))
        (Tr.stop))
      (Tr.stop))
    (Tr.stop)

def f59 (d:Tys.data as59):Option (Tys.data rs59):=(t59 d.1 d.2.1).val
def g59 (d:Tys.data as59):Tys.data rs59:=(f59 d).getD (Tys.dflt rs59)
def p59:PureC:=pcOf as59 rs59 f59 g59

theorem e59_0 (x0:Int) (x1:Int):runPure kf68.orc Go.Proofs.Try.prog 400 59 as59 rs59 (x0,x1,()) [tt,tt,tt,tt] =
    (let r0:Int×PUnit:=g30 (eqF x0 0,((10:Int),()));let r1:Int×PUnit:=g30 (!leF x0 x1,((8:Int),()));let r2:Int×PUnit:=g25 (([r0.1,r1.1]:List Int),()); some ((r2.1,()),[(Option.isSome (f25 (([r0.1,r1.1]:List Int),())),true),(true,true),(Option.isSome (f30 (!leF x0 x1,((8:Int),()))),true),(Option.isSome (f30 (eqF x0 0,((10:Int),()))),true)])):=by kernel_rfl

theorem ok59_t (x0:Int) (x1:Int):TrOk (PureRuns Go.Proofs.Try.prog kf68.orc 59 as59 rs59 (x0,x1,())) (t59 x0 x1) :=
  TrOk.ofTest (fun h0=>TrOk.ofTest (fun h1=>TrOk.ofTest (fun h3=>TrOk.ofFin (PureRuns.of (e59_0 x0 x1) (ac h3 (ac rfl (ac h1 (ac h0 All.nil)))))) (fun h3=>TrOk.ofStop)) (fun h1=>TrOk.ofStop)) (fun h0=>TrOk.ofStop)

theorem ok59:PureOk Go.Proofs.Try.prog 59 p59:=pureOk_of kf68_ok.base (T:=fun (d:Tys.data as59)=>t59 d.1 d.2.1) (by kernel_rfl) (fun (d:Tys.data as59)=>ok59_t d.1 d.2.1)
def kf59:Known:=kf68.func 59 p59
theorem kf59_ok:KnownOk Go.Proofs.Try.prog kf59:=kf68_ok.func ok59

/-! ductility/jack.checkBox$1 -/

abbrev as81:List Ty:=[(.int .i64),(.pair (.int .i64) (.pair (.int .i64) .unit))]
abbrev rs81:List Ty:=[(.int .i64)]

def t81 (x0:Int) (x1:Int) (x1':Int):Tr (Tys.data rs81) :=
  Tr.test (Option.isSome (f69 ((1000:Int),((x1,(x1',())),()))))
    (let r0:Int×PUnit:=g69 ((1000:Int),((x1,(x1',())),()));
    Tr.fin ((r0.1,())))
    (Tr.stop)

def f81 (d:Tys.data as81):Option (Tys.data rs81):=(t81 d.1 d.2.1.1 d.2.1.2.1).val
def g81 (d:Tys.data as81):Tys.data rs81:=(f81 d).getD (Tys.dflt rs81)
def p81:PureC:=pcOf as81 rs81 f81 g81

theorem e81_0 (x0:Int) (x1:Int) (x1':Int):runPure kf59.orc Go.Proofs.Try.prog 400 81 as81 rs81 (x0,(x1,x1',()),()) [tt] =
    (let r0:Int×PUnit:=g69 ((1000:Int),((x1,(x1',())),())); some ((r0.1,()),[(Option.isSome (f69 ((1000:Int),((x1,(x1',())),()))),true)])):=by kernel_rfl

theorem ok81_t (x0:Int) (x1:Int) (x1':Int):TrOk (PureRuns Go.Proofs.Try.prog kf59.orc 81 as81 rs81 (x0,(x1,x1',()),())) (t81 x0 x1 x1') :=
  TrOk.ofTest (fun h0=>TrOk.ofFin (PureRuns.of (e81_0 x0 x1 x1') (ac h0 All.nil))) (fun h0=>TrOk.ofStop)

theorem ok81:PureOk Go.Proofs.Try.prog 81 p81:=pureOk_of kf59_ok.base (T:=fun (d:Tys.data as81)=>t81 d.1 d.2.1.1 d.2.1.2.1) (by kernel_rfl) (fun (d:Tys.data as81)=>ok81_t d.1 d.2.1.1 d.2.1.2.1)
def kf81:Known:=kf59.func 81 p81
theorem kf81_ok:KnownOk Go.Proofs.Try.prog kf81:=kf59_ok.func ok81

/-! ductility/jack.checkBox -/

abbrev as70:List Ty:=[(.pair (.pair (.int .i64) (.pair (.int .i64) .unit)) (.pair (.pair (.int .i64) (.pair (.int .i64) .unit)) (.pair (.pair (.int .i64) (.pair (.int .i64) .unit)) (.pair (.pair (.int .i64) (.pair (.int .i64) .unit)) (.pair (.pair (.int .i64) (.pair (.int .i64) .unit)) (.pair (.pair (.int .i64) (.pair (.int .i64) .unit)) .unit))))))]
abbrev rs70:List Ty:=[(.int .i64),(.int .i64)]

def t70 (x0_:Int) (x0_':Int) (x0'_:Int) (x0'_':Int) (x0''_:Int) (x0''_':Int) (x0'''_:Int) (x0'''_':Int) (x0''''_:Int) (x0''''_':Int) (x0'''''_:Int) (x0'''''_':Int):Tr (Tys.data rs70) :=
  Tr.test (Option.isSome (f81 ((0:Int),((x0_,(x0_',())),()))))
    (let r0:Int×PUnit:=g81 ((0:Int),((x0_,(x0_',())),()));
    Tr.test ((!eqF r0.1 0:Bool))
      (Tr.fin (((0:Int),(r0.1,()))))
      (Tr.test (Option.isSome (f81 ((1:Int),((x0'_,(x0'_',())),()))))
        (let r1:Int×PUnit:=g81 ((1:Int),((x0'_,(x0'_',())),()));
        Tr.test ((!eqF r1.1 0:Bool))
          (Tr.fin (((1:Int),(r1.1,()))))
          (Tr.test (Option.isSome (f81 ((2:Int),((x0''_,(x0''_',())),()))))
            (let r2:Int×PUnit:=g81 ((2:Int),((x0''_,(x0''_',())),()));
            Tr.test ((!eqF r2.1 0:Bool))
              (Tr.fin (((2:Int),(r2.1,()))))
              (Tr.test (Option.isSome (f81 ((3:Int),((x0'''_,(x0'''_',())),()))))
                (let r3:Int×PUnit:=g81 ((3:Int),((x0'''_,(x0'''_',())),()));
                Tr.test ((!eqF r3.1 0:Bool))
                  (Tr.fin (((3:Int),(r3.1,()))))
                  (Tr.test (Option.isSome (f81 ((4:Int),((x0''''_,(x0''''_',())),()))))
                    (let r4:Int×PUnit:=g81 ((4:Int),((x0''''_,(x0''''_',())),()));
                    Tr.test ((!eqF r4.1 0:Bool))
                      (Tr.fin (((4:Int),(r4.1,()))))
                      (Tr.test (Option.isSome (f81 ((5:Int),((x0'''''_,(x0'''''_',())),()))))
                        (let r5:Int×PUnit:=g81 ((5:Int),((x0'''''_,(x0'''''_',())),()));
                        Tr.test ((!eqF r5.1 0:Bool))
                          (Tr.fin (((5:Int),(r5.1,()))))
                          (Tr.fin (((0:Int),((0:Int),())))))
                        (Tr.stop)))
                    (Tr.stop)))
                (Tr.stop)))
            (Tr.stop)))
        (Tr.stop)))
    (Tr.stop)

def f70 (d:Tys.data as70):Option (Tys.data rs70):=(t70 d.1.1.1 d.1.1.2.1 d.1.2.1.1 d.1.2.1.2.1 d.1.2.2.1.1 d.1.2.2.1.2.1 d.1.2.2.2.1.1 d.1.2.2.2.1.2.1 d.1.2.2.2.2.1.1 d.1.2.2.2.2.1.2.1 d.1.2.2.2.2.2.1.1 d.1.2.2.2.2.2.1.2.1).val
def g70 (d:Tys.data as70):Tys.data rs70:=(f70 d).getD (Tys.dflt rs70)
def p70:PureC:=pcOf as70 rs70 f70 g70

theorem e70_0 (x0_:Int) (x0_':Int) (x0'_:Int) (x0'_':Int) (x0''_:Int) (x0''_':Int) (x0'''_:Int) (x0'''_':Int) (x0''''_:Int) (x0''''_':Int) (x0'''''_:Int) (x0'''''_':Int):runPure kf81.orc Go.Proofs.Try.prog 400 70 as70 rs70 (((x0_,x0_',()),(x0'_,x0'_',()),(x0''_,x0''_',()),(x0'''_,x0'''_',()),(x0''''_,x0''''_',()),(x0'''''_,x0'''''_',()),()),()) [tt,tt,tt,tt] =
    (let r0:Int×PUnit:=g81 ((0:Int),((x0_,(x0_',())),())); some (((0:Int),(r0.1,())),[(!eqF r0.1 0,true),(Option.isSome (f81 ((0:Int),((x0_,(x0_',())),()))),true),(true,true),(true,true)])):=by kernel_rfl
theorem e70_1 (x0_:Int) (x0_':Int) (x0'_:Int) (x0'_':Int) (x0''_:Int) (x0''_':Int) (x0'''_:Int) (x0'''_':Int) (x0''''_:Int) (x0''''_':Int) (x0'''''_:Int) (x0'''''_':Int):runPure kf81.orc Go.Proofs.Try.prog 400 70 as70 rs70 (((x0_,x0_',()),(x0'_,x0'_',()),(x0''_,x0''_',()),(x0'''_,x0'''_',()),(x0''''_,x0''''_',()),(x0'''''_,x0'''''_',()),()),()) [tt,tt,tt,ff,tt,tt,tt,tt] =
    (let r0:Int×PUnit:=g81 ((0:Int),((x0_,(x0_',())),()));let r1:Int×PUnit:=g81 ((1:Int),((x0'_,(x0'_',())),())); some (((1:Int),(r1.1,())),[(!eqF r1.1 0,true),(Option.isSome (f81 ((1:Int),((x0'_,(x0'_',())),()))),true),(true,true),(true,true),(!eqF r0.1 0,false),(Option.isSome (f81 ((0:Int),((x0_,(x0_',())),()))),true),(true,true),(true,true)])):=by kernel_rfl
theorem e70_2 (x0_:Int) (x0_':Int) (x0'_:Int) (x0'_':Int) (x0''_:Int) (x0''_':Int) (x0'''_:Int) (x0'''_':Int) (x0''''_:Int) (x0''''_':Int) (x0'''''_:Int) (x0'''''_':Int):runPure kf81.orc Go.Proofs.Try.prog 400 70 as70 rs70 (((x0_,x0_',()),(x0'_,x0'_',()),(x0''_,x0''_',()),(x0'''_,x0'''_',()),(x0''''_,x0''''_',()),(x0'''''_,x0'''''_',()),()),()) [tt,tt,tt,ff,tt,tt,tt,ff,tt,tt,tt,tt] =
    (let r0:Int×PUnit:=g81 ((0:Int),((x0_,(x0_',())),()));let r1:Int×PUnit:=g81 ((1:Int),((x0'_,(x0'_',())),()));let r2:Int×PUnit:=g81 ((2:Int),((x0''_,(x0''_',())),())); some (((2:Int),(r2.1,())),[(!eqF r2.1 0,true),(Option.isSome (f81 ((2:Int),((x0''_,(x0''_',())),()))),true),(true,true),(true,true),(!eqF r1.1 0,false),(Option.isSome (f81 ((1:Int),((x0'_,(x0'_',())),()))),true),(true,true),(true,true),(!eqF r0.1 0,false),(Option.isSome (f81 ((0:Int),((x0_,(x0_',())),()))),true),(true,true),(true,true)])):=by kernel_rfl
theorem e70_3 (x0_:Int) (x0_':Int) (x0'_:Int) (x0'_':Int) (x0''_:Int) (x0''_':Int) (x0'''_:Int) (x0'''_':Int) (x0''''_:Int) (x0''''_':Int) (x0'''''_:Int) (x0'''''_':Int):runPure kf81.orc Go.Proofs.Try.prog 400 70 as70 rs70 (((x0_,x0_',()),(x0'_,x0'_',()),(x0''_,x0''_',()),(x0'''_,x0'''_',()),(x0''''_,x0''''_',()),(x0'''''_,x0'''''_',()),()),()) [tt,tt,tt,ff,tt,tt,tt,ff,tt,tt,tt,ff,tt,tt,tt,tt] =
    (let r0:Int×PUnit:=g81 ((0:Int),((x0_,(x0_',())),()));let r1:Int×PUnit:=g81 ((1:Int),((x0'_,(x0'_',())),()));let r2:Int×PUnit:=g81 ((2:Int),((x0''_,(x0''_',())),()));let r3:Int×PUnit:=g81 ((3:Int),((x0'''_,(x0'''_',())),())); some (((3:Int),(r3.1,())),[(!eqF r3.1 0,true),(Option.isSome (f81 ((3:Int),((x0'''_,(x0'''_',())),()))),true),(true,true),(true,true),(!eqF r2.1 0,false),(Option.isSome (f81 ((2:Int),((x0''_,(x0''_',())),()))),true),(true,true),(true,true),(!eqF r1.1 0,false),(Option.isSome (f81 ((1:Int),((x0'_,(x0'_',())),()))),true),(true,true),(true,true),(!eqF r0.1 0,false),(Option.isSome (f81 ((0:Int),((x0_,(x0_',())),()))),true),(true,true),(true,true)])):=by kernel_rfl
theorem e70_4 (x0_:Int) (x0_':Int) (x0'_:Int) (x0'_':Int) (x0''_:Int) (x0''_':Int) (x0'''_:Int) (x0'''_':Int) (x0''''_:Int) (x0''''_':Int) (x0'''''_:Int) (x0'''''_':Int):runPure kf81.orc Go.Proofs.Try.prog 400 70 as70 rs70 (((x0_,x0_',()),(x0'_,x0'_',()),(x0''_,x0''_',()),(x0'''_,x0'''_',()),(x0''''_,x0''''_',()),(x0'''''_,x0'''''_',()),()),()) [tt,tt,tt,ff,tt,tt,tt,ff,tt,tt,tt,ff,tt,tt,tt,ff,tt,tt,tt,tt] =
    (let r0:Int×PUnit:=g81 ((0:Int),((x0_,(x0_',())),()));let r1:Int×PUnit:=g81 ((1:Int),((x0'_,(x0'_',())),()));let r2:Int×PUnit:=g81 ((2:Int),((x0''_,(x0''_',())),()));let r3:Int×PUnit:=g81 ((3:Int),((x0'''_,(x0'''_',())),()));let r4:Int×PUnit:=g81 ((4:Int),((x0''''_,(x0''''_',())),())); some (((4:Int),(r4.1,())),[(!eqF r4.1 0,true),(Option.isSome (f81 ((4:Int),((x0''''_,(x0''''_',())),()))),true),(true,true),(true,true),(!eqF r3.1 0,false),(Option.isSome (f81 ((3:Int),((x0'''_,(x0'''_',())),()))),true),(true,true),(true,true),(!eqF r2.1 0,false),(Option.isSome (f81 ((2:Int),((x0''_,(x0''_',())),()))),true),(true,true),(true,true),(!eqF r1.1 0,false),(Option.isSome (f81 ((1:Int),((x0'_,(x0'_',())),()))),true),(true,true),(true,true),(!eqF r0.1 0,false),(Option.isSome (f81 ((0:Int),((x0_,(x0_',())),()))),true),(true,true),(true,true)])):=by kernel_rfl
theorem e70_5 (x0_:Int) (x0_':Int) (x0'_:Int) (x0'_':Int) (x0''_:Int) (x0''_':Int) (x0'''_:Int) (x0'''_':Int) (x0''''_:Int) (x0''''_':Int) (x0'''''_:Int) (x0'''''_':Int):runPure kf81.orc Go.Proofs.Try.prog 400 70 as70 rs70 (((x0_,x0_',()),(x0'_,x0'_',()),(x0''_,x0''_',()),(x0'''_,x0'''_',()),(x0''''_,x0''''_',()),(x0'''''_,x0'''''_',()),()),()) [tt,tt,tt,ff,tt,tt,tt,ff,tt,tt,tt,ff,tt,tt,tt,ff,tt,tt,tt,ff,tt,tt,tt,tt] =
    (let r0:Int×PUnit:=g81 ((0:Int),((x0_,(x0_',())),()));let r1:Int×PUnit:=g81 ((1:Int),((x0'_,(x0'_',())),()));let r2:Int×PUnit:=g81 ((2:Int),((x0''_,(x0''_',())),()));let r3:Int×PUnit:=g81 ((3:Int),((x0'''_,(x0'''_',())),()));let r4:Int×PUnit:=g81 ((4:Int),((x0''''_,(x0''''_',())),()));let r5:Int×PUnit:=g81 ((5:Int),((x0'''''_,(x0'''''_',())),())); some (((5:Int),(r5.1,())),[(!eqF r5.1 0,true),(Option.isSome (f81 ((5:Int),((x0'''''_,(x0'''''_',())),()))),true),(true,true),(true,true),(!eqF r4.1 0,false),(Option.isSome (f81 ((4:Int),((x0''''_,(x0''''_',())),()))),true),(true,true),(true,true),(!eqF r3.1 0,false),(Option.isSome (f81 ((3:Int),((x0'''_,(x0'''_',())),()))),true),(true,true),(true,true),(!eqF r2.1 0,false),(Option.isSome (f81 ((2:Int),((x0''_,(x0''_',())),()))),true),(true,true),(true,true),(!eqF r1.1 0,false),(Option.isSome (f81 ((1:Int),((x0'_,(x0'_',())),()))),true),(true,true),(true,true),(!eqF r0.1 0,false),(Option.isSome (f81 ((0:Int),((x0_,(x0_',())),()))),true),(true,true),(true,true)])):=by kernel_rfl
theorem e70_6 (x0_:Int) (x0_':Int) (x0'_:Int) (x0'_':Int) (x0''_:Int) (x0''_':Int) (x0'''_:Int) (x0'''_':Int) (x0''''_:Int) (x0''''_':Int) (x0'''''_:Int) (x0'''''_':Int):runPure kf81.orc Go.Proofs.Try.prog 400 70 as70 rs70 (((x0_,x0_',()),(x0'_,x0'_',()),(x0''_,x0''_',()),(x0'''_,x0'''_',()),(x0''''_,x0''''_',()),(x0'''''_,x0'''''_',()),()),()) [tt,tt,tt,ff,tt,tt,tt,ff,tt,tt,tt,ff,tt,tt,tt,ff,tt,tt,tt,ff,tt,tt,tt,ff,ff] =
    (let r0:Int×PUnit:=g81 ((0:Int),((x0_,(x0_',())),()));let r1:Int×PUnit:=g81 ((1:Int),((x0'_,(x0'_',())),()));let r2:Int×PUnit:=g81 ((2:Int),((x0''_,(x0''_',())),()));let r3:Int×PUnit:=g81 ((3:Int),((x0'''_,(x0'''_',())),()));let r4:Int×PUnit:=g81 ((4:Int),((x0''''_,(x0''''_',())),()));let r5:Int×PUnit:=g81 ((5:Int),((x0'''''_,(x0'''''_',())),())); some (((0:Int),((0:Int),())),[(false,false),(!eqF r5.1 0,false),(Option.isSome (f81 ((5:Int),((x0'''''_,(x0'''''_',())),()))),true),(true,true),(true,true),(!eqF r4.1 0,false),(Option.isSome (f81 ((4:Int),((x0''''_,(x0''''_',())),()))),true),(true,true),(true,true),(!eqF r3.1 0,false),(Option.isSome (f81 ((3:Int),((x0'''_,(x0'''_',())),()))),true),(true,true),(true,true),(!eqF r2.1 0,false),(Option.isSome (f81 ((2:Int),((x0''_,(x0''_',())),()))),true),(true,true),(true,true),(!eqF r1.1 0,false),(Option.isSome (f81 ((1:Int),((x0'_,(x0'_',())),()))),true),(true,true),(true,true),(!eqF r0.1 0,false),(Option.isSome (f81 ((0:Int),((x0_,(x0_',())),()))),true),(true,true),(true,true)])):=by kernel_rfl

theorem ok70_t (x0_:Int) (x0_':Int) (x0'_:Int) (x0'_':Int) (x0''_:Int) (x0''_':Int) (x0'''_:Int) (x0'''_':Int) (x0''''_:Int) (x0''''_':Int) (x0'''''_:Int) (x0'''''_':Int):TrOk (PureRuns Go.Proofs.Try.prog kf81.orc 70 as70 rs70 (((x0_,x0_',()),(x0'_,x0'_',()),(x0''_,x0''_',()),(x0'''_,x0'''_',()),(x0''''_,x0''''_',()),(x0'''''_,x0'''''_',()),()),())) (t70 x0_ x0_' x0'_ x0'_' x0''_ x0''_' x0'''_ x0'''_' x0''''_ x0''''_' x0'''''_ x0'''''_') :=
  TrOk.ofTest (fun h2=>TrOk.ofTest (fun h3=>TrOk.ofFin (PureRuns.of (e70_0 x0_ x0_' x0'_ x0'_' x0''_ x0''_' x0'''_ x0'''_' x0''''_ x0''''_' x0'''''_ x0'''''_') (ac h3 (ac h2 (ac rfl (ac rfl All.nil)))))) (fun h3=>TrOk.ofTest (fun h6=>TrOk.ofTest (fun h7=>TrOk.ofFin (PureRuns.of (e70_1 x0_ x0_' x0'_ x0'_' x0''_ x0''_' x0'''_ x0'''_' x0''''_ x0''''_' x0'''''_ x0'''''_') (ac h7 (ac h6 (ac rfl (ac rfl (ac h3 (ac h2 (ac rfl (ac rfl All.nil)))))))))) (fun h7=>TrOk.ofTest (fun h10=>TrOk.ofTest (fun h11=>TrOk.ofFin (PureRuns.of (e70_2 x0_ x0_' x0'_ x0'_' x0''_ x0''_' x0'''_ x0'''_' x0''''_ x0''''_' x0'''''_ x0'''''_') (ac h11 (ac h10 (ac rfl (ac rfl (ac h7 (ac h6 (ac rfl (ac rfl (ac h3 (ac h2 (ac rfl (ac rfl All.nil)))))))))))))) (fun h11=>TrOk.ofTest (fun h14=>TrOk.ofTest (fun h15=>TrOk.ofFin (PureRuns.of (e70_3 x0_ x0_' x0'_ x0'_' x0''_ x0''_' x0'''_ x0'''_' x0''''_ x0''''_' x0'''''_ x0'''''_') (ac h15 (ac h14 (ac rfl (ac rfl (ac h11 (ac h10 (ac rfl (ac rfl (ac h7 (ac h6 (ac rfl (ac rfl (ac h3 (ac h2 (ac rfl (ac rfl All.nil)))))))))))))))))) (fun h15=>TrOk.ofTest (fun h18=>TrOk.ofTest (fun h19=>TrOk.ofFin (PureRuns.of (e70_4 x0_ x0_' x0'_ x0'_' x0''_ x0''_' x0'''_ x0'''_' x0''''_ x0''''_' x0'''''_ x0'''''_') (ac h19 (ac h18 (ac rfl (ac rfl (ac h15 (ac h14 (ac rfl (ac rfl (ac h11 (ac h10 (ac rfl (ac rfl (ac h7 (ac h6 (ac rfl (ac rfl (ac h3 (ac h2 (ac rfl (ac rfl All.nil)))))))))))))))))))))) (fun h19=>TrOk.ofTest (fun h22=>TrOk.ofTest (fun h23=>TrOk.ofFin (PureRuns.of (e70_5 x0_ x0_' x0'_ x0'_' x0''_ x0''_' x0'''_ x0'''_' x0''''_ x0''''_' x0'''''_ x0'''''_') (ac h23 (ac h22 (ac rfl (ac rfl (ac h19 (ac h18 (ac rfl (ac rfl (ac h15 (ac h14 (ac rfl (ac rfl (ac h11 (ac h10 (ac rfl (ac rfl (ac h7 (ac h6 (ac rfl (ac rfl (ac h3 (ac h2 (ac rfl (ac rfl All.nil)))))))))))))))))))))))))) (fun h23=>TrOk.ofFin (PureRuns.of (e70_6 x0_ x0_' x0'_ x0'_' x0''_ x0''_' x0'''_ x0'''_' x0''''_ x0''''_' x0'''''_ x0'''''_') (ac rfl (ac h23 (ac h22 (ac rfl (ac rfl (ac h19 (ac h18 (ac rfl (ac rfl (ac h15 (ac h14 (ac rfl (ac rfl (ac h11 (ac h10 (ac rfl (ac rfl (ac h7 (ac h6 (ac rfl (ac rfl (ac h3 (ac h2 (ac rfl (ac rfl All.nil)))))))))))))))))))))))))))) (fun h22=>TrOk.ofStop))) (fun h18=>TrOk.ofStop))) (fun h14=>TrOk.ofStop))) (fun h10=>TrOk.ofStop))) (fun h6=>TrOk.ofStop))) (fun h2=>TrOk.ofStop)

theorem ok70:PureOk Go.Proofs.Try.prog 70 p70:=pureOk_of kf81_ok.base (T:=fun (d:Tys.data as70)=>t70 d.1.1.1 d.1.1.2.1 d.1.2.1.1 d.1.2.1.2.1 d.1.2.2.1.1 d.1.2.2.1.2.1 d.1.2.2.2.1.1 d.1.2.2.2.1.2.1 d.1.2.2.2.2.1.1 d.1.2.2.2.2.1.2.1 d.1.2.2.2.2.2.1.1 d.1.2.2.2.2.2.1.2.1) (by kernel_rfl) (fun (d:Tys.data as70)=>ok70_t d.1.1.1 d.1.1.2.1 d.1.2.1.1 d.1.2.1.2.1 d.1.2.2.1.1 d.1.2.2.1.2.1 d.1.2.2.2.1.1 d.1.2.2.2.1.2.1 d.1.2.2.2.2.1.1 d.1.2.2.2.2.1.2.1 d.1.2.2.2.2.2.1.1 d.1.2.2.2.2.2.1.2.1)
def kf70:Known:=kf81.func 70 p70
theorem kf70_ok:KnownOk Go.Proofs.Try.prog kf70:=kf81_ok.func ok70

/-! loop 0 of ductility/jack.checkItems[ductility/api.JackJack] -/

abbrev sh67_0:Sh:={ n:=25,slots:=[1,9,10,11],pats:=[.fn 68 [],.ty (.slice (.pair (.pair (.int .i64) (.pair (.int .i64) (.pair (.int .i64) (.pair (.int .i64) (.pair (.int .i64) (.pair (.int .i64) .unit)))))) (.pair (.pair (.int .i64) (.pair (.int .i64) .unit)) .unit))),.ty (.int .i64),.ty (.int .i64)],boxes:=[] }
abbrev shb67_0:Sh:={ n:=25,slots:=[],pats:=[],boxes:=[] }
abbrev shr67_0:Sh:={ n:=25,slots:=[4,5],pats:=[.ty (.int .i64),.ty (.int .i64)],boxes:=[] }

def t67_0 (x1:(List ((Int×(Int×(Int×(Int×(Int×(Int×Unit))))))×((Int×(Int×Unit))×Unit)))) (x2:Int) (x3:Int):Tr (Out sh67_0.data shb67_0.data shr67_0.data) :=
  Tr.test ((!leF x2 x3:Bool))
    (Tr.test (decide ((0:Int) ≤ x3) && decide (x3 < (↑(List.length x1):Int)))
      (Tr.test (Option.isSome (f68 (x3,(((((List.getD x1 (Int.toNat x3) (((0:Int),(0:Int),(0:Int),(0:Int),(0:Int),(0:Int),()),((0:Int),(0:Int),()),())).1.1:Int),(((List.getD x1 (Int.toNat x3) (((0:Int),(0:Int),(0:Int),(0:Int),(0:Int),(0:Int),()),((0:Int),(0:Int),()),())).1.2.1:Int),(((List.getD x1 (Int.toNat x3) (((0:Int),(0:Int),(0:Int),(0:Int),(0:Int),(0:Int),()),((0:Int),(0:Int),()),())).1.2.2.1:Int),(((List.getD x1 (Int.toNat x3) (((0:Int),(0:Int),(0:Int),(0:Int),(0:Int),(0:Int),()),((0:Int),(0:Int),()),())).1.2.2.2.1:Int),(((List.getD x1 (Int.toNat x3) (((0:Int),(0:Int),(0:Int),(0:Int),(0:Int),(0:Int),()),((0:Int),(0:Int),()),())).1.2.2.2.2.1:Int),(((List.getD x1 (Int.toNat x3) (((0:Int),(0:Int),(0:Int),(0:Int),(0:Int),(0:Int),()),((0:Int),(0:Int),()),())).1.2.2.2.2.2.1:Int),())))))),((((List.getD x1 (Int.toNat x3) (((0:Int),(0:Int),(0:Int),(0:Int),(0:Int),(0:Int),()),((0:Int),(0:Int),()),())).2.1.1:Int),(((List.getD x1 (Int.toNat x3) (((0:Int),(0:Int),(0:Int),(0:Int),(0:Int),(0:Int),()),((0:Int),(0:Int),()),())).2.1.2.1:Int),())),())),()))))
        (let r0:Int×PUnit:=g68 (x3,(((((List.getD x1 (Int.toNat x3) (((0:Int),(0:Int),(0:Int),(0:Int),(0:Int),(0:Int),()),((0:Int),(0:Int),()),())).1.1:Int),(((List.getD x1 (Int.toNat x3) (((0:Int),(0:Int),(0:Int),(0:Int),(0:Int),(0:Int),()),((0:Int),(0:Int),()),())).1.2.1:Int),(((List.getD x1 (Int.toNat x3) (((0:Int),(0:Int),(0:Int),(0:Int),(0:Int),(0:Int),()),((0:Int),(0:Int),()),())).1.2.2.1:Int),(((List.getD x1 (Int.toNat x3) (((0:Int),(0:Int),(0:Int),(0:Int),(0:Int),(0:Int),()),((0:Int),(0:Int),()),())).1.2.2.2.1:Int),(((List.getD x1 (Int.toNat x3) (((0:Int),(0:Int),(0:Int),(0:Int),(0:Int),(0:Int),()),((0:Int),(0:Int),()),())).1.2.2.2.2.1:Int),(((List.getD x1 (Int.toNat x3) (((0:Int),(0:Int),(0:Int),(0:Int),(0:Int),(0:Int),()),((0:Int),(0:Int),()),())).1.2.2.2.2.2.1:Int),())))))),((((List.getD x1 (Int.toNat x3) (((0:Int),(0:Int),(0:Int),(0:Int),(0:Int),(0:Int),()),((0:Int),(0:Int),()),())).2.1.1:Int),(((List.getD x1 (Int.toNat x3) (((0:Int),(0:Int),(0:Int),(0:Int),(0:Int),(0:Int),()),((0:Int),(0:Int),()),())).2.1.2.1:Int),())),())),()));
        Tr.test ((!eqF r0.1 0:Bool))
          (Tr.fin (.ret ((x3,(r0.1,())),())))
          (Tr.fin (.again ((x1,(x2,((wrap64 (x3 + (1:Int)):Int),()))),()))))
        (Tr.stop))
      (Tr.stop))
    (Tr.fin (.brk ((),())))

def s67_0 (d:sh67_0.data):Option (Out sh67_0.data shb67_0.data shr67_0.data):=(t67_0 d.1.1 d.1.2.1 d.1.2.2.1).val
def l67_0 (d:sh67_0.data):Option (shb67_0.data ⊕ shr67_0.data):=itr s67_0 rounds d
def b67_0 (d:sh67_0.data):shb67_0.data:=outB shb67_0.dflt (l67_0 d)
def r67_0 (d:sh67_0.data):shr67_0.data:=outR shr67_0.dflt (l67_0 d)
def lc67_0:LoopC:=lcOf sh67_0 shb67_0 shr67_0 l67_0 b67_0 r67_0

theorem e67_0_0 (x1:(List ((Int×(Int×(Int×(Int×(Int×(Int×Unit))))))×((Int×(Int×Unit))×Unit)))) (x2:Int) (x3:Int):runBody kf70.orc Go.Proofs.Try.prog 400 67 0 sh67_0 shb67_0 shr67_0 ((x1,x2,x3,()),()) [tt,tt,tt,tt] =
    (let r0:Int×PUnit:=g68 (x3,(((((List.getD x1 (Int.toNat x3) (((0:Int),(0:Int),(0:Int),(0:Int),(0:Int),(0:Int),()),((0:Int),(0:Int),()),())).1.1:Int),(((List.getD x1 (Int.toNat x3) (((0:Int),(0:Int),(0:Int),(0:Int),(0:Int),(0:Int),()),((0:Int),(0:Int),()),())).1.2.1:Int),(((List.getD x1 (Int.toNat x3) (((0:Int),(0:Int),(0:Int),(0:Int),(0:Int),(0:Int),()),((0:Int),(0:Int),()),())).1.2.2.1:Int),(((List.getD x1 (Int.toNat x3) (((0:Int),(0:Int),(0:Int),(0:Int),(0:Int),(0:Int),()),((0:Int),(0:Int),()),())).1.2.2.2.1:Int),(((List.getD x1 (Int.toNat x3) (((0:Int),(0:Int),(0:Int),(0:Int),(0:Int),(0:Int),()),((0:Int),(0:Int),()),())).1.2.2.2.2.1:Int),(((List.getD x1 (Int.toNat x3) (((0:Int),(0:Int),(0:Int),(0:Int),(0:Int),(0:Int),()),((0:Int),(0:Int),()),())).1.2.2.2.2.2.1:Int),())))))),((((List.getD x1 (Int.toNat x3) (((0:Int),(0:Int),(0:Int),(0:Int),(0:Int),(0:Int),()),((0:Int),(0:Int),()),())).2.1.1:Int),(((List.getD x1 (Int.toNat x3) (((0:Int),(0:Int),(0:Int),(0:Int),(0:Int),(0:Int),()),((0:Int),(0:Int),()),())).2.1.2.1:Int),())),())),())); some (.ret ((x3,(r0.1,())),()),[(!eqF r0.1 0,true),(Option.isSome (f68 (x3,(((((List.getD x1 (Int.toNat x3) (((0:Int),(0:Int),(0:Int),(0:Int),(0:Int),(0:Int),()),((0:Int),(0:Int),()),())).1.1:Int),(((List.getD x1 (Int.toNat x3) (((0:Int),(0:Int),(0:Int),(0:Int),(0:Int),(0:Int),()),((0:Int),(0:Int),()),())).1.2.1:Int),(((List.getD x1 (Int.toNat x3) (((0:Int),(0:Int),(0:Int),(0:Int),(0:Int),(0:Int),()),((0:Int),(0:Int),()),())).1.2.2.1:Int),(((List.getD x1 (Int.toNat x3) (((0:Int),(0:Int),(0:Int),(0:Int),(0:Int),(0:Int),()),((0:Int),(0:Int),()),())).1.2.2.2.1:Int),(((List.getD x1 (Int.toNat x3) (((0:Int),(0:Int),(0:Int),(0:Int),(0:Int),(0:Int),()),((0:Int),(0:Int),()),())).1.2.2.2.2.1:Int),(((List.getD x1 (Int.toNat x3) (((0:Int),(0:Int),(0:Int),(0:Int),(0:Int),(0:Int),()),((0:Int),(0:Int),()),())).1.2.2.2.2.2.1:Int),())))))),((((List.getD x1 (Int.toNat x3) (((0:Int),(0:Int),(0:Int),(0:Int),(0:Int),(0:Int),()),((0:Int),(0:Int),()),())).2.1.1:Int),(((List.getD x1 (Int.toNat x3) (((0:Int),(0:Int),(0:Int),(0:Int),(0:Int),(0:Int),()),((0:Int),(0:Int),()),())).2.1.2.1:Int),())),())),()))),true),(decide ((0:Int) ≤ x3) && decide (x3 < (↑(List.length x1):Int)),true),(!leF x2 x3,true)])):=by kernel_rfl
theorem e67_0_1 (x1:(List ((Int×(Int×(Int×(Int×(Int×(Int×Unit))))))×((Int×(Int×Unit))×Unit)))) (x2:Int) (x3:Int):runBody kf70.orc Go.Proofs.Try.prog 400 67 0 sh67_0 shb67_0 shr67_0 ((x1,x2,x3,()),()) [tt,tt,tt,ff] =
    (let r0:Int×PUnit:=g68 (x3,(((((List.getD x1 (Int.toNat x3) (((0:Int),(0:Int),(0:Int),(0:Int),(0:Int),(0:Int),()),((0:Int),(0:Int),()),())).1.1:Int),(((List.getD x1 (Int.toNat x3) (((0:Int),(0:Int),(0:Int),(0:Int),(0:Int),(0:Int),()),((0:Int),(0:Int),()),())).1.2.1:Int),(((List.getD x1 (Int.toNat x3) (((0:Int),(0:Int),(0:Int),(0:Int),(0:Int),(0:Int),()),((0:Int),(0:Int),()),())).1.2.2.1:Int),(((List.getD x1 (Int.toNat x3) (((0:Int),(0:Int),(0:Int),(0:Int),(0:Int),(0:Int),()),((0:Int),(0:Int),()),())).1.2.2.2.1:Int),(((List.getD x1 (Int.toNat x3) (((0:Int),(0:Int),(0:Int),(0:Int),(0:Int),(0:Int),()),((0:Int),(0:Int),()),())).1.2.2.2.2.1:Int),(((List.getD x1 (Int.toNat x3) (((0:Int),(0:Int),(0:Int),(0:Int),(0:Int),(0:Int),()),((0:Int),(0:Int),()),())).1.2.2.2.2.2.1:Int),())))))),((((List.getD x1 (Int.toNat x3) (((0:Int),(0:Int),(0:Int),(0:Int),(0:Int),(0:Int),()),((0:Int),(0:Int),()),())).2.1.1:Int),(((List.getD x1 (Int.toNat x3) (((0:Int),(0:Int),(0:Int),(0:Int),(0:Int),(0:Int),()),((0:Int),(0:Int),()),())).2.1.2.1:Int),())),())),())); some (.again ((x1,(x2,((wrap64 (x3 + (1:Int)):Int),()))),()),[(!eqF r0.1 0,false),(Option.isSome (f68 (x3,(((((List.getD x1 (Int.toNat x3) (((0:Int),(0:Int),(0:Int),(0:Int),(0:Int),(0:Int),()),((0:Int),(0:Int),()),())).1.1:Int),(((List.getD x1 (Int.toNat x3) (((0:Int),(0:Int),(0:Int),(0:Int),(0:Int),(0:Int),()),((0:Int),(0:Int),()),())).1.2.1:Int),(((List.getD x1 (Int.toNat x3) (((0:Int),(0:Int),(0:Int),(0:Int),(0:Int),(0:Int),()),((0:Int),(0:Int),()),())).1.2.2.1:Int),(((List.getD x1 (Int.toNat x3) (((0:Int),(0:Int),(0:Int),(0:Int),(0:Int),(0:Int),()),((0:Int),(0:Int),()),())).1.2.2.2.1:Int),(((List.getD x1 (Int.toNat x3) (((0:Int),(0:Int),(0:Int),(0:Int),(0:Int),(0:Int),()),((0:Int),(0:Int),()),())).1.2.2.2.2.1:Int),(((List.getD x1 (Int.toNat x3) (((0:Int),(0:Int),(0:Int),(0:Int),(0:Int),(0:Int),()),((0:Int),(0:Int),()),())).1.2.2.2.2.2.1:Int),())))))),((((List.getD x1 (Int.toNat x3) (((0:Int),(0:Int),(0:Int),(0:Int),(0:Int),(0:Int),()),((0:Int),(0:Int),()),())).2.1.1:Int),(((List.getD x1 (Int.toNat x3) (((0:Int),(0:Int),(0:Int),(0:Int),(0:Int),(0:Int),()),((0:Int),(0:Int),()),())).2.1.2.1:Int),())),())),()))),true),(decide ((0:Int) ≤ x3) && decide (x3 < (↑(List.length x1):Int)),true),(!leF x2 x3,true)])):=by kernel_rfl
theorem e67_0_3 (x1:(List ((Int×(Int×(Int×(Int×(Int×(Int×Unit))))))×((Int×(Int×Unit))×Unit)))) (x2:Int) (x3:Int):runBody kf70.orc Go.Proofs.Try.prog 400 67 0 sh67_0 shb67_0 shr67_0 ((x1,x2,x3,()),()) [ff] =
    (some (.brk ((),()),[(!leF x2 x3,false)])):=by kernel_rfl

theorem ok67_0_t (x1:(List ((Int×(Int×(Int×(Int×(Int×(Int×Unit))))))×((Int×(Int×Unit))×Unit)))) (x2:Int) (x3:Int):TrOk (BodyRuns Go.Proofs.Try.prog kf70.orc 67 0 sh67_0 shb67_0 shr67_0 ((x1,x2,x3,()),())) (t67_0 x1 x2 x3) :=
  TrOk.ofTest (fun h0=>TrOk.ofTest (fun h1=>TrOk.ofTest (fun h2=>TrOk.ofTest (fun h3=>TrOk.ofFin (BodyRuns.of (e67_0_0 x1 x2 x3) (ac h3 (ac h2 (ac h1 (ac h0 All.nil)))))) (fun h3=>TrOk.ofFin (BodyRuns.of (e67_0_1 x1 x2 x3) (ac h3 (ac h2 (ac h1 (ac h0 All.nil))))))) (fun h2=>TrOk.ofStop)) (fun h1=>TrOk.ofStop)) (fun h0=>TrOk.ofFin (BodyRuns.of (e67_0_3 x1 x2 x3) (ac h0 All.nil)))

theorem ok67_0:LoopOk Go.Proofs.Try.prog 67 0 lc67_0:=loopOk_of kf70_ok.base (T:=fun (d:sh67_0.data)=>t67_0 d.1.1 d.1.2.1 d.1.2.2.1) (by kernel_rfl) rfl (fun (d:sh67_0.data)=>ok67_0_t d.1.1 d.1.2.1 d.1.2.2.1) (fun _=>rfl)
def kl67_0:Known:=kf70.loop 67 0 lc67_0
theorem kl67_0_ok:KnownOk Go.Proofs.Try.prog kl67_0:=kf70_ok.loop ok67_0

/-! ductility/jack.CheckRig -/

abbrev as47:List Ty:=[(.pair (.slice (.pair (.pair (.int .i64) (.pair (.int .i64) (.pair (.int .i64) (.pair (.int .i64) (.pair (.int .i64) (.pair (.int .i64) .unit)))))) (.pair (.pair (.int .i64) (.pair (.int .i64) .unit)) .unit))) (.pair (.pair (.pair (.int .i64) (.pair (.int .i64) .unit)) (.pair (.pair (.int .i64) (.pair (.int .i64) .unit)) (.pair (.pair (.int .i64) (.pair (.int .i64) .unit)) (.pair (.pair (.int .i64) (.pair (.int .i64) .unit)) (.pair (.pair (.int .i64) (.pair (.int .i64) .unit)) (.pair (.pair (.int .i64) (.pair (.int .i64) .unit)) .unit)))))) .unit))]
abbrev rs47:List Ty:=[(.int .i64),(.int .i64)]

def t47 (x0:(List ((Int×(Int×(Int×(Int×(Int×(Int×Unit))))))×((Int×(Int×Unit))×Unit)))) (x0'__:Int) (x0'__':Int) (x0'_'_:Int) (x0'_'_':Int) (x0'_''_:Int) (x0'_''_':Int) (x0'_'''_:Int) (x0'_'''_':Int) (x0'_''''_:Int) (x0'_''''_':Int) (x0'_'''''_:Int) (x0'_'''''_':Int):Tr (Tys.data rs47) :=
  Tr.test (Option.isSome (f59 ((↑(List.length x0):Int),((8:Int),()))))
    (let r0:Int×PUnit:=g59 ((↑(List.length x0):Int),((8:Int),()));
    Tr.test ((!eqF r0.1 0:Bool))
      (Tr.fin (((0:Int),(r0.1,()))))
      (Tr.test (Option.isSome (l67_0 ((x0,((↑(List.length x0):Int),((0:Int),()))),())))
        (Tr.test (isRet (l67_0 ((x0,((↑(List.length x0):Int),((0:Int),()))),())))
          (let r1:(Int×Int×PUnit)×PUnit:=r67_0 ((x0,((↑(List.length x0):Int),((0:Int),()))),());
          Tr.test ((!eqF r1.1.2.1 0:Bool))
            (Tr.fin ((r1.1.1,(r1.1.2.1,()))))
            (Tr.test (Option.isSome (f70 (((x0'__,(x0'__',())),((x0'_'_,(x0'_'_',())),((x0'_''_,(x0'_''_',())),((x0'_'''_,(x0'_'''_',())),((x0'_''''_,(x0'_''''_',())),((x0'_'''''_,(x0'_'''''_',())),())))))),())))
              (let r2:Int×Int×PUnit:=g70 (((x0'__,(x0'__',())),((x0'_'_,(x0'_'_',())),((x0'_''_,(x0'_''_',())),((x0'_'''_,(x0'_'''_',())),((x0'_''''_,(x0'_''''_',())),((x0'_'''''_,(x0'_'''''_',())),())))))),());
              Tr.fin ((r2.1,(r2.2.1,()))))
              (Tr.stop)))
          (Tr.test (Option.isSome (f70 (((x0'__,(x0'__',())),((x0'_'_,(x0'_'_',())),((x0'_''_,(x0'_''_',())),((x0'_'''_,(x0'_'''_',())),((x0'_''''_,(x0'_''''_',())),((x0'_'''''_,(x0'_'''''_',())),())))))),())))
            (let r2:Int×Int×PUnit:=g70 (((x0'__,(x0'__',())),((x0'_'_,(x0'_'_',())),((x0'_''_,(x0'_''_',())),((x0'_'''_,(x0'_'''_',())),((x0'_''''_,(x0'_''''_',())),((x0'_'''''_,(x0'_'''''_',())),())))))),());
            Tr.fin ((r2.1,(r2.2.1,()))))
            (Tr.stop)))
        (Tr.stop)))
    (Tr.stop)

def f47 (d:Tys.data as47):Option (Tys.data rs47):=(t47 d.1.1 d.1.2.1.1.1 d.1.2.1.1.2.1 d.1.2.1.2.1.1 d.1.2.1.2.1.2.1 d.1.2.1.2.2.1.1 d.1.2.1.2.2.1.2.1 d.1.2.1.2.2.2.1.1 d.1.2.1.2.2.2.1.2.1 d.1.2.1.2.2.2.2.1.1 d.1.2.1.2.2.2.2.1.2.1 d.1.2.1.2.2.2.2.2.1.1 d.1.2.1.2.2.2.2.2.1.2.1).val
def g47 (d:Tys.data as47):Tys.data rs47:=(f47 d).getD (Tys.dflt rs47)
def p47:PureC:=pcOf as47 rs47 f47 g47

theorem e47_0 (x0:(List ((Int×(Int×(Int×(Int×(Int×(Int×Unit))))))×((Int×(Int×Unit))×Unit)))) (x0'__:Int) (x0'__':Int) (x0'_'_:Int) (x0'_'_':Int) (x0'_''_:Int) (x0'_''_':Int) (x0'_'''_:Int) (x0'_'''_':Int) (x0'_''''_:Int) (x0'_''''_':Int) (x0'_'''''_:Int) (x0'_'''''_':Int):runPure kl67_0.orc Go.Proofs.Try.prog 400 47 as47 rs47 ((x0,((x0'__,x0'__',()),(x0'_'_,x0'_'_',()),(x0'_''_,x0'_''_',()),(x0'_'''_,x0'_'''_',()),(x0'_''''_,x0'_''''_',()),(x0'_'''''_,x0'_'''''_',()),()),()),()) [tt,tt] =
    (let r0:Int×PUnit:=g59 ((↑(List.length x0):Int),((8:Int),())); some (((0:Int),(r0.1,())),[(!eqF r0.1 0,true),(Option.isSome (f59 ((↑(List.length x0):Int),((8:Int),()))),true)])):=by kernel_rfl
theorem e47_1 (x0:(List ((Int×(Int×(Int×(Int×(Int×(Int×Unit))))))×((Int×(Int×Unit))×Unit)))) (x0'__:Int) (x0'__':Int) (x0'_'_:Int) (x0'_'_':Int) (x0'_''_:Int) (x0'_''_':Int) (x0'_'''_:Int) (x0'_'''_':Int) (x0'_''''_:Int) (x0'_''''_':Int) (x0'_'''''_:Int) (x0'_'''''_':Int):runPure kl67_0.orc Go.Proofs.Try.prog 400 47 as47 rs47 ((x0,((x0'__,x0'__',()),(x0'_'_,x0'_'_',()),(x0'_''_,x0'_''_',()),(x0'_'''_,x0'_'''_',()),(x0'_''''_,x0'_''''_',()),(x0'_'''''_,x0'_'''''_',()),()),()),()) [tt,ff,tt,tt,tt] =
    (let r0:Int×PUnit:=g59 ((↑(List.length x0):Int),((8:Int),()));let r1:(Int×Int×PUnit)×PUnit:=r67_0 ((x0,((↑(List.length x0):Int),((0:Int),()))),()); some ((r1.1.1,(r1.1.2.1,())),[(!eqF r1.1.2.1 0,true),(isRet (l67_0 ((x0,((↑(List.length x0):Int),((0:Int),()))),())),true),(Option.isSome (l67_0 ((x0,((↑(List.length x0):Int),((0:Int),()))),())),true),(!eqF r0.1 0,false),(Option.isSome (f59 ((↑(List.length x0):Int),((8:Int),()))),true)])):=by kernel_rfl
theorem e47_2 (x0:(List ((Int×(Int×(Int×(Int×(Int×(Int×Unit))))))×((Int×(Int×Unit))×Unit)))) (x0'__:Int) (x0'__':Int) (x0'_'_:Int) (x0'_'_':Int) (x0'_''_:Int) (x0'_''_':Int) (x0'_'''_:Int) (x0'_'''_':Int) (x0'_''''_:Int) (x0'_''''_':Int) (x0'_'''''_:Int) (x0'_'''''_':Int):runPure kl67_0.orc Go.Proofs.Try.prog 400 47 as47 rs47 ((x0,((x0'__,x0'__',()),(x0'_'_,x0'_'_',()),(x0'_''_,x0'_''_',()),(x0'_'''_,x0'_'''_',()),(x0'_''''_,x0'_''''_',()),(x0'_'''''_,x0'_'''''_',()),()),()),()) [tt,ff,tt,tt,ff,tt] =
    (let r0:Int×PUnit:=g59 ((↑(List.length x0):Int),((8:Int),()));let r1:(Int×Int×PUnit)×PUnit:=r67_0 ((x0,((↑(List.length x0):Int),((0:Int),()))),());let r2:Int×Int×PUnit:=g70 (((x0'__,(x0'__',())),((x0'_'_,(x0'_'_',())),((x0'_''_,(x0'_''_',())),((x0'_'''_,(x0'_'''_',())),((x0'_''''_,(x0'_''''_',())),((x0'_'''''_,(x0'_'''''_',())),())))))),()); some ((r2.1,(r2.2.1,())),[(Option.isSome (f70 (((x0'__,(x0'__',())),((x0'_'_,(x0'_'_',())),((x0'_''_,(x0'_''_',())),((x0'_'''_,(x0'_'''_',())),((x0'_''''_,(x0'_''''_',())),((x0'_'''''_,(x0'_'''''_',())),())))))),())),true),(!eqF r1.1.2.1 0,false),(isRet (l67_0 ((x0,((↑(List.length x0):Int),((0:Int),()))),())),true),(Option.isSome (l67_0 ((x0,((↑(List.length x0):Int),((0:Int),()))),())),true),(!eqF r0.1 0,false),(Option.isSome (f59 ((↑(List.length x0):Int),((8:Int),()))),true)])):=by kernel_rfl
theorem e47_3 (x0:(List ((Int×(Int×(Int×(Int×(Int×(Int×Unit))))))×((Int×(Int×Unit))×Unit)))) (x0'__:Int) (x0'__':Int) (x0'_'_:Int) (x0'_'_':Int) (x0'_''_:Int) (x0'_''_':Int) (x0'_'''_:Int) (x0'_'''_':Int) (x0'_''''_:Int) (x0'_''''_':Int) (x0'_'''''_:Int) (x0'_'''''_':Int):runPure kl67_0.orc Go.Proofs.Try.prog 400 47 as47 rs47 ((x0,((x0'__,x0'__',()),(x0'_'_,x0'_'_',()),(x0'_''_,x0'_''_',()),(x0'_'''_,x0'_'''_',()),(x0'_''''_,x0'_''''_',()),(x0'_'''''_,x0'_'''''_',()),()),()),()) [tt,ff,tt,ff,ff,tt] =
    (let r0:Int×PUnit:=g59 ((↑(List.length x0):Int),((8:Int),()));let r2:Int×Int×PUnit:=g70 (((x0'__,(x0'__',())),((x0'_'_,(x0'_'_',())),((x0'_''_,(x0'_''_',())),((x0'_'''_,(x0'_'''_',())),((x0'_''''_,(x0'_''''_',())),((x0'_'''''_,(x0'_'''''_',())),())))))),()); some ((r2.1,(r2.2.1,())),[(Option.isSome (f70 (((x0'__,(x0'__',())),((x0'_'_,(x0'_'_',())),((x0'_''_,(x0'_''_',())),((x0'_'''_,(x0'_'''_',())),((x0'_''''_,(x0'_''''_',())),((x0'_'''''_,(x0'_'''''_',())),())))))),())),true),(false,false),(isRet (l67_0 ((x0,((↑(List.length x0):Int),((0:Int),()))),())),false),(Option.isSome (l67_0 ((x0,((↑(List.length x0):Int),((0:Int),()))),())),true),(!eqF r0.1 0,false),(Option.isSome (f59 ((↑(List.length x0):Int),((8:Int),()))),true)])):=by kernel_rfl

theorem ok47_t (x0:(List ((Int×(Int×(Int×(Int×(Int×(Int×Unit))))))×((Int×(Int×Unit))×Unit)))) (x0'__:Int) (x0'__':Int) (x0'_'_:Int) (x0'_'_':Int) (x0'_''_:Int) (x0'_''_':Int) (x0'_'''_:Int) (x0'_'''_':Int) (x0'_''''_:Int) (x0'_''''_':Int) (x0'_'''''_:Int) (x0'_'''''_':Int):TrOk (PureRuns Go.Proofs.Try.prog kl67_0.orc 47 as47 rs47 ((x0,((x0'__,x0'__',()),(x0'_'_,x0'_'_',()),(x0'_''_,x0'_''_',()),(x0'_'''_,x0'_'''_',()),(x0'_''''_,x0'_''''_',()),(x0'_'''''_,x0'_'''''_',()),()),()),())) (t47 x0 x0'__ x0'__' x0'_'_ x0'_'_' x0'_''_ x0'_''_' x0'_'''_ x0'_'''_' x0'_''''_ x0'_''''_' x0'_'''''_ x0'_'''''_') :=
  TrOk.ofTest (fun h0=>TrOk.ofTest (fun h1=>TrOk.ofFin (PureRuns.of (e47_0 x0 x0'__ x0'__' x0'_'_ x0'_'_' x0'_''_ x0'_''_' x0'_'''_ x0'_'''_' x0'_''''_ x0'_''''_' x0'_'''''_ x0'_'''''_') (ac h1 (ac h0 All.nil)))) (fun h1=>TrOk.ofTest (fun h2=>TrOk.ofTest (fun h3=>TrOk.ofTest (fun h4=>TrOk.ofFin (PureRuns.of (e47_1 x0 x0'__ x0'__' x0'_'_ x0'_'_' x0'_''_ x0'_''_' x0'_'''_ x0'_'''_' x0'_''''_ x0'_''''_' x0'_'''''_ x0'_'''''_') (ac h4 (ac h3 (ac h2 (ac h1 (ac h0 All.nil))))))) (fun h4=>TrOk.ofTest (fun h5=>TrOk.ofFin (PureRuns.of (e47_2 x0 x0'__ x0'__' x0'_'_ x0'_'_' x0'_''_ x0'_''_' x0'_'''_ x0'_'''_' x0'_''''_ x0'_''''_' x0'_'''''_ x0'_'''''_') (ac h5 (ac h4 (ac h3 (ac h2 (ac h1 (ac h0 All.nil)))))))) (fun h5=>TrOk.ofStop))) (fun h3=>TrOk.ofTest (fun h5=>TrOk.ofFin (PureRuns.of (e47_3 x0 x0'__ x0'__' x0'_'_ x0'_'_' x0'_''_ x0'_''_' x0'_'''_ x0'_'''_' x0'_''''_ x0'_''''_' x0'_'''''_ x0'_'''''_') (ac h5 (ac rfl (ac h3 (ac h2 (ac h1 (ac h0 All.nil)))))))) (fun h5=>TrOk.ofStop))) (fun h2=>TrOk.ofStop))) (fun h0=>TrOk.ofStop)

theorem ok47:PureOk Go.Proofs.Try.prog 47 p47:=pureOk_of kl67_0_ok.base (T:=fun (d:Tys.data as47)=>t47 d.1.1 d.1.2.1.1.1 d.1.2.1.1.2.1 d.1.2.1.2.1.1 d.1.2.1.2.1.2.1 d.1.2.1.2.2.1.1 d.1.2.1.2.2.1.2.1 d.1.2.1.2.2.2.1.1 d.1.2.1.2.2.2.1.2.1 d.1.2.1.2.2.2.2.1.1 d.1.2.1.2.2.2.2.1.2.1 d.1.2.1.2.2.2.2.2.1.1 d.1.2.1.2.2.2.2.2.1.2.1) (by kernel_rfl) (fun (d:Tys.data as47)=>ok47_t d.1.1 d.1.2.1.1.1 d.1.2.1.1.2.1 d.1.2.1.2.1.1 d.1.2.1.2.1.2.1 d.1.2.1.2.2.1.1 d.1.2.1.2.2.1.2.1 d.1.2.1.2.2.2.1.1 d.1.2.1.2.2.2.1.2.1 d.1.2.1.2.2.2.2.1.1 d.1.2.1.2.2.2.2.1.2.1 d.1.2.1.2.2.2.2.2.1.1 d.1.2.1.2.2.2.2.2.1.2.1)
def kf47:Known:=kl67_0.func 47 p47
theorem kf47_ok:KnownOk Go.Proofs.Try.prog kf47:=kl67_0_ok.func ok47

/-! ductility/jack.rigOf -/

abbrev as23:List Ty:=[(.pair (.slice (.pair (.pair (.int .i64) (.pair (.int .i64) (.pair (.int .i64) (.pair (.int .i64) (.pair (.int .i64) (.pair (.int .i64) .unit)))))) (.pair (.pair (.int .i64) (.pair (.int .i64) .unit)) .unit))) (.pair (.pair (.pair (.int .i64) (.pair (.int .i64) .unit)) (.pair (.pair (.int .i64) (.pair (.int .i64) .unit)) (.pair (.pair (.int .i64) (.pair (.int .i64) .unit)) (.pair (.pair (.int .i64) (.pair (.int .i64) .unit)) (.pair (.pair (.int .i64) (.pair (.int .i64) .unit)) (.pair (.pair (.int .i64) (.pair (.int .i64) .unit)) .unit)))))) .unit))]
abbrev rs23:List Ty:=[(.pair (.pair (.slice (.pair (.pair (.int .i64) (.pair (.int .i64) (.pair (.int .i64) (.pair (.int .i64) (.pair (.int .i64) (.pair (.int .i64) .unit)))))) (.pair (.pair (.int .i64) (.pair (.int .i64) .unit)) .unit))) (.pair (.pair (.pair (.int .i64) (.pair (.int .i64) .unit)) (.pair (.pair (.int .i64) (.pair (.int .i64) .unit)) (.pair (.pair (.int .i64) (.pair (.int .i64) .unit)) (.pair (.pair (.int .i64) (.pair (.int .i64) .unit)) (.pair (.pair (.int .i64) (.pair (.int .i64) .unit)) (.pair (.pair (.int .i64) (.pair (.int .i64) .unit)) .unit)))))) .unit)) .unit),(.int .i64)]

def t23 (x0:(List ((Int×(Int×(Int×(Int×(Int×(Int×Unit))))))×((Int×(Int×Unit))×Unit)))) (x0'__:Int) (x0'__':Int) (x0'_'_:Int) (x0'_'_':Int) (x0'_''_:Int) (x0'_''_':Int) (x0'_'''_:Int) (x0'_'''_':Int) (x0'_''''_:Int) (x0'_''''_':Int) (x0'_'''''_:Int) (x0'_'''''_':Int):Tr (Tys.data rs23) :=
  Tr.test (Option.isSome (f47 ((x0,(((x0'__,(x0'__',())),((x0'_'_,(x0'_'_',())),((x0'_''_,(x0'_''_',())),((x0'_'''_,(x0'_'''_',())),((x0'_''''_,(x0'_''''_',())),((x0'_'''''_,(x0'_'''''_',())),())))))),())),())))
    (let r0:Int×Int×PUnit:=g47 ((x0,(((x0'__,(x0'__',())),((x0'_'_,(x0'_'_',())),((x0'_''_,(x0'_''_',())),((x0'_'''_,(x0'_'''_',())),((x0'_''''_,(x0'_''''_',())),((x0'_'''''_,(x0'_'''''_',())),())))))),())),());
    Tr.test ((!eqF r0.2.1 0:Bool))
      (Tr.fin ((((([]:List ((Int×Int×Int×Int×Int×Int×PUnit)×(Int×Int×PUnit)×PUnit)),((((0:Int),((0:Int),())),(((0:Int),((0:Int),())),(((0:Int),((0:Int),())),(((0:Int),((0:Int),())),(((0:Int),((0:Int),())),(((0:Int),((0:Int),())),())))))),())),()),(r0.2.1,()))))
      (Tr.fin ((((x0,(((x0'__,(x0'__',())),((x0'_'_,(x0'_'_',())),((x0'_''_,(x0'_''_',())),((x0'_'''_,(x0'_'''_',())),((x0'_''''_,(x0'_''''_',())),((x0'_'''''_,(x0'_'''''_',())),())))))),())),()),((0:Int),())))))
    (Tr.stop)

def f23 (d:Tys.data as23):Option (Tys.data rs23):=(t23 d.1.1 d.1.2.1.1.1 d.1.2.1.1.2.1 d.1.2.1.2.1.1 d.1.2.1.2.1.2.1 d.1.2.1.2.2.1.1 d.1.2.1.2.2.1.2.1 d.1.2.1.2.2.2.1.1 d.1.2.1.2.2.2.1.2.1 d.1.2.1.2.2.2.2.1.1 d.1.2.1.2.2.2.2.1.2.1 d.1.2.1.2.2.2.2.2.1.1 d.1.2.1.2.2.2.2.2.1.2.1).val
def g23 (d:Tys.data as23):Tys.data rs23:=(f23 d).getD (Tys.dflt rs23)
def p23:PureC:=pcOf as23 rs23 f23 g23

theorem e23_0 (x0:(List ((Int×(Int×(Int×(Int×(Int×(Int×Unit))))))×((Int×(Int×Unit))×Unit)))) (x0'__:Int) (x0'__':Int) (x0'_'_:Int) (x0'_'_':Int) (x0'_''_:Int) (x0'_''_':Int) (x0'_'''_:Int) (x0'_'''_':Int) (x0'_''''_:Int) (x0'_''''_':Int) (x0'_'''''_:Int) (x0'_'''''_':Int):runPure kf47.orc Go.Proofs.Try.prog 400 23 as23 rs23 ((x0,((x0'__,x0'__',()),(x0'_'_,x0'_'_',()),(x0'_''_,x0'_''_',()),(x0'_'''_,x0'_'''_',()),(x0'_''''_,x0'_''''_',()),(x0'_'''''_,x0'_'''''_',()),()),()),()) [tt,tt] =
    (let r0:Int×Int×PUnit:=g47 ((x0,(((x0'__,(x0'__',())),((x0'_'_,(x0'_'_',())),((x0'_''_,(x0'_''_',())),((x0'_'''_,(x0'_'''_',())),((x0'_''''_,(x0'_''''_',())),((x0'_'''''_,(x0'_'''''_',())),())))))),())),()); some ((((([]:List ((Int×Int×Int×Int×Int×Int×PUnit)×(Int×Int×PUnit)×PUnit)),((((0:Int),((0:Int),())),(((0:Int),((0:Int),())),(((0:Int),((0:Int),())),(((0:Int),((0:Int),())),(((0:Int),((0:Int),())),(((0:Int),((0:Int),())),())))))),())),()),(r0.2.1,())),[(!eqF r0.2.1 0,true),(Option.isSome (f47 ((x0,(((x0'__,(x0'__',())),((x0'_'_,(x0'_'_',())),((x0'_''_,(x0'_''_',())),((x0'_'''_,(x0'_'''_',())),((x0'_''''_,(x0'_''''_',())),((x0'_'''''_,(x0'_'''''_',())),())))))),())),())),true)])):=by kernel_rfl
theorem e23_1 (x0:(List ((Int×(Int×(Int×(Int×(Int×(Int×Unit))))))×((Int×(Int×Unit))×Unit)))) (x0'__:Int) (x0'__':Int) (x0'_'_:Int) (x0'_'_':Int) (x0'_''_:Int) (x0'_''_':Int) (x0'_'''_:Int) (x0'_'''_':Int) (x0'_''''_:Int) (x0'_''''_':Int) (x0'_'''''_:Int) (x0'_'''''_':Int):runPure kf47.orc Go.Proofs.Try.prog 400 23 as23 rs23 ((x0,((x0'__,x0'__',()),(x0'_'_,x0'_'_',()),(x0'_''_,x0'_''_',()),(x0'_'''_,x0'_'''_',()),(x0'_''''_,x0'_''''_',()),(x0'_'''''_,x0'_'''''_',()),()),()),()) [tt,ff] =
    (let r0:Int×Int×PUnit:=g47 ((x0,(((x0'__,(x0'__',())),((x0'_'_,(x0'_'_',())),((x0'_''_,(x0'_''_',())),((x0'_'''_,(x0'_'''_',())),((x0'_''''_,(x0'_''''_',())),((x0'_'''''_,(x0'_'''''_',())),())))))),())),()); some ((((x0,(((x0'__,(x0'__',())),((x0'_'_,(x0'_'_',())),((x0'_''_,(x0'_''_',())),((x0'_'''_,(x0'_'''_',())),((x0'_''''_,(x0'_''''_',())),((x0'_'''''_,(x0'_'''''_',())),())))))),())),()),((0:Int),())),[(!eqF r0.2.1 0,false),(Option.isSome (f47 ((x0,(((x0'__,(x0'__',())),((x0'_'_,(x0'_'_',())),((x0'_''_,(x0'_''_',())),((x0'_'''_,(x0'_'''_',())),((x0'_''''_,(x0'_''''_',())),((x0'_'''''_,(x0'_'''''_',())),())))))),())),())),true)])):=by kernel_rfl

theorem ok23_t (x0:(List ((Int×(Int×(Int×(Int×(Int×(Int×Unit))))))×((Int×(Int×Unit))×Unit)))) (x0'__:Int) (x0'__':Int) (x0'_'_:Int) (x0'_'_':Int) (x0'_''_:Int) (x0'_''_':Int) (x0'_'''_:Int) (x0'_'''_':Int) (x0'_''''_:Int) (x0'_''''_':Int) (x0'_'''''_:Int) (x0'_'''''_':Int):TrOk (PureRuns Go.Proofs.Try.prog kf47.orc 23 as23 rs23 ((x0,((x0'__,x0'__',()),(x0'_'_,x0'_'_',()),(x0'_''_,x0'_''_',()),(x0'_'''_,x0'_'''_',()),(x0'_''''_,x0'_''''_',()),(x0'_'''''_,x0'_'''''_',()),()),()),())) (t23 x0 x0'__ x0'__' x0'_'_ x0'_'_' x0'_''_ x0'_''_' x0'_'''_ x0'_'''_' x0'_''''_ x0'_''''_' x0'_'''''_ x0'_'''''_') :=
  TrOk.ofTest (fun h0=>TrOk.ofTest (fun h1=>TrOk.ofFin (PureRuns.of (e23_0 x0 x0'__ x0'__' x0'_'_ x0'_'_' x0'_''_ x0'_''_' x0'_'''_ x0'_'''_' x0'_''''_ x0'_''''_' x0'_'''''_ x0'_'''''_') (ac h1 (ac h0 All.nil)))) (fun h1=>TrOk.ofFin (PureRuns.of (e23_1 x0 x0'__ x0'__' x0'_'_ x0'_'_' x0'_''_ x0'_''_' x0'_'''_ x0'_'''_' x0'_''''_ x0'_''''_' x0'_'''''_ x0'_'''''_') (ac h1 (ac h0 All.nil))))) (fun h0=>TrOk.ofStop)

theorem ok23:PureOk Go.Proofs.Try.prog 23 p23:=pureOk_of kf47_ok.base (T:=fun (d:Tys.data as23)=>t23 d.1.1 d.1.2.1.1.1 d.1.2.1.1.2.1 d.1.2.1.2.1.1 d.1.2.1.2.1.2.1 d.1.2.1.2.2.1.1 d.1.2.1.2.2.1.2.1 d.1.2.1.2.2.2.1.1 d.1.2.1.2.2.2.1.2.1 d.1.2.1.2.2.2.2.1.1 d.1.2.1.2.2.2.2.1.2.1 d.1.2.1.2.2.2.2.2.1.1 d.1.2.1.2.2.2.2.2.1.2.1) (by kernel_rfl) (fun (d:Tys.data as23)=>ok23_t d.1.1 d.1.2.1.1.1 d.1.2.1.1.2.1 d.1.2.1.2.1.1 d.1.2.1.2.1.2.1 d.1.2.1.2.2.1.1 d.1.2.1.2.2.1.2.1 d.1.2.1.2.2.2.1.1 d.1.2.1.2.2.2.1.2.1 d.1.2.1.2.2.2.2.1.1 d.1.2.1.2.2.2.2.1.2.1 d.1.2.1.2.2.2.2.2.1.1 d.1.2.1.2.2.2.2.2.1.2.1)
def kf23:Known:=kf47.func 23 p23
theorem kf23_ok:KnownOk Go.Proofs.Try.prog kf23:=kf47_ok.func ok23

/-! ductility/jack.RankOf -/

abbrev as8:List Ty:=[(.pair (.slice (.pair (.pair (.int .i64) (.pair (.int .i64) (.pair (.int .i64) (.pair (.int .i64) (.pair (.int .i64) (.pair (.int .i64) .unit)))))) (.pair (.pair (.int .i64) (.pair (.int .i64) .unit)) .unit))) (.pair (.pair (.pair (.int .i64) (.pair (.int .i64) .unit)) (.pair (.pair (.int .i64) (.pair (.int .i64) .unit)) (.pair (.pair (.int .i64) (.pair (.int .i64) .unit)) (.pair (.pair (.int .i64) (.pair (.int .i64) .unit)) (.pair (.pair (.int .i64) (.pair (.int .i64) .unit)) (.pair (.pair (.int .i64) (.pair (.int .i64) .unit)) .unit)))))) .unit))]
abbrev rs8:List Ty:=[(.int .i64),(.int .i64)]

def t8 (x0:(List ((Int×(Int×(Int×(Int×(Int×(Int×Unit))))))×((Int×(Int×Unit))×Unit)))) (x0'__:Int) (x0'__':Int) (x0'_'_:Int) (x0'_'_':Int) (x0'_''_:Int) (x0'_''_':Int) (x0'_'''_:Int) (x0'_'''_':Int) (x0'_''''_:Int) (x0'_''''_':Int) (x0'_'''''_:Int) (x0'_'''''_':Int):Tr (Tys.data rs8) :=
  Tr.test (Option.isSome (f23 ((x0,(((x0'__,(x0'__',())),((x0'_'_,(x0'_'_',())),((x0'_''_,(x0'_''_',())),((x0'_'''_,(x0'_'''_',())),((x0'_''''_,(x0'_''''_',())),((x0'_'''''_,(x0'_'''''_',())),())))))),())),())))
    (let r0:((List ((Int×Int×Int×Int×Int×Int×PUnit)×(Int×Int×PUnit)×PUnit)×((Int×Int×PUnit)×(Int×Int×PUnit)×(Int×Int×PUnit)×(Int×Int×PUnit)×(Int×Int×PUnit)×(Int×Int×PUnit)×PUnit)×PUnit)×PUnit)×Int×PUnit:=g23 ((x0,(((x0'__,(x0'__',())),((x0'_'_,(x0'_'_',())),((x0'_''_,(x0'_''_',())),((x0'_'''_,(x0'_'''_',())),((x0'_''''_,(x0'_''''_',())),((x0'_'''''_,(x0'_'''''_',())),())))))),())),());
    Tr.test ((!eqF r0.2.1 0:Bool))
      (Tr.fin (((0:Int),(r0.2.1,()))))
      (Tr.test (Option.isSome (f24 ((((r0.1.1.1:List ((Int×Int×Int×Int×Int×Int×PUnit)×(Int×Int×PUnit)×PUnit)),(((r0.1.1.2.1.1.1,(r0.1.1.2.1.1.2.1,())),((r0.1.1.2.1.2.1.1,(r0.1.1.2.1.2.1.2.1,())),((r0.1.1.2.1.2.2.1.1,(r0.1.1.2.1.2.2.1.2.1,())),((r0.1.1.2.1.2.2.2.1.1,(r0.1.1.2.1.2.2.2.1.2.1,())),((r0.1.1.2.1.2.2.2.2.1.1,(r0.1.1.2.1.2.2.2.2.1.2.1,())),((r0.1.1.2.1.2.2.2.2.2.1.1,(r0.1.1.2.1.2.2.2.2.2.1.2.1,())),())))))),())),()),())))
        (let r1:Int×PUnit:=g24 ((((r0.1.1.1:List ((Int×Int×Int×Int×Int×Int×PUnit)×(Int×Int×PUnit)×PUnit)),(((r0.1.1.2.1.1.1,(r0.1.1.2.1.1.2.1,())),((r0.1.1.2.1.2.1.1,(r0.1.1.2.1.2.1.2.1,())),((r0.1.1.2.1.2.2.1.1,(r0.1.1.2.1.2.2.1.2.1,())),((r0.1.1.2.1.2.2.2.1.1,(r0.1.1.2.1.2.2.2.1.2.1,())),((r0.1.1.2.1.2.2.2.2.1.1,(r0.1.1.2.1.2.2.2.2.1.2.1,())),((r0.1.1.2.1.2.2.2.2.2.1.1,(r0.1.1.2.1.2.2.2.2.2.1.2.1,())),())))))),())),()),());
        Tr.fin ((r1.1,((0:Int),()))))
        (Tr.stop)))
    (Tr.stop)

def f8 (d:Tys.data as8):Option (Tys.data rs8):=(t8 d.1.1 d.1.2.1.1.1 d.1.2.1.1.2.1 d.1.2.1.2.1.1 d.1.2.1.2.1.2.1 d.1.2.1.2.2.1.1 d.1.2.1.2.2.1.2.1 d.1.2.1.2.2.2.1.1 d.1.2.1.2.2.2.1.2.1 d.1.2.1.2.2.2.2.1.1 d.1.2.1.2.2.2.2.1.2.1 d.1.2.1.2.2.2.2.2.1.1 d.1.2.1.2.2.2.2.2.1.2.1).val
def g8 (d:Tys.data as8):Tys.data rs8:=(f8 d).getD (Tys.dflt rs8)
def p8:PureC:=pcOf as8 rs8 f8 g8

theorem e8_0 (x0:(List ((Int×(Int×(Int×(Int×(Int×(Int×Unit))))))×((Int×(Int×Unit))×Unit)))) (x0'__:Int) (x0'__':Int) (x0'_'_:Int) (x0'_'_':Int) (x0'_''_:Int) (x0'_''_':Int) (x0'_'''_:Int) (x0'_'''_':Int) (x0'_''''_:Int) (x0'_''''_':Int) (x0'_'''''_:Int) (x0'_'''''_':Int):runPure kf23.orc Go.Proofs.Try.prog 400 8 as8 rs8 ((x0,((x0'__,x0'__',()),(x0'_'_,x0'_'_',()),(x0'_''_,x0'_''_',()),(x0'_'''_,x0'_'''_',()),(x0'_''''_,x0'_''''_',()),(x0'_'''''_,x0'_'''''_',()),()),()),()) [tt,tt] =
    (let r0:((List ((Int×Int×Int×Int×Int×Int×PUnit)×(Int×Int×PUnit)×PUnit)×((Int×Int×PUnit)×(Int×Int×PUnit)×(Int×Int×PUnit)×(Int×Int×PUnit)×(Int×Int×PUnit)×(Int×Int×PUnit)×PUnit)×PUnit)×PUnit)×Int×PUnit:=g23 ((x0,(((x0'__,(x0'__',())),((x0'_'_,(x0'_'_',())),((x0'_''_,(x0'_''_',())),((x0'_'''_,(x0'_'''_',())),((x0'_''''_,(x0'_''''_',())),((x0'_'''''_,(x0'_'''''_',())),())))))),())),()); some (((0:Int),(r0.2.1,())),[(!eqF r0.2.1 0,true),(Option.isSome (f23 ((x0,(((x0'__,(x0'__',())),((x0'_'_,(x0'_'_',())),((x0'_''_,(x0'_''_',())),((x0'_'''_,(x0'_'''_',())),((x0'_''''_,(x0'_''''_',())),((x0'_'''''_,(x0'_'''''_',())),())))))),())),())),true)])):=by kernel_rfl
theorem e8_1 (x0:(List ((Int×(Int×(Int×(Int×(Int×(Int×Unit))))))×((Int×(Int×Unit))×Unit)))) (x0'__:Int) (x0'__':Int) (x0'_'_:Int) (x0'_'_':Int) (x0'_''_:Int) (x0'_''_':Int) (x0'_'''_:Int) (x0'_'''_':Int) (x0'_''''_:Int) (x0'_''''_':Int) (x0'_'''''_:Int) (x0'_'''''_':Int):runPure kf23.orc Go.Proofs.Try.prog 400 8 as8 rs8 ((x0,((x0'__,x0'__',()),(x0'_'_,x0'_'_',()),(x0'_''_,x0'_''_',()),(x0'_'''_,x0'_'''_',()),(x0'_''''_,x0'_''''_',()),(x0'_'''''_,x0'_'''''_',()),()),()),()) [tt,ff,tt] =
    (let r0:((List ((Int×Int×Int×Int×Int×Int×PUnit)×(Int×Int×PUnit)×PUnit)×((Int×Int×PUnit)×(Int×Int×PUnit)×(Int×Int×PUnit)×(Int×Int×PUnit)×(Int×Int×PUnit)×(Int×Int×PUnit)×PUnit)×PUnit)×PUnit)×Int×PUnit:=g23 ((x0,(((x0'__,(x0'__',())),((x0'_'_,(x0'_'_',())),((x0'_''_,(x0'_''_',())),((x0'_'''_,(x0'_'''_',())),((x0'_''''_,(x0'_''''_',())),((x0'_'''''_,(x0'_'''''_',())),())))))),())),());let r1:Int×PUnit:=g24 ((((r0.1.1.1:List ((Int×Int×Int×Int×Int×Int×PUnit)×(Int×Int×PUnit)×PUnit)),(((r0.1.1.2.1.1.1,(r0.1.1.2.1.1.2.1,())),((r0.1.1.2.1.2.1.1,(r0.1.1.2.1.2.1.2.1,())),((r0.1.1.2.1.2.2.1.1,(r0.1.1.2.1.2.2.1.2.1,())),((r0.1.1.2.1.2.2.2.1.1,(r0.1.1.2.1.2.2.2.1.2.1,())),((r0.1.1.2.1.2.2.2.2.1.1,(r0.1.1.2.1.2.2.2.2.1.2.1,())),((r0.1.1.2.1.2.2.2.2.2.1.1,(r0.1.1.2.1.2.2.2.2.2.1.2.1,())),())))))),())),()),()); some ((r1.1,((0:Int),())),[(Option.isSome (f24 ((((r0.1.1.1:List ((Int×Int×Int×Int×Int×Int×PUnit)×(Int×Int×PUnit)×PUnit)),(((r0.1.1.2.1.1.1,(r0.1.1.2.1.1.2.1,())),((r0.1.1.2.1.2.1.1,(r0.1.1.2.1.2.1.2.1,())),((r0.1.1.2.1.2.2.1.1,(r0.1.1.2.1.2.2.1.2.1,())),((r0.1.1.2.1.2.2.2.1.1,(r0.1.1.2.1.2.2.2.1.2.1,())),((r0.1.1.2.1.2.2.2.2.1.1,(r0.1.1.2.1.2.2.2.2.1.2.1,())),((r0.1.1.2.1.2.2.2.2.2.1.1,(r0.1.1.2.1.2.2.2.2.2.1.2.1,())),())))))),())),()),())),true),(!eqF r0.2.1 0,false),(Option.isSome (f23 ((x0,(((x0'__,(x0'__',())),((x0'_'_,(x0'_'_',())),((x0'_''_,(x0'_''_',())),((x0'_'''_,(x0'_'''_',())),((x0'_''''_,(x0'_''''_',())),((x0'_'''''_,(x0'_'''''_',())),())))))),())),())),true)])):=by kernel_rfl

theorem ok8_t (x0:(List ((Int×(Int×(Int×(Int×(Int×(Int×Unit))))))×((Int×(Int×Unit))×Unit)))) (x0'__:Int) (x0'__':Int) (x0'_'_:Int) (x0'_'_':Int) (x0'_''_:Int) (x0'_''_':Int) (x0'_'''_:Int) (x0'_'''_':Int) (x0'_''''_:Int) (x0'_''''_':Int) (x0'_'''''_:Int) (x0'_'''''_':Int):TrOk (PureRuns Go.Proofs.Try.prog kf23.orc 8 as8 rs8 ((x0,((x0'__,x0'__',()),(x0'_'_,x0'_'_',()),(x0'_''_,x0'_''_',()),(x0'_'''_,x0'_'''_',()),(x0'_''''_,x0'_''''_',()),(x0'_'''''_,x0'_'''''_',()),()),()),())) (t8 x0 x0'__ x0'__' x0'_'_ x0'_'_' x0'_''_ x0'_''_' x0'_'''_ x0'_'''_' x0'_''''_ x0'_''''_' x0'_'''''_ x0'_'''''_') :=
  TrOk.ofTest (fun h0=>TrOk.ofTest (fun h1=>TrOk.ofFin (PureRuns.of (e8_0 x0 x0'__ x0'__' x0'_'_ x0'_'_' x0'_''_ x0'_''_' x0'_'''_ x0'_'''_' x0'_''''_ x0'_''''_' x0'_'''''_ x0'_'''''_') (ac h1 (ac h0 All.nil)))) (fun h1=>TrOk.ofTest (fun h2=>TrOk.ofFin (PureRuns.of (e8_1 x0 x0'__ x0'__' x0'_'_ x0'_'_' x0'_''_ x0'_''_' x0'_'''_ x0'_'''_' x0'_''''_ x0'_''''_' x0'_'''''_ x0'_'''''_') (ac h2 (ac h1 (ac h0 All.nil))))) (fun h2=>TrOk.ofStop))) (fun h0=>TrOk.ofStop)

theorem ok8:PureOk Go.Proofs.Try.prog 8 p8:=pureOk_of kf23_ok.base (T:=fun (d:Tys.data as8)=>t8 d.1.1 d.1.2.1.1.1 d.1.2.1.1.2.1 d.1.2.1.2.1.1 d.1.2.1.2.1.2.1 d.1.2.1.2.2.1.1 d.1.2.1.2.2.1.2.1 d.1.2.1.2.2.2.1.1 d.1.2.1.2.2.2.1.2.1 d.1.2.1.2.2.2.2.1.1 d.1.2.1.2.2.2.2.1.2.1 d.1.2.1.2.2.2.2.2.1.1 d.1.2.1.2.2.2.2.2.1.2.1) (by kernel_rfl) (fun (d:Tys.data as8)=>ok8_t d.1.1 d.1.2.1.1.1 d.1.2.1.1.2.1 d.1.2.1.2.1.1 d.1.2.1.2.1.2.1 d.1.2.1.2.2.1.1 d.1.2.1.2.2.1.2.1 d.1.2.1.2.2.2.1.1 d.1.2.1.2.2.2.1.2.1 d.1.2.1.2.2.2.2.1.1 d.1.2.1.2.2.2.2.1.2.1 d.1.2.1.2.2.2.2.2.1.1 d.1.2.1.2.2.2.2.2.1.2.1)
def kf8:Known:=kf23.func 8 p8
theorem kf8_ok:KnownOk Go.Proofs.Try.prog kf8:=kf23_ok.func ok8

/-! ductility/jack.fraction -/

abbrev as84:List Ty:=[(.int .i64),(.int .i64)]
abbrev rs84:List Ty:=[(.pair (.int .i64) (.pair (.int .i64) .unit))]

def t84 (x0:Int) (x1:Int):Tr (Tys.data rs84) :=
  Tr.test (Option.isSome (f58 (([x0,x1]:List Int),())))
    (Tr.test (!leF (0:Int) x1)
      (let r0:Int×PUnit:=g58 (([x0,x1]:List Int),());
      Tr.test ((Go.IntKind.wrap Go.IntKind.i64 ((0:Int) - r0.1) == (0:Int):Bool))
        (Tr.stop)
        (Tr.fin ((((Go.IntKind.wrap Go.IntKind.i64 (Int.tdiv x0 (Go.IntKind.wrap Go.IntKind.i64 ((0:Int) - r0.1))):Int),((Go.IntKind.wrap Go.IntKind.i64 (Int.tdiv x1 (Go.IntKind.wrap Go.IntKind.i64 ((0:Int) - r0.1))):Int),())),()))))
      (let r0:Int×PUnit:=g58 (([x0,x1]:List Int),());
      Tr.test ((r0.1 == (0:Int):Bool))
        (Tr.stop)
        (Tr.fin ((((Go.IntKind.wrap Go.IntKind.i64 (Int.tdiv x0 r0.1):Int),((Go.IntKind.wrap Go.IntKind.i64 (Int.tdiv x1 r0.1):Int),())),())))))
    (Tr.stop)

def f84 (d:Tys.data as84):Option (Tys.data rs84):=(t84 d.1 d.2.1).val
def g84 (d:Tys.data as84):Tys.data rs84:=(f84 d).getD (Tys.dflt rs84)
def p84:PureC:=pcOf as84 rs84 f84 g84

theorem e84_1 (x0:Int) (x1:Int):runPure kf8.orc Go.Proofs.Try.prog 400 84 as84 rs84 (x0,x1,()) [tt,tt,tt,ff,ff] =
    (let r0:Int×PUnit:=g58 (([x0,x1]:List Int),()); some ((((Go.IntKind.wrap Go.IntKind.i64 (Int.tdiv x0 (Go.IntKind.wrap Go.IntKind.i64 ((0:Int) - r0.1))):Int),((Go.IntKind.wrap Go.IntKind.i64 (Int.tdiv x1 (Go.IntKind.wrap Go.IntKind.i64 ((0:Int) - r0.1))):Int),())),()),[(Go.IntKind.wrap Go.IntKind.i64 ((0:Int) - r0.1) == (0:Int),false),(Go.IntKind.wrap Go.IntKind.i64 ((0:Int) - r0.1) == (0:Int),false),(!leF (0:Int) x1,true),(Option.isSome (f58 (([x0,x1]:List Int),())),true),(true,true)])):=by kernel_rfl
theorem e84_3 (x0:Int) (x1:Int):runPure kf8.orc Go.Proofs.Try.prog 400 84 as84 rs84 (x0,x1,()) [tt,tt,ff,ff,ff] =
    (let r0:Int×PUnit:=g58 (([x0,x1]:List Int),()); some ((((Go.IntKind.wrap Go.IntKind.i64 (Int.tdiv x0 r0.1):Int),((Go.IntKind.wrap Go.IntKind.i64 (Int.tdiv x1 r0.1):Int),())),()),[(r0.1 == (0:Int),false),(r0.1 == (0:Int),false),(!leF (0:Int) x1,false),(Option.isSome (f58 (([x0,x1]:List Int),())),true),(true,true)])):=by kernel_rfl

theorem ok84_t (x0:Int) (x1:Int):TrOk (PureRuns Go.Proofs.Try.prog kf8.orc 84 as84 rs84 (x0,x1,())) (t84 x0 x1) :=
  TrOk.ofTest (fun h1=>TrOk.ofTest (fun h2=>TrOk.ofTest (fun h3=>TrOk.ofStop) (fun h3=>TrOk.ofFin (PureRuns.of (e84_1 x0 x1) (ac h3 (ac h3 (ac h2 (ac h1 (ac rfl All.nil)))))))) (fun h2=>TrOk.ofTest (fun h3=>TrOk.ofStop) (fun h3=>TrOk.ofFin (PureRuns.of (e84_3 x0 x1) (ac h3 (ac h3 (ac h2 (ac h1 (ac rfl All.nil))))))))) (fun h1=>TrOk.ofStop)

theorem ok84:PureOk Go.Proofs.Try.prog 84 p84:=pureOk_of kf8_ok.base (T:=fun (d:Tys.data as84)=>t84 d.1 d.2.1) (by kernel_rfl) (fun (d:Tys.data as84)=>ok84_t d.1 d.2.1)
def kf84:Known:=kf8.func 84 p84
theorem kf84_ok:KnownOk Go.Proofs.Try.prog kf84:=kf8_ok.func ok84

/-! (ductility/jack.course).turn -/

abbrev as83:List Ty:=[(.pair (.int .i64) (.pair (.int .i64) (.pair (.int .i64) .unit))),(.int .i64)]
abbrev rs83:List Ty:=[(.pair (.int .i64) (.pair (.int .i64) .unit)),.bool]

def t83 (x0:Int) (x0':Int) (x0'':Int) (x1:Int):Tr (Tys.data rs83) :=
  Tr.test ((!leF (0:Int) x0':Bool))
    (Tr.test (!leF (wrap64 (x0' + wrap64 (wrap64 ((2:Int) * x0'') * x1))) (0:Int))
      (Tr.test (Option.isSome (f84 ((wrap64 (wrap64 (wrap64 ((4:Int) * x0'') * x0) - wrap64 (x0' * x0')):Int),((wrap64 ((4:Int) * x0''):Int),()))))
        (let r0:(Int×Int×PUnit)×PUnit:=g84 ((wrap64 (wrap64 (wrap64 ((4:Int) * x0'') * x0) - wrap64 (x0' * x0')):Int),((wrap64 ((4:Int) * x0''):Int),()));
        Tr.fin (((r0.1.1,(r0.1.2.1,())),((true:Bool),()))))
        (Tr.stop))
      (Tr.test ((!leF x0' 0:Bool))
        (Tr.test ((!!leF (0:Int) (wrap64 (x0' + wrap64 (wrap64 ((2:Int) * x0'') * x1))):Bool))
          (Tr.fin ((((0:Int),((0:Int),())),((false:Bool),()))))
          (Tr.test (Option.isSome (f84 ((wrap64 (wrap64 (wrap64 ((4:Int) * x0'') * x0) - wrap64 (x0' * x0')):Int),((wrap64 ((4:Int) * x0''):Int),()))))
            (let r0:(Int×Int×PUnit)×PUnit:=g84 ((wrap64 (wrap64 (wrap64 ((4:Int) * x0'') * x0) - wrap64 (x0' * x0')):Int),((wrap64 ((4:Int) * x0''):Int),()));
            Tr.fin (((r0.1.1,(r0.1.2.1,())),((true:Bool),()))))
            (Tr.stop)))
        (Tr.fin ((((0:Int),((0:Int),())),((false:Bool),()))))))
    (Tr.test (!leF x0' 0)
      (Tr.test ((!!leF (0:Int) (wrap64 (x0' + wrap64 (wrap64 ((2:Int) * x0'') * x1))):Bool))
        (Tr.fin ((((0:Int),((0:Int),())),((false:Bool),()))))
        (Tr.test (Option.isSome (f84 ((wrap64 (wrap64 (wrap64 ((4:Int) * x0'') * x0) - wrap64 (x0' * x0')):Int),((wrap64 ((4:Int) * x0''):Int),()))))
          (let r0:(Int×Int×PUnit)×PUnit:=g84 ((wrap64 (wrap64 (wrap64 ((4:Int) * x0'') * x0) - wrap64 (x0' * x0')):Int),((wrap64 ((4:Int) * x0''):Int),()));
          Tr.fin (((r0.1.1,(r0.1.2.1,())),((true:Bool),()))))
          (Tr.stop)))
      (Tr.fin ((((0:Int),((0:Int),())),((false:Bool),())))))

def f83 (d:Tys.data as83):Option (Tys.data rs83):=(t83 d.1.1 d.1.2.1 d.1.2.2.1 d.2.1).val
def g83 (d:Tys.data as83):Tys.data rs83:=(f83 d).getD (Tys.dflt rs83)
def p83:PureC:=pcOf as83 rs83 f83 g83

theorem e83_0 (x0:Int) (x0':Int) (x0'':Int) (x1:Int):runPure kf84.orc Go.Proofs.Try.prog 400 83 as83 rs83 ((x0,x0',x0'',()),x1,()) [tt,tt,tt,tt,tt,tt,tt,tt,tt,ff,tt] =
    (let r0:(Int×Int×PUnit)×PUnit:=g84 ((wrap64 (wrap64 (wrap64 ((4:Int) * x0'') * x0) - wrap64 (x0' * x0')):Int),((wrap64 ((4:Int) * x0''):Int),())); some (((r0.1.1,(r0.1.2.1,())),(true,())),[(Option.isSome (f84 ((wrap64 (wrap64 (wrap64 ((4:Int) * x0'') * x0) - wrap64 (x0' * x0')):Int),((wrap64 ((4:Int) * x0''):Int),()))),true),(false,false),(!leF (wrap64 (x0' + wrap64 (wrap64 ((2:Int) * x0'') * x1))) (0:Int),true),(!leF (wrap64 (x0' + wrap64 (wrap64 ((2:Int) * x0'') * x1))) (0:Int),true),(!leF (wrap64 (x0' + wrap64 (wrap64 ((2:Int) * x0'') * x1))) (0:Int),true),(!leF (wrap64 (x0' + wrap64 (wrap64 ((2:Int) * x0'') * x1))) (0:Int),true),(!leF (wrap64 (x0' + wrap64 (wrap64 ((2:Int) * x0'') * x1))) (0:Int),true),(!leF (wrap64 (x0' + wrap64 (wrap64 ((2:Int) * x0'') * x1))) (0:Int),true),(!leF (0:Int) x0',true),(!leF (0:Int) x0',true),(!leF (0:Int) x0',true)])):=by kernel_rfl
theorem e83_1 (x0:Int) (x0':Int) (x0'':Int) (x1:Int):runPure kf84.orc Go.Proofs.Try.prog 400 83 as83 rs83 ((x0,x0',x0'',()),x1,()) [tt,tt,tt,ff,ff,ff,ff,tt,tt,ff,tt,ff,tt] =
    (some ((((0:Int),((0:Int),())),(false,())),[(!!leF (0:Int) (wrap64 (x0' + wrap64 (wrap64 ((2:Int) * x0'') * x1))),true),(!leF (wrap64 (x0' + wrap64 (wrap64 ((2:Int) * x0'') * x1))) (0:Int),false),(!leF x0' 0,true),(!leF (wrap64 (x0' + wrap64 (wrap64 ((2:Int) * x0'') * x1))) (0:Int),false),(!leF x0' 0,true),(!leF x0' 0,true),(!leF (wrap64 (x0' + wrap64 (wrap64 ((2:Int) * x0'') * x1))) (0:Int),false),(!leF (wrap64 (x0' + wrap64 (wrap64 ((2:Int) * x0'') * x1))) (0:Int),false),(!leF (wrap64 (x0' + wrap64 (wrap64 ((2:Int) * x0'') * x1))) (0:Int),false),(!leF (wrap64 (x0' + wrap64 (wrap64 ((2:Int) * x0'') * x1))) (0:Int),false),(!leF (0:Int) x0',true),(!leF (0:Int) x0',true),(!leF (0:Int) x0',true)])):=by kernel_rfl
theorem e83_2 (x0:Int) (x0':Int) (x0'':Int) (x1:Int):runPure kf84.orc Go.Proofs.Try.prog 400 83 as83 rs83 ((x0,x0',x0'',()),x1,()) [tt,tt,tt,ff,ff,ff,ff,tt,tt,ff,tt,ff,ff,tt] =
    (let r0:(Int×Int×PUnit)×PUnit:=g84 ((wrap64 (wrap64 (wrap64 ((4:Int) * x0'') * x0) - wrap64 (x0' * x0')):Int),((wrap64 ((4:Int) * x0''):Int),())); some (((r0.1.1,(r0.1.2.1,())),(true,())),[(Option.isSome (f84 ((wrap64 (wrap64 (wrap64 ((4:Int) * x0'') * x0) - wrap64 (x0' * x0')):Int),((wrap64 ((4:Int) * x0''):Int),()))),true),(!!leF (0:Int) (wrap64 (x0' + wrap64 (wrap64 ((2:Int) * x0'') * x1))),false),(!leF (wrap64 (x0' + wrap64 (wrap64 ((2:Int) * x0'') * x1))) (0:Int),false),(!leF x0' 0,true),(!leF (wrap64 (x0' + wrap64 (wrap64 ((2:Int) * x0'') * x1))) (0:Int),false),(!leF x0' 0,true),(!leF x0' 0,true),(!leF (wrap64 (x0' + wrap64 (wrap64 ((2:Int) * x0'') * x1))) (0:Int),false),(!leF (wrap64 (x0' + wrap64 (wrap64 ((2:Int) * x0'') * x1))) (0:Int),false),(!leF (wrap64 (x0' + wrap64 (wrap64 ((2:Int) * x0'') * x1))) (0:Int),false),(!leF (wrap64 (x0' + wrap64 (wrap64 ((2:Int) * x0'') * x1))) (0:Int),false),(!leF (0:Int) x0',true),(!leF (0:Int) x0',true),(!leF (0:Int) x0',true)])):=by kernel_rfl
theorem e83_3 (x0:Int) (x0':Int) (x0'':Int) (x1:Int):runPure kf84.orc Go.Proofs.Try.prog 400 83 as83 rs83 ((x0,x0',x0'',()),x1,()) [tt,tt,tt,ff,ff,ff,ff,ff,ff,ff,ff,ff,tt] =
    (some ((((0:Int),((0:Int),())),(false,())),[(true,true),(!leF (wrap64 (x0' + wrap64 (wrap64 ((2:Int) * x0'') * x1))) (0:Int),false),(!leF x0' 0,false),(!leF (wrap64 (x0' + wrap64 (wrap64 ((2:Int) * x0'') * x1))) (0:Int),false),(!leF x0' 0,false),(!leF x0' 0,false),(!leF (wrap64 (x0' + wrap64 (wrap64 ((2:Int) * x0'') * x1))) (0:Int),false),(!leF (wrap64 (x0' + wrap64 (wrap64 ((2:Int) * x0'') * x1))) (0:Int),false),(!leF (wrap64 (x0' + wrap64 (wrap64 ((2:Int) * x0'') * x1))) (0:Int),false),(!leF (wrap64 (x0' + wrap64 (wrap64 ((2:Int) * x0'') * x1))) (0:Int),false),(!leF (0:Int) x0',true),(!leF (0:Int) x0',true),(!leF (0:Int) x0',true)])):=by kernel_rfl
theorem e83_4 (x0:Int) (x0':Int) (x0'':Int) (x1:Int):runPure kf84.orc Go.Proofs.Try.prog 400 83 as83 rs83 ((x0,x0',x0'',()),x1,()) [ff,ff,ff,ff,ff,ff,ff,tt,tt,ff,tt,ff,tt] =
    (some ((((0:Int),((0:Int),())),(false,())),[(!!leF (0:Int) (wrap64 (x0' + wrap64 (wrap64 ((2:Int) * x0'') * x1))),true),(false,false),(!leF x0' 0,true),(false,false),(!leF x0' 0,true),(!leF x0' 0,true),(false,false),(false,false),(false,false),(false,false),(!leF (0:Int) x0',false),(!leF (0:Int) x0',false),(!leF (0:Int) x0',false)])):=by kernel_rfl
theorem e83_5 (x0:Int) (x0':Int) (x0'':Int) (x1:Int):runPure kf84.orc Go.Proofs.Try.prog 400 83 as83 rs83 ((x0,x0',x0'',()),x1,()) [ff,ff,ff,ff,ff,ff,ff,tt,tt,ff,tt,ff,ff,tt] =
    (let r0:(Int×Int×PUnit)×PUnit:=g84 ((wrap64 (wrap64 (wrap64 ((4:Int) * x0'') * x0) - wrap64 (x0' * x0')):Int),((wrap64 ((4:Int) * x0''):Int),())); some (((r0.1.1,(r0.1.2.1,())),(true,())),[(Option.isSome (f84 ((wrap64 (wrap64 (wrap64 ((4:Int) * x0'') * x0) - wrap64 (x0' * x0')):Int),((wrap64 ((4:Int) * x0''):Int),()))),true),(!!leF (0:Int) (wrap64 (x0' + wrap64 (wrap64 ((2:Int) * x0'') * x1))),false),(false,false),(!leF x0' 0,true),(false,false),(!leF x0' 0,true),(!leF x0' 0,true),(false,false),(false,false),(false,false),(false,false),(!leF (0:Int) x0',false),(!leF (0:Int) x0',false),(!leF (0:Int) x0',false)])):=by kernel_rfl
theorem e83_6 (x0:Int) (x0':Int) (x0'':Int) (x1:Int):runPure kf84.orc Go.Proofs.Try.prog 400 83 as83 rs83 ((x0,x0',x0'',()),x1,()) [ff,ff,ff,ff,ff,ff,ff,ff,ff,ff,ff,ff,tt] =
    (some ((((0:Int),((0:Int),())),(false,())),[(true,true),(false,false),(!leF x0' 0,false),(false,false),(!leF x0' 0,false),(!leF x0' 0,false),(false,false),(false,false),(false,false),(false,false),(!leF (0:Int) x0',false),(!leF (0:Int) x0',false),(!leF (0:Int) x0',false)])):=by kernel_rfl

theorem ok83_t (x0:Int) (x0':Int) (x0'':Int) (x1:Int):TrOk (PureRuns Go.Proofs.Try.prog kf84.orc 83 as83 rs83 ((x0,x0',x0'',()),x1,())) (t83 x0 x0' x0'' x1) :=
  TrOk.ofTest (fun h0=>TrOk.ofTest (fun h3=>TrOk.ofTest (fun h10=>TrOk.ofFin (PureRuns.of (e83_0 x0 x0' x0'' x1) (ac h10 (ac rfl (ac (nn h3) (ac (nn h3) (ac (nn h3) (ac (nn h3) (ac (nn h3) (ac h3 (ac (nn h0) (ac (nn h0) (ac h0 All.nil))))))))))))) (fun h10=>TrOk.ofStop)) (fun h3=>TrOk.ofTest (fun h7=>TrOk.ofTest (fun h12=>TrOk.ofFin (PureRuns.of (e83_1 x0 x0' x0'' x1) (ac h12 (ac (nn h3) (ac (nn h7) (ac (nn h3) (ac (nn h7) (ac h7 (ac (nn h3) (ac (nn h3) (ac (nn h3) (ac h3 (ac (nn h0) (ac (nn h0) (ac h0 All.nil))))))))))))))) (fun h12=>TrOk.ofTest (fun h13=>TrOk.ofFin (PureRuns.of (e83_2 x0 x0' x0'' x1) (ac h13 (ac h12 (ac (nn h3) (ac (nn h7) (ac (nn h3) (ac (nn h7) (ac h7 (ac (nn h3) (ac (nn h3) (ac (nn h3) (ac h3 (ac (nn h0) (ac (nn h0) (ac h0 All.nil)))))))))))))))) (fun h13=>TrOk.ofStop))) (fun h7=>TrOk.ofFin (PureRuns.of (e83_3 x0 x0' x0'' x1) (ac rfl (ac (nn h3) (ac (nn h7) (ac (nn h3) (ac (nn h7) (ac h7 (ac (nn h3) (ac (nn h3) (ac (nn h3) (ac h3 (ac (nn h0) (ac (nn h0) (ac h0 All.nil))))))))))))))))) (fun h0=>TrOk.ofTest (fun h7=>TrOk.ofTest (fun h12=>TrOk.ofFin (PureRuns.of (e83_4 x0 x0' x0'' x1) (ac h12 (ac rfl (ac (nn h7) (ac rfl (ac (nn h7) (ac h7 (ac rfl (ac rfl (ac rfl (ac rfl (ac (nn h0) (ac (nn h0) (ac h0 All.nil))))))))))))))) (fun h12=>TrOk.ofTest (fun h13=>TrOk.ofFin (PureRuns.of (e83_5 x0 x0' x0'' x1) (ac h13 (ac h12 (ac rfl (ac (nn h7) (ac rfl (ac (nn h7) (ac h7 (ac rfl (ac rfl (ac rfl (ac rfl (ac (nn h0) (ac (nn h0) (ac h0 All.nil)))))))))))))))) (fun h13=>TrOk.ofStop))) (fun h7=>TrOk.ofFin (PureRuns.of (e83_6 x0 x0' x0'' x1) (ac rfl (ac rfl (ac (nn h7) (ac rfl (ac (nn h7) (ac h7 (ac rfl (ac rfl (ac rfl (ac rfl (ac (nn h0) (ac (nn h0) (ac h0 All.nil))))))))))))))))

theorem ok83:PureOk Go.Proofs.Try.prog 83 p83:=pureOk_of kf84_ok.base (T:=fun (d:Tys.data as83)=>t83 d.1.1 d.1.2.1 d.1.2.2.1 d.2.1) (by kernel_rfl) (fun (d:Tys.data as83)=>ok83_t d.1.1 d.1.2.1 d.1.2.2.1 d.2.1)
def kf83:Known:=kf84.func 83 p83
theorem kf83_ok:KnownOk Go.Proofs.Try.prog kf83:=kf84_ok.func ok83

/-! ductility/jack.whole -/

abbrev as66:List Ty:=[(.int .i64)]
abbrev rs66:List Ty:=[(.pair (.int .i64) (.pair (.int .i64) .unit))]

def t66 (x0:Int):Tr (Tys.data rs66) :=
  Tr.fin (((x0,((1:Int),())),()))

def f66 (d:Tys.data as66):Option (Tys.data rs66):=(t66 d.1).val
def g66 (d:Tys.data as66):Tys.data rs66:=(f66 d).getD (Tys.dflt rs66)
def p66:PureC:=pcOf as66 rs66 f66 g66

theorem e66_0 (x0:Int):runPure kf83.orc Go.Proofs.Try.prog 400 66 as66 rs66 (x0,()) [] =
    (some (((x0,((1:Int),())),()),[])):=by kernel_rfl

theorem ok66_t (x0:Int):TrOk (PureRuns Go.Proofs.Try.prog kf83.orc 66 as66 rs66 (x0,())) (t66 x0) :=
  TrOk.ofFin (PureRuns.of (e66_0 x0) All.nil)

theorem ok66:PureOk Go.Proofs.Try.prog 66 p66:=pureOk_of kf83_ok.base (T:=fun (d:Tys.data as66)=>t66 d.1) (by kernel_rfl) (fun (d:Tys.data as66)=>ok66_t d.1)
def kf66:Known:=kf83.func 66 p66
theorem kf66_ok:KnownOk Go.Proofs.Try.prog kf66:=kf83_ok.func ok66

end Go.Vm.Mo
