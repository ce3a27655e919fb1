import Derived.Test.YtiodahganfihkaaGreatA4
import Derived.Test.YtiodahganfihkaaGreatA5
import Derived.KernelRfl
import Derived.Test.YtiodahganfihkaaGreatProg
import Derived.Test.YtiodahganfihkaaGreatRsFc
set_option linter.unusedVariables false
set_option linter.unusedSimpArgs false

namespace Go.Vm.Mo
open Go
set_option linter.unusedVariables false

/-! ductility/safety.CheckMachine -/

abbrev as16:List Ty:=[(.pair (.slice .str) (.pair (.slice (.pair .str (.pair (.pair (.slice (.int .i64)) (.pair (.slice (.int .i64)) .unit)) (.pair (.pair (.slice (.int .i64)) (.pair (.slice (.int .i64)) .unit)) .unit)))) (.pair (.slice (.pair (.slice (.int .i64)) (.pair (.slice (.int .i64)) .unit))) .unit)))]
abbrev rs16:List Ty:=[(.int .i64),(.int .i64)]

def t16 (x0:(List ByteArray)) (x0':(List (ByteArray×(((List Int)×((List Int)×Unit))×(((List Int)×((List Int)×Unit))×Unit))))) (x0'':(List ((List Int)×((List Int)×Unit)))):Tr (Tys.data rs16) :=
  Tr.test ((!leF (↑(List.length x0):Int) (8:Int):Bool))
    (Tr.test (Option.isSome (f80 (eqF (↑(List.length x0):Int) (0:Int),((10:Int),()))))
      (Tr.test (Option.isSome (f80 ((true:Bool),((8:Int),()))))
        (let r0:=g80 ((eqF (↑(List.length x0):Int) (0:Int):Bool),((10:Int),()));
        let r1:=g80 ((true:Bool),((8:Int),()));
        Tr.test (Option.isSome (f79 (([r0.1,r1.1]:List Int),())))
          (let r2:=g79 (([r0.1,r1.1]:List Int),());
          Tr.test ((!eqF r2.1 0:Bool))
            (Tr.fin (((0:Int),(r2.1,()))))
            (Tr.test (Option.isSome (l81_0 ((x0,((↑(List.length x0):Int),((0:Int),()))),((x0,(x0',(x0'',()))),()))))
              (Tr.test (isRet (l81_0 ((x0,((↑(List.length x0):Int),((0:Int),()))),((x0,(x0',(x0'',()))),()))))
                (let r3:=r81_0 ((x0,((↑(List.length x0):Int),((0:Int),()))),((x0,(x0',(x0'',()))),()));
                Tr.test ((!eqF r3.1.2.1 0:Bool))
                  (Tr.fin ((r3.1.1,(r3.1.2.1,()))))
                  (Tr.test (isBrk (l16_0 (((r3.2.1.2.1:List (ByteArray×(List Int×List Int×PUnit)×(List Int×List Int×PUnit)×PUnit)),((↑(List.length r3.2.1.2.1):Int),((0:Int),()))),((r3.2.1.1,((r3.2.1.2.1:List (ByteArray×(List Int×List Int×PUnit)×(List Int×List Int×PUnit)×PUnit)),(r3.2.1.2.2.1,()))),(((↑(List.length x0):Int),()),((([]:List ByteArray),()),()))))))
                    (let r5:=b16_0 (((r3.2.1.2.1:List (ByteArray×(List Int×List Int×PUnit)×(List Int×List Int×PUnit)×PUnit)),((↑(List.length r3.2.1.2.1):Int),((0:Int),()))),((r3.2.1.1,((r3.2.1.2.1:List (ByteArray×(List Int×List Int×PUnit)×(List Int×List Int×PUnit)×PUnit)),(r3.2.1.2.2.1,()))),(((↑(List.length x0):Int),()),((([]:List ByteArray),()),()))));
                    Tr.test (Option.isSome (l84_0 (((r5.2.1.2.1:List (ByteArray×(List Int×List Int×PUnit)×(List Int×List Int×PUnit)×PUnit)),((↑(List.length r5.2.1.2.1):Int),((0:Int),()))),((r5.2.2.2.1.1,()),((r5.2.2.1.1,()),())))))
                      (Tr.test (isRet (l84_0 (((r5.2.1.2.1:List (ByteArray×(List Int×List Int×PUnit)×(List Int×List Int×PUnit)×PUnit)),((↑(List.length r5.2.1.2.1):Int),((0:Int),()))),((r5.2.2.2.1.1,()),((r5.2.2.1.1,()),())))))
                        (let r6:=r84_0 (((r5.2.1.2.1:List (ByteArray×(List Int×List Int×PUnit)×(List Int×List Int×PUnit)×PUnit)),((↑(List.length r5.2.1.2.1):Int),((0:Int),()))),((r5.2.2.2.1.1,()),((r5.2.2.1.1,()),())));
                        Tr.test ((!eqF r6.1.2.1 0:Bool))
                          (Tr.fin ((r6.1.1,(r6.1.2.1,()))))
                          (Tr.test (Option.isSome (l87_0 ((r5.2.1.2.2.1,((↑(List.length r5.2.1.2.2.1):Int),((0:Int),()))),((r6.2.2.1.1,()),()))))
                            (Tr.test (isRet (l87_0 ((r5.2.1.2.2.1,((↑(List.length r5.2.1.2.2.1):Int),((0:Int),()))),((r6.2.2.1.1,()),()))))
                              (let r8:=r87_0 ((r5.2.1.2.2.1,((↑(List.length r5.2.1.2.2.1):Int),((0:Int),()))),((r6.2.2.1.1,()),()));
                              Tr.fin ((r8.1.1,(r8.1.2.1,()))))
                              (Tr.fin (((0:Int),((0:Int),())))))
                            (Tr.stop)))
                        (let r7:=b84_0 (((r5.2.1.2.1:List (ByteArray×(List Int×List Int×PUnit)×(List Int×List Int×PUnit)×PUnit)),((↑(List.length r5.2.1.2.1):Int),((0:Int),()))),((r5.2.2.2.1.1,()),((r5.2.2.1.1,()),())));
                        Tr.test (Option.isSome (l87_0 ((r5.2.1.2.2.1,((↑(List.length r5.2.1.2.2.1):Int),((0:Int),()))),((r7.2.2.1.1,()),()))))
                          (Tr.test (isRet (l87_0 ((r5.2.1.2.2.1,((↑(List.length r5.2.1.2.2.1):Int),((0:Int),()))),((r7.2.2.1.1,()),()))))
                            (let r10:=r87_0 ((r5.2.1.2.2.1,((↑(List.length r5.2.1.2.2.1):Int),((0:Int),()))),((r7.2.2.1.1,()),()));
                            Tr.fin ((r10.1.1,(r10.1.2.1,()))))
                            (Tr.fin (((0:Int),((0:Int),())))))
                          (Tr.stop)))
                      (Tr.stop))
                    (Tr.stop)))
                (let r4:=b81_0 ((x0,((↑(List.length x0):Int),((0:Int),()))),((x0,(x0',(x0'',()))),()));
                Tr.test (isBrk (l16_0 (((r4.2.1.2.1:List (ByteArray×(List Int×List Int×PUnit)×(List Int×List Int×PUnit)×PUnit)),((↑(List.length r4.2.1.2.1):Int),((0:Int),()))),((r4.2.1.1,((r4.2.1.2.1:List (ByteArray×(List Int×List Int×PUnit)×(List Int×List Int×PUnit)×PUnit)),(r4.2.1.2.2.1,()))),(((↑(List.length x0):Int),()),((([]:List ByteArray),()),()))))))
                  (let r12:=b16_0 (((r4.2.1.2.1:List (ByteArray×(List Int×List Int×PUnit)×(List Int×List Int×PUnit)×PUnit)),((↑(List.length r4.2.1.2.1):Int),((0:Int),()))),((r4.2.1.1,((r4.2.1.2.1:List (ByteArray×(List Int×List Int×PUnit)×(List Int×List Int×PUnit)×PUnit)),(r4.2.1.2.2.1,()))),(((↑(List.length x0):Int),()),((([]:List ByteArray),()),()))));
                  Tr.test (Option.isSome (l84_0 (((r12.2.1.2.1:List (ByteArray×(List Int×List Int×PUnit)×(List Int×List Int×PUnit)×PUnit)),((↑(List.length r12.2.1.2.1):Int),((0:Int),()))),((r12.2.2.2.1.1,()),((r12.2.2.1.1,()),())))))
                    (Tr.test (isRet (l84_0 (((r12.2.1.2.1:List (ByteArray×(List Int×List Int×PUnit)×(List Int×List Int×PUnit)×PUnit)),((↑(List.length r12.2.1.2.1):Int),((0:Int),()))),((r12.2.2.2.1.1,()),((r12.2.2.1.1,()),())))))
                      (let r13:=r84_0 (((r12.2.1.2.1:List (ByteArray×(List Int×List Int×PUnit)×(List Int×List Int×PUnit)×PUnit)),((↑(List.length r12.2.1.2.1):Int),((0:Int),()))),((r12.2.2.2.1.1,()),((r12.2.2.1.1,()),())));
                      Tr.test ((!eqF r13.1.2.1 0:Bool))
                        (Tr.fin ((r13.1.1,(r13.1.2.1,()))))
                        (Tr.test (Option.isSome (l87_0 ((r12.2.1.2.2.1,((↑(List.length r12.2.1.2.2.1):Int),((0:Int),()))),((r13.2.2.1.1,()),()))))
                          (Tr.test (isRet (l87_0 ((r12.2.1.2.2.1,((↑(List.length r12.2.1.2.2.1):Int),((0:Int),()))),((r13.2.2.1.1,()),()))))
                            (let r15:=r87_0 ((r12.2.1.2.2.1,((↑(List.length r12.2.1.2.2.1):Int),((0:Int),()))),((r13.2.2.1.1,()),()));
                            Tr.fin ((r15.1.1,(r15.1.2.1,()))))
                            (Tr.fin (((0:Int),((0:Int),())))))
                          (Tr.stop)))
                      (let r14:=b84_0 (((r12.2.1.2.1:List (ByteArray×(List Int×List Int×PUnit)×(List Int×List Int×PUnit)×PUnit)),((↑(List.length r12.2.1.2.1):Int),((0:Int),()))),((r12.2.2.2.1.1,()),((r12.2.2.1.1,()),())));
                      Tr.test (Option.isSome (l87_0 ((r12.2.1.2.2.1,((↑(List.length r12.2.1.2.2.1):Int),((0:Int),()))),((r14.2.2.1.1,()),()))))
                        (Tr.test (isRet (l87_0 ((r12.2.1.2.2.1,((↑(List.length r12.2.1.2.2.1):Int),((0:Int),()))),((r14.2.2.1.1,()),()))))
                          (let r17:=r87_0 ((r12.2.1.2.2.1,((↑(List.length r12.2.1.2.2.1):Int),((0:Int),()))),((r14.2.2.1.1,()),()));
                          Tr.fin ((r17.1.1,(r17.1.2.1,()))))
                          (Tr.fin (((0:Int),((0:Int),())))))
                        (Tr.stop)))
                    (Tr.stop))
                  (Tr.stop)))
              (Tr.stop)))
          (Tr.stop))
        (Tr.stop))
      (Tr.stop))
    (Tr.test (!leF (↑(List.length x0'):Int) (10:Int))
      (Tr.test (Option.isSome (f80 ((eqF (↑(List.length x0):Int) (0:Int):Bool),((10:Int),()))))
        (Tr.test (Option.isSome (f80 ((true:Bool),((8:Int),()))))
          (let r0:=g80 ((eqF (↑(List.length x0):Int) (0:Int):Bool),((10:Int),()));
          let r1:=g80 ((true:Bool),((8:Int),()));
          Tr.test (Option.isSome (f79 (([r0.1,r1.1]:List Int),())))
            (let r2:=g79 (([r0.1,r1.1]:List Int),());
            Tr.test ((!eqF r2.1 0:Bool))
              (Tr.fin (((0:Int),(r2.1,()))))
              (Tr.test (Option.isSome (l81_0 ((x0,((↑(List.length x0):Int),((0:Int),()))),((x0,(x0',(x0'',()))),()))))
                (Tr.test (isRet (l81_0 ((x0,((↑(List.length x0):Int),((0:Int),()))),((x0,(x0',(x0'',()))),()))))
                  (let r3:=r81_0 ((x0,((↑(List.length x0):Int),((0:Int),()))),((x0,(x0',(x0'',()))),()));
                  Tr.test ((!eqF r3.1.2.1 0:Bool))
                    (Tr.fin ((r3.1.1,(r3.1.2.1,()))))
                    (Tr.test (isBrk (l16_0 (((r3.2.1.2.1:List (ByteArray×(List Int×List Int×PUnit)×(List Int×List Int×PUnit)×PUnit)),((↑(List.length r3.2.1.2.1):Int),((0:Int),()))),((r3.2.1.1,((r3.2.1.2.1:List (ByteArray×(List Int×List Int×PUnit)×(List Int×List Int×PUnit)×PUnit)),(r3.2.1.2.2.1,()))),(((↑(List.length x0):Int),()),((([]:List ByteArray),()),()))))))
                      (let r5:=b16_0 (((r3.2.1.2.1:List (ByteArray×(List Int×List Int×PUnit)×(List Int×List Int×PUnit)×PUnit)),((↑(List.length r3.2.1.2.1):Int),((0:Int),()))),((r3.2.1.1,((r3.2.1.2.1:List (ByteArray×(List Int×List Int×PUnit)×(List Int×List Int×PUnit)×PUnit)),(r3.2.1.2.2.1,()))),(((↑(List.length x0):Int),()),((([]:List ByteArray),()),()))));
                      Tr.test (Option.isSome (l84_0 (((r5.2.1.2.1:List (ByteArray×(List Int×List Int×PUnit)×(List Int×List Int×PUnit)×PUnit)),((↑(List.length r5.2.1.2.1):Int),((0:Int),()))),((r5.2.2.2.1.1,()),((r5.2.2.1.1,()),())))))
                        (Tr.test (isRet (l84_0 (((r5.2.1.2.1:List (ByteArray×(List Int×List Int×PUnit)×(List Int×List Int×PUnit)×PUnit)),((↑(List.length r5.2.1.2.1):Int),((0:Int),()))),((r5.2.2.2.1.1,()),((r5.2.2.1.1,()),())))))
                          (let r6:=r84_0 (((r5.2.1.2.1:List (ByteArray×(List Int×List Int×PUnit)×(List Int×List Int×PUnit)×PUnit)),((↑(List.length r5.2.1.2.1):Int),((0:Int),()))),((r5.2.2.2.1.1,()),((r5.2.2.1.1,()),())));
                          Tr.test ((!eqF r6.1.2.1 0:Bool))
                            (Tr.fin ((r6.1.1,(r6.1.2.1,()))))
                            (Tr.test (Option.isSome (l87_0 ((r5.2.1.2.2.1,((↑(List.length r5.2.1.2.2.1):Int),((0:Int),()))),((r6.2.2.1.1,()),()))))
                              (Tr.test (isRet (l87_0 ((r5.2.1.2.2.1,((↑(List.length r5.2.1.2.2.1):Int),((0:Int),()))),((r6.2.2.1.1,()),()))))
                                (let r8:=r87_0 ((r5.2.1.2.2.1,((↑(List.length r5.2.1.2.2.1):Int),((0:Int),()))),((r6.2.2.1.1,()),()));
                                Tr.fin ((r8.1.1,(r8.1.2.1,()))))
                                (Tr.fin (((0:Int),((0:Int),())))))
                              (Tr.stop)))
                          (let r7:=b84_0 (((r5.2.1.2.1:List (ByteArray×(List Int×List Int×PUnit)×(List Int×List Int×PUnit)×PUnit)),((↑(List.length r5.2.1.2.1):Int),((0:Int),()))),((r5.2.2.2.1.1,()),((r5.2.2.1.1,()),())));
                          Tr.test (Option.isSome (l87_0 ((r5.2.1.2.2.1,((↑(List.length r5.2.1.2.2.1):Int),((0:Int),()))),((r7.2.2.1.1,()),()))))
                            (Tr.test (isRet (l87_0 ((r5.2.1.2.2.1,((↑(List.length r5.2.1.2.2.1):Int),((0:Int),()))),((r7.2.2.1.1,()),()))))
                              (let r10:=r87_0 ((r5.2.1.2.2.1,((↑(List.length r5.2.1.2.2.1):Int),((0:Int),()))),((r7.2.2.1.1,()),()));
                              Tr.fin ((r10.1.1,(r10.1.2.1,()))))
                              (Tr.fin (((0:Int),((0:Int),())))))
                            (Tr.stop)))
                        (Tr.stop))
                      (Tr.stop)))
                  (let r4:=b81_0 ((x0,((↑(List.length x0):Int),((0:Int),()))),((x0,(x0',(x0'',()))),()));
                  Tr.test (isBrk (l16_0 (((r4.2.1.2.1:List (ByteArray×(List Int×List Int×PUnit)×(List Int×List Int×PUnit)×PUnit)),((↑(List.length r4.2.1.2.1):Int),((0:Int),()))),((r4.2.1.1,((r4.2.1.2.1:List (ByteArray×(List Int×List Int×PUnit)×(List Int×List Int×PUnit)×PUnit)),(r4.2.1.2.2.1,()))),(((↑(List.length x0):Int),()),((([]:List ByteArray),()),()))))))
                    (let r12:=b16_0 (((r4.2.1.2.1:List (ByteArray×(List Int×List Int×PUnit)×(List Int×List Int×PUnit)×PUnit)),((↑(List.length r4.2.1.2.1):Int),((0:Int),()))),((r4.2.1.1,((r4.2.1.2.1:List (ByteArray×(List Int×List Int×PUnit)×(List Int×List Int×PUnit)×PUnit)),(r4.2.1.2.2.1,()))),(((↑(List.length x0):Int),()),((([]:List ByteArray),()),()))));
                    Tr.test (Option.isSome (l84_0 (((r12.2.1.2.1:List (ByteArray×(List Int×List Int×PUnit)×(List Int×List Int×PUnit)×PUnit)),((↑(List.length r12.2.1.2.1):Int),((0:Int),()))),((r12.2.2.2.1.1,()),((r12.2.2.1.1,()),())))))
                      (Tr.test (isRet (l84_0 (((r12.2.1.2.1:List (ByteArray×(List Int×List Int×PUnit)×(List Int×List Int×PUnit)×PUnit)),((↑(List.length r12.2.1.2.1):Int),((0:Int),()))),((r12.2.2.2.1.1,()),((r12.2.2.1.1,()),())))))
                        (let r13:=r84_0 (((r12.2.1.2.1:List (ByteArray×(List Int×List Int×PUnit)×(List Int×List Int×PUnit)×PUnit)),((↑(List.length r12.2.1.2.1):Int),((0:Int),()))),((r12.2.2.2.1.1,()),((r12.2.2.1.1,()),())));
                        Tr.test ((!eqF r13.1.2.1 0:Bool))
                          (Tr.fin ((r13.1.1,(r13.1.2.1,()))))
                          (Tr.test (Option.isSome (l87_0 ((r12.2.1.2.2.1,((↑(List.length r12.2.1.2.2.1):Int),((0:Int),()))),((r13.2.2.1.1,()),()))))
                            (Tr.test (isRet (l87_0 ((r12.2.1.2.2.1,((↑(List.length r12.2.1.2.2.1):Int),((0:Int),()))),((r13.2.2.1.1,()),()))))
                              (let r15:=r87_0 ((r12.2.1.2.2.1,((↑(List.length r12.2.1.2.2.1):Int),((0:Int),()))),((r13.2.2.1.1,()),()));
                              Tr.fin ((r15.1.1,(r15.1.2.1,()))))
                              (Tr.fin (((0:Int),((0:Int),())))))
                            (Tr.stop)))
                        (let r14:=b84_0 (((r12.2.1.2.1:List (ByteArray×(List Int×List Int×PUnit)×(List Int×List Int×PUnit)×PUnit)),((↑(List.length r12.2.1.2.1):Int),((0:Int),()))),((r12.2.2.2.1.1,()),((r12.2.2.1.1,()),())));
                        Tr.test (Option.isSome (l87_0 ((r12.2.1.2.2.1,((↑(List.length r12.2.1.2.2.1):Int),((0:Int),()))),((r14.2.2.1.1,()),()))))
                          (Tr.test (isRet (l87_0 ((r12.2.1.2.2.1,((↑(List.length r12.2.1.2.2.1):Int),((0:Int),()))),((r14.2.2.1.1,()),()))))
                            (let r17:=r87_0 ((r12.2.1.2.2.1,((↑(List.length r12.2.1.2.2.1):Int),((0:Int),()))),((r14.2.2.1.1,()),()));
                            Tr.fin ((r17.1.1,(r17.1.2.1,()))))
                            (Tr.fin (((0:Int),((0:Int),())))))
                          (Tr.stop)))
                      (Tr.stop))
                    (Tr.stop)))
                (Tr.stop)))
            (Tr.stop))
          (Tr.stop))
        (Tr.stop))
      (Tr.test (Option.isSome (f80 ((eqF (↑(List.length x0):Int) (0:Int):Bool),((10:Int),()))))
        (Tr.test (Option.isSome (f80 ((!leF (↑(List.length x0''):Int) (4:Int):Bool),((8:Int),()))))
          (let r0:=g80 ((eqF (↑(List.length x0):Int) (0:Int):Bool),((10:Int),()));
          let r19:=g80 ((!leF (↑(List.length x0''):Int) (4:Int):Bool),((8:Int),()));
          Tr.test (Option.isSome (f79 (([r0.1,r19.1]:List Int),())))
            (let r20:=g79 (([r0.1,r19.1]:List Int),());
            Tr.test ((!eqF r20.1 0:Bool))
              (Tr.fin (((0:Int),(r20.1,()))))
              (Tr.test (Option.isSome (l81_0 ((x0,((↑(List.length x0):Int),((0:Int),()))),((x0,(x0',(x0'',()))),()))))
                (Tr.test (isRet (l81_0 ((x0,((↑(List.length x0):Int),((0:Int),()))),((x0,(x0',(x0'',()))),()))))
                  (let r3:=r81_0 ((x0,((↑(List.length x0):Int),((0:Int),()))),((x0,(x0',(x0'',()))),()));
                  Tr.test ((!eqF r3.1.2.1 0:Bool))
                    (Tr.fin ((r3.1.1,(r3.1.2.1,()))))
                    (Tr.test (isBrk (l16_0 (((r3.2.1.2.1:List (ByteArray×(List Int×List Int×PUnit)×(List Int×List Int×PUnit)×PUnit)),((↑(List.length r3.2.1.2.1):Int),((0:Int),()))),((r3.2.1.1,((r3.2.1.2.1:List (ByteArray×(List Int×List Int×PUnit)×(List Int×List Int×PUnit)×PUnit)),(r3.2.1.2.2.1,()))),(((↑(List.length x0):Int),()),((([]:List ByteArray),()),()))))))
                      (let r5:=b16_0 (((r3.2.1.2.1:List (ByteArray×(List Int×List Int×PUnit)×(List Int×List Int×PUnit)×PUnit)),((↑(List.length r3.2.1.2.1):Int),((0:Int),()))),((r3.2.1.1,((r3.2.1.2.1:List (ByteArray×(List Int×List Int×PUnit)×(List Int×List Int×PUnit)×PUnit)),(r3.2.1.2.2.1,()))),(((↑(List.length x0):Int),()),((([]:List ByteArray),()),()))));
                      Tr.test (Option.isSome (l84_0 (((r5.2.1.2.1:List (ByteArray×(List Int×List Int×PUnit)×(List Int×List Int×PUnit)×PUnit)),((↑(List.length r5.2.1.2.1):Int),((0:Int),()))),((r5.2.2.2.1.1,()),((r5.2.2.1.1,()),())))))
                        (Tr.test (isRet (l84_0 (((r5.2.1.2.1:List (ByteArray×(List Int×List Int×PUnit)×(List Int×List Int×PUnit)×PUnit)),((↑(List.length r5.2.1.2.1):Int),((0:Int),()))),((r5.2.2.2.1.1,()),((r5.2.2.1.1,()),())))))
                          (let r6:=r84_0 (((r5.2.1.2.1:List (ByteArray×(List Int×List Int×PUnit)×(List Int×List Int×PUnit)×PUnit)),((↑(List.length r5.2.1.2.1):Int),((0:Int),()))),((r5.2.2.2.1.1,()),((r5.2.2.1.1,()),())));
                          Tr.test ((!eqF r6.1.2.1 0:Bool))
                            (Tr.fin ((r6.1.1,(r6.1.2.1,()))))
                            (Tr.test (Option.isSome (l87_0 ((r5.2.1.2.2.1,((↑(List.length r5.2.1.2.2.1):Int),((0:Int),()))),((r6.2.2.1.1,()),()))))
                              (Tr.test (isRet (l87_0 ((r5.2.1.2.2.1,((↑(List.length r5.2.1.2.2.1):Int),((0:Int),()))),((r6.2.2.1.1,()),()))))
                                (let r8:=r87_0 ((r5.2.1.2.2.1,((↑(List.length r5.2.1.2.2.1):Int),((0:Int),()))),((r6.2.2.1.1,()),()));
                                Tr.fin ((r8.1.1,(r8.1.2.1,()))))
                                (Tr.fin (((0:Int),((0:Int),())))))
                              (Tr.stop)))
                          (let r7:=b84_0 (((r5.2.1.2.1:List (ByteArray×(List Int×List Int×PUnit)×(List Int×List Int×PUnit)×PUnit)),((↑(List.length r5.2.1.2.1):Int),((0:Int),()))),((r5.2.2.2.1.1,()),((r5.2.2.1.1,()),())));
                          Tr.test (Option.isSome (l87_0 ((r5.2.1.2.2.1,((↑(List.length r5.2.1.2.2.1):Int),((0:Int),()))),((r7.2.2.1.1,()),()))))
                            (Tr.test (isRet (l87_0 ((r5.2.1.2.2.1,((↑(List.length r5.2.1.2.2.1):Int),((0:Int),()))),((r7.2.2.1.1,()),()))))
                              (let r10:=r87_0 ((r5.2.1.2.2.1,((↑(List.length r5.2.1.2.2.1):Int),((0:Int),()))),((r7.2.2.1.1,()),()));
                              Tr.fin ((r10.1.1,(r10.1.2.1,()))))
                              (Tr.fin (((0:Int),((0:Int),())))))
                            (Tr.stop)))
                        (Tr.stop))
                      (Tr.stop)))
                  (let r4:=b81_0 ((x0,((↑(List.length x0):Int),((0:Int),()))),((x0,(x0',(x0'',()))),()));
                  Tr.test (isBrk (l16_0 (((r4.2.1.2.1:List (ByteArray×(List Int×List Int×PUnit)×(List Int×List Int×PUnit)×PUnit)),((↑(List.length r4.2.1.2.1):Int),((0:Int),()))),((r4.2.1.1,((r4.2.1.2.1:List (ByteArray×(List Int×List Int×PUnit)×(List Int×List Int×PUnit)×PUnit)),(r4.2.1.2.2.1,()))),(((↑(List.length x0):Int),()),((([]:List ByteArray),()),()))))))
                    (let r12:=b16_0 (((r4.2.1.2.1:List (ByteArray×(List Int×List Int×PUnit)×(List Int×List Int×PUnit)×PUnit)),((↑(List.length r4.2.1.2.1):Int),((0:Int),()))),((r4.2.1.1,((r4.2.1.2.1:List (ByteArray×(List Int×List Int×PUnit)×(List Int×List Int×PUnit)×PUnit)),(r4.2.1.2.2.1,()))),(((↑(List.length x0):Int),()),((([]:List ByteArray),()),()))));
                    Tr.test (Option.isSome (l84_0 (((r12.2.1.2.1:List (ByteArray×(List Int×List Int×PUnit)×(List Int×List Int×PUnit)×PUnit)),((↑(List.length r12.2.1.2.1):Int),((0:Int),()))),((r12.2.2.2.1.1,()),((r12.2.2.1.1,()),())))))
                      (Tr.test (isRet (l84_0 (((r12.2.1.2.1:List (ByteArray×(List Int×List Int×PUnit)×(List Int×List Int×PUnit)×PUnit)),((↑(List.length r12.2.1.2.1):Int),((0:Int),()))),((r12.2.2.2.1.1,()),((r12.2.2.1.1,()),())))))
                        (let r13:=r84_0 (((r12.2.1.2.1:List (ByteArray×(List Int×List Int×PUnit)×(List Int×List Int×PUnit)×PUnit)),((↑(List.length r12.2.1.2.1):Int),((0:Int),()))),((r12.2.2.2.1.1,()),((r12.2.2.1.1,()),())));
                        Tr.test ((!eqF r13.1.2.1 0:Bool))
                          (Tr.fin ((r13.1.1,(r13.1.2.1,()))))
                          (Tr.test (Option.isSome (l87_0 ((r12.2.1.2.2.1,((↑(List.length r12.2.1.2.2.1):Int),((0:Int),()))),((r13.2.2.1.1,()),()))))
                            (Tr.test (isRet (l87_0 ((r12.2.1.2.2.1,((↑(List.length r12.2.1.2.2.1):Int),((0:Int),()))),((r13.2.2.1.1,()),()))))
                              (let r15:=r87_0 ((r12.2.1.2.2.1,((↑(List.length r12.2.1.2.2.1):Int),((0:Int),()))),((r13.2.2.1.1,()),()));
                              Tr.fin ((r15.1.1,(r15.1.2.1,()))))
                              (Tr.fin (((0:Int),((0:Int),())))))
                            (Tr.stop)))
                        (let r14:=b84_0 (((r12.2.1.2.1:List (ByteArray×(List Int×List Int×PUnit)×(List Int×List Int×PUnit)×PUnit)),((↑(List.length r12.2.1.2.1):Int),((0:Int),()))),((r12.2.2.2.1.1,()),((r12.2.2.1.1,()),())));
                        Tr.test (Option.isSome (l87_0 ((r12.2.1.2.2.1,((↑(List.length r12.2.1.2.2.1):Int),((0:Int),()))),((r14.2.2.1.1,()),()))))
                          (Tr.test (isRet (l87_0 ((r12.2.1.2.2.1,((↑(List.length r12.2.1.2.2.1):Int),((0:Int),()))),((r14.2.2.1.1,()),()))))
                            (let r17:=r87_0 ((r12.2.1.2.2.1,((↑(List.length r12.2.1.2.2.1):Int),((0:Int),()))),((r14.2.2.1.1,()),()));
                            Tr.fin ((r17.1.1,(r17.1.2.1,()))))
                            (Tr.fin (((0:Int),((0:Int),())))))
                          (Tr.stop)))
                      (Tr.stop))
                    (Tr.stop)))
                (Tr.stop)))
            (Tr.stop))
          (Tr.stop))
        (Tr.stop)))

def f16 (d:Tys.data as16):Option (Tys.data rs16):=(t16 d.1.1 d.1.2.1 d.1.2.2.1).val
def g16 (d:Tys.data as16):Tys.data rs16:=(f16 d).getD (Tys.dflt rs16)
def p16:PureC:=pcOf as16 rs16 f16 g16

theorem wk16n0 (x0:(List ByteArray)) (x0':(List (ByteArray×(((List Int)×((List Int)×Unit))×(((List Int)×((List Int)×Unit))×Unit))))) (x0'':(List ((List Int)×((List Int)×Unit)))):Walks (runPure (kl87_0 Go.Proofs.Tryz.prog).orc Go.Proofs.Tryz.prog 400 16 as16 rs16 ((x0,x0',x0'',()),())) (t16 x0 x0' x0'') [(bl 5 31,[2,4,6,8,1,1,1,1,1,10,10,10,10,10]),(bl 8 239,[2,4,6,8,10,12,14,1,1,1,1,1,16,16,16,16,16]),(bl 12 3951,[2,4,6,1,8,10,12,14,16,18,20,22,1,1,1,1,1,24,24,24,24,24]),(bl 14 14191,[2,4,6,8,10,1,12,14,16,18,20,22,24,26,1,1,1,1,1,28,28,28,28,28]),(bl 14 5999,[2,4,6,8,10,1,12,14,16,18,20,22,24,26,1,1,1,1,1,28,28,28,28,28]),(bl 13 7023,[2,4,0,6,8,1,10,12,14,16,18,20,22,24,1,1,1,1,1,26,26,26,26,26]),(bl 13 2927,[2,4,0,6,8,1,10,12,14,16,18,20,22,24,1,1,1,1,1,26,26,26,26,26]),(bl 11 1967,[2,4,6,1,8,0,10,12,14,16,18,20,1,1,1,1,1,22,22,22,22,22]),(bl 13 7087,[2,4,6,8,10,1,12,0,14,16,18,20,22,24,1,1,1,1,1,26,26,26,26,26]),(bl 13 2991,[2,4,6,8,10,1,12,0,14,16,18,20,22,24,1,1,1,1,1,26,26,26,26,26]),(bl 12 3503,[2,4,0,6,8,1,10,0,12,14,16,18,20,22,1,1,1,1,1,24,24,24,24,24]),(bl 12 1455,[2,4,0,6,8,1,10,0,12,14,16,18,20,22,1,1,1,1,1,24,24,24,24,24]),(bl 6 62,[2,4,6,8,10,10,10,10,10,12,12,12,12,12]),(bl 9 478,[2,4,6,8,10,12,14,16,16,16,16,16,18,18,18,18,18]),(bl 13 7902,[2,4,6,1,8,10,12,14,16,18,20,22,24,24,24,24,24,26,26,26,26,26]),(bl 15 28382,[2,4,6,8,10,1,12,14,16,18,20,22,24,26,28,28,28,28,28,30,30,30,30,30])] :=
  ⟨by kernel_rfl,by kernel_rfl,by kernel_rfl,by kernel_rfl,by kernel_rfl,by kernel_rfl,by kernel_rfl,by kernel_rfl,by kernel_rfl,by kernel_rfl,by kernel_rfl,by kernel_rfl,by kernel_rfl,by kernel_rfl,by kernel_rfl,by kernel_rfl,trivial⟩

theorem wk16n1 (x0:(List ByteArray)) (x0':(List (ByteArray×(((List Int)×((List Int)×Unit))×(((List Int)×((List Int)×Unit))×Unit))))) (x0'':(List ((List Int)×((List Int)×Unit)))):Walks (runPure (kl87_0 Go.Proofs.Tryz.prog).orc Go.Proofs.Tryz.prog 400 16 as16 rs16 ((x0,x0',x0'',()),())) (t16 x0 x0' x0'') [(bl 15 11998,[2,4,6,8,10,1,12,14,16,18,20,22,24,26,28,28,28,28,28,30,30,30,30,30]),(bl 14 14046,[2,4,0,6,8,1,10,12,14,16,18,20,22,24,26,26,26,26,26,28,28,28,28,28]),(bl 14 5854,[2,4,0,6,8,1,10,12,14,16,18,20,22,24,26,26,26,26,26,28,28,28,28,28]),(bl 12 3934,[2,4,6,1,8,0,10,12,14,16,18,20,22,22,22,22,22,24,24,24,24,24]),(bl 14 14174,[2,4,6,8,10,1,12,0,14,16,18,20,22,24,26,26,26,26,26,28,28,28,28,28]),(bl 14 5982,[2,4,6,8,10,1,12,0,14,16,18,20,22,24,26,26,26,26,26,28,28,28,28,28]),(bl 13 7006,[2,4,0,6,8,1,10,0,12,14,16,18,20,22,24,24,24,24,24,26,26,26,26,26]),(bl 13 2910,[2,4,0,6,8,1,10,0,12,14,16,18,20,22,24,24,24,24,24,26,26,26,26,26]),(bl 6 60,[2,4,6,8,10,10,10,10,10,12,12,12,12,12]),(bl 9 476,[2,4,6,8,10,12,14,16,16,16,16,16,18,18,18,18,18]),(bl 13 7900,[2,4,6,1,8,10,12,14,16,18,20,22,24,24,24,24,24,26,26,26,26,26]),(bl 15 28380,[2,4,6,8,10,1,12,14,16,18,20,22,24,26,28,28,28,28,28,30,30,30,30,30]),(bl 15 11996,[2,4,6,8,10,1,12,14,16,18,20,22,24,26,28,28,28,28,28,30,30,30,30,30]),(bl 14 14044,[2,4,0,6,8,1,10,12,14,16,18,20,22,24,26,26,26,26,26,28,28,28,28,28]),(bl 14 5852,[2,4,0,6,8,1,10,12,14,16,18,20,22,24,26,26,26,26,26,28,28,28,28,28]),(bl 12 3932,[2,4,6,1,8,0,10,12,14,16,18,20,22,22,22,22,22,24,24,24,24,24])] :=
  ⟨by kernel_rfl,by kernel_rfl,by kernel_rfl,by kernel_rfl,by kernel_rfl,by kernel_rfl,by kernel_rfl,by kernel_rfl,by kernel_rfl,by kernel_rfl,by kernel_rfl,by kernel_rfl,by kernel_rfl,by kernel_rfl,by kernel_rfl,by kernel_rfl,trivial⟩

theorem wk16n2 (x0:(List ByteArray)) (x0':(List (ByteArray×(((List Int)×((List Int)×Unit))×(((List Int)×((List Int)×Unit))×Unit))))) (x0'':(List ((List Int)×((List Int)×Unit)))):Walks (runPure (kl87_0 Go.Proofs.Tryz.prog).orc Go.Proofs.Tryz.prog 400 16 as16 rs16 ((x0,x0',x0'',()),())) (t16 x0 x0' x0'') [(bl 14 14172,[2,4,6,8,10,1,12,0,14,16,18,20,22,24,26,26,26,26,26,28,28,28,28,28]),(bl 14 5980,[2,4,6,8,10,1,12,0,14,16,18,20,22,24,26,26,26,26,26,28,28,28,28,28]),(bl 13 7004,[2,4,0,6,8,1,10,0,12,14,16,18,20,22,24,24,24,24,24,26,26,26,26,26]),(bl 13 2908,[2,4,0,6,8,1,10,0,12,14,16,18,20,22,24,24,24,24,24,26,26,26,26,26])] :=
  ⟨by kernel_rfl,by kernel_rfl,by kernel_rfl,by kernel_rfl,trivial⟩

theorem ok16_t (x0:(List ByteArray)) (x0':(List (ByteArray×(((List Int)×((List Int)×Unit))×(((List Int)×((List Int)×Unit))×Unit))))) (x0'':(List ((List Int)×((List Int)×Unit)))):TrOk (PureRuns Go.Proofs.Tryz.prog (kl87_0 Go.Proofs.Tryz.prog).orc 16 as16 rs16 ((x0,x0',x0'',()),())) (t16 x0 x0' x0'') :=
  Walks.ok (fun _ _ _=>PureRuns.of) ((wk16n0 x0 x0' x0'').append ((wk16n1 x0 x0' x0'').append (wk16n2 x0 x0' x0''))) (by kernel_rfl)

theorem ok16:PureOk Go.Proofs.Tryz.prog 16 p16:=pureOk_of kl87_0_ok.base (T:=fun (d:Tys.data as16)=>t16 d.1.1 d.1.2.1 d.1.2.2.1) (by kernel_rfl) (fun (d:Tys.data as16)=>ok16_t d.1.1 d.1.2.1 d.1.2.2.1)
def kf16 (P:Go.Program):Known:=(kl87_0 P).func 16 p16
theorem kf16_ok:KnownOk Go.Proofs.Tryz.prog (kf16 Go.Proofs.Tryz.prog):=kl87_0_ok.func ok16

/-! ductility/safety.isState -/

abbrev as91:List Ty:=[(.pair (.slice .str) (.pair (.slice (.pair .str (.pair (.pair (.slice (.int .i64)) (.pair (.slice (.int .i64)) .unit)) (.pair (.pair (.slice (.int .i64)) (.pair (.slice (.int .i64)) .unit)) .unit)))) (.pair (.slice (.pair (.slice (.int .i64)) (.pair (.slice (.int .i64)) .unit))) .unit))),(.int .i64)]
abbrev rs91:List Ty:=[.bool]

def t91 (x0:(List ByteArray)) (x0':(List (ByteArray×(((List Int)×((List Int)×Unit))×(((List Int)×((List Int)×Unit))×Unit))))) (x0'':(List ((List Int)×((List Int)×Unit)))) (x1:Int):Tr (Tys.data rs91) :=
  Tr.test ((decide ((↑(List.length x0):Int) < (0:Int)):Bool))
    (Tr.stop)
    (Tr.test (Option.isSome (f94 ((0:Int),((wrap64 (shlV Go.IntKind.i64 (1:Int) (↑(List.length x0):Int) - (1:Int)):Int),(([x1]:List Int),())))))
      (let r0:=g94 ((0:Int),((wrap64 (shlV Go.IntKind.i64 (1:Int) (↑(List.length x0):Int) - (1:Int)):Int),(([x1]:List Int),())));
      Tr.fin ((r0.1,())))
      (Tr.stop))

def f91 (d:Tys.data as91):Option (Tys.data rs91):=(t91 d.1.1 d.1.2.1 d.1.2.2.1 d.2.1).val
def g91 (d:Tys.data as91):Tys.data rs91:=(f91 d).getD (Tys.dflt rs91)
def p91:PureC:=pcOf as91 rs91 f91 g91

theorem wk91 (x0:(List ByteArray)) (x0':(List (ByteArray×(((List Int)×((List Int)×Unit))×(((List Int)×((List Int)×Unit))×Unit))))) (x0'':(List ((List Int)×((List Int)×Unit)))) (x1:Int):Walks (runPure (kf16 Go.Proofs.Tryz.prog).orc Go.Proofs.Tryz.prog 400 91 as91 rs91 ((x0,x0',x0'',()),x1,())) (t91 x0 x0' x0'' x1) [(bl 2 2,[2,4])] :=
  ⟨by kernel_rfl,trivial⟩

theorem ok91_t (x0:(List ByteArray)) (x0':(List (ByteArray×(((List Int)×((List Int)×Unit))×(((List Int)×((List Int)×Unit))×Unit))))) (x0'':(List ((List Int)×((List Int)×Unit)))) (x1:Int):TrOk (PureRuns Go.Proofs.Tryz.prog (kf16 Go.Proofs.Tryz.prog).orc 91 as91 rs91 ((x0,x0',x0'',()),x1,())) (t91 x0 x0' x0'' x1) :=
  Walks.ok (fun _ _ _=>PureRuns.of) (wk91 x0 x0' x0'' x1) (by kernel_rfl)

theorem ok91:PureOk Go.Proofs.Tryz.prog 91 p91:=pureOk_of kf16_ok.base (T:=fun (d:Tys.data as91)=>t91 d.1.1 d.1.2.1 d.1.2.2.1 d.2.1) (by kernel_rfl) (fun (d:Tys.data as91)=>ok91_t d.1.1 d.1.2.1 d.1.2.2.1 d.2.1)
def kf91 (P:Go.Program):Known:=(kf16 P).func 91 p91
theorem kf91_ok:KnownOk Go.Proofs.Tryz.prog (kf91 Go.Proofs.Tryz.prog):=kf16_ok.func ok91

/-! ductility/safety.CheckState -/

abbrev as18:List Ty:=[(.pair (.slice .str) (.pair (.slice (.pair .str (.pair (.pair (.slice (.int .i64)) (.pair (.slice (.int .i64)) .unit)) (.pair (.pair (.slice (.int .i64)) (.pair (.slice (.int .i64)) .unit)) .unit)))) (.pair (.slice (.pair (.slice (.int .i64)) (.pair (.slice (.int .i64)) .unit))) .unit))),(.int .i64)]
abbrev rs18:List Ty:=[(.int .i64)]

def t18 (x0:(List ByteArray)) (x0':(List (ByteArray×(((List Int)×((List Int)×Unit))×(((List Int)×((List Int)×Unit))×Unit))))) (x0'':(List ((List Int)×((List Int)×Unit)))) (x1:Int):Tr (Tys.data rs18) :=
  Tr.test (Option.isSome (f16 ((x0,(x0',(x0'',()))),())))
    (let r0:=g16 ((x0,(x0',(x0'',()))),());
    Tr.test ((!eqF r0.2.1 0:Bool))
      (Tr.fin ((r0.2.1,())))
      (Tr.test (Option.isSome (f91 ((x0,(x0',(x0'',()))),(x1,()))))
        (let r1:=g91 ((x0,(x0',(x0'',()))),(x1,()));
        Tr.test (Option.isSome (f80 ((!r1.1:Bool),((2:Int),()))))
          (let r2:=g80 ((!r1.1:Bool),((2:Int),()));
          Tr.fin ((r2.1,())))
          (Tr.stop))
        (Tr.stop)))
    (Tr.stop)

def f18 (d:Tys.data as18):Option (Tys.data rs18):=(t18 d.1.1 d.1.2.1 d.1.2.2.1 d.2.1).val
def g18 (d:Tys.data as18):Tys.data rs18:=(f18 d).getD (Tys.dflt rs18)
def p18:PureC:=pcOf as18 rs18 f18 g18

theorem wk18 (x0:(List ByteArray)) (x0':(List (ByteArray×(((List Int)×((List Int)×Unit))×(((List Int)×((List Int)×Unit))×Unit))))) (x0'':(List ((List Int)×((List Int)×Unit)))) (x1:Int):Walks (runPure (kf91 Go.Proofs.Tryz.prog).orc Go.Proofs.Tryz.prog 400 18 as18 rs18 ((x0,x0',x0'',()),x1,())) (t18 x0 x0' x0'' x1) [(bl 2 3,[2,4]),(bl 4 13,[2,4,6,8])] :=
  ⟨by kernel_rfl,by kernel_rfl,trivial⟩

theorem ok18_t (x0:(List ByteArray)) (x0':(List (ByteArray×(((List Int)×((List Int)×Unit))×(((List Int)×((List Int)×Unit))×Unit))))) (x0'':(List ((List Int)×((List Int)×Unit)))) (x1:Int):TrOk (PureRuns Go.Proofs.Tryz.prog (kf91 Go.Proofs.Tryz.prog).orc 18 as18 rs18 ((x0,x0',x0'',()),x1,())) (t18 x0 x0' x0'' x1) :=
  Walks.ok (fun _ _ _=>PureRuns.of) (wk18 x0 x0' x0'' x1) (by kernel_rfl)

theorem ok18:PureOk Go.Proofs.Tryz.prog 18 p18:=pureOk_of kf91_ok.base (T:=fun (d:Tys.data as18)=>t18 d.1.1 d.1.2.1 d.1.2.2.1 d.2.1) (by kernel_rfl) (fun (d:Tys.data as18)=>ok18_t d.1.1 d.1.2.1 d.1.2.2.1 d.2.1)
def kf18 (P:Go.Program):Known:=(kf91 P).func 18 p18
theorem kf18_ok:KnownOk Go.Proofs.Tryz.prog (kf18 Go.Proofs.Tryz.prog):=kf91_ok.func ok18

/-! ductility/safety.testOf -/

abbrev as146:List Ty:=[(.pair (.slice (.int .i64)) (.pair (.slice (.int .i64)) .unit))]
abbrev rs146:List Ty:=[(.pair (.int .u64) (.pair (.int .u64) .unit))]

def t146 (x0:(List Int)) (x0':(List Int)):Tr (Tys.data rs146) :=
  Tr.test (Option.isSome (f145 (x0,())))
    (Tr.test (Option.isSome (f145 (x0',())))
      (let r0:=g145 (x0,());
      let r1:=g145 (x0',());
      Tr.fin (((r0.1,(r1.1,())),())))
      (Tr.stop))
    (Tr.stop)

def f146 (d:Tys.data as146):Option (Tys.data rs146):=(t146 d.1.1 d.1.2.1).val
def g146 (d:Tys.data as146):Tys.data rs146:=(f146 d).getD (Tys.dflt rs146)
def p146:PureC:=pcOf as146 rs146 f146 g146

theorem wk146 (x0:(List Int)) (x0':(List Int)):Walks (runPure (kf18 Go.Proofs.Tryz.prog).orc Go.Proofs.Tryz.prog 400 146 as146 rs146 ((x0,x0',()),())) (t146 x0 x0') [(bl 2 3,[2,4])] :=
  ⟨by kernel_rfl,trivial⟩

theorem ok146_t (x0:(List Int)) (x0':(List Int)):TrOk (PureRuns Go.Proofs.Tryz.prog (kf18 Go.Proofs.Tryz.prog).orc 146 as146 rs146 ((x0,x0',()),())) (t146 x0 x0') :=
  Walks.ok (fun _ _ _=>PureRuns.of) (wk146 x0 x0') (by kernel_rfl)

theorem ok146:PureOk Go.Proofs.Tryz.prog 146 p146:=pureOk_of kf18_ok.base (T:=fun (d:Tys.data as146)=>t146 d.1.1 d.1.2.1) (by kernel_rfl) (fun (d:Tys.data as146)=>ok146_t d.1.1 d.1.2.1)
def kf146 (P:Go.Program):Known:=(kf18 P).func 146 p146
theorem kf146_ok:KnownOk Go.Proofs.Tryz.prog (kf146 Go.Proofs.Tryz.prog):=kf18_ok.func ok146

/-! loop 0 of ductility/safety.machineAt -/

abbrev sh92_0:Sh:={ n:=58,slots:=[1,2,4,8,21,22,23],pats:=[.ty (.int .i64),.ptr 0 3 0,.ptr 1 2 0,.ptr 2 2 0,.ty (.slice (.pair .str (.pair (.pair (.slice (.int .i64)) (.pair (.slice (.int .i64)) .unit)) (.pair (.pair (.slice (.int .i64)) (.pair (.slice (.int .i64)) .unit)) .unit)))),.ty (.int .i64),.ty (.int .i64)],boxes:=[.row [.ty (.slice .str),.ty (.slice (.pair .str (.pair (.pair (.slice (.int .i64)) (.pair (.slice (.int .i64)) .unit)) (.pair (.pair (.slice (.int .i64)) (.pair (.slice (.int .i64)) .unit)) .unit)))),.ty (.slice (.pair (.slice (.int .i64)) (.pair (.slice (.int .i64)) .unit)))],.row [.nil,.nil],.row [.acc (.pair (.pair (.int .u64) (.pair (.int .u64) .unit)) (.pair (.pair (.int .u64) (.pair (.int .u64) .unit)) .unit)),.nil]] }
abbrev shb92_0:Sh:={ n:=58,slots:=[1,2,4,8],pats:=[.ty (.int .i64),.ptr 0 3 0,.ptr 1 2 0,.ptr 2 2 0],boxes:=[.row [.ty (.slice .str),.ty (.slice (.pair .str (.pair (.pair (.slice (.int .i64)) (.pair (.slice (.int .i64)) .unit)) (.pair (.pair (.slice (.int .i64)) (.pair (.slice (.int .i64)) .unit)) .unit)))),.ty (.slice (.pair (.slice (.int .i64)) (.pair (.slice (.int .i64)) .unit)))],.row [.nil,.nil],.row [.acc (.pair (.pair (.int .u64) (.pair (.int .u64) .unit)) (.pair (.pair (.int .u64) (.pair (.int .u64) .unit)) .unit)),.nil]] }
abbrev shr92_0:Sh:={ n:=58,slots:=[],pats:=[],boxes:=[.row [.ty (.slice .str),.ty (.slice (.pair .str (.pair (.pair (.slice (.int .i64)) (.pair (.slice (.int .i64)) .unit)) (.pair (.pair (.slice (.int .i64)) (.pair (.slice (.int .i64)) .unit)) .unit)))),.ty (.slice (.pair (.slice (.int .i64)) (.pair (.slice (.int .i64)) .unit)))],.row [.nil,.nil],.row [.acc (.pair (.pair (.int .u64) (.pair (.int .u64) .unit)) (.pair (.pair (.int .u64) (.pair (.int .u64) .unit)) .unit)),.nil]] }

def t92_0 (x0:Int) (x4:(List (ByteArray×(((List Int)×((List Int)×Unit))×(((List Int)×((List Int)×Unit))×Unit))))) (x5:Int) (x6:Int) (b0_0:(List ByteArray)) (b0_1:(List (ByteArray×(((List Int)×((List Int)×Unit))×(((List Int)×((List Int)×Unit))×Unit))))) (b0_2:(List ((List Int)×((List Int)×Unit)))) (b2_0:(List ((Int×(Int×Unit))×((Int×(Int×Unit))×Unit)))):Tr (Out sh92_0.data shb92_0.data shr92_0.data) :=
  Tr.test ((!leF x5 x6:Bool))
    (Tr.test (decide ((0:Int) ≤ x6) && decide (x6 < (↑(List.length x4):Int)))
      (Tr.test (Option.isSome (f146 ((((List.getD x4 (Int.toNat x6) ({ data:={ toList:=[] } },([],[],()),([],[],()),())).2.1.1:List Int),(((List.getD x4 (Int.toNat x6) ({ data:={ toList:=[] } },([],[],()),([],[],()),())).2.1.2.1:List Int),())),())))
        (Tr.test (Option.isSome (f146 ((((List.getD x4 (Int.toNat x6) ({ data:={ toList:=[] } },([],[],()),([],[],()),())).2.2.1.1:List Int),(((List.getD x4 (Int.toNat x6) ({ data:={ toList:=[] } },([],[],()),([],[],()),())).2.2.1.2.1:List Int),())),())))
          (Tr.test ((Nat.ble (((2:Nat) * (List.length b2_0 + (1:Nat)) + (192:Nat)) * (32:Nat)) (281474976710656:Nat) && Nat.ble (List.length b2_0 + (1:Nat)) (281474976710656:Nat):Bool))
            (let r0:=g146 ((((List.getD x4 (Int.toNat x6) ({ data:={ toList:=[] } },([],[],()),([],[],()),())).2.1.1:List Int),(((List.getD x4 (Int.toNat x6) ({ data:={ toList:=[] } },([],[],()),([],[],()),())).2.1.2.1:List Int),())),());
            let r1:=g146 ((((List.getD x4 (Int.toNat x6) ({ data:={ toList:=[] } },([],[],()),([],[],()),())).2.2.1.1:List Int),(((List.getD x4 (Int.toNat x6) ({ data:={ toList:=[] } },([],[],()),([],[],()),())).2.2.1.2.1:List Int),())),());
            Tr.fin (.again ((x0,(x4,(x5,((wrap64 (x6 + (1:Int)):Int),())))),((b0_0,(b0_1,(b0_2,()))),((),(((b2_0++[((r0.1.1,r0.1.2.1,()),(r1.1.1,r1.1.2.1,()),())]:List ((Int×Int×PUnit)×(Int×Int×PUnit)×PUnit)),()),()))))))
            (Tr.stop))
          (Tr.stop))
        (Tr.stop))
      (Tr.stop))
    (Tr.fin (.brk ((x0,()),((b0_0,(b0_1,(b0_2,()))),((),((b2_0,()),()))))))

def s92_0 (d:sh92_0.data):Option (Out sh92_0.data shb92_0.data shr92_0.data):=(t92_0 d.1.1 d.1.2.1 d.1.2.2.1 d.1.2.2.2.1 d.2.1.1 d.2.1.2.1 d.2.1.2.2.1 d.2.2.2.1.1).val
def l92_0 (d:sh92_0.data):Option (shb92_0.data ⊕ shr92_0.data):=itr s92_0 rounds d
def b92_0 (d:sh92_0.data):shb92_0.data:=outB shb92_0.dflt (l92_0 d)
def lc92_0:LoopC:=lcB sh92_0 shb92_0 shr92_0 l92_0 b92_0

theorem wk92_0 (x0:Int) (x4:(List (ByteArray×(((List Int)×((List Int)×Unit))×(((List Int)×((List Int)×Unit))×Unit))))) (x5:Int) (x6:Int) (b0_0:(List ByteArray)) (b0_1:(List (ByteArray×(((List Int)×((List Int)×Unit))×(((List Int)×((List Int)×Unit))×Unit))))) (b0_2:(List ((List Int)×((List Int)×Unit)))) (b2_0:(List ((Int×(Int×Unit))×((Int×(Int×Unit))×Unit)))):Walks (runBody (kf146 Go.Proofs.Tryz.prog).orc Go.Proofs.Tryz.prog 400 92 0 sh92_0 shb92_0 shr92_0 ((x0,x4,x5,x6,()),(b0_0,b0_1,b0_2,()),(),(b2_0,()),())) (t92_0 x0 x4 x5 x6 b0_0 b0_1 b0_2 b2_0) [(bl 5 31,[2,4,6,8,10]),(bl 1 0,[2])] :=
  ⟨by kernel_rfl,by kernel_rfl,trivial⟩

theorem ok92_0_t (x0:Int) (x4:(List (ByteArray×(((List Int)×((List Int)×Unit))×(((List Int)×((List Int)×Unit))×Unit))))) (x5:Int) (x6:Int) (b0_0:(List ByteArray)) (b0_1:(List (ByteArray×(((List Int)×((List Int)×Unit))×(((List Int)×((List Int)×Unit))×Unit))))) (b0_2:(List ((List Int)×((List Int)×Unit)))) (b2_0:(List ((Int×(Int×Unit))×((Int×(Int×Unit))×Unit)))):TrOk (BodyRuns Go.Proofs.Tryz.prog (kf146 Go.Proofs.Tryz.prog).orc 92 0 sh92_0 shb92_0 shr92_0 ((x0,x4,x5,x6,()),(b0_0,b0_1,b0_2,()),(),(b2_0,()),())) (t92_0 x0 x4 x5 x6 b0_0 b0_1 b0_2 b2_0) :=
  Walks.ok (fun _ _ _=>BodyRuns.of) (wk92_0 x0 x4 x5 x6 b0_0 b0_1 b0_2 b2_0) (by kernel_rfl)

theorem ok92_0:LoopOk Go.Proofs.Tryz.prog 92 0 lc92_0:=loopOk_ofB (sh:=sh92_0) (shB:=shb92_0) (shR:=shr92_0) kf146_ok.base (T:=fun (d:sh92_0.data)=>t92_0 d.1.1 d.1.2.1 d.1.2.2.1 d.1.2.2.2.1 d.2.1.1 d.2.1.2.1 d.2.1.2.2.1 d.2.2.2.1.1) (by kernel_rfl) rfl (fun (d:sh92_0.data)=>ok92_0_t d.1.1 d.1.2.1 d.1.2.2.1 d.1.2.2.2.1 d.2.1.1 d.2.1.2.1 d.2.1.2.2.1 d.2.2.2.1.1) (fun _=>rfl)
def kl92_0 (P:Go.Program):Known:=(kf146 P).loop 92 0 lc92_0
theorem kl92_0_ok:KnownOk Go.Proofs.Tryz.prog (kl92_0 Go.Proofs.Tryz.prog):=kf146_ok.loop ok92_0

end Go.Vm.Mo
