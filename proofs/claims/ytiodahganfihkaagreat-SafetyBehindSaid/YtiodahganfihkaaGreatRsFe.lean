import Derived.Test.YtiodahganfihkaaGreatA4
import Derived.KernelRfl
import Derived.Test.YtiodahganfihkaaGreatProg
import Derived.Test.YtiodahganfihkaaGreatRsFd
set_option linter.unusedVariables false
set_option linter.unusedSimpArgs false

namespace Go.Vm.Mo
open Go
set_option linter.unusedVariables false

/-! ductility/ductilitylaw09.SafetyBehind -/

abbrev as12:List Ty:=[(.slice (.pair .str (.pair (.slice .str) (.pair (.int .i64) .unit)))),(.slice (.pair (.int .i64) (.pair .str (.pair .str .unit)))),(.pair (.int .i64) (.pair (.int .i64) .unit))]
abbrev rs12:List Ty:=[.bool]

def t12 (x0:(List (ByteArray×((List ByteArray)×(Int×Unit))))) (x1:(List (Int×(ByteArray×(ByteArray×Unit))))) (x2:Int) (x2':Int):Tr (Tys.data rs12) :=
  Tr.test (Option.isSome (f57 (x0,())))
    (let r0:=g57 (x0,());
    Tr.test ((!r0.1:Bool))
      (Tr.fin (((true:Bool),())))
      (Tr.test (Option.isSome (f68 (x0,())))
        (let r1:=g68 (x0,());
        Tr.test ((!eqF r1.1 0:Bool))
          (Tr.fin (((true:Bool),())))
          (Tr.test ((!leF (↑(List.length x1):Int) (20:Int):Bool))
            (Tr.fin (((true:Bool),())))
            (Tr.test (Option.isSome (f65 ((↑(List.length x0):Int),(x1,()))))
              (let r2:=g65 ((↑(List.length x0):Int),(x1,()));
              Tr.test ((!eqF r2.1 0:Bool))
                (Tr.fin (((true:Bool),())))
                (Tr.test (Option.isSome (f60 (x0,())))
                  (Tr.test ((Nat.ble (((2:Nat) * ((0:Nat) + List.length x1) + (192:Nat)) * (40:Nat)) (281474976710656:Nat) && Nat.ble ((0:Nat) + List.length x1) (281474976710656:Nat):Bool))
                    (let r3:=g60 (x0,());
                    Tr.test (Option.isSome (f63 (r3.1,(([]++x1:List (Int×ByteArray×ByteArray×PUnit)),()))))
                      (let r4:=g63 (r3.1,(([]++x1:List (Int×ByteArray×ByteArray×PUnit)),()));
                      Tr.test ((!eqF r4.2.1 0:Bool))
                        (Tr.fin (((false:Bool),())))
                        (Tr.test (Option.isSome (f25 (r4.1,((0:Int),((↑(List.length x0):Int),())))))
                          (let r5:=g25 (r4.1,((0:Int),((↑(List.length x0):Int),())));
                          Tr.test ((!r5.1:Bool))
                            (Tr.fin (((false:Bool),())))
                            (Tr.test ((!leF (↑(List.length x0):Int) r4.1:Bool))
                              (Tr.test (Option.isSome (f61 (r3.1,(r4.1,(([]++x1:List (Int×ByteArray×ByteArray×PUnit)),())))))
                                (let r6:=g61 (r3.1,(r4.1,(([]++x1:List (Int×ByteArray×ByteArray×PUnit)),())));
                                Tr.test ((!eqF r6.2.1 0:Bool))
                                  (Tr.fin (((false:Bool),())))
                                  (Tr.test ((eqF (↑(List.length r6.1):Int) (0:Int):Bool))
                                    (Tr.test (Option.isSome (f69 (r4.1,(x1,()))))
                                      (Tr.test ((decide ((0:Int) ≤ r4.1) && decide (r4.1 < (↑(List.length x0):Int)):Bool))
                                        (let r7:=g69 (r4.1,(x1,()));
                                        Tr.test ((leF (List.getD x0 (Int.toNat r4.1) ({ data:={ toList:=[] } },[],(0:Int),())).2.2.1 r7.1:Bool))
                                          (Tr.fin (((false:Bool),())))
                                          (Tr.test (Option.isSome (l12_0 ((x0,(x1,(r4.1,((0:Int),())))),((x2,(x2',())),()))))
                                            (Tr.test (isRet (l12_0 ((x0,(x1,(r4.1,((0:Int),())))),((x2,(x2',())),()))))
                                              (let r8:=r12_0 ((x0,(x1,(r4.1,((0:Int),())))),((x2,(x2',())),()));
                                              Tr.fin ((r8.1.1,())))
                                              (let r9:=b12_0 ((x0,(x1,(r4.1,((0:Int),())))),((x2,(x2',())),()));
                                              Tr.test (Option.isSome (f56 (r9.2.1.1,((↑(List.length r9.1.1):Int),()))))
                                                (let r10:=g56 (r9.2.1.1,((↑(List.length r9.1.1):Int),()));
                                                Tr.test (isBrk (l12_2 ((r9.1.1,(r9.1.2.1,(r9.1.2.2.1,(([]:List (Int×ByteArray×ByteArray×PUnit)),(([]:List (Int×ByteArray×ByteArray×PUnit)),(r10.1,((wrap64 ((↑(List.length r9.1.2.1):Int) - (1:Int)):Int),()))))))),((r9.2.1.1,(r9.2.1.2.1,())),()))))
                                                  (let r11:=b12_2 ((r9.1.1,(r9.1.2.1,(r9.1.2.2.1,(([]:List (Int×ByteArray×ByteArray×PUnit)),(([]:List (Int×ByteArray×ByteArray×PUnit)),(r10.1,((wrap64 ((↑(List.length r9.1.2.1):Int) - (1:Int)):Int),()))))))),((r9.2.1.1,(r9.2.1.2.1,())),()));
                                                  Tr.test (Option.isSome (f60 (r11.1.1,())))
                                                    (let r12:=g60 (r11.1.1,());
                                                    Tr.test (Option.isSome (f63 (r12.1,(r11.1.2.2.2.1,()))))
                                                      (Tr.test (Option.isSome (f63 (r12.1,(r11.1.2.2.2.2.1,()))))
                                                        (let r13:=g63 (r12.1,(r11.1.2.2.2.1,()));
                                                        Tr.test ((!eqF r13.2.1 0:Bool))
                                                          (Tr.fin (((false:Bool),())))
                                                          (Tr.test ((!eqF r13.1 r11.1.2.2.1:Bool))
                                                            (Tr.fin (((false:Bool),())))
                                                            (let r14:=g63 (r12.1,(r11.1.2.2.2.2.1,()));
                                                            Tr.test ((!eqF r14.2.1 0:Bool))
                                                              (Tr.fin (((false:Bool),())))
                                                              (Tr.test ((!leF r14.1 r11.1.2.2.1:Bool))
                                                                (Tr.fin (((false:Bool),())))
                                                                (Tr.test ((decide ((0:Int) ≤ r11.1.2.2.2.2.2.1) && decide (r11.1.2.2.2.2.2.1 < (↑(List.length r11.1.1):Int)):Bool))
                                                                  (Tr.test ((!leF (↑(List.length (List.getD r11.1.1 (Int.toNat r11.1.2.2.2.2.2.1) ({ data:={ toList:=[] } },[],(0:Int),())).2.1):Int) (0:Int):Bool))
                                                                    (Tr.test ((!leF r14.1 r11.1.2.2.2.2.2.1:Bool))
                                                                      (Tr.fin (((false:Bool),())))
                                                                      (Tr.test ((eqF (↑(List.length r11.1.2.1):Int) (0:Int):Bool))
                                                                        (Tr.fin (((true:Bool),())))
                                                                        (Tr.test (Option.isSome (f56 (r11.2.1.2.1,((↑(List.length r11.1.2.1):Int),()))))
                                                                          (let r15:=g56 (r11.2.1.2.1,((↑(List.length r11.1.2.1):Int),()));
                                                                          Tr.test ((decide ((0:Int) ≤ r15.1) && decide (r15.1 ≤ (↑(List.length r11.1.2.1):Int)):Bool))
                                                                            (Tr.test ((Nat.ble (((2:Nat) * ((0:Nat) + List.length (List.take (Int.toNat r15.1) r11.1.2.1)) + (192:Nat)) * (40:Nat)) (281474976710656:Nat) && Nat.ble ((0:Nat) + List.length (List.take (Int.toNat r15.1) r11.1.2.1)) (281474976710656:Nat):Bool))
                                                                              (Tr.test ((decide ((0:Int) ≤ wrap64 (r15.1 + (1:Int))) && decide (wrap64 (r15.1 + (1:Int)) ≤ (↑(List.length r11.1.2.1):Int)):Bool))
                                                                                (Tr.test ((Nat.ble (((2:Nat) * (List.length ([]++List.take (Int.toNat r15.1) r11.1.2.1) + List.length (List.drop (Int.toNat (wrap64 (r15.1 + (1:Int)))) r11.1.2.1)) + (192:Nat)) * (40:Nat)) (281474976710656:Nat) && Nat.ble (List.length ([]++List.take (Int.toNat r15.1) r11.1.2.1) + List.length (List.drop (Int.toNat (wrap64 (r15.1 + (1:Int)))) r11.1.2.1)) (281474976710656:Nat):Bool))
                                                                                  (Tr.test (Option.isSome (f63 (r12.1,(([]++List.take (Int.toNat r15.1) r11.1.2.1++List.drop (Int.toNat (wrap64 (r15.1 + (1:Int)))) r11.1.2.1:List (Int×ByteArray×ByteArray×PUnit)),()))))
                                                                                    (let r16:=g63 (r12.1,(([]++List.take (Int.toNat r15.1) r11.1.2.1++List.drop (Int.toNat (wrap64 (r15.1 + (1:Int)))) r11.1.2.1:List (Int×ByteArray×ByteArray×PUnit)),()));
                                                                                    Tr.test ((eqF r16.2.1 0:Bool))
                                                                                      (Tr.fin (((leF r16.1 r11.1.2.2.1:Bool),())))
                                                                                      (Tr.fin (((false:Bool),()))))
                                                                                    (Tr.stop))
                                                                                  (Tr.stop))
                                                                                (Tr.stop))
                                                                              (Tr.test ((Nat.ble ((0:Nat) + List.length (List.take (Int.toNat r15.1) r11.1.2.1)) (0:Nat):Bool))
                                                                                (Tr.stop)
                                                                                (Tr.stop)))
                                                                            (Tr.stop))
                                                                          (Tr.stop))))
                                                                    (Tr.test ((!leF (List.getD r11.1.1 (Int.toNat r11.1.2.2.2.2.2.1) ({ data:={ toList:=[] } },[],(0:Int),())).2.2.1 (0:Int):Bool))
                                                                      (Tr.test ((!leF r14.1 r11.1.2.2.2.2.2.1:Bool))
                                                                        (Tr.fin (((false:Bool),())))
                                                                        (Tr.test ((eqF (↑(List.length r11.1.2.1):Int) (0:Int):Bool))
                                                                          (Tr.fin (((true:Bool),())))
                                                                          (Tr.test (Option.isSome (f56 (r11.2.1.2.1,((↑(List.length r11.1.2.1):Int),()))))
                                                                            (let r15:=g56 (r11.2.1.2.1,((↑(List.length r11.1.2.1):Int),()));
                                                                            Tr.test ((decide ((0:Int) ≤ r15.1) && decide (r15.1 ≤ (↑(List.length r11.1.2.1):Int)):Bool))
                                                                              (Tr.test ((Nat.ble (((2:Nat) * ((0:Nat) + List.length (List.take (Int.toNat r15.1) r11.1.2.1)) + (192:Nat)) * (40:Nat)) (281474976710656:Nat) && Nat.ble ((0:Nat) + List.length (List.take (Int.toNat r15.1) r11.1.2.1)) (281474976710656:Nat):Bool))
                                                                                (Tr.test ((decide ((0:Int) ≤ wrap64 (r15.1 + (1:Int))) && decide (wrap64 (r15.1 + (1:Int)) ≤ (↑(List.length r11.1.2.1):Int)):Bool))
                                                                                  (Tr.test ((Nat.ble (((2:Nat) * (List.length ([]++List.take (Int.toNat r15.1) r11.1.2.1) + List.length (List.drop (Int.toNat (wrap64 (r15.1 + (1:Int)))) r11.1.2.1)) + (192:Nat)) * (40:Nat)) (281474976710656:Nat) && Nat.ble (List.length ([]++List.take (Int.toNat r15.1) r11.1.2.1) + List.length (List.drop (Int.toNat (wrap64 (r15.1 + (1:Int)))) r11.1.2.1)) (281474976710656:Nat):Bool))
                                                                                    (Tr.test (Option.isSome (f63 (r12.1,(([]++List.take (Int.toNat r15.1) r11.1.2.1++List.drop (Int.toNat (wrap64 (r15.1 + (1:Int)))) r11.1.2.1:List (Int×ByteArray×ByteArray×PUnit)),()))))
                                                                                      (let r16:=g63 (r12.1,(([]++List.take (Int.toNat r15.1) r11.1.2.1++List.drop (Int.toNat (wrap64 (r15.1 + (1:Int)))) r11.1.2.1:List (Int×ByteArray×ByteArray×PUnit)),()));
                                                                                      Tr.test ((eqF r16.2.1 0:Bool))
                                                                                        (Tr.fin (((leF r16.1 r11.1.2.2.1:Bool),())))
                                                                                        (Tr.fin (((false:Bool),()))))
                                                                                      (Tr.stop))
                                                                                    (Tr.stop))
                                                                                  (Tr.stop))
                                                                                (Tr.test ((Nat.ble ((0:Nat) + List.length (List.take (Int.toNat r15.1) r11.1.2.1)) (0:Nat):Bool))
                                                                                  (Tr.stop)
                                                                                  (Tr.stop)))
                                                                              (Tr.stop))
                                                                            (Tr.stop))))
                                                                      (Tr.test ((eqF (↑(List.length r11.1.2.1):Int) (0:Int):Bool))
                                                                        (Tr.fin (((true:Bool),())))
                                                                        (Tr.test (Option.isSome (f56 (r11.2.1.2.1,((↑(List.length r11.1.2.1):Int),()))))
                                                                          (let r15:=g56 (r11.2.1.2.1,((↑(List.length r11.1.2.1):Int),()));
                                                                          Tr.test ((decide ((0:Int) ≤ r15.1) && decide (r15.1 ≤ (↑(List.length r11.1.2.1):Int)):Bool))
                                                                            (Tr.test ((Nat.ble (((2:Nat) * ((0:Nat) + List.length (List.take (Int.toNat r15.1) r11.1.2.1)) + (192:Nat)) * (40:Nat)) (281474976710656:Nat) && Nat.ble ((0:Nat) + List.length (List.take (Int.toNat r15.1) r11.1.2.1)) (281474976710656:Nat):Bool))
                                                                              (Tr.test ((decide ((0:Int) ≤ wrap64 (r15.1 + (1:Int))) && decide (wrap64 (r15.1 + (1:Int)) ≤ (↑(List.length r11.1.2.1):Int)):Bool))
                                                                                (Tr.test ((Nat.ble (((2:Nat) * (List.length ([]++List.take (Int.toNat r15.1) r11.1.2.1) + List.length (List.drop (Int.toNat (wrap64 (r15.1 + (1:Int)))) r11.1.2.1)) + (192:Nat)) * (40:Nat)) (281474976710656:Nat) && Nat.ble (List.length ([]++List.take (Int.toNat r15.1) r11.1.2.1) + List.length (List.drop (Int.toNat (wrap64 (r15.1 + (1:Int)))) r11.1.2.1)) (281474976710656:Nat):Bool))
                                                                                  (Tr.test (Option.isSome (f63 (r12.1,(([]++List.take (Int.toNat r15.1) r11.1.2.1++List.drop (Int.toNat (wrap64 (r15.1 + (1:Int)))) r11.1.2.1:List (Int×ByteArray×ByteArray×PUnit)),()))))
                                                                                    (let r16:=g63 (r12.1,(([]++List.take (Int.toNat r15.1) r11.1.2.1++List.drop (Int.toNat (wrap64 (r15.1 + (1:Int)))) r11.1.2.1:List (Int×ByteArray×ByteArray×PUnit)),()));
                                                                                    Tr.test ((eqF r16.2.1 0:Bool))
                                                                                      (Tr.fin (((leF r16.1 r11.1.2.2.1:Bool),())))
                                                                                      (Tr.fin (((false:Bool),()))))
                                                                                    (Tr.stop))
                                                                                  (Tr.stop))
                                                                                (Tr.stop))
                                                                              (Tr.test ((Nat.ble ((0:Nat) + List.length (List.take (Int.toNat r15.1) r11.1.2.1)) (0:Nat):Bool))
                                                                                (Tr.stop)
                                                                                (Tr.stop)))
                                                                            (Tr.stop))
                                                                          (Tr.stop)))))
                                                                  (Tr.stop))))))
                                                        (Tr.stop))
                                                      (Tr.stop))
                                                    (Tr.stop))
                                                  (Tr.stop))
                                                (Tr.stop)))
                                            (Tr.stop)))
                                        (Tr.stop))
                                      (Tr.stop))
                                    (Tr.test (Option.isSome (l12_0 ((x0,(x1,(r4.1,((0:Int),())))),((x2,(x2',())),()))))
                                      (Tr.test (isRet (l12_0 ((x0,(x1,(r4.1,((0:Int),())))),((x2,(x2',())),()))))
                                        (let r8:=r12_0 ((x0,(x1,(r4.1,((0:Int),())))),((x2,(x2',())),()));
                                        Tr.fin ((r8.1.1,())))
                                        (let r9:=b12_0 ((x0,(x1,(r4.1,((0:Int),())))),((x2,(x2',())),()));
                                        Tr.test (Option.isSome (f56 (r9.2.1.1,((↑(List.length r9.1.1):Int),()))))
                                          (let r10:=g56 (r9.2.1.1,((↑(List.length r9.1.1):Int),()));
                                          Tr.test (isBrk (l12_2 ((r9.1.1,(r9.1.2.1,(r9.1.2.2.1,(([]:List (Int×ByteArray×ByteArray×PUnit)),(([]:List (Int×ByteArray×ByteArray×PUnit)),(r10.1,((wrap64 ((↑(List.length r9.1.2.1):Int) - (1:Int)):Int),()))))))),((r9.2.1.1,(r9.2.1.2.1,())),()))))
                                            (let r11:=b12_2 ((r9.1.1,(r9.1.2.1,(r9.1.2.2.1,(([]:List (Int×ByteArray×ByteArray×PUnit)),(([]:List (Int×ByteArray×ByteArray×PUnit)),(r10.1,((wrap64 ((↑(List.length r9.1.2.1):Int) - (1:Int)):Int),()))))))),((r9.2.1.1,(r9.2.1.2.1,())),()));
                                            Tr.test (Option.isSome (f60 (r11.1.1,())))
                                              (let r12:=g60 (r11.1.1,());
                                              Tr.test (Option.isSome (f63 (r12.1,(r11.1.2.2.2.1,()))))
                                                (Tr.test (Option.isSome (f63 (r12.1,(r11.1.2.2.2.2.1,()))))
                                                  (let r13:=g63 (r12.1,(r11.1.2.2.2.1,()));
                                                  Tr.test ((!eqF r13.2.1 0:Bool))
                                                    (Tr.fin (((false:Bool),())))
                                                    (Tr.test ((!eqF r13.1 r11.1.2.2.1:Bool))
                                                      (Tr.fin (((false:Bool),())))
                                                      (let r14:=g63 (r12.1,(r11.1.2.2.2.2.1,()));
                                                      Tr.test ((!eqF r14.2.1 0:Bool))
                                                        (Tr.fin (((false:Bool),())))
                                                        (Tr.test ((!leF r14.1 r11.1.2.2.1:Bool))
                                                          (Tr.fin (((false:Bool),())))
                                                          (Tr.test ((decide ((0:Int) ≤ r11.1.2.2.2.2.2.1) && decide (r11.1.2.2.2.2.2.1 < (↑(List.length r11.1.1):Int)):Bool))
                                                            (Tr.test ((!leF (↑(List.length (List.getD r11.1.1 (Int.toNat r11.1.2.2.2.2.2.1) ({ data:={ toList:=[] } },[],(0:Int),())).2.1):Int) (0:Int):Bool))
                                                              (Tr.test ((!leF r14.1 r11.1.2.2.2.2.2.1:Bool))
                                                                (Tr.fin (((false:Bool),())))
                                                                (Tr.test ((eqF (↑(List.length r11.1.2.1):Int) (0:Int):Bool))
                                                                  (Tr.fin (((true:Bool),())))
                                                                  (Tr.test (Option.isSome (f56 (r11.2.1.2.1,((↑(List.length r11.1.2.1):Int),()))))
                                                                    (let r15:=g56 (r11.2.1.2.1,((↑(List.length r11.1.2.1):Int),()));
                                                                    Tr.test ((decide ((0:Int) ≤ r15.1) && decide (r15.1 ≤ (↑(List.length r11.1.2.1):Int)):Bool))
                                                                      (Tr.test ((Nat.ble (((2:Nat) * ((0:Nat) + List.length (List.take (Int.toNat r15.1) r11.1.2.1)) + (192:Nat)) * (40:Nat)) (281474976710656:Nat) && Nat.ble ((0:Nat) + List.length (List.take (Int.toNat r15.1) r11.1.2.1)) (281474976710656:Nat):Bool))
                                                                        (Tr.test ((decide ((0:Int) ≤ wrap64 (r15.1 + (1:Int))) && decide (wrap64 (r15.1 + (1:Int)) ≤ (↑(List.length r11.1.2.1):Int)):Bool))
                                                                          (Tr.test ((Nat.ble (((2:Nat) * (List.length ([]++List.take (Int.toNat r15.1) r11.1.2.1) + List.length (List.drop (Int.toNat (wrap64 (r15.1 + (1:Int)))) r11.1.2.1)) + (192:Nat)) * (40:Nat)) (281474976710656:Nat) && Nat.ble (List.length ([]++List.take (Int.toNat r15.1) r11.1.2.1) + List.length (List.drop (Int.toNat (wrap64 (r15.1 + (1:Int)))) r11.1.2.1)) (281474976710656:Nat):Bool))
                                                                            (Tr.test (Option.isSome (f63 (r12.1,(([]++List.take (Int.toNat r15.1) r11.1.2.1++List.drop (Int.toNat (wrap64 (r15.1 + (1:Int)))) r11.1.2.1:List (Int×ByteArray×ByteArray×PUnit)),()))))
                                                                              (let r16:=g63 (r12.1,(([]++List.take (Int.toNat r15.1) r11.1.2.1++List.drop (Int.toNat (wrap64 (r15.1 + (1:Int)))) r11.1.2.1:List (Int×ByteArray×ByteArray×PUnit)),()));
                                                                              Tr.test ((eqF r16.2.1 0:Bool))
                                                                                (Tr.fin (((leF r16.1 r11.1.2.2.1:Bool),())))
                                                                                (Tr.fin (((false:Bool),()))))
                                                                              (Tr.stop))
                                                                            (Tr.stop))
                                                                          (Tr.stop))
                                                                        (Tr.test ((Nat.ble ((0:Nat) + List.length (List.take (Int.toNat r15.1) r11.1.2.1)) (0:Nat):Bool))
                                                                          (Tr.stop)
                                                                          (Tr.stop)))
                                                                      (Tr.stop))
                                                                    (Tr.stop))))
                                                              (Tr.test ((!leF (List.getD r11.1.1 (Int.toNat r11.1.2.2.2.2.2.1) ({ data:={ toList:=[] } },[],(0:Int),())).2.2.1 (0:Int):Bool))
                                                                (Tr.test ((!leF r14.1 r11.1.2.2.2.2.2.1:Bool))
                                                                  (Tr.fin (((false:Bool),())))
                                                                  (Tr.test ((eqF (↑(List.length r11.1.2.1):Int) (0:Int):Bool))
                                                                    (Tr.fin (((true:Bool),())))
                                                                    (Tr.test (Option.isSome (f56 (r11.2.1.2.1,((↑(List.length r11.1.2.1):Int),()))))
                                                                      (let r15:=g56 (r11.2.1.2.1,((↑(List.length r11.1.2.1):Int),()));
                                                                      Tr.test ((decide ((0:Int) ≤ r15.1) && decide (r15.1 ≤ (↑(List.length r11.1.2.1):Int)):Bool))
                                                                        (Tr.test ((Nat.ble (((2:Nat) * ((0:Nat) + List.length (List.take (Int.toNat r15.1) r11.1.2.1)) + (192:Nat)) * (40:Nat)) (281474976710656:Nat) && Nat.ble ((0:Nat) + List.length (List.take (Int.toNat r15.1) r11.1.2.1)) (281474976710656:Nat):Bool))
                                                                          (Tr.test ((decide ((0:Int) ≤ wrap64 (r15.1 + (1:Int))) && decide (wrap64 (r15.1 + (1:Int)) ≤ (↑(List.length r11.1.2.1):Int)):Bool))
                                                                            (Tr.test ((Nat.ble (((2:Nat) * (List.length ([]++List.take (Int.toNat r15.1) r11.1.2.1) + List.length (List.drop (Int.toNat (wrap64 (r15.1 + (1:Int)))) r11.1.2.1)) + (192:Nat)) * (40:Nat)) (281474976710656:Nat) && Nat.ble (List.length ([]++List.take (Int.toNat r15.1) r11.1.2.1) + List.length (List.drop (Int.toNat (wrap64 (r15.1 + (1:Int)))) r11.1.2.1)) (281474976710656:Nat):Bool))
                                                                              (Tr.test (Option.isSome (f63 (r12.1,(([]++List.take (Int.toNat r15.1) r11.1.2.1++List.drop (Int.toNat (wrap64 (r15.1 + (1:Int)))) r11.1.2.1:List (Int×ByteArray×ByteArray×PUnit)),()))))
                                                                                (let r16:=g63 (r12.1,(([]++List.take (Int.toNat r15.1) r11.1.2.1++List.drop (Int.toNat (wrap64 (r15.1 + (1:Int)))) r11.1.2.1:List (Int×ByteArray×ByteArray×PUnit)),()));
                                                                                Tr.test ((eqF r16.2.1 0:Bool))
                                                                                  (Tr.fin (((leF r16.1 r11.1.2.2.1:Bool),())))
                                                                                  (Tr.fin (((false:Bool),()))))
                                                                                (Tr.stop))
                                                                              (Tr.stop))
                                                                            (Tr.stop))
                                                                          (Tr.test ((Nat.ble ((0:Nat) + List.length (List.take (Int.toNat r15.1) r11.1.2.1)) (0:Nat):Bool))
                                                                            (Tr.stop)
                                                                            (Tr.stop)))
                                                                        (Tr.stop))
                                                                      (Tr.stop))))
                                                                (Tr.test ((eqF (↑(List.length r11.1.2.1):Int) (0:Int):Bool))
                                                                  (Tr.fin (((true:Bool),())))
                                                                  (Tr.test (Option.isSome (f56 (r11.2.1.2.1,((↑(List.length r11.1.2.1):Int),()))))
                                                                    (let r15:=g56 (r11.2.1.2.1,((↑(List.length r11.1.2.1):Int),()));
                                                                    Tr.test ((decide ((0:Int) ≤ r15.1) && decide (r15.1 ≤ (↑(List.length r11.1.2.1):Int)):Bool))
                                                                      (Tr.test ((Nat.ble (((2:Nat) * ((0:Nat) + List.length (List.take (Int.toNat r15.1) r11.1.2.1)) + (192:Nat)) * (40:Nat)) (281474976710656:Nat) && Nat.ble ((0:Nat) + List.length (List.take (Int.toNat r15.1) r11.1.2.1)) (281474976710656:Nat):Bool))
                                                                        (Tr.test ((decide ((0:Int) ≤ wrap64 (r15.1 + (1:Int))) && decide (wrap64 (r15.1 + (1:Int)) ≤ (↑(List.length r11.1.2.1):Int)):Bool))
                                                                          (Tr.test ((Nat.ble (((2:Nat) * (List.length ([]++List.take (Int.toNat r15.1) r11.1.2.1) + List.length (List.drop (Int.toNat (wrap64 (r15.1 + (1:Int)))) r11.1.2.1)) + (192:Nat)) * (40:Nat)) (281474976710656:Nat) && Nat.ble (List.length ([]++List.take (Int.toNat r15.1) r11.1.2.1) + List.length (List.drop (Int.toNat (wrap64 (r15.1 + (1:Int)))) r11.1.2.1)) (281474976710656:Nat):Bool))
                                                                            (Tr.test (Option.isSome (f63 (r12.1,(([]++List.take (Int.toNat r15.1) r11.1.2.1++List.drop (Int.toNat (wrap64 (r15.1 + (1:Int)))) r11.1.2.1:List (Int×ByteArray×ByteArray×PUnit)),()))))
                                                                              (let r16:=g63 (r12.1,(([]++List.take (Int.toNat r15.1) r11.1.2.1++List.drop (Int.toNat (wrap64 (r15.1 + (1:Int)))) r11.1.2.1:List (Int×ByteArray×ByteArray×PUnit)),()));
                                                                              Tr.test ((eqF r16.2.1 0:Bool))
                                                                                (Tr.fin (((leF r16.1 r11.1.2.2.1:Bool),())))
                                                                                (Tr.fin (((false:Bool),()))))
                                                                              (Tr.stop))
                                                                            (Tr.stop))
                                                                          (Tr.stop))
                                                                        (Tr.test ((Nat.ble ((0:Nat) + List.length (List.take (Int.toNat r15.1) r11.1.2.1)) (0:Nat):Bool))
                                                                          (Tr.stop)
                                                                          (Tr.stop)))
                                                                      (Tr.stop))
                                                                    (Tr.stop)))))
                                                            (Tr.stop))))))
                                                  (Tr.stop))
                                                (Tr.stop))
                                              (Tr.stop))
                                            (Tr.stop))
                                          (Tr.stop)))
                                      (Tr.stop))))
                                (Tr.stop))
                              (Tr.test (Option.isSome (l12_0 ((x0,(x1,(r4.1,((0:Int),())))),((x2,(x2',())),()))))
                                (Tr.test (isRet (l12_0 ((x0,(x1,(r4.1,((0:Int),())))),((x2,(x2',())),()))))
                                  (let r8:=r12_0 ((x0,(x1,(r4.1,((0:Int),())))),((x2,(x2',())),()));
                                  Tr.fin ((r8.1.1,())))
                                  (let r9:=b12_0 ((x0,(x1,(r4.1,((0:Int),())))),((x2,(x2',())),()));
                                  Tr.test (Option.isSome (f56 (r9.2.1.1,((↑(List.length r9.1.1):Int),()))))
                                    (let r10:=g56 (r9.2.1.1,((↑(List.length r9.1.1):Int),()));
                                    Tr.test (isBrk (l12_2 ((r9.1.1,(r9.1.2.1,(r9.1.2.2.1,(([]:List (Int×ByteArray×ByteArray×PUnit)),(([]:List (Int×ByteArray×ByteArray×PUnit)),(r10.1,((wrap64 ((↑(List.length r9.1.2.1):Int) - (1:Int)):Int),()))))))),((r9.2.1.1,(r9.2.1.2.1,())),()))))
                                      (let r11:=b12_2 ((r9.1.1,(r9.1.2.1,(r9.1.2.2.1,(([]:List (Int×ByteArray×ByteArray×PUnit)),(([]:List (Int×ByteArray×ByteArray×PUnit)),(r10.1,((wrap64 ((↑(List.length r9.1.2.1):Int) - (1:Int)):Int),()))))))),((r9.2.1.1,(r9.2.1.2.1,())),()));
                                      Tr.test (Option.isSome (f60 (r11.1.1,())))
                                        (let r12:=g60 (r11.1.1,());
                                        Tr.test (Option.isSome (f63 (r12.1,(r11.1.2.2.2.1,()))))
                                          (Tr.test (Option.isSome (f63 (r12.1,(r11.1.2.2.2.2.1,()))))
                                            (let r13:=g63 (r12.1,(r11.1.2.2.2.1,()));
                                            Tr.test ((!eqF r13.2.1 0:Bool))
                                              (Tr.fin (((false:Bool),())))
                                              (Tr.test ((!eqF r13.1 r11.1.2.2.1:Bool))
                                                (Tr.fin (((false:Bool),())))
                                                (let r14:=g63 (r12.1,(r11.1.2.2.2.2.1,()));
                                                Tr.test ((!eqF r14.2.1 0:Bool))
                                                  (Tr.fin (((false:Bool),())))
                                                  (Tr.test ((!leF r14.1 r11.1.2.2.1:Bool))
                                                    (Tr.fin (((false:Bool),())))
                                                    (Tr.test ((decide ((0:Int) ≤ r11.1.2.2.2.2.2.1) && decide (r11.1.2.2.2.2.2.1 < (↑(List.length r11.1.1):Int)):Bool))
                                                      (Tr.test ((!leF (↑(List.length (List.getD r11.1.1 (Int.toNat r11.1.2.2.2.2.2.1) ({ data:={ toList:=[] } },[],(0:Int),())).2.1):Int) (0:Int):Bool))
                                                        (Tr.test ((!leF r14.1 r11.1.2.2.2.2.2.1:Bool))
                                                          (Tr.fin (((false:Bool),())))
                                                          (Tr.test ((eqF (↑(List.length r11.1.2.1):Int) (0:Int):Bool))
                                                            (Tr.fin (((true:Bool),())))
                                                            (Tr.test (Option.isSome (f56 (r11.2.1.2.1,((↑(List.length r11.1.2.1):Int),()))))
                                                              (let r15:=g56 (r11.2.1.2.1,((↑(List.length r11.1.2.1):Int),()));
                                                              Tr.test ((decide ((0:Int) ≤ r15.1) && decide (r15.1 ≤ (↑(List.length r11.1.2.1):Int)):Bool))
                                                                (Tr.test ((Nat.ble (((2:Nat) * ((0:Nat) + List.length (List.take (Int.toNat r15.1) r11.1.2.1)) + (192:Nat)) * (40:Nat)) (281474976710656:Nat) && Nat.ble ((0:Nat) + List.length (List.take (Int.toNat r15.1) r11.1.2.1)) (281474976710656:Nat):Bool))
                                                                  (Tr.test ((decide ((0:Int) ≤ wrap64 (r15.1 + (1:Int))) && decide (wrap64 (r15.1 + (1:Int)) ≤ (↑(List.length r11.1.2.1):Int)):Bool))
                                                                    (Tr.test ((Nat.ble (((2:Nat) * (List.length ([]++List.take (Int.toNat r15.1) r11.1.2.1) + List.length (List.drop (Int.toNat (wrap64 (r15.1 + (1:Int)))) r11.1.2.1)) + (192:Nat)) * (40:Nat)) (281474976710656:Nat) && Nat.ble (List.length ([]++List.take (Int.toNat r15.1) r11.1.2.1) + List.length (List.drop (Int.toNat (wrap64 (r15.1 + (1:Int)))) r11.1.2.1)) (281474976710656:Nat):Bool))
                                                                      (Tr.test (Option.isSome (f63 (r12.1,(([]++List.take (Int.toNat r15.1) r11.1.2.1++List.drop (Int.toNat (wrap64 (r15.1 + (1:Int)))) r11.1.2.1:List (Int×ByteArray×ByteArray×PUnit)),()))))
                                                                        (let r16:=g63 (r12.1,(([]++List.take (Int.toNat r15.1) r11.1.2.1++List.drop (Int.toNat (wrap64 (r15.1 + (1:Int)))) r11.1.2.1:List (Int×ByteArray×ByteArray×PUnit)),()));
                                                                        Tr.test ((eqF r16.2.1 0:Bool))
                                                                          (Tr.fin (((leF r16.1 r11.1.2.2.1:Bool),())))
                                                                          (Tr.fin (((false:Bool),()))))
                                                                        (Tr.stop))
                                                                      (Tr.stop))
                                                                    (Tr.stop))
                                                                  (Tr.test ((Nat.ble ((0:Nat) + List.length (List.take (Int.toNat r15.1) r11.1.2.1)) (0:Nat):Bool))
                                                                    (Tr.stop)
                                                                    (Tr.stop)))
                                                                (Tr.stop))
                                                              (Tr.stop))))
                                                        (Tr.test ((!leF (List.getD r11.1.1 (Int.toNat r11.1.2.2.2.2.2.1) ({ data:={ toList:=[] } },[],(0:Int),())).2.2.1 (0:Int):Bool))
                                                          (Tr.test ((!leF r14.1 r11.1.2.2.2.2.2.1:Bool))
                                                            (Tr.fin (((false:Bool),())))
                                                            (Tr.test ((eqF (↑(List.length r11.1.2.1):Int) (0:Int):Bool))
                                                              (Tr.fin (((true:Bool),())))
                                                              (Tr.test (Option.isSome (f56 (r11.2.1.2.1,((↑(List.length r11.1.2.1):Int),()))))
                                                                (let r15:=g56 (r11.2.1.2.1,((↑(List.length r11.1.2.1):Int),()));
                                                                Tr.test ((decide ((0:Int) ≤ r15.1) && decide (r15.1 ≤ (↑(List.length r11.1.2.1):Int)):Bool))
                                                                  (Tr.test ((Nat.ble (((2:Nat) * ((0:Nat) + List.length (List.take (Int.toNat r15.1) r11.1.2.1)) + (192:Nat)) * (40:Nat)) (281474976710656:Nat) && Nat.ble ((0:Nat) + List.length (List.take (Int.toNat r15.1) r11.1.2.1)) (281474976710656:Nat):Bool))
                                                                    (Tr.test ((decide ((0:Int) ≤ wrap64 (r15.1 + (1:Int))) && decide (wrap64 (r15.1 + (1:Int)) ≤ (↑(List.length r11.1.2.1):Int)):Bool))
                                                                      (Tr.test ((Nat.ble (((2:Nat) * (List.length ([]++List.take (Int.toNat r15.1) r11.1.2.1) + List.length (List.drop (Int.toNat (wrap64 (r15.1 + (1:Int)))) r11.1.2.1)) + (192:Nat)) * (40:Nat)) (281474976710656:Nat) && Nat.ble (List.length ([]++List.take (Int.toNat r15.1) r11.1.2.1) + List.length (List.drop (Int.toNat (wrap64 (r15.1 + (1:Int)))) r11.1.2.1)) (281474976710656:Nat):Bool))
                                                                        (Tr.test (Option.isSome (f63 (r12.1,(([]++List.take (Int.toNat r15.1) r11.1.2.1++List.drop (Int.toNat (wrap64 (r15.1 + (1:Int)))) r11.1.2.1:List (Int×ByteArray×ByteArray×PUnit)),()))))
                                                                          (let r16:=g63 (r12.1,(([]++List.take (Int.toNat r15.1) r11.1.2.1++List.drop (Int.toNat (wrap64 (r15.1 + (1:Int)))) r11.1.2.1:List (Int×ByteArray×ByteArray×PUnit)),()));
                                                                          Tr.test ((eqF r16.2.1 0:Bool))
                                                                            (Tr.fin (((leF r16.1 r11.1.2.2.1:Bool),())))
                                                                            (Tr.fin (((false:Bool),()))))
                                                                          (Tr.stop))
                                                                        (Tr.stop))
                                                                      (Tr.stop))
                                                                    (Tr.test ((Nat.ble ((0:Nat) + List.length (List.take (Int.toNat r15.1) r11.1.2.1)) (0:Nat):Bool))
                                                                      (Tr.stop)
                                                                      (Tr.stop)))
                                                                  (Tr.stop))
                                                                (Tr.stop))))
                                                          (Tr.test ((eqF (↑(List.length r11.1.2.1):Int) (0:Int):Bool))
                                                            (Tr.fin (((true:Bool),())))
                                                            (Tr.test (Option.isSome (f56 (r11.2.1.2.1,((↑(List.length r11.1.2.1):Int),()))))
                                                              (let r15:=g56 (r11.2.1.2.1,((↑(List.length r11.1.2.1):Int),()));
                                                              Tr.test ((decide ((0:Int) ≤ r15.1) && decide (r15.1 ≤ (↑(List.length r11.1.2.1):Int)):Bool))
                                                                (Tr.test ((Nat.ble (((2:Nat) * ((0:Nat) + List.length (List.take (Int.toNat r15.1) r11.1.2.1)) + (192:Nat)) * (40:Nat)) (281474976710656:Nat) && Nat.ble ((0:Nat) + List.length (List.take (Int.toNat r15.1) r11.1.2.1)) (281474976710656:Nat):Bool))
                                                                  (Tr.test ((decide ((0:Int) ≤ wrap64 (r15.1 + (1:Int))) && decide (wrap64 (r15.1 + (1:Int)) ≤ (↑(List.length r11.1.2.1):Int)):Bool))
                                                                    (Tr.test ((Nat.ble (((2:Nat) * (List.length ([]++List.take (Int.toNat r15.1) r11.1.2.1) + List.length (List.drop (Int.toNat (wrap64 (r15.1 + (1:Int)))) r11.1.2.1)) + (192:Nat)) * (40:Nat)) (281474976710656:Nat) && Nat.ble (List.length ([]++List.take (Int.toNat r15.1) r11.1.2.1) + List.length (List.drop (Int.toNat (wrap64 (r15.1 + (1:Int)))) r11.1.2.1)) (281474976710656:Nat):Bool))
                                                                      (Tr.test (Option.isSome (f63 (r12.1,(([]++List.take (Int.toNat r15.1) r11.1.2.1++List.drop (Int.toNat (wrap64 (r15.1 + (1:Int)))) r11.1.2.1:List (Int×ByteArray×ByteArray×PUnit)),()))))
                                                                        (let r16:=g63 (r12.1,(([]++List.take (Int.toNat r15.1) r11.1.2.1++List.drop (Int.toNat (wrap64 (r15.1 + (1:Int)))) r11.1.2.1:List (Int×ByteArray×ByteArray×PUnit)),()));
                                                                        Tr.test ((eqF r16.2.1 0:Bool))
                                                                          (Tr.fin (((leF r16.1 r11.1.2.2.1:Bool),())))
                                                                          (Tr.fin (((false:Bool),()))))
                                                                        (Tr.stop))
                                                                      (Tr.stop))
                                                                    (Tr.stop))
                                                                  (Tr.test ((Nat.ble ((0:Nat) + List.length (List.take (Int.toNat r15.1) r11.1.2.1)) (0:Nat):Bool))
                                                                    (Tr.stop)
                                                                    (Tr.stop)))
                                                                (Tr.stop))
                                                              (Tr.stop)))))
                                                      (Tr.stop))))))
                                            (Tr.stop))
                                          (Tr.stop))
                                        (Tr.stop))
                                      (Tr.stop))
                                    (Tr.stop)))
                                (Tr.stop))))
                          (Tr.stop)))
                      (Tr.stop))
                    (Tr.test ((Nat.ble ((0:Nat) + List.length x1) (0:Nat):Bool))
                      (Tr.stop)
                      (Tr.stop)))
                  (Tr.stop)))
              (Tr.stop))))
        (Tr.stop)))
    (Tr.stop)

def f12 (d:Tys.data as12):Option (Tys.data rs12):=(t12 d.1 d.2.1 d.2.2.1.1 d.2.2.1.2.1).val
def g12 (d:Tys.data as12):Tys.data rs12:=(f12 d).getD (Tys.dflt rs12)
def p12:PureC:=pcOf as12 rs12 f12 g12

theorem wk12n0 (x0:(List (ByteArray×((List ByteArray)×(Int×Unit))))) (x1:(List (Int×(ByteArray×(ByteArray×Unit))))) (x2:Int) (x2':Int):Walks (runPure (kl12_2 Go.Proofs.Tryz.prog).orc Go.Proofs.Tryz.prog 400 12 as12 rs12 (x0,x1,(x2,x2',()),())) (t12 x0 x1 x2 x2') [(bl 2 3,[1,1,1,1,1,1,1,1,1,1,1,2,2,2,2,4,0,1]),(bl 4 13,[1,1,1,1,1,1,1,2,2,2,2,6,6,4,6,6,8,0,1]),(bl 5 21,[1,2,2,2,2,2,2,4,4,4,4,8,8,6,8,8,10,0,1]),(bl 7 101,[2,6,6,4,6,6,6,6,8,8,8,8,12,12,10,12,12,14,0,1]),(bl 11 1957,[1,2,2,2,2,2,2,4,6,8,10,14,14,12,14,14,14,14,16,16,16,16,20,20,18,20,20,22,0,1]),(bl 13 7077,[2,6,6,4,6,6,6,6,8,10,12,14,18,18,16,18,18,18,18,20,20,20,20,24,24,22,24,24,26,0,1]),(bl 16 60325,[1,2,2,2,2,2,2,4,16,18,6,8,12,12,10,12,12,12,12,14,16,18,20,24,24,22,24,24,24,24,26,26,26,26,30,30,28,30,30,32,0,1]),(bl 20 1010597,[2,10,8,10,8,8,8,4,8,8,8,6,8,8,8,10,10,10,10,12,24,26,14,16,20,20,18,20,20,20,20,22,24,26,28,32,32,30,32,32,32,32,34,34,34,34,38,38,36,38,38,40,0,1]),(bl 22 3632037,[2,4,6,14,12,14,12,12,12,8,12,12,12,10,12,12,12,14,14,14,14,16,28,30,18,20,24,24,22,24,24,24,24,26,28,30,32,36,36,34,36,36,36,36,38,38,38,38,42,42,40,42,42,44,0,1]),(bl 28 265776037,[1,1,1,1,1,1,1,1,1,1,1,1,1,1,1,1,1,1,1,1,2,2,2,2,4,8,6,8,1,10,12,1,14,16,18,26,24,26,24,24,24,20,24,24,24,22,24,24,24,26,26,26,26,28,40,42,30,32,36,36,34,36,36,36,36,38,40,42,44,48,48,46,48,48,48,48,50,50,50,50,54,54,52,54,54,56,0,1]),(bl 29 399993765,[1,1,1,1,1,1,1,1,1,1,1,1,1,1,1,1,1,2,2,2,4,4,4,4,6,10,8,10,1,12,14,1,16,18,20,28,26,28,26,26,26,22,26,26,26,24,26,26,26,28,28,28,28,30,42,44,32,34,38,38,36,38,38,38,38,40,42,44,46,50,50,48,50,50,50,50,52,52,52,52,56,56,54,56,56,58,0,1]),(bl 30 668429221,[1,1,1,1,1,1,1,1,1,1,1,1,1,2,2,2,2,4,4,4,6,6,6,6,8,12,10,12,1,14,16,1,18,20,22,30,28,30,28,28,28,24,28,28,28,26,28,28,28,30,30,30,30,32,44,46,34,36,40,40,38,40,40,40,40,42,44,46,48,52,52,50,52,52,52,52,54,54,54,54,58,58,56,58,58,60,0,1]),(bl 31 1205300133,[1,2,2,2,2,2,2,2,2,2,2,2,2,4,4,4,4,6,6,6,8,8,8,8,10,14,12,14,1,16,18,1,20,22,24,32,30,32,30,30,30,26,30,30,30,28,30,30,30,32,32,32,32,34,46,48,36,38,42,42,40,42,42,42,42,44,46,48,50,54,54,52,54,54,54,54,56,56,56,56,60,60,58,60,60,62,0,1]),(bl 34 15163943845,[2,8,1,8,1,1,1,8,4,8,4,4,4,4,4,4,8,8,8,8,8,6,8,8,8,10,10,10,10,12,12,12,14,14,14,14,16,20,18,20,1,22,24,1,26,28,30,38,36,38,36,36,36,32,36,36,36,34,36,36,36,38,38,38,38,40,52,54,42,44,48,48,46,48,48,48,48,50,52,54,56,60,60,58,60,60,60,60,62,62,62,62,66,66,64,66,66,68,0,1]),(bl 35 23753878437,[2,4,10,1,10,1,1,1,10,6,10,6,6,6,6,6,6,10,10,10,10,10,8,10,10,10,12,12,12,12,14,14,14,16,16,16,16,18,22,20,22,1,24,26,1,28,30,32,40,38,40,38,38,38,34,38,38,38,36,38,38,38,40,40,40,40,42,54,56,44,46,50,50,48,50,50,50,50,52,54,56,58,62,62,60,62,62,62,62,64,64,64,64,68,68,66,68,68,70,0,1]),(bl 42 4370260781989,[2,2,2,2,4,36,6,8,10,12,14,1,16,18,24,1,24,1,1,1,24,20,24,20,20,20,20,20,20,24,24,24,24,24,22,24,24,24,26,26,26,26,28,28,28,30,30,30,30,32,36,34,36,1,38,40,1,42,44,46,54,52,54,52,52,52,48,52,52,52,50,52,52,52,54,54,54,54,56,68,70,58,60,64,64,62,64,64,64,64,66,68,70,72,76,76,74,76,76,76,76,78,78,78,78,82,82,80,82,82,84,0,1])] :=
  ⟨by kernel_rfl,by kernel_rfl,by kernel_rfl,by kernel_rfl,by kernel_rfl,by kernel_rfl,by kernel_rfl,by kernel_rfl,by kernel_rfl,by kernel_rfl,by kernel_rfl,by kernel_rfl,by kernel_rfl,by kernel_rfl,by kernel_rfl,by kernel_rfl,trivial⟩

theorem wk12n1 (x0:(List (ByteArray×((List ByteArray)×(Int×Unit))))) (x1:(List (Int×(ByteArray×(ByteArray×Unit))))) (x2:Int) (x2':Int):Walks (runPure (kl12_2 Go.Proofs.Tryz.prog).orc Go.Proofs.Tryz.prog 400 12 as12 rs12 (x0,x1,(x2,x2',()),())) (t12 x0 x1 x2 x2') [(bl 42 2171237526437,[2,2,2,2,4,36,6,8,10,12,14,1,16,18,24,1,24,1,1,1,24,20,24,20,20,20,20,20,20,24,24,24,24,24,22,24,24,24,26,26,26,26,28,28,28,30,30,30,30,32,36,34,36,1,38,40,1,42,44,46,54,52,54,52,52,52,48,52,52,52,50,52,52,52,54,54,54,54,56,68,70,58,60,64,64,62,64,64,64,64,66,68,70,72,76,76,74,76,76,76,76,78,78,78,78,82,82,80,82,82,84,0,1]),(bl 35 28048845733,[2,10,4,10,4,4,4,10,6,10,6,6,6,8,6,6,6,10,10,10,10,10,8,10,10,10,12,12,12,12,14,14,14,16,16,16,16,18,22,20,22,1,24,26,1,28,30,32,40,38,40,38,38,38,34,38,38,38,36,38,38,38,40,40,40,40,42,54,56,44,46,50,50,48,50,50,50,50,52,54,56,58,62,62,60,62,62,62,62,64,64,64,64,68,68,66,68,68,70,0,1]),(bl 36 45228714917,[2,4,12,6,12,6,6,6,12,8,12,8,8,8,10,8,8,8,12,12,12,12,12,10,12,12,12,14,14,14,14,16,16,16,18,18,18,18,20,24,22,24,1,26,28,1,30,32,34,42,40,42,40,40,40,36,40,40,40,38,40,40,40,42,42,42,42,44,56,58,46,48,52,52,50,52,52,52,52,54,56,58,60,64,64,62,64,64,64,64,66,66,66,66,70,70,68,70,70,72,0,1]),(bl 43 8738242522021,[2,2,2,2,4,38,6,8,10,12,14,1,16,18,26,20,26,20,20,20,26,22,26,22,22,22,24,22,22,22,26,26,26,26,26,24,26,26,26,28,28,28,28,30,30,30,32,32,32,32,34,38,36,38,1,40,42,1,44,46,48,56,54,56,54,54,54,50,54,54,54,52,54,54,54,56,56,56,56,58,70,72,60,62,66,66,64,66,66,66,66,68,70,72,74,78,78,76,78,78,78,78,80,80,80,80,84,84,82,84,84,86,0,1]),(bl 43 4340196010917,[2,2,2,2,4,38,6,8,10,12,14,1,16,18,26,20,26,20,20,20,26,22,26,22,22,22,24,22,22,22,26,26,26,26,26,24,26,26,26,28,28,28,28,30,30,30,32,32,32,32,34,38,36,38,1,40,42,1,44,46,48,56,54,56,54,54,54,50,54,54,54,52,54,54,54,56,56,56,56,58,70,72,60,62,66,66,64,66,66,66,66,68,70,72,74,78,78,76,78,78,78,78,80,80,80,80,84,84,82,84,84,86,0,1]),(bl 35 19458911141,[2,0,10,4,10,4,4,4,10,6,10,6,6,6,8,6,6,6,10,10,10,10,10,8,10,10,10,12,12,12,12,14,14,14,16,16,16,16,18,22,20,22,1,24,26,1,28,30,32,40,38,40,38,38,38,34,38,38,38,36,38,38,38,40,40,40,40,42,54,56,44,46,50,50,48,50,50,50,50,52,54,56,58,62,62,60,62,62,62,62,64,64,64,64,68,68,66,68,68,70,0,1]),(bl 42 4365965814693,[2,2,2,2,4,36,6,8,10,12,14,1,16,0,24,18,24,18,18,18,24,20,24,20,20,20,22,20,20,20,24,24,24,24,24,22,24,24,24,26,26,26,26,28,28,28,30,30,30,30,32,36,34,36,1,38,40,1,42,44,46,54,52,54,52,52,52,48,52,52,52,50,52,52,52,54,54,54,54,56,68,70,58,60,64,64,62,64,64,64,64,66,68,70,72,76,76,74,76,76,76,76,78,78,78,78,82,82,80,82,82,84,0,1]),(bl 42 2166942559141,[2,2,2,2,4,36,6,8,10,12,14,1,16,0,24,18,24,18,18,18,24,20,24,20,20,20,22,20,20,20,24,24,24,24,24,22,24,24,24,26,26,26,26,28,28,28,30,30,30,30,32,36,34,36,1,38,40,1,42,44,46,54,52,54,52,52,52,48,52,52,52,50,52,52,52,54,54,54,54,56,68,70,58,60,64,64,62,64,64,64,64,66,68,70,72,76,76,74,76,76,76,76,78,78,78,78,82,82,80,82,82,84,0,1]),(bl 19 420773,[2,4,0,8,6,8,6,6,6,6,6,6,6,6,6,8,8,8,8,10,22,24,12,14,18,18,16,18,18,18,18,20,22,24,26,30,30,28,30,30,30,30,32,32,32,32,36,36,34,36,36,38,0,1]),(bl 25 33188773,[1,1,1,1,1,1,1,1,1,1,1,1,1,1,1,1,1,1,1,1,2,2,2,2,4,8,6,8,1,10,12,1,14,16,0,20,18,20,18,18,18,18,18,18,18,18,18,20,20,20,20,22,34,36,24,26,30,30,28,30,30,30,30,32,34,36,38,42,42,40,42,42,42,42,44,44,44,44,48,48,46,48,48,50,0,1]),(bl 26 49965989,[1,1,1,1,1,1,1,1,1,1,1,1,1,1,1,1,1,2,2,2,4,4,4,4,6,10,8,10,1,12,14,1,16,18,0,22,20,22,20,20,20,20,20,20,20,20,20,22,22,22,22,24,36,38,26,28,32,32,30,32,32,32,32,34,36,38,40,44,44,42,44,44,44,44,46,46,46,46,50,50,48,50,50,52,0,1]),(bl 27 83520421,[1,1,1,1,1,1,1,1,1,1,1,1,1,2,2,2,2,4,4,4,6,6,6,6,8,12,10,12,1,14,16,1,18,20,0,24,22,24,22,22,22,22,22,22,22,22,22,24,24,24,24,26,38,40,28,30,34,34,32,34,34,34,34,36,38,40,42,46,46,44,46,46,46,46,48,48,48,48,52,52,50,52,52,54,0,1]),(bl 28 150629285,[1,2,2,2,2,2,2,2,2,2,2,2,2,4,4,4,4,6,6,6,8,8,8,8,10,14,12,14,1,16,18,1,20,22,0,26,24,26,24,24,24,24,24,24,24,24,24,26,26,26,26,28,40,42,30,32,36,36,34,36,36,36,36,38,40,42,44,48,48,46,48,48,48,48,50,50,50,50,54,54,52,54,54,56,0,1]),(bl 31 1895459749,[2,8,1,8,1,1,1,8,4,8,4,4,4,4,4,4,8,8,8,8,8,6,8,8,8,10,10,10,10,12,12,12,14,14,14,14,16,20,18,20,1,22,24,1,26,28,0,32,30,32,30,30,30,30,30,30,30,30,30,32,32,32,32,34,46,48,36,38,42,42,40,42,42,42,42,44,46,48,50,54,54,52,54,54,54,54,56,56,56,56,60,60,58,60,60,62,0,1]),(bl 32 2969201573,[2,4,10,1,10,1,1,1,10,6,10,6,6,6,6,6,6,10,10,10,10,10,8,10,10,10,12,12,12,12,14,14,14,16,16,16,16,18,22,20,22,1,24,26,1,28,30,0,34,32,34,32,32,32,32,32,32,32,32,32,34,34,34,34,36,48,50,38,40,44,44,42,44,44,44,44,46,48,50,52,56,56,54,56,56,56,56,58,58,58,58,62,62,60,62,62,64,0,1]),(bl 39 546282564517,[2,2,2,2,4,36,6,8,10,12,14,1,16,18,24,1,24,1,1,1,24,20,24,20,20,20,20,20,20,24,24,24,24,24,22,24,24,24,26,26,26,26,28,28,28,30,30,30,30,32,36,34,36,1,38,40,1,42,44,0,48,46,48,46,46,46,46,46,46,46,46,46,48,48,48,48,50,62,64,52,54,58,58,56,58,58,58,58,60,62,64,66,70,70,68,70,70,70,70,72,72,72,72,76,76,74,76,76,78,0,1])] :=
  ⟨by kernel_rfl,by kernel_rfl,by kernel_rfl,by kernel_rfl,by kernel_rfl,by kernel_rfl,by kernel_rfl,by kernel_rfl,by kernel_rfl,by kernel_rfl,by kernel_rfl,by kernel_rfl,by kernel_rfl,by kernel_rfl,by kernel_rfl,by kernel_rfl,trivial⟩

theorem wk12n2 (x0:(List (ByteArray×((List ByteArray)×(Int×Unit))))) (x1:(List (Int×(ByteArray×(ByteArray×Unit))))) (x2:Int) (x2':Int):Walks (runPure (kl12_2 Go.Proofs.Tryz.prog).orc Go.Proofs.Tryz.prog 400 12 as12 rs12 (x0,x1,(x2,x2',()),())) (t12 x0 x1 x2 x2') [(bl 39 271404657573,[2,2,2,2,4,36,6,8,10,12,14,1,16,18,24,1,24,1,1,1,24,20,24,20,20,20,20,20,20,24,24,24,24,24,22,24,24,24,26,26,26,26,28,28,28,30,30,30,30,32,36,34,36,1,38,40,1,42,44,0,48,46,48,46,46,46,46,46,46,46,46,46,48,48,48,48,50,62,64,52,54,58,58,56,58,58,58,58,60,62,64,66,70,70,68,70,70,70,70,72,72,72,72,76,76,74,76,76,78,0,1]),(bl 32 3506072485,[2,10,4,10,4,4,4,10,6,10,6,6,6,8,6,6,6,10,10,10,10,10,8,10,10,10,12,12,12,12,14,14,14,16,16,16,16,18,22,20,22,1,24,26,1,28,30,0,34,32,34,32,32,32,32,32,32,32,32,32,34,34,34,34,36,48,50,38,40,44,44,42,44,44,44,44,46,48,50,52,56,56,54,56,56,56,56,58,58,58,58,62,62,60,62,62,64,0,1]),(bl 33 5653556133,[2,4,12,6,12,6,6,6,12,8,12,8,8,8,10,8,8,8,12,12,12,12,12,10,12,12,12,14,14,14,14,16,16,16,18,18,18,18,20,24,22,24,1,26,28,1,30,32,0,36,34,36,34,34,34,34,34,34,34,34,34,36,36,36,36,38,50,52,40,42,46,46,44,46,46,46,46,48,50,52,54,58,58,56,58,58,58,58,60,60,60,60,64,64,62,64,64,66,0,1]),(bl 40 1092280282021,[2,2,2,2,4,38,6,8,10,12,14,1,16,18,26,20,26,20,20,20,26,22,26,22,22,22,24,22,22,22,26,26,26,26,26,24,26,26,26,28,28,28,28,30,30,30,32,32,32,32,34,38,36,38,1,40,42,1,44,46,0,50,48,50,48,48,48,48,48,48,48,48,48,50,50,50,50,52,64,66,54,56,60,60,58,60,60,60,60,62,64,66,68,72,72,70,72,72,72,72,74,74,74,74,78,78,76,78,78,80,0,1]),(bl 40 542524468133,[2,2,2,2,4,38,6,8,10,12,14,1,16,18,26,20,26,20,20,20,26,22,26,22,22,22,24,22,22,22,26,26,26,26,26,24,26,26,26,28,28,28,28,30,30,30,32,32,32,32,34,38,36,38,1,40,42,1,44,46,0,50,48,50,48,48,48,48,48,48,48,48,48,50,50,50,50,52,64,66,54,56,60,60,58,60,60,60,60,62,64,66,68,72,72,70,72,72,72,72,74,74,74,74,78,78,76,78,78,80,0,1]),(bl 32 2432330661,[2,0,10,4,10,4,4,4,10,6,10,6,6,6,8,6,6,6,10,10,10,10,10,8,10,10,10,12,12,12,12,14,14,14,16,16,16,16,18,22,20,22,1,24,26,1,28,30,0,34,32,34,32,32,32,32,32,32,32,32,32,34,34,34,34,36,48,50,38,40,44,44,42,44,44,44,44,46,48,50,52,56,56,54,56,56,56,56,58,58,58,58,62,62,60,62,62,64,0,1]),(bl 39 545745693605,[2,2,2,2,4,36,6,8,10,12,14,1,16,0,24,18,24,18,18,18,24,20,24,20,20,20,22,20,20,20,24,24,24,24,24,22,24,24,24,26,26,26,26,28,28,28,30,30,30,30,32,36,34,36,1,38,40,1,42,44,0,48,46,48,46,46,46,46,46,46,46,46,46,48,48,48,48,50,62,64,52,54,58,58,56,58,58,58,58,60,62,64,66,70,70,68,70,70,70,70,72,72,72,72,76,76,74,76,76,78,0,1]),(bl 39 270867786661,[2,2,2,2,4,36,6,8,10,12,14,1,16,0,24,18,24,18,18,18,24,20,24,20,20,20,22,20,20,20,24,24,24,24,24,22,24,24,24,26,26,26,26,28,28,28,30,30,30,30,32,36,34,36,1,38,40,1,42,44,0,48,46,48,46,46,46,46,46,46,46,46,46,48,48,48,48,50,62,64,52,54,58,58,56,58,58,58,58,60,62,64,66,70,70,68,70,70,70,70,72,72,72,72,76,76,74,76,76,78,0,1]),(bl 16 52133,[2,4,6,8,12,12,10,12,12,12,12,14,16,18,20,24,24,22,24,24,24,24,26,26,26,26,30,30,28,30,30,32,0,1]),(bl 22 4148133,[1,1,1,1,1,1,1,1,1,1,1,1,1,1,1,1,1,1,1,1,2,2,2,2,4,8,6,8,1,10,12,1,14,16,18,20,24,24,22,24,24,24,24,26,28,30,32,36,36,34,36,36,36,36,38,38,38,38,42,42,40,42,42,44,0,1]),(bl 23 6245285,[1,1,1,1,1,1,1,1,1,1,1,1,1,1,1,1,1,2,2,2,4,4,4,4,6,10,8,10,1,12,14,1,16,18,20,22,26,26,24,26,26,26,26,28,30,32,34,38,38,36,38,38,38,38,40,40,40,40,44,44,42,44,44,46,0,1]),(bl 24 10439589,[1,1,1,1,1,1,1,1,1,1,1,1,1,2,2,2,2,4,4,4,6,6,6,6,8,12,10,12,1,14,16,1,18,20,22,24,28,28,26,28,28,28,28,30,32,34,36,40,40,38,40,40,40,40,42,42,42,42,46,46,44,46,46,48,0,1]),(bl 25 18828197,[1,2,2,2,2,2,2,2,2,2,2,2,2,4,4,4,4,6,6,6,8,8,8,8,10,14,12,14,1,16,18,1,20,22,24,26,30,30,28,30,30,30,30,32,34,36,38,42,42,40,42,42,42,42,44,44,44,44,48,48,46,48,48,50,0,1]),(bl 28 236932005,[2,8,1,8,1,1,1,8,4,8,4,4,4,4,4,4,8,8,8,8,8,6,8,8,8,10,10,10,10,12,12,12,14,14,14,14,16,20,18,20,1,22,24,1,26,28,30,32,36,36,34,36,36,36,36,38,40,42,44,48,48,46,48,48,48,48,50,50,50,50,54,54,52,54,54,56,0,1]),(bl 29 371149733,[2,4,10,1,10,1,1,1,10,6,10,6,6,6,6,6,6,10,10,10,10,10,8,10,10,10,12,12,12,12,14,14,14,16,16,16,16,18,22,20,22,1,24,26,1,28,30,32,34,38,38,36,38,38,38,38,40,42,44,46,50,50,48,50,50,50,50,52,52,52,52,56,56,54,56,56,58,0,1]),(bl 36 68285320101,[2,2,2,2,4,36,6,8,10,12,14,1,16,18,24,1,24,1,1,1,24,20,24,20,20,20,20,20,20,24,24,24,24,24,22,24,24,24,26,26,26,26,28,28,28,30,30,30,30,32,36,34,36,1,38,40,1,42,44,46,48,52,52,50,52,52,52,52,54,56,58,60,64,64,62,64,64,64,64,66,66,66,66,70,70,68,70,70,72,0,1])] :=
  ⟨by kernel_rfl,by kernel_rfl,by kernel_rfl,by kernel_rfl,by kernel_rfl,by kernel_rfl,by kernel_rfl,by kernel_rfl,by kernel_rfl,by kernel_rfl,by kernel_rfl,by kernel_rfl,by kernel_rfl,by kernel_rfl,by kernel_rfl,by kernel_rfl,trivial⟩

theorem wk12n3 (x0:(List (ByteArray×((List ByteArray)×(Int×Unit))))) (x1:(List (Int×(ByteArray×(ByteArray×Unit))))) (x2:Int) (x2':Int):Walks (runPure (kl12_2 Go.Proofs.Tryz.prog).orc Go.Proofs.Tryz.prog 400 12 as12 rs12 (x0,x1,(x2,x2',()),())) (t12 x0 x1 x2 x2') [(bl 36 33925581733,[2,2,2,2,4,36,6,8,10,12,14,1,16,18,24,1,24,1,1,1,24,20,24,20,20,20,20,20,20,24,24,24,24,24,22,24,24,24,26,26,26,26,28,28,28,30,30,30,30,32,36,34,36,1,38,40,1,42,44,46,48,52,52,50,52,52,52,52,54,56,58,60,64,64,62,64,64,64,64,66,66,66,66,70,70,68,70,70,72,0,1]),(bl 29 438258597,[2,10,4,10,4,4,4,10,6,10,6,6,6,8,6,6,6,10,10,10,10,10,8,10,10,10,12,12,12,12,14,14,14,16,16,16,16,18,22,20,22,1,24,26,1,28,30,32,34,38,38,36,38,38,38,38,40,42,44,46,50,50,48,50,50,50,50,52,52,52,52,56,56,54,56,56,58,0,1]),(bl 30 706694053,[2,4,12,6,12,6,6,6,12,8,12,8,8,8,10,8,8,8,12,12,12,12,12,10,12,12,12,14,14,14,14,16,16,16,18,18,18,18,20,24,22,24,1,26,28,1,30,32,34,36,40,40,38,40,40,40,40,42,44,46,48,52,52,50,52,52,52,52,54,54,54,54,58,58,56,58,58,60,0,1]),(bl 37 136535034789,[2,2,2,2,4,38,6,8,10,12,14,1,16,18,26,20,26,20,20,20,26,22,26,22,22,22,24,22,22,22,26,26,26,26,26,24,26,26,26,28,28,28,28,30,30,30,32,32,32,32,34,38,36,38,1,40,42,1,44,46,48,50,54,54,52,54,54,54,54,56,58,60,62,66,66,64,66,66,66,66,68,68,68,68,72,72,70,72,72,74,0,1]),(bl 37 67815558053,[2,2,2,2,4,38,6,8,10,12,14,1,16,18,26,20,26,20,20,20,26,22,26,22,22,22,24,22,22,22,26,26,26,26,26,24,26,26,26,28,28,28,28,30,30,30,32,32,32,32,34,38,36,38,1,40,42,1,44,46,48,50,54,54,52,54,54,54,54,56,58,60,62,66,66,64,66,66,66,66,68,68,68,68,72,72,70,72,72,74,0,1]),(bl 29 304040869,[2,0,10,4,10,4,4,4,10,6,10,6,6,6,8,6,6,6,10,10,10,10,10,8,10,10,10,12,12,12,12,14,14,14,16,16,16,16,18,22,20,22,1,24,26,1,28,30,32,34,38,38,36,38,38,38,38,40,42,44,46,50,50,48,50,50,50,50,52,52,52,52,56,56,54,56,56,58,0,1]),(bl 36 68218211237,[2,2,2,2,4,36,6,8,10,12,14,1,16,0,24,18,24,18,18,18,24,20,24,20,20,20,22,20,20,20,24,24,24,24,24,22,24,24,24,26,26,26,26,28,28,28,30,30,30,30,32,36,34,36,1,38,40,1,42,44,46,48,52,52,50,52,52,52,52,54,56,58,60,64,64,62,64,64,64,64,66,66,66,66,70,70,68,70,70,72,0,1]),(bl 36 33858472869,[2,2,2,2,4,36,6,8,10,12,14,1,16,0,24,18,24,18,18,18,24,20,24,20,20,20,22,20,20,20,24,24,24,24,24,22,24,24,24,26,26,26,26,28,28,28,30,30,30,30,32,36,34,36,1,38,40,1,42,44,46,48,52,52,50,52,52,52,52,54,56,58,60,64,64,62,64,64,64,64,66,66,66,66,70,70,68,70,70,72,0,1])] :=
  ⟨by kernel_rfl,by kernel_rfl,by kernel_rfl,by kernel_rfl,by kernel_rfl,by kernel_rfl,by kernel_rfl,by kernel_rfl,trivial⟩

theorem ok12_t (x0:(List (ByteArray×((List ByteArray)×(Int×Unit))))) (x1:(List (Int×(ByteArray×(ByteArray×Unit))))) (x2:Int) (x2':Int):TrOk (PureRuns Go.Proofs.Tryz.prog (kl12_2 Go.Proofs.Tryz.prog).orc 12 as12 rs12 (x0,x1,(x2,x2',()),())) (t12 x0 x1 x2 x2') :=
  Walks.ok (fun _ _ _=>PureRuns.of) ((wk12n0 x0 x1 x2 x2').append ((wk12n1 x0 x1 x2 x2').append ((wk12n2 x0 x1 x2 x2').append (wk12n3 x0 x1 x2 x2')))) (by kernel_rfl)

theorem ok12:PureOk Go.Proofs.Tryz.prog 12 p12:=pureOk_of kl12_2_ok.base (T:=fun (d:Tys.data as12)=>t12 d.1 d.2.1 d.2.2.1.1 d.2.2.1.2.1) (by kernel_rfl) (fun (d:Tys.data as12)=>ok12_t d.1 d.2.1 d.2.2.1.1 d.2.2.1.2.1)

end Go.Vm.Mo
