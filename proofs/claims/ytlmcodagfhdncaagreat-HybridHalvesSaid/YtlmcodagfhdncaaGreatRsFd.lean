import Derived.Test.YtlmcodagfhdncaaGreatA5
import Derived.KernelRfl
import Derived.Test.YtlmcodagfhdncaaGreatProg
import Derived.Test.YtlmcodagfhdncaaGreatRsFc
set_option linter.unusedVariables false
set_option linter.unusedSimpArgs false

namespace Go.Vm.Mo
open Go
set_option linter.unusedVariables false
abbrev as5:List Ty:=[(.pair (.slice (.int .i64)) (.pair (.slice (.int .i64)) .unit)),(.pair (.int .i64) (.pair (.int .i64) .unit))]
abbrev rs5:List Ty:=[.bool]
def t5_c0(r21:shb5_4.data):Tr (Tys.data rs5):= Tr.test (Option.isSome (l5_6 ((r21.1.1,((0:Int),())),((((0:Nat)+List.length r21.2.1.1:Nat),(((0:Nat)+List.length r21.2.1.2.1:Nat),())),(([]++r21.2.1.1:List Int),(([]++r21.2.1.2.1:List Int),())))))) (Tr.test (qas (l5_6 ((r21.1.1,((0:Int),())),((((0:Nat)+List.length r21.2.1.1:Nat),(((0:Nat)+List.length r21.2.1.2.1:Nat),())),(([]++r21.2.1.1:List Int),(([]++r21.2.1.2.1:List Int),())))))) ((let r22:=r5_6 ((r21.1.1,((0:Int),())),((((0:Nat)+List.length r21.2.1.1:Nat),(((0:Nat)+List.length r21.2.1.2.1:Nat),())),(([]++r21.2.1.1:List Int),(([]++r21.2.1.2.1:List Int),()))));Tr.fin ((r22.1.1,())))) ((let r23:=b5_6 ((r21.1.1,((0:Int),())),((((0:Nat)+List.length r21.2.1.1:Nat),(((0:Nat)+List.length r21.2.1.2.1:Nat),())),(([]++r21.2.1.1:List Int),(([]++r21.2.1.2.1:List Int),()))));Tr.test ((Nat.beq r23.2.1.1 (List.length r23.2.2.1):Bool)) (Tr.test ((Nat.beq r23.2.1.2.1 (List.length r23.2.2.2.1):Bool)) (Tr.test (Option.isSome (f22 ((r23.2.2.1,(r23.2.2.2.1,())),()))) ((let r24:=g22 ((r23.2.2.1,(r23.2.2.2.1,())),());Tr.test ((!eqF r24.2.1 0:Bool)) (Tr.fin (((eqF r24.2.1 8:Bool),()))) (Tr.test ((!eqF (↑(List.length r24.1):Int) (↑(List.length r23.1.1):Int):Bool)) (Tr.fin (((false:Bool),()))) (Tr.test (Option.isSome (l5_8 ((r23.1.1,(r24.1,((0:Int),()))),()))) (Tr.test (qas (l5_8 ((r23.1.1,(r24.1,((0:Int),()))),()))) ((let r25:=r5_8 ((r23.1.1,(r24.1,((0:Int),()))),());Tr.fin ((r25.1.1,())))) (Tr.fin (((true:Bool),())))) (Tr.stop))))) (Tr.stop)) (Tr.stop)) (Tr.stop)))) (Tr.stop)
def t5_c1(r6:shb5_2.data)(r7:Tys.data rs22):Tr (Tys.data rs5):= Tr.test (Option.isSome (l5_6 ((r7.1,((0:Int),())),((((0:Nat)+List.length r6.2.1.1:Nat),(((0:Nat)+List.length r6.2.1.2.1:Nat),())),(([]++r6.2.1.1:List Int),(([]++r6.2.1.2.1:List Int),())))))) (Tr.test (qas (l5_6 ((r7.1,((0:Int),())),((((0:Nat)+List.length r6.2.1.1:Nat),(((0:Nat)+List.length r6.2.1.2.1:Nat),())),(([]++r6.2.1.1:List Int),(([]++r6.2.1.2.1:List Int),())))))) ((let r26:=r5_6 ((r7.1,((0:Int),())),((((0:Nat)+List.length r6.2.1.1:Nat),(((0:Nat)+List.length r6.2.1.2.1:Nat),())),(([]++r6.2.1.1:List Int),(([]++r6.2.1.2.1:List Int),()))));Tr.fin ((r26.1.1,())))) ((let r27:=b5_6 ((r7.1,((0:Int),())),((((0:Nat)+List.length r6.2.1.1:Nat),(((0:Nat)+List.length r6.2.1.2.1:Nat),())),(([]++r6.2.1.1:List Int),(([]++r6.2.1.2.1:List Int),()))));Tr.test ((Nat.beq r27.2.1.1 (List.length r27.2.2.1):Bool)) (Tr.test ((Nat.beq r27.2.1.2.1 (List.length r27.2.2.2.1):Bool)) (Tr.test (Option.isSome (f22 ((r27.2.2.1,(r27.2.2.2.1,())),()))) ((let r28:=g22 ((r27.2.2.1,(r27.2.2.2.1,())),());Tr.test ((!eqF r28.2.1 0:Bool)) (Tr.fin (((eqF r28.2.1 8:Bool),()))) (Tr.test ((!eqF (↑(List.length r28.1):Int) (↑(List.length r27.1.1):Int):Bool)) (Tr.fin (((false:Bool),()))) (Tr.test (Option.isSome (l5_8 ((r27.1.1,(r28.1,((0:Int),()))),()))) (Tr.test (qas (l5_8 ((r27.1.1,(r28.1,((0:Int),()))),()))) ((let r29:=r5_8 ((r27.1.1,(r28.1,((0:Int),()))),());Tr.fin ((r29.1.1,())))) (Tr.fin (((true:Bool),())))) (Tr.stop))))) (Tr.stop)) (Tr.stop)) (Tr.stop)))) (Tr.stop)
def t5_c2(r6:shb5_2.data)(r8:Tys.data rs38)(r7:Tys.data rs22)(r9:Tys.data rs23)(r18:Tys.data rs22):Tr (Tys.data rs5):= Tr.test ((eqF r18.2.1 0:Bool)) (Tr.test ((!eqF (↑(List.length r18.1):Int) (↑(List.length r9.1.2.1):Int):Bool)) (Tr.fin (((false:Bool),()))) (Tr.test (Option.isSome (f39 (r18.1,()))) ((let r19:=g39 (r18.1,());Tr.test ((!r19.1:Bool)) (Tr.fin (((false:Bool),()))) (Tr.test (Option.isSome (l5_4 ((r7.1,(r8.1,(r18.1,((0:Int),())))),((r6.2.1.1,(r6.2.1.2.1,())),((r9.1.1,(r9.1.2.1,(r9.1.2.2.1,()))),()))))) (Tr.test (qas (l5_4 ((r7.1,(r8.1,(r18.1,((0:Int),())))),((r6.2.1.1,(r6.2.1.2.1,())),((r9.1.1,(r9.1.2.1,(r9.1.2.2.1,()))),()))))) ((let r20:=r5_4 ((r7.1,(r8.1,(r18.1,((0:Int),())))),((r6.2.1.1,(r6.2.1.2.1,())),((r9.1.1,(r9.1.2.1,(r9.1.2.2.1,()))),())));Tr.fin ((r20.1.1,())))) ((let r21:=b5_4 ((r7.1,(r8.1,(r18.1,((0:Int),())))),((r6.2.1.1,(r6.2.1.2.1,())),((r9.1.1,(r9.1.2.1,(r9.1.2.2.1,()))),())));Tr.test ((Nat.ble (((2:Nat)*((0:Nat)+List.length r21.2.1.1)+(192:Nat))*(8:Nat)) (281474976710656:Nat)&&Nat.ble ((0:Nat)+List.length r21.2.1.1) (281474976710656:Nat):Bool)) (Tr.test ((Nat.ble (((2:Nat)*((0:Nat)+List.length r21.2.1.2.1)+(192:Nat))*(8:Nat)) (281474976710656:Nat)&&Nat.ble ((0:Nat)+List.length r21.2.1.2.1) (281474976710656:Nat):Bool)) (t5_c0 r21) (Tr.test ((Nat.ble ((0:Nat)+List.length r21.2.1.2.1) (0:Nat):Bool)) (Tr.stop) (Tr.stop))) (Tr.test ((Nat.ble ((0:Nat)+List.length r21.2.1.1) (0:Nat):Bool)) (Tr.stop) (Tr.stop))))) (Tr.stop)))) (Tr.stop))) (Tr.test ((!eqF r18.2.1 8:Bool)) (Tr.fin (((false:Bool),()))) (t5_c1 r6 r7))
def t5_c3(r6:shb5_2.data)(r8:Tys.data rs38)(r7:Tys.data rs22)(r9:Tys.data rs23):Tr (Tys.data rs5):= Tr.test ((Nat.ble (((2:Nat)*((0:Nat)+List.length (List.drop (Int.toNat (wrap64 (r8.1+(1:Int)))) r6.2.1.1))+(192:Nat))*(8:Nat)) (281474976710656:Nat)&&Nat.ble ((0:Nat)+List.length (List.drop (Int.toNat (wrap64 (r8.1+(1:Int)))) r6.2.1.1)) (281474976710656:Nat):Bool)) (Tr.test ((decide ((0:Int)≤wrap64 (r8.1+(1:Int)))&&decide (wrap64 (r8.1+(1:Int))≤(↑(List.length r6.2.1.2.1):Int)):Bool)) (Tr.test ((Nat.ble (((2:Nat)*((0:Nat)+List.length (List.drop (Int.toNat (wrap64 (r8.1+(1:Int)))) r6.2.1.2.1))+(192:Nat))*(8:Nat)) (281474976710656:Nat)&&Nat.ble ((0:Nat)+List.length (List.drop (Int.toNat (wrap64 (r8.1+(1:Int)))) r6.2.1.2.1)) (281474976710656:Nat):Bool)) (Tr.test ((Nat.beq ((0:Nat)+List.length (List.drop (Int.toNat (wrap64 (r8.1+(1:Int)))) r6.2.1.1)) (List.length ([]++List.drop (Int.toNat (wrap64 (r8.1+(1:Int)))) r6.2.1.1)):Bool)) (Tr.test ((Nat.beq ((0:Nat)+List.length (List.drop (Int.toNat (wrap64 (r8.1+(1:Int)))) r6.2.1.2.1)) (List.length ([]++List.drop (Int.toNat (wrap64 (r8.1+(1:Int)))) r6.2.1.2.1)):Bool)) (Tr.test (Option.isSome (f22 ((([]++List.drop (Int.toNat (wrap64 (r8.1+(1:Int)))) r6.2.1.1:List Int),(([]++List.drop (Int.toNat (wrap64 (r8.1+(1:Int)))) r6.2.1.2.1:List Int),())),()))) ((let r18:=g22 ((([]++List.drop (Int.toNat (wrap64 (r8.1+(1:Int)))) r6.2.1.1:List Int),(([]++List.drop (Int.toNat (wrap64 (r8.1+(1:Int)))) r6.2.1.2.1:List Int),())),());t5_c2 r6 r8 r7 r9 r18)) (Tr.stop)) (Tr.stop)) (Tr.stop)) (Tr.test ((Nat.ble ((0:Nat)+List.length (List.drop (Int.toNat (wrap64 (r8.1+(1:Int)))) r6.2.1.2.1)) (0:Nat):Bool)) (Tr.stop) (Tr.stop))) (Tr.stop)) (Tr.test ((Nat.ble ((0:Nat)+List.length (List.drop (Int.toNat (wrap64 (r8.1+(1:Int)))) r6.2.1.1)) (0:Nat):Bool)) (Tr.stop) (Tr.stop))
def t5_c4(r6:shb5_2.data)(r8:Tys.data rs38)(r7:Tys.data rs22)(r9:Tys.data rs23)(r14:Tys.data rs38):Tr (Tys.data rs5):= Tr.test (Option.isSome (f41 ((wrap64 ((List.getD ([]++r9.1.1) ((0:Nat)+Int.toNat r14.1) ((0:Int),(0:Int),())).1+(List.getD ([]++r9.1.1) ((0:Nat)+Int.toNat r14.1) ((0:Int),(0:Int),())).2.1):Int),(((List.getD ([]++r9.1.1) ((0:Nat)+Int.toNat r14.1) ((0:Int),(0:Int),())).2.1:Int),())))) ((let r15:=g41 ((wrap64 ((List.getD ([]++r9.1.1) ((0:Nat)+Int.toNat r14.1) ((0:Int),(0:Int),())).1+(List.getD ([]++r9.1.1) ((0:Nat)+Int.toNat r14.1) ((0:Int),(0:Int),())).2.1):Int),(((List.getD ([]++r9.1.1) ((0:Nat)+Int.toNat r14.1) ((0:Int),(0:Int),())).2.1:Int),()));Tr.test ((Nat.beq ((0:Nat)+List.length r9.1.1) (List.length (List.set ([]++r9.1.1) ((0:Nat)+Int.toNat r14.1) (r15.1.1,r15.1.2.1,()))):Bool)) (Tr.test (Option.isSome (f24 ((([]++r6.2.1.1:List Int),(([]++r6.2.1.2.1:List Int),())),(r8.1,(((List.set ([]++r9.1.1) ((0:Nat)+Int.toNat r14.1) (r15.1.1,r15.1.2.1,()):List (Int×Int×PUnit)),(([]++r9.1.2.1:List (Int×Int×PUnit)),(r9.1.2.2.1,()))),()))))) ((let r17:=g24 ((([]++r6.2.1.1:List Int),(([]++r6.2.1.2.1:List Int),())),(r8.1,(((List.set ([]++r9.1.1) ((0:Nat)+Int.toNat r14.1) (r15.1.1,r15.1.2.1,()):List (Int×Int×PUnit)),(([]++r9.1.2.1:List (Int×Int×PUnit)),(r9.1.2.2.1,()))),())));Tr.test ((!eqF r17.2.1 19:Bool)) (Tr.test ((!eqF r17.2.1 2:Bool)) (Tr.fin (((false:Bool),()))) (Tr.test ((!leF (↑(List.length r6.2.1.1):Int) (wrap64 (r8.1+(1:Int))):Bool)) (Tr.test ((decide ((0:Int)≤wrap64 (r8.1+(1:Int)))&&decide (wrap64 (r8.1+(1:Int))≤(↑(List.length r6.2.1.1):Int)):Bool)) (t5_c3 r6 r8 r7 r9) (Tr.stop)) (t5_c1 r6 r7))) (Tr.test ((!leF (↑(List.length r6.2.1.1):Int) (wrap64 (r8.1+(1:Int))):Bool)) (Tr.test ((decide ((0:Int)≤wrap64 (r8.1+(1:Int)))&&decide (wrap64 (r8.1+(1:Int))≤(↑(List.length r6.2.1.1):Int)):Bool)) (t5_c3 r6 r8 r7 r9) (Tr.stop)) (t5_c1 r6 r7)))) (Tr.stop)) (Tr.stop))) (Tr.stop)
def t5_c5(r6:shb5_2.data)(r8:Tys.data rs38)(r7:Tys.data rs22)(r9:Tys.data rs23)(r14:Tys.data rs38)(r16:Tys.data rs41):Tr (Tys.data rs5):= Tr.test ((Nat.beq ((0:Nat)+List.length r9.1.2.1) (List.length (List.set ([]++r9.1.2.1) ((0:Nat)+Int.toNat (wrap64 (wrap64 (r14.1-r8.1)-(1:Int)))) (r16.1.1,r16.1.2.1,()))):Bool)) (Tr.test (Option.isSome (f24 ((([]++r6.2.1.1:List Int),(([]++r6.2.1.2.1:List Int),())),(r8.1,((([]++r9.1.1:List (Int×Int×PUnit)),((List.set ([]++r9.1.2.1) ((0:Nat)+Int.toNat (wrap64 (wrap64 (r14.1-r8.1)-(1:Int)))) (r16.1.1,r16.1.2.1,()):List (Int×Int×PUnit)),(r9.1.2.2.1,()))),()))))) ((let r30:=g24 ((([]++r6.2.1.1:List Int),(([]++r6.2.1.2.1:List Int),())),(r8.1,((([]++r9.1.1:List (Int×Int×PUnit)),((List.set ([]++r9.1.2.1) ((0:Nat)+Int.toNat (wrap64 (wrap64 (r14.1-r8.1)-(1:Int)))) (r16.1.1,r16.1.2.1,()):List (Int×Int×PUnit)),(r9.1.2.2.1,()))),())));Tr.test ((!eqF r30.2.1 19:Bool)) (Tr.test ((!eqF r30.2.1 2:Bool)) (Tr.fin (((false:Bool),()))) (Tr.test ((!leF (↑(List.length r6.2.1.1):Int) (wrap64 (r8.1+(1:Int))):Bool)) (Tr.test ((decide ((0:Int)≤wrap64 (r8.1+(1:Int)))&&decide (wrap64 (r8.1+(1:Int))≤(↑(List.length r6.2.1.1):Int)):Bool)) (t5_c3 r6 r8 r7 r9) (Tr.stop)) (t5_c1 r6 r7))) (Tr.test ((!leF (↑(List.length r6.2.1.1):Int) (wrap64 (r8.1+(1:Int))):Bool)) (Tr.test ((decide ((0:Int)≤wrap64 (r8.1+(1:Int)))&&decide (wrap64 (r8.1+(1:Int))≤(↑(List.length r6.2.1.1):Int)):Bool)) (t5_c3 r6 r8 r7 r9) (Tr.stop)) (t5_c1 r6 r7)))) (Tr.stop)) (Tr.stop)
def t5_c6(r6:shb5_2.data)(r8:Tys.data rs38)(r7:Tys.data rs22)(r9:Tys.data rs23)(r14:Tys.data rs38):Tr (Tys.data rs5):= Tr.test ((leF r14.1 r8.1:Bool)) (Tr.test ((decide ((0:Int)≤r14.1)&&decide (r14.1<(↑((0:Nat)+List.length r9.1.1):Int)):Bool)) (Tr.test ((Nat.ble ((0:Nat)+Int.toNat r14.1+(1:Nat)) (List.length ([]++r9.1.1)):Bool)) (t5_c4 r6 r8 r7 r9 r14) (Tr.stop)) (Tr.stop)) (Tr.test ((decide ((0:Int)≤wrap64 (wrap64 (r14.1-r8.1)-(1:Int)))&&decide (wrap64 (wrap64 (r14.1-r8.1)-(1:Int))<(↑((0:Nat)+List.length r9.1.2.1):Int)):Bool)) (Tr.test ((Nat.ble ((0:Nat)+Int.toNat (wrap64 (wrap64 (r14.1-r8.1)-(1:Int)))+(1:Nat)) (List.length ([]++r9.1.2.1)):Bool)) (Tr.test (Option.isSome (f41 ((wrap64 ((List.getD ([]++r9.1.2.1) ((0:Nat)+Int.toNat (wrap64 (wrap64 (r14.1-r8.1)-(1:Int)))) ((0:Int),(0:Int),())).1-(List.getD ([]++r9.1.2.1) ((0:Nat)+Int.toNat (wrap64 (wrap64 (r14.1-r8.1)-(1:Int)))) ((0:Int),(0:Int),())).2.1):Int),(((List.getD ([]++r9.1.2.1) ((0:Nat)+Int.toNat (wrap64 (wrap64 (r14.1-r8.1)-(1:Int)))) ((0:Int),(0:Int),())).2.1:Int),())))) ((let r16:=g41 ((wrap64 ((List.getD ([]++r9.1.2.1) ((0:Nat)+Int.toNat (wrap64 (wrap64 (r14.1-r8.1)-(1:Int)))) ((0:Int),(0:Int),())).1-(List.getD ([]++r9.1.2.1) ((0:Nat)+Int.toNat (wrap64 (wrap64 (r14.1-r8.1)-(1:Int)))) ((0:Int),(0:Int),())).2.1):Int),(((List.getD ([]++r9.1.2.1) ((0:Nat)+Int.toNat (wrap64 (wrap64 (r14.1-r8.1)-(1:Int)))) ((0:Int),(0:Int),())).2.1:Int),()));t5_c5 r6 r8 r7 r9 r14 r16)) (Tr.stop)) (Tr.stop)) (Tr.stop))
def t5_c7(r6:shb5_2.data)(r8:Tys.data rs38)(r7:Tys.data rs22)(r9:Tys.data rs23):Tr (Tys.data rs5):= Tr.test (Option.isSome (f31 (([]++r9.1.1:List (Int×Int×PUnit)),(r7.1,())))) ((let r11:=g31 (([]++r9.1.1:List (Int×Int×PUnit)),(r7.1,()));Tr.test ((!r11.1:Bool)) (Tr.fin (((false:Bool),()))) (Tr.test ((!eqF (↑(List.length r9.1.1):Int) (wrap64 (r8.1+(1:Int))):Bool)) (Tr.fin (((false:Bool),()))) (Tr.test ((Nat.ble (((2:Nat)*((0:Nat)+List.length r9.1.2.1)+(192:Nat))*(16:Nat)) (281474976710656:Nat)&&Nat.ble ((0:Nat)+List.length r9.1.2.1) (281474976710656:Nat):Bool)) (Tr.test ((Nat.beq ((0:Nat)+List.length r9.1.2.1) (List.length ([]++r9.1.2.1)):Bool)) (Tr.test (Option.isSome (f24 ((([]++r6.2.1.1:List Int),(([]++r6.2.1.2.1:List Int),())),(r8.1,((([]++r9.1.1:List (Int×Int×PUnit)),(([]++r9.1.2.1:List (Int×Int×PUnit)),(r9.1.2.2.1,()))),()))))) ((let r13:=g24 ((([]++r6.2.1.1:List Int),(([]++r6.2.1.2.1:List Int),())),(r8.1,((([]++r9.1.1:List (Int×Int×PUnit)),(([]++r9.1.2.1:List (Int×Int×PUnit)),(r9.1.2.2.1,()))),())));Tr.test ((!eqF r13.2.1 0:Bool)) (Tr.fin (((false:Bool),()))) (Tr.test ((!eqF r13.1 0:Bool)) (Tr.fin (((false:Bool),()))) (Tr.test (Option.isSome (f38 (r6.2.2.1.2.1,((↑(List.length r7.1):Int),())))) ((let r14:=g38 (r6.2.2.1.2.1,((↑(List.length r7.1):Int),()));t5_c6 r6 r8 r7 r9 r14)) (Tr.stop))))) (Tr.stop)) (Tr.stop)) (Tr.test ((Nat.ble ((0:Nat)+List.length r9.1.2.1) (0:Nat):Bool)) (Tr.stop) (Tr.stop)))))) (Tr.stop)
def t5_c8(r6:shb5_2.data)(r8:Tys.data rs38)(r7:Tys.data rs22)(r9:Tys.data rs23):Tr (Tys.data rs5):= Tr.test (Option.isSome (f31 (([]++r9.1.1++r9.1.2.1:List (Int×Int×PUnit)),(r7.1,())))) ((let r12:=g31 (([]++r9.1.1++r9.1.2.1:List (Int×Int×PUnit)),(r7.1,()));Tr.test ((!r12.1:Bool)) (Tr.fin (((false:Bool),()))) (Tr.test ((!eqF (↑(List.length r9.1.1):Int) (wrap64 (r8.1+(1:Int))):Bool)) (Tr.fin (((false:Bool),()))) (Tr.test ((Nat.ble (((2:Nat)*((0:Nat)+List.length r9.1.2.1)+(192:Nat))*(16:Nat)) (281474976710656:Nat)&&Nat.ble ((0:Nat)+List.length r9.1.2.1) (281474976710656:Nat):Bool)) (Tr.test ((Nat.beq ((0:Nat)+List.length r9.1.2.1) (List.length ([]++r9.1.2.1)):Bool)) (Tr.test (Option.isSome (f24 ((([]++r6.2.1.1:List Int),(([]++r6.2.1.2.1:List Int),())),(r8.1,((([]++r9.1.1:List (Int×Int×PUnit)),(([]++r9.1.2.1:List (Int×Int×PUnit)),(r9.1.2.2.1,()))),()))))) ((let r13:=g24 ((([]++r6.2.1.1:List Int),(([]++r6.2.1.2.1:List Int),())),(r8.1,((([]++r9.1.1:List (Int×Int×PUnit)),(([]++r9.1.2.1:List (Int×Int×PUnit)),(r9.1.2.2.1,()))),())));Tr.test ((!eqF r13.2.1 0:Bool)) (Tr.fin (((false:Bool),()))) (Tr.test ((!eqF r13.1 0:Bool)) (Tr.fin (((false:Bool),()))) (Tr.test (Option.isSome (f38 (r6.2.2.1.2.1,((↑(List.length r7.1):Int),())))) ((let r14:=g38 (r6.2.2.1.2.1,((↑(List.length r7.1):Int),()));t5_c6 r6 r8 r7 r9 r14)) (Tr.stop))))) (Tr.stop)) (Tr.stop)) (Tr.test ((Nat.ble ((0:Nat)+List.length r9.1.2.1) (0:Nat):Bool)) (Tr.stop) (Tr.stop)))))) (Tr.stop)
def t5_c9(r6:shb5_2.data)(r8:Tys.data rs38):Tr (Tys.data rs5):= Tr.test (Option.isSome (f23 ((([]++r6.2.1.1:List Int),(([]++r6.2.1.2.1:List Int),())),(r8.1,())))) ((let r7:=g22 ((([]++r6.2.1.1:List Int),(([]++r6.2.1.2.1:List Int),())),());(let r9:=g23 ((([]++r6.2.1.1:List Int),(([]++r6.2.1.2.1:List Int),())),(r8.1,()));Tr.test ((!eqF r7.2.1 r9.2.1:Bool)) (Tr.fin (((false:Bool),()))) (Tr.test ((!eqF r7.2.1 0:Bool)) (Tr.test ((!eqF r7.2.1 8:Bool)) (Tr.fin (((false:Bool),()))) (Tr.fin (((true:Bool),())))) (Tr.test ((!eqF (↑(List.length r7.1):Int) (↑(List.length r6.2.1.1):Int):Bool)) (Tr.fin (((false:Bool),()))) (Tr.test (Option.isSome (f39 (r7.1,()))) ((let r10:=g39 (r7.1,());Tr.test ((!r10.1:Bool)) (Tr.fin (((false:Bool),()))) (Tr.test ((Nat.ble (((2:Nat)*((0:Nat)+List.length r9.1.1)+(192:Nat))*(16:Nat)) (281474976710656:Nat)&&Nat.ble ((0:Nat)+List.length r9.1.1) (281474976710656:Nat):Bool)) (Tr.test ((Nat.beq (List.length r9.1.2.1) (0:Nat):Bool)) (Tr.test ((Nat.beq ((0:Nat)+List.length r9.1.1) (List.length ([]++r9.1.1)):Bool)) (t5_c7 r6 r8 r7 r9) (Tr.stop)) (Tr.test ((Nat.ble (((2:Nat)*((0:Nat)+List.length r9.1.1+List.length r9.1.2.1)+(192:Nat))*(16:Nat)) (281474976710656:Nat)&&Nat.ble ((0:Nat)+List.length r9.1.1+List.length r9.1.2.1) (281474976710656:Nat):Bool)) (Tr.test ((Nat.beq ((0:Nat)+List.length r9.1.1) (List.length ([]++r9.1.1)):Bool)) (Tr.test ((Nat.beq ((0:Nat)+List.length r9.1.1+List.length r9.1.2.1) (List.length ([]++r9.1.1++r9.1.2.1)):Bool)) (t5_c8 r6 r8 r7 r9) (Tr.stop)) (Tr.stop)) (Tr.stop))) (Tr.test ((Nat.ble ((0:Nat)+List.length r9.1.1) (0:Nat):Bool)) (Tr.stop) (Tr.stop))))) (Tr.stop))))))) (Tr.stop)
def t5_c10(r2:shb5_0.data):Tr (Tys.data rs5):= Tr.test (qas (l5_2 (((0:Int),()),((r2.2.1.1,(r2.2.1.2.1,())),((r2.2.2.1.1,(r2.2.2.1.2.1,())),((r2.2.2.2.1.1,(r2.2.2.2.1.2.1,())),())))))) ((let r5:=r5_2 (((0:Int),()),((r2.2.1.1,(r2.2.1.2.1,())),((r2.2.2.1.1,(r2.2.2.1.2.1,())),((r2.2.2.2.1.1,(r2.2.2.2.1.2.1,())),()))));Tr.fin ((r5.1.1,())))) ((let r6:=b5_2 (((0:Int),()),((r2.2.1.1,(r2.2.1.2.1,())),((r2.2.2.1.1,(r2.2.2.1.2.1,())),((r2.2.2.2.1.1,(r2.2.2.2.1.2.1,())),()))));Tr.test ((Nat.ble (((2:Nat)*((0:Nat)+List.length r6.2.1.1)+(192:Nat))*(8:Nat)) (281474976710656:Nat)&&Nat.ble ((0:Nat)+List.length r6.2.1.1) (281474976710656:Nat):Bool)) (Tr.test ((Nat.ble (((2:Nat)*((0:Nat)+List.length r6.2.1.2.1)+(192:Nat))*(8:Nat)) (281474976710656:Nat)&&Nat.ble ((0:Nat)+List.length r6.2.1.2.1) (281474976710656:Nat):Bool)) (Tr.test ((Nat.beq ((0:Nat)+List.length r6.2.1.1) (List.length ([]++r6.2.1.1)):Bool)) (Tr.test ((Nat.beq ((0:Nat)+List.length r6.2.1.2.1) (List.length ([]++r6.2.1.2.1)):Bool)) (Tr.test (Option.isSome (f22 ((([]++r6.2.1.1:List Int),(([]++r6.2.1.2.1:List Int),())),()))) (Tr.test (Option.isSome (f38 (r6.2.2.1.1,((↑(List.length r6.2.1.1):Int),())))) ((let r8:=g38 (r6.2.2.1.1,((↑(List.length r6.2.1.1):Int),()));t5_c9 r6 r8)) (Tr.stop)) (Tr.stop)) (Tr.stop)) (Tr.stop)) (Tr.test ((Nat.ble ((0:Nat)+List.length r6.2.1.2.1) (0:Nat):Bool)) (Tr.stop) (Tr.stop))) (Tr.test ((Nat.ble ((0:Nat)+List.length r6.2.1.1) (0:Nat):Bool)) (Tr.stop) (Tr.stop))))
def t5_c11(x0:(List Int))(x0':List Int)(x1:Int)(x1':Int):Tr (Tys.data rs5):= Tr.test ((Nat.beq ((0:Nat)+List.length x0') (List.length ([]++x0')):Bool)) (Tr.test (Option.isSome (f26 ((([]++x0:List Int),(([]++x0':List Int),())),()))) ((let r1:=g26 ((([]++x0:List Int),(([]++x0':List Int),())),());Tr.test (qax (l5_0 ((r1.2.1,((wrap64 ((↑(List.length x0):Int)-(1:Int)):Int),())),((x0,(x0',())),((x1,(x1',())),((r1.1.1,(r1.1.2.1,())),((([]:List Int),(([]:List Int),())),()))))))) ((let r2:=b5_0 ((r1.2.1,((wrap64 ((↑(List.length x0):Int)-(1:Int)):Int),())),((x0,(x0',())),((x1,(x1',())),((r1.1.1,(r1.1.2.1,())),((([]:List Int),(([]:List Int),())),())))));Tr.test (Option.isSome (f26 ((r2.2.2.2.2.1.1,(r2.2.2.2.2.1.2.1,())),()))) (Tr.test ((!eqF r2.1.1 0:Bool)) (Tr.fin (((false:Bool),()))) ((let r3:=g26 ((r2.2.2.2.2.1.1,(r2.2.2.2.2.1.2.1,())),());Tr.test ((!eqF r3.2.1 0:Bool)) (Tr.fin (((false:Bool),()))) (Tr.test ((!(r2.2.2.2.1.1==r3.1.1&&(r2.2.2.2.1.2.1==r3.1.2.1&&true)):Bool)) (Tr.fin (((false:Bool),()))) (Tr.test (Option.isSome (f36 ((r2.2.2.2.1.1,(r2.2.2.2.1.2.1,())),()))) ((let r4:=g36 ((r2.2.2.2.1.1,(r2.2.2.2.1.2.1,())),());Tr.test ((!r4.1:Bool)) (Tr.fin (((false:Bool),()))) (Tr.test ((leF r2.2.2.2.1.1 0:Bool)) (Tr.fin (((false:Bool),()))) (Tr.test (Option.isSome (l5_2 (((0:Int),()),((r2.2.1.1,(r2.2.1.2.1,())),((r2.2.2.1.1,(r2.2.2.1.2.1,())),((r2.2.2.2.1.1,(r2.2.2.2.1.2.1,())),())))))) (t5_c10 r2) (Tr.stop))))) (Tr.stop)))))) (Tr.stop))) (Tr.stop))) (Tr.stop)) (Tr.stop)
def t5(x0:(List Int))(x0':List Int)(x1:Int)(x1':Int):Tr (Tys.data rs5):= Tr.test ((!leF (↑(List.length x0):Int) (6:Int):Bool)) (Tr.fin ((true,()))) (Tr.test (Option.isSome (f35 ((x0,(x0',())),()))) ((let r0:=g35 ((x0,(x0',())),());Tr.test ((!eqF r0.1 0:Bool)) (Tr.fin (((true:Bool),()))) (Tr.test ((Nat.ble (((2:Nat)*((0:Nat)+List.length x0)+(192:Nat))*(8:Nat)) (281474976710656:Nat)&&Nat.ble ((0:Nat)+List.length x0) (281474976710656:Nat):Bool)) (Tr.test ((Nat.ble (((2:Nat)*((0:Nat)+List.length x0')+(192:Nat))*(8:Nat)) (281474976710656:Nat)&&Nat.ble ((0:Nat)+List.length x0') (281474976710656:Nat):Bool)) (Tr.test ((Nat.beq ((0:Nat)+List.length x0) (List.length ([]++x0)):Bool)) (t5_c11 x0 x0' x1 x1') (Tr.stop)) (Tr.test ((Nat.ble ((0:Nat)+List.length x0') (0:Nat):Bool)) (Tr.stop) (Tr.stop))) (Tr.test ((Nat.ble ((0:Nat)+List.length x0) (0:Nat):Bool)) (Tr.stop) (Tr.stop))))) (Tr.stop))
def f5(d:Tys.data as5):Option (Tys.data rs5):=(t5 d.1.1 d.1.2.1 d.2.1.1 d.2.1.2.1).val
def g5(d:Tys.data as5):Tys.data rs5:=(f5 d).getD (Tys.dflt rs5)
def p5:PureC:=pcOf as5 rs5 f5 g5
def ww3x:List Nat:=[2,2,0,1]
def ww3y:List Nat:=6::2::2::4::ww3x
def ww3z:List Nat:=pk 13 11 0xf0bc2f7bde17c210 ww3y
def ww40:List Nat:=pk 4 12 541200 ww3z
def ww41:List Nat:=26::26::ww40
def ww42:List Nat:=pk 7 15 18805703184 ww41
def ww43:List Nat:=32::ww42
def ww44:List Nat:=36::34::ww43
def ww45:List Nat:=pk 19 26 0x3c2f0bdef0d5e1785ed7c210 ww44
def ww46:List Nat:=pk 5 26 17350192 ww45
def ww47:List Nat:=56::ww46
def ww48:List Nat:=pk 4 28 15888 ww46
def ww49:List Nat:=pk 6 30 587678224 ww48
def ww4a:List Nat:=pk 6 32 572015056 ww49
def ww4b:List Nat:=pk 13 35 0x106be905c21084210 ww4a
def ww4c:List Nat:=72::ww4b
def ww4d:List Nat:=pl 16 40 0x7e05a8174068017ed5dbf7f02040 ww4c
def ww4e:List Nat:=82::ww4d
def ww4f:List Nat:=pl 22 22 0x1d0176040bf7efe0bf82fdfc27f69f817e05fc0 ww4e
def ww4g:List Nat:=pk 6 49 845660688 ww4f
def ww4h:List Nat:=100::ww4g
def ww4i:List Nat:=102::ww4h
def ww4j:List Nat:=pk 11 60 0x3de17bc2f7bdf0 ww4i
def ww4k:List Nat:=120::ww4j
def ww4l:List Nat:=pk 4 62 573904 ww4k
def ww4m:List Nat:=128::126::ww4l
def ww4n:List Nat:=pk 6 68 504858096 ww4m
def ww4o:List Nat:=pk 4 72 507376 ww4n
def ww4p:List Nat:=146::ww4o
def ww4q:List Nat:=150::148::ww4p
def ww4r:List Nat:=pl 6 62 2164980211648 ww4j
def ww4s:List Nat:=pk 4 66 507376 ww4r
def ww4t:List Nat:=134::ww4s
def ww4u:List Nat:=138::136::ww4t
def ww4v:List Nat:=pl 6 53 2164999086016 ww4i
def ww4w:List Nat:=pk 4 57 507376 ww4v
def ww4x:List Nat:=116::ww4w
def ww4y:List Nat:=120::118::ww4x
def ww4z:List Nat:=100::0::ww4g
def ww50:List Nat:=pk 11 59 0x3de17bc2f7bdf0 ww4z
def ww51:List Nat:=118::ww50
def ww52:List Nat:=pk 4 61 573904 ww51
def ww53:List Nat:=126::124::ww52
def ww54:List Nat:=pk 6 67 504858096 ww53
def ww55:List Nat:=pk 4 71 507376 ww54
def ww56:List Nat:=144::ww55
def ww57:List Nat:=148::146::ww56
def ww58:List Nat:=pl 6 61 2164982308800 ww50
def ww59:List Nat:=pk 4 65 507376 ww58
def ww5a:List Nat:=132::ww59
def ww5b:List Nat:=136::134::ww5a
def ww5c:List Nat:=pl 6 52 2165001183168 ww4z
def ww5d:List Nat:=pk 4 56 507376 ww5c
def ww5e:List Nat:=114::ww5d
def ww5f:List Nat:=118::116::ww5e
def ww5g:List Nat:=pk 6 49 83345936 ww4f
def ww5h:List Nat:=100::ww5g
def ww5i:List Nat:=102::ww5h
def ww5j:List Nat:=pk 11 60 0x3de17bc2f7bdf0 ww5i
def ww5k:List Nat:=120::ww5j
def ww5l:List Nat:=pk 4 62 573904 ww5k
def ww5m:List Nat:=128::126::ww5l
def ww5n:List Nat:=pk 6 68 504858096 ww5m
def ww5o:List Nat:=pk 4 72 507376 ww5n
def ww5p:List Nat:=146::ww5o
def ww5q:List Nat:=150::148::ww5p
def ww5r:List Nat:=pl 6 62 2164980211648 ww5j
def ww5s:List Nat:=pk 4 66 507376 ww5r
def ww5t:List Nat:=134::ww5s
def ww5u:List Nat:=138::136::ww5t
def ww5v:List Nat:=pl 6 53 2164999086016 ww5i
def ww5w:List Nat:=pk 4 57 507376 ww5v
def ww5x:List Nat:=116::ww5w
def ww5y:List Nat:=120::118::ww5x
def ww5z:List Nat:=100::0::ww5g
def ww60:List Nat:=pk 11 59 0x3de17bc2f7bdf0 ww5z
def ww61:List Nat:=118::ww60
def ww62:List Nat:=pk 4 61 573904 ww61
def ww63:List Nat:=126::124::ww62
def ww64:List Nat:=pk 6 67 504858096 ww63
def ww65:List Nat:=pk 4 71 507376 ww64
def ww66:List Nat:=144::ww65
def ww67:List Nat:=148::146::ww66
def ww68:List Nat:=pl 6 61 2164982308800 ww60
def ww69:List Nat:=pk 4 65 507376 ww68
def ww6a:List Nat:=132::ww69
def ww6b:List Nat:=136::134::ww6a
def ww6c:List Nat:=pl 6 52 2165001183168 ww5z
def ww6d:List Nat:=pk 4 56 507376 ww6c
def ww6e:List Nat:=114::ww6d
def ww6f:List Nat:=118::116::ww6e
def ww6g:List Nat:=pk 15 37 0x3e905bed04c21084210 ww4a
def ww6h:List Nat:=76::ww6g
def ww6i:List Nat:=pl 16 42 0x7e05a8170069017ed1d3f7f02040 ww6h
def ww6j:List Nat:=86::ww6i
def ww6k:List Nat:=pl 22 22 0x1c0176040bf7efe0bf82fdfc27f71f817e05fc0 ww6j
def ww6l:List Nat:=pk 6 51 845660688 ww6k
def ww6m:List Nat:=104::ww6l
def ww6n:List Nat:=106::ww6m
def ww6o:List Nat:=pk 11 62 0x3de17bc2f7bdf0 ww6n
def ww6p:List Nat:=124::ww6o
def ww6q:List Nat:=pk 4 64 573904 ww6p
def ww6r:List Nat:=132::130::ww6q
def ww6s:List Nat:=pk 6 70 504858096 ww6r
def ww6t:List Nat:=pk 4 74 507376 ww6s
def ww6u:List Nat:=150::ww6t
def ww6v:List Nat:=154::152::ww6u
def ww6w:List Nat:=pl 6 64 2164976017344 ww6o
def ww6x:List Nat:=pk 4 68 507376 ww6w
def ww6y:List Nat:=138::ww6x
def ww6z:List Nat:=142::140::ww6y
def ww70:List Nat:=pl 6 55 2164994891712 ww6n
def ww71:List Nat:=pk 4 59 507376 ww70
def ww72:List Nat:=120::ww71
def ww73:List Nat:=124::122::ww72
def ww74:List Nat:=104::0::ww6l
def ww75:List Nat:=pk 11 61 0x3de17bc2f7bdf0 ww74
def ww76:List Nat:=122::ww75
def ww77:List Nat:=pk 4 63 573904 ww76
def ww78:List Nat:=130::128::ww77
def ww79:List Nat:=pk 6 69 504858096 ww78
def ww7a:List Nat:=pk 4 73 507376 ww79
def ww7b:List Nat:=148::ww7a
def ww7c:List Nat:=152::150::ww7b
def ww7d:List Nat:=pl 6 63 2164978114496 ww75
def ww7e:List Nat:=pk 4 67 507376 ww7d
def ww7f:List Nat:=136::ww7e
def ww7g:List Nat:=140::138::ww7f
def ww7h:List Nat:=pl 6 54 2164996988864 ww74
def ww7i:List Nat:=pk 4 58 507376 ww7h
def ww7j:List Nat:=118::ww7i
def ww7k:List Nat:=122::120::ww7j
def ww7l:List Nat:=pl 6 51 1700671791168 ww6k
def ww7m:List Nat:=104::ww7l
def ww7n:List Nat:=106::ww7m
def ww7o:List Nat:=pk 11 62 0x3de17bc2f7bdf0 ww7n
def ww7p:List Nat:=124::ww7o
def ww7q:List Nat:=pk 4 64 573904 ww7p
def ww7r:List Nat:=132::130::ww7q
def ww7s:List Nat:=pk 6 70 504858096 ww7r
def ww7t:List Nat:=pk 4 74 507376 ww7s
def ww7u:List Nat:=150::ww7t
def ww7v:List Nat:=154::152::ww7u
def ww7w:List Nat:=pl 6 64 2164976017344 ww7o
def ww7x:List Nat:=pk 4 68 507376 ww7w
def ww7y:List Nat:=138::ww7x
def ww7z:List Nat:=142::140::ww7y
def ww80:List Nat:=pl 6 55 2164994891712 ww7n
def ww81:List Nat:=pk 4 59 507376 ww80
def ww82:List Nat:=120::ww81
def ww83:List Nat:=124::122::ww82
def ww84:List Nat:=104::0::ww7l
def ww85:List Nat:=pk 11 61 0x3de17bc2f7bdf0 ww84
def ww86:List Nat:=122::ww85
def ww87:List Nat:=pk 4 63 573904 ww86
def ww88:List Nat:=130::128::ww87
def ww89:List Nat:=pk 6 69 504858096 ww88
def ww8a:List Nat:=pk 4 73 507376 ww89
def ww8b:List Nat:=148::ww8a
def ww8c:List Nat:=152::150::ww8b
def ww8d:List Nat:=pl 6 63 2164978114496 ww85
def ww8e:List Nat:=pk 4 67 507376 ww8d
def ww8f:List Nat:=136::ww8e
def ww8g:List Nat:=140::138::ww8f
def ww8h:List Nat:=pl 6 54 2164996988864 ww84
def ww8i:List Nat:=pk 4 58 507376 ww8h
def ww8j:List Nat:=118::ww8i
def ww8k:List Nat:=122::120::ww8j
end Go.Vm.Mo
