import Derived.Test.YtlmcodagfhdncaaGreatA5
import Derived.KernelRfl
import Derived.Test.YtlmcodagfhdncaaGreatProg
import Derived.Test.YtlmcodagfhdncaaGreatRsFa
set_option linter.unusedVariables false
set_option linter.unusedSimpArgs false

namespace Go.Vm.Mo
open Go
set_option linter.unusedVariables false
abbrev as39:List Ty:=[(.slice (.pair (.int .i64) (.pair (.int .i64) .unit)))]
abbrev rs39:List Ty:=[.bool]
def t39(x0:(List (Int×(Int×Unit)))):Tr (Tys.data rs39):= Tr.test (Option.isSome (l39_0 ((x0,((0:Int),())),()))) (Tr.test (qas (l39_0 ((x0,((0:Int),())),()))) (let r0:=r39_0 ((x0,((0:Int),())),());Tr.fin ((r0.1.1,()))) (Tr.fin (((true:Bool),())))) (Tr.stop)
def f39(d:Tys.data as39):Option (Tys.data rs39):=(t39 d.1).val
def g39(d:Tys.data as39):Tys.data rs39:=(f39 d).getD (Tys.dflt rs39)
def p39:PureC:=pcOf as39 rs39 f39 g39
def ww1m:List Nat:=[4,2]
theorem wk39(x0:(List (Int×(Int×Unit)))):Walks (runPure (kl39_0 Proofs.Tryz.prog).orc Proofs.Tryz.prog 400 39 as39 rs39 (x0,())) (t39 x0) [(bl 2 3,ww1m),(bl 2 1,ww1m)]:=
 ⟨by kernel_rfl,by kernel_rfl,trivial⟩
theorem ok39:PureOk Proofs.Tryz.prog 39 p39:=qac kl39_0_ok.base (T:=fun(d:Tys.data as39)=>t39 d.1) (by kernel_rfl) (fun(d:Tys.data as39)=>wP (wk39 d.1) (by kernel_rfl))
def kf39(P:Go.Program):Known:=(kl39_0 P).func 39 p39
theorem kf39_ok:KnownOk Proofs.Tryz.prog (kf39 Proofs.Tryz.prog):=kl39_0_ok.func ok39
abbrev as87:List Ty:=[(.slice (.slice (.pair (.int .i64) (.pair (.int .i64) .unit))))]
abbrev rs87:List Ty:=[(.slice (.pair (.int .i64) (.pair (.int .i64) .unit)))]
def t87(x0_0:(List (Int×(Int×Unit))))(x0_1:List (Int×(Int×Unit))):Tr (Tys.data rs87):= Tr.test ((true&&decide ((0:Int)<(2:Int)):Bool)) (Tr.test (!leF (0:Int) (wrap64 ((0:Int)+(↑(List.length x0_0):Int)))) (Tr.stop) (Tr.test ((true&&decide ((1:Int)<(2:Int)):Bool)) (Tr.test ((!leF (0:Int) (wrap64 (wrap64 ((0:Int)+(↑(List.length x0_0):Int))+(↑(List.length x0_1):Int))):Bool)) (Tr.stop) (Tr.test ((!leF (wrap64 (wrap64 (wrap64 ((0:Int)+(↑(List.length x0_0):Int))+(↑(List.length x0_1):Int))-(0:Int))) (0:Int):Bool)) (Tr.test ((decide ((0:Int)<wrap64 (wrap64 (wrap64 ((0:Int)+(↑(List.length x0_0):Int))+(↑(List.length x0_1):Int))-(0:Int)))&&decide (((2:Int)*wrap64 (wrap64 (wrap64 ((0:Int)+(↑(List.length x0_0):Int))+(↑(List.length x0_1):Int))-(0:Int))+(192:Int))*(16:Int)≤(281474976710656:Int))&&decide (wrap64 (wrap64 (wrap64 ((0:Int)+(↑(List.length x0_0):Int))+(↑(List.length x0_1):Int))-(0:Int))≤(281474976710656:Int)):Bool)) (Tr.test ((true&&decide ((0:Int)≤(↑(Int.toNat (wrap64 (wrap64 (wrap64 ((0:Int)+(↑(List.length x0_0):Int))+(↑(List.length x0_1):Int))-(0:Int)))):Int)):Bool)) (Tr.test ((Nat.beq (List.length x0_0) (0:Nat):Bool)) (Tr.test ((Nat.beq (List.length x0_1) (0:Nat):Bool)) (Tr.test ((Nat.beq (0:Nat) (List.length (List.replicate (Int.toNat (wrap64 (wrap64 (wrap64 ((0:Int)+(↑(List.length x0_0):Int))+(↑(List.length x0_1):Int))-(0:Int)))) ((0:Int),(0:Int),()))):Bool)) (Tr.fin (((List.replicate (Int.toNat (wrap64 (wrap64 (wrap64 ((0:Int)+(↑(List.length x0_0):Int))+(↑(List.length x0_1):Int))-(0:Int)))) ((0:Int),(0:Int),()):List (Int×Int×PUnit)),()))) (Tr.test ((Nat.ble (0:Nat) (List.length (List.replicate (Int.toNat (wrap64 (wrap64 (wrap64 ((0:Int)+(↑(List.length x0_0):Int))+(↑(List.length x0_1):Int))-(0:Int)))) ((0:Int),(0:Int),()))):Bool)) (Tr.fin (((List.take (0:Nat) (List.replicate (Int.toNat (wrap64 (wrap64 (wrap64 ((0:Int)+(↑(List.length x0_0):Int))+(↑(List.length x0_1):Int))-(0:Int)))) ((0:Int),(0:Int),())):List (Int×Int×PUnit)),()))) (Tr.stop))) (Tr.test ((Nat.ble (((2:Nat)*((0:Nat)+List.length x0_1)+(192:Nat))*(16:Nat)) (281474976710656:Nat)&&Nat.ble ((0:Nat)+List.length x0_1) (281474976710656:Nat):Bool)) (Tr.test ((Nat.beq (0:Nat) (List.length (List.replicate (Int.toNat (wrap64 (wrap64 (wrap64 ((0:Int)+(↑(List.length x0_0):Int))+(↑(List.length x0_1):Int))-(0:Int)))) ((0:Int),(0:Int),()))):Bool)) (Tr.test ((Nat.beq ((0:Nat)+List.length x0_1) (List.length (List.replicate (Int.toNat (wrap64 (wrap64 (wrap64 ((0:Int)+(↑(List.length x0_0):Int))+(↑(List.length x0_1):Int))-(0:Int)))) ((0:Int),(0:Int),())++x0_1)):Bool)) (Tr.fin (((List.replicate (Int.toNat (wrap64 (wrap64 (wrap64 ((0:Int)+(↑(List.length x0_0):Int))+(↑(List.length x0_1):Int))-(0:Int)))) ((0:Int),(0:Int),())++x0_1:List (Int×Int×PUnit)),()))) (Tr.test ((Nat.ble ((0:Nat)+List.length x0_1) (List.length (List.replicate (Int.toNat (wrap64 (wrap64 (wrap64 ((0:Int)+(↑(List.length x0_0):Int))+(↑(List.length x0_1):Int))-(0:Int)))) ((0:Int),(0:Int),())++x0_1)):Bool)) (Tr.fin (((List.take ((0:Nat)+List.length x0_1) (List.replicate (Int.toNat (wrap64 (wrap64 (wrap64 ((0:Int)+(↑(List.length x0_0):Int))+(↑(List.length x0_1):Int))-(0:Int)))) ((0:Int),(0:Int),())++x0_1):List (Int×Int×PUnit)),()))) (Tr.stop))) (Tr.test ((Nat.ble (0:Nat) (List.length (List.replicate (Int.toNat (wrap64 (wrap64 (wrap64 ((0:Int)+(↑(List.length x0_0):Int))+(↑(List.length x0_1):Int))-(0:Int)))) ((0:Int),(0:Int),()))):Bool)) (Tr.test ((Nat.beq ((0:Nat)+List.length x0_1) (List.length (List.take (0:Nat) (List.replicate (Int.toNat (wrap64 (wrap64 (wrap64 ((0:Int)+(↑(List.length x0_0):Int))+(↑(List.length x0_1):Int))-(0:Int)))) ((0:Int),(0:Int),()))++x0_1)):Bool)) (Tr.fin (((List.take (0:Nat) (List.replicate (Int.toNat (wrap64 (wrap64 (wrap64 ((0:Int)+(↑(List.length x0_0):Int))+(↑(List.length x0_1):Int))-(0:Int)))) ((0:Int),(0:Int),()))++x0_1:List (Int×Int×PUnit)),()))) (Tr.test ((Nat.ble ((0:Nat)+List.length x0_1) (List.length (List.take (0:Nat) (List.replicate (Int.toNat (wrap64 (wrap64 (wrap64 ((0:Int)+(↑(List.length x0_0):Int))+(↑(List.length x0_1):Int))-(0:Int)))) ((0:Int),(0:Int),()))++x0_1)):Bool)) (Tr.fin (((List.take ((0:Nat)+List.length x0_1) (List.take (0:Nat) (List.replicate (Int.toNat (wrap64 (wrap64 (wrap64 ((0:Int)+(↑(List.length x0_0):Int))+(↑(List.length x0_1):Int))-(0:Int)))) ((0:Int),(0:Int),()))++x0_1):List (Int×Int×PUnit)),()))) (Tr.stop))) (Tr.stop))) (Tr.stop))) (Tr.test ((Nat.ble (((2:Nat)*((0:Nat)+List.length x0_0)+(192:Nat))*(16:Nat)) (281474976710656:Nat)&&Nat.ble ((0:Nat)+List.length x0_0) (281474976710656:Nat):Bool)) (Tr.test ((Nat.beq (0:Nat) (List.length (List.replicate (Int.toNat (wrap64 (wrap64 (wrap64 ((0:Int)+(↑(List.length x0_0):Int))+(↑(List.length x0_1):Int))-(0:Int)))) ((0:Int),(0:Int),()))):Bool)) (Tr.test ((Nat.beq (List.length x0_1) (0:Nat):Bool)) (Tr.test ((Nat.beq ((0:Nat)+List.length x0_0) (List.length (List.replicate (Int.toNat (wrap64 (wrap64 (wrap64 ((0:Int)+(↑(List.length x0_0):Int))+(↑(List.length x0_1):Int))-(0:Int)))) ((0:Int),(0:Int),())++x0_0)):Bool)) (Tr.fin (((List.replicate (Int.toNat (wrap64 (wrap64 (wrap64 ((0:Int)+(↑(List.length x0_0):Int))+(↑(List.length x0_1):Int))-(0:Int)))) ((0:Int),(0:Int),())++x0_0:List (Int×Int×PUnit)),()))) (Tr.test ((Nat.ble ((0:Nat)+List.length x0_0) (List.length (List.replicate (Int.toNat (wrap64 (wrap64 (wrap64 ((0:Int)+(↑(List.length x0_0):Int))+(↑(List.length x0_1):Int))-(0:Int)))) ((0:Int),(0:Int),())++x0_0)):Bool)) (Tr.fin (((List.take ((0:Nat)+List.length x0_0) (List.replicate (Int.toNat (wrap64 (wrap64 (wrap64 ((0:Int)+(↑(List.length x0_0):Int))+(↑(List.length x0_1):Int))-(0:Int)))) ((0:Int),(0:Int),())++x0_0):List (Int×Int×PUnit)),()))) (Tr.stop))) (Tr.test ((Nat.ble (((2:Nat)*((0:Nat)+List.length x0_0+List.length x0_1)+(192:Nat))*(16:Nat)) (281474976710656:Nat)&&Nat.ble ((0:Nat)+List.length x0_0+List.length x0_1) (281474976710656:Nat):Bool)) (Tr.test ((Nat.beq ((0:Nat)+List.length x0_0) (List.length (List.replicate (Int.toNat (wrap64 (wrap64 (wrap64 ((0:Int)+(↑(List.length x0_0):Int))+(↑(List.length x0_1):Int))-(0:Int)))) ((0:Int),(0:Int),())++x0_0)):Bool)) (Tr.test ((Nat.beq ((0:Nat)+List.length x0_0+List.length x0_1) (List.length (List.replicate (Int.toNat (wrap64 (wrap64 (wrap64 ((0:Int)+(↑(List.length x0_0):Int))+(↑(List.length x0_1):Int))-(0:Int)))) ((0:Int),(0:Int),())++x0_0++x0_1)):Bool)) (Tr.fin (((List.replicate (Int.toNat (wrap64 (wrap64 (wrap64 ((0:Int)+(↑(List.length x0_0):Int))+(↑(List.length x0_1):Int))-(0:Int)))) ((0:Int),(0:Int),())++x0_0++x0_1:List (Int×Int×PUnit)),()))) (Tr.test ((Nat.ble ((0:Nat)+List.length x0_0+List.length x0_1) (List.length (List.replicate (Int.toNat (wrap64 (wrap64 (wrap64 ((0:Int)+(↑(List.length x0_0):Int))+(↑(List.length x0_1):Int))-(0:Int)))) ((0:Int),(0:Int),())++x0_0++x0_1)):Bool)) (Tr.fin (((List.take ((0:Nat)+List.length x0_0+List.length x0_1) (List.replicate (Int.toNat (wrap64 (wrap64 (wrap64 ((0:Int)+(↑(List.length x0_0):Int))+(↑(List.length x0_1):Int))-(0:Int)))) ((0:Int),(0:Int),())++x0_0++x0_1):List (Int×Int×PUnit)),()))) (Tr.stop))) (Tr.test ((Nat.ble ((0:Nat)+List.length x0_0) (List.length (List.replicate (Int.toNat (wrap64 (wrap64 (wrap64 ((0:Int)+(↑(List.length x0_0):Int))+(↑(List.length x0_1):Int))-(0:Int)))) ((0:Int),(0:Int),())++x0_0)):Bool)) (Tr.test ((Nat.beq ((0:Nat)+List.length x0_0+List.length x0_1) (List.length (List.take ((0:Nat)+List.length x0_0) (List.replicate (Int.toNat (wrap64 (wrap64 (wrap64 ((0:Int)+(↑(List.length x0_0):Int))+(↑(List.length x0_1):Int))-(0:Int)))) ((0:Int),(0:Int),())++x0_0)++x0_1)):Bool)) (Tr.fin (((List.take ((0:Nat)+List.length x0_0) (List.replicate (Int.toNat (wrap64 (wrap64 (wrap64 ((0:Int)+(↑(List.length x0_0):Int))+(↑(List.length x0_1):Int))-(0:Int)))) ((0:Int),(0:Int),())++x0_0)++x0_1:List (Int×Int×PUnit)),()))) (Tr.test ((Nat.ble ((0:Nat)+List.length x0_0+List.length x0_1) (List.length (List.take ((0:Nat)+List.length x0_0) (List.replicate (Int.toNat (wrap64 (wrap64 (wrap64 ((0:Int)+(↑(List.length x0_0):Int))+(↑(List.length x0_1):Int))-(0:Int)))) ((0:Int),(0:Int),())++x0_0)++x0_1)):Bool)) (Tr.fin (((List.take ((0:Nat)+List.length x0_0+List.length x0_1) (List.take ((0:Nat)+List.length x0_0) (List.replicate (Int.toNat (wrap64 (wrap64 (wrap64 ((0:Int)+(↑(List.length x0_0):Int))+(↑(List.length x0_1):Int))-(0:Int)))) ((0:Int),(0:Int),())++x0_0)++x0_1):List (Int×Int×PUnit)),()))) (Tr.stop))) (Tr.stop))) (Tr.stop))) (Tr.test ((Nat.ble (0:Nat) (List.length (List.replicate (Int.toNat (wrap64 (wrap64 (wrap64 ((0:Int)+(↑(List.length x0_0):Int))+(↑(List.length x0_1):Int))-(0:Int)))) ((0:Int),(0:Int),()))):Bool)) (Tr.test ((Nat.beq (List.length x0_1) (0:Nat):Bool)) (Tr.test ((Nat.beq ((0:Nat)+List.length x0_0) (List.length (List.take (0:Nat) (List.replicate (Int.toNat (wrap64 (wrap64 (wrap64 ((0:Int)+(↑(List.length x0_0):Int))+(↑(List.length x0_1):Int))-(0:Int)))) ((0:Int),(0:Int),()))++x0_0)):Bool)) (Tr.fin (((List.take (0:Nat) (List.replicate (Int.toNat (wrap64 (wrap64 (wrap64 ((0:Int)+(↑(List.length x0_0):Int))+(↑(List.length x0_1):Int))-(0:Int)))) ((0:Int),(0:Int),()))++x0_0:List (Int×Int×PUnit)),()))) (Tr.test ((Nat.ble ((0:Nat)+List.length x0_0) (List.length (List.take (0:Nat) (List.replicate (Int.toNat (wrap64 (wrap64 (wrap64 ((0:Int)+(↑(List.length x0_0):Int))+(↑(List.length x0_1):Int))-(0:Int)))) ((0:Int),(0:Int),()))++x0_0)):Bool)) (Tr.fin (((List.take ((0:Nat)+List.length x0_0) (List.take (0:Nat) (List.replicate (Int.toNat (wrap64 (wrap64 (wrap64 ((0:Int)+(↑(List.length x0_0):Int))+(↑(List.length x0_1):Int))-(0:Int)))) ((0:Int),(0:Int),()))++x0_0):List (Int×Int×PUnit)),()))) (Tr.stop))) (Tr.test ((Nat.ble (((2:Nat)*((0:Nat)+List.length x0_0+List.length x0_1)+(192:Nat))*(16:Nat)) (281474976710656:Nat)&&Nat.ble ((0:Nat)+List.length x0_0+List.length x0_1) (281474976710656:Nat):Bool)) (Tr.test ((Nat.beq ((0:Nat)+List.length x0_0) (List.length (List.take (0:Nat) (List.replicate (Int.toNat (wrap64 (wrap64 (wrap64 ((0:Int)+(↑(List.length x0_0):Int))+(↑(List.length x0_1):Int))-(0:Int)))) ((0:Int),(0:Int),()))++x0_0)):Bool)) (Tr.test ((Nat.beq ((0:Nat)+List.length x0_0+List.length x0_1) (List.length (List.take (0:Nat) (List.replicate (Int.toNat (wrap64 (wrap64 (wrap64 ((0:Int)+(↑(List.length x0_0):Int))+(↑(List.length x0_1):Int))-(0:Int)))) ((0:Int),(0:Int),()))++x0_0++x0_1)):Bool)) (Tr.fin (((List.take (0:Nat) (List.replicate (Int.toNat (wrap64 (wrap64 (wrap64 ((0:Int)+(↑(List.length x0_0):Int))+(↑(List.length x0_1):Int))-(0:Int)))) ((0:Int),(0:Int),()))++x0_0++x0_1:List (Int×Int×PUnit)),()))) (Tr.test ((Nat.ble ((0:Nat)+List.length x0_0+List.length x0_1) (List.length (List.take (0:Nat) (List.replicate (Int.toNat (wrap64 (wrap64 (wrap64 ((0:Int)+(↑(List.length x0_0):Int))+(↑(List.length x0_1):Int))-(0:Int)))) ((0:Int),(0:Int),()))++x0_0++x0_1)):Bool)) (Tr.fin (((List.take ((0:Nat)+List.length x0_0+List.length x0_1) (List.take (0:Nat) (List.replicate (Int.toNat (wrap64 (wrap64 (wrap64 ((0:Int)+(↑(List.length x0_0):Int))+(↑(List.length x0_1):Int))-(0:Int)))) ((0:Int),(0:Int),()))++x0_0++x0_1):List (Int×Int×PUnit)),()))) (Tr.stop))) (Tr.test ((Nat.ble ((0:Nat)+List.length x0_0) (List.length (List.take (0:Nat) (List.replicate (Int.toNat (wrap64 (wrap64 (wrap64 ((0:Int)+(↑(List.length x0_0):Int))+(↑(List.length x0_1):Int))-(0:Int)))) ((0:Int),(0:Int),()))++x0_0)):Bool)) (Tr.test ((Nat.beq ((0:Nat)+List.length x0_0+List.length x0_1) (List.length (List.take ((0:Nat)+List.length x0_0) (List.take (0:Nat) (List.replicate (Int.toNat (wrap64 (wrap64 (wrap64 ((0:Int)+(↑(List.length x0_0):Int))+(↑(List.length x0_1):Int))-(0:Int)))) ((0:Int),(0:Int),()))++x0_0)++x0_1)):Bool)) (Tr.fin (((List.take ((0:Nat)+List.length x0_0) (List.take (0:Nat) (List.replicate (Int.toNat (wrap64 (wrap64 (wrap64 ((0:Int)+(↑(List.length x0_0):Int))+(↑(List.length x0_1):Int))-(0:Int)))) ((0:Int),(0:Int),()))++x0_0)++x0_1:List (Int×Int×PUnit)),()))) (Tr.test ((Nat.ble ((0:Nat)+List.length x0_0+List.length x0_1) (List.length (List.take ((0:Nat)+List.length x0_0) (List.take (0:Nat) (List.replicate (Int.toNat (wrap64 (wrap64 (wrap64 ((0:Int)+(↑(List.length x0_0):Int))+(↑(List.length x0_1):Int))-(0:Int)))) ((0:Int),(0:Int),()))++x0_0)++x0_1)):Bool)) (Tr.fin (((List.take ((0:Nat)+List.length x0_0+List.length x0_1) (List.take ((0:Nat)+List.length x0_0) (List.take (0:Nat) (List.replicate (Int.toNat (wrap64 (wrap64 (wrap64 ((0:Int)+(↑(List.length x0_0):Int))+(↑(List.length x0_1):Int))-(0:Int)))) ((0:Int),(0:Int),()))++x0_0)++x0_1):List (Int×Int×PUnit)),()))) (Tr.stop))) (Tr.stop))) (Tr.stop))) (Tr.stop))) (Tr.stop))) (Tr.stop)) (Tr.stop)) (Tr.test ((Nat.beq (List.length x0_0) (0:Nat):Bool)) (Tr.test ((Nat.beq (List.length x0_1) (0:Nat):Bool)) (Tr.fin ((([]:List (Int×Int×PUnit)),()))) (Tr.test ((Nat.ble ((0:Nat)+List.length x0_1) (0:Nat):Bool)) (Tr.stop) (Tr.test ((Nat.ble (((2:Nat)*((0:Nat)+List.length x0_1)+(192:Nat))*(16:Nat)) (281474976710656:Nat)&&Nat.ble ((0:Nat)+List.length x0_1) (281474976710656:Nat):Bool)) (Tr.test ((Nat.beq ((0:Nat)+List.length x0_1) (List.length ([]++x0_1)):Bool)) (Tr.fin ((([]++x0_1:List (Int×Int×PUnit)),()))) (Tr.stop)) (Tr.stop)))) (Tr.test ((Nat.ble ((0:Nat)+List.length x0_0) (0:Nat):Bool)) (Tr.stop) (Tr.test ((Nat.ble (((2:Nat)*((0:Nat)+List.length x0_0)+(192:Nat))*(16:Nat)) (281474976710656:Nat)&&Nat.ble ((0:Nat)+List.length x0_0) (281474976710656:Nat):Bool)) (Tr.test ((Nat.beq (List.length x0_1) (0:Nat):Bool)) (Tr.test ((Nat.beq ((0:Nat)+List.length x0_0) (List.length ([]++x0_0)):Bool)) (Tr.fin ((([]++x0_0:List (Int×Int×PUnit)),()))) (Tr.stop)) (Tr.test ((Nat.ble (((2:Nat)*((0:Nat)+List.length x0_0+List.length x0_1)+(192:Nat))*(16:Nat)) (281474976710656:Nat)&&Nat.ble ((0:Nat)+List.length x0_0+List.length x0_1) (281474976710656:Nat):Bool)) (Tr.test ((Nat.beq ((0:Nat)+List.length x0_0) (List.length ([]++x0_0)):Bool)) (Tr.test ((Nat.beq ((0:Nat)+List.length x0_0+List.length x0_1) (List.length ([]++x0_0++x0_1)):Bool)) (Tr.fin ((([]++x0_0++x0_1:List (Int×Int×PUnit)),()))) (Tr.stop)) (Tr.stop)) (Tr.stop))) (Tr.stop)))))) (Tr.stop))) (Tr.stop)
def T87(d:Tys.data as87):Tr (Tys.data rs87):=
 match d.1 with
 |[y0,y1]=>t87 y0 y1
 |_=>Tr.stop
def f87(d:Tys.data as87):Option (Tys.data rs87):=(T87 d).val
def g87(d:Tys.data as87):Tys.data rs87:=(f87 d).getD (Tys.dflt rs87)
def p87:PureC:=pcOf as87 rs87 f87 g87
def ww1n:List Nat:=[1,10,8,0,8,6,1,4,2,1]
def ww1o:List Nat:=pk 5 8 16450864 ww1n
def ww1p:List Nat:=18::6::1::ww1o
def ww1q:List Nat:=20::0::ww1p
def ww1r:List Nat:=22::20::ww1p
def ww1s:List Nat:=24::0::ww1r
def ww1t:List Nat:=26::0::24::ww1r
def ww1u:List Nat:=20::18::ww1o
def ww1v:List Nat:=22::6::1::ww1u
def ww1w:List Nat:=24::0::ww1v
def ww1x:List Nat:=26::24::ww1v
def ww1y:List Nat:=28::0::ww1x
def ww1z:List Nat:=30::0::28::ww1x
def ww20:List Nat:=24::6::1::22::ww1u
def ww21:List Nat:=26::0::ww20
def ww22:List Nat:=28::26::ww20
def ww23:List Nat:=30::0::ww22
def ww24:List Nat:=32::0::30::ww22
def ww25:List Nat:=12::2::ww1n
def ww26:List Nat:=14::6::1::ww25
def ww27:List Nat:=pk 5 9 16418128 ww25
theorem wk87n0(x0_0:(List (Int×(Int×Unit))))(x0_1:List (Int×(Int×Unit))):Walks (runPureB (kf39 Proofs.Tryz.prog).orc Proofs.Tryz.prog 400 87 as87 rs87 ([x0_0,x0_1],())) (t87 x0_0 x0_1) [(bl 10 1013,ww1q),(bl 11 1525,22::ww1q),(bl 12 3829,ww1s),(bl 13 5877,26::ww1s),(bl 13 6901,ww1t),(bl 14 10997,28::ww1t),(bl 12 3957,ww1w),(bl 13 6005,26::ww1w),(bl 14 15221,ww1y),(bl 15 23413,30::ww1y),(bl 15 27509,ww1z),(bl 16 43893,32::ww1z),(bl 13 7541,ww21),(bl 14 11637,28::ww21),(bl 15 30069,ww23),(bl 16 46453,32::ww23)]:=by
 repeat refine⟨by kernel_rfl,?_⟩
 exact trivial
theorem wk87n1(x0_0:(List (Int×(Int×Unit))))(x0_1:List (Int×(Int×Unit))):Walks (runPureB (kf39 Proofs.Tryz.prog).orc Proofs.Tryz.prog 400 87 as87 rs87 ([x0_0,x0_1],())) (t87 x0_0 x0_1) [(bl 16 54645,ww24),(bl 17 87413,34::ww24),(bl 7 101,0::ww26),(bl 10 805,20::0::18::16::ww26),(bl 10 901,20::0::ww27),(bl 12 3717,24::0::22::20::ww27)]:=by
 repeat refine⟨by kernel_rfl,?_⟩
 exact trivial
theorem ok87_T(d:Tys.data as87):TrOk (PureRuns Proofs.Tryz.prog (kf39 Proofs.Tryz.prog).orc 87 as87 rs87 d) (T87 d):=by
 unfold T87
 obtain⟨l,u⟩:=d
 dsimp only
 split
 ·rename_i y0 y1
  exact wQ ((wk87n0 y0 y1).append (wk87n1 y0 y1)) (by kernel_rfl)
 ·exact TrOk.ofStop
theorem ok87:PureOk Proofs.Tryz.prog 87 p87:=qac kf39_ok.base (T:=T87) (by kernel_rfl) ok87_T
def kf87(P:Go.Program):Known:=(kf39 P).func 87 p87
theorem kf87_ok:KnownOk Proofs.Tryz.prog (kf87 Proofs.Tryz.prog):=kf39_ok.func ok87
abbrev as89:List Ty:=[(.pair (.int .i64) (.pair (.int .i64) .unit))]
abbrev rs89:List Ty:=[(.int .i64)]
def t89(x0:Int)(x0':Int):Tr (Tys.data rs89):= Tr.test ((leF x0' 0:Bool)) (Tr.test (Option.isSome (f60 (true,((3:Int),())))) (Tr.test (Option.isSome (f78 ((1000000000:Int),(([x0,x0']:List Int),())))) (let r3:=g78 ((1000000000:Int),(([x0,x0']:List Int),()));Tr.test (Option.isSome (f60 (r3.1,((2:Int),())))) (let r1:=g60 ((true:Bool),((3:Int),()));let r4:=g60 (r3.1,((2:Int),()));Tr.test (Option.isSome (f64 (([r1.1,r4.1]:List Int),()))) (let r5:=g64 (([r1.1,r4.1]:List Int),());Tr.fin ((r5.1,()))) (Tr.stop)) (Tr.stop)) (Tr.stop)) (Tr.stop)) (Tr.test (Option.isSome (f123 (x0',(x0,())))) (let r0:=g123 (x0',(x0,()));Tr.test (Option.isSome (f60 ((!eqF r0.1 1:Bool),((3:Int),())))) (Tr.test (Option.isSome (f78 ((1000000000:Int),(([x0,x0']:List Int),())))) (let r3:=g78 ((1000000000:Int),(([x0,x0']:List Int),()));Tr.test (Option.isSome (f60 (r3.1,((2:Int),())))) (let r2:=g60 ((!eqF r0.1 1:Bool),((3:Int),()));let r4:=g60 (r3.1,((2:Int),()));Tr.test (Option.isSome (f64 (([r2.1,r4.1]:List Int),()))) (let r6:=g64 (([r2.1,r4.1]:List Int),());Tr.fin ((r6.1,()))) (Tr.stop)) (Tr.stop)) (Tr.stop)) (Tr.stop)) (Tr.stop))
def f89(d:Tys.data as89):Option (Tys.data rs89):=(t89 d.1.1 d.1.2.1).val
def g89(d:Tys.data as89):Tys.data rs89:=(f89 d).getD (Tys.dflt rs89)
def p89:PureC:=pcOf as89 rs89 f89 g89
def ww28:List Nat:=[2,2,2,2,2]
theorem wk89(x0:Int)(x0':Int):Walks (runPure (kf87 Proofs.Tryz.prog).orc Proofs.Tryz.prog 400 89 as89 rs89 ((x0,x0',()),())) (t89 x0 x0') [(bl 5 31,pk 6 5 553106928 ww28),(bl 6 62,pk 7 6 18805669360 ww28)]:=
 ⟨by kernel_rfl,by kernel_rfl,trivial⟩
theorem ok89:PureOk Proofs.Tryz.prog 89 p89:=qac kf87_ok.base (T:=fun(d:Tys.data as89)=>t89 d.1.1 d.1.2.1) (by kernel_rfl) (fun(d:Tys.data as89)=>wP (wk89 d.1.1 d.1.2.1) (by kernel_rfl))
def kf89(P:Go.Program):Known:=(kf87 P).func 89 p89
theorem kf89_ok:KnownOk Proofs.Tryz.prog (kf89 Proofs.Tryz.prog):=kf87_ok.func ok89
abbrev as164:List Ty:=[(.int .i64),(.int .i64)]
abbrev rs164:List Ty:=[(.int .i64)]
def t164(x0:Int)(x1:Int):Tr (Tys.data rs164):= Tr.test ((x1==(0:Int):Bool)) (Tr.stop) (Tr.test (!leF (0:Int) (Int.tmod x0 x1)) (Tr.fin (((wrap64 (Go.IntKind.wrap Go.IntKind.i64 (Int.tdiv x0 x1)-(1:Int)):Int),()))) (Tr.fin (((Go.IntKind.wrap Go.IntKind.i64 (Int.tdiv x0 x1):Int),()))))
def f164(d:Tys.data as164):Option (Tys.data rs164):=(t164 d.1 d.2.1).val
def g164(d:Tys.data as164):Tys.data rs164:=(f164 d).getD (Tys.dflt rs164)
def p164:PureC:=pcOf as164 rs164 f164 g164
def ww29:List Nat:=[2,4,2]
theorem wk164(x0:Int)(x1:Int):Walks (runPure (kf89 Proofs.Tryz.prog).orc Proofs.Tryz.prog 400 164 as164 rs164 (x0,x1,())) (t164 x0 x1) [(bl 2 2,ww29),(bl 2 0,ww29)]:=
 ⟨by kernel_rfl,by kernel_rfl,trivial⟩
theorem ok164:PureOk Proofs.Tryz.prog 164 p164:=qac kf89_ok.base (T:=fun(d:Tys.data as164)=>t164 d.1 d.2.1) (by kernel_rfl) (fun(d:Tys.data as164)=>wP (wk164 d.1 d.2.1) (by kernel_rfl))
def kf164(P:Go.Program):Known:=(kf89 P).func 164 p164
theorem kf164_ok:KnownOk Proofs.Tryz.prog (kf164 Proofs.Tryz.prog):=kf89_ok.func ok164
abbrev as158:List Ty:=[(.int .i64),(.int .i64)]
abbrev rs158:List Ty:=[(.pair (.int .i64) (.pair (.pair (.int .i64) (.pair (.int .i64) .unit)) .unit))]
def t158(x0:Int)(x1:Int):Tr (Tys.data rs158):= Tr.test (Option.isSome (f164 (x0,(x1,())))) (let r0:=g164 (x0,(x1,()));Tr.test (Option.isSome (f120 ((wrap64 (x0-wrap64 (r0.1*x1)):Int),(x1,())))) (let r1:=g120 ((wrap64 (x0-wrap64 (r0.1*x1)):Int),(x1,()));Tr.fin (((r0.1,((r1.1.1,(r1.1.2.1,())),())),()))) (Tr.stop)) (Tr.stop)
def f158(d:Tys.data as158):Option (Tys.data rs158):=(t158 d.1 d.2.1).val
def g158(d:Tys.data as158):Tys.data rs158:=(f158 d).getD (Tys.dflt rs158)
def p158:PureC:=pcOf as158 rs158 f158 g158
theorem wk158(x0:Int)(x1:Int):Walks (runPure (kf164 Proofs.Tryz.prog).orc Proofs.Tryz.prog 400 158 as158 rs158 (x0,x1,())) (t158 x0 x1) [(bl 2 3,[4,2])]:=
 ⟨by kernel_rfl,trivial⟩
theorem ok158:PureOk Proofs.Tryz.prog 158 p158:=qac kf164_ok.base (T:=fun(d:Tys.data as158)=>t158 d.1 d.2.1) (by kernel_rfl) (fun(d:Tys.data as158)=>wP (wk158 d.1 d.2.1) (by kernel_rfl))
def kf158(P:Go.Program):Known:=(kf164 P).func 158 p158
theorem kf158_ok:KnownOk Proofs.Tryz.prog (kf158 Proofs.Tryz.prog):=kf164_ok.func ok158
abbrev as159:List Ty:=[(.pair (.int .i64) (.pair (.pair (.int .i64) (.pair (.int .i64) .unit)) .unit)),(.pair (.int .i64) (.pair (.pair (.int .i64) (.pair (.int .i64) .unit)) .unit))]
abbrev rs159:List Ty:=[(.pair (.int .i64) (.pair (.pair (.int .i64) (.pair (.int .i64) .unit)) .unit))]
def t159(x0:Int)(x0'_:Int)(x0'_':Int)(x1:Int)(x1'_:Int)(x1'_':Int):Tr (Tys.data rs159):= Tr.test (Option.isSome (f158 ((wrap64 (wrap64 (x0'_*x1'_')-wrap64 (x1'_*x0'_')):Int),((wrap64 (x0'_'*x1'_'):Int),())))) (let r0:=g158 ((wrap64 (wrap64 (x0'_*x1'_')-wrap64 (x1'_*x0'_')):Int),((wrap64 (x0'_'*x1'_'):Int),()));Tr.fin ((((wrap64 (wrap64 (x0-x1)+r0.1.1):Int),((r0.1.2.1.1,(r0.1.2.1.2.1,())),())),()))) (Tr.stop)
def f159(d:Tys.data as159):Option (Tys.data rs159):=(t159 d.1.1 d.1.2.1.1 d.1.2.1.2.1 d.2.1.1 d.2.1.2.1.1 d.2.1.2.1.2.1).val
def g159(d:Tys.data as159):Tys.data rs159:=(f159 d).getD (Tys.dflt rs159)
def p159:PureC:=pcOf as159 rs159 f159 g159
theorem wk159(x0:Int)(x0'_:Int)(x0'_':Int)(x1:Int)(x1'_:Int)(x1'_':Int):Walks (runPure (kf158 Proofs.Tryz.prog).orc Proofs.Tryz.prog 400 159 as159 rs159 ((x0,(x0'_,x0'_',()),()),(x1,(x1'_,x1'_',()),()),())) (t159 x0 x0'_ x0'_' x1 x1'_ x1'_') [(bl 1 1,[2])]:=
 ⟨by kernel_rfl,trivial⟩
theorem ok159:PureOk Proofs.Tryz.prog 159 p159:=qac kf158_ok.base (T:=fun(d:Tys.data as159)=>t159 d.1.1 d.1.2.1.1 d.1.2.1.2.1 d.2.1.1 d.2.1.2.1.1 d.2.1.2.1.2.1) (by kernel_rfl) (fun(d:Tys.data as159)=>wP (wk159 d.1.1 d.1.2.1.1 d.1.2.1.2.1 d.2.1.1 d.2.1.2.1.1 d.2.1.2.1.2.1) (by kernel_rfl))
def kf159(P:Go.Program):Known:=(kf158 P).func 159 p159
theorem kf159_ok:KnownOk Proofs.Tryz.prog (kf159 Proofs.Tryz.prog):=kf158_ok.func ok159
abbrev as125:List Ty:=[(.pair (.pair (.slice (.int .i64)) (.pair (.slice (.int .i64)) .unit)) (.pair (.pair (.int .i64) (.pair (.int .i64) .unit)) .unit)),(.int .i64),(.slice (.pair (.int .i64) (.pair (.int .i64) .unit)))]
abbrev rs125:List Ty:=[(.pair (.int .i64) (.pair (.pair (.int .i64) (.pair (.int .i64) .unit)) .unit))]
def t125(x0_:(List Int))(x0_':List Int)(x0'_:Int)(x0'_':Int)(x1:Int)(x2:List (Int×(Int×Unit))):Tr (Tys.data rs125):= Tr.test ((eqF x1 (↑(List.length x2):Int):Bool)) (Tr.test (Option.isSome (f158 ((0:Int),((1:Int),())))) (let r0:=g158 ((0:Int),((1:Int),()));Tr.fin (((r0.1.1,((r0.1.2.1.1,(r0.1.2.1.2.1,())),())),()))) (Tr.stop)) (Tr.test (!leF x1 0) (Tr.test ((decide ((0:Int)≤wrap64 (x1-(1:Int)))&&decide (wrap64 (x1-(1:Int))<(↑(List.length x2):Int)):Bool)) (Tr.test ((decide ((0:Int)≤x1)&&decide (x1<(↑(List.length x0_):Int)):Bool)) (Tr.test ((decide ((0:Int)≤x1)&&decide (x1<(↑(List.length x2):Int)):Bool)) (Tr.test (Option.isSome (f158 ((wrap64 (List.getD x0_ (Int.toNat x1) (0:Int)*(List.getD x2 (Int.toNat x1) ((0:Int),(0:Int),())).1):Int),(((List.getD x2 (Int.toNat x1) ((0:Int),(0:Int),())).2.1:Int),())))) (Tr.test (Option.isSome (f158 ((wrap64 (List.getD x0_ (Int.toNat x1) (0:Int)*(List.getD x2 (Int.toNat (wrap64 (x1-(1:Int)))) ((0:Int),(0:Int),())).1):Int),(((List.getD x2 (Int.toNat (wrap64 (x1-(1:Int)))) ((0:Int),(0:Int),())).2.1:Int),())))) (let r1:=g158 ((wrap64 (List.getD x0_ (Int.toNat x1) (0:Int)*(List.getD x2 (Int.toNat x1) ((0:Int),(0:Int),())).1):Int),(((List.getD x2 (Int.toNat x1) ((0:Int),(0:Int),())).2.1:Int),()));let r2:=g158 ((wrap64 (List.getD x0_ (Int.toNat x1) (0:Int)*(List.getD x2 (Int.toNat (wrap64 (x1-(1:Int)))) ((0:Int),(0:Int),())).1):Int),(((List.getD x2 (Int.toNat (wrap64 (x1-(1:Int)))) ((0:Int),(0:Int),())).2.1:Int),()));Tr.test (Option.isSome (f159 ((r1.1.1,((r1.1.2.1.1,(r1.1.2.1.2.1,())),())),((r2.1.1,((r2.1.2.1.1,(r2.1.2.1.2.1,())),())),())))) (let r3:=g159 ((r1.1.1,((r1.1.2.1.1,(r1.1.2.1.2.1,())),())),((r2.1.1,((r2.1.2.1.1,(r2.1.2.1.2.1,())),())),()));Tr.fin (((r3.1.1,((r3.1.2.1.1,(r3.1.2.1.2.1,())),())),()))) (Tr.stop)) (Tr.stop)) (Tr.stop)) (Tr.stop)) (Tr.stop)) (Tr.stop)) (Tr.test ((decide ((0:Int)≤x1)&&decide (x1<(↑(List.length x0_):Int)):Bool)) (Tr.test ((decide ((0:Int)≤x1)&&decide (x1<(↑(List.length x2):Int)):Bool)) (Tr.test (Option.isSome (f158 ((wrap64 (List.getD x0_ (Int.toNat x1) (0:Int)*(List.getD x2 (Int.toNat x1) ((0:Int),(0:Int),())).1):Int),(((List.getD x2 (Int.toNat x1) ((0:Int),(0:Int),())).2.1:Int),())))) (Tr.test (Option.isSome (f158 ((wrap64 (List.getD x0_ (Int.toNat x1) (0:Int)*x0'_):Int),(x0'_',())))) (let r1:=g158 ((wrap64 (List.getD x0_ (Int.toNat x1) (0:Int)*(List.getD x2 (Int.toNat x1) ((0:Int),(0:Int),())).1):Int),(((List.getD x2 (Int.toNat x1) ((0:Int),(0:Int),())).2.1:Int),()));let r4:=g158 ((wrap64 (List.getD x0_ (Int.toNat x1) (0:Int)*x0'_):Int),(x0'_',()));Tr.test (Option.isSome (f159 ((r1.1.1,((r1.1.2.1.1,(r1.1.2.1.2.1,())),())),((r4.1.1,((r4.1.2.1.1,(r4.1.2.1.2.1,())),())),())))) (let r5:=g159 ((r1.1.1,((r1.1.2.1.1,(r1.1.2.1.2.1,())),())),((r4.1.1,((r4.1.2.1.1,(r4.1.2.1.2.1,())),())),()));Tr.fin (((r5.1.1,((r5.1.2.1.1,(r5.1.2.1.2.1,())),())),()))) (Tr.stop)) (Tr.stop)) (Tr.stop)) (Tr.stop)) (Tr.stop)))
def f125(d:Tys.data as125):Option (Tys.data rs125):=(t125 d.1.1.1 d.1.1.2.1 d.1.2.1.1 d.1.2.1.2.1 d.2.1 d.2.2.1).val
def g125(d:Tys.data as125):Tys.data rs125:=(f125 d).getD (Tys.dflt rs125)
def p125:PureC:=pcOf as125 rs125 f125 g125
def ww2a:List Nat:=[4,2]
def ww2b:List Nat:=pk 5 7 16236016 ww2a
theorem wk125(x0_:(List Int))(x0_':List Int)(x0'_:Int)(x0'_':Int)(x1:Int)(x2:List (Int×(Int×Unit))):Walks (runPure (kf159 Proofs.Tryz.prog).orc Proofs.Tryz.prog 400 125 as125 rs125 (((x0_,x0_',()),(x0'_,x0'_',()),()),x1,x2,())) (t125 x0_ x0_' x0'_ x0'_' x1 x2) [(bl 2 3,ww2a),(bl 8 254,16::ww2b),(bl 7 124,ww2b)]:=
 ⟨by kernel_rfl,by kernel_rfl,by kernel_rfl,trivial⟩
theorem ok125:PureOk Proofs.Tryz.prog 125 p125:=qac kf159_ok.base (T:=fun(d:Tys.data as125)=>t125 d.1.1.1 d.1.1.2.1 d.1.2.1.1 d.1.2.1.2.1 d.2.1 d.2.2.1) (by kernel_rfl) (fun(d:Tys.data as125)=>wP (wk125 d.1.1.1 d.1.1.2.1 d.1.2.1.1 d.1.2.1.2.1 d.2.1 d.2.2.1) (by kernel_rfl))
def kf125(P:Go.Program):Known:=(kf159 P).func 125 p125
theorem kf125_ok:KnownOk Proofs.Tryz.prog (kf125 Proofs.Tryz.prog):=kf159_ok.func ok125
abbrev sh75_0_1:Sh:={ n:=25,slots:=[1,9,10,11],pats:=[.fn 124 [(0,4),(1,1)],.ty (.slice (.int .i64)),.ty (.int .i64),.ty (.int .i64)],boxes:=[.row [.ty (.slice (.int .i64)),.ty (.slice (.int .i64)),.ty (.int .i64),.ty (.int .i64)],.row [.ty (.slice (.pair (.int .i64) (.pair (.int .i64) .unit)))]] }
abbrev shb75_0_1:Sh:={ n:=25,slots:=[],pats:=[],boxes:=[.row [.ty (.slice (.int .i64)),.ty (.slice (.int .i64)),.ty (.int .i64),.ty (.int .i64)],.row [.ty (.slice (.pair (.int .i64) (.pair (.int .i64) .unit)))]] }
abbrev shr75_0_1:Sh:={ n:=25,slots:=[4,5],pats:=[.ty (.int .i64),.ty (.int .i64)],boxes:=[.row [.ty (.slice (.int .i64)),.ty (.slice (.int .i64)),.ty (.int .i64),.ty (.int .i64)],.row [.ty (.slice (.pair (.int .i64) (.pair (.int .i64) .unit)))]] }
def t75_0_1(x1:(List Int))(x2:Int)(x3:Int)(b0_0:List Int)(b0_1:List Int)(b0_2:Int)(b0_3:Int)(b1_0:List (Int×(Int×Unit))):Tr (Out sh75_0_1.data shb75_0_1.data shr75_0_1.data):= Tr.test ((!leF x2 x3:Bool)) (Tr.test (decide ((0:Int)≤x3)&&decide (x3<(↑(List.length x1):Int))) (Tr.test (Option.isSome (f125 (((b0_0,(b0_1,())),((b0_2,(b0_3,())),())),(x3,(b1_0,()))))) (Tr.test (Option.isSome (f125 (((b0_0,(b0_1,())),((b0_2,(b0_3,())),())),((wrap64 (x3+(1:Int)):Int),(b1_0,()))))) (let r0:=g125 (((b0_0,(b0_1,())),((b0_2,(b0_3,())),())),(x3,(b1_0,())));let r1:=g125 (((b0_0,(b0_1,())),((b0_2,(b0_3,())),())),((wrap64 (x3+(1:Int)):Int),(b1_0,())));Tr.test ((r0.1.2.1.1==r1.1.2.1.1&&(r0.1.2.1.2.1==r1.1.2.1.2.1&&true):Bool)) (Tr.test (Option.isSome (f60 ((!eqF (wrap64 (r0.1.1-r1.1.1)) (List.getD x1 (Int.toNat x3) (0:Int)):Bool),((19:Int),())))) (let r2:=g60 ((!eqF (wrap64 (r0.1.1-r1.1.1)) (List.getD x1 (Int.toNat x3) (0:Int)):Bool),((19:Int),()));Tr.test ((!eqF r2.1 0:Bool)) (Tr.fin (.ret ((x3,(r2.1,())),((b0_0,(b0_1,(b0_2,(b0_3,())))),((b1_0,()),()))))) (Tr.fin (.again ((x1,(x2,((wrap64 (x3+(1:Int)):Int),()))),((b0_0,(b0_1,(b0_2,(b0_3,())))),((b1_0,()),())))))) (Tr.stop)) (Tr.test (Option.isSome (f60 ((true:Bool),((19:Int),())))) (let r3:=g60 ((true:Bool),((19:Int),()));Tr.test ((!eqF r3.1 0:Bool)) (Tr.fin (.ret ((x3,(r3.1,())),((b0_0,(b0_1,(b0_2,(b0_3,())))),((b1_0,()),()))))) (Tr.fin (.again ((x1,(x2,((wrap64 (x3+(1:Int)):Int),()))),((b0_0,(b0_1,(b0_2,(b0_3,())))),((b1_0,()),())))))) (Tr.stop))) (Tr.stop)) (Tr.stop)) (Tr.stop)) (Tr.fin (.brk ((),((b0_0,(b0_1,(b0_2,(b0_3,())))),((b1_0,()),())))))
def s75_0_1(d:sh75_0_1.data):Option (Out sh75_0_1.data shb75_0_1.data shr75_0_1.data):=(t75_0_1 d.1.1 d.1.2.1 d.1.2.2.1 d.2.1.1 d.2.1.2.1 d.2.1.2.2.1 d.2.1.2.2.2.1 d.2.2.1.1).val
def l75_0_1(d:sh75_0_1.data):Option (shb75_0_1.data ⊕ shr75_0_1.data):=itr s75_0_1 rounds d
def b75_0_1(d:sh75_0_1.data):shb75_0_1.data:=outB shb75_0_1.dflt (l75_0_1 d)
def r75_0_1(d:sh75_0_1.data):shr75_0_1.data:=outR shr75_0_1.dflt (l75_0_1 d)
def lc75_0_1:LoopC:=lcOf sh75_0_1 shb75_0_1 shr75_0_1 l75_0_1 b75_0_1 r75_0_1
def ww2c:List Nat:=[2]
def ww2d:List Nat:=pk 13 7 0xf7be108421083df0 ww2c
theorem wk75_0_1(x1:(List Int))(x2:Int)(x3:Int)(b0_0:List Int)(b0_1:List Int)(b0_2:Int)(b0_3:Int)(b1_0:List (Int×(Int×Unit))):Walks (qar (kf125 Proofs.Tryz.prog).orc Proofs.Tryz.prog 400 75 0 sh75_0_1 shb75_0_1 shr75_0_1 ((x1,x2,x3,()),(b0_0,b0_1,b0_2,b0_3,()),(b1_0,()),())) (t75_0_1 x1 x2 x3 b0_0 b0_1 b0_2 b0_3 b1_0) [(bl 7 127,ww2d),(bl 7 63,ww2d),(bl 7 111,ww2d),(bl 7 47,ww2d),(bl 1 0,ww2c)]:=by
 repeat refine⟨by kernel_rfl,?_⟩
 exact trivial
theorem ok75_0_1:qau Proofs.Tryz.prog 75 0 lc75_0_1:=qaF (sh:=sh75_0_1) (shB:=shb75_0_1) (shR:=shr75_0_1) kf125_ok.base (T:=fun(d:sh75_0_1.data)=>t75_0_1 d.1.1 d.1.2.1 d.1.2.2.1 d.2.1.1 d.2.1.2.1 d.2.1.2.2.1 d.2.1.2.2.2.1 d.2.2.1.1) (by kernel_rfl) rfl (fun(d:sh75_0_1.data)=>wB (wk75_0_1 d.1.1 d.1.2.1 d.1.2.2.1 d.2.1.1 d.2.1.2.1 d.2.1.2.2.1 d.2.1.2.2.2.1 d.2.2.1.1) (by kernel_rfl)) (fun _=>rfl)
def kl75_0_1(P:Go.Program):Known:=(kf125 P).loop 75 0 lc75_0_1
theorem kl75_0_1_ok:KnownOk Proofs.Tryz.prog (kl75_0_1 Proofs.Tryz.prog):=kf125_ok.loop ok75_0_1
abbrev as90:List Ty:=[(.pair (.pair (.slice (.int .i64)) (.pair (.slice (.int .i64)) .unit)) (.pair (.pair (.int .i64) (.pair (.int .i64) .unit)) .unit)),(.slice (.pair (.int .i64) (.pair (.int .i64) .unit)))]
abbrev rs90:List Ty:=[(.int .i64),(.int .i64)]
def t90(x0_:(List Int))(x0_':List Int)(x0'_:Int)(x0'_':Int)(x1:List (Int×(Int×Unit))):Tr (Tys.data rs90):= Tr.test (Option.isSome (l75_0_1 ((x0_',((↑(List.length x0_'):Int),((0:Int),()))),((x0_,(x0_',(x0'_,(x0'_',())))),((x1,()),()))))) (Tr.test (qas (l75_0_1 ((x0_',((↑(List.length x0_'):Int),((0:Int),()))),((x0_,(x0_',(x0'_,(x0'_',())))),((x1,()),()))))) (let r0:=r75_0_1 ((x0_',((↑(List.length x0_'):Int),((0:Int),()))),((x0_,(x0_',(x0'_,(x0'_',())))),((x1,()),())));Tr.fin ((r0.1.1,(r0.1.2.1,())))) (Tr.fin (((0:Int),((0:Int),()))))) (Tr.stop)
def f90(d:Tys.data as90):Option (Tys.data rs90):=(t90 d.1.1.1 d.1.1.2.1 d.1.2.1.1 d.1.2.1.2.1 d.2.1).val
def g90(d:Tys.data as90):Tys.data rs90:=(f90 d).getD (Tys.dflt rs90)
def p90:PureC:=pcOf as90 rs90 f90 g90
def ww2e:List Nat:=[4,2]
theorem wk90(x0_:(List Int))(x0_':List Int)(x0'_:Int)(x0'_':Int)(x1:List (Int×(Int×Unit))):Walks (runPure (kl75_0_1 Proofs.Tryz.prog).orc Proofs.Tryz.prog 400 90 as90 rs90 (((x0_,x0_',()),(x0'_,x0'_',()),()),x1,())) (t90 x0_ x0_' x0'_ x0'_' x1) [(bl 2 3,ww2e),(bl 2 1,ww2e)]:=
 ⟨by kernel_rfl,by kernel_rfl,trivial⟩
theorem ok90:PureOk Proofs.Tryz.prog 90 p90:=qac kl75_0_1_ok.base (T:=fun(d:Tys.data as90)=>t90 d.1.1.1 d.1.1.2.1 d.1.2.1.1 d.1.2.1.2.1 d.2.1) (by kernel_rfl) (fun(d:Tys.data as90)=>wP (wk90 d.1.1.1 d.1.1.2.1 d.1.2.1.1 d.1.2.1.2.1 d.2.1) (by kernel_rfl))
def kf90(P:Go.Program):Known:=(kl75_0_1 P).func 90 p90
theorem kf90_ok:KnownOk Proofs.Tryz.prog (kf90 Proofs.Tryz.prog):=kl75_0_1_ok.func ok90
abbrev sh86_0_1:Sh:={ n:=25,slots:=[1,9,10,11],pats:=[.fn 88 [],.ty (.slice (.pair (.int .i64) (.pair (.int .i64) .unit))),.ty (.int .i64),.ty (.int .i64)],boxes:=[] }
abbrev shb86_0_1:Sh:={ n:=25,slots:=[],pats:=[],boxes:=[] }
abbrev shr86_0_1:Sh:={ n:=25,slots:=[4,5],pats:=[.ty (.int .i64),.ty (.int .i64)],boxes:=[] }
def t86_0_1(x1:(List (Int×(Int×Unit))))(x2:Int)(x3:Int):Tr (Out sh86_0_1.data shb86_0_1.data shr86_0_1.data):= Tr.test ((!leF x2 x3:Bool)) (Tr.test (decide ((0:Int)≤x3)&&decide (x3<(↑(List.length x1):Int))) (Tr.test (Option.isSome (f89 ((((List.getD x1 (Int.toNat x3) ((0:Int),(0:Int),())).1:Int),(((List.getD x1 (Int.toNat x3) ((0:Int),(0:Int),())).2.1:Int),())),()))) (let r0:=g89 ((((List.getD x1 (Int.toNat x3) ((0:Int),(0:Int),())).1:Int),(((List.getD x1 (Int.toNat x3) ((0:Int),(0:Int),())).2.1:Int),())),());Tr.test ((!eqF r0.1 0:Bool)) (Tr.fin (.ret ((x3,(r0.1,())),()))) (Tr.fin (.again ((x1,(x2,((wrap64 (x3+(1:Int)):Int),()))),())))) (Tr.stop)) (Tr.stop)) (Tr.fin (.brk ((),())))
def s86_0_1(d:sh86_0_1.data):Option (Out sh86_0_1.data shb86_0_1.data shr86_0_1.data):=(t86_0_1 d.1.1 d.1.2.1 d.1.2.2.1).val
def l86_0_1(d:sh86_0_1.data):Option (shb86_0_1.data ⊕ shr86_0_1.data):=itr s86_0_1 rounds d
def b86_0_1(d:sh86_0_1.data):shb86_0_1.data:=outB shb86_0_1.dflt (l86_0_1 d)
def r86_0_1(d:sh86_0_1.data):shr86_0_1.data:=outR shr86_0_1.dflt (l86_0_1 d)
def lc86_0_1:LoopC:=lcOf sh86_0_1 shb86_0_1 shr86_0_1 l86_0_1 b86_0_1 r86_0_1
def ww2f:List Nat:=[2]
def ww2g:List Nat:=8::6::4::ww2f
theorem wk86_0_1(x1:(List (Int×(Int×Unit))))(x2:Int)(x3:Int):Walks (qar (kf90 Proofs.Tryz.prog).orc Proofs.Tryz.prog 400 86 0 sh86_0_1 shb86_0_1 shr86_0_1 ((x1,x2,x3,()),())) (t86_0_1 x1 x2 x3) [(bl 4 15,ww2g),(bl 4 7,ww2g),(bl 1 0,ww2f)]:=
 ⟨by kernel_rfl,by kernel_rfl,by kernel_rfl,trivial⟩
theorem ok86_0_1:qau Proofs.Tryz.prog 86 0 lc86_0_1:=qaF (sh:=sh86_0_1) (shB:=shb86_0_1) (shR:=shr86_0_1) kf90_ok.base (T:=fun(d:sh86_0_1.data)=>t86_0_1 d.1.1 d.1.2.1 d.1.2.2.1) (by kernel_rfl) rfl (fun(d:sh86_0_1.data)=>wB (wk86_0_1 d.1.1 d.1.2.1 d.1.2.2.1) (by kernel_rfl)) (fun _=>rfl)
def kl86_0_1(P:Go.Program):Known:=(kf90 P).loop 86 0 lc86_0_1
theorem kl86_0_1_ok:KnownOk Proofs.Tryz.prog (kl86_0_1 Proofs.Tryz.prog):=kf90_ok.loop ok86_0_1
abbrev as24:List Ty:=[(.pair (.slice (.int .i64)) (.pair (.slice (.int .i64)) .unit)),(.int .i64),(.pair (.slice (.pair (.int .i64) (.pair (.int .i64) .unit))) (.pair (.slice (.pair (.int .i64) (.pair (.int .i64) .unit))) (.pair (.int .i64) .unit)))]
abbrev rs24:List Ty:=[(.int .i64),(.int .i64)]
def t24(x0:(List Int))(x0':List Int)(x1:Int)(x2:List (Int×(Int×Unit)))(x2':List (Int×(Int×Unit)))(x2'':Int):Tr (Tys.data rs24):= Tr.test (Option.isSome (f79 ((x0,(x0',())),()))) (let r0:=g79 ((x0,(x0',())),());Tr.test (Option.isSome (f82 (((r0.1.1.1,(r0.1.1.2.1,())),((r0.1.2.1.1,(r0.1.2.1.2.1,())),())),(x1,())))) (let r1:=g82 (((r0.1.1.1,(r0.1.1.2.1,())),((r0.1.2.1.1,(r0.1.2.1.2.1,())),())),(x1,()));Tr.test (Option.isSome (f64 (([r0.2.1,r1.1]:List Int),()))) (let r2:=g64 (([r0.2.1,r1.1]:List Int),());Tr.test ((!eqF r2.1 0:Bool)) (Tr.fin (((0:Int),(r2.1,())))) (Tr.test ((!eqF (↑(List.length x2):Int) (wrap64 (x1+(1:Int))):Bool)) (Tr.fin (((0:Int),((10:Int),())))) (Tr.test ((!eqF (↑(List.length x2'):Int) (wrap64 ((↑(List.length x0):Int)-wrap64 (x1+(1:Int)))):Bool)) (Tr.fin (((0:Int),((10:Int),())))) (Tr.test (Option.isSome (f87 (([x2,x2']:List (List (Int×Int×PUnit))),()))) (let r3:=g87 (([x2,x2']:List (List (Int×Int×PUnit))),());Tr.test (Option.isSome (l86_0_1 ((r3.1,((↑(List.length r3.1):Int),((0:Int),()))),()))) (Tr.test (qas (l86_0_1 ((r3.1,((↑(List.length r3.1):Int),((0:Int),()))),()))) (Tr.test (Option.isSome (f85 (((r0.1.1.1,(r0.1.1.2.1,())),((r0.1.2.1.1,(r0.1.2.1.2.1,())),())),((wrap64 (x1+(1:Int)):Int),())))) (let r5:=g85 (((r0.1.1.1,(r0.1.1.2.1,())),((r0.1.2.1.1,(r0.1.2.1.2.1,())),())),((wrap64 (x1+(1:Int)):Int),()));Tr.test (Option.isSome (f60 ((!eqF x2'' r5.1:Bool),((13:Int),())))) (let r4:=r86_0_1 ((r3.1,((↑(List.length r3.1):Int),((0:Int),()))),());let r6:=g60 ((!eqF x2'' r5.1:Bool),((13:Int),()));Tr.test (Option.isSome (f64 (([r4.1.2.1,r6.1]:List Int),()))) (let r7:=g64 (([r4.1.2.1,r6.1]:List Int),());Tr.test ((!eqF r7.1 0:Bool)) (Tr.fin ((r4.1.1,(r7.1,())))) (Tr.test (Option.isSome (f83 (((r0.1.1.1,(r0.1.1.2.1,())),((r0.1.2.1.1,(r0.1.2.1.2.1,())),())),(x1,())))) (let r8:=g83 (((r0.1.1.1,(r0.1.1.2.1,())),((r0.1.2.1.1,(r0.1.2.1.2.1,())),())),(x1,()));Tr.test (Option.isSome (f90 (((r8.1.1.1,(r8.1.1.2.1,())),((r8.1.2.1.1,(r8.1.2.1.2.1,())),())),(x2,())))) (let r9:=g90 (((r8.1.1.1,(r8.1.1.2.1,())),((r8.1.2.1.1,(r8.1.2.1.2.1,())),())),(x2,()));Tr.test ((!eqF r9.2.1 0:Bool)) (Tr.fin ((r9.1,(r9.2.1,())))) (Tr.test ((decide ((0:Int)≤x1)&&decide (x1<(↑(List.length x2):Int)):Bool)) (Tr.test (Option.isSome (f84 (((r0.1.1.1,(r0.1.1.2.1,())),((r0.1.2.1.1,(r0.1.2.1.2.1,())),())),(x1,((((List.getD x2 (Int.toNat x1) ((0:Int),(0:Int),())).1:Int),(((List.getD x2 (Int.toNat x1) ((0:Int),(0:Int),())).2.1:Int),())),()))))) (let r10:=g84 (((r0.1.1.1,(r0.1.1.2.1,())),((r0.1.2.1.1,(r0.1.2.1.2.1,())),())),(x1,((((List.getD x2 (Int.toNat x1) ((0:Int),(0:Int),())).1:Int),(((List.getD x2 (Int.toNat x1) ((0:Int),(0:Int),())).2.1:Int),())),())));Tr.test (Option.isSome (f90 (((r10.1.1.1,(r10.1.1.2.1,())),((r10.1.2.1.1,(r10.1.2.1.2.1,())),())),(x2',())))) (let r11:=g90 (((r10.1.1.1,(r10.1.1.2.1,())),((r10.1.2.1.1,(r10.1.2.1.2.1,())),())),(x2',()));Tr.test ((!eqF r11.2.1 0:Bool)) (Tr.fin (((wrap64 (wrap64 (x1+(1:Int))+r11.1):Int),(r11.2.1,())))) (Tr.fin (((0:Int),((0:Int),()))))) (Tr.stop)) (Tr.stop)) (Tr.stop))) (Tr.stop)) (Tr.stop))) (Tr.stop)) (Tr.stop)) (Tr.stop)) (Tr.test (Option.isSome (f85 (((r0.1.1.1,(r0.1.1.2.1,())),((r0.1.2.1.1,(r0.1.2.1.2.1,())),())),((wrap64 (x1+(1:Int)):Int),())))) (let r5:=g85 (((r0.1.1.1,(r0.1.1.2.1,())),((r0.1.2.1.1,(r0.1.2.1.2.1,())),())),((wrap64 (x1+(1:Int)):Int),()));Tr.test (Option.isSome (f60 ((!eqF x2'' r5.1:Bool),((13:Int),())))) (let r6:=g60 ((!eqF x2'' r5.1:Bool),((13:Int),()));Tr.test (Option.isSome (f64 (([(0:Int),r6.1]:List Int),()))) (let r12:=g64 (([(0:Int),r6.1]:List Int),());Tr.test ((!eqF r12.1 0:Bool)) (Tr.fin (((0:Int),(r12.1,())))) (Tr.test (Option.isSome (f83 (((r0.1.1.1,(r0.1.1.2.1,())),((r0.1.2.1.1,(r0.1.2.1.2.1,())),())),(x1,())))) (let r8:=g83 (((r0.1.1.1,(r0.1.1.2.1,())),((r0.1.2.1.1,(r0.1.2.1.2.1,())),())),(x1,()));Tr.test (Option.isSome (f90 (((r8.1.1.1,(r8.1.1.2.1,())),((r8.1.2.1.1,(r8.1.2.1.2.1,())),())),(x2,())))) (let r9:=g90 (((r8.1.1.1,(r8.1.1.2.1,())),((r8.1.2.1.1,(r8.1.2.1.2.1,())),())),(x2,()));Tr.test ((!eqF r9.2.1 0:Bool)) (Tr.fin ((r9.1,(r9.2.1,())))) (Tr.test ((decide ((0:Int)≤x1)&&decide (x1<(↑(List.length x2):Int)):Bool)) (Tr.test (Option.isSome (f84 (((r0.1.1.1,(r0.1.1.2.1,())),((r0.1.2.1.1,(r0.1.2.1.2.1,())),())),(x1,((((List.getD x2 (Int.toNat x1) ((0:Int),(0:Int),())).1:Int),(((List.getD x2 (Int.toNat x1) ((0:Int),(0:Int),())).2.1:Int),())),()))))) (let r10:=g84 (((r0.1.1.1,(r0.1.1.2.1,())),((r0.1.2.1.1,(r0.1.2.1.2.1,())),())),(x1,((((List.getD x2 (Int.toNat x1) ((0:Int),(0:Int),())).1:Int),(((List.getD x2 (Int.toNat x1) ((0:Int),(0:Int),())).2.1:Int),())),())));Tr.test (Option.isSome (f90 (((r10.1.1.1,(r10.1.1.2.1,())),((r10.1.2.1.1,(r10.1.2.1.2.1,())),())),(x2',())))) (let r11:=g90 (((r10.1.1.1,(r10.1.1.2.1,())),((r10.1.2.1.1,(r10.1.2.1.2.1,())),())),(x2',()));Tr.test ((!eqF r11.2.1 0:Bool)) (Tr.fin (((wrap64 (wrap64 (x1+(1:Int))+r11.1):Int),(r11.2.1,())))) (Tr.fin (((0:Int),((0:Int),()))))) (Tr.stop)) (Tr.stop)) (Tr.stop))) (Tr.stop)) (Tr.stop))) (Tr.stop)) (Tr.stop)) (Tr.stop))) (Tr.stop)) (Tr.stop))))) (Tr.stop)) (Tr.stop)) (Tr.stop)
def f24(d:Tys.data as24):Option (Tys.data rs24):=(t24 d.1.1 d.1.2.1 d.2.1 d.2.2.1.1 d.2.2.1.2.1 d.2.2.1.2.2.1).val
def g24(d:Tys.data as24):Tys.data rs24:=(f24 d).getD (Tys.dflt rs24)
def p24:PureC:=pcOf as24 rs24 f24 g24
def ww2h:List Nat:=[8,6,4,2]
def ww2i:List Nat:=pk 10 5 581109629338128 ww2h
def ww2j:List Nat:=12::ww2i
def ww2k:List Nat:=pk 7 13 16625679856 ww2j
def ww2l:List Nat:=32::30::28::ww2k
def ww2m:List Nat:=pk 4 20 507376 ww2l
theorem wk24(x0:(List Int))(x0':List Int)(x1:Int)(x2:List (Int×(Int×Unit)))(x2':List (Int×(Int×Unit)))(x2'':Int):Walks (runPure (kl86_0_1 Proofs.Tryz.prog).orc Proofs.Tryz.prog 400 24 as24 rs24 ((x0,x0',()),x1,(x2,x2',x2'',()),())) (t24 x0 x0' x1 x2 x2' x2'') [(bl 4 15,ww2h),(bl 5 23,1::ww2i),(bl 6 39,ww2j),(bl 13 8135,ww2k),(bl 16 61383,ww2l),(bl 20 1011655,ww2m),(bl 20 487367,ww2m),(bl 13 7879,ww2k),(bl 16 61127,ww2l),(bl 20 1011399,ww2m),(bl 20 487111,ww2m)]:=by
 repeat refine⟨by kernel_rfl,?_⟩
 exact trivial
theorem ok24:PureOk Proofs.Tryz.prog 24 p24:=qac kl86_0_1_ok.base (T:=fun(d:Tys.data as24)=>t24 d.1.1 d.1.2.1 d.2.1 d.2.2.1.1 d.2.2.1.2.1 d.2.2.1.2.2.1) (by kernel_rfl) (fun(d:Tys.data as24)=>wP (wk24 d.1.1 d.1.2.1 d.2.1 d.2.2.1.1 d.2.2.1.2.1 d.2.2.1.2.2.1) (by kernel_rfl))
def kf24(P:Go.Program):Known:=(kl86_0_1 P).func 24 p24
theorem kf24_ok:KnownOk Proofs.Tryz.prog (kf24 Proofs.Tryz.prog):=kl86_0_1_ok.func ok24
abbrev as41:List Ty:=[(.int .i64),(.int .i64)]
abbrev rs41:List Ty:=[(.pair (.int .i64) (.pair (.int .i64) .unit))]
def t41(x0:Int)(x1:Int):Tr (Tys.data rs41):= Tr.test (Option.isSome (f91 (x0,(x1,())))) (Tr.test (!leF (0:Int) x1) (let r0:=g91 (x0,(x1,()));Tr.test ((Go.IntKind.wrap Go.IntKind.i64 ((0:Int)-r0.1)==(0:Int):Bool)) (Tr.stop) (Tr.fin ((((Go.IntKind.wrap Go.IntKind.i64 (Int.tdiv x0 (Go.IntKind.wrap Go.IntKind.i64 ((0:Int)-r0.1))):Int),((Go.IntKind.wrap Go.IntKind.i64 (Int.tdiv x1 (Go.IntKind.wrap Go.IntKind.i64 ((0:Int)-r0.1))):Int),())),())))) (let r0:=g91 (x0,(x1,()));Tr.test ((r0.1==(0:Int):Bool)) (Tr.stop) (Tr.fin ((((Go.IntKind.wrap Go.IntKind.i64 (Int.tdiv x0 r0.1):Int),((Go.IntKind.wrap Go.IntKind.i64 (Int.tdiv x1 r0.1):Int),())),()))))) (Tr.stop)
def f41(d:Tys.data as41):Option (Tys.data rs41):=(t41 d.1 d.2.1).val
def g41(d:Tys.data as41):Tys.data rs41:=(f41 d).getD (Tys.dflt rs41)
def p41:PureC:=pcOf as41 rs41 f41 g41
def ww2n:List Nat:=[6,6,4,2]
theorem wk41(x0:Int)(x1:Int):Walks (runPure (kf24 Proofs.Tryz.prog).orc Proofs.Tryz.prog 400 41 as41 rs41 (x0,x1,())) (t41 x0 x1) [(bl 3 3,ww2n),(bl 3 1,ww2n)]:=
 ⟨by kernel_rfl,by kernel_rfl,trivial⟩
theorem ok41:PureOk Proofs.Tryz.prog 41 p41:=qac kf24_ok.base (T:=fun(d:Tys.data as41)=>t41 d.1 d.2.1) (by kernel_rfl) (fun(d:Tys.data as41)=>wP (wk41 d.1 d.2.1) (by kernel_rfl))
def kf41(P:Go.Program):Known:=(kf24 P).func 41 p41
theorem kf41_ok:KnownOk Proofs.Tryz.prog (kf41 Proofs.Tryz.prog):=kf24_ok.func ok41
abbrev sh161_0:Sh:={ n:=21,slots:=[0,3],pats:=[.ty (.slice (.int .i64)),.ty (.int .i64)],boxes:=[] }
abbrev shb161_0:Sh:={ n:=21,slots:=[0,3],pats:=[.ty (.slice (.int .i64)),.ty (.int .i64)],boxes:=[] }
abbrev shr161_0:Sh:={ n:=21,slots:=[],pats:=[],boxes:=[] }
def t161_0(x0:(List Int))(x1:Int):Tr (Out sh161_0.data shb161_0.data shr161_0.data):= Tr.test ((!leF x1 0:Bool)) (Tr.test (decide ((0:Int)≤wrap64 (x1-(1:Int)))&&decide (wrap64 (x1-(1:Int))<(↑(List.length x0):Int))) (Tr.test ((eqF (List.getD x0 (Int.toNat (wrap64 (x1-(1:Int)))) (0:Int)) (0:Int):Bool)) (Tr.fin (.again ((x0,((wrap64 (x1-(1:Int)):Int),())),()))) (Tr.fin (.brk ((x0,(x1,())),())))) (Tr.stop)) (Tr.fin (.brk ((x0,(x1,())),())))
def s161_0(d:sh161_0.data):Option (Out sh161_0.data shb161_0.data shr161_0.data):=(t161_0 d.1.1 d.1.2.1).val
def l161_0(d:sh161_0.data):Option (shb161_0.data ⊕ shr161_0.data):=itr s161_0 rounds d
def b161_0(d:sh161_0.data):shb161_0.data:=outB shb161_0.dflt (l161_0 d)
def lc161_0:LoopC:=lcB sh161_0 shb161_0 shr161_0 l161_0 b161_0
def ww2o:List Nat:=[2,2,2,2]
def ww2p:List Nat:=6::2::2::2::4::ww2o
theorem wk161_0(x0:(List Int))(x1:Int):Walks (qar (kf41 Proofs.Tryz.prog).orc Proofs.Tryz.prog 400 161 0 sh161_0 shb161_0 shr161_0 ((x0,x1,()),())) (t161_0 x0 x1) [(bl 3 7,ww2p),(bl 3 3,ww2p),(bl 1 0,0::2::2::2::ww2o)]:=
 ⟨by kernel_rfl,by kernel_rfl,by kernel_rfl,trivial⟩
theorem ok161_0:qau Proofs.Tryz.prog 161 0 lc161_0:=qaC (sh:=sh161_0) (shB:=shb161_0) (shR:=shr161_0) kf41_ok.base (T:=fun(d:sh161_0.data)=>t161_0 d.1.1 d.1.2.1) (by kernel_rfl) rfl (fun(d:sh161_0.data)=>wB (wk161_0 d.1.1 d.1.2.1) (by kernel_rfl)) (fun _=>rfl)
def kl161_0(P:Go.Program):Known:=(kf41 P).loop 161 0 lc161_0
theorem kl161_0_ok:KnownOk Proofs.Tryz.prog (kl161_0 Proofs.Tryz.prog):=kf41_ok.loop ok161_0
abbrev as161:List Ty:=[(.slice (.int .i64))]
abbrev rs161:List Ty:=[(.slice (.int .i64))]
def t161(x0:(List Int)):Tr (Tys.data rs161):= Tr.test (qax (l161_0 ((x0,((↑(List.length x0):Int),())),()))) (let r0:=b161_0 ((x0,((↑(List.length x0):Int),())),());Tr.test ((decide ((0:Int)≤r0.1.2.1)&&decide (r0.1.2.1≤(↑(List.length r0.1.1):Int)):Bool)) (Tr.fin (((List.take (Int.toNat r0.1.2.1) r0.1.1:List Int),()))) (Tr.stop)) (Tr.stop)
def f161(d:Tys.data as161):Option (Tys.data rs161):=(t161 d.1).val
def g161(d:Tys.data as161):Tys.data rs161:=(f161 d).getD (Tys.dflt rs161)
def p161:PureC:=pcOf as161 rs161 f161 g161
theorem wk161(x0:(List Int)):Walks (runPure (kl161_0 Proofs.Tryz.prog).orc Proofs.Tryz.prog 400 161 as161 rs161 (x0,())) (t161 x0) [(bl 2 3,[4,1,2])]:=
 ⟨by kernel_rfl,trivial⟩
theorem ok161:PureOk Proofs.Tryz.prog 161 p161:=qac kl161_0_ok.base (T:=fun(d:Tys.data as161)=>t161 d.1) (by kernel_rfl) (fun(d:Tys.data as161)=>wP (wk161 d.1) (by kernel_rfl))
def kf161(P:Go.Program):Known:=(kl161_0 P).func 161 p161
theorem kf161_ok:KnownOk Proofs.Tryz.prog (kf161 Proofs.Tryz.prog):=kl161_0_ok.func ok161
abbrev as130:List Ty:=[(.int .i64),(.slice (.int .i64))]
abbrev rs130:List Ty:=[(.pair (.int .i64) (.pair (.slice (.int .i64)) .unit))]
def t130(x0:Int)(x1:List Int):Tr (Tys.data rs130):= Tr.test (Option.isSome (f161 (x1,()))) (let r0:=g161 (x1,());Tr.test ((eqF (↑(List.length r0.1):Int) (0:Int):Bool)) (Tr.fin ((((0:Int),(r0.1,())),()))) (Tr.fin (((x0,(r0.1,())),())))) (Tr.stop)
def f130(d:Tys.data as130):Option (Tys.data rs130):=(t130 d.1 d.2.1).val
def g130(d:Tys.data as130):Tys.data rs130:=(f130 d).getD (Tys.dflt rs130)
def p130:PureC:=pcOf as130 rs130 f130 g130
def ww2q:List Nat:=[4,2]
theorem wk130(x0:Int)(x1:List Int):Walks (runPure (kf161 Proofs.Tryz.prog).orc Proofs.Tryz.prog 400 130 as130 rs130 (x0,x1,())) (t130 x0 x1) [(bl 2 3,ww2q),(bl 2 1,ww2q)]:=
 ⟨by kernel_rfl,by kernel_rfl,trivial⟩
theorem ok130:PureOk Proofs.Tryz.prog 130 p130:=qac kf161_ok.base (T:=fun(d:Tys.data as130)=>t130 d.1 d.2.1) (by kernel_rfl) (fun(d:Tys.data as130)=>wP (wk130 d.1 d.2.1) (by kernel_rfl))
def kf130(P:Go.Program):Known:=(kf161 P).func 130 p130
theorem kf130_ok:KnownOk Proofs.Tryz.prog (kf130 Proofs.Tryz.prog):=kf161_ok.func ok130
abbrev sh126_0:Sh:={ n:=20,slots:=[0,2,3,4],pats:=[.ty (.int .i64),.ptr 0 2 0,.ty (.int .i64),.aco (.int .i64)],boxes:=[.row [.ty (.int .i64),.nil]] }
abbrev shb126_0:Sh:={ n:=20,slots:=[2,3,4],pats:=[.ptr 0 2 0,.ty (.int .i64),.aco (.int .i64)],boxes:=[.row [.ty (.int .i64),.nil]] }
abbrev shr126_0:Sh:={ n:=20,slots:=[],pats:=[],boxes:=[.row [.ty (.int .i64),.nil]] }
def t126_0(x0:Int)(x2:Int)(x3:List Int)(b0_0:Int):Tr (Out sh126_0.data shb126_0.data shr126_0.data):= Tr.test ((!eqF x0 0:Bool)) (Tr.test (Option.isSome (f46 ((Int.tmod x0 (1000000000:Int):Int),()))) (Tr.test ((Nat.ble (((2:Nat)*(List.length x3+(1:Nat))+(192:Nat))*(8:Nat)) (281474976710656:Nat)&&Nat.ble (List.length x3+(1:Nat)) (281474976710656:Nat):Bool)) (let r0:=g46 ((Int.tmod x0 (1000000000:Int):Int),());Tr.fin (.again (((Go.IntKind.wrap Go.IntKind.i64 (Int.tdiv x0 (1000000000:Int)):Int),(x2,((x3++[r0.1]:List Int),()))),((b0_0,()),())))) (Tr.stop)) (Tr.stop)) (Tr.fin (.brk ((x2,(x3,())),((b0_0,()),()))))
def s126_0(d:sh126_0.data):Option (Out sh126_0.data shb126_0.data shr126_0.data):=(t126_0 d.1.1 d.1.2.1 d.1.2.2.1 d.2.1.1).val
def l126_0(d:sh126_0.data):Option (shb126_0.data ⊕ shr126_0.data):=itr s126_0 rounds d
def b126_0(d:sh126_0.data):shb126_0.data:=outB shb126_0.dflt (l126_0 d)
def lc126_0:LoopC:=lcB sh126_0 shb126_0 shr126_0 l126_0 b126_0
def ww2r:List Nat:=[2]
theorem wk126_0(x0:Int)(x2:Int)(x3:List Int)(b0_0:Int):Walks (qar (kf130 Proofs.Tryz.prog).orc Proofs.Tryz.prog 400 126 0 sh126_0 shb126_0 shr126_0 ((x0,x2,x3,()),(b0_0,()),())) (t126_0 x0 x2 x3 b0_0) [(bl 3 7,0::6::4::0::ww2r),(bl 1 0,ww2r)]:=
 ⟨by kernel_rfl,by kernel_rfl,trivial⟩
theorem ok126_0:qau Proofs.Tryz.prog 126 0 lc126_0:=qaC (sh:=sh126_0) (shB:=shb126_0) (shR:=shr126_0) kf130_ok.base (T:=fun(d:sh126_0.data)=>t126_0 d.1.1 d.1.2.1 d.1.2.2.1 d.2.1.1) (by kernel_rfl) rfl (fun(d:sh126_0.data)=>wB (wk126_0 d.1.1 d.1.2.1 d.1.2.2.1 d.2.1.1) (by kernel_rfl)) (fun _=>rfl)
def kl126_0(P:Go.Program):Known:=(kf130 P).loop 126 0 lc126_0
theorem kl126_0_ok:KnownOk Proofs.Tryz.prog (kl126_0 Proofs.Tryz.prog):=kf130_ok.loop ok126_0
abbrev as126:List Ty:=[(.int .i64)]
abbrev rs126:List Ty:=[(.pair (.int .i64) (.pair (.slice (.int .i64)) .unit))]
def t126(x0:Int):Tr (Tys.data rs126):= Tr.test ((!leF (0:Int) x0:Bool)) (Tr.test (qax (l126_0 ((x0,((-1:Int),(([]:List Int),()))),(((0:Int),()),())))) (let r0:=b126_0 ((x0,((-1:Int),(([]:List Int),()))),(((0:Int),()),()));Tr.test (Option.isSome (f130 (r0.1.1,(r0.1.2.1,())))) (let r1:=g130 (r0.1.1,(r0.1.2.1,()));Tr.fin (((r1.1.1,(r1.1.2.1,())),()))) (Tr.stop)) (Tr.stop)) (Tr.test (qax (l126_0 ((x0,((1:Int),(([]:List Int),()))),(((0:Int),()),())))) (let r2:=b126_0 ((x0,((1:Int),(([]:List Int),()))),(((0:Int),()),()));Tr.test (Option.isSome (f130 (r2.1.1,(r2.1.2.1,())))) (let r3:=g130 (r2.1.1,(r2.1.2.1,()));Tr.fin (((r3.1.1,(r3.1.2.1,())),()))) (Tr.stop)) (Tr.stop))
def f126(d:Tys.data as126):Option (Tys.data rs126):=(t126 d.1).val
def g126(d:Tys.data as126):Tys.data rs126:=(f126 d).getD (Tys.dflt rs126)
def p126:PureC:=pcOf as126 rs126 f126 g126
def ww2s:List Nat:=[6,1,4,2]
theorem wk126(x0:Int):Walks (runPure (kl126_0 Proofs.Tryz.prog).orc Proofs.Tryz.prog 400 126 as126 rs126 (x0,())) (t126 x0) [(bl 3 7,ww2s),(bl 3 6,ww2s)]:=
 ⟨by kernel_rfl,by kernel_rfl,trivial⟩
theorem ok126:PureOk Proofs.Tryz.prog 126 p126:=qac kl126_0_ok.base (T:=fun(d:Tys.data as126)=>t126 d.1) (by kernel_rfl) (fun(d:Tys.data as126)=>wP (wk126 d.1) (by kernel_rfl))
def kf126(P:Go.Program):Known:=(kl126_0 P).func 126 p126
theorem kf126_ok:KnownOk Proofs.Tryz.prog (kf126 Proofs.Tryz.prog):=kl126_0_ok.func ok126
abbrev as131:List Ty:=[(.pair (.int .i64) (.pair (.slice (.int .i64)) .unit))]
abbrev rs131:List Ty:=[(.int .i64)]
def t131(x0:Int)(x0':List Int):Tr (Tys.data rs131):= Tr.fin ((x0,()))
def f131(d:Tys.data as131):Option (Tys.data rs131):=(t131 d.1.1 d.1.2.1).val
def g131(d:Tys.data as131):Tys.data rs131:=(f131 d).getD (Tys.dflt rs131)
def p131:PureC:=pcOf as131 rs131 f131 g131
theorem wk131(x0:Int)(x0':List Int):Walks (runPure (kf126 Proofs.Tryz.prog).orc Proofs.Tryz.prog 400 131 as131 rs131 ((x0,x0',()),())) (t131 x0 x0') [(bl 0 0,[])]:=
 ⟨by kernel_rfl,trivial⟩
theorem ok131:PureOk Proofs.Tryz.prog 131 p131:=qac kf126_ok.base (T:=fun(d:Tys.data as131)=>t131 d.1.1 d.1.2.1) (by kernel_rfl) (fun(d:Tys.data as131)=>wP (wk131 d.1.1 d.1.2.1) (by kernel_rfl))
def kf131(P:Go.Program):Known:=(kf126 P).func 131 p131
theorem kf131_ok:KnownOk Proofs.Tryz.prog (kf131 Proofs.Tryz.prog):=kf126_ok.func ok131
abbrev as132:List Ty:=[(.pair (.int .i64) (.pair (.slice (.int .i64)) .unit))]
abbrev rs132:List Ty:=[(.pair (.int .i64) (.pair (.slice (.int .i64)) .unit))]
def t132(x0:Int)(x0':List Int):Tr (Tys.data rs132):= Tr.fin ((((Go.IntKind.wrap Go.IntKind.i64 ((0:Int)-x0):Int),(x0',())),()))
def f132(d:Tys.data as132):Option (Tys.data rs132):=(t132 d.1.1 d.1.2.1).val
def g132(d:Tys.data as132):Tys.data rs132:=(f132 d).getD (Tys.dflt rs132)
def p132:PureC:=pcOf as132 rs132 f132 g132
theorem wk132(x0:Int)(x0':List Int):Walks (runPure (kf131 Proofs.Tryz.prog).orc Proofs.Tryz.prog 400 132 as132 rs132 ((x0,x0',()),())) (t132 x0 x0') [(bl 0 0,[])]:=
 ⟨by kernel_rfl,trivial⟩
theorem ok132:PureOk Proofs.Tryz.prog 132 p132:=qac kf131_ok.base (T:=fun(d:Tys.data as132)=>t132 d.1.1 d.1.2.1) (by kernel_rfl) (fun(d:Tys.data as132)=>wP (wk132 d.1.1 d.1.2.1) (by kernel_rfl))
def kf132(P:Go.Program):Known:=(kf131 P).func 132 p132
theorem kf132_ok:KnownOk Proofs.Tryz.prog (kf132 Proofs.Tryz.prog):=kf131_ok.func ok132
abbrev as162:List Ty:=[(.pair (.int .i64) (.pair (.slice (.int .i64)) .unit))]
abbrev rs162:List Ty:=[(.pair (.int .i64) (.pair (.slice (.int .i64)) .unit))]
def t162(x0:Int)(x0':List Int):Tr (Tys.data rs162):= Tr.test ((!leF (0:Int) x0:Bool)) (Tr.test (Option.isSome (f132 ((x0,(x0',())),()))) (let r0:=g132 ((x0,(x0',())),());Tr.fin (((r0.1.1,(r0.1.2.1,())),()))) (Tr.stop)) (Tr.fin (((x0,(x0',())),())))
def f162(d:Tys.data as162):Option (Tys.data rs162):=(t162 d.1.1 d.1.2.1).val
def g162(d:Tys.data as162):Tys.data rs162:=(f162 d).getD (Tys.dflt rs162)
def p162:PureC:=pcOf as162 rs162 f162 g162
def ww2t:List Nat:=[2]
theorem wk162(x0:Int)(x0':List Int):Walks (runPure (kf132 Proofs.Tryz.prog).orc Proofs.Tryz.prog 400 162 as162 rs162 ((x0,x0',()),())) (t162 x0 x0') [(bl 2 3,4::ww2t),(bl 1 0,ww2t)]:=
 ⟨by kernel_rfl,by kernel_rfl,trivial⟩
theorem ok162:PureOk Proofs.Tryz.prog 162 p162:=qac kf132_ok.base (T:=fun(d:Tys.data as162)=>t162 d.1.1 d.1.2.1) (by kernel_rfl) (fun(d:Tys.data as162)=>wP (wk162 d.1.1 d.1.2.1) (by kernel_rfl))
def kf162(P:Go.Program):Known:=(kf132 P).func 162 p162
theorem kf162_ok:KnownOk Proofs.Tryz.prog (kf162 Proofs.Tryz.prog):=kf132_ok.func ok162
abbrev sh98_2:Sh:={ n:=86,slots:=[2,3,4,5,6,7,8],pats:=[.ptr 0 2 0,.ptr 1 2 0,.ptr 2 2 0,.sli 3 1,.ty (.int .i64),.ty (.int .i64),.ty (.int .i64)],boxes:=[.row [.ty (.int .i64),.ty (.slice (.int .i64))],.row [.ty (.int .i64),.ty (.slice (.int .i64))],.row [.ty (.int .i64),.nil],.arr (.int .i64)] }
abbrev shb98_2:Sh:={ n:=86,slots:=[2,3,4,5,6,7],pats:=[.ptr 0 2 0,.ptr 1 2 0,.ptr 2 2 0,.sli 3 1,.ty (.int .i64),.ty (.int .i64)],boxes:=[.row [.ty (.int .i64),.ty (.slice (.int .i64))],.row [.ty (.int .i64),.ty (.slice (.int .i64))],.row [.ty (.int .i64),.nil],.arr (.int .i64)] }
abbrev shr98_2:Sh:={ n:=86,slots:=[],pats:=[],boxes:=[.row [.ty (.int .i64),.ty (.slice (.int .i64))],.row [.ty (.int .i64),.ty (.slice (.int .i64))],.row [.ty (.int .i64),.nil],.arr (.int .i64)] }
def t98_2(x3n:Nat)(x3c:Nat)(x4:Int)(x5:Int)(x6:Int)(b0_0:Int)(b0_1:List Int)(b1_0:Int)(b1_1:List Int)(b2_0:Int)(b3:List Int):Tr (Out sh98_2.data shb98_2.data shr98_2.data):= Tr.test ((!leF (↑(List.length b1_1):Int) x6:Bool)) (Tr.test (decide ((0:Int)≤wrap64 (x4+x6))&&decide (wrap64 (x4+x6)<(↑x3n:Int))) (Tr.test ((Nat.ble ((0:Nat)+Int.toNat (wrap64 (x4+x6))+(1:Nat)) (List.length b3):Bool)) (Tr.test ((decide ((0:Int)≤x4)&&decide (x4<(↑(List.length b0_1):Int)):Bool)) (Tr.test ((decide ((0:Int)≤x6)&&decide (x6<(↑(List.length b1_1):Int)):Bool)) (Tr.fin (.again (((x3n,x3c),(x4,((Go.IntKind.wrap Go.IntKind.i64 (Int.tdiv (wrap64 (wrap64 (List.getD b3 ((0:Nat)+Int.toNat (wrap64 (x4+x6))) (0:Int)+wrap64 (List.getD b0_1 (Int.toNat x4) (0:Int)*List.getD b1_1 (Int.toNat x6) (0:Int)))+x5)) (1000000000:Int)):Int),((wrap64 (x6+(1:Int)):Int),())))),((b0_0,(b0_1,())),((b1_0,(b1_1,())),((b2_0,()),((List.set b3 ((0:Nat)+Int.toNat (wrap64 (x4+x6))) (Int.tmod (wrap64 (wrap64 (List.getD b3 ((0:Nat)+Int.toNat (wrap64 (x4+x6))) (0:Int)+wrap64 (List.getD b0_1 (Int.toNat x4) (0:Int)*List.getD b1_1 (Int.toNat x6) (0:Int)))+x5)) (1000000000:Int)):List Int),()))))))) (Tr.stop)) (Tr.stop)) (Tr.stop)) (Tr.stop)) (Tr.fin (.brk (((x3n,x3c),(x4,(x5,()))),((b0_0,(b0_1,())),((b1_0,(b1_1,())),((b2_0,()),(b3,())))))))
def s98_2(d:sh98_2.data):Option (Out sh98_2.data shb98_2.data shr98_2.data):=(t98_2 d.1.1.1 d.1.1.2 d.1.2.1 d.1.2.2.1 d.1.2.2.2.1 d.2.1.1 d.2.1.2.1 d.2.2.1.1 d.2.2.1.2.1 d.2.2.2.1.1 d.2.2.2.2.1).val
def l98_2(d:sh98_2.data):Option (shb98_2.data ⊕ shr98_2.data):=itr s98_2 rounds d
def b98_2(d:sh98_2.data):shb98_2.data:=outB shb98_2.dflt (l98_2 d)
def lc98_2:LoopC:=lcB sh98_2 shb98_2 shr98_2 l98_2 b98_2
def ww2u:List Nat:=[2]
theorem wk98_2(x3n:Nat)(x3c:Nat)(x4:Int)(x5:Int)(x6:Int)(b0_0:Int)(b0_1:List Int)(b1_0:Int)(b1_1:List Int)(b2_0:Int)(b3:List Int):Walks (qar (kf162 Proofs.Tryz.prog).orc Proofs.Tryz.prog 400 98 2 sh98_2 shb98_2 shr98_2 (((x3n,x3c),x4,x5,x6,()),(b0_0,b0_1,()),(b1_0,b1_1,()),(b2_0,()),b3,())) (t98_2 x3n x3c x4 x5 x6 b0_0 b0_1 b1_0 b1_1 b2_0 b3) [(bl 5 31,pk 8 3 532025442800 ww2u),(bl 1 0,ww2u)]:=
 ⟨by kernel_rfl,by kernel_rfl,trivial⟩
theorem ok98_2:qau Proofs.Tryz.prog 98 2 lc98_2:=qaC (sh:=sh98_2) (shB:=shb98_2) (shR:=shr98_2) kf162_ok.base (T:=fun(d:sh98_2.data)=>t98_2 d.1.1.1 d.1.1.2 d.1.2.1 d.1.2.2.1 d.1.2.2.2.1 d.2.1.1 d.2.1.2.1 d.2.2.1.1 d.2.2.1.2.1 d.2.2.2.1.1 d.2.2.2.2.1) (by kernel_rfl) rfl (fun(d:sh98_2.data)=>wB (wk98_2 d.1.1.1 d.1.1.2 d.1.2.1 d.1.2.2.1 d.1.2.2.2.1 d.2.1.1 d.2.1.2.1 d.2.2.1.1 d.2.2.1.2.1 d.2.2.2.1.1 d.2.2.2.2.1) (by kernel_rfl)) (fun _=>rfl)
def kl98_2(P:Go.Program):Known:=(kf162 P).loop 98 2 lc98_2
theorem kl98_2_ok:KnownOk Proofs.Tryz.prog (kl98_2 Proofs.Tryz.prog):=kf162_ok.loop ok98_2
abbrev sh98_0:Sh:={ n:=86,slots:=[2,3,4,5,6],pats:=[.ptr 0 2 0,.ptr 1 2 0,.ptr 2 2 0,.sli 3 1,.ty (.int .i64)],boxes:=[.row [.ty (.int .i64),.ty (.slice (.int .i64))],.row [.ty (.int .i64),.ty (.slice (.int .i64))],.row [.ty (.int .i64),.nil],.arr (.int .i64)] }
abbrev shb98_0:Sh:={ n:=86,slots:=[2,3,4,5],pats:=[.ptr 0 2 0,.ptr 1 2 0,.ptr 2 2 0,.sli 3 1],boxes:=[.row [.ty (.int .i64),.ty (.slice (.int .i64))],.row [.ty (.int .i64),.ty (.slice (.int .i64))],.row [.ty (.int .i64),.nil],.arr (.int .i64)] }
abbrev shr98_0:Sh:={ n:=86,slots:=[],pats:=[],boxes:=[.row [.ty (.int .i64),.ty (.slice (.int .i64))],.row [.ty (.int .i64),.ty (.slice (.int .i64))],.row [.ty (.int .i64),.nil],.arr (.int .i64)] }
def t98_0(x3n:Nat)(x3c:Nat)(x4:Int)(b0_0:Int)(b0_1:List Int)(b1_0:Int)(b1_1:List Int)(b2_0:Int)(b3:List Int):Tr (Out sh98_0.data shb98_0.data shr98_0.data):= Tr.test ((!leF (↑(List.length b0_1):Int) x4:Bool)) (Tr.test (qax (l98_2 (((x3n,x3c),(x4,((0:Int),((0:Int),())))),((b0_0,(b0_1,())),((b1_0,(b1_1,())),((b2_0,()),(b3,()))))))) (let r0:=b98_2 (((x3n,x3c),(x4,((0:Int),((0:Int),())))),((b0_0,(b0_1,())),((b1_0,(b1_1,())),((b2_0,()),(b3,())))));Tr.test ((decide ((0:Int)≤wrap64 (r0.1.2.1+(↑(List.length r0.2.2.1.2.1):Int)))&&decide (wrap64 (r0.1.2.1+(↑(List.length r0.2.2.1.2.1):Int))<(↑r0.1.1.1:Int)):Bool)) (Tr.test ((Nat.ble ((0:Nat)+Int.toNat (wrap64 (r0.1.2.1+(↑(List.length r0.2.2.1.2.1):Int)))+(1:Nat)) (List.length r0.2.2.2.2.1):Bool)) (Tr.fin (.again (((r0.1.1.1,r0.1.1.2),((wrap64 (r0.1.2.1+(1:Int)):Int),())),((r0.2.1.1,(r0.2.1.2.1,())),((r0.2.2.1.1,(r0.2.2.1.2.1,())),((r0.2.2.2.1.1,()),((List.set r0.2.2.2.2.1 ((0:Nat)+Int.toNat (wrap64 (r0.1.2.1+(↑(List.length r0.2.2.1.2.1):Int)))) (wrap64 (List.getD r0.2.2.2.2.1 ((0:Nat)+Int.toNat (wrap64 (r0.1.2.1+(↑(List.length r0.2.2.1.2.1):Int)))) (0:Int)+r0.1.2.2.1)):List Int),()))))))) (Tr.stop)) (Tr.stop)) (Tr.stop)) (Tr.fin (.brk (((x3n,x3c),()),((b0_0,(b0_1,())),((b1_0,(b1_1,())),((b2_0,()),(b3,())))))))
def s98_0(d:sh98_0.data):Option (Out sh98_0.data shb98_0.data shr98_0.data):=(t98_0 d.1.1.1 d.1.1.2 d.1.2.1 d.2.1.1 d.2.1.2.1 d.2.2.1.1 d.2.2.1.2.1 d.2.2.2.1.1 d.2.2.2.2.1).val
def l98_0(d:sh98_0.data):Option (shb98_0.data ⊕ shr98_0.data):=itr s98_0 rounds d
def b98_0(d:sh98_0.data):shb98_0.data:=outB shb98_0.dflt (l98_0 d)
def lc98_0:LoopC:=lcB sh98_0 shb98_0 shr98_0 l98_0 b98_0
def ww2v:List Nat:=[2]
theorem wk98_0(x3n:Nat)(x3c:Nat)(x4:Int)(b0_0:Int)(b0_1:List Int)(b1_0:Int)(b1_1:List Int)(b2_0:Int)(b3:List Int):Walks (qar (kl98_2 Proofs.Tryz.prog).orc Proofs.Tryz.prog 400 98 0 sh98_0 shb98_0 shr98_0 (((x3n,x3c),x4,()),(b0_0,b0_1,()),(b1_0,b1_1,()),(b2_0,()),b3,())) (t98_0 x3n x3c x4 b0_0 b0_1 b1_0 b1_1 b2_0 b3) [(bl 4 15,pk 6 4 504874480 ww2v),(bl 1 0,ww2v)]:=
 ⟨by kernel_rfl,by kernel_rfl,trivial⟩
theorem ok98_0:qau Proofs.Tryz.prog 98 0 lc98_0:=qaC (sh:=sh98_0) (shB:=shb98_0) (shR:=shr98_0) kl98_2_ok.base (T:=fun(d:sh98_0.data)=>t98_0 d.1.1.1 d.1.1.2 d.1.2.1 d.2.1.1 d.2.1.2.1 d.2.2.1.1 d.2.2.1.2.1 d.2.2.2.1.1 d.2.2.2.2.1) (by kernel_rfl) rfl (fun(d:sh98_0.data)=>wB (wk98_0 d.1.1.1 d.1.1.2 d.1.2.1 d.2.1.1 d.2.1.2.1 d.2.2.1.1 d.2.2.1.2.1 d.2.2.2.1.1 d.2.2.2.2.1) (by kernel_rfl)) (fun _=>rfl)
def kl98_0(P:Go.Program):Known:=(kl98_2 P).loop 98 0 lc98_0
theorem kl98_0_ok:KnownOk Proofs.Tryz.prog (kl98_0 Proofs.Tryz.prog):=kl98_2_ok.loop ok98_0
abbrev as98:List Ty:=[(.pair (.int .i64) (.pair (.slice (.int .i64)) .unit)),(.pair (.int .i64) (.pair (.slice (.int .i64)) .unit))]
abbrev rs98:List Ty:=[(.pair (.int .i64) (.pair (.slice (.int .i64)) .unit))]
def t98(x0:Int)(x0':List Int)(x1:Int)(x1':List Int):Tr (Tys.data rs98):= Tr.test ((decide ((0:Int)≤wrap64 (wrap64 ((↑(List.length x0'):Int)+(↑(List.length x1'):Int))+(1:Int)))&&decide (wrap64 (wrap64 ((↑(List.length x0'):Int)+(↑(List.length x1'):Int))+(1:Int))≤wrap64 (wrap64 ((↑(List.length x0'):Int)+(↑(List.length x1'):Int))+(1:Int)))&&decide ((8:Int)*wrap64 (wrap64 ((↑(List.length x0'):Int)+(↑(List.length x1'):Int))+(1:Int))≤(281474976710656:Int))&&decide (wrap64 (wrap64 ((↑(List.length x0'):Int)+(↑(List.length x1'):Int))+(1:Int))≤(281474976710656:Int)):Bool)) (Tr.test (qax (l98_0 ((((Int.toNat (wrap64 (wrap64 ((↑(List.length x0'):Int)+(↑(List.length x1'):Int))+(1:Int))):Nat),(Int.toNat (wrap64 (wrap64 ((↑(List.length x0'):Int)+(↑(List.length x1'):Int))+(1:Int))):Nat)),((0:Int),())),((x0,(x0',())),((x1,(x1',())),(((0:Int),()),((List.replicate (Int.toNat (wrap64 (wrap64 ((↑(List.length x0'):Int)+(↑(List.length x1'):Int))+(1:Int)))) (0:Int):List Int),()))))))) (let r0:=b98_0 ((((Int.toNat (wrap64 (wrap64 ((↑(List.length x0'):Int)+(↑(List.length x1'):Int))+(1:Int))):Nat),(Int.toNat (wrap64 (wrap64 ((↑(List.length x0'):Int)+(↑(List.length x1'):Int))+(1:Int))):Nat)),((0:Int),())),((x0,(x0',())),((x1,(x1',())),(((0:Int),()),((List.replicate (Int.toNat (wrap64 (wrap64 ((↑(List.length x0'):Int)+(↑(List.length x1'):Int))+(1:Int)))) (0:Int):List Int),())))));Tr.test ((Nat.beq r0.1.1.1 (List.length r0.2.2.2.2.1):Bool)) (Tr.test (Option.isSome (f130 ((wrap64 (r0.2.1.1*r0.2.2.1.1):Int),(r0.2.2.2.2.1,())))) (let r1:=g130 ((wrap64 (r0.2.1.1*r0.2.2.1.1):Int),(r0.2.2.2.2.1,()));Tr.fin (((r1.1.1,(r1.1.2.1,())),()))) (Tr.stop)) (Tr.test ((Nat.ble r0.1.1.1 (List.length r0.2.2.2.2.1):Bool)) (Tr.test (Option.isSome (f130 ((wrap64 (r0.2.1.1*r0.2.2.1.1):Int),((List.take r0.1.1.1 r0.2.2.2.2.1:List Int),())))) (let r2:=g130 ((wrap64 (r0.2.1.1*r0.2.2.1.1):Int),((List.take r0.1.1.1 r0.2.2.2.2.1:List Int),()));Tr.fin (((r2.1.1,(r2.1.2.1,())),()))) (Tr.stop)) (Tr.stop))) (Tr.stop)) (Tr.stop)
def f98(d:Tys.data as98):Option (Tys.data rs98):=(t98 d.1.1 d.1.2.1 d.2.1.1 d.2.1.2.1).val
def g98(d:Tys.data as98):Tys.data rs98:=(f98 d).getD (Tys.dflt rs98)
def p98:PureC:=pcOf as98 rs98 f98 g98
def ww2w:List Nat:=[8,6,1,4,2]
theorem wk98(x0:Int)(x0':List Int)(x1:Int)(x1':List Int):Walks (runPure (kl98_0 Proofs.Tryz.prog).orc Proofs.Tryz.prog 400 98 as98 rs98 ((x0,x0',()),(x1,x1',()),())) (t98 x0 x0' x1 x1') [(bl 4 15,ww2w),(bl 5 27,10::ww2w)]:=
 ⟨by kernel_rfl,by kernel_rfl,trivial⟩
theorem ok98:PureOk Proofs.Tryz.prog 98 p98:=qac kl98_0_ok.base (T:=fun(d:Tys.data as98)=>t98 d.1.1 d.1.2.1 d.2.1.1 d.2.1.2.1) (by kernel_rfl) (fun(d:Tys.data as98)=>wP (wk98 d.1.1 d.1.2.1 d.2.1.1 d.2.1.2.1) (by kernel_rfl))
def kf98(P:Go.Program):Known:=(kl98_0 P).func 98 p98
theorem kf98_ok:KnownOk Proofs.Tryz.prog (kf98 Proofs.Tryz.prog):=kl98_0_ok.func ok98
abbrev sh136_0:Sh:={ n:=41,slots:=[0,1,5],pats:=[.ty (.slice (.int .i64)),.ty (.slice (.int .i64)),.ty (.int .i64)],boxes:=[] }
abbrev shb136_0:Sh:={ n:=41,slots:=[],pats:=[],boxes:=[] }
abbrev shr136_0:Sh:={ n:=41,slots:=[4],pats:=[.ty (.int .i64)],boxes:=[] }
def t136_0(x0:(List Int))(x1:List Int)(x2:Int):Tr (Out sh136_0.data shb136_0.data shr136_0.data):= Tr.test ((leF (0:Int) x2:Bool)) (Tr.test (decide ((0:Int)≤x2)&&decide (x2<(↑(List.length x0):Int))) (Tr.test ((decide ((0:Int)≤x2)&&decide (x2<(↑(List.length x1):Int)):Bool)) (Tr.test ((!leF (List.getD x1 (Int.toNat x2) (0:Int)) (List.getD x0 (Int.toNat x2) (0:Int)):Bool)) (Tr.fin (.ret (((-1:Int),()),()))) (Tr.test ((!leF (List.getD x0 (Int.toNat x2) (0:Int)) (List.getD x1 (Int.toNat x2) (0:Int)):Bool)) (Tr.fin (.ret (((1:Int),()),()))) (Tr.fin (.again ((x0,(x1,((wrap64 (x2-(1:Int)):Int),()))),()))))) (Tr.stop)) (Tr.stop)) (Tr.fin (.brk ((),())))
def s136_0(d:sh136_0.data):Option (Out sh136_0.data shb136_0.data shr136_0.data):=(t136_0 d.1.1 d.1.2.1 d.1.2.2.1).val
def l136_0(d:sh136_0.data):Option (shb136_0.data ⊕ shr136_0.data):=itr s136_0 rounds d
def b136_0(d:sh136_0.data):shb136_0.data:=outB shb136_0.dflt (l136_0 d)
def r136_0(d:sh136_0.data):shr136_0.data:=outR shr136_0.dflt (l136_0 d)
def lc136_0:LoopC:=lcOf sh136_0 shb136_0 shr136_0 l136_0 b136_0 r136_0
def ww2x:List Nat:=[2]
def ww2y:List Nat:=8::6::4::ww2x
def ww2z:List Nat:=10::6::4::ww2y
theorem wk136_0(x0:(List Int))(x1:List Int)(x2:Int):Walks (qar (kf98 Proofs.Tryz.prog).orc Proofs.Tryz.prog 400 136 0 sh136_0 shb136_0 shr136_0 ((x0,x1,x2,()),())) (t136_0 x0 x1 x2) [(bl 4 15,ww2y),(bl 5 23,ww2z),(bl 5 7,ww2z),(bl 1 0,ww2x)]:=by
 repeat refine⟨by kernel_rfl,?_⟩
 exact trivial
theorem ok136_0:qau Proofs.Tryz.prog 136 0 lc136_0:=qaF (sh:=sh136_0) (shB:=shb136_0) (shR:=shr136_0) kf98_ok.base (T:=fun(d:sh136_0.data)=>t136_0 d.1.1 d.1.2.1 d.1.2.2.1) (by kernel_rfl) rfl (fun(d:sh136_0.data)=>wB (wk136_0 d.1.1 d.1.2.1 d.1.2.2.1) (by kernel_rfl)) (fun _=>rfl)
def kl136_0(P:Go.Program):Known:=(kf98 P).loop 136 0 lc136_0
theorem kl136_0_ok:KnownOk Proofs.Tryz.prog (kl136_0 Proofs.Tryz.prog):=kf98_ok.loop ok136_0
abbrev as136:List Ty:=[(.slice (.int .i64)),(.slice (.int .i64))]
abbrev rs136:List Ty:=[(.int .i64)]
def t136(x0:(List Int))(x1:List Int):Tr (Tys.data rs136):= Tr.test ((!eqF (↑(List.length x0):Int) (↑(List.length x1):Int):Bool)) (Tr.test (!leF (↑(List.length x1):Int) (↑(List.length x0):Int)) (Tr.fin (((-1:Int),()))) (Tr.fin (((1:Int),())))) (Tr.test (Option.isSome (l136_0 ((x0,(x1,((wrap64 ((↑(List.length x0):Int)-(1:Int)):Int),()))),()))) (Tr.test (qas (l136_0 ((x0,(x1,((wrap64 ((↑(List.length x0):Int)-(1:Int)):Int),()))),()))) (let r0:=r136_0 ((x0,(x1,((wrap64 ((↑(List.length x0):Int)-(1:Int)):Int),()))),());Tr.fin ((r0.1.1,()))) (Tr.fin (((0:Int),())))) (Tr.stop))
def f136(d:Tys.data as136):Option (Tys.data rs136):=(t136 d.1 d.2.1).val
def g136(d:Tys.data as136):Tys.data rs136:=(f136 d).getD (Tys.dflt rs136)
def p136:PureC:=pcOf as136 rs136 f136 g136
def ww30:List Nat:=[4,2]
def ww31:List Nat:=6::ww30
theorem wk136(x0:(List Int))(x1:List Int):Walks (runPure (kl136_0 Proofs.Tryz.prog).orc Proofs.Tryz.prog 400 136 as136 rs136 (x0,x1,())) (t136 x0 x1) [(bl 2 3,ww30),(bl 2 1,ww30),(bl 3 6,ww31),(bl 3 2,ww31)]:=by
 repeat refine⟨by kernel_rfl,?_⟩
 exact trivial
theorem ok136:PureOk Proofs.Tryz.prog 136 p136:=qac kl136_0_ok.base (T:=fun(d:Tys.data as136)=>t136 d.1 d.2.1) (by kernel_rfl) (fun(d:Tys.data as136)=>wP (wk136 d.1 d.2.1) (by kernel_rfl))
def kf136(P:Go.Program):Known:=(kl136_0 P).func 136 p136
theorem kf136_ok:KnownOk Proofs.Tryz.prog (kf136 Proofs.Tryz.prog):=kl136_0_ok.func ok136
abbrev as163:List Ty:=[(.slice (.int .i64)),(.int .i64)]
abbrev rs163:List Ty:=[(.int .i64)]
def t163(x0:(List Int))(x1:Int):Tr (Tys.data rs163):= Tr.test ((!leF (↑(List.length x0):Int) x1:Bool)) (Tr.test (decide ((0:Int)≤x1)&&decide (x1<(↑(List.length x0):Int))) (Tr.fin (((List.getD x0 (Int.toNat x1) (0:Int):Int),()))) (Tr.stop)) (Tr.fin (((0:Int),())))
def f163(d:Tys.data as163):Option (Tys.data rs163):=(t163 d.1 d.2.1).val
def g163(d:Tys.data as163):Tys.data rs163:=(f163 d).getD (Tys.dflt rs163)
def p163:PureC:=pcOf as163 rs163 f163 g163
def ww32:List Nat:=[2]
theorem wk163(x0:(List Int))(x1:Int):Walks (runPure (kf136 Proofs.Tryz.prog).orc Proofs.Tryz.prog 400 163 as163 rs163 (x0,x1,())) (t163 x0 x1) [(bl 2 3,4::ww32),(bl 1 0,ww32)]:=
 ⟨by kernel_rfl,by kernel_rfl,trivial⟩
theorem ok163:PureOk Proofs.Tryz.prog 163 p163:=qac kf136_ok.base (T:=fun(d:Tys.data as163)=>t163 d.1 d.2.1) (by kernel_rfl) (fun(d:Tys.data as163)=>wP (wk163 d.1 d.2.1) (by kernel_rfl))
def kf163(P:Go.Program):Known:=(kf136 P).func 163 p163
theorem kf163_ok:KnownOk Proofs.Tryz.prog (kf163 Proofs.Tryz.prog):=kf136_ok.func ok163
abbrev sh137_0:Sh:={ n:=35,slots:=[0,1,5,6,7],pats:=[.ty (.slice (.int .i64)),.ty (.slice (.int .i64)),.aco (.int .i64),.ty (.int .i64),.ty (.int .i64)],boxes:=[] }
abbrev shb137_0:Sh:={ n:=35,slots:=[5],pats:=[.aco (.int .i64)],boxes:=[] }
abbrev shr137_0:Sh:={ n:=35,slots:=[],pats:=[],boxes:=[] }
def t137_0(x0:(List Int))(x1:List Int)(x2:List Int)(x3:Int)(x4:Int):Tr (Out sh137_0.data shb137_0.data shr137_0.data):= Tr.test ((!leF (↑(List.length x0):Int) x4:Bool)) (Tr.test (decide ((0:Int)≤x4)&&decide (x4<(↑(List.length x0):Int))) (Tr.test (Option.isSome (f163 (x1,(x4,())))) (let r0:=g163 (x1,(x4,()));Tr.test ((!leF (0:Int) (wrap64 (wrap64 (List.getD x0 (Int.toNat x4) (0:Int)-r0.1)-x3)):Bool)) (Tr.test ((Nat.ble (((2:Nat)*(List.length x2+(1:Nat))+(192:Nat))*(8:Nat)) (281474976710656:Nat)&&Nat.ble (List.length x2+(1:Nat)) (281474976710656:Nat):Bool)) (Tr.fin (.again ((x0,(x1,((x2++[wrap64 (wrap64 (wrap64 (List.getD x0 (Int.toNat x4) (0:Int)-r0.1)-x3)+(1000000000:Int))]:List Int),((1:Int),((wrap64 (x4+(1:Int)):Int),()))))),()))) (Tr.stop)) (Tr.test ((Nat.ble (((2:Nat)*(List.length x2+(1:Nat))+(192:Nat))*(8:Nat)) (281474976710656:Nat)&&Nat.ble (List.length x2+(1:Nat)) (281474976710656:Nat):Bool)) (Tr.fin (.again ((x0,(x1,((x2++[wrap64 (wrap64 (List.getD x0 (Int.toNat x4) (0:Int)-r0.1)-x3)]:List Int),((0:Int),((wrap64 (x4+(1:Int)):Int),()))))),()))) (Tr.stop))) (Tr.stop)) (Tr.stop)) (Tr.fin (.brk ((x2,()),())))
def s137_0(d:sh137_0.data):Option (Out sh137_0.data shb137_0.data shr137_0.data):=(t137_0 d.1.1 d.1.2.1 d.1.2.2.1 d.1.2.2.2.1 d.1.2.2.2.2.1).val
def l137_0(d:sh137_0.data):Option (shb137_0.data ⊕ shr137_0.data):=itr s137_0 rounds d
def b137_0(d:sh137_0.data):shb137_0.data:=outB shb137_0.dflt (l137_0 d)
def lc137_0:LoopC:=lcB sh137_0 shb137_0 shr137_0 l137_0 b137_0
def ww33:List Nat:=[2]
def ww34:List Nat:=10::8::6::4::ww33
theorem wk137_0(x0:(List Int))(x1:List Int)(x2:List Int)(x3:Int)(x4:Int):Walks (qar (kf163 Proofs.Tryz.prog).orc Proofs.Tryz.prog 400 137 0 sh137_0 shb137_0 shr137_0 ((x0,x1,x2,x3,x4,()),())) (t137_0 x0 x1 x2 x3 x4) [(bl 5 31,ww34),(bl 5 23,ww34),(bl 1 0,ww33)]:=
 ⟨by kernel_rfl,by kernel_rfl,by kernel_rfl,trivial⟩
theorem ok137_0:qau Proofs.Tryz.prog 137 0 lc137_0:=qaC (sh:=sh137_0) (shB:=shb137_0) (shR:=shr137_0) kf163_ok.base (T:=fun(d:sh137_0.data)=>t137_0 d.1.1 d.1.2.1 d.1.2.2.1 d.1.2.2.2.1 d.1.2.2.2.2.1) (by kernel_rfl) rfl (fun(d:sh137_0.data)=>wB (wk137_0 d.1.1 d.1.2.1 d.1.2.2.1 d.1.2.2.2.1 d.1.2.2.2.2.1) (by kernel_rfl)) (fun _=>rfl)
def kl137_0(P:Go.Program):Known:=(kf163 P).loop 137 0 lc137_0
theorem kl137_0_ok:KnownOk Proofs.Tryz.prog (kl137_0 Proofs.Tryz.prog):=kf163_ok.loop ok137_0
abbrev as137:List Ty:=[(.slice (.int .i64)),(.slice (.int .i64))]
abbrev rs137:List Ty:=[(.slice (.int .i64))]
def t137(x0:(List Int))(x1:List Int):Tr (Tys.data rs137):= Tr.test (qax (l137_0 ((x0,(x1,(([]:List Int),((0:Int),((0:Int),()))))),()))) (let r0:=b137_0 ((x0,(x1,(([]:List Int),((0:Int),((0:Int),()))))),());Tr.test (Option.isSome (f161 (r0.1.1,()))) (let r1:=g161 (r0.1.1,());Tr.fin ((r1.1,()))) (Tr.stop)) (Tr.stop)
def f137(d:Tys.data as137):Option (Tys.data rs137):=(t137 d.1 d.2.1).val
def g137(d:Tys.data as137):Tys.data rs137:=(f137 d).getD (Tys.dflt rs137)
def p137:PureC:=pcOf as137 rs137 f137 g137
theorem wk137(x0:(List Int))(x1:List Int):Walks (runPure (kl137_0 Proofs.Tryz.prog).orc Proofs.Tryz.prog 400 137 as137 rs137 (x0,x1,())) (t137 x0 x1) [(bl 2 3,[4,1,2])]:=
 ⟨by kernel_rfl,trivial⟩
theorem ok137:PureOk Proofs.Tryz.prog 137 p137:=qac kl137_0_ok.base (T:=fun(d:Tys.data as137)=>t137 d.1 d.2.1) (by kernel_rfl) (fun(d:Tys.data as137)=>wP (wk137 d.1 d.2.1) (by kernel_rfl))
def kf137(P:Go.Program):Known:=(kl137_0 P).func 137 p137
theorem kf137_ok:KnownOk Proofs.Tryz.prog (kf137 Proofs.Tryz.prog):=kl137_0_ok.func ok137
abbrev sh135_0:Sh:={ n:=42,slots:=[0,1,5,6,7],pats:=[.ty (.slice (.int .i64)),.ty (.slice (.int .i64)),.aco (.int .i64),.ty (.int .i64),.ty (.int .i64)],boxes:=[] }
abbrev shb135_0:Sh:={ n:=42,slots:=[5],pats:=[.aco (.int .i64)],boxes:=[] }
abbrev shr135_0:Sh:={ n:=42,slots:=[],pats:=[],boxes:=[] }
def t135_0(x0:(List Int))(x1:List Int)(x2:List Int)(x3:Int)(x4:Int):Tr (Out sh135_0.data shb135_0.data shr135_0.data):= Tr.test ((!leF (↑(List.length x0):Int) x4:Bool)) (Tr.test (Option.isSome (f163 (x0,(x4,())))) (Tr.test (Option.isSome (f163 (x1,(x4,())))) (Tr.test ((Nat.ble (((2:Nat)*(List.length x2+(1:Nat))+(192:Nat))*(8:Nat)) (281474976710656:Nat)&&Nat.ble (List.length x2+(1:Nat)) (281474976710656:Nat):Bool)) (let r0:=g163 (x0,(x4,()));let r1:=g163 (x1,(x4,()));Tr.fin (.again ((x0,(x1,((x2++[Int.tmod (wrap64 (wrap64 (r0.1+r1.1)+x3)) (1000000000:Int)]:List Int),((Go.IntKind.wrap Go.IntKind.i64 (Int.tdiv (wrap64 (wrap64 (r0.1+r1.1)+x3)) (1000000000:Int)):Int),((wrap64 (x4+(1:Int)):Int),()))))),()))) (Tr.stop)) (Tr.stop)) (Tr.stop)) (Tr.test (!leF (↑(List.length x1):Int) x4) (Tr.test (Option.isSome (f163 (x0,(x4,())))) (Tr.test (Option.isSome (f163 (x1,(x4,())))) (Tr.test ((Nat.ble (((2:Nat)*(List.length x2+(1:Nat))+(192:Nat))*(8:Nat)) (281474976710656:Nat)&&Nat.ble (List.length x2+(1:Nat)) (281474976710656:Nat):Bool)) (let r0:=g163 (x0,(x4,()));let r1:=g163 (x1,(x4,()));Tr.fin (.again ((x0,(x1,((x2++[Int.tmod (wrap64 (wrap64 (r0.1+r1.1)+x3)) (1000000000:Int)]:List Int),((Go.IntKind.wrap Go.IntKind.i64 (Int.tdiv (wrap64 (wrap64 (r0.1+r1.1)+x3)) (1000000000:Int)):Int),((wrap64 (x4+(1:Int)):Int),()))))),()))) (Tr.stop)) (Tr.stop)) (Tr.stop)) (Tr.test ((!leF x3 0:Bool)) (Tr.test (Option.isSome (f163 (x0,(x4,())))) (Tr.test (Option.isSome (f163 (x1,(x4,())))) (Tr.test ((Nat.ble (((2:Nat)*(List.length x2+(1:Nat))+(192:Nat))*(8:Nat)) (281474976710656:Nat)&&Nat.ble (List.length x2+(1:Nat)) (281474976710656:Nat):Bool)) (let r0:=g163 (x0,(x4,()));let r1:=g163 (x1,(x4,()));Tr.fin (.again ((x0,(x1,((x2++[Int.tmod (wrap64 (wrap64 (r0.1+r1.1)+x3)) (1000000000:Int)]:List Int),((Go.IntKind.wrap Go.IntKind.i64 (Int.tdiv (wrap64 (wrap64 (r0.1+r1.1)+x3)) (1000000000:Int)):Int),((wrap64 (x4+(1:Int)):Int),()))))),()))) (Tr.stop)) (Tr.stop)) (Tr.stop)) (Tr.fin (.brk ((x2,()),())))))
def s135_0(d:sh135_0.data):Option (Out sh135_0.data shb135_0.data shr135_0.data):=(t135_0 d.1.1 d.1.2.1 d.1.2.2.1 d.1.2.2.2.1 d.1.2.2.2.2.1).val
def l135_0(d:sh135_0.data):Option (shb135_0.data ⊕ shr135_0.data):=itr s135_0 rounds d
def b135_0(d:sh135_0.data):shb135_0.data:=outB shb135_0.dflt (l135_0 d)
def lc135_0:LoopC:=lcB sh135_0 shb135_0 shr135_0 l135_0 b135_0
def ww35:List Nat:=[2,2,2,2,2]
def ww36:List Nat:=4::4::4::ww35
def ww37:List Nat:=6::ww36
theorem wk135_0(x0:(List Int))(x1:List Int)(x2:List Int)(x3:Int)(x4:Int):Walks (qar (kf137 Proofs.Tryz.prog).orc Proofs.Tryz.prog 400 135 0 sh135_0 shb135_0 shr135_0 ((x0,x1,x2,x3,x4,()),())) (t135_0 x0 x1 x2 x3 x4) [(bl 4 15,pk 9 4 1134994883072 ww35),(bl 5 30,pk 6 5 49775104 ww36),(bl 6 60,pk 5 6 16220672 ww37),(bl 3 0,ww37)]:=by
 repeat refine⟨by kernel_rfl,?_⟩
 exact trivial
theorem ok135_0:qau Proofs.Tryz.prog 135 0 lc135_0:=qaC (sh:=sh135_0) (shB:=shb135_0) (shR:=shr135_0) kf137_ok.base (T:=fun(d:sh135_0.data)=>t135_0 d.1.1 d.1.2.1 d.1.2.2.1 d.1.2.2.2.1 d.1.2.2.2.2.1) (by kernel_rfl) rfl (fun(d:sh135_0.data)=>wB (wk135_0 d.1.1 d.1.2.1 d.1.2.2.1 d.1.2.2.2.1 d.1.2.2.2.2.1) (by kernel_rfl)) (fun _=>rfl)
def kl135_0(P:Go.Program):Known:=(kf137 P).loop 135 0 lc135_0
theorem kl135_0_ok:KnownOk Proofs.Tryz.prog (kl135_0 Proofs.Tryz.prog):=kf137_ok.loop ok135_0
abbrev as135:List Ty:=[(.slice (.int .i64)),(.slice (.int .i64))]
abbrev rs135:List Ty:=[(.slice (.int .i64))]
def t135(x0:(List Int))(x1:List Int):Tr (Tys.data rs135):= Tr.test (qax (l135_0 ((x0,(x1,(([]:List Int),((0:Int),((0:Int),()))))),()))) (let r0:=b135_0 ((x0,(x1,(([]:List Int),((0:Int),((0:Int),()))))),());Tr.fin ((r0.1.1,()))) (Tr.stop)
def f135(d:Tys.data as135):Option (Tys.data rs135):=(t135 d.1 d.2.1).val
def g135(d:Tys.data as135):Tys.data rs135:=(f135 d).getD (Tys.dflt rs135)
def p135:PureC:=pcOf as135 rs135 f135 g135
theorem wk135(x0:(List Int))(x1:List Int):Walks (runPure (kl135_0 Proofs.Tryz.prog).orc Proofs.Tryz.prog 400 135 as135 rs135 (x0,x1,())) (t135 x0 x1) [(bl 1 1,[1,2])]:=
 ⟨by kernel_rfl,trivial⟩
theorem ok135:PureOk Proofs.Tryz.prog 135 p135:=qac kl135_0_ok.base (T:=fun(d:Tys.data as135)=>t135 d.1 d.2.1) (by kernel_rfl) (fun(d:Tys.data as135)=>wP (wk135 d.1 d.2.1) (by kernel_rfl))
def kf135(P:Go.Program):Known:=(kl135_0 P).func 135 p135
theorem kf135_ok:KnownOk Proofs.Tryz.prog (kf135 Proofs.Tryz.prog):=kl135_0_ok.func ok135
end Go.Vm.Mo
