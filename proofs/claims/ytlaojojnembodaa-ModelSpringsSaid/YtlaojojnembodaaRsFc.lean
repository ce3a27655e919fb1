import Derived.Test.YtlaojojnembodaaA5
import Derived.KernelRfl
import Derived.Test.YtlaojojnembodaaProg
import Derived.Test.YtlaojojnembodaaRsFb
set_option linter.unusedVariables false
set_option linter.unusedSimpArgs false

namespace Go.Vm.Mo
open Go
set_option linter.unusedVariables false
abbrev sh36_0:Sh:={ n:=90,slots:=[0,3,7],pats:=[.ty (.slice (.pair (.int .i64) (.pair (.int .i64) (.pair .bool .unit)))),.ptr 0 2 0,.ty (.int .i64)],boxes:=[.row [.ty (.int .i64),.ty (.slice (.pair (.int .i64) (.pair .bool .unit)))]] }
abbrev shb36_0:Sh:={ n:=90,slots:=[],pats:=[],boxes:=[.row [.ty (.int .i64),.ty (.slice (.pair (.int .i64) (.pair .bool .unit)))]] }
abbrev shr36_0:Sh:={ n:=90,slots:=[4,5],pats:=[.ty (.int .i64),.ty (.int .i64)],boxes:=[.row [.ty (.int .i64),.ty (.slice (.pair (.int .i64) (.pair .bool .unit)))]] }
def t36_0 (x0:(List (Int×(Int×(Bool×Unit))))) (x2:Int) (b0_0:Int) (b0_1:(List (Int×(Bool×Unit)))):Tr (Out sh36_0.data shb36_0.data shr36_0.data) :=
  Tr.test ((!leF (↑(List.length x0):Int) x2:Bool))
    (Tr.test (decide ((0:Int) ≤ x2) && decide (x2 < (↑(List.length b0_1):Int)))
      (Tr.test (Option.isSome (f32 (((List.getD b0_1 (Int.toNat x2) ((0:Int),false,())).1:Int),())))
        (let r0:=g32 (((List.getD b0_1 (Int.toNat x2) ((0:Int),false,())).1:Int),());
        Tr.test ((!eqF r0.1 0:Bool))
          (Tr.fin (.ret ((x2,(r0.1,())),((b0_0,(b0_1,())),()))))
          (Tr.test (((List.getD b0_1 (Int.toNat x2) ((0:Int),false,())).2.1:Bool))
            (Tr.test ((decide ((0:Int) ≤ x2) && decide (x2 < (↑(List.length x0):Int)):Bool))
              (Tr.test ((!(List.getD x0 (Int.toNat x2) ((0:Int),(0:Int),false,())).2.2.1:Bool))
                (Tr.fin (.ret ((x2,((3:Int),())),((b0_0,(b0_1,())),()))))
                (Tr.test ((!eqF (List.getD b0_1 (Int.toNat x2) ((0:Int),false,())).1 (0:Int):Bool))
                  (Tr.fin (.ret ((x2,((3:Int),())),((b0_0,(b0_1,())),()))))
                  (Tr.fin (.again ((x0,((wrap64 (x2 + (1:Int)):Int),())),((b0_0,(b0_1,())),()))))))
              (Tr.stop))
            (Tr.test ((decide ((0:Int) ≤ x2) && decide (x2 < (↑(List.length x0):Int)):Bool))
              (Tr.test (((List.getD x0 (Int.toNat x2) ((0:Int),(0:Int),false,())).2.2.1:Bool))
                (Tr.test ((!eqF (List.getD b0_1 (Int.toNat x2) ((0:Int),false,())).1 (0:Int):Bool))
                  (Tr.fin (.ret ((x2,((3:Int),())),((b0_0,(b0_1,())),()))))
                  (Tr.test (Option.isSome (f86 ((wrap64 (b0_0 - (List.getD b0_1 (Int.toNat x2) ((0:Int),false,())).1):Int),())))
                    (let r1:=g86 ((wrap64 (b0_0 - (List.getD b0_1 (Int.toNat x2) ((0:Int),false,())).1):Int),());
                    Tr.test ((!leF r1.1 (List.getD x0 (Int.toNat x2) ((0:Int),(0:Int),false,())).2.1:Bool))
                      (Tr.fin (.ret ((x2,((22:Int),())),((b0_0,(b0_1,())),()))))
                      (Tr.fin (.again ((x0,((wrap64 (x2 + (1:Int)):Int),())),((b0_0,(b0_1,())),())))))
                    (Tr.stop)))
                (Tr.test (Option.isSome (f86 ((wrap64 (b0_0 - (List.getD b0_1 (Int.toNat x2) ((0:Int),false,())).1):Int),())))
                  (let r1:=g86 ((wrap64 (b0_0 - (List.getD b0_1 (Int.toNat x2) ((0:Int),false,())).1):Int),());
                  Tr.test ((!leF r1.1 (List.getD x0 (Int.toNat x2) ((0:Int),(0:Int),false,())).2.1:Bool))
                    (Tr.fin (.ret ((x2,((22:Int),())),((b0_0,(b0_1,())),()))))
                    (Tr.fin (.again ((x0,((wrap64 (x2 + (1:Int)):Int),())),((b0_0,(b0_1,())),())))))
                  (Tr.stop)))
              (Tr.stop))))
        (Tr.stop))
      (Tr.stop))
    (Tr.fin (.brk ((),((b0_0,(b0_1,())),()))))
def s36_0 (d:sh36_0.data):Option (Out sh36_0.data shb36_0.data shr36_0.data):=(t36_0 d.1.1 d.1.2.1 d.2.1.1 d.2.1.2.1).val
def l36_0 (d:sh36_0.data):Option (shb36_0.data ⊕ shr36_0.data):=itr s36_0 rounds d
def b36_0 (d:sh36_0.data):shb36_0.data:=outB shb36_0.dflt (l36_0 d)
def r36_0 (d:sh36_0.data):shr36_0.data:=outR shr36_0.dflt (l36_0 d)
def lc36_0:LoopC:=lcOf sh36_0 shb36_0 shr36_0 l36_0 b36_0 r36_0
theorem e36_0_0 (x0:(List (Int×(Int×(Bool×Unit))))) (x2:Int) (b0_0:Int) (b0_1:(List (Int×(Bool×Unit)))):runBody (kf33 Go.Proofs.Try.prog).orc Go.Proofs.Try.prog 400 36 0 sh36_0 shb36_0 shr36_0 ((x0,x2,()),(b0_0,b0_1,()),()) [tt,tt,tt,tt] =
    (let r0:=g32 (((List.getD b0_1 (Int.toNat x2) ((0:Int),false,())).1:Int),()); some (.ret ((x2,(r0.1,())),((b0_0,(b0_1,())),())),[(!eqF r0.1 0,true),(Option.isSome (f32 (((List.getD b0_1 (Int.toNat x2) ((0:Int),false,())).1:Int),())),true),(decide ((0:Int) ≤ x2) && decide (x2 < (↑(List.length b0_1):Int)),true),(!leF (↑(List.length x0):Int) x2,true)])):=by kernel_rfl
theorem e36_0_1 (x0:(List (Int×(Int×(Bool×Unit))))) (x2:Int) (b0_0:Int) (b0_1:(List (Int×(Bool×Unit)))):runBody (kf33 Go.Proofs.Try.prog).orc Go.Proofs.Try.prog 400 36 0 sh36_0 shb36_0 shr36_0 ((x0,x2,()),(b0_0,b0_1,()),()) [tt,tt,tt,ff,tt,tt,tt,tt,tt,tt,tt,tt,tt,tt,tt,tt,tt,tt,tt,tt,tt,tt,tt,tt,tt,tt] =
    (let r0:=g32 (((List.getD b0_1 (Int.toNat x2) ((0:Int),false,())).1:Int),()); some (.ret ((x2,((3:Int),())),((b0_0,(b0_1,())),())),[(true,true),(true,true),(true,true),(true,true),(true,true),(true,true),(!(List.getD x0 (Int.toNat x2) ((0:Int),(0:Int),false,())).2.2.1,true),(!(List.getD x0 (Int.toNat x2) ((0:Int),(0:Int),false,())).2.2.1,true),(!(List.getD x0 (Int.toNat x2) ((0:Int),(0:Int),false,())).2.2.1,true),(!(List.getD x0 (Int.toNat x2) ((0:Int),(0:Int),false,())).2.2.1,true),(!(List.getD x0 (Int.toNat x2) ((0:Int),(0:Int),false,())).2.2.1,true),(!(List.getD x0 (Int.toNat x2) ((0:Int),(0:Int),false,())).2.2.1,true),(!(List.getD x0 (Int.toNat x2) ((0:Int),(0:Int),false,())).2.2.1,true),(!(List.getD x0 (Int.toNat x2) ((0:Int),(0:Int),false,())).2.2.1,true),((List.getD b0_1 (Int.toNat x2) ((0:Int),false,())).2.1,true),((List.getD b0_1 (Int.toNat x2) ((0:Int),false,())).2.1,true),((List.getD b0_1 (Int.toNat x2) ((0:Int),false,())).2.1,true),((List.getD b0_1 (Int.toNat x2) ((0:Int),false,())).2.1,true),(decide ((0:Int) ≤ x2) && decide (x2 < (↑(List.length x0):Int)),true),((List.getD b0_1 (Int.toNat x2) ((0:Int),false,())).2.1,true),((List.getD b0_1 (Int.toNat x2) ((0:Int),false,())).2.1,true),((List.getD b0_1 (Int.toNat x2) ((0:Int),false,())).2.1,true),(!eqF r0.1 0,false),(Option.isSome (f32 (((List.getD b0_1 (Int.toNat x2) ((0:Int),false,())).1:Int),())),true),(decide ((0:Int) ≤ x2) && decide (x2 < (↑(List.length b0_1):Int)),true),(!leF (↑(List.length x0):Int) x2,true)])):=by kernel_rfl
theorem e36_0_2 (x0:(List (Int×(Int×(Bool×Unit))))) (x2:Int) (b0_0:Int) (b0_1:(List (Int×(Bool×Unit)))):runBody (kf33 Go.Proofs.Try.prog).orc Go.Proofs.Try.prog 400 36 0 sh36_0 shb36_0 shr36_0 ((x0,x2,()),(b0_0,b0_1,()),()) [tt,tt,tt,ff,tt,tt,tt,tt,tt,tt,tt,tt,ff,ff,ff,tt,ff,ff,ff,tt,tt,tt,ff,tt,ff,tt,tt,tt,tt,tt,tt] =
    (let r0:=g32 (((List.getD b0_1 (Int.toNat x2) ((0:Int),false,())).1:Int),()); some (.ret ((x2,((3:Int),())),((b0_0,(b0_1,())),())),[(true,true),(!eqF (List.getD b0_1 (Int.toNat x2) ((0:Int),false,())).1 (0:Int),true),(!eqF (List.getD b0_1 (Int.toNat x2) ((0:Int),false,())).1 (0:Int),true),(!eqF (List.getD b0_1 (Int.toNat x2) ((0:Int),false,())).1 (0:Int),true),(!eqF (List.getD b0_1 (Int.toNat x2) ((0:Int),false,())).1 (0:Int),true),(!eqF (List.getD b0_1 (Int.toNat x2) ((0:Int),false,())).1 (0:Int),true),(!(List.getD x0 (Int.toNat x2) ((0:Int),(0:Int),false,())).2.2.1,false),((List.getD x0 (Int.toNat x2) ((0:Int),(0:Int),false,())).2.2.1,true),(!(List.getD x0 (Int.toNat x2) ((0:Int),(0:Int),false,())).2.2.1,false),((List.getD x0 (Int.toNat x2) ((0:Int),(0:Int),false,())).2.2.1,true),((List.getD x0 (Int.toNat x2) ((0:Int),(0:Int),false,())).2.2.1,true),((List.getD x0 (Int.toNat x2) ((0:Int),(0:Int),false,())).2.2.1,true),(!(List.getD x0 (Int.toNat x2) ((0:Int),(0:Int),false,())).2.2.1,false),(!(List.getD x0 (Int.toNat x2) ((0:Int),(0:Int),false,())).2.2.1,false),(!(List.getD x0 (Int.toNat x2) ((0:Int),(0:Int),false,())).2.2.1,false),(decide ((0:Int) ≤ x2) && decide (x2 < (↑(List.length x0):Int)),true),(!(List.getD x0 (Int.toNat x2) ((0:Int),(0:Int),false,())).2.2.1,false),(!(List.getD x0 (Int.toNat x2) ((0:Int),(0:Int),false,())).2.2.1,false),(!(List.getD x0 (Int.toNat x2) ((0:Int),(0:Int),false,())).2.2.1,false),((List.getD b0_1 (Int.toNat x2) ((0:Int),false,())).2.1,true),((List.getD b0_1 (Int.toNat x2) ((0:Int),false,())).2.1,true),((List.getD b0_1 (Int.toNat x2) ((0:Int),false,())).2.1,true),((List.getD b0_1 (Int.toNat x2) ((0:Int),false,())).2.1,true),(decide ((0:Int) ≤ x2) && decide (x2 < (↑(List.length x0):Int)),true),((List.getD b0_1 (Int.toNat x2) ((0:Int),false,())).2.1,true),((List.getD b0_1 (Int.toNat x2) ((0:Int),false,())).2.1,true),((List.getD b0_1 (Int.toNat x2) ((0:Int),false,())).2.1,true),(!eqF r0.1 0,false),(Option.isSome (f32 (((List.getD b0_1 (Int.toNat x2) ((0:Int),false,())).1:Int),())),true),(decide ((0:Int) ≤ x2) && decide (x2 < (↑(List.length b0_1):Int)),true),(!leF (↑(List.length x0):Int) x2,true)])):=by kernel_rfl
theorem e36_0_3 (x0:(List (Int×(Int×(Bool×Unit))))) (x2:Int) (b0_0:Int) (b0_1:(List (Int×(Bool×Unit)))):runBody (kf33 Go.Proofs.Try.prog).orc Go.Proofs.Try.prog 400 36 0 sh36_0 shb36_0 shr36_0 ((x0,x2,()),(b0_0,b0_1,()),()) [tt,tt,tt,ff,tt,tt,tt,tt,tt,tt,tt,tt,ff,ff,ff,tt,ff,ff,ff,tt,tt,tt,ff,tt,ff,ff,ff,ff,tt,tt,tt,ff,tt,ff,ff,ff,ff,ff,ff,ff,ff,ff,ff,ff,ff,ff,ff,ff,ff] =
    (let r0:=g32 (((List.getD b0_1 (Int.toNat x2) ((0:Int),false,())).1:Int),()); some (.again ((x0,((wrap64 (x2 + (1:Int)):Int),())),((b0_0,(b0_1,())),())),[(false,false),(!(List.getD b0_1 (Int.toNat x2) ((0:Int),false,())).2.1,false),(!(List.getD b0_1 (Int.toNat x2) ((0:Int),false,())).2.1,false),(!(List.getD b0_1 (Int.toNat x2) ((0:Int),false,())).2.1,false),(!(List.getD b0_1 (Int.toNat x2) ((0:Int),false,())).2.1,false),(!(List.getD b0_1 (Int.toNat x2) ((0:Int),false,())).2.1,false),(!(List.getD b0_1 (Int.toNat x2) ((0:Int),false,())).2.1,false),(!(List.getD b0_1 (Int.toNat x2) ((0:Int),false,())).2.1,false),(!(List.getD b0_1 (Int.toNat x2) ((0:Int),false,())).2.1,false),(!(List.getD b0_1 (Int.toNat x2) ((0:Int),false,())).2.1,false),(!(List.getD b0_1 (Int.toNat x2) ((0:Int),false,())).2.1,false),(!(List.getD b0_1 (Int.toNat x2) ((0:Int),false,())).2.1,false),(!(List.getD b0_1 (Int.toNat x2) ((0:Int),false,())).2.1,false),(!(List.getD b0_1 (Int.toNat x2) ((0:Int),false,())).2.1,false),(!eqF (List.getD b0_1 (Int.toNat x2) ((0:Int),false,())).1 (0:Int),false),(!eqF (List.getD b0_1 (Int.toNat x2) ((0:Int),false,())).1 (0:Int),false),((List.getD b0_1 (Int.toNat x2) ((0:Int),false,())).2.1,true),(!eqF (List.getD b0_1 (Int.toNat x2) ((0:Int),false,())).1 (0:Int),false),((List.getD b0_1 (Int.toNat x2) ((0:Int),false,())).2.1,true),((List.getD b0_1 (Int.toNat x2) ((0:Int),false,())).2.1,true),((List.getD b0_1 (Int.toNat x2) ((0:Int),false,())).2.1,true),(!eqF (List.getD b0_1 (Int.toNat x2) ((0:Int),false,())).1 (0:Int),false),(!eqF (List.getD b0_1 (Int.toNat x2) ((0:Int),false,())).1 (0:Int),false),(!eqF (List.getD b0_1 (Int.toNat x2) ((0:Int),false,())).1 (0:Int),false),(!(List.getD x0 (Int.toNat x2) ((0:Int),(0:Int),false,())).2.2.1,false),((List.getD x0 (Int.toNat x2) ((0:Int),(0:Int),false,())).2.2.1,true),(!(List.getD x0 (Int.toNat x2) ((0:Int),(0:Int),false,())).2.2.1,false),((List.getD x0 (Int.toNat x2) ((0:Int),(0:Int),false,())).2.2.1,true),((List.getD x0 (Int.toNat x2) ((0:Int),(0:Int),false,())).2.2.1,true),((List.getD x0 (Int.toNat x2) ((0:Int),(0:Int),false,())).2.2.1,true),(!(List.getD x0 (Int.toNat x2) ((0:Int),(0:Int),false,())).2.2.1,false),(!(List.getD x0 (Int.toNat x2) ((0:Int),(0:Int),false,())).2.2.1,false),(!(List.getD x0 (Int.toNat x2) ((0:Int),(0:Int),false,())).2.2.1,false),(decide ((0:Int) ≤ x2) && decide (x2 < (↑(List.length x0):Int)),true),(!(List.getD x0 (Int.toNat x2) ((0:Int),(0:Int),false,())).2.2.1,false),(!(List.getD x0 (Int.toNat x2) ((0:Int),(0:Int),false,())).2.2.1,false),(!(List.getD x0 (Int.toNat x2) ((0:Int),(0:Int),false,())).2.2.1,false),((List.getD b0_1 (Int.toNat x2) ((0:Int),false,())).2.1,true),((List.getD b0_1 (Int.toNat x2) ((0:Int),false,())).2.1,true),((List.getD b0_1 (Int.toNat x2) ((0:Int),false,())).2.1,true),((List.getD b0_1 (Int.toNat x2) ((0:Int),false,())).2.1,true),(decide ((0:Int) ≤ x2) && decide (x2 < (↑(List.length x0):Int)),true),((List.getD b0_1 (Int.toNat x2) ((0:Int),false,())).2.1,true),((List.getD b0_1 (Int.toNat x2) ((0:Int),false,())).2.1,true),((List.getD b0_1 (Int.toNat x2) ((0:Int),false,())).2.1,true),(!eqF r0.1 0,false),(Option.isSome (f32 (((List.getD b0_1 (Int.toNat x2) ((0:Int),false,())).1:Int),())),true),(decide ((0:Int) ≤ x2) && decide (x2 < (↑(List.length b0_1):Int)),true),(!leF (↑(List.length x0):Int) x2,true)])):=by kernel_rfl
theorem e36_0_5 (x0:(List (Int×(Int×(Bool×Unit))))) (x2:Int) (b0_0:Int) (b0_1:(List (Int×(Bool×Unit)))):runBody (kf33 Go.Proofs.Try.prog).orc Go.Proofs.Try.prog 400 36 0 sh36_0 shb36_0 shr36_0 ((x0,x2,()),(b0_0,b0_1,()),()) [tt,tt,tt,ff,ff,ff,ff,ff,ff,ff,ff,ff,ff,ff,tt,ff,ff,ff,tt,tt,tt,ff,tt,ff,tt,tt,tt,tt,tt,tt] =
    (let r0:=g32 (((List.getD b0_1 (Int.toNat x2) ((0:Int),false,())).1:Int),()); some (.ret ((x2,((3:Int),())),((b0_0,(b0_1,())),())),[(true,true),(!eqF (List.getD b0_1 (Int.toNat x2) ((0:Int),false,())).1 (0:Int),true),(!eqF (List.getD b0_1 (Int.toNat x2) ((0:Int),false,())).1 (0:Int),true),(!eqF (List.getD b0_1 (Int.toNat x2) ((0:Int),false,())).1 (0:Int),true),(!eqF (List.getD b0_1 (Int.toNat x2) ((0:Int),false,())).1 (0:Int),true),(!eqF (List.getD b0_1 (Int.toNat x2) ((0:Int),false,())).1 (0:Int),true),(false,false),((List.getD x0 (Int.toNat x2) ((0:Int),(0:Int),false,())).2.2.1,true),(false,false),((List.getD x0 (Int.toNat x2) ((0:Int),(0:Int),false,())).2.2.1,true),((List.getD x0 (Int.toNat x2) ((0:Int),(0:Int),false,())).2.2.1,true),((List.getD x0 (Int.toNat x2) ((0:Int),(0:Int),false,())).2.2.1,true),(false,false),(false,false),(false,false),(decide ((0:Int) ≤ x2) && decide (x2 < (↑(List.length x0):Int)),true),(false,false),(false,false),(false,false),((List.getD b0_1 (Int.toNat x2) ((0:Int),false,())).2.1,false),((List.getD b0_1 (Int.toNat x2) ((0:Int),false,())).2.1,false),((List.getD b0_1 (Int.toNat x2) ((0:Int),false,())).2.1,false),((List.getD b0_1 (Int.toNat x2) ((0:Int),false,())).2.1,false),((List.getD b0_1 (Int.toNat x2) ((0:Int),false,())).2.1,false),((List.getD b0_1 (Int.toNat x2) ((0:Int),false,())).2.1,false),((List.getD b0_1 (Int.toNat x2) ((0:Int),false,())).2.1,false),(!eqF r0.1 0,false),(Option.isSome (f32 (((List.getD b0_1 (Int.toNat x2) ((0:Int),false,())).1:Int),())),true),(decide ((0:Int) ≤ x2) && decide (x2 < (↑(List.length b0_1):Int)),true),(!leF (↑(List.length x0):Int) x2,true)])):=by kernel_rfl
theorem e36_0_6 (x0:(List (Int×(Int×(Bool×Unit))))) (x2:Int) (b0_0:Int) (b0_1:(List (Int×(Bool×Unit)))):runBody (kf33 Go.Proofs.Try.prog).orc Go.Proofs.Try.prog 400 36 0 sh36_0 shb36_0 shr36_0 ((x0,x2,()),(b0_0,b0_1,()),()) [tt,tt,tt,ff,ff,ff,ff,ff,ff,ff,ff,ff,ff,ff,tt,ff,ff,ff,tt,tt,tt,ff,tt,ff,ff,ff,ff,ff,ff,ff,ff,ff,ff,ff,tt,tt,tt,tt,tt,tt,tt,tt,tt,tt,tt,tt,tt,tt,tt,tt] =
    (let r0:=g32 (((List.getD b0_1 (Int.toNat x2) ((0:Int),false,())).1:Int),());let r1:=g86 ((wrap64 (b0_0 - (List.getD b0_1 (Int.toNat x2) ((0:Int),false,())).1):Int),()); some (.ret ((x2,((22:Int),())),((b0_0,(b0_1,())),())),[(!leF r1.1 (List.getD x0 (Int.toNat x2) ((0:Int),(0:Int),false,())).2.1,true),(!(List.getD b0_1 (Int.toNat x2) ((0:Int),false,())).2.1,true),(!(List.getD b0_1 (Int.toNat x2) ((0:Int),false,())).2.1,true),(!(List.getD b0_1 (Int.toNat x2) ((0:Int),false,())).2.1,true),(!(List.getD b0_1 (Int.toNat x2) ((0:Int),false,())).2.1,true),(decide ((0:Int) ≤ x2) && decide (x2 < (↑(List.length x0):Int)),true),(!(List.getD b0_1 (Int.toNat x2) ((0:Int),false,())).2.1,true),(!(List.getD b0_1 (Int.toNat x2) ((0:Int),false,())).2.1,true),(!(List.getD b0_1 (Int.toNat x2) ((0:Int),false,())).2.1,true),(Option.isSome (f86 ((wrap64 (b0_0 - (List.getD b0_1 (Int.toNat x2) ((0:Int),false,())).1):Int),())),true),(!(List.getD b0_1 (Int.toNat x2) ((0:Int),false,())).2.1,true),(!(List.getD b0_1 (Int.toNat x2) ((0:Int),false,())).2.1,true),(!(List.getD b0_1 (Int.toNat x2) ((0:Int),false,())).2.1,true),(!(List.getD b0_1 (Int.toNat x2) ((0:Int),false,())).2.1,true),(!(List.getD b0_1 (Int.toNat x2) ((0:Int),false,())).2.1,true),(!(List.getD b0_1 (Int.toNat x2) ((0:Int),false,())).2.1,true),(false,false),(!eqF (List.getD b0_1 (Int.toNat x2) ((0:Int),false,())).1 (0:Int),false),((List.getD b0_1 (Int.toNat x2) ((0:Int),false,())).2.1,false),(!eqF (List.getD b0_1 (Int.toNat x2) ((0:Int),false,())).1 (0:Int),false),((List.getD b0_1 (Int.toNat x2) ((0:Int),false,())).2.1,false),((List.getD b0_1 (Int.toNat x2) ((0:Int),false,())).2.1,false),((List.getD b0_1 (Int.toNat x2) ((0:Int),false,())).2.1,false),(!eqF (List.getD b0_1 (Int.toNat x2) ((0:Int),false,())).1 (0:Int),false),(!eqF (List.getD b0_1 (Int.toNat x2) ((0:Int),false,())).1 (0:Int),false),(!eqF (List.getD b0_1 (Int.toNat x2) ((0:Int),false,())).1 (0:Int),false),(false,false),((List.getD x0 (Int.toNat x2) ((0:Int),(0:Int),false,())).2.2.1,true),(false,false),((List.getD x0 (Int.toNat x2) ((0:Int),(0:Int),false,())).2.2.1,true),((List.getD x0 (Int.toNat x2) ((0:Int),(0:Int),false,())).2.2.1,true),((List.getD x0 (Int.toNat x2) ((0:Int),(0:Int),false,())).2.2.1,true),(false,false),(false,false),(false,false),(decide ((0:Int) ≤ x2) && decide (x2 < (↑(List.length x0):Int)),true),(false,false),(false,false),(false,false),((List.getD b0_1 (Int.toNat x2) ((0:Int),false,())).2.1,false),((List.getD b0_1 (Int.toNat x2) ((0:Int),false,())).2.1,false),((List.getD b0_1 (Int.toNat x2) ((0:Int),false,())).2.1,false),((List.getD b0_1 (Int.toNat x2) ((0:Int),false,())).2.1,false),((List.getD b0_1 (Int.toNat x2) ((0:Int),false,())).2.1,false),((List.getD b0_1 (Int.toNat x2) ((0:Int),false,())).2.1,false),((List.getD b0_1 (Int.toNat x2) ((0:Int),false,())).2.1,false),(!eqF r0.1 0,false),(Option.isSome (f32 (((List.getD b0_1 (Int.toNat x2) ((0:Int),false,())).1:Int),())),true),(decide ((0:Int) ≤ x2) && decide (x2 < (↑(List.length b0_1):Int)),true),(!leF (↑(List.length x0):Int) x2,true)])):=by kernel_rfl
theorem e36_0_7 (x0:(List (Int×(Int×(Bool×Unit))))) (x2:Int) (b0_0:Int) (b0_1:(List (Int×(Bool×Unit)))):runBody (kf33 Go.Proofs.Try.prog).orc Go.Proofs.Try.prog 400 36 0 sh36_0 shb36_0 shr36_0 ((x0,x2,()),(b0_0,b0_1,()),()) [tt,tt,tt,ff,ff,ff,ff,ff,ff,ff,ff,ff,ff,ff,tt,ff,ff,ff,tt,tt,tt,ff,tt,ff,ff,ff,ff,ff,ff,ff,ff,ff,ff,ff,tt,tt,tt,tt,tt,tt,tt,tt,tt,tt,tt,tt,tt,tt,tt,ff] =
    (let r0:=g32 (((List.getD b0_1 (Int.toNat x2) ((0:Int),false,())).1:Int),());let r1:=g86 ((wrap64 (b0_0 - (List.getD b0_1 (Int.toNat x2) ((0:Int),false,())).1):Int),()); some (.again ((x0,((wrap64 (x2 + (1:Int)):Int),())),((b0_0,(b0_1,())),())),[(!leF r1.1 (List.getD x0 (Int.toNat x2) ((0:Int),(0:Int),false,())).2.1,false),(!(List.getD b0_1 (Int.toNat x2) ((0:Int),false,())).2.1,true),(!(List.getD b0_1 (Int.toNat x2) ((0:Int),false,())).2.1,true),(!(List.getD b0_1 (Int.toNat x2) ((0:Int),false,())).2.1,true),(!(List.getD b0_1 (Int.toNat x2) ((0:Int),false,())).2.1,true),(decide ((0:Int) ≤ x2) && decide (x2 < (↑(List.length x0):Int)),true),(!(List.getD b0_1 (Int.toNat x2) ((0:Int),false,())).2.1,true),(!(List.getD b0_1 (Int.toNat x2) ((0:Int),false,())).2.1,true),(!(List.getD b0_1 (Int.toNat x2) ((0:Int),false,())).2.1,true),(Option.isSome (f86 ((wrap64 (b0_0 - (List.getD b0_1 (Int.toNat x2) ((0:Int),false,())).1):Int),())),true),(!(List.getD b0_1 (Int.toNat x2) ((0:Int),false,())).2.1,true),(!(List.getD b0_1 (Int.toNat x2) ((0:Int),false,())).2.1,true),(!(List.getD b0_1 (Int.toNat x2) ((0:Int),false,())).2.1,true),(!(List.getD b0_1 (Int.toNat x2) ((0:Int),false,())).2.1,true),(!(List.getD b0_1 (Int.toNat x2) ((0:Int),false,())).2.1,true),(!(List.getD b0_1 (Int.toNat x2) ((0:Int),false,())).2.1,true),(false,false),(!eqF (List.getD b0_1 (Int.toNat x2) ((0:Int),false,())).1 (0:Int),false),((List.getD b0_1 (Int.toNat x2) ((0:Int),false,())).2.1,false),(!eqF (List.getD b0_1 (Int.toNat x2) ((0:Int),false,())).1 (0:Int),false),((List.getD b0_1 (Int.toNat x2) ((0:Int),false,())).2.1,false),((List.getD b0_1 (Int.toNat x2) ((0:Int),false,())).2.1,false),((List.getD b0_1 (Int.toNat x2) ((0:Int),false,())).2.1,false),(!eqF (List.getD b0_1 (Int.toNat x2) ((0:Int),false,())).1 (0:Int),false),(!eqF (List.getD b0_1 (Int.toNat x2) ((0:Int),false,())).1 (0:Int),false),(!eqF (List.getD b0_1 (Int.toNat x2) ((0:Int),false,())).1 (0:Int),false),(false,false),((List.getD x0 (Int.toNat x2) ((0:Int),(0:Int),false,())).2.2.1,true),(false,false),((List.getD x0 (Int.toNat x2) ((0:Int),(0:Int),false,())).2.2.1,true),((List.getD x0 (Int.toNat x2) ((0:Int),(0:Int),false,())).2.2.1,true),((List.getD x0 (Int.toNat x2) ((0:Int),(0:Int),false,())).2.2.1,true),(false,false),(false,false),(false,false),(decide ((0:Int) ≤ x2) && decide (x2 < (↑(List.length x0):Int)),true),(false,false),(false,false),(false,false),((List.getD b0_1 (Int.toNat x2) ((0:Int),false,())).2.1,false),((List.getD b0_1 (Int.toNat x2) ((0:Int),false,())).2.1,false),((List.getD b0_1 (Int.toNat x2) ((0:Int),false,())).2.1,false),((List.getD b0_1 (Int.toNat x2) ((0:Int),false,())).2.1,false),((List.getD b0_1 (Int.toNat x2) ((0:Int),false,())).2.1,false),((List.getD b0_1 (Int.toNat x2) ((0:Int),false,())).2.1,false),((List.getD b0_1 (Int.toNat x2) ((0:Int),false,())).2.1,false),(!eqF r0.1 0,false),(Option.isSome (f32 (((List.getD b0_1 (Int.toNat x2) ((0:Int),false,())).1:Int),())),true),(decide ((0:Int) ≤ x2) && decide (x2 < (↑(List.length b0_1):Int)),true),(!leF (↑(List.length x0):Int) x2,true)])):=by kernel_rfl
theorem e36_0_8 (x0:(List (Int×(Int×(Bool×Unit))))) (x2:Int) (b0_0:Int) (b0_1:(List (Int×(Bool×Unit)))):runBody (kf33 Go.Proofs.Try.prog).orc Go.Proofs.Try.prog 400 36 0 sh36_0 shb36_0 shr36_0 ((x0,x2,()),(b0_0,b0_1,()),()) [tt,tt,tt,ff,ff,ff,ff,ff,ff,ff,ff,ff,ff,ff,tt,ff,ff,ff,ff,ff,ff,ff,ff,ff,ff,ff,ff,ff,ff,ff,ff,ff,ff,ff,tt,tt,tt,tt,tt,tt,tt,tt,tt,tt,tt,tt,tt,tt,tt,tt] =
    (let r0:=g32 (((List.getD b0_1 (Int.toNat x2) ((0:Int),false,())).1:Int),());let r1:=g86 ((wrap64 (b0_0 - (List.getD b0_1 (Int.toNat x2) ((0:Int),false,())).1):Int),()); some (.ret ((x2,((22:Int),())),((b0_0,(b0_1,())),())),[(!leF r1.1 (List.getD x0 (Int.toNat x2) ((0:Int),(0:Int),false,())).2.1,true),(!(List.getD b0_1 (Int.toNat x2) ((0:Int),false,())).2.1,true),(!(List.getD b0_1 (Int.toNat x2) ((0:Int),false,())).2.1,true),(!(List.getD b0_1 (Int.toNat x2) ((0:Int),false,())).2.1,true),(!(List.getD b0_1 (Int.toNat x2) ((0:Int),false,())).2.1,true),(decide ((0:Int) ≤ x2) && decide (x2 < (↑(List.length x0):Int)),true),(!(List.getD b0_1 (Int.toNat x2) ((0:Int),false,())).2.1,true),(!(List.getD b0_1 (Int.toNat x2) ((0:Int),false,())).2.1,true),(!(List.getD b0_1 (Int.toNat x2) ((0:Int),false,())).2.1,true),(Option.isSome (f86 ((wrap64 (b0_0 - (List.getD b0_1 (Int.toNat x2) ((0:Int),false,())).1):Int),())),true),(!(List.getD b0_1 (Int.toNat x2) ((0:Int),false,())).2.1,true),(!(List.getD b0_1 (Int.toNat x2) ((0:Int),false,())).2.1,true),(!(List.getD b0_1 (Int.toNat x2) ((0:Int),false,())).2.1,true),(!(List.getD b0_1 (Int.toNat x2) ((0:Int),false,())).2.1,true),(!(List.getD b0_1 (Int.toNat x2) ((0:Int),false,())).2.1,true),(!(List.getD b0_1 (Int.toNat x2) ((0:Int),false,())).2.1,true),(false,false),(false,false),((List.getD b0_1 (Int.toNat x2) ((0:Int),false,())).2.1,false),(false,false),((List.getD b0_1 (Int.toNat x2) ((0:Int),false,())).2.1,false),((List.getD b0_1 (Int.toNat x2) ((0:Int),false,())).2.1,false),((List.getD b0_1 (Int.toNat x2) ((0:Int),false,())).2.1,false),(false,false),(false,false),(false,false),(false,false),((List.getD x0 (Int.toNat x2) ((0:Int),(0:Int),false,())).2.2.1,false),(false,false),((List.getD x0 (Int.toNat x2) ((0:Int),(0:Int),false,())).2.2.1,false),((List.getD x0 (Int.toNat x2) ((0:Int),(0:Int),false,())).2.2.1,false),((List.getD x0 (Int.toNat x2) ((0:Int),(0:Int),false,())).2.2.1,false),(false,false),(false,false),(false,false),(decide ((0:Int) ≤ x2) && decide (x2 < (↑(List.length x0):Int)),true),(false,false),(false,false),(false,false),((List.getD b0_1 (Int.toNat x2) ((0:Int),false,())).2.1,false),((List.getD b0_1 (Int.toNat x2) ((0:Int),false,())).2.1,false),((List.getD b0_1 (Int.toNat x2) ((0:Int),false,())).2.1,false),((List.getD b0_1 (Int.toNat x2) ((0:Int),false,())).2.1,false),((List.getD b0_1 (Int.toNat x2) ((0:Int),false,())).2.1,false),((List.getD b0_1 (Int.toNat x2) ((0:Int),false,())).2.1,false),((List.getD b0_1 (Int.toNat x2) ((0:Int),false,())).2.1,false),(!eqF r0.1 0,false),(Option.isSome (f32 (((List.getD b0_1 (Int.toNat x2) ((0:Int),false,())).1:Int),())),true),(decide ((0:Int) ≤ x2) && decide (x2 < (↑(List.length b0_1):Int)),true),(!leF (↑(List.length x0):Int) x2,true)])):=by kernel_rfl
theorem e36_0_9 (x0:(List (Int×(Int×(Bool×Unit))))) (x2:Int) (b0_0:Int) (b0_1:(List (Int×(Bool×Unit)))):runBody (kf33 Go.Proofs.Try.prog).orc Go.Proofs.Try.prog 400 36 0 sh36_0 shb36_0 shr36_0 ((x0,x2,()),(b0_0,b0_1,()),()) [tt,tt,tt,ff,ff,ff,ff,ff,ff,ff,ff,ff,ff,ff,tt,ff,ff,ff,ff,ff,ff,ff,ff,ff,ff,ff,ff,ff,ff,ff,ff,ff,ff,ff,tt,tt,tt,tt,tt,tt,tt,tt,tt,tt,tt,tt,tt,tt,tt,ff] =
    (let r0:=g32 (((List.getD b0_1 (Int.toNat x2) ((0:Int),false,())).1:Int),());let r1:=g86 ((wrap64 (b0_0 - (List.getD b0_1 (Int.toNat x2) ((0:Int),false,())).1):Int),()); some (.again ((x0,((wrap64 (x2 + (1:Int)):Int),())),((b0_0,(b0_1,())),())),[(!leF r1.1 (List.getD x0 (Int.toNat x2) ((0:Int),(0:Int),false,())).2.1,false),(!(List.getD b0_1 (Int.toNat x2) ((0:Int),false,())).2.1,true),(!(List.getD b0_1 (Int.toNat x2) ((0:Int),false,())).2.1,true),(!(List.getD b0_1 (Int.toNat x2) ((0:Int),false,())).2.1,true),(!(List.getD b0_1 (Int.toNat x2) ((0:Int),false,())).2.1,true),(decide ((0:Int) ≤ x2) && decide (x2 < (↑(List.length x0):Int)),true),(!(List.getD b0_1 (Int.toNat x2) ((0:Int),false,())).2.1,true),(!(List.getD b0_1 (Int.toNat x2) ((0:Int),false,())).2.1,true),(!(List.getD b0_1 (Int.toNat x2) ((0:Int),false,())).2.1,true),(Option.isSome (f86 ((wrap64 (b0_0 - (List.getD b0_1 (Int.toNat x2) ((0:Int),false,())).1):Int),())),true),(!(List.getD b0_1 (Int.toNat x2) ((0:Int),false,())).2.1,true),(!(List.getD b0_1 (Int.toNat x2) ((0:Int),false,())).2.1,true),(!(List.getD b0_1 (Int.toNat x2) ((0:Int),false,())).2.1,true),(!(List.getD b0_1 (Int.toNat x2) ((0:Int),false,())).2.1,true),(!(List.getD b0_1 (Int.toNat x2) ((0:Int),false,())).2.1,true),(!(List.getD b0_1 (Int.toNat x2) ((0:Int),false,())).2.1,true),(false,false),(false,false),((List.getD b0_1 (Int.toNat x2) ((0:Int),false,())).2.1,false),(false,false),((List.getD b0_1 (Int.toNat x2) ((0:Int),false,())).2.1,false),((List.getD b0_1 (Int.toNat x2) ((0:Int),false,())).2.1,false),((List.getD b0_1 (Int.toNat x2) ((0:Int),false,())).2.1,false),(false,false),(false,false),(false,false),(false,false),((List.getD x0 (Int.toNat x2) ((0:Int),(0:Int),false,())).2.2.1,false),(false,false),((List.getD x0 (Int.toNat x2) ((0:Int),(0:Int),false,())).2.2.1,false),((List.getD x0 (Int.toNat x2) ((0:Int),(0:Int),false,())).2.2.1,false),((List.getD x0 (Int.toNat x2) ((0:Int),(0:Int),false,())).2.2.1,false),(false,false),(false,false),(false,false),(decide ((0:Int) ≤ x2) && decide (x2 < (↑(List.length x0):Int)),true),(false,false),(false,false),(false,false),((List.getD b0_1 (Int.toNat x2) ((0:Int),false,())).2.1,false),((List.getD b0_1 (Int.toNat x2) ((0:Int),false,())).2.1,false),((List.getD b0_1 (Int.toNat x2) ((0:Int),false,())).2.1,false),((List.getD b0_1 (Int.toNat x2) ((0:Int),false,())).2.1,false),((List.getD b0_1 (Int.toNat x2) ((0:Int),false,())).2.1,false),((List.getD b0_1 (Int.toNat x2) ((0:Int),false,())).2.1,false),((List.getD b0_1 (Int.toNat x2) ((0:Int),false,())).2.1,false),(!eqF r0.1 0,false),(Option.isSome (f32 (((List.getD b0_1 (Int.toNat x2) ((0:Int),false,())).1:Int),())),true),(decide ((0:Int) ≤ x2) && decide (x2 < (↑(List.length b0_1):Int)),true),(!leF (↑(List.length x0):Int) x2,true)])):=by kernel_rfl
theorem e36_0_12 (x0:(List (Int×(Int×(Bool×Unit))))) (x2:Int) (b0_0:Int) (b0_1:(List (Int×(Bool×Unit)))):runBody (kf33 Go.Proofs.Try.prog).orc Go.Proofs.Try.prog 400 36 0 sh36_0 shb36_0 shr36_0 ((x0,x2,()),(b0_0,b0_1,()),()) [ff] =
    (some (.brk ((),((b0_0,(b0_1,())),())),[(!leF (↑(List.length x0):Int) x2,false)])):=by kernel_rfl
theorem ok36_0_t (x0:(List (Int×(Int×(Bool×Unit))))) (x2:Int) (b0_0:Int) (b0_1:(List (Int×(Bool×Unit)))):TrOk (BodyRuns Go.Proofs.Try.prog (kf33 Go.Proofs.Try.prog).orc 36 0 sh36_0 shb36_0 shr36_0 ((x0,x2,()),(b0_0,b0_1,()),())) (t36_0 x0 x2 b0_0 b0_1) :=
  TrOk.ofTest (fun h0=>TrOk.ofTest (fun h1=>TrOk.ofTest (fun h2=>TrOk.ofTest (fun h3=>TrOk.ofFin (BodyRuns.of (e36_0_0 x0 x2 b0_0 b0_1) (ac h3 (ac h2 (ac h1 (ac h0 All.nil)))))) (fun h3=>TrOk.ofTest (fun h4=>TrOk.ofTest (fun h7=>TrOk.ofTest (fun h12=>TrOk.ofFin (BodyRuns.of (e36_0_1 x0 x2 b0_0 b0_1) (ac rfl (ac rfl (ac rfl (ac rfl (ac rfl (ac rfl (ac (nn h12) (ac (nn h12) (ac (nn h12) (ac (nn h12) (ac (nn h12) (ac (nn h12) (ac (nn h12) (ac h12 (ac h4 (ac h4 (ac h4 (ac h4 (ac h7 (ac h4 (ac h4 (ac h4 (ac h3 (ac h2 (ac h1 (ac h0 All.nil)))))))))))))))))))))))))))) (fun h12=>TrOk.ofTest (fun h25=>TrOk.ofFin (BodyRuns.of (e36_0_2 x0 x2 b0_0 b0_1) (ac rfl (ac (nn h25) (ac (nn h25) (ac (nn h25) (ac (nn h25) (ac h25 (ac (nn h12) (ac (of_not h12) (ac (nn h12) (ac (of_not h12) (ac (of_not h12) (ac (of_not h12) (ac (nn h12) (ac (nn h12) (ac (nn h12) (ac h7 (ac (nn h12) (ac (nn h12) (ac h12 (ac h4 (ac h4 (ac h4 (ac h4 (ac h7 (ac h4 (ac h4 (ac h4 (ac h3 (ac h2 (ac h1 (ac h0 All.nil))))))))))))))))))))))))))))))))) (fun h25=>TrOk.ofFin (BodyRuns.of (e36_0_3 x0 x2 b0_0 b0_1) (ac rfl (ac (not_of h4) (ac (not_of h4) (ac (not_of h4) (ac (not_of h4) (ac (not_of h4) (ac (not_of h4) (ac (not_of h4) (ac (not_of h4) (ac (not_of h4) (ac (not_of h4) (ac (not_of h4) (ac (not_of h4) (ac (not_of h4) (ac (nn h25) (ac (nn h25) (ac h4 (ac (nn h25) (ac h4 (ac h4 (ac h4 (ac (nn h25) (ac (nn h25) (ac h25 (ac (nn h12) (ac (of_not h12) (ac (nn h12) (ac (of_not h12) (ac (of_not h12) (ac (of_not h12) (ac (nn h12) (ac (nn h12) (ac (nn h12) (ac h7 (ac (nn h12) (ac (nn h12) (ac h12 (ac h4 (ac h4 (ac h4 (ac h4 (ac h7 (ac h4 (ac h4 (ac h4 (ac h3 (ac h2 (ac h1 (ac h0 All.nil))))))))))))))))))))))))))))))))))))))))))))))))))))) (fun h7=>TrOk.ofStop)) (fun h4=>TrOk.ofTest (fun h14=>TrOk.ofTest (fun h18=>TrOk.ofTest (fun h24=>TrOk.ofFin (BodyRuns.of (e36_0_5 x0 x2 b0_0 b0_1) (ac rfl (ac (nn h24) (ac (nn h24) (ac (nn h24) (ac (nn h24) (ac h24 (ac rfl (ac h18 (ac rfl (ac h18 (ac h18 (ac h18 (ac rfl (ac rfl (ac rfl (ac h14 (ac rfl (ac rfl (ac rfl (ac h4 (ac h4 (ac h4 (ac h4 (ac h4 (ac h4 (ac h4 (ac h3 (ac h2 (ac h1 (ac h0 All.nil)))))))))))))))))))))))))))))))) (fun h24=>TrOk.ofTest (fun h40=>TrOk.ofTest (fun h49=>TrOk.ofFin (BodyRuns.of (e36_0_6 x0 x2 b0_0 b0_1) (ac h49 (ac (not_of h4) (ac (not_of h4) (ac (not_of h4) (ac (not_of h4) (ac h14 (ac (not_of h4) (ac (not_of h4) (ac (not_of h4) (ac h40 (ac (not_of h4) (ac (not_of h4) (ac (not_of h4) (ac (not_of h4) (ac (not_of h4) (ac (not_of h4) (ac rfl (ac (nn h24) (ac h4 (ac (nn h24) (ac h4 (ac h4 (ac h4 (ac (nn h24) (ac (nn h24) (ac h24 (ac rfl (ac h18 (ac rfl (ac h18 (ac h18 (ac h18 (ac rfl (ac rfl (ac rfl (ac h14 (ac rfl (ac rfl (ac rfl (ac h4 (ac h4 (ac h4 (ac h4 (ac h4 (ac h4 (ac h4 (ac h3 (ac h2 (ac h1 (ac h0 All.nil)))))))))))))))))))))))))))))))))))))))))))))))))))) (fun h49=>TrOk.ofFin (BodyRuns.of (e36_0_7 x0 x2 b0_0 b0_1) (ac h49 (ac (not_of h4) (ac (not_of h4) (ac (not_of h4) (ac (not_of h4) (ac h14 (ac (not_of h4) (ac (not_of h4) (ac (not_of h4) (ac h40 (ac (not_of h4) (ac (not_of h4) (ac (not_of h4) (ac (not_of h4) (ac (not_of h4) (ac (not_of h4) (ac rfl (ac (nn h24) (ac h4 (ac (nn h24) (ac h4 (ac h4 (ac h4 (ac (nn h24) (ac (nn h24) (ac h24 (ac rfl (ac h18 (ac rfl (ac h18 (ac h18 (ac h18 (ac rfl (ac rfl (ac rfl (ac h14 (ac rfl (ac rfl (ac rfl (ac h4 (ac h4 (ac h4 (ac h4 (ac h4 (ac h4 (ac h4 (ac h3 (ac h2 (ac h1 (ac h0 All.nil))))))))))))))))))))))))))))))))))))))))))))))))))))) (fun h40=>TrOk.ofStop))) (fun h18=>TrOk.ofTest (fun h40=>TrOk.ofTest (fun h49=>TrOk.ofFin (BodyRuns.of (e36_0_8 x0 x2 b0_0 b0_1) (ac h49 (ac (not_of h4) (ac (not_of h4) (ac (not_of h4) (ac (not_of h4) (ac h14 (ac (not_of h4) (ac (not_of h4) (ac (not_of h4) (ac h40 (ac (not_of h4) (ac (not_of h4) (ac (not_of h4) (ac (not_of h4) (ac (not_of h4) (ac (not_of h4) (ac rfl (ac rfl (ac h4 (ac rfl (ac h4 (ac h4 (ac h4 (ac rfl (ac rfl (ac rfl (ac rfl (ac h18 (ac rfl (ac h18 (ac h18 (ac h18 (ac rfl (ac rfl (ac rfl (ac h14 (ac rfl (ac rfl (ac rfl (ac h4 (ac h4 (ac h4 (ac h4 (ac h4 (ac h4 (ac h4 (ac h3 (ac h2 (ac h1 (ac h0 All.nil)))))))))))))))))))))))))))))))))))))))))))))))))))) (fun h49=>TrOk.ofFin (BodyRuns.of (e36_0_9 x0 x2 b0_0 b0_1) (ac h49 (ac (not_of h4) (ac (not_of h4) (ac (not_of h4) (ac (not_of h4) (ac h14 (ac (not_of h4) (ac (not_of h4) (ac (not_of h4) (ac h40 (ac (not_of h4) (ac (not_of h4) (ac (not_of h4) (ac (not_of h4) (ac (not_of h4) (ac (not_of h4) (ac rfl (ac rfl (ac h4 (ac rfl (ac h4 (ac h4 (ac h4 (ac rfl (ac rfl (ac rfl (ac rfl (ac h18 (ac rfl (ac h18 (ac h18 (ac h18 (ac rfl (ac rfl (ac rfl (ac h14 (ac rfl (ac rfl (ac rfl (ac h4 (ac h4 (ac h4 (ac h4 (ac h4 (ac h4 (ac h4 (ac h3 (ac h2 (ac h1 (ac h0 All.nil))))))))))))))))))))))))))))))))))))))))))))))))))))) (fun h40=>TrOk.ofStop))) (fun h14=>TrOk.ofStop)))) (fun h2=>TrOk.ofStop)) (fun h1=>TrOk.ofStop)) (fun h0=>TrOk.ofFin (BodyRuns.of (e36_0_12 x0 x2 b0_0 b0_1) (ac h0 All.nil)))
theorem ok36_0:LoopOk Go.Proofs.Try.prog 36 0 lc36_0:=loopOk_of (sh:=sh36_0) (shB:=shb36_0) (shR:=shr36_0) kf33_ok.base (T:=fun (d:sh36_0.data)=>t36_0 d.1.1 d.1.2.1 d.2.1.1 d.2.1.2.1) (by kernel_rfl) rfl (fun (d:sh36_0.data)=>ok36_0_t d.1.1 d.1.2.1 d.2.1.1 d.2.1.2.1) (fun _=>rfl)
def kl36_0 (P:Go.Program):Known:=(kf33 P).loop 36 0 lc36_0
theorem kl36_0_ok:KnownOk Go.Proofs.Try.prog (kl36_0 Go.Proofs.Try.prog):=kf33_ok.loop ok36_0
abbrev as36:List Ty:=[(.slice (.pair (.int .i64) (.pair (.int .i64) (.pair .bool .unit)))),(.pair (.int .i64) (.pair (.slice (.pair (.int .i64) (.pair .bool .unit))) .unit))]
abbrev rs36:List Ty:=[(.int .i64),(.int .i64)]
def t36 (x0:(List (Int×(Int×(Bool×Unit))))) (x1:Int) (x1':(List (Int×(Bool×Unit)))):Tr (Tys.data rs36) :=
  Tr.test (Option.isSome (f32 (x1,())))
    (let r0:=g32 (x1,());
    Tr.test ((!eqF r0.1 0:Bool))
      (Tr.fin (((0:Int),(r0.1,()))))
      (Tr.test ((!eqF (↑(List.length x1'):Int) (↑(List.length x0):Int):Bool))
        (Tr.fin (((0:Int),((10:Int),()))))
        (Tr.test (Option.isSome (l36_0 ((x0,((0:Int),())),((x1,(x1',())),()))))
          (Tr.test (isRet (l36_0 ((x0,((0:Int),())),((x1,(x1',())),()))))
            (let r1:=r36_0 ((x0,((0:Int),())),((x1,(x1',())),()));
            Tr.fin ((r1.1.1,(r1.1.2.1,()))))
            (Tr.fin (((0:Int),((0:Int),())))))
          (Tr.stop))))
    (Tr.stop)
def f36 (d:Tys.data as36):Option (Tys.data rs36):=(t36 d.1 d.2.1.1 d.2.1.2.1).val
def g36 (d:Tys.data as36):Tys.data rs36:=(f36 d).getD (Tys.dflt rs36)
def p36:PureC:=pcOf as36 rs36 f36 g36
theorem wk36 (x0:(List (Int×(Int×(Bool×Unit))))) (x1:Int) (x1':(List (Int×(Bool×Unit)))):Walks (runPure (kl36_0 Go.Proofs.Try.prog).orc Go.Proofs.Try.prog 400 36 as36 rs36 (x0,(x1,x1',()),())) (t36 x0 x1 x1') [(bl 2 3,[2,4]),(bl 3 5,[2,4,6]),(bl 5 25,[2,4,6,8,10]),(bl 5 9,[2,4,6,8,10])] :=
  ⟨by kernel_rfl,by kernel_rfl,by kernel_rfl,by kernel_rfl,trivial⟩
theorem ok36_t (x0:(List (Int×(Int×(Bool×Unit))))) (x1:Int) (x1':(List (Int×(Bool×Unit)))):TrOk (PureRuns Go.Proofs.Try.prog (kl36_0 Go.Proofs.Try.prog).orc 36 as36 rs36 (x0,(x1,x1',()),())) (t36 x0 x1 x1') :=
  Walks.ok (fun _ _ _=>PureRuns.of) (wk36 x0 x1 x1') (by kernel_rfl)
theorem ok36:PureOk Go.Proofs.Try.prog 36 p36:=pureOk_of kl36_0_ok.base (T:=fun (d:Tys.data as36)=>t36 d.1 d.2.1.1 d.2.1.2.1) (by kernel_rfl) (fun (d:Tys.data as36)=>ok36_t d.1 d.2.1.1 d.2.1.2.1)
def kf36 (P:Go.Program):Known:=(kl36_0 P).func 36 p36
theorem kf36_ok:KnownOk Go.Proofs.Try.prog (kf36 Go.Proofs.Try.prog):=kl36_0_ok.func ok36
abbrev sh37_0:Sh:={ n:=42,slots:=[0,3,5,6],pats:=[.ty (.slice (.pair (.int .i64) (.pair (.int .i64) (.pair .bool .unit)))),.ptr 0 2 0,.ty (.int .i64),.ty (.int .i64)],boxes:=[.row [.ty (.int .i64),.ty (.slice (.pair (.int .i64) (.pair .bool .unit)))]] }
abbrev shb37_0:Sh:={ n:=42,slots:=[5],pats:=[.ty (.int .i64)],boxes:=[.row [.ty (.int .i64),.ty (.slice (.pair (.int .i64) (.pair .bool .unit)))]] }
abbrev shr37_0:Sh:={ n:=42,slots:=[],pats:=[],boxes:=[.row [.ty (.int .i64),.ty (.slice (.pair (.int .i64) (.pair .bool .unit)))]] }
def t37_0 (x0:(List (Int×(Int×(Bool×Unit))))) (x2:Int) (x3:Int) (b0_0:Int) (b0_1:(List (Int×(Bool×Unit)))):Tr (Out sh37_0.data shb37_0.data shr37_0.data) :=
  Tr.test ((!leF (↑(List.length x0):Int) x3:Bool))
    (Tr.test (decide ((0:Int) ≤ x3) && decide (x3 < (↑(List.length b0_1):Int)))
      (Tr.test ((!(List.getD b0_1 (Int.toNat x3) ((0:Int),false,())).2.1:Bool))
        (Tr.test ((decide ((0:Int) ≤ x3) && decide (x3 < (↑(List.length x0):Int)):Bool))
          (Tr.fin (.again ((x0,((wrap64 (x2 + wrap64 (wrap64 ((List.getD x0 (Int.toNat x3) ((0:Int),(0:Int),false,())).1 * wrap64 (b0_0 - (List.getD b0_1 (Int.toNat x3) ((0:Int),false,())).1)) * wrap64 (b0_0 - (List.getD b0_1 (Int.toNat x3) ((0:Int),false,())).1))):Int),((wrap64 (x3 + (1:Int)):Int),()))),((b0_0,(b0_1,())),()))))
          (Tr.stop))
        (Tr.fin (.again ((x0,(x2,((wrap64 (x3 + (1:Int)):Int),()))),((b0_0,(b0_1,())),())))))
      (Tr.stop))
    (Tr.fin (.brk ((x2,()),((b0_0,(b0_1,())),()))))
def s37_0 (d:sh37_0.data):Option (Out sh37_0.data shb37_0.data shr37_0.data):=(t37_0 d.1.1 d.1.2.1 d.1.2.2.1 d.2.1.1 d.2.1.2.1).val
def l37_0 (d:sh37_0.data):Option (shb37_0.data ⊕ shr37_0.data):=itr s37_0 rounds d
def b37_0 (d:sh37_0.data):shb37_0.data:=outB shb37_0.dflt (l37_0 d)
def lc37_0:LoopC:=lcB sh37_0 shb37_0 shr37_0 l37_0 b37_0
theorem wk37_0 (x0:(List (Int×(Int×(Bool×Unit))))) (x2:Int) (x3:Int) (b0_0:Int) (b0_1:(List (Int×(Bool×Unit)))):Walks (runBody (kf36 Go.Proofs.Try.prog).orc Go.Proofs.Try.prog 400 37 0 sh37_0 shb37_0 shr37_0 ((x0,x2,x3,()),(b0_0,b0_1,()),())) (t37_0 x0 x2 x3 b0_0 b0_1) [(bl 4 15,[2,4,6,6,8]),(bl 3 3,[2,4,4,6]),(bl 1 0,[2])] :=
  ⟨by kernel_rfl,by kernel_rfl,by kernel_rfl,trivial⟩
theorem ok37_0_t (x0:(List (Int×(Int×(Bool×Unit))))) (x2:Int) (x3:Int) (b0_0:Int) (b0_1:(List (Int×(Bool×Unit)))):TrOk (BodyRuns Go.Proofs.Try.prog (kf36 Go.Proofs.Try.prog).orc 37 0 sh37_0 shb37_0 shr37_0 ((x0,x2,x3,()),(b0_0,b0_1,()),())) (t37_0 x0 x2 x3 b0_0 b0_1) :=
  Walks.ok (fun _ _ _=>BodyRuns.of) (wk37_0 x0 x2 x3 b0_0 b0_1) (by kernel_rfl)
theorem ok37_0:LoopOk Go.Proofs.Try.prog 37 0 lc37_0:=loopOk_ofB (sh:=sh37_0) (shB:=shb37_0) (shR:=shr37_0) kf36_ok.base (T:=fun (d:sh37_0.data)=>t37_0 d.1.1 d.1.2.1 d.1.2.2.1 d.2.1.1 d.2.1.2.1) (by kernel_rfl) rfl (fun (d:sh37_0.data)=>ok37_0_t d.1.1 d.1.2.1 d.1.2.2.1 d.2.1.1 d.2.1.2.1) (fun _=>rfl)
def kl37_0 (P:Go.Program):Known:=(kf36 P).loop 37 0 lc37_0
theorem kl37_0_ok:KnownOk Go.Proofs.Try.prog (kl37_0 Go.Proofs.Try.prog):=kf36_ok.loop ok37_0
abbrev as37:List Ty:=[(.slice (.pair (.int .i64) (.pair (.int .i64) (.pair .bool .unit)))),(.pair (.int .i64) (.pair (.slice (.pair (.int .i64) (.pair .bool .unit))) .unit))]
abbrev rs37:List Ty:=[(.int .i64)]
def t37 (x0:(List (Int×(Int×(Bool×Unit))))) (x1:Int) (x1':(List (Int×(Bool×Unit)))):Tr (Tys.data rs37) :=
  Tr.test (isBrk (l37_0 ((x0,((0:Int),((0:Int),()))),((x1,(x1',())),()))))
    (let r0:=b37_0 ((x0,((0:Int),((0:Int),()))),((x1,(x1',())),()));
    Tr.fin ((r0.1.1,())))
    (Tr.stop)
def f37 (d:Tys.data as37):Option (Tys.data rs37):=(t37 d.1 d.2.1.1 d.2.1.2.1).val
def g37 (d:Tys.data as37):Tys.data rs37:=(f37 d).getD (Tys.dflt rs37)
def p37:PureC:=pcOf as37 rs37 f37 g37
theorem wk37 (x0:(List (Int×(Int×(Bool×Unit))))) (x1:Int) (x1':(List (Int×(Bool×Unit)))):Walks (runPure (kl37_0 Go.Proofs.Try.prog).orc Go.Proofs.Try.prog 400 37 as37 rs37 (x0,(x1,x1',()),())) (t37 x0 x1 x1') [(bl 1 1,[1,2])] :=
  ⟨by kernel_rfl,trivial⟩
theorem ok37_t (x0:(List (Int×(Int×(Bool×Unit))))) (x1:Int) (x1':(List (Int×(Bool×Unit)))):TrOk (PureRuns Go.Proofs.Try.prog (kl37_0 Go.Proofs.Try.prog).orc 37 as37 rs37 (x0,(x1,x1',()),())) (t37 x0 x1 x1') :=
  Walks.ok (fun _ _ _=>PureRuns.of) (wk37 x0 x1 x1') (by kernel_rfl)
theorem ok37:PureOk Go.Proofs.Try.prog 37 p37:=pureOk_of kl37_0_ok.base (T:=fun (d:Tys.data as37)=>t37 d.1 d.2.1.1 d.2.1.2.1) (by kernel_rfl) (fun (d:Tys.data as37)=>ok37_t d.1 d.2.1.1 d.2.1.2.1)
def kf37 (P:Go.Program):Known:=(kl37_0 P).func 37 p37
theorem kf37_ok:KnownOk Go.Proofs.Try.prog (kf37 Go.Proofs.Try.prog):=kl37_0_ok.func ok37
abbrev sh38_0:Sh:={ n:=117,slots:=[0,2,4,6,7,8],pats:=[.ty (.slice (.pair (.int .i64) (.pair (.int .i64) (.pair .bool .unit)))),.ty (.int .i64),.ptr 0 2 0,.ptr 1 2 0,.ptr 2 2 0,.ty (.int .i64)],boxes:=[.row [.ty (.int .i64),.ty (.slice (.pair (.int .i64) (.pair .bool .unit)))],.row [.ty (.int .i64),.ty (.int .i64)],.row [.ty (.int .i64),.ty (.int .i64)]] }
abbrev shb38_0:Sh:={ n:=117,slots:=[6,7],pats:=[.ptr 1 2 0,.ptr 2 2 0],boxes:=[.row [.ty (.int .i64),.ty (.slice (.pair (.int .i64) (.pair .bool .unit)))],.row [.ty (.int .i64),.ty (.int .i64)],.row [.ty (.int .i64),.ty (.int .i64)]] }
abbrev shr38_0:Sh:={ n:=117,slots:=[],pats:=[],boxes:=[.row [.ty (.int .i64),.ty (.slice (.pair (.int .i64) (.pair .bool .unit)))],.row [.ty (.int .i64),.ty (.int .i64)],.row [.ty (.int .i64),.ty (.int .i64)]] }
def t38_0 (x0:(List (Int×(Int×(Bool×Unit))))) (x1:Int) (x5:Int) (b0_0:Int) (b0_1:(List (Int×(Bool×Unit)))) (b1_0:Int) (b1_1:Int) (b2_0:Int) (b2_1:Int):Tr (Out sh38_0.data shb38_0.data shr38_0.data) :=
  Tr.test ((!leF (↑(List.length x0):Int) x5:Bool))
    (Tr.test (decide ((0:Int) ≤ x5) && decide (x5 < (↑(List.length b0_1):Int)))
      (Tr.test (((List.getD b0_1 (Int.toNat x5) ((0:Int),false,())).2.1:Bool))
        (Tr.fin (.again ((x0,(x1,((wrap64 (x5 + (1:Int)):Int),()))),((b0_0,(b0_1,())),((b1_0,(b1_1,())),((b2_0,(b2_1,())),()))))))
        (Tr.test ((decide ((0:Int) ≤ x5) && decide (x5 < (↑(List.length x0):Int)):Bool))
          (Tr.test (Option.isSome (f86 ((wrap64 (x1 - (List.getD b0_1 (Int.toNat x5) ((0:Int),false,())).1):Int),())))
            (let r0:=g86 ((wrap64 (x1 - (List.getD b0_1 (Int.toNat x5) ((0:Int),false,())).1):Int),());
            Tr.test ((leF r0.1 (List.getD x0 (Int.toNat x5) ((0:Int),(0:Int),false,())).2.1:Bool))
              (Tr.fin (.again ((x0,(x1,((wrap64 (x5 + (1:Int)):Int),()))),((b0_0,(b0_1,())),((b1_0,(b1_1,())),(((wrap64 (b2_0 + wrap64 ((List.getD x0 (Int.toNat x5) ((0:Int),(0:Int),false,())).1 * wrap64 (wrap64 (wrap64 (x1 - (List.getD b0_1 (Int.toNat x5) ((0:Int),false,())).1) * wrap64 (x1 - (List.getD b0_1 (Int.toNat x5) ((0:Int),false,())).1)) - wrap64 (wrap64 (b0_0 - (List.getD b0_1 (Int.toNat x5) ((0:Int),false,())).1) * wrap64 (b0_0 - (List.getD b0_1 (Int.toNat x5) ((0:Int),false,())).1))))):Int),(b2_1,())),()))))))
              (Tr.test (((List.getD x0 (Int.toNat x5) ((0:Int),(0:Int),false,())).2.2.1:Bool))
                (Tr.fin (.again ((x0,(x1,((wrap64 (x5 + (1:Int)):Int),()))),((b0_0,(b0_1,())),((b1_0,(b1_1,())),(((wrap64 (b2_0 + wrap64 ((List.getD x0 (Int.toNat x5) ((0:Int),(0:Int),false,())).1 * wrap64 (wrap64 ((List.getD x0 (Int.toNat x5) ((0:Int),(0:Int),false,())).2.1 * (List.getD x0 (Int.toNat x5) ((0:Int),(0:Int),false,())).2.1) - wrap64 (wrap64 (b0_0 - (List.getD b0_1 (Int.toNat x5) ((0:Int),false,())).1) * wrap64 (b0_0 - (List.getD b0_1 (Int.toNat x5) ((0:Int),false,())).1))))):Int),((wrap64 (b2_1 + wrap64 (wrap64 ((List.getD x0 (Int.toNat x5) ((0:Int),(0:Int),false,())).1 * (List.getD x0 (Int.toNat x5) ((0:Int),(0:Int),false,())).2.1) * (List.getD x0 (Int.toNat x5) ((0:Int),(0:Int),false,())).2.1)):Int),())),()))))))
                (Tr.fin (.again ((x0,(x1,((wrap64 (x5 + (1:Int)):Int),()))),((b0_0,(b0_1,())),((b1_0,(b1_1,())),(((wrap64 (wrap64 (b2_0 + wrap64 ((List.getD x0 (Int.toNat x5) ((0:Int),(0:Int),false,())).1 * wrap64 (wrap64 ((List.getD x0 (Int.toNat x5) ((0:Int),(0:Int),false,())).2.1 * (List.getD x0 (Int.toNat x5) ((0:Int),(0:Int),false,())).2.1) - wrap64 (wrap64 (b0_0 - (List.getD b0_1 (Int.toNat x5) ((0:Int),false,())).1) * wrap64 (b0_0 - (List.getD b0_1 (Int.toNat x5) ((0:Int),false,())).1))))) + wrap64 (wrap64 (wrap64 ((2:Int) * (List.getD x0 (Int.toNat x5) ((0:Int),(0:Int),false,())).1) * (List.getD x0 (Int.toNat x5) ((0:Int),(0:Int),false,())).2.1) * wrap64 (r0.1 - (List.getD x0 (Int.toNat x5) ((0:Int),(0:Int),false,())).2.1))):Int),((wrap64 (b2_1 + wrap64 (wrap64 (wrap64 ((2:Int) * (List.getD x0 (Int.toNat x5) ((0:Int),(0:Int),false,())).1) * (List.getD x0 (Int.toNat x5) ((0:Int),(0:Int),false,())).2.1) * wrap64 (r0.1 - (List.getD x0 (Int.toNat x5) ((0:Int),(0:Int),false,())).2.1))):Int),())),()))))))))
            (Tr.stop))
          (Tr.stop)))
      (Tr.stop))
    (Tr.fin (.brk ((),((b0_0,(b0_1,())),((b1_0,(b1_1,())),((b2_0,(b2_1,())),()))))))
def s38_0 (d:sh38_0.data):Option (Out sh38_0.data shb38_0.data shr38_0.data):=(t38_0 d.1.1 d.1.2.1 d.1.2.2.1 d.2.1.1 d.2.1.2.1 d.2.2.1.1 d.2.2.1.2.1 d.2.2.2.1.1 d.2.2.2.1.2.1).val
def l38_0 (d:sh38_0.data):Option (shb38_0.data ⊕ shr38_0.data):=itr s38_0 rounds d
def b38_0 (d:sh38_0.data):shb38_0.data:=outB shb38_0.dflt (l38_0 d)
def lc38_0:LoopC:=lcB sh38_0 shb38_0 shr38_0 l38_0 b38_0
theorem wk38_0 (x0:(List (Int×(Int×(Bool×Unit))))) (x1:Int) (x5:Int) (b0_0:Int) (b0_1:(List (Int×(Bool×Unit)))) (b1_0:Int) (b1_1:Int) (b2_0:Int) (b2_1:Int):Walks (runBody (kf37 Go.Proofs.Try.prog).orc Go.Proofs.Try.prog 400 38 0 sh38_0 shb38_0 shr38_0 ((x0,x1,x5,()),(b0_0,b0_1,()),(b1_0,b1_1,()),(b2_0,b2_1,()),())) (t38_0 x0 x1 x5 b0_0 b0_1 b1_0 b1_1 b2_0 b2_1) [(bl 3 7,[2,4,6]),(bl 6 59,[2,4,10,10,6,6,8,10,12]),(bl 7 91,[2,8,4,6,12,12,8,8,10,12,14]),(bl 7 27,[6,2,8,4,6,12,12,8,8,10,12,14]),(bl 1 0,[2])] :=
  ⟨by kernel_rfl,by kernel_rfl,by kernel_rfl,by kernel_rfl,by kernel_rfl,trivial⟩
theorem ok38_0_t (x0:(List (Int×(Int×(Bool×Unit))))) (x1:Int) (x5:Int) (b0_0:Int) (b0_1:(List (Int×(Bool×Unit)))) (b1_0:Int) (b1_1:Int) (b2_0:Int) (b2_1:Int):TrOk (BodyRuns Go.Proofs.Try.prog (kf37 Go.Proofs.Try.prog).orc 38 0 sh38_0 shb38_0 shr38_0 ((x0,x1,x5,()),(b0_0,b0_1,()),(b1_0,b1_1,()),(b2_0,b2_1,()),())) (t38_0 x0 x1 x5 b0_0 b0_1 b1_0 b1_1 b2_0 b2_1) :=
  Walks.ok (fun _ _ _=>BodyRuns.of) (wk38_0 x0 x1 x5 b0_0 b0_1 b1_0 b1_1 b2_0 b2_1) (by kernel_rfl)
theorem ok38_0:LoopOk Go.Proofs.Try.prog 38 0 lc38_0:=loopOk_ofB (sh:=sh38_0) (shB:=shb38_0) (shR:=shr38_0) kf37_ok.base (T:=fun (d:sh38_0.data)=>t38_0 d.1.1 d.1.2.1 d.1.2.2.1 d.2.1.1 d.2.1.2.1 d.2.2.1.1 d.2.2.1.2.1 d.2.2.2.1.1 d.2.2.2.1.2.1) (by kernel_rfl) rfl (fun (d:sh38_0.data)=>ok38_0_t d.1.1 d.1.2.1 d.1.2.2.1 d.2.1.1 d.2.1.2.1 d.2.2.1.1 d.2.2.1.2.1 d.2.2.2.1.1 d.2.2.2.1.2.1) (fun _=>rfl)
def kl38_0 (P:Go.Program):Known:=(kf37 P).loop 38 0 lc38_0
theorem kl38_0_ok:KnownOk Go.Proofs.Try.prog (kl38_0 Go.Proofs.Try.prog):=kf37_ok.loop ok38_0
abbrev as38:List Ty:=[(.slice (.pair (.int .i64) (.pair (.int .i64) (.pair .bool .unit)))),(.pair (.int .i64) (.pair (.slice (.pair (.int .i64) (.pair .bool .unit))) .unit)),(.int .i64)]
abbrev rs38:List Ty:=[(.pair (.int .i64) (.pair (.int .i64) .unit))]
def t38 (x0:(List (Int×(Int×(Bool×Unit))))) (x1:Int) (x1':(List (Int×(Bool×Unit)))) (x2:Int):Tr (Tys.data rs38) :=
  Tr.test (isBrk (l38_0 ((x0,(x2,((0:Int),()))),((x1,(x1',())),(((0:Int),((0:Int),())),(((0:Int),((0:Int),())),()))))))
    (let r0:=b38_0 ((x0,(x2,((0:Int),()))),((x1,(x1',())),(((0:Int),((0:Int),())),(((0:Int),((0:Int),())),()))));
    Tr.fin (((r0.2.2.2.1.1,(r0.2.2.2.1.2.1,())),())))
    (Tr.stop)
def f38 (d:Tys.data as38):Option (Tys.data rs38):=(t38 d.1 d.2.1.1 d.2.1.2.1 d.2.2.1).val
def g38 (d:Tys.data as38):Tys.data rs38:=(f38 d).getD (Tys.dflt rs38)
def p38:PureC:=pcOf as38 rs38 f38 g38
theorem wk38 (x0:(List (Int×(Int×(Bool×Unit))))) (x1:Int) (x1':(List (Int×(Bool×Unit)))) (x2:Int):Walks (runPure (kl38_0 Go.Proofs.Try.prog).orc Go.Proofs.Try.prog 400 38 as38 rs38 (x0,(x1,x1',()),x2,())) (t38 x0 x1 x1' x2) [(bl 1 1,[1,2])] :=
  ⟨by kernel_rfl,trivial⟩
theorem ok38_t (x0:(List (Int×(Int×(Bool×Unit))))) (x1:Int) (x1':(List (Int×(Bool×Unit)))) (x2:Int):TrOk (PureRuns Go.Proofs.Try.prog (kl38_0 Go.Proofs.Try.prog).orc 38 as38 rs38 (x0,(x1,x1',()),x2,())) (t38 x0 x1 x1' x2) :=
  Walks.ok (fun _ _ _=>PureRuns.of) (wk38 x0 x1 x1' x2) (by kernel_rfl)
theorem ok38:PureOk Go.Proofs.Try.prog 38 p38:=pureOk_of kl38_0_ok.base (T:=fun (d:Tys.data as38)=>t38 d.1 d.2.1.1 d.2.1.2.1 d.2.2.1) (by kernel_rfl) (fun (d:Tys.data as38)=>ok38_t d.1 d.2.1.1 d.2.1.2.1 d.2.2.1)
def kf38 (P:Go.Program):Known:=(kl38_0 P).func 38 p38
theorem kf38_ok:KnownOk Go.Proofs.Try.prog (kf38 Go.Proofs.Try.prog):=kl38_0_ok.func ok38
abbrev as5:List Ty:=[(.slice (.pair (.int .i64) (.pair (.int .i64) (.pair .bool .unit)))),(.pair (.int .i64) (.pair (.slice (.pair (.int .i64) (.pair .bool .unit))) .unit)),(.int .i64)]
abbrev rs5:List Ty:=[.bool]
def t5 (x0:(List (Int×(Int×(Bool×Unit))))) (x1:Int) (x1':(List (Int×(Bool×Unit)))) (x2:Int):Tr (Tys.data rs5) :=
  Tr.test (Option.isSome (f20 (x0,((x1,(x1',())),()))))
    (let r0:=g20 (x0,((x1,(x1',())),()));
    Tr.test ((!r0.1:Bool))
      (Tr.fin (((true:Bool),())))
      (Tr.test (Option.isSome (f22 (x0,())))
        (let r1:=g22 (x0,());
        Tr.test (Option.isSome (f21 (r1.1,())))
          (Tr.test (Option.isSome (f24 ((x1,(x1',())),())))
            (let r3:=g24 ((x1,(x1',())),());
            Tr.test (Option.isSome (f23 (r1.1,((r3.1.1,(r3.1.2.1,())),()))))
              (Tr.test (Option.isSome (f25 (r1.1,((r3.1.1,(r3.1.2.1,())),()))))
                (Tr.test (Option.isSome (f26 (r1.1,((r3.1.1,(r3.1.2.1,())),()))))
                  (Tr.test (Option.isSome (f27 (r1.1,((r3.1.1,(r3.1.2.1,())),(x2,())))))
                    (Tr.test (Option.isSome (f28 (r1.1,((r3.1.1,(r3.1.2.1,())),(x2,())))))
                      (Tr.test (Option.isSome (f29 (r1.1,(x2,()))))
                        (Tr.test (Option.isSome (f30 (x0,())))
                          (let r2:=g21 (r1.1,());
                          let r10:=g30 (x0,());
                          Tr.test ((!eqF r2.2.1 r10.2.1:Bool))
                            (Tr.fin (((false:Bool),())))
                            (Tr.test ((!eqF r2.1 r10.1:Bool))
                              (Tr.fin (((false:Bool),())))
                              (Tr.test ((!eqF r10.2.1 0:Bool))
                                (let r4:=g23 (r1.1,((r3.1.1,(r3.1.2.1,())),()));
                                Tr.test ((eqF r4.2.1 r10.2.1:Bool))
                                  (Tr.test ((eqF r4.1 r10.1:Bool))
                                    (let r5:=g25 (r1.1,((r3.1.1,(r3.1.2.1,())),()));
                                    Tr.test ((eqF r5.2.1 r10.2.1:Bool))
                                      (let r6:=g26 (r1.1,((r3.1.1,(r3.1.2.1,())),()));
                                      Tr.test ((eqF r6.2.1 r10.2.1:Bool))
                                        (let r7:=g27 (r1.1,((r3.1.1,(r3.1.2.1,())),(x2,())));
                                        Tr.test ((eqF r7.2.1 r10.2.1:Bool))
                                          (let r8:=g28 (r1.1,((r3.1.1,(r3.1.2.1,())),(x2,())));
                                          Tr.test ((eqF r8.2.1 r10.2.1:Bool))
                                            (let r9:=g29 (r1.1,(x2,()));
                                            Tr.test ((eqF r9.2.1 r10.2.1:Bool))
                                              (Tr.test ((eqF r5.1 0:Bool))
                                                (Tr.test ((eqF r6.1 0:Bool))
                                                  (Tr.test (Option.isSome (f31 ((r7.1.1,(r7.1.2.1,())),(((0:Int),(([]:List (Int×Bool×PUnit)),())),()))))
                                                    (let r11:=g31 ((r7.1.1,(r7.1.2.1,())),(((0:Int),(([]:List (Int×Bool×PUnit)),())),()));
                                                    Tr.test (r11.1)
                                                      (Tr.test ((r8.1.1 == (0:Int) && (r8.1.2.1 == (0:Int) && true):Bool))
                                                        (Tr.fin (((eqF r9.1 0:Bool),())))
                                                        (Tr.fin (((false:Bool),()))))
                                                      (Tr.fin (((false:Bool),()))))
                                                    (Tr.stop))
                                                  (Tr.fin (((false:Bool),()))))
                                                (Tr.fin (((false:Bool),()))))
                                              (Tr.fin (((false:Bool),()))))
                                            (Tr.fin (((false:Bool),()))))
                                          (Tr.fin (((false:Bool),()))))
                                        (Tr.fin (((false:Bool),()))))
                                      (Tr.fin (((false:Bool),()))))
                                    (Tr.fin (((false:Bool),()))))
                                  (Tr.fin (((false:Bool),()))))
                                (Tr.test (Option.isSome (f32 (x2,())))
                                  (let r12:=g32 (x2,());
                                  Tr.test ((eqF r12.1 0:Bool))
                                    (let r9:=g29 (r1.1,(x2,()));
                                    Tr.test ((!eqF r9.2.1 0:Bool))
                                      (Tr.fin (((false:Bool),())))
                                      (Tr.test (Option.isSome (f35 (x0,())))
                                        (let r13:=g35 (x0,());
                                        Tr.test (Option.isSome (f34 (x0,((r13.1.1,(r13.1.2.1,())),(x2,())))))
                                          (let r14:=g34 (x0,((r13.1.1,(r13.1.2.1,())),(x2,())));
                                          Tr.test (Option.isSome (f33 (x0,((r14.1.1,(r14.1.2.1,())),()))))
                                            (let r15:=g33 (x0,((r14.1.1,(r14.1.2.1,())),()));
                                            Tr.test ((!eqF r9.1 r15.1:Bool))
                                              (Tr.fin (((false:Bool),())))
                                              (Tr.test (Option.isSome (f36 (x0,((x1,(x1',())),()))))
                                                (let r4:=g23 (r1.1,((r3.1.1,(r3.1.2.1,())),()));
                                                let r16:=g36 (x0,((x1,(x1',())),()));
                                                Tr.test ((!eqF r4.2.1 r16.2.1:Bool))
                                                  (Tr.fin (((false:Bool),())))
                                                  (Tr.test ((!eqF r4.1 r16.1:Bool))
                                                    (Tr.fin (((false:Bool),())))
                                                    (Tr.test ((!eqF r16.2.1 0:Bool))
                                                      (let r5:=g25 (r1.1,((r3.1.1,(r3.1.2.1,())),()));
                                                      Tr.test ((eqF r5.2.1 r16.2.1:Bool))
                                                        (let r6:=g26 (r1.1,((r3.1.1,(r3.1.2.1,())),()));
                                                        Tr.test ((eqF r6.2.1 r16.2.1:Bool))
                                                          (let r7:=g27 (r1.1,((r3.1.1,(r3.1.2.1,())),(x2,())));
                                                          Tr.test ((eqF r7.2.1 r16.2.1:Bool))
                                                            (let r8:=g28 (r1.1,((r3.1.1,(r3.1.2.1,())),(x2,())));
                                                            Tr.test ((eqF r8.2.1 r16.2.1:Bool))
                                                              (Tr.test ((eqF r5.1 0:Bool))
                                                                (Tr.test ((eqF r6.1 0:Bool))
                                                                  (Tr.test (Option.isSome (f31 ((r7.1.1,(r7.1.2.1,())),(((0:Int),(([]:List (Int×Bool×PUnit)),())),()))))
                                                                    (let r11:=g31 ((r7.1.1,(r7.1.2.1,())),(((0:Int),(([]:List (Int×Bool×PUnit)),())),()));
                                                                    Tr.test (r11.1)
                                                                      (Tr.fin (((r8.1.1 == (0:Int) && (r8.1.2.1 == (0:Int) && true):Bool),())))
                                                                      (Tr.fin (((false:Bool),()))))
                                                                    (Tr.stop))
                                                                  (Tr.fin (((false:Bool),()))))
                                                                (Tr.fin (((false:Bool),()))))
                                                              (Tr.fin (((false:Bool),()))))
                                                            (Tr.fin (((false:Bool),()))))
                                                          (Tr.fin (((false:Bool),()))))
                                                        (Tr.fin (((false:Bool),()))))
                                                      (let r5:=g25 (r1.1,((r3.1.1,(r3.1.2.1,())),()));
                                                      Tr.test ((!eqF r5.2.1 0:Bool))
                                                        (Tr.fin (((false:Bool),())))
                                                        (Tr.test (Option.isSome (f33 (x0,((x1,(x1',())),()))))
                                                          (let r17:=g33 (x0,((x1,(x1',())),()));
                                                          Tr.test ((!eqF r5.1 r17.1:Bool))
                                                            (Tr.fin (((false:Bool),())))
                                                            (let r6:=g26 (r1.1,((r3.1.1,(r3.1.2.1,())),()));
                                                            Tr.test ((!eqF r6.2.1 0:Bool))
                                                              (Tr.fin (((false:Bool),())))
                                                              (Tr.test (Option.isSome (f37 (x0,((x1,(x1',())),()))))
                                                                (let r18:=g37 (x0,((x1,(x1',())),()));
                                                                Tr.test ((!eqF r6.1 r18.1:Bool))
                                                                  (Tr.fin (((false:Bool),())))
                                                                  (let r7:=g27 (r1.1,((r3.1.1,(r3.1.2.1,())),(x2,())));
                                                                  Tr.test ((eqF r7.2.1 0:Bool))
                                                                    (Tr.test (Option.isSome (f34 (x0,((x1,(x1',())),(x2,())))))
                                                                      (let r19:=g34 (x0,((x1,(x1',())),(x2,())));
                                                                      Tr.test (Option.isSome (f31 ((r7.1.1,(r7.1.2.1,())),((r19.1.1,(r19.1.2.1,())),()))))
                                                                        (let r20:=g31 ((r7.1.1,(r7.1.2.1,())),((r19.1.1,(r19.1.2.1,())),()));
                                                                        Tr.test (r20.1)
                                                                          (let r8:=g28 (r1.1,((r3.1.1,(r3.1.2.1,())),(x2,())));
                                                                          Tr.test ((eqF r8.2.1 0:Bool))
                                                                            (Tr.test (Option.isSome (f38 (x0,((x1,(x1',())),(x2,())))))
                                                                              (let r21:=g38 (x0,((x1,(x1',())),(x2,())));
                                                                              Tr.fin (((r8.1.1 == r21.1.1 && (r8.1.2.1 == r21.1.2.1 && true):Bool),())))
                                                                              (Tr.stop))
                                                                            (Tr.fin (((false:Bool),()))))
                                                                          (Tr.fin (((false:Bool),()))))
                                                                        (Tr.stop))
                                                                      (Tr.stop))
                                                                    (Tr.fin (((false:Bool),())))))
                                                                (Tr.stop))))
                                                          (Tr.stop))))))
                                                (Tr.stop)))
                                            (Tr.stop))
                                          (Tr.stop))
                                        (Tr.stop)))
                                    (let r9:=g29 (r1.1,(x2,()));
                                    Tr.test ((!eqF r9.2.1 r12.1:Bool))
                                      (Tr.fin (((false:Bool),())))
                                      (Tr.test ((!eqF r9.1 0:Bool))
                                        (Tr.fin (((false:Bool),())))
                                        (Tr.test (Option.isSome (f36 (x0,((x1,(x1',())),()))))
                                          (let r4:=g23 (r1.1,((r3.1.1,(r3.1.2.1,())),()));
                                          let r16:=g36 (x0,((x1,(x1',())),()));
                                          Tr.test ((!eqF r4.2.1 r16.2.1:Bool))
                                            (Tr.fin (((false:Bool),())))
                                            (Tr.test ((!eqF r4.1 r16.1:Bool))
                                              (Tr.fin (((false:Bool),())))
                                              (Tr.test ((!eqF r16.2.1 0:Bool))
                                                (let r5:=g25 (r1.1,((r3.1.1,(r3.1.2.1,())),()));
                                                Tr.test ((eqF r5.2.1 r16.2.1:Bool))
                                                  (let r6:=g26 (r1.1,((r3.1.1,(r3.1.2.1,())),()));
                                                  Tr.test ((eqF r6.2.1 r16.2.1:Bool))
                                                    (let r7:=g27 (r1.1,((r3.1.1,(r3.1.2.1,())),(x2,())));
                                                    Tr.test ((eqF r7.2.1 r16.2.1:Bool))
                                                      (let r8:=g28 (r1.1,((r3.1.1,(r3.1.2.1,())),(x2,())));
                                                      Tr.test ((eqF r8.2.1 r16.2.1:Bool))
                                                        (Tr.test ((eqF r5.1 0:Bool))
                                                          (Tr.test ((eqF r6.1 0:Bool))
                                                            (Tr.test (Option.isSome (f31 ((r7.1.1,(r7.1.2.1,())),(((0:Int),(([]:List (Int×Bool×PUnit)),())),()))))
                                                              (let r11:=g31 ((r7.1.1,(r7.1.2.1,())),(((0:Int),(([]:List (Int×Bool×PUnit)),())),()));
                                                              Tr.test (r11.1)
                                                                (Tr.fin (((r8.1.1 == (0:Int) && (r8.1.2.1 == (0:Int) && true):Bool),())))
                                                                (Tr.fin (((false:Bool),()))))
                                                              (Tr.stop))
                                                            (Tr.fin (((false:Bool),()))))
                                                          (Tr.fin (((false:Bool),()))))
                                                        (Tr.fin (((false:Bool),()))))
                                                      (Tr.fin (((false:Bool),()))))
                                                    (Tr.fin (((false:Bool),()))))
                                                  (Tr.fin (((false:Bool),()))))
                                                (let r5:=g25 (r1.1,((r3.1.1,(r3.1.2.1,())),()));
                                                Tr.test ((!eqF r5.2.1 0:Bool))
                                                  (Tr.fin (((false:Bool),())))
                                                  (Tr.test (Option.isSome (f33 (x0,((x1,(x1',())),()))))
                                                    (let r17:=g33 (x0,((x1,(x1',())),()));
                                                    Tr.test ((!eqF r5.1 r17.1:Bool))
                                                      (Tr.fin (((false:Bool),())))
                                                      (let r6:=g26 (r1.1,((r3.1.1,(r3.1.2.1,())),()));
                                                      Tr.test ((!eqF r6.2.1 0:Bool))
                                                        (Tr.fin (((false:Bool),())))
                                                        (Tr.test (Option.isSome (f37 (x0,((x1,(x1',())),()))))
                                                          (let r18:=g37 (x0,((x1,(x1',())),()));
                                                          Tr.test ((!eqF r6.1 r18.1:Bool))
                                                            (Tr.fin (((false:Bool),())))
                                                            (let r7:=g27 (r1.1,((r3.1.1,(r3.1.2.1,())),(x2,())));
                                                            Tr.test ((eqF r7.2.1 r12.1:Bool))
                                                              (let r8:=g28 (r1.1,((r3.1.1,(r3.1.2.1,())),(x2,())));
                                                              Tr.test ((eqF r8.2.1 r12.1:Bool))
                                                                (Tr.test (Option.isSome (f31 ((r7.1.1,(r7.1.2.1,())),(((0:Int),(([]:List (Int×Bool×PUnit)),())),()))))
                                                                  (let r11:=g31 ((r7.1.1,(r7.1.2.1,())),(((0:Int),(([]:List (Int×Bool×PUnit)),())),()));
                                                                  Tr.test (r11.1)
                                                                    (Tr.fin (((r8.1.1 == (0:Int) && (r8.1.2.1 == (0:Int) && true):Bool),())))
                                                                    (Tr.fin (((false:Bool),()))))
                                                                  (Tr.stop))
                                                                (Tr.fin (((false:Bool),()))))
                                                              (Tr.fin (((false:Bool),())))))
                                                          (Tr.stop))))
                                                    (Tr.stop))))))
                                          (Tr.stop)))))
                                  (Tr.stop)))))
                          (Tr.stop))
                        (Tr.stop))
                      (Tr.stop))
                    (Tr.stop))
                  (Tr.stop))
                (Tr.stop))
              (Tr.stop))
            (Tr.stop))
          (Tr.stop))
        (Tr.stop)))
    (Tr.stop)
def f5 (d:Tys.data as5):Option (Tys.data rs5):=(t5 d.1 d.2.1.1 d.2.1.2.1 d.2.2.1).val
def g5 (d:Tys.data as5):Tys.data rs5:=(f5 d).getD (Tys.dflt rs5)
def p5:PureC:=pcOf as5 rs5 f5 g5
theorem wk5n0 (x0:(List (Int×(Int×(Bool×Unit))))) (x1:Int) (x1':(List (Int×(Bool×Unit)))) (x2:Int):Walks (runPure (kf38 Go.Proofs.Try.prog).orc Go.Proofs.Try.prog 400 5 as5 rs5 (x0,(x1,x1',()),x2,())) (t5 x0 x1 x1' x2) [(bl 2 3,[2,4,0,1]),(bl 13 8189,[1,2,2,2,2,4,6,22,8,18,22,10,18,22,12,18,22,14,18,22,16,18,22,20,22,24,26,0,1]),(bl 14 12285,[2,4,4,4,4,6,8,24,10,20,24,12,20,24,14,20,24,16,20,24,18,20,24,22,24,26,28,0,1]),(bl 27 134205437,[2,2,2,4,4,4,4,8,6,8,8,8,10,10,10,12,12,12,14,14,14,14,16,16,16,16,18,18,18,18,20,20,20,20,22,22,22,22,24,24,24,24,26,28,30,30,30,30,32,34,50,36,46,50,38,46,50,40,46,50,42,46,50,44,46,50,48,50,52,54,0,1]),(bl 27 67096573,[2,2,2,4,4,4,4,8,6,8,8,8,10,10,10,12,12,12,14,14,14,14,16,16,16,16,18,18,18,18,20,20,20,20,22,22,22,22,24,24,24,24,26,28,30,30,30,30,32,34,50,36,46,50,38,46,50,40,46,50,42,46,50,44,46,50,48,50,52,54,0,1]),(bl 26 33542141,[0,0,0,2,2,2,2,6,4,6,6,6,8,8,8,10,10,10,12,12,12,12,14,14,14,14,16,16,16,16,18,18,18,18,20,20,20,20,22,22,22,22,24,26,28,28,28,28,30,32,48,34,44,48,36,44,48,38,44,48,40,44,48,42,44,48,46,48,50,52,0,1]),(bl 24 8376317,[0,0,0,0,0,0,0,2,2,2,2,4,4,4,6,6,6,8,8,8,8,10,10,10,10,12,12,12,12,14,14,14,14,16,16,16,16,18,18,18,18,20,22,24,24,24,24,26,28,44,30,40,44,32,40,44,34,40,44,36,40,44,38,40,44,42,44,46,48,0,1]),(bl 23 4182013,[0,0,0,0,0,0,0,0,0,0,0,2,2,2,4,4,4,6,6,6,6,8,8,8,8,10,10,10,10,12,12,12,12,14,14,14,14,16,16,16,16,18,20,22,22,22,22,24,26,42,28,38,42,30,38,42,32,38,42,34,38,42,36,38,42,40,42,44,46,0,1]),(bl 22 2084861,[0,0,0,0,0,0,0,0,0,0,0,0,0,0,2,2,2,4,4,4,4,6,6,6,6,8,8,8,8,10,10,10,10,12,12,12,12,14,14,14,14,16,18,20,20,20,20,22,24,40,26,36,40,28,36,40,30,36,40,32,36,40,34,36,40,38,40,42,44,0,1]),(bl 21 1036285,[0,0,0,0,0,0,0,0,0,0,0,0,0,0,0,0,0,2,2,2,2,4,4,4,4,6,6,6,6,8,8,8,8,10,10,10,10,12,12,12,12,14,16,18,18,18,18,20,22,38,24,34,38,26,34,38,28,34,38,30,34,38,32,34,38,36,38,40,42,0,1]),(bl 20 511997,[0,0,0,0,0,0,0,0,0,0,0,0,0,0,0,0,0,0,0,0,0,2,2,2,2,4,4,4,4,6,6,6,6,8,8,8,8,10,10,10,10,12,14,16,16,16,16,18,20,36,22,32,36,24,32,36,26,32,36,28,32,36,30,32,36,34,36,38,40,0,1]),(bl 19 249853,[0,0,0,0,0,0,0,0,0,0,0,0,0,0,0,0,0,0,0,0,0,0,0,0,0,2,2,2,2,4,4,4,4,6,6,6,6,8,8,8,8,10,12,14,14,14,14,16,18,34,20,30,34,22,30,34,24,30,34,26,30,34,28,30,34,32,34,36,38,0,1]),(bl 18 118781,[0,0,0,0,0,0,0,0,0,0,0,0,0,0,0,0,0,0,0,0,0,0,0,0,0,0,0,0,0,2,2,2,2,4,4,4,4,6,6,6,6,8,10,12,12,12,12,14,16,32,18,28,32,20,28,32,22,28,32,24,28,32,26,28,32,30,32,34,36,0,1]),(bl 17 53245,[0,0,0,0,0,0,0,0,0,0,0,0,0,0,0,0,0,0,0,0,0,0,0,0,0,0,0,0,0,0,0,0,0,2,2,2,2,4,4,4,4,6,8,10,10,10,10,12,14,30,16,26,30,18,26,30,20,26,30,22,26,30,24,26,30,28,30,32,34,0,1]),(bl 16 20477,[0,0,0,0,0,0,0,0,0,0,0,0,0,0,0,0,0,0,0,0,0,0,0,0,0,0,0,0,0,0,0,0,0,0,0,0,0,2,2,2,2,4,6,8,8,8,8,10,12,28,14,24,28,16,24,28,18,24,28,20,24,28,22,24,28,26,28,30,32,0,1]),(bl 18 233469,[1,0,4,0,2,4,2,2,2,2,2,2,2,2,2,4,4,4,0,0,0,5,5,5,5,5,5,6,8,10,12,12,12,12,14,16,32,18,28,32,20,28,32,22,28,32,24,28,32,26,28,32,30,32,34,36,0,1])] :=
  ⟨by kernel_rfl,by kernel_rfl,by kernel_rfl,by kernel_rfl,by kernel_rfl,by kernel_rfl,by kernel_rfl,by kernel_rfl,by kernel_rfl,by kernel_rfl,by kernel_rfl,by kernel_rfl,by kernel_rfl,by kernel_rfl,by kernel_rfl,by kernel_rfl,trivial⟩
theorem wk5n1 (x0:(List (Int×(Int×(Bool×Unit))))) (x1:Int) (x1':(List (Int×(Bool×Unit)))) (x2:Int):Walks (runPure (kf38 Go.Proofs.Try.prog).orc Go.Proofs.Try.prog 400 5 as5 rs5 (x0,(x1,x1',()),x2,())) (t5 x0 x1 x1' x2) [(bl 22 4034557,[2,0,12,0,10,12,10,4,10,6,10,10,8,10,10,10,10,10,12,12,12,0,0,0,13,13,13,13,13,13,14,16,18,20,20,20,20,22,24,40,26,36,40,28,36,40,30,36,40,32,36,40,34,36,40,38,40,42,44,0,1]),(bl 24 14520317,[1,2,2,2,2,4,6,0,16,0,14,16,14,8,14,10,14,14,12,14,14,14,14,14,16,16,16,0,0,0,17,17,17,17,17,17,18,20,22,24,24,24,24,26,28,44,30,40,44,32,40,44,34,40,44,36,40,44,38,40,44,42,44,46,48,0,1]),(bl 25 22908925,[2,4,4,4,4,6,8,0,18,0,16,18,16,10,16,12,16,16,14,16,16,16,16,16,18,18,18,0,0,0,19,19,19,19,19,19,20,22,24,26,26,26,26,28,30,46,32,42,46,34,42,46,36,42,46,38,42,46,40,42,46,44,46,48,50,0,1]),(bl 34 17152446461,[2,2,2,2,6,4,6,6,6,8,8,8,10,10,10,12,12,12,12,14,14,14,14,16,16,16,16,18,20,22,22,22,22,24,26,0,36,0,34,36,34,28,34,30,34,34,32,34,34,34,34,34,36,36,36,0,0,0,37,37,37,37,37,37,38,40,42,44,44,44,44,46,48,64,50,60,64,52,60,64,54,60,64,56,60,64,58,60,64,62,64,66,68,0,1]),(bl 34 8562511869,[2,2,2,2,6,4,6,6,6,8,8,8,10,10,10,12,12,12,12,14,14,14,14,16,16,16,16,18,20,22,22,22,22,24,26,0,36,0,34,36,34,28,34,30,34,34,32,34,34,34,34,34,36,36,36,0,0,0,37,37,37,37,37,37,38,40,42,44,44,44,44,46,48,64,50,60,64,52,60,64,54,60,64,56,60,64,58,60,64,62,64,66,68,0,1]),(bl 32 2120060925,[0,0,0,0,2,2,2,2,4,4,4,6,6,6,8,8,8,8,10,10,10,10,12,12,12,12,14,16,18,18,18,18,20,22,0,32,0,30,32,30,24,30,26,30,30,28,30,30,30,30,30,32,32,32,0,0,0,33,33,33,33,33,33,34,36,38,40,40,40,40,42,44,60,46,56,60,48,56,60,50,56,60,52,56,60,54,56,60,58,60,62,64,0,1]),(bl 31 1046319101,[0,0,0,0,0,0,0,0,2,2,2,4,4,4,6,6,6,6,8,8,8,8,10,10,10,10,12,14,16,16,16,16,18,20,0,30,0,28,30,28,22,28,24,28,28,26,28,28,28,28,28,30,30,30,0,0,0,31,31,31,31,31,31,32,34,36,38,38,38,38,40,42,58,44,54,58,46,54,58,48,54,58,50,54,58,52,54,58,56,58,60,62,0,1]),(bl 30 509448189,[0,0,0,0,0,0,0,0,0,0,0,2,2,2,4,4,4,4,6,6,6,6,8,8,8,8,10,12,14,14,14,14,16,18,0,28,0,26,28,26,20,26,22,26,26,24,26,26,26,26,26,28,28,28,0,0,0,29,29,29,29,29,29,30,32,34,36,36,36,36,38,40,56,42,52,56,44,52,56,46,52,56,48,52,56,50,52,56,54,56,58,60,0,1]),(bl 29 241012733,[0,0,0,0,0,0,0,0,0,0,0,0,0,0,2,2,2,2,4,4,4,4,6,6,6,6,8,10,12,12,12,12,14,16,0,26,0,24,26,24,18,24,20,24,24,22,24,24,24,24,24,26,26,26,0,0,0,27,27,27,27,27,27,28,30,32,34,34,34,34,36,38,54,40,50,54,42,50,54,44,50,54,46,50,54,48,50,54,52,54,56,58,0,1]),(bl 28 106795005,[0,0,0,0,0,0,0,0,0,0,0,0,0,0,0,0,0,0,2,2,2,2,4,4,4,4,6,8,10,10,10,10,12,14,0,24,0,22,24,22,16,22,18,22,22,20,22,22,22,22,22,24,24,24,0,0,0,25,25,25,25,25,25,26,28,30,32,32,32,32,34,36,52,38,48,52,40,48,52,42,48,52,44,48,52,46,48,52,50,52,54,56,0,1]),(bl 27 39686141,[0,0,0,0,0,0,0,0,0,0,0,0,0,0,0,0,0,0,0,0,0,0,2,2,2,2,4,6,8,8,8,8,10,12,0,22,0,20,22,20,14,20,16,20,20,18,20,20,20,20,20,22,22,22,0,0,0,23,23,23,23,23,23,24,26,28,30,30,30,30,32,34,50,36,46,50,38,46,50,40,46,50,42,46,50,44,46,50,48,50,52,54,0,1]),(bl 27 73240573,[1,1,1,1,1,1,1,1,1,1,2,2,2,2,2,2,4,6,8,8,8,8,10,12,0,22,0,20,22,20,14,20,16,20,20,18,20,20,20,20,20,22,22,22,0,0,0,23,23,23,23,23,23,24,26,28,30,30,30,30,32,34,50,36,46,50,38,46,50,40,46,50,42,46,50,44,46,50,48,50,52,54,0,1]),(bl 29 408784893,[1,1,1,1,1,1,1,2,2,2,6,6,4,6,6,6,6,8,10,12,12,12,12,14,16,0,26,0,24,26,24,18,24,20,24,24,22,24,24,24,24,24,26,26,26,0,0,0,27,27,27,27,27,27,28,30,32,34,34,34,34,36,38,54,40,50,54,42,50,54,44,50,54,46,50,54,48,50,54,52,54,56,58,0,1]),(bl 30 677220349,[1,2,2,2,2,2,2,4,4,4,8,8,6,8,8,8,8,10,12,14,14,14,14,16,18,0,28,0,26,28,26,20,26,22,26,26,24,26,26,26,26,26,28,28,28,0,0,0,29,29,29,29,29,29,30,32,34,36,36,36,36,38,40,56,42,52,56,44,52,56,46,52,56,48,52,56,50,52,56,54,56,58,60,0,1]),(bl 32 3361574909,[2,6,6,4,6,6,6,6,8,8,8,12,12,10,12,12,12,12,14,16,18,18,18,18,20,22,0,32,0,30,32,30,24,30,26,30,30,28,30,30,30,30,30,32,32,32,0,0,0,33,33,33,33,33,33,34,36,38,40,40,40,40,42,44,60,46,56,60,48,56,60,50,56,60,52,56,60,54,56,60,58,60,62,64,0,1]),(bl 38 271797030909,[4,4,2,4,4,4,4,4,6,6,6,12,8,12,10,12,12,12,12,12,45,14,18,18,16,18,18,18,18,20,20,20,24,24,22,24,24,24,24,26,28,30,30,30,30,32,34,0,44,0,42,44,42,36,42,38,42,42,40,42,42,42,42,42,44,44,44,0,0,0,45,45,45,45,45,45,46,48,50,52,52,52,52,54,56,72,58,68,72,60,68,72,62,68,72,64,68,72,66,68,72,70,72,74,76,0,1])] :=
  ⟨by kernel_rfl,by kernel_rfl,by kernel_rfl,by kernel_rfl,by kernel_rfl,by kernel_rfl,by kernel_rfl,by kernel_rfl,by kernel_rfl,by kernel_rfl,by kernel_rfl,by kernel_rfl,by kernel_rfl,by kernel_rfl,by kernel_rfl,by kernel_rfl,trivial⟩
theorem wk5n2 (x0:(List (Int×(Int×(Bool×Unit))))) (x1:Int) (x1':(List (Int×(Bool×Unit)))) (x2:Int):Walks (runPure (kf38 Go.Proofs.Try.prog).orc Go.Proofs.Try.prog 400 5 as5 rs5 (x0,(x1,x1',()),x2,())) (t5 x0 x1 x1' x2) [(bl 37 65638600701,[2,2,2,2,2,2,2,4,4,4,10,6,10,8,10,10,10,10,10,43,12,16,16,14,16,16,16,16,18,18,18,22,22,20,22,22,22,22,24,26,28,28,28,28,30,32,0,42,0,40,42,40,34,40,36,40,40,38,40,40,40,40,40,42,42,42,0,0,0,43,43,43,43,43,43,44,46,48,50,50,50,50,52,54,70,56,66,70,58,66,70,60,66,70,62,66,70,64,66,70,68,70,72,74,0,1]),(bl 36 31278862333,[0,0,0,0,0,0,0,2,2,2,8,4,8,6,8,8,8,8,8,41,10,14,14,12,14,14,14,14,16,16,16,20,20,18,20,20,20,20,22,24,26,26,26,26,28,30,0,40,0,38,40,38,32,38,34,38,38,36,38,38,38,38,38,40,40,40,0,0,0,41,41,41,41,41,41,42,44,46,48,48,48,48,50,52,68,54,64,68,56,64,68,58,64,68,60,64,68,62,64,68,66,68,70,72,0,1]),(bl 33 1214091261,[0,0,0,0,0,0,0,0,0,0,2,2,2,2,2,2,2,35,4,8,8,6,8,8,8,8,10,10,10,14,14,12,14,14,14,14,16,18,20,20,20,20,22,24,0,34,0,32,34,32,26,32,28,32,32,30,32,32,32,32,32,34,34,34,0,0,0,35,35,35,35,35,35,36,38,40,42,42,42,42,44,46,62,48,58,62,50,58,62,52,58,62,54,58,62,56,58,62,60,62,64,66,0,1]),(bl 18 167933,[1,1,1,1,1,1,5,2,5,2,2,5,5,5,5,6,8,10,12,12,12,12,14,16,32,18,28,32,20,28,32,22,28,32,24,28,32,26,28,32,30,32,34,36,0,1]),(bl 19 299005,[1,2,2,2,2,2,7,4,7,4,4,7,7,7,7,8,10,12,14,14,14,14,16,18,34,20,30,34,22,30,34,24,30,34,26,30,34,28,30,34,32,34,36,38,0,1]),(bl 21 1609725,[1,2,2,2,2,4,0,6,10,6,10,10,10,10,6,6,6,11,8,11,8,8,11,11,11,11,12,14,16,18,18,18,18,20,22,38,24,34,38,26,34,38,28,34,38,30,34,38,32,34,38,36,38,40,42,0,1]),(bl 22 2658301,[2,4,4,4,4,6,0,8,12,8,12,12,12,12,8,8,8,13,10,13,10,10,13,13,13,13,14,16,18,20,20,20,20,22,24,40,26,36,40,28,36,40,30,36,40,32,36,40,34,36,40,38,40,42,44,0,1]),(bl 31 2143850493,[2,2,2,2,6,4,6,6,6,8,8,8,10,10,10,12,12,12,12,14,14,14,14,16,16,16,16,18,20,22,22,22,22,24,0,26,30,26,30,30,30,30,26,26,26,31,28,31,28,28,31,31,31,31,32,34,36,38,38,38,38,40,42,58,44,54,58,46,54,58,48,54,58,50,54,58,52,54,58,56,58,60,62,0,1]),(bl 31 1070108669,[2,2,2,2,6,4,6,6,6,8,8,8,10,10,10,12,12,12,12,14,14,14,14,16,16,16,16,18,20,22,22,22,22,24,0,26,30,26,30,30,30,30,26,26,26,31,28,31,28,28,31,31,31,31,32,34,36,38,38,38,38,40,42,58,44,54,58,46,54,58,48,54,58,50,54,58,52,54,58,56,58,60,62,0,1]),(bl 29 264802301,[0,0,0,0,2,2,2,2,4,4,4,6,6,6,8,8,8,8,10,10,10,10,12,12,12,12,14,16,18,18,18,18,20,0,22,26,22,26,26,26,26,22,22,22,27,24,27,24,24,27,27,27,27,28,30,32,34,34,34,34,36,38,54,40,50,54,42,50,54,44,50,54,46,50,54,48,50,54,52,54,56,58,0,1]),(bl 28 130584573,[0,0,0,0,0,0,0,0,2,2,2,4,4,4,6,6,6,6,8,8,8,8,10,10,10,10,12,14,16,16,16,16,18,0,20,24,20,24,24,24,24,20,20,20,25,22,25,22,22,25,25,25,25,26,28,30,32,32,32,32,34,36,52,38,48,52,40,48,52,42,48,52,44,48,52,46,48,52,50,52,54,56,0,1]),(bl 27 63475709,[0,0,0,0,0,0,0,0,0,0,0,2,2,2,4,4,4,4,6,6,6,6,8,8,8,8,10,12,14,14,14,14,16,0,18,22,18,22,22,22,22,18,18,18,23,20,23,20,20,23,23,23,23,24,26,28,30,30,30,30,32,34,50,36,46,50,38,46,50,40,46,50,42,46,50,44,46,50,48,50,52,54,0,1]),(bl 26 29921277,[0,0,0,0,0,0,0,0,0,0,0,0,0,0,2,2,2,2,4,4,4,4,6,6,6,6,8,10,12,12,12,12,14,0,16,20,16,20,20,20,20,16,16,16,21,18,21,18,18,21,21,21,21,22,24,26,28,28,28,28,30,32,48,34,44,48,36,44,48,38,44,48,40,44,48,42,44,48,46,48,50,52,0,1]),(bl 25 13144061,[0,0,0,0,0,0,0,0,0,0,0,0,0,0,0,0,0,0,2,2,2,2,4,4,4,4,6,8,10,10,10,10,12,0,14,18,14,18,18,18,18,14,14,14,19,16,19,16,16,19,19,19,19,20,22,24,26,26,26,26,28,30,46,32,42,46,34,42,46,36,42,46,38,42,46,40,42,46,44,46,48,50,0,1]),(bl 24 4755453,[0,0,0,0,0,0,0,0,0,0,0,0,0,0,0,0,0,0,0,0,0,0,2,2,2,2,4,6,8,8,8,8,10,0,12,16,12,16,16,16,16,12,12,12,17,14,17,14,14,17,17,17,17,18,20,22,24,24,24,24,26,28,44,30,40,44,32,40,44,34,40,44,36,40,44,38,40,44,42,44,46,48,0,1]),(bl 24 8949757,[1,1,1,1,1,1,1,1,1,1,2,2,2,2,2,2,4,6,8,8,8,8,10,0,12,16,12,16,16,16,16,12,12,12,17,14,17,14,14,17,17,17,17,18,20,22,24,24,24,24,26,28,44,30,40,44,32,40,44,34,40,44,36,40,44,38,40,44,42,44,46,48,0,1])] :=
  ⟨by kernel_rfl,by kernel_rfl,by kernel_rfl,by kernel_rfl,by kernel_rfl,by kernel_rfl,by kernel_rfl,by kernel_rfl,by kernel_rfl,by kernel_rfl,by kernel_rfl,by kernel_rfl,by kernel_rfl,by kernel_rfl,by kernel_rfl,by kernel_rfl,trivial⟩
theorem wk5n3 (x0:(List (Int×(Int×(Bool×Unit))))) (x1:Int) (x1':(List (Int×(Bool×Unit)))) (x2:Int):Walks (runPure (kf38 Go.Proofs.Try.prog).orc Go.Proofs.Try.prog 400 5 as5 rs5 (x0,(x1,x1',()),x2,())) (t5 x0 x1 x1' x2) [(bl 26 50892797,[1,1,1,1,1,1,1,2,2,2,6,6,4,6,6,6,6,8,10,12,12,12,12,14,0,16,20,16,20,20,20,20,16,16,16,21,18,21,18,18,21,21,21,21,22,24,26,28,28,28,28,30,32,48,34,44,48,36,44,48,38,44,48,40,44,48,42,44,48,46,48,50,52,0,1]),(bl 27 84447229,[1,2,2,2,2,2,2,4,4,4,8,8,6,8,8,8,8,10,12,14,14,14,14,16,0,18,22,18,22,22,22,22,18,18,18,23,20,23,20,20,23,23,23,23,24,26,28,30,30,30,30,32,34,50,36,46,50,38,46,50,40,46,50,42,46,50,44,46,50,48,50,52,54,0,1]),(bl 29 419991549,[2,6,6,4,6,6,6,6,8,8,8,12,12,10,12,12,12,12,14,16,18,18,18,18,20,0,22,26,22,26,26,26,26,22,22,22,27,24,27,24,24,27,27,27,27,28,30,32,34,34,34,34,36,38,54,40,50,54,42,50,54,44,50,54,46,50,54,48,50,54,52,54,56,58,0,1]),(bl 33 8204619773,[2,2,2,2,6,4,6,6,6,8,8,8,8,35,10,14,14,12,14,14,14,14,16,16,16,20,20,18,20,20,20,20,22,24,26,26,26,26,28,0,30,34,30,34,34,34,34,30,30,30,35,32,35,32,32,35,35,35,35,36,38,40,42,42,42,42,44,46,62,48,58,62,50,58,62,52,58,62,54,58,62,56,58,62,60,62,64,66,0,1]),(bl 33 3909652477,[2,2,2,2,6,4,6,6,6,8,8,8,8,35,10,14,14,12,14,14,14,14,16,16,16,20,20,18,20,20,20,20,22,24,26,26,26,26,28,0,30,34,30,34,34,34,34,30,30,30,35,32,35,32,32,35,35,35,35,36,38,40,42,42,42,42,44,46,62,48,58,62,50,58,62,52,58,62,54,58,62,56,58,62,60,62,64,66,0,1]),(bl 31 688427005,[0,0,0,0,2,2,2,2,4,4,4,4,31,6,10,10,8,10,10,10,10,12,12,12,16,16,14,16,16,16,16,18,20,22,22,22,22,24,0,26,30,26,30,30,30,30,26,26,26,31,28,31,28,28,31,31,31,31,32,34,36,38,38,38,38,40,42,58,44,54,58,46,54,58,48,54,58,50,54,58,52,54,58,56,58,60,62,0,1]),(bl 30 151556093,[0,0,0,0,0,0,0,0,2,2,2,2,29,4,8,8,6,8,8,8,8,10,10,10,14,14,12,14,14,14,14,16,18,20,20,20,20,22,0,24,28,24,28,28,28,28,24,24,24,29,26,29,26,26,29,29,29,29,30,32,34,36,36,36,36,38,40,56,42,52,56,44,52,56,46,52,56,48,52,56,50,52,56,54,56,58,60,0,1])] :=
  ⟨by kernel_rfl,by kernel_rfl,by kernel_rfl,by kernel_rfl,by kernel_rfl,by kernel_rfl,by kernel_rfl,trivial⟩
theorem ok5_t (x0:(List (Int×(Int×(Bool×Unit))))) (x1:Int) (x1':(List (Int×(Bool×Unit)))) (x2:Int):TrOk (PureRuns Go.Proofs.Try.prog (kf38 Go.Proofs.Try.prog).orc 5 as5 rs5 (x0,(x1,x1',()),x2,())) (t5 x0 x1 x1' x2) :=
  Walks.ok (fun _ _ _=>PureRuns.of) ((wk5n0 x0 x1 x1' x2).append ((wk5n1 x0 x1 x1' x2).append ((wk5n2 x0 x1 x1' x2).append (wk5n3 x0 x1 x1' x2)))) (by kernel_rfl)
theorem ok5:PureOk Go.Proofs.Try.prog 5 p5:=pureOk_of kf38_ok.base (T:=fun (d:Tys.data as5)=>t5 d.1 d.2.1.1 d.2.1.2.1 d.2.2.1) (by kernel_rfl) (fun (d:Tys.data as5)=>ok5_t d.1 d.2.1.1 d.2.1.2.1 d.2.2.1)
end Go.Vm.Mo
