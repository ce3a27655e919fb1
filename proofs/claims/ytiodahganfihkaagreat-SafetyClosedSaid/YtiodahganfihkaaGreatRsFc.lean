import Derived.Test.YtiodahganfihkaaGreatA4
import Derived.Test.YtiodahganfihkaaGreatA5
import Derived.KernelRfl
import Derived.Test.YtiodahganfihkaaGreatProg
import Derived.Test.YtiodahganfihkaaGreatRsFb
set_option linter.unusedVariables false
set_option linter.unusedSimpArgs false

namespace Go.Vm.Mo
open Go
set_option linter.unusedVariables false

/-! loop 0 of ductility/safety.checkItems[string] -/

abbrev sh81_0:Sh:={ n:=25,slots:=[1,9,10,11],pats:=[.fn 82 [(0,3)],.ty (.slice .str),.ty (.int .i64),.ty (.int .i64)],boxes:=[.row [.ty (.slice .str),.ty (.slice (.pair .str (.pair (.pair (.slice (.int .i64)) (.pair (.slice (.int .i64)) .unit)) (.pair (.pair (.slice (.int .i64)) (.pair (.slice (.int .i64)) .unit)) .unit)))),.ty (.slice (.pair (.slice (.int .i64)) (.pair (.slice (.int .i64)) .unit)))]] }
abbrev shb81_0:Sh:={ n:=25,slots:=[],pats:=[],boxes:=[.row [.ty (.slice .str),.ty (.slice (.pair .str (.pair (.pair (.slice (.int .i64)) (.pair (.slice (.int .i64)) .unit)) (.pair (.pair (.slice (.int .i64)) (.pair (.slice (.int .i64)) .unit)) .unit)))),.ty (.slice (.pair (.slice (.int .i64)) (.pair (.slice (.int .i64)) .unit)))]] }
abbrev shr81_0:Sh:={ n:=25,slots:=[4,5],pats:=[.ty (.int .i64),.ty (.int .i64)],boxes:=[.row [.ty (.slice .str),.ty (.slice (.pair .str (.pair (.pair (.slice (.int .i64)) (.pair (.slice (.int .i64)) .unit)) (.pair (.pair (.slice (.int .i64)) (.pair (.slice (.int .i64)) .unit)) .unit)))),.ty (.slice (.pair (.slice (.int .i64)) (.pair (.slice (.int .i64)) .unit)))]] }

def t81_0 (x1:(List ByteArray)) (x2:Int) (x3:Int) (b0_0:(List ByteArray)) (b0_1:(List (ByteArray×(((List Int)×((List Int)×Unit))×(((List Int)×((List Int)×Unit))×Unit))))) (b0_2:(List ((List Int)×((List Int)×Unit)))):Tr (Out sh81_0.data shb81_0.data shr81_0.data) :=
  Tr.test ((!leF x2 x3:Bool))
    (Tr.test (decide ((0:Int) ≤ x3) && decide (x3 < (↑(List.length x1):Int)))
      (Tr.test (Option.isSome (f83 (b0_0,(x3,((5:Int),())))))
        (let r0:=g83 (b0_0,(x3,((5:Int),())));
        Tr.test ((!eqF r0.1 0:Bool))
          (Tr.fin (.ret ((x3,(r0.1,())),((b0_0,(b0_1,(b0_2,()))),()))))
          (Tr.fin (.again ((x1,(x2,((wrap64 (x3 + (1:Int)):Int),()))),((b0_0,(b0_1,(b0_2,()))),())))))
        (Tr.stop))
      (Tr.stop))
    (Tr.fin (.brk ((),((b0_0,(b0_1,(b0_2,()))),()))))

def s81_0 (d:sh81_0.data):Option (Out sh81_0.data shb81_0.data shr81_0.data):=(t81_0 d.1.1 d.1.2.1 d.1.2.2.1 d.2.1.1 d.2.1.2.1 d.2.1.2.2.1).val
def l81_0 (d:sh81_0.data):Option (shb81_0.data ⊕ shr81_0.data):=itr s81_0 rounds d
def b81_0 (d:sh81_0.data):shb81_0.data:=outB shb81_0.dflt (l81_0 d)
def r81_0 (d:sh81_0.data):shr81_0.data:=outR shr81_0.dflt (l81_0 d)
def lc81_0:LoopC:=lcOf sh81_0 shb81_0 shr81_0 l81_0 b81_0 r81_0

theorem wk81_0 (x1:(List ByteArray)) (x2:Int) (x3:Int) (b0_0:(List ByteArray)) (b0_1:(List (ByteArray×(((List Int)×((List Int)×Unit))×(((List Int)×((List Int)×Unit))×Unit))))) (b0_2:(List ((List Int)×((List Int)×Unit)))):Walks (runBody (kf86 Go.Proofs.Tryz.prog).orc Go.Proofs.Tryz.prog 400 81 0 sh81_0 shb81_0 shr81_0 ((x1,x2,x3,()),(b0_0,b0_1,b0_2,()),())) (t81_0 x1 x2 x3 b0_0 b0_1 b0_2) [(bl 4 15,[2,4,6,8]),(bl 4 7,[2,4,6,8]),(bl 1 0,[2])] :=
  ⟨by kernel_rfl,by kernel_rfl,by kernel_rfl,trivial⟩

theorem ok81_0_t (x1:(List ByteArray)) (x2:Int) (x3:Int) (b0_0:(List ByteArray)) (b0_1:(List (ByteArray×(((List Int)×((List Int)×Unit))×(((List Int)×((List Int)×Unit))×Unit))))) (b0_2:(List ((List Int)×((List Int)×Unit)))):TrOk (BodyRuns Go.Proofs.Tryz.prog (kf86 Go.Proofs.Tryz.prog).orc 81 0 sh81_0 shb81_0 shr81_0 ((x1,x2,x3,()),(b0_0,b0_1,b0_2,()),())) (t81_0 x1 x2 x3 b0_0 b0_1 b0_2) :=
  Walks.ok (fun _ _ _=>BodyRuns.of) (wk81_0 x1 x2 x3 b0_0 b0_1 b0_2) (by kernel_rfl)

theorem ok81_0:LoopOk Go.Proofs.Tryz.prog 81 0 lc81_0:=loopOk_of (sh:=sh81_0) (shB:=shb81_0) (shR:=shr81_0) kf86_ok.base (T:=fun (d:sh81_0.data)=>t81_0 d.1.1 d.1.2.1 d.1.2.2.1 d.2.1.1 d.2.1.2.1 d.2.1.2.2.1) (by kernel_rfl) rfl (fun (d:sh81_0.data)=>ok81_0_t d.1.1 d.1.2.1 d.1.2.2.1 d.2.1.1 d.2.1.2.1 d.2.1.2.2.1) (fun _=>rfl)
def kl81_0 (P:Go.Program):Known:=(kf86 P).loop 81 0 lc81_0
theorem kl81_0_ok:KnownOk Go.Proofs.Tryz.prog (kl81_0 Go.Proofs.Tryz.prog):=kf86_ok.loop ok81_0

/-! loop 0 of ductility/safety.CheckMachine -/

abbrev sh16_0:Sh:={ n:=80,slots:=[1,4,9,51,52,53],pats:=[.ptr 0 3 0,.ptr 1 1 0,.ptr 2 1 0,.ty (.slice (.pair .str (.pair (.pair (.slice (.int .i64)) (.pair (.slice (.int .i64)) .unit)) (.pair (.pair (.slice (.int .i64)) (.pair (.slice (.int .i64)) .unit)) .unit)))),.ty (.int .i64),.ty (.int .i64)],boxes:=[.row [.ty (.slice .str),.ty (.slice (.pair .str (.pair (.pair (.slice (.int .i64)) (.pair (.slice (.int .i64)) .unit)) (.pair (.pair (.slice (.int .i64)) (.pair (.slice (.int .i64)) .unit)) .unit)))),.ty (.slice (.pair (.slice (.int .i64)) (.pair (.slice (.int .i64)) .unit)))],.row [.ty (.int .i64)],.row [.acc .str]] }
abbrev shb16_0:Sh:={ n:=80,slots:=[1,4,9],pats:=[.ptr 0 3 0,.ptr 1 1 0,.ptr 2 1 0],boxes:=[.row [.ty (.slice .str),.ty (.slice (.pair .str (.pair (.pair (.slice (.int .i64)) (.pair (.slice (.int .i64)) .unit)) (.pair (.pair (.slice (.int .i64)) (.pair (.slice (.int .i64)) .unit)) .unit)))),.ty (.slice (.pair (.slice (.int .i64)) (.pair (.slice (.int .i64)) .unit)))],.row [.ty (.int .i64)],.row [.acc .str]] }
abbrev shr16_0:Sh:={ n:=80,slots:=[],pats:=[],boxes:=[.row [.ty (.slice .str),.ty (.slice (.pair .str (.pair (.pair (.slice (.int .i64)) (.pair (.slice (.int .i64)) .unit)) (.pair (.pair (.slice (.int .i64)) (.pair (.slice (.int .i64)) .unit)) .unit)))),.ty (.slice (.pair (.slice (.int .i64)) (.pair (.slice (.int .i64)) .unit)))],.row [.ty (.int .i64)],.row [.acc .str]] }

def t16_0 (x3:(List (ByteArray×(((List Int)×((List Int)×Unit))×(((List Int)×((List Int)×Unit))×Unit))))) (x4:Int) (x5:Int) (b0_0:(List ByteArray)) (b0_1:(List (ByteArray×(((List Int)×((List Int)×Unit))×(((List Int)×((List Int)×Unit))×Unit))))) (b0_2:(List ((List Int)×((List Int)×Unit)))) (b1_0:Int) (b2_0:(List ByteArray)):Tr (Out sh16_0.data shb16_0.data shr16_0.data) :=
  Tr.test ((!leF x4 x5:Bool))
    (Tr.test (decide ((0:Int) ≤ x5) && decide (x5 < (↑(List.length x3):Int)))
      (Tr.test ((Nat.ble (((2:Nat) * (List.length b2_0 + (1:Nat)) + (192:Nat)) * (16:Nat)) (281474976710656:Nat) && Nat.ble (List.length b2_0 + (1:Nat)) (281474976710656:Nat):Bool))
        (Tr.fin (.again ((x3,(x4,((wrap64 (x5 + (1:Int)):Int),()))),((b0_0,(b0_1,(b0_2,()))),((b1_0,()),(((b2_0++[(List.getD x3 (Int.toNat x5) ({ data:={ toList:=[] } },([],[],()),([],[],()),())).1]:List ByteArray),()),()))))))
        (Tr.stop))
      (Tr.stop))
    (Tr.fin (.brk ((),((b0_0,(b0_1,(b0_2,()))),((b1_0,()),((b2_0,()),()))))))

def s16_0 (d:sh16_0.data):Option (Out sh16_0.data shb16_0.data shr16_0.data):=(t16_0 d.1.1 d.1.2.1 d.1.2.2.1 d.2.1.1 d.2.1.2.1 d.2.1.2.2.1 d.2.2.1.1 d.2.2.2.1.1).val
def l16_0 (d:sh16_0.data):Option (shb16_0.data ⊕ shr16_0.data):=itr s16_0 rounds d
def b16_0 (d:sh16_0.data):shb16_0.data:=outB shb16_0.dflt (l16_0 d)
def lc16_0:LoopC:=lcB sh16_0 shb16_0 shr16_0 l16_0 b16_0

theorem wk16_0 (x3:(List (ByteArray×(((List Int)×((List Int)×Unit))×(((List Int)×((List Int)×Unit))×Unit))))) (x4:Int) (x5:Int) (b0_0:(List ByteArray)) (b0_1:(List (ByteArray×(((List Int)×((List Int)×Unit))×(((List Int)×((List Int)×Unit))×Unit))))) (b0_2:(List ((List Int)×((List Int)×Unit)))) (b1_0:Int) (b2_0:(List ByteArray)):Walks (runBody (kl81_0 Go.Proofs.Tryz.prog).orc Go.Proofs.Tryz.prog 400 16 0 sh16_0 shb16_0 shr16_0 ((x3,x4,x5,()),(b0_0,b0_1,b0_2,()),(b1_0,()),(b2_0,()),())) (t16_0 x3 x4 x5 b0_0 b0_1 b0_2 b1_0 b2_0) [(bl 3 7,[2,4,6]),(bl 1 0,[2])] :=
  ⟨by kernel_rfl,by kernel_rfl,trivial⟩

theorem ok16_0_t (x3:(List (ByteArray×(((List Int)×((List Int)×Unit))×(((List Int)×((List Int)×Unit))×Unit))))) (x4:Int) (x5:Int) (b0_0:(List ByteArray)) (b0_1:(List (ByteArray×(((List Int)×((List Int)×Unit))×(((List Int)×((List Int)×Unit))×Unit))))) (b0_2:(List ((List Int)×((List Int)×Unit)))) (b1_0:Int) (b2_0:(List ByteArray)):TrOk (BodyRuns Go.Proofs.Tryz.prog (kl81_0 Go.Proofs.Tryz.prog).orc 16 0 sh16_0 shb16_0 shr16_0 ((x3,x4,x5,()),(b0_0,b0_1,b0_2,()),(b1_0,()),(b2_0,()),())) (t16_0 x3 x4 x5 b0_0 b0_1 b0_2 b1_0 b2_0) :=
  Walks.ok (fun _ _ _=>BodyRuns.of) (wk16_0 x3 x4 x5 b0_0 b0_1 b0_2 b1_0 b2_0) (by kernel_rfl)

theorem ok16_0:LoopOk Go.Proofs.Tryz.prog 16 0 lc16_0:=loopOk_ofB (sh:=sh16_0) (shB:=shb16_0) (shR:=shr16_0) kl81_0_ok.base (T:=fun (d:sh16_0.data)=>t16_0 d.1.1 d.1.2.1 d.1.2.2.1 d.2.1.1 d.2.1.2.1 d.2.1.2.2.1 d.2.2.1.1 d.2.2.2.1.1) (by kernel_rfl) rfl (fun (d:sh16_0.data)=>ok16_0_t d.1.1 d.1.2.1 d.1.2.2.1 d.2.1.1 d.2.1.2.1 d.2.1.2.2.1 d.2.2.1.1 d.2.2.2.1.1) (fun _=>rfl)
def kl16_0 (P:Go.Program):Known:=(kl81_0 P).loop 16 0 lc16_0
theorem kl16_0_ok:KnownOk Go.Proofs.Tryz.prog (kl16_0 Go.Proofs.Tryz.prog):=kl81_0_ok.loop ok16_0

/-! loop 0 of ductility/safety.checkItems[ductility/api.SafetyAction] -/

abbrev sh84_0:Sh:={ n:=25,slots:=[1,9,10,11],pats:=[.fn 85 [(0,1),(1,1)],.ty (.slice (.pair .str (.pair (.pair (.slice (.int .i64)) (.pair (.slice (.int .i64)) .unit)) (.pair (.pair (.slice (.int .i64)) (.pair (.slice (.int .i64)) .unit)) .unit)))),.ty (.int .i64),.ty (.int .i64)],boxes:=[.row [.acc .str],.row [.ty (.int .i64)]] }
abbrev shb84_0:Sh:={ n:=25,slots:=[],pats:=[],boxes:=[.row [.acc .str],.row [.ty (.int .i64)]] }
abbrev shr84_0:Sh:={ n:=25,slots:=[4,5],pats:=[.ty (.int .i64),.ty (.int .i64)],boxes:=[.row [.acc .str],.row [.ty (.int .i64)]] }

def t84_0 (x1:(List (ByteArray×(((List Int)×((List Int)×Unit))×(((List Int)×((List Int)×Unit))×Unit))))) (x2:Int) (x3:Int) (b0_0:(List ByteArray)) (b1_0:Int):Tr (Out sh84_0.data shb84_0.data shr84_0.data) :=
  Tr.test ((!leF x2 x3:Bool))
    (Tr.test (decide ((0:Int) ≤ x3) && decide (x3 < (↑(List.length x1):Int)))
      (Tr.test (Option.isSome (f83 (b0_0,(x3,((5:Int),())))))
        (Tr.test (Option.isSome (f86 ((((List.getD x1 (Int.toNat x3) ({ data:={ toList:=[] } },([],[],()),([],[],()),())).2.1.1:List Int),(((List.getD x1 (Int.toNat x3) ({ data:={ toList:=[] } },([],[],()),([],[],()),())).2.1.2.1:List Int),())),(b1_0,()))))
          (Tr.test (Option.isSome (f86 ((((List.getD x1 (Int.toNat x3) ({ data:={ toList:=[] } },([],[],()),([],[],()),())).2.2.1.1:List Int),(((List.getD x1 (Int.toNat x3) ({ data:={ toList:=[] } },([],[],()),([],[],()),())).2.2.1.2.1:List Int),())),(b1_0,()))))
            (let r0:=g83 (b0_0,(x3,((5:Int),())));
            let r1:=g86 ((((List.getD x1 (Int.toNat x3) ({ data:={ toList:=[] } },([],[],()),([],[],()),())).2.1.1:List Int),(((List.getD x1 (Int.toNat x3) ({ data:={ toList:=[] } },([],[],()),([],[],()),())).2.1.2.1:List Int),())),(b1_0,()));
            let r2:=g86 ((((List.getD x1 (Int.toNat x3) ({ data:={ toList:=[] } },([],[],()),([],[],()),())).2.2.1.1:List Int),(((List.getD x1 (Int.toNat x3) ({ data:={ toList:=[] } },([],[],()),([],[],()),())).2.2.1.2.1:List Int),())),(b1_0,()));
            Tr.test (Option.isSome (f79 (([r0.1,r1.1,r2.1]:List Int),())))
              (let r3:=g79 (([r0.1,r1.1,r2.1]:List Int),());
              Tr.test ((!eqF r3.1 0:Bool))
                (Tr.fin (.ret ((x3,(r3.1,())),((b0_0,()),((b1_0,()),())))))
                (Tr.fin (.again ((x1,(x2,((wrap64 (x3 + (1:Int)):Int),()))),((b0_0,()),((b1_0,()),()))))))
              (Tr.stop))
            (Tr.stop))
          (Tr.stop))
        (Tr.stop))
      (Tr.stop))
    (Tr.fin (.brk ((),((b0_0,()),((b1_0,()),())))))

def s84_0 (d:sh84_0.data):Option (Out sh84_0.data shb84_0.data shr84_0.data):=(t84_0 d.1.1 d.1.2.1 d.1.2.2.1 d.2.1.1 d.2.2.1.1).val
def l84_0 (d:sh84_0.data):Option (shb84_0.data ⊕ shr84_0.data):=itr s84_0 rounds d
def b84_0 (d:sh84_0.data):shb84_0.data:=outB shb84_0.dflt (l84_0 d)
def r84_0 (d:sh84_0.data):shr84_0.data:=outR shr84_0.dflt (l84_0 d)
def lc84_0:LoopC:=lcOf sh84_0 shb84_0 shr84_0 l84_0 b84_0 r84_0

theorem wk84_0 (x1:(List (ByteArray×(((List Int)×((List Int)×Unit))×(((List Int)×((List Int)×Unit))×Unit))))) (x2:Int) (x3:Int) (b0_0:(List ByteArray)) (b1_0:Int):Walks (runBody (kl16_0 Go.Proofs.Tryz.prog).orc Go.Proofs.Tryz.prog 400 84 0 sh84_0 shb84_0 shr84_0 ((x1,x2,x3,()),(b0_0,()),(b1_0,()),())) (t84_0 x1 x2 x3 b0_0 b1_0) [(bl 7 127,[2,4,6,8,10,12,14]),(bl 7 63,[2,4,6,8,10,12,14]),(bl 1 0,[2])] :=
  ⟨by kernel_rfl,by kernel_rfl,by kernel_rfl,trivial⟩

theorem ok84_0_t (x1:(List (ByteArray×(((List Int)×((List Int)×Unit))×(((List Int)×((List Int)×Unit))×Unit))))) (x2:Int) (x3:Int) (b0_0:(List ByteArray)) (b1_0:Int):TrOk (BodyRuns Go.Proofs.Tryz.prog (kl16_0 Go.Proofs.Tryz.prog).orc 84 0 sh84_0 shb84_0 shr84_0 ((x1,x2,x3,()),(b0_0,()),(b1_0,()),())) (t84_0 x1 x2 x3 b0_0 b1_0) :=
  Walks.ok (fun _ _ _=>BodyRuns.of) (wk84_0 x1 x2 x3 b0_0 b1_0) (by kernel_rfl)

theorem ok84_0:LoopOk Go.Proofs.Tryz.prog 84 0 lc84_0:=loopOk_of (sh:=sh84_0) (shB:=shb84_0) (shR:=shr84_0) kl16_0_ok.base (T:=fun (d:sh84_0.data)=>t84_0 d.1.1 d.1.2.1 d.1.2.2.1 d.2.1.1 d.2.2.1.1) (by kernel_rfl) rfl (fun (d:sh84_0.data)=>ok84_0_t d.1.1 d.1.2.1 d.1.2.2.1 d.2.1.1 d.2.2.1.1) (fun _=>rfl)
def kl84_0 (P:Go.Program):Known:=(kl16_0 P).loop 84 0 lc84_0
theorem kl84_0_ok:KnownOk Go.Proofs.Tryz.prog (kl84_0 Go.Proofs.Tryz.prog):=kl16_0_ok.loop ok84_0

/-! loop 0 of ductility/safety.checkItems[ductility/api.SafetyTest] -/

abbrev sh87_0:Sh:={ n:=25,slots:=[1,9,10,11],pats:=[.fn 88 [(0,1)],.ty (.slice (.pair (.slice (.int .i64)) (.pair (.slice (.int .i64)) .unit))),.ty (.int .i64),.ty (.int .i64)],boxes:=[.row [.ty (.int .i64)]] }
abbrev shb87_0:Sh:={ n:=25,slots:=[],pats:=[],boxes:=[.row [.ty (.int .i64)]] }
abbrev shr87_0:Sh:={ n:=25,slots:=[4,5],pats:=[.ty (.int .i64),.ty (.int .i64)],boxes:=[.row [.ty (.int .i64)]] }

def t87_0 (x1:(List ((List Int)×((List Int)×Unit)))) (x2:Int) (x3:Int) (b0_0:Int):Tr (Out sh87_0.data shb87_0.data shr87_0.data) :=
  Tr.test ((!leF x2 x3:Bool))
    (Tr.test (decide ((0:Int) ≤ x3) && decide (x3 < (↑(List.length x1):Int)))
      (Tr.test (Option.isSome (f86 ((((List.getD x1 (Int.toNat x3) ([],[],())).1:List Int),(((List.getD x1 (Int.toNat x3) ([],[],())).2.1:List Int),())),(b0_0,()))))
        (let r0:=g86 ((((List.getD x1 (Int.toNat x3) ([],[],())).1:List Int),(((List.getD x1 (Int.toNat x3) ([],[],())).2.1:List Int),())),(b0_0,()));
        Tr.test ((!eqF r0.1 0:Bool))
          (Tr.fin (.ret ((x3,(r0.1,())),((b0_0,()),()))))
          (Tr.fin (.again ((x1,(x2,((wrap64 (x3 + (1:Int)):Int),()))),((b0_0,()),())))))
        (Tr.stop))
      (Tr.stop))
    (Tr.fin (.brk ((),((b0_0,()),()))))

def s87_0 (d:sh87_0.data):Option (Out sh87_0.data shb87_0.data shr87_0.data):=(t87_0 d.1.1 d.1.2.1 d.1.2.2.1 d.2.1.1).val
def l87_0 (d:sh87_0.data):Option (shb87_0.data ⊕ shr87_0.data):=itr s87_0 rounds d
def b87_0 (d:sh87_0.data):shb87_0.data:=outB shb87_0.dflt (l87_0 d)
def r87_0 (d:sh87_0.data):shr87_0.data:=outR shr87_0.dflt (l87_0 d)
def lc87_0:LoopC:=lcOf sh87_0 shb87_0 shr87_0 l87_0 b87_0 r87_0

theorem wk87_0 (x1:(List ((List Int)×((List Int)×Unit)))) (x2:Int) (x3:Int) (b0_0:Int):Walks (runBody (kl84_0 Go.Proofs.Tryz.prog).orc Go.Proofs.Tryz.prog 400 87 0 sh87_0 shb87_0 shr87_0 ((x1,x2,x3,()),(b0_0,()),())) (t87_0 x1 x2 x3 b0_0) [(bl 4 15,[2,4,6,8]),(bl 4 7,[2,4,6,8]),(bl 1 0,[2])] :=
  ⟨by kernel_rfl,by kernel_rfl,by kernel_rfl,trivial⟩

theorem ok87_0_t (x1:(List ((List Int)×((List Int)×Unit)))) (x2:Int) (x3:Int) (b0_0:Int):TrOk (BodyRuns Go.Proofs.Tryz.prog (kl84_0 Go.Proofs.Tryz.prog).orc 87 0 sh87_0 shb87_0 shr87_0 ((x1,x2,x3,()),(b0_0,()),())) (t87_0 x1 x2 x3 b0_0) :=
  Walks.ok (fun _ _ _=>BodyRuns.of) (wk87_0 x1 x2 x3 b0_0) (by kernel_rfl)

theorem ok87_0:LoopOk Go.Proofs.Tryz.prog 87 0 lc87_0:=loopOk_of (sh:=sh87_0) (shB:=shb87_0) (shR:=shr87_0) kl84_0_ok.base (T:=fun (d:sh87_0.data)=>t87_0 d.1.1 d.1.2.1 d.1.2.2.1 d.2.1.1) (by kernel_rfl) rfl (fun (d:sh87_0.data)=>ok87_0_t d.1.1 d.1.2.1 d.1.2.2.1 d.2.1.1) (fun _=>rfl)
def kl87_0 (P:Go.Program):Known:=(kl84_0 P).loop 87 0 lc87_0
theorem kl87_0_ok:KnownOk Go.Proofs.Tryz.prog (kl87_0 Go.Proofs.Tryz.prog):=kl84_0_ok.loop ok87_0

/-! ductility/safety.CheckMachine -/

abbrev as16:List Ty:=[(.pair (.slice .str) (.pair (.slice (.pair .str (.pair (.pair (.slice (.int .i64)) (.pair (.slice (.int .i64)) .unit)) (.pair (.pair (.slice (.int .i64)) (.pair (.slice (.int .i64)) .unit)) .unit)))) (.pair (.slice (.pair (.slice (.int .i64)) (.pair (.slice (.int .i64)) .unit))) .unit)))]
abbrev rs16:List Ty:=[(.int .i64),(.int .i64)]

def t16 (x0:(List ByteArray)) (x0':(List (ByteArray×(((List Int)×((List Int)×Unit))×(((List Int)×((List Int)×Unit))×Unit))))) (x0'':(List ((List Int)×((List Int)×Unit)))):Tr (Tys.data rs16) :=
  Tr.test ((!leF (↑(List.length x0):Int) (8:Int):Bool))
    (Tr.test (Option.isSome (f80 (eqF (↑(List.length x0):Int) (0:Int),((10:Int),()))))
      (Tr.test (Option.isSome (f80 ((true:Bool),((8:Int),()))))
        (let r0:=g80 ((eqF (↑(List.length x0):Int) (0:Int):Bool),((10:Int),()));
        let r1:=g80 ((true:Bool),((8:Int),()));
        Tr.test (Option.isSome (f79 (([r0.1,r1.1]:List Int),())))
          (let r2:=g79 (([r0.1,r1.1]:List Int),());
          Tr.test ((!eqF r2.1 0:Bool))
            (Tr.fin (((0:Int),(r2.1,()))))
            (Tr.test (Option.isSome (l81_0 ((x0,((↑(List.length x0):Int),((0:Int),()))),((x0,(x0',(x0'',()))),()))))
              (Tr.test (isRet (l81_0 ((x0,((↑(List.length x0):Int),((0:Int),()))),((x0,(x0',(x0'',()))),()))))
                (let r3:=r81_0 ((x0,((↑(List.length x0):Int),((0:Int),()))),((x0,(x0',(x0'',()))),()));
                Tr.test ((!eqF r3.1.2.1 0:Bool))
                  (Tr.fin ((r3.1.1,(r3.1.2.1,()))))
                  (Tr.test (isBrk (l16_0 (((r3.2.1.2.1:List (ByteArray×(List Int×List Int×PUnit)×(List Int×List Int×PUnit)×PUnit)),((↑(List.length r3.2.1.2.1):Int),((0:Int),()))),((r3.2.1.1,((r3.2.1.2.1:List (ByteArray×(List Int×List Int×PUnit)×(List Int×List Int×PUnit)×PUnit)),(r3.2.1.2.2.1,()))),(((↑(List.length x0):Int),()),((([]:List ByteArray),()),()))))))
                    (let r5:=b16_0 (((r3.2.1.2.1:List (ByteArray×(List Int×List Int×PUnit)×(List Int×List Int×PUnit)×PUnit)),((↑(List.length r3.2.1.2.1):Int),((0:Int),()))),((r3.2.1.1,((r3.2.1.2.1:List (ByteArray×(List Int×List Int×PUnit)×(List Int×List Int×PUnit)×PUnit)),(r3.2.1.2.2.1,()))),(((↑(List.length x0):Int),()),((([]:List ByteArray),()),()))));
                    Tr.test (Option.isSome (l84_0 (((r5.2.1.2.1:List (ByteArray×(List Int×List Int×PUnit)×(List Int×List Int×PUnit)×PUnit)),((↑(List.length r5.2.1.2.1):Int),((0:Int),()))),((r5.2.2.2.1.1,()),((r5.2.2.1.1,()),())))))
                      (Tr.test (isRet (l84_0 (((r5.2.1.2.1:List (ByteArray×(List Int×List Int×PUnit)×(List Int×List Int×PUnit)×PUnit)),((↑(List.length r5.2.1.2.1):Int),((0:Int),()))),((r5.2.2.2.1.1,()),((r5.2.2.1.1,()),())))))
                        (let r6:=r84_0 (((r5.2.1.2.1:List (ByteArray×(List Int×List Int×PUnit)×(List Int×List Int×PUnit)×PUnit)),((↑(List.length r5.2.1.2.1):Int),((0:Int),()))),((r5.2.2.2.1.1,()),((r5.2.2.1.1,()),())));
                        Tr.test ((!eqF r6.1.2.1 0:Bool))
                          (Tr.fin ((r6.1.1,(r6.1.2.1,()))))
                          (Tr.test (Option.isSome (l87_0 ((r5.2.1.2.2.1,((↑(List.length r5.2.1.2.2.1):Int),((0:Int),()))),((r6.2.2.1.1,()),()))))
                            (Tr.test (isRet (l87_0 ((r5.2.1.2.2.1,((↑(List.length r5.2.1.2.2.1):Int),((0:Int),()))),((r6.2.2.1.1,()),()))))
                              (let r8:=r87_0 ((r5.2.1.2.2.1,((↑(List.length r5.2.1.2.2.1):Int),((0:Int),()))),((r6.2.2.1.1,()),()));
                              Tr.fin ((r8.1.1,(r8.1.2.1,()))))
                              (Tr.fin (((0:Int),((0:Int),())))))
                            (Tr.stop)))
                        (let r7:=b84_0 (((r5.2.1.2.1:List (ByteArray×(List Int×List Int×PUnit)×(List Int×List Int×PUnit)×PUnit)),((↑(List.length r5.2.1.2.1):Int),((0:Int),()))),((r5.2.2.2.1.1,()),((r5.2.2.1.1,()),())));
                        Tr.test (Option.isSome (l87_0 ((r5.2.1.2.2.1,((↑(List.length r5.2.1.2.2.1):Int),((0:Int),()))),((r7.2.2.1.1,()),()))))
                          (Tr.test (isRet (l87_0 ((r5.2.1.2.2.1,((↑(List.length r5.2.1.2.2.1):Int),((0:Int),()))),((r7.2.2.1.1,()),()))))
                            (let r10:=r87_0 ((r5.2.1.2.2.1,((↑(List.length r5.2.1.2.2.1):Int),((0:Int),()))),((r7.2.2.1.1,()),()));
                            Tr.fin ((r10.1.1,(r10.1.2.1,()))))
                            (Tr.fin (((0:Int),((0:Int),())))))
                          (Tr.stop)))
                      (Tr.stop))
                    (Tr.stop)))
                (let r4:=b81_0 ((x0,((↑(List.length x0):Int),((0:Int),()))),((x0,(x0',(x0'',()))),()));
                Tr.test (isBrk (l16_0 (((r4.2.1.2.1:List (ByteArray×(List Int×List Int×PUnit)×(List Int×List Int×PUnit)×PUnit)),((↑(List.length r4.2.1.2.1):Int),((0:Int),()))),((r4.2.1.1,((r4.2.1.2.1:List (ByteArray×(List Int×List Int×PUnit)×(List Int×List Int×PUnit)×PUnit)),(r4.2.1.2.2.1,()))),(((↑(List.length x0):Int),()),((([]:List ByteArray),()),()))))))
                  (let r12:=b16_0 (((r4.2.1.2.1:List (ByteArray×(List Int×List Int×PUnit)×(List Int×List Int×PUnit)×PUnit)),((↑(List.length r4.2.1.2.1):Int),((0:Int),()))),((r4.2.1.1,((r4.2.1.2.1:List (ByteArray×(List Int×List Int×PUnit)×(List Int×List Int×PUnit)×PUnit)),(r4.2.1.2.2.1,()))),(((↑(List.length x0):Int),()),((([]:List ByteArray),()),()))));
                  Tr.test (Option.isSome (l84_0 (((r12.2.1.2.1:List (ByteArray×(List Int×List Int×PUnit)×(List Int×List Int×PUnit)×PUnit)),((↑(List.length r12.2.1.2.1):Int),((0:Int),()))),((r12.2.2.2.1.1,()),((r12.2.2.1.1,()),())))))
                    (Tr.test (isRet (l84_0 (((r12.2.1.2.1:List (ByteArray×(List Int×List Int×PUnit)×(List Int×List Int×PUnit)×PUnit)),((↑(List.length r12.2.1.2.1):Int),((0:Int),()))),((r12.2.2.2.1.1,()),((r12.2.2.1.1,()),())))))
                      (let r13:=r84_0 (((r12.2.1.2.1:List (ByteArray×(List Int×List Int×PUnit)×(List Int×List Int×PUnit)×PUnit)),((↑(List.length r12.2.1.2.1):Int),((0:Int),()))),((r12.2.2.2.1.1,()),((r12.2.2.1.1,()),())));
                      Tr.test ((!eqF r13.1.2.1 0:Bool))
                        (Tr.fin ((r13.1.1,(r13.1.2.1,()))))
                        (Tr.test (Option.isSome (l87_0 ((r12.2.1.2.2.1,((↑(List.length r12.2.1.2.2.1):Int),((0:Int),()))),((r13.2.2.1.1,()),()))))
                          (Tr.test (isRet (l87_0 ((r12.2.1.2.2.1,((↑(List.length r12.2.1.2.2.1):Int),((0:Int),()))),((r13.2.2.1.1,()),()))))
                            (let r15:=r87_0 ((r12.2.1.2.2.1,((↑(List.length r12.2.1.2.2.1):Int),((0:Int),()))),((r13.2.2.1.1,()),()));
                            Tr.fin ((r15.1.1,(r15.1.2.1,()))))
                            (Tr.fin (((0:Int),((0:Int),())))))
                          (Tr.stop)))
                      (let r14:=b84_0 (((r12.2.1.2.1:List (ByteArray×(List Int×List Int×PUnit)×(List Int×List Int×PUnit)×PUnit)),((↑(List.length r12.2.1.2.1):Int),((0:Int),()))),((r12.2.2.2.1.1,()),((r12.2.2.1.1,()),())));
                      Tr.test (Option.isSome (l87_0 ((r12.2.1.2.2.1,((↑(List.length r12.2.1.2.2.1):Int),((0:Int),()))),((r14.2.2.1.1,()),()))))
                        (Tr.test (isRet (l87_0 ((r12.2.1.2.2.1,((↑(List.length r12.2.1.2.2.1):Int),((0:Int),()))),((r14.2.2.1.1,()),()))))
                          (let r17:=r87_0 ((r12.2.1.2.2.1,((↑(List.length r12.2.1.2.2.1):Int),((0:Int),()))),((r14.2.2.1.1,()),()));
                          Tr.fin ((r17.1.1,(r17.1.2.1,()))))
                          (Tr.fin (((0:Int),((0:Int),())))))
                        (Tr.stop)))
                    (Tr.stop))
                  (Tr.stop)))
              (Tr.stop)))
          (Tr.stop))
        (Tr.stop))
      (Tr.stop))
    (Tr.test (!leF (↑(List.length x0'):Int) (10:Int))
      (Tr.test (Option.isSome (f80 ((eqF (↑(List.length x0):Int) (0:Int):Bool),((10:Int),()))))
        (Tr.test (Option.isSome (f80 ((true:Bool),((8:Int),()))))
          (let r0:=g80 ((eqF (↑(List.length x0):Int) (0:Int):Bool),((10:Int),()));
          let r1:=g80 ((true:Bool),((8:Int),()));
          Tr.test (Option.isSome (f79 (([r0.1,r1.1]:List Int),())))
            (let r2:=g79 (([r0.1,r1.1]:List Int),());
            Tr.test ((!eqF r2.1 0:Bool))
              (Tr.fin (((0:Int),(r2.1,()))))
              (Tr.test (Option.isSome (l81_0 ((x0,((↑(List.length x0):Int),((0:Int),()))),((x0,(x0',(x0'',()))),()))))
                (Tr.test (isRet (l81_0 ((x0,((↑(List.length x0):Int),((0:Int),()))),((x0,(x0',(x0'',()))),()))))
                  (let r3:=r81_0 ((x0,((↑(List.length x0):Int),((0:Int),()))),((x0,(x0',(x0'',()))),()));
                  Tr.test ((!eqF r3.1.2.1 0:Bool))
                    (Tr.fin ((r3.1.1,(r3.1.2.1,()))))
                    (Tr.test (isBrk (l16_0 (((r3.2.1.2.1:List (ByteArray×(List Int×List Int×PUnit)×(List Int×List Int×PUnit)×PUnit)),((↑(List.length r3.2.1.2.1):Int),((0:Int),()))),((r3.2.1.1,((r3.2.1.2.1:List (ByteArray×(List Int×List Int×PUnit)×(List Int×List Int×PUnit)×PUnit)),(r3.2.1.2.2.1,()))),(((↑(List.length x0):Int),()),((([]:List ByteArray),()),()))))))
                      (let r5:=b16_0 (((r3.2.1.2.1:List (ByteArray×(List Int×List Int×PUnit)×(List Int×List Int×PUnit)×PUnit)),((↑(List.length r3.2.1.2.1):Int),((0:Int),()))),((r3.2.1.1,((r3.2.1.2.1:List (ByteArray×(List Int×List Int×PUnit)×(List Int×List Int×PUnit)×PUnit)),(r3.2.1.2.2.1,()))),(((↑(List.length x0):Int),()),((([]:List ByteArray),()),()))));
                      Tr.test (Option.isSome (l84_0 (((r5.2.1.2.1:List (ByteArray×(List Int×List Int×PUnit)×(List Int×List Int×PUnit)×PUnit)),((↑(List.length r5.2.1.2.1):Int),((0:Int),()))),((r5.2.2.2.1.1,()),((r5.2.2.1.1,()),())))))
                        (Tr.test (isRet (l84_0 (((r5.2.1.2.1:List (ByteArray×(List Int×List Int×PUnit)×(List Int×List Int×PUnit)×PUnit)),((↑(List.length r5.2.1.2.1):Int),((0:Int),()))),((r5.2.2.2.1.1,()),((r5.2.2.1.1,()),())))))
                          (let r6:=r84_0 (((r5.2.1.2.1:List (ByteArray×(List Int×List Int×PUnit)×(List Int×List Int×PUnit)×PUnit)),((↑(List.length r5.2.1.2.1):Int),((0:Int),()))),((r5.2.2.2.1.1,()),((r5.2.2.1.1,()),())));
                          Tr.test ((!eqF r6.1.2.1 0:Bool))
                            (Tr.fin ((r6.1.1,(r6.1.2.1,()))))
                            (Tr.test (Option.isSome (l87_0 ((r5.2.1.2.2.1,((↑(List.length r5.2.1.2.2.1):Int),((0:Int),()))),((r6.2.2.1.1,()),()))))
                              (Tr.test (isRet (l87_0 ((r5.2.1.2.2.1,((↑(List.length r5.2.1.2.2.1):Int),((0:Int),()))),((r6.2.2.1.1,()),()))))
                                (let r8:=r87_0 ((r5.2.1.2.2.1,((↑(List.length r5.2.1.2.2.1):Int),((0:Int),()))),((r6.2.2.1.1,()),()));
                                Tr.fin ((r8.1.1,(r8.1.2.1,()))))
                                (Tr.fin (((0:Int),((0:Int),())))))
                              (Tr.stop)))
                          (let r7:=b84_0 (((r5.2.1.2.1:List (ByteArray×(List Int×List Int×PUnit)×(List Int×List Int×PUnit)×PUnit)),((↑(List.length r5.2.1.2.1):Int),((0:Int),()))),((r5.2.2.2.1.1,()),((r5.2.2.1.1,()),())));
                          Tr.test (Option.isSome (l87_0 ((r5.2.1.2.2.1,((↑(List.length r5.2.1.2.2.1):Int),((0:Int),()))),((r7.2.2.1.1,()),()))))
                            (Tr.test (isRet (l87_0 ((r5.2.1.2.2.1,((↑(List.length r5.2.1.2.2.1):Int),((0:Int),()))),((r7.2.2.1.1,()),()))))
                              (let r10:=r87_0 ((r5.2.1.2.2.1,((↑(List.length r5.2.1.2.2.1):Int),((0:Int),()))),((r7.2.2.1.1,()),()));
                              Tr.fin ((r10.1.1,(r10.1.2.1,()))))
                              (Tr.fin (((0:Int),((0:Int),())))))
                            (Tr.stop)))
                        (Tr.stop))
                      (Tr.stop)))
                  (let r4:=b81_0 ((x0,((↑(List.length x0):Int),((0:Int),()))),((x0,(x0',(x0'',()))),()));
                  Tr.test (isBrk (l16_0 (((r4.2.1.2.1:List (ByteArray×(List Int×List Int×PUnit)×(List Int×List Int×PUnit)×PUnit)),((↑(List.length r4.2.1.2.1):Int),((0:Int),()))),((r4.2.1.1,((r4.2.1.2.1:List (ByteArray×(List Int×List Int×PUnit)×(List Int×List Int×PUnit)×PUnit)),(r4.2.1.2.2.1,()))),(((↑(List.length x0):Int),()),((([]:List ByteArray),()),()))))))
                    (let r12:=b16_0 (((r4.2.1.2.1:List (ByteArray×(List Int×List Int×PUnit)×(List Int×List Int×PUnit)×PUnit)),((↑(List.length r4.2.1.2.1):Int),((0:Int),()))),((r4.2.1.1,((r4.2.1.2.1:List (ByteArray×(List Int×List Int×PUnit)×(List Int×List Int×PUnit)×PUnit)),(r4.2.1.2.2.1,()))),(((↑(List.length x0):Int),()),((([]:List ByteArray),()),()))));
                    Tr.test (Option.isSome (l84_0 (((r12.2.1.2.1:List (ByteArray×(List Int×List Int×PUnit)×(List Int×List Int×PUnit)×PUnit)),((↑(List.length r12.2.1.2.1):Int),((0:Int),()))),((r12.2.2.2.1.1,()),((r12.2.2.1.1,()),())))))
                      (Tr.test (isRet (l84_0 (((r12.2.1.2.1:List (ByteArray×(List Int×List Int×PUnit)×(List Int×List Int×PUnit)×PUnit)),((↑(List.length r12.2.1.2.1):Int),((0:Int),()))),((r12.2.2.2.1.1,()),((r12.2.2.1.1,()),())))))
                        (let r13:=r84_0 (((r12.2.1.2.1:List (ByteArray×(List Int×List Int×PUnit)×(List Int×List Int×PUnit)×PUnit)),((↑(List.length r12.2.1.2.1):Int),((0:Int),()))),((r12.2.2.2.1.1,()),((r12.2.2.1.1,()),())));
                        Tr.test ((!eqF r13.1.2.1 0:Bool))
                          (Tr.fin ((r13.1.1,(r13.1.2.1,()))))
                          (Tr.test (Option.isSome (l87_0 ((r12.2.1.2.2.1,((↑(List.length r12.2.1.2.2.1):Int),((0:Int),()))),((r13.2.2.1.1,()),()))))
                            (Tr.test (isRet (l87_0 ((r12.2.1.2.2.1,((↑(List.length r12.2.1.2.2.1):Int),((0:Int),()))),((r13.2.2.1.1,()),()))))
                              (let r15:=r87_0 ((r12.2.1.2.2.1,((↑(List.length r12.2.1.2.2.1):Int),((0:Int),()))),((r13.2.2.1.1,()),()));
                              Tr.fin ((r15.1.1,(r15.1.2.1,()))))
                              (Tr.fin (((0:Int),((0:Int),())))))
                            (Tr.stop)))
                        (let r14:=b84_0 (((r12.2.1.2.1:List (ByteArray×(List Int×List Int×PUnit)×(List Int×List Int×PUnit)×PUnit)),((↑(List.length r12.2.1.2.1):Int),((0:Int),()))),((r12.2.2.2.1.1,()),((r12.2.2.1.1,()),())));
                        Tr.test (Option.isSome (l87_0 ((r12.2.1.2.2.1,((↑(List.length r12.2.1.2.2.1):Int),((0:Int),()))),((r14.2.2.1.1,()),()))))
                          (Tr.test (isRet (l87_0 ((r12.2.1.2.2.1,((↑(List.length r12.2.1.2.2.1):Int),((0:Int),()))),((r14.2.2.1.1,()),()))))
                            (let r17:=r87_0 ((r12.2.1.2.2.1,((↑(List.length r12.2.1.2.2.1):Int),((0:Int),()))),((r14.2.2.1.1,()),()));
                            Tr.fin ((r17.1.1,(r17.1.2.1,()))))
                            (Tr.fin (((0:Int),((0:Int),())))))
                          (Tr.stop)))
                      (Tr.stop))
                    (Tr.stop)))
                (Tr.stop)))
            (Tr.stop))
          (Tr.stop))
        (Tr.stop))
      (Tr.test (Option.isSome (f80 ((eqF (↑(List.length x0):Int) (0:Int):Bool),((10:Int),()))))
        (Tr.test (Option.isSome (f80 ((!leF (↑(List.length x0''):Int) (4:Int):Bool),((8:Int),()))))
          (let r0:=g80 ((eqF (↑(List.length x0):Int) (0:Int):Bool),((10:Int),()));
          let r19:=g80 ((!leF (↑(List.length x0''):Int) (4:Int):Bool),((8:Int),()));
          Tr.test (Option.isSome (f79 (([r0.1,r19.1]:List Int),())))
            (let r20:=g79 (([r0.1,r19.1]:List Int),());
            Tr.test ((!eqF r20.1 0:Bool))
              (Tr.fin (((0:Int),(r20.1,()))))
              (Tr.test (Option.isSome (l81_0 ((x0,((↑(List.length x0):Int),((0:Int),()))),((x0,(x0',(x0'',()))),()))))
                (Tr.test (isRet (l81_0 ((x0,((↑(List.length x0):Int),((0:Int),()))),((x0,(x0',(x0'',()))),()))))
                  (let r3:=r81_0 ((x0,((↑(List.length x0):Int),((0:Int),()))),((x0,(x0',(x0'',()))),()));
                  Tr.test ((!eqF r3.1.2.1 0:Bool))
                    (Tr.fin ((r3.1.1,(r3.1.2.1,()))))
                    (Tr.test (isBrk (l16_0 (((r3.2.1.2.1:List (ByteArray×(List Int×List Int×PUnit)×(List Int×List Int×PUnit)×PUnit)),((↑(List.length r3.2.1.2.1):Int),((0:Int),()))),((r3.2.1.1,((r3.2.1.2.1:List (ByteArray×(List Int×List Int×PUnit)×(List Int×List Int×PUnit)×PUnit)),(r3.2.1.2.2.1,()))),(((↑(List.length x0):Int),()),((([]:List ByteArray),()),()))))))
                      (let r5:=b16_0 (((r3.2.1.2.1:List (ByteArray×(List Int×List Int×PUnit)×(List Int×List Int×PUnit)×PUnit)),((↑(List.length r3.2.1.2.1):Int),((0:Int),()))),((r3.2.1.1,((r3.2.1.2.1:List (ByteArray×(List Int×List Int×PUnit)×(List Int×List Int×PUnit)×PUnit)),(r3.2.1.2.2.1,()))),(((↑(List.length x0):Int),()),((([]:List ByteArray),()),()))));
                      Tr.test (Option.isSome (l84_0 (((r5.2.1.2.1:List (ByteArray×(List Int×List Int×PUnit)×(List Int×List Int×PUnit)×PUnit)),((↑(List.length r5.2.1.2.1):Int),((0:Int),()))),((r5.2.2.2.1.1,()),((r5.2.2.1.1,()),())))))
                        (Tr.test (isRet (l84_0 (((r5.2.1.2.1:List (ByteArray×(List Int×List Int×PUnit)×(List Int×List Int×PUnit)×PUnit)),((↑(List.length r5.2.1.2.1):Int),((0:Int),()))),((r5.2.2.2.1.1,()),((r5.2.2.1.1,()),())))))
                          (let r6:=r84_0 (((r5.2.1.2.1:List (ByteArray×(List Int×List Int×PUnit)×(List Int×List Int×PUnit)×PUnit)),((↑(List.length r5.2.1.2.1):Int),((0:Int),()))),((r5.2.2.2.1.1,()),((r5.2.2.1.1,()),())));
                          Tr.test ((!eqF r6.1.2.1 0:Bool))
                            (Tr.fin ((r6.1.1,(r6.1.2.1,()))))
                            (Tr.test (Option.isSome (l87_0 ((r5.2.1.2.2.1,((↑(List.length r5.2.1.2.2.1):Int),((0:Int),()))),((r6.2.2.1.1,()),()))))
                              (Tr.test (isRet (l87_0 ((r5.2.1.2.2.1,((↑(List.length r5.2.1.2.2.1):Int),((0:Int),()))),((r6.2.2.1.1,()),()))))
                                (let r8:=r87_0 ((r5.2.1.2.2.1,((↑(List.length r5.2.1.2.2.1):Int),((0:Int),()))),((r6.2.2.1.1,()),()));
                                Tr.fin ((r8.1.1,(r8.1.2.1,()))))
                                (Tr.fin (((0:Int),((0:Int),())))))
                              (Tr.stop)))
                          (let r7:=b84_0 (((r5.2.1.2.1:List (ByteArray×(List Int×List Int×PUnit)×(List Int×List Int×PUnit)×PUnit)),((↑(List.length r5.2.1.2.1):Int),((0:Int),()))),((r5.2.2.2.1.1,()),((r5.2.2.1.1,()),())));
                          Tr.test (Option.isSome (l87_0 ((r5.2.1.2.2.1,((↑(List.length r5.2.1.2.2.1):Int),((0:Int),()))),((r7.2.2.1.1,()),()))))
                            (Tr.test (isRet (l87_0 ((r5.2.1.2.2.1,((↑(List.length r5.2.1.2.2.1):Int),((0:Int),()))),((r7.2.2.1.1,()),()))))
                              (let r10:=r87_0 ((r5.2.1.2.2.1,((↑(List.length r5.2.1.2.2.1):Int),((0:Int),()))),((r7.2.2.1.1,()),()));
                              Tr.fin ((r10.1.1,(r10.1.2.1,()))))
                              (Tr.fin (((0:Int),((0:Int),())))))
                            (Tr.stop)))
                        (Tr.stop))
                      (Tr.stop)))
                  (let r4:=b81_0 ((x0,((↑(List.length x0):Int),((0:Int),()))),((x0,(x0',(x0'',()))),()));
                  Tr.test (isBrk (l16_0 (((r4.2.1.2.1:List (ByteArray×(List Int×List Int×PUnit)×(List Int×List Int×PUnit)×PUnit)),((↑(List.length r4.2.1.2.1):Int),((0:Int),()))),((r4.2.1.1,((r4.2.1.2.1:List (ByteArray×(List Int×List Int×PUnit)×(List Int×List Int×PUnit)×PUnit)),(r4.2.1.2.2.1,()))),(((↑(List.length x0):Int),()),((([]:List ByteArray),()),()))))))
                    (let r12:=b16_0 (((r4.2.1.2.1:List (ByteArray×(List Int×List Int×PUnit)×(List Int×List Int×PUnit)×PUnit)),((↑(List.length r4.2.1.2.1):Int),((0:Int),()))),((r4.2.1.1,((r4.2.1.2.1:List (ByteArray×(List Int×List Int×PUnit)×(List Int×List Int×PUnit)×PUnit)),(r4.2.1.2.2.1,()))),(((↑(List.length x0):Int),()),((([]:List ByteArray),()),()))));
                    Tr.test (Option.isSome (l84_0 (((r12.2.1.2.1:List (ByteArray×(List Int×List Int×PUnit)×(List Int×List Int×PUnit)×PUnit)),((↑(List.length r12.2.1.2.1):Int),((0:Int),()))),((r12.2.2.2.1.1,()),((r12.2.2.1.1,()),())))))
                      (Tr.test (isRet (l84_0 (((r12.2.1.2.1:List (ByteArray×(List Int×List Int×PUnit)×(List Int×List Int×PUnit)×PUnit)),((↑(List.length r12.2.1.2.1):Int),((0:Int),()))),((r12.2.2.2.1.1,()),((r12.2.2.1.1,()),())))))
                        (let r13:=r84_0 (((r12.2.1.2.1:List (ByteArray×(List Int×List Int×PUnit)×(List Int×List Int×PUnit)×PUnit)),((↑(List.length r12.2.1.2.1):Int),((0:Int),()))),((r12.2.2.2.1.1,()),((r12.2.2.1.1,()),())));
                        Tr.test ((!eqF r13.1.2.1 0:Bool))
                          (Tr.fin ((r13.1.1,(r13.1.2.1,()))))
                          (Tr.test (Option.isSome (l87_0 ((r12.2.1.2.2.1,((↑(List.length r12.2.1.2.2.1):Int),((0:Int),()))),((r13.2.2.1.1,()),()))))
                            (Tr.test (isRet (l87_0 ((r12.2.1.2.2.1,((↑(List.length r12.2.1.2.2.1):Int),((0:Int),()))),((r13.2.2.1.1,()),()))))
                              (let r15:=r87_0 ((r12.2.1.2.2.1,((↑(List.length r12.2.1.2.2.1):Int),((0:Int),()))),((r13.2.2.1.1,()),()));
                              Tr.fin ((r15.1.1,(r15.1.2.1,()))))
                              (Tr.fin (((0:Int),((0:Int),())))))
                            (Tr.stop)))
                        (let r14:=b84_0 (((r12.2.1.2.1:List (ByteArray×(List Int×List Int×PUnit)×(List Int×List Int×PUnit)×PUnit)),((↑(List.length r12.2.1.2.1):Int),((0:Int),()))),((r12.2.2.2.1.1,()),((r12.2.2.1.1,()),())));
                        Tr.test (Option.isSome (l87_0 ((r12.2.1.2.2.1,((↑(List.length r12.2.1.2.2.1):Int),((0:Int),()))),((r14.2.2.1.1,()),()))))
                          (Tr.test (isRet (l87_0 ((r12.2.1.2.2.1,((↑(List.length r12.2.1.2.2.1):Int),((0:Int),()))),((r14.2.2.1.1,()),()))))
                            (let r17:=r87_0 ((r12.2.1.2.2.1,((↑(List.length r12.2.1.2.2.1):Int),((0:Int),()))),((r14.2.2.1.1,()),()));
                            Tr.fin ((r17.1.1,(r17.1.2.1,()))))
                            (Tr.fin (((0:Int),((0:Int),())))))
                          (Tr.stop)))
                      (Tr.stop))
                    (Tr.stop)))
                (Tr.stop)))
            (Tr.stop))
          (Tr.stop))
        (Tr.stop)))

def f16 (d:Tys.data as16):Option (Tys.data rs16):=(t16 d.1.1 d.1.2.1 d.1.2.2.1).val
def g16 (d:Tys.data as16):Tys.data rs16:=(f16 d).getD (Tys.dflt rs16)
def p16:PureC:=pcOf as16 rs16 f16 g16

theorem wk16n0 (x0:(List ByteArray)) (x0':(List (ByteArray×(((List Int)×((List Int)×Unit))×(((List Int)×((List Int)×Unit))×Unit))))) (x0'':(List ((List Int)×((List Int)×Unit)))):Walks (runPure (kl87_0 Go.Proofs.Tryz.prog).orc Go.Proofs.Tryz.prog 400 16 as16 rs16 ((x0,x0',x0'',()),())) (t16 x0 x0' x0'') [(bl 5 31,[2,4,6,8,1,1,1,1,1,10,10,10,10,10]),(bl 8 239,[2,4,6,8,10,12,14,1,1,1,1,1,16,16,16,16,16]),(bl 12 3951,[2,4,6,1,8,10,12,14,16,18,20,22,1,1,1,1,1,24,24,24,24,24]),(bl 14 14191,[2,4,6,8,10,1,12,14,16,18,20,22,24,26,1,1,1,1,1,28,28,28,28,28]),(bl 14 5999,[2,4,6,8,10,1,12,14,16,18,20,22,24,26,1,1,1,1,1,28,28,28,28,28]),(bl 13 7023,[2,4,0,6,8,1,10,12,14,16,18,20,22,24,1,1,1,1,1,26,26,26,26,26]),(bl 13 2927,[2,4,0,6,8,1,10,12,14,16,18,20,22,24,1,1,1,1,1,26,26,26,26,26]),(bl 11 1967,[2,4,6,1,8,0,10,12,14,16,18,20,1,1,1,1,1,22,22,22,22,22]),(bl 13 7087,[2,4,6,8,10,1,12,0,14,16,18,20,22,24,1,1,1,1,1,26,26,26,26,26]),(bl 13 2991,[2,4,6,8,10,1,12,0,14,16,18,20,22,24,1,1,1,1,1,26,26,26,26,26]),(bl 12 3503,[2,4,0,6,8,1,10,0,12,14,16,18,20,22,1,1,1,1,1,24,24,24,24,24]),(bl 12 1455,[2,4,0,6,8,1,10,0,12,14,16,18,20,22,1,1,1,1,1,24,24,24,24,24]),(bl 6 62,[2,4,6,8,10,10,10,10,10,12,12,12,12,12]),(bl 9 478,[2,4,6,8,10,12,14,16,16,16,16,16,18,18,18,18,18]),(bl 13 7902,[2,4,6,1,8,10,12,14,16,18,20,22,24,24,24,24,24,26,26,26,26,26]),(bl 15 28382,[2,4,6,8,10,1,12,14,16,18,20,22,24,26,28,28,28,28,28,30,30,30,30,30])] :=
  ⟨by kernel_rfl,by kernel_rfl,by kernel_rfl,by kernel_rfl,by kernel_rfl,by kernel_rfl,by kernel_rfl,by kernel_rfl,by kernel_rfl,by kernel_rfl,by kernel_rfl,by kernel_rfl,by kernel_rfl,by kernel_rfl,by kernel_rfl,by kernel_rfl,trivial⟩

theorem wk16n1 (x0:(List ByteArray)) (x0':(List (ByteArray×(((List Int)×((List Int)×Unit))×(((List Int)×((List Int)×Unit))×Unit))))) (x0'':(List ((List Int)×((List Int)×Unit)))):Walks (runPure (kl87_0 Go.Proofs.Tryz.prog).orc Go.Proofs.Tryz.prog 400 16 as16 rs16 ((x0,x0',x0'',()),())) (t16 x0 x0' x0'') [(bl 15 11998,[2,4,6,8,10,1,12,14,16,18,20,22,24,26,28,28,28,28,28,30,30,30,30,30]),(bl 14 14046,[2,4,0,6,8,1,10,12,14,16,18,20,22,24,26,26,26,26,26,28,28,28,28,28]),(bl 14 5854,[2,4,0,6,8,1,10,12,14,16,18,20,22,24,26,26,26,26,26,28,28,28,28,28]),(bl 12 3934,[2,4,6,1,8,0,10,12,14,16,18,20,22,22,22,22,22,24,24,24,24,24]),(bl 14 14174,[2,4,6,8,10,1,12,0,14,16,18,20,22,24,26,26,26,26,26,28,28,28,28,28]),(bl 14 5982,[2,4,6,8,10,1,12,0,14,16,18,20,22,24,26,26,26,26,26,28,28,28,28,28]),(bl 13 7006,[2,4,0,6,8,1,10,0,12,14,16,18,20,22,24,24,24,24,24,26,26,26,26,26]),(bl 13 2910,[2,4,0,6,8,1,10,0,12,14,16,18,20,22,24,24,24,24,24,26,26,26,26,26]),(bl 6 60,[2,4,6,8,10,10,10,10,10,12,12,12,12,12]),(bl 9 476,[2,4,6,8,10,12,14,16,16,16,16,16,18,18,18,18,18]),(bl 13 7900,[2,4,6,1,8,10,12,14,16,18,20,22,24,24,24,24,24,26,26,26,26,26]),(bl 15 28380,[2,4,6,8,10,1,12,14,16,18,20,22,24,26,28,28,28,28,28,30,30,30,30,30]),(bl 15 11996,[2,4,6,8,10,1,12,14,16,18,20,22,24,26,28,28,28,28,28,30,30,30,30,30]),(bl 14 14044,[2,4,0,6,8,1,10,12,14,16,18,20,22,24,26,26,26,26,26,28,28,28,28,28]),(bl 14 5852,[2,4,0,6,8,1,10,12,14,16,18,20,22,24,26,26,26,26,26,28,28,28,28,28]),(bl 12 3932,[2,4,6,1,8,0,10,12,14,16,18,20,22,22,22,22,22,24,24,24,24,24])] :=
  ⟨by kernel_rfl,by kernel_rfl,by kernel_rfl,by kernel_rfl,by kernel_rfl,by kernel_rfl,by kernel_rfl,by kernel_rfl,by kernel_rfl,by kernel_rfl,by kernel_rfl,by kernel_rfl,by kernel_rfl,by kernel_rfl,by kernel_rfl,by kernel_rfl,trivial⟩

theorem wk16n2 (x0:(List ByteArray)) (x0':(List (ByteArray×(((List Int)×((List Int)×Unit))×(((List Int)×((List Int)×Unit))×Unit))))) (x0'':(List ((List Int)×((List Int)×Unit)))):Walks (runPure (kl87_0 Go.Proofs.Tryz.prog).orc Go.Proofs.Tryz.prog 400 16 as16 rs16 ((x0,x0',x0'',()),())) (t16 x0 x0' x0'') [(bl 14 14172,[2,4,6,8,10,1,12,0,14,16,18,20,22,24,26,26,26,26,26,28,28,28,28,28]),(bl 14 5980,[2,4,6,8,10,1,12,0,14,16,18,20,22,24,26,26,26,26,26,28,28,28,28,28]),(bl 13 7004,[2,4,0,6,8,1,10,0,12,14,16,18,20,22,24,24,24,24,24,26,26,26,26,26]),(bl 13 2908,[2,4,0,6,8,1,10,0,12,14,16,18,20,22,24,24,24,24,24,26,26,26,26,26])] :=
  ⟨by kernel_rfl,by kernel_rfl,by kernel_rfl,by kernel_rfl,trivial⟩

theorem ok16_t (x0:(List ByteArray)) (x0':(List (ByteArray×(((List Int)×((List Int)×Unit))×(((List Int)×((List Int)×Unit))×Unit))))) (x0'':(List ((List Int)×((List Int)×Unit)))):TrOk (PureRuns Go.Proofs.Tryz.prog (kl87_0 Go.Proofs.Tryz.prog).orc 16 as16 rs16 ((x0,x0',x0'',()),())) (t16 x0 x0' x0'') :=
  Walks.ok (fun _ _ _=>PureRuns.of) ((wk16n0 x0 x0' x0'').append ((wk16n1 x0 x0' x0'').append (wk16n2 x0 x0' x0''))) (by kernel_rfl)

theorem ok16:PureOk Go.Proofs.Tryz.prog 16 p16:=pureOk_of kl87_0_ok.base (T:=fun (d:Tys.data as16)=>t16 d.1.1 d.1.2.1 d.1.2.2.1) (by kernel_rfl) (fun (d:Tys.data as16)=>ok16_t d.1.1 d.1.2.1 d.1.2.2.1)
def kf16 (P:Go.Program):Known:=(kl87_0 P).func 16 p16
theorem kf16_ok:KnownOk Go.Proofs.Tryz.prog (kf16 Go.Proofs.Tryz.prog):=kl87_0_ok.func ok16

end Go.Vm.Mo
