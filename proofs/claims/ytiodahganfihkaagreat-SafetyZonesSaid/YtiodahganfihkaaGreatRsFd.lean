import Derived.Test.YtiodahganfihkaaGreatA4
import Derived.Test.YtiodahganfihkaaGreatA5
import Derived.KernelRfl
import Derived.Test.YtiodahganfihkaaGreatProg
import Derived.Test.YtiodahganfihkaaGreatRsFc
set_option linter.unusedVariables false
set_option linter.unusedSimpArgs false

namespace Go.Vm.Mo
open Go
set_option linter.unusedVariables false

/-! loop 0 of ductility/ductilityref09.Touches -/

abbrev sh141_0:Sh:={ n:=128,slots:=[4,5,7,8,9,10],pats:=[.ptr 0 2 0,.ptr 1 2 0,.ptr 2 8 0,.ty (.int .i64),.ty (.int .i64),.ty (.int .i64)],boxes:=[.row [.ty (.int .i64),.ty (.int .i64)],.row [.ty (.int .i64),.ty (.int .i64)],.row [.ty (.int .i64),.ty (.int .i64),.ty (.int .i64),.ty (.int .i64),.ty (.int .i64),.ty (.int .i64),.ty (.int .i64),.ty (.int .i64)]] }
abbrev shb141_0:Sh:={ n:=128,slots:=[8,9],pats:=[.ty (.int .i64),.ty (.int .i64)],boxes:=[.row [.ty (.int .i64),.ty (.int .i64)],.row [.ty (.int .i64),.ty (.int .i64)],.row [.ty (.int .i64),.ty (.int .i64),.ty (.int .i64),.ty (.int .i64),.ty (.int .i64),.ty (.int .i64),.ty (.int .i64),.ty (.int .i64)]] }
abbrev shr141_0:Sh:={ n:=128,slots:=[],pats:=[],boxes:=[.row [.ty (.int .i64),.ty (.int .i64)],.row [.ty (.int .i64),.ty (.int .i64)],.row [.ty (.int .i64),.ty (.int .i64),.ty (.int .i64),.ty (.int .i64),.ty (.int .i64),.ty (.int .i64),.ty (.int .i64),.ty (.int .i64)]] }

def t141_0 (x3:Int) (x4:Int) (x5:Int) (b0_0:Int) (b0_1:Int) (b1_0:Int) (b1_1:Int) (b2_0:Int) (b2_1:Int) (b2_2:Int) (b2_3:Int) (b2_4:Int) (b2_5:Int) (b2_6:Int) (b2_7:Int):Tr (Out sh141_0.data shb141_0.data shr141_0.data) :=
  Tr.test ((!leF (4:Int) x5:Bool))
    (Tr.test (decide ((0:Int) ≤ x5) && decide (x5 < (4:Int)))
      (Tr.test ((Nat.ble ((0:Nat) + Int.toNat x5 * (2:Nat) + (1:Nat) + (1:Nat)) (8:Nat):Bool))
        (Tr.test ((Nat.ble ((0:Nat) + Int.toNat x5 * (2:Nat) + (0:Nat) + (1:Nat)) (8:Nat):Bool))
          (Tr.test ((!leF (wrap64 (wrap64 (wrap64 (b1_0 - b0_0) * wrap64 (List.getD [b2_0,b2_1,b2_2,b2_3,b2_4,b2_5,b2_6,b2_7] ((0:Nat) + Int.toNat x5 * (2:Nat) + (1:Nat)) (0:Int) - b0_1)) - wrap64 (wrap64 (b1_1 - b0_1) * wrap64 (List.getD [b2_0,b2_1,b2_2,b2_3,b2_4,b2_5,b2_6,b2_7] ((0:Nat) + Int.toNat x5 * (2:Nat) + (0:Nat)) (0:Int) - b0_0)))) (0:Int):Bool))
            (Tr.test ((!leF (0:Int) (wrap64 (wrap64 (wrap64 (b1_0 - b0_0) * wrap64 (List.getD [b2_0,b2_1,b2_2,b2_3,b2_4,b2_5,b2_6,b2_7] ((0:Nat) + Int.toNat x5 * (2:Nat) + (1:Nat)) (0:Int) - b0_1)) - wrap64 (wrap64 (b1_1 - b0_1) * wrap64 (List.getD [b2_0,b2_1,b2_2,b2_3,b2_4,b2_5,b2_6,b2_7] ((0:Nat) + Int.toNat x5 * (2:Nat) + (0:Nat)) (0:Int) - b0_0)))):Bool))
              (Tr.fin (.again (((wrap64 (x3 + (1:Int)):Int),((wrap64 (x4 + (1:Int)):Int),((wrap64 (x5 + (1:Int)):Int),()))),((b0_0,(b0_1,())),((b1_0,(b1_1,())),((b2_0,(b2_1,(b2_2,(b2_3,(b2_4,(b2_5,(b2_6,(b2_7,())))))))),()))))))
              (Tr.fin (.again (((wrap64 (x3 + (1:Int)):Int),(x4,((wrap64 (x5 + (1:Int)):Int),()))),((b0_0,(b0_1,())),((b1_0,(b1_1,())),((b2_0,(b2_1,(b2_2,(b2_3,(b2_4,(b2_5,(b2_6,(b2_7,())))))))),())))))))
            (Tr.test ((!leF (0:Int) (wrap64 (wrap64 (wrap64 (b1_0 - b0_0) * wrap64 (List.getD [b2_0,b2_1,b2_2,b2_3,b2_4,b2_5,b2_6,b2_7] ((0:Nat) + Int.toNat x5 * (2:Nat) + (1:Nat)) (0:Int) - b0_1)) - wrap64 (wrap64 (b1_1 - b0_1) * wrap64 (List.getD [b2_0,b2_1,b2_2,b2_3,b2_4,b2_5,b2_6,b2_7] ((0:Nat) + Int.toNat x5 * (2:Nat) + (0:Nat)) (0:Int) - b0_0)))):Bool))
              (Tr.fin (.again ((x3,((wrap64 (x4 + (1:Int)):Int),((wrap64 (x5 + (1:Int)):Int),()))),((b0_0,(b0_1,())),((b1_0,(b1_1,())),((b2_0,(b2_1,(b2_2,(b2_3,(b2_4,(b2_5,(b2_6,(b2_7,())))))))),()))))))
              (Tr.fin (.again ((x3,(x4,((wrap64 (x5 + (1:Int)):Int),()))),((b0_0,(b0_1,())),((b1_0,(b1_1,())),((b2_0,(b2_1,(b2_2,(b2_3,(b2_4,(b2_5,(b2_6,(b2_7,())))))))),()))))))))
          (Tr.stop))
        (Tr.stop))
      (Tr.stop))
    (Tr.fin (.brk ((x3,(x4,())),((b0_0,(b0_1,())),((b1_0,(b1_1,())),((b2_0,(b2_1,(b2_2,(b2_3,(b2_4,(b2_5,(b2_6,(b2_7,())))))))),()))))))

def s141_0 (d:sh141_0.data):Option (Out sh141_0.data shb141_0.data shr141_0.data):=(t141_0 d.1.1 d.1.2.1 d.1.2.2.1 d.2.1.1 d.2.1.2.1 d.2.2.1.1 d.2.2.1.2.1 d.2.2.2.1.1 d.2.2.2.1.2.1 d.2.2.2.1.2.2.1 d.2.2.2.1.2.2.2.1 d.2.2.2.1.2.2.2.2.1 d.2.2.2.1.2.2.2.2.2.1 d.2.2.2.1.2.2.2.2.2.2.1 d.2.2.2.1.2.2.2.2.2.2.2.1).val
def l141_0 (d:sh141_0.data):Option (shb141_0.data ⊕ shr141_0.data):=itr s141_0 rounds d
def b141_0 (d:sh141_0.data):shb141_0.data:=outB shb141_0.dflt (l141_0 d)
def lc141_0:LoopC:=lcB sh141_0 shb141_0 shr141_0 l141_0 b141_0

theorem wk141_0 (x3:Int) (x4:Int) (x5:Int) (b0_0:Int) (b0_1:Int) (b1_0:Int) (b1_1:Int) (b2_0:Int) (b2_1:Int) (b2_2:Int) (b2_3:Int) (b2_4:Int) (b2_5:Int) (b2_6:Int) (b2_7:Int):Walks (runBody (kf73 Go.Proofs.Tryz.prog).orc Go.Proofs.Tryz.prog 400 141 0 sh141_0 shb141_0 shr141_0 ((x3,x4,x5,()),(b0_0,b0_1,()),(b1_0,b1_1,()),(b2_0,b2_1,b2_2,b2_3,b2_4,b2_5,b2_6,b2_7,()),())) (t141_0 x3 x4 x5 b0_0 b0_1 b1_0 b1_1 b2_0 b2_1 b2_2 b2_3 b2_4 b2_5 b2_6 b2_7) [(bl 6 63,[2,4,1,6,1,10,1,1,1,8,1,10,1,1,12]),(bl 6 31,[2,4,1,6,1,10,1,1,1,8,1,10,1,1,12]),(bl 6 47,[2,4,1,6,1,10,1,1,1,8,1,10,1,1,12]),(bl 6 15,[2,4,1,6,1,10,1,1,1,8,1,10,1,1,12]),(bl 1 0,[2])] :=
  ⟨by kernel_rfl,by kernel_rfl,by kernel_rfl,by kernel_rfl,by kernel_rfl,trivial⟩

theorem ok141_0_t (x3:Int) (x4:Int) (x5:Int) (b0_0:Int) (b0_1:Int) (b1_0:Int) (b1_1:Int) (b2_0:Int) (b2_1:Int) (b2_2:Int) (b2_3:Int) (b2_4:Int) (b2_5:Int) (b2_6:Int) (b2_7:Int):TrOk (BodyRuns Go.Proofs.Tryz.prog (kf73 Go.Proofs.Tryz.prog).orc 141 0 sh141_0 shb141_0 shr141_0 ((x3,x4,x5,()),(b0_0,b0_1,()),(b1_0,b1_1,()),(b2_0,b2_1,b2_2,b2_3,b2_4,b2_5,b2_6,b2_7,()),())) (t141_0 x3 x4 x5 b0_0 b0_1 b1_0 b1_1 b2_0 b2_1 b2_2 b2_3 b2_4 b2_5 b2_6 b2_7) :=
  Walks.ok (fun _ _ _=>BodyRuns.of) (wk141_0 x3 x4 x5 b0_0 b0_1 b1_0 b1_1 b2_0 b2_1 b2_2 b2_3 b2_4 b2_5 b2_6 b2_7) (by kernel_rfl)

theorem ok141_0:LoopOk Go.Proofs.Tryz.prog 141 0 lc141_0:=loopOk_ofB (sh:=sh141_0) (shB:=shb141_0) (shR:=shr141_0) kf73_ok.base (T:=fun (d:sh141_0.data)=>t141_0 d.1.1 d.1.2.1 d.1.2.2.1 d.2.1.1 d.2.1.2.1 d.2.2.1.1 d.2.2.1.2.1 d.2.2.2.1.1 d.2.2.2.1.2.1 d.2.2.2.1.2.2.1 d.2.2.2.1.2.2.2.1 d.2.2.2.1.2.2.2.2.1 d.2.2.2.1.2.2.2.2.2.1 d.2.2.2.1.2.2.2.2.2.2.1 d.2.2.2.1.2.2.2.2.2.2.2.1) (by kernel_rfl) rfl (fun (d:sh141_0.data)=>ok141_0_t d.1.1 d.1.2.1 d.1.2.2.1 d.2.1.1 d.2.1.2.1 d.2.2.1.1 d.2.2.1.2.1 d.2.2.2.1.1 d.2.2.2.1.2.1 d.2.2.2.1.2.2.1 d.2.2.2.1.2.2.2.1 d.2.2.2.1.2.2.2.2.1 d.2.2.2.1.2.2.2.2.2.1 d.2.2.2.1.2.2.2.2.2.2.1 d.2.2.2.1.2.2.2.2.2.2.2.1) (fun _=>rfl)
def kl141_0 (P:Go.Program):Known:=(kf73 P).loop 141 0 lc141_0
theorem kl141_0_ok:KnownOk Go.Proofs.Tryz.prog (kl141_0 Go.Proofs.Tryz.prog):=kf73_ok.loop ok141_0

/-! ductility/ductilityref09.Touches -/

abbrev as141:List Ty:=[(.pair (.pair (.int .i64) (.pair (.int .i64) .unit)) (.pair (.pair (.int .i64) (.pair (.int .i64) .unit)) .unit)),(.pair (.int .i64) (.pair (.int .i64) .unit)),(.pair (.int .i64) (.pair (.int .i64) .unit))]
abbrev rs141:List Ty:=[.bool]

def t141 (x0_:Int) (x0_':Int) (x0'_:Int) (x0'_':Int) (x1:Int) (x1':Int) (x2:Int) (x2':Int):Tr (Tys.data rs141) :=
  Tr.test ((!leF x0_ (if x1 < x2 then x2 else x1):Bool))
    (Tr.fin ((false,())))
    (Tr.test (!leF (if x2 < x1 then x2 else x1) x0_')
      (Tr.fin (((false:Bool),())))
      (Tr.test ((!leF x0'_ (if x1' < x2' then x2' else x1'):Bool))
        (Tr.fin (((false:Bool),())))
        (Tr.test ((!leF (if x2' < x1' then x2' else x1') x0'_':Bool))
          (Tr.fin (((false:Bool),())))
          (Tr.test (isBrk (l141_0 (((0:Int),((0:Int),((0:Int),()))),((x1,(x1',())),((x2,(x2',())),((x0_,(x0'_,(x0_,(x0'_',(x0_',(x0'_,(x0_',(x0'_',())))))))),()))))))
            (let r0:=b141_0 (((0:Int),((0:Int),((0:Int),()))),((x1,(x1',())),((x2,(x2',())),((x0_,(x0'_,(x0_,(x0'_',(x0_',(x0'_,(x0_',(x0'_',())))))))),()))));
            Tr.test ((!leF (4:Int) r0.1.1:Bool))
              (Tr.fin (((!leF (4:Int) r0.1.2.1:Bool),())))
              (Tr.fin (((false:Bool),()))))
            (Tr.stop)))))

def f141 (d:Tys.data as141):Option (Tys.data rs141):=(t141 d.1.1.1 d.1.1.2.1 d.1.2.1.1 d.1.2.1.2.1 d.2.1.1 d.2.1.2.1 d.2.2.1.1 d.2.2.1.2.1).val
def g141 (d:Tys.data as141):Tys.data rs141:=(f141 d).getD (Tys.dflt rs141)
def p141:PureC:=pcOf as141 rs141 f141 g141

theorem wk141 (x0_:Int) (x0_':Int) (x0'_:Int) (x0'_':Int) (x1:Int) (x1':Int) (x2:Int) (x2':Int):Walks (runPure (kl141_0 Go.Proofs.Tryz.prog).orc Go.Proofs.Tryz.prog 400 141 as141 rs141 (((x0_,x0_',()),(x0'_,x0'_',()),()),(x1,x1',()),(x2,x2',()),())) (t141 x0_ x0_' x0'_ x0'_' x1 x1' x2 x2') [(bl 1 1,[1,1,1,1,1,1,1,1,1,1,1,1,1,1,1,1,1,1,1,1,1,2,2,2,2,2,2,2,2,2,2,1,1,1]),(bl 2 2,[1,1,1,1,1,1,1,1,1,1,1,2,2,2,2,2,2,2,2,2,2,4,4,1,4,4,4,4,4,1,4,4,1,4,1,1,1]),(bl 3 4,[1,2,2,2,2,2,2,2,2,2,2,4,4,1,4,4,4,4,4,1,4,4,1,4,6,6,1,6,6,6,6,6,1,6,6,1,6,1,1,1]),(bl 4 8,[2,4,4,1,4,4,4,4,4,1,4,4,1,4,6,6,1,6,6,6,6,6,1,6,6,1,6,8,8,1,8,8,8,8,8,1,8,8,1,8,1,1,1]),(bl 6 48,[2,2,2,1,4,1,1,1,1,1,1,1,1,6,8,8,1,8,8,8,8,8,1,8,8,1,8,10,10,1,10,10,10,10,10,1,10,10,1,10,12,12,1,12,12,12,12,12,1,12,12,1,12,1,1,1]),(bl 6 16,[2,2,2,1,4,1,1,1,1,1,1,1,1,6,8,8,1,8,8,8,8,8,1,8,8,1,8,10,10,1,10,10,10,10,10,1,10,10,1,10,12,12,1,12,12,12,12,12,1,12,12,1,12,1,1,1])] :=
  ⟨by kernel_rfl,by kernel_rfl,by kernel_rfl,by kernel_rfl,by kernel_rfl,by kernel_rfl,trivial⟩

theorem ok141_t (x0_:Int) (x0_':Int) (x0'_:Int) (x0'_':Int) (x1:Int) (x1':Int) (x2:Int) (x2':Int):TrOk (PureRuns Go.Proofs.Tryz.prog (kl141_0 Go.Proofs.Tryz.prog).orc 141 as141 rs141 (((x0_,x0_',()),(x0'_,x0'_',()),()),(x1,x1',()),(x2,x2',()),())) (t141 x0_ x0_' x0'_ x0'_' x1 x1' x2 x2') :=
  Walks.ok (fun _ _ _=>PureRuns.of) (wk141 x0_ x0_' x0'_ x0'_' x1 x1' x2 x2') (by kernel_rfl)

theorem ok141:PureOk Go.Proofs.Tryz.prog 141 p141:=pureOk_of kl141_0_ok.base (T:=fun (d:Tys.data as141)=>t141 d.1.1.1 d.1.1.2.1 d.1.2.1.1 d.1.2.1.2.1 d.2.1.1 d.2.1.2.1 d.2.2.1.1 d.2.2.1.2.1) (by kernel_rfl) (fun (d:Tys.data as141)=>ok141_t d.1.1.1 d.1.1.2.1 d.1.2.1.1 d.1.2.1.2.1 d.2.1.1 d.2.1.2.1 d.2.2.1.1 d.2.2.1.2.1)
def kf141 (P:Go.Program):Known:=(kl141_0 P).func 141 p141
theorem kf141_ok:KnownOk Go.Proofs.Tryz.prog (kf141 Go.Proofs.Tryz.prog):=kl141_0_ok.func ok141

/-! loop 2 of ductility/ductilityref09.Clear -/

abbrev sh74_2:Sh:={ n:=34,slots:=[0,1,5,6],pats:=[.ty (.slice (.pair (.pair (.int .i64) (.pair (.int .i64) .unit)) (.pair (.pair (.int .i64) (.pair (.int .i64) .unit)) .unit))),.ty (.slice (.pair (.int .i64) (.pair (.int .i64) .unit))),.ty (.int .i64),.ty (.int .i64)],boxes:=[] }
abbrev shb74_2:Sh:={ n:=34,slots:=[0,1,5],pats:=[.ty (.slice (.pair (.pair (.int .i64) (.pair (.int .i64) .unit)) (.pair (.pair (.int .i64) (.pair (.int .i64) .unit)) .unit))),.ty (.slice (.pair (.int .i64) (.pair (.int .i64) .unit))),.ty (.int .i64)],boxes:=[] }
abbrev shr74_2:Sh:={ n:=34,slots:=[4],pats:=[.ty .bool],boxes:=[] }

def t74_2 (x0:(List ((Int×(Int×Unit))×((Int×(Int×Unit))×Unit)))) (x1:(List (Int×(Int×Unit)))) (x2:Int) (x3:Int):Tr (Out sh74_2.data shb74_2.data shr74_2.data) :=
  Tr.test ((!leF (↑(List.length x1):Int) x3:Bool))
    (Tr.test (decide ((0:Int) ≤ x2) && decide (x2 < (↑(List.length x0):Int)))
      (Tr.test ((decide ((0:Int) ≤ x3) && decide (x3 < (↑(List.length x1):Int)):Bool))
        (Tr.test ((decide ((0:Int) ≤ if (0:Int) < wrap64 (x3 - (1:Int)) then wrap64 (x3 - (1:Int)) else (0:Int)) && decide ((if (0:Int) < wrap64 (x3 - (1:Int)) then wrap64 (x3 - (1:Int)) else (0:Int)) < (↑(List.length x1):Int)):Bool))
          (Tr.test (Option.isSome (f141 (((((List.getD x0 (Int.toNat x2) (((0:Int),(0:Int),()),((0:Int),(0:Int),()),())).1.1:Int),(((List.getD x0 (Int.toNat x2) (((0:Int),(0:Int),()),((0:Int),(0:Int),()),())).1.2.1:Int),())),((((List.getD x0 (Int.toNat x2) (((0:Int),(0:Int),()),((0:Int),(0:Int),()),())).2.1.1:Int),(((List.getD x0 (Int.toNat x2) (((0:Int),(0:Int),()),((0:Int),(0:Int),()),())).2.1.2.1:Int),())),())),((((List.getD x1 (Int.toNat x3) ((0:Int),(0:Int),())).1:Int),(((List.getD x1 (Int.toNat x3) ((0:Int),(0:Int),())).2.1:Int),())),((((List.getD x1 (Int.toNat (if (0:Int) < wrap64 (x3 - (1:Int)) then wrap64 (x3 - (1:Int)) else (0:Int))) ((0:Int),(0:Int),())).1:Int),(((List.getD x1 (Int.toNat (if (0:Int) < wrap64 (x3 - (1:Int)) then wrap64 (x3 - (1:Int)) else (0:Int))) ((0:Int),(0:Int),())).2.1:Int),())),())))))
            (let r0:=g141 (((((List.getD x0 (Int.toNat x2) (((0:Int),(0:Int),()),((0:Int),(0:Int),()),())).1.1:Int),(((List.getD x0 (Int.toNat x2) (((0:Int),(0:Int),()),((0:Int),(0:Int),()),())).1.2.1:Int),())),((((List.getD x0 (Int.toNat x2) (((0:Int),(0:Int),()),((0:Int),(0:Int),()),())).2.1.1:Int),(((List.getD x0 (Int.toNat x2) (((0:Int),(0:Int),()),((0:Int),(0:Int),()),())).2.1.2.1:Int),())),())),((((List.getD x1 (Int.toNat x3) ((0:Int),(0:Int),())).1:Int),(((List.getD x1 (Int.toNat x3) ((0:Int),(0:Int),())).2.1:Int),())),((((List.getD x1 (Int.toNat (if (0:Int) < wrap64 (x3 - (1:Int)) then wrap64 (x3 - (1:Int)) else (0:Int))) ((0:Int),(0:Int),())).1:Int),(((List.getD x1 (Int.toNat (if (0:Int) < wrap64 (x3 - (1:Int)) then wrap64 (x3 - (1:Int)) else (0:Int))) ((0:Int),(0:Int),())).2.1:Int),())),())));
            Tr.test (r0.1)
              (Tr.fin (.ret (((false:Bool),()),())))
              (Tr.fin (.again ((x0,(x1,(x2,((wrap64 (x3 + (1:Int)):Int),())))),()))))
            (Tr.stop))
          (Tr.stop))
        (Tr.stop))
      (Tr.stop))
    (Tr.fin (.brk ((x0,(x1,(x2,()))),())))

def s74_2 (d:sh74_2.data):Option (Out sh74_2.data shb74_2.data shr74_2.data):=(t74_2 d.1.1 d.1.2.1 d.1.2.2.1 d.1.2.2.2.1).val
def l74_2 (d:sh74_2.data):Option (shb74_2.data ⊕ shr74_2.data):=itr s74_2 rounds d
def b74_2 (d:sh74_2.data):shb74_2.data:=outB shb74_2.dflt (l74_2 d)
def r74_2 (d:sh74_2.data):shr74_2.data:=outR shr74_2.dflt (l74_2 d)
def lc74_2:LoopC:=lcOf sh74_2 shb74_2 shr74_2 l74_2 b74_2 r74_2

theorem wk74_2 (x0:(List ((Int×(Int×Unit))×((Int×(Int×Unit))×Unit)))) (x1:(List (Int×(Int×Unit)))) (x2:Int) (x3:Int):Walks (runBody (kf141 Go.Proofs.Tryz.prog).orc Go.Proofs.Tryz.prog 400 74 2 sh74_2 shb74_2 shr74_2 ((x0,x1,x2,x3,()),())) (t74_2 x0 x1 x2 x3) [(bl 6 63,[2,4,6,8,10,12]),(bl 6 31,[2,4,6,8,10,12]),(bl 1 0,[2])] :=
  ⟨by kernel_rfl,by kernel_rfl,by kernel_rfl,trivial⟩

theorem ok74_2_t (x0:(List ((Int×(Int×Unit))×((Int×(Int×Unit))×Unit)))) (x1:(List (Int×(Int×Unit)))) (x2:Int) (x3:Int):TrOk (BodyRuns Go.Proofs.Tryz.prog (kf141 Go.Proofs.Tryz.prog).orc 74 2 sh74_2 shb74_2 shr74_2 ((x0,x1,x2,x3,()),())) (t74_2 x0 x1 x2 x3) :=
  Walks.ok (fun _ _ _=>BodyRuns.of) (wk74_2 x0 x1 x2 x3) (by kernel_rfl)

theorem ok74_2:LoopOk Go.Proofs.Tryz.prog 74 2 lc74_2:=loopOk_of (sh:=sh74_2) (shB:=shb74_2) (shR:=shr74_2) kf141_ok.base (T:=fun (d:sh74_2.data)=>t74_2 d.1.1 d.1.2.1 d.1.2.2.1 d.1.2.2.2.1) (by kernel_rfl) rfl (fun (d:sh74_2.data)=>ok74_2_t d.1.1 d.1.2.1 d.1.2.2.1 d.1.2.2.2.1) (fun _=>rfl)
def kl74_2 (P:Go.Program):Known:=(kf141 P).loop 74 2 lc74_2
theorem kl74_2_ok:KnownOk Go.Proofs.Tryz.prog (kl74_2 Go.Proofs.Tryz.prog):=kf141_ok.loop ok74_2

/-! loop 0 of ductility/ductilityref09.Clear -/

abbrev sh74_0:Sh:={ n:=34,slots:=[0,1,5],pats:=[.ty (.slice (.pair (.pair (.int .i64) (.pair (.int .i64) .unit)) (.pair (.pair (.int .i64) (.pair (.int .i64) .unit)) .unit))),.ty (.slice (.pair (.int .i64) (.pair (.int .i64) .unit))),.ty (.int .i64)],boxes:=[] }
abbrev shb74_0:Sh:={ n:=34,slots:=[],pats:=[],boxes:=[] }
abbrev shr74_0:Sh:={ n:=34,slots:=[4],pats:=[.ty .bool],boxes:=[] }

def t74_0 (x0:(List ((Int×(Int×Unit))×((Int×(Int×Unit))×Unit)))) (x1:(List (Int×(Int×Unit)))) (x2:Int):Tr (Out sh74_0.data shb74_0.data shr74_0.data) :=
  Tr.test ((!leF (↑(List.length x0):Int) x2:Bool))
    (Tr.test (Option.isSome (l74_2 ((x0,(x1,(x2,((0:Int),())))),())))
      (Tr.test (isRet (l74_2 ((x0,(x1,(x2,((0:Int),())))),())))
        (let r0:=r74_2 ((x0,(x1,(x2,((0:Int),())))),());
        Tr.fin (.ret ((r0.1.1,()),())))
        (let r1:=b74_2 ((x0,(x1,(x2,((0:Int),())))),());
        Tr.fin (.again (((r1.1.1:List ((Int×Int×PUnit)×(Int×Int×PUnit)×PUnit)),(r1.1.2.1,((wrap64 (r1.1.2.2.1 + (1:Int)):Int),()))),()))))
      (Tr.stop))
    (Tr.fin (.brk ((),())))

def s74_0 (d:sh74_0.data):Option (Out sh74_0.data shb74_0.data shr74_0.data):=(t74_0 d.1.1 d.1.2.1 d.1.2.2.1).val
def l74_0 (d:sh74_0.data):Option (shb74_0.data ⊕ shr74_0.data):=itr s74_0 rounds d
def b74_0 (d:sh74_0.data):shb74_0.data:=outB shb74_0.dflt (l74_0 d)
def r74_0 (d:sh74_0.data):shr74_0.data:=outR shr74_0.dflt (l74_0 d)
def lc74_0:LoopC:=lcOf sh74_0 shb74_0 shr74_0 l74_0 b74_0 r74_0

theorem wk74_0 (x0:(List ((Int×(Int×Unit))×((Int×(Int×Unit))×Unit)))) (x1:(List (Int×(Int×Unit)))) (x2:Int):Walks (runBody (kl74_2 Go.Proofs.Tryz.prog).orc Go.Proofs.Tryz.prog 400 74 0 sh74_0 shb74_0 shr74_0 ((x0,x1,x2,()),())) (t74_0 x0 x1 x2) [(bl 3 7,[2,4,6]),(bl 3 3,[2,4,6]),(bl 1 0,[2])] :=
  ⟨by kernel_rfl,by kernel_rfl,by kernel_rfl,trivial⟩

theorem ok74_0_t (x0:(List ((Int×(Int×Unit))×((Int×(Int×Unit))×Unit)))) (x1:(List (Int×(Int×Unit)))) (x2:Int):TrOk (BodyRuns Go.Proofs.Tryz.prog (kl74_2 Go.Proofs.Tryz.prog).orc 74 0 sh74_0 shb74_0 shr74_0 ((x0,x1,x2,()),())) (t74_0 x0 x1 x2) :=
  Walks.ok (fun _ _ _=>BodyRuns.of) (wk74_0 x0 x1 x2) (by kernel_rfl)

theorem ok74_0:LoopOk Go.Proofs.Tryz.prog 74 0 lc74_0:=loopOk_of (sh:=sh74_0) (shB:=shb74_0) (shR:=shr74_0) kl74_2_ok.base (T:=fun (d:sh74_0.data)=>t74_0 d.1.1 d.1.2.1 d.1.2.2.1) (by kernel_rfl) rfl (fun (d:sh74_0.data)=>ok74_0_t d.1.1 d.1.2.1 d.1.2.2.1) (fun _=>rfl)
def kl74_0 (P:Go.Program):Known:=(kl74_2 P).loop 74 0 lc74_0
theorem kl74_0_ok:KnownOk Go.Proofs.Tryz.prog (kl74_0 Go.Proofs.Tryz.prog):=kl74_2_ok.loop ok74_0

/-! ductility/ductilityref09.Clear -/

abbrev as74:List Ty:=[(.slice (.pair (.pair (.int .i64) (.pair (.int .i64) .unit)) (.pair (.pair (.int .i64) (.pair (.int .i64) .unit)) .unit))),(.slice (.pair (.int .i64) (.pair (.int .i64) .unit)))]
abbrev rs74:List Ty:=[.bool]

def t74 (x0:(List ((Int×(Int×Unit))×((Int×(Int×Unit))×Unit)))) (x1:(List (Int×(Int×Unit)))):Tr (Tys.data rs74) :=
  Tr.test (Option.isSome (l74_0 ((x0,(x1,((0:Int),()))),())))
    (Tr.test (isRet (l74_0 ((x0,(x1,((0:Int),()))),())))
      (let r0:=r74_0 ((x0,(x1,((0:Int),()))),());
      Tr.fin ((r0.1.1,())))
      (Tr.fin (((true:Bool),()))))
    (Tr.stop)

def f74 (d:Tys.data as74):Option (Tys.data rs74):=(t74 d.1 d.2.1).val
def g74 (d:Tys.data as74):Tys.data rs74:=(f74 d).getD (Tys.dflt rs74)
def p74:PureC:=pcOf as74 rs74 f74 g74

theorem wk74 (x0:(List ((Int×(Int×Unit))×((Int×(Int×Unit))×Unit)))) (x1:(List (Int×(Int×Unit)))):Walks (runPure (kl74_0 Go.Proofs.Tryz.prog).orc Go.Proofs.Tryz.prog 400 74 as74 rs74 (x0,x1,())) (t74 x0 x1) [(bl 2 3,[2,4]),(bl 2 1,[2,4])] :=
  ⟨by kernel_rfl,by kernel_rfl,trivial⟩

theorem ok74_t (x0:(List ((Int×(Int×Unit))×((Int×(Int×Unit))×Unit)))) (x1:(List (Int×(Int×Unit)))):TrOk (PureRuns Go.Proofs.Tryz.prog (kl74_0 Go.Proofs.Tryz.prog).orc 74 as74 rs74 (x0,x1,())) (t74 x0 x1) :=
  Walks.ok (fun _ _ _=>PureRuns.of) (wk74 x0 x1) (by kernel_rfl)

theorem ok74:PureOk Go.Proofs.Tryz.prog 74 p74:=pureOk_of kl74_0_ok.base (T:=fun (d:Tys.data as74)=>t74 d.1 d.2.1) (by kernel_rfl) (fun (d:Tys.data as74)=>ok74_t d.1 d.2.1)
def kf74 (P:Go.Program):Known:=(kl74_0 P).func 74 p74
theorem kf74_ok:KnownOk Go.Proofs.Tryz.prog (kf74 Go.Proofs.Tryz.prog):=kl74_0_ok.func ok74

/-! ductility/ductilitybase.Mod -/

abbrev as56:List Ty:=[(.int .i64),(.int .i64)]
abbrev rs56:List Ty:=[(.int .i64)]

def t56 (x0:Int) (x1:Int):Tr (Tys.data rs56) :=
  Tr.test ((x1 == (0:Int):Bool))
    (Tr.stop)
    (Tr.test (!leF (0:Int) (Int.tmod x0 x1))
      (Tr.fin (((wrap64 (Int.tmod x0 x1 + x1):Int),())))
      (Tr.fin (((Int.tmod x0 x1:Int),()))))

def f56 (d:Tys.data as56):Option (Tys.data rs56):=(t56 d.1 d.2.1).val
def g56 (d:Tys.data as56):Tys.data rs56:=(f56 d).getD (Tys.dflt rs56)
def p56:PureC:=pcOf as56 rs56 f56 g56

theorem wk56 (x0:Int) (x1:Int):Walks (runPure (kf74 Go.Proofs.Tryz.prog).orc Go.Proofs.Tryz.prog 400 56 as56 rs56 (x0,x1,())) (t56 x0 x1) [(bl 2 2,[2,4]),(bl 2 0,[2,4])] :=
  ⟨by kernel_rfl,by kernel_rfl,trivial⟩

theorem ok56_t (x0:Int) (x1:Int):TrOk (PureRuns Go.Proofs.Tryz.prog (kf74 Go.Proofs.Tryz.prog).orc 56 as56 rs56 (x0,x1,())) (t56 x0 x1) :=
  Walks.ok (fun _ _ _=>PureRuns.of) (wk56 x0 x1) (by kernel_rfl)

theorem ok56:PureOk Go.Proofs.Tryz.prog 56 p56:=pureOk_of kf74_ok.base (T:=fun (d:Tys.data as56)=>t56 d.1 d.2.1) (by kernel_rfl) (fun (d:Tys.data as56)=>ok56_t d.1 d.2.1)
def kf56 (P:Go.Program):Known:=(kf74 P).func 56 p56
theorem kf56_ok:KnownOk Go.Proofs.Tryz.prog (kf56 Go.Proofs.Tryz.prog):=kf74_ok.func ok56

/-! loop 0 of ductility/ductilitylaw09.SafetyZones -/

abbrev sh13_0:Sh:={ n:=194,slots:=[0,1,2,7,8,10,11],pats:=[.ty (.slice (.pair (.pair (.int .i64) (.pair (.int .i64) .unit)) (.pair (.pair (.int .i64) (.pair (.int .i64) .unit)) .unit))),.ty (.slice (.pair (.int .i64) (.pair (.int .i64) .unit))),.ty (.int .i64),.ty (.int .i64),.ty (.int .i64),.acc (.pair (.int .i64) (.pair (.int .i64) .unit)),.ty (.int .i64)],boxes:=[] }
abbrev shb13_0:Sh:={ n:=194,slots:=[0,1,2,7,8,10],pats:=[.ty (.slice (.pair (.pair (.int .i64) (.pair (.int .i64) .unit)) (.pair (.pair (.int .i64) (.pair (.int .i64) .unit)) .unit))),.ty (.slice (.pair (.int .i64) (.pair (.int .i64) .unit))),.ty (.int .i64),.ty (.int .i64),.ty (.int .i64),.acc (.pair (.int .i64) (.pair (.int .i64) .unit))],boxes:=[] }
abbrev shr13_0:Sh:={ n:=194,slots:=[],pats:=[],boxes:=[] }

def t13_0 (x0:(List ((Int×(Int×Unit))×((Int×(Int×Unit))×Unit)))) (x1:(List (Int×(Int×Unit)))) (x2:Int) (x3:Int) (x4:Int) (x5:(List (Int×(Int×Unit)))) (x6:Int):Tr (Out sh13_0.data shb13_0.data shr13_0.data) :=
  Tr.test ((leF (0:Int) x6:Bool))
    (Tr.test (decide ((0:Int) ≤ x6) && decide (x6 < (↑(List.length x1):Int)))
      (Tr.test ((Nat.ble (((2:Nat) * (List.length x5 + (1:Nat)) + (192:Nat)) * (16:Nat)) (281474976710656:Nat) && Nat.ble (List.length x5 + (1:Nat)) (281474976710656:Nat):Bool))
        (Tr.fin (.again ((x0,(x1,(x2,(x3,(x4,((x5++[((List.getD x1 (Int.toNat x6) ((0:Int),(0:Int),())).1,(List.getD x1 (Int.toNat x6) ((0:Int),(0:Int),())).2.1,())]:List (Int×Int×PUnit)),((wrap64 (x6 - (1:Int)):Int),()))))))),())))
        (Tr.stop))
      (Tr.stop))
    (Tr.fin (.brk ((x0,(x1,(x2,(x3,(x4,(x5,())))))),())))

def s13_0 (d:sh13_0.data):Option (Out sh13_0.data shb13_0.data shr13_0.data):=(t13_0 d.1.1 d.1.2.1 d.1.2.2.1 d.1.2.2.2.1 d.1.2.2.2.2.1 d.1.2.2.2.2.2.1 d.1.2.2.2.2.2.2.1).val
def l13_0 (d:sh13_0.data):Option (shb13_0.data ⊕ shr13_0.data):=itr s13_0 rounds d
def b13_0 (d:sh13_0.data):shb13_0.data:=outB shb13_0.dflt (l13_0 d)
def lc13_0:LoopC:=lcB sh13_0 shb13_0 shr13_0 l13_0 b13_0

theorem wk13_0 (x0:(List ((Int×(Int×Unit))×((Int×(Int×Unit))×Unit)))) (x1:(List (Int×(Int×Unit)))) (x2:Int) (x3:Int) (x4:Int) (x5:(List (Int×(Int×Unit)))) (x6:Int):Walks (runBody (kf56 Go.Proofs.Tryz.prog).orc Go.Proofs.Tryz.prog 400 13 0 sh13_0 shb13_0 shr13_0 ((x0,x1,x2,x3,x4,x5,x6,()),())) (t13_0 x0 x1 x2 x3 x4 x5 x6) [(bl 3 7,[2,4,6]),(bl 1 0,[2])] :=
  ⟨by kernel_rfl,by kernel_rfl,trivial⟩

theorem ok13_0_t (x0:(List ((Int×(Int×Unit))×((Int×(Int×Unit))×Unit)))) (x1:(List (Int×(Int×Unit)))) (x2:Int) (x3:Int) (x4:Int) (x5:(List (Int×(Int×Unit)))) (x6:Int):TrOk (BodyRuns Go.Proofs.Tryz.prog (kf56 Go.Proofs.Tryz.prog).orc 13 0 sh13_0 shb13_0 shr13_0 ((x0,x1,x2,x3,x4,x5,x6,()),())) (t13_0 x0 x1 x2 x3 x4 x5 x6) :=
  Walks.ok (fun _ _ _=>BodyRuns.of) (wk13_0 x0 x1 x2 x3 x4 x5 x6) (by kernel_rfl)

theorem ok13_0:LoopOk Go.Proofs.Tryz.prog 13 0 lc13_0:=loopOk_ofB (sh:=sh13_0) (shB:=shb13_0) (shR:=shr13_0) kf56_ok.base (T:=fun (d:sh13_0.data)=>t13_0 d.1.1 d.1.2.1 d.1.2.2.1 d.1.2.2.2.1 d.1.2.2.2.2.1 d.1.2.2.2.2.2.1 d.1.2.2.2.2.2.2.1) (by kernel_rfl) rfl (fun (d:sh13_0.data)=>ok13_0_t d.1.1 d.1.2.1 d.1.2.2.1 d.1.2.2.2.1 d.1.2.2.2.2.1 d.1.2.2.2.2.2.1 d.1.2.2.2.2.2.2.1) (fun _=>rfl)
def kl13_0 (P:Go.Program):Known:=(kf56 P).loop 13 0 lc13_0
theorem kl13_0_ok:KnownOk Go.Proofs.Tryz.prog (kl13_0 Go.Proofs.Tryz.prog):=kf56_ok.loop ok13_0

/-! loop 4 of ductility/ductilitylaw09.SafetyZones -/

abbrev sh13_4:Sh:={ n:=194,slots:=[0,1,2,14,15],pats:=[.ty (.slice (.pair (.pair (.int .i64) (.pair (.int .i64) .unit)) (.pair (.pair (.int .i64) (.pair (.int .i64) .unit)) .unit))),.ty (.slice (.pair (.int .i64) (.pair (.int .i64) .unit))),.ty (.int .i64),.ty (.int .i64),.ty (.int .i64)],boxes:=[] }
abbrev shb13_4:Sh:={ n:=194,slots:=[0,1,2,14],pats:=[.ty (.slice (.pair (.pair (.int .i64) (.pair (.int .i64) .unit)) (.pair (.pair (.int .i64) (.pair (.int .i64) .unit)) .unit))),.ty (.slice (.pair (.int .i64) (.pair (.int .i64) .unit))),.ty (.int .i64),.ty (.int .i64)],boxes:=[] }
abbrev shr13_4:Sh:={ n:=194,slots:=[6],pats:=[.ty .bool],boxes:=[] }

def t13_4 (x0:(List ((Int×(Int×Unit))×((Int×(Int×Unit))×Unit)))) (x1:(List (Int×(Int×Unit)))) (x2:Int) (x3:Int) (x4:Int):Tr (Out sh13_4.data shb13_4.data shr13_4.data) :=
  Tr.test ((!leF (↑(List.length x1):Int) x4:Bool))
    (Tr.test (decide ((0:Int) ≤ x4) && decide (x4 < (↑(List.length x1):Int)))
      (Tr.test ((decide ((0:Int) ≤ x3) && decide (x3 < (↑(List.length x0):Int)):Bool))
        (Tr.test (Option.isSome (f25 (((List.getD x1 (Int.toNat x4) ((0:Int),(0:Int),())).1:Int),(((List.getD x0 (Int.toNat x3) (((0:Int),(0:Int),()),((0:Int),(0:Int),()),())).1.1:Int),(((List.getD x0 (Int.toNat x3) (((0:Int),(0:Int),()),((0:Int),(0:Int),()),())).1.2.1:Int),())))))
          (let r0:=g25 (((List.getD x1 (Int.toNat x4) ((0:Int),(0:Int),())).1:Int),(((List.getD x0 (Int.toNat x3) (((0:Int),(0:Int),()),((0:Int),(0:Int),()),())).1.1:Int),(((List.getD x0 (Int.toNat x3) (((0:Int),(0:Int),()),((0:Int),(0:Int),()),())).1.2.1:Int),())));
          Tr.test (r0.1)
            (Tr.test (Option.isSome (f25 (((List.getD x1 (Int.toNat x4) ((0:Int),(0:Int),())).2.1:Int),(((List.getD x0 (Int.toNat x3) (((0:Int),(0:Int),()),((0:Int),(0:Int),()),())).2.1.1:Int),(((List.getD x0 (Int.toNat x3) (((0:Int),(0:Int),()),((0:Int),(0:Int),()),())).2.1.2.1:Int),())))))
              (let r1:=g25 (((List.getD x1 (Int.toNat x4) ((0:Int),(0:Int),())).2.1:Int),(((List.getD x0 (Int.toNat x3) (((0:Int),(0:Int),()),((0:Int),(0:Int),()),())).2.1.1:Int),(((List.getD x0 (Int.toNat x3) (((0:Int),(0:Int),()),((0:Int),(0:Int),()),())).2.1.2.1:Int),())));
              Tr.test (r1.1)
                (Tr.fin (.ret (((false:Bool),()),())))
                (Tr.fin (.again ((x0,(x1,(x2,(x3,((wrap64 (x4 + (1:Int)):Int),()))))),()))))
              (Tr.stop))
            (Tr.fin (.again ((x0,(x1,(x2,(x3,((wrap64 (x4 + (1:Int)):Int),()))))),()))))
          (Tr.stop))
        (Tr.stop))
      (Tr.stop))
    (Tr.fin (.brk ((x0,(x1,(x2,(x3,())))),())))

def s13_4 (d:sh13_4.data):Option (Out sh13_4.data shb13_4.data shr13_4.data):=(t13_4 d.1.1 d.1.2.1 d.1.2.2.1 d.1.2.2.2.1 d.1.2.2.2.2.1).val
def l13_4 (d:sh13_4.data):Option (shb13_4.data ⊕ shr13_4.data):=itr s13_4 rounds d
def b13_4 (d:sh13_4.data):shb13_4.data:=outB shb13_4.dflt (l13_4 d)
def r13_4 (d:sh13_4.data):shr13_4.data:=outR shr13_4.dflt (l13_4 d)
def lc13_4:LoopC:=lcOf sh13_4 shb13_4 shr13_4 l13_4 b13_4 r13_4

theorem wk13_4 (x0:(List ((Int×(Int×Unit))×((Int×(Int×Unit))×Unit)))) (x1:(List (Int×(Int×Unit)))) (x2:Int) (x3:Int) (x4:Int):Walks (runBody (kl13_0 Go.Proofs.Tryz.prog).orc Go.Proofs.Tryz.prog 400 13 4 sh13_4 shb13_4 shr13_4 ((x0,x1,x2,x3,x4,()),())) (t13_4 x0 x1 x2 x3 x4) [(bl 7 127,[2,6,4,6,6,6,6,10,6,6,6,6,6,6,10,6,6,6,6,1,6,12,6,6,6,8,10,10,1,12,14]),(bl 7 63,[2,6,4,6,6,6,6,10,6,6,6,6,6,6,10,6,6,6,6,1,6,12,6,6,6,8,10,10,1,12,14]),(bl 5 15,[0,2,2,2,2,2,2,2,2,2,2,2,2,2,2,2,2,2,2,2,4,6,6,1,8,10]),(bl 1 0,[2])] :=
  ⟨by kernel_rfl,by kernel_rfl,by kernel_rfl,by kernel_rfl,trivial⟩

theorem ok13_4_t (x0:(List ((Int×(Int×Unit))×((Int×(Int×Unit))×Unit)))) (x1:(List (Int×(Int×Unit)))) (x2:Int) (x3:Int) (x4:Int):TrOk (BodyRuns Go.Proofs.Tryz.prog (kl13_0 Go.Proofs.Tryz.prog).orc 13 4 sh13_4 shb13_4 shr13_4 ((x0,x1,x2,x3,x4,()),())) (t13_4 x0 x1 x2 x3 x4) :=
  Walks.ok (fun _ _ _=>BodyRuns.of) (wk13_4 x0 x1 x2 x3 x4) (by kernel_rfl)

theorem ok13_4:LoopOk Go.Proofs.Tryz.prog 13 4 lc13_4:=loopOk_of (sh:=sh13_4) (shB:=shb13_4) (shR:=shr13_4) kl13_0_ok.base (T:=fun (d:sh13_4.data)=>t13_4 d.1.1 d.1.2.1 d.1.2.2.1 d.1.2.2.2.1 d.1.2.2.2.2.1) (by kernel_rfl) rfl (fun (d:sh13_4.data)=>ok13_4_t d.1.1 d.1.2.1 d.1.2.2.1 d.1.2.2.2.1 d.1.2.2.2.2.1) (fun _=>rfl)
def kl13_4 (P:Go.Program):Known:=(kl13_0 P).loop 13 4 lc13_4
theorem kl13_4_ok:KnownOk Go.Proofs.Tryz.prog (kl13_4 Go.Proofs.Tryz.prog):=kl13_0_ok.loop ok13_4

/-! loop 2 of ductility/ductilitylaw09.SafetyZones -/

abbrev sh13_2:Sh:={ n:=194,slots:=[0,1,2,14],pats:=[.ty (.slice (.pair (.pair (.int .i64) (.pair (.int .i64) .unit)) (.pair (.pair (.int .i64) (.pair (.int .i64) .unit)) .unit))),.ty (.slice (.pair (.int .i64) (.pair (.int .i64) .unit))),.ty (.int .i64),.ty (.int .i64)],boxes:=[] }
abbrev shb13_2:Sh:={ n:=194,slots:=[0,1,2],pats:=[.ty (.slice (.pair (.pair (.int .i64) (.pair (.int .i64) .unit)) (.pair (.pair (.int .i64) (.pair (.int .i64) .unit)) .unit))),.ty (.slice (.pair (.int .i64) (.pair (.int .i64) .unit))),.ty (.int .i64)],boxes:=[] }
abbrev shr13_2:Sh:={ n:=194,slots:=[6],pats:=[.ty .bool],boxes:=[] }

def t13_2 (x0:(List ((Int×(Int×Unit))×((Int×(Int×Unit))×Unit)))) (x1:(List (Int×(Int×Unit)))) (x2:Int) (x3:Int):Tr (Out sh13_2.data shb13_2.data shr13_2.data) :=
  Tr.test ((!leF (↑(List.length x0):Int) x3:Bool))
    (Tr.test (Option.isSome (l13_4 ((x0,(x1,(x2,(x3,((0:Int),()))))),())))
      (Tr.test (isRet (l13_4 ((x0,(x1,(x2,(x3,((0:Int),()))))),())))
        (let r0:=r13_4 ((x0,(x1,(x2,(x3,((0:Int),()))))),());
        Tr.fin (.ret ((r0.1.1,()),())))
        (let r1:=b13_4 ((x0,(x1,(x2,(x3,((0:Int),()))))),());
        Tr.fin (.again (((r1.1.1:List ((Int×Int×PUnit)×(Int×Int×PUnit)×PUnit)),(r1.1.2.1,(r1.1.2.2.1,((wrap64 (r1.1.2.2.2.1 + (1:Int)):Int),())))),()))))
      (Tr.stop))
    (Tr.fin (.brk ((x0,(x1,(x2,()))),())))

def s13_2 (d:sh13_2.data):Option (Out sh13_2.data shb13_2.data shr13_2.data):=(t13_2 d.1.1 d.1.2.1 d.1.2.2.1 d.1.2.2.2.1).val
def l13_2 (d:sh13_2.data):Option (shb13_2.data ⊕ shr13_2.data):=itr s13_2 rounds d
def b13_2 (d:sh13_2.data):shb13_2.data:=outB shb13_2.dflt (l13_2 d)
def r13_2 (d:sh13_2.data):shr13_2.data:=outR shr13_2.dflt (l13_2 d)
def lc13_2:LoopC:=lcOf sh13_2 shb13_2 shr13_2 l13_2 b13_2 r13_2

theorem wk13_2 (x0:(List ((Int×(Int×Unit))×((Int×(Int×Unit))×Unit)))) (x1:(List (Int×(Int×Unit)))) (x2:Int) (x3:Int):Walks (runBody (kl13_4 Go.Proofs.Tryz.prog).orc Go.Proofs.Tryz.prog 400 13 2 sh13_2 shb13_2 shr13_2 ((x0,x1,x2,x3,()),())) (t13_2 x0 x1 x2 x3) [(bl 3 7,[2,4,6]),(bl 3 3,[2,4,6]),(bl 1 0,[2])] :=
  ⟨by kernel_rfl,by kernel_rfl,by kernel_rfl,trivial⟩

theorem ok13_2_t (x0:(List ((Int×(Int×Unit))×((Int×(Int×Unit))×Unit)))) (x1:(List (Int×(Int×Unit)))) (x2:Int) (x3:Int):TrOk (BodyRuns Go.Proofs.Tryz.prog (kl13_4 Go.Proofs.Tryz.prog).orc 13 2 sh13_2 shb13_2 shr13_2 ((x0,x1,x2,x3,()),())) (t13_2 x0 x1 x2 x3) :=
  Walks.ok (fun _ _ _=>BodyRuns.of) (wk13_2 x0 x1 x2 x3) (by kernel_rfl)

theorem ok13_2:LoopOk Go.Proofs.Tryz.prog 13 2 lc13_2:=loopOk_of (sh:=sh13_2) (shB:=shb13_2) (shR:=shr13_2) kl13_4_ok.base (T:=fun (d:sh13_2.data)=>t13_2 d.1.1 d.1.2.1 d.1.2.2.1 d.1.2.2.2.1) (by kernel_rfl) rfl (fun (d:sh13_2.data)=>ok13_2_t d.1.1 d.1.2.1 d.1.2.2.1 d.1.2.2.2.1) (fun _=>rfl)
def kl13_2 (P:Go.Program):Known:=(kl13_4 P).loop 13 2 lc13_2
theorem kl13_2_ok:KnownOk Go.Proofs.Tryz.prog (kl13_2 Go.Proofs.Tryz.prog):=kl13_4_ok.loop ok13_2

/-! ductility/ductilitylaw09.SafetyZones -/

abbrev as13:List Ty:=[(.slice (.pair (.pair (.int .i64) (.pair (.int .i64) .unit)) (.pair (.pair (.int .i64) (.pair (.int .i64) .unit)) .unit))),(.slice (.pair (.int .i64) (.pair (.int .i64) .unit))),(.int .i64)]
abbrev rs13:List Ty:=[.bool]

def t13 (x0:(List ((Int×(Int×Unit))×((Int×(Int×Unit))×Unit)))) (x1:(List (Int×(Int×Unit)))) (x2:Int):Tr (Tys.data rs13) :=
  Tr.test ((!leF (↑(List.length x0):Int) (10:Int):Bool))
    (Tr.fin ((true,())))
    (Tr.test (!leF (↑(List.length x1):Int) (22:Int))
      (Tr.fin (((true:Bool),())))
      (Tr.test ((Nat.ble (((2:Nat) * ((0:Nat) + List.length x0) + (192:Nat)) * (32:Nat)) (281474976710656:Nat) && Nat.ble ((0:Nat) + List.length x0) (281474976710656:Nat):Bool))
        (Tr.test (Option.isSome (f72 (x1,())))
          (let r0:=g72 (x1,());
          Tr.test (Option.isSome (f70 (([]++x0:List ((Int×Int×PUnit)×(Int×Int×PUnit)×PUnit)),(r0.1,()))))
            (Tr.test (Option.isSome (f73 (x0,(x1,()))))
              (let r2:=g73 (x0,(x1,()));
              Tr.test ((!eqF r2.1 0:Bool))
                (let r1:=g70 (([]++x0:List ((Int×Int×PUnit)×(Int×Int×PUnit)×PUnit)),(r0.1,()));
                Tr.test ((eqF r1.2.1 r2.1:Bool))
                  (Tr.fin (((eqF r1.1 0:Bool),())))
                  (Tr.fin (((false:Bool),()))))
                (Tr.test (Option.isSome (f74 (x0,(x1,()))))
                  (let r3:=g74 (x0,(x1,()));
                  Tr.test (r3.1)
                    (let r1:=g70 (([]++x0:List ((Int×Int×PUnit)×(Int×Int×PUnit)×PUnit)),(r0.1,()));
                    Tr.test ((!eqF r1.2.1 0:Bool))
                      (Tr.fin (((false:Bool),())))
                      (Tr.test ((!eqF r1.1 (↑(List.length x1):Int):Bool))
                        (Tr.fin (((false:Bool),())))
                        (Tr.test (isBrk (l13_0 ((x0,(x1,(x2,(r1.1,(r1.2.1,(([]:List (Int×Int×PUnit)),((wrap64 ((↑(List.length x1):Int) - (1:Int)):Int),()))))))),())))
                          (let r4:=b13_0 ((x0,(x1,(x2,(r1.1,(r1.2.1,(([]:List (Int×Int×PUnit)),((wrap64 ((↑(List.length x1):Int) - (1:Int)):Int),()))))))),());
                          Tr.test ((Nat.ble (((2:Nat) * ((0:Nat) + List.length r4.1.1) + (192:Nat)) * (32:Nat)) (281474976710656:Nat) && Nat.ble ((0:Nat) + List.length r4.1.1) (281474976710656:Nat):Bool))
                            (Tr.test (Option.isSome (f70 (([]++r4.1.1:List ((Int×Int×PUnit)×(Int×Int×PUnit)×PUnit)),(r4.1.2.2.2.2.2.1,()))))
                              (let r5:=g70 (([]++r4.1.1:List ((Int×Int×PUnit)×(Int×Int×PUnit)×PUnit)),(r4.1.2.2.2.2.2.1,()));
                              Tr.test ((!eqF r5.2.1 r4.1.2.2.2.2.1:Bool))
                                (Tr.fin (((false:Bool),())))
                                (Tr.test ((!eqF r5.1 r4.1.2.2.2.1:Bool))
                                  (Tr.fin (((false:Bool),())))
                                  (Tr.test ((!eqF r4.1.2.2.2.2.1 0:Bool))
                                    (Tr.fin (((true:Bool),())))
                                    (Tr.test (Option.isSome (l13_2 (((r4.1.1:List ((Int×Int×PUnit)×(Int×Int×PUnit)×PUnit)),(r4.1.2.1,(r4.1.2.2.1,((0:Int),())))),())))
                                      (Tr.test (isRet (l13_2 (((r4.1.1:List ((Int×Int×PUnit)×(Int×Int×PUnit)×PUnit)),(r4.1.2.1,(r4.1.2.2.1,((0:Int),())))),())))
                                        (let r6:=r13_2 (((r4.1.1:List ((Int×Int×PUnit)×(Int×Int×PUnit)×PUnit)),(r4.1.2.1,(r4.1.2.2.1,((0:Int),())))),());
                                        Tr.fin ((r6.1.1,())))
                                        (let r7:=b13_2 (((r4.1.1:List ((Int×Int×PUnit)×(Int×Int×PUnit)×PUnit)),(r4.1.2.1,(r4.1.2.2.1,((0:Int),())))),());
                                        Tr.test ((eqF (↑(List.length r7.1.1):Int) (0:Int):Bool))
                                          (Tr.fin (((true:Bool),())))
                                          (Tr.test ((eqF (↑(List.length r7.1.2.1):Int) (0:Int):Bool))
                                            (Tr.fin (((true:Bool),())))
                                            (Tr.test (Option.isSome (f56 (r7.1.2.2.1,((↑(List.length r7.1.1):Int),()))))
                                              (let r8:=g56 (r7.1.2.2.1,((↑(List.length r7.1.1):Int),()));
                                              Tr.test ((decide ((0:Int) ≤ r8.1) && decide (r8.1 ≤ (↑(List.length r7.1.1):Int)):Bool))
                                                (Tr.test ((Nat.ble (((2:Nat) * ((0:Nat) + List.length (List.take (Int.toNat r8.1) r7.1.1)) + (192:Nat)) * (32:Nat)) (281474976710656:Nat) && Nat.ble ((0:Nat) + List.length (List.take (Int.toNat r8.1) r7.1.1)) (281474976710656:Nat):Bool))
                                                  (Tr.test ((decide ((0:Int) ≤ wrap64 (r8.1 + (1:Int))) && decide (wrap64 (r8.1 + (1:Int)) ≤ (↑(List.length r7.1.1):Int)):Bool))
                                                    (Tr.test ((Nat.ble (((2:Nat) * (List.length ([]++List.take (Int.toNat r8.1) r7.1.1) + List.length (List.drop (Int.toNat (wrap64 (r8.1 + (1:Int)))) r7.1.1)) + (192:Nat)) * (32:Nat)) (281474976710656:Nat) && Nat.ble (List.length ([]++List.take (Int.toNat r8.1) r7.1.1) + List.length (List.drop (Int.toNat (wrap64 (r8.1 + (1:Int)))) r7.1.1)) (281474976710656:Nat):Bool))
                                                      (Tr.test (Option.isSome (f72 (r7.1.2.1,())))
                                                        (let r9:=g72 (r7.1.2.1,());
                                                        Tr.test (Option.isSome (f70 (([]++List.take (Int.toNat r8.1) r7.1.1++List.drop (Int.toNat (wrap64 (r8.1 + (1:Int)))) r7.1.1:List ((Int×Int×PUnit)×(Int×Int×PUnit)×PUnit)),(r9.1,()))))
                                                          (Tr.test ((Nat.ble (((2:Nat) * ((0:Nat) + List.length r7.1.1) + (192:Nat)) * (32:Nat)) (281474976710656:Nat) && Nat.ble ((0:Nat) + List.length r7.1.1) (281474976710656:Nat):Bool))
                                                            (Tr.test ((decide ((0:Int) ≤ wrap64 ((↑(List.length r7.1.2.1):Int) - (1:Int))) && decide (wrap64 ((↑(List.length r7.1.2.1):Int) - (1:Int)) ≤ (↑(List.length r7.1.2.1):Int)):Bool))
                                                              (Tr.test (Option.isSome (f72 ((List.take (Int.toNat (wrap64 ((↑(List.length r7.1.2.1):Int) - (1:Int)))) r7.1.2.1:List (Int×Int×PUnit)),())))
                                                                (let r11:=g72 ((List.take (Int.toNat (wrap64 ((↑(List.length r7.1.2.1):Int) - (1:Int)))) r7.1.2.1:List (Int×Int×PUnit)),());
                                                                Tr.test (Option.isSome (f70 (([]++r7.1.1:List ((Int×Int×PUnit)×(Int×Int×PUnit)×PUnit)),(r11.1,()))))
                                                                  (let r10:=g70 (([]++List.take (Int.toNat r8.1) r7.1.1++List.drop (Int.toNat (wrap64 (r8.1 + (1:Int)))) r7.1.1:List ((Int×Int×PUnit)×(Int×Int×PUnit)×PUnit)),(r9.1,()));
                                                                  Tr.test ((eqF r10.2.1 0:Bool))
                                                                    (let r12:=g70 (([]++r7.1.1:List ((Int×Int×PUnit)×(Int×Int×PUnit)×PUnit)),(r11.1,()));
                                                                    Tr.fin (((eqF r12.2.1 0:Bool),())))
                                                                    (Tr.fin (((false:Bool),()))))
                                                                  (Tr.stop))
                                                                (Tr.stop))
                                                              (Tr.stop))
                                                            (Tr.test ((Nat.ble ((0:Nat) + List.length r7.1.1) (0:Nat):Bool))
                                                              (Tr.stop)
                                                              (Tr.stop)))
                                                          (Tr.stop))
                                                        (Tr.stop))
                                                      (Tr.stop))
                                                    (Tr.stop))
                                                  (Tr.test ((Nat.ble ((0:Nat) + List.length (List.take (Int.toNat r8.1) r7.1.1)) (0:Nat):Bool))
                                                    (Tr.stop)
                                                    (Tr.stop)))
                                                (Tr.stop))
                                              (Tr.stop)))))
                                      (Tr.stop)))))
                              (Tr.stop))
                            (Tr.test ((Nat.ble ((0:Nat) + List.length r4.1.1) (0:Nat):Bool))
                              (Tr.stop)
                              (Tr.stop)))
                          (Tr.stop))))
                    (let r1:=g70 (([]++x0:List ((Int×Int×PUnit)×(Int×Int×PUnit)×PUnit)),(r0.1,()));
                    Tr.test ((!eqF r1.2.1 13:Bool))
                      (Tr.fin (((false:Bool),())))
                      (Tr.test ((!eqF r1.1 0:Bool))
                        (Tr.fin (((false:Bool),())))
                        (Tr.test (isBrk (l13_0 ((x0,(x1,(x2,(r1.1,(r1.2.1,(([]:List (Int×Int×PUnit)),((wrap64 ((↑(List.length x1):Int) - (1:Int)):Int),()))))))),())))
                          (let r4:=b13_0 ((x0,(x1,(x2,(r1.1,(r1.2.1,(([]:List (Int×Int×PUnit)),((wrap64 ((↑(List.length x1):Int) - (1:Int)):Int),()))))))),());
                          Tr.test ((Nat.ble (((2:Nat) * ((0:Nat) + List.length r4.1.1) + (192:Nat)) * (32:Nat)) (281474976710656:Nat) && Nat.ble ((0:Nat) + List.length r4.1.1) (281474976710656:Nat):Bool))
                            (Tr.test (Option.isSome (f70 (([]++r4.1.1:List ((Int×Int×PUnit)×(Int×Int×PUnit)×PUnit)),(r4.1.2.2.2.2.2.1,()))))
                              (let r5:=g70 (([]++r4.1.1:List ((Int×Int×PUnit)×(Int×Int×PUnit)×PUnit)),(r4.1.2.2.2.2.2.1,()));
                              Tr.test ((!eqF r5.2.1 r4.1.2.2.2.2.1:Bool))
                                (Tr.fin (((false:Bool),())))
                                (Tr.test ((!eqF r5.1 r4.1.2.2.2.1:Bool))
                                  (Tr.fin (((false:Bool),())))
                                  (Tr.test ((!eqF r4.1.2.2.2.2.1 0:Bool))
                                    (Tr.fin (((true:Bool),())))
                                    (Tr.test (Option.isSome (l13_2 (((r4.1.1:List ((Int×Int×PUnit)×(Int×Int×PUnit)×PUnit)),(r4.1.2.1,(r4.1.2.2.1,((0:Int),())))),())))
                                      (Tr.test (isRet (l13_2 (((r4.1.1:List ((Int×Int×PUnit)×(Int×Int×PUnit)×PUnit)),(r4.1.2.1,(r4.1.2.2.1,((0:Int),())))),())))
                                        (let r6:=r13_2 (((r4.1.1:List ((Int×Int×PUnit)×(Int×Int×PUnit)×PUnit)),(r4.1.2.1,(r4.1.2.2.1,((0:Int),())))),());
                                        Tr.fin ((r6.1.1,())))
                                        (let r7:=b13_2 (((r4.1.1:List ((Int×Int×PUnit)×(Int×Int×PUnit)×PUnit)),(r4.1.2.1,(r4.1.2.2.1,((0:Int),())))),());
                                        Tr.test ((eqF (↑(List.length r7.1.1):Int) (0:Int):Bool))
                                          (Tr.fin (((true:Bool),())))
                                          (Tr.test ((eqF (↑(List.length r7.1.2.1):Int) (0:Int):Bool))
                                            (Tr.fin (((true:Bool),())))
                                            (Tr.test (Option.isSome (f56 (r7.1.2.2.1,((↑(List.length r7.1.1):Int),()))))
                                              (let r8:=g56 (r7.1.2.2.1,((↑(List.length r7.1.1):Int),()));
                                              Tr.test ((decide ((0:Int) ≤ r8.1) && decide (r8.1 ≤ (↑(List.length r7.1.1):Int)):Bool))
                                                (Tr.test ((Nat.ble (((2:Nat) * ((0:Nat) + List.length (List.take (Int.toNat r8.1) r7.1.1)) + (192:Nat)) * (32:Nat)) (281474976710656:Nat) && Nat.ble ((0:Nat) + List.length (List.take (Int.toNat r8.1) r7.1.1)) (281474976710656:Nat):Bool))
                                                  (Tr.test ((decide ((0:Int) ≤ wrap64 (r8.1 + (1:Int))) && decide (wrap64 (r8.1 + (1:Int)) ≤ (↑(List.length r7.1.1):Int)):Bool))
                                                    (Tr.test ((Nat.ble (((2:Nat) * (List.length ([]++List.take (Int.toNat r8.1) r7.1.1) + List.length (List.drop (Int.toNat (wrap64 (r8.1 + (1:Int)))) r7.1.1)) + (192:Nat)) * (32:Nat)) (281474976710656:Nat) && Nat.ble (List.length ([]++List.take (Int.toNat r8.1) r7.1.1) + List.length (List.drop (Int.toNat (wrap64 (r8.1 + (1:Int)))) r7.1.1)) (281474976710656:Nat):Bool))
                                                      (Tr.test (Option.isSome (f72 (r7.1.2.1,())))
                                                        (let r9:=g72 (r7.1.2.1,());
                                                        Tr.test (Option.isSome (f70 (([]++List.take (Int.toNat r8.1) r7.1.1++List.drop (Int.toNat (wrap64 (r8.1 + (1:Int)))) r7.1.1:List ((Int×Int×PUnit)×(Int×Int×PUnit)×PUnit)),(r9.1,()))))
                                                          (Tr.test ((Nat.ble (((2:Nat) * ((0:Nat) + List.length r7.1.1) + (192:Nat)) * (32:Nat)) (281474976710656:Nat) && Nat.ble ((0:Nat) + List.length r7.1.1) (281474976710656:Nat):Bool))
                                                            (Tr.test ((decide ((0:Int) ≤ wrap64 ((↑(List.length r7.1.2.1):Int) - (1:Int))) && decide (wrap64 ((↑(List.length r7.1.2.1):Int) - (1:Int)) ≤ (↑(List.length r7.1.2.1):Int)):Bool))
                                                              (Tr.test (Option.isSome (f72 ((List.take (Int.toNat (wrap64 ((↑(List.length r7.1.2.1):Int) - (1:Int)))) r7.1.2.1:List (Int×Int×PUnit)),())))
                                                                (let r11:=g72 ((List.take (Int.toNat (wrap64 ((↑(List.length r7.1.2.1):Int) - (1:Int)))) r7.1.2.1:List (Int×Int×PUnit)),());
                                                                Tr.test (Option.isSome (f70 (([]++r7.1.1:List ((Int×Int×PUnit)×(Int×Int×PUnit)×PUnit)),(r11.1,()))))
                                                                  (let r10:=g70 (([]++List.take (Int.toNat r8.1) r7.1.1++List.drop (Int.toNat (wrap64 (r8.1 + (1:Int)))) r7.1.1:List ((Int×Int×PUnit)×(Int×Int×PUnit)×PUnit)),(r9.1,()));
                                                                  Tr.test ((eqF r10.2.1 0:Bool))
                                                                    (let r12:=g70 (([]++r7.1.1:List ((Int×Int×PUnit)×(Int×Int×PUnit)×PUnit)),(r11.1,()));
                                                                    Tr.fin (((eqF r12.2.1 0:Bool),())))
                                                                    (Tr.fin (((false:Bool),()))))
                                                                  (Tr.stop))
                                                                (Tr.stop))
                                                              (Tr.stop))
                                                            (Tr.test ((Nat.ble ((0:Nat) + List.length r7.1.1) (0:Nat):Bool))
                                                              (Tr.stop)
                                                              (Tr.stop)))
                                                          (Tr.stop))
                                                        (Tr.stop))
                                                      (Tr.stop))
                                                    (Tr.stop))
                                                  (Tr.test ((Nat.ble ((0:Nat) + List.length (List.take (Int.toNat r8.1) r7.1.1)) (0:Nat):Bool))
                                                    (Tr.stop)
                                                    (Tr.stop)))
                                                (Tr.stop))
                                              (Tr.stop)))))
                                      (Tr.stop)))))
                              (Tr.stop))
                            (Tr.test ((Nat.ble ((0:Nat) + List.length r4.1.1) (0:Nat):Bool))
                              (Tr.stop)
                              (Tr.stop)))
                          (Tr.stop)))))
                  (Tr.stop)))
              (Tr.stop))
            (Tr.stop))
          (Tr.stop))
        (Tr.test ((Nat.ble ((0:Nat) + List.length x0) (0:Nat):Bool))
          (Tr.stop)
          (Tr.stop))))

def f13 (d:Tys.data as13):Option (Tys.data rs13):=(t13 d.1 d.2.1 d.2.2.1).val
def g13 (d:Tys.data as13):Tys.data rs13:=(f13 d).getD (Tys.dflt rs13)
def p13:PureC:=pcOf as13 rs13 f13 g13

theorem wk13n0 (x0:(List ((Int×(Int×Unit))×((Int×(Int×Unit))×Unit)))) (x1:(List (Int×(Int×Unit)))) (x2:Int):Walks (runPure (kl13_2 Go.Proofs.Tryz.prog).orc Go.Proofs.Tryz.prog 400 13 as13 rs13 (x0,x1,x2,())) (t13 x0 x1 x2) [(bl 1 1,[1,2,2,2,2,0,1]),(bl 2 2,[2,4,4,4,4,0,1]),(bl 8 252,[2,2,2,4,6,8,10,12,14,16,16,16,16,0,1]),(bl 8 124,[2,2,2,4,6,8,10,12,14,16,16,16,16,0,1]),(bl 10 956,[1,2,2,2,2,2,4,6,8,10,12,14,16,18,20,20,20,20,0,1]),(bl 11 1468,[2,4,4,4,4,4,6,8,10,12,14,16,18,20,22,22,22,22,0,1]),(bl 15 31164,[1,2,2,2,2,4,6,1,8,10,12,12,12,12,12,14,16,18,20,22,24,26,28,30,30,30,30,0,1]),(bl 16 47548,[2,4,4,4,4,6,8,1,10,12,14,14,14,14,14,16,18,20,22,24,26,28,30,32,32,32,32,0,1]),(bl 17 80316,[2,4,6,6,6,6,8,10,1,12,14,16,16,16,16,16,18,20,22,24,26,28,30,32,34,34,34,34,0,1]),(bl 19 407996,[2,4,6,8,10,10,10,10,12,14,1,16,18,20,20,20,20,20,22,24,26,28,30,32,34,36,38,38,38,38,0,1]),(bl 20 670140,[1,2,2,2,2,4,6,8,10,12,12,12,12,14,16,1,18,20,22,22,22,22,22,24,26,28,30,32,34,36,38,40,40,40,40,0,1]),(bl 21 1194428,[2,4,4,4,4,6,8,10,12,14,14,14,14,16,18,1,20,22,24,24,24,24,24,26,28,30,32,34,36,38,40,42,42,42,42,0,1]),(bl 33 8587983292,[2,2,2,4,6,8,10,12,14,16,18,20,22,24,26,28,28,28,28,30,32,34,36,38,38,38,38,40,42,1,44,46,48,48,48,48,48,50,52,54,56,58,60,62,64,66,66,66,66,0,1]),(bl 33 4293015996,[2,2,2,4,6,8,10,12,14,16,18,20,22,24,26,28,28,28,28,30,32,34,36,38,38,38,38,40,42,1,44,46,48,48,48,48,48,50,52,54,56,58,60,62,64,66,66,66,66,0,1]),(bl 10 700,[1,2,2,2,4,6,8,10,12,14,16,18,20,20,20,20,0,1]),(bl 11 1212,[2,4,4,4,6,8,10,12,14,16,18,20,22,22,22,22,0,1])] :=
  ⟨by kernel_rfl,by kernel_rfl,by kernel_rfl,by kernel_rfl,by kernel_rfl,by kernel_rfl,by kernel_rfl,by kernel_rfl,by kernel_rfl,by kernel_rfl,by kernel_rfl,by kernel_rfl,by kernel_rfl,by kernel_rfl,by kernel_rfl,by kernel_rfl,trivial⟩

theorem wk13n1 (x0:(List ((Int×(Int×Unit))×((Int×(Int×Unit))×Unit)))) (x1:(List (Int×(Int×Unit)))) (x2:Int):Walks (runPure (kl13_2 Go.Proofs.Tryz.prog).orc Go.Proofs.Tryz.prog 400 13 as13 rs13 (x0,x1,x2,())) (t13 x0 x1 x2) [(bl 15 30908,[1,2,2,2,2,4,6,1,8,10,12,12,12,14,16,18,20,22,24,26,28,30,30,30,30,0,1]),(bl 16 47292,[2,4,4,4,4,6,8,1,10,12,14,14,14,16,18,20,22,24,26,28,30,32,32,32,32,0,1]),(bl 17 80060,[2,4,6,6,6,6,8,10,1,12,14,16,16,16,18,20,22,24,26,28,30,32,34,34,34,34,0,1]),(bl 19 407740,[2,4,6,8,10,10,10,10,12,14,1,16,18,20,20,20,22,24,26,28,30,32,34,36,38,38,38,38,0,1]),(bl 20 669884,[1,2,2,2,2,4,6,8,10,12,12,12,12,14,16,1,18,20,22,22,22,24,26,28,30,32,34,36,38,40,40,40,40,0,1]),(bl 21 1194172,[2,4,4,4,4,6,8,10,12,14,14,14,14,16,18,1,20,22,24,24,24,26,28,30,32,34,36,38,40,42,42,42,42,0,1]),(bl 33 8587983036,[2,2,2,4,6,8,10,12,14,16,18,20,22,24,26,28,28,28,28,30,32,34,36,38,38,38,38,40,42,1,44,46,48,48,48,50,52,54,56,58,60,62,64,66,66,66,66,0,1]),(bl 33 4293015740,[2,2,2,4,6,8,10,12,14,16,18,20,22,24,26,28,28,28,28,30,32,34,36,38,38,38,38,40,42,1,44,46,48,48,48,50,52,54,56,58,60,62,64,66,66,66,66,0,1])] :=
  ⟨by kernel_rfl,by kernel_rfl,by kernel_rfl,by kernel_rfl,by kernel_rfl,by kernel_rfl,by kernel_rfl,by kernel_rfl,trivial⟩

theorem ok13_t (x0:(List ((Int×(Int×Unit))×((Int×(Int×Unit))×Unit)))) (x1:(List (Int×(Int×Unit)))) (x2:Int):TrOk (PureRuns Go.Proofs.Tryz.prog (kl13_2 Go.Proofs.Tryz.prog).orc 13 as13 rs13 (x0,x1,x2,())) (t13 x0 x1 x2) :=
  Walks.ok (fun _ _ _=>PureRuns.of) ((wk13n0 x0 x1 x2).append (wk13n1 x0 x1 x2)) (by kernel_rfl)

theorem ok13:PureOk Go.Proofs.Tryz.prog 13 p13:=pureOk_of kl13_2_ok.base (T:=fun (d:Tys.data as13)=>t13 d.1 d.2.1 d.2.2.1) (by kernel_rfl) (fun (d:Tys.data as13)=>ok13_t d.1 d.2.1 d.2.2.1)

end Go.Vm.Mo
