import Derived.Test.YtiodahganfihkaaGreatA5
import Derived.KernelRfl
import Derived.Test.YtiodahganfihkaaGreatProg
import Derived.Test.YtiodahganfihkaaGreatRsFa
set_option linter.unusedVariables false
set_option linter.unusedSimpArgs false

namespace Go.Vm.Mo
open Go
set_option linter.unusedVariables false
abbrev sh42_0:Sh:={ n:=48,slots:=[4,8,28,29,30],pats:=[.ptr 0 3 0,.ptr 1 5 0,.ty (.slice (.int .i64)),.ty (.int .i64),.ty (.int .i64)],boxes:=[.row [.ty (.int .i64),.ty (.int .i64),.ty (.int .i64)],.row [.ty (.int .i64),.ty (.int .i64),.ty (.int .i64),.ty (.int .i64),.ty (.int .i64)]] }
abbrev shb42_0:Sh:={ n:=48,slots:=[4],pats:=[.ptr 0 3 0],boxes:=[.row [.ty (.int .i64),.ty (.int .i64),.ty (.int .i64)],.row [.ty (.int .i64),.ty (.int .i64),.ty (.int .i64),.ty (.int .i64),.ty (.int .i64)]] }
abbrev shr42_0:Sh:={ n:=48,slots:=[6,7],pats:=[.ty (.int .i64),.ty (.int .i64)],boxes:=[.row [.ty (.int .i64),.ty (.int .i64),.ty (.int .i64)],.row [.ty (.int .i64),.ty (.int .i64),.ty (.int .i64),.ty (.int .i64),.ty (.int .i64)]] }
def t42_0 (x2:(List Int)) (x3:Int) (x4:Int) (b0_0:Int) (b0_1:Int) (b0_2:Int) (b1_0:Int) (b1_1:Int) (b1_2:Int) (b1_3:Int) (b1_4:Int):Tr (Out sh42_0.data shb42_0.data shr42_0.data) :=
  Tr.test ((!leF x3 x4:Bool))
    (Tr.test (decide ((0:Int) ≤ x4) && decide (x4 < (↑(List.length x2):Int)))
      (Tr.test (Option.isSome (f120 ((((b1_0,(b1_1,())),(b1_2,(b1_3,(b1_4,())))),()),((b0_0,(b0_1,(b0_2,()))),((List.getD x2 (Int.toNat x4) (0:Int):Int),())))))
        (let r0:=g120 ((((b1_0,(b1_1,())),(b1_2,(b1_3,(b1_4,())))),()),((b0_0,(b0_1,(b0_2,()))),((List.getD x2 (Int.toNat x4) (0:Int):Int),())));
        Tr.test ((!r0.1:Bool))
          (Tr.fin (.ret (((0:Int),((24:Int),())),((b0_0,(b0_1,(b0_2,()))),((b1_0,(b1_1,(b1_2,(b1_3,(b1_4,()))))),())))))
          (Tr.test (Option.isSome (f121 ((b0_0,(b0_1,(b0_2,()))),((List.getD x2 (Int.toNat x4) (0:Int):Int),()))))
            (let r1:=g121 ((b0_0,(b0_1,(b0_2,()))),((List.getD x2 (Int.toNat x4) (0:Int):Int),()));
            Tr.fin (.again ((x2,(x3,((wrap64 (x4 + (1:Int)):Int),()))),((r1.1.1,(r1.1.2.1,(r1.1.2.2.1,()))),((b1_0,(b1_1,(b1_2,(b1_3,(b1_4,()))))),())))))
            (Tr.stop)))
        (Tr.stop))
      (Tr.stop))
    (Tr.fin (.brk ((),((b0_0,(b0_1,(b0_2,()))),((b1_0,(b1_1,(b1_2,(b1_3,(b1_4,()))))),())))))
def s42_0 (d:sh42_0.data):Option (Out sh42_0.data shb42_0.data shr42_0.data):=(t42_0 d.1.1 d.1.2.1 d.1.2.2.1 d.2.1.1 d.2.1.2.1 d.2.1.2.2.1 d.2.2.1.1 d.2.2.1.2.1 d.2.2.1.2.2.1 d.2.2.1.2.2.2.1 d.2.2.1.2.2.2.2.1).val
def l42_0 (d:sh42_0.data):Option (shb42_0.data ⊕ shr42_0.data):=itr s42_0 rounds d
def b42_0 (d:sh42_0.data):shb42_0.data:=outB shb42_0.dflt (l42_0 d)
def r42_0 (d:sh42_0.data):shr42_0.data:=outR shr42_0.dflt (l42_0 d)
def lc42_0:LoopC:=lcOf sh42_0 shb42_0 shr42_0 l42_0 b42_0 r42_0
theorem wk42_0 (x2:(List Int)) (x3:Int) (x4:Int) (b0_0:Int) (b0_1:Int) (b0_2:Int) (b1_0:Int) (b1_1:Int) (b1_2:Int) (b1_3:Int) (b1_4:Int):Walks (qap (kf35 Proofs.Tryz.prog).orc Proofs.Tryz.prog 400 42 0 sh42_0 shb42_0 shr42_0 ((x2,x3,x4,()),(b0_0,b0_1,b0_2,()),(b1_0,b1_1,b1_2,b1_3,b1_4,()),())) (t42_0 x2 x3 x4 b0_0 b0_1 b0_2 b1_0 b1_1 b1_2 b1_3 b1_4) [(bl 4 15,[2,4,6,8]),(bl 5 23,[2,4,6,8,10]),(bl 1 0,[2])] :=
  ⟨by kernel_rfl,by kernel_rfl,by kernel_rfl,trivial⟩
theorem ok42_0_t (x2:(List Int)) (x3:Int) (x4:Int) (b0_0:Int) (b0_1:Int) (b0_2:Int) (b1_0:Int) (b1_1:Int) (b1_2:Int) (b1_3:Int) (b1_4:Int):TrOk (BodyRuns Proofs.Tryz.prog (kf35 Proofs.Tryz.prog).orc 42 0 sh42_0 shb42_0 shr42_0 ((x2,x3,x4,()),(b0_0,b0_1,b0_2,()),(b1_0,b1_1,b1_2,b1_3,b1_4,()),())) (t42_0 x2 x3 x4 b0_0 b0_1 b0_2 b1_0 b1_1 b1_2 b1_3 b1_4) :=
  Walks.ok (fun _ _ _=>BodyRuns.of) (wk42_0 x2 x3 x4 b0_0 b0_1 b0_2 b1_0 b1_1 b1_2 b1_3 b1_4) (by kernel_rfl)
theorem ok42_0:qba Proofs.Tryz.prog 42 0 lc42_0:=qca (sh:=sh42_0) (shB:=shb42_0) (shR:=shr42_0) kf35_ok.base (T:=fun (d:sh42_0.data)=>t42_0 d.1.1 d.1.2.1 d.1.2.2.1 d.2.1.1 d.2.1.2.1 d.2.1.2.2.1 d.2.2.1.1 d.2.2.1.2.1 d.2.2.1.2.2.1 d.2.2.1.2.2.2.1 d.2.2.1.2.2.2.2.1) (by kernel_rfl) rfl (fun (d:sh42_0.data)=>ok42_0_t d.1.1 d.1.2.1 d.1.2.2.1 d.2.1.1 d.2.1.2.1 d.2.1.2.2.1 d.2.2.1.1 d.2.2.1.2.1 d.2.2.1.2.2.1 d.2.2.1.2.2.2.1 d.2.2.1.2.2.2.2.1) (fun _=>rfl)
def kl42_0 (P:Go.Program):Known:=(kf35 P).loop 42 0 lc42_0
theorem kl42_0_ok:KnownOk Proofs.Tryz.prog (kl42_0 Proofs.Tryz.prog):=kf35_ok.loop ok42_0
abbrev as42:List Ty:=[(.pair (.pair (.int .i64) (.pair (.int .i64) .unit)) (.pair (.int .i64) (.pair (.int .i64) (.pair (.int .i64) .unit)))),(.pair (.int .i64) (.pair (.int .i64) (.pair (.int .i64) .unit))),(.slice (.int .i64))]
abbrev rs42:List Ty:=[(.int .i64),(.int .i64)]
def t42 (x0_:Int) (x0_':Int) (x0':Int) (x0'':Int) (x0''':Int) (x1:Int) (x1':Int) (x1'':Int) (x2:(List Int)):Tr (Tys.data rs42) :=
  Tr.test (Option.isSome (f118 (((x0_,(x0_',())),(x0',(x0'',(x0''',())))),((x1,(x1',(x1'',()))),()))))
    (Tr.test (Option.isSome (f80 (!leF (↑(List.length x2):Int) (100:Int),((8:Int),()))))
      (let r0:=g118 (((x0_,(x0_',())),(x0',(x0'',(x0''',())))),((x1,(x1',(x1'',()))),()));
      let r1:=g80 ((!leF (↑(List.length x2):Int) (100:Int):Bool),((8:Int),()));
      Tr.test (Option.isSome (f79 (([r0.2.1,r1.1]:List Int),())))
        (let r2:=g79 (([r0.2.1,r1.1]:List Int),());
        Tr.test ((!eqF r2.1 0:Bool))
          (Tr.fin (((0:Int),(r2.1,()))))
          (Tr.test (Option.isSome (l42_0 ((x2,((↑(List.length x2):Int),((0:Int),()))),((x1,(x1',(x1'',()))),((r0.1.1.1.1,(r0.1.1.1.2.1,(r0.1.1.2.1,(r0.1.1.2.2.1,(r0.1.1.2.2.2.1,()))))),())))))
            (Tr.test (qbT (l42_0 ((x2,((↑(List.length x2):Int),((0:Int),()))),((x1,(x1',(x1'',()))),((r0.1.1.1.1,(r0.1.1.1.2.1,(r0.1.1.2.1,(r0.1.1.2.2.1,(r0.1.1.2.2.2.1,()))))),())))))
              (let r3:=r42_0 ((x2,((↑(List.length x2):Int),((0:Int),()))),((x1,(x1',(x1'',()))),((r0.1.1.1.1,(r0.1.1.1.2.1,(r0.1.1.2.1,(r0.1.1.2.2.1,(r0.1.1.2.2.2.1,()))))),())));
              Tr.fin ((r3.1.1,(r3.1.2.1,()))))
              (let r4:=b42_0 ((x2,((↑(List.length x2):Int),((0:Int),()))),((x1,(x1',(x1'',()))),((r0.1.1.1.1,(r0.1.1.1.2.1,(r0.1.1.2.1,(r0.1.1.2.2.1,(r0.1.1.2.2.2.1,()))))),())));
              Tr.test (Option.isSome (f122 ((r4.2.1.1,(r4.2.1.2.1,(r4.2.1.2.2.1,()))),())))
                (let r5:=g122 ((r4.2.1.1,(r4.2.1.2.1,(r4.2.1.2.2.1,()))),());
                Tr.test ((!r5.1:Bool))
                  (Tr.fin (((0:Int),((21:Int),()))))
                  (Tr.fin ((r4.2.1.1,((0:Int),())))))
                (Tr.stop)))
            (Tr.stop)))
        (Tr.stop))
      (Tr.stop))
    (Tr.stop)
def f42 (d:Tys.data as42):Option (Tys.data rs42):=(t42 d.1.1.1 d.1.1.2.1 d.1.2.1 d.1.2.2.1 d.1.2.2.2.1 d.2.1.1 d.2.1.2.1 d.2.1.2.2.1 d.2.2.1).val
def g42 (d:Tys.data as42):Tys.data rs42:=(f42 d).getD (Tys.dflt rs42)
def p42:PureC:=pcOf as42 rs42 f42 g42
theorem wk42 (x0_:Int) (x0_':Int) (x0':Int) (x0'':Int) (x0''':Int) (x1:Int) (x1':Int) (x1'':Int) (x2:(List Int)):Walks (runPure (kl42_0 Proofs.Tryz.prog).orc Proofs.Tryz.prog 400 42 as42 rs42 (((x0_,x0_',()),x0',x0'',x0''',()),(x1,x1',x1'',()),x2,())) (t42 x0_ x0_' x0' x0'' x0''' x1 x1' x1'' x2) [(bl 4 15,[2,4,6,8]),(bl 6 55,[2,4,6,8,10,12]),(bl 8 215,[2,4,6,8,10,12,14,16]),(bl 8 87,[2,4,6,8,10,12,14,16])] :=
  ⟨by kernel_rfl,by kernel_rfl,by kernel_rfl,by kernel_rfl,trivial⟩
theorem ok42_t (x0_:Int) (x0_':Int) (x0':Int) (x0'':Int) (x0''':Int) (x1:Int) (x1':Int) (x1'':Int) (x2:(List Int)):TrOk (PureRuns Proofs.Tryz.prog (kl42_0 Proofs.Tryz.prog).orc 42 as42 rs42 (((x0_,x0_',()),x0',x0'',x0''',()),(x1,x1',x1'',()),x2,())) (t42 x0_ x0_' x0' x0'' x0''' x1 x1' x1'' x2) :=
  Walks.ok (fun _ _ _=>PureRuns.of) (wk42 x0_ x0_' x0' x0'' x0''' x1 x1' x1'' x2) (by kernel_rfl)
theorem ok42:PureOk Proofs.Tryz.prog 42 p42:=qag kl42_0_ok.base (T:=fun (d:Tys.data as42)=>t42 d.1.1.1 d.1.1.2.1 d.1.2.1 d.1.2.2.1 d.1.2.2.2.1 d.2.1.1 d.2.1.2.1 d.2.1.2.2.1 d.2.2.1) (by kernel_rfl) (fun (d:Tys.data as42)=>ok42_t d.1.1.1 d.1.1.2.1 d.1.2.1 d.1.2.2.1 d.1.2.2.2.1 d.2.1.1 d.2.1.2.1 d.2.1.2.2.1 d.2.2.1)
def kf42 (P:Go.Program):Known:=(kl42_0 P).func 42 p42
theorem kf42_ok:KnownOk Proofs.Tryz.prog (kf42 Proofs.Tryz.prog):=kl42_0_ok.func ok42
abbrev as49:List Ty:=[(.pair (.int .i64) (.pair (.int .i64) (.pair (.int .i64) .unit)))]
abbrev rs49:List Ty:=[.bool]
def t49 (x0:Int) (x0':Int) (x0'':Int):Tr (Tys.data rs49) :=
  Tr.test ((eqF x0' 0:Bool))
    (Tr.fin ((eqF x0'' 0,())))
    (Tr.fin ((false,())))
def f49 (d:Tys.data as49):Option (Tys.data rs49):=(t49 d.1.1 d.1.2.1 d.1.2.2.1).val
def g49 (d:Tys.data as49):Tys.data rs49:=(f49 d).getD (Tys.dflt rs49)
def p49:PureC:=pcOf as49 rs49 f49 g49
theorem wk49 (x0:Int) (x0':Int) (x0'':Int):Walks (runPure (kf42 Proofs.Tryz.prog).orc Proofs.Tryz.prog 400 49 as49 rs49 ((x0,x0',x0'',()),())) (t49 x0 x0' x0'') [(bl 1 1,[2,2,2,2]),(bl 1 0,[2,2,2,2])] :=
  ⟨by kernel_rfl,by kernel_rfl,trivial⟩
theorem ok49_t (x0:Int) (x0':Int) (x0'':Int):TrOk (PureRuns Proofs.Tryz.prog (kf42 Proofs.Tryz.prog).orc 49 as49 rs49 ((x0,x0',x0'',()),())) (t49 x0 x0' x0'') :=
  Walks.ok (fun _ _ _=>PureRuns.of) (wk49 x0 x0' x0'') (by kernel_rfl)
theorem ok49:PureOk Proofs.Tryz.prog 49 p49:=qag kf42_ok.base (T:=fun (d:Tys.data as49)=>t49 d.1.1 d.1.2.1 d.1.2.2.1) (by kernel_rfl) (fun (d:Tys.data as49)=>ok49_t d.1.1 d.1.2.1 d.1.2.2.1)
def kf49 (P:Go.Program):Known:=(kf42 P).func 49 p49
theorem kf49_ok:KnownOk Proofs.Tryz.prog (kf49 Proofs.Tryz.prog):=kf42_ok.func ok49
abbrev as50:List Ty:=[(.pair (.pair (.int .i64) (.pair (.int .i64) .unit)) (.pair (.int .i64) (.pair (.int .i64) (.pair (.int .i64) .unit)))),(.pair (.int .i64) (.pair (.int .i64) (.pair (.int .i64) .unit))),(.int .i64)]
abbrev rs50:List Ty:=[(.pair (.int .i64) (.pair (.int .i64) (.pair (.int .i64) .unit))),.bool]
def t50 (x0_:Int) (x0_':Int) (x0':Int) (x0'':Int) (x0''':Int) (x1:Int) (x1':Int) (x1'':Int) (x2:Int):Tr (Tys.data rs50) :=
  Tr.test (Option.isSome (f25 (x2,((Go.IntKind.wrap Go.IntKind.i64 ((0:Int) - x0''):Int),(x0'',())))))
    (let r0:=g25 (x2,((Go.IntKind.wrap Go.IntKind.i64 ((0:Int) - x0''):Int),(x0'',())));
    Tr.test ((!r0.1:Bool))
      (Tr.fin ((((0:Int),((0:Int),((0:Int),()))),((false:Bool),()))))
      (Tr.test (Option.isSome (f25 (x2,((wrap64 (x1'' - x0'''):Int),((wrap64 (x1'' + x0'''):Int),())))))
        (let r1:=g25 (x2,((wrap64 (x1'' - x0'''):Int),((wrap64 (x1'' + x0'''):Int),())));
        Tr.test ((!r1.1:Bool))
          (Tr.fin ((((0:Int),((0:Int),((0:Int),()))),((false:Bool),()))))
          (Tr.test (Option.isSome (f123 (((x0_,(x0_',())),(x0',(x0'',(x0''',())))),(((wrap64 (x1 + wrap64 (x1' + x2)):Int),((wrap64 (x1' + x2):Int),(x2,()))),()))))
            (let r2:=g123 (((x0_,(x0_',())),(x0',(x0'',(x0''',())))),(((wrap64 (x1 + wrap64 (x1' + x2)):Int),((wrap64 (x1' + x2):Int),(x2,()))),()));
            Tr.test ((!eqF r2.1 0:Bool))
              (Tr.fin ((((0:Int),((0:Int),((0:Int),()))),((false:Bool),()))))
              (Tr.fin ((((wrap64 (x1 + wrap64 (x1' + x2)):Int),((wrap64 (x1' + x2):Int),(x2,()))),((true:Bool),())))))
            (Tr.stop)))
        (Tr.stop)))
    (Tr.stop)
def f50 (d:Tys.data as50):Option (Tys.data rs50):=(t50 d.1.1.1 d.1.1.2.1 d.1.2.1 d.1.2.2.1 d.1.2.2.2.1 d.2.1.1 d.2.1.2.1 d.2.1.2.2.1 d.2.2.1).val
def g50 (d:Tys.data as50):Tys.data rs50:=(f50 d).getD (Tys.dflt rs50)
def p50:PureC:=pcOf as50 rs50 f50 g50
theorem wk50 (x0_:Int) (x0_':Int) (x0':Int) (x0'':Int) (x0''':Int) (x1:Int) (x1':Int) (x1'':Int) (x2:Int):Walks (runPure (kf49 Proofs.Tryz.prog).orc Proofs.Tryz.prog 400 50 as50 rs50 (((x0_,x0_',()),x0',x0'',x0''',()),(x1,x1',x1'',()),x2,())) (t50 x0_ x0_' x0' x0'' x0''' x1 x1' x1'' x2) [(bl 2 3,[1,2,2,2,2,2,2,2,2,2,2,2,2,2,2,4,1,1]),(bl 4 13,[2,6,6,4,6,6,1,6,6,6,6,6,1,6,6,6,6,6,8,1,1]),(bl 6 53,[2,4,6,10,10,8,10,10,1,10,10,10,10,10,1,10,10,10,10,10,12,1,1]),(bl 6 21,[2,4,6,10,10,8,10,10,1,10,10,10,10,10,1,10,10,10,10,10,12,1,1])] :=
  ⟨by kernel_rfl,by kernel_rfl,by kernel_rfl,by kernel_rfl,trivial⟩
theorem ok50_t (x0_:Int) (x0_':Int) (x0':Int) (x0'':Int) (x0''':Int) (x1:Int) (x1':Int) (x1'':Int) (x2:Int):TrOk (PureRuns Proofs.Tryz.prog (kf49 Proofs.Tryz.prog).orc 50 as50 rs50 (((x0_,x0_',()),x0',x0'',x0''',()),(x1,x1',x1'',()),x2,())) (t50 x0_ x0_' x0' x0'' x0''' x1 x1' x1'' x2) :=
  Walks.ok (fun _ _ _=>PureRuns.of) (wk50 x0_ x0_' x0' x0'' x0''' x1 x1' x1'' x2) (by kernel_rfl)
theorem ok50:PureOk Proofs.Tryz.prog 50 p50:=qag kf49_ok.base (T:=fun (d:Tys.data as50)=>t50 d.1.1.1 d.1.1.2.1 d.1.2.1 d.1.2.2.1 d.1.2.2.2.1 d.2.1.1 d.2.1.2.1 d.2.1.2.2.1 d.2.2.1) (by kernel_rfl) (fun (d:Tys.data as50)=>ok50_t d.1.1.1 d.1.1.2.1 d.1.2.1 d.1.2.2.1 d.1.2.2.2.1 d.2.1.1 d.2.1.2.1 d.2.1.2.2.1 d.2.2.1)
def kf50 (P:Go.Program):Known:=(kf49 P).func 50 p50
theorem kf50_ok:KnownOk Proofs.Tryz.prog (kf50 Proofs.Tryz.prog):=kf49_ok.func ok50
theorem sc47_0:qcM Proofs.Tryz.prog 47 0 = true:=qji (by kernel_rfl)
abbrev sh162_0_1 (P:Go.Program):Sh:={ n:=29,slots:=[0,1,2,4],pats:=[.yld 0,.ptr 1 5 0,.ptr 2 3 0,.ty (.int .i64)],boxes:=[.lp (lpOf P 47 0 .ready none 39 [6,8] 3) [.ptr 4 5 0,.ptr 5 1 0],.row [.ty (.int .i64),.ty (.int .i64),.ty (.int .i64),.ty (.int .i64),.ty (.int .i64)],.row [.ty (.int .i64),.ty (.int .i64),.ty (.int .i64)],.dfr,.row [.ty (.int .i64),.ty (.int .i64),.ty (.int .i64),.ty (.int .i64),.ty (.int .i64)],.row [.aco (.int .i64)]] }
abbrev shb162_0_1 (P:Go.Program):Sh:={ n:=29,slots:=[],pats:=[],boxes:=[.lp (lpOf P 47 0 .ready none 39 [6,8] 3) [.ptr 4 5 0,.ptr 5 1 0],.row [.ty (.int .i64),.ty (.int .i64),.ty (.int .i64),.ty (.int .i64),.ty (.int .i64)],.row [.ty (.int .i64),.ty (.int .i64),.ty (.int .i64)],.dfr,.row [.ty (.int .i64),.ty (.int .i64),.ty (.int .i64),.ty (.int .i64),.ty (.int .i64)],.row [.aco (.int .i64)]] }
abbrev shr162_0_1 (P:Go.Program):Sh:={ n:=29,slots:=[],pats:=[],boxes:=[.lp (lpOf P 47 0 .ready none 39 [6,8] 3) [.ptr 4 5 0,.ptr 5 1 0],.row [.ty (.int .i64),.ty (.int .i64),.ty (.int .i64),.ty (.int .i64),.ty (.int .i64)],.row [.ty (.int .i64),.ty (.int .i64),.ty (.int .i64)],.dfr,.row [.ty (.int .i64),.ty (.int .i64),.ty (.int .i64),.ty (.int .i64),.ty (.int .i64)],.row [.aco (.int .i64)]] }
abbrev dt162_0_1:Type:=(Int×PUnit)×PUnit×(Int×Int×Int×Int×Int×PUnit)×(Int×Int×Int×PUnit)×(Int×Int×Int×Int×Int×PUnit)×(List Int×PUnit)×PUnit
abbrev db162_0_1:Type:=PUnit×PUnit×(Int×Int×Int×Int×Int×PUnit)×(Int×Int×Int×PUnit)×(Int×Int×Int×Int×Int×PUnit)×(List Int×PUnit)×PUnit
abbrev dr162_0_1:Type:=PUnit×PUnit×(Int×Int×Int×Int×Int×PUnit)×(Int×Int×Int×PUnit)×(Int×Int×Int×Int×Int×PUnit)×(List Int×PUnit)×PUnit
def t162_0_1 (x3:Int) (b1_0:Int) (b1_1:Int) (b1_2:Int) (b1_3:Int) (b1_4:Int) (b2_0:Int) (b2_1:Int) (b2_2:Int) (b4_0:Int) (b4_1:Int) (b4_2:Int) (b4_3:Int) (b4_4:Int) (b5_0:(List Int)):Tr (Out dt162_0_1 db162_0_1 dr162_0_1) :=
  Tr.test ((leF x3 b1_3:Bool))
    (Tr.test (Option.isSome (f120 ((((b1_0,(b1_1,())),(b1_2,(b1_3,(b1_4,())))),()),((b2_0,(b2_1,(b2_2,()))),(x3,())))))
      (let r0:=g120 ((((b1_0,(b1_1,())),(b1_2,(b1_3,(b1_4,())))),()),((b2_0,(b2_1,(b2_2,()))),(x3,())));
      Tr.test (r0.1)
        (Tr.test (Option.isSome (f121 ((b2_0,(b2_1,(b2_2,()))),(x3,()))))
          (let r1:=g121 ((b2_0,(b2_1,(b2_2,()))),(x3,()));
          Tr.test (Option.isSome (f119 ((((b4_0,(b4_1,())),(b4_2,(b4_3,(b4_4,())))),()),((r1.1.1,(r1.1.2.1,(r1.1.2.2.1,()))),()))))
            (let r2:=g119 ((((b4_0,(b4_1,())),(b4_2,(b4_3,(b4_4,())))),()),((r1.1.1,(r1.1.2.1,(r1.1.2.2.1,()))),()));
            Tr.test (r2.2.1)
              (Tr.test ((Nat.ble (((2:Nat) * (List.length b5_0 + (1:Nat)) + (192:Nat)) * (8:Nat)) (281474976710656:Nat) && Nat.ble (List.length b5_0 + (1:Nat)) (281474976710656:Nat):Bool))
                (Tr.fin (.again (((wrap64 (x3 + (1:Int)):Int),()),((),((b1_0,(b1_1,(b1_2,(b1_3,(b1_4,()))))),((b2_0,(b2_1,(b2_2,()))),((b4_0,(b4_1,(b4_2,(b4_3,(b4_4,()))))),(((b5_0++[x3]:List Int),()),()))))))))
                (Tr.stop))
              (Tr.fin (.again (((wrap64 (x3 + (1:Int)):Int),()),((),((b1_0,(b1_1,(b1_2,(b1_3,(b1_4,()))))),((b2_0,(b2_1,(b2_2,()))),((b4_0,(b4_1,(b4_2,(b4_3,(b4_4,()))))),((b5_0,()),())))))))))
            (Tr.stop))
          (Tr.stop))
        (Tr.fin (.again (((wrap64 (x3 + (1:Int)):Int),()),((),((b1_0,(b1_1,(b1_2,(b1_3,(b1_4,()))))),((b2_0,(b2_1,(b2_2,()))),((b4_0,(b4_1,(b4_2,(b4_3,(b4_4,()))))),((b5_0,()),())))))))))
      (Tr.stop))
    (Tr.fin (.brk ((),((),((b1_0,(b1_1,(b1_2,(b1_3,(b1_4,()))))),((b2_0,(b2_1,(b2_2,()))),((b4_0,(b4_1,(b4_2,(b4_3,(b4_4,()))))),((b5_0,()),()))))))))
def s162_0_1 (d:dt162_0_1):Option (Out dt162_0_1 db162_0_1 dr162_0_1):=(t162_0_1 d.1.1 d.2.2.1.1 d.2.2.1.2.1 d.2.2.1.2.2.1 d.2.2.1.2.2.2.1 d.2.2.1.2.2.2.2.1 d.2.2.2.1.1 d.2.2.2.1.2.1 d.2.2.2.1.2.2.1 d.2.2.2.2.1.1 d.2.2.2.2.1.2.1 d.2.2.2.2.1.2.2.1 d.2.2.2.2.1.2.2.2.1 d.2.2.2.2.1.2.2.2.2.1 d.2.2.2.2.2.1.1).val
def l162_0_1 (d:dt162_0_1):Option (db162_0_1 ⊕ dr162_0_1):=itr s162_0_1 rounds d
def b162_0_1 (d:dt162_0_1):db162_0_1:=outB (((),((),(((0:Int),((0:Int),((0:Int),((0:Int),((0:Int),()))))),(((0:Int),((0:Int),((0:Int),()))),(((0:Int),((0:Int),((0:Int),((0:Int),((0:Int),()))))),((([]:List Int),()),()))))))) (l162_0_1 d)
def lc162_0_1 (P:Go.Program):LoopC:=lcB (sh162_0_1 P) (shb162_0_1 P) (shr162_0_1 P) l162_0_1 b162_0_1
theorem e162_0_1_0 (x3:Int) (b1_0:Int) (b1_1:Int) (b1_2:Int) (b1_3:Int) (b1_4:Int) (b2_0:Int) (b2_1:Int) (b2_2:Int) (b4_0:Int) (b4_1:Int) (b4_2:Int) (b4_3:Int) (b4_4:Int) (b5_0:(List Int)):qap (kf50 Proofs.Tryz.prog).orc Proofs.Tryz.prog 400 162 0 (sh162_0_1 Proofs.Tryz.prog) (shb162_0_1 Proofs.Tryz.prog) (shr162_0_1 Proofs.Tryz.prog) ((x3,()),(),(b1_0,b1_1,b1_2,b1_3,b1_4,()),(b2_0,b2_1,b2_2,()),(b4_0,b4_1,b4_2,b4_3,b4_4,()),(b5_0,()),()) [tt,tt,tt,tt,tt,tt,tt,tt,tt,tt,tt,tt,tt,tt,tt,ff] =
    (let r0:=g120 ((((b1_0,(b1_1,())),(b1_2,(b1_3,(b1_4,())))),()),((b2_0,(b2_1,(b2_2,()))),(x3,())));let r1:=g121 ((b2_0,(b2_1,(b2_2,()))),(x3,()));let r2:=g119 ((((b4_0,(b4_1,())),(b4_2,(b4_3,(b4_4,())))),()),((r1.1.1,(r1.1.2.1,(r1.1.2.2.1,()))),())); some (.again (((wrap64 (x3 + (1:Int)):Int),()),((),((b1_0,(b1_1,(b1_2,(b1_3,(b1_4,()))))),((b2_0,(b2_1,(b2_2,()))),((b4_0,(b4_1,(b4_2,(b4_3,(b4_4,()))))),(((b5_0++[x3]:List Int),()),())))))),[(qcM Proofs.Tryz.prog (nat_lit 47) (nat_lit 0),true),(false,false),(r0.1,true),(r0.1,true),(Nat.ble (((2:Nat) * (List.length b5_0 + (1:Nat)) + (192:Nat)) * (8:Nat)) (281474976710656:Nat) && Nat.ble (List.length b5_0 + (1:Nat)) (281474976710656:Nat),true),(r2.2.1,true),(Option.isSome (f119 ((((b4_0,(b4_1,())),(b4_2,(b4_3,(b4_4,())))),()),((r1.1.1,(r1.1.2.1,(r1.1.2.2.1,()))),()))),true),(r0.1,true),(Option.isSome (f121 ((b2_0,(b2_1,(b2_2,()))),(x3,()))),true),(r0.1,true),(r0.1,true),(r0.1,true),(r0.1,true),(r0.1,true),(Option.isSome (f120 ((((b1_0,(b1_1,())),(b1_2,(b1_3,(b1_4,())))),()),((b2_0,(b2_1,(b2_2,()))),(x3,())))),true),(leF x3 b1_3,true),(true,true)])):=by kernel_rfl
theorem e162_0_1_2 (x3:Int) (b1_0:Int) (b1_1:Int) (b1_2:Int) (b1_3:Int) (b1_4:Int) (b2_0:Int) (b2_1:Int) (b2_2:Int) (b4_0:Int) (b4_1:Int) (b4_2:Int) (b4_3:Int) (b4_4:Int) (b5_0:(List Int)):qap (kf50 Proofs.Tryz.prog).orc Proofs.Tryz.prog 400 162 0 (sh162_0_1 Proofs.Tryz.prog) (shb162_0_1 Proofs.Tryz.prog) (shr162_0_1 Proofs.Tryz.prog) ((x3,()),(),(b1_0,b1_1,b1_2,b1_3,b1_4,()),(b2_0,b2_1,b2_2,()),(b4_0,b4_1,b4_2,b4_3,b4_4,()),(b5_0,()),()) [tt,tt,tt,tt,tt,tt,tt,tt,tt,tt,tt,ff,tt,tt,ff] =
    (let r0:=g120 ((((b1_0,(b1_1,())),(b1_2,(b1_3,(b1_4,())))),()),((b2_0,(b2_1,(b2_2,()))),(x3,())));let r1:=g121 ((b2_0,(b2_1,(b2_2,()))),(x3,()));let r2:=g119 ((((b4_0,(b4_1,())),(b4_2,(b4_3,(b4_4,())))),()),((r1.1.1,(r1.1.2.1,(r1.1.2.2.1,()))),())); some (.again (((wrap64 (x3 + (1:Int)):Int),()),((),((b1_0,(b1_1,(b1_2,(b1_3,(b1_4,()))))),((b2_0,(b2_1,(b2_2,()))),((b4_0,(b4_1,(b4_2,(b4_3,(b4_4,()))))),((b5_0,()),())))))),[(qcM Proofs.Tryz.prog (nat_lit 47) (nat_lit 0),true),(false,false),(r0.1,true),(r0.1,true),(r2.2.1,false),(Option.isSome (f119 ((((b4_0,(b4_1,())),(b4_2,(b4_3,(b4_4,())))),()),((r1.1.1,(r1.1.2.1,(r1.1.2.2.1,()))),()))),true),(r0.1,true),(Option.isSome (f121 ((b2_0,(b2_1,(b2_2,()))),(x3,()))),true),(r0.1,true),(r0.1,true),(r0.1,true),(r0.1,true),(r0.1,true),(Option.isSome (f120 ((((b1_0,(b1_1,())),(b1_2,(b1_3,(b1_4,())))),()),((b2_0,(b2_1,(b2_2,()))),(x3,())))),true),(leF x3 b1_3,true),(true,true)])):=by kernel_rfl
theorem e162_0_1_3 (x3:Int) (b1_0:Int) (b1_1:Int) (b1_2:Int) (b1_3:Int) (b1_4:Int) (b2_0:Int) (b2_1:Int) (b2_2:Int) (b4_0:Int) (b4_1:Int) (b4_2:Int) (b4_3:Int) (b4_4:Int) (b5_0:(List Int)):qap (kf50 Proofs.Tryz.prog).orc Proofs.Tryz.prog 400 162 0 (sh162_0_1 Proofs.Tryz.prog) (shb162_0_1 Proofs.Tryz.prog) (shr162_0_1 Proofs.Tryz.prog) ((x3,()),(),(b1_0,b1_1,b1_2,b1_3,b1_4,()),(b2_0,b2_1,b2_2,()),(b4_0,b4_1,b4_2,b4_3,b4_4,()),(b5_0,()),()) [tt,tt,tt,ff,ff,ff,ff,ff,ff,ff,ff,ff] =
    (let r0:=g120 ((((b1_0,(b1_1,())),(b1_2,(b1_3,(b1_4,())))),()),((b2_0,(b2_1,(b2_2,()))),(x3,()))); some (.again (((wrap64 (x3 + (1:Int)):Int),()),((),((b1_0,(b1_1,(b1_2,(b1_3,(b1_4,()))))),((b2_0,(b2_1,(b2_2,()))),((b4_0,(b4_1,(b4_2,(b4_3,(b4_4,()))))),((b5_0,()),())))))),[(qcM Proofs.Tryz.prog (nat_lit 47) (nat_lit 0),true),(false,false),(r0.1,false),(r0.1,false),(r0.1,false),(r0.1,false),(r0.1,false),(r0.1,false),(r0.1,false),(r0.1,false),(Option.isSome (f120 ((((b1_0,(b1_1,())),(b1_2,(b1_3,(b1_4,())))),()),((b2_0,(b2_1,(b2_2,()))),(x3,())))),true),(leF x3 b1_3,true),(true,true)])):=by kernel_rfl
theorem e162_0_1_4 (x3:Int) (b1_0:Int) (b1_1:Int) (b1_2:Int) (b1_3:Int) (b1_4:Int) (b2_0:Int) (b2_1:Int) (b2_2:Int) (b4_0:Int) (b4_1:Int) (b4_2:Int) (b4_3:Int) (b4_4:Int) (b5_0:(List Int)):qap (kf50 Proofs.Tryz.prog).orc Proofs.Tryz.prog 400 162 0 (sh162_0_1 Proofs.Tryz.prog) (shb162_0_1 Proofs.Tryz.prog) (shr162_0_1 Proofs.Tryz.prog) ((x3,()),(),(b1_0,b1_1,b1_2,b1_3,b1_4,()),(b2_0,b2_1,b2_2,()),(b4_0,b4_1,b4_2,b4_3,b4_4,()),(b5_0,()),()) [tt,ff] =
    (some (.brk ((),((),((b1_0,(b1_1,(b1_2,(b1_3,(b1_4,()))))),((b2_0,(b2_1,(b2_2,()))),((b4_0,(b4_1,(b4_2,(b4_3,(b4_4,()))))),((b5_0,()),())))))),[(qcM Proofs.Tryz.prog (nat_lit 47) (nat_lit 0),true),(leF x3 b1_3,false),(true,true)])):=by kernel_rfl
theorem ok162_0_1_t (x3:Int) (b1_0:Int) (b1_1:Int) (b1_2:Int) (b1_3:Int) (b1_4:Int) (b2_0:Int) (b2_1:Int) (b2_2:Int) (b4_0:Int) (b4_1:Int) (b4_2:Int) (b4_3:Int) (b4_4:Int) (b5_0:(List Int)):TrOk (BodyRuns Proofs.Tryz.prog (kf50 Proofs.Tryz.prog).orc 162 0 (sh162_0_1 Proofs.Tryz.prog) (shb162_0_1 Proofs.Tryz.prog) (shr162_0_1 Proofs.Tryz.prog) ((x3,()),(),(b1_0,b1_1,b1_2,b1_3,b1_4,()),(b2_0,b2_1,b2_2,()),(b4_0,b4_1,b4_2,b4_3,b4_4,()),(b5_0,()),())) (t162_0_1 x3 b1_0 b1_1 b1_2 b1_3 b1_4 b2_0 b2_1 b2_2 b4_0 b4_1 b4_2 b4_3 b4_4 b5_0) :=
  TrOk.ofTest (fun h1=>TrOk.ofTest (fun h2=>TrOk.ofTest (fun h3=>TrOk.ofTest (fun h8=>TrOk.ofTest (fun h10=>TrOk.ofTest (fun h11=>TrOk.ofTest (fun h12=>TrOk.ofFin (BodyRuns.of (e162_0_1_0 x3 b1_0 b1_1 b1_2 b1_3 b1_4 b2_0 b2_1 b2_2 b4_0 b4_1 b4_2 b4_3 b4_4 b5_0) (ac (sc47_0) (ac rfl (ac h3 (ac h3 (ac h12 (ac h11 (ac h10 (ac h3 (ac h8 (ac h3 (ac h3 (ac h3 (ac h3 (ac h3 (ac h2 (ac h1 (ac rfl All.nil))))))))))))))))))) (fun h12=>TrOk.ofStop)) (fun h11=>TrOk.ofFin (BodyRuns.of (e162_0_1_2 x3 b1_0 b1_1 b1_2 b1_3 b1_4 b2_0 b2_1 b2_2 b4_0 b4_1 b4_2 b4_3 b4_4 b5_0) (ac (sc47_0) (ac rfl (ac h3 (ac h3 (ac h11 (ac h10 (ac h3 (ac h8 (ac h3 (ac h3 (ac h3 (ac h3 (ac h3 (ac h2 (ac h1 (ac rfl All.nil))))))))))))))))))) (fun h10=>TrOk.ofStop)) (fun h8=>TrOk.ofStop)) (fun h3=>TrOk.ofFin (BodyRuns.of (e162_0_1_3 x3 b1_0 b1_1 b1_2 b1_3 b1_4 b2_0 b2_1 b2_2 b4_0 b4_1 b4_2 b4_3 b4_4 b5_0) (ac (sc47_0) (ac rfl (ac h3 (ac h3 (ac h3 (ac h3 (ac h3 (ac h3 (ac h3 (ac h3 (ac h2 (ac h1 (ac rfl All.nil)))))))))))))))) (fun h2=>TrOk.ofStop)) (fun h1=>TrOk.ofFin (BodyRuns.of (e162_0_1_4 x3 b1_0 b1_1 b1_2 b1_3 b1_4 b2_0 b2_1 b2_2 b4_0 b4_1 b4_2 b4_3 b4_4 b5_0) (ac (sc47_0) (ac h1 (ac rfl All.nil)))))
theorem ok162_0_1:qba Proofs.Tryz.prog 162 0 (lc162_0_1 Proofs.Tryz.prog):=qcQ (sh:=(sh162_0_1 Proofs.Tryz.prog)) (shB:=(shb162_0_1 Proofs.Tryz.prog)) (shR:=(shr162_0_1 Proofs.Tryz.prog)) kf50_ok.base (T:=fun (d:dt162_0_1)=>t162_0_1 d.1.1 d.2.2.1.1 d.2.2.1.2.1 d.2.2.1.2.2.1 d.2.2.1.2.2.2.1 d.2.2.1.2.2.2.2.1 d.2.2.2.1.1 d.2.2.2.1.2.1 d.2.2.2.1.2.2.1 d.2.2.2.2.1.1 d.2.2.2.2.1.2.1 d.2.2.2.2.1.2.2.1 d.2.2.2.2.1.2.2.2.1 d.2.2.2.2.1.2.2.2.2.1 d.2.2.2.2.2.1.1) (by kernel_rfl) rfl (fun (d:dt162_0_1)=>ok162_0_1_t d.1.1 d.2.2.1.1 d.2.2.1.2.1 d.2.2.1.2.2.1 d.2.2.1.2.2.2.1 d.2.2.1.2.2.2.2.1 d.2.2.2.1.1 d.2.2.2.1.2.1 d.2.2.2.1.2.2.1 d.2.2.2.2.1.1 d.2.2.2.2.1.2.1 d.2.2.2.2.1.2.2.1 d.2.2.2.2.1.2.2.2.1 d.2.2.2.2.1.2.2.2.2.1 d.2.2.2.2.2.1.1) (fun _=>rfl)
def kl162_0_1 (P:Go.Program):Known:=(kf50 P).loop 162 0 (lc162_0_1 P)
theorem kl162_0_1_ok:KnownOk Proofs.Tryz.prog (kl162_0_1 Proofs.Tryz.prog):=kf50_ok.loop ok162_0_1
abbrev as47:List Ty:=[(.pair (.pair (.int .i64) (.pair (.int .i64) .unit)) (.pair (.int .i64) (.pair (.int .i64) (.pair (.int .i64) .unit)))),(.pair (.int .i64) (.pair (.int .i64) (.pair (.int .i64) .unit)))]
abbrev rs47:List Ty:=[(.slice (.int .i64)),(.int .i64)]
def t47 (x0_:Int) (x0_':Int) (x0':Int) (x0'':Int) (x0''':Int) (x1:Int) (x1':Int) (x1'':Int):Tr (Tys.data rs47) :=
  Tr.test (Option.isSome (f118 (((x0_,(x0_',())),(x0',(x0'',(x0''',())))),((x1,(x1',(x1'',()))),()))))
    (let r0:=g118 (((x0_,(x0_',())),(x0',(x0'',(x0''',())))),((x1,(x1',(x1'',()))),()));
    Tr.test ((!eqF r0.2.1 0:Bool))
      (Tr.fin ((([]:List Int),(r0.2.1,()))))
      (Tr.test (qc2 (l162_0_1 (((Go.IntKind.wrap Go.IntKind.i64 ((0:Int) - r0.1.1.2.2.1):Int),()),((),((r0.1.1.1.1,(r0.1.1.1.2.1,(r0.1.1.2.1,(r0.1.1.2.2.1,(r0.1.1.2.2.2.1,()))))),((x1,(x1',(x1'',()))),((r0.1.1.1.1,(r0.1.1.1.2.1,(r0.1.1.2.1,(r0.1.1.2.2.1,(r0.1.1.2.2.2.1,()))))),((([]:List Int),()),()))))))))
        (let r1:=b162_0_1 (((Go.IntKind.wrap Go.IntKind.i64 ((0:Int) - r0.1.1.2.2.1):Int),()),((),((r0.1.1.1.1,(r0.1.1.1.2.1,(r0.1.1.2.1,(r0.1.1.2.2.1,(r0.1.1.2.2.2.1,()))))),((x1,(x1',(x1'',()))),((r0.1.1.1.1,(r0.1.1.1.2.1,(r0.1.1.2.1,(r0.1.1.2.2.1,(r0.1.1.2.2.2.1,()))))),((([]:List Int),()),()))))));
        Tr.fin ((r1.2.2.2.2.2.1.1,((0:Int),()))))
        (Tr.stop)))
    (Tr.stop)
def f47 (d:Tys.data as47):Option (Tys.data rs47):=(t47 d.1.1.1 d.1.1.2.1 d.1.2.1 d.1.2.2.1 d.1.2.2.2.1 d.2.1.1 d.2.1.2.1 d.2.1.2.2.1).val
def g47 (d:Tys.data as47):Tys.data rs47:=(f47 d).getD (Tys.dflt rs47)
def p47:PureC:=pcOf as47 rs47 f47 g47
theorem e47_0 (x0_:Int) (x0_':Int) (x0':Int) (x0'':Int) (x0''':Int) (x1:Int) (x1':Int) (x1'':Int):runPure (kl162_0_1 Proofs.Tryz.prog).orc Proofs.Tryz.prog 400 47 as47 rs47 (((x0_,x0_',()),x0',x0'',x0''',()),(x1,x1',x1'',()),()) [tt,tt] =
    (let r0:=g118 (((x0_,(x0_',())),(x0',(x0'',(x0''',())))),((x1,(x1',(x1'',()))),())); some ((([]:List Int),(r0.2.1,())),[(!eqF r0.2.1 0,true),(Option.isSome (f118 (((x0_,(x0_',())),(x0',(x0'',(x0''',())))),((x1,(x1',(x1'',()))),()))),true)])):=by kernel_rfl
theorem e47_1 (x0_:Int) (x0_':Int) (x0':Int) (x0'':Int) (x0''':Int) (x1:Int) (x1':Int) (x1'':Int):runPure (kl162_0_1 Proofs.Tryz.prog).orc Proofs.Tryz.prog 400 47 as47 rs47 (((x0_,x0_',()),x0',x0'',x0''',()),(x1,x1',x1'',()),()) [tt,ff,tt,tt,tt,tt] =
    (let r0:=g118 (((x0_,(x0_',())),(x0',(x0'',(x0''',())))),((x1,(x1',(x1'',()))),()));let r1:=b162_0_1 (((Go.IntKind.wrap Go.IntKind.i64 ((0:Int) - r0.1.1.2.2.1):Int),()),((),((r0.1.1.1.1,(r0.1.1.1.2.1,(r0.1.1.2.1,(r0.1.1.2.2.1,(r0.1.1.2.2.2.1,()))))),((x1,(x1',(x1'',()))),((r0.1.1.1.1,(r0.1.1.1.2.1,(r0.1.1.2.1,(r0.1.1.2.2.1,(r0.1.1.2.2.2.1,()))))),((([]:List Int),()),())))))); some ((r1.2.2.2.2.2.1.1,((0:Int),())),[(true,true),(qc2 (l162_0_1 (((Go.IntKind.wrap Go.IntKind.i64 ((0:Int) - r0.1.1.2.2.1):Int),()),((),((r0.1.1.1.1,(r0.1.1.1.2.1,(r0.1.1.2.1,(r0.1.1.2.2.1,(r0.1.1.2.2.2.1,()))))),((x1,(x1',(x1'',()))),((r0.1.1.1.1,(r0.1.1.1.2.1,(r0.1.1.2.1,(r0.1.1.2.2.1,(r0.1.1.2.2.2.1,()))))),((([]:List Int),()),()))))))),true),(qcM Proofs.Tryz.prog (nat_lit 47) (nat_lit 0),true),(true,true),(!eqF r0.2.1 0,false),(Option.isSome (f118 (((x0_,(x0_',())),(x0',(x0'',(x0''',())))),((x1,(x1',(x1'',()))),()))),true)])):=by kernel_rfl
theorem ok47_t (x0_:Int) (x0_':Int) (x0':Int) (x0'':Int) (x0''':Int) (x1:Int) (x1':Int) (x1'':Int):TrOk (PureRuns Proofs.Tryz.prog (kl162_0_1 Proofs.Tryz.prog).orc 47 as47 rs47 (((x0_,x0_',()),x0',x0'',x0''',()),(x1,x1',x1'',()),())) (t47 x0_ x0_' x0' x0'' x0''' x1 x1' x1'') :=
  TrOk.ofTest (fun h0=>TrOk.ofTest (fun h1=>TrOk.ofFin (PureRuns.of (e47_0 x0_ x0_' x0' x0'' x0''' x1 x1' x1'') (ac h1 (ac h0 All.nil)))) (fun h1=>TrOk.ofTest (fun h4=>TrOk.ofFin (PureRuns.of (e47_1 x0_ x0_' x0' x0'' x0''' x1 x1' x1'') (ac rfl (ac h4 (ac (sc47_0) (ac rfl (ac h1 (ac h0 All.nil)))))))) (fun h4=>TrOk.ofStop))) (fun h0=>TrOk.ofStop)
theorem ok47:PureOk Proofs.Tryz.prog 47 p47:=qag kl162_0_1_ok.base (T:=fun (d:Tys.data as47)=>t47 d.1.1.1 d.1.1.2.1 d.1.2.1 d.1.2.2.1 d.1.2.2.2.1 d.2.1.1 d.2.1.2.1 d.2.1.2.2.1) (by kernel_rfl) (fun (d:Tys.data as47)=>ok47_t d.1.1.1 d.1.1.2.1 d.1.2.1 d.1.2.2.1 d.1.2.2.2.1 d.2.1.1 d.2.1.2.1 d.2.1.2.2.1)
def kf47 (P:Go.Program):Known:=(kl162_0_1 P).func 47 p47
theorem kf47_ok:KnownOk Proofs.Tryz.prog (kf47 Proofs.Tryz.prog):=kl162_0_1_ok.func ok47
abbrev sh51_0:Sh:={ n:=18,slots:=[0,1,5],pats:=[.ty (.slice (.int .i64)),.ty (.int .i64),.ty (.int .i64)],boxes:=[] }
abbrev shb51_0:Sh:={ n:=18,slots:=[],pats:=[],boxes:=[] }
abbrev shr51_0:Sh:={ n:=18,slots:=[4],pats:=[.ty .bool],boxes:=[] }
def t51_0 (x0:(List Int)) (x1:Int) (x2:Int):Tr (Out sh51_0.data shb51_0.data shr51_0.data) :=
  Tr.test ((!leF (↑(List.length x0):Int) x2:Bool))
    (Tr.test (decide ((0:Int) ≤ x2) && decide (x2 < (↑(List.length x0):Int)))
      (Tr.test ((eqF (List.getD x0 (Int.toNat x2) (0:Int)) x1:Bool))
        (Tr.fin (.ret (((true:Bool),()),())))
        (Tr.fin (.again ((x0,(x1,((wrap64 (x2 + (1:Int)):Int),()))),()))))
      (Tr.stop))
    (Tr.fin (.brk ((),())))
def s51_0 (d:sh51_0.data):Option (Out sh51_0.data shb51_0.data shr51_0.data):=(t51_0 d.1.1 d.1.2.1 d.1.2.2.1).val
def l51_0 (d:sh51_0.data):Option (shb51_0.data ⊕ shr51_0.data):=itr s51_0 rounds d
def b51_0 (d:sh51_0.data):shb51_0.data:=outB shb51_0.dflt (l51_0 d)
def r51_0 (d:sh51_0.data):shr51_0.data:=outR shr51_0.dflt (l51_0 d)
def lc51_0:LoopC:=lcOf sh51_0 shb51_0 shr51_0 l51_0 b51_0 r51_0
theorem wk51_0 (x0:(List Int)) (x1:Int) (x2:Int):Walks (qap (kf47 Proofs.Tryz.prog).orc Proofs.Tryz.prog 400 51 0 sh51_0 shb51_0 shr51_0 ((x0,x1,x2,()),())) (t51_0 x0 x1 x2) [(bl 3 7,[2,4,6]),(bl 3 3,[2,4,6]),(bl 1 0,[2])] :=
  ⟨by kernel_rfl,by kernel_rfl,by kernel_rfl,trivial⟩
theorem ok51_0_t (x0:(List Int)) (x1:Int) (x2:Int):TrOk (BodyRuns Proofs.Tryz.prog (kf47 Proofs.Tryz.prog).orc 51 0 sh51_0 shb51_0 shr51_0 ((x0,x1,x2,()),())) (t51_0 x0 x1 x2) :=
  Walks.ok (fun _ _ _=>BodyRuns.of) (wk51_0 x0 x1 x2) (by kernel_rfl)
theorem ok51_0:qba Proofs.Tryz.prog 51 0 lc51_0:=qca (sh:=sh51_0) (shB:=shb51_0) (shR:=shr51_0) kf47_ok.base (T:=fun (d:sh51_0.data)=>t51_0 d.1.1 d.1.2.1 d.1.2.2.1) (by kernel_rfl) rfl (fun (d:sh51_0.data)=>ok51_0_t d.1.1 d.1.2.1 d.1.2.2.1) (fun _=>rfl)
def kl51_0 (P:Go.Program):Known:=(kf47 P).loop 51 0 lc51_0
theorem kl51_0_ok:KnownOk Proofs.Tryz.prog (kl51_0 Proofs.Tryz.prog):=kf47_ok.loop ok51_0
abbrev as51:List Ty:=[(.slice (.int .i64)),(.int .i64)]
abbrev rs51:List Ty:=[.bool]
def t51 (x0:(List Int)) (x1:Int):Tr (Tys.data rs51) :=
  Tr.test (Option.isSome (l51_0 ((x0,(x1,((0:Int),()))),())))
    (Tr.test (qbT (l51_0 ((x0,(x1,((0:Int),()))),())))
      (let r0:=r51_0 ((x0,(x1,((0:Int),()))),());
      Tr.fin ((r0.1.1,())))
      (Tr.fin (((false:Bool),()))))
    (Tr.stop)
def f51 (d:Tys.data as51):Option (Tys.data rs51):=(t51 d.1 d.2.1).val
def g51 (d:Tys.data as51):Tys.data rs51:=(f51 d).getD (Tys.dflt rs51)
def p51:PureC:=pcOf as51 rs51 f51 g51
theorem wk51 (x0:(List Int)) (x1:Int):Walks (runPure (kl51_0 Proofs.Tryz.prog).orc Proofs.Tryz.prog 400 51 as51 rs51 (x0,x1,())) (t51 x0 x1) [(bl 2 3,[2,4]),(bl 2 1,[2,4])] :=
  ⟨by kernel_rfl,by kernel_rfl,trivial⟩
theorem ok51_t (x0:(List Int)) (x1:Int):TrOk (PureRuns Proofs.Tryz.prog (kl51_0 Proofs.Tryz.prog).orc 51 as51 rs51 (x0,x1,())) (t51 x0 x1) :=
  Walks.ok (fun _ _ _=>PureRuns.of) (wk51 x0 x1) (by kernel_rfl)
theorem ok51:PureOk Proofs.Tryz.prog 51 p51:=qag kl51_0_ok.base (T:=fun (d:Tys.data as51)=>t51 d.1 d.2.1) (by kernel_rfl) (fun (d:Tys.data as51)=>ok51_t d.1 d.2.1)
def kf51 (P:Go.Program):Known:=(kl51_0 P).func 51 p51
theorem kf51_ok:KnownOk Proofs.Tryz.prog (kf51 Proofs.Tryz.prog):=kl51_0_ok.func ok51
abbrev sh9_0:Sh:={ n:=280,slots:=[3,4,7,13,14],pats:=[.ptr 0 5 0,.ptr 1 3 0,.ty (.slice (.int .i64)),.ptr 2 3 0,.ty (.int .i64)],boxes:=[.row [.ty (.int .i64),.ty (.int .i64),.ty (.int .i64),.ty (.int .i64),.ty (.int .i64)],.row [.ty (.int .i64),.ty (.int .i64),.ty (.int .i64)],.row [.ty (.int .i64),.ty (.int .i64),.ty (.int .i64)]] }
abbrev shb9_0:Sh:={ n:=280,slots:=[3,4,7,13],pats:=[.ptr 0 5 0,.ptr 1 3 0,.ty (.slice (.int .i64)),.ptr 2 3 0],boxes:=[.row [.ty (.int .i64),.ty (.int .i64),.ty (.int .i64),.ty (.int .i64),.ty (.int .i64)],.row [.ty (.int .i64),.ty (.int .i64),.ty (.int .i64)],.row [.ty (.int .i64),.ty (.int .i64),.ty (.int .i64)]] }
abbrev shr9_0:Sh:={ n:=280,slots:=[6],pats:=[.ty .bool],boxes:=[.row [.ty (.int .i64),.ty (.int .i64),.ty (.int .i64),.ty (.int .i64),.ty (.int .i64)],.row [.ty (.int .i64),.ty (.int .i64),.ty (.int .i64)],.row [.ty (.int .i64),.ty (.int .i64),.ty (.int .i64)]] }
def t9_0 (x2:(List Int)) (x4:Int) (b0_0:Int) (b0_1:Int) (b0_2:Int) (b0_3:Int) (b0_4:Int) (b1_0:Int) (b1_1:Int) (b1_2:Int) (b2_0:Int) (b2_1:Int) (b2_2:Int):Tr (Out sh9_0.data shb9_0.data shr9_0.data) :=
  Tr.test ((!leF (↑(List.length x2):Int) x4:Bool))
    (Tr.test (decide ((0:Int) ≤ x4) && decide (x4 < (↑(List.length x2):Int)))
      (Tr.test (Option.isSome (f50 (((b0_0,(b0_1,())),(b0_2,(b0_3,(b0_4,())))),((b2_0,(b2_1,(b2_2,()))),((List.getD x2 (Int.toNat x4) (0:Int):Int),())))))
        (let r0:=g50 (((b0_0,(b0_1,())),(b0_2,(b0_3,(b0_4,())))),((b2_0,(b2_1,(b2_2,()))),((List.getD x2 (Int.toNat x4) (0:Int):Int),())));
        Tr.test ((!r0.2.1:Bool))
          (Tr.fin (.ret (((false:Bool),()),((b0_0,(b0_1,(b0_2,(b0_3,(b0_4,()))))),((b1_0,(b1_1,(b1_2,()))),((b2_0,(b2_1,(b2_2,()))),()))))))
          (Tr.test ((leF (3:Int) x4:Bool))
            (Tr.fin (.again ((x2,((wrap64 (x4 + (1:Int)):Int),())),((b0_0,(b0_1,(b0_2,(b0_3,(b0_4,()))))),((b1_0,(b1_1,(b1_2,()))),((r0.1.1,(r0.1.2.1,(r0.1.2.2.1,()))),()))))))
            (Tr.test (Option.isSome (f40 (((b0_0,(b0_1,())),(b0_2,(b0_3,(b0_4,())))),((r0.1.1,(r0.1.2.1,(r0.1.2.2.1,()))),()))))
              (let r1:=g40 (((b0_0,(b0_1,())),(b0_2,(b0_3,(b0_4,())))),((r0.1.1,(r0.1.2.1,(r0.1.2.2.1,()))),()));
              Tr.test ((!eqF r1.2.1 0:Bool))
                (Tr.fin (.ret (((false:Bool),()),((b0_0,(b0_1,(b0_2,(b0_3,(b0_4,()))))),((b1_0,(b1_1,(b1_2,()))),((r0.1.1,(r0.1.2.1,(r0.1.2.2.1,()))),()))))))
                (Tr.test ((!eqF (↑(List.length r1.1):Int) (wrap64 (wrap64 ((↑(List.length x2):Int) - x4) - (1:Int))):Bool))
                  (Tr.fin (.ret (((false:Bool),()),((b0_0,(b0_1,(b0_2,(b0_3,(b0_4,()))))),((b1_0,(b1_1,(b1_2,()))),((r0.1.1,(r0.1.2.1,(r0.1.2.2.1,()))),()))))))
                  (Tr.fin (.again ((x2,((wrap64 (x4 + (1:Int)):Int),())),((b0_0,(b0_1,(b0_2,(b0_3,(b0_4,()))))),((b1_0,(b1_1,(b1_2,()))),((r0.1.1,(r0.1.2.1,(r0.1.2.2.1,()))),()))))))))
              (Tr.stop))))
        (Tr.stop))
      (Tr.stop))
    (Tr.fin (.brk ((x2,()),((b0_0,(b0_1,(b0_2,(b0_3,(b0_4,()))))),((b1_0,(b1_1,(b1_2,()))),((b2_0,(b2_1,(b2_2,()))),()))))))
def s9_0 (d:sh9_0.data):Option (Out sh9_0.data shb9_0.data shr9_0.data):=(t9_0 d.1.1 d.1.2.1 d.2.1.1 d.2.1.2.1 d.2.1.2.2.1 d.2.1.2.2.2.1 d.2.1.2.2.2.2.1 d.2.2.1.1 d.2.2.1.2.1 d.2.2.1.2.2.1 d.2.2.2.1.1 d.2.2.2.1.2.1 d.2.2.2.1.2.2.1).val
def l9_0 (d:sh9_0.data):Option (shb9_0.data ⊕ shr9_0.data):=itr s9_0 rounds d
def b9_0 (d:sh9_0.data):shb9_0.data:=outB shb9_0.dflt (l9_0 d)
def r9_0 (d:sh9_0.data):shr9_0.data:=outR shr9_0.dflt (l9_0 d)
def lc9_0:LoopC:=lcOf sh9_0 shb9_0 shr9_0 l9_0 b9_0 r9_0
theorem wk9_0 (x2:(List Int)) (x4:Int) (b0_0:Int) (b0_1:Int) (b0_2:Int) (b0_3:Int) (b0_4:Int) (b1_0:Int) (b1_1:Int) (b1_2:Int) (b2_0:Int) (b2_1:Int) (b2_2:Int):Walks (qap (kf51 Proofs.Tryz.prog).orc Proofs.Tryz.prog 400 9 0 sh9_0 shb9_0 shr9_0 ((x2,x4,()),(b0_0,b0_1,b0_2,b0_3,b0_4,()),(b1_0,b1_1,b1_2,()),(b2_0,b2_1,b2_2,()),())) (t9_0 x2 x4 b0_0 b0_1 b0_2 b0_3 b0_4 b1_0 b1_1 b1_2 b2_0 b2_1 b2_2) [(bl 4 15,[2,4,6,8]),(bl 5 23,[2,4,6,8,10]),(bl 7 103,[1,2,2,2,2,2,2,2,2,2,4,6,8,10,12,14]),(bl 8 167,[2,4,4,4,4,4,4,4,4,4,6,8,10,12,14,16]),(bl 8 39,[2,4,4,4,4,4,4,4,4,4,6,8,10,12,14,16]),(bl 1 0,[2])] :=
  ⟨by kernel_rfl,by kernel_rfl,by kernel_rfl,by kernel_rfl,by kernel_rfl,by kernel_rfl,trivial⟩
theorem ok9_0_t (x2:(List Int)) (x4:Int) (b0_0:Int) (b0_1:Int) (b0_2:Int) (b0_3:Int) (b0_4:Int) (b1_0:Int) (b1_1:Int) (b1_2:Int) (b2_0:Int) (b2_1:Int) (b2_2:Int):TrOk (BodyRuns Proofs.Tryz.prog (kf51 Proofs.Tryz.prog).orc 9 0 sh9_0 shb9_0 shr9_0 ((x2,x4,()),(b0_0,b0_1,b0_2,b0_3,b0_4,()),(b1_0,b1_1,b1_2,()),(b2_0,b2_1,b2_2,()),())) (t9_0 x2 x4 b0_0 b0_1 b0_2 b0_3 b0_4 b1_0 b1_1 b1_2 b2_0 b2_1 b2_2) :=
  Walks.ok (fun _ _ _=>BodyRuns.of) (wk9_0 x2 x4 b0_0 b0_1 b0_2 b0_3 b0_4 b1_0 b1_1 b1_2 b2_0 b2_1 b2_2) (by kernel_rfl)
theorem ok9_0:qba Proofs.Tryz.prog 9 0 lc9_0:=qca (sh:=sh9_0) (shB:=shb9_0) (shR:=shr9_0) kf51_ok.base (T:=fun (d:sh9_0.data)=>t9_0 d.1.1 d.1.2.1 d.2.1.1 d.2.1.2.1 d.2.1.2.2.1 d.2.1.2.2.2.1 d.2.1.2.2.2.2.1 d.2.2.1.1 d.2.2.1.2.1 d.2.2.1.2.2.1 d.2.2.2.1.1 d.2.2.2.1.2.1 d.2.2.2.1.2.2.1) (by kernel_rfl) rfl (fun (d:sh9_0.data)=>ok9_0_t d.1.1 d.1.2.1 d.2.1.1 d.2.1.2.1 d.2.1.2.2.1 d.2.1.2.2.2.1 d.2.1.2.2.2.2.1 d.2.2.1.1 d.2.2.1.2.1 d.2.2.1.2.2.1 d.2.2.2.1.1 d.2.2.2.1.2.1 d.2.2.2.1.2.2.1) (fun _=>rfl)
def kl9_0 (P:Go.Program):Known:=(kf51 P).loop 9 0 lc9_0
theorem kl9_0_ok:KnownOk Proofs.Tryz.prog (kl9_0 Proofs.Tryz.prog):=kf51_ok.loop ok9_0
abbrev sh9_2:Sh:={ n:=280,slots:=[3,4,24,26],pats:=[.ptr 0 5 0,.ptr 1 3 0,.ty (.slice (.int .i64)),.ty (.int .i64)],boxes:=[.row [.ty (.int .i64),.ty (.int .i64),.ty (.int .i64),.ty (.int .i64),.ty (.int .i64)],.row [.ty (.int .i64),.ty (.int .i64),.ty (.int .i64)]] }
abbrev shb9_2:Sh:={ n:=280,slots:=[],pats:=[],boxes:=[.row [.ty (.int .i64),.ty (.int .i64),.ty (.int .i64),.ty (.int .i64),.ty (.int .i64)],.row [.ty (.int .i64),.ty (.int .i64),.ty (.int .i64)]] }
abbrev shr9_2:Sh:={ n:=280,slots:=[6],pats:=[.ty .bool],boxes:=[.row [.ty (.int .i64),.ty (.int .i64),.ty (.int .i64),.ty (.int .i64),.ty (.int .i64)],.row [.ty (.int .i64),.ty (.int .i64),.ty (.int .i64)]] }
def t9_2 (x2:(List Int)) (x3:Int) (b0_0:Int) (b0_1:Int) (b0_2:Int) (b0_3:Int) (b0_4:Int) (b1_0:Int) (b1_1:Int) (b1_2:Int):Tr (Out sh9_2.data shb9_2.data shr9_2.data) :=
  Tr.test ((!leF (↑(List.length x2):Int) x3:Bool))
    (Tr.test (decide ((0:Int) ≤ x3) && decide (x3 < (↑(List.length x2):Int)))
      (Tr.test (Option.isSome (f50 (((b0_0,(b0_1,())),(b0_2,(b0_3,(b0_4,())))),((b1_0,(b1_1,(b1_2,()))),((List.getD x2 (Int.toNat x3) (0:Int):Int),())))))
        (let r0:=g50 (((b0_0,(b0_1,())),(b0_2,(b0_3,(b0_4,())))),((b1_0,(b1_1,(b1_2,()))),((List.getD x2 (Int.toNat x3) (0:Int):Int),())));
        Tr.test ((!r0.2.1:Bool))
          (Tr.fin (.ret (((false:Bool),()),((b0_0,(b0_1,(b0_2,(b0_3,(b0_4,()))))),((b1_0,(b1_1,(b1_2,()))),())))))
          (Tr.test ((!leF x3 0:Bool))
            (Tr.test ((decide ((0:Int) ≤ wrap64 (x3 - (1:Int))) && decide (wrap64 (x3 - (1:Int)) < (↑(List.length x2):Int)):Bool))
              (Tr.test ((leF (List.getD x2 (Int.toNat x3) (0:Int)) (List.getD x2 (Int.toNat (wrap64 (x3 - (1:Int)))) (0:Int)):Bool))
                (Tr.fin (.ret (((false:Bool),()),((b0_0,(b0_1,(b0_2,(b0_3,(b0_4,()))))),((b1_0,(b1_1,(b1_2,()))),())))))
                (Tr.test (Option.isSome (f41 (((b0_0,(b0_1,())),(b0_2,(b0_3,(b0_4,())))),((r0.1.1,(r0.1.2.1,(r0.1.2.2.1,()))),()))))
                  (let r1:=g41 (((b0_0,(b0_1,())),(b0_2,(b0_3,(b0_4,())))),((r0.1.1,(r0.1.2.1,(r0.1.2.2.1,()))),()));
                  Tr.test ((!eqF r1.2.1 0:Bool))
                    (Tr.fin (.ret (((false:Bool),()),((b0_0,(b0_1,(b0_2,(b0_3,(b0_4,()))))),((b1_0,(b1_1,(b1_2,()))),())))))
                    (Tr.test ((!r1.1:Bool))
                      (Tr.fin (.ret (((false:Bool),()),((b0_0,(b0_1,(b0_2,(b0_3,(b0_4,()))))),((b1_0,(b1_1,(b1_2,()))),())))))
                      (Tr.fin (.again ((x2,((wrap64 (x3 + (1:Int)):Int),())),((b0_0,(b0_1,(b0_2,(b0_3,(b0_4,()))))),((b1_0,(b1_1,(b1_2,()))),())))))))
                  (Tr.stop)))
              (Tr.stop))
            (Tr.test (Option.isSome (f41 (((b0_0,(b0_1,())),(b0_2,(b0_3,(b0_4,())))),((r0.1.1,(r0.1.2.1,(r0.1.2.2.1,()))),()))))
              (let r1:=g41 (((b0_0,(b0_1,())),(b0_2,(b0_3,(b0_4,())))),((r0.1.1,(r0.1.2.1,(r0.1.2.2.1,()))),()));
              Tr.test ((!eqF r1.2.1 0:Bool))
                (Tr.fin (.ret (((false:Bool),()),((b0_0,(b0_1,(b0_2,(b0_3,(b0_4,()))))),((b1_0,(b1_1,(b1_2,()))),())))))
                (Tr.test ((!r1.1:Bool))
                  (Tr.fin (.ret (((false:Bool),()),((b0_0,(b0_1,(b0_2,(b0_3,(b0_4,()))))),((b1_0,(b1_1,(b1_2,()))),())))))
                  (Tr.fin (.again ((x2,((wrap64 (x3 + (1:Int)):Int),())),((b0_0,(b0_1,(b0_2,(b0_3,(b0_4,()))))),((b1_0,(b1_1,(b1_2,()))),())))))))
              (Tr.stop))))
        (Tr.stop))
      (Tr.stop))
    (Tr.fin (.brk ((),((b0_0,(b0_1,(b0_2,(b0_3,(b0_4,()))))),((b1_0,(b1_1,(b1_2,()))),())))))
def s9_2 (d:sh9_2.data):Option (Out sh9_2.data shb9_2.data shr9_2.data):=(t9_2 d.1.1 d.1.2.1 d.2.1.1 d.2.1.2.1 d.2.1.2.2.1 d.2.1.2.2.2.1 d.2.1.2.2.2.2.1 d.2.2.1.1 d.2.2.1.2.1 d.2.2.1.2.2.1).val
def l9_2 (d:sh9_2.data):Option (shb9_2.data ⊕ shr9_2.data):=itr s9_2 rounds d
def b9_2 (d:sh9_2.data):shb9_2.data:=outB shb9_2.dflt (l9_2 d)
def r9_2 (d:sh9_2.data):shr9_2.data:=outR shr9_2.dflt (l9_2 d)
def lc9_2:LoopC:=lcOf sh9_2 shb9_2 shr9_2 l9_2 b9_2 r9_2
theorem wk9_2 (x2:(List Int)) (x3:Int) (b0_0:Int) (b0_1:Int) (b0_2:Int) (b0_3:Int) (b0_4:Int) (b1_0:Int) (b1_1:Int) (b1_2:Int):Walks (qap (kl9_0 Proofs.Tryz.prog).orc Proofs.Tryz.prog 400 9 2 sh9_2 shb9_2 shr9_2 ((x2,x3,()),(b0_0,b0_1,b0_2,b0_3,b0_4,()),(b1_0,b1_1,b1_2,()),())) (t9_2 x2 x3 b0_0 b0_1 b0_2 b0_3 b0_4 b1_0 b1_1 b1_2) [(bl 4 15,[1,2,2,2,2,2,4,6,8]),(bl 7 119,[2,8,6,8,6,6,4,6,6,6,6,6,12,6,6,6,8,8,8,10,12,14]),(bl 9 439,[1,2,2,2,4,6,12,10,12,10,10,8,10,10,10,10,10,16,10,10,10,12,12,12,14,16,18]),(bl 10 695,[2,4,4,4,6,8,14,12,14,12,12,10,12,12,12,12,12,18,12,12,12,14,14,14,16,18,20]),(bl 10 183,[2,4,4,4,6,8,14,12,14,12,12,10,12,12,12,12,12,18,12,12,12,14,14,14,16,18,20]),(bl 7 103,[1,2,2,2,4,0,8,6,8,6,6,6,6,6,6,6,6,6,6,8,8,8,10,12,14]),(bl 8 167,[2,4,4,4,6,0,10,8,10,8,8,8,8,8,8,8,8,8,8,10,10,10,12,14,16]),(bl 8 39,[2,4,4,4,6,0,10,8,10,8,8,8,8,8,8,8,8,8,8,10,10,10,12,14,16]),(bl 1 0,[2])] :=
  ⟨by kernel_rfl,by kernel_rfl,by kernel_rfl,by kernel_rfl,by kernel_rfl,by kernel_rfl,by kernel_rfl,by kernel_rfl,by kernel_rfl,trivial⟩
theorem ok9_2_t (x2:(List Int)) (x3:Int) (b0_0:Int) (b0_1:Int) (b0_2:Int) (b0_3:Int) (b0_4:Int) (b1_0:Int) (b1_1:Int) (b1_2:Int):TrOk (BodyRuns Proofs.Tryz.prog (kl9_0 Proofs.Tryz.prog).orc 9 2 sh9_2 shb9_2 shr9_2 ((x2,x3,()),(b0_0,b0_1,b0_2,b0_3,b0_4,()),(b1_0,b1_1,b1_2,()),())) (t9_2 x2 x3 b0_0 b0_1 b0_2 b0_3 b0_4 b1_0 b1_1 b1_2) :=
  Walks.ok (fun _ _ _=>BodyRuns.of) (wk9_2 x2 x3 b0_0 b0_1 b0_2 b0_3 b0_4 b1_0 b1_1 b1_2) (by kernel_rfl)
theorem ok9_2:qba Proofs.Tryz.prog 9 2 lc9_2:=qca (sh:=sh9_2) (shB:=shb9_2) (shR:=shr9_2) kl9_0_ok.base (T:=fun (d:sh9_2.data)=>t9_2 d.1.1 d.1.2.1 d.2.1.1 d.2.1.2.1 d.2.1.2.2.1 d.2.1.2.2.2.1 d.2.1.2.2.2.2.1 d.2.2.1.1 d.2.2.1.2.1 d.2.2.1.2.2.1) (by kernel_rfl) rfl (fun (d:sh9_2.data)=>ok9_2_t d.1.1 d.1.2.1 d.2.1.1 d.2.1.2.1 d.2.1.2.2.1 d.2.1.2.2.2.1 d.2.1.2.2.2.2.1 d.2.2.1.1 d.2.2.1.2.1 d.2.2.1.2.2.1) (fun _=>rfl)
def kl9_2 (P:Go.Program):Known:=(kl9_0 P).loop 9 2 lc9_2
theorem kl9_2_ok:KnownOk Proofs.Tryz.prog (kl9_2 Proofs.Tryz.prog):=kl9_0_ok.loop ok9_2
abbrev as9:List Ty:=[(.pair (.pair (.int .i64) (.pair (.int .i64) .unit)) (.pair (.int .i64) (.pair (.int .i64) (.pair (.int .i64) .unit)))),(.pair (.int .i64) (.pair (.int .i64) (.pair (.int .i64) .unit))),(.slice (.int .i64))]
abbrev rs9:List Ty:=[.bool]
def t9 (x0_:Int) (x0_':Int) (x0':Int) (x0'':Int) (x0''':Int) (x1:Int) (x1':Int) (x1'':Int) (x2:(List Int)):Tr (Tys.data rs9) :=
  Tr.test (Option.isSome (f44 (((x0_,(x0_',())),(x0',(x0'',(x0''',())))),((x1,(x1',(x1'',()))),()))))
    (let r0:=g44 (((x0_,(x0_',())),(x0',(x0'',(x0''',())))),((x1,(x1',(x1'',()))),()));
    Tr.test ((!eqF r0.1 0:Bool))
      (Tr.fin (((true:Bool),())))
      (Tr.test ((!leF (wrap64 (x0_' - x0_)) (40:Int):Bool))
        (Tr.fin (((true:Bool),())))
        (Tr.test ((!leF (↑(List.length x2):Int) (100:Int):Bool))
          (Tr.fin (((true:Bool),())))
          (Tr.test (Option.isSome (f40 (((x0_,(x0_',())),(x0',(x0'',(x0''',())))),((x1,(x1',(x1'',()))),()))))
            (Tr.test (Option.isSome (f41 (((x0_,(x0_',())),(x0',(x0'',(x0''',())))),((x1,(x1',(x1'',()))),()))))
              (Tr.test (Option.isSome (f35 (x2,())))
                (let r3:=g35 (x2,());
                Tr.test (Option.isSome (f42 (((x0_,(x0_',())),(x0',(x0'',(x0''',())))),((x1,(x1',(x1'',()))),(r3.1,())))))
                  (let r2:=g41 (((x0_,(x0_',())),(x0',(x0'',(x0''',())))),((x1,(x1',(x1'',()))),()));
                  Tr.test ((!eqF r2.2.1 0:Bool))
                    (Tr.fin (((false:Bool),())))
                    (let r1:=g40 (((x0_,(x0_',())),(x0',(x0'',(x0''',())))),((x1,(x1',(x1'',()))),()));
                    Tr.test ((!r2.1 == eqF r1.2.1 0:Bool))
                      (Tr.fin (((false:Bool),())))
                      (Tr.test ((!eqF r1.2.1 0:Bool))
                        (Tr.test ((eqF r1.2.1 12:Bool))
                          (let r4:=g42 (((x0_,(x0_',())),(x0',(x0'',(x0''',())))),((x1,(x1',(x1'',()))),(r3.1,())));
                          Tr.fin (((!eqF r4.2.1 0:Bool),())))
                          (Tr.fin (((false:Bool),()))))
                        (let r4:=g42 (((x0_,(x0_',())),(x0',(x0'',(x0''',())))),((x1,(x1',(x1'',()))),(r3.1,())));
                        Tr.test ((eqF r4.2.1 0:Bool))
                          (Tr.test ((!leF (↑(List.length r1.1):Int) (↑(List.length x2):Int):Bool))
                            (Tr.fin (((false:Bool),())))
                            (Tr.test ((!leF (↑(List.length r1.1):Int) (20000:Int):Bool))
                              (Tr.fin (((false:Bool),())))
                              (Tr.test (Option.isSome (f49 ((x1,(x1',(x1'',()))),())))
                                (let r5:=g49 ((x1,(x1',(x1'',()))),());
                                Tr.test ((!eqF (↑(List.length r1.1):Int) (0:Int) == r5.1:Bool))
                                  (Tr.fin (((false:Bool),())))
                                  (Tr.test (Option.isSome (l9_0 ((r1.1,((0:Int),())),((x0_,(x0_',(x0',(x0'',(x0''',()))))),((x1,(x1',(x1'',()))),((x1,(x1',(x1'',()))),()))))))
                                    (Tr.test (qbT (l9_0 ((r1.1,((0:Int),())),((x0_,(x0_',(x0',(x0'',(x0''',()))))),((x1,(x1',(x1'',()))),((x1,(x1',(x1'',()))),()))))))
                                      (let r6:=r9_0 ((r1.1,((0:Int),())),((x0_,(x0_',(x0',(x0'',(x0''',()))))),((x1,(x1',(x1'',()))),((x1,(x1',(x1'',()))),()))));
                                      Tr.fin ((r6.1.1,())))
                                      (let r7:=b9_0 ((r1.1,((0:Int),())),((x0_,(x0_',(x0',(x0'',(x0''',()))))),((x1,(x1',(x1'',()))),((x1,(x1',(x1'',()))),()))));
                                      Tr.test (Option.isSome (f49 ((r7.2.2.2.1.1,(r7.2.2.2.1.2.1,(r7.2.2.2.1.2.2.1,()))),())))
                                        (let r8:=g49 ((r7.2.2.2.1.1,(r7.2.2.2.1.2.1,(r7.2.2.2.1.2.2.1,()))),());
                                        Tr.test ((!r8.1:Bool))
                                          (Tr.fin (((false:Bool),())))
                                          (Tr.test ((leF (↑(List.length r7.1.1):Int) (100:Int):Bool))
                                            (Tr.test (Option.isSome (f35 (r7.1.1,())))
                                              (let r9:=g35 (r7.1.1,());
                                              Tr.test (Option.isSome (f42 (((r7.2.1.1,(r7.2.1.2.1,())),(r7.2.1.2.2.1,(r7.2.1.2.2.2.1,(r7.2.1.2.2.2.2.1,())))),((r7.2.2.1.1,(r7.2.2.1.2.1,(r7.2.2.1.2.2.1,()))),(r9.1,())))))
                                                (let r10:=g42 (((r7.2.1.1,(r7.2.1.2.1,())),(r7.2.1.2.2.1,(r7.2.1.2.2.2.1,(r7.2.1.2.2.2.2.1,())))),((r7.2.2.1.1,(r7.2.2.1.2.1,(r7.2.2.1.2.2.1,()))),(r9.1,())));
                                                Tr.test ((!eqF r10.2.1 0:Bool))
                                                  (Tr.fin (((false:Bool),())))
                                                  (Tr.test ((!eqF r10.1 r7.2.2.2.1.1:Bool))
                                                    (Tr.fin (((false:Bool),())))
                                                    (Tr.test (Option.isSome (f40 ((((if (-60:Int) < wrap64 (r7.2.1.1 - (2:Int)) then wrap64 (r7.2.1.1 - (2:Int)) else (-60:Int):Int),((if wrap64 (r7.2.1.2.1 + (2:Int)) < (60:Int) then wrap64 (r7.2.1.2.1 + (2:Int)) else (60:Int):Int),())),((if wrap64 (r7.2.1.2.2.1 + (1:Int)) < (8:Int) then wrap64 (r7.2.1.2.2.1 + (1:Int)) else (8:Int):Int),((if wrap64 (r7.2.1.2.2.2.1 + (1:Int)) < (3:Int) then wrap64 (r7.2.1.2.2.2.1 + (1:Int)) else (3:Int):Int),((if wrap64 (r7.2.1.2.2.2.2.1 + (1:Int)) < (6:Int) then wrap64 (r7.2.1.2.2.2.2.1 + (1:Int)) else (6:Int):Int),())))),((r7.2.2.1.1,(r7.2.2.1.2.1,(r7.2.2.1.2.2.1,()))),()))))
                                                      (Tr.test (Option.isSome (f47 (((r7.2.1.1,(r7.2.1.2.1,())),(r7.2.1.2.2.1,(r7.2.1.2.2.2.1,(r7.2.1.2.2.2.2.1,())))),((r7.2.2.1.1,(r7.2.2.1.2.1,(r7.2.2.1.2.2.1,()))),()))))
                                                        (let r11:=g40 ((((if (-60:Int) < wrap64 (r7.2.1.1 - (2:Int)) then wrap64 (r7.2.1.1 - (2:Int)) else (-60:Int):Int),((if wrap64 (r7.2.1.2.1 + (2:Int)) < (60:Int) then wrap64 (r7.2.1.2.1 + (2:Int)) else (60:Int):Int),())),((if wrap64 (r7.2.1.2.2.1 + (1:Int)) < (8:Int) then wrap64 (r7.2.1.2.2.1 + (1:Int)) else (8:Int):Int),((if wrap64 (r7.2.1.2.2.2.1 + (1:Int)) < (3:Int) then wrap64 (r7.2.1.2.2.2.1 + (1:Int)) else (3:Int):Int),((if wrap64 (r7.2.1.2.2.2.2.1 + (1:Int)) < (6:Int) then wrap64 (r7.2.1.2.2.2.2.1 + (1:Int)) else (6:Int):Int),())))),((r7.2.2.1.1,(r7.2.2.1.2.1,(r7.2.2.1.2.2.1,()))),()));
                                                        Tr.test ((!eqF r11.2.1 0:Bool))
                                                          (Tr.fin (((false:Bool),())))
                                                          (Tr.test ((!leF (↑(List.length r11.1):Int) (↑(List.length r7.1.1):Int):Bool))
                                                            (Tr.fin (((false:Bool),())))
                                                            (let r12:=g47 (((r7.2.1.1,(r7.2.1.2.1,())),(r7.2.1.2.2.1,(r7.2.1.2.2.2.1,(r7.2.1.2.2.2.2.1,())))),((r7.2.2.1.1,(r7.2.2.1.2.1,(r7.2.2.1.2.2.1,()))),()));
                                                            Tr.test ((!eqF r12.2.1 0:Bool))
                                                              (Tr.fin (((false:Bool),())))
                                                              (Tr.test ((!leF (↑(List.length r7.1.1):Int) (0:Int):Bool))
                                                                (Tr.test ((true && decide ((0:Int) < (↑(List.length r7.1.1):Int)):Bool))
                                                                  (Tr.test (Option.isSome (f51 (r12.1,((List.getD r7.1.1 (0:Nat) (0:Int):Int),()))))
                                                                    (let r13:=g51 (r12.1,((List.getD r7.1.1 (0:Nat) (0:Int):Int),()));
                                                                    Tr.test ((!r13.1:Bool))
                                                                      (Tr.fin (((false:Bool),())))
                                                                      (Tr.test (Option.isSome (l9_2 ((r12.1,((0:Int),())),((r7.2.1.1,(r7.2.1.2.1,(r7.2.1.2.2.1,(r7.2.1.2.2.2.1,(r7.2.1.2.2.2.2.1,()))))),((r7.2.2.1.1,(r7.2.2.1.2.1,(r7.2.2.1.2.2.1,()))),())))))
                                                                        (Tr.test (qbT (l9_2 ((r12.1,((0:Int),())),((r7.2.1.1,(r7.2.1.2.1,(r7.2.1.2.2.1,(r7.2.1.2.2.2.1,(r7.2.1.2.2.2.2.1,()))))),((r7.2.2.1.1,(r7.2.2.1.2.1,(r7.2.2.1.2.2.1,()))),())))))
                                                                          (let r14:=r9_2 ((r12.1,((0:Int),())),((r7.2.1.1,(r7.2.1.2.1,(r7.2.1.2.2.1,(r7.2.1.2.2.2.1,(r7.2.1.2.2.2.2.1,()))))),((r7.2.2.1.1,(r7.2.2.1.2.1,(r7.2.2.1.2.2.1,()))),())));
                                                                          Tr.fin ((r14.1.1,())))
                                                                          (Tr.fin (((true:Bool),()))))
                                                                        (Tr.stop)))
                                                                    (Tr.stop))
                                                                  (Tr.stop))
                                                                (Tr.test (Option.isSome (l9_2 ((r12.1,((0:Int),())),((r7.2.1.1,(r7.2.1.2.1,(r7.2.1.2.2.1,(r7.2.1.2.2.2.1,(r7.2.1.2.2.2.2.1,()))))),((r7.2.2.1.1,(r7.2.2.1.2.1,(r7.2.2.1.2.2.1,()))),())))))
                                                                  (Tr.test (qbT (l9_2 ((r12.1,((0:Int),())),((r7.2.1.1,(r7.2.1.2.1,(r7.2.1.2.2.1,(r7.2.1.2.2.2.1,(r7.2.1.2.2.2.2.1,()))))),((r7.2.2.1.1,(r7.2.2.1.2.1,(r7.2.2.1.2.2.1,()))),())))))
                                                                    (let r14:=r9_2 ((r12.1,((0:Int),())),((r7.2.1.1,(r7.2.1.2.1,(r7.2.1.2.2.1,(r7.2.1.2.2.2.1,(r7.2.1.2.2.2.2.1,()))))),((r7.2.2.1.1,(r7.2.2.1.2.1,(r7.2.2.1.2.2.1,()))),())));
                                                                    Tr.fin ((r14.1.1,())))
                                                                    (Tr.fin (((true:Bool),()))))
                                                                  (Tr.stop))))))
                                                        (Tr.stop))
                                                      (Tr.stop))))
                                                (Tr.stop))
                                              (Tr.stop))
                                            (Tr.test (Option.isSome (f40 ((((if (-60:Int) < wrap64 (r7.2.1.1 - (2:Int)) then wrap64 (r7.2.1.1 - (2:Int)) else (-60:Int):Int),((if wrap64 (r7.2.1.2.1 + (2:Int)) < (60:Int) then wrap64 (r7.2.1.2.1 + (2:Int)) else (60:Int):Int),())),((if wrap64 (r7.2.1.2.2.1 + (1:Int)) < (8:Int) then wrap64 (r7.2.1.2.2.1 + (1:Int)) else (8:Int):Int),((if wrap64 (r7.2.1.2.2.2.1 + (1:Int)) < (3:Int) then wrap64 (r7.2.1.2.2.2.1 + (1:Int)) else (3:Int):Int),((if wrap64 (r7.2.1.2.2.2.2.1 + (1:Int)) < (6:Int) then wrap64 (r7.2.1.2.2.2.2.1 + (1:Int)) else (6:Int):Int),())))),((r7.2.2.1.1,(r7.2.2.1.2.1,(r7.2.2.1.2.2.1,()))),()))))
                                              (Tr.test (Option.isSome (f47 (((r7.2.1.1,(r7.2.1.2.1,())),(r7.2.1.2.2.1,(r7.2.1.2.2.2.1,(r7.2.1.2.2.2.2.1,())))),((r7.2.2.1.1,(r7.2.2.1.2.1,(r7.2.2.1.2.2.1,()))),()))))
                                                (let r11:=g40 ((((if (-60:Int) < wrap64 (r7.2.1.1 - (2:Int)) then wrap64 (r7.2.1.1 - (2:Int)) else (-60:Int):Int),((if wrap64 (r7.2.1.2.1 + (2:Int)) < (60:Int) then wrap64 (r7.2.1.2.1 + (2:Int)) else (60:Int):Int),())),((if wrap64 (r7.2.1.2.2.1 + (1:Int)) < (8:Int) then wrap64 (r7.2.1.2.2.1 + (1:Int)) else (8:Int):Int),((if wrap64 (r7.2.1.2.2.2.1 + (1:Int)) < (3:Int) then wrap64 (r7.2.1.2.2.2.1 + (1:Int)) else (3:Int):Int),((if wrap64 (r7.2.1.2.2.2.2.1 + (1:Int)) < (6:Int) then wrap64 (r7.2.1.2.2.2.2.1 + (1:Int)) else (6:Int):Int),())))),((r7.2.2.1.1,(r7.2.2.1.2.1,(r7.2.2.1.2.2.1,()))),()));
                                                Tr.test ((!eqF r11.2.1 0:Bool))
                                                  (Tr.fin (((false:Bool),())))
                                                  (Tr.test ((!leF (↑(List.length r11.1):Int) (↑(List.length r7.1.1):Int):Bool))
                                                    (Tr.fin (((false:Bool),())))
                                                    (let r12:=g47 (((r7.2.1.1,(r7.2.1.2.1,())),(r7.2.1.2.2.1,(r7.2.1.2.2.2.1,(r7.2.1.2.2.2.2.1,())))),((r7.2.2.1.1,(r7.2.2.1.2.1,(r7.2.2.1.2.2.1,()))),()));
                                                    Tr.test ((!eqF r12.2.1 0:Bool))
                                                      (Tr.fin (((false:Bool),())))
                                                      (Tr.test ((!leF (↑(List.length r7.1.1):Int) (0:Int):Bool))
                                                        (Tr.test ((true && decide ((0:Int) < (↑(List.length r7.1.1):Int)):Bool))
                                                          (Tr.test (Option.isSome (f51 (r12.1,((List.getD r7.1.1 (0:Nat) (0:Int):Int),()))))
                                                            (let r13:=g51 (r12.1,((List.getD r7.1.1 (0:Nat) (0:Int):Int),()));
                                                            Tr.test ((!r13.1:Bool))
                                                              (Tr.fin (((false:Bool),())))
                                                              (Tr.test (Option.isSome (l9_2 ((r12.1,((0:Int),())),((r7.2.1.1,(r7.2.1.2.1,(r7.2.1.2.2.1,(r7.2.1.2.2.2.1,(r7.2.1.2.2.2.2.1,()))))),((r7.2.2.1.1,(r7.2.2.1.2.1,(r7.2.2.1.2.2.1,()))),())))))
                                                                (Tr.test (qbT (l9_2 ((r12.1,((0:Int),())),((r7.2.1.1,(r7.2.1.2.1,(r7.2.1.2.2.1,(r7.2.1.2.2.2.1,(r7.2.1.2.2.2.2.1,()))))),((r7.2.2.1.1,(r7.2.2.1.2.1,(r7.2.2.1.2.2.1,()))),())))))
                                                                  (let r14:=r9_2 ((r12.1,((0:Int),())),((r7.2.1.1,(r7.2.1.2.1,(r7.2.1.2.2.1,(r7.2.1.2.2.2.1,(r7.2.1.2.2.2.2.1,()))))),((r7.2.2.1.1,(r7.2.2.1.2.1,(r7.2.2.1.2.2.1,()))),())));
                                                                  Tr.fin ((r14.1.1,())))
                                                                  (Tr.fin (((true:Bool),()))))
                                                                (Tr.stop)))
                                                            (Tr.stop))
                                                          (Tr.stop))
                                                        (Tr.test (Option.isSome (l9_2 ((r12.1,((0:Int),())),((r7.2.1.1,(r7.2.1.2.1,(r7.2.1.2.2.1,(r7.2.1.2.2.2.1,(r7.2.1.2.2.2.2.1,()))))),((r7.2.2.1.1,(r7.2.2.1.2.1,(r7.2.2.1.2.2.1,()))),())))))
                                                          (Tr.test (qbT (l9_2 ((r12.1,((0:Int),())),((r7.2.1.1,(r7.2.1.2.1,(r7.2.1.2.2.1,(r7.2.1.2.2.2.1,(r7.2.1.2.2.2.2.1,()))))),((r7.2.2.1.1,(r7.2.2.1.2.1,(r7.2.2.1.2.2.1,()))),())))))
                                                            (let r14:=r9_2 ((r12.1,((0:Int),())),((r7.2.1.1,(r7.2.1.2.1,(r7.2.1.2.2.1,(r7.2.1.2.2.2.1,(r7.2.1.2.2.2.2.1,()))))),((r7.2.2.1.1,(r7.2.2.1.2.1,(r7.2.2.1.2.2.1,()))),())));
                                                            Tr.fin ((r14.1.1,())))
                                                            (Tr.fin (((true:Bool),()))))
                                                          (Tr.stop))))))
                                                (Tr.stop))
                                              (Tr.stop))))
                                        (Tr.stop)))
                                    (Tr.stop)))
                                (Tr.stop))))
                          (Tr.test ((!leF (↑(List.length r1.1):Int) (20000:Int):Bool))
                            (Tr.fin (((false:Bool),())))
                            (Tr.test (Option.isSome (f49 ((x1,(x1',(x1'',()))),())))
                              (let r5:=g49 ((x1,(x1',(x1'',()))),());
                              Tr.test ((!eqF (↑(List.length r1.1):Int) (0:Int) == r5.1:Bool))
                                (Tr.fin (((false:Bool),())))
                                (Tr.test (Option.isSome (l9_0 ((r1.1,((0:Int),())),((x0_,(x0_',(x0',(x0'',(x0''',()))))),((x1,(x1',(x1'',()))),((x1,(x1',(x1'',()))),()))))))
                                  (Tr.test (qbT (l9_0 ((r1.1,((0:Int),())),((x0_,(x0_',(x0',(x0'',(x0''',()))))),((x1,(x1',(x1'',()))),((x1,(x1',(x1'',()))),()))))))
                                    (let r6:=r9_0 ((r1.1,((0:Int),())),((x0_,(x0_',(x0',(x0'',(x0''',()))))),((x1,(x1',(x1'',()))),((x1,(x1',(x1'',()))),()))));
                                    Tr.fin ((r6.1.1,())))
                                    (let r7:=b9_0 ((r1.1,((0:Int),())),((x0_,(x0_',(x0',(x0'',(x0''',()))))),((x1,(x1',(x1'',()))),((x1,(x1',(x1'',()))),()))));
                                    Tr.test (Option.isSome (f49 ((r7.2.2.2.1.1,(r7.2.2.2.1.2.1,(r7.2.2.2.1.2.2.1,()))),())))
                                      (let r8:=g49 ((r7.2.2.2.1.1,(r7.2.2.2.1.2.1,(r7.2.2.2.1.2.2.1,()))),());
                                      Tr.test ((!r8.1:Bool))
                                        (Tr.fin (((false:Bool),())))
                                        (Tr.test ((leF (↑(List.length r7.1.1):Int) (100:Int):Bool))
                                          (Tr.test (Option.isSome (f35 (r7.1.1,())))
                                            (let r9:=g35 (r7.1.1,());
                                            Tr.test (Option.isSome (f42 (((r7.2.1.1,(r7.2.1.2.1,())),(r7.2.1.2.2.1,(r7.2.1.2.2.2.1,(r7.2.1.2.2.2.2.1,())))),((r7.2.2.1.1,(r7.2.2.1.2.1,(r7.2.2.1.2.2.1,()))),(r9.1,())))))
                                              (let r10:=g42 (((r7.2.1.1,(r7.2.1.2.1,())),(r7.2.1.2.2.1,(r7.2.1.2.2.2.1,(r7.2.1.2.2.2.2.1,())))),((r7.2.2.1.1,(r7.2.2.1.2.1,(r7.2.2.1.2.2.1,()))),(r9.1,())));
                                              Tr.test ((!eqF r10.2.1 0:Bool))
                                                (Tr.fin (((false:Bool),())))
                                                (Tr.test ((!eqF r10.1 r7.2.2.2.1.1:Bool))
                                                  (Tr.fin (((false:Bool),())))
                                                  (Tr.test (Option.isSome (f40 ((((if (-60:Int) < wrap64 (r7.2.1.1 - (2:Int)) then wrap64 (r7.2.1.1 - (2:Int)) else (-60:Int):Int),((if wrap64 (r7.2.1.2.1 + (2:Int)) < (60:Int) then wrap64 (r7.2.1.2.1 + (2:Int)) else (60:Int):Int),())),((if wrap64 (r7.2.1.2.2.1 + (1:Int)) < (8:Int) then wrap64 (r7.2.1.2.2.1 + (1:Int)) else (8:Int):Int),((if wrap64 (r7.2.1.2.2.2.1 + (1:Int)) < (3:Int) then wrap64 (r7.2.1.2.2.2.1 + (1:Int)) else (3:Int):Int),((if wrap64 (r7.2.1.2.2.2.2.1 + (1:Int)) < (6:Int) then wrap64 (r7.2.1.2.2.2.2.1 + (1:Int)) else (6:Int):Int),())))),((r7.2.2.1.1,(r7.2.2.1.2.1,(r7.2.2.1.2.2.1,()))),()))))
                                                    (Tr.test (Option.isSome (f47 (((r7.2.1.1,(r7.2.1.2.1,())),(r7.2.1.2.2.1,(r7.2.1.2.2.2.1,(r7.2.1.2.2.2.2.1,())))),((r7.2.2.1.1,(r7.2.2.1.2.1,(r7.2.2.1.2.2.1,()))),()))))
                                                      (let r11:=g40 ((((if (-60:Int) < wrap64 (r7.2.1.1 - (2:Int)) then wrap64 (r7.2.1.1 - (2:Int)) else (-60:Int):Int),((if wrap64 (r7.2.1.2.1 + (2:Int)) < (60:Int) then wrap64 (r7.2.1.2.1 + (2:Int)) else (60:Int):Int),())),((if wrap64 (r7.2.1.2.2.1 + (1:Int)) < (8:Int) then wrap64 (r7.2.1.2.2.1 + (1:Int)) else (8:Int):Int),((if wrap64 (r7.2.1.2.2.2.1 + (1:Int)) < (3:Int) then wrap64 (r7.2.1.2.2.2.1 + (1:Int)) else (3:Int):Int),((if wrap64 (r7.2.1.2.2.2.2.1 + (1:Int)) < (6:Int) then wrap64 (r7.2.1.2.2.2.2.1 + (1:Int)) else (6:Int):Int),())))),((r7.2.2.1.1,(r7.2.2.1.2.1,(r7.2.2.1.2.2.1,()))),()));
                                                      Tr.test ((!eqF r11.2.1 0:Bool))
                                                        (Tr.fin (((false:Bool),())))
                                                        (Tr.test ((!leF (↑(List.length r11.1):Int) (↑(List.length r7.1.1):Int):Bool))
                                                          (Tr.fin (((false:Bool),())))
                                                          (let r12:=g47 (((r7.2.1.1,(r7.2.1.2.1,())),(r7.2.1.2.2.1,(r7.2.1.2.2.2.1,(r7.2.1.2.2.2.2.1,())))),((r7.2.2.1.1,(r7.2.2.1.2.1,(r7.2.2.1.2.2.1,()))),()));
                                                          Tr.test ((!eqF r12.2.1 0:Bool))
                                                            (Tr.fin (((false:Bool),())))
                                                            (Tr.test ((!leF (↑(List.length r7.1.1):Int) (0:Int):Bool))
                                                              (Tr.test ((true && decide ((0:Int) < (↑(List.length r7.1.1):Int)):Bool))
                                                                (Tr.test (Option.isSome (f51 (r12.1,((List.getD r7.1.1 (0:Nat) (0:Int):Int),()))))
                                                                  (let r13:=g51 (r12.1,((List.getD r7.1.1 (0:Nat) (0:Int):Int),()));
                                                                  Tr.test ((!r13.1:Bool))
                                                                    (Tr.fin (((false:Bool),())))
                                                                    (Tr.test (Option.isSome (l9_2 ((r12.1,((0:Int),())),((r7.2.1.1,(r7.2.1.2.1,(r7.2.1.2.2.1,(r7.2.1.2.2.2.1,(r7.2.1.2.2.2.2.1,()))))),((r7.2.2.1.1,(r7.2.2.1.2.1,(r7.2.2.1.2.2.1,()))),())))))
                                                                      (Tr.test (qbT (l9_2 ((r12.1,((0:Int),())),((r7.2.1.1,(r7.2.1.2.1,(r7.2.1.2.2.1,(r7.2.1.2.2.2.1,(r7.2.1.2.2.2.2.1,()))))),((r7.2.2.1.1,(r7.2.2.1.2.1,(r7.2.2.1.2.2.1,()))),())))))
                                                                        (let r14:=r9_2 ((r12.1,((0:Int),())),((r7.2.1.1,(r7.2.1.2.1,(r7.2.1.2.2.1,(r7.2.1.2.2.2.1,(r7.2.1.2.2.2.2.1,()))))),((r7.2.2.1.1,(r7.2.2.1.2.1,(r7.2.2.1.2.2.1,()))),())));
                                                                        Tr.fin ((r14.1.1,())))
                                                                        (Tr.fin (((true:Bool),()))))
                                                                      (Tr.stop)))
                                                                  (Tr.stop))
                                                                (Tr.stop))
                                                              (Tr.test (Option.isSome (l9_2 ((r12.1,((0:Int),())),((r7.2.1.1,(r7.2.1.2.1,(r7.2.1.2.2.1,(r7.2.1.2.2.2.1,(r7.2.1.2.2.2.2.1,()))))),((r7.2.2.1.1,(r7.2.2.1.2.1,(r7.2.2.1.2.2.1,()))),())))))
                                                                (Tr.test (qbT (l9_2 ((r12.1,((0:Int),())),((r7.2.1.1,(r7.2.1.2.1,(r7.2.1.2.2.1,(r7.2.1.2.2.2.1,(r7.2.1.2.2.2.2.1,()))))),((r7.2.2.1.1,(r7.2.2.1.2.1,(r7.2.2.1.2.2.1,()))),())))))
                                                                  (let r14:=r9_2 ((r12.1,((0:Int),())),((r7.2.1.1,(r7.2.1.2.1,(r7.2.1.2.2.1,(r7.2.1.2.2.2.1,(r7.2.1.2.2.2.2.1,()))))),((r7.2.2.1.1,(r7.2.2.1.2.1,(r7.2.2.1.2.2.1,()))),())));
                                                                  Tr.fin ((r14.1.1,())))
                                                                  (Tr.fin (((true:Bool),()))))
                                                                (Tr.stop))))))
                                                      (Tr.stop))
                                                    (Tr.stop))))
                                              (Tr.stop))
                                            (Tr.stop))
                                          (Tr.test (Option.isSome (f40 ((((if (-60:Int) < wrap64 (r7.2.1.1 - (2:Int)) then wrap64 (r7.2.1.1 - (2:Int)) else (-60:Int):Int),((if wrap64 (r7.2.1.2.1 + (2:Int)) < (60:Int) then wrap64 (r7.2.1.2.1 + (2:Int)) else (60:Int):Int),())),((if wrap64 (r7.2.1.2.2.1 + (1:Int)) < (8:Int) then wrap64 (r7.2.1.2.2.1 + (1:Int)) else (8:Int):Int),((if wrap64 (r7.2.1.2.2.2.1 + (1:Int)) < (3:Int) then wrap64 (r7.2.1.2.2.2.1 + (1:Int)) else (3:Int):Int),((if wrap64 (r7.2.1.2.2.2.2.1 + (1:Int)) < (6:Int) then wrap64 (r7.2.1.2.2.2.2.1 + (1:Int)) else (6:Int):Int),())))),((r7.2.2.1.1,(r7.2.2.1.2.1,(r7.2.2.1.2.2.1,()))),()))))
                                            (Tr.test (Option.isSome (f47 (((r7.2.1.1,(r7.2.1.2.1,())),(r7.2.1.2.2.1,(r7.2.1.2.2.2.1,(r7.2.1.2.2.2.2.1,())))),((r7.2.2.1.1,(r7.2.2.1.2.1,(r7.2.2.1.2.2.1,()))),()))))
                                              (let r11:=g40 ((((if (-60:Int) < wrap64 (r7.2.1.1 - (2:Int)) then wrap64 (r7.2.1.1 - (2:Int)) else (-60:Int):Int),((if wrap64 (r7.2.1.2.1 + (2:Int)) < (60:Int) then wrap64 (r7.2.1.2.1 + (2:Int)) else (60:Int):Int),())),((if wrap64 (r7.2.1.2.2.1 + (1:Int)) < (8:Int) then wrap64 (r7.2.1.2.2.1 + (1:Int)) else (8:Int):Int),((if wrap64 (r7.2.1.2.2.2.1 + (1:Int)) < (3:Int) then wrap64 (r7.2.1.2.2.2.1 + (1:Int)) else (3:Int):Int),((if wrap64 (r7.2.1.2.2.2.2.1 + (1:Int)) < (6:Int) then wrap64 (r7.2.1.2.2.2.2.1 + (1:Int)) else (6:Int):Int),())))),((r7.2.2.1.1,(r7.2.2.1.2.1,(r7.2.2.1.2.2.1,()))),()));
                                              Tr.test ((!eqF r11.2.1 0:Bool))
                                                (Tr.fin (((false:Bool),())))
                                                (Tr.test ((!leF (↑(List.length r11.1):Int) (↑(List.length r7.1.1):Int):Bool))
                                                  (Tr.fin (((false:Bool),())))
                                                  (let r12:=g47 (((r7.2.1.1,(r7.2.1.2.1,())),(r7.2.1.2.2.1,(r7.2.1.2.2.2.1,(r7.2.1.2.2.2.2.1,())))),((r7.2.2.1.1,(r7.2.2.1.2.1,(r7.2.2.1.2.2.1,()))),()));
                                                  Tr.test ((!eqF r12.2.1 0:Bool))
                                                    (Tr.fin (((false:Bool),())))
                                                    (Tr.test ((!leF (↑(List.length r7.1.1):Int) (0:Int):Bool))
                                                      (Tr.test ((true && decide ((0:Int) < (↑(List.length r7.1.1):Int)):Bool))
                                                        (Tr.test (Option.isSome (f51 (r12.1,((List.getD r7.1.1 (0:Nat) (0:Int):Int),()))))
                                                          (let r13:=g51 (r12.1,((List.getD r7.1.1 (0:Nat) (0:Int):Int),()));
                                                          Tr.test ((!r13.1:Bool))
                                                            (Tr.fin (((false:Bool),())))
                                                            (Tr.test (Option.isSome (l9_2 ((r12.1,((0:Int),())),((r7.2.1.1,(r7.2.1.2.1,(r7.2.1.2.2.1,(r7.2.1.2.2.2.1,(r7.2.1.2.2.2.2.1,()))))),((r7.2.2.1.1,(r7.2.2.1.2.1,(r7.2.2.1.2.2.1,()))),())))))
                                                              (Tr.test (qbT (l9_2 ((r12.1,((0:Int),())),((r7.2.1.1,(r7.2.1.2.1,(r7.2.1.2.2.1,(r7.2.1.2.2.2.1,(r7.2.1.2.2.2.2.1,()))))),((r7.2.2.1.1,(r7.2.2.1.2.1,(r7.2.2.1.2.2.1,()))),())))))
                                                                (let r14:=r9_2 ((r12.1,((0:Int),())),((r7.2.1.1,(r7.2.1.2.1,(r7.2.1.2.2.1,(r7.2.1.2.2.2.1,(r7.2.1.2.2.2.2.1,()))))),((r7.2.2.1.1,(r7.2.2.1.2.1,(r7.2.2.1.2.2.1,()))),())));
                                                                Tr.fin ((r14.1.1,())))
                                                                (Tr.fin (((true:Bool),()))))
                                                              (Tr.stop)))
                                                          (Tr.stop))
                                                        (Tr.stop))
                                                      (Tr.test (Option.isSome (l9_2 ((r12.1,((0:Int),())),((r7.2.1.1,(r7.2.1.2.1,(r7.2.1.2.2.1,(r7.2.1.2.2.2.1,(r7.2.1.2.2.2.2.1,()))))),((r7.2.2.1.1,(r7.2.2.1.2.1,(r7.2.2.1.2.2.1,()))),())))))
                                                        (Tr.test (qbT (l9_2 ((r12.1,((0:Int),())),((r7.2.1.1,(r7.2.1.2.1,(r7.2.1.2.2.1,(r7.2.1.2.2.2.1,(r7.2.1.2.2.2.2.1,()))))),((r7.2.2.1.1,(r7.2.2.1.2.1,(r7.2.2.1.2.2.1,()))),())))))
                                                          (let r14:=r9_2 ((r12.1,((0:Int),())),((r7.2.1.1,(r7.2.1.2.1,(r7.2.1.2.2.1,(r7.2.1.2.2.2.1,(r7.2.1.2.2.2.2.1,()))))),((r7.2.2.1.1,(r7.2.2.1.2.1,(r7.2.2.1.2.2.1,()))),())));
                                                          Tr.fin ((r14.1.1,())))
                                                          (Tr.fin (((true:Bool),()))))
                                                        (Tr.stop))))))
                                              (Tr.stop))
                                            (Tr.stop))))
                                      (Tr.stop)))
                                  (Tr.stop)))
                              (Tr.stop)))))))
                  (Tr.stop))
                (Tr.stop))
              (Tr.stop))
            (Tr.stop)))))
    (Tr.stop)
def f9 (d:Tys.data as9):Option (Tys.data rs9):=(t9 d.1.1.1 d.1.1.2.1 d.1.2.1 d.1.2.2.1 d.1.2.2.2.1 d.2.1.1 d.2.1.2.1 d.2.1.2.2.1 d.2.2.1).val
def g9 (d:Tys.data as9):Tys.data rs9:=(f9 d).getD (Tys.dflt rs9)
def p9:PureC:=pcOf as9 rs9 f9 g9
theorem wk9n0 (x0_:Int) (x0_':Int) (x0':Int) (x0'':Int) (x0''':Int) (x1:Int) (x1':Int) (x1'':Int) (x2:(List Int)):Walks (runPure (kl9_2 Proofs.Tryz.prog).orc Proofs.Tryz.prog 400 9 as9 rs9 (((x0_,x0_',()),x0',x0'',x0''',()),(x1,x1',x1'',()),x2,())) (t9 x0_ x0_' x0' x0'' x0''' x1 x1' x1'' x2) [(bl 2 3,[1,1,1,1,1,2,2,2,2,2,2,2,2,2,4,0,1]),(bl 3 5,[1,2,2,2,2,4,4,4,1,4,4,4,1,4,4,4,6,0,1]),(bl 4 9,[2,4,4,4,4,6,6,6,1,6,6,6,1,6,6,6,8,0,1]),(bl 9 497,[1,2,2,2,2,2,4,6,8,10,12,14,14,14,14,16,16,16,1,16,16,16,1,16,16,16,18,0,1]),(bl 10 753,[2,4,4,4,4,4,6,8,10,12,14,16,16,16,16,18,18,18,1,18,18,18,1,18,18,18,20,0,1]),(bl 12 3313,[2,2,2,4,6,8,8,8,8,8,10,12,14,16,18,20,20,20,20,22,22,22,1,22,22,22,1,22,22,22,24,0,1]),(bl 12 1265,[2,2,2,4,6,8,8,8,8,8,10,12,14,16,18,20,20,20,20,22,22,22,1,22,22,22,1,22,22,22,24,0,1]),(bl 13 6385,[1,1,1,1,1,1,1,1,2,2,2,2,4,4,4,4,4,4,6,8,10,10,10,10,10,12,14,16,18,20,22,22,22,22,24,24,24,1,24,24,24,1,24,24,24,26,0,1]),(bl 14 10481,[1,2,2,2,2,2,2,2,4,4,4,4,6,6,6,6,6,6,8,10,12,12,12,12,12,14,16,18,20,22,24,24,24,24,26,26,26,1,26,26,26,1,26,26,26,28,0,1]),(bl 16 51441,[2,6,6,4,6,6,6,6,6,8,8,8,8,10,10,10,10,10,10,12,14,16,16,16,16,16,18,20,22,24,26,28,28,28,28,30,30,30,1,30,30,30,1,30,30,30,32,0,1]),(bl 18 215281,[2,4,6,10,10,8,10,10,10,10,10,12,12,12,12,14,14,14,14,14,14,16,18,20,20,20,20,20,22,24,26,28,30,32,32,32,32,34,34,34,1,34,34,34,1,34,34,34,36,0,1]),(bl 20 870641,[2,4,6,8,10,14,14,12,14,14,14,14,14,16,16,16,16,18,18,18,18,18,18,20,22,24,24,24,24,24,26,28,30,32,34,36,36,36,36,38,38,38,1,38,38,38,1,38,38,38,40,0,1]),(bl 24 16074993,[1,2,2,2,2,2,4,6,8,10,12,14,16,18,22,22,20,22,22,22,22,22,24,24,24,24,26,26,26,26,26,26,28,30,32,32,32,32,32,34,36,38,40,42,44,44,44,44,46,46,46,1,46,46,46,1,46,46,46,48,0,1]),(bl 25 24463601,[2,4,4,4,4,4,6,8,10,12,14,16,18,20,24,24,22,24,24,24,24,24,26,26,26,26,28,28,28,28,28,28,30,32,34,34,34,34,34,36,38,40,42,44,46,46,46,46,48,48,48,1,48,48,48,1,48,48,48,50,0,1]),(bl 28 242567409,[1,1,1,1,1,1,1,1,1,1,2,2,2,2,2,2,4,6,1,1,1,1,1,8,10,10,10,10,10,12,14,16,18,20,22,24,26,30,30,28,30,30,30,30,30,32,32,32,32,34,34,34,34,34,34,36,38,40,40,40,40,40,42,44,46,48,50,52,52,52,52,54,54,54,1,54,54,54,1,54,54,54,56,0,1]),(bl 29 376785137,[1,1,1,1,1,1,1,2,2,2,4,4,4,4,4,4,6,8,1,1,1,1,1,10,12,12,12,12,12,14,16,18,20,22,24,26,28,32,32,30,32,32,32,32,32,34,34,34,34,36,36,36,36,36,36,38,40,42,42,42,42,42,44,46,48,50,52,54,54,54,54,56,56,56,1,56,56,56,1,56,56,56,58,0,1])] :=
  ⟨by kernel_rfl,by kernel_rfl,by kernel_rfl,by kernel_rfl,by kernel_rfl,by kernel_rfl,by kernel_rfl,by kernel_rfl,by kernel_rfl,by kernel_rfl,by kernel_rfl,by kernel_rfl,by kernel_rfl,by kernel_rfl,by kernel_rfl,by kernel_rfl,trivial⟩
theorem wk9n1 (x0_:Int) (x0_':Int) (x0':Int) (x0'':Int) (x0''':Int) (x1:Int) (x1':Int) (x1'':Int) (x2:(List Int)):Walks (runPure (kl9_2 Proofs.Tryz.prog).orc Proofs.Tryz.prog 400 9 as9 rs9 (((x0_,x0_',()),x0',x0'',x0''',()),(x1,x1',x1'',()),x2,())) (t9 x0_ x0_' x0' x0'' x0''' x1 x1' x1'' x2) [(bl 30 645220593,[1,2,2,2,2,2,2,4,4,4,6,6,6,6,6,6,8,10,1,1,1,1,1,12,14,14,14,14,14,16,18,20,22,24,26,28,30,34,34,32,34,34,34,34,34,36,36,36,36,38,38,38,38,38,38,40,42,44,44,44,44,44,46,48,50,52,54,56,56,56,56,58,58,58,1,58,58,58,1,58,58,58,60,0,1]),(bl 34 16214477041,[2,10,8,10,8,4,8,8,6,8,8,8,10,10,10,10,12,12,12,14,14,14,14,14,14,16,18,1,1,1,1,1,20,22,22,22,22,22,24,26,28,30,32,34,36,38,42,42,40,42,42,42,42,42,44,44,44,44,46,46,46,46,46,46,48,50,52,52,52,52,52,54,56,58,60,62,64,64,64,64,66,66,66,1,66,66,66,1,66,66,66,68,0,1]),(bl 36 59164150001,[2,4,6,14,12,14,12,8,12,12,10,12,12,12,14,14,14,14,16,16,16,18,18,18,18,18,18,20,22,1,1,1,1,1,24,26,26,26,26,26,28,30,32,34,36,38,40,42,46,46,44,46,46,46,46,46,48,48,48,48,50,50,50,50,50,50,52,54,56,56,56,56,56,58,60,62,64,66,68,68,68,68,70,70,70,1,70,70,70,1,70,70,70,72,0,1]),(bl 36 24804411633,[2,4,6,14,12,14,12,8,12,12,10,12,12,12,14,14,14,14,16,16,16,18,18,18,18,18,18,20,22,1,1,1,1,1,24,26,26,26,26,26,28,30,32,34,36,38,40,42,46,46,44,46,46,46,46,46,48,48,48,48,50,50,50,50,50,50,52,54,56,56,56,56,56,58,60,62,64,66,68,68,68,68,70,70,70,1,70,70,70,1,70,70,70,72,0,1]),(bl 33 6550800625,[2,4,0,8,6,8,6,6,6,6,6,6,8,8,8,8,10,10,10,12,12,12,12,12,12,14,16,1,1,1,1,1,18,20,20,20,20,20,22,24,26,28,30,32,34,36,40,40,38,40,40,40,40,40,42,42,42,42,44,44,44,44,44,44,46,48,50,50,50,50,50,52,54,56,58,60,62,62,62,62,64,64,64,1,64,64,64,1,64,64,64,66,0,1]),(bl 33 2255833329,[2,4,0,8,6,8,6,6,6,6,6,6,8,8,8,8,10,10,10,12,12,12,12,12,12,14,16,1,1,1,1,1,18,20,20,20,20,20,22,24,26,28,30,32,34,36,40,40,38,40,40,40,40,40,42,42,42,42,44,44,44,44,44,44,46,48,50,50,50,50,50,52,54,56,58,60,62,62,62,62,64,64,64,1,64,64,64,1,64,64,64,66,0,1]),(bl 24 15026417,[1,1,1,1,1,1,1,1,1,1,2,2,2,2,2,2,4,6,1,1,1,1,1,8,10,12,14,16,18,22,22,20,22,22,22,22,22,24,24,24,24,26,26,26,26,26,26,28,30,32,32,32,32,32,34,36,38,40,42,44,44,44,44,46,46,46,1,46,46,46,1,46,46,46,48,0,1]),(bl 25 23415025,[1,1,1,1,1,1,1,2,2,2,4,4,4,4,4,4,6,8,1,1,1,1,1,10,12,14,16,18,20,24,24,22,24,24,24,24,24,26,26,26,26,28,28,28,28,28,28,30,32,34,34,34,34,34,36,38,40,42,44,46,46,46,46,48,48,48,1,48,48,48,1,48,48,48,50,0,1]),(bl 26 40192241,[1,2,2,2,2,2,2,4,4,4,6,6,6,6,6,6,8,10,1,1,1,1,1,12,14,16,18,20,22,26,26,24,26,26,26,26,26,28,28,28,28,30,30,30,30,30,30,32,34,36,36,36,36,36,38,40,42,44,46,48,48,48,48,50,50,50,1,50,50,50,1,50,50,50,52,0,1]),(bl 30 1013270769,[2,10,8,10,8,4,8,8,6,8,8,8,10,10,10,10,12,12,12,14,14,14,14,14,14,16,18,1,1,1,1,1,20,22,24,26,28,30,34,34,32,34,34,34,34,34,36,36,36,36,38,38,38,38,38,38,40,42,44,44,44,44,44,46,48,50,52,54,56,56,56,56,58,58,58,1,58,58,58,1,58,58,58,60,0,1]),(bl 32 3697625329,[2,4,6,14,12,14,12,8,12,12,10,12,12,12,14,14,14,14,16,16,16,18,18,18,18,18,18,20,22,1,1,1,1,1,24,26,28,30,32,34,38,38,36,38,38,38,38,38,40,40,40,40,42,42,42,42,42,42,44,46,48,48,48,48,48,50,52,54,56,58,60,60,60,60,62,62,62,1,62,62,62,1,62,62,62,64,0,1]),(bl 32 1550141681,[2,4,6,14,12,14,12,8,12,12,10,12,12,12,14,14,14,14,16,16,16,18,18,18,18,18,18,20,22,1,1,1,1,1,24,26,28,30,32,34,38,38,36,38,38,38,38,38,40,40,40,40,42,42,42,42,42,42,44,46,48,48,48,48,48,50,52,54,56,58,60,60,60,60,62,62,62,1,62,62,62,1,62,62,62,64,0,1]),(bl 29 409290993,[2,4,0,8,6,8,6,6,6,6,6,6,8,8,8,8,10,10,10,12,12,12,12,12,12,14,16,1,1,1,1,1,18,20,22,24,26,28,32,32,30,32,32,32,32,32,34,34,34,34,36,36,36,36,36,36,38,40,42,42,42,42,42,44,46,48,50,52,54,54,54,54,56,56,56,1,56,56,56,1,56,56,56,58,0,1]),(bl 29 140855537,[2,4,0,8,6,8,6,6,6,6,6,6,8,8,8,8,10,10,10,12,12,12,12,12,12,14,16,1,1,1,1,1,18,20,22,24,26,28,32,32,30,32,32,32,32,32,34,34,34,34,36,36,36,36,36,36,38,40,42,42,42,42,42,44,46,48,50,52,54,54,54,54,56,56,56,1,56,56,56,1,56,56,56,58,0,1]),(bl 13 4337,[1,2,2,2,2,2,2,2,0,0,0,0,4,4,4,4,4,4,6,8,10,10,10,10,10,12,14,16,18,20,22,22,22,22,24,24,24,1,24,24,24,1,24,24,24,26,0,1]),(bl 15 24817,[2,6,6,4,6,6,6,6,6,0,0,0,0,8,8,8,8,8,8,10,12,14,14,14,14,14,16,18,20,22,24,26,26,26,26,28,28,28,1,28,28,28,1,28,28,28,30,0,1])] :=
  ⟨by kernel_rfl,by kernel_rfl,by kernel_rfl,by kernel_rfl,by kernel_rfl,by kernel_rfl,by kernel_rfl,by kernel_rfl,by kernel_rfl,by kernel_rfl,by kernel_rfl,by kernel_rfl,by kernel_rfl,by kernel_rfl,by kernel_rfl,by kernel_rfl,trivial⟩
theorem wk9n2 (x0_:Int) (x0_':Int) (x0':Int) (x0'':Int) (x0''':Int) (x1:Int) (x1':Int) (x1'':Int) (x2:(List Int)):Walks (runPure (kl9_2 Proofs.Tryz.prog).orc Proofs.Tryz.prog 400 9 as9 rs9 (((x0_,x0_',()),x0',x0'',x0''',()),(x1,x1',x1'',()),x2,())) (t9 x0_ x0_' x0' x0'' x0''' x1 x1' x1'' x2) [(bl 17 106737,[2,4,6,10,10,8,10,10,10,10,10,0,0,0,0,12,12,12,12,12,12,14,16,18,18,18,18,18,20,22,24,26,28,30,30,30,30,32,32,32,1,32,32,32,1,32,32,32,34,0,1]),(bl 19 434417,[2,4,6,8,10,14,14,12,14,14,14,14,14,0,0,0,0,16,16,16,16,16,16,18,20,22,22,22,22,22,24,26,28,30,32,34,34,34,34,36,36,36,1,36,36,36,1,36,36,36,38,0,1]),(bl 23 8036593,[1,2,2,2,2,2,4,6,8,10,12,14,16,18,22,22,20,22,22,22,22,22,0,0,0,0,24,24,24,24,24,24,26,28,30,30,30,30,30,32,34,36,38,40,42,42,42,42,44,44,44,1,44,44,44,1,44,44,44,46,0,1]),(bl 24 12230897,[2,4,4,4,4,4,6,8,10,12,14,16,18,20,24,24,22,24,24,24,24,24,0,0,0,0,26,26,26,26,26,26,28,30,32,32,32,32,32,34,36,38,40,42,44,44,44,44,46,46,46,1,46,46,46,1,46,46,46,48,0,1]),(bl 27 121282801,[1,1,1,1,1,1,1,1,1,1,2,2,2,2,2,2,4,6,1,1,1,1,1,8,10,10,10,10,10,12,14,16,18,20,22,24,26,30,30,28,30,30,30,30,30,0,0,0,0,32,32,32,32,32,32,34,36,38,38,38,38,38,40,42,44,46,48,50,50,50,50,52,52,52,1,52,52,52,1,52,52,52,54,0,1]),(bl 28 188391665,[1,1,1,1,1,1,1,2,2,2,4,4,4,4,4,4,6,8,1,1,1,1,1,10,12,12,12,12,12,14,16,18,20,22,24,26,28,32,32,30,32,32,32,32,32,0,0,0,0,34,34,34,34,34,34,36,38,40,40,40,40,40,42,44,46,48,50,52,52,52,52,54,54,54,1,54,54,54,1,54,54,54,56,0,1]),(bl 29 322609393,[1,2,2,2,2,2,2,4,4,4,6,6,6,6,6,6,8,10,1,1,1,1,1,12,14,14,14,14,14,16,18,20,22,24,26,28,30,34,34,32,34,34,34,34,34,0,0,0,0,36,36,36,36,36,36,38,40,42,42,42,42,42,44,46,48,50,52,54,54,54,54,56,56,56,1,56,56,56,1,56,56,56,58,0,1]),(bl 33 8107237617,[2,10,8,10,8,4,8,8,6,8,8,8,10,10,10,10,12,12,12,14,14,14,14,14,14,16,18,1,1,1,1,1,20,22,22,22,22,22,24,26,28,30,32,34,36,38,42,42,40,42,42,42,42,42,0,0,0,0,44,44,44,44,44,44,46,48,50,50,50,50,50,52,54,56,58,60,62,62,62,62,64,64,64,1,64,64,64,1,64,64,64,66,0,1]),(bl 35 29582074097,[2,4,6,14,12,14,12,8,12,12,10,12,12,12,14,14,14,14,16,16,16,18,18,18,18,18,18,20,22,1,1,1,1,1,24,26,26,26,26,26,28,30,32,34,36,38,40,42,46,46,44,46,46,46,46,46,0,0,0,0,48,48,48,48,48,48,50,52,54,54,54,54,54,56,58,60,62,64,66,66,66,66,68,68,68,1,68,68,68,1,68,68,68,70,0,1]),(bl 35 12402204913,[2,4,6,14,12,14,12,8,12,12,10,12,12,12,14,14,14,14,16,16,16,18,18,18,18,18,18,20,22,1,1,1,1,1,24,26,26,26,26,26,28,30,32,34,36,38,40,42,46,46,44,46,46,46,46,46,0,0,0,0,48,48,48,48,48,48,50,52,54,54,54,54,54,56,58,60,62,64,66,66,66,66,68,68,68,1,68,68,68,1,68,68,68,70,0,1]),(bl 32 3275399409,[2,4,0,8,6,8,6,6,6,6,6,6,8,8,8,8,10,10,10,12,12,12,12,12,12,14,16,1,1,1,1,1,18,20,20,20,20,20,22,24,26,28,30,32,34,36,40,40,38,40,40,40,40,40,0,0,0,0,42,42,42,42,42,42,44,46,48,48,48,48,48,50,52,54,56,58,60,60,60,60,62,62,62,1,62,62,62,1,62,62,62,64,0,1]),(bl 32 1127915761,[2,4,0,8,6,8,6,6,6,6,6,6,8,8,8,8,10,10,10,12,12,12,12,12,12,14,16,1,1,1,1,1,18,20,20,20,20,20,22,24,26,28,30,32,34,36,40,40,38,40,40,40,40,40,0,0,0,0,42,42,42,42,42,42,44,46,48,48,48,48,48,50,52,54,56,58,60,60,60,60,62,62,62,1,62,62,62,1,62,62,62,64,0,1]),(bl 23 7512305,[1,1,1,1,1,1,1,1,1,1,2,2,2,2,2,2,4,6,1,1,1,1,1,8,10,12,14,16,18,22,22,20,22,22,22,22,22,0,0,0,0,24,24,24,24,24,24,26,28,30,30,30,30,30,32,34,36,38,40,42,42,42,42,44,44,44,1,44,44,44,1,44,44,44,46,0,1]),(bl 24 11706609,[1,1,1,1,1,1,1,2,2,2,4,4,4,4,4,4,6,8,1,1,1,1,1,10,12,14,16,18,20,24,24,22,24,24,24,24,24,0,0,0,0,26,26,26,26,26,26,28,30,32,32,32,32,32,34,36,38,40,42,44,44,44,44,46,46,46,1,46,46,46,1,46,46,46,48,0,1]),(bl 25 20095217,[1,2,2,2,2,2,2,4,4,4,6,6,6,6,6,6,8,10,1,1,1,1,1,12,14,16,18,20,22,26,26,24,26,26,26,26,26,0,0,0,0,28,28,28,28,28,28,30,32,34,34,34,34,34,36,38,40,42,44,46,46,46,46,48,48,48,1,48,48,48,1,48,48,48,50,0,1]),(bl 29 506634481,[2,10,8,10,8,4,8,8,6,8,8,8,10,10,10,10,12,12,12,14,14,14,14,14,14,16,18,1,1,1,1,1,20,22,24,26,28,30,34,34,32,34,34,34,34,34,0,0,0,0,36,36,36,36,36,36,38,40,42,42,42,42,42,44,46,48,50,52,54,54,54,54,56,56,56,1,56,56,56,1,56,56,56,58,0,1])] :=
  ⟨by kernel_rfl,by kernel_rfl,by kernel_rfl,by kernel_rfl,by kernel_rfl,by kernel_rfl,by kernel_rfl,by kernel_rfl,by kernel_rfl,by kernel_rfl,by kernel_rfl,by kernel_rfl,by kernel_rfl,by kernel_rfl,by kernel_rfl,by kernel_rfl,trivial⟩
theorem wk9n3 (x0_:Int) (x0_':Int) (x0':Int) (x0'':Int) (x0''':Int) (x1:Int) (x1':Int) (x1'':Int) (x2:(List Int)):Walks (runPure (kl9_2 Proofs.Tryz.prog).orc Proofs.Tryz.prog 400 9 as9 rs9 (((x0_,x0_',()),x0',x0'',x0''',()),(x1,x1',x1'',()),x2,())) (t9 x0_ x0_' x0' x0'' x0''' x1 x1' x1'' x2) [(bl 31 1848811761,[2,4,6,14,12,14,12,8,12,12,10,12,12,12,14,14,14,14,16,16,16,18,18,18,18,18,18,20,22,1,1,1,1,1,24,26,28,30,32,34,38,38,36,38,38,38,38,38,0,0,0,0,40,40,40,40,40,40,42,44,46,46,46,46,46,48,50,52,54,56,58,58,58,58,60,60,60,1,60,60,60,1,60,60,60,62,0,1]),(bl 31 775069937,[2,4,6,14,12,14,12,8,12,12,10,12,12,12,14,14,14,14,16,16,16,18,18,18,18,18,18,20,22,1,1,1,1,1,24,26,28,30,32,34,38,38,36,38,38,38,38,38,0,0,0,0,40,40,40,40,40,40,42,44,46,46,46,46,46,48,50,52,54,56,58,58,58,58,60,60,60,1,60,60,60,1,60,60,60,62,0,1]),(bl 28 204644593,[2,4,0,8,6,8,6,6,6,6,6,6,8,8,8,8,10,10,10,12,12,12,12,12,12,14,16,1,1,1,1,1,18,20,22,24,26,28,32,32,30,32,32,32,32,32,0,0,0,0,34,34,34,34,34,34,36,38,40,40,40,40,40,42,44,46,48,50,52,52,52,52,54,54,54,1,54,54,54,1,54,54,54,56,0,1]),(bl 28 70426865,[2,4,0,8,6,8,6,6,6,6,6,6,8,8,8,8,10,10,10,12,12,12,12,12,12,14,16,1,1,1,1,1,18,20,22,24,26,28,32,32,30,32,32,32,32,32,0,0,0,0,34,34,34,34,34,34,36,38,40,40,40,40,40,42,44,46,48,50,52,52,52,52,54,54,54,1,54,54,54,1,54,54,54,56,0,1])] :=
  ⟨by kernel_rfl,by kernel_rfl,by kernel_rfl,by kernel_rfl,trivial⟩
theorem ok9_t (x0_:Int) (x0_':Int) (x0':Int) (x0'':Int) (x0''':Int) (x1:Int) (x1':Int) (x1'':Int) (x2:(List Int)):TrOk (PureRuns Proofs.Tryz.prog (kl9_2 Proofs.Tryz.prog).orc 9 as9 rs9 (((x0_,x0_',()),x0',x0'',x0''',()),(x1,x1',x1'',()),x2,())) (t9 x0_ x0_' x0' x0'' x0''' x1 x1' x1'' x2) :=
  Walks.ok (fun _ _ _=>PureRuns.of) ((wk9n0 x0_ x0_' x0' x0'' x0''' x1 x1' x1'' x2).append ((wk9n1 x0_ x0_' x0' x0'' x0''' x1 x1' x1'' x2).append ((wk9n2 x0_ x0_' x0' x0'' x0''' x1 x1' x1'' x2).append (wk9n3 x0_ x0_' x0' x0'' x0''' x1 x1' x1'' x2)))) (by kernel_rfl)
theorem ok9:PureOk Proofs.Tryz.prog 9 p9:=qag kl9_2_ok.base (T:=fun (d:Tys.data as9)=>t9 d.1.1.1 d.1.1.2.1 d.1.2.1 d.1.2.2.1 d.1.2.2.2.1 d.2.1.1 d.2.1.2.1 d.2.1.2.2.1 d.2.2.1) (by kernel_rfl) (fun (d:Tys.data as9)=>ok9_t d.1.1.1 d.1.1.2.1 d.1.2.1 d.1.2.2.1 d.1.2.2.2.1 d.2.1.1 d.2.1.2.1 d.2.1.2.2.1 d.2.2.1)
end Go.Vm.Mo
