import Derived.Test.YtlaojojnembodaaGreatA5
import Derived.KernelRfl
import Derived.Test.YtlaojojnembodaaGreatProg
import Derived.Test.YtlaojojnembodaaGreatRsFb
set_option linter.unusedVariables false
set_option linter.unusedSimpArgs false

namespace Go.Vm.Mo
open Go
set_option linter.unusedVariables false
abbrev as90:List Ty:=[(.pair (.pair (.int .i64) (.pair (.int .i64) (.pair .bool .unit))) (.pair (.pair (.int .i64) (.pair .bool .unit)) (.pair (.int .i64) .unit)))]
abbrev rs90:List Ty:=[(.int .i64)]
def t90 (x0_:Int) (x0_':Int) (x0_'':Bool) (x0'_:Int) (x0'_':Bool) (x0'':Int):Tr (Tys.data rs90) :=
  Tr.test (x0'_')
    (Tr.test (x0_'')
      (Tr.test (Option.isSome (f73 (x0'_,())))
        (Tr.test (Option.isSome (f43 ((!eqF x0'_ 0:Bool),((3:Int),()))))
          (Tr.test (Option.isSome (f43 ((false:Bool),((22:Int),()))))
            (let r0:=g73 (x0'_,());
            let r2:=g43 ((false:Bool),((22:Int),()));
            let r4:=g43 ((!eqF x0'_ 0:Bool),((3:Int),()));
            Tr.test (Option.isSome (f41 (([r0.1,r4.1,r2.1]:List Int),())))
              (let r5:=g41 (([r0.1,r4.1,r2.1]:List Int),());
              Tr.fin ((r5.1,())))
              (Tr.stop))
            (Tr.stop))
          (Tr.stop))
        (Tr.stop))
      (Tr.test (Option.isSome (f73 (x0'_,())))
        (Tr.test (Option.isSome (f43 ((true:Bool),((3:Int),()))))
          (Tr.test (Option.isSome (f43 ((false:Bool),((22:Int),()))))
            (let r0:=g73 (x0'_,());
            let r1:=g43 ((true:Bool),((3:Int),()));
            let r2:=g43 ((false:Bool),((22:Int),()));
            Tr.test (Option.isSome (f41 (([r0.1,r1.1,r2.1]:List Int),())))
              (let r3:=g41 (([r0.1,r1.1,r2.1]:List Int),());
              Tr.fin ((r3.1,())))
              (Tr.stop))
            (Tr.stop))
          (Tr.stop))
        (Tr.stop)))
    (Tr.test (x0_'')
      (Tr.test (Option.isSome (f113 (((x0_,(x0_',(x0_'',()))),((x0'_,(x0'_',())),(x0'',()))),())))
        (let r6:=g113 (((x0_,(x0_',(x0_'',()))),((x0'_,(x0'_',())),(x0'',()))),());
        Tr.test (Option.isSome (f44 (x0_',(([r6.1]:List Int),()))))
          (Tr.test (Option.isSome (f73 (x0'_,())))
            (Tr.test (Option.isSome (f43 ((!eqF x0'_ 0:Bool),((3:Int),()))))
              (let r7:=g44 (x0_',(([r6.1]:List Int),()));
              Tr.test (Option.isSome (f43 (r7.1,((22:Int),()))))
                (let r0:=g73 (x0'_,());
                let r4:=g43 ((!eqF x0'_ 0:Bool),((3:Int),()));
                let r8:=g43 (r7.1,((22:Int),()));
                Tr.test (Option.isSome (f41 (([r0.1,r4.1,r8.1]:List Int),())))
                  (let r9:=g41 (([r0.1,r4.1,r8.1]:List Int),());
                  Tr.fin ((r9.1,())))
                  (Tr.stop))
                (Tr.stop))
              (Tr.stop))
            (Tr.stop))
          (Tr.stop))
        (Tr.stop))
      (Tr.test (Option.isSome (f113 (((x0_,(x0_',(x0_'',()))),((x0'_,(x0'_',())),(x0'',()))),())))
        (let r6:=g113 (((x0_,(x0_',(x0_'',()))),((x0'_,(x0'_',())),(x0'',()))),());
        Tr.test (Option.isSome (f44 (x0_',(([r6.1]:List Int),()))))
          (Tr.test (Option.isSome (f73 (x0'_,())))
            (Tr.test (Option.isSome (f43 ((false:Bool),((3:Int),()))))
              (let r7:=g44 (x0_',(([r6.1]:List Int),()));
              Tr.test (Option.isSome (f43 (r7.1,((22:Int),()))))
                (let r0:=g73 (x0'_,());
                let r8:=g43 (r7.1,((22:Int),()));
                let r10:=g43 ((false:Bool),((3:Int),()));
                Tr.test (Option.isSome (f41 (([r0.1,r10.1,r8.1]:List Int),())))
                  (let r11:=g41 (([r0.1,r10.1,r8.1]:List Int),());
                  Tr.fin ((r11.1,())))
                  (Tr.stop))
                (Tr.stop))
              (Tr.stop))
            (Tr.stop))
          (Tr.stop))
        (Tr.stop)))
def f90 (d:Tys.data as90):Option (Tys.data rs90):=(t90 d.1.1.1 d.1.1.2.1 d.1.1.2.2.1 d.1.2.1.1 d.1.2.1.2.1 d.1.2.2.1).val
def g90 (d:Tys.data as90):Tys.data rs90:=(f90 d).getD (Tys.dflt rs90)
def p90:PureC:=pcOf as90 rs90 f90 g90
theorem wk90 (x0_:Int) (x0_':Int) (x0_'':Bool) (x0'_:Int) (x0'_':Bool) (x0'':Int):Walks (runPure (kf73 Proofs.Tryz.prog).orc Proofs.Tryz.prog 400 90 as90 rs90 (((x0_,x0_',x0_'',()),(x0'_,x0'_',()),x0'',()),())) (t90 x0_ x0_' x0_'' x0'_ x0'_' x0'') [(bl 6 63,[2,4,6,8,13,13,13,13,13,13,13,13,11,10,11,10,10,10,10,11,11,11,11,12,12,12,12,12]),(bl 6 61,[2,4,6,8,13,13,13,13,13,13,13,13,11,11,11,11,11,11,12,12,12,12,12]),(bl 8 254,[2,4,6,8,17,10,17,17,12,17,17,17,17,17,0,14,0,14,14,14,14,0,0,0,0,16,16,16,16,16]),(bl 8 252,[2,4,6,8,17,10,17,17,12,17,17,17,17,17,0,14,0,14,14,14,14,0,0,0,0,16,16,16,16,16])] :=
  ⟨by kernel_rfl,by kernel_rfl,by kernel_rfl,by kernel_rfl,trivial⟩
theorem ok90_t (x0_:Int) (x0_':Int) (x0_'':Bool) (x0'_:Int) (x0'_':Bool) (x0'':Int):TrOk (PureRuns Proofs.Tryz.prog (kf73 Proofs.Tryz.prog).orc 90 as90 rs90 (((x0_,x0_',x0_'',()),(x0'_,x0'_',()),x0'',()),())) (t90 x0_ x0_' x0_'' x0'_ x0'_' x0'') :=
  Walks.ok (fun _ _ _=>PureRuns.of) (wk90 x0_ x0_' x0_'' x0'_ x0'_' x0'') (by kernel_rfl)
theorem ok90:PureOk Proofs.Tryz.prog 90 p90:=qab kf73_ok.base (T:=fun (d:Tys.data as90)=>t90 d.1.1.1 d.1.1.2.1 d.1.1.2.2.1 d.1.2.1.1 d.1.2.1.2.1 d.1.2.2.1) (by kernel_rfl) (fun (d:Tys.data as90)=>ok90_t d.1.1.1 d.1.1.2.1 d.1.1.2.2.1 d.1.2.1.1 d.1.2.1.2.1 d.1.2.2.1)
def kf90 (P:Go.Program):Known:=(kf73 P).func 90 p90
theorem kf90_ok:KnownOk Proofs.Tryz.prog (kf90 Proofs.Tryz.prog):=kf73_ok.func ok90
abbrev sh88_0:Sh:={ n:=25,slots:=[1,9,10,11],pats:=[.fn 89 [(0,1),(1,2)],.ty (.slice (.pair (.int .i64) (.pair .bool .unit))),.ty (.int .i64),.ty (.int .i64)],boxes:=[.row [.ty (.slice (.pair (.int .i64) (.pair (.int .i64) (.pair .bool .unit))))],.row [.ty (.int .i64),.ty (.slice (.pair (.int .i64) (.pair .bool .unit)))]] }
abbrev shb88_0:Sh:={ n:=25,slots:=[],pats:=[],boxes:=[.row [.ty (.slice (.pair (.int .i64) (.pair (.int .i64) (.pair .bool .unit))))],.row [.ty (.int .i64),.ty (.slice (.pair (.int .i64) (.pair .bool .unit)))]] }
abbrev shr88_0:Sh:={ n:=25,slots:=[4,5],pats:=[.ty (.int .i64),.ty (.int .i64)],boxes:=[.row [.ty (.slice (.pair (.int .i64) (.pair (.int .i64) (.pair .bool .unit))))],.row [.ty (.int .i64),.ty (.slice (.pair (.int .i64) (.pair .bool .unit)))]] }
def t88_0 (x1:(List (Int×(Bool×Unit)))) (x2:Int) (x3:Int) (b0_0:(List (Int×(Int×(Bool×Unit))))) (b1_0:Int) (b1_1:(List (Int×(Bool×Unit)))):Tr (Out sh88_0.data shb88_0.data shr88_0.data) :=
  Tr.test ((!leF x2 x3:Bool))
    (Tr.test (decide ((0:Int) ≤ x3) && decide (x3 < (↑(List.length x1):Int)))
      (Tr.test ((decide ((0:Int) ≤ x3) && decide (x3 < (↑(List.length b0_0):Int)):Bool))
        (Tr.test (Option.isSome (f90 (((((List.getD b0_0 (Int.toNat x3) ((0:Int),(0:Int),false,())).1:Int),(((List.getD b0_0 (Int.toNat x3) ((0:Int),(0:Int),false,())).2.1:Int),(((List.getD b0_0 (Int.toNat x3) ((0:Int),(0:Int),false,())).2.2.1:Bool),()))),((((List.getD x1 (Int.toNat x3) ((0:Int),false,())).1:Int),(((List.getD x1 (Int.toNat x3) ((0:Int),false,())).2.1:Bool),())),(b1_0,()))),())))
          (let r0:=g90 (((((List.getD b0_0 (Int.toNat x3) ((0:Int),(0:Int),false,())).1:Int),(((List.getD b0_0 (Int.toNat x3) ((0:Int),(0:Int),false,())).2.1:Int),(((List.getD b0_0 (Int.toNat x3) ((0:Int),(0:Int),false,())).2.2.1:Bool),()))),((((List.getD x1 (Int.toNat x3) ((0:Int),false,())).1:Int),(((List.getD x1 (Int.toNat x3) ((0:Int),false,())).2.1:Bool),())),(b1_0,()))),());
          Tr.test ((!eqF r0.1 0:Bool))
            (Tr.fin (.ret ((x3,(r0.1,())),((b0_0,()),((b1_0,(b1_1,())),())))))
            (Tr.fin (.again ((x1,(x2,((wrap64 (x3 + (1:Int)):Int),()))),((b0_0,()),((b1_0,(b1_1,())),()))))))
          (Tr.stop))
        (Tr.stop))
      (Tr.stop))
    (Tr.fin (.brk ((),((b0_0,()),((b1_0,(b1_1,())),())))))
def s88_0 (d:sh88_0.data):Option (Out sh88_0.data shb88_0.data shr88_0.data):=(t88_0 d.1.1 d.1.2.1 d.1.2.2.1 d.2.1.1 d.2.2.1.1 d.2.2.1.2.1).val
def l88_0 (d:sh88_0.data):Option (shb88_0.data ⊕ shr88_0.data):=itr s88_0 rounds d
def b88_0 (d:sh88_0.data):shb88_0.data:=outB shb88_0.dflt (l88_0 d)
def r88_0 (d:sh88_0.data):shr88_0.data:=outR shr88_0.dflt (l88_0 d)
def lc88_0:LoopC:=lcOf sh88_0 shb88_0 shr88_0 l88_0 b88_0 r88_0
theorem wk88_0 (x1:(List (Int×(Bool×Unit)))) (x2:Int) (x3:Int) (b0_0:(List (Int×(Int×(Bool×Unit))))) (b1_0:Int) (b1_1:(List (Int×(Bool×Unit)))):Walks (qak (kf90 Proofs.Tryz.prog).orc Proofs.Tryz.prog 400 88 0 sh88_0 shb88_0 shr88_0 ((x1,x2,x3,()),(b0_0,()),(b1_0,b1_1,()),())) (t88_0 x1 x2 x3 b0_0 b1_0 b1_1) [(bl 5 31,[2,4,6,8,10]),(bl 5 15,[2,4,6,8,10]),(bl 1 0,[2])] :=
  ⟨by kernel_rfl,by kernel_rfl,by kernel_rfl,trivial⟩
theorem ok88_0_t (x1:(List (Int×(Bool×Unit)))) (x2:Int) (x3:Int) (b0_0:(List (Int×(Int×(Bool×Unit))))) (b1_0:Int) (b1_1:(List (Int×(Bool×Unit)))):TrOk (BodyRuns Proofs.Tryz.prog (kf90 Proofs.Tryz.prog).orc 88 0 sh88_0 shb88_0 shr88_0 ((x1,x2,x3,()),(b0_0,()),(b1_0,b1_1,()),())) (t88_0 x1 x2 x3 b0_0 b1_0 b1_1) :=
  Walks.ok (fun _ _ _=>BodyRuns.of) (wk88_0 x1 x2 x3 b0_0 b1_0 b1_1) (by kernel_rfl)
theorem ok88_0:qaw Proofs.Tryz.prog 88 0 lc88_0:=qas (sh:=sh88_0) (shB:=shb88_0) (shR:=shr88_0) kf90_ok.base (T:=fun (d:sh88_0.data)=>t88_0 d.1.1 d.1.2.1 d.1.2.2.1 d.2.1.1 d.2.2.1.1 d.2.2.1.2.1) (by kernel_rfl) rfl (fun (d:sh88_0.data)=>ok88_0_t d.1.1 d.1.2.1 d.1.2.2.1 d.2.1.1 d.2.2.1.1 d.2.2.1.2.1) (fun _=>rfl)
def kl88_0 (P:Go.Program):Known:=(kf90 P).loop 88 0 lc88_0
theorem kl88_0_ok:KnownOk Proofs.Tryz.prog (kl88_0 Proofs.Tryz.prog):=kf90_ok.loop ok88_0
abbrev as40:List Ty:=[(.slice (.pair (.int .i64) (.pair (.int .i64) (.pair .bool .unit)))),(.pair (.int .i64) (.pair (.slice (.pair (.int .i64) (.pair .bool .unit))) .unit))]
abbrev rs40:List Ty:=[(.int .i64),(.int .i64)]
def t40 (x0:(List (Int×(Int×(Bool×Unit))))) (x1:Int) (x1':(List (Int×(Bool×Unit)))):Tr (Tys.data rs40) :=
  Tr.test (Option.isSome (f86 (x0,())))
    (let r0:=g86 (x0,());
    Tr.test ((!eqF r0.2.1 0:Bool))
      (Tr.fin ((r0.1,(r0.2.1,()))))
      (Tr.test (Option.isSome (f73 (x1,())))
        (Tr.test (Option.isSome (f43 ((!eqF (↑(List.length x1'):Int) (↑(List.length x0):Int):Bool),((10:Int),()))))
          (let r1:=g73 (x1,());
          let r2:=g43 ((!eqF (↑(List.length x1'):Int) (↑(List.length x0):Int):Bool),((10:Int),()));
          Tr.test (Option.isSome (f41 (([r1.1,r2.1]:List Int),())))
            (let r3:=g41 (([r1.1,r2.1]:List Int),());
            Tr.test ((!eqF r3.1 0:Bool))
              (Tr.fin (((0:Int),(r3.1,()))))
              (Tr.test (Option.isSome (l88_0 ((x1',((↑(List.length x1'):Int),((0:Int),()))),((x0,()),((x1,(x1',())),())))))
                (Tr.test (qaA (l88_0 ((x1',((↑(List.length x1'):Int),((0:Int),()))),((x0,()),((x1,(x1',())),())))))
                  (let r4:=r88_0 ((x1',((↑(List.length x1'):Int),((0:Int),()))),((x0,()),((x1,(x1',())),())));
                  Tr.fin ((r4.1.1,(r4.1.2.1,()))))
                  (Tr.fin (((0:Int),((0:Int),())))))
                (Tr.stop)))
            (Tr.stop))
          (Tr.stop))
        (Tr.stop)))
    (Tr.stop)
def f40 (d:Tys.data as40):Option (Tys.data rs40):=(t40 d.1 d.2.1.1 d.2.1.2.1).val
def g40 (d:Tys.data as40):Tys.data rs40:=(f40 d).getD (Tys.dflt rs40)
def p40:PureC:=pcOf as40 rs40 f40 g40
theorem wk40 (x0:(List (Int×(Int×(Bool×Unit))))) (x1:Int) (x1':(List (Int×(Bool×Unit)))):Walks (runPure (kl88_0 Proofs.Tryz.prog).orc Proofs.Tryz.prog 400 40 as40 rs40 (x0,(x1,x1',()),())) (t40 x0 x1 x1') [(bl 2 3,[2,4]),(bl 6 61,[2,4,6,8,10,12]),(bl 8 221,[2,4,6,8,10,12,14,16]),(bl 8 93,[2,4,6,8,10,12,14,16])] :=
  ⟨by kernel_rfl,by kernel_rfl,by kernel_rfl,by kernel_rfl,trivial⟩
theorem ok40_t (x0:(List (Int×(Int×(Bool×Unit))))) (x1:Int) (x1':(List (Int×(Bool×Unit)))):TrOk (PureRuns Proofs.Tryz.prog (kl88_0 Proofs.Tryz.prog).orc 40 as40 rs40 (x0,(x1,x1',()),())) (t40 x0 x1 x1') :=
  Walks.ok (fun _ _ _=>PureRuns.of) (wk40 x0 x1 x1') (by kernel_rfl)
theorem ok40:PureOk Proofs.Tryz.prog 40 p40:=qab kl88_0_ok.base (T:=fun (d:Tys.data as40)=>t40 d.1 d.2.1.1 d.2.1.2.1) (by kernel_rfl) (fun (d:Tys.data as40)=>ok40_t d.1 d.2.1.1 d.2.1.2.1)
def kf40 (P:Go.Program):Known:=(kl88_0 P).func 40 p40
theorem kf40_ok:KnownOk Proofs.Tryz.prog (kf40 Proofs.Tryz.prog):=kl88_0_ok.func ok40
theorem sc7_0:qav Proofs.Tryz.prog 7 0 = true:=qc4 (by kernel_rfl)
abbrev sh87_0_1 (P:Go.Program):Sh:={ n:=22,slots:=[0,3,6,7,8],pats:=[.yld 0,.ty (.int .i64),.ty (.slice (.int .i64)),.ty (.int .i64),.ty (.int .i64)],boxes:=[.lp (lpOf P 7 0 .ready none 99 [2,3,4,5] 1) [.ptr 2 1 0,.ptr 3 3 0,.ptr 4 1 0,.ptr 5 1 0],.dfr,.row [.ty (.slice (.pair (.int .i64) (.pair (.int .i64) (.pair (.slice (.pair (.int .i64) (.pair (.int .i64) (.pair .bool .unit)))) .unit))))],.row [.ty (.slice (.int .i64)),.ty (.slice (.int .i64)),.ty (.slice (.pair (.int .i64) (.pair (.slice (.pair (.int .i64) (.pair .bool .unit))) .unit)))],.row [.ty (.int .i64)],.row [.ty (.int .i64)]] }
abbrev shb87_0_1 (P:Go.Program):Sh:={ n:=22,slots:=[],pats:=[],boxes:=[.lp (lpOf P 7 0 .ready none 99 [2,3,4,5] 1) [.ptr 2 1 0,.ptr 3 3 0,.ptr 4 1 0,.ptr 5 1 0],.dfr,.row [.ty (.slice (.pair (.int .i64) (.pair (.int .i64) (.pair (.slice (.pair (.int .i64) (.pair (.int .i64) (.pair .bool .unit)))) .unit))))],.row [.ty (.slice (.int .i64)),.ty (.slice (.int .i64)),.ty (.slice (.pair (.int .i64) (.pair (.slice (.pair (.int .i64) (.pair .bool .unit))) .unit)))],.row [.ty (.int .i64)],.row [.ty (.int .i64)]] }
abbrev shr87_0_1 (P:Go.Program):Sh:={ n:=22,slots:=[],pats:=[],boxes:=[.lp (lpOf P 7 0 .done (some none) 99 [2,3,4,5] 1) [.ptr 2 1 0,.ptr 3 3 0,.ptr 4 1 0,.ptr 5 1 0],.dfr,.row [.ty (.slice (.pair (.int .i64) (.pair (.int .i64) (.pair (.slice (.pair (.int .i64) (.pair (.int .i64) (.pair .bool .unit)))) .unit))))],.row [.ty (.slice (.int .i64)),.ty (.slice (.int .i64)),.ty (.slice (.pair (.int .i64) (.pair (.slice (.pair (.int .i64) (.pair .bool .unit))) .unit)))],.row [.ty (.int .i64)],.row [.ty (.int .i64)]] }
abbrev dt87_0_1:Type:=(Int×List Int×Int×Int×PUnit)×PUnit×(List (Int×Int×List (Int×Int×Bool×PUnit)×PUnit)×PUnit)×(List Int×List Int×List (Int×List (Int×Bool×PUnit)×PUnit)×PUnit)×(Int×PUnit)×(Int×PUnit)×PUnit
abbrev db87_0_1:Type:=PUnit×PUnit×(List (Int×Int×List (Int×Int×Bool×PUnit)×PUnit)×PUnit)×(List Int×List Int×List (Int×List (Int×Bool×PUnit)×PUnit)×PUnit)×(Int×PUnit)×(Int×PUnit)×PUnit
abbrev dr87_0_1:Type:=PUnit×PUnit×(List (Int×Int×List (Int×Int×Bool×PUnit)×PUnit)×PUnit)×(List Int×List Int×List (Int×List (Int×Bool×PUnit)×PUnit)×PUnit)×(Int×PUnit)×(Int×PUnit)×PUnit
def t87_0_1 (x1:Int) (x2:(List Int)) (x3:Int) (x4:Int) (b2_0:(List (Int×(Int×((List (Int×(Int×(Bool×Unit))))×Unit))))) (b3_0:(List Int)) (b3_1:(List Int)) (b3_2:(List (Int×((List (Int×(Bool×Unit)))×Unit)))) (b4_0:Int) (b5_0:Int):Tr (Out dt87_0_1 db87_0_1 dr87_0_1) :=
  Tr.test ((!leF x3 x4:Bool))
    (Tr.test (decide ((0:Int) ≤ x4) && decide (x4 < (↑(List.length x2):Int)))
      (Tr.test ((decide ((0:Int) ≤ x4) && decide (x4 < (↑(List.length b2_0):Int)):Bool))
        (Tr.test ((decide ((0:Int) ≤ x4) && decide (x4 < (↑(List.length b3_2):Int)):Bool))
          (Tr.test (Option.isSome (f40 (((List.getD b2_0 (Int.toNat x4) ((0:Int),(0:Int),[],())).2.2.1:List (Int×Int×Bool×PUnit)),((((List.getD b3_2 (Int.toNat x4) ((0:Int),[],())).1:Int),(((List.getD b3_2 (Int.toNat x4) ((0:Int),[],())).2.1:List (Int×Bool×PUnit)),())),()))))
            (Tr.test ((decide ((0:Int) ≤ x4) && decide (x4 < (↑(List.length b3_0):Int)):Bool))
              (Tr.test ((decide ((0:Int) ≤ x4) && decide (x4 < (↑(List.length b3_1):Int)):Bool))
                (Tr.test (Option.isSome (f42 ((10000:Int),(([List.getD b3_0 (Int.toNat x4) (0:Int),List.getD b3_1 (Int.toNat x4) (0:Int)]:List Int),()))))
                  (Tr.test (Option.isSome (f43 ((!eqF (List.getD b3_2 (Int.toNat x4) ((0:Int),[],())).1 (wrap64 (List.getD x2 (Int.toNat x4) (0:Int) - x1)):Bool),((13:Int),()))))
                    (Tr.test (Option.isSome (f44 (((List.getD b2_0 (Int.toNat x4) ((0:Int),(0:Int),[],())).2.1:Int),(([wrap64 (List.getD x2 (Int.toNat x4) (0:Int) - x1)]:List Int),()))))
                      (let r0:=g44 (((List.getD b2_0 (Int.toNat x4) ((0:Int),(0:Int),[],())).2.1:Int),(([wrap64 (List.getD x2 (Int.toNat x4) (0:Int) - x1)]:List Int),()));
                      Tr.test (Option.isSome (f43 (r0.1,((22:Int),()))))
                        (let r1:=g42 ((10000:Int),(([List.getD b3_0 (Int.toNat x4) (0:Int),List.getD b3_1 (Int.toNat x4) (0:Int)]:List Int),()));
                        let r2:=g40 (((List.getD b2_0 (Int.toNat x4) ((0:Int),(0:Int),[],())).2.2.1:List (Int×Int×Bool×PUnit)),((((List.getD b3_2 (Int.toNat x4) ((0:Int),[],())).1:Int),(((List.getD b3_2 (Int.toNat x4) ((0:Int),[],())).2.1:List (Int×Bool×PUnit)),())),()));
                        let r3:=g43 ((!eqF (List.getD b3_2 (Int.toNat x4) ((0:Int),[],())).1 (wrap64 (List.getD x2 (Int.toNat x4) (0:Int) - x1)):Bool),((13:Int),()));
                        let r4:=g43 (r0.1,((22:Int),()));
                        Tr.test (Option.isSome (f41 (([r1.1,r2.2.1,r3.1,r4.1]:List Int),())))
                          (let r5:=g41 (([r1.1,r2.2.1,r3.1,r4.1]:List Int),());
                          Tr.test ((!eqF r5.1 0:Bool))
                            (Tr.fin (.ret ((),((),((b2_0,()),((b3_0,(b3_1,(b3_2,()))),((x4,()),((r5.1,()),()))))))))
                            (Tr.fin (.again (((List.getD x2 (Int.toNat x4) (0:Int):Int),(x2,(x3,((wrap64 (x4 + (1:Int)):Int),())))),((),((b2_0,()),((b3_0,(b3_1,(b3_2,()))),((b4_0,()),((b5_0,()),())))))))))
                          (Tr.stop))
                        (Tr.stop))
                      (Tr.stop))
                    (Tr.stop))
                  (Tr.stop))
                (Tr.stop))
              (Tr.stop))
            (Tr.stop))
          (Tr.stop))
        (Tr.stop))
      (Tr.stop))
    (Tr.fin (.brk ((),((),((b2_0,()),((b3_0,(b3_1,(b3_2,()))),((b4_0,()),((b5_0,()),()))))))))
def s87_0_1 (d:dt87_0_1):Option (Out dt87_0_1 db87_0_1 dr87_0_1):=(t87_0_1 d.1.1 d.1.2.1 d.1.2.2.1 d.1.2.2.2.1 d.2.2.1.1 d.2.2.2.1.1 d.2.2.2.1.2.1 d.2.2.2.1.2.2.1 d.2.2.2.2.1.1 d.2.2.2.2.2.1.1).val
def l87_0_1 (d:dt87_0_1):Option (db87_0_1 ⊕ dr87_0_1):=itr s87_0_1 rounds d
def b87_0_1 (d:dt87_0_1):db87_0_1:=outB (((),((),((([]:List (Int×Int×List (Int×Int×Bool×PUnit)×PUnit)),()),((([]:List Int),(([]:List Int),(([]:List (Int×List (Int×Bool×PUnit)×PUnit)),()))),(((0:Int),()),(((0:Int),()),()))))))) (l87_0_1 d)
def r87_0_1 (d:dt87_0_1):dr87_0_1:=outR (((),((),((([]:List (Int×Int×List (Int×Int×Bool×PUnit)×PUnit)),()),((([]:List Int),(([]:List Int),(([]:List (Int×List (Int×Bool×PUnit)×PUnit)),()))),(((0:Int),()),(((0:Int),()),()))))))) (l87_0_1 d)
def lc87_0_1 (P:Go.Program):LoopC:=lcOf (sh87_0_1 P) (shb87_0_1 P) (shr87_0_1 P) l87_0_1 b87_0_1 r87_0_1
theorem e87_0_1_0 (x1:Int) (x2:(List Int)) (x3:Int) (x4:Int) (b2_0:(List (Int×(Int×((List (Int×(Int×(Bool×Unit))))×Unit))))) (b3_0:(List Int)) (b3_1:(List Int)) (b3_2:(List (Int×((List (Int×(Bool×Unit)))×Unit)))) (b4_0:Int) (b5_0:Int):qak (kf40 Proofs.Tryz.prog).orc Proofs.Tryz.prog 400 87 0 (sh87_0_1 Proofs.Tryz.prog) (shb87_0_1 Proofs.Tryz.prog) (shr87_0_1 Proofs.Tryz.prog) ((x1,x2,x3,x4,()),(),(b2_0,()),(b3_0,b3_1,b3_2,()),(b4_0,()),(b5_0,()),()) [tt,tt,tt,tt,tt,tt,tt,tt,tt,tt,tt,tt,tt,tt] =
    (let r0:=g44 (((List.getD b2_0 (Int.toNat x4) ((0:Int),(0:Int),[],())).2.1:Int),(([wrap64 (List.getD x2 (Int.toNat x4) (0:Int) - x1)]:List Int),()));let r1:=g42 ((10000:Int),(([List.getD b3_0 (Int.toNat x4) (0:Int),List.getD b3_1 (Int.toNat x4) (0:Int)]:List Int),()));let r2:=g40 (((List.getD b2_0 (Int.toNat x4) ((0:Int),(0:Int),[],())).2.2.1:List (Int×Int×Bool×PUnit)),((((List.getD b3_2 (Int.toNat x4) ((0:Int),[],())).1:Int),(((List.getD b3_2 (Int.toNat x4) ((0:Int),[],())).2.1:List (Int×Bool×PUnit)),())),()));let r3:=g43 (!eqF (List.getD b3_2 (Int.toNat x4) ((0:Int),[],())).1 (wrap64 (List.getD x2 (Int.toNat x4) (0:Int) - x1)),((13:Int),()));let r4:=g43 (r0.1,((22:Int),()));let r5:=g41 (([r1.1,r2.2.1,r3.1,r4.1]:List Int),()); some (.ret ((),((),((b2_0,()),((b3_0,(b3_1,(b3_2,()))),((x4,()),((r5.1,()),())))))),[(qav Proofs.Tryz.prog (nat_lit 7) (nat_lit 0),true),(true,true),(!eqF r5.1 0,true),(Option.isSome (f41 (([r1.1,r2.2.1,r3.1,r4.1]:List Int),())),true),(Option.isSome (f43 (r0.1,((22:Int),()))),true),(Option.isSome (f44 (((List.getD b2_0 (Int.toNat x4) ((0:Int),(0:Int),[],())).2.1:Int),(([wrap64 (List.getD x2 (Int.toNat x4) (0:Int) - x1)]:List Int),()))),true),(Option.isSome (f43 (!eqF (List.getD b3_2 (Int.toNat x4) ((0:Int),[],())).1 (wrap64 (List.getD x2 (Int.toNat x4) (0:Int) - x1)),((13:Int),()))),true),(Option.isSome (f42 ((10000:Int),(([List.getD b3_0 (Int.toNat x4) (0:Int),List.getD b3_1 (Int.toNat x4) (0:Int)]:List Int),()))),true),(decide ((0:Int) ≤ x4) && decide (x4 < (↑(List.length b3_1):Int)),true),(decide ((0:Int) ≤ x4) && decide (x4 < (↑(List.length b3_0):Int)),true),(Option.isSome (f40 (((List.getD b2_0 (Int.toNat x4) ((0:Int),(0:Int),[],())).2.2.1:List (Int×Int×Bool×PUnit)),((((List.getD b3_2 (Int.toNat x4) ((0:Int),[],())).1:Int),(((List.getD b3_2 (Int.toNat x4) ((0:Int),[],())).2.1:List (Int×Bool×PUnit)),())),()))),true),(decide ((0:Int) ≤ x4) && decide (x4 < (↑(List.length b3_2):Int)),true),(decide ((0:Int) ≤ x4) && decide (x4 < (↑(List.length b2_0):Int)),true),(decide ((0:Int) ≤ x4) && decide (x4 < (↑(List.length x2):Int)),true),(!leF x3 x4,true)])):=by kernel_rfl
theorem e87_0_1_1 (x1:Int) (x2:(List Int)) (x3:Int) (x4:Int) (b2_0:(List (Int×(Int×((List (Int×(Int×(Bool×Unit))))×Unit))))) (b3_0:(List Int)) (b3_1:(List Int)) (b3_2:(List (Int×((List (Int×(Bool×Unit)))×Unit)))) (b4_0:Int) (b5_0:Int):qak (kf40 Proofs.Tryz.prog).orc Proofs.Tryz.prog 400 87 0 (sh87_0_1 Proofs.Tryz.prog) (shb87_0_1 Proofs.Tryz.prog) (shr87_0_1 Proofs.Tryz.prog) ((x1,x2,x3,x4,()),(),(b2_0,()),(b3_0,b3_1,b3_2,()),(b4_0,()),(b5_0,()),()) [tt,tt,tt,tt,tt,tt,tt,tt,tt,tt,tt,tt,ff,ff] =
    (let r0:=g44 (((List.getD b2_0 (Int.toNat x4) ((0:Int),(0:Int),[],())).2.1:Int),(([wrap64 (List.getD x2 (Int.toNat x4) (0:Int) - x1)]:List Int),()));let r1:=g42 ((10000:Int),(([List.getD b3_0 (Int.toNat x4) (0:Int),List.getD b3_1 (Int.toNat x4) (0:Int)]:List Int),()));let r2:=g40 (((List.getD b2_0 (Int.toNat x4) ((0:Int),(0:Int),[],())).2.2.1:List (Int×Int×Bool×PUnit)),((((List.getD b3_2 (Int.toNat x4) ((0:Int),[],())).1:Int),(((List.getD b3_2 (Int.toNat x4) ((0:Int),[],())).2.1:List (Int×Bool×PUnit)),())),()));let r3:=g43 (!eqF (List.getD b3_2 (Int.toNat x4) ((0:Int),[],())).1 (wrap64 (List.getD x2 (Int.toNat x4) (0:Int) - x1)),((13:Int),()));let r4:=g43 (r0.1,((22:Int),()));let r5:=g41 (([r1.1,r2.2.1,r3.1,r4.1]:List Int),()); some (.again (((List.getD x2 (Int.toNat x4) (0:Int):Int),(x2,(x3,((wrap64 (x4 + (1:Int)):Int),())))),((),((b2_0,()),((b3_0,(b3_1,(b3_2,()))),((b4_0,()),((b5_0,()),())))))),[(qav Proofs.Tryz.prog (nat_lit 7) (nat_lit 0),true),(false,false),(!eqF r5.1 0,false),(Option.isSome (f41 (([r1.1,r2.2.1,r3.1,r4.1]:List Int),())),true),(Option.isSome (f43 (r0.1,((22:Int),()))),true),(Option.isSome (f44 (((List.getD b2_0 (Int.toNat x4) ((0:Int),(0:Int),[],())).2.1:Int),(([wrap64 (List.getD x2 (Int.toNat x4) (0:Int) - x1)]:List Int),()))),true),(Option.isSome (f43 (!eqF (List.getD b3_2 (Int.toNat x4) ((0:Int),[],())).1 (wrap64 (List.getD x2 (Int.toNat x4) (0:Int) - x1)),((13:Int),()))),true),(Option.isSome (f42 ((10000:Int),(([List.getD b3_0 (Int.toNat x4) (0:Int),List.getD b3_1 (Int.toNat x4) (0:Int)]:List Int),()))),true),(decide ((0:Int) ≤ x4) && decide (x4 < (↑(List.length b3_1):Int)),true),(decide ((0:Int) ≤ x4) && decide (x4 < (↑(List.length b3_0):Int)),true),(Option.isSome (f40 (((List.getD b2_0 (Int.toNat x4) ((0:Int),(0:Int),[],())).2.2.1:List (Int×Int×Bool×PUnit)),((((List.getD b3_2 (Int.toNat x4) ((0:Int),[],())).1:Int),(((List.getD b3_2 (Int.toNat x4) ((0:Int),[],())).2.1:List (Int×Bool×PUnit)),())),()))),true),(decide ((0:Int) ≤ x4) && decide (x4 < (↑(List.length b3_2):Int)),true),(decide ((0:Int) ≤ x4) && decide (x4 < (↑(List.length b2_0):Int)),true),(decide ((0:Int) ≤ x4) && decide (x4 < (↑(List.length x2):Int)),true),(!leF x3 x4,true)])):=by kernel_rfl
theorem e87_0_1_7 (x1:Int) (x2:(List Int)) (x3:Int) (x4:Int) (b2_0:(List (Int×(Int×((List (Int×(Int×(Bool×Unit))))×Unit))))) (b3_0:(List Int)) (b3_1:(List Int)) (b3_2:(List (Int×((List (Int×(Bool×Unit)))×Unit)))) (b4_0:Int) (b5_0:Int):qak (kf40 Proofs.Tryz.prog).orc Proofs.Tryz.prog 400 87 0 (sh87_0_1 Proofs.Tryz.prog) (shb87_0_1 Proofs.Tryz.prog) (shr87_0_1 Proofs.Tryz.prog) ((x1,x2,x3,x4,()),(),(b2_0,()),(b3_0,b3_1,b3_2,()),(b4_0,()),(b5_0,()),()) [ff] =
    (some (.brk ((),((),((b2_0,()),((b3_0,(b3_1,(b3_2,()))),((b4_0,()),((b5_0,()),())))))),[(qav Proofs.Tryz.prog (nat_lit 7) (nat_lit 0),true),(!leF x3 x4,false)])):=by kernel_rfl
theorem ok87_0_1_t (x1:Int) (x2:(List Int)) (x3:Int) (x4:Int) (b2_0:(List (Int×(Int×((List (Int×(Int×(Bool×Unit))))×Unit))))) (b3_0:(List Int)) (b3_1:(List Int)) (b3_2:(List (Int×((List (Int×(Bool×Unit)))×Unit)))) (b4_0:Int) (b5_0:Int):TrOk (BodyRuns Proofs.Tryz.prog (kf40 Proofs.Tryz.prog).orc 87 0 (sh87_0_1 Proofs.Tryz.prog) (shb87_0_1 Proofs.Tryz.prog) (shr87_0_1 Proofs.Tryz.prog) ((x1,x2,x3,x4,()),(),(b2_0,()),(b3_0,b3_1,b3_2,()),(b4_0,()),(b5_0,()),())) (t87_0_1 x1 x2 x3 x4 b2_0 b3_0 b3_1 b3_2 b4_0 b5_0) :=
  TrOk.ofTest (fun h0=>TrOk.ofTest (fun h1=>TrOk.ofTest (fun h2=>TrOk.ofTest (fun h3=>TrOk.ofTest (fun h4=>TrOk.ofTest (fun h5=>TrOk.ofTest (fun h6=>TrOk.ofTest (fun h7=>TrOk.ofTest (fun h8=>TrOk.ofTest (fun h9=>TrOk.ofTest (fun h10=>TrOk.ofTest (fun h11=>TrOk.ofTest (fun h12=>TrOk.ofFin (BodyRuns.of (e87_0_1_0 x1 x2 x3 x4 b2_0 b3_0 b3_1 b3_2 b4_0 b5_0) (ac (sc7_0) (ac rfl (ac h12 (ac h11 (ac h10 (ac h9 (ac h8 (ac h7 (ac h6 (ac h5 (ac h4 (ac h3 (ac h2 (ac h1 (ac h0 All.nil))))))))))))))))) (fun h12=>TrOk.ofFin (BodyRuns.of (e87_0_1_1 x1 x2 x3 x4 b2_0 b3_0 b3_1 b3_2 b4_0 b5_0) (ac (sc7_0) (ac rfl (ac h12 (ac h11 (ac h10 (ac h9 (ac h8 (ac h7 (ac h6 (ac h5 (ac h4 (ac h3 (ac h2 (ac h1 (ac h0 All.nil)))))))))))))))))) (fun h11=>TrOk.ofStop)) (fun h10=>TrOk.ofStop)) (fun h9=>TrOk.ofStop)) (fun h8=>TrOk.ofStop)) (fun h7=>TrOk.ofStop)) (fun h6=>TrOk.ofStop)) (fun h5=>TrOk.ofStop)) (fun h4=>TrOk.ofStop)) (fun h3=>TrOk.ofStop)) (fun h2=>TrOk.ofStop)) (fun h1=>TrOk.ofStop)) (fun h0=>TrOk.ofFin (BodyRuns.of (e87_0_1_7 x1 x2 x3 x4 b2_0 b3_0 b3_1 b3_2 b4_0 b5_0) (ac (sc7_0) (ac h0 All.nil))))
theorem ok87_0_1:qaw Proofs.Tryz.prog 87 0 (lc87_0_1 Proofs.Tryz.prog):=qas (sh:=(sh87_0_1 Proofs.Tryz.prog)) (shB:=(shb87_0_1 Proofs.Tryz.prog)) (shR:=(shr87_0_1 Proofs.Tryz.prog)) kf40_ok.base (T:=fun (d:dt87_0_1)=>t87_0_1 d.1.1 d.1.2.1 d.1.2.2.1 d.1.2.2.2.1 d.2.2.1.1 d.2.2.2.1.1 d.2.2.2.1.2.1 d.2.2.2.1.2.2.1 d.2.2.2.2.1.1 d.2.2.2.2.2.1.1) (by kernel_rfl) rfl (fun (d:dt87_0_1)=>ok87_0_1_t d.1.1 d.1.2.1 d.1.2.2.1 d.1.2.2.2.1 d.2.2.1.1 d.2.2.2.1.1 d.2.2.2.1.2.1 d.2.2.2.1.2.2.1 d.2.2.2.2.1.1 d.2.2.2.2.2.1.1) (fun _=>rfl)
def kl87_0_1 (P:Go.Program):Known:=(kf40 P).loop 87 0 (lc87_0_1 P)
theorem kl87_0_1_ok:KnownOk Proofs.Tryz.prog (kl87_0_1 Proofs.Tryz.prog):=kf40_ok.loop ok87_0_1
abbrev as7:List Ty:=[(.pair (.slice (.pair (.int .i64) (.pair (.int .i64) (.pair (.slice (.pair (.int .i64) (.pair (.int .i64) (.pair .bool .unit)))) .unit)))) .unit),(.pair (.slice (.int .i64)) (.pair (.slice (.int .i64)) (.pair (.slice (.pair (.int .i64) (.pair (.slice (.pair (.int .i64) (.pair .bool .unit))) .unit))) .unit)))]
abbrev rs7:List Ty:=[(.int .i64),(.int .i64)]
def t7 (x0:(List (Int×(Int×((List (Int×(Int×(Bool×Unit))))×Unit))))) (x1:(List Int)) (x1':(List Int)) (x1'':(List (Int×((List (Int×(Bool×Unit)))×Unit)))):Tr (Tys.data rs7) :=
  Tr.test (Option.isSome (f38 ((x0,()),())))
    (let r0:=g38 ((x0,()),());
    Tr.test ((!eqF r0.2.1 0:Bool))
      (Tr.fin ((r0.1,(r0.2.1,()))))
      (Tr.test ((!eqF (↑(List.length x1):Int) (↑(List.length x0):Int):Bool))
        (Tr.fin (((0:Int),((10:Int),()))))
        (Tr.test ((!eqF (↑(List.length x1'):Int) (↑(List.length x0):Int):Bool))
          (Tr.fin (((0:Int),((10:Int),()))))
          (Tr.test ((!eqF (↑(List.length x1''):Int) (↑(List.length x0):Int):Bool))
            (Tr.fin (((0:Int),((10:Int),()))))
            (Tr.test (Option.isSome (l87_0_1 (((0:Int),(x1,((↑(List.length x1):Int),((0:Int),())))),((),((x0,()),((x1,(x1',(x1'',()))),(((0:Int),()),(((0:Int),()),()))))))))
              (Tr.test (qaA (l87_0_1 (((0:Int),(x1,((↑(List.length x1):Int),((0:Int),())))),((),((x0,()),((x1,(x1',(x1'',()))),(((0:Int),()),(((0:Int),()),()))))))))
                (let r1:=r87_0_1 (((0:Int),(x1,((↑(List.length x1):Int),((0:Int),())))),((),((x0,()),((x1,(x1',(x1'',()))),(((0:Int),()),(((0:Int),()),()))))));
                Tr.fin ((r1.2.2.2.2.1.1,(r1.2.2.2.2.2.1.1,()))))
                (Tr.fin (((0:Int),((0:Int),())))))
              (Tr.stop))))))
    (Tr.stop)
def f7 (d:Tys.data as7):Option (Tys.data rs7):=(t7 d.1.1 d.2.1.1 d.2.1.2.1 d.2.1.2.2.1).val
def g7 (d:Tys.data as7):Tys.data rs7:=(f7 d).getD (Tys.dflt rs7)
def p7:PureC:=pcOf as7 rs7 f7 g7
theorem e7_0 (x0:(List (Int×(Int×((List (Int×(Int×(Bool×Unit))))×Unit))))) (x1:(List Int)) (x1':(List Int)) (x1'':(List (Int×((List (Int×(Bool×Unit)))×Unit)))):runPure (kl87_0_1 Proofs.Tryz.prog).orc Proofs.Tryz.prog 400 7 as7 rs7 ((x0,()),(x1,x1',x1'',()),()) [tt,tt] =
    (let r0:=g38 ((x0,()),()); some ((r0.1,(r0.2.1,())),[(!eqF r0.2.1 0,true),(Option.isSome (f38 ((x0,()),())),true)])):=by kernel_rfl
theorem e7_1 (x0:(List (Int×(Int×((List (Int×(Int×(Bool×Unit))))×Unit))))) (x1:(List Int)) (x1':(List Int)) (x1'':(List (Int×((List (Int×(Bool×Unit)))×Unit)))):runPure (kl87_0_1 Proofs.Tryz.prog).orc Proofs.Tryz.prog 400 7 as7 rs7 ((x0,()),(x1,x1',x1'',()),()) [tt,ff,tt,tt,tt,tt,tt,tt,tt,tt,tt,tt,tt,tt,tt] =
    (let r0:=g38 ((x0,()),()); some (((0:Int),((10:Int),())),[(true,true),(true,true),(true,true),(true,true),(true,true),(true,true),(true,true),(!eqF (↑(List.length x1):Int) (↑(List.length x0):Int),true),(!eqF (↑(List.length x1):Int) (↑(List.length x0):Int),true),(!eqF (↑(List.length x1):Int) (↑(List.length x0):Int),true),(!eqF (↑(List.length x1):Int) (↑(List.length x0):Int),true),(!eqF (↑(List.length x1):Int) (↑(List.length x0):Int),true),(!eqF (↑(List.length x1):Int) (↑(List.length x0):Int),true),(!eqF r0.2.1 0,false),(Option.isSome (f38 ((x0,()),())),true)])):=by kernel_rfl
theorem e7_2 (x0:(List (Int×(Int×((List (Int×(Int×(Bool×Unit))))×Unit))))) (x1:(List Int)) (x1':(List Int)) (x1'':(List (Int×((List (Int×(Bool×Unit)))×Unit)))):runPure (kl87_0_1 Proofs.Tryz.prog).orc Proofs.Tryz.prog 400 7 as7 rs7 ((x0,()),(x1,x1',x1'',()),()) [tt,ff,ff,ff,ff,ff,ff,ff,tt,tt,tt,tt,tt,tt,tt] =
    (let r0:=g38 ((x0,()),()); some (((0:Int),((10:Int),())),[(true,true),(!eqF (↑(List.length x1'):Int) (↑(List.length x0):Int),true),(!eqF (↑(List.length x1'):Int) (↑(List.length x0):Int),true),(!eqF (↑(List.length x1'):Int) (↑(List.length x0):Int),true),(!eqF (↑(List.length x1'):Int) (↑(List.length x0):Int),true),(!eqF (↑(List.length x1'):Int) (↑(List.length x0):Int),true),(!eqF (↑(List.length x1'):Int) (↑(List.length x0):Int),true),(!eqF (↑(List.length x1):Int) (↑(List.length x0):Int),false),(!eqF (↑(List.length x1):Int) (↑(List.length x0):Int),false),(!eqF (↑(List.length x1):Int) (↑(List.length x0):Int),false),(!eqF (↑(List.length x1):Int) (↑(List.length x0):Int),false),(!eqF (↑(List.length x1):Int) (↑(List.length x0):Int),false),(!eqF (↑(List.length x1):Int) (↑(List.length x0):Int),false),(!eqF r0.2.1 0,false),(Option.isSome (f38 ((x0,()),())),true)])):=by kernel_rfl
theorem e7_3 (x0:(List (Int×(Int×((List (Int×(Int×(Bool×Unit))))×Unit))))) (x1:(List Int)) (x1':(List Int)) (x1'':(List (Int×((List (Int×(Bool×Unit)))×Unit)))):runPure (kl87_0_1 Proofs.Tryz.prog).orc Proofs.Tryz.prog 400 7 as7 rs7 ((x0,()),(x1,x1',x1'',()),()) [tt,ff,ff,ff,ff,ff,ff,ff,ff,ff,ff,ff,ff,ff,tt] =
    (let r0:=g38 ((x0,()),()); some (((0:Int),((10:Int),())),[(!eqF (↑(List.length x1''):Int) (↑(List.length x0):Int),true),(!eqF (↑(List.length x1'):Int) (↑(List.length x0):Int),false),(!eqF (↑(List.length x1'):Int) (↑(List.length x0):Int),false),(!eqF (↑(List.length x1'):Int) (↑(List.length x0):Int),false),(!eqF (↑(List.length x1'):Int) (↑(List.length x0):Int),false),(!eqF (↑(List.length x1'):Int) (↑(List.length x0):Int),false),(!eqF (↑(List.length x1'):Int) (↑(List.length x0):Int),false),(!eqF (↑(List.length x1):Int) (↑(List.length x0):Int),false),(!eqF (↑(List.length x1):Int) (↑(List.length x0):Int),false),(!eqF (↑(List.length x1):Int) (↑(List.length x0):Int),false),(!eqF (↑(List.length x1):Int) (↑(List.length x0):Int),false),(!eqF (↑(List.length x1):Int) (↑(List.length x0):Int),false),(!eqF (↑(List.length x1):Int) (↑(List.length x0):Int),false),(!eqF r0.2.1 0,false),(Option.isSome (f38 ((x0,()),())),true)])):=by kernel_rfl
theorem e7_4 (x0:(List (Int×(Int×((List (Int×(Int×(Bool×Unit))))×Unit))))) (x1:(List Int)) (x1':(List Int)) (x1'':(List (Int×((List (Int×(Bool×Unit)))×Unit)))):runPure (kl87_0_1 Proofs.Tryz.prog).orc Proofs.Tryz.prog 400 7 as7 rs7 ((x0,()),(x1,x1',x1'',()),()) [tt,ff,ff,ff,ff,ff,ff,ff,ff,ff,ff,ff,ff,ff,ff,tt,tt,tt] =
    (let r0:=g38 ((x0,()),());let r1:=r87_0_1 (((0:Int),(x1,((↑(List.length x1):Int),((0:Int),())))),((),((x0,()),((x1,(x1',(x1'',()))),(((0:Int),()),(((0:Int),()),())))))); some ((r1.2.2.2.2.1.1,(r1.2.2.2.2.2.1.1,())),[(qaA (l87_0_1 (((0:Int),(x1,((↑(List.length x1):Int),((0:Int),())))),((),((x0,()),((x1,(x1',(x1'',()))),(((0:Int),()),(((0:Int),()),()))))))),true),(Option.isSome (l87_0_1 (((0:Int),(x1,((↑(List.length x1):Int),((0:Int),())))),((),((x0,()),((x1,(x1',(x1'',()))),(((0:Int),()),(((0:Int),()),()))))))),true),(qav Proofs.Tryz.prog (nat_lit 7) (nat_lit 0),true),(!eqF (↑(List.length x1''):Int) (↑(List.length x0):Int),false),(!eqF (↑(List.length x1'):Int) (↑(List.length x0):Int),false),(!eqF (↑(List.length x1'):Int) (↑(List.length x0):Int),false),(!eqF (↑(List.length x1'):Int) (↑(List.length x0):Int),false),(!eqF (↑(List.length x1'):Int) (↑(List.length x0):Int),false),(!eqF (↑(List.length x1'):Int) (↑(List.length x0):Int),false),(!eqF (↑(List.length x1'):Int) (↑(List.length x0):Int),false),(!eqF (↑(List.length x1):Int) (↑(List.length x0):Int),false),(!eqF (↑(List.length x1):Int) (↑(List.length x0):Int),false),(!eqF (↑(List.length x1):Int) (↑(List.length x0):Int),false),(!eqF (↑(List.length x1):Int) (↑(List.length x0):Int),false),(!eqF (↑(List.length x1):Int) (↑(List.length x0):Int),false),(!eqF (↑(List.length x1):Int) (↑(List.length x0):Int),false),(!eqF r0.2.1 0,false),(Option.isSome (f38 ((x0,()),())),true)])):=by kernel_rfl
theorem e7_5 (x0:(List (Int×(Int×((List (Int×(Int×(Bool×Unit))))×Unit))))) (x1:(List Int)) (x1':(List Int)) (x1'':(List (Int×((List (Int×(Bool×Unit)))×Unit)))):runPure (kl87_0_1 Proofs.Tryz.prog).orc Proofs.Tryz.prog 400 7 as7 rs7 ((x0,()),(x1,x1',x1'',()),()) [tt,ff,ff,ff,ff,ff,ff,ff,ff,ff,ff,ff,ff,ff,ff,tt,tt,ff] =
    (let r0:=g38 ((x0,()),()); some (((0:Int),((0:Int),())),[(qaA (l87_0_1 (((0:Int),(x1,((↑(List.length x1):Int),((0:Int),())))),((),((x0,()),((x1,(x1',(x1'',()))),(((0:Int),()),(((0:Int),()),()))))))),false),(Option.isSome (l87_0_1 (((0:Int),(x1,((↑(List.length x1):Int),((0:Int),())))),((),((x0,()),((x1,(x1',(x1'',()))),(((0:Int),()),(((0:Int),()),()))))))),true),(qav Proofs.Tryz.prog (nat_lit 7) (nat_lit 0),true),(!eqF (↑(List.length x1''):Int) (↑(List.length x0):Int),false),(!eqF (↑(List.length x1'):Int) (↑(List.length x0):Int),false),(!eqF (↑(List.length x1'):Int) (↑(List.length x0):Int),false),(!eqF (↑(List.length x1'):Int) (↑(List.length x0):Int),false),(!eqF (↑(List.length x1'):Int) (↑(List.length x0):Int),false),(!eqF (↑(List.length x1'):Int) (↑(List.length x0):Int),false),(!eqF (↑(List.length x1'):Int) (↑(List.length x0):Int),false),(!eqF (↑(List.length x1):Int) (↑(List.length x0):Int),false),(!eqF (↑(List.length x1):Int) (↑(List.length x0):Int),false),(!eqF (↑(List.length x1):Int) (↑(List.length x0):Int),false),(!eqF (↑(List.length x1):Int) (↑(List.length x0):Int),false),(!eqF (↑(List.length x1):Int) (↑(List.length x0):Int),false),(!eqF (↑(List.length x1):Int) (↑(List.length x0):Int),false),(!eqF r0.2.1 0,false),(Option.isSome (f38 ((x0,()),())),true)])):=by kernel_rfl
theorem ok7_t (x0:(List (Int×(Int×((List (Int×(Int×(Bool×Unit))))×Unit))))) (x1:(List Int)) (x1':(List Int)) (x1'':(List (Int×((List (Int×(Bool×Unit)))×Unit)))):TrOk (PureRuns Proofs.Tryz.prog (kl87_0_1 Proofs.Tryz.prog).orc 7 as7 rs7 ((x0,()),(x1,x1',x1'',()),())) (t7 x0 x1 x1' x1'') :=
  TrOk.ofTest (fun h0=>TrOk.ofTest (fun h1=>TrOk.ofFin (PureRuns.of (e7_0 x0 x1 x1' x1'') (ac h1 (ac h0 All.nil)))) (fun h1=>TrOk.ofTest (fun h2=>TrOk.ofFin (PureRuns.of (e7_1 x0 x1 x1' x1'') (ac rfl (ac rfl (ac rfl (ac rfl (ac rfl (ac rfl (ac rfl (ac (nn h2) (ac (nn h2) (ac (nn h2) (ac (nn h2) (ac (nn h2) (ac h2 (ac h1 (ac h0 All.nil))))))))))))))))) (fun h2=>TrOk.ofTest (fun h8=>TrOk.ofFin (PureRuns.of (e7_2 x0 x1 x1' x1'') (ac rfl (ac (nn h8) (ac (nn h8) (ac (nn h8) (ac (nn h8) (ac (nn h8) (ac h8 (ac (nn h2) (ac (nn h2) (ac (nn h2) (ac (nn h2) (ac (nn h2) (ac h2 (ac h1 (ac h0 All.nil))))))))))))))))) (fun h8=>TrOk.ofTest (fun h14=>TrOk.ofFin (PureRuns.of (e7_3 x0 x1 x1' x1'') (ac h14 (ac (nn h8) (ac (nn h8) (ac (nn h8) (ac (nn h8) (ac (nn h8) (ac h8 (ac (nn h2) (ac (nn h2) (ac (nn h2) (ac (nn h2) (ac (nn h2) (ac h2 (ac h1 (ac h0 All.nil))))))))))))))))) (fun h14=>TrOk.ofTest (fun h16=>TrOk.ofTest (fun h17=>TrOk.ofFin (PureRuns.of (e7_4 x0 x1 x1' x1'') (ac h17 (ac h16 (ac (sc7_0) (ac h14 (ac (nn h8) (ac (nn h8) (ac (nn h8) (ac (nn h8) (ac (nn h8) (ac h8 (ac (nn h2) (ac (nn h2) (ac (nn h2) (ac (nn h2) (ac (nn h2) (ac h2 (ac h1 (ac h0 All.nil)))))))))))))))))))) (fun h17=>TrOk.ofFin (PureRuns.of (e7_5 x0 x1 x1' x1'') (ac h17 (ac h16 (ac (sc7_0) (ac h14 (ac (nn h8) (ac (nn h8) (ac (nn h8) (ac (nn h8) (ac (nn h8) (ac h8 (ac (nn h2) (ac (nn h2) (ac (nn h2) (ac (nn h2) (ac (nn h2) (ac h2 (ac h1 (ac h0 All.nil))))))))))))))))))))) (fun h16=>TrOk.ofStop)))))) (fun h0=>TrOk.ofStop)
theorem ok7:PureOk Proofs.Tryz.prog 7 p7:=qab kl87_0_1_ok.base (T:=fun (d:Tys.data as7)=>t7 d.1.1 d.2.1.1 d.2.1.2.1 d.2.1.2.2.1) (by kernel_rfl) (fun (d:Tys.data as7)=>ok7_t d.1.1 d.2.1.1 d.2.1.2.1 d.2.1.2.2.1)
def kf7 (P:Go.Program):Known:=(kl87_0_1 P).func 7 p7
theorem kf7_ok:KnownOk Proofs.Tryz.prog (kf7 Proofs.Tryz.prog):=kl87_0_1_ok.func ok7
abbrev as45:List Ty:=[(.pair (.slice (.pair (.int .i64) (.pair (.int .i64) (.pair (.slice (.pair (.int .i64) (.pair (.int .i64) (.pair .bool .unit)))) .unit)))) .unit),(.pair (.slice (.int .i64)) (.pair (.slice (.int .i64)) (.pair (.slice (.pair (.int .i64) (.pair (.slice (.pair (.int .i64) (.pair .bool .unit))) .unit))) .unit))),(.slice (.int .i64))]
abbrev rs45:List Ty:=[(.pair (.pair (.pair (.slice (.pair (.int .i64) (.pair (.int .i64) (.pair (.slice (.pair (.int .i64) (.pair (.int .i64) (.pair .bool .unit)))) .unit)))) .unit) .unit) (.pair (.pair (.slice (.int .i64)) (.pair (.slice (.int .i64)) (.pair (.slice (.pair (.int .i64) (.pair (.slice (.pair (.int .i64) (.pair .bool .unit))) .unit))) .unit))) .unit)),(.int .i64)]
def t45 (x0:(List (Int×(Int×((List (Int×(Int×(Bool×Unit))))×Unit))))) (x1:(List Int)) (x1':(List Int)) (x1'':(List (Int×((List (Int×(Bool×Unit)))×Unit)))) (x2:(List Int)):Tr (Tys.data rs45) :=
  Tr.test (Option.isSome (f7 ((x0,()),((x1,(x1',(x1'',()))),()))))
    (Tr.test (Option.isSome (f41 (x2,())))
      (let r0:=g7 ((x0,()),((x1,(x1',(x1'',()))),()));
      let r1:=g41 (x2,());
      Tr.test (Option.isSome (f41 (([r0.2.1,r1.1]:List Int),())))
        (let r2:=g41 (([r0.2.1,r1.1]:List Int),());
        Tr.test ((!eqF r2.1 0:Bool))
          (Tr.fin (((((([]:List (Int×Int×List (Int×Int×Bool×PUnit)×PUnit)),()),()),((([]:List Int),(([]:List Int),(([]:List (Int×List (Int×Bool×PUnit)×PUnit)),()))),())),(r2.1,()))))
          (Tr.fin (((((x0,()),()),((x1,(x1',(x1'',()))),())),((0:Int),())))))
        (Tr.stop))
      (Tr.stop))
    (Tr.stop)
def f45 (d:Tys.data as45):Option (Tys.data rs45):=(t45 d.1.1 d.2.1.1 d.2.1.2.1 d.2.1.2.2.1 d.2.2.1).val
def g45 (d:Tys.data as45):Tys.data rs45:=(f45 d).getD (Tys.dflt rs45)
def p45:PureC:=pcOf as45 rs45 f45 g45
theorem wk45 (x0:(List (Int×(Int×((List (Int×(Int×(Bool×Unit))))×Unit))))) (x1:(List Int)) (x1':(List Int)) (x1'':(List (Int×((List (Int×(Bool×Unit)))×Unit)))) (x2:(List Int)):Walks (runPure (kf7 Proofs.Tryz.prog).orc Proofs.Tryz.prog 400 45 as45 rs45 ((x0,()),(x1,x1',x1'',()),x2,())) (t45 x0 x1 x1' x1'' x2) [(bl 4 15,[2,4,6,8]),(bl 4 7,[2,4,6,8])] :=
  ⟨by kernel_rfl,by kernel_rfl,trivial⟩
theorem ok45_t (x0:(List (Int×(Int×((List (Int×(Int×(Bool×Unit))))×Unit))))) (x1:(List Int)) (x1':(List Int)) (x1'':(List (Int×((List (Int×(Bool×Unit)))×Unit)))) (x2:(List Int)):TrOk (PureRuns Proofs.Tryz.prog (kf7 Proofs.Tryz.prog).orc 45 as45 rs45 ((x0,()),(x1,x1',x1'',()),x2,())) (t45 x0 x1 x1' x1'' x2) :=
  Walks.ok (fun _ _ _=>PureRuns.of) (wk45 x0 x1 x1' x1'' x2) (by kernel_rfl)
theorem ok45:PureOk Proofs.Tryz.prog 45 p45:=qab kf7_ok.base (T:=fun (d:Tys.data as45)=>t45 d.1.1 d.2.1.1 d.2.1.2.1 d.2.1.2.2.1 d.2.2.1) (by kernel_rfl) (fun (d:Tys.data as45)=>ok45_t d.1.1 d.2.1.1 d.2.1.2.1 d.2.1.2.2.1 d.2.2.1)
def kf45 (P:Go.Program):Known:=(kf7 P).func 45 p45
theorem kf45_ok:KnownOk Proofs.Tryz.prog (kf45 Proofs.Tryz.prog):=kf7_ok.func ok45
abbrev as50:List Ty:=[(.pair (.int .i64) (.pair (.int .i64) (.pair (.int .i64) (.pair (.int .i64) (.pair (.int .i64) (.pair (.int .i64) (.pair (.int .i64) .unit)))))))]
abbrev rs50:List Ty:=[(.int .i64)]
def t50 (x0:Int) (x0':Int) (x0'':Int) (x0''':Int) (x0'''':Int) (x0''''':Int) (x0'''''':Int):Tr (Tys.data rs50) :=
  Tr.fin (((wrap64 (x0 * wrap64 (wrap64 (wrap64 (x0'''''' - x0''''') * wrap64 (x0'''''' - x0''''')) - wrap64 (wrap64 (x0''''' - x0'''') * wrap64 (x0''''' - x0'''')))):Int),()))
def f50 (d:Tys.data as50):Option (Tys.data rs50):=(t50 d.1.1 d.1.2.1 d.1.2.2.1 d.1.2.2.2.1 d.1.2.2.2.2.1 d.1.2.2.2.2.2.1 d.1.2.2.2.2.2.2.1).val
def g50 (d:Tys.data as50):Tys.data rs50:=(f50 d).getD (Tys.dflt rs50)
def p50:PureC:=pcOf as50 rs50 f50 g50
theorem wk50 (x0:Int) (x0':Int) (x0'':Int) (x0''':Int) (x0'''':Int) (x0''''':Int) (x0'''''':Int):Walks (runPure (kf45 Proofs.Tryz.prog).orc Proofs.Tryz.prog 400 50 as50 rs50 ((x0,x0',x0'',x0''',x0'''',x0''''',x0'''''',()),())) (t50 x0 x0' x0'' x0''' x0'''' x0''''' x0'''''') [(bl 0 0,[1,1,1,1,1])] :=
  ⟨by kernel_rfl,trivial⟩
theorem ok50_t (x0:Int) (x0':Int) (x0'':Int) (x0''':Int) (x0'''':Int) (x0''''':Int) (x0'''''':Int):TrOk (PureRuns Proofs.Tryz.prog (kf45 Proofs.Tryz.prog).orc 50 as50 rs50 ((x0,x0',x0'',x0''',x0'''',x0''''',x0'''''',()),())) (t50 x0 x0' x0'' x0''' x0'''' x0''''' x0'''''') :=
  Walks.ok (fun _ _ _=>PureRuns.of) (wk50 x0 x0' x0'' x0''' x0'''' x0''''' x0'''''') (by kernel_rfl)
theorem ok50:PureOk Proofs.Tryz.prog 50 p50:=qab kf45_ok.base (T:=fun (d:Tys.data as50)=>t50 d.1.1 d.1.2.1 d.1.2.2.1 d.1.2.2.2.1 d.1.2.2.2.2.1 d.1.2.2.2.2.2.1 d.1.2.2.2.2.2.2.1) (by kernel_rfl) (fun (d:Tys.data as50)=>ok50_t d.1.1 d.1.2.1 d.1.2.2.1 d.1.2.2.2.1 d.1.2.2.2.2.1 d.1.2.2.2.2.2.1 d.1.2.2.2.2.2.2.1)
def kf50 (P:Go.Program):Known:=(kf45 P).func 50 p50
theorem kf50_ok:KnownOk Proofs.Tryz.prog (kf50 Proofs.Tryz.prog):=kf45_ok.func ok50
abbrev as96:List Ty:=[(.pair (.int .i64) (.pair (.int .i64) (.pair (.int .i64) (.pair (.int .i64) (.pair (.int .i64) (.pair (.int .i64) (.pair (.int .i64) .unit)))))))]
abbrev rs96:List Ty:=[(.int .i64)]
def t96 (x0:Int) (x0':Int) (x0'':Int) (x0''':Int) (x0'''':Int) (x0''''':Int) (x0'''''':Int):Tr (Tys.data rs96) :=
  Tr.fin (((wrap64 (x0'''''' - x0''''):Int),()))
def f96 (d:Tys.data as96):Option (Tys.data rs96):=(t96 d.1.1 d.1.2.1 d.1.2.2.1 d.1.2.2.2.1 d.1.2.2.2.2.1 d.1.2.2.2.2.2.1 d.1.2.2.2.2.2.2.1).val
def g96 (d:Tys.data as96):Tys.data rs96:=(f96 d).getD (Tys.dflt rs96)
def p96:PureC:=pcOf as96 rs96 f96 g96
theorem wk96 (x0:Int) (x0':Int) (x0'':Int) (x0''':Int) (x0'''':Int) (x0''''':Int) (x0'''''':Int):Walks (runPure (kf50 Proofs.Tryz.prog).orc Proofs.Tryz.prog 400 96 as96 rs96 ((x0,x0',x0'',x0''',x0'''',x0''''',x0'''''',()),())) (t96 x0 x0' x0'' x0''' x0'''' x0''''' x0'''''') [(bl 0 0,[1,1])] :=
  ⟨by kernel_rfl,trivial⟩
theorem ok96_t (x0:Int) (x0':Int) (x0'':Int) (x0''':Int) (x0'''':Int) (x0''''':Int) (x0'''''':Int):TrOk (PureRuns Proofs.Tryz.prog (kf50 Proofs.Tryz.prog).orc 96 as96 rs96 ((x0,x0',x0'',x0''',x0'''',x0''''',x0'''''',()),())) (t96 x0 x0' x0'' x0''' x0'''' x0''''' x0'''''') :=
  Walks.ok (fun _ _ _=>PureRuns.of) (wk96 x0 x0' x0'' x0''' x0'''' x0''''' x0'''''') (by kernel_rfl)
theorem ok96:PureOk Proofs.Tryz.prog 96 p96:=qab kf50_ok.base (T:=fun (d:Tys.data as96)=>t96 d.1.1 d.1.2.1 d.1.2.2.1 d.1.2.2.2.1 d.1.2.2.2.2.1 d.1.2.2.2.2.2.1 d.1.2.2.2.2.2.2.1) (by kernel_rfl) (fun (d:Tys.data as96)=>ok96_t d.1.1 d.1.2.1 d.1.2.2.1 d.1.2.2.2.1 d.1.2.2.2.2.1 d.1.2.2.2.2.2.1 d.1.2.2.2.2.2.2.1)
def kf96 (P:Go.Program):Known:=(kf50 P).func 96 p96
theorem kf96_ok:KnownOk Proofs.Tryz.prog (kf96 Proofs.Tryz.prog):=kf50_ok.func ok96
abbrev as51:List Ty:=[(.pair (.int .i64) (.pair (.int .i64) (.pair (.int .i64) (.pair (.int .i64) (.pair (.int .i64) (.pair (.int .i64) (.pair (.int .i64) .unit)))))))]
abbrev rs51:List Ty:=[(.int .i64)]
def t51 (x0:Int) (x0':Int) (x0'':Int) (x0''':Int) (x0'''':Int) (x0''''':Int) (x0'''''':Int):Tr (Tys.data rs51) :=
  Tr.test (Option.isSome (f96 ((x0,(x0',(x0'',(x0''',(x0'''',(x0''''',(x0'''''',()))))))),())))
    (let r0:=g96 ((x0,(x0',(x0'',(x0''',(x0'''',(x0''''',(x0'''''',()))))))),());
    Tr.fin (((wrap64 (x0' * r0.1):Int),())))
    (Tr.stop)
def f51 (d:Tys.data as51):Option (Tys.data rs51):=(t51 d.1.1 d.1.2.1 d.1.2.2.1 d.1.2.2.2.1 d.1.2.2.2.2.1 d.1.2.2.2.2.2.1 d.1.2.2.2.2.2.2.1).val
def g51 (d:Tys.data as51):Tys.data rs51:=(f51 d).getD (Tys.dflt rs51)
def p51:PureC:=pcOf as51 rs51 f51 g51
theorem wk51 (x0:Int) (x0':Int) (x0'':Int) (x0''':Int) (x0'''':Int) (x0''''':Int) (x0'''''':Int):Walks (runPure (kf96 Proofs.Tryz.prog).orc Proofs.Tryz.prog 400 51 as51 rs51 ((x0,x0',x0'',x0''',x0'''',x0''''',x0'''''',()),())) (t51 x0 x0' x0'' x0''' x0'''' x0''''' x0'''''') [(bl 1 1,[2,1])] :=
  ⟨by kernel_rfl,trivial⟩
theorem ok51_t (x0:Int) (x0':Int) (x0'':Int) (x0''':Int) (x0'''':Int) (x0''''':Int) (x0'''''':Int):TrOk (PureRuns Proofs.Tryz.prog (kf96 Proofs.Tryz.prog).orc 51 as51 rs51 ((x0,x0',x0'',x0''',x0'''',x0''''',x0'''''',()),())) (t51 x0 x0' x0'' x0''' x0'''' x0''''' x0'''''') :=
  Walks.ok (fun _ _ _=>PureRuns.of) (wk51 x0 x0' x0'' x0''' x0'''' x0''''' x0'''''') (by kernel_rfl)
theorem ok51:PureOk Proofs.Tryz.prog 51 p51:=qab kf96_ok.base (T:=fun (d:Tys.data as51)=>t51 d.1.1 d.1.2.1 d.1.2.2.1 d.1.2.2.2.1 d.1.2.2.2.2.1 d.1.2.2.2.2.2.1 d.1.2.2.2.2.2.2.1) (by kernel_rfl) (fun (d:Tys.data as51)=>ok51_t d.1.1 d.1.2.1 d.1.2.2.1 d.1.2.2.2.1 d.1.2.2.2.2.1 d.1.2.2.2.2.2.1 d.1.2.2.2.2.2.2.1)
def kf51 (P:Go.Program):Known:=(kf96 P).func 51 p51
theorem kf51_ok:KnownOk Proofs.Tryz.prog (kf51 Proofs.Tryz.prog):=kf96_ok.func ok51
abbrev as52:List Ty:=[(.pair (.int .i64) (.pair (.int .i64) (.pair (.int .i64) (.pair (.int .i64) (.pair (.int .i64) (.pair (.int .i64) (.pair (.int .i64) .unit)))))))]
abbrev rs52:List Ty:=[(.int .i64)]
def t52 (x0:Int) (x0':Int) (x0'':Int) (x0''':Int) (x0'''':Int) (x0''''':Int) (x0'''''':Int):Tr (Tys.data rs52) :=
  Tr.test (Option.isSome (f96 ((x0,(x0',(x0'',(x0''',(x0'''',(x0''''',(x0'''''',()))))))),())))
    (let r0:=g96 ((x0,(x0',(x0'',(x0''',(x0'''',(x0''''',(x0'''''',()))))))),());
    Tr.fin (((wrap64 (wrap64 (Go.IntKind.wrap Go.IntKind.i64 ((0:Int) - x0) * x0''') * r0.1):Int),())))
    (Tr.stop)
def f52 (d:Tys.data as52):Option (Tys.data rs52):=(t52 d.1.1 d.1.2.1 d.1.2.2.1 d.1.2.2.2.1 d.1.2.2.2.2.1 d.1.2.2.2.2.2.1 d.1.2.2.2.2.2.2.1).val
def g52 (d:Tys.data as52):Tys.data rs52:=(f52 d).getD (Tys.dflt rs52)
def p52:PureC:=pcOf as52 rs52 f52 g52
theorem wk52 (x0:Int) (x0':Int) (x0'':Int) (x0''':Int) (x0'''':Int) (x0''''':Int) (x0'''''':Int):Walks (runPure (kf51 Proofs.Tryz.prog).orc Proofs.Tryz.prog 400 52 as52 rs52 ((x0,x0',x0'',x0''',x0'''',x0''''',x0'''''',()),())) (t52 x0 x0' x0'' x0''' x0'''' x0''''' x0'''''') [(bl 1 1,[2,1,1])] :=
  ⟨by kernel_rfl,trivial⟩
theorem ok52_t (x0:Int) (x0':Int) (x0'':Int) (x0''':Int) (x0'''':Int) (x0''''':Int) (x0'''''':Int):TrOk (PureRuns Proofs.Tryz.prog (kf51 Proofs.Tryz.prog).orc 52 as52 rs52 ((x0,x0',x0'',x0''',x0'''',x0''''',x0'''''',()),())) (t52 x0 x0' x0'' x0''' x0'''' x0''''' x0'''''') :=
  Walks.ok (fun _ _ _=>PureRuns.of) (wk52 x0 x0' x0'' x0''' x0'''' x0''''' x0'''''') (by kernel_rfl)
theorem ok52:PureOk Proofs.Tryz.prog 52 p52:=qab kf51_ok.base (T:=fun (d:Tys.data as52)=>t52 d.1.1 d.1.2.1 d.1.2.2.1 d.1.2.2.2.1 d.1.2.2.2.2.1 d.1.2.2.2.2.2.1 d.1.2.2.2.2.2.2.1) (by kernel_rfl) (fun (d:Tys.data as52)=>ok52_t d.1.1 d.1.2.1 d.1.2.2.1 d.1.2.2.2.1 d.1.2.2.2.2.1 d.1.2.2.2.2.2.1 d.1.2.2.2.2.2.2.1)
def kf52 (P:Go.Program):Known:=(kf51 P).func 52 p52
theorem kf52_ok:KnownOk Proofs.Tryz.prog (kf52 Proofs.Tryz.prog):=kf51_ok.func ok52
abbrev as53:List Ty:=[(.pair (.int .i64) (.pair (.int .i64) (.pair (.int .i64) (.pair (.int .i64) (.pair (.int .i64) (.pair (.int .i64) (.pair (.int .i64) .unit)))))))]
abbrev rs53:List Ty:=[(.int .i64)]
def t53 (x0:Int) (x0':Int) (x0'':Int) (x0''':Int) (x0'''':Int) (x0''''':Int) (x0'''''':Int):Tr (Tys.data rs53) :=
  Tr.test (Option.isSome (f96 ((x0,(x0',(x0'',(x0''',(x0'''',(x0''''',(x0'''''',()))))))),())))
    (let r0:=g96 ((x0,(x0',(x0'',(x0''',(x0'''',(x0''''',(x0'''''',()))))))),());
    Tr.fin (((wrap64 (x0'' * r0.1):Int),())))
    (Tr.stop)
def f53 (d:Tys.data as53):Option (Tys.data rs53):=(t53 d.1.1 d.1.2.1 d.1.2.2.1 d.1.2.2.2.1 d.1.2.2.2.2.1 d.1.2.2.2.2.2.1 d.1.2.2.2.2.2.2.1).val
def g53 (d:Tys.data as53):Tys.data rs53:=(f53 d).getD (Tys.dflt rs53)
def p53:PureC:=pcOf as53 rs53 f53 g53
theorem wk53 (x0:Int) (x0':Int) (x0'':Int) (x0''':Int) (x0'''':Int) (x0''''':Int) (x0'''''':Int):Walks (runPure (kf52 Proofs.Tryz.prog).orc Proofs.Tryz.prog 400 53 as53 rs53 ((x0,x0',x0'',x0''',x0'''',x0''''',x0'''''',()),())) (t53 x0 x0' x0'' x0''' x0'''' x0''''' x0'''''') [(bl 1 1,[2,1])] :=
  ⟨by kernel_rfl,trivial⟩
theorem ok53_t (x0:Int) (x0':Int) (x0'':Int) (x0''':Int) (x0'''':Int) (x0''''':Int) (x0'''''':Int):TrOk (PureRuns Proofs.Tryz.prog (kf52 Proofs.Tryz.prog).orc 53 as53 rs53 ((x0,x0',x0'',x0''',x0'''',x0''''',x0'''''',()),())) (t53 x0 x0' x0'' x0''' x0'''' x0''''' x0'''''') :=
  Walks.ok (fun _ _ _=>PureRuns.of) (wk53 x0 x0' x0'' x0''' x0'''' x0''''' x0'''''') (by kernel_rfl)
theorem ok53:PureOk Proofs.Tryz.prog 53 p53:=qab kf52_ok.base (T:=fun (d:Tys.data as53)=>t53 d.1.1 d.1.2.1 d.1.2.2.1 d.1.2.2.2.1 d.1.2.2.2.2.1 d.1.2.2.2.2.2.1 d.1.2.2.2.2.2.2.1) (by kernel_rfl) (fun (d:Tys.data as53)=>ok53_t d.1.1 d.1.2.1 d.1.2.2.1 d.1.2.2.2.1 d.1.2.2.2.2.1 d.1.2.2.2.2.2.1 d.1.2.2.2.2.2.2.1)
def kf53 (P:Go.Program):Known:=(kf52 P).func 53 p53
theorem kf53_ok:KnownOk Proofs.Tryz.prog (kf53 Proofs.Tryz.prog):=kf52_ok.func ok53
theorem sc49_0:qav Proofs.Tryz.prog 49 0 = true:=qc4 (by kernel_rfl)
abbrev sh93_0_1 (P:Go.Program):Sh:={ n:=70,slots:=[0,1,2,15,16,17],pats:=[.yld 0,.ptr 1 4 0,.ptr 2 1 0,.ty (.slice (.pair (.int .i64) (.pair (.int .i64) (.pair (.slice (.pair (.int .i64) (.pair (.int .i64) (.pair .bool .unit)))) .unit)))),.ty (.int .i64),.ty (.int .i64)],boxes:=[.lp (lpOf P 49 0 .ready none 15 [3,5] 3) [.ptr 4 1 0,.ptr 5 1 0],.row [.ty (.slice (.pair (.int .i64) (.pair (.int .i64) (.pair (.slice (.pair (.int .i64) (.pair (.int .i64) (.pair .bool .unit)))) .unit)))),.ty (.slice (.int .i64)),.ty (.slice (.int .i64)),.ty (.slice (.pair (.int .i64) (.pair (.slice (.pair (.int .i64) (.pair .bool .unit))) .unit)))],.row [.ty (.int .i64)],.dfr,.row [.fn 50 []],.row [.ty (.int .i64)]] }
abbrev shb93_0_1 (P:Go.Program):Sh:={ n:=70,slots:=[],pats:=[],boxes:=[.lp (lpOf P 49 0 .ready none 15 [3,5] 3) [.ptr 4 1 0,.ptr 5 1 0],.row [.ty (.slice (.pair (.int .i64) (.pair (.int .i64) (.pair (.slice (.pair (.int .i64) (.pair (.int .i64) (.pair .bool .unit)))) .unit)))),.ty (.slice (.int .i64)),.ty (.slice (.int .i64)),.ty (.slice (.pair (.int .i64) (.pair (.slice (.pair (.int .i64) (.pair .bool .unit))) .unit)))],.row [.ty (.int .i64)],.dfr,.row [.fn 50 []],.row [.ty (.int .i64)]] }
abbrev shr93_0_1 (P:Go.Program):Sh:={ n:=70,slots:=[],pats:=[],boxes:=[.lp (lpOf P 49 0 .ready none 15 [3,5] 3) [.ptr 4 1 0,.ptr 5 1 0],.row [.ty (.slice (.pair (.int .i64) (.pair (.int .i64) (.pair (.slice (.pair (.int .i64) (.pair (.int .i64) (.pair .bool .unit)))) .unit)))),.ty (.slice (.int .i64)),.ty (.slice (.int .i64)),.ty (.slice (.pair (.int .i64) (.pair (.slice (.pair (.int .i64) (.pair .bool .unit))) .unit)))],.row [.ty (.int .i64)],.dfr,.row [.fn 50 []],.row [.ty (.int .i64)]] }
abbrev dt93_0_1:Type:=(List (Int×Int×List (Int×Int×Bool×PUnit)×PUnit)×Int×Int×PUnit)×PUnit×(List (Int×Int×List (Int×Int×Bool×PUnit)×PUnit)×List Int×List Int×List (Int×List (Int×Bool×PUnit)×PUnit)×PUnit)×(Int×PUnit)×PUnit×(Int×PUnit)×PUnit
abbrev db93_0_1:Type:=PUnit×PUnit×(List (Int×Int×List (Int×Int×Bool×PUnit)×PUnit)×List Int×List Int×List (Int×List (Int×Bool×PUnit)×PUnit)×PUnit)×(Int×PUnit)×PUnit×(Int×PUnit)×PUnit
abbrev dr93_0_1:Type:=PUnit×PUnit×(List (Int×Int×List (Int×Int×Bool×PUnit)×PUnit)×List Int×List Int×List (Int×List (Int×Bool×PUnit)×PUnit)×PUnit)×(Int×PUnit)×PUnit×(Int×PUnit)×PUnit
def t93_0_1 (x3:(List (Int×(Int×((List (Int×(Int×(Bool×Unit))))×Unit))))) (x4:Int) (x5:Int) (b1_0:(List (Int×(Int×((List (Int×(Int×(Bool×Unit))))×Unit))))) (b1_1:(List Int)) (b1_2:(List Int)) (b1_3:(List (Int×((List (Int×(Bool×Unit)))×Unit)))) (b2_0:Int) (b5_0:Int):Tr (Out dt93_0_1 db93_0_1 dr93_0_1) :=
  Tr.test ((!leF x4 x5:Bool))
    (Tr.test (decide ((0:Int) ≤ x5) && decide (x5 < (↑(List.length x3):Int)))
      (Tr.test ((decide ((0:Int) ≤ x5) && decide (x5 < (↑(List.length b1_2):Int)):Bool))
        (Tr.test ((decide ((0:Int) ≤ x5) && decide (x5 < (↑(List.length b1_1):Int)):Bool))
          (Tr.test (Option.isSome (f94 ((((b1_0,()),()),((b1_1,(b1_2,(b1_3,()))),())),((wrap64 (x5 + (1:Int)):Int),()))))
            (Tr.test (Option.isSome (f94 ((((b1_0,()),()),((b1_1,(b1_2,(b1_3,()))),())),(x5,()))))
              (let r0:=g94 ((((b1_0,()),()),((b1_1,(b1_2,(b1_3,()))),())),((wrap64 (x5 + (1:Int)):Int),()));
              let r1:=g94 ((((b1_0,()),()),((b1_1,(b1_2,(b1_3,()))),())),(x5,()));
              Tr.test (Option.isSome (f95 ((wrap64 (r0.1 - r1.1):Int),(((List.getD x3 (Int.toNat x5) ((0:Int),(0:Int),[],())).1:Int),()))))
                (let r2:=g95 ((wrap64 (r0.1 - r1.1):Int),(((List.getD x3 (Int.toNat x5) ((0:Int),(0:Int),[],())).1:Int),()));
                Tr.test (Option.isSome (f50 ((((List.getD x3 (Int.toNat x5) ((0:Int),(0:Int),[],())).1:Int),((wrap64 (r0.1 - r1.1):Int),(r2.2.1,(b2_0,((List.getD b1_2 (Int.toNat x5) (0:Int):Int),((List.getD b1_1 (Int.toNat x5) (0:Int):Int),((wrap64 (wrap64 (wrap64 (wrap64 ((2:Int) * List.getD b1_1 (Int.toNat x5) (0:Int)) - List.getD b1_2 (Int.toNat x5) (0:Int)) + r2.1) - b2_0):Int),()))))))),())))
                  (let r3:=g50 ((((List.getD x3 (Int.toNat x5) ((0:Int),(0:Int),[],())).1:Int),((wrap64 (r0.1 - r1.1):Int),(r2.2.1,(b2_0,((List.getD b1_2 (Int.toNat x5) (0:Int):Int),((List.getD b1_1 (Int.toNat x5) (0:Int):Int),((wrap64 (wrap64 (wrap64 (wrap64 ((2:Int) * List.getD b1_1 (Int.toNat x5) (0:Int)) - List.getD b1_2 (Int.toNat x5) (0:Int)) + r2.1) - b2_0):Int),()))))))),());
                  Tr.fin (.again ((x3,(x4,((wrap64 (x5 + (1:Int)):Int),()))),((),((b1_0,(b1_1,(b1_2,(b1_3,())))),((b2_0,()),((),(((wrap64 (b5_0 + r3.1):Int),()),()))))))))
                  (Tr.stop))
                (Tr.stop))
              (Tr.stop))
            (Tr.stop))
          (Tr.stop))
        (Tr.stop))
      (Tr.stop))
    (Tr.fin (.brk ((),((),((b1_0,(b1_1,(b1_2,(b1_3,())))),((b2_0,()),((),((b5_0,()),()))))))))
def s93_0_1 (d:dt93_0_1):Option (Out dt93_0_1 db93_0_1 dr93_0_1):=(t93_0_1 d.1.1 d.1.2.1 d.1.2.2.1 d.2.2.1.1 d.2.2.1.2.1 d.2.2.1.2.2.1 d.2.2.1.2.2.2.1 d.2.2.2.1.1 d.2.2.2.2.2.1.1).val
def l93_0_1 (d:dt93_0_1):Option (db93_0_1 ⊕ dr93_0_1):=itr s93_0_1 rounds d
def b93_0_1 (d:dt93_0_1):db93_0_1:=outB (((),((),((([]:List (Int×Int×List (Int×Int×Bool×PUnit)×PUnit)),(([]:List Int),(([]:List Int),(([]:List (Int×List (Int×Bool×PUnit)×PUnit)),())))),(((0:Int),()),((),(((0:Int),()),()))))))) (l93_0_1 d)
def lc93_0_1 (P:Go.Program):LoopC:=lcB (sh93_0_1 P) (shb93_0_1 P) (shr93_0_1 P) l93_0_1 b93_0_1
theorem e93_0_1_0 (x3:(List (Int×(Int×((List (Int×(Int×(Bool×Unit))))×Unit))))) (x4:Int) (x5:Int) (b1_0:(List (Int×(Int×((List (Int×(Int×(Bool×Unit))))×Unit))))) (b1_1:(List Int)) (b1_2:(List Int)) (b1_3:(List (Int×((List (Int×(Bool×Unit)))×Unit)))) (b2_0:Int) (b5_0:Int):qak (kf53 Proofs.Tryz.prog).orc Proofs.Tryz.prog 400 93 0 (sh93_0_1 Proofs.Tryz.prog) (shb93_0_1 Proofs.Tryz.prog) (shr93_0_1 Proofs.Tryz.prog) ((x3,x4,x5,()),(),(b1_0,b1_1,b1_2,b1_3,()),(b2_0,()),(),(b5_0,()),()) [tt,tt,tt,tt,tt,tt,tt,tt,ff] =
    (let r0:=g94 ((((b1_0,()),()),((b1_1,(b1_2,(b1_3,()))),())),((wrap64 (x5 + (1:Int)):Int),()));let r1:=g94 ((((b1_0,()),()),((b1_1,(b1_2,(b1_3,()))),())),(x5,()));let r2:=g95 ((wrap64 (r0.1 - r1.1):Int),(((List.getD x3 (Int.toNat x5) ((0:Int),(0:Int),[],())).1:Int),()));let r3:=g50 ((((List.getD x3 (Int.toNat x5) ((0:Int),(0:Int),[],())).1:Int),((wrap64 (r0.1 - r1.1):Int),(r2.2.1,(b2_0,((List.getD b1_2 (Int.toNat x5) (0:Int):Int),((List.getD b1_1 (Int.toNat x5) (0:Int):Int),((wrap64 (wrap64 (wrap64 (wrap64 ((2:Int) * List.getD b1_1 (Int.toNat x5) (0:Int)) - List.getD b1_2 (Int.toNat x5) (0:Int)) + r2.1) - b2_0):Int),()))))))),()); some (.again ((x3,(x4,((wrap64 (x5 + (1:Int)):Int),()))),((),((b1_0,(b1_1,(b1_2,(b1_3,())))),((b2_0,()),((),(((wrap64 (b5_0 + r3.1):Int),()),())))))),[(qav Proofs.Tryz.prog (nat_lit 49) (nat_lit 0),true),(false,false),(Option.isSome (f50 ((((List.getD x3 (Int.toNat x5) ((0:Int),(0:Int),[],())).1:Int),((wrap64 (r0.1 - r1.1):Int),(r2.2.1,(b2_0,((List.getD b1_2 (Int.toNat x5) (0:Int):Int),((List.getD b1_1 (Int.toNat x5) (0:Int):Int),((wrap64 (wrap64 (wrap64 (wrap64 ((2:Int) * List.getD b1_1 (Int.toNat x5) (0:Int)) - List.getD b1_2 (Int.toNat x5) (0:Int)) + r2.1) - b2_0):Int),()))))))),())),true),(Option.isSome (f95 ((wrap64 (r0.1 - r1.1):Int),(((List.getD x3 (Int.toNat x5) ((0:Int),(0:Int),[],())).1:Int),()))),true),(Option.isSome (f94 ((((b1_0,()),()),((b1_1,(b1_2,(b1_3,()))),())),(x5,()))),true),(Option.isSome (f94 ((((b1_0,()),()),((b1_1,(b1_2,(b1_3,()))),())),((wrap64 (x5 + (1:Int)):Int),()))),true),(decide ((0:Int) ≤ x5) && decide (x5 < (↑(List.length b1_1):Int)),true),(decide ((0:Int) ≤ x5) && decide (x5 < (↑(List.length b1_2):Int)),true),(decide ((0:Int) ≤ x5) && decide (x5 < (↑(List.length x3):Int)),true),(!leF x4 x5,true)])):=by kernel_rfl
theorem e93_0_1_4 (x3:(List (Int×(Int×((List (Int×(Int×(Bool×Unit))))×Unit))))) (x4:Int) (x5:Int) (b1_0:(List (Int×(Int×((List (Int×(Int×(Bool×Unit))))×Unit))))) (b1_1:(List Int)) (b1_2:(List Int)) (b1_3:(List (Int×((List (Int×(Bool×Unit)))×Unit)))) (b2_0:Int) (b5_0:Int):qak (kf53 Proofs.Tryz.prog).orc Proofs.Tryz.prog 400 93 0 (sh93_0_1 Proofs.Tryz.prog) (shb93_0_1 Proofs.Tryz.prog) (shr93_0_1 Proofs.Tryz.prog) ((x3,x4,x5,()),(),(b1_0,b1_1,b1_2,b1_3,()),(b2_0,()),(),(b5_0,()),()) [ff] =
    (some (.brk ((),((),((b1_0,(b1_1,(b1_2,(b1_3,())))),((b2_0,()),((),((b5_0,()),())))))),[(qav Proofs.Tryz.prog (nat_lit 49) (nat_lit 0),true),(!leF x4 x5,false)])):=by kernel_rfl
theorem ok93_0_1_t (x3:(List (Int×(Int×((List (Int×(Int×(Bool×Unit))))×Unit))))) (x4:Int) (x5:Int) (b1_0:(List (Int×(Int×((List (Int×(Int×(Bool×Unit))))×Unit))))) (b1_1:(List Int)) (b1_2:(List Int)) (b1_3:(List (Int×((List (Int×(Bool×Unit)))×Unit)))) (b2_0:Int) (b5_0:Int):TrOk (BodyRuns Proofs.Tryz.prog (kf53 Proofs.Tryz.prog).orc 93 0 (sh93_0_1 Proofs.Tryz.prog) (shb93_0_1 Proofs.Tryz.prog) (shr93_0_1 Proofs.Tryz.prog) ((x3,x4,x5,()),(),(b1_0,b1_1,b1_2,b1_3,()),(b2_0,()),(),(b5_0,()),())) (t93_0_1 x3 x4 x5 b1_0 b1_1 b1_2 b1_3 b2_0 b5_0) :=
  TrOk.ofTest (fun h0=>TrOk.ofTest (fun h1=>TrOk.ofTest (fun h2=>TrOk.ofTest (fun h3=>TrOk.ofTest (fun h4=>TrOk.ofTest (fun h5=>TrOk.ofTest (fun h6=>TrOk.ofTest (fun h7=>TrOk.ofFin (BodyRuns.of (e93_0_1_0 x3 x4 x5 b1_0 b1_1 b1_2 b1_3 b2_0 b5_0) (ac (sc49_0) (ac rfl (ac h7 (ac h6 (ac h5 (ac h4 (ac h3 (ac h2 (ac h1 (ac h0 All.nil)))))))))))) (fun h7=>TrOk.ofStop)) (fun h6=>TrOk.ofStop)) (fun h5=>TrOk.ofStop)) (fun h4=>TrOk.ofStop)) (fun h3=>TrOk.ofStop)) (fun h2=>TrOk.ofStop)) (fun h1=>TrOk.ofStop)) (fun h0=>TrOk.ofFin (BodyRuns.of (e93_0_1_4 x3 x4 x5 b1_0 b1_1 b1_2 b1_3 b2_0 b5_0) (ac (sc49_0) (ac h0 All.nil))))
theorem ok93_0_1:qaw Proofs.Tryz.prog 93 0 (lc93_0_1 Proofs.Tryz.prog):=qaZ (sh:=(sh93_0_1 Proofs.Tryz.prog)) (shB:=(shb93_0_1 Proofs.Tryz.prog)) (shR:=(shr93_0_1 Proofs.Tryz.prog)) kf53_ok.base (T:=fun (d:dt93_0_1)=>t93_0_1 d.1.1 d.1.2.1 d.1.2.2.1 d.2.2.1.1 d.2.2.1.2.1 d.2.2.1.2.2.1 d.2.2.1.2.2.2.1 d.2.2.2.1.1 d.2.2.2.2.2.1.1) (by kernel_rfl) rfl (fun (d:dt93_0_1)=>ok93_0_1_t d.1.1 d.1.2.1 d.1.2.2.1 d.2.2.1.1 d.2.2.1.2.1 d.2.2.1.2.2.1 d.2.2.1.2.2.2.1 d.2.2.2.1.1 d.2.2.2.2.2.1.1) (fun _=>rfl)
def kl93_0_1 (P:Go.Program):Known:=(kf53 P).loop 93 0 (lc93_0_1 P)
theorem kl93_0_1_ok:KnownOk Proofs.Tryz.prog (kl93_0_1 Proofs.Tryz.prog):=kf53_ok.loop ok93_0_1
abbrev sh93_0_2 (P:Go.Program):Sh:={ n:=70,slots:=[0,1,2,15,16,17],pats:=[.yld 0,.ptr 1 4 0,.ptr 2 1 0,.ty (.slice (.pair (.int .i64) (.pair (.int .i64) (.pair (.slice (.pair (.int .i64) (.pair (.int .i64) (.pair .bool .unit)))) .unit)))),.ty (.int .i64),.ty (.int .i64)],boxes:=[.lp (lpOf P 49 0 .ready none 15 [3,5] 3) [.ptr 4 1 0,.ptr 5 1 0],.row [.ty (.slice (.pair (.int .i64) (.pair (.int .i64) (.pair (.slice (.pair (.int .i64) (.pair (.int .i64) (.pair .bool .unit)))) .unit)))),.ty (.slice (.int .i64)),.ty (.slice (.int .i64)),.ty (.slice (.pair (.int .i64) (.pair (.slice (.pair (.int .i64) (.pair .bool .unit))) .unit)))],.row [.ty (.int .i64)],.dfr,.row [.fn 51 []],.row [.ty (.int .i64)]] }
abbrev shb93_0_2 (P:Go.Program):Sh:={ n:=70,slots:=[],pats:=[],boxes:=[.lp (lpOf P 49 0 .ready none 15 [3,5] 3) [.ptr 4 1 0,.ptr 5 1 0],.row [.ty (.slice (.pair (.int .i64) (.pair (.int .i64) (.pair (.slice (.pair (.int .i64) (.pair (.int .i64) (.pair .bool .unit)))) .unit)))),.ty (.slice (.int .i64)),.ty (.slice (.int .i64)),.ty (.slice (.pair (.int .i64) (.pair (.slice (.pair (.int .i64) (.pair .bool .unit))) .unit)))],.row [.ty (.int .i64)],.dfr,.row [.fn 51 []],.row [.ty (.int .i64)]] }
abbrev shr93_0_2 (P:Go.Program):Sh:={ n:=70,slots:=[],pats:=[],boxes:=[.lp (lpOf P 49 0 .ready none 15 [3,5] 3) [.ptr 4 1 0,.ptr 5 1 0],.row [.ty (.slice (.pair (.int .i64) (.pair (.int .i64) (.pair (.slice (.pair (.int .i64) (.pair (.int .i64) (.pair .bool .unit)))) .unit)))),.ty (.slice (.int .i64)),.ty (.slice (.int .i64)),.ty (.slice (.pair (.int .i64) (.pair (.slice (.pair (.int .i64) (.pair .bool .unit))) .unit)))],.row [.ty (.int .i64)],.dfr,.row [.fn 51 []],.row [.ty (.int .i64)]] }
abbrev dt93_0_2:Type:=(List (Int×Int×List (Int×Int×Bool×PUnit)×PUnit)×Int×Int×PUnit)×PUnit×(List (Int×Int×List (Int×Int×Bool×PUnit)×PUnit)×List Int×List Int×List (Int×List (Int×Bool×PUnit)×PUnit)×PUnit)×(Int×PUnit)×PUnit×(Int×PUnit)×PUnit
abbrev db93_0_2:Type:=PUnit×PUnit×(List (Int×Int×List (Int×Int×Bool×PUnit)×PUnit)×List Int×List Int×List (Int×List (Int×Bool×PUnit)×PUnit)×PUnit)×(Int×PUnit)×PUnit×(Int×PUnit)×PUnit
abbrev dr93_0_2:Type:=PUnit×PUnit×(List (Int×Int×List (Int×Int×Bool×PUnit)×PUnit)×List Int×List Int×List (Int×List (Int×Bool×PUnit)×PUnit)×PUnit)×(Int×PUnit)×PUnit×(Int×PUnit)×PUnit
def t93_0_2 (x3:(List (Int×(Int×((List (Int×(Int×(Bool×Unit))))×Unit))))) (x4:Int) (x5:Int) (b1_0:(List (Int×(Int×((List (Int×(Int×(Bool×Unit))))×Unit))))) (b1_1:(List Int)) (b1_2:(List Int)) (b1_3:(List (Int×((List (Int×(Bool×Unit)))×Unit)))) (b2_0:Int) (b5_0:Int):Tr (Out dt93_0_2 db93_0_2 dr93_0_2) :=
  Tr.test ((!leF x4 x5:Bool))
    (Tr.test (decide ((0:Int) ≤ x5) && decide (x5 < (↑(List.length x3):Int)))
      (Tr.test ((decide ((0:Int) ≤ x5) && decide (x5 < (↑(List.length b1_2):Int)):Bool))
        (Tr.test ((decide ((0:Int) ≤ x5) && decide (x5 < (↑(List.length b1_1):Int)):Bool))
          (Tr.test (Option.isSome (f94 ((((b1_0,()),()),((b1_1,(b1_2,(b1_3,()))),())),((wrap64 (x5 + (1:Int)):Int),()))))
            (Tr.test (Option.isSome (f94 ((((b1_0,()),()),((b1_1,(b1_2,(b1_3,()))),())),(x5,()))))
              (let r0:=g94 ((((b1_0,()),()),((b1_1,(b1_2,(b1_3,()))),())),((wrap64 (x5 + (1:Int)):Int),()));
              let r1:=g94 ((((b1_0,()),()),((b1_1,(b1_2,(b1_3,()))),())),(x5,()));
              Tr.test (Option.isSome (f95 ((wrap64 (r0.1 - r1.1):Int),(((List.getD x3 (Int.toNat x5) ((0:Int),(0:Int),[],())).1:Int),()))))
                (let r2:=g95 ((wrap64 (r0.1 - r1.1):Int),(((List.getD x3 (Int.toNat x5) ((0:Int),(0:Int),[],())).1:Int),()));
                Tr.test (Option.isSome (f51 ((((List.getD x3 (Int.toNat x5) ((0:Int),(0:Int),[],())).1:Int),((wrap64 (r0.1 - r1.1):Int),(r2.2.1,(b2_0,((List.getD b1_2 (Int.toNat x5) (0:Int):Int),((List.getD b1_1 (Int.toNat x5) (0:Int):Int),((wrap64 (wrap64 (wrap64 (wrap64 ((2:Int) * List.getD b1_1 (Int.toNat x5) (0:Int)) - List.getD b1_2 (Int.toNat x5) (0:Int)) + r2.1) - b2_0):Int),()))))))),())))
                  (let r3:=g51 ((((List.getD x3 (Int.toNat x5) ((0:Int),(0:Int),[],())).1:Int),((wrap64 (r0.1 - r1.1):Int),(r2.2.1,(b2_0,((List.getD b1_2 (Int.toNat x5) (0:Int):Int),((List.getD b1_1 (Int.toNat x5) (0:Int):Int),((wrap64 (wrap64 (wrap64 (wrap64 ((2:Int) * List.getD b1_1 (Int.toNat x5) (0:Int)) - List.getD b1_2 (Int.toNat x5) (0:Int)) + r2.1) - b2_0):Int),()))))))),());
                  Tr.fin (.again ((x3,(x4,((wrap64 (x5 + (1:Int)):Int),()))),((),((b1_0,(b1_1,(b1_2,(b1_3,())))),((b2_0,()),((),(((wrap64 (b5_0 + r3.1):Int),()),()))))))))
                  (Tr.stop))
                (Tr.stop))
              (Tr.stop))
            (Tr.stop))
          (Tr.stop))
        (Tr.stop))
      (Tr.stop))
    (Tr.fin (.brk ((),((),((b1_0,(b1_1,(b1_2,(b1_3,())))),((b2_0,()),((),((b5_0,()),()))))))))
def s93_0_2 (d:dt93_0_2):Option (Out dt93_0_2 db93_0_2 dr93_0_2):=(t93_0_2 d.1.1 d.1.2.1 d.1.2.2.1 d.2.2.1.1 d.2.2.1.2.1 d.2.2.1.2.2.1 d.2.2.1.2.2.2.1 d.2.2.2.1.1 d.2.2.2.2.2.1.1).val
def l93_0_2 (d:dt93_0_2):Option (db93_0_2 ⊕ dr93_0_2):=itr s93_0_2 rounds d
def b93_0_2 (d:dt93_0_2):db93_0_2:=outB (((),((),((([]:List (Int×Int×List (Int×Int×Bool×PUnit)×PUnit)),(([]:List Int),(([]:List Int),(([]:List (Int×List (Int×Bool×PUnit)×PUnit)),())))),(((0:Int),()),((),(((0:Int),()),()))))))) (l93_0_2 d)
def lc93_0_2 (P:Go.Program):LoopC:=lcB (sh93_0_2 P) (shb93_0_2 P) (shr93_0_2 P) l93_0_2 b93_0_2
theorem e93_0_2_0 (x3:(List (Int×(Int×((List (Int×(Int×(Bool×Unit))))×Unit))))) (x4:Int) (x5:Int) (b1_0:(List (Int×(Int×((List (Int×(Int×(Bool×Unit))))×Unit))))) (b1_1:(List Int)) (b1_2:(List Int)) (b1_3:(List (Int×((List (Int×(Bool×Unit)))×Unit)))) (b2_0:Int) (b5_0:Int):qak (kl93_0_1 Proofs.Tryz.prog).orc Proofs.Tryz.prog 400 93 0 (sh93_0_2 Proofs.Tryz.prog) (shb93_0_2 Proofs.Tryz.prog) (shr93_0_2 Proofs.Tryz.prog) ((x3,x4,x5,()),(),(b1_0,b1_1,b1_2,b1_3,()),(b2_0,()),(),(b5_0,()),()) [tt,tt,tt,tt,tt,tt,tt,tt,ff] =
    (let r0:=g94 ((((b1_0,()),()),((b1_1,(b1_2,(b1_3,()))),())),((wrap64 (x5 + (1:Int)):Int),()));let r1:=g94 ((((b1_0,()),()),((b1_1,(b1_2,(b1_3,()))),())),(x5,()));let r2:=g95 ((wrap64 (r0.1 - r1.1):Int),(((List.getD x3 (Int.toNat x5) ((0:Int),(0:Int),[],())).1:Int),()));let r3:=g51 ((((List.getD x3 (Int.toNat x5) ((0:Int),(0:Int),[],())).1:Int),((wrap64 (r0.1 - r1.1):Int),(r2.2.1,(b2_0,((List.getD b1_2 (Int.toNat x5) (0:Int):Int),((List.getD b1_1 (Int.toNat x5) (0:Int):Int),((wrap64 (wrap64 (wrap64 (wrap64 ((2:Int) * List.getD b1_1 (Int.toNat x5) (0:Int)) - List.getD b1_2 (Int.toNat x5) (0:Int)) + r2.1) - b2_0):Int),()))))))),()); some (.again ((x3,(x4,((wrap64 (x5 + (1:Int)):Int),()))),((),((b1_0,(b1_1,(b1_2,(b1_3,())))),((b2_0,()),((),(((wrap64 (b5_0 + r3.1):Int),()),())))))),[(qav Proofs.Tryz.prog (nat_lit 49) (nat_lit 0),true),(false,false),(Option.isSome (f51 ((((List.getD x3 (Int.toNat x5) ((0:Int),(0:Int),[],())).1:Int),((wrap64 (r0.1 - r1.1):Int),(r2.2.1,(b2_0,((List.getD b1_2 (Int.toNat x5) (0:Int):Int),((List.getD b1_1 (Int.toNat x5) (0:Int):Int),((wrap64 (wrap64 (wrap64 (wrap64 ((2:Int) * List.getD b1_1 (Int.toNat x5) (0:Int)) - List.getD b1_2 (Int.toNat x5) (0:Int)) + r2.1) - b2_0):Int),()))))))),())),true),(Option.isSome (f95 ((wrap64 (r0.1 - r1.1):Int),(((List.getD x3 (Int.toNat x5) ((0:Int),(0:Int),[],())).1:Int),()))),true),(Option.isSome (f94 ((((b1_0,()),()),((b1_1,(b1_2,(b1_3,()))),())),(x5,()))),true),(Option.isSome (f94 ((((b1_0,()),()),((b1_1,(b1_2,(b1_3,()))),())),((wrap64 (x5 + (1:Int)):Int),()))),true),(decide ((0:Int) ≤ x5) && decide (x5 < (↑(List.length b1_1):Int)),true),(decide ((0:Int) ≤ x5) && decide (x5 < (↑(List.length b1_2):Int)),true),(decide ((0:Int) ≤ x5) && decide (x5 < (↑(List.length x3):Int)),true),(!leF x4 x5,true)])):=by kernel_rfl
theorem e93_0_2_4 (x3:(List (Int×(Int×((List (Int×(Int×(Bool×Unit))))×Unit))))) (x4:Int) (x5:Int) (b1_0:(List (Int×(Int×((List (Int×(Int×(Bool×Unit))))×Unit))))) (b1_1:(List Int)) (b1_2:(List Int)) (b1_3:(List (Int×((List (Int×(Bool×Unit)))×Unit)))) (b2_0:Int) (b5_0:Int):qak (kl93_0_1 Proofs.Tryz.prog).orc Proofs.Tryz.prog 400 93 0 (sh93_0_2 Proofs.Tryz.prog) (shb93_0_2 Proofs.Tryz.prog) (shr93_0_2 Proofs.Tryz.prog) ((x3,x4,x5,()),(),(b1_0,b1_1,b1_2,b1_3,()),(b2_0,()),(),(b5_0,()),()) [ff] =
    (some (.brk ((),((),((b1_0,(b1_1,(b1_2,(b1_3,())))),((b2_0,()),((),((b5_0,()),())))))),[(qav Proofs.Tryz.prog (nat_lit 49) (nat_lit 0),true),(!leF x4 x5,false)])):=by kernel_rfl
theorem ok93_0_2_t (x3:(List (Int×(Int×((List (Int×(Int×(Bool×Unit))))×Unit))))) (x4:Int) (x5:Int) (b1_0:(List (Int×(Int×((List (Int×(Int×(Bool×Unit))))×Unit))))) (b1_1:(List Int)) (b1_2:(List Int)) (b1_3:(List (Int×((List (Int×(Bool×Unit)))×Unit)))) (b2_0:Int) (b5_0:Int):TrOk (BodyRuns Proofs.Tryz.prog (kl93_0_1 Proofs.Tryz.prog).orc 93 0 (sh93_0_2 Proofs.Tryz.prog) (shb93_0_2 Proofs.Tryz.prog) (shr93_0_2 Proofs.Tryz.prog) ((x3,x4,x5,()),(),(b1_0,b1_1,b1_2,b1_3,()),(b2_0,()),(),(b5_0,()),())) (t93_0_2 x3 x4 x5 b1_0 b1_1 b1_2 b1_3 b2_0 b5_0) :=
  TrOk.ofTest (fun h0=>TrOk.ofTest (fun h1=>TrOk.ofTest (fun h2=>TrOk.ofTest (fun h3=>TrOk.ofTest (fun h4=>TrOk.ofTest (fun h5=>TrOk.ofTest (fun h6=>TrOk.ofTest (fun h7=>TrOk.ofFin (BodyRuns.of (e93_0_2_0 x3 x4 x5 b1_0 b1_1 b1_2 b1_3 b2_0 b5_0) (ac (sc49_0) (ac rfl (ac h7 (ac h6 (ac h5 (ac h4 (ac h3 (ac h2 (ac h1 (ac h0 All.nil)))))))))))) (fun h7=>TrOk.ofStop)) (fun h6=>TrOk.ofStop)) (fun h5=>TrOk.ofStop)) (fun h4=>TrOk.ofStop)) (fun h3=>TrOk.ofStop)) (fun h2=>TrOk.ofStop)) (fun h1=>TrOk.ofStop)) (fun h0=>TrOk.ofFin (BodyRuns.of (e93_0_2_4 x3 x4 x5 b1_0 b1_1 b1_2 b1_3 b2_0 b5_0) (ac (sc49_0) (ac h0 All.nil))))
theorem ok93_0_2:qaw Proofs.Tryz.prog 93 0 (lc93_0_2 Proofs.Tryz.prog):=qaZ (sh:=(sh93_0_2 Proofs.Tryz.prog)) (shB:=(shb93_0_2 Proofs.Tryz.prog)) (shR:=(shr93_0_2 Proofs.Tryz.prog)) kl93_0_1_ok.base (T:=fun (d:dt93_0_2)=>t93_0_2 d.1.1 d.1.2.1 d.1.2.2.1 d.2.2.1.1 d.2.2.1.2.1 d.2.2.1.2.2.1 d.2.2.1.2.2.2.1 d.2.2.2.1.1 d.2.2.2.2.2.1.1) (by kernel_rfl) rfl (fun (d:dt93_0_2)=>ok93_0_2_t d.1.1 d.1.2.1 d.1.2.2.1 d.2.2.1.1 d.2.2.1.2.1 d.2.2.1.2.2.1 d.2.2.1.2.2.2.1 d.2.2.2.1.1 d.2.2.2.2.2.1.1) (fun _=>rfl)
def kl93_0_2 (P:Go.Program):Known:=(kl93_0_1 P).loop 93 0 (lc93_0_2 P)
theorem kl93_0_2_ok:KnownOk Proofs.Tryz.prog (kl93_0_2 Proofs.Tryz.prog):=kl93_0_1_ok.loop ok93_0_2
abbrev sh93_0_3 (P:Go.Program):Sh:={ n:=70,slots:=[0,1,2,15,16,17],pats:=[.yld 0,.ptr 1 4 0,.ptr 2 1 0,.ty (.slice (.pair (.int .i64) (.pair (.int .i64) (.pair (.slice (.pair (.int .i64) (.pair (.int .i64) (.pair .bool .unit)))) .unit)))),.ty (.int .i64),.ty (.int .i64)],boxes:=[.lp (lpOf P 49 0 .ready none 15 [3,5] 3) [.ptr 4 1 0,.ptr 5 1 0],.row [.ty (.slice (.pair (.int .i64) (.pair (.int .i64) (.pair (.slice (.pair (.int .i64) (.pair (.int .i64) (.pair .bool .unit)))) .unit)))),.ty (.slice (.int .i64)),.ty (.slice (.int .i64)),.ty (.slice (.pair (.int .i64) (.pair (.slice (.pair (.int .i64) (.pair .bool .unit))) .unit)))],.row [.ty (.int .i64)],.dfr,.row [.fn 52 []],.row [.ty (.int .i64)]] }
abbrev shb93_0_3 (P:Go.Program):Sh:={ n:=70,slots:=[],pats:=[],boxes:=[.lp (lpOf P 49 0 .ready none 15 [3,5] 3) [.ptr 4 1 0,.ptr 5 1 0],.row [.ty (.slice (.pair (.int .i64) (.pair (.int .i64) (.pair (.slice (.pair (.int .i64) (.pair (.int .i64) (.pair .bool .unit)))) .unit)))),.ty (.slice (.int .i64)),.ty (.slice (.int .i64)),.ty (.slice (.pair (.int .i64) (.pair (.slice (.pair (.int .i64) (.pair .bool .unit))) .unit)))],.row [.ty (.int .i64)],.dfr,.row [.fn 52 []],.row [.ty (.int .i64)]] }
abbrev shr93_0_3 (P:Go.Program):Sh:={ n:=70,slots:=[],pats:=[],boxes:=[.lp (lpOf P 49 0 .ready none 15 [3,5] 3) [.ptr 4 1 0,.ptr 5 1 0],.row [.ty (.slice (.pair (.int .i64) (.pair (.int .i64) (.pair (.slice (.pair (.int .i64) (.pair (.int .i64) (.pair .bool .unit)))) .unit)))),.ty (.slice (.int .i64)),.ty (.slice (.int .i64)),.ty (.slice (.pair (.int .i64) (.pair (.slice (.pair (.int .i64) (.pair .bool .unit))) .unit)))],.row [.ty (.int .i64)],.dfr,.row [.fn 52 []],.row [.ty (.int .i64)]] }
abbrev dt93_0_3:Type:=(List (Int×Int×List (Int×Int×Bool×PUnit)×PUnit)×Int×Int×PUnit)×PUnit×(List (Int×Int×List (Int×Int×Bool×PUnit)×PUnit)×List Int×List Int×List (Int×List (Int×Bool×PUnit)×PUnit)×PUnit)×(Int×PUnit)×PUnit×(Int×PUnit)×PUnit
abbrev db93_0_3:Type:=PUnit×PUnit×(List (Int×Int×List (Int×Int×Bool×PUnit)×PUnit)×List Int×List Int×List (Int×List (Int×Bool×PUnit)×PUnit)×PUnit)×(Int×PUnit)×PUnit×(Int×PUnit)×PUnit
abbrev dr93_0_3:Type:=PUnit×PUnit×(List (Int×Int×List (Int×Int×Bool×PUnit)×PUnit)×List Int×List Int×List (Int×List (Int×Bool×PUnit)×PUnit)×PUnit)×(Int×PUnit)×PUnit×(Int×PUnit)×PUnit
def t93_0_3 (x3:(List (Int×(Int×((List (Int×(Int×(Bool×Unit))))×Unit))))) (x4:Int) (x5:Int) (b1_0:(List (Int×(Int×((List (Int×(Int×(Bool×Unit))))×Unit))))) (b1_1:(List Int)) (b1_2:(List Int)) (b1_3:(List (Int×((List (Int×(Bool×Unit)))×Unit)))) (b2_0:Int) (b5_0:Int):Tr (Out dt93_0_3 db93_0_3 dr93_0_3) :=
  Tr.test ((!leF x4 x5:Bool))
    (Tr.test (decide ((0:Int) ≤ x5) && decide (x5 < (↑(List.length x3):Int)))
      (Tr.test ((decide ((0:Int) ≤ x5) && decide (x5 < (↑(List.length b1_2):Int)):Bool))
        (Tr.test ((decide ((0:Int) ≤ x5) && decide (x5 < (↑(List.length b1_1):Int)):Bool))
          (Tr.test (Option.isSome (f94 ((((b1_0,()),()),((b1_1,(b1_2,(b1_3,()))),())),((wrap64 (x5 + (1:Int)):Int),()))))
            (Tr.test (Option.isSome (f94 ((((b1_0,()),()),((b1_1,(b1_2,(b1_3,()))),())),(x5,()))))
              (let r0:=g94 ((((b1_0,()),()),((b1_1,(b1_2,(b1_3,()))),())),((wrap64 (x5 + (1:Int)):Int),()));
              let r1:=g94 ((((b1_0,()),()),((b1_1,(b1_2,(b1_3,()))),())),(x5,()));
              Tr.test (Option.isSome (f95 ((wrap64 (r0.1 - r1.1):Int),(((List.getD x3 (Int.toNat x5) ((0:Int),(0:Int),[],())).1:Int),()))))
                (let r2:=g95 ((wrap64 (r0.1 - r1.1):Int),(((List.getD x3 (Int.toNat x5) ((0:Int),(0:Int),[],())).1:Int),()));
                Tr.test (Option.isSome (f52 ((((List.getD x3 (Int.toNat x5) ((0:Int),(0:Int),[],())).1:Int),((wrap64 (r0.1 - r1.1):Int),(r2.2.1,(b2_0,((List.getD b1_2 (Int.toNat x5) (0:Int):Int),((List.getD b1_1 (Int.toNat x5) (0:Int):Int),((wrap64 (wrap64 (wrap64 (wrap64 ((2:Int) * List.getD b1_1 (Int.toNat x5) (0:Int)) - List.getD b1_2 (Int.toNat x5) (0:Int)) + r2.1) - b2_0):Int),()))))))),())))
                  (let r3:=g52 ((((List.getD x3 (Int.toNat x5) ((0:Int),(0:Int),[],())).1:Int),((wrap64 (r0.1 - r1.1):Int),(r2.2.1,(b2_0,((List.getD b1_2 (Int.toNat x5) (0:Int):Int),((List.getD b1_1 (Int.toNat x5) (0:Int):Int),((wrap64 (wrap64 (wrap64 (wrap64 ((2:Int) * List.getD b1_1 (Int.toNat x5) (0:Int)) - List.getD b1_2 (Int.toNat x5) (0:Int)) + r2.1) - b2_0):Int),()))))))),());
                  Tr.fin (.again ((x3,(x4,((wrap64 (x5 + (1:Int)):Int),()))),((),((b1_0,(b1_1,(b1_2,(b1_3,())))),((b2_0,()),((),(((wrap64 (b5_0 + r3.1):Int),()),()))))))))
                  (Tr.stop))
                (Tr.stop))
              (Tr.stop))
            (Tr.stop))
          (Tr.stop))
        (Tr.stop))
      (Tr.stop))
    (Tr.fin (.brk ((),((),((b1_0,(b1_1,(b1_2,(b1_3,())))),((b2_0,()),((),((b5_0,()),()))))))))
def s93_0_3 (d:dt93_0_3):Option (Out dt93_0_3 db93_0_3 dr93_0_3):=(t93_0_3 d.1.1 d.1.2.1 d.1.2.2.1 d.2.2.1.1 d.2.2.1.2.1 d.2.2.1.2.2.1 d.2.2.1.2.2.2.1 d.2.2.2.1.1 d.2.2.2.2.2.1.1).val
def l93_0_3 (d:dt93_0_3):Option (db93_0_3 ⊕ dr93_0_3):=itr s93_0_3 rounds d
def b93_0_3 (d:dt93_0_3):db93_0_3:=outB (((),((),((([]:List (Int×Int×List (Int×Int×Bool×PUnit)×PUnit)),(([]:List Int),(([]:List Int),(([]:List (Int×List (Int×Bool×PUnit)×PUnit)),())))),(((0:Int),()),((),(((0:Int),()),()))))))) (l93_0_3 d)
def lc93_0_3 (P:Go.Program):LoopC:=lcB (sh93_0_3 P) (shb93_0_3 P) (shr93_0_3 P) l93_0_3 b93_0_3
theorem e93_0_3_0 (x3:(List (Int×(Int×((List (Int×(Int×(Bool×Unit))))×Unit))))) (x4:Int) (x5:Int) (b1_0:(List (Int×(Int×((List (Int×(Int×(Bool×Unit))))×Unit))))) (b1_1:(List Int)) (b1_2:(List Int)) (b1_3:(List (Int×((List (Int×(Bool×Unit)))×Unit)))) (b2_0:Int) (b5_0:Int):qak (kl93_0_2 Proofs.Tryz.prog).orc Proofs.Tryz.prog 400 93 0 (sh93_0_3 Proofs.Tryz.prog) (shb93_0_3 Proofs.Tryz.prog) (shr93_0_3 Proofs.Tryz.prog) ((x3,x4,x5,()),(),(b1_0,b1_1,b1_2,b1_3,()),(b2_0,()),(),(b5_0,()),()) [tt,tt,tt,tt,tt,tt,tt,tt,ff] =
    (let r0:=g94 ((((b1_0,()),()),((b1_1,(b1_2,(b1_3,()))),())),((wrap64 (x5 + (1:Int)):Int),()));let r1:=g94 ((((b1_0,()),()),((b1_1,(b1_2,(b1_3,()))),())),(x5,()));let r2:=g95 ((wrap64 (r0.1 - r1.1):Int),(((List.getD x3 (Int.toNat x5) ((0:Int),(0:Int),[],())).1:Int),()));let r3:=g52 ((((List.getD x3 (Int.toNat x5) ((0:Int),(0:Int),[],())).1:Int),((wrap64 (r0.1 - r1.1):Int),(r2.2.1,(b2_0,((List.getD b1_2 (Int.toNat x5) (0:Int):Int),((List.getD b1_1 (Int.toNat x5) (0:Int):Int),((wrap64 (wrap64 (wrap64 (wrap64 ((2:Int) * List.getD b1_1 (Int.toNat x5) (0:Int)) - List.getD b1_2 (Int.toNat x5) (0:Int)) + r2.1) - b2_0):Int),()))))))),()); some (.again ((x3,(x4,((wrap64 (x5 + (1:Int)):Int),()))),((),((b1_0,(b1_1,(b1_2,(b1_3,())))),((b2_0,()),((),(((wrap64 (b5_0 + r3.1):Int),()),())))))),[(qav Proofs.Tryz.prog (nat_lit 49) (nat_lit 0),true),(false,false),(Option.isSome (f52 ((((List.getD x3 (Int.toNat x5) ((0:Int),(0:Int),[],())).1:Int),((wrap64 (r0.1 - r1.1):Int),(r2.2.1,(b2_0,((List.getD b1_2 (Int.toNat x5) (0:Int):Int),((List.getD b1_1 (Int.toNat x5) (0:Int):Int),((wrap64 (wrap64 (wrap64 (wrap64 ((2:Int) * List.getD b1_1 (Int.toNat x5) (0:Int)) - List.getD b1_2 (Int.toNat x5) (0:Int)) + r2.1) - b2_0):Int),()))))))),())),true),(Option.isSome (f95 ((wrap64 (r0.1 - r1.1):Int),(((List.getD x3 (Int.toNat x5) ((0:Int),(0:Int),[],())).1:Int),()))),true),(Option.isSome (f94 ((((b1_0,()),()),((b1_1,(b1_2,(b1_3,()))),())),(x5,()))),true),(Option.isSome (f94 ((((b1_0,()),()),((b1_1,(b1_2,(b1_3,()))),())),((wrap64 (x5 + (1:Int)):Int),()))),true),(decide ((0:Int) ≤ x5) && decide (x5 < (↑(List.length b1_1):Int)),true),(decide ((0:Int) ≤ x5) && decide (x5 < (↑(List.length b1_2):Int)),true),(decide ((0:Int) ≤ x5) && decide (x5 < (↑(List.length x3):Int)),true),(!leF x4 x5,true)])):=by kernel_rfl
theorem e93_0_3_4 (x3:(List (Int×(Int×((List (Int×(Int×(Bool×Unit))))×Unit))))) (x4:Int) (x5:Int) (b1_0:(List (Int×(Int×((List (Int×(Int×(Bool×Unit))))×Unit))))) (b1_1:(List Int)) (b1_2:(List Int)) (b1_3:(List (Int×((List (Int×(Bool×Unit)))×Unit)))) (b2_0:Int) (b5_0:Int):qak (kl93_0_2 Proofs.Tryz.prog).orc Proofs.Tryz.prog 400 93 0 (sh93_0_3 Proofs.Tryz.prog) (shb93_0_3 Proofs.Tryz.prog) (shr93_0_3 Proofs.Tryz.prog) ((x3,x4,x5,()),(),(b1_0,b1_1,b1_2,b1_3,()),(b2_0,()),(),(b5_0,()),()) [ff] =
    (some (.brk ((),((),((b1_0,(b1_1,(b1_2,(b1_3,())))),((b2_0,()),((),((b5_0,()),())))))),[(qav Proofs.Tryz.prog (nat_lit 49) (nat_lit 0),true),(!leF x4 x5,false)])):=by kernel_rfl
theorem ok93_0_3_t (x3:(List (Int×(Int×((List (Int×(Int×(Bool×Unit))))×Unit))))) (x4:Int) (x5:Int) (b1_0:(List (Int×(Int×((List (Int×(Int×(Bool×Unit))))×Unit))))) (b1_1:(List Int)) (b1_2:(List Int)) (b1_3:(List (Int×((List (Int×(Bool×Unit)))×Unit)))) (b2_0:Int) (b5_0:Int):TrOk (BodyRuns Proofs.Tryz.prog (kl93_0_2 Proofs.Tryz.prog).orc 93 0 (sh93_0_3 Proofs.Tryz.prog) (shb93_0_3 Proofs.Tryz.prog) (shr93_0_3 Proofs.Tryz.prog) ((x3,x4,x5,()),(),(b1_0,b1_1,b1_2,b1_3,()),(b2_0,()),(),(b5_0,()),())) (t93_0_3 x3 x4 x5 b1_0 b1_1 b1_2 b1_3 b2_0 b5_0) :=
  TrOk.ofTest (fun h0=>TrOk.ofTest (fun h1=>TrOk.ofTest (fun h2=>TrOk.ofTest (fun h3=>TrOk.ofTest (fun h4=>TrOk.ofTest (fun h5=>TrOk.ofTest (fun h6=>TrOk.ofTest (fun h7=>TrOk.ofFin (BodyRuns.of (e93_0_3_0 x3 x4 x5 b1_0 b1_1 b1_2 b1_3 b2_0 b5_0) (ac (sc49_0) (ac rfl (ac h7 (ac h6 (ac h5 (ac h4 (ac h3 (ac h2 (ac h1 (ac h0 All.nil)))))))))))) (fun h7=>TrOk.ofStop)) (fun h6=>TrOk.ofStop)) (fun h5=>TrOk.ofStop)) (fun h4=>TrOk.ofStop)) (fun h3=>TrOk.ofStop)) (fun h2=>TrOk.ofStop)) (fun h1=>TrOk.ofStop)) (fun h0=>TrOk.ofFin (BodyRuns.of (e93_0_3_4 x3 x4 x5 b1_0 b1_1 b1_2 b1_3 b2_0 b5_0) (ac (sc49_0) (ac h0 All.nil))))
theorem ok93_0_3:qaw Proofs.Tryz.prog 93 0 (lc93_0_3 Proofs.Tryz.prog):=qaZ (sh:=(sh93_0_3 Proofs.Tryz.prog)) (shB:=(shb93_0_3 Proofs.Tryz.prog)) (shR:=(shr93_0_3 Proofs.Tryz.prog)) kl93_0_2_ok.base (T:=fun (d:dt93_0_3)=>t93_0_3 d.1.1 d.1.2.1 d.1.2.2.1 d.2.2.1.1 d.2.2.1.2.1 d.2.2.1.2.2.1 d.2.2.1.2.2.2.1 d.2.2.2.1.1 d.2.2.2.2.2.1.1) (by kernel_rfl) rfl (fun (d:dt93_0_3)=>ok93_0_3_t d.1.1 d.1.2.1 d.1.2.2.1 d.2.2.1.1 d.2.2.1.2.1 d.2.2.1.2.2.1 d.2.2.1.2.2.2.1 d.2.2.2.1.1 d.2.2.2.2.2.1.1) (fun _=>rfl)
def kl93_0_3 (P:Go.Program):Known:=(kl93_0_2 P).loop 93 0 (lc93_0_3 P)
theorem kl93_0_3_ok:KnownOk Proofs.Tryz.prog (kl93_0_3 Proofs.Tryz.prog):=kl93_0_2_ok.loop ok93_0_3
end Go.Vm.Mo
