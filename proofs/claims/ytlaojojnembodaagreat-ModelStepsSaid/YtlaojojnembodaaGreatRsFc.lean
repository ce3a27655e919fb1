import Derived.Test.YtlaojojnembodaaGreatA5
import Derived.KernelRfl
import Derived.Test.YtlaojojnembodaaGreatProg
import Derived.Test.YtlaojojnembodaaGreatRsFb
set_option linter.unusedVariables false
set_option linter.unusedSimpArgs false

namespace Go.Vm.Mo
open Go
set_option linter.unusedVariables false
abbrev sh93_0_1 (P:Go.Program):Sh:={ n:=70,slots:=[0,1,2,15,16,17],pats:=[.yld 0,.ptr 1 4 0,.ptr 2 1 0,.ty (.slice (.pair (.int .i64) (.pair (.int .i64) (.pair (.slice (.pair (.int .i64) (.pair (.int .i64) (.pair .bool .unit)))) .unit)))),.ty (.int .i64),.ty (.int .i64)],boxes:=[.lp (lpOf P 49 0 .ready none 15 [3,5] 3) [.ptr 4 1 0,.ptr 5 1 0],.row [.ty (.slice (.pair (.int .i64) (.pair (.int .i64) (.pair (.slice (.pair (.int .i64) (.pair (.int .i64) (.pair .bool .unit)))) .unit)))),.ty (.slice (.int .i64)),.ty (.slice (.int .i64)),.ty (.slice (.pair (.int .i64) (.pair (.slice (.pair (.int .i64) (.pair .bool .unit))) .unit)))],.row [.ty (.int .i64)],.dfr,.row [.fn 50 []],.row [.ty (.int .i64)]] }
abbrev shb93_0_1 (P:Go.Program):Sh:={ n:=70,slots:=[],pats:=[],boxes:=[.lp (lpOf P 49 0 .ready none 15 [3,5] 3) [.ptr 4 1 0,.ptr 5 1 0],.row [.ty (.slice (.pair (.int .i64) (.pair (.int .i64) (.pair (.slice (.pair (.int .i64) (.pair (.int .i64) (.pair .bool .unit)))) .unit)))),.ty (.slice (.int .i64)),.ty (.slice (.int .i64)),.ty (.slice (.pair (.int .i64) (.pair (.slice (.pair (.int .i64) (.pair .bool .unit))) .unit)))],.row [.ty (.int .i64)],.dfr,.row [.fn 50 []],.row [.ty (.int .i64)]] }
abbrev shr93_0_1 (P:Go.Program):Sh:={ n:=70,slots:=[],pats:=[],boxes:=[.lp (lpOf P 49 0 .ready none 15 [3,5] 3) [.ptr 4 1 0,.ptr 5 1 0],.row [.ty (.slice (.pair (.int .i64) (.pair (.int .i64) (.pair (.slice (.pair (.int .i64) (.pair (.int .i64) (.pair .bool .unit)))) .unit)))),.ty (.slice (.int .i64)),.ty (.slice (.int .i64)),.ty (.slice (.pair (.int .i64) (.pair (.slice (.pair (.int .i64) (.pair .bool .unit))) .unit)))],.row [.ty (.int .i64)],.dfr,.row [.fn 50 []],.row [.ty (.int .i64)]] }
abbrev dt93_0_1:Type:=(List (Int×Int×List (Int×Int×Bool×PUnit)×PUnit)×Int×Int×PUnit)×PUnit×(List (Int×Int×List (Int×Int×Bool×PUnit)×PUnit)×List Int×List Int×List (Int×List (Int×Bool×PUnit)×PUnit)×PUnit)×(Int×PUnit)×PUnit×(Int×PUnit)×PUnit
abbrev db93_0_1:Type:=PUnit×PUnit×(List (Int×Int×List (Int×Int×Bool×PUnit)×PUnit)×List Int×List Int×List (Int×List (Int×Bool×PUnit)×PUnit)×PUnit)×(Int×PUnit)×PUnit×(Int×PUnit)×PUnit
abbrev dr93_0_1:Type:=PUnit×PUnit×(List (Int×Int×List (Int×Int×Bool×PUnit)×PUnit)×List Int×List Int×List (Int×List (Int×Bool×PUnit)×PUnit)×PUnit)×(Int×PUnit)×PUnit×(Int×PUnit)×PUnit
def t93_0_1 (x3:(List (Int×(Int×((List (Int×(Int×(Bool×Unit))))×Unit))))) (x4:Int) (x5:Int) (b1_0:(List (Int×(Int×((List (Int×(Int×(Bool×Unit))))×Unit))))) (b1_1:(List Int)) (b1_2:(List Int)) (b1_3:(List (Int×((List (Int×(Bool×Unit)))×Unit)))) (b2_0:Int) (b5_0:Int):Tr (Out dt93_0_1 db93_0_1 dr93_0_1) :=
  Tr.test ((!leF x4 x5:Bool))
    (Tr.test (decide ((0:Int) ≤ x5) && decide (x5 < (↑(List.length x3):Int)))
      (Tr.test ((decide ((0:Int) ≤ x5) && decide (x5 < (↑(List.length b1_2):Int)):Bool))
        (Tr.test ((decide ((0:Int) ≤ x5) && decide (x5 < (↑(List.length b1_1):Int)):Bool))
          (Tr.test (Option.isSome (f94 ((((b1_0,()),()),((b1_1,(b1_2,(b1_3,()))),())),((wrap64 (x5 + (1:Int)):Int),()))))
            (Tr.test (Option.isSome (f94 ((((b1_0,()),()),((b1_1,(b1_2,(b1_3,()))),())),(x5,()))))
              (let r0:=g94 ((((b1_0,()),()),((b1_1,(b1_2,(b1_3,()))),())),((wrap64 (x5 + (1:Int)):Int),()));
              let r1:=g94 ((((b1_0,()),()),((b1_1,(b1_2,(b1_3,()))),())),(x5,()));
              Tr.test (Option.isSome (f95 ((wrap64 (r0.1 - r1.1):Int),(((List.getD x3 (Int.toNat x5) ((0:Int),(0:Int),[],())).1:Int),()))))
                (let r2:=g95 ((wrap64 (r0.1 - r1.1):Int),(((List.getD x3 (Int.toNat x5) ((0:Int),(0:Int),[],())).1:Int),()));
                Tr.test (Option.isSome (f50 ((((List.getD x3 (Int.toNat x5) ((0:Int),(0:Int),[],())).1:Int),((wrap64 (r0.1 - r1.1):Int),(r2.2.1,(b2_0,((List.getD b1_2 (Int.toNat x5) (0:Int):Int),((List.getD b1_1 (Int.toNat x5) (0:Int):Int),((wrap64 (wrap64 (wrap64 (wrap64 ((2:Int) * List.getD b1_1 (Int.toNat x5) (0:Int)) - List.getD b1_2 (Int.toNat x5) (0:Int)) + r2.1) - b2_0):Int),()))))))),())))
                  (let r3:=g50 ((((List.getD x3 (Int.toNat x5) ((0:Int),(0:Int),[],())).1:Int),((wrap64 (r0.1 - r1.1):Int),(r2.2.1,(b2_0,((List.getD b1_2 (Int.toNat x5) (0:Int):Int),((List.getD b1_1 (Int.toNat x5) (0:Int):Int),((wrap64 (wrap64 (wrap64 (wrap64 ((2:Int) * List.getD b1_1 (Int.toNat x5) (0:Int)) - List.getD b1_2 (Int.toNat x5) (0:Int)) + r2.1) - b2_0):Int),()))))))),());
                  Tr.fin (.again ((x3,(x4,((wrap64 (x5 + (1:Int)):Int),()))),((),((b1_0,(b1_1,(b1_2,(b1_3,())))),((b2_0,()),((),(((wrap64 (b5_0 + r3.1):Int),()),()))))))))
                  (Tr.stop))
                (Tr.stop))
              (Tr.stop))
            (Tr.stop))
          (Tr.stop))
        (Tr.stop))
      (Tr.stop))
    (Tr.fin (.brk ((),((),((b1_0,(b1_1,(b1_2,(b1_3,())))),((b2_0,()),((),((b5_0,()),()))))))))
def s93_0_1 (d:dt93_0_1):Option (Out dt93_0_1 db93_0_1 dr93_0_1):=(t93_0_1 d.1.1 d.1.2.1 d.1.2.2.1 d.2.2.1.1 d.2.2.1.2.1 d.2.2.1.2.2.1 d.2.2.1.2.2.2.1 d.2.2.2.1.1 d.2.2.2.2.2.1.1).val
def l93_0_1 (d:dt93_0_1):Option (db93_0_1 ⊕ dr93_0_1):=itr s93_0_1 rounds d
def b93_0_1 (d:dt93_0_1):db93_0_1:=outB (((),((),((([]:List (Int×Int×List (Int×Int×Bool×PUnit)×PUnit)),(([]:List Int),(([]:List Int),(([]:List (Int×List (Int×Bool×PUnit)×PUnit)),())))),(((0:Int),()),((),(((0:Int),()),()))))))) (l93_0_1 d)
def lc93_0_1 (P:Go.Program):LoopC:=lcB (sh93_0_1 P) (shb93_0_1 P) (shr93_0_1 P) l93_0_1 b93_0_1
theorem e93_0_1_0 (x3:(List (Int×(Int×((List (Int×(Int×(Bool×Unit))))×Unit))))) (x4:Int) (x5:Int) (b1_0:(List (Int×(Int×((List (Int×(Int×(Bool×Unit))))×Unit))))) (b1_1:(List Int)) (b1_2:(List Int)) (b1_3:(List (Int×((List (Int×(Bool×Unit)))×Unit)))) (b2_0:Int) (b5_0:Int):runBody (kf53 Go.Proofs.Tryz.prog).orc Go.Proofs.Tryz.prog 400 93 0 (sh93_0_1 Go.Proofs.Tryz.prog) (shb93_0_1 Go.Proofs.Tryz.prog) (shr93_0_1 Go.Proofs.Tryz.prog) ((x3,x4,x5,()),(),(b1_0,b1_1,b1_2,b1_3,()),(b2_0,()),(),(b5_0,()),()) [tt,tt,tt,tt,tt,tt,tt,tt,ff] =
    (let r0:=g94 ((((b1_0,()),()),((b1_1,(b1_2,(b1_3,()))),())),((wrap64 (x5 + (1:Int)):Int),()));let r1:=g94 ((((b1_0,()),()),((b1_1,(b1_2,(b1_3,()))),())),(x5,()));let r2:=g95 ((wrap64 (r0.1 - r1.1):Int),(((List.getD x3 (Int.toNat x5) ((0:Int),(0:Int),[],())).1:Int),()));let r3:=g50 ((((List.getD x3 (Int.toNat x5) ((0:Int),(0:Int),[],())).1:Int),((wrap64 (r0.1 - r1.1):Int),(r2.2.1,(b2_0,((List.getD b1_2 (Int.toNat x5) (0:Int):Int),((List.getD b1_1 (Int.toNat x5) (0:Int):Int),((wrap64 (wrap64 (wrap64 (wrap64 ((2:Int) * List.getD b1_1 (Int.toNat x5) (0:Int)) - List.getD b1_2 (Int.toNat x5) (0:Int)) + r2.1) - b2_0):Int),()))))))),()); some (.again ((x3,(x4,((wrap64 (x5 + (1:Int)):Int),()))),((),((b1_0,(b1_1,(b1_2,(b1_3,())))),((b2_0,()),((),(((wrap64 (b5_0 + r3.1):Int),()),())))))),[(sameRf Go.Proofs.Tryz.prog (nat_lit 49) (nat_lit 0),true),(false,false),(Option.isSome (f50 ((((List.getD x3 (Int.toNat x5) ((0:Int),(0:Int),[],())).1:Int),((wrap64 (r0.1 - r1.1):Int),(r2.2.1,(b2_0,((List.getD b1_2 (Int.toNat x5) (0:Int):Int),((List.getD b1_1 (Int.toNat x5) (0:Int):Int),((wrap64 (wrap64 (wrap64 (wrap64 ((2:Int) * List.getD b1_1 (Int.toNat x5) (0:Int)) - List.getD b1_2 (Int.toNat x5) (0:Int)) + r2.1) - b2_0):Int),()))))))),())),true),(Option.isSome (f95 ((wrap64 (r0.1 - r1.1):Int),(((List.getD x3 (Int.toNat x5) ((0:Int),(0:Int),[],())).1:Int),()))),true),(Option.isSome (f94 ((((b1_0,()),()),((b1_1,(b1_2,(b1_3,()))),())),(x5,()))),true),(Option.isSome (f94 ((((b1_0,()),()),((b1_1,(b1_2,(b1_3,()))),())),((wrap64 (x5 + (1:Int)):Int),()))),true),(decide ((0:Int) ≤ x5) && decide (x5 < (↑(List.length b1_1):Int)),true),(decide ((0:Int) ≤ x5) && decide (x5 < (↑(List.length b1_2):Int)),true),(decide ((0:Int) ≤ x5) && decide (x5 < (↑(List.length x3):Int)),true),(!leF x4 x5,true)])):=by kernel_rfl
theorem e93_0_1_4 (x3:(List (Int×(Int×((List (Int×(Int×(Bool×Unit))))×Unit))))) (x4:Int) (x5:Int) (b1_0:(List (Int×(Int×((List (Int×(Int×(Bool×Unit))))×Unit))))) (b1_1:(List Int)) (b1_2:(List Int)) (b1_3:(List (Int×((List (Int×(Bool×Unit)))×Unit)))) (b2_0:Int) (b5_0:Int):runBody (kf53 Go.Proofs.Tryz.prog).orc Go.Proofs.Tryz.prog 400 93 0 (sh93_0_1 Go.Proofs.Tryz.prog) (shb93_0_1 Go.Proofs.Tryz.prog) (shr93_0_1 Go.Proofs.Tryz.prog) ((x3,x4,x5,()),(),(b1_0,b1_1,b1_2,b1_3,()),(b2_0,()),(),(b5_0,()),()) [ff] =
    (some (.brk ((),((),((b1_0,(b1_1,(b1_2,(b1_3,())))),((b2_0,()),((),((b5_0,()),())))))),[(sameRf Go.Proofs.Tryz.prog (nat_lit 49) (nat_lit 0),true),(!leF x4 x5,false)])):=by kernel_rfl
theorem ok93_0_1_t (x3:(List (Int×(Int×((List (Int×(Int×(Bool×Unit))))×Unit))))) (x4:Int) (x5:Int) (b1_0:(List (Int×(Int×((List (Int×(Int×(Bool×Unit))))×Unit))))) (b1_1:(List Int)) (b1_2:(List Int)) (b1_3:(List (Int×((List (Int×(Bool×Unit)))×Unit)))) (b2_0:Int) (b5_0:Int):TrOk (BodyRuns Go.Proofs.Tryz.prog (kf53 Go.Proofs.Tryz.prog).orc 93 0 (sh93_0_1 Go.Proofs.Tryz.prog) (shb93_0_1 Go.Proofs.Tryz.prog) (shr93_0_1 Go.Proofs.Tryz.prog) ((x3,x4,x5,()),(),(b1_0,b1_1,b1_2,b1_3,()),(b2_0,()),(),(b5_0,()),())) (t93_0_1 x3 x4 x5 b1_0 b1_1 b1_2 b1_3 b2_0 b5_0) :=
  TrOk.ofTest (fun h0=>TrOk.ofTest (fun h1=>TrOk.ofTest (fun h2=>TrOk.ofTest (fun h3=>TrOk.ofTest (fun h4=>TrOk.ofTest (fun h5=>TrOk.ofTest (fun h6=>TrOk.ofTest (fun h7=>TrOk.ofFin (BodyRuns.of (e93_0_1_0 x3 x4 x5 b1_0 b1_1 b1_2 b1_3 b2_0 b5_0) (ac (sc49_0) (ac rfl (ac h7 (ac h6 (ac h5 (ac h4 (ac h3 (ac h2 (ac h1 (ac h0 All.nil)))))))))))) (fun h7=>TrOk.ofStop)) (fun h6=>TrOk.ofStop)) (fun h5=>TrOk.ofStop)) (fun h4=>TrOk.ofStop)) (fun h3=>TrOk.ofStop)) (fun h2=>TrOk.ofStop)) (fun h1=>TrOk.ofStop)) (fun h0=>TrOk.ofFin (BodyRuns.of (e93_0_1_4 x3 x4 x5 b1_0 b1_1 b1_2 b1_3 b2_0 b5_0) (ac (sc49_0) (ac h0 All.nil))))
theorem ok93_0_1:LoopOk Go.Proofs.Tryz.prog 93 0 (lc93_0_1 Go.Proofs.Tryz.prog):=loopOk_ofB (sh:=(sh93_0_1 Go.Proofs.Tryz.prog)) (shB:=(shb93_0_1 Go.Proofs.Tryz.prog)) (shR:=(shr93_0_1 Go.Proofs.Tryz.prog)) kf53_ok.base (T:=fun (d:dt93_0_1)=>t93_0_1 d.1.1 d.1.2.1 d.1.2.2.1 d.2.2.1.1 d.2.2.1.2.1 d.2.2.1.2.2.1 d.2.2.1.2.2.2.1 d.2.2.2.1.1 d.2.2.2.2.2.1.1) (by kernel_rfl) rfl (fun (d:dt93_0_1)=>ok93_0_1_t d.1.1 d.1.2.1 d.1.2.2.1 d.2.2.1.1 d.2.2.1.2.1 d.2.2.1.2.2.1 d.2.2.1.2.2.2.1 d.2.2.2.1.1 d.2.2.2.2.2.1.1) (fun _=>rfl)
def kl93_0_1 (P:Go.Program):Known:=(kf53 P).loop 93 0 (lc93_0_1 P)
theorem kl93_0_1_ok:KnownOk Go.Proofs.Tryz.prog (kl93_0_1 Go.Proofs.Tryz.prog):=kf53_ok.loop ok93_0_1
abbrev sh93_0_2 (P:Go.Program):Sh:={ n:=70,slots:=[0,1,2,15,16,17],pats:=[.yld 0,.ptr 1 4 0,.ptr 2 1 0,.ty (.slice (.pair (.int .i64) (.pair (.int .i64) (.pair (.slice (.pair (.int .i64) (.pair (.int .i64) (.pair .bool .unit)))) .unit)))),.ty (.int .i64),.ty (.int .i64)],boxes:=[.lp (lpOf P 49 0 .ready none 15 [3,5] 3) [.ptr 4 1 0,.ptr 5 1 0],.row [.ty (.slice (.pair (.int .i64) (.pair (.int .i64) (.pair (.slice (.pair (.int .i64) (.pair (.int .i64) (.pair .bool .unit)))) .unit)))),.ty (.slice (.int .i64)),.ty (.slice (.int .i64)),.ty (.slice (.pair (.int .i64) (.pair (.slice (.pair (.int .i64) (.pair .bool .unit))) .unit)))],.row [.ty (.int .i64)],.dfr,.row [.fn 51 []],.row [.ty (.int .i64)]] }
abbrev shb93_0_2 (P:Go.Program):Sh:={ n:=70,slots:=[],pats:=[],boxes:=[.lp (lpOf P 49 0 .ready none 15 [3,5] 3) [.ptr 4 1 0,.ptr 5 1 0],.row [.ty (.slice (.pair (.int .i64) (.pair (.int .i64) (.pair (.slice (.pair (.int .i64) (.pair (.int .i64) (.pair .bool .unit)))) .unit)))),.ty (.slice (.int .i64)),.ty (.slice (.int .i64)),.ty (.slice (.pair (.int .i64) (.pair (.slice (.pair (.int .i64) (.pair .bool .unit))) .unit)))],.row [.ty (.int .i64)],.dfr,.row [.fn 51 []],.row [.ty (.int .i64)]] }
abbrev shr93_0_2 (P:Go.Program):Sh:={ n:=70,slots:=[],pats:=[],boxes:=[.lp (lpOf P 49 0 .ready none 15 [3,5] 3) [.ptr 4 1 0,.ptr 5 1 0],.row [.ty (.slice (.pair (.int .i64) (.pair (.int .i64) (.pair (.slice (.pair (.int .i64) (.pair (.int .i64) (.pair .bool .unit)))) .unit)))),.ty (.slice (.int .i64)),.ty (.slice (.int .i64)),.ty (.slice (.pair (.int .i64) (.pair (.slice (.pair (.int .i64) (.pair .bool .unit))) .unit)))],.row [.ty (.int .i64)],.dfr,.row [.fn 51 []],.row [.ty (.int .i64)]] }
abbrev dt93_0_2:Type:=(List (Int×Int×List (Int×Int×Bool×PUnit)×PUnit)×Int×Int×PUnit)×PUnit×(List (Int×Int×List (Int×Int×Bool×PUnit)×PUnit)×List Int×List Int×List (Int×List (Int×Bool×PUnit)×PUnit)×PUnit)×(Int×PUnit)×PUnit×(Int×PUnit)×PUnit
abbrev db93_0_2:Type:=PUnit×PUnit×(List (Int×Int×List (Int×Int×Bool×PUnit)×PUnit)×List Int×List Int×List (Int×List (Int×Bool×PUnit)×PUnit)×PUnit)×(Int×PUnit)×PUnit×(Int×PUnit)×PUnit
abbrev dr93_0_2:Type:=PUnit×PUnit×(List (Int×Int×List (Int×Int×Bool×PUnit)×PUnit)×List Int×List Int×List (Int×List (Int×Bool×PUnit)×PUnit)×PUnit)×(Int×PUnit)×PUnit×(Int×PUnit)×PUnit
def t93_0_2 (x3:(List (Int×(Int×((List (Int×(Int×(Bool×Unit))))×Unit))))) (x4:Int) (x5:Int) (b1_0:(List (Int×(Int×((List (Int×(Int×(Bool×Unit))))×Unit))))) (b1_1:(List Int)) (b1_2:(List Int)) (b1_3:(List (Int×((List (Int×(Bool×Unit)))×Unit)))) (b2_0:Int) (b5_0:Int):Tr (Out dt93_0_2 db93_0_2 dr93_0_2) :=
  Tr.test ((!leF x4 x5:Bool))
    (Tr.test (decide ((0:Int) ≤ x5) && decide (x5 < (↑(List.length x3):Int)))
      (Tr.test ((decide ((0:Int) ≤ x5) && decide (x5 < (↑(List.length b1_2):Int)):Bool))
        (Tr.test ((decide ((0:Int) ≤ x5) && decide (x5 < (↑(List.length b1_1):Int)):Bool))
          (Tr.test (Option.isSome (f94 ((((b1_0,()),()),((b1_1,(b1_2,(b1_3,()))),())),((wrap64 (x5 + (1:Int)):Int),()))))
            (Tr.test (Option.isSome (f94 ((((b1_0,()),()),((b1_1,(b1_2,(b1_3,()))),())),(x5,()))))
              (let r0:=g94 ((((b1_0,()),()),((b1_1,(b1_2,(b1_3,()))),())),((wrap64 (x5 + (1:Int)):Int),()));
              let r1:=g94 ((((b1_0,()),()),((b1_1,(b1_2,(b1_3,()))),())),(x5,()));
              Tr.test (Option.isSome (f95 ((wrap64 (r0.1 - r1.1):Int),(((List.getD x3 (Int.toNat x5) ((0:Int),(0:Int),[],())).1:Int),()))))
                (let r2:=g95 ((wrap64 (r0.1 - r1.1):Int),(((List.getD x3 (Int.toNat x5) ((0:Int),(0:Int),[],())).1:Int),()));
                Tr.test (Option.isSome (f51 ((((List.getD x3 (Int.toNat x5) ((0:Int),(0:Int),[],())).1:Int),((wrap64 (r0.1 - r1.1):Int),(r2.2.1,(b2_0,((List.getD b1_2 (Int.toNat x5) (0:Int):Int),((List.getD b1_1 (Int.toNat x5) (0:Int):Int),((wrap64 (wrap64 (wrap64 (wrap64 ((2:Int) * List.getD b1_1 (Int.toNat x5) (0:Int)) - List.getD b1_2 (Int.toNat x5) (0:Int)) + r2.1) - b2_0):Int),()))))))),())))
                  (let r3:=g51 ((((List.getD x3 (Int.toNat x5) ((0:Int),(0:Int),[],())).1:Int),((wrap64 (r0.1 - r1.1):Int),(r2.2.1,(b2_0,((List.getD b1_2 (Int.toNat x5) (0:Int):Int),((List.getD b1_1 (Int.toNat x5) (0:Int):Int),((wrap64 (wrap64 (wrap64 (wrap64 ((2:Int) * List.getD b1_1 (Int.toNat x5) (0:Int)) - List.getD b1_2 (Int.toNat x5) (0:Int)) + r2.1) - b2_0):Int),()))))))),());
                  Tr.fin (.again ((x3,(x4,((wrap64 (x5 + (1:Int)):Int),()))),((),((b1_0,(b1_1,(b1_2,(b1_3,())))),((b2_0,()),((),(((wrap64 (b5_0 + r3.1):Int),()),()))))))))
                  (Tr.stop))
                (Tr.stop))
              (Tr.stop))
            (Tr.stop))
          (Tr.stop))
        (Tr.stop))
      (Tr.stop))
    (Tr.fin (.brk ((),((),((b1_0,(b1_1,(b1_2,(b1_3,())))),((b2_0,()),((),((b5_0,()),()))))))))
def s93_0_2 (d:dt93_0_2):Option (Out dt93_0_2 db93_0_2 dr93_0_2):=(t93_0_2 d.1.1 d.1.2.1 d.1.2.2.1 d.2.2.1.1 d.2.2.1.2.1 d.2.2.1.2.2.1 d.2.2.1.2.2.2.1 d.2.2.2.1.1 d.2.2.2.2.2.1.1).val
def l93_0_2 (d:dt93_0_2):Option (db93_0_2 ⊕ dr93_0_2):=itr s93_0_2 rounds d
def b93_0_2 (d:dt93_0_2):db93_0_2:=outB (((),((),((([]:List (Int×Int×List (Int×Int×Bool×PUnit)×PUnit)),(([]:List Int),(([]:List Int),(([]:List (Int×List (Int×Bool×PUnit)×PUnit)),())))),(((0:Int),()),((),(((0:Int),()),()))))))) (l93_0_2 d)
def lc93_0_2 (P:Go.Program):LoopC:=lcB (sh93_0_2 P) (shb93_0_2 P) (shr93_0_2 P) l93_0_2 b93_0_2
theorem e93_0_2_0 (x3:(List (Int×(Int×((List (Int×(Int×(Bool×Unit))))×Unit))))) (x4:Int) (x5:Int) (b1_0:(List (Int×(Int×((List (Int×(Int×(Bool×Unit))))×Unit))))) (b1_1:(List Int)) (b1_2:(List Int)) (b1_3:(List (Int×((List (Int×(Bool×Unit)))×Unit)))) (b2_0:Int) (b5_0:Int):runBody (kl93_0_1 Go.Proofs.Tryz.prog).orc Go.Proofs.Tryz.prog 400 93 0 (sh93_0_2 Go.Proofs.Tryz.prog) (shb93_0_2 Go.Proofs.Tryz.prog) (shr93_0_2 Go.Proofs.Tryz.prog) ((x3,x4,x5,()),(),(b1_0,b1_1,b1_2,b1_3,()),(b2_0,()),(),(b5_0,()),()) [tt,tt,tt,tt,tt,tt,tt,tt,ff] =
    (let r0:=g94 ((((b1_0,()),()),((b1_1,(b1_2,(b1_3,()))),())),((wrap64 (x5 + (1:Int)):Int),()));let r1:=g94 ((((b1_0,()),()),((b1_1,(b1_2,(b1_3,()))),())),(x5,()));let r2:=g95 ((wrap64 (r0.1 - r1.1):Int),(((List.getD x3 (Int.toNat x5) ((0:Int),(0:Int),[],())).1:Int),()));let r3:=g51 ((((List.getD x3 (Int.toNat x5) ((0:Int),(0:Int),[],())).1:Int),((wrap64 (r0.1 - r1.1):Int),(r2.2.1,(b2_0,((List.getD b1_2 (Int.toNat x5) (0:Int):Int),((List.getD b1_1 (Int.toNat x5) (0:Int):Int),((wrap64 (wrap64 (wrap64 (wrap64 ((2:Int) * List.getD b1_1 (Int.toNat x5) (0:Int)) - List.getD b1_2 (Int.toNat x5) (0:Int)) + r2.1) - b2_0):Int),()))))))),()); some (.again ((x3,(x4,((wrap64 (x5 + (1:Int)):Int),()))),((),((b1_0,(b1_1,(b1_2,(b1_3,())))),((b2_0,()),((),(((wrap64 (b5_0 + r3.1):Int),()),())))))),[(sameRf Go.Proofs.Tryz.prog (nat_lit 49) (nat_lit 0),true),(false,false),(Option.isSome (f51 ((((List.getD x3 (Int.toNat x5) ((0:Int),(0:Int),[],())).1:Int),((wrap64 (r0.1 - r1.1):Int),(r2.2.1,(b2_0,((List.getD b1_2 (Int.toNat x5) (0:Int):Int),((List.getD b1_1 (Int.toNat x5) (0:Int):Int),((wrap64 (wrap64 (wrap64 (wrap64 ((2:Int) * List.getD b1_1 (Int.toNat x5) (0:Int)) - List.getD b1_2 (Int.toNat x5) (0:Int)) + r2.1) - b2_0):Int),()))))))),())),true),(Option.isSome (f95 ((wrap64 (r0.1 - r1.1):Int),(((List.getD x3 (Int.toNat x5) ((0:Int),(0:Int),[],())).1:Int),()))),true),(Option.isSome (f94 ((((b1_0,()),()),((b1_1,(b1_2,(b1_3,()))),())),(x5,()))),true),(Option.isSome (f94 ((((b1_0,()),()),((b1_1,(b1_2,(b1_3,()))),())),((wrap64 (x5 + (1:Int)):Int),()))),true),(decide ((0:Int) ≤ x5) && decide (x5 < (↑(List.length b1_1):Int)),true),(decide ((0:Int) ≤ x5) && decide (x5 < (↑(List.length b1_2):Int)),true),(decide ((0:Int) ≤ x5) && decide (x5 < (↑(List.length x3):Int)),true),(!leF x4 x5,true)])):=by kernel_rfl
theorem e93_0_2_4 (x3:(List (Int×(Int×((List (Int×(Int×(Bool×Unit))))×Unit))))) (x4:Int) (x5:Int) (b1_0:(List (Int×(Int×((List (Int×(Int×(Bool×Unit))))×Unit))))) (b1_1:(List Int)) (b1_2:(List Int)) (b1_3:(List (Int×((List (Int×(Bool×Unit)))×Unit)))) (b2_0:Int) (b5_0:Int):runBody (kl93_0_1 Go.Proofs.Tryz.prog).orc Go.Proofs.Tryz.prog 400 93 0 (sh93_0_2 Go.Proofs.Tryz.prog) (shb93_0_2 Go.Proofs.Tryz.prog) (shr93_0_2 Go.Proofs.Tryz.prog) ((x3,x4,x5,()),(),(b1_0,b1_1,b1_2,b1_3,()),(b2_0,()),(),(b5_0,()),()) [ff] =
    (some (.brk ((),((),((b1_0,(b1_1,(b1_2,(b1_3,())))),((b2_0,()),((),((b5_0,()),())))))),[(sameRf Go.Proofs.Tryz.prog (nat_lit 49) (nat_lit 0),true),(!leF x4 x5,false)])):=by kernel_rfl
theorem ok93_0_2_t (x3:(List (Int×(Int×((List (Int×(Int×(Bool×Unit))))×Unit))))) (x4:Int) (x5:Int) (b1_0:(List (Int×(Int×((List (Int×(Int×(Bool×Unit))))×Unit))))) (b1_1:(List Int)) (b1_2:(List Int)) (b1_3:(List (Int×((List (Int×(Bool×Unit)))×Unit)))) (b2_0:Int) (b5_0:Int):TrOk (BodyRuns Go.Proofs.Tryz.prog (kl93_0_1 Go.Proofs.Tryz.prog).orc 93 0 (sh93_0_2 Go.Proofs.Tryz.prog) (shb93_0_2 Go.Proofs.Tryz.prog) (shr93_0_2 Go.Proofs.Tryz.prog) ((x3,x4,x5,()),(),(b1_0,b1_1,b1_2,b1_3,()),(b2_0,()),(),(b5_0,()),())) (t93_0_2 x3 x4 x5 b1_0 b1_1 b1_2 b1_3 b2_0 b5_0) :=
  TrOk.ofTest (fun h0=>TrOk.ofTest (fun h1=>TrOk.ofTest (fun h2=>TrOk.ofTest (fun h3=>TrOk.ofTest (fun h4=>TrOk.ofTest (fun h5=>TrOk.ofTest (fun h6=>TrOk.ofTest (fun h7=>TrOk.ofFin (BodyRuns.of (e93_0_2_0 x3 x4 x5 b1_0 b1_1 b1_2 b1_3 b2_0 b5_0) (ac (sc49_0) (ac rfl (ac h7 (ac h6 (ac h5 (ac h4 (ac h3 (ac h2 (ac h1 (ac h0 All.nil)))))))))))) (fun h7=>TrOk.ofStop)) (fun h6=>TrOk.ofStop)) (fun h5=>TrOk.ofStop)) (fun h4=>TrOk.ofStop)) (fun h3=>TrOk.ofStop)) (fun h2=>TrOk.ofStop)) (fun h1=>TrOk.ofStop)) (fun h0=>TrOk.ofFin (BodyRuns.of (e93_0_2_4 x3 x4 x5 b1_0 b1_1 b1_2 b1_3 b2_0 b5_0) (ac (sc49_0) (ac h0 All.nil))))
theorem ok93_0_2:LoopOk Go.Proofs.Tryz.prog 93 0 (lc93_0_2 Go.Proofs.Tryz.prog):=loopOk_ofB (sh:=(sh93_0_2 Go.Proofs.Tryz.prog)) (shB:=(shb93_0_2 Go.Proofs.Tryz.prog)) (shR:=(shr93_0_2 Go.Proofs.Tryz.prog)) kl93_0_1_ok.base (T:=fun (d:dt93_0_2)=>t93_0_2 d.1.1 d.1.2.1 d.1.2.2.1 d.2.2.1.1 d.2.2.1.2.1 d.2.2.1.2.2.1 d.2.2.1.2.2.2.1 d.2.2.2.1.1 d.2.2.2.2.2.1.1) (by kernel_rfl) rfl (fun (d:dt93_0_2)=>ok93_0_2_t d.1.1 d.1.2.1 d.1.2.2.1 d.2.2.1.1 d.2.2.1.2.1 d.2.2.1.2.2.1 d.2.2.1.2.2.2.1 d.2.2.2.1.1 d.2.2.2.2.2.1.1) (fun _=>rfl)
def kl93_0_2 (P:Go.Program):Known:=(kl93_0_1 P).loop 93 0 (lc93_0_2 P)
theorem kl93_0_2_ok:KnownOk Go.Proofs.Tryz.prog (kl93_0_2 Go.Proofs.Tryz.prog):=kl93_0_1_ok.loop ok93_0_2
abbrev sh93_0_3 (P:Go.Program):Sh:={ n:=70,slots:=[0,1,2,15,16,17],pats:=[.yld 0,.ptr 1 4 0,.ptr 2 1 0,.ty (.slice (.pair (.int .i64) (.pair (.int .i64) (.pair (.slice (.pair (.int .i64) (.pair (.int .i64) (.pair .bool .unit)))) .unit)))),.ty (.int .i64),.ty (.int .i64)],boxes:=[.lp (lpOf P 49 0 .ready none 15 [3,5] 3) [.ptr 4 1 0,.ptr 5 1 0],.row [.ty (.slice (.pair (.int .i64) (.pair (.int .i64) (.pair (.slice (.pair (.int .i64) (.pair (.int .i64) (.pair .bool .unit)))) .unit)))),.ty (.slice (.int .i64)),.ty (.slice (.int .i64)),.ty (.slice (.pair (.int .i64) (.pair (.slice (.pair (.int .i64) (.pair .bool .unit))) .unit)))],.row [.ty (.int .i64)],.dfr,.row [.fn 52 []],.row [.ty (.int .i64)]] }
abbrev shb93_0_3 (P:Go.Program):Sh:={ n:=70,slots:=[],pats:=[],boxes:=[.lp (lpOf P 49 0 .ready none 15 [3,5] 3) [.ptr 4 1 0,.ptr 5 1 0],.row [.ty (.slice (.pair (.int .i64) (.pair (.int .i64) (.pair (.slice (.pair (.int .i64) (.pair (.int .i64) (.pair .bool .unit)))) .unit)))),.ty (.slice (.int .i64)),.ty (.slice (.int .i64)),.ty (.slice (.pair (.int .i64) (.pair (.slice (.pair (.int .i64) (.pair .bool .unit))) .unit)))],.row [.ty (.int .i64)],.dfr,.row [.fn 52 []],.row [.ty (.int .i64)]] }
abbrev shr93_0_3 (P:Go.Program):Sh:={ n:=70,slots:=[],pats:=[],boxes:=[.lp (lpOf P 49 0 .ready none 15 [3,5] 3) [.ptr 4 1 0,.ptr 5 1 0],.row [.ty (.slice (.pair (.int .i64) (.pair (.int .i64) (.pair (.slice (.pair (.int .i64) (.pair (.int .i64) (.pair .bool .unit)))) .unit)))),.ty (.slice (.int .i64)),.ty (.slice (.int .i64)),.ty (.slice (.pair (.int .i64) (.pair (.slice (.pair (.int .i64) (.pair .bool .unit))) .unit)))],.row [.ty (.int .i64)],.dfr,.row [.fn 52 []],.row [.ty (.int .i64)]] }
abbrev dt93_0_3:Type:=(List (Int×Int×List (Int×Int×Bool×PUnit)×PUnit)×Int×Int×PUnit)×PUnit×(List (Int×Int×List (Int×Int×Bool×PUnit)×PUnit)×List Int×List Int×List (Int×List (Int×Bool×PUnit)×PUnit)×PUnit)×(Int×PUnit)×PUnit×(Int×PUnit)×PUnit
abbrev db93_0_3:Type:=PUnit×PUnit×(List (Int×Int×List (Int×Int×Bool×PUnit)×PUnit)×List Int×List Int×List (Int×List (Int×Bool×PUnit)×PUnit)×PUnit)×(Int×PUnit)×PUnit×(Int×PUnit)×PUnit
abbrev dr93_0_3:Type:=PUnit×PUnit×(List (Int×Int×List (Int×Int×Bool×PUnit)×PUnit)×List Int×List Int×List (Int×List (Int×Bool×PUnit)×PUnit)×PUnit)×(Int×PUnit)×PUnit×(Int×PUnit)×PUnit
def t93_0_3 (x3:(List (Int×(Int×((List (Int×(Int×(Bool×Unit))))×Unit))))) (x4:Int) (x5:Int) (b1_0:(List (Int×(Int×((List (Int×(Int×(Bool×Unit))))×Unit))))) (b1_1:(List Int)) (b1_2:(List Int)) (b1_3:(List (Int×((List (Int×(Bool×Unit)))×Unit)))) (b2_0:Int) (b5_0:Int):Tr (Out dt93_0_3 db93_0_3 dr93_0_3) :=
  Tr.test ((!leF x4 x5:Bool))
    (Tr.test (decide ((0:Int) ≤ x5) && decide (x5 < (↑(List.length x3):Int)))
      (Tr.test ((decide ((0:Int) ≤ x5) && decide (x5 < (↑(List.length b1_2):Int)):Bool))
        (Tr.test ((decide ((0:Int) ≤ x5) && decide (x5 < (↑(List.length b1_1):Int)):Bool))
          (Tr.test (Option.isSome (f94 ((((b1_0,()),()),((b1_1,(b1_2,(b1_3,()))),())),((wrap64 (x5 + (1:Int)):Int),()))))
            (Tr.test (Option.isSome (f94 ((((b1_0,()),()),((b1_1,(b1_2,(b1_3,()))),())),(x5,()))))
              (let r0:=g94 ((((b1_0,()),()),((b1_1,(b1_2,(b1_3,()))),())),((wrap64 (x5 + (1:Int)):Int),()));
              let r1:=g94 ((((b1_0,()),()),((b1_1,(b1_2,(b1_3,()))),())),(x5,()));
              Tr.test (Option.isSome (f95 ((wrap64 (r0.1 - r1.1):Int),(((List.getD x3 (Int.toNat x5) ((0:Int),(0:Int),[],())).1:Int),()))))
                (let r2:=g95 ((wrap64 (r0.1 - r1.1):Int),(((List.getD x3 (Int.toNat x5) ((0:Int),(0:Int),[],())).1:Int),()));
                Tr.test (Option.isSome (f52 ((((List.getD x3 (Int.toNat x5) ((0:Int),(0:Int),[],())).1:Int),((wrap64 (r0.1 - r1.1):Int),(r2.2.1,(b2_0,((List.getD b1_2 (Int.toNat x5) (0:Int):Int),((List.getD b1_1 (Int.toNat x5) (0:Int):Int),((wrap64 (wrap64 (wrap64 (wrap64 ((2:Int) * List.getD b1_1 (Int.toNat x5) (0:Int)) - List.getD b1_2 (Int.toNat x5) (0:Int)) + r2.1) - b2_0):Int),()))))))),())))
                  (let r3:=g52 ((((List.getD x3 (Int.toNat x5) ((0:Int),(0:Int),[],())).1:Int),((wrap64 (r0.1 - r1.1):Int),(r2.2.1,(b2_0,((List.getD b1_2 (Int.toNat x5) (0:Int):Int),((List.getD b1_1 (Int.toNat x5) (0:Int):Int),((wrap64 (wrap64 (wrap64 (wrap64 ((2:Int) * List.getD b1_1 (Int.toNat x5) (0:Int)) - List.getD b1_2 (Int.toNat x5) (0:Int)) + r2.1) - b2_0):Int),()))))))),());
                  Tr.fin (.again ((x3,(x4,((wrap64 (x5 + (1:Int)):Int),()))),((),((b1_0,(b1_1,(b1_2,(b1_3,())))),((b2_0,()),((),(((wrap64 (b5_0 + r3.1):Int),()),()))))))))
                  (Tr.stop))
                (Tr.stop))
              (Tr.stop))
            (Tr.stop))
          (Tr.stop))
        (Tr.stop))
      (Tr.stop))
    (Tr.fin (.brk ((),((),((b1_0,(b1_1,(b1_2,(b1_3,())))),((b2_0,()),((),((b5_0,()),()))))))))
def s93_0_3 (d:dt93_0_3):Option (Out dt93_0_3 db93_0_3 dr93_0_3):=(t93_0_3 d.1.1 d.1.2.1 d.1.2.2.1 d.2.2.1.1 d.2.2.1.2.1 d.2.2.1.2.2.1 d.2.2.1.2.2.2.1 d.2.2.2.1.1 d.2.2.2.2.2.1.1).val
def l93_0_3 (d:dt93_0_3):Option (db93_0_3 ⊕ dr93_0_3):=itr s93_0_3 rounds d
def b93_0_3 (d:dt93_0_3):db93_0_3:=outB (((),((),((([]:List (Int×Int×List (Int×Int×Bool×PUnit)×PUnit)),(([]:List Int),(([]:List Int),(([]:List (Int×List (Int×Bool×PUnit)×PUnit)),())))),(((0:Int),()),((),(((0:Int),()),()))))))) (l93_0_3 d)
def lc93_0_3 (P:Go.Program):LoopC:=lcB (sh93_0_3 P) (shb93_0_3 P) (shr93_0_3 P) l93_0_3 b93_0_3
theorem e93_0_3_0 (x3:(List (Int×(Int×((List (Int×(Int×(Bool×Unit))))×Unit))))) (x4:Int) (x5:Int) (b1_0:(List (Int×(Int×((List (Int×(Int×(Bool×Unit))))×Unit))))) (b1_1:(List Int)) (b1_2:(List Int)) (b1_3:(List (Int×((List (Int×(Bool×Unit)))×Unit)))) (b2_0:Int) (b5_0:Int):runBody (kl93_0_2 Go.Proofs.Tryz.prog).orc Go.Proofs.Tryz.prog 400 93 0 (sh93_0_3 Go.Proofs.Tryz.prog) (shb93_0_3 Go.Proofs.Tryz.prog) (shr93_0_3 Go.Proofs.Tryz.prog) ((x3,x4,x5,()),(),(b1_0,b1_1,b1_2,b1_3,()),(b2_0,()),(),(b5_0,()),()) [tt,tt,tt,tt,tt,tt,tt,tt,ff] =
    (let r0:=g94 ((((b1_0,()),()),((b1_1,(b1_2,(b1_3,()))),())),((wrap64 (x5 + (1:Int)):Int),()));let r1:=g94 ((((b1_0,()),()),((b1_1,(b1_2,(b1_3,()))),())),(x5,()));let r2:=g95 ((wrap64 (r0.1 - r1.1):Int),(((List.getD x3 (Int.toNat x5) ((0:Int),(0:Int),[],())).1:Int),()));let r3:=g52 ((((List.getD x3 (Int.toNat x5) ((0:Int),(0:Int),[],())).1:Int),((wrap64 (r0.1 - r1.1):Int),(r2.2.1,(b2_0,((List.getD b1_2 (Int.toNat x5) (0:Int):Int),((List.getD b1_1 (Int.toNat x5) (0:Int):Int),((wrap64 (wrap64 (wrap64 (wrap64 ((2:Int) * List.getD b1_1 (Int.toNat x5) (0:Int)) - List.getD b1_2 (Int.toNat x5) (0:Int)) + r2.1) - b2_0):Int),()))))))),()); some (.again ((x3,(x4,((wrap64 (x5 + (1:Int)):Int),()))),((),((b1_0,(b1_1,(b1_2,(b1_3,())))),((b2_0,()),((),(((wrap64 (b5_0 + r3.1):Int),()),())))))),[(sameRf Go.Proofs.Tryz.prog (nat_lit 49) (nat_lit 0),true),(false,false),(Option.isSome (f52 ((((List.getD x3 (Int.toNat x5) ((0:Int),(0:Int),[],())).1:Int),((wrap64 (r0.1 - r1.1):Int),(r2.2.1,(b2_0,((List.getD b1_2 (Int.toNat x5) (0:Int):Int),((List.getD b1_1 (Int.toNat x5) (0:Int):Int),((wrap64 (wrap64 (wrap64 (wrap64 ((2:Int) * List.getD b1_1 (Int.toNat x5) (0:Int)) - List.getD b1_2 (Int.toNat x5) (0:Int)) + r2.1) - b2_0):Int),()))))))),())),true),(Option.isSome (f95 ((wrap64 (r0.1 - r1.1):Int),(((List.getD x3 (Int.toNat x5) ((0:Int),(0:Int),[],())).1:Int),()))),true),(Option.isSome (f94 ((((b1_0,()),()),((b1_1,(b1_2,(b1_3,()))),())),(x5,()))),true),(Option.isSome (f94 ((((b1_0,()),()),((b1_1,(b1_2,(b1_3,()))),())),((wrap64 (x5 + (1:Int)):Int),()))),true),(decide ((0:Int) ≤ x5) && decide (x5 < (↑(List.length b1_1):Int)),true),(decide ((0:Int) ≤ x5) && decide (x5 < (↑(List.length b1_2):Int)),true),(decide ((0:Int) ≤ x5) && decide (x5 < (↑(List.length x3):Int)),true),(!leF x4 x5,true)])):=by kernel_rfl
theorem e93_0_3_4 (x3:(List (Int×(Int×((List (Int×(Int×(Bool×Unit))))×Unit))))) (x4:Int) (x5:Int) (b1_0:(List (Int×(Int×((List (Int×(Int×(Bool×Unit))))×Unit))))) (b1_1:(List Int)) (b1_2:(List Int)) (b1_3:(List (Int×((List (Int×(Bool×Unit)))×Unit)))) (b2_0:Int) (b5_0:Int):runBody (kl93_0_2 Go.Proofs.Tryz.prog).orc Go.Proofs.Tryz.prog 400 93 0 (sh93_0_3 Go.Proofs.Tryz.prog) (shb93_0_3 Go.Proofs.Tryz.prog) (shr93_0_3 Go.Proofs.Tryz.prog) ((x3,x4,x5,()),(),(b1_0,b1_1,b1_2,b1_3,()),(b2_0,()),(),(b5_0,()),()) [ff] =
    (some (.brk ((),((),((b1_0,(b1_1,(b1_2,(b1_3,())))),((b2_0,()),((),((b5_0,()),())))))),[(sameRf Go.Proofs.Tryz.prog (nat_lit 49) (nat_lit 0),true),(!leF x4 x5,false)])):=by kernel_rfl
theorem ok93_0_3_t (x3:(List (Int×(Int×((List (Int×(Int×(Bool×Unit))))×Unit))))) (x4:Int) (x5:Int) (b1_0:(List (Int×(Int×((List (Int×(Int×(Bool×Unit))))×Unit))))) (b1_1:(List Int)) (b1_2:(List Int)) (b1_3:(List (Int×((List (Int×(Bool×Unit)))×Unit)))) (b2_0:Int) (b5_0:Int):TrOk (BodyRuns Go.Proofs.Tryz.prog (kl93_0_2 Go.Proofs.Tryz.prog).orc 93 0 (sh93_0_3 Go.Proofs.Tryz.prog) (shb93_0_3 Go.Proofs.Tryz.prog) (shr93_0_3 Go.Proofs.Tryz.prog) ((x3,x4,x5,()),(),(b1_0,b1_1,b1_2,b1_3,()),(b2_0,()),(),(b5_0,()),())) (t93_0_3 x3 x4 x5 b1_0 b1_1 b1_2 b1_3 b2_0 b5_0) :=
  TrOk.ofTest (fun h0=>TrOk.ofTest (fun h1=>TrOk.ofTest (fun h2=>TrOk.ofTest (fun h3=>TrOk.ofTest (fun h4=>TrOk.ofTest (fun h5=>TrOk.ofTest (fun h6=>TrOk.ofTest (fun h7=>TrOk.ofFin (BodyRuns.of (e93_0_3_0 x3 x4 x5 b1_0 b1_1 b1_2 b1_3 b2_0 b5_0) (ac (sc49_0) (ac rfl (ac h7 (ac h6 (ac h5 (ac h4 (ac h3 (ac h2 (ac h1 (ac h0 All.nil)))))))))))) (fun h7=>TrOk.ofStop)) (fun h6=>TrOk.ofStop)) (fun h5=>TrOk.ofStop)) (fun h4=>TrOk.ofStop)) (fun h3=>TrOk.ofStop)) (fun h2=>TrOk.ofStop)) (fun h1=>TrOk.ofStop)) (fun h0=>TrOk.ofFin (BodyRuns.of (e93_0_3_4 x3 x4 x5 b1_0 b1_1 b1_2 b1_3 b2_0 b5_0) (ac (sc49_0) (ac h0 All.nil))))
theorem ok93_0_3:LoopOk Go.Proofs.Tryz.prog 93 0 (lc93_0_3 Go.Proofs.Tryz.prog):=loopOk_ofB (sh:=(sh93_0_3 Go.Proofs.Tryz.prog)) (shB:=(shb93_0_3 Go.Proofs.Tryz.prog)) (shR:=(shr93_0_3 Go.Proofs.Tryz.prog)) kl93_0_2_ok.base (T:=fun (d:dt93_0_3)=>t93_0_3 d.1.1 d.1.2.1 d.1.2.2.1 d.2.2.1.1 d.2.2.1.2.1 d.2.2.1.2.2.1 d.2.2.1.2.2.2.1 d.2.2.2.1.1 d.2.2.2.2.2.1.1) (by kernel_rfl) rfl (fun (d:dt93_0_3)=>ok93_0_3_t d.1.1 d.1.2.1 d.1.2.2.1 d.2.2.1.1 d.2.2.1.2.1 d.2.2.1.2.2.1 d.2.2.1.2.2.2.1 d.2.2.2.1.1 d.2.2.2.2.2.1.1) (fun _=>rfl)
def kl93_0_3 (P:Go.Program):Known:=(kl93_0_2 P).loop 93 0 (lc93_0_3 P)
theorem kl93_0_3_ok:KnownOk Go.Proofs.Tryz.prog (kl93_0_3 Go.Proofs.Tryz.prog):=kl93_0_2_ok.loop ok93_0_3
abbrev sh93_0_4 (P:Go.Program):Sh:={ n:=70,slots:=[0,1,2,15,16,17],pats:=[.yld 0,.ptr 1 4 0,.ptr 2 1 0,.ty (.slice (.pair (.int .i64) (.pair (.int .i64) (.pair (.slice (.pair (.int .i64) (.pair (.int .i64) (.pair .bool .unit)))) .unit)))),.ty (.int .i64),.ty (.int .i64)],boxes:=[.lp (lpOf P 49 0 .ready none 15 [3,5] 3) [.ptr 4 1 0,.ptr 5 1 0],.row [.ty (.slice (.pair (.int .i64) (.pair (.int .i64) (.pair (.slice (.pair (.int .i64) (.pair (.int .i64) (.pair .bool .unit)))) .unit)))),.ty (.slice (.int .i64)),.ty (.slice (.int .i64)),.ty (.slice (.pair (.int .i64) (.pair (.slice (.pair (.int .i64) (.pair .bool .unit))) .unit)))],.row [.ty (.int .i64)],.dfr,.row [.fn 53 []],.row [.ty (.int .i64)]] }
abbrev shb93_0_4 (P:Go.Program):Sh:={ n:=70,slots:=[],pats:=[],boxes:=[.lp (lpOf P 49 0 .ready none 15 [3,5] 3) [.ptr 4 1 0,.ptr 5 1 0],.row [.ty (.slice (.pair (.int .i64) (.pair (.int .i64) (.pair (.slice (.pair (.int .i64) (.pair (.int .i64) (.pair .bool .unit)))) .unit)))),.ty (.slice (.int .i64)),.ty (.slice (.int .i64)),.ty (.slice (.pair (.int .i64) (.pair (.slice (.pair (.int .i64) (.pair .bool .unit))) .unit)))],.row [.ty (.int .i64)],.dfr,.row [.fn 53 []],.row [.ty (.int .i64)]] }
abbrev shr93_0_4 (P:Go.Program):Sh:={ n:=70,slots:=[],pats:=[],boxes:=[.lp (lpOf P 49 0 .ready none 15 [3,5] 3) [.ptr 4 1 0,.ptr 5 1 0],.row [.ty (.slice (.pair (.int .i64) (.pair (.int .i64) (.pair (.slice (.pair (.int .i64) (.pair (.int .i64) (.pair .bool .unit)))) .unit)))),.ty (.slice (.int .i64)),.ty (.slice (.int .i64)),.ty (.slice (.pair (.int .i64) (.pair (.slice (.pair (.int .i64) (.pair .bool .unit))) .unit)))],.row [.ty (.int .i64)],.dfr,.row [.fn 53 []],.row [.ty (.int .i64)]] }
abbrev dt93_0_4:Type:=(List (Int×Int×List (Int×Int×Bool×PUnit)×PUnit)×Int×Int×PUnit)×PUnit×(List (Int×Int×List (Int×Int×Bool×PUnit)×PUnit)×List Int×List Int×List (Int×List (Int×Bool×PUnit)×PUnit)×PUnit)×(Int×PUnit)×PUnit×(Int×PUnit)×PUnit
abbrev db93_0_4:Type:=PUnit×PUnit×(List (Int×Int×List (Int×Int×Bool×PUnit)×PUnit)×List Int×List Int×List (Int×List (Int×Bool×PUnit)×PUnit)×PUnit)×(Int×PUnit)×PUnit×(Int×PUnit)×PUnit
abbrev dr93_0_4:Type:=PUnit×PUnit×(List (Int×Int×List (Int×Int×Bool×PUnit)×PUnit)×List Int×List Int×List (Int×List (Int×Bool×PUnit)×PUnit)×PUnit)×(Int×PUnit)×PUnit×(Int×PUnit)×PUnit
def t93_0_4 (x3:(List (Int×(Int×((List (Int×(Int×(Bool×Unit))))×Unit))))) (x4:Int) (x5:Int) (b1_0:(List (Int×(Int×((List (Int×(Int×(Bool×Unit))))×Unit))))) (b1_1:(List Int)) (b1_2:(List Int)) (b1_3:(List (Int×((List (Int×(Bool×Unit)))×Unit)))) (b2_0:Int) (b5_0:Int):Tr (Out dt93_0_4 db93_0_4 dr93_0_4) :=
  Tr.test ((!leF x4 x5:Bool))
    (Tr.test (decide ((0:Int) ≤ x5) && decide (x5 < (↑(List.length x3):Int)))
      (Tr.test ((decide ((0:Int) ≤ x5) && decide (x5 < (↑(List.length b1_2):Int)):Bool))
        (Tr.test ((decide ((0:Int) ≤ x5) && decide (x5 < (↑(List.length b1_1):Int)):Bool))
          (Tr.test (Option.isSome (f94 ((((b1_0,()),()),((b1_1,(b1_2,(b1_3,()))),())),((wrap64 (x5 + (1:Int)):Int),()))))
            (Tr.test (Option.isSome (f94 ((((b1_0,()),()),((b1_1,(b1_2,(b1_3,()))),())),(x5,()))))
              (let r0:=g94 ((((b1_0,()),()),((b1_1,(b1_2,(b1_3,()))),())),((wrap64 (x5 + (1:Int)):Int),()));
              let r1:=g94 ((((b1_0,()),()),((b1_1,(b1_2,(b1_3,()))),())),(x5,()));
              Tr.test (Option.isSome (f95 ((wrap64 (r0.1 - r1.1):Int),(((List.getD x3 (Int.toNat x5) ((0:Int),(0:Int),[],())).1:Int),()))))
                (let r2:=g95 ((wrap64 (r0.1 - r1.1):Int),(((List.getD x3 (Int.toNat x5) ((0:Int),(0:Int),[],())).1:Int),()));
                Tr.test (Option.isSome (f53 ((((List.getD x3 (Int.toNat x5) ((0:Int),(0:Int),[],())).1:Int),((wrap64 (r0.1 - r1.1):Int),(r2.2.1,(b2_0,((List.getD b1_2 (Int.toNat x5) (0:Int):Int),((List.getD b1_1 (Int.toNat x5) (0:Int):Int),((wrap64 (wrap64 (wrap64 (wrap64 ((2:Int) * List.getD b1_1 (Int.toNat x5) (0:Int)) - List.getD b1_2 (Int.toNat x5) (0:Int)) + r2.1) - b2_0):Int),()))))))),())))
                  (let r3:=g53 ((((List.getD x3 (Int.toNat x5) ((0:Int),(0:Int),[],())).1:Int),((wrap64 (r0.1 - r1.1):Int),(r2.2.1,(b2_0,((List.getD b1_2 (Int.toNat x5) (0:Int):Int),((List.getD b1_1 (Int.toNat x5) (0:Int):Int),((wrap64 (wrap64 (wrap64 (wrap64 ((2:Int) * List.getD b1_1 (Int.toNat x5) (0:Int)) - List.getD b1_2 (Int.toNat x5) (0:Int)) + r2.1) - b2_0):Int),()))))))),());
                  Tr.fin (.again ((x3,(x4,((wrap64 (x5 + (1:Int)):Int),()))),((),((b1_0,(b1_1,(b1_2,(b1_3,())))),((b2_0,()),((),(((wrap64 (b5_0 + r3.1):Int),()),()))))))))
                  (Tr.stop))
                (Tr.stop))
              (Tr.stop))
            (Tr.stop))
          (Tr.stop))
        (Tr.stop))
      (Tr.stop))
    (Tr.fin (.brk ((),((),((b1_0,(b1_1,(b1_2,(b1_3,())))),((b2_0,()),((),((b5_0,()),()))))))))
def s93_0_4 (d:dt93_0_4):Option (Out dt93_0_4 db93_0_4 dr93_0_4):=(t93_0_4 d.1.1 d.1.2.1 d.1.2.2.1 d.2.2.1.1 d.2.2.1.2.1 d.2.2.1.2.2.1 d.2.2.1.2.2.2.1 d.2.2.2.1.1 d.2.2.2.2.2.1.1).val
def l93_0_4 (d:dt93_0_4):Option (db93_0_4 ⊕ dr93_0_4):=itr s93_0_4 rounds d
def b93_0_4 (d:dt93_0_4):db93_0_4:=outB (((),((),((([]:List (Int×Int×List (Int×Int×Bool×PUnit)×PUnit)),(([]:List Int),(([]:List Int),(([]:List (Int×List (Int×Bool×PUnit)×PUnit)),())))),(((0:Int),()),((),(((0:Int),()),()))))))) (l93_0_4 d)
def lc93_0_4 (P:Go.Program):LoopC:=lcB (sh93_0_4 P) (shb93_0_4 P) (shr93_0_4 P) l93_0_4 b93_0_4
theorem e93_0_4_0 (x3:(List (Int×(Int×((List (Int×(Int×(Bool×Unit))))×Unit))))) (x4:Int) (x5:Int) (b1_0:(List (Int×(Int×((List (Int×(Int×(Bool×Unit))))×Unit))))) (b1_1:(List Int)) (b1_2:(List Int)) (b1_3:(List (Int×((List (Int×(Bool×Unit)))×Unit)))) (b2_0:Int) (b5_0:Int):runBody (kl93_0_3 Go.Proofs.Tryz.prog).orc Go.Proofs.Tryz.prog 400 93 0 (sh93_0_4 Go.Proofs.Tryz.prog) (shb93_0_4 Go.Proofs.Tryz.prog) (shr93_0_4 Go.Proofs.Tryz.prog) ((x3,x4,x5,()),(),(b1_0,b1_1,b1_2,b1_3,()),(b2_0,()),(),(b5_0,()),()) [tt,tt,tt,tt,tt,tt,tt,tt,ff] =
    (let r0:=g94 ((((b1_0,()),()),((b1_1,(b1_2,(b1_3,()))),())),((wrap64 (x5 + (1:Int)):Int),()));let r1:=g94 ((((b1_0,()),()),((b1_1,(b1_2,(b1_3,()))),())),(x5,()));let r2:=g95 ((wrap64 (r0.1 - r1.1):Int),(((List.getD x3 (Int.toNat x5) ((0:Int),(0:Int),[],())).1:Int),()));let r3:=g53 ((((List.getD x3 (Int.toNat x5) ((0:Int),(0:Int),[],())).1:Int),((wrap64 (r0.1 - r1.1):Int),(r2.2.1,(b2_0,((List.getD b1_2 (Int.toNat x5) (0:Int):Int),((List.getD b1_1 (Int.toNat x5) (0:Int):Int),((wrap64 (wrap64 (wrap64 (wrap64 ((2:Int) * List.getD b1_1 (Int.toNat x5) (0:Int)) - List.getD b1_2 (Int.toNat x5) (0:Int)) + r2.1) - b2_0):Int),()))))))),()); some (.again ((x3,(x4,((wrap64 (x5 + (1:Int)):Int),()))),((),((b1_0,(b1_1,(b1_2,(b1_3,())))),((b2_0,()),((),(((wrap64 (b5_0 + r3.1):Int),()),())))))),[(sameRf Go.Proofs.Tryz.prog (nat_lit 49) (nat_lit 0),true),(false,false),(Option.isSome (f53 ((((List.getD x3 (Int.toNat x5) ((0:Int),(0:Int),[],())).1:Int),((wrap64 (r0.1 - r1.1):Int),(r2.2.1,(b2_0,((List.getD b1_2 (Int.toNat x5) (0:Int):Int),((List.getD b1_1 (Int.toNat x5) (0:Int):Int),((wrap64 (wrap64 (wrap64 (wrap64 ((2:Int) * List.getD b1_1 (Int.toNat x5) (0:Int)) - List.getD b1_2 (Int.toNat x5) (0:Int)) + r2.1) - b2_0):Int),()))))))),())),true),(Option.isSome (f95 ((wrap64 (r0.1 - r1.1):Int),(((List.getD x3 (Int.toNat x5) ((0:Int),(0:Int),[],())).1:Int),()))),true),(Option.isSome (f94 ((((b1_0,()),()),((b1_1,(b1_2,(b1_3,()))),())),(x5,()))),true),(Option.isSome (f94 ((((b1_0,()),()),((b1_1,(b1_2,(b1_3,()))),())),((wrap64 (x5 + (1:Int)):Int),()))),true),(decide ((0:Int) ≤ x5) && decide (x5 < (↑(List.length b1_1):Int)),true),(decide ((0:Int) ≤ x5) && decide (x5 < (↑(List.length b1_2):Int)),true),(decide ((0:Int) ≤ x5) && decide (x5 < (↑(List.length x3):Int)),true),(!leF x4 x5,true)])):=by kernel_rfl
theorem e93_0_4_4 (x3:(List (Int×(Int×((List (Int×(Int×(Bool×Unit))))×Unit))))) (x4:Int) (x5:Int) (b1_0:(List (Int×(Int×((List (Int×(Int×(Bool×Unit))))×Unit))))) (b1_1:(List Int)) (b1_2:(List Int)) (b1_3:(List (Int×((List (Int×(Bool×Unit)))×Unit)))) (b2_0:Int) (b5_0:Int):runBody (kl93_0_3 Go.Proofs.Tryz.prog).orc Go.Proofs.Tryz.prog 400 93 0 (sh93_0_4 Go.Proofs.Tryz.prog) (shb93_0_4 Go.Proofs.Tryz.prog) (shr93_0_4 Go.Proofs.Tryz.prog) ((x3,x4,x5,()),(),(b1_0,b1_1,b1_2,b1_3,()),(b2_0,()),(),(b5_0,()),()) [ff] =
    (some (.brk ((),((),((b1_0,(b1_1,(b1_2,(b1_3,())))),((b2_0,()),((),((b5_0,()),())))))),[(sameRf Go.Proofs.Tryz.prog (nat_lit 49) (nat_lit 0),true),(!leF x4 x5,false)])):=by kernel_rfl
theorem ok93_0_4_t (x3:(List (Int×(Int×((List (Int×(Int×(Bool×Unit))))×Unit))))) (x4:Int) (x5:Int) (b1_0:(List (Int×(Int×((List (Int×(Int×(Bool×Unit))))×Unit))))) (b1_1:(List Int)) (b1_2:(List Int)) (b1_3:(List (Int×((List (Int×(Bool×Unit)))×Unit)))) (b2_0:Int) (b5_0:Int):TrOk (BodyRuns Go.Proofs.Tryz.prog (kl93_0_3 Go.Proofs.Tryz.prog).orc 93 0 (sh93_0_4 Go.Proofs.Tryz.prog) (shb93_0_4 Go.Proofs.Tryz.prog) (shr93_0_4 Go.Proofs.Tryz.prog) ((x3,x4,x5,()),(),(b1_0,b1_1,b1_2,b1_3,()),(b2_0,()),(),(b5_0,()),())) (t93_0_4 x3 x4 x5 b1_0 b1_1 b1_2 b1_3 b2_0 b5_0) :=
  TrOk.ofTest (fun h0=>TrOk.ofTest (fun h1=>TrOk.ofTest (fun h2=>TrOk.ofTest (fun h3=>TrOk.ofTest (fun h4=>TrOk.ofTest (fun h5=>TrOk.ofTest (fun h6=>TrOk.ofTest (fun h7=>TrOk.ofFin (BodyRuns.of (e93_0_4_0 x3 x4 x5 b1_0 b1_1 b1_2 b1_3 b2_0 b5_0) (ac (sc49_0) (ac rfl (ac h7 (ac h6 (ac h5 (ac h4 (ac h3 (ac h2 (ac h1 (ac h0 All.nil)))))))))))) (fun h7=>TrOk.ofStop)) (fun h6=>TrOk.ofStop)) (fun h5=>TrOk.ofStop)) (fun h4=>TrOk.ofStop)) (fun h3=>TrOk.ofStop)) (fun h2=>TrOk.ofStop)) (fun h1=>TrOk.ofStop)) (fun h0=>TrOk.ofFin (BodyRuns.of (e93_0_4_4 x3 x4 x5 b1_0 b1_1 b1_2 b1_3 b2_0 b5_0) (ac (sc49_0) (ac h0 All.nil))))
theorem ok93_0_4:LoopOk Go.Proofs.Tryz.prog 93 0 (lc93_0_4 Go.Proofs.Tryz.prog):=loopOk_ofB (sh:=(sh93_0_4 Go.Proofs.Tryz.prog)) (shB:=(shb93_0_4 Go.Proofs.Tryz.prog)) (shR:=(shr93_0_4 Go.Proofs.Tryz.prog)) kl93_0_3_ok.base (T:=fun (d:dt93_0_4)=>t93_0_4 d.1.1 d.1.2.1 d.1.2.2.1 d.2.2.1.1 d.2.2.1.2.1 d.2.2.1.2.2.1 d.2.2.1.2.2.2.1 d.2.2.2.1.1 d.2.2.2.2.2.1.1) (by kernel_rfl) rfl (fun (d:dt93_0_4)=>ok93_0_4_t d.1.1 d.1.2.1 d.1.2.2.1 d.2.2.1.1 d.2.2.1.2.1 d.2.2.1.2.2.1 d.2.2.1.2.2.2.1 d.2.2.2.1.1 d.2.2.2.2.2.1.1) (fun _=>rfl)
def kl93_0_4 (P:Go.Program):Known:=(kl93_0_3 P).loop 93 0 (lc93_0_4 P)
theorem kl93_0_4_ok:KnownOk Go.Proofs.Tryz.prog (kl93_0_4 Go.Proofs.Tryz.prog):=kl93_0_3_ok.loop ok93_0_4
abbrev as11:List Ty:=[(.pair (.slice (.pair (.int .i64) (.pair (.int .i64) (.pair (.slice (.pair (.int .i64) (.pair (.int .i64) (.pair .bool .unit)))) .unit)))) .unit),(.pair (.slice (.int .i64)) (.pair (.slice (.int .i64)) (.pair (.slice (.pair (.int .i64) (.pair (.slice (.pair (.int .i64) (.pair .bool .unit))) .unit))) .unit))),(.int .i64)]
abbrev rs11:List Ty:=[(.pair (.int .i64) (.pair (.int .i64) (.pair (.int .i64) (.pair (.int .i64) .unit)))),(.int .i64)]
def t11 (x0:(List (Int×(Int×((List (Int×(Int×(Bool×Unit))))×Unit))))) (x1:(List Int)) (x1':(List Int)) (x1'':(List (Int×((List (Int×(Bool×Unit)))×Unit)))) (x2:Int):Tr (Tys.data rs11) :=
  Tr.test (Option.isSome (f46 (x2,())))
    (let r0:=g46 (x2,());
    Tr.test (Option.isSome (f45 ((x0,()),((x1,(x1',(x1'',()))),(([r0.1]:List Int),())))))
      (let r1:=g45 ((x0,()),((x1,(x1',(x1'',()))),(([r0.1]:List Int),())));
      Tr.test (isBrk (l93_0_1 (((r1.1.1.1.1:List (Int×Int×List (Int×Int×Bool×PUnit)×PUnit)),((↑(List.length r1.1.1.1.1):Int),((0:Int),()))),((),(((r1.1.1.1.1:List (Int×Int×List (Int×Int×Bool×PUnit)×PUnit)),(r1.1.2.1.1,(r1.1.2.1.2.1,((r1.1.2.1.2.2.1:List (Int×List (Int×Bool×PUnit)×PUnit)),())))),((x2,()),((),(((0:Int),()),()))))))))
        (let r2:=b93_0_1 (((r1.1.1.1.1:List (Int×Int×List (Int×Int×Bool×PUnit)×PUnit)),((↑(List.length r1.1.1.1.1):Int),((0:Int),()))),((),(((r1.1.1.1.1:List (Int×Int×List (Int×Int×Bool×PUnit)×PUnit)),(r1.1.2.1.1,(r1.1.2.1.2.1,((r1.1.2.1.2.2.1:List (Int×List (Int×Bool×PUnit)×PUnit)),())))),((x2,()),((),(((0:Int),()),()))))));
        Tr.test (isBrk (l93_0_2 (((r2.2.2.1.1:List (Int×Int×List (Int×Int×Bool×PUnit)×PUnit)),((↑(List.length r2.2.2.1.1):Int),((0:Int),()))),((),(((r2.2.2.1.1:List (Int×Int×List (Int×Int×Bool×PUnit)×PUnit)),(r2.2.2.1.2.1,(r2.2.2.1.2.2.1,((r2.2.2.1.2.2.2.1:List (Int×List (Int×Bool×PUnit)×PUnit)),())))),((r2.2.2.2.1.1,()),((),(((0:Int),()),()))))))))
          (let r3:=b93_0_2 (((r2.2.2.1.1:List (Int×Int×List (Int×Int×Bool×PUnit)×PUnit)),((↑(List.length r2.2.2.1.1):Int),((0:Int),()))),((),(((r2.2.2.1.1:List (Int×Int×List (Int×Int×Bool×PUnit)×PUnit)),(r2.2.2.1.2.1,(r2.2.2.1.2.2.1,((r2.2.2.1.2.2.2.1:List (Int×List (Int×Bool×PUnit)×PUnit)),())))),((r2.2.2.2.1.1,()),((),(((0:Int),()),()))))));
          Tr.test (isBrk (l93_0_3 (((r3.2.2.1.1:List (Int×Int×List (Int×Int×Bool×PUnit)×PUnit)),((↑(List.length r3.2.2.1.1):Int),((0:Int),()))),((),(((r3.2.2.1.1:List (Int×Int×List (Int×Int×Bool×PUnit)×PUnit)),(r3.2.2.1.2.1,(r3.2.2.1.2.2.1,((r3.2.2.1.2.2.2.1:List (Int×List (Int×Bool×PUnit)×PUnit)),())))),((r3.2.2.2.1.1,()),((),(((0:Int),()),()))))))))
            (let r4:=b93_0_3 (((r3.2.2.1.1:List (Int×Int×List (Int×Int×Bool×PUnit)×PUnit)),((↑(List.length r3.2.2.1.1):Int),((0:Int),()))),((),(((r3.2.2.1.1:List (Int×Int×List (Int×Int×Bool×PUnit)×PUnit)),(r3.2.2.1.2.1,(r3.2.2.1.2.2.1,((r3.2.2.1.2.2.2.1:List (Int×List (Int×Bool×PUnit)×PUnit)),())))),((r3.2.2.2.1.1,()),((),(((0:Int),()),()))))));
            Tr.test (isBrk (l93_0_4 (((r4.2.2.1.1:List (Int×Int×List (Int×Int×Bool×PUnit)×PUnit)),((↑(List.length r4.2.2.1.1):Int),((0:Int),()))),((),(((r4.2.2.1.1:List (Int×Int×List (Int×Int×Bool×PUnit)×PUnit)),(r4.2.2.1.2.1,(r4.2.2.1.2.2.1,((r4.2.2.1.2.2.2.1:List (Int×List (Int×Bool×PUnit)×PUnit)),())))),((r4.2.2.2.1.1,()),((),(((0:Int),()),()))))))))
              (let r5:=b93_0_4 (((r4.2.2.1.1:List (Int×Int×List (Int×Int×Bool×PUnit)×PUnit)),((↑(List.length r4.2.2.1.1):Int),((0:Int),()))),((),(((r4.2.2.1.1:List (Int×Int×List (Int×Int×Bool×PUnit)×PUnit)),(r4.2.2.1.2.1,(r4.2.2.1.2.2.1,((r4.2.2.1.2.2.2.1:List (Int×List (Int×Bool×PUnit)×PUnit)),())))),((r4.2.2.2.1.1,()),((),(((0:Int),()),()))))));
              Tr.fin (((r2.2.2.2.2.2.1.1,(r3.2.2.2.2.2.1.1,(r4.2.2.2.2.2.1.1,(r5.2.2.2.2.2.1.1,())))),(r1.2.1,()))))
              (Tr.stop))
            (Tr.stop))
          (Tr.stop))
        (Tr.stop))
      (Tr.stop))
    (Tr.stop)
def f11 (d:Tys.data as11):Option (Tys.data rs11):=(t11 d.1.1 d.2.1.1 d.2.1.2.1 d.2.1.2.2.1 d.2.2.1).val
def g11 (d:Tys.data as11):Tys.data rs11:=(f11 d).getD (Tys.dflt rs11)
def p11:PureC:=pcOf as11 rs11 f11 g11
theorem e11_0 (x0:(List (Int×(Int×((List (Int×(Int×(Bool×Unit))))×Unit))))) (x1:(List Int)) (x1':(List Int)) (x1'':(List (Int×((List (Int×(Bool×Unit)))×Unit)))) (x2:Int):runPure (kl93_0_4 Go.Proofs.Tryz.prog).orc Go.Proofs.Tryz.prog 400 11 as11 rs11 ((x0,()),(x1,x1',x1'',()),x2,()) [tt,tt,tt,tt,tt,tt,tt,tt,tt,tt,tt,tt,tt,tt] =
    (let r0:=g46 (x2,());let r1:=g45 ((x0,()),((x1,(x1',(x1'',()))),(([r0.1]:List Int),())));let r2:=b93_0_1 (((r1.1.1.1.1:List (Int×Int×List (Int×Int×Bool×PUnit)×PUnit)),((↑(List.length r1.1.1.1.1):Int),((0:Int),()))),((),(((r1.1.1.1.1:List (Int×Int×List (Int×Int×Bool×PUnit)×PUnit)),(r1.1.2.1.1,(r1.1.2.1.2.1,((r1.1.2.1.2.2.1:List (Int×List (Int×Bool×PUnit)×PUnit)),())))),((x2,()),((),(((0:Int),()),()))))));let r3:=b93_0_2 (((r2.2.2.1.1:List (Int×Int×List (Int×Int×Bool×PUnit)×PUnit)),((↑(List.length r2.2.2.1.1):Int),((0:Int),()))),((),(((r2.2.2.1.1:List (Int×Int×List (Int×Int×Bool×PUnit)×PUnit)),(r2.2.2.1.2.1,(r2.2.2.1.2.2.1,((r2.2.2.1.2.2.2.1:List (Int×List (Int×Bool×PUnit)×PUnit)),())))),((r2.2.2.2.1.1,()),((),(((0:Int),()),()))))));let r4:=b93_0_3 (((r3.2.2.1.1:List (Int×Int×List (Int×Int×Bool×PUnit)×PUnit)),((↑(List.length r3.2.2.1.1):Int),((0:Int),()))),((),(((r3.2.2.1.1:List (Int×Int×List (Int×Int×Bool×PUnit)×PUnit)),(r3.2.2.1.2.1,(r3.2.2.1.2.2.1,((r3.2.2.1.2.2.2.1:List (Int×List (Int×Bool×PUnit)×PUnit)),())))),((r3.2.2.2.1.1,()),((),(((0:Int),()),()))))));let r5:=b93_0_4 (((r4.2.2.1.1:List (Int×Int×List (Int×Int×Bool×PUnit)×PUnit)),((↑(List.length r4.2.2.1.1):Int),((0:Int),()))),((),(((r4.2.2.1.1:List (Int×Int×List (Int×Int×Bool×PUnit)×PUnit)),(r4.2.2.1.2.1,(r4.2.2.1.2.2.1,((r4.2.2.1.2.2.2.1:List (Int×List (Int×Bool×PUnit)×PUnit)),())))),((r4.2.2.2.1.1,()),((),(((0:Int),()),())))))); some (((r2.2.2.2.2.2.1.1,(r3.2.2.2.2.2.1.1,(r4.2.2.2.2.2.1.1,(r5.2.2.2.2.2.1.1,())))),(r1.2.1,())),[(true,true),(isBrk (l93_0_4 (((r4.2.2.1.1:List (Int×Int×List (Int×Int×Bool×PUnit)×PUnit)),((↑(List.length r4.2.2.1.1):Int),((0:Int),()))),((),(((r4.2.2.1.1:List (Int×Int×List (Int×Int×Bool×PUnit)×PUnit)),(r4.2.2.1.2.1,(r4.2.2.1.2.2.1,((r4.2.2.1.2.2.2.1:List (Int×List (Int×Bool×PUnit)×PUnit)),())))),((r4.2.2.2.1.1,()),((),(((0:Int),()),()))))))),true),(sameRf Go.Proofs.Tryz.prog (nat_lit 49) (nat_lit 0),true),(true,true),(isBrk (l93_0_3 (((r3.2.2.1.1:List (Int×Int×List (Int×Int×Bool×PUnit)×PUnit)),((↑(List.length r3.2.2.1.1):Int),((0:Int),()))),((),(((r3.2.2.1.1:List (Int×Int×List (Int×Int×Bool×PUnit)×PUnit)),(r3.2.2.1.2.1,(r3.2.2.1.2.2.1,((r3.2.2.1.2.2.2.1:List (Int×List (Int×Bool×PUnit)×PUnit)),())))),((r3.2.2.2.1.1,()),((),(((0:Int),()),()))))))),true),(sameRf Go.Proofs.Tryz.prog (nat_lit 49) (nat_lit 0),true),(true,true),(isBrk (l93_0_2 (((r2.2.2.1.1:List (Int×Int×List (Int×Int×Bool×PUnit)×PUnit)),((↑(List.length r2.2.2.1.1):Int),((0:Int),()))),((),(((r2.2.2.1.1:List (Int×Int×List (Int×Int×Bool×PUnit)×PUnit)),(r2.2.2.1.2.1,(r2.2.2.1.2.2.1,((r2.2.2.1.2.2.2.1:List (Int×List (Int×Bool×PUnit)×PUnit)),())))),((r2.2.2.2.1.1,()),((),(((0:Int),()),()))))))),true),(sameRf Go.Proofs.Tryz.prog (nat_lit 49) (nat_lit 0),true),(true,true),(isBrk (l93_0_1 (((r1.1.1.1.1:List (Int×Int×List (Int×Int×Bool×PUnit)×PUnit)),((↑(List.length r1.1.1.1.1):Int),((0:Int),()))),((),(((r1.1.1.1.1:List (Int×Int×List (Int×Int×Bool×PUnit)×PUnit)),(r1.1.2.1.1,(r1.1.2.1.2.1,((r1.1.2.1.2.2.1:List (Int×List (Int×Bool×PUnit)×PUnit)),())))),((x2,()),((),(((0:Int),()),()))))))),true),(sameRf Go.Proofs.Tryz.prog (nat_lit 49) (nat_lit 0),true),(Option.isSome (f45 ((x0,()),((x1,(x1',(x1'',()))),(([r0.1]:List Int),())))),true),(Option.isSome (f46 (x2,())),true)])):=by kernel_rfl
theorem ok11_t (x0:(List (Int×(Int×((List (Int×(Int×(Bool×Unit))))×Unit))))) (x1:(List Int)) (x1':(List Int)) (x1'':(List (Int×((List (Int×(Bool×Unit)))×Unit)))) (x2:Int):TrOk (PureRuns Go.Proofs.Tryz.prog (kl93_0_4 Go.Proofs.Tryz.prog).orc 11 as11 rs11 ((x0,()),(x1,x1',x1'',()),x2,())) (t11 x0 x1 x1' x1'' x2) :=
  TrOk.ofTest (fun h0=>TrOk.ofTest (fun h1=>TrOk.ofTest (fun h3=>TrOk.ofTest (fun h6=>TrOk.ofTest (fun h9=>TrOk.ofTest (fun h12=>TrOk.ofFin (PureRuns.of (e11_0 x0 x1 x1' x1'' x2) (ac rfl (ac h12 (ac (sc49_0) (ac rfl (ac h9 (ac (sc49_0) (ac rfl (ac h6 (ac (sc49_0) (ac rfl (ac h3 (ac (sc49_0) (ac h1 (ac h0 All.nil)))))))))))))))) (fun h12=>TrOk.ofStop)) (fun h9=>TrOk.ofStop)) (fun h6=>TrOk.ofStop)) (fun h3=>TrOk.ofStop)) (fun h1=>TrOk.ofStop)) (fun h0=>TrOk.ofStop)
theorem ok11:PureOk Go.Proofs.Tryz.prog 11 p11:=pureOk_of kl93_0_4_ok.base (T:=fun (d:Tys.data as11)=>t11 d.1.1 d.2.1.1 d.2.1.2.1 d.2.1.2.2.1 d.2.2.1) (by kernel_rfl) (fun (d:Tys.data as11)=>ok11_t d.1.1 d.2.1.1 d.2.1.2.1 d.2.1.2.2.1 d.2.2.1)
def kf11 (P:Go.Program):Known:=(kl93_0_4 P).func 11 p11
theorem kf11_ok:KnownOk Go.Proofs.Tryz.prog (kf11 Go.Proofs.Tryz.prog):=kl93_0_4_ok.func ok11
abbrev as54:List Ty:=[(.int .i64),(.int .i64),(.int .i64)]
abbrev rs54:List Ty:=[.bool]
def t54 (x0:Int) (x1:Int) (x2:Int):Tr (Tys.data rs54) :=
  Tr.test ((leF x1 x0:Bool))
    (Tr.fin ((leF x0 x2,())))
    (Tr.fin ((false,())))
def f54 (d:Tys.data as54):Option (Tys.data rs54):=(t54 d.1 d.2.1 d.2.2.1).val
def g54 (d:Tys.data as54):Tys.data rs54:=(f54 d).getD (Tys.dflt rs54)
def p54:PureC:=pcOf as54 rs54 f54 g54
theorem wk54 (x0:Int) (x1:Int) (x2:Int):Walks (runPure (kf11 Go.Proofs.Tryz.prog).orc Go.Proofs.Tryz.prog 400 54 as54 rs54 (x0,x1,x2,())) (t54 x0 x1 x2) [(bl 1 1,[2,2,2,2]),(bl 1 0,[2,2,2,2])] :=
  ⟨by kernel_rfl,by kernel_rfl,trivial⟩
theorem ok54_t (x0:Int) (x1:Int) (x2:Int):TrOk (PureRuns Go.Proofs.Tryz.prog (kf11 Go.Proofs.Tryz.prog).orc 54 as54 rs54 (x0,x1,x2,())) (t54 x0 x1 x2) :=
  Walks.ok (fun _ _ _=>PureRuns.of) (wk54 x0 x1 x2) (by kernel_rfl)
theorem ok54:PureOk Go.Proofs.Tryz.prog 54 p54:=pureOk_of kf11_ok.base (T:=fun (d:Tys.data as54)=>t54 d.1 d.2.1 d.2.2.1) (by kernel_rfl) (fun (d:Tys.data as54)=>ok54_t d.1 d.2.1 d.2.2.1)
def kf54 (P:Go.Program):Known:=(kf11 P).func 54 p54
theorem kf54_ok:KnownOk Go.Proofs.Tryz.prog (kf54 Go.Proofs.Tryz.prog):=kf11_ok.func ok54
abbrev sh97_0:Sh:={ n:=34,slots:=[0,4],pats:=[.ty (.slice (.pair (.int .i64) (.pair (.int .i64) (.pair .bool .unit)))),.ty (.int .i64)],boxes:=[] }
abbrev shb97_0:Sh:={ n:=34,slots:=[],pats:=[],boxes:=[] }
abbrev shr97_0:Sh:={ n:=34,slots:=[2,3],pats:=[.ty (.int .i64),.ty (.int .i64)],boxes:=[] }
def t97_0 (x0:(List (Int×(Int×(Bool×Unit))))) (x1:Int):Tr (Out sh97_0.data shb97_0.data shr97_0.data) :=
  Tr.test ((!leF (↑(List.length x0):Int) x1:Bool))
    (Tr.test (decide ((0:Int) ≤ x1) && decide (x1 < (↑(List.length x0):Int)))
      (Tr.test (Option.isSome (f54 (((List.getD x0 (Int.toNat x1) ((0:Int),(0:Int),false,())).1:Int),((1:Int),((1000:Int),())))))
        (let r0:=g54 (((List.getD x0 (Int.toNat x1) ((0:Int),(0:Int),false,())).1:Int),((1:Int),((1000:Int),())));
        Tr.test ((!r0.1:Bool))
          (Tr.fin (.ret ((x1,((2:Int),())),())))
          (Tr.test (Option.isSome (f54 (((List.getD x0 (Int.toNat x1) ((0:Int),(0:Int),false,())).2.1:Int),((1:Int),((1000:Int),())))))
            (let r1:=g54 (((List.getD x0 (Int.toNat x1) ((0:Int),(0:Int),false,())).2.1:Int),((1:Int),((1000:Int),())));
            Tr.test ((!r1.1:Bool))
              (Tr.fin (.ret ((x1,((2:Int),())),())))
              (Tr.fin (.again ((x0,((wrap64 (x1 + (1:Int)):Int),())),()))))
            (Tr.stop)))
        (Tr.stop))
      (Tr.stop))
    (Tr.fin (.brk ((),())))
def s97_0 (d:sh97_0.data):Option (Out sh97_0.data shb97_0.data shr97_0.data):=(t97_0 d.1.1 d.1.2.1).val
def l97_0 (d:sh97_0.data):Option (shb97_0.data ⊕ shr97_0.data):=itr s97_0 rounds d
def b97_0 (d:sh97_0.data):shb97_0.data:=outB shb97_0.dflt (l97_0 d)
def r97_0 (d:sh97_0.data):shr97_0.data:=outR shr97_0.dflt (l97_0 d)
def lc97_0:LoopC:=lcOf sh97_0 shb97_0 shr97_0 l97_0 b97_0 r97_0
theorem wk97_0 (x0:(List (Int×(Int×(Bool×Unit))))) (x1:Int):Walks (runBody (kf54 Go.Proofs.Tryz.prog).orc Go.Proofs.Tryz.prog 400 97 0 sh97_0 shb97_0 shr97_0 ((x0,x1,()),())) (t97_0 x0 x1) [(bl 4 15,[1,2,2,2,2,2,2,2,2,4,6,8]),(bl 6 55,[2,6,6,4,6,6,6,10,6,6,6,8,10,12]),(bl 6 23,[2,6,6,4,6,6,6,10,6,6,6,8,10,12]),(bl 1 0,[2])] :=
  ⟨by kernel_rfl,by kernel_rfl,by kernel_rfl,by kernel_rfl,trivial⟩
theorem ok97_0_t (x0:(List (Int×(Int×(Bool×Unit))))) (x1:Int):TrOk (BodyRuns Go.Proofs.Tryz.prog (kf54 Go.Proofs.Tryz.prog).orc 97 0 sh97_0 shb97_0 shr97_0 ((x0,x1,()),())) (t97_0 x0 x1) :=
  Walks.ok (fun _ _ _=>BodyRuns.of) (wk97_0 x0 x1) (by kernel_rfl)
theorem ok97_0:LoopOk Go.Proofs.Tryz.prog 97 0 lc97_0:=loopOk_of (sh:=sh97_0) (shB:=shb97_0) (shR:=shr97_0) kf54_ok.base (T:=fun (d:sh97_0.data)=>t97_0 d.1.1 d.1.2.1) (by kernel_rfl) rfl (fun (d:sh97_0.data)=>ok97_0_t d.1.1 d.1.2.1) (fun _=>rfl)
def kl97_0 (P:Go.Program):Known:=(kf54 P).loop 97 0 lc97_0
theorem kl97_0_ok:KnownOk Go.Proofs.Tryz.prog (kl97_0 Go.Proofs.Tryz.prog):=kf54_ok.loop ok97_0
abbrev as97:List Ty:=[(.slice (.pair (.int .i64) (.pair (.int .i64) (.pair .bool .unit))))]
abbrev rs97:List Ty:=[(.int .i64),(.int .i64)]
def t97 (x0:(List (Int×(Int×(Bool×Unit))))):Tr (Tys.data rs97) :=
  Tr.test ((eqF (↑(List.length x0):Int) (0:Int):Bool))
    (Tr.fin (((0:Int),((10:Int),()))))
    (Tr.test (!leF (↑(List.length x0):Int) (4:Int))
      (Tr.fin (((0:Int),((8:Int),()))))
      (Tr.test (Option.isSome (l97_0 ((x0,((0:Int),())),())))
        (Tr.test (isRet (l97_0 ((x0,((0:Int),())),())))
          (let r0:=r97_0 ((x0,((0:Int),())),());
          Tr.fin ((r0.1.1,(r0.1.2.1,()))))
          (Tr.fin (((0:Int),((0:Int),())))))
        (Tr.stop)))
def f97 (d:Tys.data as97):Option (Tys.data rs97):=(t97 d.1).val
def g97 (d:Tys.data as97):Tys.data rs97:=(f97 d).getD (Tys.dflt rs97)
def p97:PureC:=pcOf as97 rs97 f97 g97
theorem wk97 (x0:(List (Int×(Int×(Bool×Unit))))):Walks (runPure (kl97_0 Go.Proofs.Tryz.prog).orc Go.Proofs.Tryz.prog 400 97 as97 rs97 (x0,())) (t97 x0) [(bl 1 1,[2]),(bl 2 2,[2,4]),(bl 4 12,[2,4,6,8]),(bl 4 4,[2,4,6,8])] :=
  ⟨by kernel_rfl,by kernel_rfl,by kernel_rfl,by kernel_rfl,trivial⟩
theorem ok97_t (x0:(List (Int×(Int×(Bool×Unit))))):TrOk (PureRuns Go.Proofs.Tryz.prog (kl97_0 Go.Proofs.Tryz.prog).orc 97 as97 rs97 (x0,())) (t97 x0) :=
  Walks.ok (fun _ _ _=>PureRuns.of) (wk97 x0) (by kernel_rfl)
theorem ok97:PureOk Go.Proofs.Tryz.prog 97 p97:=pureOk_of kl97_0_ok.base (T:=fun (d:Tys.data as97)=>t97 d.1) (by kernel_rfl) (fun (d:Tys.data as97)=>ok97_t d.1)
def kf97 (P:Go.Program):Known:=(kl97_0 P).func 97 p97
theorem kf97_ok:KnownOk Go.Proofs.Tryz.prog (kf97 Go.Proofs.Tryz.prog):=kl97_0_ok.func ok97
abbrev as55:List Ty:=[(.slice (.pair (.int .i64) (.pair (.int .i64) (.pair .bool .unit))))]
abbrev rs55:List Ty:=[(.int .i64)]
def t55 (x0:(List (Int×(Int×(Bool×Unit))))):Tr (Tys.data rs55) :=
  Tr.test (Option.isSome (f97 (x0,())))
    (let r0:=g97 (x0,());
    Tr.fin ((r0.2.1,())))
    (Tr.stop)
def f55 (d:Tys.data as55):Option (Tys.data rs55):=(t55 d.1).val
def g55 (d:Tys.data as55):Tys.data rs55:=(f55 d).getD (Tys.dflt rs55)
def p55:PureC:=pcOf as55 rs55 f55 g55
theorem wk55 (x0:(List (Int×(Int×(Bool×Unit))))):Walks (runPure (kf97 Go.Proofs.Tryz.prog).orc Go.Proofs.Tryz.prog 400 55 as55 rs55 (x0,())) (t55 x0) [(bl 1 1,[2])] :=
  ⟨by kernel_rfl,trivial⟩
theorem ok55_t (x0:(List (Int×(Int×(Bool×Unit))))):TrOk (PureRuns Go.Proofs.Tryz.prog (kf97 Go.Proofs.Tryz.prog).orc 55 as55 rs55 (x0,())) (t55 x0) :=
  Walks.ok (fun _ _ _=>PureRuns.of) (wk55 x0) (by kernel_rfl)
theorem ok55:PureOk Go.Proofs.Tryz.prog 55 p55:=pureOk_of kf97_ok.base (T:=fun (d:Tys.data as55)=>t55 d.1) (by kernel_rfl) (fun (d:Tys.data as55)=>ok55_t d.1)
def kf55 (P:Go.Program):Known:=(kf97 P).func 55 p55
theorem kf55_ok:KnownOk Go.Proofs.Tryz.prog (kf55 Go.Proofs.Tryz.prog):=kf97_ok.func ok55
abbrev sh12_0:Sh:={ n:=45,slots:=[1,4],pats:=[.ptr 0 1 0,.ty (.int .i64)],boxes:=[.row [.ty (.slice (.pair (.int .i64) (.pair (.int .i64) (.pair (.slice (.pair (.int .i64) (.pair (.int .i64) (.pair .bool .unit)))) .unit))))]] }
abbrev shb12_0:Sh:={ n:=45,slots:=[],pats:=[],boxes:=[.row [.ty (.slice (.pair (.int .i64) (.pair (.int .i64) (.pair (.slice (.pair (.int .i64) (.pair (.int .i64) (.pair .bool .unit)))) .unit))))]] }
abbrev shr12_0:Sh:={ n:=45,slots:=[2,3],pats:=[.ty (.int .i64),.ty (.int .i64)],boxes:=[.row [.ty (.slice (.pair (.int .i64) (.pair (.int .i64) (.pair (.slice (.pair (.int .i64) (.pair (.int .i64) (.pair .bool .unit)))) .unit))))]] }
def t12_0 (x1:Int) (b0_0:(List (Int×(Int×((List (Int×(Int×(Bool×Unit))))×Unit))))):Tr (Out sh12_0.data shb12_0.data shr12_0.data) :=
  Tr.test ((!leF (↑(List.length b0_0):Int) x1:Bool))
    (Tr.test (decide ((0:Int) ≤ x1) && decide (x1 < (↑(List.length b0_0):Int)))
      (Tr.test (Option.isSome (f54 (((List.getD b0_0 (Int.toNat x1) ((0:Int),(0:Int),[],())).1:Int),((1:Int),((10000:Int),())))))
        (let r0:=g54 (((List.getD b0_0 (Int.toNat x1) ((0:Int),(0:Int),[],())).1:Int),((1:Int),((10000:Int),())));
        Tr.test ((!r0.1:Bool))
          (Tr.fin (.ret ((x1,((2:Int),())),((b0_0,()),()))))
          (Tr.test (Option.isSome (f54 (((List.getD b0_0 (Int.toNat x1) ((0:Int),(0:Int),[],())).2.1:Int),((1:Int),((1000:Int),())))))
            (let r1:=g54 (((List.getD b0_0 (Int.toNat x1) ((0:Int),(0:Int),[],())).2.1:Int),((1:Int),((1000:Int),())));
            Tr.test ((!r1.1:Bool))
              (Tr.fin (.ret ((x1,((2:Int),())),((b0_0,()),()))))
              (Tr.test (Option.isSome (f55 (((List.getD b0_0 (Int.toNat x1) ((0:Int),(0:Int),[],())).2.2.1:List (Int×Int×Bool×PUnit)),())))
                (let r2:=g55 (((List.getD b0_0 (Int.toNat x1) ((0:Int),(0:Int),[],())).2.2.1:List (Int×Int×Bool×PUnit)),());
                Tr.test ((!eqF r2.1 0:Bool))
                  (Tr.fin (.ret ((x1,(r2.1,())),((b0_0,()),()))))
                  (Tr.fin (.again (((wrap64 (x1 + (1:Int)):Int),()),((b0_0,()),())))))
                (Tr.stop)))
            (Tr.stop)))
        (Tr.stop))
      (Tr.stop))
    (Tr.fin (.brk ((),((b0_0,()),()))))
def s12_0 (d:sh12_0.data):Option (Out sh12_0.data shb12_0.data shr12_0.data):=(t12_0 d.1.1 d.2.1.1).val
def l12_0 (d:sh12_0.data):Option (shb12_0.data ⊕ shr12_0.data):=itr s12_0 rounds d
def b12_0 (d:sh12_0.data):shb12_0.data:=outB shb12_0.dflt (l12_0 d)
def r12_0 (d:sh12_0.data):shr12_0.data:=outR shr12_0.dflt (l12_0 d)
def lc12_0:LoopC:=lcOf sh12_0 shb12_0 shr12_0 l12_0 b12_0 r12_0
theorem wk12_0 (x1:Int) (b0_0:(List (Int×(Int×((List (Int×(Int×(Bool×Unit))))×Unit))))):Walks (runBody (kf55 Go.Proofs.Tryz.prog).orc Go.Proofs.Tryz.prog 400 12 0 sh12_0 shb12_0 shr12_0 ((x1,()),(b0_0,()),())) (t12_0 x1 b0_0) [(bl 4 15,[1,2,2,2,2,2,4,6,8]),(bl 6 55,[2,6,6,4,6,6,6,8,10,12]),(bl 8 215,[2,4,6,10,10,8,10,10,10,12,14,16]),(bl 8 87,[2,4,6,10,10,8,10,10,10,12,14,16]),(bl 1 0,[2])] :=
  ⟨by kernel_rfl,by kernel_rfl,by kernel_rfl,by kernel_rfl,by kernel_rfl,trivial⟩
theorem ok12_0_t (x1:Int) (b0_0:(List (Int×(Int×((List (Int×(Int×(Bool×Unit))))×Unit))))):TrOk (BodyRuns Go.Proofs.Tryz.prog (kf55 Go.Proofs.Tryz.prog).orc 12 0 sh12_0 shb12_0 shr12_0 ((x1,()),(b0_0,()),())) (t12_0 x1 b0_0) :=
  Walks.ok (fun _ _ _=>BodyRuns.of) (wk12_0 x1 b0_0) (by kernel_rfl)
theorem ok12_0:LoopOk Go.Proofs.Tryz.prog 12 0 lc12_0:=loopOk_of (sh:=sh12_0) (shB:=shb12_0) (shR:=shr12_0) kf55_ok.base (T:=fun (d:sh12_0.data)=>t12_0 d.1.1 d.2.1.1) (by kernel_rfl) rfl (fun (d:sh12_0.data)=>ok12_0_t d.1.1 d.2.1.1) (fun _=>rfl)
def kl12_0 (P:Go.Program):Known:=(kf55 P).loop 12 0 lc12_0
theorem kl12_0_ok:KnownOk Go.Proofs.Tryz.prog (kl12_0 Go.Proofs.Tryz.prog):=kf55_ok.loop ok12_0
abbrev as12:List Ty:=[(.pair (.slice (.pair (.int .i64) (.pair (.int .i64) (.pair (.slice (.pair (.int .i64) (.pair (.int .i64) (.pair .bool .unit)))) .unit)))) .unit)]
abbrev rs12:List Ty:=[(.int .i64),(.int .i64)]
def t12 (x0:(List (Int×(Int×((List (Int×(Int×(Bool×Unit))))×Unit))))):Tr (Tys.data rs12) :=
  Tr.test ((eqF (↑(List.length x0):Int) (0:Int):Bool))
    (Tr.fin (((0:Int),((10:Int),()))))
    (Tr.test (!leF (↑(List.length x0):Int) (5:Int))
      (Tr.fin (((0:Int),((8:Int),()))))
      (Tr.test (Option.isSome (l12_0 (((0:Int),()),((x0,()),()))))
        (Tr.test (isRet (l12_0 (((0:Int),()),((x0,()),()))))
          (let r0:=r12_0 (((0:Int),()),((x0,()),()));
          Tr.fin ((r0.1.1,(r0.1.2.1,()))))
          (Tr.fin (((0:Int),((0:Int),())))))
        (Tr.stop)))
def f12 (d:Tys.data as12):Option (Tys.data rs12):=(t12 d.1.1).val
def g12 (d:Tys.data as12):Tys.data rs12:=(f12 d).getD (Tys.dflt rs12)
def p12:PureC:=pcOf as12 rs12 f12 g12
theorem wk12 (x0:(List (Int×(Int×((List (Int×(Int×(Bool×Unit))))×Unit))))):Walks (runPure (kl12_0 Go.Proofs.Tryz.prog).orc Go.Proofs.Tryz.prog 400 12 as12 rs12 ((x0,()),())) (t12 x0) [(bl 1 1,[2]),(bl 2 2,[2,4]),(bl 4 12,[2,4,6,8]),(bl 4 4,[2,4,6,8])] :=
  ⟨by kernel_rfl,by kernel_rfl,by kernel_rfl,by kernel_rfl,trivial⟩
theorem ok12_t (x0:(List (Int×(Int×((List (Int×(Int×(Bool×Unit))))×Unit))))):TrOk (PureRuns Go.Proofs.Tryz.prog (kl12_0 Go.Proofs.Tryz.prog).orc 12 as12 rs12 ((x0,()),())) (t12 x0) :=
  Walks.ok (fun _ _ _=>PureRuns.of) (wk12 x0) (by kernel_rfl)
theorem ok12:PureOk Go.Proofs.Tryz.prog 12 p12:=pureOk_of kl12_0_ok.base (T:=fun (d:Tys.data as12)=>t12 d.1.1) (by kernel_rfl) (fun (d:Tys.data as12)=>ok12_t d.1.1)
def kf12 (P:Go.Program):Known:=(kl12_0 P).func 12 p12
theorem kf12_ok:KnownOk Go.Proofs.Tryz.prog (kf12 Go.Proofs.Tryz.prog):=kl12_0_ok.func ok12
abbrev as56:List Ty:=[(.int .i64)]
abbrev rs56:List Ty:=[(.int .i64)]
def t56 (x0:Int):Tr (Tys.data rs56) :=
  Tr.test (Option.isSome (f54 (x0,((-10000:Int),((10000:Int),())))))
    (let r0:=g54 (x0,((-10000:Int),((10000:Int),())));
    Tr.test ((!r0.1:Bool))
      (Tr.fin (((2:Int),())))
      (Tr.fin (((0:Int),()))))
    (Tr.stop)
def f56 (d:Tys.data as56):Option (Tys.data rs56):=(t56 d.1).val
def g56 (d:Tys.data as56):Tys.data rs56:=(f56 d).getD (Tys.dflt rs56)
def p56:PureC:=pcOf as56 rs56 f56 g56
theorem wk56 (x0:Int):Walks (runPure (kf12 Go.Proofs.Tryz.prog).orc Go.Proofs.Tryz.prog 400 56 as56 rs56 (x0,())) (t56 x0) [(bl 2 3,[2,4]),(bl 2 1,[2,4])] :=
  ⟨by kernel_rfl,by kernel_rfl,trivial⟩
theorem ok56_t (x0:Int):TrOk (PureRuns Go.Proofs.Tryz.prog (kf12 Go.Proofs.Tryz.prog).orc 56 as56 rs56 (x0,())) (t56 x0) :=
  Walks.ok (fun _ _ _=>PureRuns.of) (wk56 x0) (by kernel_rfl)
theorem ok56:PureOk Go.Proofs.Tryz.prog 56 p56:=pureOk_of kf12_ok.base (T:=fun (d:Tys.data as56)=>t56 d.1) (by kernel_rfl) (fun (d:Tys.data as56)=>ok56_t d.1)
def kf56 (P:Go.Program):Known:=(kf12 P).func 56 p56
theorem kf56_ok:KnownOk Go.Proofs.Tryz.prog (kf56 Go.Proofs.Tryz.prog):=kf12_ok.func ok56
abbrev as59:List Ty:=[(.int .i64)]
abbrev rs59:List Ty:=[(.int .i64)]
def t59 (x0:Int):Tr (Tys.data rs59) :=
  Tr.fin (((if x0 < Go.IntKind.wrap Go.IntKind.i64 ((0:Int) - x0) then Go.IntKind.wrap Go.IntKind.i64 ((0:Int) - x0) else x0:Int),()))
def f59 (d:Tys.data as59):Option (Tys.data rs59):=(t59 d.1).val
def g59 (d:Tys.data as59):Tys.data rs59:=(f59 d).getD (Tys.dflt rs59)
def p59:PureC:=pcOf as59 rs59 f59 g59
theorem wk59 (x0:Int):Walks (runPure (kf56 Go.Proofs.Tryz.prog).orc Go.Proofs.Tryz.prog 400 59 as59 rs59 (x0,())) (t59 x0) [(bl 0 0,[])] :=
  ⟨by kernel_rfl,trivial⟩
theorem ok59_t (x0:Int):TrOk (PureRuns Go.Proofs.Tryz.prog (kf56 Go.Proofs.Tryz.prog).orc 59 as59 rs59 (x0,())) (t59 x0) :=
  Walks.ok (fun _ _ _=>PureRuns.of) (wk59 x0) (by kernel_rfl)
theorem ok59:PureOk Go.Proofs.Tryz.prog 59 p59:=pureOk_of kf56_ok.base (T:=fun (d:Tys.data as59)=>t59 d.1) (by kernel_rfl) (fun (d:Tys.data as59)=>ok59_t d.1)
def kf59 (P:Go.Program):Known:=(kf56 P).func 59 p59
theorem kf59_ok:KnownOk Go.Proofs.Tryz.prog (kf59 Go.Proofs.Tryz.prog):=kf56_ok.func ok59
abbrev sh98_0:Sh:={ n:=90,slots:=[0,3,7],pats:=[.ty (.slice (.pair (.int .i64) (.pair (.int .i64) (.pair .bool .unit)))),.ptr 0 2 0,.ty (.int .i64)],boxes:=[.row [.ty (.int .i64),.ty (.slice (.pair (.int .i64) (.pair .bool .unit)))]] }
abbrev shb98_0:Sh:={ n:=90,slots:=[],pats:=[],boxes:=[.row [.ty (.int .i64),.ty (.slice (.pair (.int .i64) (.pair .bool .unit)))]] }
abbrev shr98_0:Sh:={ n:=90,slots:=[4,5],pats:=[.ty (.int .i64),.ty (.int .i64)],boxes:=[.row [.ty (.int .i64),.ty (.slice (.pair (.int .i64) (.pair .bool .unit)))]] }
def t98_0 (x0:(List (Int×(Int×(Bool×Unit))))) (x2:Int) (b0_0:Int) (b0_1:(List (Int×(Bool×Unit)))):Tr (Out sh98_0.data shb98_0.data shr98_0.data) :=
  Tr.test ((!leF (↑(List.length x0):Int) x2:Bool))
    (Tr.test (decide ((0:Int) ≤ x2) && decide (x2 < (↑(List.length b0_1):Int)))
      (Tr.test (Option.isSome (f56 (((List.getD b0_1 (Int.toNat x2) ((0:Int),false,())).1:Int),())))
        (let r0:=g56 (((List.getD b0_1 (Int.toNat x2) ((0:Int),false,())).1:Int),());
        Tr.test ((!eqF r0.1 0:Bool))
          (Tr.fin (.ret ((x2,(r0.1,())),((b0_0,(b0_1,())),()))))
          (Tr.test (((List.getD b0_1 (Int.toNat x2) ((0:Int),false,())).2.1:Bool))
            (Tr.test ((decide ((0:Int) ≤ x2) && decide (x2 < (↑(List.length x0):Int)):Bool))
              (Tr.test (((List.getD x0 (Int.toNat x2) ((0:Int),(0:Int),false,())).2.2.1:Bool))
                (Tr.test ((!eqF (List.getD b0_1 (Int.toNat x2) ((0:Int),false,())).1 (0:Int):Bool))
                  (Tr.fin (.ret ((x2,((3:Int),())),((b0_0,(b0_1,())),()))))
                  (Tr.fin (.again ((x0,((wrap64 (x2 + (1:Int)):Int),())),((b0_0,(b0_1,())),())))))
                (Tr.fin (.ret ((x2,((3:Int),())),((b0_0,(b0_1,())),())))))
              (Tr.stop))
            (Tr.test ((decide ((0:Int) ≤ x2) && decide (x2 < (↑(List.length x0):Int)):Bool))
              (Tr.test (((List.getD x0 (Int.toNat x2) ((0:Int),(0:Int),false,())).2.2.1:Bool))
                (Tr.test ((!eqF (List.getD b0_1 (Int.toNat x2) ((0:Int),false,())).1 (0:Int):Bool))
                  (Tr.fin (.ret ((x2,((3:Int),())),((b0_0,(b0_1,())),()))))
                  (Tr.test (Option.isSome (f59 ((wrap64 (b0_0 - (List.getD b0_1 (Int.toNat x2) ((0:Int),false,())).1):Int),())))
                    (let r1:=g59 ((wrap64 (b0_0 - (List.getD b0_1 (Int.toNat x2) ((0:Int),false,())).1):Int),());
                    Tr.test ((!leF r1.1 (List.getD x0 (Int.toNat x2) ((0:Int),(0:Int),false,())).2.1:Bool))
                      (Tr.fin (.ret ((x2,((22:Int),())),((b0_0,(b0_1,())),()))))
                      (Tr.fin (.again ((x0,((wrap64 (x2 + (1:Int)):Int),())),((b0_0,(b0_1,())),())))))
                    (Tr.stop)))
                (Tr.test (Option.isSome (f59 ((wrap64 (b0_0 - (List.getD b0_1 (Int.toNat x2) ((0:Int),false,())).1):Int),())))
                  (let r1:=g59 ((wrap64 (b0_0 - (List.getD b0_1 (Int.toNat x2) ((0:Int),false,())).1):Int),());
                  Tr.test ((!leF r1.1 (List.getD x0 (Int.toNat x2) ((0:Int),(0:Int),false,())).2.1:Bool))
                    (Tr.fin (.ret ((x2,((22:Int),())),((b0_0,(b0_1,())),()))))
                    (Tr.fin (.again ((x0,((wrap64 (x2 + (1:Int)):Int),())),((b0_0,(b0_1,())),())))))
                  (Tr.stop)))
              (Tr.stop))))
        (Tr.stop))
      (Tr.stop))
    (Tr.fin (.brk ((),((b0_0,(b0_1,())),()))))
def s98_0 (d:sh98_0.data):Option (Out sh98_0.data shb98_0.data shr98_0.data):=(t98_0 d.1.1 d.1.2.1 d.2.1.1 d.2.1.2.1).val
def l98_0 (d:sh98_0.data):Option (shb98_0.data ⊕ shr98_0.data):=itr s98_0 rounds d
def b98_0 (d:sh98_0.data):shb98_0.data:=outB shb98_0.dflt (l98_0 d)
def r98_0 (d:sh98_0.data):shr98_0.data:=outR shr98_0.dflt (l98_0 d)
def lc98_0:LoopC:=lcOf sh98_0 shb98_0 shr98_0 l98_0 b98_0 r98_0
theorem wk98_0 (x0:(List (Int×(Int×(Bool×Unit))))) (x2:Int) (b0_0:Int) (b0_1:(List (Int×(Bool×Unit)))):Walks (runBody (kf59 Go.Proofs.Tryz.prog).orc Go.Proofs.Tryz.prog 400 98 0 sh98_0 shb98_0 shr98_0 ((x0,x2,()),(b0_0,b0_1,()),())) (t98_0 x0 x2 b0_0 b0_1) [(bl 4 15,[2,4,6,8]),(bl 8 247,[1,2,2,2,2,2,5,4,5,4,4,4,5,5,5,6,5,5,5,8,8,8,8,6,8,8,8,10,12,14,16]),(bl 8 119,[0,9,9,9,9,9,9,9,9,9,9,9,9,9,2,2,8,2,8,8,8,2,2,2,5,4,5,4,4,4,5,5,5,6,5,5,5,8,8,8,8,6,8,8,8,10,12,14,16]),(bl 7 55,[1,1,1,1,1,1,3,3,3,3,3,3,3,3,6,6,6,6,4,6,6,6,8,10,12,14]),(bl 8 231,[1,2,2,2,2,2,0,4,0,4,4,4,0,0,0,6,0,0,0,8,8,8,8,8,8,8,10,12,14,16]),(bl 10 871,[2,13,13,13,13,10,13,13,13,4,13,13,13,13,13,13,0,6,12,6,12,12,12,6,6,6,0,8,0,8,8,8,0,0,0,10,0,0,0,12,12,12,12,12,12,12,14,16,18,20]),(bl 10 359,[2,13,13,13,13,10,13,13,13,4,13,13,13,13,13,13,0,6,12,6,12,12,12,6,6,6,0,8,0,8,8,8,0,0,0,10,0,0,0,12,12,12,12,12,12,12,14,16,18,20]),(bl 9 423,[2,11,11,11,11,8,11,11,11,4,11,11,11,11,11,11,0,0,10,0,10,10,10,0,0,0,0,6,0,6,6,6,0,0,0,8,0,0,0,10,10,10,10,10,10,10,12,14,16,18]),(bl 9 167,[2,11,11,11,11,8,11,11,11,4,11,11,11,11,11,11,0,0,10,0,10,10,10,0,0,0,0,6,0,6,6,6,0,0,0,8,0,0,0,10,10,10,10,10,10,10,12,14,16,18]),(bl 1 0,[2])] :=
  ⟨by kernel_rfl,by kernel_rfl,by kernel_rfl,by kernel_rfl,by kernel_rfl,by kernel_rfl,by kernel_rfl,by kernel_rfl,by kernel_rfl,by kernel_rfl,trivial⟩
theorem ok98_0_t (x0:(List (Int×(Int×(Bool×Unit))))) (x2:Int) (b0_0:Int) (b0_1:(List (Int×(Bool×Unit)))):TrOk (BodyRuns Go.Proofs.Tryz.prog (kf59 Go.Proofs.Tryz.prog).orc 98 0 sh98_0 shb98_0 shr98_0 ((x0,x2,()),(b0_0,b0_1,()),())) (t98_0 x0 x2 b0_0 b0_1) :=
  Walks.ok (fun _ _ _=>BodyRuns.of) (wk98_0 x0 x2 b0_0 b0_1) (by kernel_rfl)
theorem ok98_0:LoopOk Go.Proofs.Tryz.prog 98 0 lc98_0:=loopOk_of (sh:=sh98_0) (shB:=shb98_0) (shR:=shr98_0) kf59_ok.base (T:=fun (d:sh98_0.data)=>t98_0 d.1.1 d.1.2.1 d.2.1.1 d.2.1.2.1) (by kernel_rfl) rfl (fun (d:sh98_0.data)=>ok98_0_t d.1.1 d.1.2.1 d.2.1.1 d.2.1.2.1) (fun _=>rfl)
def kl98_0 (P:Go.Program):Known:=(kf59 P).loop 98 0 lc98_0
theorem kl98_0_ok:KnownOk Go.Proofs.Tryz.prog (kl98_0 Go.Proofs.Tryz.prog):=kf59_ok.loop ok98_0
abbrev as98:List Ty:=[(.slice (.pair (.int .i64) (.pair (.int .i64) (.pair .bool .unit)))),(.pair (.int .i64) (.pair (.slice (.pair (.int .i64) (.pair .bool .unit))) .unit))]
abbrev rs98:List Ty:=[(.int .i64),(.int .i64)]
def t98 (x0:(List (Int×(Int×(Bool×Unit))))) (x1:Int) (x1':(List (Int×(Bool×Unit)))):Tr (Tys.data rs98) :=
  Tr.test (Option.isSome (f56 (x1,())))
    (let r0:=g56 (x1,());
    Tr.test ((!eqF r0.1 0:Bool))
      (Tr.fin (((0:Int),(r0.1,()))))
      (Tr.test ((!eqF (↑(List.length x1'):Int) (↑(List.length x0):Int):Bool))
        (Tr.fin (((0:Int),((10:Int),()))))
        (Tr.test (Option.isSome (l98_0 ((x0,((0:Int),())),((x1,(x1',())),()))))
          (Tr.test (isRet (l98_0 ((x0,((0:Int),())),((x1,(x1',())),()))))
            (let r1:=r98_0 ((x0,((0:Int),())),((x1,(x1',())),()));
            Tr.fin ((r1.1.1,(r1.1.2.1,()))))
            (Tr.fin (((0:Int),((0:Int),())))))
          (Tr.stop))))
    (Tr.stop)
def f98 (d:Tys.data as98):Option (Tys.data rs98):=(t98 d.1 d.2.1.1 d.2.1.2.1).val
def g98 (d:Tys.data as98):Tys.data rs98:=(f98 d).getD (Tys.dflt rs98)
def p98:PureC:=pcOf as98 rs98 f98 g98
theorem wk98 (x0:(List (Int×(Int×(Bool×Unit))))) (x1:Int) (x1':(List (Int×(Bool×Unit)))):Walks (runPure (kl98_0 Go.Proofs.Tryz.prog).orc Go.Proofs.Tryz.prog 400 98 as98 rs98 (x0,(x1,x1',()),())) (t98 x0 x1 x1') [(bl 2 3,[2,4]),(bl 3 5,[2,4,6]),(bl 5 25,[2,4,6,8,10]),(bl 5 9,[2,4,6,8,10])] :=
  ⟨by kernel_rfl,by kernel_rfl,by kernel_rfl,by kernel_rfl,trivial⟩
theorem ok98_t (x0:(List (Int×(Int×(Bool×Unit))))) (x1:Int) (x1':(List (Int×(Bool×Unit)))):TrOk (PureRuns Go.Proofs.Tryz.prog (kl98_0 Go.Proofs.Tryz.prog).orc 98 as98 rs98 (x0,(x1,x1',()),())) (t98 x0 x1 x1') :=
  Walks.ok (fun _ _ _=>PureRuns.of) (wk98 x0 x1 x1') (by kernel_rfl)
theorem ok98:PureOk Go.Proofs.Tryz.prog 98 p98:=pureOk_of kl98_0_ok.base (T:=fun (d:Tys.data as98)=>t98 d.1 d.2.1.1 d.2.1.2.1) (by kernel_rfl) (fun (d:Tys.data as98)=>ok98_t d.1 d.2.1.1 d.2.1.2.1)
def kf98 (P:Go.Program):Known:=(kl98_0 P).func 98 p98
theorem kf98_ok:KnownOk Go.Proofs.Tryz.prog (kf98 Go.Proofs.Tryz.prog):=kl98_0_ok.func ok98
abbrev as57:List Ty:=[(.slice (.pair (.int .i64) (.pair (.int .i64) (.pair .bool .unit)))),(.pair (.int .i64) (.pair (.slice (.pair (.int .i64) (.pair .bool .unit))) .unit))]
abbrev rs57:List Ty:=[(.int .i64)]
def t57 (x0:(List (Int×(Int×(Bool×Unit))))) (x1:Int) (x1':(List (Int×(Bool×Unit)))):Tr (Tys.data rs57) :=
  Tr.test (Option.isSome (f98 (x0,((x1,(x1',())),()))))
    (let r0:=g98 (x0,((x1,(x1',())),()));
    Tr.fin ((r0.2.1,())))
    (Tr.stop)
def f57 (d:Tys.data as57):Option (Tys.data rs57):=(t57 d.1 d.2.1.1 d.2.1.2.1).val
def g57 (d:Tys.data as57):Tys.data rs57:=(f57 d).getD (Tys.dflt rs57)
def p57:PureC:=pcOf as57 rs57 f57 g57
theorem wk57 (x0:(List (Int×(Int×(Bool×Unit))))) (x1:Int) (x1':(List (Int×(Bool×Unit)))):Walks (runPure (kf98 Go.Proofs.Tryz.prog).orc Go.Proofs.Tryz.prog 400 57 as57 rs57 (x0,(x1,x1',()),())) (t57 x0 x1 x1') [(bl 1 1,[2])] :=
  ⟨by kernel_rfl,trivial⟩
theorem ok57_t (x0:(List (Int×(Int×(Bool×Unit))))) (x1:Int) (x1':(List (Int×(Bool×Unit)))):TrOk (PureRuns Go.Proofs.Tryz.prog (kf98 Go.Proofs.Tryz.prog).orc 57 as57 rs57 (x0,(x1,x1',()),())) (t57 x0 x1 x1') :=
  Walks.ok (fun _ _ _=>PureRuns.of) (wk57 x0 x1 x1') (by kernel_rfl)
theorem ok57:PureOk Go.Proofs.Tryz.prog 57 p57:=pureOk_of kf98_ok.base (T:=fun (d:Tys.data as57)=>t57 d.1 d.2.1.1 d.2.1.2.1) (by kernel_rfl) (fun (d:Tys.data as57)=>ok57_t d.1 d.2.1.1 d.2.1.2.1)
def kf57 (P:Go.Program):Known:=(kf98 P).func 57 p57
theorem kf57_ok:KnownOk Go.Proofs.Tryz.prog (kf57 Go.Proofs.Tryz.prog):=kf98_ok.func ok57
abbrev as58:List Ty:=[(.slice (.int .i64)),(.int .i64)]
abbrev rs58:List Ty:=[(.int .i64)]
def t58 (x0:(List Int)) (x1:Int):Tr (Tys.data rs58) :=
  Tr.test ((eqF x1 0:Bool))
    (Tr.test (true && decide ((0:Int) < (↑(List.length x0):Int)))
      (Tr.fin (((List.getD x0 (0:Nat) (0:Int):Int),())))
      (Tr.stop))
    (Tr.test (decide ((0:Int) ≤ x1) && decide (x1 < (↑(List.length x0):Int)))
      (Tr.test ((decide ((0:Int) ≤ wrap64 (x1 - (1:Int))) && decide (wrap64 (x1 - (1:Int)) < (↑(List.length x0):Int)):Bool))
        (Tr.fin (((wrap64 (List.getD x0 (Int.toNat x1) (0:Int) - List.getD x0 (Int.toNat (wrap64 (x1 - (1:Int)))) (0:Int)):Int),())))
        (Tr.stop))
      (Tr.stop))
def f58 (d:Tys.data as58):Option (Tys.data rs58):=(t58 d.1 d.2.1).val
def g58 (d:Tys.data as58):Tys.data rs58:=(f58 d).getD (Tys.dflt rs58)
def p58:PureC:=pcOf as58 rs58 f58 g58
theorem wk58 (x0:(List Int)) (x1:Int):Walks (runPure (kf57 Go.Proofs.Tryz.prog).orc Go.Proofs.Tryz.prog 400 58 as58 rs58 (x0,x1,())) (t58 x0 x1) [(bl 2 3,[2,4]),(bl 3 6,[2,4,6])] :=
  ⟨by kernel_rfl,by kernel_rfl,trivial⟩
theorem ok58_t (x0:(List Int)) (x1:Int):TrOk (PureRuns Go.Proofs.Tryz.prog (kf57 Go.Proofs.Tryz.prog).orc 58 as58 rs58 (x0,x1,())) (t58 x0 x1) :=
  Walks.ok (fun _ _ _=>PureRuns.of) (wk58 x0 x1) (by kernel_rfl)
theorem ok58:PureOk Go.Proofs.Tryz.prog 58 p58:=pureOk_of kf57_ok.base (T:=fun (d:Tys.data as58)=>t58 d.1 d.2.1) (by kernel_rfl) (fun (d:Tys.data as58)=>ok58_t d.1 d.2.1)
def kf58 (P:Go.Program):Known:=(kf57 P).func 58 p58
theorem kf58_ok:KnownOk Go.Proofs.Tryz.prog (kf58 Go.Proofs.Tryz.prog):=kf57_ok.func ok58
abbrev sh13_0:Sh:={ n:=94,slots:=[2,3,6,7],pats:=[.ptr 0 1 0,.ptr 1 3 0,.ty (.int .i64),.ty (.int .i64)],boxes:=[.row [.ty (.slice (.pair (.int .i64) (.pair (.int .i64) (.pair (.slice (.pair (.int .i64) (.pair (.int .i64) (.pair .bool .unit)))) .unit))))],.row [.ty (.slice (.int .i64)),.ty (.slice (.int .i64)),.ty (.slice (.pair (.int .i64) (.pair (.slice (.pair (.int .i64) (.pair .bool .unit))) .unit)))]] }
abbrev shb13_0:Sh:={ n:=94,slots:=[],pats:=[],boxes:=[.row [.ty (.slice (.pair (.int .i64) (.pair (.int .i64) (.pair (.slice (.pair (.int .i64) (.pair (.int .i64) (.pair .bool .unit)))) .unit))))],.row [.ty (.slice (.int .i64)),.ty (.slice (.int .i64)),.ty (.slice (.pair (.int .i64) (.pair (.slice (.pair (.int .i64) (.pair .bool .unit))) .unit)))]] }
abbrev shr13_0:Sh:={ n:=94,slots:=[4,5],pats:=[.ty (.int .i64),.ty (.int .i64)],boxes:=[.row [.ty (.slice (.pair (.int .i64) (.pair (.int .i64) (.pair (.slice (.pair (.int .i64) (.pair (.int .i64) (.pair .bool .unit)))) .unit))))],.row [.ty (.slice (.int .i64)),.ty (.slice (.int .i64)),.ty (.slice (.pair (.int .i64) (.pair (.slice (.pair (.int .i64) (.pair .bool .unit))) .unit)))]] }
def t13_0 (x2:Int) (x3:Int) (b0_0:(List (Int×(Int×((List (Int×(Int×(Bool×Unit))))×Unit))))) (b1_0:(List Int)) (b1_1:(List Int)) (b1_2:(List (Int×((List (Int×(Bool×Unit)))×Unit)))):Tr (Out sh13_0.data shb13_0.data shr13_0.data) :=
  Tr.test ((!leF x2 x3:Bool))
    (Tr.test (decide ((0:Int) ≤ x3) && decide (x3 < (↑(List.length b1_0):Int)))
      (Tr.test (Option.isSome (f56 ((List.getD b1_0 (Int.toNat x3) (0:Int):Int),())))
        (let r0:=g56 ((List.getD b1_0 (Int.toNat x3) (0:Int):Int),());
        Tr.test ((!eqF r0.1 0:Bool))
          (Tr.fin (.ret ((x3,((2:Int),())),((b0_0,()),((b1_0,(b1_1,(b1_2,()))),())))))
          (Tr.test ((decide ((0:Int) ≤ x3) && decide (x3 < (↑(List.length b1_1):Int)):Bool))
            (Tr.test (Option.isSome (f56 ((List.getD b1_1 (Int.toNat x3) (0:Int):Int),())))
              (let r1:=g56 ((List.getD b1_1 (Int.toNat x3) (0:Int):Int),());
              Tr.test ((!eqF r1.1 0:Bool))
                (Tr.fin (.ret ((x3,((2:Int),())),((b0_0,()),((b1_0,(b1_1,(b1_2,()))),())))))
                (Tr.test ((decide ((0:Int) ≤ x3) && decide (x3 < (↑(List.length b0_0):Int)):Bool))
                  (Tr.test ((decide ((0:Int) ≤ x3) && decide (x3 < (↑(List.length b1_2):Int)):Bool))
                    (Tr.test (Option.isSome (f57 (((List.getD b0_0 (Int.toNat x3) ((0:Int),(0:Int),[],())).2.2.1:List (Int×Int×Bool×PUnit)),((((List.getD b1_2 (Int.toNat x3) ((0:Int),[],())).1:Int),(((List.getD b1_2 (Int.toNat x3) ((0:Int),[],())).2.1:List (Int×Bool×PUnit)),())),()))))
                      (let r2:=g57 (((List.getD b0_0 (Int.toNat x3) ((0:Int),(0:Int),[],())).2.2.1:List (Int×Int×Bool×PUnit)),((((List.getD b1_2 (Int.toNat x3) ((0:Int),[],())).1:Int),(((List.getD b1_2 (Int.toNat x3) ((0:Int),[],())).2.1:List (Int×Bool×PUnit)),())),()));
                      Tr.test ((!eqF r2.1 0:Bool))
                        (Tr.fin (.ret ((x3,(r2.1,())),((b0_0,()),((b1_0,(b1_1,(b1_2,()))),())))))
                        (Tr.test (Option.isSome (f58 (b1_0,(x3,()))))
                          (let r3:=g58 (b1_0,(x3,()));
                          Tr.test ((!eqF (List.getD b1_2 (Int.toNat x3) ((0:Int),[],())).1 r3.1:Bool))
                            (Tr.fin (.ret ((x3,((13:Int),())),((b0_0,()),((b1_0,(b1_1,(b1_2,()))),())))))
                            (Tr.test (Option.isSome (f59 (r3.1,())))
                              (let r4:=g59 (r3.1,());
                              Tr.test ((!leF r4.1 (List.getD b0_0 (Int.toNat x3) ((0:Int),(0:Int),[],())).2.1:Bool))
                                (Tr.fin (.ret ((x3,((22:Int),())),((b0_0,()),((b1_0,(b1_1,(b1_2,()))),())))))
                                (Tr.fin (.again ((x2,((wrap64 (x3 + (1:Int)):Int),())),((b0_0,()),((b1_0,(b1_1,(b1_2,()))),()))))))
                              (Tr.stop)))
                          (Tr.stop)))
                      (Tr.stop))
                    (Tr.stop))
                  (Tr.stop)))
              (Tr.stop))
            (Tr.stop)))
        (Tr.stop))
      (Tr.stop))
    (Tr.fin (.brk ((),((b0_0,()),((b1_0,(b1_1,(b1_2,()))),())))))
def s13_0 (d:sh13_0.data):Option (Out sh13_0.data shb13_0.data shr13_0.data):=(t13_0 d.1.1 d.1.2.1 d.2.1.1 d.2.2.1.1 d.2.2.1.2.1 d.2.2.1.2.2.1).val
def l13_0 (d:sh13_0.data):Option (shb13_0.data ⊕ shr13_0.data):=itr s13_0 rounds d
def b13_0 (d:sh13_0.data):shb13_0.data:=outB shb13_0.dflt (l13_0 d)
def r13_0 (d:sh13_0.data):shr13_0.data:=outR shr13_0.dflt (l13_0 d)
def lc13_0:LoopC:=lcOf sh13_0 shb13_0 shr13_0 l13_0 b13_0 r13_0
theorem wk13_0 (x2:Int) (x3:Int) (b0_0:(List (Int×(Int×((List (Int×(Int×(Bool×Unit))))×Unit))))) (b1_0:(List Int)) (b1_1:(List Int)) (b1_2:(List (Int×((List (Int×(Bool×Unit)))×Unit)))):Walks (runBody (kf58 Go.Proofs.Tryz.prog).orc Go.Proofs.Tryz.prog 400 13 0 sh13_0 shb13_0 shr13_0 ((x2,x3,()),(b0_0,()),(b1_0,b1_1,b1_2,()),())) (t13_0 x2 x3 b0_0 b1_0 b1_1 b1_2) [(bl 4 15,[1,2,2,2,2,2,2,2,2,4,6,8]),(bl 7 119,[2,8,8,4,8,8,6,8,8,8,8,10,12,14]),(bl 11 1975,[2,4,6,8,10,16,16,12,16,16,14,16,16,16,16,18,20,22]),(bl 13 7095,[2,4,10,6,8,10,12,14,20,20,16,20,20,18,20,20,20,20,22,24,26]),(bl 15 27575,[2,16,4,8,6,8,14,10,12,14,16,18,24,24,20,24,24,22,24,24,24,24,26,28,30]),(bl 15 11191,[2,16,4,8,6,8,14,10,12,14,16,18,24,24,20,24,24,22,24,24,24,24,26,28,30]),(bl 1 0,[2])] :=
  ⟨by kernel_rfl,by kernel_rfl,by kernel_rfl,by kernel_rfl,by kernel_rfl,by kernel_rfl,by kernel_rfl,trivial⟩
theorem ok13_0_t (x2:Int) (x3:Int) (b0_0:(List (Int×(Int×((List (Int×(Int×(Bool×Unit))))×Unit))))) (b1_0:(List Int)) (b1_1:(List Int)) (b1_2:(List (Int×((List (Int×(Bool×Unit)))×Unit)))):TrOk (BodyRuns Go.Proofs.Tryz.prog (kf58 Go.Proofs.Tryz.prog).orc 13 0 sh13_0 shb13_0 shr13_0 ((x2,x3,()),(b0_0,()),(b1_0,b1_1,b1_2,()),())) (t13_0 x2 x3 b0_0 b1_0 b1_1 b1_2) :=
  Walks.ok (fun _ _ _=>BodyRuns.of) (wk13_0 x2 x3 b0_0 b1_0 b1_1 b1_2) (by kernel_rfl)
theorem ok13_0:LoopOk Go.Proofs.Tryz.prog 13 0 lc13_0:=loopOk_of (sh:=sh13_0) (shB:=shb13_0) (shR:=shr13_0) kf58_ok.base (T:=fun (d:sh13_0.data)=>t13_0 d.1.1 d.1.2.1 d.2.1.1 d.2.2.1.1 d.2.2.1.2.1 d.2.2.1.2.2.1) (by kernel_rfl) rfl (fun (d:sh13_0.data)=>ok13_0_t d.1.1 d.1.2.1 d.2.1.1 d.2.2.1.1 d.2.2.1.2.1 d.2.2.1.2.2.1) (fun _=>rfl)
def kl13_0 (P:Go.Program):Known:=(kf58 P).loop 13 0 lc13_0
theorem kl13_0_ok:KnownOk Go.Proofs.Tryz.prog (kl13_0 Go.Proofs.Tryz.prog):=kf58_ok.loop ok13_0
end Go.Vm.Mo
