import Derived.Test.YtlmcodagfhdncaaA4
import Derived.KernelRfl
import Derived.Test.YtlmcodagfhdncaaProg
import Derived.Test.YtlmcodagfhdncaaRsFb
set_option linter.unusedVariables false
set_option linter.unusedSimpArgs false

namespace Go.Vm.Mo
open Go
set_option linter.unusedVariables false

/-! loop 0 of (ductility/hybrid.exchange).waits$1 -/

abbrev sh104_0_2 (P:Go.Program):Sh:={ n:=47,slots:=[0,1,8,9,10],pats:=[.yld 0,.ptr 1 3 0,.ty (.slice (.pair (.int .i64) (.pair (.int .i64) (.pair (.int .i64) .unit)))),.ty (.int .i64),.ty (.int .i64)],boxes:=[.lp (lpOf P 44 0 .ready none 35 [6,8] 2) [.ptr 3 3 0,.ptr 4 1 0],.row [.ty (.int .i64),.ty (.int .i64),.ty (.slice (.pair (.int .i64) (.pair (.int .i64) (.pair (.int .i64) .unit))))],.dfr,.row [.ty (.int .i64),.ty (.int .i64),.ty (.slice (.pair (.int .i64) (.pair (.int .i64) (.pair (.int .i64) .unit))))],.row [.ty (.int .i64)]] }
abbrev shb104_0_2 (P:Go.Program):Sh:={ n:=47,slots:=[],pats:=[],boxes:=[.lp (lpOf P 44 0 .ready none 35 [6,8] 2) [.ptr 3 3 0,.ptr 4 1 0],.row [.ty (.int .i64),.ty (.int .i64),.ty (.slice (.pair (.int .i64) (.pair (.int .i64) (.pair (.int .i64) .unit))))],.dfr,.row [.ty (.int .i64),.ty (.int .i64),.ty (.slice (.pair (.int .i64) (.pair (.int .i64) (.pair (.int .i64) .unit))))],.row [.ty (.int .i64)]] }
abbrev shr104_0_2 (P:Go.Program):Sh:={ n:=47,slots:=[],pats:=[],boxes:=[.lp (lpOf P 44 0 .done (some (some 0)) 35 [6,8] 2) [.ptr 3 3 0,.ptr 4 1 0],.row [.ty (.int .i64),.ty (.int .i64),.ty (.slice (.pair (.int .i64) (.pair (.int .i64) (.pair (.int .i64) .unit))))],.dfr,.row [.ty (.int .i64),.ty (.int .i64),.ty (.slice (.pair (.int .i64) (.pair (.int .i64) (.pair (.int .i64) .unit))))],.row [.ty (.int .i64)]] }

abbrev dt104_0_2:Type:=(List (Int×Int×Int×PUnit)×Int×Int×PUnit)×PUnit×(Int×Int×List (Int×Int×Int×PUnit)×PUnit)×(Int×Int×List (Int×Int×Int×PUnit)×PUnit)×(Int×PUnit)×PUnit
abbrev db104_0_2:Type:=PUnit×PUnit×(Int×Int×List (Int×Int×Int×PUnit)×PUnit)×(Int×Int×List (Int×Int×Int×PUnit)×PUnit)×(Int×PUnit)×PUnit
abbrev dr104_0_2:Type:=PUnit×PUnit×(Int×Int×List (Int×Int×Int×PUnit)×PUnit)×(Int×Int×List (Int×Int×Int×PUnit)×PUnit)×(Int×PUnit)×PUnit

def t104_0_2 (x2:(List (Int×(Int×(Int×Unit))))) (x3:Int) (x4:Int) (b1_0:Int) (b1_1:Int) (b1_2:(List (Int×(Int×(Int×Unit))))) (b3_0:Int) (b3_1:Int) (b3_2:(List (Int×(Int×(Int×Unit))))) (b4_0:Int):Tr (Out dt104_0_2 db104_0_2 dr104_0_2) :=
  Tr.test ((!leF x3 x4:Bool))
    (Tr.test (decide ((0:Int) ≤ x4) && decide (x4 < (↑(List.length x2):Int)))
      (Tr.test ((!eqF (List.getD x2 (Int.toNat x4) ((0:Int),(0:Int),(0:Int),())).1 (0:Int):Bool))
        (Tr.fin (.again ((x2,(x3,((wrap64 (x4 + (1:Int)):Int),()))),((),((b1_0,(b1_1,(b1_2,()))),((b3_0,(b3_1,(b3_2,()))),((b4_0,()),())))))))
        (Tr.test ((!leF (↑(List.length b1_2):Int) (wrap64 (x4 + (1:Int))):Bool))
          (Tr.test ((decide ((0:Int) ≤ wrap64 (x4 + (1:Int))) && decide (wrap64 (x4 + (1:Int)) < (↑(List.length b1_2):Int)):Bool))
            (Tr.test (Option.isSome (f87 (((b3_0,(b3_1,())),(b3_2,())),((((List.getD x2 (Int.toNat x4) ((0:Int),(0:Int),(0:Int),())).2.2.1:Int),(((List.getD b1_2 (Int.toNat (wrap64 (x4 + (1:Int)))) ((0:Int),(0:Int),(0:Int),())).2.2.1:Int),((true:Bool),()))),()))))
              (let r0:=g87 (((b3_0,(b3_1,())),(b3_2,())),((((List.getD x2 (Int.toNat x4) ((0:Int),(0:Int),(0:Int),())).2.2.1:Int),(((List.getD b1_2 (Int.toNat (wrap64 (x4 + (1:Int)))) ((0:Int),(0:Int),(0:Int),())).2.2.1:Int),((true:Bool),()))),()));
              Tr.test (r0.1)
                (Tr.fin (.ret ((),((),((b1_0,(b1_1,(b1_2,()))),((b3_0,(b3_1,(b3_2,()))),((b4_0,()),())))))))
                (Tr.fin (.again ((x2,(x3,((wrap64 (x4 + (1:Int)):Int),()))),((),((b1_0,(b1_1,(b1_2,()))),((b3_0,(b3_1,(b3_2,()))),(((wrap64 (b4_0 + (1:Int)):Int),()),()))))))))
              (Tr.stop))
            (Tr.stop))
          (Tr.test (Option.isSome (f87 (((b3_0,(b3_1,())),(b3_2,())),((((List.getD x2 (Int.toNat x4) ((0:Int),(0:Int),(0:Int),())).2.2.1:Int),(b1_1,((false:Bool),()))),()))))
            (let r1:=g87 (((b3_0,(b3_1,())),(b3_2,())),((((List.getD x2 (Int.toNat x4) ((0:Int),(0:Int),(0:Int),())).2.2.1:Int),(b1_1,((false:Bool),()))),()));
            Tr.test (r1.1)
              (Tr.fin (.ret ((),((),((b1_0,(b1_1,(b1_2,()))),((b3_0,(b3_1,(b3_2,()))),((b4_0,()),())))))))
              (Tr.fin (.ret ((),((),((b1_0,(b1_1,(b1_2,()))),((b3_0,(b3_1,(b3_2,()))),((b4_0,()),()))))))))
            (Tr.stop))))
      (Tr.stop))
    (Tr.fin (.brk ((),((),((b1_0,(b1_1,(b1_2,()))),((b3_0,(b3_1,(b3_2,()))),((b4_0,()),())))))))

def s104_0_2 (d:dt104_0_2):Option (Out dt104_0_2 db104_0_2 dr104_0_2):=(t104_0_2 d.1.1 d.1.2.1 d.1.2.2.1 d.2.2.1.1 d.2.2.1.2.1 d.2.2.1.2.2.1 d.2.2.2.1.1 d.2.2.2.1.2.1 d.2.2.2.1.2.2.1 d.2.2.2.2.1.1).val
def l104_0_2 (d:dt104_0_2):Option (db104_0_2 ⊕ dr104_0_2):=itr s104_0_2 rounds d
def b104_0_2 (d:dt104_0_2):db104_0_2:=outB (((),((),(((0:Int),((0:Int),(([]:List (Int×Int×Int×PUnit)),()))),(((0:Int),((0:Int),(([]:List (Int×Int×Int×PUnit)),()))),(((0:Int),()),())))))) (l104_0_2 d)
def r104_0_2 (d:dt104_0_2):dr104_0_2:=outR (((),((),(((0:Int),((0:Int),(([]:List (Int×Int×Int×PUnit)),()))),(((0:Int),((0:Int),(([]:List (Int×Int×Int×PUnit)),()))),(((0:Int),()),())))))) (l104_0_2 d)
def lc104_0_2 (P:Go.Program):LoopC:=lcOf (sh104_0_2 P) (shb104_0_2 P) (shr104_0_2 P) l104_0_2 b104_0_2 r104_0_2

theorem e104_0_2_0 (x2:(List (Int×(Int×(Int×Unit))))) (x3:Int) (x4:Int) (b1_0:Int) (b1_1:Int) (b1_2:(List (Int×(Int×(Int×Unit))))) (b3_0:Int) (b3_1:Int) (b3_2:(List (Int×(Int×(Int×Unit))))) (b4_0:Int):runBody (kf43 Go.Proofs.Try.prog).orc Go.Proofs.Try.prog 400 104 0 (sh104_0_2 Go.Proofs.Try.prog) (shb104_0_2 Go.Proofs.Try.prog) (shr104_0_2 Go.Proofs.Try.prog) ((x2,x3,x4,()),(),(b1_0,b1_1,b1_2,()),(b3_0,b3_1,b3_2,()),(b4_0,()),()) [tt,tt,tt] =
    (some (.again ((x2,(x3,((wrap64 (x4 + (1:Int)):Int),()))),((),((b1_0,(b1_1,(b1_2,()))),((b3_0,(b3_1,(b3_2,()))),((b4_0,()),()))))),[(sameRf Go.Proofs.Try.prog (nat_lit 44) (nat_lit 0),true),(!eqF (List.getD x2 (Int.toNat x4) ((0:Int),(0:Int),(0:Int),())).1 (0:Int),true),(decide ((0:Int) ≤ x4) && decide (x4 < (↑(List.length x2):Int)),true),(!leF x3 x4,true)])):=by kernel_rfl
theorem e104_0_2_1 (x2:(List (Int×(Int×(Int×Unit))))) (x3:Int) (x4:Int) (b1_0:Int) (b1_1:Int) (b1_2:(List (Int×(Int×(Int×Unit))))) (b3_0:Int) (b3_1:Int) (b3_2:(List (Int×(Int×(Int×Unit))))) (b4_0:Int):runBody (kf43 Go.Proofs.Try.prog).orc Go.Proofs.Try.prog 400 104 0 (sh104_0_2 Go.Proofs.Try.prog) (shb104_0_2 Go.Proofs.Try.prog) (shr104_0_2 Go.Proofs.Try.prog) ((x2,x3,x4,()),(),(b1_0,b1_1,b1_2,()),(b3_0,b3_1,b3_2,()),(b4_0,()),()) [tt,tt,ff,tt,tt,tt,tt,tt,tt,tt,tt,tt] =
    (let r0:=g87 (((b3_0,(b3_1,())),(b3_2,())),((((List.getD x2 (Int.toNat x4) ((0:Int),(0:Int),(0:Int),())).2.2.1:Int),(((List.getD b1_2 (Int.toNat (wrap64 (x4 + (1:Int)))) ((0:Int),(0:Int),(0:Int),())).2.2.1:Int),(true,()))),())); some (.ret ((),((),((b1_0,(b1_1,(b1_2,()))),((b3_0,(b3_1,(b3_2,()))),((b4_0,()),()))))),[(sameRf Go.Proofs.Try.prog (nat_lit 44) (nat_lit 0),true),(true,true),(true,true),(r0.1,true),(r0.1,true),(r0.1,true),(r0.1,true),(Option.isSome (f87 (((b3_0,(b3_1,())),(b3_2,())),((((List.getD x2 (Int.toNat x4) ((0:Int),(0:Int),(0:Int),())).2.2.1:Int),(((List.getD b1_2 (Int.toNat (wrap64 (x4 + (1:Int)))) ((0:Int),(0:Int),(0:Int),())).2.2.1:Int),(true,()))),()))),true),(decide ((0:Int) ≤ wrap64 (x4 + (1:Int))) && decide (wrap64 (x4 + (1:Int)) < (↑(List.length b1_2):Int)),true),(!leF (↑(List.length b1_2):Int) (wrap64 (x4 + (1:Int))),true),(!eqF (List.getD x2 (Int.toNat x4) ((0:Int),(0:Int),(0:Int),())).1 (0:Int),false),(decide ((0:Int) ≤ x4) && decide (x4 < (↑(List.length x2):Int)),true),(!leF x3 x4,true)])):=by kernel_rfl
theorem e104_0_2_2 (x2:(List (Int×(Int×(Int×Unit))))) (x3:Int) (x4:Int) (b1_0:Int) (b1_1:Int) (b1_2:(List (Int×(Int×(Int×Unit))))) (b3_0:Int) (b3_1:Int) (b3_2:(List (Int×(Int×(Int×Unit))))) (b4_0:Int):runBody (kf43 Go.Proofs.Try.prog).orc Go.Proofs.Try.prog 400 104 0 (sh104_0_2 Go.Proofs.Try.prog) (shb104_0_2 Go.Proofs.Try.prog) (shr104_0_2 Go.Proofs.Try.prog) ((x2,x3,x4,()),(),(b1_0,b1_1,b1_2,()),(b3_0,b3_1,b3_2,()),(b4_0,()),()) [tt,tt,ff,tt,tt,tt,ff,ff,ff,ff,ff,ff] =
    (let r0:=g87 (((b3_0,(b3_1,())),(b3_2,())),((((List.getD x2 (Int.toNat x4) ((0:Int),(0:Int),(0:Int),())).2.2.1:Int),(((List.getD b1_2 (Int.toNat (wrap64 (x4 + (1:Int)))) ((0:Int),(0:Int),(0:Int),())).2.2.1:Int),(true,()))),())); some (.again ((x2,(x3,((wrap64 (x4 + (1:Int)):Int),()))),((),((b1_0,(b1_1,(b1_2,()))),((b3_0,(b3_1,(b3_2,()))),(((wrap64 (b4_0 + (1:Int)):Int),()),()))))),[(sameRf Go.Proofs.Try.prog (nat_lit 44) (nat_lit 0),true),(false,false),(false,false),(r0.1,false),(r0.1,false),(r0.1,false),(r0.1,false),(Option.isSome (f87 (((b3_0,(b3_1,())),(b3_2,())),((((List.getD x2 (Int.toNat x4) ((0:Int),(0:Int),(0:Int),())).2.2.1:Int),(((List.getD b1_2 (Int.toNat (wrap64 (x4 + (1:Int)))) ((0:Int),(0:Int),(0:Int),())).2.2.1:Int),(true,()))),()))),true),(decide ((0:Int) ≤ wrap64 (x4 + (1:Int))) && decide (wrap64 (x4 + (1:Int)) < (↑(List.length b1_2):Int)),true),(!leF (↑(List.length b1_2):Int) (wrap64 (x4 + (1:Int))),true),(!eqF (List.getD x2 (Int.toNat x4) ((0:Int),(0:Int),(0:Int),())).1 (0:Int),false),(decide ((0:Int) ≤ x4) && decide (x4 < (↑(List.length x2):Int)),true),(!leF x3 x4,true)])):=by kernel_rfl
theorem e104_0_2_4 (x2:(List (Int×(Int×(Int×Unit))))) (x3:Int) (x4:Int) (b1_0:Int) (b1_1:Int) (b1_2:(List (Int×(Int×(Int×Unit))))) (b3_0:Int) (b3_1:Int) (b3_2:(List (Int×(Int×(Int×Unit))))) (b4_0:Int):runBody (kf43 Go.Proofs.Try.prog).orc Go.Proofs.Try.prog 400 104 0 (sh104_0_2 Go.Proofs.Try.prog) (shb104_0_2 Go.Proofs.Try.prog) (shr104_0_2 Go.Proofs.Try.prog) ((x2,x3,x4,()),(),(b1_0,b1_1,b1_2,()),(b3_0,b3_1,b3_2,()),(b4_0,()),()) [tt,tt,ff,ff,tt,tt,tt,tt,tt,tt,tt] =
    (let r1:=g87 (((b3_0,(b3_1,())),(b3_2,())),((((List.getD x2 (Int.toNat x4) ((0:Int),(0:Int),(0:Int),())).2.2.1:Int),(b1_1,(false,()))),())); some (.ret ((),((),((b1_0,(b1_1,(b1_2,()))),((b3_0,(b3_1,(b3_2,()))),((b4_0,()),()))))),[(sameRf Go.Proofs.Try.prog (nat_lit 44) (nat_lit 0),true),(true,true),(true,true),(r1.1,true),(r1.1,true),(r1.1,true),(r1.1,true),(Option.isSome (f87 (((b3_0,(b3_1,())),(b3_2,())),((((List.getD x2 (Int.toNat x4) ((0:Int),(0:Int),(0:Int),())).2.2.1:Int),(b1_1,(false,()))),()))),true),(!leF (↑(List.length b1_2):Int) (wrap64 (x4 + (1:Int))),false),(!eqF (List.getD x2 (Int.toNat x4) ((0:Int),(0:Int),(0:Int),())).1 (0:Int),false),(decide ((0:Int) ≤ x4) && decide (x4 < (↑(List.length x2):Int)),true),(!leF x3 x4,true)])):=by kernel_rfl
theorem e104_0_2_5 (x2:(List (Int×(Int×(Int×Unit))))) (x3:Int) (x4:Int) (b1_0:Int) (b1_1:Int) (b1_2:(List (Int×(Int×(Int×Unit))))) (b3_0:Int) (b3_1:Int) (b3_2:(List (Int×(Int×(Int×Unit))))) (b4_0:Int):runBody (kf43 Go.Proofs.Try.prog).orc Go.Proofs.Try.prog 400 104 0 (sh104_0_2 Go.Proofs.Try.prog) (shb104_0_2 Go.Proofs.Try.prog) (shr104_0_2 Go.Proofs.Try.prog) ((x2,x3,x4,()),(),(b1_0,b1_1,b1_2,()),(b3_0,b3_1,b3_2,()),(b4_0,()),()) [tt,tt,ff,ff,tt,ff,ff,ff,ff,tt,tt] =
    (let r1:=g87 (((b3_0,(b3_1,())),(b3_2,())),((((List.getD x2 (Int.toNat x4) ((0:Int),(0:Int),(0:Int),())).2.2.1:Int),(b1_1,(false,()))),())); some (.ret ((),((),((b1_0,(b1_1,(b1_2,()))),((b3_0,(b3_1,(b3_2,()))),((b4_0,()),()))))),[(sameRf Go.Proofs.Try.prog (nat_lit 44) (nat_lit 0),true),(true,true),(true,true),(r1.1,false),(r1.1,false),(r1.1,false),(r1.1,false),(Option.isSome (f87 (((b3_0,(b3_1,())),(b3_2,())),((((List.getD x2 (Int.toNat x4) ((0:Int),(0:Int),(0:Int),())).2.2.1:Int),(b1_1,(false,()))),()))),true),(!leF (↑(List.length b1_2):Int) (wrap64 (x4 + (1:Int))),false),(!eqF (List.getD x2 (Int.toNat x4) ((0:Int),(0:Int),(0:Int),())).1 (0:Int),false),(decide ((0:Int) ≤ x4) && decide (x4 < (↑(List.length x2):Int)),true),(!leF x3 x4,true)])):=by kernel_rfl
theorem e104_0_2_7 (x2:(List (Int×(Int×(Int×Unit))))) (x3:Int) (x4:Int) (b1_0:Int) (b1_1:Int) (b1_2:(List (Int×(Int×(Int×Unit))))) (b3_0:Int) (b3_1:Int) (b3_2:(List (Int×(Int×(Int×Unit))))) (b4_0:Int):runBody (kf43 Go.Proofs.Try.prog).orc Go.Proofs.Try.prog 400 104 0 (sh104_0_2 Go.Proofs.Try.prog) (shb104_0_2 Go.Proofs.Try.prog) (shr104_0_2 Go.Proofs.Try.prog) ((x2,x3,x4,()),(),(b1_0,b1_1,b1_2,()),(b3_0,b3_1,b3_2,()),(b4_0,()),()) [ff] =
    (some (.brk ((),((),((b1_0,(b1_1,(b1_2,()))),((b3_0,(b3_1,(b3_2,()))),((b4_0,()),()))))),[(sameRf Go.Proofs.Try.prog (nat_lit 44) (nat_lit 0),true),(!leF x3 x4,false)])):=by kernel_rfl

theorem ok104_0_2_t (x2:(List (Int×(Int×(Int×Unit))))) (x3:Int) (x4:Int) (b1_0:Int) (b1_1:Int) (b1_2:(List (Int×(Int×(Int×Unit))))) (b3_0:Int) (b3_1:Int) (b3_2:(List (Int×(Int×(Int×Unit))))) (b4_0:Int):TrOk (BodyRuns Go.Proofs.Try.prog (kf43 Go.Proofs.Try.prog).orc 104 0 (sh104_0_2 Go.Proofs.Try.prog) (shb104_0_2 Go.Proofs.Try.prog) (shr104_0_2 Go.Proofs.Try.prog) ((x2,x3,x4,()),(),(b1_0,b1_1,b1_2,()),(b3_0,b3_1,b3_2,()),(b4_0,()),())) (t104_0_2 x2 x3 x4 b1_0 b1_1 b1_2 b3_0 b3_1 b3_2 b4_0) :=
  TrOk.ofTest (fun h0=>TrOk.ofTest (fun h1=>TrOk.ofTest (fun h2=>TrOk.ofFin (BodyRuns.of (e104_0_2_0 x2 x3 x4 b1_0 b1_1 b1_2 b3_0 b3_1 b3_2 b4_0) (ac (sc44_0) (ac h2 (ac h1 (ac h0 All.nil)))))) (fun h2=>TrOk.ofTest (fun h3=>TrOk.ofTest (fun h4=>TrOk.ofTest (fun h5=>TrOk.ofTest (fun h6=>TrOk.ofFin (BodyRuns.of (e104_0_2_1 x2 x3 x4 b1_0 b1_1 b1_2 b3_0 b3_1 b3_2 b4_0) (ac (sc44_0) (ac rfl (ac rfl (ac h6 (ac h6 (ac h6 (ac h6 (ac h5 (ac h4 (ac h3 (ac h2 (ac h1 (ac h0 All.nil))))))))))))))) (fun h6=>TrOk.ofFin (BodyRuns.of (e104_0_2_2 x2 x3 x4 b1_0 b1_1 b1_2 b3_0 b3_1 b3_2 b4_0) (ac (sc44_0) (ac rfl (ac rfl (ac h6 (ac h6 (ac h6 (ac h6 (ac h5 (ac h4 (ac h3 (ac h2 (ac h1 (ac h0 All.nil)))))))))))))))) (fun h5=>TrOk.ofStop)) (fun h4=>TrOk.ofStop)) (fun h3=>TrOk.ofTest (fun h4=>TrOk.ofTest (fun h5=>TrOk.ofFin (BodyRuns.of (e104_0_2_4 x2 x3 x4 b1_0 b1_1 b1_2 b3_0 b3_1 b3_2 b4_0) (ac (sc44_0) (ac rfl (ac rfl (ac h5 (ac h5 (ac h5 (ac h5 (ac h4 (ac h3 (ac h2 (ac h1 (ac h0 All.nil)))))))))))))) (fun h5=>TrOk.ofFin (BodyRuns.of (e104_0_2_5 x2 x3 x4 b1_0 b1_1 b1_2 b3_0 b3_1 b3_2 b4_0) (ac (sc44_0) (ac rfl (ac rfl (ac h5 (ac h5 (ac h5 (ac h5 (ac h4 (ac h3 (ac h2 (ac h1 (ac h0 All.nil))))))))))))))) (fun h4=>TrOk.ofStop)))) (fun h1=>TrOk.ofStop)) (fun h0=>TrOk.ofFin (BodyRuns.of (e104_0_2_7 x2 x3 x4 b1_0 b1_1 b1_2 b3_0 b3_1 b3_2 b4_0) (ac (sc44_0) (ac h0 All.nil))))

theorem ok104_0_2:LoopOk Go.Proofs.Try.prog 104 0 (lc104_0_2 Go.Proofs.Try.prog):=loopOk_of (sh:=(sh104_0_2 Go.Proofs.Try.prog)) (shB:=(shb104_0_2 Go.Proofs.Try.prog)) (shR:=(shr104_0_2 Go.Proofs.Try.prog)) kf43_ok.base (T:=fun (d:dt104_0_2)=>t104_0_2 d.1.1 d.1.2.1 d.1.2.2.1 d.2.2.1.1 d.2.2.1.2.1 d.2.2.1.2.2.1 d.2.2.2.1.1 d.2.2.2.1.2.1 d.2.2.2.1.2.2.1 d.2.2.2.2.1.1) (by kernel_rfl) rfl (fun (d:dt104_0_2)=>ok104_0_2_t d.1.1 d.1.2.1 d.1.2.2.1 d.2.2.1.1 d.2.2.1.2.1 d.2.2.1.2.2.1 d.2.2.2.1.1 d.2.2.2.1.2.1 d.2.2.2.1.2.2.1 d.2.2.2.2.1.1) (fun _=>rfl)
def kl104_0_2 (P:Go.Program):Known:=(kf43 P).loop 104 0 (lc104_0_2 P)
theorem kl104_0_2_ok:KnownOk Go.Proofs.Try.prog (kl104_0_2 Go.Proofs.Try.prog):=kf43_ok.loop ok104_0_2

/-! ductility/hybrid.CountIn -/

abbrev as44:List Ty:=[(.slice (.pair (.int .i64) (.pair (.int .i64) (.pair (.int .i64) .unit)))),(.pair (.int .i64) (.pair (.int .i64) .unit))]
abbrev rs44:List Ty:=[(.int .i64),(.int .i64)]

def t44 (x0:(List (Int×(Int×(Int×Unit))))) (x1:Int) (x1':Int):Tr (Tys.data rs44) :=
  Tr.test (Option.isSome (f85 (x0,((x1,(x1',())),()))))
    (let r0:=g85 (x0,((x1,(x1',())),()));
    Tr.test ((!eqF r0.2.1 0:Bool))
      (Tr.fin (((0:Int),(r0.2.1,()))))
      (Tr.test (Option.isSome (l104_0_2 ((r0.1.2.1,((↑(List.length r0.1.2.1):Int),((0:Int),()))),((),((r0.1.1.1,(r0.1.1.2.1,(r0.1.2.1,()))),((r0.1.1.1,(r0.1.1.2.1,(r0.1.2.1,()))),(((0:Int),()),())))))))
        (Tr.test (isRet (l104_0_2 ((r0.1.2.1,((↑(List.length r0.1.2.1):Int),((0:Int),()))),((),((r0.1.1.1,(r0.1.1.2.1,(r0.1.2.1,()))),((r0.1.1.1,(r0.1.1.2.1,(r0.1.2.1,()))),(((0:Int),()),())))))))
          (let r1:=r104_0_2 ((r0.1.2.1,((↑(List.length r0.1.2.1):Int),((0:Int),()))),((),((r0.1.1.1,(r0.1.1.2.1,(r0.1.2.1,()))),((r0.1.1.1,(r0.1.1.2.1,(r0.1.2.1,()))),(((0:Int),()),())))));
          Tr.fin ((r1.2.2.2.2.1.1,((0:Int),()))))
          (let r2:=b104_0_2 ((r0.1.2.1,((↑(List.length r0.1.2.1):Int),((0:Int),()))),((),((r0.1.1.1,(r0.1.1.2.1,(r0.1.2.1,()))),((r0.1.1.1,(r0.1.1.2.1,(r0.1.2.1,()))),(((0:Int),()),())))));
          Tr.fin ((r2.2.2.2.2.1.1,((0:Int),())))))
        (Tr.stop)))
    (Tr.stop)

def f44 (d:Tys.data as44):Option (Tys.data rs44):=(t44 d.1 d.2.1.1 d.2.1.2.1).val
def g44 (d:Tys.data as44):Tys.data rs44:=(f44 d).getD (Tys.dflt rs44)
def p44:PureC:=pcOf as44 rs44 f44 g44

theorem e44_0 (x0:(List (Int×(Int×(Int×Unit))))) (x1:Int) (x1':Int):runPure (kl104_0_2 Go.Proofs.Try.prog).orc Go.Proofs.Try.prog 400 44 as44 rs44 (x0,(x1,x1',()),()) [tt,tt] =
    (let r0:=g85 (x0,((x1,(x1',())),())); some (((0:Int),(r0.2.1,())),[(!eqF r0.2.1 0,true),(Option.isSome (f85 (x0,((x1,(x1',())),()))),true)])):=by kernel_rfl
theorem e44_1 (x0:(List (Int×(Int×(Int×Unit))))) (x1:Int) (x1':Int):runPure (kl104_0_2 Go.Proofs.Try.prog).orc Go.Proofs.Try.prog 400 44 as44 rs44 (x0,(x1,x1',()),()) [tt,ff,tt,tt,tt] =
    (let r0:=g85 (x0,((x1,(x1',())),()));let r1:=r104_0_2 ((r0.1.2.1,((↑(List.length r0.1.2.1):Int),((0:Int),()))),((),((r0.1.1.1,(r0.1.1.2.1,(r0.1.2.1,()))),((r0.1.1.1,(r0.1.1.2.1,(r0.1.2.1,()))),(((0:Int),()),()))))); some ((r1.2.2.2.2.1.1,((0:Int),())),[(isRet (l104_0_2 ((r0.1.2.1,((↑(List.length r0.1.2.1):Int),((0:Int),()))),((),((r0.1.1.1,(r0.1.1.2.1,(r0.1.2.1,()))),((r0.1.1.1,(r0.1.1.2.1,(r0.1.2.1,()))),(((0:Int),()),())))))),true),(Option.isSome (l104_0_2 ((r0.1.2.1,((↑(List.length r0.1.2.1):Int),((0:Int),()))),((),((r0.1.1.1,(r0.1.1.2.1,(r0.1.2.1,()))),((r0.1.1.1,(r0.1.1.2.1,(r0.1.2.1,()))),(((0:Int),()),())))))),true),(sameRf Go.Proofs.Try.prog (nat_lit 44) (nat_lit 0),true),(!eqF r0.2.1 0,false),(Option.isSome (f85 (x0,((x1,(x1',())),()))),true)])):=by kernel_rfl
theorem e44_2 (x0:(List (Int×(Int×(Int×Unit))))) (x1:Int) (x1':Int):runPure (kl104_0_2 Go.Proofs.Try.prog).orc Go.Proofs.Try.prog 400 44 as44 rs44 (x0,(x1,x1',()),()) [tt,ff,tt,tt,ff] =
    (let r0:=g85 (x0,((x1,(x1',())),()));let r2:=b104_0_2 ((r0.1.2.1,((↑(List.length r0.1.2.1):Int),((0:Int),()))),((),((r0.1.1.1,(r0.1.1.2.1,(r0.1.2.1,()))),((r0.1.1.1,(r0.1.1.2.1,(r0.1.2.1,()))),(((0:Int),()),()))))); some ((r2.2.2.2.2.1.1,((0:Int),())),[(isRet (l104_0_2 ((r0.1.2.1,((↑(List.length r0.1.2.1):Int),((0:Int),()))),((),((r0.1.1.1,(r0.1.1.2.1,(r0.1.2.1,()))),((r0.1.1.1,(r0.1.1.2.1,(r0.1.2.1,()))),(((0:Int),()),())))))),false),(Option.isSome (l104_0_2 ((r0.1.2.1,((↑(List.length r0.1.2.1):Int),((0:Int),()))),((),((r0.1.1.1,(r0.1.1.2.1,(r0.1.2.1,()))),((r0.1.1.1,(r0.1.1.2.1,(r0.1.2.1,()))),(((0:Int),()),())))))),true),(sameRf Go.Proofs.Try.prog (nat_lit 44) (nat_lit 0),true),(!eqF r0.2.1 0,false),(Option.isSome (f85 (x0,((x1,(x1',())),()))),true)])):=by kernel_rfl

theorem ok44_t (x0:(List (Int×(Int×(Int×Unit))))) (x1:Int) (x1':Int):TrOk (PureRuns Go.Proofs.Try.prog (kl104_0_2 Go.Proofs.Try.prog).orc 44 as44 rs44 (x0,(x1,x1',()),())) (t44 x0 x1 x1') :=
  TrOk.ofTest (fun h0=>TrOk.ofTest (fun h1=>TrOk.ofFin (PureRuns.of (e44_0 x0 x1 x1') (ac h1 (ac h0 All.nil)))) (fun h1=>TrOk.ofTest (fun h3=>TrOk.ofTest (fun h4=>TrOk.ofFin (PureRuns.of (e44_1 x0 x1 x1') (ac h4 (ac h3 (ac (sc44_0) (ac h1 (ac h0 All.nil))))))) (fun h4=>TrOk.ofFin (PureRuns.of (e44_2 x0 x1 x1') (ac h4 (ac h3 (ac (sc44_0) (ac h1 (ac h0 All.nil)))))))) (fun h3=>TrOk.ofStop))) (fun h0=>TrOk.ofStop)

theorem ok44:PureOk Go.Proofs.Try.prog 44 p44:=pureOk_of kl104_0_2_ok.base (T:=fun (d:Tys.data as44)=>t44 d.1 d.2.1.1 d.2.1.2.1) (by kernel_rfl) (fun (d:Tys.data as44)=>ok44_t d.1 d.2.1.1 d.2.1.2.1)
def kf44 (P:Go.Program):Known:=(kl104_0_2 P).func 44 p44
theorem kf44_ok:KnownOk Go.Proofs.Try.prog (kf44 Go.Proofs.Try.prog):=kl104_0_2_ok.func ok44

/-! loop 0 of ductility/ductilitybase.Has -/

abbrev sh51_0:Sh:={ n:=18,slots:=[0,1,5],pats:=[.ty (.slice (.int .i64)),.ty (.int .i64),.ty (.int .i64)],boxes:=[] }
abbrev shb51_0:Sh:={ n:=18,slots:=[],pats:=[],boxes:=[] }
abbrev shr51_0:Sh:={ n:=18,slots:=[4],pats:=[.ty .bool],boxes:=[] }

def t51_0 (x0:(List Int)) (x1:Int) (x2:Int):Tr (Out sh51_0.data shb51_0.data shr51_0.data) :=
  Tr.test ((!leF (↑(List.length x0):Int) x2:Bool))
    (Tr.test (decide ((0:Int) ≤ x2) && decide (x2 < (↑(List.length x0):Int)))
      (Tr.test ((eqF (List.getD x0 (Int.toNat x2) (0:Int)) x1:Bool))
        (Tr.fin (.ret (((true:Bool),()),())))
        (Tr.fin (.again ((x0,(x1,((wrap64 (x2 + (1:Int)):Int),()))),()))))
      (Tr.stop))
    (Tr.fin (.brk ((),())))

def s51_0 (d:sh51_0.data):Option (Out sh51_0.data shb51_0.data shr51_0.data):=(t51_0 d.1.1 d.1.2.1 d.1.2.2.1).val
def l51_0 (d:sh51_0.data):Option (shb51_0.data ⊕ shr51_0.data):=itr s51_0 rounds d
def b51_0 (d:sh51_0.data):shb51_0.data:=outB shb51_0.dflt (l51_0 d)
def r51_0 (d:sh51_0.data):shr51_0.data:=outR shr51_0.dflt (l51_0 d)
def lc51_0:LoopC:=lcOf sh51_0 shb51_0 shr51_0 l51_0 b51_0 r51_0

theorem wk51_0 (x0:(List Int)) (x1:Int) (x2:Int):Walks (runBody (kf44 Go.Proofs.Try.prog).orc Go.Proofs.Try.prog 400 51 0 sh51_0 shb51_0 shr51_0 ((x0,x1,x2,()),())) (t51_0 x0 x1 x2) [([true,true,true],[2,4,6]),([true,true,false],[2,4,6]),([ff],[2])] :=
  ⟨by kernel_rfl,by kernel_rfl,by kernel_rfl,trivial⟩

theorem ok51_0_t (x0:(List Int)) (x1:Int) (x2:Int):TrOk (BodyRuns Go.Proofs.Try.prog (kf44 Go.Proofs.Try.prog).orc 51 0 sh51_0 shb51_0 shr51_0 ((x0,x1,x2,()),())) (t51_0 x0 x1 x2) :=
  Walks.ok (fun _ _ _=>BodyRuns.of) (wk51_0 x0 x1 x2) (by kernel_rfl)

theorem ok51_0:LoopOk Go.Proofs.Try.prog 51 0 lc51_0:=loopOk_of (sh:=sh51_0) (shB:=shb51_0) (shR:=shr51_0) kf44_ok.base (T:=fun (d:sh51_0.data)=>t51_0 d.1.1 d.1.2.1 d.1.2.2.1) (by kernel_rfl) rfl (fun (d:sh51_0.data)=>ok51_0_t d.1.1 d.1.2.1 d.1.2.2.1) (fun _=>rfl)
def kl51_0 (P:Go.Program):Known:=(kf44 P).loop 51 0 lc51_0
theorem kl51_0_ok:KnownOk Go.Proofs.Try.prog (kl51_0 Go.Proofs.Try.prog):=kf44_ok.loop ok51_0

/-! ductility/ductilitybase.Has -/

abbrev as51:List Ty:=[(.slice (.int .i64)),(.int .i64)]
abbrev rs51:List Ty:=[.bool]

def t51 (x0:(List Int)) (x1:Int):Tr (Tys.data rs51) :=
  Tr.test (Option.isSome (l51_0 ((x0,(x1,((0:Int),()))),())))
    (Tr.test (isRet (l51_0 ((x0,(x1,((0:Int),()))),())))
      (let r0:=r51_0 ((x0,(x1,((0:Int),()))),());
      Tr.fin ((r0.1.1,())))
      (Tr.fin (((false:Bool),()))))
    (Tr.stop)

def f51 (d:Tys.data as51):Option (Tys.data rs51):=(t51 d.1 d.2.1).val
def g51 (d:Tys.data as51):Tys.data rs51:=(f51 d).getD (Tys.dflt rs51)
def p51:PureC:=pcOf as51 rs51 f51 g51

theorem wk51 (x0:(List Int)) (x1:Int):Walks (runPure (kl51_0 Go.Proofs.Try.prog).orc Go.Proofs.Try.prog 400 51 as51 rs51 (x0,x1,())) (t51 x0 x1) [([true,true],[2,4]),([true,false],[2,4])] :=
  ⟨by kernel_rfl,by kernel_rfl,trivial⟩

theorem ok51_t (x0:(List Int)) (x1:Int):TrOk (PureRuns Go.Proofs.Try.prog (kl51_0 Go.Proofs.Try.prog).orc 51 as51 rs51 (x0,x1,())) (t51 x0 x1) :=
  Walks.ok (fun _ _ _=>PureRuns.of) (wk51 x0 x1) (by kernel_rfl)

theorem ok51:PureOk Go.Proofs.Try.prog 51 p51:=pureOk_of kl51_0_ok.base (T:=fun (d:Tys.data as51)=>t51 d.1 d.2.1) (by kernel_rfl) (fun (d:Tys.data as51)=>ok51_t d.1 d.2.1)
def kf51 (P:Go.Program):Known:=(kl51_0 P).func 51 p51
theorem kf51_ok:KnownOk Go.Proofs.Try.prog (kf51 Go.Proofs.Try.prog):=kl51_0_ok.func ok51

/-! loop 0 of ductility/ductilitylaw08.HybridLate -/

abbrev sh8_0:Sh:={ n:=269,slots:=[0,2,4,7,9,11,13],pats:=[.ty (.slice (.pair (.int .i64) (.pair (.int .i64) (.pair (.int .i64) .unit)))),.ty (.int .i64),.ptr 0 2 0,.ty (.slice (.int .i64)),.ty (.int .i64),.ty (.int .i64),.ty (.int .i64)],boxes:=[.row [.ty (.int .i64),.ty (.int .i64)]] }
abbrev shb8_0:Sh:={ n:=269,slots:=[0,2,4,7,9,11],pats:=[.ty (.slice (.pair (.int .i64) (.pair (.int .i64) (.pair (.int .i64) .unit)))),.ty (.int .i64),.ptr 0 2 0,.ty (.slice (.int .i64)),.ty (.int .i64),.ty (.int .i64)],boxes:=[.row [.ty (.int .i64),.ty (.int .i64)]] }
abbrev shr8_0:Sh:={ n:=269,slots:=[6],pats:=[.ty .bool],boxes:=[.row [.ty (.int .i64),.ty (.int .i64)]] }

def t8_0 (x0:(List (Int×(Int×(Int×Unit))))) (x1:Int) (x3:(List Int)) (x4:Int) (x5:Int) (x6:Int) (b0_0:Int) (b0_1:Int):Tr (Out sh8_0.data shb8_0.data shr8_0.data) :=
  Tr.test ((!leF (↑(List.length x0):Int) (wrap64 ((2:Int) * x6)):Bool))
    (Tr.test (!leF (↑(List.length x0):Int) (wrap64 (wrap64 ((2:Int) * x6) + (1:Int))))
      (Tr.test ((decide ((0:Int) ≤ wrap64 (wrap64 ((2:Int) * x6) + (1:Int))) && decide (wrap64 (wrap64 ((2:Int) * x6) + (1:Int)) < (↑(List.length x0):Int)):Bool))
        (Tr.test (Option.isSome (f51 (x3,(x6,()))))
          (Tr.test ((decide ((0:Int) ≤ wrap64 ((2:Int) * x6)) && decide (wrap64 ((2:Int) * x6) < (↑(List.length x0):Int)):Bool))
            (let r0:=g51 (x3,(x6,()));
            Tr.test ((!r0.1 == !leF (wrap64 ((List.getD x0 (Int.toNat (wrap64 (wrap64 ((2:Int) * x6) + (1:Int)))) ((0:Int),(0:Int),(0:Int),())).2.2.1 - (List.getD x0 (Int.toNat (wrap64 ((2:Int) * x6))) ((0:Int),(0:Int),(0:Int),())).2.2.1)) b0_0:Bool))
              (Tr.fin (.ret (((false:Bool),()),((b0_0,(b0_1,())),()))))
              (Tr.test ((!leF x5 x6:Bool))
                (Tr.test (r0.1)
                  (Tr.fin (.ret (((false:Bool),()),((b0_0,(b0_1,())),()))))
                  (Tr.fin (.again ((x0,(x1,(x3,(x4,(x5,((wrap64 (x6 + (1:Int)):Int),())))))),((b0_0,(b0_1,())),())))))
                (Tr.fin (.again ((x0,(x1,(x3,(x4,(x5,((wrap64 (x6 + (1:Int)):Int),())))))),((b0_0,(b0_1,())),()))))))
            (Tr.stop))
          (Tr.stop))
        (Tr.stop))
      (Tr.test (Option.isSome (f51 (x3,(x6,()))))
        (Tr.test ((decide ((0:Int) ≤ wrap64 ((2:Int) * x6)) && decide (wrap64 ((2:Int) * x6) < (↑(List.length x0):Int)):Bool))
          (let r0:=g51 (x3,(x6,()));
          Tr.test ((!r0.1 == !leF (wrap64 (b0_1 - (List.getD x0 (Int.toNat (wrap64 ((2:Int) * x6))) ((0:Int),(0:Int),(0:Int),())).2.2.1)) b0_0:Bool))
            (Tr.fin (.ret (((false:Bool),()),((b0_0,(b0_1,())),()))))
            (Tr.test ((!leF x5 x6:Bool))
              (Tr.test (r0.1)
                (Tr.fin (.ret (((false:Bool),()),((b0_0,(b0_1,())),()))))
                (Tr.fin (.ret (((false:Bool),()),((b0_0,(b0_1,())),())))))
              (Tr.fin (.again ((x0,(x1,(x3,(x4,(x5,((wrap64 (x6 + (1:Int)):Int),())))))),((b0_0,(b0_1,())),()))))))
          (Tr.stop))
        (Tr.stop)))
    (Tr.fin (.brk ((x0,(x1,(x3,(x4,(x5,()))))),((b0_0,(b0_1,())),()))))

def s8_0 (d:sh8_0.data):Option (Out sh8_0.data shb8_0.data shr8_0.data):=(t8_0 d.1.1 d.1.2.1 d.1.2.2.1 d.1.2.2.2.1 d.1.2.2.2.2.1 d.1.2.2.2.2.2.1 d.2.1.1 d.2.1.2.1).val
def l8_0 (d:sh8_0.data):Option (shb8_0.data ⊕ shr8_0.data):=itr s8_0 rounds d
def b8_0 (d:sh8_0.data):shb8_0.data:=outB shb8_0.dflt (l8_0 d)
def r8_0 (d:sh8_0.data):shr8_0.data:=outR shr8_0.dflt (l8_0 d)
def lc8_0:LoopC:=lcOf sh8_0 shb8_0 shr8_0 l8_0 b8_0 r8_0

theorem e8_0_0 (x0:(List (Int×(Int×(Int×Unit))))) (x1:Int) (x3:(List Int)) (x4:Int) (x5:Int) (x6:Int) (b0_0:Int) (b0_1:Int):runBody (kf51 Go.Proofs.Try.prog).orc Go.Proofs.Try.prog 400 8 0 sh8_0 shb8_0 shr8_0 ((x0,x1,x3,x4,x5,x6,()),(b0_0,b0_1,()),()) [tt,tt,tt,tt,tt,tt,tt,tt,tt,tt,tt,tt] =
    (let r0:=g51 (x3,(x6,())); some (.ret ((false,()),((b0_0,(b0_1,())),())),[(true,true),(!r0.1 == !leF (wrap64 ((List.getD x0 (Int.toNat (wrap64 (wrap64 ((2:Int) * x6) + (1:Int)))) ((0:Int),(0:Int),(0:Int),())).2.2.1 - (List.getD x0 (Int.toNat (wrap64 ((2:Int) * x6))) ((0:Int),(0:Int),(0:Int),())).2.2.1)) b0_0,true),(!r0.1 == !leF (wrap64 ((List.getD x0 (Int.toNat (wrap64 (wrap64 ((2:Int) * x6) + (1:Int)))) ((0:Int),(0:Int),(0:Int),())).2.2.1 - (List.getD x0 (Int.toNat (wrap64 ((2:Int) * x6))) ((0:Int),(0:Int),(0:Int),())).2.2.1)) b0_0,true),(!r0.1 == !leF (wrap64 ((List.getD x0 (Int.toNat (wrap64 (wrap64 ((2:Int) * x6) + (1:Int)))) ((0:Int),(0:Int),(0:Int),())).2.2.1 - (List.getD x0 (Int.toNat (wrap64 ((2:Int) * x6))) ((0:Int),(0:Int),(0:Int),())).2.2.1)) b0_0,true),(!r0.1 == !leF (wrap64 ((List.getD x0 (Int.toNat (wrap64 (wrap64 ((2:Int) * x6) + (1:Int)))) ((0:Int),(0:Int),(0:Int),())).2.2.1 - (List.getD x0 (Int.toNat (wrap64 ((2:Int) * x6))) ((0:Int),(0:Int),(0:Int),())).2.2.1)) b0_0,true),(!r0.1 == !leF (wrap64 ((List.getD x0 (Int.toNat (wrap64 (wrap64 ((2:Int) * x6) + (1:Int)))) ((0:Int),(0:Int),(0:Int),())).2.2.1 - (List.getD x0 (Int.toNat (wrap64 ((2:Int) * x6))) ((0:Int),(0:Int),(0:Int),())).2.2.1)) b0_0,true),(!r0.1 == !leF (wrap64 ((List.getD x0 (Int.toNat (wrap64 (wrap64 ((2:Int) * x6) + (1:Int)))) ((0:Int),(0:Int),(0:Int),())).2.2.1 - (List.getD x0 (Int.toNat (wrap64 ((2:Int) * x6))) ((0:Int),(0:Int),(0:Int),())).2.2.1)) b0_0,true),(decide ((0:Int) ≤ wrap64 ((2:Int) * x6)) && decide (wrap64 ((2:Int) * x6) < (↑(List.length x0):Int)),true),(Option.isSome (f51 (x3,(x6,()))),true),(decide ((0:Int) ≤ wrap64 (wrap64 ((2:Int) * x6) + (1:Int))) && decide (wrap64 (wrap64 ((2:Int) * x6) + (1:Int)) < (↑(List.length x0):Int)),true),(!leF (↑(List.length x0):Int) (wrap64 (wrap64 ((2:Int) * x6) + (1:Int))),true),(!leF (↑(List.length x0):Int) (wrap64 ((2:Int) * x6)),true)])):=by kernel_rfl
theorem e8_0_1 (x0:(List (Int×(Int×(Int×Unit))))) (x1:Int) (x3:(List Int)) (x4:Int) (x5:Int) (x6:Int) (b0_0:Int) (b0_1:Int):runBody (kf51 Go.Proofs.Try.prog).orc Go.Proofs.Try.prog 400 8 0 sh8_0 shb8_0 shr8_0 ((x0,x1,x3,x4,x5,x6,()),(b0_0,b0_1,()),()) [tt,tt,tt,tt,tt,ff,ff,ff,ff,tt,tt,tt,tt,tt,tt,tt,tt,tt,tt,tt,tt,tt,ff,tt,ff,tt] =
    (let r0:=g51 (x3,(x6,())); some (.ret ((false,()),((b0_0,(b0_1,())),())),[(true,true),(!r0.1 == !leF (wrap64 ((List.getD x0 (Int.toNat (wrap64 (wrap64 ((2:Int) * x6) + (1:Int)))) ((0:Int),(0:Int),(0:Int),())).2.2.1 - (List.getD x0 (Int.toNat (wrap64 ((2:Int) * x6))) ((0:Int),(0:Int),(0:Int),())).2.2.1)) b0_0,false),(!leF x5 x6,true),(!r0.1 == !leF (wrap64 ((List.getD x0 (Int.toNat (wrap64 (wrap64 ((2:Int) * x6) + (1:Int)))) ((0:Int),(0:Int),(0:Int),())).2.2.1 - (List.getD x0 (Int.toNat (wrap64 ((2:Int) * x6))) ((0:Int),(0:Int),(0:Int),())).2.2.1)) b0_0,false),(r0.1,true),(!leF x5 x6,true),(r0.1,true),(r0.1,true),(r0.1,true),(r0.1,true),(r0.1,true),(r0.1,true),(!leF x5 x6,true),(Option.isSome (f51 (x3,(x6,()))),true),(!leF x5 x6,true),(!leF x5 x6,true),(!leF x5 x6,true),(!r0.1 == !leF (wrap64 ((List.getD x0 (Int.toNat (wrap64 (wrap64 ((2:Int) * x6) + (1:Int)))) ((0:Int),(0:Int),(0:Int),())).2.2.1 - (List.getD x0 (Int.toNat (wrap64 ((2:Int) * x6))) ((0:Int),(0:Int),(0:Int),())).2.2.1)) b0_0,false),(!r0.1 == !leF (wrap64 ((List.getD x0 (Int.toNat (wrap64 (wrap64 ((2:Int) * x6) + (1:Int)))) ((0:Int),(0:Int),(0:Int),())).2.2.1 - (List.getD x0 (Int.toNat (wrap64 ((2:Int) * x6))) ((0:Int),(0:Int),(0:Int),())).2.2.1)) b0_0,false),(!r0.1 == !leF (wrap64 ((List.getD x0 (Int.toNat (wrap64 (wrap64 ((2:Int) * x6) + (1:Int)))) ((0:Int),(0:Int),(0:Int),())).2.2.1 - (List.getD x0 (Int.toNat (wrap64 ((2:Int) * x6))) ((0:Int),(0:Int),(0:Int),())).2.2.1)) b0_0,false),(!r0.1 == !leF (wrap64 ((List.getD x0 (Int.toNat (wrap64 (wrap64 ((2:Int) * x6) + (1:Int)))) ((0:Int),(0:Int),(0:Int),())).2.2.1 - (List.getD x0 (Int.toNat (wrap64 ((2:Int) * x6))) ((0:Int),(0:Int),(0:Int),())).2.2.1)) b0_0,false),(decide ((0:Int) ≤ wrap64 ((2:Int) * x6)) && decide (wrap64 ((2:Int) * x6) < (↑(List.length x0):Int)),true),(Option.isSome (f51 (x3,(x6,()))),true),(decide ((0:Int) ≤ wrap64 (wrap64 ((2:Int) * x6) + (1:Int))) && decide (wrap64 (wrap64 ((2:Int) * x6) + (1:Int)) < (↑(List.length x0):Int)),true),(!leF (↑(List.length x0):Int) (wrap64 (wrap64 ((2:Int) * x6) + (1:Int))),true),(!leF (↑(List.length x0):Int) (wrap64 ((2:Int) * x6)),true)])):=by kernel_rfl
theorem e8_0_2 (x0:(List (Int×(Int×(Int×Unit))))) (x1:Int) (x3:(List Int)) (x4:Int) (x5:Int) (x6:Int) (b0_0:Int) (b0_1:Int):runBody (kf51 Go.Proofs.Try.prog).orc Go.Proofs.Try.prog 400 8 0 sh8_0 shb8_0 shr8_0 ((x0,x1,x3,x4,x5,x6,()),(b0_0,b0_1,()),()) [tt,tt,tt,tt,tt,ff,ff,ff,ff,tt,tt,tt,tt,tt,ff,ff,ff,ff,ff,ff,tt,ff,ff,tt,ff,ff] =
    (let r0:=g51 (x3,(x6,())); some (.again ((x0,(x1,(x3,(x4,(x5,((wrap64 (x6 + (1:Int)):Int),())))))),((b0_0,(b0_1,())),())),[(leF (↑(List.length x0):Int) (wrap64 (wrap64 ((2:Int) * x6) + (1:Int))),false),(!r0.1 == !leF (wrap64 ((List.getD x0 (Int.toNat (wrap64 (wrap64 ((2:Int) * x6) + (1:Int)))) ((0:Int),(0:Int),(0:Int),())).2.2.1 - (List.getD x0 (Int.toNat (wrap64 ((2:Int) * x6))) ((0:Int),(0:Int),(0:Int),())).2.2.1)) b0_0,false),(!leF x5 x6,true),(!r0.1 == !leF (wrap64 ((List.getD x0 (Int.toNat (wrap64 (wrap64 ((2:Int) * x6) + (1:Int)))) ((0:Int),(0:Int),(0:Int),())).2.2.1 - (List.getD x0 (Int.toNat (wrap64 ((2:Int) * x6))) ((0:Int),(0:Int),(0:Int),())).2.2.1)) b0_0,false),(r0.1,false),(!leF x5 x6,true),(r0.1,false),(r0.1,false),(r0.1,false),(r0.1,false),(r0.1,false),(r0.1,false),(!leF x5 x6,true),(Option.isSome (f51 (x3,(x6,()))),true),(!leF x5 x6,true),(!leF x5 x6,true),(!leF x5 x6,true),(!r0.1 == !leF (wrap64 ((List.getD x0 (Int.toNat (wrap64 (wrap64 ((2:Int) * x6) + (1:Int)))) ((0:Int),(0:Int),(0:Int),())).2.2.1 - (List.getD x0 (Int.toNat (wrap64 ((2:Int) * x6))) ((0:Int),(0:Int),(0:Int),())).2.2.1)) b0_0,false),(!r0.1 == !leF (wrap64 ((List.getD x0 (Int.toNat (wrap64 (wrap64 ((2:Int) * x6) + (1:Int)))) ((0:Int),(0:Int),(0:Int),())).2.2.1 - (List.getD x0 (Int.toNat (wrap64 ((2:Int) * x6))) ((0:Int),(0:Int),(0:Int),())).2.2.1)) b0_0,false),(!r0.1 == !leF (wrap64 ((List.getD x0 (Int.toNat (wrap64 (wrap64 ((2:Int) * x6) + (1:Int)))) ((0:Int),(0:Int),(0:Int),())).2.2.1 - (List.getD x0 (Int.toNat (wrap64 ((2:Int) * x6))) ((0:Int),(0:Int),(0:Int),())).2.2.1)) b0_0,false),(!r0.1 == !leF (wrap64 ((List.getD x0 (Int.toNat (wrap64 (wrap64 ((2:Int) * x6) + (1:Int)))) ((0:Int),(0:Int),(0:Int),())).2.2.1 - (List.getD x0 (Int.toNat (wrap64 ((2:Int) * x6))) ((0:Int),(0:Int),(0:Int),())).2.2.1)) b0_0,false),(decide ((0:Int) ≤ wrap64 ((2:Int) * x6)) && decide (wrap64 ((2:Int) * x6) < (↑(List.length x0):Int)),true),(Option.isSome (f51 (x3,(x6,()))),true),(decide ((0:Int) ≤ wrap64 (wrap64 ((2:Int) * x6) + (1:Int))) && decide (wrap64 (wrap64 ((2:Int) * x6) + (1:Int)) < (↑(List.length x0):Int)),true),(!leF (↑(List.length x0):Int) (wrap64 (wrap64 ((2:Int) * x6) + (1:Int))),true),(!leF (↑(List.length x0):Int) (wrap64 ((2:Int) * x6)),true)])):=by kernel_rfl
theorem e8_0_3 (x0:(List (Int×(Int×(Int×Unit))))) (x1:Int) (x3:(List Int)) (x4:Int) (x5:Int) (x6:Int) (b0_0:Int) (b0_1:Int):runBody (kf51 Go.Proofs.Try.prog).orc Go.Proofs.Try.prog 400 8 0 sh8_0 shb8_0 shr8_0 ((x0,x1,x3,x4,x5,x6,()),(b0_0,b0_1,()),()) [tt,tt,tt,tt,tt,ff,ff,ff,ff,ff,ff,ff,ff,ff,ff,ff,ff,ff] =
    (let r0:=g51 (x3,(x6,())); some (.again ((x0,(x1,(x3,(x4,(x5,((wrap64 (x6 + (1:Int)):Int),())))))),((b0_0,(b0_1,())),())),[(false,false),(!r0.1 == !leF (wrap64 ((List.getD x0 (Int.toNat (wrap64 (wrap64 ((2:Int) * x6) + (1:Int)))) ((0:Int),(0:Int),(0:Int),())).2.2.1 - (List.getD x0 (Int.toNat (wrap64 ((2:Int) * x6))) ((0:Int),(0:Int),(0:Int),())).2.2.1)) b0_0,false),(!leF x5 x6,false),(!r0.1 == !leF (wrap64 ((List.getD x0 (Int.toNat (wrap64 (wrap64 ((2:Int) * x6) + (1:Int)))) ((0:Int),(0:Int),(0:Int),())).2.2.1 - (List.getD x0 (Int.toNat (wrap64 ((2:Int) * x6))) ((0:Int),(0:Int),(0:Int),())).2.2.1)) b0_0,false),(!leF x5 x6,false),(!leF x5 x6,false),(!leF x5 x6,false),(!leF x5 x6,false),(!leF x5 x6,false),(!r0.1 == !leF (wrap64 ((List.getD x0 (Int.toNat (wrap64 (wrap64 ((2:Int) * x6) + (1:Int)))) ((0:Int),(0:Int),(0:Int),())).2.2.1 - (List.getD x0 (Int.toNat (wrap64 ((2:Int) * x6))) ((0:Int),(0:Int),(0:Int),())).2.2.1)) b0_0,false),(!r0.1 == !leF (wrap64 ((List.getD x0 (Int.toNat (wrap64 (wrap64 ((2:Int) * x6) + (1:Int)))) ((0:Int),(0:Int),(0:Int),())).2.2.1 - (List.getD x0 (Int.toNat (wrap64 ((2:Int) * x6))) ((0:Int),(0:Int),(0:Int),())).2.2.1)) b0_0,false),(!r0.1 == !leF (wrap64 ((List.getD x0 (Int.toNat (wrap64 (wrap64 ((2:Int) * x6) + (1:Int)))) ((0:Int),(0:Int),(0:Int),())).2.2.1 - (List.getD x0 (Int.toNat (wrap64 ((2:Int) * x6))) ((0:Int),(0:Int),(0:Int),())).2.2.1)) b0_0,false),(!r0.1 == !leF (wrap64 ((List.getD x0 (Int.toNat (wrap64 (wrap64 ((2:Int) * x6) + (1:Int)))) ((0:Int),(0:Int),(0:Int),())).2.2.1 - (List.getD x0 (Int.toNat (wrap64 ((2:Int) * x6))) ((0:Int),(0:Int),(0:Int),())).2.2.1)) b0_0,false),(decide ((0:Int) ≤ wrap64 ((2:Int) * x6)) && decide (wrap64 ((2:Int) * x6) < (↑(List.length x0):Int)),true),(Option.isSome (f51 (x3,(x6,()))),true),(decide ((0:Int) ≤ wrap64 (wrap64 ((2:Int) * x6) + (1:Int))) && decide (wrap64 (wrap64 ((2:Int) * x6) + (1:Int)) < (↑(List.length x0):Int)),true),(!leF (↑(List.length x0):Int) (wrap64 (wrap64 ((2:Int) * x6) + (1:Int))),true),(!leF (↑(List.length x0):Int) (wrap64 ((2:Int) * x6)),true)])):=by kernel_rfl
theorem e8_0_6 (x0:(List (Int×(Int×(Int×Unit))))) (x1:Int) (x3:(List Int)) (x4:Int) (x5:Int) (x6:Int) (b0_0:Int) (b0_1:Int):runBody (kf51 Go.Proofs.Try.prog).orc Go.Proofs.Try.prog 400 8 0 sh8_0 shb8_0 shr8_0 ((x0,x1,x3,x4,x5,x6,()),(b0_0,b0_1,()),()) [tt,ff,tt,tt,tt,tt,tt,tt,tt,tt,tt] =
    (let r0:=g51 (x3,(x6,())); some (.ret ((false,()),((b0_0,(b0_1,())),())),[(true,true),(!r0.1 == !leF (wrap64 (b0_1 - (List.getD x0 (Int.toNat (wrap64 ((2:Int) * x6))) ((0:Int),(0:Int),(0:Int),())).2.2.1)) b0_0,true),(!r0.1 == !leF (wrap64 (b0_1 - (List.getD x0 (Int.toNat (wrap64 ((2:Int) * x6))) ((0:Int),(0:Int),(0:Int),())).2.2.1)) b0_0,true),(!r0.1 == !leF (wrap64 (b0_1 - (List.getD x0 (Int.toNat (wrap64 ((2:Int) * x6))) ((0:Int),(0:Int),(0:Int),())).2.2.1)) b0_0,true),(!r0.1 == !leF (wrap64 (b0_1 - (List.getD x0 (Int.toNat (wrap64 ((2:Int) * x6))) ((0:Int),(0:Int),(0:Int),())).2.2.1)) b0_0,true),(!r0.1 == !leF (wrap64 (b0_1 - (List.getD x0 (Int.toNat (wrap64 ((2:Int) * x6))) ((0:Int),(0:Int),(0:Int),())).2.2.1)) b0_0,true),(!r0.1 == !leF (wrap64 (b0_1 - (List.getD x0 (Int.toNat (wrap64 ((2:Int) * x6))) ((0:Int),(0:Int),(0:Int),())).2.2.1)) b0_0,true),(decide ((0:Int) ≤ wrap64 ((2:Int) * x6)) && decide (wrap64 ((2:Int) * x6) < (↑(List.length x0):Int)),true),(Option.isSome (f51 (x3,(x6,()))),true),(!leF (↑(List.length x0):Int) (wrap64 (wrap64 ((2:Int) * x6) + (1:Int))),false),(!leF (↑(List.length x0):Int) (wrap64 ((2:Int) * x6)),true)])):=by kernel_rfl
theorem e8_0_7 (x0:(List (Int×(Int×(Int×Unit))))) (x1:Int) (x3:(List Int)) (x4:Int) (x5:Int) (x6:Int) (b0_0:Int) (b0_1:Int):runBody (kf51 Go.Proofs.Try.prog).orc Go.Proofs.Try.prog 400 8 0 sh8_0 shb8_0 shr8_0 ((x0,x1,x3,x4,x5,x6,()),(b0_0,b0_1,()),()) [tt,ff,tt,tt,ff,ff,ff,ff,tt,tt,tt,tt,tt,tt,tt,tt,tt,tt,tt,tt,tt,ff,tt,ff,tt] =
    (let r0:=g51 (x3,(x6,())); some (.ret ((false,()),((b0_0,(b0_1,())),())),[(true,true),(!r0.1 == !leF (wrap64 (b0_1 - (List.getD x0 (Int.toNat (wrap64 ((2:Int) * x6))) ((0:Int),(0:Int),(0:Int),())).2.2.1)) b0_0,false),(!leF x5 x6,true),(!r0.1 == !leF (wrap64 (b0_1 - (List.getD x0 (Int.toNat (wrap64 ((2:Int) * x6))) ((0:Int),(0:Int),(0:Int),())).2.2.1)) b0_0,false),(r0.1,true),(!leF x5 x6,true),(r0.1,true),(r0.1,true),(r0.1,true),(r0.1,true),(r0.1,true),(r0.1,true),(!leF x5 x6,true),(Option.isSome (f51 (x3,(x6,()))),true),(!leF x5 x6,true),(!leF x5 x6,true),(!leF x5 x6,true),(!r0.1 == !leF (wrap64 (b0_1 - (List.getD x0 (Int.toNat (wrap64 ((2:Int) * x6))) ((0:Int),(0:Int),(0:Int),())).2.2.1)) b0_0,false),(!r0.1 == !leF (wrap64 (b0_1 - (List.getD x0 (Int.toNat (wrap64 ((2:Int) * x6))) ((0:Int),(0:Int),(0:Int),())).2.2.1)) b0_0,false),(!r0.1 == !leF (wrap64 (b0_1 - (List.getD x0 (Int.toNat (wrap64 ((2:Int) * x6))) ((0:Int),(0:Int),(0:Int),())).2.2.1)) b0_0,false),(!r0.1 == !leF (wrap64 (b0_1 - (List.getD x0 (Int.toNat (wrap64 ((2:Int) * x6))) ((0:Int),(0:Int),(0:Int),())).2.2.1)) b0_0,false),(decide ((0:Int) ≤ wrap64 ((2:Int) * x6)) && decide (wrap64 ((2:Int) * x6) < (↑(List.length x0):Int)),true),(Option.isSome (f51 (x3,(x6,()))),true),(!leF (↑(List.length x0):Int) (wrap64 (wrap64 ((2:Int) * x6) + (1:Int))),false),(!leF (↑(List.length x0):Int) (wrap64 ((2:Int) * x6)),true)])):=by kernel_rfl
theorem e8_0_8 (x0:(List (Int×(Int×(Int×Unit))))) (x1:Int) (x3:(List Int)) (x4:Int) (x5:Int) (x6:Int) (b0_0:Int) (b0_1:Int):runBody (kf51 Go.Proofs.Try.prog).orc Go.Proofs.Try.prog 400 8 0 sh8_0 shb8_0 shr8_0 ((x0,x1,x3,x4,x5,x6,()),(b0_0,b0_1,()),()) [tt,ff,tt,tt,ff,ff,ff,ff,tt,tt,tt,tt,tt,ff,ff,ff,ff,ff,ff,tt,ff,ff,tt,ff,tt] =
    (let r0:=g51 (x3,(x6,())); some (.ret ((false,()),((b0_0,(b0_1,())),())),[(leF (↑(List.length x0):Int) (wrap64 (wrap64 ((2:Int) * x6) + (1:Int))),true),(!r0.1 == !leF (wrap64 (b0_1 - (List.getD x0 (Int.toNat (wrap64 ((2:Int) * x6))) ((0:Int),(0:Int),(0:Int),())).2.2.1)) b0_0,false),(!leF x5 x6,true),(!r0.1 == !leF (wrap64 (b0_1 - (List.getD x0 (Int.toNat (wrap64 ((2:Int) * x6))) ((0:Int),(0:Int),(0:Int),())).2.2.1)) b0_0,false),(r0.1,false),(!leF x5 x6,true),(r0.1,false),(r0.1,false),(r0.1,false),(r0.1,false),(r0.1,false),(r0.1,false),(!leF x5 x6,true),(Option.isSome (f51 (x3,(x6,()))),true),(!leF x5 x6,true),(!leF x5 x6,true),(!leF x5 x6,true),(!r0.1 == !leF (wrap64 (b0_1 - (List.getD x0 (Int.toNat (wrap64 ((2:Int) * x6))) ((0:Int),(0:Int),(0:Int),())).2.2.1)) b0_0,false),(!r0.1 == !leF (wrap64 (b0_1 - (List.getD x0 (Int.toNat (wrap64 ((2:Int) * x6))) ((0:Int),(0:Int),(0:Int),())).2.2.1)) b0_0,false),(!r0.1 == !leF (wrap64 (b0_1 - (List.getD x0 (Int.toNat (wrap64 ((2:Int) * x6))) ((0:Int),(0:Int),(0:Int),())).2.2.1)) b0_0,false),(!r0.1 == !leF (wrap64 (b0_1 - (List.getD x0 (Int.toNat (wrap64 ((2:Int) * x6))) ((0:Int),(0:Int),(0:Int),())).2.2.1)) b0_0,false),(decide ((0:Int) ≤ wrap64 ((2:Int) * x6)) && decide (wrap64 ((2:Int) * x6) < (↑(List.length x0):Int)),true),(Option.isSome (f51 (x3,(x6,()))),true),(!leF (↑(List.length x0):Int) (wrap64 (wrap64 ((2:Int) * x6) + (1:Int))),false),(!leF (↑(List.length x0):Int) (wrap64 ((2:Int) * x6)),true)])):=by kernel_rfl
theorem e8_0_9 (x0:(List (Int×(Int×(Int×Unit))))) (x1:Int) (x3:(List Int)) (x4:Int) (x5:Int) (x6:Int) (b0_0:Int) (b0_1:Int):runBody (kf51 Go.Proofs.Try.prog).orc Go.Proofs.Try.prog 400 8 0 sh8_0 shb8_0 shr8_0 ((x0,x1,x3,x4,x5,x6,()),(b0_0,b0_1,()),()) [tt,ff,tt,tt,ff,ff,ff,ff,ff,ff,ff,ff,ff,ff,ff,ff,ff] =
    (let r0:=g51 (x3,(x6,())); some (.again ((x0,(x1,(x3,(x4,(x5,((wrap64 (x6 + (1:Int)):Int),())))))),((b0_0,(b0_1,())),())),[(false,false),(!r0.1 == !leF (wrap64 (b0_1 - (List.getD x0 (Int.toNat (wrap64 ((2:Int) * x6))) ((0:Int),(0:Int),(0:Int),())).2.2.1)) b0_0,false),(!leF x5 x6,false),(!r0.1 == !leF (wrap64 (b0_1 - (List.getD x0 (Int.toNat (wrap64 ((2:Int) * x6))) ((0:Int),(0:Int),(0:Int),())).2.2.1)) b0_0,false),(!leF x5 x6,false),(!leF x5 x6,false),(!leF x5 x6,false),(!leF x5 x6,false),(!leF x5 x6,false),(!r0.1 == !leF (wrap64 (b0_1 - (List.getD x0 (Int.toNat (wrap64 ((2:Int) * x6))) ((0:Int),(0:Int),(0:Int),())).2.2.1)) b0_0,false),(!r0.1 == !leF (wrap64 (b0_1 - (List.getD x0 (Int.toNat (wrap64 ((2:Int) * x6))) ((0:Int),(0:Int),(0:Int),())).2.2.1)) b0_0,false),(!r0.1 == !leF (wrap64 (b0_1 - (List.getD x0 (Int.toNat (wrap64 ((2:Int) * x6))) ((0:Int),(0:Int),(0:Int),())).2.2.1)) b0_0,false),(!r0.1 == !leF (wrap64 (b0_1 - (List.getD x0 (Int.toNat (wrap64 ((2:Int) * x6))) ((0:Int),(0:Int),(0:Int),())).2.2.1)) b0_0,false),(decide ((0:Int) ≤ wrap64 ((2:Int) * x6)) && decide (wrap64 ((2:Int) * x6) < (↑(List.length x0):Int)),true),(Option.isSome (f51 (x3,(x6,()))),true),(!leF (↑(List.length x0):Int) (wrap64 (wrap64 ((2:Int) * x6) + (1:Int))),false),(!leF (↑(List.length x0):Int) (wrap64 ((2:Int) * x6)),true)])):=by kernel_rfl
theorem e8_0_11 (x0:(List (Int×(Int×(Int×Unit))))) (x1:Int) (x3:(List Int)) (x4:Int) (x5:Int) (x6:Int) (b0_0:Int) (b0_1:Int):runBody (kf51 Go.Proofs.Try.prog).orc Go.Proofs.Try.prog 400 8 0 sh8_0 shb8_0 shr8_0 ((x0,x1,x3,x4,x5,x6,()),(b0_0,b0_1,()),()) [ff] =
    (some (.brk ((x0,(x1,(x3,(x4,(x5,()))))),((b0_0,(b0_1,())),())),[(!leF (↑(List.length x0):Int) (wrap64 ((2:Int) * x6)),false)])):=by kernel_rfl

theorem ok8_0_t (x0:(List (Int×(Int×(Int×Unit))))) (x1:Int) (x3:(List Int)) (x4:Int) (x5:Int) (x6:Int) (b0_0:Int) (b0_1:Int):TrOk (BodyRuns Go.Proofs.Try.prog (kf51 Go.Proofs.Try.prog).orc 8 0 sh8_0 shb8_0 shr8_0 ((x0,x1,x3,x4,x5,x6,()),(b0_0,b0_1,()),())) (t8_0 x0 x1 x3 x4 x5 x6 b0_0 b0_1) :=
  TrOk.ofTest (fun h0=>TrOk.ofTest (fun h1=>TrOk.ofTest (fun h2=>TrOk.ofTest (fun h3=>TrOk.ofTest (fun h4=>TrOk.ofTest (fun h5=>TrOk.ofFin (BodyRuns.of (e8_0_0 x0 x1 x3 x4 x5 x6 b0_0 b0_1) (ac rfl (ac (nn h5) (ac (nn h5) (ac (nn h5) (ac (nn h5) (ac (nn h5) (ac h5 (ac h4 (ac h3 (ac h2 (ac h1 (ac h0 All.nil)))))))))))))) (fun h5=>TrOk.ofTest (fun h9=>TrOk.ofTest (fun h14=>TrOk.ofFin (BodyRuns.of (e8_0_1 x0 x1 x3 x4 x5 x6 b0_0 b0_1) (ac rfl (ac (nn h5) (ac (nn h9) (ac (nn h5) (ac h14 (ac (nn h9) (ac h14 (ac h14 (ac h14 (ac h14 (ac h14 (ac h14 (ac (nn h9) (ac h3 (ac (nn h9) (ac (nn h9) (ac h9 (ac (nn h5) (ac (nn h5) (ac (nn h5) (ac h5 (ac h4 (ac h3 (ac h2 (ac h1 (ac h0 All.nil)))))))))))))))))))))))))))) (fun h14=>TrOk.ofFin (BodyRuns.of (e8_0_2 x0 x1 x3 x4 x5 x6 b0_0 b0_1) (ac (of_not h1) (ac (nn h5) (ac (nn h9) (ac (nn h5) (ac h14 (ac (nn h9) (ac h14 (ac h14 (ac h14 (ac h14 (ac h14 (ac h14 (ac (nn h9) (ac h3 (ac (nn h9) (ac (nn h9) (ac h9 (ac (nn h5) (ac (nn h5) (ac (nn h5) (ac h5 (ac h4 (ac h3 (ac h2 (ac h1 (ac h0 All.nil))))))))))))))))))))))))))))) (fun h9=>TrOk.ofFin (BodyRuns.of (e8_0_3 x0 x1 x3 x4 x5 x6 b0_0 b0_1) (ac rfl (ac (nn h5) (ac (nn h9) (ac (nn h5) (ac (nn h9) (ac (nn h9) (ac (nn h9) (ac (nn h9) (ac h9 (ac (nn h5) (ac (nn h5) (ac (nn h5) (ac h5 (ac h4 (ac h3 (ac h2 (ac h1 (ac h0 All.nil)))))))))))))))))))))) (fun h4=>TrOk.ofStop)) (fun h3=>TrOk.ofStop)) (fun h2=>TrOk.ofStop)) (fun h1=>TrOk.ofTest (fun h2=>TrOk.ofTest (fun h3=>TrOk.ofTest (fun h4=>TrOk.ofFin (BodyRuns.of (e8_0_6 x0 x1 x3 x4 x5 x6 b0_0 b0_1) (ac rfl (ac (nn h4) (ac (nn h4) (ac (nn h4) (ac (nn h4) (ac (nn h4) (ac h4 (ac h3 (ac h2 (ac h1 (ac h0 All.nil))))))))))))) (fun h4=>TrOk.ofTest (fun h8=>TrOk.ofTest (fun h13=>TrOk.ofFin (BodyRuns.of (e8_0_7 x0 x1 x3 x4 x5 x6 b0_0 b0_1) (ac rfl (ac (nn h4) (ac (nn h8) (ac (nn h4) (ac h13 (ac (nn h8) (ac h13 (ac h13 (ac h13 (ac h13 (ac h13 (ac h13 (ac (nn h8) (ac h2 (ac (nn h8) (ac (nn h8) (ac h8 (ac (nn h4) (ac (nn h4) (ac (nn h4) (ac h4 (ac h3 (ac h2 (ac h1 (ac h0 All.nil))))))))))))))))))))))))))) (fun h13=>TrOk.ofFin (BodyRuns.of (e8_0_8 x0 x1 x3 x4 x5 x6 b0_0 b0_1) (ac (of_not h1) (ac (nn h4) (ac (nn h8) (ac (nn h4) (ac h13 (ac (nn h8) (ac h13 (ac h13 (ac h13 (ac h13 (ac h13 (ac h13 (ac (nn h8) (ac h2 (ac (nn h8) (ac (nn h8) (ac h8 (ac (nn h4) (ac (nn h4) (ac (nn h4) (ac h4 (ac h3 (ac h2 (ac h1 (ac h0 All.nil)))))))))))))))))))))))))))) (fun h8=>TrOk.ofFin (BodyRuns.of (e8_0_9 x0 x1 x3 x4 x5 x6 b0_0 b0_1) (ac rfl (ac (nn h4) (ac (nn h8) (ac (nn h4) (ac (nn h8) (ac (nn h8) (ac (nn h8) (ac (nn h8) (ac h8 (ac (nn h4) (ac (nn h4) (ac (nn h4) (ac h4 (ac h3 (ac h2 (ac h1 (ac h0 All.nil))))))))))))))))))))) (fun h3=>TrOk.ofStop)) (fun h2=>TrOk.ofStop))) (fun h0=>TrOk.ofFin (BodyRuns.of (e8_0_11 x0 x1 x3 x4 x5 x6 b0_0 b0_1) (ac h0 All.nil)))

theorem ok8_0:LoopOk Go.Proofs.Try.prog 8 0 lc8_0:=loopOk_of (sh:=sh8_0) (shB:=shb8_0) (shR:=shr8_0) kf51_ok.base (T:=fun (d:sh8_0.data)=>t8_0 d.1.1 d.1.2.1 d.1.2.2.1 d.1.2.2.2.1 d.1.2.2.2.2.1 d.1.2.2.2.2.2.1 d.2.1.1 d.2.1.2.1) (by kernel_rfl) rfl (fun (d:sh8_0.data)=>ok8_0_t d.1.1 d.1.2.1 d.1.2.2.1 d.1.2.2.2.1 d.1.2.2.2.2.1 d.1.2.2.2.2.2.1 d.2.1.1 d.2.1.2.1) (fun _=>rfl)
def kl8_0 (P:Go.Program):Known:=(kf51 P).loop 8 0 lc8_0
theorem kl8_0_ok:KnownOk Go.Proofs.Try.prog (kl8_0 Go.Proofs.Try.prog):=kf51_ok.loop ok8_0

/-! loop 2 of ductility/ductilitylaw08.HybridLate -/

abbrev sh8_2:Sh:={ n:=269,slots:=[7,17,21,23],pats:=[.ty (.slice (.int .i64)),.ty (.slice (.int .i64)),.ty (.slice (.int .i64)),.ty (.int .i64)],boxes:=[] }
abbrev shb8_2:Sh:={ n:=269,slots:=[7,21],pats:=[.ty (.slice (.int .i64)),.ty (.slice (.int .i64))],boxes:=[] }
abbrev shr8_2:Sh:={ n:=269,slots:=[6],pats:=[.ty .bool],boxes:=[] }

def t8_2 (x0:(List Int)) (x1:(List Int)) (x2:(List Int)) (x3:Int):Tr (Out sh8_2.data shb8_2.data shr8_2.data) :=
  Tr.test ((!leF (↑(List.length x1):Int) x3:Bool))
    (Tr.test (decide ((0:Int) ≤ x3) && decide (x3 < (↑(List.length x1):Int)))
      (Tr.test (Option.isSome (f51 (x0,((List.getD x1 (Int.toNat x3) (0:Int):Int),()))))
        (let r0:=g51 (x0,((List.getD x1 (Int.toNat x3) (0:Int):Int),()));
        Tr.test ((!r0.1:Bool))
          (Tr.fin (.ret (((false:Bool),()),())))
          (Tr.fin (.again ((x0,(x1,(x2,((wrap64 (x3 + (1:Int)):Int),())))),()))))
        (Tr.stop))
      (Tr.stop))
    (Tr.fin (.brk ((x0,(x2,())),())))

def s8_2 (d:sh8_2.data):Option (Out sh8_2.data shb8_2.data shr8_2.data):=(t8_2 d.1.1 d.1.2.1 d.1.2.2.1 d.1.2.2.2.1).val
def l8_2 (d:sh8_2.data):Option (shb8_2.data ⊕ shr8_2.data):=itr s8_2 rounds d
def b8_2 (d:sh8_2.data):shb8_2.data:=outB shb8_2.dflt (l8_2 d)
def r8_2 (d:sh8_2.data):shr8_2.data:=outR shr8_2.dflt (l8_2 d)
def lc8_2:LoopC:=lcOf sh8_2 shb8_2 shr8_2 l8_2 b8_2 r8_2

theorem wk8_2 (x0:(List Int)) (x1:(List Int)) (x2:(List Int)) (x3:Int):Walks (runBody (kl8_0 Go.Proofs.Try.prog).orc Go.Proofs.Try.prog 400 8 2 sh8_2 shb8_2 shr8_2 ((x0,x1,x2,x3,()),())) (t8_2 x0 x1 x2 x3) [([true,true,true,true],[2,4,6,8]),([true,true,true,false],[2,4,6,8]),([ff],[2])] :=
  ⟨by kernel_rfl,by kernel_rfl,by kernel_rfl,trivial⟩

theorem ok8_2_t (x0:(List Int)) (x1:(List Int)) (x2:(List Int)) (x3:Int):TrOk (BodyRuns Go.Proofs.Try.prog (kl8_0 Go.Proofs.Try.prog).orc 8 2 sh8_2 shb8_2 shr8_2 ((x0,x1,x2,x3,()),())) (t8_2 x0 x1 x2 x3) :=
  Walks.ok (fun _ _ _=>BodyRuns.of) (wk8_2 x0 x1 x2 x3) (by kernel_rfl)

theorem ok8_2:LoopOk Go.Proofs.Try.prog 8 2 lc8_2:=loopOk_of (sh:=sh8_2) (shB:=shb8_2) (shR:=shr8_2) kl8_0_ok.base (T:=fun (d:sh8_2.data)=>t8_2 d.1.1 d.1.2.1 d.1.2.2.1 d.1.2.2.2.1) (by kernel_rfl) rfl (fun (d:sh8_2.data)=>ok8_2_t d.1.1 d.1.2.1 d.1.2.2.1 d.1.2.2.2.1) (fun _=>rfl)
def kl8_2 (P:Go.Program):Known:=(kl8_0 P).loop 8 2 lc8_2
theorem kl8_2_ok:KnownOk Go.Proofs.Try.prog (kl8_2 Go.Proofs.Try.prog):=kl8_0_ok.loop ok8_2

/-! loop 4 of ductility/ductilitylaw08.HybridLate -/

abbrev sh8_4:Sh:={ n:=269,slots:=[7,21,24],pats:=[.ty (.slice (.int .i64)),.ty (.slice (.int .i64)),.ty (.int .i64)],boxes:=[] }
abbrev shb8_4:Sh:={ n:=269,slots:=[],pats:=[],boxes:=[] }
abbrev shr8_4:Sh:={ n:=269,slots:=[6],pats:=[.ty .bool],boxes:=[] }

def t8_4 (x0:(List Int)) (x1:(List Int)) (x2:Int):Tr (Out sh8_4.data shb8_4.data shr8_4.data) :=
  Tr.test ((!leF (↑(List.length x0):Int) x2:Bool))
    (Tr.test (decide ((0:Int) ≤ x2) && decide (x2 < (↑(List.length x0):Int)))
      (Tr.test (Option.isSome (f51 (x1,((List.getD x0 (Int.toNat x2) (0:Int):Int),()))))
        (let r0:=g51 (x1,((List.getD x0 (Int.toNat x2) (0:Int):Int),()));
        Tr.test ((!r0.1:Bool))
          (Tr.fin (.ret (((false:Bool),()),())))
          (Tr.fin (.again ((x0,(x1,((wrap64 (x2 + (1:Int)):Int),()))),()))))
        (Tr.stop))
      (Tr.stop))
    (Tr.fin (.brk ((),())))

def s8_4 (d:sh8_4.data):Option (Out sh8_4.data shb8_4.data shr8_4.data):=(t8_4 d.1.1 d.1.2.1 d.1.2.2.1).val
def l8_4 (d:sh8_4.data):Option (shb8_4.data ⊕ shr8_4.data):=itr s8_4 rounds d
def b8_4 (d:sh8_4.data):shb8_4.data:=outB shb8_4.dflt (l8_4 d)
def r8_4 (d:sh8_4.data):shr8_4.data:=outR shr8_4.dflt (l8_4 d)
def lc8_4:LoopC:=lcOf sh8_4 shb8_4 shr8_4 l8_4 b8_4 r8_4

theorem wk8_4 (x0:(List Int)) (x1:(List Int)) (x2:Int):Walks (runBody (kl8_2 Go.Proofs.Try.prog).orc Go.Proofs.Try.prog 400 8 4 sh8_4 shb8_4 shr8_4 ((x0,x1,x2,()),())) (t8_4 x0 x1 x2) [([true,true,true,true],[2,4,6,8]),([true,true,true,false],[2,4,6,8]),([ff],[2])] :=
  ⟨by kernel_rfl,by kernel_rfl,by kernel_rfl,trivial⟩

theorem ok8_4_t (x0:(List Int)) (x1:(List Int)) (x2:Int):TrOk (BodyRuns Go.Proofs.Try.prog (kl8_2 Go.Proofs.Try.prog).orc 8 4 sh8_4 shb8_4 shr8_4 ((x0,x1,x2,()),())) (t8_4 x0 x1 x2) :=
  Walks.ok (fun _ _ _=>BodyRuns.of) (wk8_4 x0 x1 x2) (by kernel_rfl)

theorem ok8_4:LoopOk Go.Proofs.Try.prog 8 4 lc8_4:=loopOk_of (sh:=sh8_4) (shB:=shb8_4) (shR:=shr8_4) kl8_2_ok.base (T:=fun (d:sh8_4.data)=>t8_4 d.1.1 d.1.2.1 d.1.2.2.1) (by kernel_rfl) rfl (fun (d:sh8_4.data)=>ok8_4_t d.1.1 d.1.2.1 d.1.2.2.1) (fun _=>rfl)
def kl8_4 (P:Go.Program):Known:=(kl8_2 P).loop 8 4 lc8_4
theorem kl8_4_ok:KnownOk Go.Proofs.Try.prog (kl8_4 Go.Proofs.Try.prog):=kl8_2_ok.loop ok8_4

/-! ductility/ductilitylaw08.HybridLate -/

abbrev as8:List Ty:=[(.slice (.pair (.int .i64) (.pair (.int .i64) (.pair (.int .i64) .unit)))),(.pair (.int .i64) (.pair (.int .i64) .unit)),(.int .i64)]
abbrev rs8:List Ty:=[.bool]

def t8 (x0:(List (Int×(Int×(Int×Unit))))) (x1:Int) (x1':Int) (x2:Int):Tr (Tys.data rs8) :=
  Tr.test ((!leF (↑(List.length x0):Int) (60:Int):Bool))
    (Tr.fin ((true,())))
    (Tr.test (Option.isSome (f50 (x0,())))
      (let r0:=g50 (x0,());
      Tr.test ((!eqF r0.1 0:Bool))
        (Tr.fin (((true:Bool),())))
        (Tr.test (Option.isSome (f46 (x0,((x1,(x1',())),()))))
          (let r1:=g46 (x0,((x1,(x1',())),()));
          Tr.test ((!eqF r1.1 0:Bool))
            (Tr.fin (((true:Bool),())))
            (Tr.test (Option.isSome (f39 (x2,((0:Int),((1000:Int),())))))
              (let r2:=g39 (x2,((0:Int),((1000:Int),())));
              Tr.test ((!r2.1:Bool))
                (Tr.fin (((true:Bool),())))
                (Tr.test ((!leF x1' 999999999000:Bool))
                  (Tr.fin (((true:Bool),())))
                  (Tr.test ((!leF x1 99000:Bool))
                    (Tr.fin (((true:Bool),())))
                    (Tr.test (Option.isSome (f41 (x0,())))
                      (let r3:=g41 (x0,());
                      Tr.test (Option.isSome (f42 (r3.1,((x1,(x1',())),()))))
                        (Tr.test (Option.isSome (f43 (r3.1,((x1,(x1',())),()))))
                          (Tr.test (Option.isSome (f44 (r3.1,((x1,(x1',())),()))))
                            (let r4:=g42 (r3.1,((x1,(x1',())),()));
                            Tr.test ((!eqF r4.2.1 0:Bool))
                              (Tr.fin (((false:Bool),())))
                              (let r6:=g44 (r3.1,((x1,(x1',())),()));
                              Tr.test ((!eqF r6.2.1 0:Bool))
                                (Tr.fin (((false:Bool),())))
                                (let r5:=g43 (r3.1,((x1,(x1',())),()));
                                Tr.test ((!eqF r5.2.1 0 == !leF (↑(List.length r4.1):Int) (0:Int):Bool))
                                  (Tr.fin (((false:Bool),())))
                                  (Tr.test (Option.isSome (f39 (r6.1,((0:Int),((Go.IntKind.wrap Go.IntKind.i64 (Int.tdiv (↑(List.length x0):Int) (2:Int)):Int),())))))
                                    (let r7:=g39 (r6.1,((0:Int),((Go.IntKind.wrap Go.IntKind.i64 (Int.tdiv (↑(List.length x0):Int) (2:Int)):Int),())));
                                    Tr.test ((!r7.1:Bool))
                                      (Tr.fin (((false:Bool),())))
                                      (Tr.test (Option.isSome (l8_0 ((x0,(x2,(r4.1,(r5.1,(r6.1,((0:Int),())))))),((x1,(x1',())),()))))
                                        (Tr.test (isRet (l8_0 ((x0,(x2,(r4.1,(r5.1,(r6.1,((0:Int),())))))),((x1,(x1',())),()))))
                                          (let r8:=r8_0 ((x0,(x2,(r4.1,(r5.1,(r6.1,((0:Int),())))))),((x1,(x1',())),()));
                                          Tr.fin ((r8.1.1,())))
                                          (let r9:=b8_0 ((x0,(x2,(r4.1,(r5.1,(r6.1,((0:Int),())))))),((x1,(x1',())),()));
                                          Tr.test ((!leF (↑(List.length r9.1.2.2.1):Int) (0:Int):Bool))
                                            (Tr.test ((true && decide ((0:Int) < (↑(List.length r9.1.2.2.1):Int)):Bool))
                                              (Tr.test (Option.isSome (f39 ((List.getD r9.1.2.2.1 (0:Nat) (0:Int):Int),(r9.1.2.2.2.2.1,((Go.IntKind.wrap Go.IntKind.i64 (Int.tdiv (wrap64 ((↑(List.length r9.1.1):Int) - (1:Int))) (2:Int)):Int),())))))
                                                (let r10:=g39 ((List.getD r9.1.2.2.1 (0:Nat) (0:Int):Int),(r9.1.2.2.2.2.1,((Go.IntKind.wrap Go.IntKind.i64 (Int.tdiv (wrap64 ((↑(List.length r9.1.1):Int) - (1:Int))) (2:Int)):Int),())));
                                                Tr.test ((!r10.1:Bool))
                                                  (Tr.fin (((false:Bool),())))
                                                  (Tr.test ((!eqF r9.1.2.2.2.2.1 (List.getD r9.1.2.2.1 (0:Nat) (0:Int)):Bool))
                                                    (Tr.fin (((false:Bool),())))
                                                    (Tr.test ((decide ((0:Int) ≤ wrap64 ((2:Int) * List.getD r9.1.2.2.1 (0:Nat) (0:Int))) && decide (wrap64 ((2:Int) * List.getD r9.1.2.2.1 (0:Nat) (0:Int)) < (↑(List.length r9.1.1):Int)):Bool))
                                                      (Tr.test ((!eqF r9.1.2.2.2.1 (wrap64 (wrap64 ((List.getD r9.1.1 (Int.toNat (wrap64 ((2:Int) * List.getD r9.1.2.2.1 (0:Nat) (0:Int)))) ((0:Int),(0:Int),(0:Int),())).2.2.1 + r9.2.1.1) + (1:Int))):Bool))
                                                        (Tr.fin (((false:Bool),())))
                                                        (Tr.test (Option.isSome (f41 (r9.1.1,())))
                                                          (let r11:=g41 (r9.1.1,());
                                                          Tr.test (Option.isSome (f42 (r11.1,(((Go.IntKind.wrap Go.IntKind.i64 (r9.2.1.1 + r9.1.2.1):Int),(r9.2.1.2.1,())),()))))
                                                            (Tr.test (Option.isSome (f44 (r11.1,(((Go.IntKind.wrap Go.IntKind.i64 (r9.2.1.1 + r9.1.2.1):Int),(r9.2.1.2.1,())),()))))
                                                              (Tr.test (Option.isSome (f42 (r11.1,((r9.2.1.1,((Go.IntKind.wrap Go.IntKind.i64 (r9.2.1.2.1 + r9.1.2.1):Int),())),()))))
                                                                (let r12:=g42 (r11.1,(((Go.IntKind.wrap Go.IntKind.i64 (r9.2.1.1 + r9.1.2.1):Int),(r9.2.1.2.1,())),()));
                                                                Tr.test ((!eqF r12.2.1 0:Bool))
                                                                  (Tr.fin (((false:Bool),())))
                                                                  (let r13:=g44 (r11.1,(((Go.IntKind.wrap Go.IntKind.i64 (r9.2.1.1 + r9.1.2.1):Int),(r9.2.1.2.1,())),()));
                                                                  Tr.test ((!eqF r13.2.1 0:Bool))
                                                                    (Tr.fin (((false:Bool),())))
                                                                    (Tr.test ((!leF r9.1.2.2.2.2.1 r13.1:Bool))
                                                                      (Tr.fin (((false:Bool),())))
                                                                      (let r14:=g42 (r11.1,((r9.2.1.1,((Go.IntKind.wrap Go.IntKind.i64 (r9.2.1.2.1 + r9.1.2.1):Int),())),()));
                                                                      Tr.test ((!eqF r14.2.1 0:Bool))
                                                                        (Tr.fin (((false:Bool),())))
                                                                        (Tr.test (Option.isSome (l8_2 ((r9.1.2.2.1,(r12.1,(r14.1,((0:Int),())))),())))
                                                                          (Tr.test (isRet (l8_2 ((r9.1.2.2.1,(r12.1,(r14.1,((0:Int),())))),())))
                                                                            (let r15:=r8_2 ((r9.1.2.2.1,(r12.1,(r14.1,((0:Int),())))),());
                                                                            Tr.fin ((r15.1.1,())))
                                                                            (let r16:=b8_2 ((r9.1.2.2.1,(r12.1,(r14.1,((0:Int),())))),());
                                                                            Tr.test (Option.isSome (l8_4 ((r16.1.1,(r16.1.2.1,((0:Int),()))),())))
                                                                              (Tr.test (isRet (l8_4 ((r16.1.1,(r16.1.2.1,((0:Int),()))),())))
                                                                                (let r17:=r8_4 ((r16.1.1,(r16.1.2.1,((0:Int),()))),());
                                                                                Tr.fin ((r17.1.1,())))
                                                                                (Tr.fin (((true:Bool),()))))
                                                                              (Tr.stop)))
                                                                          (Tr.stop))))))
                                                                (Tr.stop))
                                                              (Tr.stop))
                                                            (Tr.stop))
                                                          (Tr.stop)))
                                                      (Tr.stop))))
                                                (Tr.stop))
                                              (Tr.stop))
                                            (Tr.test ((!eqF r9.1.2.2.2.2.1 (Go.IntKind.wrap Go.IntKind.i64 (Int.tdiv (↑(List.length r9.1.1):Int) (2:Int))):Bool))
                                              (Tr.fin (((false:Bool),())))
                                              (Tr.test (Option.isSome (f41 (r9.1.1,())))
                                                (let r11:=g41 (r9.1.1,());
                                                Tr.test (Option.isSome (f42 (r11.1,(((Go.IntKind.wrap Go.IntKind.i64 (r9.2.1.1 + r9.1.2.1):Int),(r9.2.1.2.1,())),()))))
                                                  (Tr.test (Option.isSome (f44 (r11.1,(((Go.IntKind.wrap Go.IntKind.i64 (r9.2.1.1 + r9.1.2.1):Int),(r9.2.1.2.1,())),()))))
                                                    (Tr.test (Option.isSome (f42 (r11.1,((r9.2.1.1,((Go.IntKind.wrap Go.IntKind.i64 (r9.2.1.2.1 + r9.1.2.1):Int),())),()))))
                                                      (let r12:=g42 (r11.1,(((Go.IntKind.wrap Go.IntKind.i64 (r9.2.1.1 + r9.1.2.1):Int),(r9.2.1.2.1,())),()));
                                                      Tr.test ((!eqF r12.2.1 0:Bool))
                                                        (Tr.fin (((false:Bool),())))
                                                        (let r13:=g44 (r11.1,(((Go.IntKind.wrap Go.IntKind.i64 (r9.2.1.1 + r9.1.2.1):Int),(r9.2.1.2.1,())),()));
                                                        Tr.test ((!eqF r13.2.1 0:Bool))
                                                          (Tr.fin (((false:Bool),())))
                                                          (Tr.test ((!leF r9.1.2.2.2.2.1 r13.1:Bool))
                                                            (Tr.fin (((false:Bool),())))
                                                            (let r14:=g42 (r11.1,((r9.2.1.1,((Go.IntKind.wrap Go.IntKind.i64 (r9.2.1.2.1 + r9.1.2.1):Int),())),()));
                                                            Tr.test ((!eqF r14.2.1 0:Bool))
                                                              (Tr.fin (((false:Bool),())))
                                                              (Tr.test (Option.isSome (l8_2 ((r9.1.2.2.1,(r12.1,(r14.1,((0:Int),())))),())))
                                                                (Tr.test (isRet (l8_2 ((r9.1.2.2.1,(r12.1,(r14.1,((0:Int),())))),())))
                                                                  (let r15:=r8_2 ((r9.1.2.2.1,(r12.1,(r14.1,((0:Int),())))),());
                                                                  Tr.fin ((r15.1.1,())))
                                                                  (let r16:=b8_2 ((r9.1.2.2.1,(r12.1,(r14.1,((0:Int),())))),());
                                                                  Tr.test (Option.isSome (l8_4 ((r16.1.1,(r16.1.2.1,((0:Int),()))),())))
                                                                    (Tr.test (isRet (l8_4 ((r16.1.1,(r16.1.2.1,((0:Int),()))),())))
                                                                      (let r17:=r8_4 ((r16.1.1,(r16.1.2.1,((0:Int),()))),());
                                                                      Tr.fin ((r17.1.1,())))
                                                                      (Tr.fin (((true:Bool),()))))
                                                                    (Tr.stop)))
                                                                (Tr.stop))))))
                                                      (Tr.stop))
                                                    (Tr.stop))
                                                  (Tr.stop))
                                                (Tr.stop)))))
                                        (Tr.stop)))
                                    (Tr.stop)))))
                            (Tr.stop))
                          (Tr.stop))
                        (Tr.stop))
                      (Tr.stop)))))
              (Tr.stop)))
          (Tr.stop)))
      (Tr.stop))

def f8 (d:Tys.data as8):Option (Tys.data rs8):=(t8 d.1 d.2.1.1 d.2.1.2.1 d.2.2.1).val
def g8 (d:Tys.data as8):Tys.data rs8:=(f8 d).getD (Tys.dflt rs8)
def p8:PureC:=pcOf as8 rs8 f8 g8

theorem wk8 (x0:(List (Int×(Int×(Int×Unit))))) (x1:Int) (x1':Int) (x2:Int):Walks (runPure (kl8_4 Go.Proofs.Try.prog).orc Go.Proofs.Try.prog 400 8 as8 rs8 (x0,(x1,x1',()),x2,())) (t8 x0 x1 x1' x2) [([tt],[1,1,1,1,1,1,1,1,1,1,1,1,1,1,1,1,1,1,2,2,2,2,0,1]),([false,true,true],[1,1,1,1,1,1,1,1,1,1,1,1,1,2,2,2,2,2,6,6,4,6,6,0,1]),([false,true,false,true,true],[1,1,1,1,1,1,1,1,1,2,2,2,2,6,6,4,6,6,6,10,10,8,10,10,0,1]),([false,true,false,true,false,true,true],[1,1,1,1,1,2,2,2,2,6,6,4,6,6,10,10,8,10,10,10,14,14,12,14,14,0,1]),([false,true,false,true,false,true,false,true],[1,2,2,2,2,4,4,4,4,8,8,6,8,8,12,12,10,12,12,12,16,16,14,16,16,0,1]),([false,true,false,true,false,true,false,false,true],[2,4,4,4,4,6,6,6,6,10,10,8,10,10,14,14,12,14,14,14,18,18,16,18,18,0,1]),([false,true,false,true,false,true,false,false,false,true,true,true,true,true],[1,1,1,1,1,1,1,1,1,1,1,1,1,1,1,2,2,2,4,10,6,10,8,10,12,14,14,14,14,16,16,16,16,20,20,18,20,20,24,24,22,24,24,24,28,28,26,28,28,0,1]),([false,true,false,true,false,true,false,false,false,true,true,true,true,false,true],[1,1,1,1,1,1,1,1,2,2,2,2,2,2,2,4,4,4,6,12,8,12,10,12,14,16,16,16,16,18,18,18,18,22,22,20,22,22,26,26,24,26,26,26,30,30,28,30,30,0,1]),([false,true,false,true,false,true,false,false,false,true,true,true,true,false,false,true],[1,2,2,2,2,2,2,2,4,4,4,4,4,4,4,6,6,6,8,14,10,14,12,14,16,18,18,18,18,20,20,20,20,24,24,22,24,24,28,28,26,28,28,28,32,32,30,32,32,0,1]),([false,true,false,true,false,true,false,false,false,true,true,true,true,false,false,false,true,true],[2,6,6,4,6,0,6,6,6,6,8,8,8,8,8,8,8,10,10,10,12,18,14,18,16,18,20,22,22,22,22,24,24,24,24,28,28,26,28,28,32,32,30,32,32,32,36,36,34,36,36,0,1]),([false,true,false,true,false,true,false,false,false,true,true,true,true,false,false,false,true,false,true,true],[2,4,6,10,10,8,10,0,10,10,10,10,12,12,12,12,12,12,12,14,14,14,16,22,18,22,20,22,24,26,26,26,26,28,28,28,28,32,32,30,32,32,36,36,34,36,36,36,40,40,38,40,40,0,1]),([false,true,false,true,false,true,false,false,false,true,true,true,true,false,false,false,true,false,true,false,true,true,true,true],[1,1,1,1,1,1,1,1,1,1,1,1,1,1,1,1,2,2,2,2,2,2,4,0,6,8,10,12,14,18,18,16,18,0,18,18,18,18,20,20,20,20,20,20,20,22,22,22,24,30,26,30,28,30,32,34,34,34,34,36,36,36,36,40,40,38,40,40,44,44,42,44,44,44,48,48,46,48,48,0,1]),([false,true,false,true,false,true,false,false,false,true,true,true,true,false,false,false,true,false,true,false,true,true,true,false,true],[1,2,2,2,2,2,2,2,2,2,2,2,2,2,2,2,4,4,4,8,4,4,4,6,0,8,10,12,14,16,20,20,18,20,0,20,20,20,20,22,22,22,22,22,22,22,24,24,24,26,32,28,32,30,32,34,36,36,36,36,38,38,38,38,42,42,40,42,42,46,46,44,46,46,46,50,50,48,50,50,0,1]),([false,true,false,true,false,true,false,false,false,true,true,true,true,false,false,false,true,false,true,false,true,true,true,false,false,true,true],[2,6,6,6,6,6,6,6,6,4,6,6,6,12,6,6,6,6,8,8,8,12,8,8,8,10,0,12,14,16,18,20,24,24,22,24,0,24,24,24,24,26,26,26,26,26,26,26,28,28,28,30,36,32,36,34,36,38,40,40,40,40,42,42,42,42,46,46,44,46,46,50,50,48,50,50,50,54,54,52,54,54,0,1]),([false,true,false,true,false,true,false,false,false,true,true,true,true,false,false,false,true,false,true,false,true,true,true,false,false,true,false,true,true,true,true,true],[1,1,1,1,1,1,1,1,2,2,2,4,10,6,10,8,10,12,16,16,16,16,16,16,16,16,14,16,16,16,22,16,16,16,16,18,18,18,22,18,18,18,20,0,22,24,26,28,30,34,34,32,34,0,34,34,34,34,36,36,36,36,36,36,36,38,38,38,40,46,42,46,44,46,48,50,50,50,50,52,52,52,52,56,56,54,56,56,60,60,58,60,60,60,64,64,62,64,64,0,1]),([false,true,false,true,false,true,false,false,false,true,true,true,true,false,false,false,true,false,true,false,true,true,true,false,false,true,false,true,true,true,true,false,true],[1,1,1,1,2,2,2,2,4,4,4,6,12,8,12,10,12,14,18,18,18,18,18,18,18,18,16,18,18,18,24,18,18,18,18,20,20,20,24,20,20,20,22,0,24,26,28,30,32,36,36,34,36,0,36,36,36,36,38,38,38,38,38,38,38,40,40,40,42,48,44,48,46,48,50,52,52,52,52,54,54,54,54,58,58,56,58,58,62,62,60,62,62,62,66,66,64,66,66,0,1]),([false,true,false,true,false,true,false,false,false,true,true,true,true,false,false,false,true,false,true,false,true,true,true,false,false,true,false,true,true,true,true,false,false,true],[1,2,2,2,4,4,4,4,6,6,6,8,14,10,14,12,14,16,20,20,20,20,20,20,20,20,18,20,20,20,26,20,20,20,20,22,22,22,26,22,22,22,24,0,26,28,30,32,34,38,38,36,38,0,38,38,38,38,40,40,40,40,40,40,40,42,42,42,44,50,46,50,48,50,52,54,54,54,54,56,56,56,56,60,60,58,60,60,64,64,62,64,64,64,68,68,66,68,68,0,1]),([false,true,false,true,false,true,false,false,false,true,true,true,true,false,false,false,true,false,true,false,true,true,true,false,false,true,false,true,true,true,true,false,false,false,true],[2,4,4,4,6,6,6,6,8,8,8,10,16,12,16,14,16,18,22,22,22,22,22,22,22,22,20,22,22,22,28,22,22,22,22,24,24,24,28,24,24,24,26,0,28,30,32,34,36,40,40,38,40,0,40,40,40,40,42,42,42,42,42,42,42,44,44,44,46,52,48,52,50,52,54,56,56,56,56,58,58,58,58,62,62,60,62,62,66,66,64,66,66,66,70,70,68,70,70,0,1]),([false,true,false,true,false,true,false,false,false,true,true,true,true,false,false,false,true,false,true,false,true,true,true,false,false,true,false,true,true,true,true,false,false,false,false,true,true],[2,4,6,8,8,8,10,10,10,10,12,12,12,14,20,16,20,18,20,22,26,26,26,26,26,26,26,26,24,26,26,26,32,26,26,26,26,28,28,28,32,28,28,28,30,0,32,34,36,38,40,44,44,42,44,0,44,44,44,44,46,46,46,46,46,46,46,48,48,48,50,56,52,56,54,56,58,60,60,60,60,62,62,62,62,66,66,64,66,66,70,70,68,70,70,70,74,74,72,74,74,0,1]),([false,true,false,true,false,true,false,false,false,true,true,true,true,false,false,false,true,false,true,false,true,true,true,false,false,true,false,true,true,true,true,false,false,false,false,true,false,true,true],[2,4,6,8,10,12,12,12,14,14,14,14,16,16,16,18,24,20,24,22,24,26,30,30,30,30,30,30,30,30,28,30,30,30,36,30,30,30,30,32,32,32,36,32,32,32,34,0,36,38,40,42,44,48,48,46,48,0,48,48,48,48,50,50,50,50,50,50,50,52,52,52,54,60,56,60,58,60,62,64,64,64,64,66,66,66,66,70,70,68,70,70,74,74,72,74,74,74,78,78,76,78,78,0,1]),([false,true,false,true,false,true,false,false,false,true,true,true,true,false,false,false,true,false,true,false,true,true,true,false,false,true,false,true,true,true,true,false,false,false,false,true,false,true,false],[2,4,6,8,10,12,12,12,14,14,14,14,16,16,16,18,24,20,24,22,24,26,30,30,30,30,30,30,30,30,28,30,30,30,36,30,30,30,30,32,32,32,36,32,32,32,34,0,36,38,40,42,44,48,48,46,48,0,48,48,48,48,50,50,50,50,50,50,50,52,52,52,54,60,56,60,58,60,62,64,64,64,64,66,66,66,66,70,70,68,70,70,74,74,72,74,74,74,78,78,76,78,78,0,1]),([false,true,false,true,false,true,false,false,false,true,true,true,true,false,false,false,true,false,true,false,false,true],[2,0,4,6,8,10,14,14,12,14,0,14,14,14,14,16,16,16,16,16,16,16,18,18,18,20,26,22,26,24,26,28,30,30,30,30,32,32,32,32,36,36,34,36,36,40,40,38,40,40,40,44,44,42,44,44,0,1]),([false,true,false,true,false,true,false,false,false,true,true,true,true,false,false,false,true,false,true,false,false,false,true,true,true,true,true],[1,1,1,1,1,1,1,1,2,2,2,4,10,6,10,8,10,12,0,14,16,18,20,24,24,22,24,0,24,24,24,24,26,26,26,26,26,26,26,28,28,28,30,36,32,36,34,36,38,40,40,40,40,42,42,42,42,46,46,44,46,46,50,50,48,50,50,50,54,54,52,54,54,0,1]),([false,true,false,true,false,true,false,false,false,true,true,true,true,false,false,false,true,false,true,false,false,false,true,true,true,true,false,true],[1,1,1,1,2,2,2,2,4,4,4,6,12,8,12,10,12,14,0,16,18,20,22,26,26,24,26,0,26,26,26,26,28,28,28,28,28,28,28,30,30,30,32,38,34,38,36,38,40,42,42,42,42,44,44,44,44,48,48,46,48,48,52,52,50,52,52,52,56,56,54,56,56,0,1]),([false,true,false,true,false,true,false,false,false,true,true,true,true,false,false,false,true,false,true,false,false,false,true,true,true,true,false,false,true],[1,2,2,2,4,4,4,4,6,6,6,8,14,10,14,12,14,16,0,18,20,22,24,28,28,26,28,0,28,28,28,28,30,30,30,30,30,30,30,32,32,32,34,40,36,40,38,40,42,44,44,44,44,46,46,46,46,50,50,48,50,50,54,54,52,54,54,54,58,58,56,58,58,0,1]),([false,true,false,true,false,true,false,false,false,true,true,true,true,false,false,false,true,false,true,false,false,false,true,true,true,true,false,false,false,true],[2,4,4,4,6,6,6,6,8,8,8,10,16,12,16,14,16,18,0,20,22,24,26,30,30,28,30,0,30,30,30,30,32,32,32,32,32,32,32,34,34,34,36,42,38,42,40,42,44,46,46,46,46,48,48,48,48,52,52,50,52,52,56,56,54,56,56,56,60,60,58,60,60,0,1]),([false,true,false,true,false,true,false,false,false,true,true,true,true,false,false,false,true,false,true,false,false,false,true,true,true,true,false,false,false,false,true,true],[2,4,6,8,8,8,10,10,10,10,12,12,12,14,20,16,20,18,20,22,0,24,26,28,30,34,34,32,34,0,34,34,34,34,36,36,36,36,36,36,36,38,38,38,40,46,42,46,44,46,48,50,50,50,50,52,52,52,52,56,56,54,56,56,60,60,58,60,60,60,64,64,62,64,64,0,1]),([false,true,false,true,false,true,false,false,false,true,true,true,true,false,false,false,true,false,true,false,false,false,true,true,true,true,false,false,false,false,true,false,true,true],[2,4,6,8,10,12,12,12,14,14,14,14,16,16,16,18,24,20,24,22,24,26,0,28,30,32,34,38,38,36,38,0,38,38,38,38,40,40,40,40,40,40,40,42,42,42,44,50,46,50,48,50,52,54,54,54,54,56,56,56,56,60,60,58,60,60,64,64,62,64,64,64,68,68,66,68,68,0,1]),([false,true,false,true,false,true,false,false,false,true,true,true,true,false,false,false,true,false,true,false,false,false,true,true,true,true,false,false,false,false,true,false,true,false],[2,4,6,8,10,12,12,12,14,14,14,14,16,16,16,18,24,20,24,22,24,26,0,28,30,32,34,38,38,36,38,0,38,38,38,38,40,40,40,40,40,40,40,42,42,42,44,50,46,50,48,50,52,54,54,54,54,56,56,56,56,60,60,58,60,60,64,64,62,64,64,64,68,68,66,68,68,0,1])] :=
  ⟨by kernel_rfl,by kernel_rfl,by kernel_rfl,by kernel_rfl,by kernel_rfl,by kernel_rfl,by kernel_rfl,by kernel_rfl,by kernel_rfl,by kernel_rfl,by kernel_rfl,by kernel_rfl,by kernel_rfl,by kernel_rfl,by kernel_rfl,by kernel_rfl,by kernel_rfl,by kernel_rfl,by kernel_rfl,by kernel_rfl,by kernel_rfl,by kernel_rfl,by kernel_rfl,by kernel_rfl,by kernel_rfl,by kernel_rfl,by kernel_rfl,by kernel_rfl,by kernel_rfl,trivial⟩

theorem ok8_t (x0:(List (Int×(Int×(Int×Unit))))) (x1:Int) (x1':Int) (x2:Int):TrOk (PureRuns Go.Proofs.Try.prog (kl8_4 Go.Proofs.Try.prog).orc 8 as8 rs8 (x0,(x1,x1',()),x2,())) (t8 x0 x1 x1' x2) :=
  Walks.ok (fun _ _ _=>PureRuns.of) (wk8 x0 x1 x1' x2) (by kernel_rfl)

theorem ok8:PureOk Go.Proofs.Try.prog 8 p8:=pureOk_of kl8_4_ok.base (T:=fun (d:Tys.data as8)=>t8 d.1 d.2.1.1 d.2.1.2.1 d.2.2.1) (by kernel_rfl) (fun (d:Tys.data as8)=>ok8_t d.1 d.2.1.1 d.2.1.2.1 d.2.2.1)

end Go.Vm.Mo
