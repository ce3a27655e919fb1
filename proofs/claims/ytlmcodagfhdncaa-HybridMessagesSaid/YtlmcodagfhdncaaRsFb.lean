import Derived.Test.YtlmcodagfhdncaaA4
import Derived.KernelRfl
import Derived.Test.YtlmcodagfhdncaaProg
import Derived.Test.YtlmcodagfhdncaaRsFa
set_option linter.unusedVariables false
set_option linter.unusedSimpArgs false

namespace Go.Vm.Mo
open Go
set_option linter.unusedVariables false

/-! loop 0 of (ductility/hybrid.exchange).waits$1 -/

abbrev sh104_0 (P:Go.Program):Sh:={ n:=47,slots:=[0,1,8,9,10],pats:=[.yld 0,.ptr 1 3 0,.ty (.slice (.pair (.int .i64) (.pair (.int .i64) (.pair (.int .i64) .unit)))),.ty (.int .i64),.ty (.int .i64)],boxes:=[.lp (lpOf P 42 0 .ready none 32 [6,8] 2) [.ptr 3 3 0,.ptr 4 1 0],.row [.ty (.int .i64),.ty (.int .i64),.ty (.slice (.pair (.int .i64) (.pair (.int .i64) (.pair (.int .i64) .unit))))],.dfr,.row [.ty (.int .i64),.ty (.int .i64),.ty (.slice (.pair (.int .i64) (.pair (.int .i64) (.pair (.int .i64) .unit))))],.row [.acc (.int .i64)]] }
abbrev shb104_0 (P:Go.Program):Sh:={ n:=47,slots:=[],pats:=[],boxes:=[.lp (lpOf P 42 0 .ready none 32 [6,8] 2) [.ptr 3 3 0,.ptr 4 1 0],.row [.ty (.int .i64),.ty (.int .i64),.ty (.slice (.pair (.int .i64) (.pair (.int .i64) (.pair (.int .i64) .unit))))],.dfr,.row [.ty (.int .i64),.ty (.int .i64),.ty (.slice (.pair (.int .i64) (.pair (.int .i64) (.pair (.int .i64) .unit))))],.row [.acc (.int .i64)]] }
abbrev shr104_0 (P:Go.Program):Sh:={ n:=47,slots:=[],pats:=[],boxes:=[.lp (lpOf P 42 0 .ready none 32 [6,8] 2) [.ptr 3 3 0,.ptr 4 1 0],.row [.ty (.int .i64),.ty (.int .i64),.ty (.slice (.pair (.int .i64) (.pair (.int .i64) (.pair (.int .i64) .unit))))],.dfr,.row [.ty (.int .i64),.ty (.int .i64),.ty (.slice (.pair (.int .i64) (.pair (.int .i64) (.pair (.int .i64) .unit))))],.row [.acc (.int .i64)]] }

abbrev dt104_0:Type:=(List (Int×Int×Int×PUnit)×Int×Int×PUnit)×PUnit×(Int×Int×List (Int×Int×Int×PUnit)×PUnit)×(Int×Int×List (Int×Int×Int×PUnit)×PUnit)×(List Int×PUnit)×PUnit
abbrev db104_0:Type:=PUnit×PUnit×(Int×Int×List (Int×Int×Int×PUnit)×PUnit)×(Int×Int×List (Int×Int×Int×PUnit)×PUnit)×(List Int×PUnit)×PUnit
abbrev dr104_0:Type:=PUnit×PUnit×(Int×Int×List (Int×Int×Int×PUnit)×PUnit)×(Int×Int×List (Int×Int×Int×PUnit)×PUnit)×(List Int×PUnit)×PUnit

def t104_0 (x2:(List (Int×(Int×(Int×Unit))))) (x3:Int) (x4:Int) (b1_0:Int) (b1_1:Int) (b1_2:(List (Int×(Int×(Int×Unit))))) (b3_0:Int) (b3_1:Int) (b3_2:(List (Int×(Int×(Int×Unit))))) (b4_0:(List Int)):Tr (Out dt104_0 db104_0 dr104_0) :=
  Tr.test ((!leF x3 x4:Bool))
    (Tr.test (decide ((0:Int) ≤ x4) && decide (x4 < (↑(List.length x2):Int)))
      (Tr.test ((!eqF (List.getD x2 (Int.toNat x4) ((0:Int),(0:Int),(0:Int),())).1 (0:Int):Bool))
        (Tr.fin (.again ((x2,(x3,((wrap64 (x4 + (1:Int)):Int),()))),((),((b1_0,(b1_1,(b1_2,()))),((b3_0,(b3_1,(b3_2,()))),((b4_0,()),())))))))
        (Tr.test ((!leF (↑(List.length b1_2):Int) (wrap64 (x4 + (1:Int))):Bool))
          (Tr.test ((decide ((0:Int) ≤ wrap64 (x4 + (1:Int))) && decide (wrap64 (x4 + (1:Int)) < (↑(List.length b1_2):Int)):Bool))
            (Tr.test (Option.isSome (f87 (((b3_0,(b3_1,())),(b3_2,())),((((List.getD x2 (Int.toNat x4) ((0:Int),(0:Int),(0:Int),())).2.2.1:Int),(((List.getD b1_2 (Int.toNat (wrap64 (x4 + (1:Int)))) ((0:Int),(0:Int),(0:Int),())).2.2.1:Int),((true:Bool),()))),()))))
              (let r0:=g87 (((b3_0,(b3_1,())),(b3_2,())),((((List.getD x2 (Int.toNat x4) ((0:Int),(0:Int),(0:Int),())).2.2.1:Int),(((List.getD b1_2 (Int.toNat (wrap64 (x4 + (1:Int)))) ((0:Int),(0:Int),(0:Int),())).2.2.1:Int),((true:Bool),()))),()));
              Tr.test (r0.1)
                (Tr.test ((Nat.ble (((2:Nat) * (List.length b4_0 + (1:Nat)) + (192:Nat)) * (8:Nat)) (281474976710656:Nat) && Nat.ble (List.length b4_0 + (1:Nat)) (281474976710656:Nat):Bool))
                  (Tr.fin (.again ((x2,(x3,((wrap64 (x4 + (1:Int)):Int),()))),((),((b1_0,(b1_1,(b1_2,()))),((b3_0,(b3_1,(b3_2,()))),(((b4_0++[(List.getD x2 (Int.toNat x4) ((0:Int),(0:Int),(0:Int),())).2.1]:List Int),()),())))))))
                  (Tr.stop))
                (Tr.fin (.again ((x2,(x3,((wrap64 (x4 + (1:Int)):Int),()))),((),((b1_0,(b1_1,(b1_2,()))),((b3_0,(b3_1,(b3_2,()))),((b4_0,()),()))))))))
              (Tr.stop))
            (Tr.stop))
          (Tr.test (Option.isSome (f87 (((b3_0,(b3_1,())),(b3_2,())),((((List.getD x2 (Int.toNat x4) ((0:Int),(0:Int),(0:Int),())).2.2.1:Int),(b1_1,((false:Bool),()))),()))))
            (let r1:=g87 (((b3_0,(b3_1,())),(b3_2,())),((((List.getD x2 (Int.toNat x4) ((0:Int),(0:Int),(0:Int),())).2.2.1:Int),(b1_1,((false:Bool),()))),()));
            Tr.test (r1.1)
              (Tr.test ((Nat.ble (((2:Nat) * (List.length b4_0 + (1:Nat)) + (192:Nat)) * (8:Nat)) (281474976710656:Nat) && Nat.ble (List.length b4_0 + (1:Nat)) (281474976710656:Nat):Bool))
                (Tr.fin (.again ((x2,(x3,((wrap64 (x4 + (1:Int)):Int),()))),((),((b1_0,(b1_1,(b1_2,()))),((b3_0,(b3_1,(b3_2,()))),(((b4_0++[(List.getD x2 (Int.toNat x4) ((0:Int),(0:Int),(0:Int),())).2.1]:List Int),()),())))))))
                (Tr.stop))
              (Tr.fin (.again ((x2,(x3,((wrap64 (x4 + (1:Int)):Int),()))),((),((b1_0,(b1_1,(b1_2,()))),((b3_0,(b3_1,(b3_2,()))),((b4_0,()),()))))))))
            (Tr.stop))))
      (Tr.stop))
    (Tr.fin (.brk ((),((),((b1_0,(b1_1,(b1_2,()))),((b3_0,(b3_1,(b3_2,()))),((b4_0,()),())))))))

def s104_0 (d:dt104_0):Option (Out dt104_0 db104_0 dr104_0):=(t104_0 d.1.1 d.1.2.1 d.1.2.2.1 d.2.2.1.1 d.2.2.1.2.1 d.2.2.1.2.2.1 d.2.2.2.1.1 d.2.2.2.1.2.1 d.2.2.2.1.2.2.1 d.2.2.2.2.1.1).val
def l104_0 (d:dt104_0):Option (db104_0 ⊕ dr104_0):=itr s104_0 rounds d
def b104_0 (d:dt104_0):db104_0:=outB (((),((),(((0:Int),((0:Int),(([]:List (Int×Int×Int×PUnit)),()))),(((0:Int),((0:Int),(([]:List (Int×Int×Int×PUnit)),()))),((([]:List Int),()),())))))) (l104_0 d)
def lc104_0 (P:Go.Program):LoopC:=lcB (sh104_0 P) (shb104_0 P) (shr104_0 P) l104_0 b104_0

theorem e104_0_0 (x2:(List (Int×(Int×(Int×Unit))))) (x3:Int) (x4:Int) (b1_0:Int) (b1_1:Int) (b1_2:(List (Int×(Int×(Int×Unit))))) (b3_0:Int) (b3_1:Int) (b3_2:(List (Int×(Int×(Int×Unit))))) (b4_0:(List Int)):runBody (kf87 Go.Proofs.Try.prog).orc Go.Proofs.Try.prog 400 104 0 (sh104_0 Go.Proofs.Try.prog) (shb104_0 Go.Proofs.Try.prog) (shr104_0 Go.Proofs.Try.prog) ((x2,x3,x4,()),(),(b1_0,b1_1,b1_2,()),(b3_0,b3_1,b3_2,()),(b4_0,()),()) [tt,tt,tt] =
    (some (.again ((x2,(x3,((wrap64 (x4 + (1:Int)):Int),()))),((),((b1_0,(b1_1,(b1_2,()))),((b3_0,(b3_1,(b3_2,()))),((b4_0,()),()))))),[(sameRf Go.Proofs.Try.prog (nat_lit 42) (nat_lit 0),true),(!eqF (List.getD x2 (Int.toNat x4) ((0:Int),(0:Int),(0:Int),())).1 (0:Int),true),(decide ((0:Int) ≤ x4) && decide (x4 < (↑(List.length x2):Int)),true),(!leF x3 x4,true)])):=by kernel_rfl
theorem e104_0_1 (x2:(List (Int×(Int×(Int×Unit))))) (x3:Int) (x4:Int) (b1_0:Int) (b1_1:Int) (b1_2:(List (Int×(Int×(Int×Unit))))) (b3_0:Int) (b3_1:Int) (b3_2:(List (Int×(Int×(Int×Unit))))) (b4_0:(List Int)):runBody (kf87 Go.Proofs.Try.prog).orc Go.Proofs.Try.prog 400 104 0 (sh104_0 Go.Proofs.Try.prog) (shb104_0 Go.Proofs.Try.prog) (shr104_0 Go.Proofs.Try.prog) ((x2,x3,x4,()),(),(b1_0,b1_1,b1_2,()),(b3_0,b3_1,b3_2,()),(b4_0,()),()) [tt,tt,ff,tt,tt,tt,tt,ff,tt,ff] =
    (let r0:=g87 (((b3_0,(b3_1,())),(b3_2,())),((((List.getD x2 (Int.toNat x4) ((0:Int),(0:Int),(0:Int),())).2.2.1:Int),(((List.getD b1_2 (Int.toNat (wrap64 (x4 + (1:Int)))) ((0:Int),(0:Int),(0:Int),())).2.2.1:Int),(true,()))),())); some (.again ((x2,(x3,((wrap64 (x4 + (1:Int)):Int),()))),((),((b1_0,(b1_1,(b1_2,()))),((b3_0,(b3_1,(b3_2,()))),(((b4_0++[(List.getD x2 (Int.toNat x4) ((0:Int),(0:Int),(0:Int),())).2.1]:List Int),()),()))))),[(sameRf Go.Proofs.Try.prog (nat_lit 42) (nat_lit 0),true),(false,false),(Nat.ble (((2:Nat) * (List.length b4_0 + (1:Nat)) + (192:Nat)) * (8:Nat)) (281474976710656:Nat) && Nat.ble (List.length b4_0 + (1:Nat)) (281474976710656:Nat),true),(false,false),(r0.1,true),(Option.isSome (f87 (((b3_0,(b3_1,())),(b3_2,())),((((List.getD x2 (Int.toNat x4) ((0:Int),(0:Int),(0:Int),())).2.2.1:Int),(((List.getD b1_2 (Int.toNat (wrap64 (x4 + (1:Int)))) ((0:Int),(0:Int),(0:Int),())).2.2.1:Int),(true,()))),()))),true),(decide ((0:Int) ≤ wrap64 (x4 + (1:Int))) && decide (wrap64 (x4 + (1:Int)) < (↑(List.length b1_2):Int)),true),(!leF (↑(List.length b1_2):Int) (wrap64 (x4 + (1:Int))),true),(!eqF (List.getD x2 (Int.toNat x4) ((0:Int),(0:Int),(0:Int),())).1 (0:Int),false),(decide ((0:Int) ≤ x4) && decide (x4 < (↑(List.length x2):Int)),true),(!leF x3 x4,true)])):=by kernel_rfl
theorem e104_0_3 (x2:(List (Int×(Int×(Int×Unit))))) (x3:Int) (x4:Int) (b1_0:Int) (b1_1:Int) (b1_2:(List (Int×(Int×(Int×Unit))))) (b3_0:Int) (b3_1:Int) (b3_2:(List (Int×(Int×(Int×Unit))))) (b4_0:(List Int)):runBody (kf87 Go.Proofs.Try.prog).orc Go.Proofs.Try.prog 400 104 0 (sh104_0 Go.Proofs.Try.prog) (shb104_0 Go.Proofs.Try.prog) (shr104_0 Go.Proofs.Try.prog) ((x2,x3,x4,()),(),(b1_0,b1_1,b1_2,()),(b3_0,b3_1,b3_2,()),(b4_0,()),()) [tt,tt,ff,tt,tt,tt,ff,ff] =
    (let r0:=g87 (((b3_0,(b3_1,())),(b3_2,())),((((List.getD x2 (Int.toNat x4) ((0:Int),(0:Int),(0:Int),())).2.2.1:Int),(((List.getD b1_2 (Int.toNat (wrap64 (x4 + (1:Int)))) ((0:Int),(0:Int),(0:Int),())).2.2.1:Int),(true,()))),())); some (.again ((x2,(x3,((wrap64 (x4 + (1:Int)):Int),()))),((),((b1_0,(b1_1,(b1_2,()))),((b3_0,(b3_1,(b3_2,()))),((b4_0,()),()))))),[(sameRf Go.Proofs.Try.prog (nat_lit 42) (nat_lit 0),true),(false,false),(r0.1,false),(Option.isSome (f87 (((b3_0,(b3_1,())),(b3_2,())),((((List.getD x2 (Int.toNat x4) ((0:Int),(0:Int),(0:Int),())).2.2.1:Int),(((List.getD b1_2 (Int.toNat (wrap64 (x4 + (1:Int)))) ((0:Int),(0:Int),(0:Int),())).2.2.1:Int),(true,()))),()))),true),(decide ((0:Int) ≤ wrap64 (x4 + (1:Int))) && decide (wrap64 (x4 + (1:Int)) < (↑(List.length b1_2):Int)),true),(!leF (↑(List.length b1_2):Int) (wrap64 (x4 + (1:Int))),true),(!eqF (List.getD x2 (Int.toNat x4) ((0:Int),(0:Int),(0:Int),())).1 (0:Int),false),(decide ((0:Int) ≤ x4) && decide (x4 < (↑(List.length x2):Int)),true),(!leF x3 x4,true)])):=by kernel_rfl
theorem e104_0_5 (x2:(List (Int×(Int×(Int×Unit))))) (x3:Int) (x4:Int) (b1_0:Int) (b1_1:Int) (b1_2:(List (Int×(Int×(Int×Unit))))) (b3_0:Int) (b3_1:Int) (b3_2:(List (Int×(Int×(Int×Unit))))) (b4_0:(List Int)):runBody (kf87 Go.Proofs.Try.prog).orc Go.Proofs.Try.prog 400 104 0 (sh104_0 Go.Proofs.Try.prog) (shb104_0 Go.Proofs.Try.prog) (shr104_0 Go.Proofs.Try.prog) ((x2,x3,x4,()),(),(b1_0,b1_1,b1_2,()),(b3_0,b3_1,b3_2,()),(b4_0,()),()) [tt,tt,ff,ff,tt,tt,ff,tt,ff] =
    (let r1:=g87 (((b3_0,(b3_1,())),(b3_2,())),((((List.getD x2 (Int.toNat x4) ((0:Int),(0:Int),(0:Int),())).2.2.1:Int),(b1_1,(false,()))),())); some (.again ((x2,(x3,((wrap64 (x4 + (1:Int)):Int),()))),((),((b1_0,(b1_1,(b1_2,()))),((b3_0,(b3_1,(b3_2,()))),(((b4_0++[(List.getD x2 (Int.toNat x4) ((0:Int),(0:Int),(0:Int),())).2.1]:List Int),()),()))))),[(sameRf Go.Proofs.Try.prog (nat_lit 42) (nat_lit 0),true),(false,false),(Nat.ble (((2:Nat) * (List.length b4_0 + (1:Nat)) + (192:Nat)) * (8:Nat)) (281474976710656:Nat) && Nat.ble (List.length b4_0 + (1:Nat)) (281474976710656:Nat),true),(false,false),(r1.1,true),(Option.isSome (f87 (((b3_0,(b3_1,())),(b3_2,())),((((List.getD x2 (Int.toNat x4) ((0:Int),(0:Int),(0:Int),())).2.2.1:Int),(b1_1,(false,()))),()))),true),(!leF (↑(List.length b1_2):Int) (wrap64 (x4 + (1:Int))),false),(!eqF (List.getD x2 (Int.toNat x4) ((0:Int),(0:Int),(0:Int),())).1 (0:Int),false),(decide ((0:Int) ≤ x4) && decide (x4 < (↑(List.length x2):Int)),true),(!leF x3 x4,true)])):=by kernel_rfl
theorem e104_0_7 (x2:(List (Int×(Int×(Int×Unit))))) (x3:Int) (x4:Int) (b1_0:Int) (b1_1:Int) (b1_2:(List (Int×(Int×(Int×Unit))))) (b3_0:Int) (b3_1:Int) (b3_2:(List (Int×(Int×(Int×Unit))))) (b4_0:(List Int)):runBody (kf87 Go.Proofs.Try.prog).orc Go.Proofs.Try.prog 400 104 0 (sh104_0 Go.Proofs.Try.prog) (shb104_0 Go.Proofs.Try.prog) (shr104_0 Go.Proofs.Try.prog) ((x2,x3,x4,()),(),(b1_0,b1_1,b1_2,()),(b3_0,b3_1,b3_2,()),(b4_0,()),()) [tt,tt,ff,ff,tt,ff,ff] =
    (let r1:=g87 (((b3_0,(b3_1,())),(b3_2,())),((((List.getD x2 (Int.toNat x4) ((0:Int),(0:Int),(0:Int),())).2.2.1:Int),(b1_1,(false,()))),())); some (.again ((x2,(x3,((wrap64 (x4 + (1:Int)):Int),()))),((),((b1_0,(b1_1,(b1_2,()))),((b3_0,(b3_1,(b3_2,()))),((b4_0,()),()))))),[(sameRf Go.Proofs.Try.prog (nat_lit 42) (nat_lit 0),true),(false,false),(r1.1,false),(Option.isSome (f87 (((b3_0,(b3_1,())),(b3_2,())),((((List.getD x2 (Int.toNat x4) ((0:Int),(0:Int),(0:Int),())).2.2.1:Int),(b1_1,(false,()))),()))),true),(!leF (↑(List.length b1_2):Int) (wrap64 (x4 + (1:Int))),false),(!eqF (List.getD x2 (Int.toNat x4) ((0:Int),(0:Int),(0:Int),())).1 (0:Int),false),(decide ((0:Int) ≤ x4) && decide (x4 < (↑(List.length x2):Int)),true),(!leF x3 x4,true)])):=by kernel_rfl
theorem e104_0_9 (x2:(List (Int×(Int×(Int×Unit))))) (x3:Int) (x4:Int) (b1_0:Int) (b1_1:Int) (b1_2:(List (Int×(Int×(Int×Unit))))) (b3_0:Int) (b3_1:Int) (b3_2:(List (Int×(Int×(Int×Unit))))) (b4_0:(List Int)):runBody (kf87 Go.Proofs.Try.prog).orc Go.Proofs.Try.prog 400 104 0 (sh104_0 Go.Proofs.Try.prog) (shb104_0 Go.Proofs.Try.prog) (shr104_0 Go.Proofs.Try.prog) ((x2,x3,x4,()),(),(b1_0,b1_1,b1_2,()),(b3_0,b3_1,b3_2,()),(b4_0,()),()) [ff] =
    (some (.brk ((),((),((b1_0,(b1_1,(b1_2,()))),((b3_0,(b3_1,(b3_2,()))),((b4_0,()),()))))),[(sameRf Go.Proofs.Try.prog (nat_lit 42) (nat_lit 0),true),(!leF x3 x4,false)])):=by kernel_rfl

theorem ok104_0_t (x2:(List (Int×(Int×(Int×Unit))))) (x3:Int) (x4:Int) (b1_0:Int) (b1_1:Int) (b1_2:(List (Int×(Int×(Int×Unit))))) (b3_0:Int) (b3_1:Int) (b3_2:(List (Int×(Int×(Int×Unit))))) (b4_0:(List Int)):TrOk (BodyRuns Go.Proofs.Try.prog (kf87 Go.Proofs.Try.prog).orc 104 0 (sh104_0 Go.Proofs.Try.prog) (shb104_0 Go.Proofs.Try.prog) (shr104_0 Go.Proofs.Try.prog) ((x2,x3,x4,()),(),(b1_0,b1_1,b1_2,()),(b3_0,b3_1,b3_2,()),(b4_0,()),())) (t104_0 x2 x3 x4 b1_0 b1_1 b1_2 b3_0 b3_1 b3_2 b4_0) :=
  TrOk.ofTest (fun h0=>TrOk.ofTest (fun h1=>TrOk.ofTest (fun h2=>TrOk.ofFin (BodyRuns.of (e104_0_0 x2 x3 x4 b1_0 b1_1 b1_2 b3_0 b3_1 b3_2 b4_0) (ac (sc42_0) (ac h2 (ac h1 (ac h0 All.nil)))))) (fun h2=>TrOk.ofTest (fun h3=>TrOk.ofTest (fun h4=>TrOk.ofTest (fun h5=>TrOk.ofTest (fun h6=>TrOk.ofTest (fun h8=>TrOk.ofFin (BodyRuns.of (e104_0_1 x2 x3 x4 b1_0 b1_1 b1_2 b3_0 b3_1 b3_2 b4_0) (ac (sc42_0) (ac rfl (ac h8 (ac rfl (ac h6 (ac h5 (ac h4 (ac h3 (ac h2 (ac h1 (ac h0 All.nil))))))))))))) (fun h8=>TrOk.ofStop)) (fun h6=>TrOk.ofFin (BodyRuns.of (e104_0_3 x2 x3 x4 b1_0 b1_1 b1_2 b3_0 b3_1 b3_2 b4_0) (ac (sc42_0) (ac rfl (ac h6 (ac h5 (ac h4 (ac h3 (ac h2 (ac h1 (ac h0 All.nil)))))))))))) (fun h5=>TrOk.ofStop)) (fun h4=>TrOk.ofStop)) (fun h3=>TrOk.ofTest (fun h4=>TrOk.ofTest (fun h5=>TrOk.ofTest (fun h7=>TrOk.ofFin (BodyRuns.of (e104_0_5 x2 x3 x4 b1_0 b1_1 b1_2 b3_0 b3_1 b3_2 b4_0) (ac (sc42_0) (ac rfl (ac h7 (ac rfl (ac h5 (ac h4 (ac h3 (ac h2 (ac h1 (ac h0 All.nil)))))))))))) (fun h7=>TrOk.ofStop)) (fun h5=>TrOk.ofFin (BodyRuns.of (e104_0_7 x2 x3 x4 b1_0 b1_1 b1_2 b3_0 b3_1 b3_2 b4_0) (ac (sc42_0) (ac rfl (ac h5 (ac h4 (ac h3 (ac h2 (ac h1 (ac h0 All.nil))))))))))) (fun h4=>TrOk.ofStop)))) (fun h1=>TrOk.ofStop)) (fun h0=>TrOk.ofFin (BodyRuns.of (e104_0_9 x2 x3 x4 b1_0 b1_1 b1_2 b3_0 b3_1 b3_2 b4_0) (ac (sc42_0) (ac h0 All.nil))))

theorem ok104_0:LoopOk Go.Proofs.Try.prog 104 0 (lc104_0 Go.Proofs.Try.prog):=loopOk_ofB (sh:=(sh104_0 Go.Proofs.Try.prog)) (shB:=(shb104_0 Go.Proofs.Try.prog)) (shR:=(shr104_0 Go.Proofs.Try.prog)) kf87_ok.base (T:=fun (d:dt104_0)=>t104_0 d.1.1 d.1.2.1 d.1.2.2.1 d.2.2.1.1 d.2.2.1.2.1 d.2.2.1.2.2.1 d.2.2.2.1.1 d.2.2.2.1.2.1 d.2.2.2.1.2.2.1 d.2.2.2.2.1.1) (by kernel_rfl) rfl (fun (d:dt104_0)=>ok104_0_t d.1.1 d.1.2.1 d.1.2.2.1 d.2.2.1.1 d.2.2.1.2.1 d.2.2.1.2.2.1 d.2.2.2.1.1 d.2.2.2.1.2.1 d.2.2.2.1.2.2.1 d.2.2.2.2.1.1) (fun _=>rfl)
def kl104_0 (P:Go.Program):Known:=(kf87 P).loop 104 0 (lc104_0 P)
theorem kl104_0_ok:KnownOk Go.Proofs.Try.prog (kl104_0 Go.Proofs.Try.prog):=kf87_ok.loop ok104_0

/-! ductility/hybrid.LateIn -/

abbrev as42:List Ty:=[(.slice (.pair (.int .i64) (.pair (.int .i64) (.pair (.int .i64) .unit)))),(.pair (.int .i64) (.pair (.int .i64) .unit))]
abbrev rs42:List Ty:=[(.slice (.int .i64)),(.int .i64)]

def t42 (x0:(List (Int×(Int×(Int×Unit))))) (x1:Int) (x1':Int):Tr (Tys.data rs42) :=
  Tr.test (Option.isSome (f85 (x0,((x1,(x1',())),()))))
    (let r0:=g85 (x0,((x1,(x1',())),()));
    Tr.test ((!eqF r0.2.1 0:Bool))
      (Tr.fin ((([]:List Int),(r0.2.1,()))))
      (Tr.test (isBrk (l104_0 ((r0.1.2.1,((↑(List.length r0.1.2.1):Int),((0:Int),()))),((),((r0.1.1.1,(r0.1.1.2.1,(r0.1.2.1,()))),((r0.1.1.1,(r0.1.1.2.1,(r0.1.2.1,()))),((([]:List Int),()),())))))))
        (let r1:=b104_0 ((r0.1.2.1,((↑(List.length r0.1.2.1):Int),((0:Int),()))),((),((r0.1.1.1,(r0.1.1.2.1,(r0.1.2.1,()))),((r0.1.1.1,(r0.1.1.2.1,(r0.1.2.1,()))),((([]:List Int),()),())))));
        Tr.fin ((r1.2.2.2.2.1.1,((0:Int),()))))
        (Tr.stop)))
    (Tr.stop)

def f42 (d:Tys.data as42):Option (Tys.data rs42):=(t42 d.1 d.2.1.1 d.2.1.2.1).val
def g42 (d:Tys.data as42):Tys.data rs42:=(f42 d).getD (Tys.dflt rs42)
def p42:PureC:=pcOf as42 rs42 f42 g42

theorem e42_0 (x0:(List (Int×(Int×(Int×Unit))))) (x1:Int) (x1':Int):runPure (kl104_0 Go.Proofs.Try.prog).orc Go.Proofs.Try.prog 400 42 as42 rs42 (x0,(x1,x1',()),()) [tt,tt] =
    (let r0:=g85 (x0,((x1,(x1',())),())); some ((([]:List Int),(r0.2.1,())),[(!eqF r0.2.1 0,true),(Option.isSome (f85 (x0,((x1,(x1',())),()))),true)])):=by kernel_rfl
theorem e42_1 (x0:(List (Int×(Int×(Int×Unit))))) (x1:Int) (x1':Int):runPure (kl104_0 Go.Proofs.Try.prog).orc Go.Proofs.Try.prog 400 42 as42 rs42 (x0,(x1,x1',()),()) [tt,ff,tt,tt,tt] =
    (let r0:=g85 (x0,((x1,(x1',())),()));let r1:=b104_0 ((r0.1.2.1,((↑(List.length r0.1.2.1):Int),((0:Int),()))),((),((r0.1.1.1,(r0.1.1.2.1,(r0.1.2.1,()))),((r0.1.1.1,(r0.1.1.2.1,(r0.1.2.1,()))),((([]:List Int),()),()))))); some ((r1.2.2.2.2.1.1,((0:Int),())),[(true,true),(isBrk (l104_0 ((r0.1.2.1,((↑(List.length r0.1.2.1):Int),((0:Int),()))),((),((r0.1.1.1,(r0.1.1.2.1,(r0.1.2.1,()))),((r0.1.1.1,(r0.1.1.2.1,(r0.1.2.1,()))),((([]:List Int),()),())))))),true),(sameRf Go.Proofs.Try.prog (nat_lit 42) (nat_lit 0),true),(!eqF r0.2.1 0,false),(Option.isSome (f85 (x0,((x1,(x1',())),()))),true)])):=by kernel_rfl

theorem ok42_t (x0:(List (Int×(Int×(Int×Unit))))) (x1:Int) (x1':Int):TrOk (PureRuns Go.Proofs.Try.prog (kl104_0 Go.Proofs.Try.prog).orc 42 as42 rs42 (x0,(x1,x1',()),())) (t42 x0 x1 x1') :=
  TrOk.ofTest (fun h0=>TrOk.ofTest (fun h1=>TrOk.ofFin (PureRuns.of (e42_0 x0 x1 x1') (ac h1 (ac h0 All.nil)))) (fun h1=>TrOk.ofTest (fun h3=>TrOk.ofFin (PureRuns.of (e42_1 x0 x1 x1') (ac rfl (ac h3 (ac (sc42_0) (ac h1 (ac h0 All.nil))))))) (fun h3=>TrOk.ofStop))) (fun h0=>TrOk.ofStop)

theorem ok42:PureOk Go.Proofs.Try.prog 42 p42:=pureOk_of kl104_0_ok.base (T:=fun (d:Tys.data as42)=>t42 d.1 d.2.1.1 d.2.1.2.1) (by kernel_rfl) (fun (d:Tys.data as42)=>ok42_t d.1 d.2.1.1 d.2.1.2.1)
def kf42 (P:Go.Program):Known:=(kl104_0 P).func 42 p42
theorem kf42_ok:KnownOk Go.Proofs.Try.prog (kf42 Go.Proofs.Try.prog):=kl104_0_ok.func ok42

/-! ductility/ductilitylaw08.Chain -/

abbrev as55:List Ty:=[]
abbrev rs55:List Ty:=[(.pair (.slice (.int .i64)) (.pair (.slice (.int .i64)) .unit))]

def t55 :Tr (Tys.data rs55) :=
  Tr.fin (((([(2:Int),(4:Int)]:List Int),(([(6:Int),(4:Int)]:List Int),())),()))

def f55 (d:Tys.data as55):Option (Tys.data rs55):=(t55 ).val
def g55 (d:Tys.data as55):Tys.data rs55:=(f55 d).getD (Tys.dflt rs55)
def p55:PureC:=pcOf as55 rs55 f55 g55

theorem wk55 :Walks (runPure (kf42 Go.Proofs.Try.prog).orc Go.Proofs.Try.prog 400 55 as55 rs55 ()) (t55 ) [([],[])] :=
  ⟨by kernel_rfl,trivial⟩

theorem ok55_t :TrOk (PureRuns Go.Proofs.Try.prog (kf42 Go.Proofs.Try.prog).orc 55 as55 rs55 ()) (t55 ) :=
  Walks.ok (fun _ _ _=>PureRuns.of) (wk55 ) (by kernel_rfl)

theorem ok55:PureOk Go.Proofs.Try.prog 55 p55:=pureOk_of kf42_ok.base (T:=fun (d:Tys.data as55)=>t55 ) (by kernel_rfl) (fun (d:Tys.data as55)=>ok55_t )
def kf55 (P:Go.Program):Known:=(kf42 P).func 55 p55
theorem kf55_ok:KnownOk Go.Proofs.Try.prog (kf55 Go.Proofs.Try.prog):=kf42_ok.func ok55

/-! loop 0 of ductility/ductilitybase.Ints -/

abbrev sh24_0:Sh:={ n:=26,slots:=[0,1,5],pats:=[.ty (.slice (.int .i64)),.ty (.slice (.int .i64)),.ty (.int .i64)],boxes:=[] }
abbrev shb24_0:Sh:={ n:=26,slots:=[],pats:=[],boxes:=[] }
abbrev shr24_0:Sh:={ n:=26,slots:=[4],pats:=[.ty .bool],boxes:=[] }

def t24_0 (x0:(List Int)) (x1:(List Int)) (x2:Int):Tr (Out sh24_0.data shb24_0.data shr24_0.data) :=
  Tr.test ((!leF (↑(List.length x0):Int) x2:Bool))
    (Tr.test (decide ((0:Int) ≤ x2) && decide (x2 < (↑(List.length x0):Int)))
      (Tr.test ((decide ((0:Int) ≤ x2) && decide (x2 < (↑(List.length x1):Int)):Bool))
        (Tr.test ((!eqF (List.getD x0 (Int.toNat x2) (0:Int)) (List.getD x1 (Int.toNat x2) (0:Int)):Bool))
          (Tr.fin (.ret (((false:Bool),()),())))
          (Tr.fin (.again ((x0,(x1,((wrap64 (x2 + (1:Int)):Int),()))),()))))
        (Tr.stop))
      (Tr.stop))
    (Tr.fin (.brk ((),())))

def s24_0 (d:sh24_0.data):Option (Out sh24_0.data shb24_0.data shr24_0.data):=(t24_0 d.1.1 d.1.2.1 d.1.2.2.1).val
def l24_0 (d:sh24_0.data):Option (shb24_0.data ⊕ shr24_0.data):=itr s24_0 rounds d
def b24_0 (d:sh24_0.data):shb24_0.data:=outB shb24_0.dflt (l24_0 d)
def r24_0 (d:sh24_0.data):shr24_0.data:=outR shr24_0.dflt (l24_0 d)
def lc24_0:LoopC:=lcOf sh24_0 shb24_0 shr24_0 l24_0 b24_0 r24_0

theorem wk24_0 (x0:(List Int)) (x1:(List Int)) (x2:Int):Walks (runBody (kf55 Go.Proofs.Try.prog).orc Go.Proofs.Try.prog 400 24 0 sh24_0 shb24_0 shr24_0 ((x0,x1,x2,()),())) (t24_0 x0 x1 x2) [([true,true,true,true],[2,4,6,8]),([true,true,true,false],[2,4,6,8]),([ff],[2])] :=
  ⟨by kernel_rfl,by kernel_rfl,by kernel_rfl,trivial⟩

theorem ok24_0_t (x0:(List Int)) (x1:(List Int)) (x2:Int):TrOk (BodyRuns Go.Proofs.Try.prog (kf55 Go.Proofs.Try.prog).orc 24 0 sh24_0 shb24_0 shr24_0 ((x0,x1,x2,()),())) (t24_0 x0 x1 x2) :=
  Walks.ok (fun _ _ _=>BodyRuns.of) (wk24_0 x0 x1 x2) (by kernel_rfl)

theorem ok24_0:LoopOk Go.Proofs.Try.prog 24 0 lc24_0:=loopOk_of (sh:=sh24_0) (shB:=shb24_0) (shR:=shr24_0) kf55_ok.base (T:=fun (d:sh24_0.data)=>t24_0 d.1.1 d.1.2.1 d.1.2.2.1) (by kernel_rfl) rfl (fun (d:sh24_0.data)=>ok24_0_t d.1.1 d.1.2.1 d.1.2.2.1) (fun _=>rfl)
def kl24_0 (P:Go.Program):Known:=(kf55 P).loop 24 0 lc24_0
theorem kl24_0_ok:KnownOk Go.Proofs.Try.prog (kl24_0 Go.Proofs.Try.prog):=kf55_ok.loop ok24_0

/-! ductility/ductilitybase.Ints -/

abbrev as24:List Ty:=[(.slice (.int .i64)),(.slice (.int .i64))]
abbrev rs24:List Ty:=[.bool]

def t24 (x0:(List Int)) (x1:(List Int)):Tr (Tys.data rs24) :=
  Tr.test ((!eqF (↑(List.length x0):Int) (↑(List.length x1):Int):Bool))
    (Tr.fin ((false,())))
    (Tr.test (Option.isSome (l24_0 ((x0,(x1,((0:Int),()))),())))
      (Tr.test (isRet (l24_0 ((x0,(x1,((0:Int),()))),())))
        (let r0:=r24_0 ((x0,(x1,((0:Int),()))),());
        Tr.fin ((r0.1.1,())))
        (Tr.fin (((true:Bool),()))))
      (Tr.stop))

def f24 (d:Tys.data as24):Option (Tys.data rs24):=(t24 d.1 d.2.1).val
def g24 (d:Tys.data as24):Tys.data rs24:=(f24 d).getD (Tys.dflt rs24)
def p24:PureC:=pcOf as24 rs24 f24 g24

theorem wk24 (x0:(List Int)) (x1:(List Int)):Walks (runPure (kl24_0 Go.Proofs.Try.prog).orc Go.Proofs.Try.prog 400 24 as24 rs24 (x0,x1,())) (t24 x0 x1) [([tt],[2]),([false,true,true],[2,4,6]),([false,true,false],[2,4,6])] :=
  ⟨by kernel_rfl,by kernel_rfl,by kernel_rfl,trivial⟩

theorem ok24_t (x0:(List Int)) (x1:(List Int)):TrOk (PureRuns Go.Proofs.Try.prog (kl24_0 Go.Proofs.Try.prog).orc 24 as24 rs24 (x0,x1,())) (t24 x0 x1) :=
  Walks.ok (fun _ _ _=>PureRuns.of) (wk24 x0 x1) (by kernel_rfl)

theorem ok24:PureOk Go.Proofs.Try.prog 24 p24:=pureOk_of kl24_0_ok.base (T:=fun (d:Tys.data as24)=>t24 d.1 d.2.1) (by kernel_rfl) (fun (d:Tys.data as24)=>ok24_t d.1 d.2.1)
def kf24 (P:Go.Program):Known:=(kl24_0 P).func 24 p24
theorem kf24_ok:KnownOk Go.Proofs.Try.prog (kf24 Go.Proofs.Try.prog):=kl24_0_ok.func ok24

/-! loop 0 of ductility/ductilitybase.Fracs -/

abbrev sh56_0:Sh:={ n:=26,slots:=[0,1,5],pats:=[.ty (.slice (.pair (.int .i64) (.pair (.int .i64) .unit))),.ty (.slice (.pair (.int .i64) (.pair (.int .i64) .unit))),.ty (.int .i64)],boxes:=[] }
abbrev shb56_0:Sh:={ n:=26,slots:=[],pats:=[],boxes:=[] }
abbrev shr56_0:Sh:={ n:=26,slots:=[4],pats:=[.ty .bool],boxes:=[] }

def t56_0 (x0:(List (Int×(Int×Unit)))) (x1:(List (Int×(Int×Unit)))) (x2:Int):Tr (Out sh56_0.data shb56_0.data shr56_0.data) :=
  Tr.test ((!leF (↑(List.length x0):Int) x2:Bool))
    (Tr.test (decide ((0:Int) ≤ x2) && decide (x2 < (↑(List.length x0):Int)))
      (Tr.test ((decide ((0:Int) ≤ x2) && decide (x2 < (↑(List.length x1):Int)):Bool))
        (Tr.test ((!((List.getD x0 (Int.toNat x2) ((0:Int),(0:Int),())).1 == (List.getD x1 (Int.toNat x2) ((0:Int),(0:Int),())).1 && ((List.getD x0 (Int.toNat x2) ((0:Int),(0:Int),())).2.1 == (List.getD x1 (Int.toNat x2) ((0:Int),(0:Int),())).2.1 && true)):Bool))
          (Tr.fin (.ret (((false:Bool),()),())))
          (Tr.fin (.again ((x0,(x1,((wrap64 (x2 + (1:Int)):Int),()))),()))))
        (Tr.stop))
      (Tr.stop))
    (Tr.fin (.brk ((),())))

def s56_0 (d:sh56_0.data):Option (Out sh56_0.data shb56_0.data shr56_0.data):=(t56_0 d.1.1 d.1.2.1 d.1.2.2.1).val
def l56_0 (d:sh56_0.data):Option (shb56_0.data ⊕ shr56_0.data):=itr s56_0 rounds d
def b56_0 (d:sh56_0.data):shb56_0.data:=outB shb56_0.dflt (l56_0 d)
def r56_0 (d:sh56_0.data):shr56_0.data:=outR shr56_0.dflt (l56_0 d)
def lc56_0:LoopC:=lcOf sh56_0 shb56_0 shr56_0 l56_0 b56_0 r56_0

theorem wk56_0 (x0:(List (Int×(Int×Unit)))) (x1:(List (Int×(Int×Unit)))) (x2:Int):Walks (runBody (kf24 Go.Proofs.Try.prog).orc Go.Proofs.Try.prog 400 56 0 sh56_0 shb56_0 shr56_0 ((x0,x1,x2,()),())) (t56_0 x0 x1 x2) [([true,true,true,true],[2,4,6,8]),([true,true,true,false],[2,4,6,8]),([ff],[2])] :=
  ⟨by kernel_rfl,by kernel_rfl,by kernel_rfl,trivial⟩

theorem ok56_0_t (x0:(List (Int×(Int×Unit)))) (x1:(List (Int×(Int×Unit)))) (x2:Int):TrOk (BodyRuns Go.Proofs.Try.prog (kf24 Go.Proofs.Try.prog).orc 56 0 sh56_0 shb56_0 shr56_0 ((x0,x1,x2,()),())) (t56_0 x0 x1 x2) :=
  Walks.ok (fun _ _ _=>BodyRuns.of) (wk56_0 x0 x1 x2) (by kernel_rfl)

theorem ok56_0:LoopOk Go.Proofs.Try.prog 56 0 lc56_0:=loopOk_of (sh:=sh56_0) (shB:=shb56_0) (shR:=shr56_0) kf24_ok.base (T:=fun (d:sh56_0.data)=>t56_0 d.1.1 d.1.2.1 d.1.2.2.1) (by kernel_rfl) rfl (fun (d:sh56_0.data)=>ok56_0_t d.1.1 d.1.2.1 d.1.2.2.1) (fun _=>rfl)
def kl56_0 (P:Go.Program):Known:=(kf24 P).loop 56 0 lc56_0
theorem kl56_0_ok:KnownOk Go.Proofs.Try.prog (kl56_0 Go.Proofs.Try.prog):=kf24_ok.loop ok56_0

/-! ductility/ductilitybase.Fracs -/

abbrev as56:List Ty:=[(.slice (.pair (.int .i64) (.pair (.int .i64) .unit))),(.slice (.pair (.int .i64) (.pair (.int .i64) .unit)))]
abbrev rs56:List Ty:=[.bool]

def t56 (x0:(List (Int×(Int×Unit)))) (x1:(List (Int×(Int×Unit)))):Tr (Tys.data rs56) :=
  Tr.test ((!eqF (↑(List.length x0):Int) (↑(List.length x1):Int):Bool))
    (Tr.fin ((false,())))
    (Tr.test (Option.isSome (l56_0 ((x0,(x1,((0:Int),()))),())))
      (Tr.test (isRet (l56_0 ((x0,(x1,((0:Int),()))),())))
        (let r0:=r56_0 ((x0,(x1,((0:Int),()))),());
        Tr.fin ((r0.1.1,())))
        (Tr.fin (((true:Bool),()))))
      (Tr.stop))

def f56 (d:Tys.data as56):Option (Tys.data rs56):=(t56 d.1 d.2.1).val
def g56 (d:Tys.data as56):Tys.data rs56:=(f56 d).getD (Tys.dflt rs56)
def p56:PureC:=pcOf as56 rs56 f56 g56

theorem wk56 (x0:(List (Int×(Int×Unit)))) (x1:(List (Int×(Int×Unit)))):Walks (runPure (kl56_0 Go.Proofs.Try.prog).orc Go.Proofs.Try.prog 400 56 as56 rs56 (x0,x1,())) (t56 x0 x1) [([tt],[2]),([false,true,true],[2,4,6]),([false,true,false],[2,4,6])] :=
  ⟨by kernel_rfl,by kernel_rfl,by kernel_rfl,trivial⟩

theorem ok56_t (x0:(List (Int×(Int×Unit)))) (x1:(List (Int×(Int×Unit)))):TrOk (PureRuns Go.Proofs.Try.prog (kl56_0 Go.Proofs.Try.prog).orc 56 as56 rs56 (x0,x1,())) (t56 x0 x1) :=
  Walks.ok (fun _ _ _=>PureRuns.of) (wk56 x0 x1) (by kernel_rfl)

theorem ok56:PureOk Go.Proofs.Try.prog 56 p56:=pureOk_of kl56_0_ok.base (T:=fun (d:Tys.data as56)=>t56 d.1 d.2.1) (by kernel_rfl) (fun (d:Tys.data as56)=>ok56_t d.1 d.2.1)
def kf56 (P:Go.Program):Known:=(kl56_0 P).func 56 p56
theorem kf56_ok:KnownOk Go.Proofs.Try.prog (kf56 Go.Proofs.Try.prog):=kl56_0_ok.func ok56

/-! ductility/ductilitylaw08.awake -/

abbrev as9:List Ty:=[]
abbrev rs9:List Ty:=[.bool]
def f9 (_:Tys.data as9):Option (Tys.data rs9):=some (true,())
def g9 (_:Tys.data as9):Tys.data rs9:=(true,())
def p9:PureC:=pcOf as9 rs9 f9 g9

theorem e9:runAsk (kf56 Go.Proofs.Try.prog).orc Go.Proofs.Try.prog 400 9 as9 rs9 () none = some ((true,()),[]):=by kernel_rfl
theorem ok9:PureOk Go.Proofs.Try.prog 9 p9:=pureOk_closed kf56_ok.base (by kernel_rfl) e9 All.nil
def kf9 (P:Go.Program):Known:=(kf56 P).func 9 p9
theorem kf9_ok:KnownOk Go.Proofs.Try.prog (kf9 Go.Proofs.Try.prog):=kf56_ok.func ok9

/-! ductility/ductilityref08.CopyMessages -/

abbrev as41:List Ty:=[(.slice (.pair (.int .i64) (.pair (.int .i64) (.pair (.int .i64) .unit))))]
abbrev rs41:List Ty:=[(.slice (.pair (.int .i64) (.pair (.int .i64) (.pair (.int .i64) .unit))))]

def t41 (x0:(List (Int×(Int×(Int×Unit))))):Tr (Tys.data rs41) :=
  Tr.test ((Nat.beq (List.length x0) (0:Nat):Bool))
    (Tr.fin ((([]:List (Int×Int×Int×PUnit)),())))
    (Tr.test (Nat.ble ((0:Nat) + List.length x0) (0:Nat))
      (Tr.stop)
      (Tr.test ((Nat.ble (((2:Nat) * ((0:Nat) + List.length x0) + (192:Nat)) * (24:Nat)) (281474976710656:Nat) && Nat.ble ((0:Nat) + List.length x0) (281474976710656:Nat):Bool))
        (Tr.test ((Nat.beq ((0:Nat) + List.length x0) (List.length ([]++x0)):Bool))
          (Tr.fin ((([]++x0:List (Int×Int×Int×PUnit)),())))
          (Tr.stop))
        (Tr.stop)))

def f41 (d:Tys.data as41):Option (Tys.data rs41):=(t41 d.1).val
def g41 (d:Tys.data as41):Tys.data rs41:=(f41 d).getD (Tys.dflt rs41)
def p41:PureC:=pcOf as41 rs41 f41 g41

theorem wk41 (x0:(List (Int×(Int×(Int×Unit))))):Walks (runPure (kf9 Go.Proofs.Try.prog).orc Go.Proofs.Try.prog 400 41 as41 rs41 (x0,())) (t41 x0) [([tt],[2]),([false,false,true,true],[2,4,6,8])] :=
  ⟨by kernel_rfl,by kernel_rfl,trivial⟩

theorem ok41_t (x0:(List (Int×(Int×(Int×Unit))))):TrOk (PureRuns Go.Proofs.Try.prog (kf9 Go.Proofs.Try.prog).orc 41 as41 rs41 (x0,())) (t41 x0) :=
  Walks.ok (fun _ _ _=>PureRuns.of) (wk41 x0) (by kernel_rfl)

theorem ok41:PureOk Go.Proofs.Try.prog 41 p41:=pureOk_of kf9_ok.base (T:=fun (d:Tys.data as41)=>t41 d.1) (by kernel_rfl) (fun (d:Tys.data as41)=>ok41_t d.1)
def kf41 (P:Go.Program):Known:=(kf9 P).func 41 p41
theorem kf41_ok:KnownOk Go.Proofs.Try.prog (kf41 Go.Proofs.Try.prog):=kf9_ok.func ok41

theorem sc43_0:sameRf Go.Proofs.Try.prog 43 0 = true:=sameRf_ok (by kernel_rfl)

/-! loop 0 of (ductility/hybrid.exchange).waits$1 -/

abbrev sh104_0_1 (P:Go.Program):Sh:={ n:=47,slots:=[0,1,8,9,10],pats:=[.yld 0,.ptr 1 3 0,.ty (.slice (.pair (.int .i64) (.pair (.int .i64) (.pair (.int .i64) .unit)))),.ty (.int .i64),.ty (.int .i64)],boxes:=[.lp (lpOf P 43 0 .ready none 32 [3,4,5,6] 2) [.ptr 3 2 0,.ptr 4 1 0,.ptr 5 1 0,.ptr 6 3 0],.row [.ty (.int .i64),.ty (.int .i64),.ty (.slice (.pair (.int .i64) (.pair (.int .i64) (.pair (.int .i64) .unit))))],.dfr,.row [.ty (.int .i64),.ty (.int .i64)],.row [.ty (.int .i64)],.row [.ty (.int .i64)],.row [.ty (.int .i64),.ty (.int .i64),.ty (.slice (.pair (.int .i64) (.pair (.int .i64) (.pair (.int .i64) .unit))))]] }
abbrev shb104_0_1 (P:Go.Program):Sh:={ n:=47,slots:=[],pats:=[],boxes:=[.lp (lpOf P 43 0 .ready none 32 [3,4,5,6] 2) [.ptr 3 2 0,.ptr 4 1 0,.ptr 5 1 0,.ptr 6 3 0],.row [.ty (.int .i64),.ty (.int .i64),.ty (.slice (.pair (.int .i64) (.pair (.int .i64) (.pair (.int .i64) .unit))))],.dfr,.row [.ty (.int .i64),.ty (.int .i64)],.row [.ty (.int .i64)],.row [.ty (.int .i64)],.row [.ty (.int .i64),.ty (.int .i64),.ty (.slice (.pair (.int .i64) (.pair (.int .i64) (.pair (.int .i64) .unit))))]] }
abbrev shr104_0_1 (P:Go.Program):Sh:={ n:=47,slots:=[],pats:=[],boxes:=[.lp (lpOf P 43 0 .done (some none) 32 [3,4,5,6] 2) [.ptr 3 2 0,.ptr 4 1 0,.ptr 5 1 0,.ptr 6 3 0],.row [.ty (.int .i64),.ty (.int .i64),.ty (.slice (.pair (.int .i64) (.pair (.int .i64) (.pair (.int .i64) .unit))))],.dfr,.row [.ty (.int .i64),.ty (.int .i64)],.row [.ty (.int .i64)],.row [.ty (.int .i64)],.row [.ty (.int .i64),.ty (.int .i64),.ty (.slice (.pair (.int .i64) (.pair (.int .i64) (.pair (.int .i64) .unit))))]] }

abbrev dt104_0_1:Type:=(List (Int×Int×Int×PUnit)×Int×Int×PUnit)×PUnit×(Int×Int×List (Int×Int×Int×PUnit)×PUnit)×(Int×Int×PUnit)×(Int×PUnit)×(Int×PUnit)×(Int×Int×List (Int×Int×Int×PUnit)×PUnit)×PUnit
abbrev db104_0_1:Type:=PUnit×PUnit×(Int×Int×List (Int×Int×Int×PUnit)×PUnit)×(Int×Int×PUnit)×(Int×PUnit)×(Int×PUnit)×(Int×Int×List (Int×Int×Int×PUnit)×PUnit)×PUnit
abbrev dr104_0_1:Type:=PUnit×PUnit×(Int×Int×List (Int×Int×Int×PUnit)×PUnit)×(Int×Int×PUnit)×(Int×PUnit)×(Int×PUnit)×(Int×Int×List (Int×Int×Int×PUnit)×PUnit)×PUnit

def t104_0_1 (x2:(List (Int×(Int×(Int×Unit))))) (x3:Int) (x4:Int) (b1_0:Int) (b1_1:Int) (b1_2:(List (Int×(Int×(Int×Unit))))) (b3_0:Int) (b3_1:Int) (b4_0:Int) (b5_0:Int) (b6_0:Int) (b6_1:Int) (b6_2:(List (Int×(Int×(Int×Unit))))):Tr (Out dt104_0_1 db104_0_1 dr104_0_1) :=
  Tr.test ((!leF x3 x4:Bool))
    (Tr.test (decide ((0:Int) ≤ x4) && decide (x4 < (↑(List.length x2):Int)))
      (Tr.test ((!eqF (List.getD x2 (Int.toNat x4) ((0:Int),(0:Int),(0:Int),())).1 (0:Int):Bool))
        (Tr.fin (.again ((x2,(x3,((wrap64 (x4 + (1:Int)):Int),()))),((),((b1_0,(b1_1,(b1_2,()))),((b3_0,(b3_1,())),((b4_0,()),((b5_0,()),((b6_0,(b6_1,(b6_2,()))),())))))))))
        (Tr.test ((!leF (↑(List.length b1_2):Int) (wrap64 (x4 + (1:Int))):Bool))
          (Tr.test ((decide ((0:Int) ≤ wrap64 (x4 + (1:Int))) && decide (wrap64 (x4 + (1:Int)) < (↑(List.length b1_2):Int)):Bool))
            (Tr.test (Option.isSome (f87 (((b6_0,(b6_1,())),(b6_2,())),((((List.getD x2 (Int.toNat x4) ((0:Int),(0:Int),(0:Int),())).2.2.1:Int),(((List.getD b1_2 (Int.toNat (wrap64 (x4 + (1:Int)))) ((0:Int),(0:Int),(0:Int),())).2.2.1:Int),((true:Bool),()))),()))))
              (let r0:=g87 (((b6_0,(b6_1,())),(b6_2,())),((((List.getD x2 (Int.toNat x4) ((0:Int),(0:Int),(0:Int),())).2.2.1:Int),(((List.getD b1_2 (Int.toNat (wrap64 (x4 + (1:Int)))) ((0:Int),(0:Int),(0:Int),())).2.2.1:Int),((true:Bool),()))),()));
              Tr.test (r0.1)
                (Tr.fin (.ret ((),((),((b1_0,(b1_1,(b1_2,()))),((b3_0,(b3_1,())),(((wrap64 (wrap64 ((List.getD x2 (Int.toNat x4) ((0:Int),(0:Int),(0:Int),())).2.2.1 + b3_0) + (1:Int)):Int),()),(((0:Int),()),((b6_0,(b6_1,(b6_2,()))),())))))))))
                (Tr.fin (.again ((x2,(x3,((wrap64 (x4 + (1:Int)):Int),()))),((),((b1_0,(b1_1,(b1_2,()))),((b3_0,(b3_1,())),((b4_0,()),((b5_0,()),((b6_0,(b6_1,(b6_2,()))),()))))))))))
              (Tr.stop))
            (Tr.stop))
          (Tr.test (Option.isSome (f87 (((b6_0,(b6_1,())),(b6_2,())),((((List.getD x2 (Int.toNat x4) ((0:Int),(0:Int),(0:Int),())).2.2.1:Int),(b1_1,((false:Bool),()))),()))))
            (let r1:=g87 (((b6_0,(b6_1,())),(b6_2,())),((((List.getD x2 (Int.toNat x4) ((0:Int),(0:Int),(0:Int),())).2.2.1:Int),(b1_1,((false:Bool),()))),()));
            Tr.test (r1.1)
              (Tr.fin (.ret ((),((),((b1_0,(b1_1,(b1_2,()))),((b3_0,(b3_1,())),(((wrap64 (wrap64 ((List.getD x2 (Int.toNat x4) ((0:Int),(0:Int),(0:Int),())).2.2.1 + b3_0) + (1:Int)):Int),()),(((0:Int),()),((b6_0,(b6_1,(b6_2,()))),())))))))))
              (Tr.fin (.again ((x2,(x3,((wrap64 (x4 + (1:Int)):Int),()))),((),((b1_0,(b1_1,(b1_2,()))),((b3_0,(b3_1,())),((b4_0,()),((b5_0,()),((b6_0,(b6_1,(b6_2,()))),()))))))))))
            (Tr.stop))))
      (Tr.stop))
    (Tr.fin (.brk ((),((),((b1_0,(b1_1,(b1_2,()))),((b3_0,(b3_1,())),((b4_0,()),((b5_0,()),((b6_0,(b6_1,(b6_2,()))),())))))))))

def s104_0_1 (d:dt104_0_1):Option (Out dt104_0_1 db104_0_1 dr104_0_1):=(t104_0_1 d.1.1 d.1.2.1 d.1.2.2.1 d.2.2.1.1 d.2.2.1.2.1 d.2.2.1.2.2.1 d.2.2.2.1.1 d.2.2.2.1.2.1 d.2.2.2.2.1.1 d.2.2.2.2.2.1.1 d.2.2.2.2.2.2.1.1 d.2.2.2.2.2.2.1.2.1 d.2.2.2.2.2.2.1.2.2.1).val
def l104_0_1 (d:dt104_0_1):Option (db104_0_1 ⊕ dr104_0_1):=itr s104_0_1 rounds d
def b104_0_1 (d:dt104_0_1):db104_0_1:=outB (((),((),(((0:Int),((0:Int),(([]:List (Int×Int×Int×PUnit)),()))),(((0:Int),((0:Int),())),(((0:Int),()),(((0:Int),()),(((0:Int),((0:Int),(([]:List (Int×Int×Int×PUnit)),()))),())))))))) (l104_0_1 d)
def r104_0_1 (d:dt104_0_1):dr104_0_1:=outR (((),((),(((0:Int),((0:Int),(([]:List (Int×Int×Int×PUnit)),()))),(((0:Int),((0:Int),())),(((0:Int),()),(((0:Int),()),(((0:Int),((0:Int),(([]:List (Int×Int×Int×PUnit)),()))),())))))))) (l104_0_1 d)
def lc104_0_1 (P:Go.Program):LoopC:=lcOf (sh104_0_1 P) (shb104_0_1 P) (shr104_0_1 P) l104_0_1 b104_0_1 r104_0_1

theorem e104_0_1_0 (x2:(List (Int×(Int×(Int×Unit))))) (x3:Int) (x4:Int) (b1_0:Int) (b1_1:Int) (b1_2:(List (Int×(Int×(Int×Unit))))) (b3_0:Int) (b3_1:Int) (b4_0:Int) (b5_0:Int) (b6_0:Int) (b6_1:Int) (b6_2:(List (Int×(Int×(Int×Unit))))):runBody (kf41 Go.Proofs.Try.prog).orc Go.Proofs.Try.prog 400 104 0 (sh104_0_1 Go.Proofs.Try.prog) (shb104_0_1 Go.Proofs.Try.prog) (shr104_0_1 Go.Proofs.Try.prog) ((x2,x3,x4,()),(),(b1_0,b1_1,b1_2,()),(b3_0,b3_1,()),(b4_0,()),(b5_0,()),(b6_0,b6_1,b6_2,()),()) [tt,tt,tt] =
    (some (.again ((x2,(x3,((wrap64 (x4 + (1:Int)):Int),()))),((),((b1_0,(b1_1,(b1_2,()))),((b3_0,(b3_1,())),((b4_0,()),((b5_0,()),((b6_0,(b6_1,(b6_2,()))),()))))))),[(sameRf Go.Proofs.Try.prog (nat_lit 43) (nat_lit 0),true),(!eqF (List.getD x2 (Int.toNat x4) ((0:Int),(0:Int),(0:Int),())).1 (0:Int),true),(decide ((0:Int) ≤ x4) && decide (x4 < (↑(List.length x2):Int)),true),(!leF x3 x4,true)])):=by kernel_rfl
theorem e104_0_1_1 (x2:(List (Int×(Int×(Int×Unit))))) (x3:Int) (x4:Int) (b1_0:Int) (b1_1:Int) (b1_2:(List (Int×(Int×(Int×Unit))))) (b3_0:Int) (b3_1:Int) (b4_0:Int) (b5_0:Int) (b6_0:Int) (b6_1:Int) (b6_2:(List (Int×(Int×(Int×Unit))))):runBody (kf41 Go.Proofs.Try.prog).orc Go.Proofs.Try.prog 400 104 0 (sh104_0_1 Go.Proofs.Try.prog) (shb104_0_1 Go.Proofs.Try.prog) (shr104_0_1 Go.Proofs.Try.prog) ((x2,x3,x4,()),(),(b1_0,b1_1,b1_2,()),(b3_0,b3_1,()),(b4_0,()),(b5_0,()),(b6_0,b6_1,b6_2,()),()) [tt,tt,ff,tt,tt,tt,tt,tt] =
    (let r0:=g87 (((b6_0,(b6_1,())),(b6_2,())),((((List.getD x2 (Int.toNat x4) ((0:Int),(0:Int),(0:Int),())).2.2.1:Int),(((List.getD b1_2 (Int.toNat (wrap64 (x4 + (1:Int)))) ((0:Int),(0:Int),(0:Int),())).2.2.1:Int),(true,()))),())); some (.ret ((),((),((b1_0,(b1_1,(b1_2,()))),((b3_0,(b3_1,())),(((wrap64 (wrap64 ((List.getD x2 (Int.toNat x4) ((0:Int),(0:Int),(0:Int),())).2.2.1 + b3_0) + (1:Int)):Int),()),(((0:Int),()),((b6_0,(b6_1,(b6_2,()))),()))))))),[(sameRf Go.Proofs.Try.prog (nat_lit 43) (nat_lit 0),true),(true,true),(r0.1,true),(Option.isSome (f87 (((b6_0,(b6_1,())),(b6_2,())),((((List.getD x2 (Int.toNat x4) ((0:Int),(0:Int),(0:Int),())).2.2.1:Int),(((List.getD b1_2 (Int.toNat (wrap64 (x4 + (1:Int)))) ((0:Int),(0:Int),(0:Int),())).2.2.1:Int),(true,()))),()))),true),(decide ((0:Int) ≤ wrap64 (x4 + (1:Int))) && decide (wrap64 (x4 + (1:Int)) < (↑(List.length b1_2):Int)),true),(!leF (↑(List.length b1_2):Int) (wrap64 (x4 + (1:Int))),true),(!eqF (List.getD x2 (Int.toNat x4) ((0:Int),(0:Int),(0:Int),())).1 (0:Int),false),(decide ((0:Int) ≤ x4) && decide (x4 < (↑(List.length x2):Int)),true),(!leF x3 x4,true)])):=by kernel_rfl
theorem e104_0_1_2 (x2:(List (Int×(Int×(Int×Unit))))) (x3:Int) (x4:Int) (b1_0:Int) (b1_1:Int) (b1_2:(List (Int×(Int×(Int×Unit))))) (b3_0:Int) (b3_1:Int) (b4_0:Int) (b5_0:Int) (b6_0:Int) (b6_1:Int) (b6_2:(List (Int×(Int×(Int×Unit))))):runBody (kf41 Go.Proofs.Try.prog).orc Go.Proofs.Try.prog 400 104 0 (sh104_0_1 Go.Proofs.Try.prog) (shb104_0_1 Go.Proofs.Try.prog) (shr104_0_1 Go.Proofs.Try.prog) ((x2,x3,x4,()),(),(b1_0,b1_1,b1_2,()),(b3_0,b3_1,()),(b4_0,()),(b5_0,()),(b6_0,b6_1,b6_2,()),()) [tt,tt,ff,tt,tt,tt,ff,ff] =
    (let r0:=g87 (((b6_0,(b6_1,())),(b6_2,())),((((List.getD x2 (Int.toNat x4) ((0:Int),(0:Int),(0:Int),())).2.2.1:Int),(((List.getD b1_2 (Int.toNat (wrap64 (x4 + (1:Int)))) ((0:Int),(0:Int),(0:Int),())).2.2.1:Int),(true,()))),())); some (.again ((x2,(x3,((wrap64 (x4 + (1:Int)):Int),()))),((),((b1_0,(b1_1,(b1_2,()))),((b3_0,(b3_1,())),((b4_0,()),((b5_0,()),((b6_0,(b6_1,(b6_2,()))),()))))))),[(sameRf Go.Proofs.Try.prog (nat_lit 43) (nat_lit 0),true),(false,false),(r0.1,false),(Option.isSome (f87 (((b6_0,(b6_1,())),(b6_2,())),((((List.getD x2 (Int.toNat x4) ((0:Int),(0:Int),(0:Int),())).2.2.1:Int),(((List.getD b1_2 (Int.toNat (wrap64 (x4 + (1:Int)))) ((0:Int),(0:Int),(0:Int),())).2.2.1:Int),(true,()))),()))),true),(decide ((0:Int) ≤ wrap64 (x4 + (1:Int))) && decide (wrap64 (x4 + (1:Int)) < (↑(List.length b1_2):Int)),true),(!leF (↑(List.length b1_2):Int) (wrap64 (x4 + (1:Int))),true),(!eqF (List.getD x2 (Int.toNat x4) ((0:Int),(0:Int),(0:Int),())).1 (0:Int),false),(decide ((0:Int) ≤ x4) && decide (x4 < (↑(List.length x2):Int)),true),(!leF x3 x4,true)])):=by kernel_rfl
theorem e104_0_1_4 (x2:(List (Int×(Int×(Int×Unit))))) (x3:Int) (x4:Int) (b1_0:Int) (b1_1:Int) (b1_2:(List (Int×(Int×(Int×Unit))))) (b3_0:Int) (b3_1:Int) (b4_0:Int) (b5_0:Int) (b6_0:Int) (b6_1:Int) (b6_2:(List (Int×(Int×(Int×Unit))))):runBody (kf41 Go.Proofs.Try.prog).orc Go.Proofs.Try.prog 400 104 0 (sh104_0_1 Go.Proofs.Try.prog) (shb104_0_1 Go.Proofs.Try.prog) (shr104_0_1 Go.Proofs.Try.prog) ((x2,x3,x4,()),(),(b1_0,b1_1,b1_2,()),(b3_0,b3_1,()),(b4_0,()),(b5_0,()),(b6_0,b6_1,b6_2,()),()) [tt,tt,ff,ff,tt,tt,tt] =
    (let r1:=g87 (((b6_0,(b6_1,())),(b6_2,())),((((List.getD x2 (Int.toNat x4) ((0:Int),(0:Int),(0:Int),())).2.2.1:Int),(b1_1,(false,()))),())); some (.ret ((),((),((b1_0,(b1_1,(b1_2,()))),((b3_0,(b3_1,())),(((wrap64 (wrap64 ((List.getD x2 (Int.toNat x4) ((0:Int),(0:Int),(0:Int),())).2.2.1 + b3_0) + (1:Int)):Int),()),(((0:Int),()),((b6_0,(b6_1,(b6_2,()))),()))))))),[(sameRf Go.Proofs.Try.prog (nat_lit 43) (nat_lit 0),true),(true,true),(r1.1,true),(Option.isSome (f87 (((b6_0,(b6_1,())),(b6_2,())),((((List.getD x2 (Int.toNat x4) ((0:Int),(0:Int),(0:Int),())).2.2.1:Int),(b1_1,(false,()))),()))),true),(!leF (↑(List.length b1_2):Int) (wrap64 (x4 + (1:Int))),false),(!eqF (List.getD x2 (Int.toNat x4) ((0:Int),(0:Int),(0:Int),())).1 (0:Int),false),(decide ((0:Int) ≤ x4) && decide (x4 < (↑(List.length x2):Int)),true),(!leF x3 x4,true)])):=by kernel_rfl
theorem e104_0_1_5 (x2:(List (Int×(Int×(Int×Unit))))) (x3:Int) (x4:Int) (b1_0:Int) (b1_1:Int) (b1_2:(List (Int×(Int×(Int×Unit))))) (b3_0:Int) (b3_1:Int) (b4_0:Int) (b5_0:Int) (b6_0:Int) (b6_1:Int) (b6_2:(List (Int×(Int×(Int×Unit))))):runBody (kf41 Go.Proofs.Try.prog).orc Go.Proofs.Try.prog 400 104 0 (sh104_0_1 Go.Proofs.Try.prog) (shb104_0_1 Go.Proofs.Try.prog) (shr104_0_1 Go.Proofs.Try.prog) ((x2,x3,x4,()),(),(b1_0,b1_1,b1_2,()),(b3_0,b3_1,()),(b4_0,()),(b5_0,()),(b6_0,b6_1,b6_2,()),()) [tt,tt,ff,ff,tt,ff,ff] =
    (let r1:=g87 (((b6_0,(b6_1,())),(b6_2,())),((((List.getD x2 (Int.toNat x4) ((0:Int),(0:Int),(0:Int),())).2.2.1:Int),(b1_1,(false,()))),())); some (.again ((x2,(x3,((wrap64 (x4 + (1:Int)):Int),()))),((),((b1_0,(b1_1,(b1_2,()))),((b3_0,(b3_1,())),((b4_0,()),((b5_0,()),((b6_0,(b6_1,(b6_2,()))),()))))))),[(sameRf Go.Proofs.Try.prog (nat_lit 43) (nat_lit 0),true),(false,false),(r1.1,false),(Option.isSome (f87 (((b6_0,(b6_1,())),(b6_2,())),((((List.getD x2 (Int.toNat x4) ((0:Int),(0:Int),(0:Int),())).2.2.1:Int),(b1_1,(false,()))),()))),true),(!leF (↑(List.length b1_2):Int) (wrap64 (x4 + (1:Int))),false),(!eqF (List.getD x2 (Int.toNat x4) ((0:Int),(0:Int),(0:Int),())).1 (0:Int),false),(decide ((0:Int) ≤ x4) && decide (x4 < (↑(List.length x2):Int)),true),(!leF x3 x4,true)])):=by kernel_rfl
theorem e104_0_1_7 (x2:(List (Int×(Int×(Int×Unit))))) (x3:Int) (x4:Int) (b1_0:Int) (b1_1:Int) (b1_2:(List (Int×(Int×(Int×Unit))))) (b3_0:Int) (b3_1:Int) (b4_0:Int) (b5_0:Int) (b6_0:Int) (b6_1:Int) (b6_2:(List (Int×(Int×(Int×Unit))))):runBody (kf41 Go.Proofs.Try.prog).orc Go.Proofs.Try.prog 400 104 0 (sh104_0_1 Go.Proofs.Try.prog) (shb104_0_1 Go.Proofs.Try.prog) (shr104_0_1 Go.Proofs.Try.prog) ((x2,x3,x4,()),(),(b1_0,b1_1,b1_2,()),(b3_0,b3_1,()),(b4_0,()),(b5_0,()),(b6_0,b6_1,b6_2,()),()) [ff] =
    (some (.brk ((),((),((b1_0,(b1_1,(b1_2,()))),((b3_0,(b3_1,())),((b4_0,()),((b5_0,()),((b6_0,(b6_1,(b6_2,()))),()))))))),[(sameRf Go.Proofs.Try.prog (nat_lit 43) (nat_lit 0),true),(!leF x3 x4,false)])):=by kernel_rfl

theorem ok104_0_1_t (x2:(List (Int×(Int×(Int×Unit))))) (x3:Int) (x4:Int) (b1_0:Int) (b1_1:Int) (b1_2:(List (Int×(Int×(Int×Unit))))) (b3_0:Int) (b3_1:Int) (b4_0:Int) (b5_0:Int) (b6_0:Int) (b6_1:Int) (b6_2:(List (Int×(Int×(Int×Unit))))):TrOk (BodyRuns Go.Proofs.Try.prog (kf41 Go.Proofs.Try.prog).orc 104 0 (sh104_0_1 Go.Proofs.Try.prog) (shb104_0_1 Go.Proofs.Try.prog) (shr104_0_1 Go.Proofs.Try.prog) ((x2,x3,x4,()),(),(b1_0,b1_1,b1_2,()),(b3_0,b3_1,()),(b4_0,()),(b5_0,()),(b6_0,b6_1,b6_2,()),())) (t104_0_1 x2 x3 x4 b1_0 b1_1 b1_2 b3_0 b3_1 b4_0 b5_0 b6_0 b6_1 b6_2) :=
  TrOk.ofTest (fun h0=>TrOk.ofTest (fun h1=>TrOk.ofTest (fun h2=>TrOk.ofFin (BodyRuns.of (e104_0_1_0 x2 x3 x4 b1_0 b1_1 b1_2 b3_0 b3_1 b4_0 b5_0 b6_0 b6_1 b6_2) (ac (sc43_0) (ac h2 (ac h1 (ac h0 All.nil)))))) (fun h2=>TrOk.ofTest (fun h3=>TrOk.ofTest (fun h4=>TrOk.ofTest (fun h5=>TrOk.ofTest (fun h6=>TrOk.ofFin (BodyRuns.of (e104_0_1_1 x2 x3 x4 b1_0 b1_1 b1_2 b3_0 b3_1 b4_0 b5_0 b6_0 b6_1 b6_2) (ac (sc43_0) (ac rfl (ac h6 (ac h5 (ac h4 (ac h3 (ac h2 (ac h1 (ac h0 All.nil))))))))))) (fun h6=>TrOk.ofFin (BodyRuns.of (e104_0_1_2 x2 x3 x4 b1_0 b1_1 b1_2 b3_0 b3_1 b4_0 b5_0 b6_0 b6_1 b6_2) (ac (sc43_0) (ac rfl (ac h6 (ac h5 (ac h4 (ac h3 (ac h2 (ac h1 (ac h0 All.nil)))))))))))) (fun h5=>TrOk.ofStop)) (fun h4=>TrOk.ofStop)) (fun h3=>TrOk.ofTest (fun h4=>TrOk.ofTest (fun h5=>TrOk.ofFin (BodyRuns.of (e104_0_1_4 x2 x3 x4 b1_0 b1_1 b1_2 b3_0 b3_1 b4_0 b5_0 b6_0 b6_1 b6_2) (ac (sc43_0) (ac rfl (ac h5 (ac h4 (ac h3 (ac h2 (ac h1 (ac h0 All.nil)))))))))) (fun h5=>TrOk.ofFin (BodyRuns.of (e104_0_1_5 x2 x3 x4 b1_0 b1_1 b1_2 b3_0 b3_1 b4_0 b5_0 b6_0 b6_1 b6_2) (ac (sc43_0) (ac rfl (ac h5 (ac h4 (ac h3 (ac h2 (ac h1 (ac h0 All.nil))))))))))) (fun h4=>TrOk.ofStop)))) (fun h1=>TrOk.ofStop)) (fun h0=>TrOk.ofFin (BodyRuns.of (e104_0_1_7 x2 x3 x4 b1_0 b1_1 b1_2 b3_0 b3_1 b4_0 b5_0 b6_0 b6_1 b6_2) (ac (sc43_0) (ac h0 All.nil))))

theorem ok104_0_1:LoopOk Go.Proofs.Try.prog 104 0 (lc104_0_1 Go.Proofs.Try.prog):=loopOk_of (sh:=(sh104_0_1 Go.Proofs.Try.prog)) (shB:=(shb104_0_1 Go.Proofs.Try.prog)) (shR:=(shr104_0_1 Go.Proofs.Try.prog)) kf41_ok.base (T:=fun (d:dt104_0_1)=>t104_0_1 d.1.1 d.1.2.1 d.1.2.2.1 d.2.2.1.1 d.2.2.1.2.1 d.2.2.1.2.2.1 d.2.2.2.1.1 d.2.2.2.1.2.1 d.2.2.2.2.1.1 d.2.2.2.2.2.1.1 d.2.2.2.2.2.2.1.1 d.2.2.2.2.2.2.1.2.1 d.2.2.2.2.2.2.1.2.2.1) (by kernel_rfl) rfl (fun (d:dt104_0_1)=>ok104_0_1_t d.1.1 d.1.2.1 d.1.2.2.1 d.2.2.1.1 d.2.2.1.2.1 d.2.2.1.2.2.1 d.2.2.2.1.1 d.2.2.2.1.2.1 d.2.2.2.2.1.1 d.2.2.2.2.2.1.1 d.2.2.2.2.2.2.1.1 d.2.2.2.2.2.2.1.2.1 d.2.2.2.2.2.2.1.2.2.1) (fun _=>rfl)
def kl104_0_1 (P:Go.Program):Known:=(kf41 P).loop 104 0 (lc104_0_1 P)
theorem kl104_0_1_ok:KnownOk Go.Proofs.Try.prog (kl104_0_1 Go.Proofs.Try.prog):=kf41_ok.loop ok104_0_1

end Go.Vm.Mo
