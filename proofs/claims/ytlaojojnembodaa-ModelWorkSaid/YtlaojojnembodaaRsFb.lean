import Derived.Test.YtlaojojnembodaaA5
import Derived.KernelRfl
import Derived.Test.YtlaojojnembodaaProg
import Derived.Test.YtlaojojnembodaaRsFa
set_option linter.unusedVariables false
set_option linter.unusedSimpArgs false

namespace Go.Vm.Mo
open Go
set_option linter.unusedVariables false
abbrev sh129_0_2 (P:Go.Program):Sh:={ n:=28,slots:=[0,1,7,8,9],pats:=[.yld 0,.ptr 1 3 0,.ty (.slice (.pair (.int .i64) (.pair .bool .unit))),.ty (.int .i64),.ty (.int .i64)],boxes:=[.lp (lpOf P 97 0 .ready none 15 [3,5] 2) [.ptr 3 1 0,.ptr 4 1 0],.row [.ty (.slice (.pair (.int .i64) (.pair (.int .i64) (.pair .bool .unit)))),.ty (.int .i64),.ty (.slice (.pair (.int .i64) (.pair .bool .unit)))],.dfr,.row [.fn 101 [(5,1)]],.row [.ty (.int .i64)],.row [.ty (.int .i64)]] }
abbrev shb129_0_2 (P:Go.Program):Sh:={ n:=28,slots:=[],pats:=[],boxes:=[.lp (lpOf P 97 0 .ready none 15 [3,5] 2) [.ptr 3 1 0,.ptr 4 1 0],.row [.ty (.slice (.pair (.int .i64) (.pair (.int .i64) (.pair .bool .unit)))),.ty (.int .i64),.ty (.slice (.pair (.int .i64) (.pair .bool .unit)))],.dfr,.row [.fn 101 [(5,1)]],.row [.ty (.int .i64)],.row [.ty (.int .i64)]] }
abbrev shr129_0_2 (P:Go.Program):Sh:={ n:=28,slots:=[],pats:=[],boxes:=[.lp (lpOf P 97 0 .ready none 15 [3,5] 2) [.ptr 3 1 0,.ptr 4 1 0],.row [.ty (.slice (.pair (.int .i64) (.pair (.int .i64) (.pair .bool .unit)))),.ty (.int .i64),.ty (.slice (.pair (.int .i64) (.pair .bool .unit)))],.dfr,.row [.fn 101 [(5,1)]],.row [.ty (.int .i64)],.row [.ty (.int .i64)]] }
abbrev dt129_0_2:Type:=(List (Int×Bool×PUnit)×Int×Int×PUnit)×PUnit×(List (Int×Int×Bool×PUnit)×Int×List (Int×Bool×PUnit)×PUnit)×PUnit×(Int×PUnit)×(Int×PUnit)×PUnit
abbrev db129_0_2:Type:=PUnit×PUnit×(List (Int×Int×Bool×PUnit)×Int×List (Int×Bool×PUnit)×PUnit)×PUnit×(Int×PUnit)×(Int×PUnit)×PUnit
abbrev dr129_0_2:Type:=PUnit×PUnit×(List (Int×Int×Bool×PUnit)×Int×List (Int×Bool×PUnit)×PUnit)×PUnit×(Int×PUnit)×(Int×PUnit)×PUnit
def t129_0_2 (x2:(List (Int×(Bool×Unit)))) (x3:Int) (x4:Int) (b1_0:(List (Int×(Int×(Bool×Unit))))) (b1_1:Int) (b1_2:(List (Int×(Bool×Unit)))) (b4_0:Int) (b5_0:Int):Tr (Out dt129_0_2 db129_0_2 dr129_0_2) :=
  Tr.test ((!leF x3 x4:Bool))
    (Tr.test (decide ((0:Int) ≤ x4) && decide (x4 < (↑(List.length x2):Int)))
      (Tr.test ((decide ((0:Int) ≤ x4) && decide (x4 < (↑(List.length b1_0):Int)):Bool))
        (Tr.test (Option.isSome (f102 (((((List.getD b1_0 (Int.toNat x4) ((0:Int),(0:Int),false,())).1:Int),(((List.getD b1_0 (Int.toNat x4) ((0:Int),(0:Int),false,())).2.1:Int),(((List.getD b1_0 (Int.toNat x4) ((0:Int),(0:Int),false,())).2.2.1:Bool),()))),((((List.getD x2 (Int.toNat x4) ((0:Int),false,())).1:Int),(((List.getD x2 (Int.toNat x4) ((0:Int),false,())).2.1:Bool),())),(b1_1,()))),(b5_0,()))))
          (let r0:=g102 (((((List.getD b1_0 (Int.toNat x4) ((0:Int),(0:Int),false,())).1:Int),(((List.getD b1_0 (Int.toNat x4) ((0:Int),(0:Int),false,())).2.1:Int),(((List.getD b1_0 (Int.toNat x4) ((0:Int),(0:Int),false,())).2.2.1:Bool),()))),((((List.getD x2 (Int.toNat x4) ((0:Int),false,())).1:Int),(((List.getD x2 (Int.toNat x4) ((0:Int),false,())).2.1:Bool),())),(b1_1,()))),(b5_0,()));
          Tr.fin (.again ((x2,(x3,((wrap64 (x4 + (1:Int)):Int),()))),((),((b1_0,(b1_1,(b1_2,()))),((),(((wrap64 (b4_0 + r0.1):Int),()),((b5_0,()),()))))))))
          (Tr.stop))
        (Tr.stop))
      (Tr.stop))
    (Tr.fin (.brk ((),((),((b1_0,(b1_1,(b1_2,()))),((),((b4_0,()),((b5_0,()),()))))))))
def s129_0_2 (d:dt129_0_2):Option (Out dt129_0_2 db129_0_2 dr129_0_2):=(t129_0_2 d.1.1 d.1.2.1 d.1.2.2.1 d.2.2.1.1 d.2.2.1.2.1 d.2.2.1.2.2.1 d.2.2.2.2.1.1 d.2.2.2.2.2.1.1).val
def l129_0_2 (d:dt129_0_2):Option (db129_0_2 ⊕ dr129_0_2):=itr s129_0_2 rounds d
def b129_0_2 (d:dt129_0_2):db129_0_2:=outB (((),((),((([]:List (Int×Int×Bool×PUnit)),((0:Int),(([]:List (Int×Bool×PUnit)),()))),((),(((0:Int),()),(((0:Int),()),()))))))) (l129_0_2 d)
def lc129_0_2 (P:Go.Program):LoopC:=lcB (sh129_0_2 P) (shb129_0_2 P) (shr129_0_2 P) l129_0_2 b129_0_2
theorem e129_0_2_0 (x2:(List (Int×(Bool×Unit)))) (x3:Int) (x4:Int) (b1_0:(List (Int×(Int×(Bool×Unit))))) (b1_1:Int) (b1_2:(List (Int×(Bool×Unit)))) (b4_0:Int) (b5_0:Int):runBody (kf104 Go.Proofs.Try.prog).orc Go.Proofs.Try.prog 400 129 0 (sh129_0_2 Go.Proofs.Try.prog) (shb129_0_2 Go.Proofs.Try.prog) (shr129_0_2 Go.Proofs.Try.prog) ((x2,x3,x4,()),(),(b1_0,b1_1,b1_2,()),(),(b4_0,()),(b5_0,()),()) [tt,tt,tt,tt,ff] =
    (let r0:=g102 (((((List.getD b1_0 (Int.toNat x4) ((0:Int),(0:Int),false,())).1:Int),(((List.getD b1_0 (Int.toNat x4) ((0:Int),(0:Int),false,())).2.1:Int),((List.getD b1_0 (Int.toNat x4) ((0:Int),(0:Int),false,())).2.2.1,()))),((((List.getD x2 (Int.toNat x4) ((0:Int),false,())).1:Int),((List.getD x2 (Int.toNat x4) ((0:Int),false,())).2.1,())),(b1_1,()))),(b5_0,())); some (.again ((x2,(x3,((wrap64 (x4 + (1:Int)):Int),()))),((),((b1_0,(b1_1,(b1_2,()))),((),(((wrap64 (b4_0 + r0.1):Int),()),((b5_0,()),())))))),[(sameRf Go.Proofs.Try.prog (nat_lit 97) (nat_lit 0),true),(false,false),(Option.isSome (f102 (((((List.getD b1_0 (Int.toNat x4) ((0:Int),(0:Int),false,())).1:Int),(((List.getD b1_0 (Int.toNat x4) ((0:Int),(0:Int),false,())).2.1:Int),((List.getD b1_0 (Int.toNat x4) ((0:Int),(0:Int),false,())).2.2.1,()))),((((List.getD x2 (Int.toNat x4) ((0:Int),false,())).1:Int),((List.getD x2 (Int.toNat x4) ((0:Int),false,())).2.1,())),(b1_1,()))),(b5_0,()))),true),(decide ((0:Int) ≤ x4) && decide (x4 < (↑(List.length b1_0):Int)),true),(decide ((0:Int) ≤ x4) && decide (x4 < (↑(List.length x2):Int)),true),(!leF x3 x4,true)])):=by kernel_rfl
theorem e129_0_2_3 (x2:(List (Int×(Bool×Unit)))) (x3:Int) (x4:Int) (b1_0:(List (Int×(Int×(Bool×Unit))))) (b1_1:Int) (b1_2:(List (Int×(Bool×Unit)))) (b4_0:Int) (b5_0:Int):runBody (kf104 Go.Proofs.Try.prog).orc Go.Proofs.Try.prog 400 129 0 (sh129_0_2 Go.Proofs.Try.prog) (shb129_0_2 Go.Proofs.Try.prog) (shr129_0_2 Go.Proofs.Try.prog) ((x2,x3,x4,()),(),(b1_0,b1_1,b1_2,()),(),(b4_0,()),(b5_0,()),()) [ff] =
    (some (.brk ((),((),((b1_0,(b1_1,(b1_2,()))),((),((b4_0,()),((b5_0,()),())))))),[(sameRf Go.Proofs.Try.prog (nat_lit 97) (nat_lit 0),true),(!leF x3 x4,false)])):=by kernel_rfl
theorem ok129_0_2_t (x2:(List (Int×(Bool×Unit)))) (x3:Int) (x4:Int) (b1_0:(List (Int×(Int×(Bool×Unit))))) (b1_1:Int) (b1_2:(List (Int×(Bool×Unit)))) (b4_0:Int) (b5_0:Int):TrOk (BodyRuns Go.Proofs.Try.prog (kf104 Go.Proofs.Try.prog).orc 129 0 (sh129_0_2 Go.Proofs.Try.prog) (shb129_0_2 Go.Proofs.Try.prog) (shr129_0_2 Go.Proofs.Try.prog) ((x2,x3,x4,()),(),(b1_0,b1_1,b1_2,()),(),(b4_0,()),(b5_0,()),())) (t129_0_2 x2 x3 x4 b1_0 b1_1 b1_2 b4_0 b5_0) :=
  TrOk.ofTest (fun h0=>TrOk.ofTest (fun h1=>TrOk.ofTest (fun h2=>TrOk.ofTest (fun h3=>TrOk.ofFin (BodyRuns.of (e129_0_2_0 x2 x3 x4 b1_0 b1_1 b1_2 b4_0 b5_0) (ac (sc97_0) (ac rfl (ac h3 (ac h2 (ac h1 (ac h0 All.nil)))))))) (fun h3=>TrOk.ofStop)) (fun h2=>TrOk.ofStop)) (fun h1=>TrOk.ofStop)) (fun h0=>TrOk.ofFin (BodyRuns.of (e129_0_2_3 x2 x3 x4 b1_0 b1_1 b1_2 b4_0 b5_0) (ac (sc97_0) (ac h0 All.nil))))
theorem ok129_0_2:LoopOk Go.Proofs.Try.prog 129 0 (lc129_0_2 Go.Proofs.Try.prog):=loopOk_ofB (sh:=(sh129_0_2 Go.Proofs.Try.prog)) (shB:=(shb129_0_2 Go.Proofs.Try.prog)) (shR:=(shr129_0_2 Go.Proofs.Try.prog)) kf104_ok.base (T:=fun (d:dt129_0_2)=>t129_0_2 d.1.1 d.1.2.1 d.1.2.2.1 d.2.2.1.1 d.2.2.1.2.1 d.2.2.1.2.2.1 d.2.2.2.2.1.1 d.2.2.2.2.2.1.1) (by kernel_rfl) rfl (fun (d:dt129_0_2)=>ok129_0_2_t d.1.1 d.1.2.1 d.1.2.2.1 d.2.2.1.1 d.2.2.1.2.1 d.2.2.1.2.2.1 d.2.2.2.2.1.1 d.2.2.2.2.2.1.1) (fun _=>rfl)
def kl129_0_2 (P:Go.Program):Known:=(kf104 P).loop 129 0 (lc129_0_2 P)
theorem kl129_0_2_ok:KnownOk Go.Proofs.Try.prog (kl129_0_2 Go.Proofs.Try.prog):=kf104_ok.loop ok129_0_2
abbrev sh129_0_3 (P:Go.Program):Sh:={ n:=28,slots:=[0,1,7,8,9],pats:=[.yld 0,.ptr 1 3 0,.ty (.slice (.pair (.int .i64) (.pair .bool .unit))),.ty (.int .i64),.ty (.int .i64)],boxes:=[.lp (lpOf P 97 0 .ready none 15 [3,5] 2) [.ptr 3 1 0,.ptr 4 1 0],.row [.ty (.slice (.pair (.int .i64) (.pair (.int .i64) (.pair .bool .unit)))),.ty (.int .i64),.ty (.slice (.pair (.int .i64) (.pair .bool .unit)))],.dfr,.row [.fn 103 [(5,1)]],.row [.ty (.int .i64)],.row [.ty (.int .i64)]] }
abbrev shb129_0_3 (P:Go.Program):Sh:={ n:=28,slots:=[],pats:=[],boxes:=[.lp (lpOf P 97 0 .ready none 15 [3,5] 2) [.ptr 3 1 0,.ptr 4 1 0],.row [.ty (.slice (.pair (.int .i64) (.pair (.int .i64) (.pair .bool .unit)))),.ty (.int .i64),.ty (.slice (.pair (.int .i64) (.pair .bool .unit)))],.dfr,.row [.fn 103 [(5,1)]],.row [.ty (.int .i64)],.row [.ty (.int .i64)]] }
abbrev shr129_0_3 (P:Go.Program):Sh:={ n:=28,slots:=[],pats:=[],boxes:=[.lp (lpOf P 97 0 .ready none 15 [3,5] 2) [.ptr 3 1 0,.ptr 4 1 0],.row [.ty (.slice (.pair (.int .i64) (.pair (.int .i64) (.pair .bool .unit)))),.ty (.int .i64),.ty (.slice (.pair (.int .i64) (.pair .bool .unit)))],.dfr,.row [.fn 103 [(5,1)]],.row [.ty (.int .i64)],.row [.ty (.int .i64)]] }
abbrev dt129_0_3:Type:=(List (Int×Bool×PUnit)×Int×Int×PUnit)×PUnit×(List (Int×Int×Bool×PUnit)×Int×List (Int×Bool×PUnit)×PUnit)×PUnit×(Int×PUnit)×(Int×PUnit)×PUnit
abbrev db129_0_3:Type:=PUnit×PUnit×(List (Int×Int×Bool×PUnit)×Int×List (Int×Bool×PUnit)×PUnit)×PUnit×(Int×PUnit)×(Int×PUnit)×PUnit
abbrev dr129_0_3:Type:=PUnit×PUnit×(List (Int×Int×Bool×PUnit)×Int×List (Int×Bool×PUnit)×PUnit)×PUnit×(Int×PUnit)×(Int×PUnit)×PUnit
def t129_0_3 (x2:(List (Int×(Bool×Unit)))) (x3:Int) (x4:Int) (b1_0:(List (Int×(Int×(Bool×Unit))))) (b1_1:Int) (b1_2:(List (Int×(Bool×Unit)))) (b4_0:Int) (b5_0:Int):Tr (Out dt129_0_3 db129_0_3 dr129_0_3) :=
  Tr.test ((!leF x3 x4:Bool))
    (Tr.test (decide ((0:Int) ≤ x4) && decide (x4 < (↑(List.length x2):Int)))
      (Tr.test ((decide ((0:Int) ≤ x4) && decide (x4 < (↑(List.length b1_0):Int)):Bool))
        (Tr.test (Option.isSome (f104 (((((List.getD b1_0 (Int.toNat x4) ((0:Int),(0:Int),false,())).1:Int),(((List.getD b1_0 (Int.toNat x4) ((0:Int),(0:Int),false,())).2.1:Int),(((List.getD b1_0 (Int.toNat x4) ((0:Int),(0:Int),false,())).2.2.1:Bool),()))),((((List.getD x2 (Int.toNat x4) ((0:Int),false,())).1:Int),(((List.getD x2 (Int.toNat x4) ((0:Int),false,())).2.1:Bool),())),(b1_1,()))),(b5_0,()))))
          (let r0:=g104 (((((List.getD b1_0 (Int.toNat x4) ((0:Int),(0:Int),false,())).1:Int),(((List.getD b1_0 (Int.toNat x4) ((0:Int),(0:Int),false,())).2.1:Int),(((List.getD b1_0 (Int.toNat x4) ((0:Int),(0:Int),false,())).2.2.1:Bool),()))),((((List.getD x2 (Int.toNat x4) ((0:Int),false,())).1:Int),(((List.getD x2 (Int.toNat x4) ((0:Int),false,())).2.1:Bool),())),(b1_1,()))),(b5_0,()));
          Tr.fin (.again ((x2,(x3,((wrap64 (x4 + (1:Int)):Int),()))),((),((b1_0,(b1_1,(b1_2,()))),((),(((wrap64 (b4_0 + r0.1):Int),()),((b5_0,()),()))))))))
          (Tr.stop))
        (Tr.stop))
      (Tr.stop))
    (Tr.fin (.brk ((),((),((b1_0,(b1_1,(b1_2,()))),((),((b4_0,()),((b5_0,()),()))))))))
def s129_0_3 (d:dt129_0_3):Option (Out dt129_0_3 db129_0_3 dr129_0_3):=(t129_0_3 d.1.1 d.1.2.1 d.1.2.2.1 d.2.2.1.1 d.2.2.1.2.1 d.2.2.1.2.2.1 d.2.2.2.2.1.1 d.2.2.2.2.2.1.1).val
def l129_0_3 (d:dt129_0_3):Option (db129_0_3 ⊕ dr129_0_3):=itr s129_0_3 rounds d
def b129_0_3 (d:dt129_0_3):db129_0_3:=outB (((),((),((([]:List (Int×Int×Bool×PUnit)),((0:Int),(([]:List (Int×Bool×PUnit)),()))),((),(((0:Int),()),(((0:Int),()),()))))))) (l129_0_3 d)
def lc129_0_3 (P:Go.Program):LoopC:=lcB (sh129_0_3 P) (shb129_0_3 P) (shr129_0_3 P) l129_0_3 b129_0_3
theorem e129_0_3_0 (x2:(List (Int×(Bool×Unit)))) (x3:Int) (x4:Int) (b1_0:(List (Int×(Int×(Bool×Unit))))) (b1_1:Int) (b1_2:(List (Int×(Bool×Unit)))) (b4_0:Int) (b5_0:Int):runBody (kl129_0_2 Go.Proofs.Try.prog).orc Go.Proofs.Try.prog 400 129 0 (sh129_0_3 Go.Proofs.Try.prog) (shb129_0_3 Go.Proofs.Try.prog) (shr129_0_3 Go.Proofs.Try.prog) ((x2,x3,x4,()),(),(b1_0,b1_1,b1_2,()),(),(b4_0,()),(b5_0,()),()) [tt,tt,tt,tt,ff] =
    (let r0:=g104 (((((List.getD b1_0 (Int.toNat x4) ((0:Int),(0:Int),false,())).1:Int),(((List.getD b1_0 (Int.toNat x4) ((0:Int),(0:Int),false,())).2.1:Int),((List.getD b1_0 (Int.toNat x4) ((0:Int),(0:Int),false,())).2.2.1,()))),((((List.getD x2 (Int.toNat x4) ((0:Int),false,())).1:Int),((List.getD x2 (Int.toNat x4) ((0:Int),false,())).2.1,())),(b1_1,()))),(b5_0,())); some (.again ((x2,(x3,((wrap64 (x4 + (1:Int)):Int),()))),((),((b1_0,(b1_1,(b1_2,()))),((),(((wrap64 (b4_0 + r0.1):Int),()),((b5_0,()),())))))),[(sameRf Go.Proofs.Try.prog (nat_lit 97) (nat_lit 0),true),(false,false),(Option.isSome (f104 (((((List.getD b1_0 (Int.toNat x4) ((0:Int),(0:Int),false,())).1:Int),(((List.getD b1_0 (Int.toNat x4) ((0:Int),(0:Int),false,())).2.1:Int),((List.getD b1_0 (Int.toNat x4) ((0:Int),(0:Int),false,())).2.2.1,()))),((((List.getD x2 (Int.toNat x4) ((0:Int),false,())).1:Int),((List.getD x2 (Int.toNat x4) ((0:Int),false,())).2.1,())),(b1_1,()))),(b5_0,()))),true),(decide ((0:Int) ≤ x4) && decide (x4 < (↑(List.length b1_0):Int)),true),(decide ((0:Int) ≤ x4) && decide (x4 < (↑(List.length x2):Int)),true),(!leF x3 x4,true)])):=by kernel_rfl
theorem e129_0_3_3 (x2:(List (Int×(Bool×Unit)))) (x3:Int) (x4:Int) (b1_0:(List (Int×(Int×(Bool×Unit))))) (b1_1:Int) (b1_2:(List (Int×(Bool×Unit)))) (b4_0:Int) (b5_0:Int):runBody (kl129_0_2 Go.Proofs.Try.prog).orc Go.Proofs.Try.prog 400 129 0 (sh129_0_3 Go.Proofs.Try.prog) (shb129_0_3 Go.Proofs.Try.prog) (shr129_0_3 Go.Proofs.Try.prog) ((x2,x3,x4,()),(),(b1_0,b1_1,b1_2,()),(),(b4_0,()),(b5_0,()),()) [ff] =
    (some (.brk ((),((),((b1_0,(b1_1,(b1_2,()))),((),((b4_0,()),((b5_0,()),())))))),[(sameRf Go.Proofs.Try.prog (nat_lit 97) (nat_lit 0),true),(!leF x3 x4,false)])):=by kernel_rfl
theorem ok129_0_3_t (x2:(List (Int×(Bool×Unit)))) (x3:Int) (x4:Int) (b1_0:(List (Int×(Int×(Bool×Unit))))) (b1_1:Int) (b1_2:(List (Int×(Bool×Unit)))) (b4_0:Int) (b5_0:Int):TrOk (BodyRuns Go.Proofs.Try.prog (kl129_0_2 Go.Proofs.Try.prog).orc 129 0 (sh129_0_3 Go.Proofs.Try.prog) (shb129_0_3 Go.Proofs.Try.prog) (shr129_0_3 Go.Proofs.Try.prog) ((x2,x3,x4,()),(),(b1_0,b1_1,b1_2,()),(),(b4_0,()),(b5_0,()),())) (t129_0_3 x2 x3 x4 b1_0 b1_1 b1_2 b4_0 b5_0) :=
  TrOk.ofTest (fun h0=>TrOk.ofTest (fun h1=>TrOk.ofTest (fun h2=>TrOk.ofTest (fun h3=>TrOk.ofFin (BodyRuns.of (e129_0_3_0 x2 x3 x4 b1_0 b1_1 b1_2 b4_0 b5_0) (ac (sc97_0) (ac rfl (ac h3 (ac h2 (ac h1 (ac h0 All.nil)))))))) (fun h3=>TrOk.ofStop)) (fun h2=>TrOk.ofStop)) (fun h1=>TrOk.ofStop)) (fun h0=>TrOk.ofFin (BodyRuns.of (e129_0_3_3 x2 x3 x4 b1_0 b1_1 b1_2 b4_0 b5_0) (ac (sc97_0) (ac h0 All.nil))))
theorem ok129_0_3:LoopOk Go.Proofs.Try.prog 129 0 (lc129_0_3 Go.Proofs.Try.prog):=loopOk_ofB (sh:=(sh129_0_3 Go.Proofs.Try.prog)) (shB:=(shb129_0_3 Go.Proofs.Try.prog)) (shR:=(shr129_0_3 Go.Proofs.Try.prog)) kl129_0_2_ok.base (T:=fun (d:dt129_0_3)=>t129_0_3 d.1.1 d.1.2.1 d.1.2.2.1 d.2.2.1.1 d.2.2.1.2.1 d.2.2.1.2.2.1 d.2.2.2.2.1.1 d.2.2.2.2.2.1.1) (by kernel_rfl) rfl (fun (d:dt129_0_3)=>ok129_0_3_t d.1.1 d.1.2.1 d.1.2.2.1 d.2.2.1.1 d.2.2.1.2.1 d.2.2.1.2.2.1 d.2.2.2.2.1.1 d.2.2.2.2.2.1.1) (fun _=>rfl)
def kl129_0_3 (P:Go.Program):Known:=(kl129_0_2 P).loop 129 0 (lc129_0_3 P)
theorem kl129_0_3_ok:KnownOk Go.Proofs.Try.prog (kl129_0_3 Go.Proofs.Try.prog):=kl129_0_2_ok.loop ok129_0_3
abbrev as28:List Ty:=[(.slice (.pair (.int .i64) (.pair (.int .i64) (.pair .bool .unit)))),(.pair (.int .i64) (.pair (.slice (.pair (.int .i64) (.pair .bool .unit))) .unit)),(.int .i64)]
abbrev rs28:List Ty:=[(.pair (.int .i64) (.pair (.int .i64) .unit)),(.int .i64)]
def t28 (x0:(List (Int×(Int×(Bool×Unit))))) (x1:Int) (x1':(List (Int×(Bool×Unit)))) (x2:Int):Tr (Tys.data rs28) :=
  Tr.test (Option.isSome (f91 (x2,())))
    (let r0:=g91 (x2,());
    Tr.test (Option.isSome (f95 (x0,((x1,(x1',())),(([r0.1]:List Int),())))))
      (let r1:=g95 (x0,((x1,(x1',())),(([r0.1]:List Int),())));
      Tr.test (isBrk (l129_0_2 ((r1.1.2.1.2.1,((↑(List.length r1.1.2.1.2.1):Int),((0:Int),()))),((),((r1.1.1,(r1.1.2.1.1,(r1.1.2.1.2.1,()))),((),(((0:Int),()),((x2,()),()))))))))
        (let r2:=b129_0_2 ((r1.1.2.1.2.1,((↑(List.length r1.1.2.1.2.1):Int),((0:Int),()))),((),((r1.1.1,(r1.1.2.1.1,(r1.1.2.1.2.1,()))),((),(((0:Int),()),((x2,()),()))))));
        Tr.test (isBrk (l129_0_3 ((r1.1.2.1.2.1,((↑(List.length r1.1.2.1.2.1):Int),((0:Int),()))),((),((r1.1.1,(r1.1.2.1.1,(r1.1.2.1.2.1,()))),((),(((0:Int),()),((r2.2.2.2.2.2.1.1,()),()))))))))
          (let r3:=b129_0_3 ((r1.1.2.1.2.1,((↑(List.length r1.1.2.1.2.1):Int),((0:Int),()))),((),((r1.1.1,(r1.1.2.1.1,(r1.1.2.1.2.1,()))),((),(((0:Int),()),((r2.2.2.2.2.2.1.1,()),()))))));
          Tr.fin (((r2.2.2.2.2.1.1,(r3.2.2.2.2.1.1,())),(r1.2.1,()))))
          (Tr.stop))
        (Tr.stop))
      (Tr.stop))
    (Tr.stop)
def f28 (d:Tys.data as28):Option (Tys.data rs28):=(t28 d.1 d.2.1.1 d.2.1.2.1 d.2.2.1).val
def g28 (d:Tys.data as28):Tys.data rs28:=(f28 d).getD (Tys.dflt rs28)
def p28:PureC:=pcOf as28 rs28 f28 g28
theorem e28_0 (x0:(List (Int×(Int×(Bool×Unit))))) (x1:Int) (x1':(List (Int×(Bool×Unit)))) (x2:Int):runPure (kl129_0_3 Go.Proofs.Try.prog).orc Go.Proofs.Try.prog 400 28 as28 rs28 (x0,(x1,x1',()),x2,()) [tt,tt,tt,tt,tt,tt,tt,tt] =
    (let r0:=g91 (x2,());let r1:=g95 (x0,((x1,(x1',())),(([r0.1]:List Int),())));let r2:=b129_0_2 ((r1.1.2.1.2.1,((↑(List.length r1.1.2.1.2.1):Int),((0:Int),()))),((),((r1.1.1,(r1.1.2.1.1,(r1.1.2.1.2.1,()))),((),(((0:Int),()),((x2,()),()))))));let r3:=b129_0_3 ((r1.1.2.1.2.1,((↑(List.length r1.1.2.1.2.1):Int),((0:Int),()))),((),((r1.1.1,(r1.1.2.1.1,(r1.1.2.1.2.1,()))),((),(((0:Int),()),((r2.2.2.2.2.2.1.1,()),())))))); some (((r2.2.2.2.2.1.1,(r3.2.2.2.2.1.1,())),(r1.2.1,())),[(true,true),(isBrk (l129_0_3 ((r1.1.2.1.2.1,((↑(List.length r1.1.2.1.2.1):Int),((0:Int),()))),((),((r1.1.1,(r1.1.2.1.1,(r1.1.2.1.2.1,()))),((),(((0:Int),()),((r2.2.2.2.2.2.1.1,()),()))))))),true),(sameRf Go.Proofs.Try.prog (nat_lit 97) (nat_lit 0),true),(true,true),(isBrk (l129_0_2 ((r1.1.2.1.2.1,((↑(List.length r1.1.2.1.2.1):Int),((0:Int),()))),((),((r1.1.1,(r1.1.2.1.1,(r1.1.2.1.2.1,()))),((),(((0:Int),()),((x2,()),()))))))),true),(sameRf Go.Proofs.Try.prog (nat_lit 97) (nat_lit 0),true),(Option.isSome (f95 (x0,((x1,(x1',())),(([r0.1]:List Int),())))),true),(Option.isSome (f91 (x2,())),true)])):=by kernel_rfl
theorem ok28_t (x0:(List (Int×(Int×(Bool×Unit))))) (x1:Int) (x1':(List (Int×(Bool×Unit)))) (x2:Int):TrOk (PureRuns Go.Proofs.Try.prog (kl129_0_3 Go.Proofs.Try.prog).orc 28 as28 rs28 (x0,(x1,x1',()),x2,())) (t28 x0 x1 x1' x2) :=
  TrOk.ofTest (fun h0=>TrOk.ofTest (fun h1=>TrOk.ofTest (fun h3=>TrOk.ofTest (fun h6=>TrOk.ofFin (PureRuns.of (e28_0 x0 x1 x1' x2) (ac rfl (ac h6 (ac (sc97_0) (ac rfl (ac h3 (ac (sc97_0) (ac h1 (ac h0 All.nil)))))))))) (fun h6=>TrOk.ofStop)) (fun h3=>TrOk.ofStop)) (fun h1=>TrOk.ofStop)) (fun h0=>TrOk.ofStop)
theorem ok28:PureOk Go.Proofs.Try.prog 28 p28:=pureOk_of kl129_0_3_ok.base (T:=fun (d:Tys.data as28)=>t28 d.1 d.2.1.1 d.2.1.2.1 d.2.2.1) (by kernel_rfl) (fun (d:Tys.data as28)=>ok28_t d.1 d.2.1.1 d.2.1.2.1 d.2.2.1)
def kf28 (P:Go.Program):Known:=(kl129_0_3 P).func 28 p28
theorem kf28_ok:KnownOk Go.Proofs.Try.prog (kf28 Go.Proofs.Try.prog):=kl129_0_3_ok.func ok28
abbrev as86:List Ty:=[(.int .i64)]
abbrev rs86:List Ty:=[(.int .i64)]
def t86 (x0:Int):Tr (Tys.data rs86) :=
  Tr.fin (((if x0 < Go.IntKind.wrap Go.IntKind.i64 ((0:Int) - x0) then Go.IntKind.wrap Go.IntKind.i64 ((0:Int) - x0) else x0:Int),()))
def f86 (d:Tys.data as86):Option (Tys.data rs86):=(t86 d.1).val
def g86 (d:Tys.data as86):Tys.data rs86:=(f86 d).getD (Tys.dflt rs86)
def p86:PureC:=pcOf as86 rs86 f86 g86
theorem wk86 (x0:Int):Walks (runPure (kf28 Go.Proofs.Try.prog).orc Go.Proofs.Try.prog 400 86 as86 rs86 (x0,())) (t86 x0) [(bl 0 0,[])] :=
  ⟨by kernel_rfl,trivial⟩
theorem ok86_t (x0:Int):TrOk (PureRuns Go.Proofs.Try.prog (kf28 Go.Proofs.Try.prog).orc 86 as86 rs86 (x0,())) (t86 x0) :=
  Walks.ok (fun _ _ _=>PureRuns.of) (wk86 x0) (by kernel_rfl)
theorem ok86:PureOk Go.Proofs.Try.prog 86 p86:=pureOk_of kf28_ok.base (T:=fun (d:Tys.data as86)=>t86 d.1) (by kernel_rfl) (fun (d:Tys.data as86)=>ok86_t d.1)
def kf86 (P:Go.Program):Known:=(kf28 P).func 86 p86
theorem kf86_ok:KnownOk Go.Proofs.Try.prog (kf86 Go.Proofs.Try.prog):=kf28_ok.func ok86
abbrev sh36_0:Sh:={ n:=90,slots:=[0,3,7],pats:=[.ty (.slice (.pair (.int .i64) (.pair (.int .i64) (.pair .bool .unit)))),.ptr 0 2 0,.ty (.int .i64)],boxes:=[.row [.ty (.int .i64),.ty (.slice (.pair (.int .i64) (.pair .bool .unit)))]] }
abbrev shb36_0:Sh:={ n:=90,slots:=[],pats:=[],boxes:=[.row [.ty (.int .i64),.ty (.slice (.pair (.int .i64) (.pair .bool .unit)))]] }
abbrev shr36_0:Sh:={ n:=90,slots:=[4,5],pats:=[.ty (.int .i64),.ty (.int .i64)],boxes:=[.row [.ty (.int .i64),.ty (.slice (.pair (.int .i64) (.pair .bool .unit)))]] }
def t36_0 (x0:(List (Int×(Int×(Bool×Unit))))) (x2:Int) (b0_0:Int) (b0_1:(List (Int×(Bool×Unit)))):Tr (Out sh36_0.data shb36_0.data shr36_0.data) :=
  Tr.test ((!leF (↑(List.length x0):Int) x2:Bool))
    (Tr.test (decide ((0:Int) ≤ x2) && decide (x2 < (↑(List.length b0_1):Int)))
      (Tr.test (Option.isSome (f32 (((List.getD b0_1 (Int.toNat x2) ((0:Int),false,())).1:Int),())))
        (let r0:=g32 (((List.getD b0_1 (Int.toNat x2) ((0:Int),false,())).1:Int),());
        Tr.test ((!eqF r0.1 0:Bool))
          (Tr.fin (.ret ((x2,(r0.1,())),((b0_0,(b0_1,())),()))))
          (Tr.test (((List.getD b0_1 (Int.toNat x2) ((0:Int),false,())).2.1:Bool))
            (Tr.test ((decide ((0:Int) ≤ x2) && decide (x2 < (↑(List.length x0):Int)):Bool))
              (Tr.test ((!(List.getD x0 (Int.toNat x2) ((0:Int),(0:Int),false,())).2.2.1:Bool))
                (Tr.fin (.ret ((x2,((3:Int),())),((b0_0,(b0_1,())),()))))
                (Tr.test ((!eqF (List.getD b0_1 (Int.toNat x2) ((0:Int),false,())).1 (0:Int):Bool))
                  (Tr.fin (.ret ((x2,((3:Int),())),((b0_0,(b0_1,())),()))))
                  (Tr.fin (.again ((x0,((wrap64 (x2 + (1:Int)):Int),())),((b0_0,(b0_1,())),()))))))
              (Tr.stop))
            (Tr.test ((decide ((0:Int) ≤ x2) && decide (x2 < (↑(List.length x0):Int)):Bool))
              (Tr.test (((List.getD x0 (Int.toNat x2) ((0:Int),(0:Int),false,())).2.2.1:Bool))
                (Tr.test ((!eqF (List.getD b0_1 (Int.toNat x2) ((0:Int),false,())).1 (0:Int):Bool))
                  (Tr.fin (.ret ((x2,((3:Int),())),((b0_0,(b0_1,())),()))))
                  (Tr.test (Option.isSome (f86 ((wrap64 (b0_0 - (List.getD b0_1 (Int.toNat x2) ((0:Int),false,())).1):Int),())))
                    (let r1:=g86 ((wrap64 (b0_0 - (List.getD b0_1 (Int.toNat x2) ((0:Int),false,())).1):Int),());
                    Tr.test ((!leF r1.1 (List.getD x0 (Int.toNat x2) ((0:Int),(0:Int),false,())).2.1:Bool))
                      (Tr.fin (.ret ((x2,((22:Int),())),((b0_0,(b0_1,())),()))))
                      (Tr.fin (.again ((x0,((wrap64 (x2 + (1:Int)):Int),())),((b0_0,(b0_1,())),())))))
                    (Tr.stop)))
                (Tr.test (Option.isSome (f86 ((wrap64 (b0_0 - (List.getD b0_1 (Int.toNat x2) ((0:Int),false,())).1):Int),())))
                  (let r1:=g86 ((wrap64 (b0_0 - (List.getD b0_1 (Int.toNat x2) ((0:Int),false,())).1):Int),());
                  Tr.test ((!leF r1.1 (List.getD x0 (Int.toNat x2) ((0:Int),(0:Int),false,())).2.1:Bool))
                    (Tr.fin (.ret ((x2,((22:Int),())),((b0_0,(b0_1,())),()))))
                    (Tr.fin (.again ((x0,((wrap64 (x2 + (1:Int)):Int),())),((b0_0,(b0_1,())),())))))
                  (Tr.stop)))
              (Tr.stop))))
        (Tr.stop))
      (Tr.stop))
    (Tr.fin (.brk ((),((b0_0,(b0_1,())),()))))
def s36_0 (d:sh36_0.data):Option (Out sh36_0.data shb36_0.data shr36_0.data):=(t36_0 d.1.1 d.1.2.1 d.2.1.1 d.2.1.2.1).val
def l36_0 (d:sh36_0.data):Option (shb36_0.data ⊕ shr36_0.data):=itr s36_0 rounds d
def b36_0 (d:sh36_0.data):shb36_0.data:=outB shb36_0.dflt (l36_0 d)
def r36_0 (d:sh36_0.data):shr36_0.data:=outR shr36_0.dflt (l36_0 d)
def lc36_0:LoopC:=lcOf sh36_0 shb36_0 shr36_0 l36_0 b36_0 r36_0
theorem e36_0_0 (x0:(List (Int×(Int×(Bool×Unit))))) (x2:Int) (b0_0:Int) (b0_1:(List (Int×(Bool×Unit)))):runBody (kf86 Go.Proofs.Try.prog).orc Go.Proofs.Try.prog 400 36 0 sh36_0 shb36_0 shr36_0 ((x0,x2,()),(b0_0,b0_1,()),()) [tt,tt,tt,tt] =
    (let r0:=g32 (((List.getD b0_1 (Int.toNat x2) ((0:Int),false,())).1:Int),()); some (.ret ((x2,(r0.1,())),((b0_0,(b0_1,())),())),[(!eqF r0.1 0,true),(Option.isSome (f32 (((List.getD b0_1 (Int.toNat x2) ((0:Int),false,())).1:Int),())),true),(decide ((0:Int) ≤ x2) && decide (x2 < (↑(List.length b0_1):Int)),true),(!leF (↑(List.length x0):Int) x2,true)])):=by kernel_rfl
theorem e36_0_1 (x0:(List (Int×(Int×(Bool×Unit))))) (x2:Int) (b0_0:Int) (b0_1:(List (Int×(Bool×Unit)))):runBody (kf86 Go.Proofs.Try.prog).orc Go.Proofs.Try.prog 400 36 0 sh36_0 shb36_0 shr36_0 ((x0,x2,()),(b0_0,b0_1,()),()) [tt,tt,tt,ff,tt,tt,tt,tt,tt,tt,tt,tt,tt,tt,tt,tt,tt,tt,tt,tt,tt,tt,tt,tt,tt,tt] =
    (let r0:=g32 (((List.getD b0_1 (Int.toNat x2) ((0:Int),false,())).1:Int),()); some (.ret ((x2,((3:Int),())),((b0_0,(b0_1,())),())),[(true,true),(true,true),(true,true),(true,true),(true,true),(true,true),(!(List.getD x0 (Int.toNat x2) ((0:Int),(0:Int),false,())).2.2.1,true),(!(List.getD x0 (Int.toNat x2) ((0:Int),(0:Int),false,())).2.2.1,true),(!(List.getD x0 (Int.toNat x2) ((0:Int),(0:Int),false,())).2.2.1,true),(!(List.getD x0 (Int.toNat x2) ((0:Int),(0:Int),false,())).2.2.1,true),(!(List.getD x0 (Int.toNat x2) ((0:Int),(0:Int),false,())).2.2.1,true),(!(List.getD x0 (Int.toNat x2) ((0:Int),(0:Int),false,())).2.2.1,true),(!(List.getD x0 (Int.toNat x2) ((0:Int),(0:Int),false,())).2.2.1,true),(!(List.getD x0 (Int.toNat x2) ((0:Int),(0:Int),false,())).2.2.1,true),((List.getD b0_1 (Int.toNat x2) ((0:Int),false,())).2.1,true),((List.getD b0_1 (Int.toNat x2) ((0:Int),false,())).2.1,true),((List.getD b0_1 (Int.toNat x2) ((0:Int),false,())).2.1,true),((List.getD b0_1 (Int.toNat x2) ((0:Int),false,())).2.1,true),(decide ((0:Int) ≤ x2) && decide (x2 < (↑(List.length x0):Int)),true),((List.getD b0_1 (Int.toNat x2) ((0:Int),false,())).2.1,true),((List.getD b0_1 (Int.toNat x2) ((0:Int),false,())).2.1,true),((List.getD b0_1 (Int.toNat x2) ((0:Int),false,())).2.1,true),(!eqF r0.1 0,false),(Option.isSome (f32 (((List.getD b0_1 (Int.toNat x2) ((0:Int),false,())).1:Int),())),true),(decide ((0:Int) ≤ x2) && decide (x2 < (↑(List.length b0_1):Int)),true),(!leF (↑(List.length x0):Int) x2,true)])):=by kernel_rfl
theorem e36_0_2 (x0:(List (Int×(Int×(Bool×Unit))))) (x2:Int) (b0_0:Int) (b0_1:(List (Int×(Bool×Unit)))):runBody (kf86 Go.Proofs.Try.prog).orc Go.Proofs.Try.prog 400 36 0 sh36_0 shb36_0 shr36_0 ((x0,x2,()),(b0_0,b0_1,()),()) [tt,tt,tt,ff,tt,tt,tt,tt,tt,tt,tt,tt,ff,ff,ff,tt,ff,ff,ff,tt,tt,tt,ff,tt,ff,tt,tt,tt,tt,tt,tt] =
    (let r0:=g32 (((List.getD b0_1 (Int.toNat x2) ((0:Int),false,())).1:Int),()); some (.ret ((x2,((3:Int),())),((b0_0,(b0_1,())),())),[(true,true),(!eqF (List.getD b0_1 (Int.toNat x2) ((0:Int),false,())).1 (0:Int),true),(!eqF (List.getD b0_1 (Int.toNat x2) ((0:Int),false,())).1 (0:Int),true),(!eqF (List.getD b0_1 (Int.toNat x2) ((0:Int),false,())).1 (0:Int),true),(!eqF (List.getD b0_1 (Int.toNat x2) ((0:Int),false,())).1 (0:Int),true),(!eqF (List.getD b0_1 (Int.toNat x2) ((0:Int),false,())).1 (0:Int),true),(!(List.getD x0 (Int.toNat x2) ((0:Int),(0:Int),false,())).2.2.1,false),((List.getD x0 (Int.toNat x2) ((0:Int),(0:Int),false,())).2.2.1,true),(!(List.getD x0 (Int.toNat x2) ((0:Int),(0:Int),false,())).2.2.1,false),((List.getD x0 (Int.toNat x2) ((0:Int),(0:Int),false,())).2.2.1,true),((List.getD x0 (Int.toNat x2) ((0:Int),(0:Int),false,())).2.2.1,true),((List.getD x0 (Int.toNat x2) ((0:Int),(0:Int),false,())).2.2.1,true),(!(List.getD x0 (Int.toNat x2) ((0:Int),(0:Int),false,())).2.2.1,false),(!(List.getD x0 (Int.toNat x2) ((0:Int),(0:Int),false,())).2.2.1,false),(!(List.getD x0 (Int.toNat x2) ((0:Int),(0:Int),false,())).2.2.1,false),(decide ((0:Int) ≤ x2) && decide (x2 < (↑(List.length x0):Int)),true),(!(List.getD x0 (Int.toNat x2) ((0:Int),(0:Int),false,())).2.2.1,false),(!(List.getD x0 (Int.toNat x2) ((0:Int),(0:Int),false,())).2.2.1,false),(!(List.getD x0 (Int.toNat x2) ((0:Int),(0:Int),false,())).2.2.1,false),((List.getD b0_1 (Int.toNat x2) ((0:Int),false,())).2.1,true),((List.getD b0_1 (Int.toNat x2) ((0:Int),false,())).2.1,true),((List.getD b0_1 (Int.toNat x2) ((0:Int),false,())).2.1,true),((List.getD b0_1 (Int.toNat x2) ((0:Int),false,())).2.1,true),(decide ((0:Int) ≤ x2) && decide (x2 < (↑(List.length x0):Int)),true),((List.getD b0_1 (Int.toNat x2) ((0:Int),false,())).2.1,true),((List.getD b0_1 (Int.toNat x2) ((0:Int),false,())).2.1,true),((List.getD b0_1 (Int.toNat x2) ((0:Int),false,())).2.1,true),(!eqF r0.1 0,false),(Option.isSome (f32 (((List.getD b0_1 (Int.toNat x2) ((0:Int),false,())).1:Int),())),true),(decide ((0:Int) ≤ x2) && decide (x2 < (↑(List.length b0_1):Int)),true),(!leF (↑(List.length x0):Int) x2,true)])):=by kernel_rfl
theorem e36_0_3 (x0:(List (Int×(Int×(Bool×Unit))))) (x2:Int) (b0_0:Int) (b0_1:(List (Int×(Bool×Unit)))):runBody (kf86 Go.Proofs.Try.prog).orc Go.Proofs.Try.prog 400 36 0 sh36_0 shb36_0 shr36_0 ((x0,x2,()),(b0_0,b0_1,()),()) [tt,tt,tt,ff,tt,tt,tt,tt,tt,tt,tt,tt,ff,ff,ff,tt,ff,ff,ff,tt,tt,tt,ff,tt,ff,ff,ff,ff,tt,tt,tt,ff,tt,ff,ff,ff,ff,ff,ff,ff,ff,ff,ff,ff,ff,ff,ff,ff,ff] =
    (let r0:=g32 (((List.getD b0_1 (Int.toNat x2) ((0:Int),false,())).1:Int),()); some (.again ((x0,((wrap64 (x2 + (1:Int)):Int),())),((b0_0,(b0_1,())),())),[(false,false),(!(List.getD b0_1 (Int.toNat x2) ((0:Int),false,())).2.1,false),(!(List.getD b0_1 (Int.toNat x2) ((0:Int),false,())).2.1,false),(!(List.getD b0_1 (Int.toNat x2) ((0:Int),false,())).2.1,false),(!(List.getD b0_1 (Int.toNat x2) ((0:Int),false,())).2.1,false),(!(List.getD b0_1 (Int.toNat x2) ((0:Int),false,())).2.1,false),(!(List.getD b0_1 (Int.toNat x2) ((0:Int),false,())).2.1,false),(!(List.getD b0_1 (Int.toNat x2) ((0:Int),false,())).2.1,false),(!(List.getD b0_1 (Int.toNat x2) ((0:Int),false,())).2.1,false),(!(List.getD b0_1 (Int.toNat x2) ((0:Int),false,())).2.1,false),(!(List.getD b0_1 (Int.toNat x2) ((0:Int),false,())).2.1,false),(!(List.getD b0_1 (Int.toNat x2) ((0:Int),false,())).2.1,false),(!(List.getD b0_1 (Int.toNat x2) ((0:Int),false,())).2.1,false),(!(List.getD b0_1 (Int.toNat x2) ((0:Int),false,())).2.1,false),(!eqF (List.getD b0_1 (Int.toNat x2) ((0:Int),false,())).1 (0:Int),false),(!eqF (List.getD b0_1 (Int.toNat x2) ((0:Int),false,())).1 (0:Int),false),((List.getD b0_1 (Int.toNat x2) ((0:Int),false,())).2.1,true),(!eqF (List.getD b0_1 (Int.toNat x2) ((0:Int),false,())).1 (0:Int),false),((List.getD b0_1 (Int.toNat x2) ((0:Int),false,())).2.1,true),((List.getD b0_1 (Int.toNat x2) ((0:Int),false,())).2.1,true),((List.getD b0_1 (Int.toNat x2) ((0:Int),false,())).2.1,true),(!eqF (List.getD b0_1 (Int.toNat x2) ((0:Int),false,())).1 (0:Int),false),(!eqF (List.getD b0_1 (Int.toNat x2) ((0:Int),false,())).1 (0:Int),false),(!eqF (List.getD b0_1 (Int.toNat x2) ((0:Int),false,())).1 (0:Int),false),(!(List.getD x0 (Int.toNat x2) ((0:Int),(0:Int),false,())).2.2.1,false),((List.getD x0 (Int.toNat x2) ((0:Int),(0:Int),false,())).2.2.1,true),(!(List.getD x0 (Int.toNat x2) ((0:Int),(0:Int),false,())).2.2.1,false),((List.getD x0 (Int.toNat x2) ((0:Int),(0:Int),false,())).2.2.1,true),((List.getD x0 (Int.toNat x2) ((0:Int),(0:Int),false,())).2.2.1,true),((List.getD x0 (Int.toNat x2) ((0:Int),(0:Int),false,())).2.2.1,true),(!(List.getD x0 (Int.toNat x2) ((0:Int),(0:Int),false,())).2.2.1,false),(!(List.getD x0 (Int.toNat x2) ((0:Int),(0:Int),false,())).2.2.1,false),(!(List.getD x0 (Int.toNat x2) ((0:Int),(0:Int),false,())).2.2.1,false),(decide ((0:Int) ≤ x2) && decide (x2 < (↑(List.length x0):Int)),true),(!(List.getD x0 (Int.toNat x2) ((0:Int),(0:Int),false,())).2.2.1,false),(!(List.getD x0 (Int.toNat x2) ((0:Int),(0:Int),false,())).2.2.1,false),(!(List.getD x0 (Int.toNat x2) ((0:Int),(0:Int),false,())).2.2.1,false),((List.getD b0_1 (Int.toNat x2) ((0:Int),false,())).2.1,true),((List.getD b0_1 (Int.toNat x2) ((0:Int),false,())).2.1,true),((List.getD b0_1 (Int.toNat x2) ((0:Int),false,())).2.1,true),((List.getD b0_1 (Int.toNat x2) ((0:Int),false,())).2.1,true),(decide ((0:Int) ≤ x2) && decide (x2 < (↑(List.length x0):Int)),true),((List.getD b0_1 (Int.toNat x2) ((0:Int),false,())).2.1,true),((List.getD b0_1 (Int.toNat x2) ((0:Int),false,())).2.1,true),((List.getD b0_1 (Int.toNat x2) ((0:Int),false,())).2.1,true),(!eqF r0.1 0,false),(Option.isSome (f32 (((List.getD b0_1 (Int.toNat x2) ((0:Int),false,())).1:Int),())),true),(decide ((0:Int) ≤ x2) && decide (x2 < (↑(List.length b0_1):Int)),true),(!leF (↑(List.length x0):Int) x2,true)])):=by kernel_rfl
theorem e36_0_5 (x0:(List (Int×(Int×(Bool×Unit))))) (x2:Int) (b0_0:Int) (b0_1:(List (Int×(Bool×Unit)))):runBody (kf86 Go.Proofs.Try.prog).orc Go.Proofs.Try.prog 400 36 0 sh36_0 shb36_0 shr36_0 ((x0,x2,()),(b0_0,b0_1,()),()) [tt,tt,tt,ff,ff,ff,ff,ff,ff,ff,ff,ff,ff,ff,tt,ff,ff,ff,tt,tt,tt,ff,tt,ff,tt,tt,tt,tt,tt,tt] =
    (let r0:=g32 (((List.getD b0_1 (Int.toNat x2) ((0:Int),false,())).1:Int),()); some (.ret ((x2,((3:Int),())),((b0_0,(b0_1,())),())),[(true,true),(!eqF (List.getD b0_1 (Int.toNat x2) ((0:Int),false,())).1 (0:Int),true),(!eqF (List.getD b0_1 (Int.toNat x2) ((0:Int),false,())).1 (0:Int),true),(!eqF (List.getD b0_1 (Int.toNat x2) ((0:Int),false,())).1 (0:Int),true),(!eqF (List.getD b0_1 (Int.toNat x2) ((0:Int),false,())).1 (0:Int),true),(!eqF (List.getD b0_1 (Int.toNat x2) ((0:Int),false,())).1 (0:Int),true),(false,false),((List.getD x0 (Int.toNat x2) ((0:Int),(0:Int),false,())).2.2.1,true),(false,false),((List.getD x0 (Int.toNat x2) ((0:Int),(0:Int),false,())).2.2.1,true),((List.getD x0 (Int.toNat x2) ((0:Int),(0:Int),false,())).2.2.1,true),((List.getD x0 (Int.toNat x2) ((0:Int),(0:Int),false,())).2.2.1,true),(false,false),(false,false),(false,false),(decide ((0:Int) ≤ x2) && decide (x2 < (↑(List.length x0):Int)),true),(false,false),(false,false),(false,false),((List.getD b0_1 (Int.toNat x2) ((0:Int),false,())).2.1,false),((List.getD b0_1 (Int.toNat x2) ((0:Int),false,())).2.1,false),((List.getD b0_1 (Int.toNat x2) ((0:Int),false,())).2.1,false),((List.getD b0_1 (Int.toNat x2) ((0:Int),false,())).2.1,false),((List.getD b0_1 (Int.toNat x2) ((0:Int),false,())).2.1,false),((List.getD b0_1 (Int.toNat x2) ((0:Int),false,())).2.1,false),((List.getD b0_1 (Int.toNat x2) ((0:Int),false,())).2.1,false),(!eqF r0.1 0,false),(Option.isSome (f32 (((List.getD b0_1 (Int.toNat x2) ((0:Int),false,())).1:Int),())),true),(decide ((0:Int) ≤ x2) && decide (x2 < (↑(List.length b0_1):Int)),true),(!leF (↑(List.length x0):Int) x2,true)])):=by kernel_rfl
theorem e36_0_6 (x0:(List (Int×(Int×(Bool×Unit))))) (x2:Int) (b0_0:Int) (b0_1:(List (Int×(Bool×Unit)))):runBody (kf86 Go.Proofs.Try.prog).orc Go.Proofs.Try.prog 400 36 0 sh36_0 shb36_0 shr36_0 ((x0,x2,()),(b0_0,b0_1,()),()) [tt,tt,tt,ff,ff,ff,ff,ff,ff,ff,ff,ff,ff,ff,tt,ff,ff,ff,tt,tt,tt,ff,tt,ff,ff,ff,ff,ff,ff,ff,ff,ff,ff,ff,tt,tt,tt,tt,tt,tt,tt,tt,tt,tt,tt,tt,tt,tt,tt,tt] =
    (let r0:=g32 (((List.getD b0_1 (Int.toNat x2) ((0:Int),false,())).1:Int),());let r1:=g86 ((wrap64 (b0_0 - (List.getD b0_1 (Int.toNat x2) ((0:Int),false,())).1):Int),()); some (.ret ((x2,((22:Int),())),((b0_0,(b0_1,())),())),[(!leF r1.1 (List.getD x0 (Int.toNat x2) ((0:Int),(0:Int),false,())).2.1,true),(!(List.getD b0_1 (Int.toNat x2) ((0:Int),false,())).2.1,true),(!(List.getD b0_1 (Int.toNat x2) ((0:Int),false,())).2.1,true),(!(List.getD b0_1 (Int.toNat x2) ((0:Int),false,())).2.1,true),(!(List.getD b0_1 (Int.toNat x2) ((0:Int),false,())).2.1,true),(decide ((0:Int) ≤ x2) && decide (x2 < (↑(List.length x0):Int)),true),(!(List.getD b0_1 (Int.toNat x2) ((0:Int),false,())).2.1,true),(!(List.getD b0_1 (Int.toNat x2) ((0:Int),false,())).2.1,true),(!(List.getD b0_1 (Int.toNat x2) ((0:Int),false,())).2.1,true),(Option.isSome (f86 ((wrap64 (b0_0 - (List.getD b0_1 (Int.toNat x2) ((0:Int),false,())).1):Int),())),true),(!(List.getD b0_1 (Int.toNat x2) ((0:Int),false,())).2.1,true),(!(List.getD b0_1 (Int.toNat x2) ((0:Int),false,())).2.1,true),(!(List.getD b0_1 (Int.toNat x2) ((0:Int),false,())).2.1,true),(!(List.getD b0_1 (Int.toNat x2) ((0:Int),false,())).2.1,true),(!(List.getD b0_1 (Int.toNat x2) ((0:Int),false,())).2.1,true),(!(List.getD b0_1 (Int.toNat x2) ((0:Int),false,())).2.1,true),(false,false),(!eqF (List.getD b0_1 (Int.toNat x2) ((0:Int),false,())).1 (0:Int),false),((List.getD b0_1 (Int.toNat x2) ((0:Int),false,())).2.1,false),(!eqF (List.getD b0_1 (Int.toNat x2) ((0:Int),false,())).1 (0:Int),false),((List.getD b0_1 (Int.toNat x2) ((0:Int),false,())).2.1,false),((List.getD b0_1 (Int.toNat x2) ((0:Int),false,())).2.1,false),((List.getD b0_1 (Int.toNat x2) ((0:Int),false,())).2.1,false),(!eqF (List.getD b0_1 (Int.toNat x2) ((0:Int),false,())).1 (0:Int),false),(!eqF (List.getD b0_1 (Int.toNat x2) ((0:Int),false,())).1 (0:Int),false),(!eqF (List.getD b0_1 (Int.toNat x2) ((0:Int),false,())).1 (0:Int),false),(false,false),((List.getD x0 (Int.toNat x2) ((0:Int),(0:Int),false,())).2.2.1,true),(false,false),((List.getD x0 (Int.toNat x2) ((0:Int),(0:Int),false,())).2.2.1,true),((List.getD x0 (Int.toNat x2) ((0:Int),(0:Int),false,())).2.2.1,true),((List.getD x0 (Int.toNat x2) ((0:Int),(0:Int),false,())).2.2.1,true),(false,false),(false,false),(false,false),(decide ((0:Int) ≤ x2) && decide (x2 < (↑(List.length x0):Int)),true),(false,false),(false,false),(false,false),((List.getD b0_1 (Int.toNat x2) ((0:Int),false,())).2.1,false),((List.getD b0_1 (Int.toNat x2) ((0:Int),false,())).2.1,false),((List.getD b0_1 (Int.toNat x2) ((0:Int),false,())).2.1,false),((List.getD b0_1 (Int.toNat x2) ((0:Int),false,())).2.1,false),((List.getD b0_1 (Int.toNat x2) ((0:Int),false,())).2.1,false),((List.getD b0_1 (Int.toNat x2) ((0:Int),false,())).2.1,false),((List.getD b0_1 (Int.toNat x2) ((0:Int),false,())).2.1,false),(!eqF r0.1 0,false),(Option.isSome (f32 (((List.getD b0_1 (Int.toNat x2) ((0:Int),false,())).1:Int),())),true),(decide ((0:Int) ≤ x2) && decide (x2 < (↑(List.length b0_1):Int)),true),(!leF (↑(List.length x0):Int) x2,true)])):=by kernel_rfl
theorem e36_0_7 (x0:(List (Int×(Int×(Bool×Unit))))) (x2:Int) (b0_0:Int) (b0_1:(List (Int×(Bool×Unit)))):runBody (kf86 Go.Proofs.Try.prog).orc Go.Proofs.Try.prog 400 36 0 sh36_0 shb36_0 shr36_0 ((x0,x2,()),(b0_0,b0_1,()),()) [tt,tt,tt,ff,ff,ff,ff,ff,ff,ff,ff,ff,ff,ff,tt,ff,ff,ff,tt,tt,tt,ff,tt,ff,ff,ff,ff,ff,ff,ff,ff,ff,ff,ff,tt,tt,tt,tt,tt,tt,tt,tt,tt,tt,tt,tt,tt,tt,tt,ff] =
    (let r0:=g32 (((List.getD b0_1 (Int.toNat x2) ((0:Int),false,())).1:Int),());let r1:=g86 ((wrap64 (b0_0 - (List.getD b0_1 (Int.toNat x2) ((0:Int),false,())).1):Int),()); some (.again ((x0,((wrap64 (x2 + (1:Int)):Int),())),((b0_0,(b0_1,())),())),[(!leF r1.1 (List.getD x0 (Int.toNat x2) ((0:Int),(0:Int),false,())).2.1,false),(!(List.getD b0_1 (Int.toNat x2) ((0:Int),false,())).2.1,true),(!(List.getD b0_1 (Int.toNat x2) ((0:Int),false,())).2.1,true),(!(List.getD b0_1 (Int.toNat x2) ((0:Int),false,())).2.1,true),(!(List.getD b0_1 (Int.toNat x2) ((0:Int),false,())).2.1,true),(decide ((0:Int) ≤ x2) && decide (x2 < (↑(List.length x0):Int)),true),(!(List.getD b0_1 (Int.toNat x2) ((0:Int),false,())).2.1,true),(!(List.getD b0_1 (Int.toNat x2) ((0:Int),false,())).2.1,true),(!(List.getD b0_1 (Int.toNat x2) ((0:Int),false,())).2.1,true),(Option.isSome (f86 ((wrap64 (b0_0 - (List.getD b0_1 (Int.toNat x2) ((0:Int),false,())).1):Int),())),true),(!(List.getD b0_1 (Int.toNat x2) ((0:Int),false,())).2.1,true),(!(List.getD b0_1 (Int.toNat x2) ((0:Int),false,())).2.1,true),(!(List.getD b0_1 (Int.toNat x2) ((0:Int),false,())).2.1,true),(!(List.getD b0_1 (Int.toNat x2) ((0:Int),false,())).2.1,true),(!(List.getD b0_1 (Int.toNat x2) ((0:Int),false,())).2.1,true),(!(List.getD b0_1 (Int.toNat x2) ((0:Int),false,())).2.1,true),(false,false),(!eqF (List.getD b0_1 (Int.toNat x2) ((0:Int),false,())).1 (0:Int),false),((List.getD b0_1 (Int.toNat x2) ((0:Int),false,())).2.1,false),(!eqF (List.getD b0_1 (Int.toNat x2) ((0:Int),false,())).1 (0:Int),false),((List.getD b0_1 (Int.toNat x2) ((0:Int),false,())).2.1,false),((List.getD b0_1 (Int.toNat x2) ((0:Int),false,())).2.1,false),((List.getD b0_1 (Int.toNat x2) ((0:Int),false,())).2.1,false),(!eqF (List.getD b0_1 (Int.toNat x2) ((0:Int),false,())).1 (0:Int),false),(!eqF (List.getD b0_1 (Int.toNat x2) ((0:Int),false,())).1 (0:Int),false),(!eqF (List.getD b0_1 (Int.toNat x2) ((0:Int),false,())).1 (0:Int),false),(false,false),((List.getD x0 (Int.toNat x2) ((0:Int),(0:Int),false,())).2.2.1,true),(false,false),((List.getD x0 (Int.toNat x2) ((0:Int),(0:Int),false,())).2.2.1,true),((List.getD x0 (Int.toNat x2) ((0:Int),(0:Int),false,())).2.2.1,true),((List.getD x0 (Int.toNat x2) ((0:Int),(0:Int),false,())).2.2.1,true),(false,false),(false,false),(false,false),(decide ((0:Int) ≤ x2) && decide (x2 < (↑(List.length x0):Int)),true),(false,false),(false,false),(false,false),((List.getD b0_1 (Int.toNat x2) ((0:Int),false,())).2.1,false),((List.getD b0_1 (Int.toNat x2) ((0:Int),false,())).2.1,false),((List.getD b0_1 (Int.toNat x2) ((0:Int),false,())).2.1,false),((List.getD b0_1 (Int.toNat x2) ((0:Int),false,())).2.1,false),((List.getD b0_1 (Int.toNat x2) ((0:Int),false,())).2.1,false),((List.getD b0_1 (Int.toNat x2) ((0:Int),false,())).2.1,false),((List.getD b0_1 (Int.toNat x2) ((0:Int),false,())).2.1,false),(!eqF r0.1 0,false),(Option.isSome (f32 (((List.getD b0_1 (Int.toNat x2) ((0:Int),false,())).1:Int),())),true),(decide ((0:Int) ≤ x2) && decide (x2 < (↑(List.length b0_1):Int)),true),(!leF (↑(List.length x0):Int) x2,true)])):=by kernel_rfl
theorem e36_0_8 (x0:(List (Int×(Int×(Bool×Unit))))) (x2:Int) (b0_0:Int) (b0_1:(List (Int×(Bool×Unit)))):runBody (kf86 Go.Proofs.Try.prog).orc Go.Proofs.Try.prog 400 36 0 sh36_0 shb36_0 shr36_0 ((x0,x2,()),(b0_0,b0_1,()),()) [tt,tt,tt,ff,ff,ff,ff,ff,ff,ff,ff,ff,ff,ff,tt,ff,ff,ff,ff,ff,ff,ff,ff,ff,ff,ff,ff,ff,ff,ff,ff,ff,ff,ff,tt,tt,tt,tt,tt,tt,tt,tt,tt,tt,tt,tt,tt,tt,tt,tt] =
    (let r0:=g32 (((List.getD b0_1 (Int.toNat x2) ((0:Int),false,())).1:Int),());let r1:=g86 ((wrap64 (b0_0 - (List.getD b0_1 (Int.toNat x2) ((0:Int),false,())).1):Int),()); some (.ret ((x2,((22:Int),())),((b0_0,(b0_1,())),())),[(!leF r1.1 (List.getD x0 (Int.toNat x2) ((0:Int),(0:Int),false,())).2.1,true),(!(List.getD b0_1 (Int.toNat x2) ((0:Int),false,())).2.1,true),(!(List.getD b0_1 (Int.toNat x2) ((0:Int),false,())).2.1,true),(!(List.getD b0_1 (Int.toNat x2) ((0:Int),false,())).2.1,true),(!(List.getD b0_1 (Int.toNat x2) ((0:Int),false,())).2.1,true),(decide ((0:Int) ≤ x2) && decide (x2 < (↑(List.length x0):Int)),true),(!(List.getD b0_1 (Int.toNat x2) ((0:Int),false,())).2.1,true),(!(List.getD b0_1 (Int.toNat x2) ((0:Int),false,())).2.1,true),(!(List.getD b0_1 (Int.toNat x2) ((0:Int),false,())).2.1,true),(Option.isSome (f86 ((wrap64 (b0_0 - (List.getD b0_1 (Int.toNat x2) ((0:Int),false,())).1):Int),())),true),(!(List.getD b0_1 (Int.toNat x2) ((0:Int),false,())).2.1,true),(!(List.getD b0_1 (Int.toNat x2) ((0:Int),false,())).2.1,true),(!(List.getD b0_1 (Int.toNat x2) ((0:Int),false,())).2.1,true),(!(List.getD b0_1 (Int.toNat x2) ((0:Int),false,())).2.1,true),(!(List.getD b0_1 (Int.toNat x2) ((0:Int),false,())).2.1,true),(!(List.getD b0_1 (Int.toNat x2) ((0:Int),false,())).2.1,true),(false,false),(false,false),((List.getD b0_1 (Int.toNat x2) ((0:Int),false,())).2.1,false),(false,false),((List.getD b0_1 (Int.toNat x2) ((0:Int),false,())).2.1,false),((List.getD b0_1 (Int.toNat x2) ((0:Int),false,())).2.1,false),((List.getD b0_1 (Int.toNat x2) ((0:Int),false,())).2.1,false),(false,false),(false,false),(false,false),(false,false),((List.getD x0 (Int.toNat x2) ((0:Int),(0:Int),false,())).2.2.1,false),(false,false),((List.getD x0 (Int.toNat x2) ((0:Int),(0:Int),false,())).2.2.1,false),((List.getD x0 (Int.toNat x2) ((0:Int),(0:Int),false,())).2.2.1,false),((List.getD x0 (Int.toNat x2) ((0:Int),(0:Int),false,())).2.2.1,false),(false,false),(false,false),(false,false),(decide ((0:Int) ≤ x2) && decide (x2 < (↑(List.length x0):Int)),true),(false,false),(false,false),(false,false),((List.getD b0_1 (Int.toNat x2) ((0:Int),false,())).2.1,false),((List.getD b0_1 (Int.toNat x2) ((0:Int),false,())).2.1,false),((List.getD b0_1 (Int.toNat x2) ((0:Int),false,())).2.1,false),((List.getD b0_1 (Int.toNat x2) ((0:Int),false,())).2.1,false),((List.getD b0_1 (Int.toNat x2) ((0:Int),false,())).2.1,false),((List.getD b0_1 (Int.toNat x2) ((0:Int),false,())).2.1,false),((List.getD b0_1 (Int.toNat x2) ((0:Int),false,())).2.1,false),(!eqF r0.1 0,false),(Option.isSome (f32 (((List.getD b0_1 (Int.toNat x2) ((0:Int),false,())).1:Int),())),true),(decide ((0:Int) ≤ x2) && decide (x2 < (↑(List.length b0_1):Int)),true),(!leF (↑(List.length x0):Int) x2,true)])):=by kernel_rfl
theorem e36_0_9 (x0:(List (Int×(Int×(Bool×Unit))))) (x2:Int) (b0_0:Int) (b0_1:(List (Int×(Bool×Unit)))):runBody (kf86 Go.Proofs.Try.prog).orc Go.Proofs.Try.prog 400 36 0 sh36_0 shb36_0 shr36_0 ((x0,x2,()),(b0_0,b0_1,()),()) [tt,tt,tt,ff,ff,ff,ff,ff,ff,ff,ff,ff,ff,ff,tt,ff,ff,ff,ff,ff,ff,ff,ff,ff,ff,ff,ff,ff,ff,ff,ff,ff,ff,ff,tt,tt,tt,tt,tt,tt,tt,tt,tt,tt,tt,tt,tt,tt,tt,ff] =
    (let r0:=g32 (((List.getD b0_1 (Int.toNat x2) ((0:Int),false,())).1:Int),());let r1:=g86 ((wrap64 (b0_0 - (List.getD b0_1 (Int.toNat x2) ((0:Int),false,())).1):Int),()); some (.again ((x0,((wrap64 (x2 + (1:Int)):Int),())),((b0_0,(b0_1,())),())),[(!leF r1.1 (List.getD x0 (Int.toNat x2) ((0:Int),(0:Int),false,())).2.1,false),(!(List.getD b0_1 (Int.toNat x2) ((0:Int),false,())).2.1,true),(!(List.getD b0_1 (Int.toNat x2) ((0:Int),false,())).2.1,true),(!(List.getD b0_1 (Int.toNat x2) ((0:Int),false,())).2.1,true),(!(List.getD b0_1 (Int.toNat x2) ((0:Int),false,())).2.1,true),(decide ((0:Int) ≤ x2) && decide (x2 < (↑(List.length x0):Int)),true),(!(List.getD b0_1 (Int.toNat x2) ((0:Int),false,())).2.1,true),(!(List.getD b0_1 (Int.toNat x2) ((0:Int),false,())).2.1,true),(!(List.getD b0_1 (Int.toNat x2) ((0:Int),false,())).2.1,true),(Option.isSome (f86 ((wrap64 (b0_0 - (List.getD b0_1 (Int.toNat x2) ((0:Int),false,())).1):Int),())),true),(!(List.getD b0_1 (Int.toNat x2) ((0:Int),false,())).2.1,true),(!(List.getD b0_1 (Int.toNat x2) ((0:Int),false,())).2.1,true),(!(List.getD b0_1 (Int.toNat x2) ((0:Int),false,())).2.1,true),(!(List.getD b0_1 (Int.toNat x2) ((0:Int),false,())).2.1,true),(!(List.getD b0_1 (Int.toNat x2) ((0:Int),false,())).2.1,true),(!(List.getD b0_1 (Int.toNat x2) ((0:Int),false,())).2.1,true),(false,false),(false,false),((List.getD b0_1 (Int.toNat x2) ((0:Int),false,())).2.1,false),(false,false),((List.getD b0_1 (Int.toNat x2) ((0:Int),false,())).2.1,false),((List.getD b0_1 (Int.toNat x2) ((0:Int),false,())).2.1,false),((List.getD b0_1 (Int.toNat x2) ((0:Int),false,())).2.1,false),(false,false),(false,false),(false,false),(false,false),((List.getD x0 (Int.toNat x2) ((0:Int),(0:Int),false,())).2.2.1,false),(false,false),((List.getD x0 (Int.toNat x2) ((0:Int),(0:Int),false,())).2.2.1,false),((List.getD x0 (Int.toNat x2) ((0:Int),(0:Int),false,())).2.2.1,false),((List.getD x0 (Int.toNat x2) ((0:Int),(0:Int),false,())).2.2.1,false),(false,false),(false,false),(false,false),(decide ((0:Int) ≤ x2) && decide (x2 < (↑(List.length x0):Int)),true),(false,false),(false,false),(false,false),((List.getD b0_1 (Int.toNat x2) ((0:Int),false,())).2.1,false),((List.getD b0_1 (Int.toNat x2) ((0:Int),false,())).2.1,false),((List.getD b0_1 (Int.toNat x2) ((0:Int),false,())).2.1,false),((List.getD b0_1 (Int.toNat x2) ((0:Int),false,())).2.1,false),((List.getD b0_1 (Int.toNat x2) ((0:Int),false,())).2.1,false),((List.getD b0_1 (Int.toNat x2) ((0:Int),false,())).2.1,false),((List.getD b0_1 (Int.toNat x2) ((0:Int),false,())).2.1,false),(!eqF r0.1 0,false),(Option.isSome (f32 (((List.getD b0_1 (Int.toNat x2) ((0:Int),false,())).1:Int),())),true),(decide ((0:Int) ≤ x2) && decide (x2 < (↑(List.length b0_1):Int)),true),(!leF (↑(List.length x0):Int) x2,true)])):=by kernel_rfl
theorem e36_0_12 (x0:(List (Int×(Int×(Bool×Unit))))) (x2:Int) (b0_0:Int) (b0_1:(List (Int×(Bool×Unit)))):runBody (kf86 Go.Proofs.Try.prog).orc Go.Proofs.Try.prog 400 36 0 sh36_0 shb36_0 shr36_0 ((x0,x2,()),(b0_0,b0_1,()),()) [ff] =
    (some (.brk ((),((b0_0,(b0_1,())),())),[(!leF (↑(List.length x0):Int) x2,false)])):=by kernel_rfl
theorem ok36_0_t (x0:(List (Int×(Int×(Bool×Unit))))) (x2:Int) (b0_0:Int) (b0_1:(List (Int×(Bool×Unit)))):TrOk (BodyRuns Go.Proofs.Try.prog (kf86 Go.Proofs.Try.prog).orc 36 0 sh36_0 shb36_0 shr36_0 ((x0,x2,()),(b0_0,b0_1,()),())) (t36_0 x0 x2 b0_0 b0_1) :=
  TrOk.ofTest (fun h0=>TrOk.ofTest (fun h1=>TrOk.ofTest (fun h2=>TrOk.ofTest (fun h3=>TrOk.ofFin (BodyRuns.of (e36_0_0 x0 x2 b0_0 b0_1) (ac h3 (ac h2 (ac h1 (ac h0 All.nil)))))) (fun h3=>TrOk.ofTest (fun h4=>TrOk.ofTest (fun h7=>TrOk.ofTest (fun h12=>TrOk.ofFin (BodyRuns.of (e36_0_1 x0 x2 b0_0 b0_1) (ac rfl (ac rfl (ac rfl (ac rfl (ac rfl (ac rfl (ac (nn h12) (ac (nn h12) (ac (nn h12) (ac (nn h12) (ac (nn h12) (ac (nn h12) (ac (nn h12) (ac h12 (ac h4 (ac h4 (ac h4 (ac h4 (ac h7 (ac h4 (ac h4 (ac h4 (ac h3 (ac h2 (ac h1 (ac h0 All.nil)))))))))))))))))))))))))))) (fun h12=>TrOk.ofTest (fun h25=>TrOk.ofFin (BodyRuns.of (e36_0_2 x0 x2 b0_0 b0_1) (ac rfl (ac (nn h25) (ac (nn h25) (ac (nn h25) (ac (nn h25) (ac h25 (ac (nn h12) (ac (of_not h12) (ac (nn h12) (ac (of_not h12) (ac (of_not h12) (ac (of_not h12) (ac (nn h12) (ac (nn h12) (ac (nn h12) (ac h7 (ac (nn h12) (ac (nn h12) (ac h12 (ac h4 (ac h4 (ac h4 (ac h4 (ac h7 (ac h4 (ac h4 (ac h4 (ac h3 (ac h2 (ac h1 (ac h0 All.nil))))))))))))))))))))))))))))))))) (fun h25=>TrOk.ofFin (BodyRuns.of (e36_0_3 x0 x2 b0_0 b0_1) (ac rfl (ac (not_of h4) (ac (not_of h4) (ac (not_of h4) (ac (not_of h4) (ac (not_of h4) (ac (not_of h4) (ac (not_of h4) (ac (not_of h4) (ac (not_of h4) (ac (not_of h4) (ac (not_of h4) (ac (not_of h4) (ac (not_of h4) (ac (nn h25) (ac (nn h25) (ac h4 (ac (nn h25) (ac h4 (ac h4 (ac h4 (ac (nn h25) (ac (nn h25) (ac h25 (ac (nn h12) (ac (of_not h12) (ac (nn h12) (ac (of_not h12) (ac (of_not h12) (ac (of_not h12) (ac (nn h12) (ac (nn h12) (ac (nn h12) (ac h7 (ac (nn h12) (ac (nn h12) (ac h12 (ac h4 (ac h4 (ac h4 (ac h4 (ac h7 (ac h4 (ac h4 (ac h4 (ac h3 (ac h2 (ac h1 (ac h0 All.nil))))))))))))))))))))))))))))))))))))))))))))))))))))) (fun h7=>TrOk.ofStop)) (fun h4=>TrOk.ofTest (fun h14=>TrOk.ofTest (fun h18=>TrOk.ofTest (fun h24=>TrOk.ofFin (BodyRuns.of (e36_0_5 x0 x2 b0_0 b0_1) (ac rfl (ac (nn h24) (ac (nn h24) (ac (nn h24) (ac (nn h24) (ac h24 (ac rfl (ac h18 (ac rfl (ac h18 (ac h18 (ac h18 (ac rfl (ac rfl (ac rfl (ac h14 (ac rfl (ac rfl (ac rfl (ac h4 (ac h4 (ac h4 (ac h4 (ac h4 (ac h4 (ac h4 (ac h3 (ac h2 (ac h1 (ac h0 All.nil)))))))))))))))))))))))))))))))) (fun h24=>TrOk.ofTest (fun h40=>TrOk.ofTest (fun h49=>TrOk.ofFin (BodyRuns.of (e36_0_6 x0 x2 b0_0 b0_1) (ac h49 (ac (not_of h4) (ac (not_of h4) (ac (not_of h4) (ac (not_of h4) (ac h14 (ac (not_of h4) (ac (not_of h4) (ac (not_of h4) (ac h40 (ac (not_of h4) (ac (not_of h4) (ac (not_of h4) (ac (not_of h4) (ac (not_of h4) (ac (not_of h4) (ac rfl (ac (nn h24) (ac h4 (ac (nn h24) (ac h4 (ac h4 (ac h4 (ac (nn h24) (ac (nn h24) (ac h24 (ac rfl (ac h18 (ac rfl (ac h18 (ac h18 (ac h18 (ac rfl (ac rfl (ac rfl (ac h14 (ac rfl (ac rfl (ac rfl (ac h4 (ac h4 (ac h4 (ac h4 (ac h4 (ac h4 (ac h4 (ac h3 (ac h2 (ac h1 (ac h0 All.nil)))))))))))))))))))))))))))))))))))))))))))))))))))) (fun h49=>TrOk.ofFin (BodyRuns.of (e36_0_7 x0 x2 b0_0 b0_1) (ac h49 (ac (not_of h4) (ac (not_of h4) (ac (not_of h4) (ac (not_of h4) (ac h14 (ac (not_of h4) (ac (not_of h4) (ac (not_of h4) (ac h40 (ac (not_of h4) (ac (not_of h4) (ac (not_of h4) (ac (not_of h4) (ac (not_of h4) (ac (not_of h4) (ac rfl (ac (nn h24) (ac h4 (ac (nn h24) (ac h4 (ac h4 (ac h4 (ac (nn h24) (ac (nn h24) (ac h24 (ac rfl (ac h18 (ac rfl (ac h18 (ac h18 (ac h18 (ac rfl (ac rfl (ac rfl (ac h14 (ac rfl (ac rfl (ac rfl (ac h4 (ac h4 (ac h4 (ac h4 (ac h4 (ac h4 (ac h4 (ac h3 (ac h2 (ac h1 (ac h0 All.nil))))))))))))))))))))))))))))))))))))))))))))))))))))) (fun h40=>TrOk.ofStop))) (fun h18=>TrOk.ofTest (fun h40=>TrOk.ofTest (fun h49=>TrOk.ofFin (BodyRuns.of (e36_0_8 x0 x2 b0_0 b0_1) (ac h49 (ac (not_of h4) (ac (not_of h4) (ac (not_of h4) (ac (not_of h4) (ac h14 (ac (not_of h4) (ac (not_of h4) (ac (not_of h4) (ac h40 (ac (not_of h4) (ac (not_of h4) (ac (not_of h4) (ac (not_of h4) (ac (not_of h4) (ac (not_of h4) (ac rfl (ac rfl (ac h4 (ac rfl (ac h4 (ac h4 (ac h4 (ac rfl (ac rfl (ac rfl (ac rfl (ac h18 (ac rfl (ac h18 (ac h18 (ac h18 (ac rfl (ac rfl (ac rfl (ac h14 (ac rfl (ac rfl (ac rfl (ac h4 (ac h4 (ac h4 (ac h4 (ac h4 (ac h4 (ac h4 (ac h3 (ac h2 (ac h1 (ac h0 All.nil)))))))))))))))))))))))))))))))))))))))))))))))))))) (fun h49=>TrOk.ofFin (BodyRuns.of (e36_0_9 x0 x2 b0_0 b0_1) (ac h49 (ac (not_of h4) (ac (not_of h4) (ac (not_of h4) (ac (not_of h4) (ac h14 (ac (not_of h4) (ac (not_of h4) (ac (not_of h4) (ac h40 (ac (not_of h4) (ac (not_of h4) (ac (not_of h4) (ac (not_of h4) (ac (not_of h4) (ac (not_of h4) (ac rfl (ac rfl (ac h4 (ac rfl (ac h4 (ac h4 (ac h4 (ac rfl (ac rfl (ac rfl (ac rfl (ac h18 (ac rfl (ac h18 (ac h18 (ac h18 (ac rfl (ac rfl (ac rfl (ac h14 (ac rfl (ac rfl (ac rfl (ac h4 (ac h4 (ac h4 (ac h4 (ac h4 (ac h4 (ac h4 (ac h3 (ac h2 (ac h1 (ac h0 All.nil))))))))))))))))))))))))))))))))))))))))))))))))))))) (fun h40=>TrOk.ofStop))) (fun h14=>TrOk.ofStop)))) (fun h2=>TrOk.ofStop)) (fun h1=>TrOk.ofStop)) (fun h0=>TrOk.ofFin (BodyRuns.of (e36_0_12 x0 x2 b0_0 b0_1) (ac h0 All.nil)))
theorem ok36_0:LoopOk Go.Proofs.Try.prog 36 0 lc36_0:=loopOk_of (sh:=sh36_0) (shB:=shb36_0) (shR:=shr36_0) kf86_ok.base (T:=fun (d:sh36_0.data)=>t36_0 d.1.1 d.1.2.1 d.2.1.1 d.2.1.2.1) (by kernel_rfl) rfl (fun (d:sh36_0.data)=>ok36_0_t d.1.1 d.1.2.1 d.2.1.1 d.2.1.2.1) (fun _=>rfl)
def kl36_0 (P:Go.Program):Known:=(kf86 P).loop 36 0 lc36_0
theorem kl36_0_ok:KnownOk Go.Proofs.Try.prog (kl36_0 Go.Proofs.Try.prog):=kf86_ok.loop ok36_0
abbrev as36:List Ty:=[(.slice (.pair (.int .i64) (.pair (.int .i64) (.pair .bool .unit)))),(.pair (.int .i64) (.pair (.slice (.pair (.int .i64) (.pair .bool .unit))) .unit))]
abbrev rs36:List Ty:=[(.int .i64),(.int .i64)]
def t36 (x0:(List (Int×(Int×(Bool×Unit))))) (x1:Int) (x1':(List (Int×(Bool×Unit)))):Tr (Tys.data rs36) :=
  Tr.test (Option.isSome (f32 (x1,())))
    (let r0:=g32 (x1,());
    Tr.test ((!eqF r0.1 0:Bool))
      (Tr.fin (((0:Int),(r0.1,()))))
      (Tr.test ((!eqF (↑(List.length x1'):Int) (↑(List.length x0):Int):Bool))
        (Tr.fin (((0:Int),((10:Int),()))))
        (Tr.test (Option.isSome (l36_0 ((x0,((0:Int),())),((x1,(x1',())),()))))
          (Tr.test (isRet (l36_0 ((x0,((0:Int),())),((x1,(x1',())),()))))
            (let r1:=r36_0 ((x0,((0:Int),())),((x1,(x1',())),()));
            Tr.fin ((r1.1.1,(r1.1.2.1,()))))
            (Tr.fin (((0:Int),((0:Int),())))))
          (Tr.stop))))
    (Tr.stop)
def f36 (d:Tys.data as36):Option (Tys.data rs36):=(t36 d.1 d.2.1.1 d.2.1.2.1).val
def g36 (d:Tys.data as36):Tys.data rs36:=(f36 d).getD (Tys.dflt rs36)
def p36:PureC:=pcOf as36 rs36 f36 g36
theorem wk36 (x0:(List (Int×(Int×(Bool×Unit))))) (x1:Int) (x1':(List (Int×(Bool×Unit)))):Walks (runPure (kl36_0 Go.Proofs.Try.prog).orc Go.Proofs.Try.prog 400 36 as36 rs36 (x0,(x1,x1',()),())) (t36 x0 x1 x1') [(bl 2 3,[2,4]),(bl 3 5,[2,4,6]),(bl 5 25,[2,4,6,8,10]),(bl 5 9,[2,4,6,8,10])] :=
  ⟨by kernel_rfl,by kernel_rfl,by kernel_rfl,by kernel_rfl,trivial⟩
theorem ok36_t (x0:(List (Int×(Int×(Bool×Unit))))) (x1:Int) (x1':(List (Int×(Bool×Unit)))):TrOk (PureRuns Go.Proofs.Try.prog (kl36_0 Go.Proofs.Try.prog).orc 36 as36 rs36 (x0,(x1,x1',()),())) (t36 x0 x1 x1') :=
  Walks.ok (fun _ _ _=>PureRuns.of) (wk36 x0 x1 x1') (by kernel_rfl)
theorem ok36:PureOk Go.Proofs.Try.prog 36 p36:=pureOk_of kl36_0_ok.base (T:=fun (d:Tys.data as36)=>t36 d.1 d.2.1.1 d.2.1.2.1) (by kernel_rfl) (fun (d:Tys.data as36)=>ok36_t d.1 d.2.1.1 d.2.1.2.1)
def kf36 (P:Go.Program):Known:=(kl36_0 P).func 36 p36
theorem kf36_ok:KnownOk Go.Proofs.Try.prog (kf36 Go.Proofs.Try.prog):=kl36_0_ok.func ok36
abbrev as41:List Ty:=[(.slice (.pair (.int .i64) (.pair (.int .i64) (.pair .bool .unit)))),(.pair (.int .i64) (.pair (.slice (.pair (.int .i64) (.pair .bool .unit))) .unit))]
abbrev rs41:List Ty:=[(.int .i64)]
def t41 (x0:(List (Int×(Int×(Bool×Unit))))) (x1:Int) (x1':(List (Int×(Bool×Unit)))):Tr (Tys.data rs41) :=
  Tr.test (Option.isSome (f36 (x0,((x1,(x1',())),()))))
    (let r0:=g36 (x0,((x1,(x1',())),()));
    Tr.fin ((r0.2.1,())))
    (Tr.stop)
def f41 (d:Tys.data as41):Option (Tys.data rs41):=(t41 d.1 d.2.1.1 d.2.1.2.1).val
def g41 (d:Tys.data as41):Tys.data rs41:=(f41 d).getD (Tys.dflt rs41)
def p41:PureC:=pcOf as41 rs41 f41 g41
theorem wk41 (x0:(List (Int×(Int×(Bool×Unit))))) (x1:Int) (x1':(List (Int×(Bool×Unit)))):Walks (runPure (kf36 Go.Proofs.Try.prog).orc Go.Proofs.Try.prog 400 41 as41 rs41 (x0,(x1,x1',()),())) (t41 x0 x1 x1') [(bl 1 1,[2])] :=
  ⟨by kernel_rfl,trivial⟩
theorem ok41_t (x0:(List (Int×(Int×(Bool×Unit))))) (x1:Int) (x1':(List (Int×(Bool×Unit)))):TrOk (PureRuns Go.Proofs.Try.prog (kf36 Go.Proofs.Try.prog).orc 41 as41 rs41 (x0,(x1,x1',()),())) (t41 x0 x1 x1') :=
  Walks.ok (fun _ _ _=>PureRuns.of) (wk41 x0 x1 x1') (by kernel_rfl)
theorem ok41:PureOk Go.Proofs.Try.prog 41 p41:=pureOk_of kf36_ok.base (T:=fun (d:Tys.data as41)=>t41 d.1 d.2.1.1 d.2.1.2.1) (by kernel_rfl) (fun (d:Tys.data as41)=>ok41_t d.1 d.2.1.1 d.2.1.2.1)
def kf41 (P:Go.Program):Known:=(kf36 P).func 41 p41
theorem kf41_ok:KnownOk Go.Proofs.Try.prog (kf41 Go.Proofs.Try.prog):=kf36_ok.func ok41
abbrev sh31_0:Sh:={ n:=38,slots:=[2,3,5],pats:=[.ptr 0 2 0,.ptr 1 2 0,.ty (.int .i64)],boxes:=[.row [.ty (.int .i64),.ty (.slice (.pair (.int .i64) (.pair .bool .unit)))],.row [.ty (.int .i64),.ty (.slice (.pair (.int .i64) (.pair .bool .unit)))]] }
abbrev shb31_0:Sh:={ n:=38,slots:=[],pats:=[],boxes:=[.row [.ty (.int .i64),.ty (.slice (.pair (.int .i64) (.pair .bool .unit)))],.row [.ty (.int .i64),.ty (.slice (.pair (.int .i64) (.pair .bool .unit)))]] }
abbrev shr31_0:Sh:={ n:=38,slots:=[4],pats:=[.ty .bool],boxes:=[.row [.ty (.int .i64),.ty (.slice (.pair (.int .i64) (.pair .bool .unit)))],.row [.ty (.int .i64),.ty (.slice (.pair (.int .i64) (.pair .bool .unit)))]] }
def t31_0 (x2:Int) (b0_0:Int) (b0_1:(List (Int×(Bool×Unit)))) (b1_0:Int) (b1_1:(List (Int×(Bool×Unit)))):Tr (Out sh31_0.data shb31_0.data shr31_0.data) :=
  Tr.test ((!leF (↑(List.length b0_1):Int) x2:Bool))
    (Tr.test (decide ((0:Int) ≤ x2) && decide (x2 < (↑(List.length b0_1):Int)))
      (Tr.test ((decide ((0:Int) ≤ x2) && decide (x2 < (↑(List.length b1_1):Int)):Bool))
        (Tr.test ((!((List.getD b0_1 (Int.toNat x2) ((0:Int),false,())).1 == (List.getD b1_1 (Int.toNat x2) ((0:Int),false,())).1 && ((List.getD b0_1 (Int.toNat x2) ((0:Int),false,())).2.1 == (List.getD b1_1 (Int.toNat x2) ((0:Int),false,())).2.1 && true)):Bool))
          (Tr.fin (.ret (((false:Bool),()),((b0_0,(b0_1,())),((b1_0,(b1_1,())),())))))
          (Tr.fin (.again (((wrap64 (x2 + (1:Int)):Int),()),((b0_0,(b0_1,())),((b1_0,(b1_1,())),()))))))
        (Tr.stop))
      (Tr.stop))
    (Tr.fin (.brk ((),((b0_0,(b0_1,())),((b1_0,(b1_1,())),())))))
def s31_0 (d:sh31_0.data):Option (Out sh31_0.data shb31_0.data shr31_0.data):=(t31_0 d.1.1 d.2.1.1 d.2.1.2.1 d.2.2.1.1 d.2.2.1.2.1).val
def l31_0 (d:sh31_0.data):Option (shb31_0.data ⊕ shr31_0.data):=itr s31_0 rounds d
def b31_0 (d:sh31_0.data):shb31_0.data:=outB shb31_0.dflt (l31_0 d)
def r31_0 (d:sh31_0.data):shr31_0.data:=outR shr31_0.dflt (l31_0 d)
def lc31_0:LoopC:=lcOf sh31_0 shb31_0 shr31_0 l31_0 b31_0 r31_0
theorem wk31_0 (x2:Int) (b0_0:Int) (b0_1:(List (Int×(Bool×Unit)))) (b1_0:Int) (b1_1:(List (Int×(Bool×Unit)))):Walks (runBody (kf41 Go.Proofs.Try.prog).orc Go.Proofs.Try.prog 400 31 0 sh31_0 shb31_0 shr31_0 ((x2,()),(b0_0,b0_1,()),(b1_0,b1_1,()),())) (t31_0 x2 b0_0 b0_1 b1_0 b1_1) [(bl 4 15,[2,4,6,8]),(bl 4 7,[2,4,6,8]),(bl 1 0,[2])] :=
  ⟨by kernel_rfl,by kernel_rfl,by kernel_rfl,trivial⟩
theorem ok31_0_t (x2:Int) (b0_0:Int) (b0_1:(List (Int×(Bool×Unit)))) (b1_0:Int) (b1_1:(List (Int×(Bool×Unit)))):TrOk (BodyRuns Go.Proofs.Try.prog (kf41 Go.Proofs.Try.prog).orc 31 0 sh31_0 shb31_0 shr31_0 ((x2,()),(b0_0,b0_1,()),(b1_0,b1_1,()),())) (t31_0 x2 b0_0 b0_1 b1_0 b1_1) :=
  Walks.ok (fun _ _ _=>BodyRuns.of) (wk31_0 x2 b0_0 b0_1 b1_0 b1_1) (by kernel_rfl)
theorem ok31_0:LoopOk Go.Proofs.Try.prog 31 0 lc31_0:=loopOk_of (sh:=sh31_0) (shB:=shb31_0) (shR:=shr31_0) kf41_ok.base (T:=fun (d:sh31_0.data)=>t31_0 d.1.1 d.2.1.1 d.2.1.2.1 d.2.2.1.1 d.2.2.1.2.1) (by kernel_rfl) rfl (fun (d:sh31_0.data)=>ok31_0_t d.1.1 d.2.1.1 d.2.1.2.1 d.2.2.1.1 d.2.2.1.2.1) (fun _=>rfl)
def kl31_0 (P:Go.Program):Known:=(kf41 P).loop 31 0 lc31_0
theorem kl31_0_ok:KnownOk Go.Proofs.Try.prog (kl31_0 Go.Proofs.Try.prog):=kf41_ok.loop ok31_0
abbrev as31:List Ty:=[(.pair (.int .i64) (.pair (.slice (.pair (.int .i64) (.pair .bool .unit))) .unit)),(.pair (.int .i64) (.pair (.slice (.pair (.int .i64) (.pair .bool .unit))) .unit))]
abbrev rs31:List Ty:=[.bool]
def t31 (x0:Int) (x0':(List (Int×(Bool×Unit)))) (x1:Int) (x1':(List (Int×(Bool×Unit)))):Tr (Tys.data rs31) :=
  Tr.test ((!eqF x0 x1:Bool))
    (Tr.fin ((false,())))
    (Tr.test (!eqF (↑(List.length x0'):Int) (↑(List.length x1'):Int))
      (Tr.fin (((false:Bool),())))
      (Tr.test (Option.isSome (l31_0 (((0:Int),()),((x0,(x0',())),((x1,(x1',())),())))))
        (Tr.test (isRet (l31_0 (((0:Int),()),((x0,(x0',())),((x1,(x1',())),())))))
          (let r0:=r31_0 (((0:Int),()),((x0,(x0',())),((x1,(x1',())),())));
          Tr.fin ((r0.1.1,())))
          (Tr.fin (((true:Bool),()))))
        (Tr.stop)))
def f31 (d:Tys.data as31):Option (Tys.data rs31):=(t31 d.1.1 d.1.2.1 d.2.1.1 d.2.1.2.1).val
def g31 (d:Tys.data as31):Tys.data rs31:=(f31 d).getD (Tys.dflt rs31)
def p31:PureC:=pcOf as31 rs31 f31 g31
theorem wk31 (x0:Int) (x0':(List (Int×(Bool×Unit)))) (x1:Int) (x1':(List (Int×(Bool×Unit)))):Walks (runPure (kl31_0 Go.Proofs.Try.prog).orc Go.Proofs.Try.prog 400 31 as31 rs31 ((x0,x0',()),(x1,x1',()),())) (t31 x0 x0' x1 x1') [(bl 1 1,[1,2,2,2,2,2,2,2,2]),(bl 2 2,[2,4,4,4,4,4,4,4,4]),(bl 4 12,[2,4,6,8,8,8,8,8,8,8,8]),(bl 4 4,[2,4,6,8,8,8,8,8,8,8,8])] :=
  ⟨by kernel_rfl,by kernel_rfl,by kernel_rfl,by kernel_rfl,trivial⟩
theorem ok31_t (x0:Int) (x0':(List (Int×(Bool×Unit)))) (x1:Int) (x1':(List (Int×(Bool×Unit)))):TrOk (PureRuns Go.Proofs.Try.prog (kl31_0 Go.Proofs.Try.prog).orc 31 as31 rs31 ((x0,x0',()),(x1,x1',()),())) (t31 x0 x0' x1 x1') :=
  Walks.ok (fun _ _ _=>PureRuns.of) (wk31 x0 x0' x1 x1') (by kernel_rfl)
theorem ok31:PureOk Go.Proofs.Try.prog 31 p31:=pureOk_of kl31_0_ok.base (T:=fun (d:Tys.data as31)=>t31 d.1.1 d.1.2.1 d.2.1.1 d.2.1.2.1) (by kernel_rfl) (fun (d:Tys.data as31)=>ok31_t d.1.1 d.1.2.1 d.2.1.1 d.2.1.2.1)
def kf31 (P:Go.Program):Known:=(kl31_0 P).func 31 p31
theorem kf31_ok:KnownOk Go.Proofs.Try.prog (kf31 Go.Proofs.Try.prog):=kl31_0_ok.func ok31
abbrev sh6_2:Sh:={ n:=295,slots:=[0,1,2,7,8,11,13,17],pats:=[.ty (.slice (.pair (.int .i64) (.pair (.int .i64) (.pair .bool .unit)))),.ty (.slice (.int .i64)),.ty (.int .i64),.ptr 0 2 0,.ty (.int .i64),.ptr 1 2 0,.ptr 2 2 0,.ty (.int .i64)],boxes:=[.row [.ty (.int .i64),.ty (.slice (.pair (.int .i64) (.pair .bool .unit)))],.row [.ty (.int .i64),.ty (.slice (.pair (.int .i64) (.pair .bool .unit)))],.row [.ty (.int .i64),.ty (.int .i64)]] }
abbrev shb6_2:Sh:={ n:=295,slots:=[0,1,2,7,8,11,13],pats:=[.ty (.slice (.pair (.int .i64) (.pair (.int .i64) (.pair .bool .unit)))),.ty (.slice (.int .i64)),.ty (.int .i64),.ptr 0 2 0,.ty (.int .i64),.ptr 1 2 0,.ptr 2 2 0],boxes:=[.row [.ty (.int .i64),.ty (.slice (.pair (.int .i64) (.pair .bool .unit)))],.row [.ty (.int .i64),.ty (.slice (.pair (.int .i64) (.pair .bool .unit)))],.row [.ty (.int .i64),.ty (.int .i64)]] }
abbrev shr6_2:Sh:={ n:=295,slots:=[6],pats:=[.ty .bool],boxes:=[.row [.ty (.int .i64),.ty (.slice (.pair (.int .i64) (.pair .bool .unit)))],.row [.ty (.int .i64),.ty (.slice (.pair (.int .i64) (.pair .bool .unit)))],.row [.ty (.int .i64),.ty (.int .i64)]] }
def t6_2 (x0:(List (Int×(Int×(Bool×Unit))))) (x1:(List Int)) (x2:Int) (x4:Int) (x7:Int) (b0_0:Int) (b0_1:(List (Int×(Bool×Unit)))) (b1_0:Int) (b1_1:(List (Int×(Bool×Unit)))) (b2_0:Int) (b2_1:Int):Tr (Out sh6_2.data shb6_2.data shr6_2.data) :=
  Tr.test ((!leF (↑(List.length x0):Int) x7:Bool))
    (Tr.test (decide ((0:Int) ≤ x7) && decide (x7 < (↑(List.length b0_1):Int)))
      (Tr.test (((List.getD b0_1 (Int.toNat x7) ((0:Int),false,())).2.1:Bool))
        (Tr.test ((decide ((0:Int) ≤ x7) && decide (x7 < (↑(List.length b1_1):Int)):Bool))
          (Tr.test ((!(List.getD b1_1 (Int.toNat x7) ((0:Int),false,())).2.1:Bool))
            (Tr.fin (.ret (((false:Bool),()),((b0_0,(b0_1,())),((b1_0,(b1_1,())),((b2_0,(b2_1,())),()))))))
            (Tr.fin (.again ((x0,(x1,(x2,(x4,((wrap64 (x7 + (1:Int)):Int),()))))),((b0_0,(b0_1,())),((b1_0,(b1_1,())),((b2_0,(b2_1,())),())))))))
          (Tr.stop))
        (Tr.fin (.again ((x0,(x1,(x2,(x4,((wrap64 (x7 + (1:Int)):Int),()))))),((b0_0,(b0_1,())),((b1_0,(b1_1,())),((b2_0,(b2_1,())),())))))))
      (Tr.stop))
    (Tr.fin (.brk ((x0,(x1,(x2,(x4,())))),((b0_0,(b0_1,())),((b1_0,(b1_1,())),((b2_0,(b2_1,())),()))))))
def s6_2 (d:sh6_2.data):Option (Out sh6_2.data shb6_2.data shr6_2.data):=(t6_2 d.1.1 d.1.2.1 d.1.2.2.1 d.1.2.2.2.1 d.1.2.2.2.2.1 d.2.1.1 d.2.1.2.1 d.2.2.1.1 d.2.2.1.2.1 d.2.2.2.1.1 d.2.2.2.1.2.1).val
def l6_2 (d:sh6_2.data):Option (shb6_2.data ⊕ shr6_2.data):=itr s6_2 rounds d
def b6_2 (d:sh6_2.data):shb6_2.data:=outB shb6_2.dflt (l6_2 d)
def r6_2 (d:sh6_2.data):shr6_2.data:=outR shr6_2.dflt (l6_2 d)
def lc6_2:LoopC:=lcOf sh6_2 shb6_2 shr6_2 l6_2 b6_2 r6_2
theorem wk6_2 (x0:(List (Int×(Int×(Bool×Unit))))) (x1:(List Int)) (x2:Int) (x4:Int) (x7:Int) (b0_0:Int) (b0_1:(List (Int×(Bool×Unit)))) (b1_0:Int) (b1_1:(List (Int×(Bool×Unit)))) (b2_0:Int) (b2_1:Int):Walks (runBody (kf31 Go.Proofs.Try.prog).orc Go.Proofs.Try.prog 400 6 2 sh6_2 shb6_2 shr6_2 ((x0,x1,x2,x4,x7,()),(b0_0,b0_1,()),(b1_0,b1_1,()),(b2_0,b2_1,()),())) (t6_2 x0 x1 x2 x4 x7 b0_0 b0_1 b1_0 b1_1 b2_0 b2_1) [(bl 5 31,[2,6,6,6,6,4,6,6,6,6,8,10]),(bl 5 15,[2,6,6,6,6,4,6,6,6,6,8,10]),(bl 3 3,[0,2,2,2,2,2,2,2,2,4,6]),(bl 1 0,[2])] :=
  ⟨by kernel_rfl,by kernel_rfl,by kernel_rfl,by kernel_rfl,trivial⟩
theorem ok6_2_t (x0:(List (Int×(Int×(Bool×Unit))))) (x1:(List Int)) (x2:Int) (x4:Int) (x7:Int) (b0_0:Int) (b0_1:(List (Int×(Bool×Unit)))) (b1_0:Int) (b1_1:(List (Int×(Bool×Unit)))) (b2_0:Int) (b2_1:Int):TrOk (BodyRuns Go.Proofs.Try.prog (kf31 Go.Proofs.Try.prog).orc 6 2 sh6_2 shb6_2 shr6_2 ((x0,x1,x2,x4,x7,()),(b0_0,b0_1,()),(b1_0,b1_1,()),(b2_0,b2_1,()),())) (t6_2 x0 x1 x2 x4 x7 b0_0 b0_1 b1_0 b1_1 b2_0 b2_1) :=
  Walks.ok (fun _ _ _=>BodyRuns.of) (wk6_2 x0 x1 x2 x4 x7 b0_0 b0_1 b1_0 b1_1 b2_0 b2_1) (by kernel_rfl)
theorem ok6_2:LoopOk Go.Proofs.Try.prog 6 2 lc6_2:=loopOk_of (sh:=sh6_2) (shB:=shb6_2) (shR:=shr6_2) kf31_ok.base (T:=fun (d:sh6_2.data)=>t6_2 d.1.1 d.1.2.1 d.1.2.2.1 d.1.2.2.2.1 d.1.2.2.2.2.1 d.2.1.1 d.2.1.2.1 d.2.2.1.1 d.2.2.1.2.1 d.2.2.2.1.1 d.2.2.2.1.2.1) (by kernel_rfl) rfl (fun (d:sh6_2.data)=>ok6_2_t d.1.1 d.1.2.1 d.1.2.2.1 d.1.2.2.2.1 d.1.2.2.2.2.1 d.2.1.1 d.2.1.2.1 d.2.2.1.1 d.2.2.1.2.1 d.2.2.2.1.1 d.2.2.2.1.2.1) (fun _=>rfl)
def kl6_2 (P:Go.Program):Known:=(kf31 P).loop 6 2 lc6_2
theorem kl6_2_ok:KnownOk Go.Proofs.Try.prog (kl6_2 Go.Proofs.Try.prog):=kf31_ok.loop ok6_2
abbrev sh6_0:Sh:={ n:=295,slots:=[0,1,2,7,8],pats:=[.ty (.slice (.pair (.int .i64) (.pair (.int .i64) (.pair .bool .unit)))),.ty (.slice (.int .i64)),.ty (.int .i64),.ptr 0 2 0,.ty (.int .i64)],boxes:=[.row [.ty (.int .i64),.ty (.slice (.pair (.int .i64) (.pair .bool .unit)))]] }
abbrev shb6_0:Sh:={ n:=295,slots:=[],pats:=[],boxes:=[.row [.ty (.int .i64),.ty (.slice (.pair (.int .i64) (.pair .bool .unit)))]] }
abbrev shr6_0:Sh:={ n:=295,slots:=[6],pats:=[.ty .bool],boxes:=[.row [.ty (.int .i64),.ty (.slice (.pair (.int .i64) (.pair .bool .unit)))]] }
def t6_0 (x0:(List (Int×(Int×(Bool×Unit))))) (x1:(List Int)) (x2:Int) (x4:Int) (b0_0:Int) (b0_1:(List (Int×(Bool×Unit)))):Tr (Out sh6_0.data shb6_0.data shr6_0.data) :=
  Tr.test ((!leF (↑(List.length x1):Int) x4:Bool))
    (Tr.test (decide ((0:Int) ≤ x4) && decide (x4 < (↑(List.length x1):Int)))
      (Tr.test (Option.isSome (f32 ((List.getD x1 (Int.toNat x4) (0:Int):Int),())))
        (let r0:=g32 ((List.getD x1 (Int.toNat x4) (0:Int):Int),());
        Tr.test ((!eqF r0.1 0:Bool))
          (Tr.fin (.ret (((true:Bool),()),((b0_0,(b0_1,())),()))))
          (Tr.test (Option.isSome (f22 (x0,())))
            (Tr.test (Option.isSome (f24 ((b0_0,(b0_1,())),())))
              (let r1:=g22 (x0,());
              let r2:=g24 ((b0_0,(b0_1,())),());
              Tr.test (Option.isSome (f26 (r1.1,((r2.1.1,(r2.1.2.1,())),()))))
                (Tr.test (Option.isSome (f27 (r1.1,((r2.1.1,(r2.1.2.1,())),((List.getD x1 (Int.toNat x4) (0:Int):Int),())))))
                  (Tr.test (Option.isSome (f28 (r1.1,((r2.1.1,(r2.1.2.1,())),((List.getD x1 (Int.toNat x4) (0:Int):Int),())))))
                    (let r3:=g26 (r1.1,((r2.1.1,(r2.1.2.1,())),()));
                    Tr.test ((!eqF r3.2.1 0:Bool))
                      (Tr.fin (.ret (((false:Bool),()),((b0_0,(b0_1,())),()))))
                      (let r4:=g27 (r1.1,((r2.1.1,(r2.1.2.1,())),((List.getD x1 (Int.toNat x4) (0:Int):Int),())));
                      Tr.test ((!eqF r4.2.1 0:Bool))
                        (Tr.fin (.ret (((false:Bool),()),((b0_0,(b0_1,())),()))))
                        (let r5:=g28 (r1.1,((r2.1.1,(r2.1.2.1,())),((List.getD x1 (Int.toNat x4) (0:Int):Int),())));
                        Tr.test ((!eqF r5.2.1 0:Bool))
                          (Tr.fin (.ret (((false:Bool),()),((b0_0,(b0_1,())),()))))
                          (Tr.test (Option.isSome (f41 (x0,((r4.1.1,(r4.1.2.1,())),()))))
                            (let r6:=g41 (x0,((r4.1.1,(r4.1.2.1,())),()));
                            Tr.test ((!eqF r6.1 0:Bool))
                              (Tr.fin (.ret (((false:Bool),()),((b0_0,(b0_1,())),()))))
                              (Tr.test ((!eqF r4.1.1 (List.getD x1 (Int.toNat x4) (0:Int)):Bool))
                                (Tr.fin (.ret (((false:Bool),()),((b0_0,(b0_1,())),()))))
                                (Tr.test (Option.isSome (f24 ((r4.1.1,(r4.1.2.1,())),())))
                                  (let r7:=g24 ((r4.1.1,(r4.1.2.1,())),());
                                  Tr.test (Option.isSome (f26 (r1.1,((r7.1.1,(r7.1.2.1,())),()))))
                                    (let r8:=g26 (r1.1,((r7.1.1,(r7.1.2.1,())),()));
                                    Tr.test ((!eqF r8.2.1 0:Bool))
                                      (Tr.fin (.ret (((false:Bool),()),((b0_0,(b0_1,())),()))))
                                      (Tr.test ((!eqF r5.1.1 (wrap64 (wrap64 (r8.1 - r3.1) + r5.1.2.1)):Bool))
                                        (Tr.fin (.ret (((false:Bool),()),((b0_0,(b0_1,())),()))))
                                        (Tr.test ((!leF (0:Int) r5.1.2.1:Bool))
                                          (Tr.fin (.ret (((false:Bool),()),((b0_0,(b0_1,())),()))))
                                          (Tr.test (Option.isSome (l6_2 ((x0,(x1,(x2,(x4,((0:Int),()))))),((b0_0,(b0_1,())),((r4.1.1,(r4.1.2.1,())),((r5.1.1,(r5.1.2.1,())),()))))))
                                            (Tr.test (isRet (l6_2 ((x0,(x1,(x2,(x4,((0:Int),()))))),((b0_0,(b0_1,())),((r4.1.1,(r4.1.2.1,())),((r5.1.1,(r5.1.2.1,())),()))))))
                                              (let r9:=r6_2 ((x0,(x1,(x2,(x4,((0:Int),()))))),((b0_0,(b0_1,())),((r4.1.1,(r4.1.2.1,())),((r5.1.1,(r5.1.2.1,())),()))));
                                              Tr.fin (.ret ((r9.1.1,()),((r9.2.1.1,(r9.2.1.2.1,())),()))))
                                              (let r10:=b6_2 ((x0,(x1,(x2,(x4,((0:Int),()))))),((b0_0,(b0_1,())),((r4.1.1,(r4.1.2.1,())),((r5.1.1,(r5.1.2.1,())),()))));
                                              Tr.test ((decide ((0:Int) ≤ r10.1.2.2.2.1) && decide (r10.1.2.2.2.1 < (↑(List.length r10.1.2.1):Int)):Bool))
                                                (Tr.test (Option.isSome (f22 (r10.1.1,())))
                                                  (Tr.test (Option.isSome (f24 ((r10.2.1.1,(r10.2.1.2.1,())),())))
                                                    (let r11:=g22 (r10.1.1,());
                                                    let r12:=g24 ((r10.2.1.1,(r10.2.1.2.1,())),());
                                                    Tr.test (Option.isSome (f27 (r11.1,((r12.1.1,(r12.1.2.1,())),((wrap64 (r10.2.1.1 + Go.IntKind.wrap Go.IntKind.i64 (Int.tdiv (wrap64 (wrap64 (List.getD r10.1.2.1 (Int.toNat r10.1.2.2.2.1) (0:Int) - r10.2.1.1) * r10.1.2.2.1)) (100:Int))):Int),())))))
                                                      (Tr.test (Option.isSome (f28 (r11.1,((r12.1.1,(r12.1.2.1,())),((wrap64 (r10.2.1.1 + Go.IntKind.wrap Go.IntKind.i64 (Int.tdiv (wrap64 (wrap64 (List.getD r10.1.2.1 (Int.toNat r10.1.2.2.2.1) (0:Int) - r10.2.1.1) * r10.1.2.2.1)) (100:Int))):Int),())))))
                                                        (let r13:=g27 (r11.1,((r12.1.1,(r12.1.2.1,())),((wrap64 (r10.2.1.1 + Go.IntKind.wrap Go.IntKind.i64 (Int.tdiv (wrap64 (wrap64 (List.getD r10.1.2.1 (Int.toNat r10.1.2.2.2.1) (0:Int) - r10.2.1.1) * r10.1.2.2.1)) (100:Int))):Int),())));
                                                        Tr.test ((!eqF r13.2.1 0:Bool))
                                                          (Tr.fin (.ret (((false:Bool),()),((r10.2.1.1,(r10.2.1.2.1,())),()))))
                                                          (let r14:=g28 (r11.1,((r12.1.1,(r12.1.2.1,())),((wrap64 (r10.2.1.1 + Go.IntKind.wrap Go.IntKind.i64 (Int.tdiv (wrap64 (wrap64 (List.getD r10.1.2.1 (Int.toNat r10.1.2.2.2.1) (0:Int) - r10.2.1.1) * r10.1.2.2.1)) (100:Int))):Int),())));
                                                          Tr.test ((!eqF r14.2.1 0:Bool))
                                                            (Tr.fin (.ret (((false:Bool),()),((r10.2.1.1,(r10.2.1.2.1,())),()))))
                                                            (Tr.test (Option.isSome (f41 (r10.1.1,((r13.1.1,(r13.1.2.1,())),()))))
                                                              (let r15:=g41 (r10.1.1,((r13.1.1,(r13.1.2.1,())),()));
                                                              Tr.test ((!eqF r15.1 0:Bool))
                                                                (Tr.fin (.ret (((false:Bool),()),((r10.2.1.1,(r10.2.1.2.1,())),()))))
                                                                (Tr.test (Option.isSome (f24 ((r13.1.1,(r13.1.2.1,())),())))
                                                                  (let r16:=g24 ((r13.1.1,(r13.1.2.1,())),());
                                                                  Tr.test (Option.isSome (f27 (r11.1,((r16.1.1,(r16.1.2.1,())),((List.getD r10.1.2.1 (Int.toNat r10.1.2.2.2.1) (0:Int):Int),())))))
                                                                    (Tr.test (Option.isSome (f28 (r11.1,((r16.1.1,(r16.1.2.1,())),((List.getD r10.1.2.1 (Int.toNat r10.1.2.2.2.1) (0:Int):Int),())))))
                                                                      (let r17:=g27 (r11.1,((r16.1.1,(r16.1.2.1,())),((List.getD r10.1.2.1 (Int.toNat r10.1.2.2.2.1) (0:Int):Int),())));
                                                                      Tr.test ((!eqF r17.2.1 0:Bool))
                                                                        (Tr.fin (.ret (((false:Bool),()),((r10.2.1.1,(r10.2.1.2.1,())),()))))
                                                                        (let r18:=g28 (r11.1,((r16.1.1,(r16.1.2.1,())),((List.getD r10.1.2.1 (Int.toNat r10.1.2.2.2.1) (0:Int):Int),())));
                                                                        Tr.test ((!eqF r18.2.1 0:Bool))
                                                                          (Tr.fin (.ret (((false:Bool),()),((r10.2.1.1,(r10.2.1.2.1,())),()))))
                                                                          (Tr.test (Option.isSome (f31 ((r17.1.1,(r17.1.2.1,())),((r10.2.2.1.1,(r10.2.2.1.2.1,())),()))))
                                                                            (let r19:=g31 ((r17.1.1,(r17.1.2.1,())),((r10.2.2.1.1,(r10.2.2.1.2.1,())),()));
                                                                            Tr.test ((!r19.1:Bool))
                                                                              (Tr.fin (.ret (((false:Bool),()),((r10.2.1.1,(r10.2.1.2.1,())),()))))
                                                                              (Tr.test ((!eqF (wrap64 (r14.1.1 + r18.1.1)) r10.2.2.2.1.1:Bool))
                                                                                (Tr.fin (.ret (((false:Bool),()),((r10.2.1.1,(r10.2.1.2.1,())),()))))
                                                                                (Tr.test ((!eqF (wrap64 (r14.1.2.1 + r18.1.2.1)) r10.2.2.2.1.2.1:Bool))
                                                                                  (Tr.fin (.ret (((false:Bool),()),((r10.2.1.1,(r10.2.1.2.1,())),()))))
                                                                                  (Tr.test ((eqF r10.2.2.2.1.2.1 0:Bool))
                                                                                    (Tr.test (Option.isSome (f24 ((r10.2.2.1.1,(r10.2.2.1.2.1,())),())))
                                                                                      (let r20:=g24 ((r10.2.2.1.1,(r10.2.2.1.2.1,())),());
                                                                                      Tr.test (Option.isSome (f28 (r11.1,((r20.1.1,(r20.1.2.1,())),(r10.2.1.1,())))))
                                                                                        (let r21:=g28 (r11.1,((r20.1.1,(r20.1.2.1,())),(r10.2.1.1,())));
                                                                                        Tr.test ((!eqF r21.2.1 0:Bool))
                                                                                          (Tr.fin (.ret (((false:Bool),()),((r10.2.1.1,(r10.2.1.2.1,())),()))))
                                                                                          (Tr.test ((!eqF r21.1.1 (Go.IntKind.wrap Go.IntKind.i64 ((0:Int) - r10.2.2.2.1.1)):Bool))
                                                                                            (Tr.fin (.ret (((false:Bool),()),((r10.2.1.1,(r10.2.1.2.1,())),()))))
                                                                                            (Tr.test ((!eqF r21.1.2.1 0:Bool))
                                                                                              (Tr.fin (.ret (((false:Bool),()),((r10.2.1.1,(r10.2.1.2.1,())),()))))
                                                                                              (Tr.fin (.again ((r10.1.1,(r10.1.2.1,(r10.1.2.2.1,((wrap64 (r10.1.2.2.2.1 + (1:Int)):Int),())))),((r10.2.2.1.1,(r10.2.2.1.2.1,())),())))))))
                                                                                        (Tr.stop))
                                                                                      (Tr.stop))
                                                                                    (Tr.fin (.again ((r10.1.1,(r10.1.2.1,(r10.1.2.2.1,((wrap64 (r10.1.2.2.2.1 + (1:Int)):Int),())))),((r10.2.2.1.1,(r10.2.2.1.2.1,())),()))))))))
                                                                            (Tr.stop))))
                                                                      (Tr.stop))
                                                                    (Tr.stop))
                                                                  (Tr.stop)))
                                                              (Tr.stop))))
                                                        (Tr.stop))
                                                      (Tr.stop))
                                                    (Tr.stop))
                                                  (Tr.stop))
                                                (Tr.stop)))
                                            (Tr.stop)))))
                                    (Tr.stop))
                                  (Tr.stop))))
                            (Tr.stop)))))
                    (Tr.stop))
                  (Tr.stop))
                (Tr.stop))
              (Tr.stop))
            (Tr.stop)))
        (Tr.stop))
      (Tr.stop))
    (Tr.fin (.brk ((),((b0_0,(b0_1,())),()))))
def s6_0 (d:sh6_0.data):Option (Out sh6_0.data shb6_0.data shr6_0.data):=(t6_0 d.1.1 d.1.2.1 d.1.2.2.1 d.1.2.2.2.1 d.2.1.1 d.2.1.2.1).val
def l6_0 (d:sh6_0.data):Option (shb6_0.data ⊕ shr6_0.data):=itr s6_0 rounds d
def b6_0 (d:sh6_0.data):shb6_0.data:=outB shb6_0.dflt (l6_0 d)
def r6_0 (d:sh6_0.data):shr6_0.data:=outR shr6_0.dflt (l6_0 d)
def lc6_0:LoopC:=lcOf sh6_0 shb6_0 shr6_0 l6_0 b6_0 r6_0
theorem wk6_0n0 (x0:(List (Int×(Int×(Bool×Unit))))) (x1:(List Int)) (x2:Int) (x4:Int) (b0_0:Int) (b0_1:(List (Int×(Bool×Unit)))):Walks (runBody (kl6_2 Go.Proofs.Try.prog).orc Go.Proofs.Try.prog 400 6 0 sh6_0 shb6_0 shr6_0 ((x0,x1,x2,x4,()),(b0_0,b0_1,()),())) (t6_0 x0 x1 x2 x4 b0_0 b0_1) [(bl 4 15,[2,4,6,8]),(bl 10 1015,[1,1,1,1,1,1,1,1,1,1,1,1,1,1,1,1,1,2,2,2,4,18,10,12,6,18,10,12,8,10,12,14,16,18,20]),(bl 11 1527,[1,1,1,1,1,1,1,1,1,1,1,1,1,1,2,2,2,4,4,4,6,20,12,14,8,20,12,14,10,12,14,16,18,20,22]),(bl 12 2551,[1,1,1,1,1,1,1,1,1,2,2,2,2,2,4,4,4,6,6,6,8,22,14,16,10,22,14,16,12,14,16,18,20,22,24]),(bl 14 12791,[1,2,2,2,2,2,2,2,2,6,6,4,6,6,6,8,8,8,10,10,10,12,26,18,20,14,26,18,20,16,18,20,22,24,26,28]),(bl 15 20983,[2,4,4,4,28,4,4,4,4,4,8,8,6,8,8,8,10,10,10,12,12,12,14,28,20,22,16,28,20,22,18,20,22,24,26,28,30]),(bl 18 233975,[1,1,1,1,1,2,2,2,2,2,2,2,2,2,2,4,6,28,8,10,10,10,34,10,10,10,10,10,14,14,12,14,14,14,16,16,16,18,18,18,20,34,26,28,22,34,26,28,24,26,28,30,32,34,36]),(bl 19 365047,[1,2,2,2,2,4,4,4,4,4,4,4,4,4,4,6,8,30,10,12,12,12,36,12,12,12,12,12,16,16,14,16,16,16,18,18,18,20,20,20,22,36,28,30,24,36,28,30,26,28,30,32,34,36,38]),(bl 20 627191,[2,4,4,4,4,6,6,6,6,6,6,6,6,6,6,8,10,32,12,14,14,14,38,14,14,14,14,14,18,18,16,18,18,18,20,20,20,22,22,22,24,38,30,32,26,38,30,32,28,30,32,34,36,38,40]),(bl 22 3248631,[2,4,6,8,8,8,8,10,10,10,10,10,10,10,10,10,10,12,14,36,16,18,18,18,42,18,18,18,18,18,22,22,20,22,22,22,24,24,24,26,26,26,28,42,34,36,30,42,34,36,32,34,36,38,40,42,44]),(bl 28 265392631,[1,1,1,1,1,1,2,2,2,4,8,10,6,8,10,0,12,14,16,18,20,20,20,20,22,22,22,22,22,22,22,22,22,22,24,26,48,28,30,30,30,54,30,30,30,30,30,34,34,32,34,34,34,36,36,36,38,38,38,40,54,46,48,42,54,46,48,44,46,48,50,52,54,56]),(bl 29 399610359,[1,2,2,2,2,2,4,4,4,6,10,12,8,10,12,0,14,16,18,20,22,22,22,22,24,24,24,24,24,24,24,24,24,24,26,28,50,30,32,32,32,56,32,32,32,32,32,36,36,34,36,36,36,38,38,38,40,40,40,42,56,48,50,44,56,48,50,46,48,50,52,54,56,58]),(bl 31 1741787639,[2,6,6,4,6,6,6,8,8,8,10,14,16,12,14,16,0,18,20,22,24,26,26,26,26,28,28,28,28,28,28,28,28,28,28,30,32,54,34,36,36,36,60,36,36,36,36,36,40,40,38,40,40,40,42,42,42,44,44,44,46,60,52,54,48,60,52,54,50,52,54,56,58,60,62]),(bl 35 32880300535,[1,1,1,1,1,1,1,1,1,1,1,1,1,1,1,1,1,1,1,1,1,1,1,1,2,2,2,4,26,8,24,6,26,8,24,10,14,14,12,14,14,14,16,16,16,18,22,24,20,22,24,0,26,28,30,32,34,34,34,34,36,36,36,36,36,36,36,36,36,36,38,40,62,42,44,44,44,68,44,44,44,44,44,48,48,46,48,48,48,50,50,50,52,52,52,54,68,60,62,56,68,60,62,58,60,62,64,66,68,70]),(bl 36 50060169719,[1,1,1,1,1,1,1,1,1,1,1,1,1,1,1,1,1,1,1,2,2,2,2,2,4,4,4,6,28,10,26,8,28,10,26,12,16,16,14,16,16,16,18,18,18,20,24,26,22,24,26,0,28,30,32,34,36,36,36,36,38,38,38,38,38,38,38,38,38,38,40,42,64,44,46,46,46,70,46,46,46,46,46,50,50,48,50,50,50,52,52,52,54,54,54,56,70,62,64,58,70,62,64,60,62,64,66,68,70,72]),(bl 38 221858861559,[1,1,1,1,1,1,1,1,1,1,2,2,2,2,2,2,2,2,2,6,6,4,6,6,6,8,8,8,10,32,14,30,12,32,14,30,16,20,20,18,20,20,20,22,22,22,24,28,30,26,28,30,0,32,34,36,38,40,40,40,40,42,42,42,42,42,42,42,42,42,42,44,46,68,48,50,50,50,74,50,50,50,50,50,54,54,52,54,54,54,56,56,56,58,58,58,60,74,66,68,62,74,66,68,64,66,68,70,72,74,76])] :=
  ⟨by kernel_rfl,by kernel_rfl,by kernel_rfl,by kernel_rfl,by kernel_rfl,by kernel_rfl,by kernel_rfl,by kernel_rfl,by kernel_rfl,by kernel_rfl,by kernel_rfl,by kernel_rfl,by kernel_rfl,by kernel_rfl,by kernel_rfl,by kernel_rfl,trivial⟩
theorem wk6_0n1 (x0:(List (Int×(Int×(Bool×Unit))))) (x1:(List Int)) (x2:Int) (x4:Int) (b0_0:Int) (b0_1:(List (Int×(Bool×Unit)))):Walks (runBody (kl6_2 Go.Proofs.Try.prog).orc Go.Proofs.Try.prog 400 6 0 sh6_0 shb6_0 shr6_0 ((x0,x1,x2,x4,()),(b0_0,b0_1,()),())) (t6_0 x0 x1 x2 x4 b0_0 b0_1) [(bl 39 359297815031,[1,2,2,2,2,2,2,2,2,2,4,4,4,4,4,4,4,4,4,8,8,6,8,8,8,10,10,10,12,34,16,32,14,34,16,32,18,22,22,20,22,22,22,24,24,24,26,30,32,28,30,32,0,34,36,38,40,42,42,42,42,44,44,44,44,44,44,44,44,44,44,46,48,70,50,52,52,52,76,52,52,52,52,52,56,56,54,56,56,56,58,58,58,60,60,60,62,76,68,70,64,76,68,70,66,68,70,72,74,76,78]),(bl 40 634175721975,[2,4,4,4,4,4,4,4,4,4,6,6,6,6,6,6,6,6,6,10,10,8,10,10,10,12,12,12,14,36,18,34,16,36,18,34,20,24,24,22,24,24,24,26,26,26,28,32,34,30,32,34,0,36,38,40,42,44,44,44,44,46,46,46,46,46,46,46,46,46,46,48,50,72,52,54,54,54,78,54,54,54,54,54,58,58,56,58,58,58,60,60,60,62,62,62,64,78,70,72,66,78,70,72,68,70,72,74,76,78,80]),(bl 44 16577094324727,[1,1,1,1,1,2,2,2,2,2,2,2,4,6,42,8,10,12,12,12,12,12,12,12,12,12,14,14,14,14,14,14,14,14,14,18,18,16,18,18,18,20,20,20,22,44,26,42,24,44,26,42,28,32,32,30,32,32,32,34,34,34,36,40,42,38,40,42,0,44,46,48,50,52,52,52,52,54,54,54,54,54,54,54,54,54,54,56,58,80,60,62,62,62,86,62,62,62,62,62,66,66,64,66,66,66,68,68,68,70,70,70,72,86,78,80,74,86,78,80,76,78,80,82,84,86,88]),(bl 45 25373187346935,[1,2,2,2,2,4,4,4,4,4,4,4,6,8,44,10,12,14,14,14,14,14,14,14,14,14,16,16,16,16,16,16,16,16,16,20,20,18,20,20,20,22,22,22,24,46,28,44,26,46,28,44,30,34,34,32,34,34,34,36,36,36,38,42,44,40,42,44,0,46,48,50,52,54,54,54,54,56,56,56,56,56,56,56,56,56,56,58,60,82,62,64,64,64,88,64,64,64,64,64,68,68,66,68,68,68,70,70,70,72,72,72,74,88,80,82,76,88,80,82,78,80,82,84,86,88,90]),(bl 46 42965373391351,[2,4,4,4,4,6,6,6,6,6,6,6,8,10,46,12,14,16,16,16,16,16,16,16,16,16,18,18,18,18,18,18,18,18,18,22,22,20,22,22,22,24,24,24,26,48,30,46,28,48,30,46,32,36,36,34,36,36,36,38,38,38,40,44,46,42,44,46,0,48,50,52,54,56,56,56,56,58,58,58,58,58,58,58,58,58,58,60,62,84,64,66,66,66,90,66,66,66,66,66,70,70,68,70,70,70,72,72,72,74,74,74,76,90,82,84,78,90,82,84,80,82,84,86,88,90,92]),(bl 46 7781001302519,[2,4,4,4,4,6,6,6,6,6,6,6,8,10,46,12,14,16,16,16,16,16,16,16,16,16,18,18,18,18,18,18,18,18,18,22,22,20,22,22,22,24,24,24,26,48,30,46,28,48,30,46,32,36,36,34,36,36,36,38,38,38,40,44,46,42,44,46,0,48,50,52,54,56,56,56,56,58,58,58,58,58,58,58,58,58,58,60,62,84,64,66,66,66,90,66,66,66,66,66,70,70,68,70,70,70,72,72,72,74,74,74,76,90,82,84,78,90,82,84,80,82,84,86,88,90,92]),(bl 41 84419908087,[2,4,6,6,6,6,6,6,6,6,6,8,8,8,8,8,8,8,8,8,12,12,10,12,12,12,14,14,14,16,38,20,36,18,38,20,36,22,26,26,24,26,26,26,28,28,28,30,34,36,32,34,36,0,38,40,42,44,46,46,46,46,48,48,48,48,48,48,48,48,48,48,50,52,74,54,56,56,56,80,56,56,56,56,56,60,60,58,60,60,60,62,62,62,64,64,64,66,80,72,74,68,80,72,74,70,72,74,76,78,80,82]),(bl 1 0,[2])] :=
  ⟨by kernel_rfl,by kernel_rfl,by kernel_rfl,by kernel_rfl,by kernel_rfl,by kernel_rfl,by kernel_rfl,by kernel_rfl,trivial⟩
theorem ok6_0_t (x0:(List (Int×(Int×(Bool×Unit))))) (x1:(List Int)) (x2:Int) (x4:Int) (b0_0:Int) (b0_1:(List (Int×(Bool×Unit)))):TrOk (BodyRuns Go.Proofs.Try.prog (kl6_2 Go.Proofs.Try.prog).orc 6 0 sh6_0 shb6_0 shr6_0 ((x0,x1,x2,x4,()),(b0_0,b0_1,()),())) (t6_0 x0 x1 x2 x4 b0_0 b0_1) :=
  Walks.ok (fun _ _ _=>BodyRuns.of) ((wk6_0n0 x0 x1 x2 x4 b0_0 b0_1).append (wk6_0n1 x0 x1 x2 x4 b0_0 b0_1)) (by kernel_rfl)
theorem ok6_0:LoopOk Go.Proofs.Try.prog 6 0 lc6_0:=loopOk_of (sh:=sh6_0) (shB:=shb6_0) (shR:=shr6_0) kl6_2_ok.base (T:=fun (d:sh6_0.data)=>t6_0 d.1.1 d.1.2.1 d.1.2.2.1 d.1.2.2.2.1 d.2.1.1 d.2.1.2.1) (by kernel_rfl) rfl (fun (d:sh6_0.data)=>ok6_0_t d.1.1 d.1.2.1 d.1.2.2.1 d.1.2.2.2.1 d.2.1.1 d.2.1.2.1) (fun _=>rfl)
def kl6_0 (P:Go.Program):Known:=(kl6_2 P).loop 6 0 lc6_0
theorem kl6_0_ok:KnownOk Go.Proofs.Try.prog (kl6_0 Go.Proofs.Try.prog):=kl6_2_ok.loop ok6_0
abbrev as6:List Ty:=[(.slice (.pair (.int .i64) (.pair (.int .i64) (.pair .bool .unit)))),(.slice (.int .i64)),(.int .i64)]
abbrev rs6:List Ty:=[.bool]
def t6 (x0:(List (Int×(Int×(Bool×Unit))))) (x1:(List Int)) (x2:Int):Tr (Tys.data rs6) :=
  Tr.test ((!leF (↑(List.length x0):Int) (4:Int):Bool))
    (Tr.fin ((true,())))
    (Tr.test (!leF (↑(List.length x1):Int) (20:Int))
      (Tr.fin (((true:Bool),())))
      (Tr.test (Option.isSome (f39 (x0,())))
        (let r0:=g39 (x0,());
        Tr.test ((!eqF r0.1 0:Bool))
          (Tr.fin (((true:Bool),())))
          (Tr.test (Option.isSome (f40 (x2,((0:Int),((100:Int),())))))
            (let r1:=g40 (x2,((0:Int),((100:Int),())));
            Tr.test ((!r1.1:Bool))
              (Tr.fin (((true:Bool),())))
              (Tr.test (Option.isSome (f35 (x0,())))
                (let r2:=g35 (x0,());
                Tr.test (Option.isSome (l6_0 ((x0,(x1,(x2,((0:Int),())))),((r2.1.1,(r2.1.2.1,())),()))))
                  (Tr.test (isRet (l6_0 ((x0,(x1,(x2,((0:Int),())))),((r2.1.1,(r2.1.2.1,())),()))))
                    (let r3:=r6_0 ((x0,(x1,(x2,((0:Int),())))),((r2.1.1,(r2.1.2.1,())),()));
                    Tr.fin ((r3.1.1,())))
                    (Tr.fin (((true:Bool),()))))
                  (Tr.stop))
                (Tr.stop)))
            (Tr.stop)))
        (Tr.stop)))
def f6 (d:Tys.data as6):Option (Tys.data rs6):=(t6 d.1 d.2.1 d.2.2.1).val
def g6 (d:Tys.data as6):Tys.data rs6:=(f6 d).getD (Tys.dflt rs6)
def p6:PureC:=pcOf as6 rs6 f6 g6
theorem wk6 (x0:(List (Int×(Int×(Bool×Unit))))) (x1:(List Int)) (x2:Int):Walks (runPure (kl6_0 Go.Proofs.Try.prog).orc Go.Proofs.Try.prog 400 6 as6 rs6 (x0,x1,x2,())) (t6 x0 x1 x2) [(bl 1 1,[1,1,1,1,1,1,1,1,1,2,2,2,2,0,1]),(bl 2 2,[1,1,1,1,1,2,2,2,2,4,4,4,4,0,1]),(bl 4 12,[1,2,2,2,2,6,6,4,6,6,8,8,8,8,0,1]),(bl 6 52,[2,6,6,4,6,6,10,10,8,10,10,12,12,12,12,0,1]),(bl 9 468,[2,4,6,8,12,12,10,12,12,16,16,14,16,16,18,18,18,18,0,1]),(bl 9 212,[2,4,6,8,12,12,10,12,12,16,16,14,16,16,18,18,18,18,0,1])] :=
  ⟨by kernel_rfl,by kernel_rfl,by kernel_rfl,by kernel_rfl,by kernel_rfl,by kernel_rfl,trivial⟩
theorem ok6_t (x0:(List (Int×(Int×(Bool×Unit))))) (x1:(List Int)) (x2:Int):TrOk (PureRuns Go.Proofs.Try.prog (kl6_0 Go.Proofs.Try.prog).orc 6 as6 rs6 (x0,x1,x2,())) (t6 x0 x1 x2) :=
  Walks.ok (fun _ _ _=>PureRuns.of) (wk6 x0 x1 x2) (by kernel_rfl)
theorem ok6:PureOk Go.Proofs.Try.prog 6 p6:=pureOk_of kl6_0_ok.base (T:=fun (d:Tys.data as6)=>t6 d.1 d.2.1 d.2.2.1) (by kernel_rfl) (fun (d:Tys.data as6)=>ok6_t d.1 d.2.1 d.2.2.1)
end Go.Vm.Mo
