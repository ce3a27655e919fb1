import Derived.Test.YtlaojojnembodaaA5
import Derived.KernelRfl
import Derived.Test.YtlaojojnembodaaProg
import Derived.Test.YtlaojojnembodaaRsFa
set_option linter.unusedVariables false
set_option linter.unusedSimpArgs false

namespace Go.Vm.Mo
open Go
set_option linter.unusedVariables false
abbrev as100:List Ty:=[(.pair (.slice (.pair (.int .i64) (.pair (.int .i64) (.pair .bool .unit)))) (.pair (.pair (.int .i64) (.pair (.slice (.pair (.int .i64) (.pair .bool .unit))) .unit)) .unit)),(.int .i64)]
abbrev rs100:List Ty:=[(.pair (.slice (.pair (.int .i64) (.pair (.int .i64) (.pair .bool .unit)))) (.pair (.pair (.int .i64) (.pair (.slice (.pair (.int .i64) (.pair .bool .unit))) .unit)) .unit))]
def t100 (x0:(List (Int×(Int×(Bool×Unit))))) (x0'_:Int) (x0'_':(List (Int×(Bool×Unit)))) (x1:Int):Tr (Tys.data rs100) :=
  Tr.test (qbh (l129_0_1 ((x0'_',((↑(List.length x0'_'):Int),((0:Int),()))),((),((x0,(x0'_,(x0'_',()))),((x1,()),((x0,(x1,(([]:List (Int×Bool×PUnit)),()))),())))))))
    (let r0:=b129_0_1 ((x0'_',((↑(List.length x0'_'):Int),((0:Int),()))),((),((x0,(x0'_,(x0'_',()))),((x1,()),((x0,(x1,(([]:List (Int×Bool×PUnit)),()))),())))));
    Tr.fin (((r0.2.2.2.2.1.1,((r0.2.2.2.2.1.2.1,(r0.2.2.2.2.1.2.2.1,())),())),())))
    (Tr.stop)
def f100 (d:Tys.data as100):Option (Tys.data rs100):=(t100 d.1.1 d.1.2.1.1 d.1.2.1.2.1 d.2.1).val
def g100 (d:Tys.data as100):Tys.data rs100:=(f100 d).getD (Tys.dflt rs100)
def p100:PureC:=pcOf as100 rs100 f100 g100
theorem e100_0 (x0:(List (Int×(Int×(Bool×Unit))))) (x0'_:Int) (x0'_':(List (Int×(Bool×Unit)))) (x1:Int):runPure (kl129_0_1 Proofs.Try.prog).orc Proofs.Try.prog 400 100 as100 rs100 ((x0,(x0'_,x0'_',()),()),x1,()) [tt,tt,tt] =
    (let r0:=b129_0_1 ((x0'_',((↑(List.length x0'_'):Int),((0:Int),()))),((),((x0,(x0'_,(x0'_',()))),((x1,()),((x0,(x1,(([]:List (Int×Bool×PUnit)),()))),()))))); some (((r0.2.2.2.2.1.1,((r0.2.2.2.2.1.2.1,(r0.2.2.2.2.1.2.2.1,())),())),()),[(true,true),(qbh (l129_0_1 ((x0'_',((↑(List.length x0'_'):Int),((0:Int),()))),((),((x0,(x0'_,(x0'_',()))),((x1,()),((x0,(x1,(([]:List (Int×Bool×PUnit)),()))),())))))),true),(qaZ Proofs.Try.prog (nat_lit 100) (nat_lit 0),true)])):=by kernel_rfl
theorem ok100_t (x0:(List (Int×(Int×(Bool×Unit))))) (x0'_:Int) (x0'_':(List (Int×(Bool×Unit)))) (x1:Int):TrOk (PureRuns Proofs.Try.prog (kl129_0_1 Proofs.Try.prog).orc 100 as100 rs100 ((x0,(x0'_,x0'_',()),()),x1,())) (t100 x0 x0'_ x0'_' x1) :=
  TrOk.ofTest (fun h1=>TrOk.ofFin (PureRuns.of (e100_0 x0 x0'_ x0'_' x1) (ac rfl (ac h1 (ac (sc100_0) All.nil))))) (fun h1=>TrOk.ofStop)
theorem ok100:PureOk Proofs.Try.prog 100 p100:=qab kl129_0_1_ok.base (T:=fun (d:Tys.data as100)=>t100 d.1.1 d.1.2.1.1 d.1.2.1.2.1 d.2.1) (by kernel_rfl) (fun (d:Tys.data as100)=>ok100_t d.1.1 d.1.2.1.1 d.1.2.1.2.1 d.2.1)
def kf100 (P:Go.Program):Known:=(kl129_0_1 P).func 100 p100
theorem kf100_ok:KnownOk Proofs.Try.prog (kf100 Proofs.Try.prog):=kl129_0_1_ok.func ok100
theorem sc117_0:qaZ Proofs.Try.prog 117 0 = true:=qdC (by kernel_rfl)
abbrev sh138_0 (P:Go.Program):Sh:={ n:=70,slots:=[0,1,2,15,16,17],pats:=[.yld 0,.ptr 1 4 0,.ptr 2 1 0,.ty (.slice (.pair (.int .i64) (.pair (.int .i64) (.pair (.slice (.pair (.int .i64) (.pair (.int .i64) (.pair .bool .unit)))) .unit)))),.ty (.int .i64),.ty (.int .i64)],boxes:=[.lp (lpOf P 117 0 .ready none 59 [6] 3) [.ptr 4 3 0],.row [.ty (.slice (.pair (.int .i64) (.pair (.int .i64) (.pair (.slice (.pair (.int .i64) (.pair (.int .i64) (.pair .bool .unit)))) .unit)))),.ty (.slice (.int .i64)),.ty (.slice (.int .i64)),.ty (.slice (.pair (.int .i64) (.pair (.slice (.pair (.int .i64) (.pair .bool .unit))) .unit)))],.row [.ty (.int .i64)],.dfr,.row [.acc (.int .i64),.ty (.slice (.int .i64)),.nil]] }
abbrev shb138_0 (P:Go.Program):Sh:={ n:=70,slots:=[],pats:=[],boxes:=[.lp (lpOf P 117 0 .ready none 59 [6] 3) [.ptr 4 3 0],.row [.ty (.slice (.pair (.int .i64) (.pair (.int .i64) (.pair (.slice (.pair (.int .i64) (.pair (.int .i64) (.pair .bool .unit)))) .unit)))),.ty (.slice (.int .i64)),.ty (.slice (.int .i64)),.ty (.slice (.pair (.int .i64) (.pair (.slice (.pair (.int .i64) (.pair .bool .unit))) .unit)))],.row [.ty (.int .i64)],.dfr,.row [.acc (.int .i64),.ty (.slice (.int .i64)),.nil]] }
abbrev shr138_0 (P:Go.Program):Sh:={ n:=70,slots:=[],pats:=[],boxes:=[.lp (lpOf P 117 0 .ready none 59 [6] 3) [.ptr 4 3 0],.row [.ty (.slice (.pair (.int .i64) (.pair (.int .i64) (.pair (.slice (.pair (.int .i64) (.pair (.int .i64) (.pair .bool .unit)))) .unit)))),.ty (.slice (.int .i64)),.ty (.slice (.int .i64)),.ty (.slice (.pair (.int .i64) (.pair (.slice (.pair (.int .i64) (.pair .bool .unit))) .unit)))],.row [.ty (.int .i64)],.dfr,.row [.acc (.int .i64),.ty (.slice (.int .i64)),.nil]] }
abbrev dt138_0:Type:=(List (Int×Int×List (Int×Int×Bool×PUnit)×PUnit)×Int×Int×PUnit)×PUnit×(List (Int×Int×List (Int×Int×Bool×PUnit)×PUnit)×List Int×List Int×List (Int×List (Int×Bool×PUnit)×PUnit)×PUnit)×(Int×PUnit)×(List Int×List Int×PUnit)×PUnit
abbrev db138_0:Type:=PUnit×PUnit×(List (Int×Int×List (Int×Int×Bool×PUnit)×PUnit)×List Int×List Int×List (Int×List (Int×Bool×PUnit)×PUnit)×PUnit)×(Int×PUnit)×(List Int×List Int×PUnit)×PUnit
abbrev dr138_0:Type:=PUnit×PUnit×(List (Int×Int×List (Int×Int×Bool×PUnit)×PUnit)×List Int×List Int×List (Int×List (Int×Bool×PUnit)×PUnit)×PUnit)×(Int×PUnit)×(List Int×List Int×PUnit)×PUnit
def t138_0 (x3:(List (Int×(Int×((List (Int×(Int×(Bool×Unit))))×Unit))))) (x4:Int) (x5:Int) (b1_0:(List (Int×(Int×((List (Int×(Int×(Bool×Unit))))×Unit))))) (b1_1:(List Int)) (b1_2:(List Int)) (b1_3:(List (Int×((List (Int×(Bool×Unit)))×Unit)))) (b2_0:Int) (b4_0:(List Int)) (b4_1:(List Int)):Tr (Out dt138_0 db138_0 dr138_0) :=
  Tr.test ((!leF x4 x5:Bool))
    (Tr.test (decide ((0:Int) ≤ x5) && decide (x5 < (↑(List.length x3):Int)))
      (Tr.test ((decide ((0:Int) ≤ x5) && decide (x5 < (↑(List.length b1_2):Int)):Bool))
        (Tr.test ((decide ((0:Int) ≤ x5) && decide (x5 < (↑(List.length b1_1):Int)):Bool))
          (Tr.test (Option.isSome (f139 ((((b1_0,()),()),((b1_1,(b1_2,(b1_3,()))),())),((wrap64 (x5 + (1:Int)):Int),()))))
            (Tr.test (Option.isSome (f139 ((((b1_0,()),()),((b1_1,(b1_2,(b1_3,()))),())),(x5,()))))
              (let r0:=g139 ((((b1_0,()),()),((b1_1,(b1_2,(b1_3,()))),())),((wrap64 (x5 + (1:Int)):Int),()));
              let r1:=g139 ((((b1_0,()),()),((b1_1,(b1_2,(b1_3,()))),())),(x5,()));
              Tr.test (Option.isSome (f140 ((wrap64 (r0.1 - r1.1):Int),(((List.getD x3 (Int.toNat x5) ((0:Int),(0:Int),[],())).1:Int),()))))
                (Tr.test ((Nat.ble (((2:Nat) * (List.length b4_0 + (1:Nat)) + (192:Nat)) * (8:Nat)) (281474976710656:Nat) && Nat.ble (List.length b4_0 + (1:Nat)) (281474976710656:Nat):Bool))
                  (let r2:=g140 ((wrap64 (r0.1 - r1.1):Int),(((List.getD x3 (Int.toNat x5) ((0:Int),(0:Int),[],())).1:Int),()));
                  Tr.fin (.again ((x3,(x4,((wrap64 (x5 + (1:Int)):Int),()))),((),((b1_0,(b1_1,(b1_2,(b1_3,())))),((b2_0,()),(((b4_0++[wrap64 (wrap64 (wrap64 (wrap64 ((2:Int) * List.getD b1_1 (Int.toNat x5) (0:Int)) - List.getD b1_2 (Int.toNat x5) (0:Int)) + r2.1) - b2_0)]:List Int),(b4_1,())),())))))))
                  (Tr.stop))
                (Tr.stop))
              (Tr.stop))
            (Tr.stop))
          (Tr.stop))
        (Tr.stop))
      (Tr.stop))
    (Tr.fin (.brk ((),((),((b1_0,(b1_1,(b1_2,(b1_3,())))),((b2_0,()),((b4_0,(b4_1,())),())))))))
def s138_0 (d:dt138_0):Option (Out dt138_0 db138_0 dr138_0):=(t138_0 d.1.1 d.1.2.1 d.1.2.2.1 d.2.2.1.1 d.2.2.1.2.1 d.2.2.1.2.2.1 d.2.2.1.2.2.2.1 d.2.2.2.1.1 d.2.2.2.2.1.1 d.2.2.2.2.1.2.1).val
def l138_0 (d:dt138_0):Option (db138_0 ⊕ dr138_0):=itr s138_0 rounds d
def b138_0 (d:dt138_0):db138_0:=outB (((),((),((([]:List (Int×Int×List (Int×Int×Bool×PUnit)×PUnit)),(([]:List Int),(([]:List Int),(([]:List (Int×List (Int×Bool×PUnit)×PUnit)),())))),(((0:Int),()),((([]:List Int),(([]:List Int),())),())))))) (l138_0 d)
def lc138_0 (P:Go.Program):LoopC:=lcB (sh138_0 P) (shb138_0 P) (shr138_0 P) l138_0 b138_0
theorem e138_0_0 (x3:(List (Int×(Int×((List (Int×(Int×(Bool×Unit))))×Unit))))) (x4:Int) (x5:Int) (b1_0:(List (Int×(Int×((List (Int×(Int×(Bool×Unit))))×Unit))))) (b1_1:(List Int)) (b1_2:(List Int)) (b1_3:(List (Int×((List (Int×(Bool×Unit)))×Unit)))) (b2_0:Int) (b4_0:(List Int)) (b4_1:(List Int)):qal (kf100 Proofs.Try.prog).orc Proofs.Try.prog 400 138 0 (sh138_0 Proofs.Try.prog) (shb138_0 Proofs.Try.prog) (shr138_0 Proofs.Try.prog) ((x3,x4,x5,()),(),(b1_0,b1_1,b1_2,b1_3,()),(b2_0,()),(b4_0,b4_1,()),()) [tt,tt,tt,tt,tt,tt,tt,tt,tt,ff] =
    (let r0:=g139 ((((b1_0,()),()),((b1_1,(b1_2,(b1_3,()))),())),((wrap64 (x5 + (1:Int)):Int),()));let r1:=g139 ((((b1_0,()),()),((b1_1,(b1_2,(b1_3,()))),())),(x5,()));let r2:=g140 ((wrap64 (r0.1 - r1.1):Int),(((List.getD x3 (Int.toNat x5) ((0:Int),(0:Int),[],())).1:Int),())); some (.again ((x3,(x4,((wrap64 (x5 + (1:Int)):Int),()))),((),((b1_0,(b1_1,(b1_2,(b1_3,())))),((b2_0,()),(((b4_0++[wrap64 (wrap64 (wrap64 (wrap64 ((2:Int) * List.getD b1_1 (Int.toNat x5) (0:Int)) - List.getD b1_2 (Int.toNat x5) (0:Int)) + r2.1) - b2_0)]:List Int),(b4_1,())),()))))),[(qaZ Proofs.Try.prog (nat_lit 117) (nat_lit 0),true),(false,false),(Nat.ble (((2:Nat) * (List.length b4_0 + (1:Nat)) + (192:Nat)) * (8:Nat)) (281474976710656:Nat) && Nat.ble (List.length b4_0 + (1:Nat)) (281474976710656:Nat),true),(true,true),(Option.isSome (f140 ((wrap64 (r0.1 - r1.1):Int),(((List.getD x3 (Int.toNat x5) ((0:Int),(0:Int),[],())).1:Int),()))),true),(Option.isSome (f139 ((((b1_0,()),()),((b1_1,(b1_2,(b1_3,()))),())),(x5,()))),true),(Option.isSome (f139 ((((b1_0,()),()),((b1_1,(b1_2,(b1_3,()))),())),((wrap64 (x5 + (1:Int)):Int),()))),true),(decide ((0:Int) ≤ x5) && decide (x5 < (↑(List.length b1_1):Int)),true),(decide ((0:Int) ≤ x5) && decide (x5 < (↑(List.length b1_2):Int)),true),(decide ((0:Int) ≤ x5) && decide (x5 < (↑(List.length x3):Int)),true),(!leF x4 x5,true)])):=by kernel_rfl
theorem e138_0_5 (x3:(List (Int×(Int×((List (Int×(Int×(Bool×Unit))))×Unit))))) (x4:Int) (x5:Int) (b1_0:(List (Int×(Int×((List (Int×(Int×(Bool×Unit))))×Unit))))) (b1_1:(List Int)) (b1_2:(List Int)) (b1_3:(List (Int×((List (Int×(Bool×Unit)))×Unit)))) (b2_0:Int) (b4_0:(List Int)) (b4_1:(List Int)):qal (kf100 Proofs.Try.prog).orc Proofs.Try.prog 400 138 0 (sh138_0 Proofs.Try.prog) (shb138_0 Proofs.Try.prog) (shr138_0 Proofs.Try.prog) ((x3,x4,x5,()),(),(b1_0,b1_1,b1_2,b1_3,()),(b2_0,()),(b4_0,b4_1,()),()) [ff] =
    (some (.brk ((),((),((b1_0,(b1_1,(b1_2,(b1_3,())))),((b2_0,()),((b4_0,(b4_1,())),()))))),[(qaZ Proofs.Try.prog (nat_lit 117) (nat_lit 0),true),(!leF x4 x5,false)])):=by kernel_rfl
theorem ok138_0_t (x3:(List (Int×(Int×((List (Int×(Int×(Bool×Unit))))×Unit))))) (x4:Int) (x5:Int) (b1_0:(List (Int×(Int×((List (Int×(Int×(Bool×Unit))))×Unit))))) (b1_1:(List Int)) (b1_2:(List Int)) (b1_3:(List (Int×((List (Int×(Bool×Unit)))×Unit)))) (b2_0:Int) (b4_0:(List Int)) (b4_1:(List Int)):TrOk (BodyRuns Proofs.Try.prog (kf100 Proofs.Try.prog).orc 138 0 (sh138_0 Proofs.Try.prog) (shb138_0 Proofs.Try.prog) (shr138_0 Proofs.Try.prog) ((x3,x4,x5,()),(),(b1_0,b1_1,b1_2,b1_3,()),(b2_0,()),(b4_0,b4_1,()),())) (t138_0 x3 x4 x5 b1_0 b1_1 b1_2 b1_3 b2_0 b4_0 b4_1) :=
  TrOk.ofTest (fun h0=>TrOk.ofTest (fun h1=>TrOk.ofTest (fun h2=>TrOk.ofTest (fun h3=>TrOk.ofTest (fun h4=>TrOk.ofTest (fun h5=>TrOk.ofTest (fun h6=>TrOk.ofTest (fun h8=>TrOk.ofFin (BodyRuns.of (e138_0_0 x3 x4 x5 b1_0 b1_1 b1_2 b1_3 b2_0 b4_0 b4_1) (ac (sc117_0) (ac rfl (ac h8 (ac rfl (ac h6 (ac h5 (ac h4 (ac h3 (ac h2 (ac h1 (ac h0 All.nil))))))))))))) (fun h8=>TrOk.ofStop)) (fun h6=>TrOk.ofStop)) (fun h5=>TrOk.ofStop)) (fun h4=>TrOk.ofStop)) (fun h3=>TrOk.ofStop)) (fun h2=>TrOk.ofStop)) (fun h1=>TrOk.ofStop)) (fun h0=>TrOk.ofFin (BodyRuns.of (e138_0_5 x3 x4 x5 b1_0 b1_1 b1_2 b1_3 b2_0 b4_0 b4_1) (ac (sc117_0) (ac h0 All.nil))))
theorem ok138_0:qau Proofs.Try.prog 138 0 (lc138_0 Proofs.Try.prog):=qay (sh:=(sh138_0 Proofs.Try.prog)) (shB:=(shb138_0 Proofs.Try.prog)) (shR:=(shr138_0 Proofs.Try.prog)) kf100_ok.base (T:=fun (d:dt138_0)=>t138_0 d.1.1 d.1.2.1 d.1.2.2.1 d.2.2.1.1 d.2.2.1.2.1 d.2.2.1.2.2.1 d.2.2.1.2.2.2.1 d.2.2.2.1.1 d.2.2.2.2.1.1 d.2.2.2.2.1.2.1) (by kernel_rfl) rfl (fun (d:dt138_0)=>ok138_0_t d.1.1 d.1.2.1 d.1.2.2.1 d.2.2.1.1 d.2.2.1.2.1 d.2.2.1.2.2.1 d.2.2.1.2.2.2.1 d.2.2.2.1.1 d.2.2.2.2.1.1 d.2.2.2.2.1.2.1) (fun _=>rfl)
def kl138_0 (P:Go.Program):Known:=(kf100 P).loop 138 0 (lc138_0 P)
theorem kl138_0_ok:KnownOk Proofs.Try.prog (kl138_0 Proofs.Try.prog):=kf100_ok.loop ok138_0
theorem sc117_1:qaZ Proofs.Try.prog 117 1 = true:=qdC (by kernel_rfl)
abbrev sh136_0 (P:Go.Program):Sh:={ n:=22,slots:=[0,3,6,7,8],pats:=[.yld 0,.ty (.int .i64),.ty (.slice (.int .i64)),.ty (.int .i64),.ty (.int .i64)],boxes:=[.lp (lpOf P 117 1 .ready none 59 [2,4,5,6] 1) [.ptr 2 4 0,.ptr 3 4 0,.ptr 4 1 0,.ptr 5 3 0],.dfr,.row [.ty (.slice (.pair (.int .i64) (.pair (.int .i64) (.pair (.slice (.pair (.int .i64) (.pair (.int .i64) (.pair .bool .unit)))) .unit)))),.ty (.slice (.int .i64)),.ty (.slice (.int .i64)),.ty (.slice (.pair (.int .i64) (.pair (.slice (.pair (.int .i64) (.pair .bool .unit))) .unit)))],.row [.nil,.nil,.nil,.nil],.row [.ty (.int .i64)],.row [.acc (.int .i64),.ty (.slice (.int .i64)),.acc (.pair (.int .i64) (.pair (.slice (.pair (.int .i64) (.pair .bool .unit))) .unit))]] }
abbrev shb136_0 (P:Go.Program):Sh:={ n:=22,slots:=[],pats:=[],boxes:=[.lp (lpOf P 117 1 .ready none 59 [2,4,5,6] 1) [.ptr 2 4 0,.ptr 3 4 0,.ptr 4 1 0,.ptr 5 3 0],.dfr,.row [.ty (.slice (.pair (.int .i64) (.pair (.int .i64) (.pair (.slice (.pair (.int .i64) (.pair (.int .i64) (.pair .bool .unit)))) .unit)))),.ty (.slice (.int .i64)),.ty (.slice (.int .i64)),.ty (.slice (.pair (.int .i64) (.pair (.slice (.pair (.int .i64) (.pair .bool .unit))) .unit)))],.row [.nil,.nil,.nil,.nil],.row [.ty (.int .i64)],.row [.acc (.int .i64),.ty (.slice (.int .i64)),.acc (.pair (.int .i64) (.pair (.slice (.pair (.int .i64) (.pair .bool .unit))) .unit))]] }
abbrev shr136_0 (P:Go.Program):Sh:={ n:=22,slots:=[],pats:=[],boxes:=[.lp (lpOf P 117 1 .done (some none) 59 [2,4,5,6] 1) [.ptr 2 4 0,.ptr 3 4 0,.ptr 4 1 0,.ptr 5 3 0],.dfr,.row [.ty (.slice (.pair (.int .i64) (.pair (.int .i64) (.pair (.slice (.pair (.int .i64) (.pair (.int .i64) (.pair .bool .unit)))) .unit)))),.ty (.slice (.int .i64)),.ty (.slice (.int .i64)),.ty (.slice (.pair (.int .i64) (.pair (.slice (.pair (.int .i64) (.pair .bool .unit))) .unit)))],.row [.nil,.nil,.nil,.nil],.row [.ty (.int .i64)],.row [.acc (.int .i64),.ty (.slice (.int .i64)),.acc (.pair (.int .i64) (.pair (.slice (.pair (.int .i64) (.pair .bool .unit))) .unit))]] }
abbrev dt136_0:Type:=(Int×List Int×Int×Int×PUnit)×PUnit×(List (Int×Int×List (Int×Int×Bool×PUnit)×PUnit)×List Int×List Int×List (Int×List (Int×Bool×PUnit)×PUnit)×PUnit)×PUnit×(Int×PUnit)×(List Int×List Int×List (Int×List (Int×Bool×PUnit)×PUnit)×PUnit)×PUnit
abbrev db136_0:Type:=PUnit×PUnit×(List (Int×Int×List (Int×Int×Bool×PUnit)×PUnit)×List Int×List Int×List (Int×List (Int×Bool×PUnit)×PUnit)×PUnit)×PUnit×(Int×PUnit)×(List Int×List Int×List (Int×List (Int×Bool×PUnit)×PUnit)×PUnit)×PUnit
abbrev dr136_0:Type:=PUnit×PUnit×(List (Int×Int×List (Int×Int×Bool×PUnit)×PUnit)×List Int×List Int×List (Int×List (Int×Bool×PUnit)×PUnit)×PUnit)×PUnit×(Int×PUnit)×(List Int×List Int×List (Int×List (Int×Bool×PUnit)×PUnit)×PUnit)×PUnit
def t136_0 (x1:Int) (x2:(List Int)) (x3:Int) (x4:Int) (b2_0:(List (Int×(Int×((List (Int×(Int×(Bool×Unit))))×Unit))))) (b2_1:(List Int)) (b2_2:(List Int)) (b2_3:(List (Int×((List (Int×(Bool×Unit)))×Unit)))) (b4_0:Int) (b5_0:(List Int)) (b5_1:(List Int)) (b5_2:(List (Int×((List (Int×(Bool×Unit)))×Unit)))):Tr (Out dt136_0 db136_0 dr136_0) :=
  Tr.test ((!leF x3 x4:Bool))
    (Tr.test (decide ((0:Int) ≤ x4) && decide (x4 < (↑(List.length x2):Int)))
      (Tr.test ((decide ((0:Int) ≤ x4) && decide (x4 < (↑(List.length b2_0):Int)):Bool))
        (Tr.test (Option.isSome (f126 (((List.getD b2_0 (Int.toNat x4) ((0:Int),(0:Int),[],())).2.1:Int),(([wrap64 (List.getD x2 (Int.toNat x4) (0:Int) - x1)]:List Int),()))))
          (let r0:=g126 (((List.getD b2_0 (Int.toNat x4) ((0:Int),(0:Int),[],())).2.1:Int),(([wrap64 (List.getD x2 (Int.toNat x4) (0:Int) - x1)]:List Int),()));
          Tr.test (r0.1)
            (Tr.fin (.ret ((),((),((b2_0,(b2_1,(b2_2,(b2_3,())))),((),((x4,()),((b5_0,(b5_1,(b5_2,()))),()))))))))
            (Tr.test (Option.isSome (f135 ((((b2_0,()),()),((b2_1,(b2_2,(b2_3,()))),())),(x4,()))))
              (let r1:=g135 ((((b2_0,()),()),((b2_1,(b2_2,(b2_3,()))),())),(x4,()));
              Tr.test (Option.isSome (f100 ((r1.1.1,((r1.1.2.1.1,(r1.1.2.1.2.1,())),())),((wrap64 (List.getD x2 (Int.toNat x4) (0:Int) - x1):Int),()))))
                (Tr.test ((Nat.ble (((2:Nat) * (List.length b5_2 + (1:Nat)) + (192:Nat)) * (32:Nat)) (281474976710656:Nat) && Nat.ble (List.length b5_2 + (1:Nat)) (281474976710656:Nat):Bool))
                  (let r2:=g100 ((r1.1.1,((r1.1.2.1.1,(r1.1.2.1.2.1,())),())),((wrap64 (List.getD x2 (Int.toNat x4) (0:Int) - x1):Int),()));
                  Tr.fin (.again (((List.getD x2 (Int.toNat x4) (0:Int):Int),(x2,(x3,((wrap64 (x4 + (1:Int)):Int),())))),((),((b2_0,(b2_1,(b2_2,(b2_3,())))),((),((b4_0,()),((b5_0,(b5_1,((b5_2++[(r2.1.2.1.1,r2.1.2.1.2.1,())]:List (Int×List (Int×Bool×PUnit)×PUnit)),()))),()))))))))
                  (Tr.stop))
                (Tr.stop))
              (Tr.stop)))
          (Tr.stop))
        (Tr.stop))
      (Tr.stop))
    (Tr.fin (.brk ((),((),((b2_0,(b2_1,(b2_2,(b2_3,())))),((),((b4_0,()),((b5_0,(b5_1,(b5_2,()))),()))))))))
def s136_0 (d:dt136_0):Option (Out dt136_0 db136_0 dr136_0):=(t136_0 d.1.1 d.1.2.1 d.1.2.2.1 d.1.2.2.2.1 d.2.2.1.1 d.2.2.1.2.1 d.2.2.1.2.2.1 d.2.2.1.2.2.2.1 d.2.2.2.2.1.1 d.2.2.2.2.2.1.1 d.2.2.2.2.2.1.2.1 d.2.2.2.2.2.1.2.2.1).val
def l136_0 (d:dt136_0):Option (db136_0 ⊕ dr136_0):=itr s136_0 rounds d
def b136_0 (d:dt136_0):db136_0:=outB (((),((),((([]:List (Int×Int×List (Int×Int×Bool×PUnit)×PUnit)),(([]:List Int),(([]:List Int),(([]:List (Int×List (Int×Bool×PUnit)×PUnit)),())))),((),(((0:Int),()),((([]:List Int),(([]:List Int),(([]:List (Int×List (Int×Bool×PUnit)×PUnit)),()))),()))))))) (l136_0 d)
def r136_0 (d:dt136_0):dr136_0:=outR (((),((),((([]:List (Int×Int×List (Int×Int×Bool×PUnit)×PUnit)),(([]:List Int),(([]:List Int),(([]:List (Int×List (Int×Bool×PUnit)×PUnit)),())))),((),(((0:Int),()),((([]:List Int),(([]:List Int),(([]:List (Int×List (Int×Bool×PUnit)×PUnit)),()))),()))))))) (l136_0 d)
def lc136_0 (P:Go.Program):LoopC:=lcOf (sh136_0 P) (shb136_0 P) (shr136_0 P) l136_0 b136_0 r136_0
theorem e136_0_0 (x1:Int) (x2:(List Int)) (x3:Int) (x4:Int) (b2_0:(List (Int×(Int×((List (Int×(Int×(Bool×Unit))))×Unit))))) (b2_1:(List Int)) (b2_2:(List Int)) (b2_3:(List (Int×((List (Int×(Bool×Unit)))×Unit)))) (b4_0:Int) (b5_0:(List Int)) (b5_1:(List Int)) (b5_2:(List (Int×((List (Int×(Bool×Unit)))×Unit)))):qal (kl138_0 Proofs.Try.prog).orc Proofs.Try.prog 400 136 0 (sh136_0 Proofs.Try.prog) (shb136_0 Proofs.Try.prog) (shr136_0 Proofs.Try.prog) ((x1,x2,x3,x4,()),(),(b2_0,b2_1,b2_2,b2_3,()),(),(b4_0,()),(b5_0,b5_1,b5_2,()),()) [tt,tt,tt,tt,tt,tt] =
    (let r0:=g126 (((List.getD b2_0 (Int.toNat x4) ((0:Int),(0:Int),[],())).2.1:Int),(([wrap64 (List.getD x2 (Int.toNat x4) (0:Int) - x1)]:List Int),())); some (.ret ((),((),((b2_0,(b2_1,(b2_2,(b2_3,())))),((),((x4,()),((b5_0,(b5_1,(b5_2,()))),())))))),[(qaZ Proofs.Try.prog (nat_lit 117) (nat_lit 1),true),(true,true),(r0.1,true),(Option.isSome (f126 (((List.getD b2_0 (Int.toNat x4) ((0:Int),(0:Int),[],())).2.1:Int),(([wrap64 (List.getD x2 (Int.toNat x4) (0:Int) - x1)]:List Int),()))),true),(decide ((0:Int) ≤ x4) && decide (x4 < (↑(List.length b2_0):Int)),true),(decide ((0:Int) ≤ x4) && decide (x4 < (↑(List.length x2):Int)),true),(!leF x3 x4,true)])):=by kernel_rfl
theorem e136_0_1 (x1:Int) (x2:(List Int)) (x3:Int) (x4:Int) (b2_0:(List (Int×(Int×((List (Int×(Int×(Bool×Unit))))×Unit))))) (b2_1:(List Int)) (b2_2:(List Int)) (b2_3:(List (Int×((List (Int×(Bool×Unit)))×Unit)))) (b4_0:Int) (b5_0:(List Int)) (b5_1:(List Int)) (b5_2:(List (Int×((List (Int×(Bool×Unit)))×Unit)))):qal (kl138_0 Proofs.Try.prog).orc Proofs.Try.prog 400 136 0 (sh136_0 Proofs.Try.prog) (shb136_0 Proofs.Try.prog) (shr136_0 Proofs.Try.prog) ((x1,x2,x3,x4,()),(),(b2_0,b2_1,b2_2,b2_3,()),(),(b4_0,()),(b5_0,b5_1,b5_2,()),()) [tt,tt,tt,tt,ff,tt,tt,tt,ff] =
    (let r0:=g126 (((List.getD b2_0 (Int.toNat x4) ((0:Int),(0:Int),[],())).2.1:Int),(([wrap64 (List.getD x2 (Int.toNat x4) (0:Int) - x1)]:List Int),()));let r1:=g135 ((((b2_0,()),()),((b2_1,(b2_2,(b2_3,()))),())),(x4,()));let r2:=g100 ((r1.1.1,((r1.1.2.1.1,(r1.1.2.1.2.1,())),())),((wrap64 (List.getD x2 (Int.toNat x4) (0:Int) - x1):Int),())); some (.again (((List.getD x2 (Int.toNat x4) (0:Int):Int),(x2,(x3,((wrap64 (x4 + (1:Int)):Int),())))),((),((b2_0,(b2_1,(b2_2,(b2_3,())))),((),((b4_0,()),((b5_0,(b5_1,((b5_2++[(r2.1.2.1.1,r2.1.2.1.2.1,())]:List (Int×List (Int×Bool×PUnit)×PUnit)),()))),())))))),[(qaZ Proofs.Try.prog (nat_lit 117) (nat_lit 1),true),(false,false),(Nat.ble (((2:Nat) * (List.length b5_2 + (1:Nat)) + (192:Nat)) * (32:Nat)) (281474976710656:Nat) && Nat.ble (List.length b5_2 + (1:Nat)) (281474976710656:Nat),true),(Option.isSome (f100 ((r1.1.1,((r1.1.2.1.1,(r1.1.2.1.2.1,())),())),((wrap64 (List.getD x2 (Int.toNat x4) (0:Int) - x1):Int),()))),true),(Option.isSome (f135 ((((b2_0,()),()),((b2_1,(b2_2,(b2_3,()))),())),(x4,()))),true),(r0.1,false),(Option.isSome (f126 (((List.getD b2_0 (Int.toNat x4) ((0:Int),(0:Int),[],())).2.1:Int),(([wrap64 (List.getD x2 (Int.toNat x4) (0:Int) - x1)]:List Int),()))),true),(decide ((0:Int) ≤ x4) && decide (x4 < (↑(List.length b2_0):Int)),true),(decide ((0:Int) ≤ x4) && decide (x4 < (↑(List.length x2):Int)),true),(!leF x3 x4,true)])):=by kernel_rfl
theorem e136_0_5 (x1:Int) (x2:(List Int)) (x3:Int) (x4:Int) (b2_0:(List (Int×(Int×((List (Int×(Int×(Bool×Unit))))×Unit))))) (b2_1:(List Int)) (b2_2:(List Int)) (b2_3:(List (Int×((List (Int×(Bool×Unit)))×Unit)))) (b4_0:Int) (b5_0:(List Int)) (b5_1:(List Int)) (b5_2:(List (Int×((List (Int×(Bool×Unit)))×Unit)))):qal (kl138_0 Proofs.Try.prog).orc Proofs.Try.prog 400 136 0 (sh136_0 Proofs.Try.prog) (shb136_0 Proofs.Try.prog) (shr136_0 Proofs.Try.prog) ((x1,x2,x3,x4,()),(),(b2_0,b2_1,b2_2,b2_3,()),(),(b4_0,()),(b5_0,b5_1,b5_2,()),()) [ff] =
    (some (.brk ((),((),((b2_0,(b2_1,(b2_2,(b2_3,())))),((),((b4_0,()),((b5_0,(b5_1,(b5_2,()))),())))))),[(qaZ Proofs.Try.prog (nat_lit 117) (nat_lit 1),true),(!leF x3 x4,false)])):=by kernel_rfl
theorem ok136_0_t (x1:Int) (x2:(List Int)) (x3:Int) (x4:Int) (b2_0:(List (Int×(Int×((List (Int×(Int×(Bool×Unit))))×Unit))))) (b2_1:(List Int)) (b2_2:(List Int)) (b2_3:(List (Int×((List (Int×(Bool×Unit)))×Unit)))) (b4_0:Int) (b5_0:(List Int)) (b5_1:(List Int)) (b5_2:(List (Int×((List (Int×(Bool×Unit)))×Unit)))):TrOk (BodyRuns Proofs.Try.prog (kl138_0 Proofs.Try.prog).orc 136 0 (sh136_0 Proofs.Try.prog) (shb136_0 Proofs.Try.prog) (shr136_0 Proofs.Try.prog) ((x1,x2,x3,x4,()),(),(b2_0,b2_1,b2_2,b2_3,()),(),(b4_0,()),(b5_0,b5_1,b5_2,()),())) (t136_0 x1 x2 x3 x4 b2_0 b2_1 b2_2 b2_3 b4_0 b5_0 b5_1 b5_2) :=
  TrOk.ofTest (fun h0=>TrOk.ofTest (fun h1=>TrOk.ofTest (fun h2=>TrOk.ofTest (fun h3=>TrOk.ofTest (fun h4=>TrOk.ofFin (BodyRuns.of (e136_0_0 x1 x2 x3 x4 b2_0 b2_1 b2_2 b2_3 b4_0 b5_0 b5_1 b5_2) (ac (sc117_1) (ac rfl (ac h4 (ac h3 (ac h2 (ac h1 (ac h0 All.nil))))))))) (fun h4=>TrOk.ofTest (fun h5=>TrOk.ofTest (fun h6=>TrOk.ofTest (fun h7=>TrOk.ofFin (BodyRuns.of (e136_0_1 x1 x2 x3 x4 b2_0 b2_1 b2_2 b2_3 b4_0 b5_0 b5_1 b5_2) (ac (sc117_1) (ac rfl (ac h7 (ac h6 (ac h5 (ac h4 (ac h3 (ac h2 (ac h1 (ac h0 All.nil)))))))))))) (fun h7=>TrOk.ofStop)) (fun h6=>TrOk.ofStop)) (fun h5=>TrOk.ofStop))) (fun h3=>TrOk.ofStop)) (fun h2=>TrOk.ofStop)) (fun h1=>TrOk.ofStop)) (fun h0=>TrOk.ofFin (BodyRuns.of (e136_0_5 x1 x2 x3 x4 b2_0 b2_1 b2_2 b2_3 b4_0 b5_0 b5_1 b5_2) (ac (sc117_1) (ac h0 All.nil))))
theorem ok136_0:qau Proofs.Try.prog 136 0 (lc136_0 Proofs.Try.prog):=qax (sh:=(sh136_0 Proofs.Try.prog)) (shB:=(shb136_0 Proofs.Try.prog)) (shR:=(shr136_0 Proofs.Try.prog)) kl138_0_ok.base (T:=fun (d:dt136_0)=>t136_0 d.1.1 d.1.2.1 d.1.2.2.1 d.1.2.2.2.1 d.2.2.1.1 d.2.2.1.2.1 d.2.2.1.2.2.1 d.2.2.1.2.2.2.1 d.2.2.2.2.1.1 d.2.2.2.2.2.1.1 d.2.2.2.2.2.1.2.1 d.2.2.2.2.2.1.2.2.1) (by kernel_rfl) rfl (fun (d:dt136_0)=>ok136_0_t d.1.1 d.1.2.1 d.1.2.2.1 d.1.2.2.2.1 d.2.2.1.1 d.2.2.1.2.1 d.2.2.1.2.2.1 d.2.2.1.2.2.2.1 d.2.2.2.2.1.1 d.2.2.2.2.2.1.1 d.2.2.2.2.2.1.2.1 d.2.2.2.2.2.1.2.2.1) (fun _=>rfl)
def kl136_0 (P:Go.Program):Known:=(kl138_0 P).loop 136 0 (lc136_0 P)
theorem kl136_0_ok:KnownOk Proofs.Try.prog (kl136_0 Proofs.Try.prog):=kl138_0_ok.loop ok136_0
abbrev as117:List Ty:=[(.pair (.pair (.pair (.slice (.pair (.int .i64) (.pair (.int .i64) (.pair (.slice (.pair (.int .i64) (.pair (.int .i64) (.pair .bool .unit)))) .unit)))) .unit) .unit) (.pair (.pair (.slice (.int .i64)) (.pair (.slice (.int .i64)) (.pair (.slice (.pair (.int .i64) (.pair (.slice (.pair (.int .i64) (.pair .bool .unit))) .unit))) .unit))) .unit)),(.int .i64)]
abbrev rs117:List Ty:=[(.pair (.pair (.pair (.slice (.pair (.int .i64) (.pair (.int .i64) (.pair (.slice (.pair (.int .i64) (.pair (.int .i64) (.pair .bool .unit)))) .unit)))) .unit) .unit) (.pair (.pair (.slice (.int .i64)) (.pair (.slice (.int .i64)) (.pair (.slice (.pair (.int .i64) (.pair (.slice (.pair (.int .i64) (.pair .bool .unit))) .unit))) .unit))) .unit)),(.int .i64)]
def t117 (x0__:(List (Int×(Int×((List (Int×(Int×(Bool×Unit))))×Unit))))) (x0'_:(List Int)) (x0'_':(List Int)) (x0'_'':(List (Int×((List (Int×(Bool×Unit)))×Unit)))) (x1:Int):Tr (Tys.data rs117) :=
  Tr.test (Option.isSome (f133 (x0'_,())))
    (let r0:=g133 (x0'_,());
    Tr.test (qbh (l138_0 ((x0__,((↑(List.length x0__):Int),((0:Int),()))),((),((x0__,(x0'_,(x0'_',(x0'_'',())))),((x1,()),((([]:List Int),(r0.1,())),())))))))
      (let r1:=b138_0 ((x0__,((↑(List.length x0__):Int),((0:Int),()))),((),((x0__,(x0'_,(x0'_',(x0'_'',())))),((x1,()),((([]:List Int),(r0.1,())),())))));
      Tr.test (Option.isSome (l136_0 (((0:Int),(r1.2.2.2.2.1.1,((↑(List.length r1.2.2.2.2.1.1):Int),((0:Int),())))),((),((x0__,(x0'_,(x0'_',(x0'_'',())))),((),(((0:Int),()),((r1.2.2.2.2.1.1,(r1.2.2.2.2.1.2.1,(([]:List (Int×List (Int×Bool×PUnit)×PUnit)),()))),()))))))))
        (Tr.test (qaY (l136_0 (((0:Int),(r1.2.2.2.2.1.1,((↑(List.length r1.2.2.2.2.1.1):Int),((0:Int),())))),((),((x0__,(x0'_,(x0'_',(x0'_'',())))),((),(((0:Int),()),((r1.2.2.2.2.1.1,(r1.2.2.2.2.1.2.1,(([]:List (Int×List (Int×Bool×PUnit)×PUnit)),()))),()))))))))
          (let r2:=r136_0 (((0:Int),(r1.2.2.2.2.1.1,((↑(List.length r1.2.2.2.2.1.1):Int),((0:Int),())))),((),((x0__,(x0'_,(x0'_',(x0'_'',())))),((),(((0:Int),()),((r1.2.2.2.2.1.1,(r1.2.2.2.2.1.2.1,(([]:List (Int×List (Int×Bool×PUnit)×PUnit)),()))),()))))));
          Tr.fin (((((([]:List (Int×Int×List (Int×Int×Bool×PUnit)×PUnit)),()),()),((([]:List Int),(([]:List Int),(([]:List (Int×List (Int×Bool×PUnit)×PUnit)),()))),())),(r2.2.2.2.2.1.1,()))))
          (let r3:=b136_0 (((0:Int),(r1.2.2.2.2.1.1,((↑(List.length r1.2.2.2.2.1.1):Int),((0:Int),())))),((),((x0__,(x0'_,(x0'_',(x0'_'',())))),((),(((0:Int),()),((r1.2.2.2.2.1.1,(r1.2.2.2.2.1.2.1,(([]:List (Int×List (Int×Bool×PUnit)×PUnit)),()))),()))))));
          Tr.fin ((((((r3.2.2.1.1:List (Int×Int×List (Int×Int×Bool×PUnit)×PUnit)),()),()),((r3.2.2.2.2.2.1.1,(r3.2.2.2.2.2.1.2.1,((r3.2.2.2.2.2.1.2.2.1:List (Int×List (Int×Bool×PUnit)×PUnit)),()))),())),((-1:Int),())))))
        (Tr.stop))
      (Tr.stop))
    (Tr.stop)
def f117 (d:Tys.data as117):Option (Tys.data rs117):=(t117 d.1.1.1.1 d.1.2.1.1 d.1.2.1.2.1 d.1.2.1.2.2.1 d.2.1).val
def g117 (d:Tys.data as117):Tys.data rs117:=(f117 d).getD (Tys.dflt rs117)
def p117:PureC:=pcOf as117 rs117 f117 g117
theorem e117_0 (x0__:(List (Int×(Int×((List (Int×(Int×(Bool×Unit))))×Unit))))) (x0'_:(List Int)) (x0'_':(List Int)) (x0'_'':(List (Int×((List (Int×(Bool×Unit)))×Unit)))) (x1:Int):runPure (kl136_0 Proofs.Try.prog).orc Proofs.Try.prog 400 117 as117 rs117 ((((x0__,()),()),(x0'_,x0'_',x0'_'',()),()),x1,()) [tt,tt,tt,tt,tt,tt,tt] =
    (let r0:=g133 (x0'_,());let r1:=b138_0 ((x0__,((↑(List.length x0__):Int),((0:Int),()))),((),((x0__,(x0'_,(x0'_',(x0'_'',())))),((x1,()),((([]:List Int),(r0.1,())),())))));let r2:=r136_0 (((0:Int),(r1.2.2.2.2.1.1,((↑(List.length r1.2.2.2.2.1.1):Int),((0:Int),())))),((),((x0__,(x0'_,(x0'_',(x0'_'',())))),((),(((0:Int),()),((r1.2.2.2.2.1.1,(r1.2.2.2.2.1.2.1,(([]:List (Int×List (Int×Bool×PUnit)×PUnit)),()))),())))))); some (((((([]:List (Int×Int×List (Int×Int×Bool×PUnit)×PUnit)),()),()),((([]:List Int),(([]:List Int),(([]:List (Int×List (Int×Bool×PUnit)×PUnit)),()))),())),(r2.2.2.2.2.1.1,())),[(qaY (l136_0 (((0:Int),(r1.2.2.2.2.1.1,((↑(List.length r1.2.2.2.2.1.1):Int),((0:Int),())))),((),((x0__,(x0'_,(x0'_',(x0'_'',())))),((),(((0:Int),()),((r1.2.2.2.2.1.1,(r1.2.2.2.2.1.2.1,(([]:List (Int×List (Int×Bool×PUnit)×PUnit)),()))),()))))))),true),(Option.isSome (l136_0 (((0:Int),(r1.2.2.2.2.1.1,((↑(List.length r1.2.2.2.2.1.1):Int),((0:Int),())))),((),((x0__,(x0'_,(x0'_',(x0'_'',())))),((),(((0:Int),()),((r1.2.2.2.2.1.1,(r1.2.2.2.2.1.2.1,(([]:List (Int×List (Int×Bool×PUnit)×PUnit)),()))),()))))))),true),(qaZ Proofs.Try.prog (nat_lit 117) (nat_lit 1),true),(true,true),(qbh (l138_0 ((x0__,((↑(List.length x0__):Int),((0:Int),()))),((),((x0__,(x0'_,(x0'_',(x0'_'',())))),((x1,()),((([]:List Int),(r0.1,())),())))))),true),(qaZ Proofs.Try.prog (nat_lit 117) (nat_lit 0),true),(Option.isSome (f133 (x0'_,())),true)])):=by kernel_rfl
theorem e117_1 (x0__:(List (Int×(Int×((List (Int×(Int×(Bool×Unit))))×Unit))))) (x0'_:(List Int)) (x0'_':(List Int)) (x0'_'':(List (Int×((List (Int×(Bool×Unit)))×Unit)))) (x1:Int):runPure (kl136_0 Proofs.Try.prog).orc Proofs.Try.prog 400 117 as117 rs117 ((((x0__,()),()),(x0'_,x0'_',x0'_'',()),()),x1,()) [tt,tt,tt,tt,tt,tt,ff] =
    (let r0:=g133 (x0'_,());let r1:=b138_0 ((x0__,((↑(List.length x0__):Int),((0:Int),()))),((),((x0__,(x0'_,(x0'_',(x0'_'',())))),((x1,()),((([]:List Int),(r0.1,())),())))));let r3:=b136_0 (((0:Int),(r1.2.2.2.2.1.1,((↑(List.length r1.2.2.2.2.1.1):Int),((0:Int),())))),((),((x0__,(x0'_,(x0'_',(x0'_'',())))),((),(((0:Int),()),((r1.2.2.2.2.1.1,(r1.2.2.2.2.1.2.1,(([]:List (Int×List (Int×Bool×PUnit)×PUnit)),()))),())))))); some ((((((r3.2.2.1.1:List (Int×Int×List (Int×Int×Bool×PUnit)×PUnit)),()),()),((r3.2.2.2.2.2.1.1,(r3.2.2.2.2.2.1.2.1,((r3.2.2.2.2.2.1.2.2.1:List (Int×List (Int×Bool×PUnit)×PUnit)),()))),())),((-1:Int),())),[(qaY (l136_0 (((0:Int),(r1.2.2.2.2.1.1,((↑(List.length r1.2.2.2.2.1.1):Int),((0:Int),())))),((),((x0__,(x0'_,(x0'_',(x0'_'',())))),((),(((0:Int),()),((r1.2.2.2.2.1.1,(r1.2.2.2.2.1.2.1,(([]:List (Int×List (Int×Bool×PUnit)×PUnit)),()))),()))))))),false),(Option.isSome (l136_0 (((0:Int),(r1.2.2.2.2.1.1,((↑(List.length r1.2.2.2.2.1.1):Int),((0:Int),())))),((),((x0__,(x0'_,(x0'_',(x0'_'',())))),((),(((0:Int),()),((r1.2.2.2.2.1.1,(r1.2.2.2.2.1.2.1,(([]:List (Int×List (Int×Bool×PUnit)×PUnit)),()))),()))))))),true),(qaZ Proofs.Try.prog (nat_lit 117) (nat_lit 1),true),(true,true),(qbh (l138_0 ((x0__,((↑(List.length x0__):Int),((0:Int),()))),((),((x0__,(x0'_,(x0'_',(x0'_'',())))),((x1,()),((([]:List Int),(r0.1,())),())))))),true),(qaZ Proofs.Try.prog (nat_lit 117) (nat_lit 0),true),(Option.isSome (f133 (x0'_,())),true)])):=by kernel_rfl
theorem ok117_t (x0__:(List (Int×(Int×((List (Int×(Int×(Bool×Unit))))×Unit))))) (x0'_:(List Int)) (x0'_':(List Int)) (x0'_'':(List (Int×((List (Int×(Bool×Unit)))×Unit)))) (x1:Int):TrOk (PureRuns Proofs.Try.prog (kl136_0 Proofs.Try.prog).orc 117 as117 rs117 ((((x0__,()),()),(x0'_,x0'_',x0'_'',()),()),x1,())) (t117 x0__ x0'_ x0'_' x0'_'' x1) :=
  TrOk.ofTest (fun h0=>TrOk.ofTest (fun h2=>TrOk.ofTest (fun h5=>TrOk.ofTest (fun h6=>TrOk.ofFin (PureRuns.of (e117_0 x0__ x0'_ x0'_' x0'_'' x1) (ac h6 (ac h5 (ac (sc117_1) (ac rfl (ac h2 (ac (sc117_0) (ac h0 All.nil))))))))) (fun h6=>TrOk.ofFin (PureRuns.of (e117_1 x0__ x0'_ x0'_' x0'_'' x1) (ac h6 (ac h5 (ac (sc117_1) (ac rfl (ac h2 (ac (sc117_0) (ac h0 All.nil)))))))))) (fun h5=>TrOk.ofStop)) (fun h2=>TrOk.ofStop)) (fun h0=>TrOk.ofStop)
theorem ok117:PureOk Proofs.Try.prog 117 p117:=qab kl136_0_ok.base (T:=fun (d:Tys.data as117)=>t117 d.1.1.1.1 d.1.2.1.1 d.1.2.1.2.1 d.1.2.1.2.2.1 d.2.1) (by kernel_rfl) (fun (d:Tys.data as117)=>ok117_t d.1.1.1.1 d.1.2.1.1 d.1.2.1.2.1 d.1.2.1.2.2.1 d.2.1)
def kf117 (P:Go.Program):Known:=(kl136_0 P).func 117 p117
theorem kf117_ok:KnownOk Proofs.Try.prog (kf117 Proofs.Try.prog):=kl136_0_ok.func ok117
abbrev sh58_0:Sh:={ n:=55,slots:=[9,10,31,32,33],pats:=[.ptr 0 4 0,.acc (.pair (.slice (.int .i64)) (.pair (.slice (.int .i64)) (.pair (.slice (.pair (.int .i64) (.pair (.slice (.pair (.int .i64) (.pair .bool .unit))) .unit))) .unit))),.ty (.slice (.int .i64)),.ty (.int .i64),.ty (.int .i64)],boxes:=[.row [.ty (.slice (.pair (.int .i64) (.pair (.int .i64) (.pair (.slice (.pair (.int .i64) (.pair (.int .i64) (.pair .bool .unit)))) .unit)))),.ty (.slice (.int .i64)),.ty (.slice (.int .i64)),.ty (.slice (.pair (.int .i64) (.pair (.slice (.pair (.int .i64) (.pair .bool .unit))) .unit)))]] }
abbrev shb58_0:Sh:={ n:=55,slots:=[10],pats:=[.acc (.pair (.slice (.int .i64)) (.pair (.slice (.int .i64)) (.pair (.slice (.pair (.int .i64) (.pair (.slice (.pair (.int .i64) (.pair .bool .unit))) .unit))) .unit)))],boxes:=[.row [.ty (.slice (.pair (.int .i64) (.pair (.int .i64) (.pair (.slice (.pair (.int .i64) (.pair (.int .i64) (.pair .bool .unit)))) .unit)))),.ty (.slice (.int .i64)),.ty (.slice (.int .i64)),.ty (.slice (.pair (.int .i64) (.pair (.slice (.pair (.int .i64) (.pair .bool .unit))) .unit)))]] }
abbrev shr58_0:Sh:={ n:=55,slots:=[4,5,6],pats:=[.acc (.pair (.slice (.int .i64)) (.pair (.slice (.int .i64)) (.pair (.slice (.pair (.int .i64) (.pair (.slice (.pair (.int .i64) (.pair .bool .unit))) .unit))) .unit))),.ty (.int .i64),.ty (.int .i64)],boxes:=[.row [.ty (.slice (.pair (.int .i64) (.pair (.int .i64) (.pair (.slice (.pair (.int .i64) (.pair (.int .i64) (.pair .bool .unit)))) .unit)))),.ty (.slice (.int .i64)),.ty (.slice (.int .i64)),.ty (.slice (.pair (.int .i64) (.pair (.slice (.pair (.int .i64) (.pair .bool .unit))) .unit)))]] }
def t58_0 (x1:(List ((List Int)×((List Int)×((List (Int×((List (Int×(Bool×Unit)))×Unit)))×Unit))))) (x2:(List Int)) (x3:Int) (x4:Int) (b0_0:(List (Int×(Int×((List (Int×(Int×(Bool×Unit))))×Unit))))) (b0_1:(List Int)) (b0_2:(List Int)) (b0_3:(List (Int×((List (Int×(Bool×Unit)))×Unit)))):Tr (Out sh58_0.data shb58_0.data shr58_0.data) :=
  Tr.test ((!leF x3 x4:Bool))
    (Tr.test (decide ((0:Int) ≤ x4) && decide (x4 < (↑(List.length x2):Int)))
      (Tr.test (Option.isSome (f117 ((((b0_0,()),()),((b0_1,(b0_2,(b0_3,()))),())),((List.getD x2 (Int.toNat x4) (0:Int):Int),()))))
        (let r0:=g117 ((((b0_0,()),()),((b0_1,(b0_2,(b0_3,()))),())),((List.getD x2 (Int.toNat x4) (0:Int):Int),()));
        Tr.test ((!eqF r0.2.1 (-1):Bool))
          (Tr.fin (.ret ((x1,(r0.2.1,((0:Int),()))),((b0_0,(b0_1,(b0_2,(b0_3,())))),()))))
          (Tr.test ((Nat.ble (((2:Nat) * (List.length x1 + (1:Nat)) + (192:Nat)) * (72:Nat)) (281474976710656:Nat) && Nat.ble (List.length x1 + (1:Nat)) (281474976710656:Nat):Bool))
            (Tr.fin (.again (((x1++[(r0.1.2.1.1,r0.1.2.1.2.1,r0.1.2.1.2.2.1,())]:List (List Int×List Int×List (Int×List (Int×Bool×PUnit)×PUnit)×PUnit)),(x2,(x3,((wrap64 (x4 + (1:Int)):Int),())))),(((r0.1.1.1.1:List (Int×Int×List (Int×Int×Bool×PUnit)×PUnit)),(r0.1.2.1.1,(r0.1.2.1.2.1,((r0.1.2.1.2.2.1:List (Int×List (Int×Bool×PUnit)×PUnit)),())))),()))))
            (Tr.stop)))
        (Tr.stop))
      (Tr.stop))
    (Tr.fin (.brk ((x1,()),((b0_0,(b0_1,(b0_2,(b0_3,())))),()))))
def s58_0 (d:sh58_0.data):Option (Out sh58_0.data shb58_0.data shr58_0.data):=(t58_0 d.1.1 d.1.2.1 d.1.2.2.1 d.1.2.2.2.1 d.2.1.1 d.2.1.2.1 d.2.1.2.2.1 d.2.1.2.2.2.1).val
def l58_0 (d:sh58_0.data):Option (shb58_0.data ⊕ shr58_0.data):=itr s58_0 rounds d
def b58_0 (d:sh58_0.data):shb58_0.data:=outB shb58_0.dflt (l58_0 d)
def r58_0 (d:sh58_0.data):shr58_0.data:=outR shr58_0.dflt (l58_0 d)
def lc58_0:LoopC:=lcOf sh58_0 shb58_0 shr58_0 l58_0 b58_0 r58_0
theorem wk58_0 (x1:(List ((List Int)×((List Int)×((List (Int×((List (Int×(Bool×Unit)))×Unit)))×Unit))))) (x2:(List Int)) (x3:Int) (x4:Int) (b0_0:(List (Int×(Int×((List (Int×(Int×(Bool×Unit))))×Unit))))) (b0_1:(List Int)) (b0_2:(List Int)) (b0_3:(List (Int×((List (Int×(Bool×Unit)))×Unit)))):Walks (qal (kf117 Proofs.Try.prog).orc Proofs.Try.prog 400 58 0 sh58_0 shb58_0 shr58_0 ((x1,x2,x3,x4,()),(b0_0,b0_1,b0_2,b0_3,()),())) (t58_0 x1 x2 x3 x4 b0_0 b0_1 b0_2 b0_3) [(bl 4 15,[2,4,6,8]),(bl 5 23,[2,4,6,8,10]),(bl 1 0,[2])] :=
  ⟨by kernel_rfl,by kernel_rfl,by kernel_rfl,trivial⟩
theorem ok58_0_t (x1:(List ((List Int)×((List Int)×((List (Int×((List (Int×(Bool×Unit)))×Unit)))×Unit))))) (x2:(List Int)) (x3:Int) (x4:Int) (b0_0:(List (Int×(Int×((List (Int×(Int×(Bool×Unit))))×Unit))))) (b0_1:(List Int)) (b0_2:(List Int)) (b0_3:(List (Int×((List (Int×(Bool×Unit)))×Unit)))):TrOk (BodyRuns Proofs.Try.prog (kf117 Proofs.Try.prog).orc 58 0 sh58_0 shb58_0 shr58_0 ((x1,x2,x3,x4,()),(b0_0,b0_1,b0_2,b0_3,()),())) (t58_0 x1 x2 x3 x4 b0_0 b0_1 b0_2 b0_3) :=
  Walks.ok (fun _ _ _=>BodyRuns.of) (wk58_0 x1 x2 x3 x4 b0_0 b0_1 b0_2 b0_3) (by kernel_rfl)
theorem ok58_0:qau Proofs.Try.prog 58 0 lc58_0:=qax (sh:=sh58_0) (shB:=shb58_0) (shR:=shr58_0) kf117_ok.base (T:=fun (d:sh58_0.data)=>t58_0 d.1.1 d.1.2.1 d.1.2.2.1 d.1.2.2.2.1 d.2.1.1 d.2.1.2.1 d.2.1.2.2.1 d.2.1.2.2.2.1) (by kernel_rfl) rfl (fun (d:sh58_0.data)=>ok58_0_t d.1.1 d.1.2.1 d.1.2.2.1 d.1.2.2.2.1 d.2.1.1 d.2.1.2.1 d.2.1.2.2.1 d.2.1.2.2.2.1) (fun _=>rfl)
def kl58_0 (P:Go.Program):Known:=(kf117 P).loop 58 0 lc58_0
theorem kl58_0_ok:KnownOk Proofs.Try.prog (kl58_0 Proofs.Try.prog):=kf117_ok.loop ok58_0
abbrev as58:List Ty:=[(.pair (.slice (.pair (.int .i64) (.pair (.int .i64) (.pair (.slice (.pair (.int .i64) (.pair (.int .i64) (.pair .bool .unit)))) .unit)))) .unit),(.slice (.int .i64))]
abbrev rs58:List Ty:=[(.slice (.pair (.slice (.int .i64)) (.pair (.slice (.int .i64)) (.pair (.slice (.pair (.int .i64) (.pair (.slice (.pair (.int .i64) (.pair .bool .unit))) .unit))) .unit)))),(.int .i64),(.int .i64)]
def t58 (x0:(List (Int×(Int×((List (Int×(Int×(Bool×Unit))))×Unit))))) (x1:(List Int)):Tr (Tys.data rs58) :=
  Tr.test (Option.isSome (f116 (x1,())))
    (let r0:=g116 (x1,());
    Tr.test (Option.isSome (f108 ((x0,()),(([r0.1]:List Int),()))))
      (let r1:=g108 ((x0,()),(([r0.1]:List Int),()));
      Tr.test ((!eqF r1.2.1 0:Bool))
        (Tr.fin ((([]:List (List Int×List Int×List (Int×List (Int×Bool×PUnit)×PUnit)×PUnit)),((0:Int),(r1.2.1,())))))
        (Tr.test (Option.isSome (f113 ((((r1.1.1.1:List (Int×Int×List (Int×Int×Bool×PUnit)×PUnit)),()),()),())))
          (let r2:=g113 ((((r1.1.1.1:List (Int×Int×List (Int×Int×Bool×PUnit)×PUnit)),()),()),());
          Tr.test (Option.isSome (l58_0 ((([(r2.1.2.1.1,r2.1.2.1.2.1,r2.1.2.1.2.2.1,())]:List (List Int×List Int×List (Int×List (Int×Bool×PUnit)×PUnit)×PUnit)),(x1,((↑(List.length x1):Int),((0:Int),())))),(((r2.1.1.1.1:List (Int×Int×List (Int×Int×Bool×PUnit)×PUnit)),(r2.1.2.1.1,(r2.1.2.1.2.1,((r2.1.2.1.2.2.1:List (Int×List (Int×Bool×PUnit)×PUnit)),())))),()))))
            (Tr.test (qaY (l58_0 ((([(r2.1.2.1.1,r2.1.2.1.2.1,r2.1.2.1.2.2.1,())]:List (List Int×List Int×List (Int×List (Int×Bool×PUnit)×PUnit)×PUnit)),(x1,((↑(List.length x1):Int),((0:Int),())))),(((r2.1.1.1.1:List (Int×Int×List (Int×Int×Bool×PUnit)×PUnit)),(r2.1.2.1.1,(r2.1.2.1.2.1,((r2.1.2.1.2.2.1:List (Int×List (Int×Bool×PUnit)×PUnit)),())))),()))))
              (let r3:=r58_0 ((([(r2.1.2.1.1,r2.1.2.1.2.1,r2.1.2.1.2.2.1,())]:List (List Int×List Int×List (Int×List (Int×Bool×PUnit)×PUnit)×PUnit)),(x1,((↑(List.length x1):Int),((0:Int),())))),(((r2.1.1.1.1:List (Int×Int×List (Int×Int×Bool×PUnit)×PUnit)),(r2.1.2.1.1,(r2.1.2.1.2.1,((r2.1.2.1.2.2.1:List (Int×List (Int×Bool×PUnit)×PUnit)),())))),()));
              Tr.fin (((r3.1.1:List (List Int×List Int×List (Int×List (Int×Bool×PUnit)×PUnit)×PUnit)),(r3.1.2.1,(r3.1.2.2.1,())))))
              (let r4:=b58_0 ((([(r2.1.2.1.1,r2.1.2.1.2.1,r2.1.2.1.2.2.1,())]:List (List Int×List Int×List (Int×List (Int×Bool×PUnit)×PUnit)×PUnit)),(x1,((↑(List.length x1):Int),((0:Int),())))),(((r2.1.1.1.1:List (Int×Int×List (Int×Int×Bool×PUnit)×PUnit)),(r2.1.2.1.1,(r2.1.2.1.2.1,((r2.1.2.1.2.2.1:List (Int×List (Int×Bool×PUnit)×PUnit)),())))),()));
              Tr.fin (((r4.1.1:List (List Int×List Int×List (Int×List (Int×Bool×PUnit)×PUnit)×PUnit)),((-1:Int),((0:Int),()))))))
            (Tr.stop))
          (Tr.stop)))
      (Tr.stop))
    (Tr.stop)
def f58 (d:Tys.data as58):Option (Tys.data rs58):=(t58 d.1.1 d.2.1).val
def g58 (d:Tys.data as58):Tys.data rs58:=(f58 d).getD (Tys.dflt rs58)
def p58:PureC:=pcOf as58 rs58 f58 g58
theorem wk58 (x0:(List (Int×(Int×((List (Int×(Int×(Bool×Unit))))×Unit))))) (x1:(List Int)):Walks (runPure (kl58_0 Proofs.Try.prog).orc Proofs.Try.prog 400 58 as58 rs58 ((x0,()),x1,())) (t58 x0 x1) [(bl 3 7,[2,4,6]),(bl 6 59,[2,4,6,8,10,12]),(bl 6 27,[2,4,6,8,10,12])] :=
  ⟨by kernel_rfl,by kernel_rfl,by kernel_rfl,trivial⟩
theorem ok58_t (x0:(List (Int×(Int×((List (Int×(Int×(Bool×Unit))))×Unit))))) (x1:(List Int)):TrOk (PureRuns Proofs.Try.prog (kl58_0 Proofs.Try.prog).orc 58 as58 rs58 ((x0,()),x1,())) (t58 x0 x1) :=
  Walks.ok (fun _ _ _=>PureRuns.of) (wk58 x0 x1) (by kernel_rfl)
theorem ok58:PureOk Proofs.Try.prog 58 p58:=qab kl58_0_ok.base (T:=fun (d:Tys.data as58)=>t58 d.1.1 d.2.1) (by kernel_rfl) (fun (d:Tys.data as58)=>ok58_t d.1.1 d.2.1)
def kf58 (P:Go.Program):Known:=(kl58_0 P).func 58 p58
theorem kf58_ok:KnownOk Proofs.Try.prog (kf58 Proofs.Try.prog):=kl58_0_ok.func ok58
abbrev as119:List Ty:=[(.int .i64)]
abbrev rs119:List Ty:=[(.int .i64)]
def t119 (x0:Int):Tr (Tys.data rs119) :=
  Tr.fin (((if x0 < Go.IntKind.wrap Go.IntKind.i64 ((0:Int) - x0) then Go.IntKind.wrap Go.IntKind.i64 ((0:Int) - x0) else x0:Int),()))
def f119 (d:Tys.data as119):Option (Tys.data rs119):=(t119 d.1).val
def g119 (d:Tys.data as119):Tys.data rs119:=(f119 d).getD (Tys.dflt rs119)
def p119:PureC:=pcOf as119 rs119 f119 g119
theorem wk119 (x0:Int):Walks (runPure (kf58 Proofs.Try.prog).orc Proofs.Try.prog 400 119 as119 rs119 (x0,())) (t119 x0) [(bl 0 0,[])] :=
  ⟨by kernel_rfl,trivial⟩
theorem ok119_t (x0:Int):TrOk (PureRuns Proofs.Try.prog (kf58 Proofs.Try.prog).orc 119 as119 rs119 (x0,())) (t119 x0) :=
  Walks.ok (fun _ _ _=>PureRuns.of) (wk119 x0) (by kernel_rfl)
theorem ok119:PureOk Proofs.Try.prog 119 p119:=qab kf58_ok.base (T:=fun (d:Tys.data as119)=>t119 d.1) (by kernel_rfl) (fun (d:Tys.data as119)=>ok119_t d.1)
def kf119 (P:Go.Program):Known:=(kf58 P).func 119 p119
theorem kf119_ok:KnownOk Proofs.Try.prog (kf119 Proofs.Try.prog):=kf58_ok.func ok119
theorem sc59_0:qaZ Proofs.Try.prog 59 0 = true:=qdC (by kernel_rfl)
abbrev sh136_0_1 (P:Go.Program):Sh:={ n:=22,slots:=[0,3,6,7,8],pats:=[.yld 0,.ty (.int .i64),.ty (.slice (.int .i64)),.ty (.int .i64),.ty (.int .i64)],boxes:=[.lp (lpOf P 59 0 .ready none 53 [9] 1) [.ptr 2 1 0],.dfr,.row [.sli 3 1],.arr (.int .i64)] }
abbrev shb136_0_1 (P:Go.Program):Sh:={ n:=22,slots:=[],pats:=[],boxes:=[.lp (lpOf P 59 0 .ready none 53 [9] 1) [.ptr 2 1 0],.dfr,.row [.sli 3 1],.arr (.int .i64)] }
abbrev shr136_0_1 (P:Go.Program):Sh:={ n:=22,slots:=[],pats:=[],boxes:=[.lp (lpOf P 59 0 .ready none 53 [9] 1) [.ptr 2 1 0],.dfr,.row [.sli 3 1],.arr (.int .i64)] }
abbrev dt136_0_1:Type:=(Int×List Int×Int×Int×PUnit)×PUnit×((Nat×Nat)×PUnit)×List Int×PUnit
abbrev db136_0_1:Type:=PUnit×PUnit×((Nat×Nat)×PUnit)×List Int×PUnit
abbrev dr136_0_1:Type:=PUnit×PUnit×((Nat×Nat)×PUnit)×List Int×PUnit
def t136_0_1 (x1:Int) (x2:(List Int)) (x3:Int) (x4:Int) (b2_0n:Nat) (b2_0c:Nat) (b3:(List Int)):Tr (Out dt136_0_1 db136_0_1 dr136_0_1) :=
  Tr.test ((!leF x3 x4:Bool))
    (Tr.test (decide ((0:Int) ≤ x4) && decide (x4 < (↑(List.length x2):Int)))
      (Tr.test (Option.isSome (f119 ((wrap64 (List.getD x2 (Int.toNat x4) (0:Int) - x1):Int),())))
        (Tr.test ((decide ((0:Int) ≤ x4) && decide (x4 < (↑b2_0n:Int)):Bool))
          (Tr.test ((Nat.ble ((0:Nat) + Int.toNat x4 + (1:Nat)) (List.length b3):Bool))
            (Tr.test (Option.isSome (f119 ((List.getD b3 ((0:Nat) + Int.toNat x4) (0:Int):Int),())))
              (let r0:=g119 ((wrap64 (List.getD x2 (Int.toNat x4) (0:Int) - x1):Int),());
              let r1:=g119 ((List.getD b3 ((0:Nat) + Int.toNat x4) (0:Int):Int),());
              Tr.test ((!leF r0.1 r1.1:Bool))
                (Tr.fin (.again (((List.getD x2 (Int.toNat x4) (0:Int):Int),(x2,(x3,((wrap64 (x4 + (1:Int)):Int),())))),((),(((b2_0n,b2_0c),()),((List.set b3 ((0:Nat) + Int.toNat x4) (wrap64 (List.getD x2 (Int.toNat x4) (0:Int) - x1)):List Int),()))))))
                (Tr.fin (.again (((List.getD x2 (Int.toNat x4) (0:Int):Int),(x2,(x3,((wrap64 (x4 + (1:Int)):Int),())))),((),(((b2_0n,b2_0c),()),(b3,())))))))
              (Tr.stop))
            (Tr.stop))
          (Tr.stop))
        (Tr.stop))
      (Tr.stop))
    (Tr.fin (.brk ((),((),(((b2_0n,b2_0c),()),(b3,()))))))
def s136_0_1 (d:dt136_0_1):Option (Out dt136_0_1 db136_0_1 dr136_0_1):=(t136_0_1 d.1.1 d.1.2.1 d.1.2.2.1 d.1.2.2.2.1 d.2.2.1.1.1 d.2.2.1.1.2 d.2.2.2.1).val
def l136_0_1 (d:dt136_0_1):Option (db136_0_1 ⊕ dr136_0_1):=itr s136_0_1 rounds d
def b136_0_1 (d:dt136_0_1):db136_0_1:=outB (((),((),((((0:Nat),(0:Nat)),()),(([]:List Int),()))))) (l136_0_1 d)
def lc136_0_1 (P:Go.Program):LoopC:=lcB (sh136_0_1 P) (shb136_0_1 P) (shr136_0_1 P) l136_0_1 b136_0_1
theorem e136_0_1_0 (x1:Int) (x2:(List Int)) (x3:Int) (x4:Int) (b2_0n:Nat) (b2_0c:Nat) (b3:(List Int)):qal (kf119 Proofs.Try.prog).orc Proofs.Try.prog 400 136 0 (sh136_0_1 Proofs.Try.prog) (shb136_0_1 Proofs.Try.prog) (shr136_0_1 Proofs.Try.prog) ((x1,x2,x3,x4,()),(),((b2_0n,b2_0c),()),b3,()) [tt,tt,tt,tt,tt,tt,tt,tt,tt,ff] =
    (let r0:=g119 ((wrap64 (List.getD x2 (Int.toNat x4) (0:Int) - x1):Int),());let r1:=g119 ((List.getD b3 ((0:Nat) + Int.toNat x4) (0:Int):Int),()); some (.again (((List.getD x2 (Int.toNat x4) (0:Int):Int),(x2,(x3,((wrap64 (x4 + (1:Int)):Int),())))),((),(((b2_0n,b2_0c),()),((List.set b3 ((0:Nat) + Int.toNat x4) (wrap64 (List.getD x2 (Int.toNat x4) (0:Int) - x1)):List Int),())))),[(qaZ Proofs.Try.prog (nat_lit 59) (nat_lit 0),true),(false,false),(Nat.ble ((0:Nat) + Int.toNat x4 + (1:Nat)) (List.length b3),true),(decide ((0:Int) ≤ x4) && decide (x4 < (↑b2_0n:Int)),true),(!leF r0.1 r1.1,true),(Option.isSome (f119 ((List.getD b3 ((0:Nat) + Int.toNat x4) (0:Int):Int),())),true),(Nat.ble ((0:Nat) + Int.toNat x4 + (1:Nat)) (List.length b3),true),(decide ((0:Int) ≤ x4) && decide (x4 < (↑b2_0n:Int)),true),(Option.isSome (f119 ((wrap64 (List.getD x2 (Int.toNat x4) (0:Int) - x1):Int),())),true),(decide ((0:Int) ≤ x4) && decide (x4 < (↑(List.length x2):Int)),true),(!leF x3 x4,true)])):=by kernel_rfl
theorem e136_0_1_1 (x1:Int) (x2:(List Int)) (x3:Int) (x4:Int) (b2_0n:Nat) (b2_0c:Nat) (b3:(List Int)):qal (kf119 Proofs.Try.prog).orc Proofs.Try.prog 400 136 0 (sh136_0_1 Proofs.Try.prog) (shb136_0_1 Proofs.Try.prog) (shr136_0_1 Proofs.Try.prog) ((x1,x2,x3,x4,()),(),((b2_0n,b2_0c),()),b3,()) [tt,tt,tt,tt,tt,tt,ff,ff] =
    (let r0:=g119 ((wrap64 (List.getD x2 (Int.toNat x4) (0:Int) - x1):Int),());let r1:=g119 ((List.getD b3 ((0:Nat) + Int.toNat x4) (0:Int):Int),()); some (.again (((List.getD x2 (Int.toNat x4) (0:Int):Int),(x2,(x3,((wrap64 (x4 + (1:Int)):Int),())))),((),(((b2_0n,b2_0c),()),(b3,())))),[(qaZ Proofs.Try.prog (nat_lit 59) (nat_lit 0),true),(false,false),(!leF r0.1 r1.1,false),(Option.isSome (f119 ((List.getD b3 ((0:Nat) + Int.toNat x4) (0:Int):Int),())),true),(Nat.ble ((0:Nat) + Int.toNat x4 + (1:Nat)) (List.length b3),true),(decide ((0:Int) ≤ x4) && decide (x4 < (↑b2_0n:Int)),true),(Option.isSome (f119 ((wrap64 (List.getD x2 (Int.toNat x4) (0:Int) - x1):Int),())),true),(decide ((0:Int) ≤ x4) && decide (x4 < (↑(List.length x2):Int)),true),(!leF x3 x4,true)])):=by kernel_rfl
theorem e136_0_1_5 (x1:Int) (x2:(List Int)) (x3:Int) (x4:Int) (b2_0n:Nat) (b2_0c:Nat) (b3:(List Int)):qal (kf119 Proofs.Try.prog).orc Proofs.Try.prog 400 136 0 (sh136_0_1 Proofs.Try.prog) (shb136_0_1 Proofs.Try.prog) (shr136_0_1 Proofs.Try.prog) ((x1,x2,x3,x4,()),(),((b2_0n,b2_0c),()),b3,()) [ff] =
    (some (.brk ((),((),(((b2_0n,b2_0c),()),(b3,())))),[(qaZ Proofs.Try.prog (nat_lit 59) (nat_lit 0),true),(!leF x3 x4,false)])):=by kernel_rfl
theorem ok136_0_1_t (x1:Int) (x2:(List Int)) (x3:Int) (x4:Int) (b2_0n:Nat) (b2_0c:Nat) (b3:(List Int)):TrOk (BodyRuns Proofs.Try.prog (kf119 Proofs.Try.prog).orc 136 0 (sh136_0_1 Proofs.Try.prog) (shb136_0_1 Proofs.Try.prog) (shr136_0_1 Proofs.Try.prog) ((x1,x2,x3,x4,()),(),((b2_0n,b2_0c),()),b3,())) (t136_0_1 x1 x2 x3 x4 b2_0n b2_0c b3) :=
  TrOk.ofTest (fun h0=>TrOk.ofTest (fun h1=>TrOk.ofTest (fun h2=>TrOk.ofTest (fun h3=>TrOk.ofTest (fun h4=>TrOk.ofTest (fun h5=>TrOk.ofTest (fun h6=>TrOk.ofFin (BodyRuns.of (e136_0_1_0 x1 x2 x3 x4 b2_0n b2_0c b3) (ac (sc59_0) (ac rfl (ac h4 (ac h3 (ac h6 (ac h5 (ac h4 (ac h3 (ac h2 (ac h1 (ac h0 All.nil))))))))))))) (fun h6=>TrOk.ofFin (BodyRuns.of (e136_0_1_1 x1 x2 x3 x4 b2_0n b2_0c b3) (ac (sc59_0) (ac rfl (ac h6 (ac h5 (ac h4 (ac h3 (ac h2 (ac h1 (ac h0 All.nil)))))))))))) (fun h5=>TrOk.ofStop)) (fun h4=>TrOk.ofStop)) (fun h3=>TrOk.ofStop)) (fun h2=>TrOk.ofStop)) (fun h1=>TrOk.ofStop)) (fun h0=>TrOk.ofFin (BodyRuns.of (e136_0_1_5 x1 x2 x3 x4 b2_0n b2_0c b3) (ac (sc59_0) (ac h0 All.nil))))
theorem ok136_0_1:qau Proofs.Try.prog 136 0 (lc136_0_1 Proofs.Try.prog):=qay (sh:=(sh136_0_1 Proofs.Try.prog)) (shB:=(shb136_0_1 Proofs.Try.prog)) (shR:=(shr136_0_1 Proofs.Try.prog)) kf119_ok.base (T:=fun (d:dt136_0_1)=>t136_0_1 d.1.1 d.1.2.1 d.1.2.2.1 d.1.2.2.2.1 d.2.2.1.1.1 d.2.2.1.1.2 d.2.2.2.1) (by kernel_rfl) rfl (fun (d:dt136_0_1)=>ok136_0_1_t d.1.1 d.1.2.1 d.1.2.2.1 d.1.2.2.2.1 d.2.2.1.1.1 d.2.2.1.1.2 d.2.2.2.1) (fun _=>rfl)
def kl136_0_1 (P:Go.Program):Known:=(kf119 P).loop 136 0 (lc136_0_1 P)
theorem kl136_0_1_ok:KnownOk Proofs.Try.prog (kl136_0_1 Proofs.Try.prog):=kf119_ok.loop ok136_0_1
abbrev sh59_0:Sh:={ n:=53,slots:=[9,28,29,30],pats:=[.ptr 0 1 0,.ty (.slice (.pair (.slice (.int .i64)) (.pair (.slice (.int .i64)) (.pair (.slice (.pair (.int .i64) (.pair (.slice (.pair (.int .i64) (.pair .bool .unit))) .unit))) .unit)))),.ty (.int .i64),.ty (.int .i64)],boxes:=[.row [.sli 1 1],.arr (.int .i64)] }
abbrev shb59_0:Sh:={ n:=53,slots:=[9],pats:=[.ptr 0 1 0],boxes:=[.row [.sli 1 1],.arr (.int .i64)] }
abbrev shr59_0:Sh:={ n:=53,slots:=[],pats:=[],boxes:=[.row [.sli 1 1],.arr (.int .i64)] }
def t59_0 (x1:(List ((List Int)×((List Int)×((List (Int×((List (Int×(Bool×Unit)))×Unit)))×Unit))))) (x2:Int) (x3:Int) (b0_0n:Nat) (b0_0c:Nat) (b1:(List Int)):Tr (Out sh59_0.data shb59_0.data shr59_0.data) :=
  Tr.test ((!leF x2 x3:Bool))
    (Tr.test (decide ((0:Int) ≤ x3) && decide (x3 < (↑(List.length x1):Int)))
      (Tr.test (qbh (l136_0_1 (((0:Int),(((List.getD x1 (Int.toNat x3) ([],[],[],())).1:List Int),((↑(List.length (List.getD x1 (Int.toNat x3) ([],[],[],())).1):Int),((0:Int),())))),((),(((b0_0n,b0_0c),()),(b1,()))))))
        (let r0:=b136_0_1 (((0:Int),(((List.getD x1 (Int.toNat x3) ([],[],[],())).1:List Int),((↑(List.length (List.getD x1 (Int.toNat x3) ([],[],[],())).1):Int),((0:Int),())))),((),(((b0_0n,b0_0c),()),(b1,()))));
        Tr.fin (.again ((x1,(x2,((wrap64 (x3 + (1:Int)):Int),()))),(((r0.2.2.1.1.1,r0.2.2.1.1.2),()),(r0.2.2.2.1,())))))
        (Tr.stop))
      (Tr.stop))
    (Tr.fin (.brk ((),(((b0_0n,b0_0c),()),(b1,())))))
def s59_0 (d:sh59_0.data):Option (Out sh59_0.data shb59_0.data shr59_0.data):=(t59_0 d.1.1 d.1.2.1 d.1.2.2.1 d.2.1.1.1 d.2.1.1.2 d.2.2.1).val
def l59_0 (d:sh59_0.data):Option (shb59_0.data ⊕ shr59_0.data):=itr s59_0 rounds d
def b59_0 (d:sh59_0.data):shb59_0.data:=outB shb59_0.dflt (l59_0 d)
def lc59_0:LoopC:=lcB sh59_0 shb59_0 shr59_0 l59_0 b59_0
theorem e59_0_0 (x1:(List ((List Int)×((List Int)×((List (Int×((List (Int×(Bool×Unit)))×Unit)))×Unit))))) (x2:Int) (x3:Int) (b0_0n:Nat) (b0_0c:Nat) (b1:(List Int)):qal (kl136_0_1 Proofs.Try.prog).orc Proofs.Try.prog 400 59 0 sh59_0 shb59_0 shr59_0 ((x1,x2,x3,()),((b0_0n,b0_0c),()),b1,()) [tt,tt,tt,tt,tt] =
    (let r0:=b136_0_1 (((0:Int),(((List.getD x1 (Int.toNat x3) ([],[],[],())).1:List Int),((↑(List.length (List.getD x1 (Int.toNat x3) ([],[],[],())).1):Int),((0:Int),())))),((),(((b0_0n,b0_0c),()),(b1,())))); some (.again ((x1,(x2,((wrap64 (x3 + (1:Int)):Int),()))),(((r0.2.2.1.1.1,r0.2.2.1.1.2),()),(r0.2.2.2.1,()))),[(true,true),(qbh (l136_0_1 (((0:Int),(((List.getD x1 (Int.toNat x3) ([],[],[],())).1:List Int),((↑(List.length (List.getD x1 (Int.toNat x3) ([],[],[],())).1):Int),((0:Int),())))),((),(((b0_0n,b0_0c),()),(b1,()))))),true),(qaZ Proofs.Try.prog (nat_lit 59) (nat_lit 0),true),(decide ((0:Int) ≤ x3) && decide (x3 < (↑(List.length x1):Int)),true),(!leF x2 x3,true)])):=by kernel_rfl
theorem e59_0_2 (x1:(List ((List Int)×((List Int)×((List (Int×((List (Int×(Bool×Unit)))×Unit)))×Unit))))) (x2:Int) (x3:Int) (b0_0n:Nat) (b0_0c:Nat) (b1:(List Int)):qal (kl136_0_1 Proofs.Try.prog).orc Proofs.Try.prog 400 59 0 sh59_0 shb59_0 shr59_0 ((x1,x2,x3,()),((b0_0n,b0_0c),()),b1,()) [ff] =
    (some (.brk ((),(((b0_0n,b0_0c),()),(b1,()))),[(!leF x2 x3,false)])):=by kernel_rfl
theorem ok59_0_t (x1:(List ((List Int)×((List Int)×((List (Int×((List (Int×(Bool×Unit)))×Unit)))×Unit))))) (x2:Int) (x3:Int) (b0_0n:Nat) (b0_0c:Nat) (b1:(List Int)):TrOk (BodyRuns Proofs.Try.prog (kl136_0_1 Proofs.Try.prog).orc 59 0 sh59_0 shb59_0 shr59_0 ((x1,x2,x3,()),((b0_0n,b0_0c),()),b1,())) (t59_0 x1 x2 x3 b0_0n b0_0c b1) :=
  TrOk.ofTest (fun h0=>TrOk.ofTest (fun h1=>TrOk.ofTest (fun h3=>TrOk.ofFin (BodyRuns.of (e59_0_0 x1 x2 x3 b0_0n b0_0c b1) (ac rfl (ac h3 (ac (sc59_0) (ac h1 (ac h0 All.nil))))))) (fun h3=>TrOk.ofStop)) (fun h1=>TrOk.ofStop)) (fun h0=>TrOk.ofFin (BodyRuns.of (e59_0_2 x1 x2 x3 b0_0n b0_0c b1) (ac h0 All.nil)))
theorem ok59_0:qau Proofs.Try.prog 59 0 lc59_0:=qay (sh:=sh59_0) (shB:=shb59_0) (shR:=shr59_0) kl136_0_1_ok.base (T:=fun (d:sh59_0.data)=>t59_0 d.1.1 d.1.2.1 d.1.2.2.1 d.2.1.1.1 d.2.1.1.2 d.2.2.1) (by kernel_rfl) rfl (fun (d:sh59_0.data)=>ok59_0_t d.1.1 d.1.2.1 d.1.2.2.1 d.2.1.1.1 d.2.1.1.2 d.2.2.1) (fun _=>rfl)
def kl59_0 (P:Go.Program):Known:=(kl136_0_1 P).loop 59 0 lc59_0
theorem kl59_0_ok:KnownOk Proofs.Try.prog (kl59_0 Proofs.Try.prog):=kl136_0_1_ok.loop ok59_0
abbrev as59:List Ty:=[(.pair (.slice (.pair (.int .i64) (.pair (.int .i64) (.pair (.slice (.pair (.int .i64) (.pair (.int .i64) (.pair .bool .unit)))) .unit)))) .unit),(.slice (.int .i64))]
abbrev rs59:List Ty:=[(.slice (.int .i64)),(.int .i64)]
def t59 (x0:(List (Int×(Int×((List (Int×(Int×(Bool×Unit))))×Unit))))) (x1:(List Int)):Tr (Tys.data rs59) :=
  Tr.test (Option.isSome (f58 ((x0,()),(x1,()))))
    (let r0:=g58 ((x0,()),(x1,()));
    Tr.test ((!eqF r0.2.2.1 0:Bool))
      (Tr.fin ((([]:List Int),(r0.2.2.1,()))))
      (Tr.test ((decide ((0:Int) ≤ (↑(List.length x0):Int)) && decide ((↑(List.length x0):Int) ≤ (↑(List.length x0):Int)) && decide ((8:Int) * (↑(List.length x0):Int) ≤ (281474976710656:Int)) && decide ((↑(List.length x0):Int) ≤ (281474976710656:Int)):Bool))
        (Tr.test (qbh (l59_0 (((r0.1:List (List Int×List Int×List (Int×List (Int×Bool×PUnit)×PUnit)×PUnit)),((↑(List.length r0.1):Int),((0:Int),()))),((((Int.toNat (↑(List.length x0):Int):Nat),(Int.toNat (↑(List.length x0):Int):Nat)),()),((List.replicate (Int.toNat (↑(List.length x0):Int)) (0:Int):List Int),())))))
          (let r1:=b59_0 (((r0.1:List (List Int×List Int×List (Int×List (Int×Bool×PUnit)×PUnit)×PUnit)),((↑(List.length r0.1):Int),((0:Int),()))),((((Int.toNat (↑(List.length x0):Int):Nat),(Int.toNat (↑(List.length x0):Int):Nat)),()),((List.replicate (Int.toNat (↑(List.length x0):Int)) (0:Int):List Int),())));
          Tr.test ((Nat.beq r1.2.1.1.1 (List.length r1.2.2.1):Bool))
            (Tr.fin ((r1.2.2.1,((0:Int),()))))
            (Tr.test ((Nat.ble r1.2.1.1.1 (List.length r1.2.2.1):Bool))
              (Tr.fin (((List.take r1.2.1.1.1 r1.2.2.1:List Int),((0:Int),()))))
              (Tr.stop)))
          (Tr.stop))
        (Tr.stop)))
    (Tr.stop)
def f59 (d:Tys.data as59):Option (Tys.data rs59):=(t59 d.1.1 d.2.1).val
def g59 (d:Tys.data as59):Tys.data rs59:=(f59 d).getD (Tys.dflt rs59)
def p59:PureC:=pcOf as59 rs59 f59 g59
theorem wk59 (x0:(List (Int×(Int×((List (Int×(Int×(Bool×Unit))))×Unit))))) (x1:(List Int)):Walks (runPure (kl59_0 Proofs.Try.prog).orc Proofs.Try.prog 400 59 as59 rs59 ((x0,()),x1,())) (t59 x0 x1) [(bl 2 3,[2,4]),(bl 5 29,[2,1,4,6,8,10]),(bl 6 45,[2,4,1,6,8,10,12])] :=
  ⟨by kernel_rfl,by kernel_rfl,by kernel_rfl,trivial⟩
theorem ok59_t (x0:(List (Int×(Int×((List (Int×(Int×(Bool×Unit))))×Unit))))) (x1:(List Int)):TrOk (PureRuns Proofs.Try.prog (kl59_0 Proofs.Try.prog).orc 59 as59 rs59 ((x0,()),x1,())) (t59 x0 x1) :=
  Walks.ok (fun _ _ _=>PureRuns.of) (wk59 x0 x1) (by kernel_rfl)
theorem ok59:PureOk Proofs.Try.prog 59 p59:=qab kl59_0_ok.base (T:=fun (d:Tys.data as59)=>t59 d.1.1 d.2.1) (by kernel_rfl) (fun (d:Tys.data as59)=>ok59_t d.1.1 d.2.1)
def kf59 (P:Go.Program):Known:=(kl59_0 P).func 59 p59
theorem kf59_ok:KnownOk Proofs.Try.prog (kf59 Proofs.Try.prog):=kl59_0_ok.func ok59
abbrev as40:List Ty:=[(.int .i64),(.int .i64),(.int .i64)]
abbrev rs40:List Ty:=[.bool]
def t40 (x0:Int) (x1:Int) (x2:Int):Tr (Tys.data rs40) :=
  Tr.test ((leF x1 x0:Bool))
    (Tr.fin ((leF x0 x2,())))
    (Tr.fin ((false,())))
def f40 (d:Tys.data as40):Option (Tys.data rs40):=(t40 d.1 d.2.1 d.2.2.1).val
def g40 (d:Tys.data as40):Tys.data rs40:=(f40 d).getD (Tys.dflt rs40)
def p40:PureC:=pcOf as40 rs40 f40 g40
theorem wk40 (x0:Int) (x1:Int) (x2:Int):Walks (runPure (kf59 Proofs.Try.prog).orc Proofs.Try.prog 400 40 as40 rs40 (x0,x1,x2,())) (t40 x0 x1 x2) [(bl 1 1,[2,2,2,2]),(bl 1 0,[2,2,2,2])] :=
  ⟨by kernel_rfl,by kernel_rfl,trivial⟩
theorem ok40_t (x0:Int) (x1:Int) (x2:Int):TrOk (PureRuns Proofs.Try.prog (kf59 Proofs.Try.prog).orc 40 as40 rs40 (x0,x1,x2,())) (t40 x0 x1 x2) :=
  Walks.ok (fun _ _ _=>PureRuns.of) (wk40 x0 x1 x2) (by kernel_rfl)
theorem ok40:PureOk Proofs.Try.prog 40 p40:=qab kf59_ok.base (T:=fun (d:Tys.data as40)=>t40 d.1 d.2.1 d.2.2.1) (by kernel_rfl) (fun (d:Tys.data as40)=>ok40_t d.1 d.2.1 d.2.2.1)
def kf40 (P:Go.Program):Known:=(kf59 P).func 40 p40
theorem kf40_ok:KnownOk Proofs.Try.prog (kf40 Proofs.Try.prog):=kf59_ok.func ok40
abbrev sh30_0:Sh:={ n:=34,slots:=[0,4],pats:=[.ty (.slice (.pair (.int .i64) (.pair (.int .i64) (.pair .bool .unit)))),.ty (.int .i64)],boxes:=[] }
abbrev shb30_0:Sh:={ n:=34,slots:=[],pats:=[],boxes:=[] }
abbrev shr30_0:Sh:={ n:=34,slots:=[2,3],pats:=[.ty (.int .i64),.ty (.int .i64)],boxes:=[] }
def t30_0 (x0:(List (Int×(Int×(Bool×Unit))))) (x1:Int):Tr (Out sh30_0.data shb30_0.data shr30_0.data) :=
  Tr.test ((!leF (↑(List.length x0):Int) x1:Bool))
    (Tr.test (decide ((0:Int) ≤ x1) && decide (x1 < (↑(List.length x0):Int)))
      (Tr.test (Option.isSome (f40 (((List.getD x0 (Int.toNat x1) ((0:Int),(0:Int),false,())).1:Int),((1:Int),((1000:Int),())))))
        (let r0:=g40 (((List.getD x0 (Int.toNat x1) ((0:Int),(0:Int),false,())).1:Int),((1:Int),((1000:Int),())));
        Tr.test ((!r0.1:Bool))
          (Tr.fin (.ret ((x1,((2:Int),())),())))
          (Tr.test (Option.isSome (f40 (((List.getD x0 (Int.toNat x1) ((0:Int),(0:Int),false,())).2.1:Int),((1:Int),((1000:Int),())))))
            (let r1:=g40 (((List.getD x0 (Int.toNat x1) ((0:Int),(0:Int),false,())).2.1:Int),((1:Int),((1000:Int),())));
            Tr.test ((!r1.1:Bool))
              (Tr.fin (.ret ((x1,((2:Int),())),())))
              (Tr.fin (.again ((x0,((wrap64 (x1 + (1:Int)):Int),())),()))))
            (Tr.stop)))
        (Tr.stop))
      (Tr.stop))
    (Tr.fin (.brk ((),())))
def s30_0 (d:sh30_0.data):Option (Out sh30_0.data shb30_0.data shr30_0.data):=(t30_0 d.1.1 d.1.2.1).val
def l30_0 (d:sh30_0.data):Option (shb30_0.data ⊕ shr30_0.data):=itr s30_0 rounds d
def b30_0 (d:sh30_0.data):shb30_0.data:=outB shb30_0.dflt (l30_0 d)
def r30_0 (d:sh30_0.data):shr30_0.data:=outR shr30_0.dflt (l30_0 d)
def lc30_0:LoopC:=lcOf sh30_0 shb30_0 shr30_0 l30_0 b30_0 r30_0
theorem wk30_0 (x0:(List (Int×(Int×(Bool×Unit))))) (x1:Int):Walks (qal (kf40 Proofs.Try.prog).orc Proofs.Try.prog 400 30 0 sh30_0 shb30_0 shr30_0 ((x0,x1,()),())) (t30_0 x0 x1) [(bl 4 15,[1,2,2,2,2,2,2,2,2,4,6,8]),(bl 6 55,[2,6,6,4,6,6,6,10,6,6,6,8,10,12]),(bl 6 23,[2,6,6,4,6,6,6,10,6,6,6,8,10,12]),(bl 1 0,[2])] :=
  ⟨by kernel_rfl,by kernel_rfl,by kernel_rfl,by kernel_rfl,trivial⟩
theorem ok30_0_t (x0:(List (Int×(Int×(Bool×Unit))))) (x1:Int):TrOk (BodyRuns Proofs.Try.prog (kf40 Proofs.Try.prog).orc 30 0 sh30_0 shb30_0 shr30_0 ((x0,x1,()),())) (t30_0 x0 x1) :=
  Walks.ok (fun _ _ _=>BodyRuns.of) (wk30_0 x0 x1) (by kernel_rfl)
theorem ok30_0:qau Proofs.Try.prog 30 0 lc30_0:=qax (sh:=sh30_0) (shB:=shb30_0) (shR:=shr30_0) kf40_ok.base (T:=fun (d:sh30_0.data)=>t30_0 d.1.1 d.1.2.1) (by kernel_rfl) rfl (fun (d:sh30_0.data)=>ok30_0_t d.1.1 d.1.2.1) (fun _=>rfl)
def kl30_0 (P:Go.Program):Known:=(kf40 P).loop 30 0 lc30_0
theorem kl30_0_ok:KnownOk Proofs.Try.prog (kl30_0 Proofs.Try.prog):=kf40_ok.loop ok30_0
abbrev as30:List Ty:=[(.slice (.pair (.int .i64) (.pair (.int .i64) (.pair .bool .unit))))]
abbrev rs30:List Ty:=[(.int .i64),(.int .i64)]
def t30 (x0:(List (Int×(Int×(Bool×Unit))))):Tr (Tys.data rs30) :=
  Tr.test ((eqF (↑(List.length x0):Int) (0:Int):Bool))
    (Tr.fin (((0:Int),((10:Int),()))))
    (Tr.test (!leF (↑(List.length x0):Int) (4:Int))
      (Tr.fin (((0:Int),((8:Int),()))))
      (Tr.test (Option.isSome (l30_0 ((x0,((0:Int),())),())))
        (Tr.test (qaY (l30_0 ((x0,((0:Int),())),())))
          (let r0:=r30_0 ((x0,((0:Int),())),());
          Tr.fin ((r0.1.1,(r0.1.2.1,()))))
          (Tr.fin (((0:Int),((0:Int),())))))
        (Tr.stop)))
def f30 (d:Tys.data as30):Option (Tys.data rs30):=(t30 d.1).val
def g30 (d:Tys.data as30):Tys.data rs30:=(f30 d).getD (Tys.dflt rs30)
def p30:PureC:=pcOf as30 rs30 f30 g30
theorem wk30 (x0:(List (Int×(Int×(Bool×Unit))))):Walks (runPure (kl30_0 Proofs.Try.prog).orc Proofs.Try.prog 400 30 as30 rs30 (x0,())) (t30 x0) [(bl 1 1,[2]),(bl 2 2,[2,4]),(bl 4 12,[2,4,6,8]),(bl 4 4,[2,4,6,8])] :=
  ⟨by kernel_rfl,by kernel_rfl,by kernel_rfl,by kernel_rfl,trivial⟩
theorem ok30_t (x0:(List (Int×(Int×(Bool×Unit))))):TrOk (PureRuns Proofs.Try.prog (kl30_0 Proofs.Try.prog).orc 30 as30 rs30 (x0,())) (t30 x0) :=
  Walks.ok (fun _ _ _=>PureRuns.of) (wk30 x0) (by kernel_rfl)
theorem ok30:PureOk Proofs.Try.prog 30 p30:=qab kl30_0_ok.base (T:=fun (d:Tys.data as30)=>t30 d.1) (by kernel_rfl) (fun (d:Tys.data as30)=>ok30_t d.1)
def kf30 (P:Go.Program):Known:=(kl30_0 P).func 30 p30
theorem kf30_ok:KnownOk Proofs.Try.prog (kf30 Proofs.Try.prog):=kl30_0_ok.func ok30
abbrev as39:List Ty:=[(.slice (.pair (.int .i64) (.pair (.int .i64) (.pair .bool .unit))))]
abbrev rs39:List Ty:=[(.int .i64)]
def t39 (x0:(List (Int×(Int×(Bool×Unit))))):Tr (Tys.data rs39) :=
  Tr.test (Option.isSome (f30 (x0,())))
    (let r0:=g30 (x0,());
    Tr.fin ((r0.2.1,())))
    (Tr.stop)
def f39 (d:Tys.data as39):Option (Tys.data rs39):=(t39 d.1).val
def g39 (d:Tys.data as39):Tys.data rs39:=(f39 d).getD (Tys.dflt rs39)
def p39:PureC:=pcOf as39 rs39 f39 g39
theorem wk39 (x0:(List (Int×(Int×(Bool×Unit))))):Walks (runPure (kf30 Proofs.Try.prog).orc Proofs.Try.prog 400 39 as39 rs39 (x0,())) (t39 x0) [(bl 1 1,[2])] :=
  ⟨by kernel_rfl,trivial⟩
theorem ok39_t (x0:(List (Int×(Int×(Bool×Unit))))):TrOk (PureRuns Proofs.Try.prog (kf30 Proofs.Try.prog).orc 39 as39 rs39 (x0,())) (t39 x0) :=
  Walks.ok (fun _ _ _=>PureRuns.of) (wk39 x0) (by kernel_rfl)
theorem ok39:PureOk Proofs.Try.prog 39 p39:=qab kf30_ok.base (T:=fun (d:Tys.data as39)=>t39 d.1) (by kernel_rfl) (fun (d:Tys.data as39)=>ok39_t d.1)
def kf39 (P:Go.Program):Known:=(kf30 P).func 39 p39
theorem kf39_ok:KnownOk Proofs.Try.prog (kf39 Proofs.Try.prog):=kf30_ok.func ok39
abbrev sh49_0:Sh:={ n:=45,slots:=[1,4],pats:=[.ptr 0 1 0,.ty (.int .i64)],boxes:=[.row [.ty (.slice (.pair (.int .i64) (.pair (.int .i64) (.pair (.slice (.pair (.int .i64) (.pair (.int .i64) (.pair .bool .unit)))) .unit))))]] }
abbrev shb49_0:Sh:={ n:=45,slots:=[],pats:=[],boxes:=[.row [.ty (.slice (.pair (.int .i64) (.pair (.int .i64) (.pair (.slice (.pair (.int .i64) (.pair (.int .i64) (.pair .bool .unit)))) .unit))))]] }
abbrev shr49_0:Sh:={ n:=45,slots:=[2,3],pats:=[.ty (.int .i64),.ty (.int .i64)],boxes:=[.row [.ty (.slice (.pair (.int .i64) (.pair (.int .i64) (.pair (.slice (.pair (.int .i64) (.pair (.int .i64) (.pair .bool .unit)))) .unit))))]] }
def t49_0 (x1:Int) (b0_0:(List (Int×(Int×((List (Int×(Int×(Bool×Unit))))×Unit))))):Tr (Out sh49_0.data shb49_0.data shr49_0.data) :=
  Tr.test ((!leF (↑(List.length b0_0):Int) x1:Bool))
    (Tr.test (decide ((0:Int) ≤ x1) && decide (x1 < (↑(List.length b0_0):Int)))
      (Tr.test (Option.isSome (f40 (((List.getD b0_0 (Int.toNat x1) ((0:Int),(0:Int),[],())).1:Int),((1:Int),((10000:Int),())))))
        (let r0:=g40 (((List.getD b0_0 (Int.toNat x1) ((0:Int),(0:Int),[],())).1:Int),((1:Int),((10000:Int),())));
        Tr.test ((!r0.1:Bool))
          (Tr.fin (.ret ((x1,((2:Int),())),((b0_0,()),()))))
          (Tr.test (Option.isSome (f40 (((List.getD b0_0 (Int.toNat x1) ((0:Int),(0:Int),[],())).2.1:Int),((1:Int),((1000:Int),())))))
            (let r1:=g40 (((List.getD b0_0 (Int.toNat x1) ((0:Int),(0:Int),[],())).2.1:Int),((1:Int),((1000:Int),())));
            Tr.test ((!r1.1:Bool))
              (Tr.fin (.ret ((x1,((2:Int),())),((b0_0,()),()))))
              (Tr.test (Option.isSome (f39 (((List.getD b0_0 (Int.toNat x1) ((0:Int),(0:Int),[],())).2.2.1:List (Int×Int×Bool×PUnit)),())))
                (let r2:=g39 (((List.getD b0_0 (Int.toNat x1) ((0:Int),(0:Int),[],())).2.2.1:List (Int×Int×Bool×PUnit)),());
                Tr.test ((!eqF r2.1 0:Bool))
                  (Tr.fin (.ret ((x1,(r2.1,())),((b0_0,()),()))))
                  (Tr.fin (.again (((wrap64 (x1 + (1:Int)):Int),()),((b0_0,()),())))))
                (Tr.stop)))
            (Tr.stop)))
        (Tr.stop))
      (Tr.stop))
    (Tr.fin (.brk ((),((b0_0,()),()))))
def s49_0 (d:sh49_0.data):Option (Out sh49_0.data shb49_0.data shr49_0.data):=(t49_0 d.1.1 d.2.1.1).val
def l49_0 (d:sh49_0.data):Option (shb49_0.data ⊕ shr49_0.data):=itr s49_0 rounds d
def b49_0 (d:sh49_0.data):shb49_0.data:=outB shb49_0.dflt (l49_0 d)
def r49_0 (d:sh49_0.data):shr49_0.data:=outR shr49_0.dflt (l49_0 d)
def lc49_0:LoopC:=lcOf sh49_0 shb49_0 shr49_0 l49_0 b49_0 r49_0
theorem wk49_0 (x1:Int) (b0_0:(List (Int×(Int×((List (Int×(Int×(Bool×Unit))))×Unit))))):Walks (qal (kf39 Proofs.Try.prog).orc Proofs.Try.prog 400 49 0 sh49_0 shb49_0 shr49_0 ((x1,()),(b0_0,()),())) (t49_0 x1 b0_0) [(bl 4 15,[1,2,2,2,2,2,4,6,8]),(bl 6 55,[2,6,6,4,6,6,6,8,10,12]),(bl 8 215,[2,4,6,10,10,8,10,10,10,12,14,16]),(bl 8 87,[2,4,6,10,10,8,10,10,10,12,14,16]),(bl 1 0,[2])] :=
  ⟨by kernel_rfl,by kernel_rfl,by kernel_rfl,by kernel_rfl,by kernel_rfl,trivial⟩
theorem ok49_0_t (x1:Int) (b0_0:(List (Int×(Int×((List (Int×(Int×(Bool×Unit))))×Unit))))):TrOk (BodyRuns Proofs.Try.prog (kf39 Proofs.Try.prog).orc 49 0 sh49_0 shb49_0 shr49_0 ((x1,()),(b0_0,()),())) (t49_0 x1 b0_0) :=
  Walks.ok (fun _ _ _=>BodyRuns.of) (wk49_0 x1 b0_0) (by kernel_rfl)
theorem ok49_0:qau Proofs.Try.prog 49 0 lc49_0:=qax (sh:=sh49_0) (shB:=shb49_0) (shR:=shr49_0) kf39_ok.base (T:=fun (d:sh49_0.data)=>t49_0 d.1.1 d.2.1.1) (by kernel_rfl) rfl (fun (d:sh49_0.data)=>ok49_0_t d.1.1 d.2.1.1) (fun _=>rfl)
def kl49_0 (P:Go.Program):Known:=(kf39 P).loop 49 0 lc49_0
theorem kl49_0_ok:KnownOk Proofs.Try.prog (kl49_0 Proofs.Try.prog):=kf39_ok.loop ok49_0
abbrev as49:List Ty:=[(.pair (.slice (.pair (.int .i64) (.pair (.int .i64) (.pair (.slice (.pair (.int .i64) (.pair (.int .i64) (.pair .bool .unit)))) .unit)))) .unit)]
abbrev rs49:List Ty:=[(.int .i64),(.int .i64)]
def t49 (x0:(List (Int×(Int×((List (Int×(Int×(Bool×Unit))))×Unit))))):Tr (Tys.data rs49) :=
  Tr.test ((eqF (↑(List.length x0):Int) (0:Int):Bool))
    (Tr.fin (((0:Int),((10:Int),()))))
    (Tr.test (!leF (↑(List.length x0):Int) (5:Int))
      (Tr.fin (((0:Int),((8:Int),()))))
      (Tr.test (Option.isSome (l49_0 (((0:Int),()),((x0,()),()))))
        (Tr.test (qaY (l49_0 (((0:Int),()),((x0,()),()))))
          (let r0:=r49_0 (((0:Int),()),((x0,()),()));
          Tr.fin ((r0.1.1,(r0.1.2.1,()))))
          (Tr.fin (((0:Int),((0:Int),())))))
        (Tr.stop)))
def f49 (d:Tys.data as49):Option (Tys.data rs49):=(t49 d.1.1).val
def g49 (d:Tys.data as49):Tys.data rs49:=(f49 d).getD (Tys.dflt rs49)
def p49:PureC:=pcOf as49 rs49 f49 g49
theorem wk49 (x0:(List (Int×(Int×((List (Int×(Int×(Bool×Unit))))×Unit))))):Walks (runPure (kl49_0 Proofs.Try.prog).orc Proofs.Try.prog 400 49 as49 rs49 ((x0,()),())) (t49 x0) [(bl 1 1,[2]),(bl 2 2,[2,4]),(bl 4 12,[2,4,6,8]),(bl 4 4,[2,4,6,8])] :=
  ⟨by kernel_rfl,by kernel_rfl,by kernel_rfl,by kernel_rfl,trivial⟩
theorem ok49_t (x0:(List (Int×(Int×((List (Int×(Int×(Bool×Unit))))×Unit))))):TrOk (PureRuns Proofs.Try.prog (kl49_0 Proofs.Try.prog).orc 49 as49 rs49 ((x0,()),())) (t49 x0) :=
  Walks.ok (fun _ _ _=>PureRuns.of) (wk49 x0) (by kernel_rfl)
theorem ok49:PureOk Proofs.Try.prog 49 p49:=qab kl49_0_ok.base (T:=fun (d:Tys.data as49)=>t49 d.1.1) (by kernel_rfl) (fun (d:Tys.data as49)=>ok49_t d.1.1)
def kf49 (P:Go.Program):Known:=(kl49_0 P).func 49 p49
theorem kf49_ok:KnownOk Proofs.Try.prog (kf49 Proofs.Try.prog):=kl49_0_ok.func ok49
abbrev as60:List Ty:=[(.pair (.slice (.pair (.int .i64) (.pair (.int .i64) (.pair (.slice (.pair (.int .i64) (.pair (.int .i64) (.pair .bool .unit)))) .unit)))) .unit)]
abbrev rs60:List Ty:=[(.int .i64)]
def t60 (x0:(List (Int×(Int×((List (Int×(Int×(Bool×Unit))))×Unit))))):Tr (Tys.data rs60) :=
  Tr.test (Option.isSome (f49 ((x0,()),())))
    (let r0:=g49 ((x0,()),());
    Tr.fin ((r0.2.1,())))
    (Tr.stop)
def f60 (d:Tys.data as60):Option (Tys.data rs60):=(t60 d.1.1).val
def g60 (d:Tys.data as60):Tys.data rs60:=(f60 d).getD (Tys.dflt rs60)
def p60:PureC:=pcOf as60 rs60 f60 g60
theorem wk60 (x0:(List (Int×(Int×((List (Int×(Int×(Bool×Unit))))×Unit))))):Walks (runPure (kf49 Proofs.Try.prog).orc Proofs.Try.prog 400 60 as60 rs60 ((x0,()),())) (t60 x0) [(bl 1 1,[2])] :=
  ⟨by kernel_rfl,trivial⟩
theorem ok60_t (x0:(List (Int×(Int×((List (Int×(Int×(Bool×Unit))))×Unit))))):TrOk (PureRuns Proofs.Try.prog (kf49 Proofs.Try.prog).orc 60 as60 rs60 ((x0,()),())) (t60 x0) :=
  Walks.ok (fun _ _ _=>PureRuns.of) (wk60 x0) (by kernel_rfl)
theorem ok60:PureOk Proofs.Try.prog 60 p60:=qab kf49_ok.base (T:=fun (d:Tys.data as60)=>t60 d.1.1) (by kernel_rfl) (fun (d:Tys.data as60)=>ok60_t d.1.1)
def kf60 (P:Go.Program):Known:=(kf49 P).func 60 p60
theorem kf60_ok:KnownOk Proofs.Try.prog (kf60 Proofs.Try.prog):=kf49_ok.func ok60
abbrev as120:List Ty:=[(.int .i64)]
abbrev rs120:List Ty:=[(.int .i64)]
def t120 (x0:Int):Tr (Tys.data rs120) :=
  Tr.test (Option.isSome (f40 (x0,((-100:Int),((100:Int),())))))
    (let r0:=g40 (x0,((-100:Int),((100:Int),())));
    Tr.test ((!r0.1:Bool))
      (Tr.fin (((2:Int),())))
      (Tr.fin (((0:Int),()))))
    (Tr.stop)
def f120 (d:Tys.data as120):Option (Tys.data rs120):=(t120 d.1).val
def g120 (d:Tys.data as120):Tys.data rs120:=(f120 d).getD (Tys.dflt rs120)
def p120:PureC:=pcOf as120 rs120 f120 g120
theorem wk120 (x0:Int):Walks (runPure (kf60 Proofs.Try.prog).orc Proofs.Try.prog 400 120 as120 rs120 (x0,())) (t120 x0) [(bl 2 3,[2,4]),(bl 2 1,[2,4])] :=
  ⟨by kernel_rfl,by kernel_rfl,trivial⟩
theorem ok120_t (x0:Int):TrOk (PureRuns Proofs.Try.prog (kf60 Proofs.Try.prog).orc 120 as120 rs120 (x0,())) (t120 x0) :=
  Walks.ok (fun _ _ _=>PureRuns.of) (wk120 x0) (by kernel_rfl)
theorem ok120:PureOk Proofs.Try.prog 120 p120:=qab kf60_ok.base (T:=fun (d:Tys.data as120)=>t120 d.1) (by kernel_rfl) (fun (d:Tys.data as120)=>ok120_t d.1)
def kf120 (P:Go.Program):Known:=(kf60 P).func 120 p120
theorem kf120_ok:KnownOk Proofs.Try.prog (kf120 Proofs.Try.prog):=kf60_ok.func ok120
abbrev sh61_0:Sh:={ n:=22,slots:=[0,3],pats:=[.ty (.slice (.int .i64)),.ty (.int .i64)],boxes:=[] }
abbrev shb61_0:Sh:={ n:=22,slots:=[],pats:=[],boxes:=[] }
abbrev shr61_0:Sh:={ n:=22,slots:=[2],pats:=[.ty (.int .i64)],boxes:=[] }
def t61_0 (x0:(List Int)) (x1:Int):Tr (Out sh61_0.data shb61_0.data shr61_0.data) :=
  Tr.test ((!leF (↑(List.length x0):Int) x1:Bool))
    (Tr.test (decide ((0:Int) ≤ x1) && decide (x1 < (↑(List.length x0):Int)))
      (Tr.test (Option.isSome (f120 ((List.getD x0 (Int.toNat x1) (0:Int):Int),())))
        (let r0:=g120 ((List.getD x0 (Int.toNat x1) (0:Int):Int),());
        Tr.test ((!eqF r0.1 0:Bool))
          (Tr.fin (.ret ((r0.1,()),())))
          (Tr.fin (.again ((x0,((wrap64 (x1 + (1:Int)):Int),())),()))))
        (Tr.stop))
      (Tr.stop))
    (Tr.fin (.brk ((),())))
def s61_0 (d:sh61_0.data):Option (Out sh61_0.data shb61_0.data shr61_0.data):=(t61_0 d.1.1 d.1.2.1).val
def l61_0 (d:sh61_0.data):Option (shb61_0.data ⊕ shr61_0.data):=itr s61_0 rounds d
def b61_0 (d:sh61_0.data):shb61_0.data:=outB shb61_0.dflt (l61_0 d)
def r61_0 (d:sh61_0.data):shr61_0.data:=outR shr61_0.dflt (l61_0 d)
def lc61_0:LoopC:=lcOf sh61_0 shb61_0 shr61_0 l61_0 b61_0 r61_0
theorem wk61_0 (x0:(List Int)) (x1:Int):Walks (qal (kf120 Proofs.Try.prog).orc Proofs.Try.prog 400 61 0 sh61_0 shb61_0 shr61_0 ((x0,x1,()),())) (t61_0 x0 x1) [(bl 4 15,[2,4,6,8]),(bl 4 7,[2,4,6,8]),(bl 1 0,[2])] :=
  ⟨by kernel_rfl,by kernel_rfl,by kernel_rfl,trivial⟩
theorem ok61_0_t (x0:(List Int)) (x1:Int):TrOk (BodyRuns Proofs.Try.prog (kf120 Proofs.Try.prog).orc 61 0 sh61_0 shb61_0 shr61_0 ((x0,x1,()),())) (t61_0 x0 x1) :=
  Walks.ok (fun _ _ _=>BodyRuns.of) (wk61_0 x0 x1) (by kernel_rfl)
theorem ok61_0:qau Proofs.Try.prog 61 0 lc61_0:=qax (sh:=sh61_0) (shB:=shb61_0) (shR:=shr61_0) kf120_ok.base (T:=fun (d:sh61_0.data)=>t61_0 d.1.1 d.1.2.1) (by kernel_rfl) rfl (fun (d:sh61_0.data)=>ok61_0_t d.1.1 d.1.2.1) (fun _=>rfl)
def kl61_0 (P:Go.Program):Known:=(kf120 P).loop 61 0 lc61_0
theorem kl61_0_ok:KnownOk Proofs.Try.prog (kl61_0 Proofs.Try.prog):=kf120_ok.loop ok61_0
abbrev as61:List Ty:=[(.slice (.int .i64))]
abbrev rs61:List Ty:=[(.int .i64)]
def t61 (x0:(List Int)):Tr (Tys.data rs61) :=
  Tr.test ((!leF (↑(List.length x0):Int) (60:Int):Bool))
    (Tr.fin (((8:Int),())))
    (Tr.test (Option.isSome (l61_0 ((x0,((0:Int),())),())))
      (Tr.test (qaY (l61_0 ((x0,((0:Int),())),())))
        (let r0:=r61_0 ((x0,((0:Int),())),());
        Tr.fin ((r0.1.1,())))
        (Tr.fin (((0:Int),()))))
      (Tr.stop))
def f61 (d:Tys.data as61):Option (Tys.data rs61):=(t61 d.1).val
def g61 (d:Tys.data as61):Tys.data rs61:=(f61 d).getD (Tys.dflt rs61)
def p61:PureC:=pcOf as61 rs61 f61 g61
theorem wk61 (x0:(List Int)):Walks (runPure (kl61_0 Proofs.Try.prog).orc Proofs.Try.prog 400 61 as61 rs61 (x0,())) (t61 x0) [(bl 1 1,[2]),(bl 3 6,[2,4,6]),(bl 3 2,[2,4,6])] :=
  ⟨by kernel_rfl,by kernel_rfl,by kernel_rfl,trivial⟩
theorem ok61_t (x0:(List Int)):TrOk (PureRuns Proofs.Try.prog (kl61_0 Proofs.Try.prog).orc 61 as61 rs61 (x0,())) (t61 x0) :=
  Walks.ok (fun _ _ _=>PureRuns.of) (wk61 x0) (by kernel_rfl)
theorem ok61:PureOk Proofs.Try.prog 61 p61:=qab kl61_0_ok.base (T:=fun (d:Tys.data as61)=>t61 d.1) (by kernel_rfl) (fun (d:Tys.data as61)=>ok61_t d.1)
def kf61 (P:Go.Program):Known:=(kl61_0 P).func 61 p61
theorem kf61_ok:KnownOk Proofs.Try.prog (kf61 Proofs.Try.prog):=kl61_0_ok.func ok61
abbrev as35:List Ty:=[(.slice (.pair (.int .i64) (.pair (.int .i64) (.pair .bool .unit))))]
abbrev rs35:List Ty:=[(.pair (.int .i64) (.pair (.slice (.pair (.int .i64) (.pair .bool .unit))) .unit))]
def t35 (x0:(List (Int×(Int×(Bool×Unit))))):Tr (Tys.data rs35) :=
  Tr.test ((decide ((0:Int) ≤ (↑(List.length x0):Int)) && decide ((↑(List.length x0):Int) ≤ (↑(List.length x0):Int)) && decide ((16:Int) * (↑(List.length x0):Int) ≤ (281474976710656:Int)) && decide ((↑(List.length x0):Int) ≤ (281474976710656:Int)):Bool))
    (Tr.test (Nat.beq (Int.toNat (↑(List.length x0):Int)) (List.length (List.replicate (Int.toNat (↑(List.length x0):Int)) ((0:Int),false,()))))
      (Tr.fin ((((0:Int),((List.replicate (Int.toNat (↑(List.length x0):Int)) ((0:Int),false,()):List (Int×Bool×PUnit)),())),())))
      (Tr.stop))
    (Tr.stop)
def f35 (d:Tys.data as35):Option (Tys.data rs35):=(t35 d.1).val
def g35 (d:Tys.data as35):Tys.data rs35:=(f35 d).getD (Tys.dflt rs35)
def p35:PureC:=pcOf as35 rs35 f35 g35
theorem wk35 (x0:(List (Int×(Int×(Bool×Unit))))):Walks (runPure (kf61 Proofs.Try.prog).orc Proofs.Try.prog 400 35 as35 rs35 (x0,())) (t35 x0) [(bl 2 3,[2,4])] :=
  ⟨by kernel_rfl,trivial⟩
theorem ok35_t (x0:(List (Int×(Int×(Bool×Unit))))):TrOk (PureRuns Proofs.Try.prog (kf61 Proofs.Try.prog).orc 35 as35 rs35 (x0,())) (t35 x0) :=
  Walks.ok (fun _ _ _=>PureRuns.of) (wk35 x0) (by kernel_rfl)
theorem ok35:PureOk Proofs.Try.prog 35 p35:=qab kf61_ok.base (T:=fun (d:Tys.data as35)=>t35 d.1) (by kernel_rfl) (fun (d:Tys.data as35)=>ok35_t d.1)
def kf35 (P:Go.Program):Known:=(kf61 P).func 35 p35
theorem kf35_ok:KnownOk Proofs.Try.prog (kf35 Proofs.Try.prog):=kf61_ok.func ok35
abbrev sh53_0:Sh:={ n:=32,slots:=[1,2,3,4,5],pats:=[.ptr 0 1 0,.ptr 1 3 0,.ty (.int .i64),.ptr 2 3 0,.ty (.int .i64)],boxes:=[.row [.ty (.slice (.pair (.int .i64) (.pair (.int .i64) (.pair (.slice (.pair (.int .i64) (.pair (.int .i64) (.pair .bool .unit)))) .unit))))],.row [.nil,.nil,.nil],.row [.sli 3 1,.sli 4 1,.acc (.pair (.int .i64) (.pair (.slice (.pair (.int .i64) (.pair .bool .unit))) .unit))],.arr (.int .i64),.arr (.int .i64)] }
abbrev shb53_0:Sh:={ n:=32,slots:=[2,4],pats:=[.ptr 1 3 0,.ptr 2 3 0],boxes:=[.row [.ty (.slice (.pair (.int .i64) (.pair (.int .i64) (.pair (.slice (.pair (.int .i64) (.pair (.int .i64) (.pair .bool .unit)))) .unit))))],.row [.nil,.nil,.nil],.row [.sli 3 1,.sli 4 1,.acc (.pair (.int .i64) (.pair (.slice (.pair (.int .i64) (.pair .bool .unit))) .unit))],.arr (.int .i64),.arr (.int .i64)] }
abbrev shr53_0:Sh:={ n:=32,slots:=[],pats:=[],boxes:=[.row [.ty (.slice (.pair (.int .i64) (.pair (.int .i64) (.pair (.slice (.pair (.int .i64) (.pair (.int .i64) (.pair .bool .unit)))) .unit))))],.row [.nil,.nil,.nil],.row [.sli 3 1,.sli 4 1,.acc (.pair (.int .i64) (.pair (.slice (.pair (.int .i64) (.pair .bool .unit))) .unit))],.arr (.int .i64),.arr (.int .i64)] }
def t53_0 (x2:Int) (x4:Int) (b0_0:(List (Int×(Int×((List (Int×(Int×(Bool×Unit))))×Unit))))) (b2_0n:Nat) (b2_0c:Nat) (b2_1n:Nat) (b2_1c:Nat) (b2_2:(List (Int×((List (Int×(Bool×Unit)))×Unit)))) (b3:(List Int)) (b4:(List Int)):Tr (Out sh53_0.data shb53_0.data shr53_0.data) :=
  Tr.test ((!leF x2 x4:Bool))
    (Tr.test (decide ((0:Int) ≤ x4) && decide (x4 < (↑(List.length b0_0):Int)))
      (Tr.test (Option.isSome (f35 (((List.getD b0_0 (Int.toNat x4) ((0:Int),(0:Int),[],())).2.2.1:List (Int×Int×Bool×PUnit)),())))
        (Tr.test ((Nat.ble (((2:Nat) * (List.length b2_2 + (1:Nat)) + (192:Nat)) * (32:Nat)) (281474976710656:Nat) && Nat.ble (List.length b2_2 + (1:Nat)) (281474976710656:Nat):Bool))
          (let r0:=g35 (((List.getD b0_0 (Int.toNat x4) ((0:Int),(0:Int),[],())).2.2.1:List (Int×Int×Bool×PUnit)),());
          Tr.fin (.again ((x2,((wrap64 (x4 + (1:Int)):Int),())),((b0_0,()),((),(((b2_0n,b2_0c),((b2_1n,b2_1c),((b2_2++[(r0.1.1,r0.1.2.1,())]:List (Int×List (Int×Bool×PUnit)×PUnit)),()))),(b3,(b4,()))))))))
          (Tr.stop))
        (Tr.stop))
      (Tr.stop))
    (Tr.fin (.brk ((),((b0_0,()),((),(((b2_0n,b2_0c),((b2_1n,b2_1c),(b2_2,()))),(b3,(b4,()))))))))
def s53_0 (d:sh53_0.data):Option (Out sh53_0.data shb53_0.data shr53_0.data):=(t53_0 d.1.1 d.1.2.1 d.2.1.1 d.2.2.2.1.1.1 d.2.2.2.1.1.2 d.2.2.2.1.2.1.1 d.2.2.2.1.2.1.2 d.2.2.2.1.2.2.1 d.2.2.2.2.1 d.2.2.2.2.2.1).val
def l53_0 (d:sh53_0.data):Option (shb53_0.data ⊕ shr53_0.data):=itr s53_0 rounds d
def b53_0 (d:sh53_0.data):shb53_0.data:=outB shb53_0.dflt (l53_0 d)
def lc53_0:LoopC:=lcB sh53_0 shb53_0 shr53_0 l53_0 b53_0
theorem wk53_0 (x2:Int) (x4:Int) (b0_0:(List (Int×(Int×((List (Int×(Int×(Bool×Unit))))×Unit))))) (b2_0n:Nat) (b2_0c:Nat) (b2_1n:Nat) (b2_1c:Nat) (b2_2:(List (Int×((List (Int×(Bool×Unit)))×Unit)))) (b3:(List Int)) (b4:(List Int)):Walks (qal (kf35 Proofs.Try.prog).orc Proofs.Try.prog 400 53 0 sh53_0 shb53_0 shr53_0 ((x2,x4,()),(b0_0,()),(),((b2_0n,b2_0c),(b2_1n,b2_1c),b2_2,()),b3,b4,())) (t53_0 x2 x4 b0_0 b2_0n b2_0c b2_1n b2_1c b2_2 b3 b4) [(bl 4 15,[2,4,6,8]),(bl 1 0,[2])] :=
  ⟨by kernel_rfl,by kernel_rfl,trivial⟩
theorem ok53_0_t (x2:Int) (x4:Int) (b0_0:(List (Int×(Int×((List (Int×(Int×(Bool×Unit))))×Unit))))) (b2_0n:Nat) (b2_0c:Nat) (b2_1n:Nat) (b2_1c:Nat) (b2_2:(List (Int×((List (Int×(Bool×Unit)))×Unit)))) (b3:(List Int)) (b4:(List Int)):TrOk (BodyRuns Proofs.Try.prog (kf35 Proofs.Try.prog).orc 53 0 sh53_0 shb53_0 shr53_0 ((x2,x4,()),(b0_0,()),(),((b2_0n,b2_0c),(b2_1n,b2_1c),b2_2,()),b3,b4,())) (t53_0 x2 x4 b0_0 b2_0n b2_0c b2_1n b2_1c b2_2 b3 b4) :=
  Walks.ok (fun _ _ _=>BodyRuns.of) (wk53_0 x2 x4 b0_0 b2_0n b2_0c b2_1n b2_1c b2_2 b3 b4) (by kernel_rfl)
theorem ok53_0:qau Proofs.Try.prog 53 0 lc53_0:=qay (sh:=sh53_0) (shB:=shb53_0) (shR:=shr53_0) kf35_ok.base (T:=fun (d:sh53_0.data)=>t53_0 d.1.1 d.1.2.1 d.2.1.1 d.2.2.2.1.1.1 d.2.2.2.1.1.2 d.2.2.2.1.2.1.1 d.2.2.2.1.2.1.2 d.2.2.2.1.2.2.1 d.2.2.2.2.1 d.2.2.2.2.2.1) (by kernel_rfl) rfl (fun (d:sh53_0.data)=>ok53_0_t d.1.1 d.1.2.1 d.2.1.1 d.2.2.2.1.1.1 d.2.2.2.1.1.2 d.2.2.2.1.2.1.1 d.2.2.2.1.2.1.2 d.2.2.2.1.2.2.1 d.2.2.2.2.1 d.2.2.2.2.2.1) (fun _=>rfl)
def kl53_0 (P:Go.Program):Known:=(kf35 P).loop 53 0 lc53_0
theorem kl53_0_ok:KnownOk Proofs.Try.prog (kl53_0 Proofs.Try.prog):=kf35_ok.loop ok53_0
abbrev as53:List Ty:=[(.pair (.slice (.pair (.int .i64) (.pair (.int .i64) (.pair (.slice (.pair (.int .i64) (.pair (.int .i64) (.pair .bool .unit)))) .unit)))) .unit)]
abbrev rs53:List Ty:=[(.pair (.slice (.int .i64)) (.pair (.slice (.int .i64)) (.pair (.slice (.pair (.int .i64) (.pair (.slice (.pair (.int .i64) (.pair .bool .unit))) .unit))) .unit)))]
def t53 (x0:(List (Int×(Int×((List (Int×(Int×(Bool×Unit))))×Unit))))):Tr (Tys.data rs53) :=
  Tr.test ((decide ((0:Int) ≤ (↑(List.length x0):Int)) && decide ((↑(List.length x0):Int) ≤ (↑(List.length x0):Int)) && decide ((8:Int) * (↑(List.length x0):Int) ≤ (281474976710656:Int)) && decide ((↑(List.length x0):Int) ≤ (281474976710656:Int)):Bool))
    (Tr.test (qbh (l53_0 (((↑(List.length x0):Int),((0:Int),())),((x0,()),((),((((Int.toNat (↑(List.length x0):Int):Nat),(Int.toNat (↑(List.length x0):Int):Nat)),(((Int.toNat (↑(List.length x0):Int):Nat),(Int.toNat (↑(List.length x0):Int):Nat)),(([]:List (Int×List (Int×Bool×PUnit)×PUnit)),()))),((List.replicate (Int.toNat (↑(List.length x0):Int)) (0:Int):List Int),((List.replicate (Int.toNat (↑(List.length x0):Int)) (0:Int):List Int),()))))))))
      (let r0:=b53_0 (((↑(List.length x0):Int),((0:Int),())),((x0,()),((),((((Int.toNat (↑(List.length x0):Int):Nat),(Int.toNat (↑(List.length x0):Int):Nat)),(((Int.toNat (↑(List.length x0):Int):Nat),(Int.toNat (↑(List.length x0):Int):Nat)),(([]:List (Int×List (Int×Bool×PUnit)×PUnit)),()))),((List.replicate (Int.toNat (↑(List.length x0):Int)) (0:Int):List Int),((List.replicate (Int.toNat (↑(List.length x0):Int)) (0:Int):List Int),()))))));
      Tr.test ((Nat.beq r0.2.2.2.1.1.1 (List.length r0.2.2.2.2.1):Bool))
        (Tr.test ((Nat.beq r0.2.2.2.1.2.1.1 (List.length r0.2.2.2.2.2.1):Bool))
          (Tr.fin (((r0.2.2.2.2.1,(r0.2.2.2.2.2.1,((r0.2.2.2.1.2.2.1:List (Int×List (Int×Bool×PUnit)×PUnit)),()))),())))
          (Tr.test ((Nat.ble r0.2.2.2.1.2.1.1 (List.length r0.2.2.2.2.2.1):Bool))
            (Tr.fin (((r0.2.2.2.2.1,((List.take r0.2.2.2.1.2.1.1 r0.2.2.2.2.2.1:List Int),((r0.2.2.2.1.2.2.1:List (Int×List (Int×Bool×PUnit)×PUnit)),()))),())))
            (Tr.stop)))
        (Tr.test ((Nat.ble r0.2.2.2.1.1.1 (List.length r0.2.2.2.2.1):Bool))
          (Tr.test ((Nat.beq r0.2.2.2.1.2.1.1 (List.length r0.2.2.2.2.2.1):Bool))
            (Tr.fin ((((List.take r0.2.2.2.1.1.1 r0.2.2.2.2.1:List Int),(r0.2.2.2.2.2.1,((r0.2.2.2.1.2.2.1:List (Int×List (Int×Bool×PUnit)×PUnit)),()))),())))
            (Tr.test ((Nat.ble r0.2.2.2.1.2.1.1 (List.length r0.2.2.2.2.2.1):Bool))
              (Tr.fin ((((List.take r0.2.2.2.1.1.1 r0.2.2.2.2.1:List Int),((List.take r0.2.2.2.1.2.1.1 r0.2.2.2.2.2.1:List Int),((r0.2.2.2.1.2.2.1:List (Int×List (Int×Bool×PUnit)×PUnit)),()))),())))
              (Tr.stop)))
          (Tr.stop)))
      (Tr.stop))
    (Tr.stop)
def f53 (d:Tys.data as53):Option (Tys.data rs53):=(t53 d.1.1).val
def g53 (d:Tys.data as53):Tys.data rs53:=(f53 d).getD (Tys.dflt rs53)
def p53:PureC:=pcOf as53 rs53 f53 g53
theorem wk53 (x0:(List (Int×(Int×((List (Int×(Int×(Bool×Unit))))×Unit))))):Walks (runPure (kl53_0 Proofs.Try.prog).orc Proofs.Try.prog 400 53 as53 rs53 ((x0,()),())) (t53 x0) [(bl 4 15,[2,4,1,6,8,8]),(bl 5 23,[2,4,6,1,8,10,10]),(bl 5 27,[2,4,6,1,8,10,10]),(bl 6 43,[2,4,6,8,1,10,12,12])] :=
  ⟨by kernel_rfl,by kernel_rfl,by kernel_rfl,by kernel_rfl,trivial⟩
theorem ok53_t (x0:(List (Int×(Int×((List (Int×(Int×(Bool×Unit))))×Unit))))):TrOk (PureRuns Proofs.Try.prog (kl53_0 Proofs.Try.prog).orc 53 as53 rs53 ((x0,()),())) (t53 x0) :=
  Walks.ok (fun _ _ _=>PureRuns.of) (wk53 x0) (by kernel_rfl)
theorem ok53:PureOk Proofs.Try.prog 53 p53:=qab kl53_0_ok.base (T:=fun (d:Tys.data as53)=>t53 d.1.1) (by kernel_rfl) (fun (d:Tys.data as53)=>ok53_t d.1.1)
def kf53 (P:Go.Program):Known:=(kl53_0 P).func 53 p53
theorem kf53_ok:KnownOk Proofs.Try.prog (kf53 Proofs.Try.prog):=kl53_0_ok.func ok53
end Go.Vm.Mo
