import Derived.Test.YtiodahganfihkaaGreatA4
import Derived.Test.YtiodahganfihkaaGreatA5
import Derived.KernelRfl
import Derived.Test.YtiodahganfihkaaGreatProg
import Derived.Test.YtiodahganfihkaaGreatRsFb
set_option linter.unusedVariables false
set_option linter.unusedSimpArgs false

namespace Go.Vm.Mo
open Go
set_option linter.unusedVariables false

/-! loop 0 of ductility/safety.linesOf$1 -/

abbrev sh175_0 (P:Go.Program):Sh:={ n:=26,slots:=[0,1,6,7,8],pats:=[.yld 0,.ptr 1 1 0,.ty (.slice (.pair (.int .i64) (.pair (.int .i64) .unit))),.ty (.int .i64),.ty (.int .i64)],boxes:=[.lp (lpOf P 70 0 .ready none 26 [2,4,5] 2) [.ptr 3 1 0,.ptr 4 1 0,.ptr 5 1 0],.row [.ty (.slice (.pair (.int .i64) (.pair (.int .i64) .unit)))],.dfr,.row [.ty (.slice (.pair (.pair (.int .i64) (.pair (.int .i64) .unit)) (.pair (.pair (.int .i64) (.pair (.int .i64) .unit)) .unit)))],.row [.ty (.int .i64)],.row [.ty (.int .i64)]] }
abbrev shb175_0 (P:Go.Program):Sh:={ n:=26,slots:=[],pats:=[],boxes:=[.lp (lpOf P 70 0 .ready none 26 [2,4,5] 2) [.ptr 3 1 0,.ptr 4 1 0,.ptr 5 1 0],.row [.ty (.slice (.pair (.int .i64) (.pair (.int .i64) .unit)))],.dfr,.row [.ty (.slice (.pair (.pair (.int .i64) (.pair (.int .i64) .unit)) (.pair (.pair (.int .i64) (.pair (.int .i64) .unit)) .unit)))],.row [.ty (.int .i64)],.row [.ty (.int .i64)]] }
abbrev shr175_0 (P:Go.Program):Sh:={ n:=26,slots:=[],pats:=[],boxes:=[.lp (lpOf P 70 0 .done (some none) 26 [2,4,5] 2) [.ptr 3 1 0,.ptr 4 1 0,.ptr 5 1 0],.row [.ty (.slice (.pair (.int .i64) (.pair (.int .i64) .unit)))],.dfr,.row [.ty (.slice (.pair (.pair (.int .i64) (.pair (.int .i64) .unit)) (.pair (.pair (.int .i64) (.pair (.int .i64) .unit)) .unit)))],.row [.ty (.int .i64)],.row [.ty (.int .i64)]] }

abbrev dt175_0:Type:=(List (Int×Int×PUnit)×Int×Int×PUnit)×PUnit×(List (Int×Int×PUnit)×PUnit)×(List ((Int×Int×PUnit)×(Int×Int×PUnit)×PUnit)×PUnit)×(Int×PUnit)×(Int×PUnit)×PUnit
abbrev db175_0:Type:=PUnit×PUnit×(List (Int×Int×PUnit)×PUnit)×(List ((Int×Int×PUnit)×(Int×Int×PUnit)×PUnit)×PUnit)×(Int×PUnit)×(Int×PUnit)×PUnit
abbrev dr175_0:Type:=PUnit×PUnit×(List (Int×Int×PUnit)×PUnit)×(List ((Int×Int×PUnit)×(Int×Int×PUnit)×PUnit)×PUnit)×(Int×PUnit)×(Int×PUnit)×PUnit

def t175_0 (x2:(List (Int×(Int×Unit)))) (x3:Int) (x4:Int) (b1_0:(List (Int×(Int×Unit)))) (b3_0:(List ((Int×(Int×Unit))×((Int×(Int×Unit))×Unit)))) (b4_0:Int) (b5_0:Int):Tr (Out dt175_0 db175_0 dr175_0) :=
  Tr.test ((!leF x3 x4:Bool))
    (Tr.test (decide ((0:Int) ≤ x4) && decide (x4 < (↑(List.length x2):Int)))
      (Tr.test ((decide ((0:Int) ≤ if wrap64 (x4 - (1:Int)) < (0:Int) then (0:Int) else wrap64 (x4 - (1:Int))) && decide ((if wrap64 (x4 - (1:Int)) < (0:Int) then (0:Int) else wrap64 (x4 - (1:Int))) < (↑(List.length b1_0):Int)):Bool))
        (Tr.test (Option.isSome (l176_0 ((b3_0,((((List.getD b1_0 (Int.toNat (if wrap64 (x4 - (1:Int)) < (0:Int) then (0:Int) else wrap64 (x4 - (1:Int)))) ((0:Int),(0:Int),())).1:Int),(((List.getD b1_0 (Int.toNat (if wrap64 (x4 - (1:Int)) < (0:Int) then (0:Int) else wrap64 (x4 - (1:Int)))) ((0:Int),(0:Int),())).2.1:Int),(((List.getD x2 (Int.toNat x4) ((0:Int),(0:Int),())).1:Int),(((List.getD x2 (Int.toNat x4) ((0:Int),(0:Int),())).2.1:Int),())))),((↑(List.length b3_0):Int),((0:Int),())))),())))
          (Tr.test (isRet (l176_0 ((b3_0,((((List.getD b1_0 (Int.toNat (if wrap64 (x4 - (1:Int)) < (0:Int) then (0:Int) else wrap64 (x4 - (1:Int)))) ((0:Int),(0:Int),())).1:Int),(((List.getD b1_0 (Int.toNat (if wrap64 (x4 - (1:Int)) < (0:Int) then (0:Int) else wrap64 (x4 - (1:Int)))) ((0:Int),(0:Int),())).2.1:Int),(((List.getD x2 (Int.toNat x4) ((0:Int),(0:Int),())).1:Int),(((List.getD x2 (Int.toNat x4) ((0:Int),(0:Int),())).2.1:Int),())))),((↑(List.length b3_0):Int),((0:Int),())))),())))
            (let r0:=r176_0 ((b3_0,((((List.getD b1_0 (Int.toNat (if wrap64 (x4 - (1:Int)) < (0:Int) then (0:Int) else wrap64 (x4 - (1:Int)))) ((0:Int),(0:Int),())).1:Int),(((List.getD b1_0 (Int.toNat (if wrap64 (x4 - (1:Int)) < (0:Int) then (0:Int) else wrap64 (x4 - (1:Int)))) ((0:Int),(0:Int),())).2.1:Int),(((List.getD x2 (Int.toNat x4) ((0:Int),(0:Int),())).1:Int),(((List.getD x2 (Int.toNat x4) ((0:Int),(0:Int),())).2.1:Int),())))),((↑(List.length b3_0):Int),((0:Int),())))),());
            Tr.test ((leF (0:Int) r0.1.1:Bool))
              (Tr.fin (.ret ((),((),((b1_0,()),((b3_0,()),(((0:Int),()),(((13:Int),()),()))))))))
              (Tr.fin (.again ((x2,(x3,((wrap64 (x4 + (1:Int)):Int),()))),((),((b1_0,()),((b3_0,()),((b4_0,()),((b5_0,()),())))))))))
            (Tr.fin (.again ((x2,(x3,((wrap64 (x4 + (1:Int)):Int),()))),((),((b1_0,()),((b3_0,()),((b4_0,()),((b5_0,()),())))))))))
          (Tr.stop))
        (Tr.stop))
      (Tr.stop))
    (Tr.fin (.brk ((),((),((b1_0,()),((b3_0,()),((b4_0,()),((b5_0,()),()))))))))

def s175_0 (d:dt175_0):Option (Out dt175_0 db175_0 dr175_0):=(t175_0 d.1.1 d.1.2.1 d.1.2.2.1 d.2.2.1.1 d.2.2.2.1.1 d.2.2.2.2.1.1 d.2.2.2.2.2.1.1).val
def l175_0 (d:dt175_0):Option (db175_0 ⊕ dr175_0):=itr s175_0 rounds d
def b175_0 (d:dt175_0):db175_0:=outB (((),((),((([]:List (Int×Int×PUnit)),()),((([]:List ((Int×Int×PUnit)×(Int×Int×PUnit)×PUnit)),()),(((0:Int),()),(((0:Int),()),()))))))) (l175_0 d)
def r175_0 (d:dt175_0):dr175_0:=outR (((),((),((([]:List (Int×Int×PUnit)),()),((([]:List ((Int×Int×PUnit)×(Int×Int×PUnit)×PUnit)),()),(((0:Int),()),(((0:Int),()),()))))))) (l175_0 d)
def lc175_0 (P:Go.Program):LoopC:=lcOf (sh175_0 P) (shb175_0 P) (shr175_0 P) l175_0 b175_0 r175_0

theorem e175_0_0 (x2:(List (Int×(Int×Unit)))) (x3:Int) (x4:Int) (b1_0:(List (Int×(Int×Unit)))) (b3_0:(List ((Int×(Int×Unit))×((Int×(Int×Unit))×Unit)))) (b4_0:Int) (b5_0:Int):runBody (kl176_0 Go.Proofs.Tryz.prog).orc Go.Proofs.Tryz.prog 400 175 0 (sh175_0 Go.Proofs.Tryz.prog) (shb175_0 Go.Proofs.Tryz.prog) (shr175_0 Go.Proofs.Tryz.prog) ((x2,x3,x4,()),(),(b1_0,()),(b3_0,()),(b4_0,()),(b5_0,()),()) [tt,tt,tt,tt,tt,tt,tt] =
    (let r0:=r176_0 ((b3_0,((((List.getD b1_0 (Int.toNat (if wrap64 (x4 - (1:Int)) < (0:Int) then (0:Int) else wrap64 (x4 - (1:Int)))) ((0:Int),(0:Int),())).1:Int),(((List.getD b1_0 (Int.toNat (if wrap64 (x4 - (1:Int)) < (0:Int) then (0:Int) else wrap64 (x4 - (1:Int)))) ((0:Int),(0:Int),())).2.1:Int),(((List.getD x2 (Int.toNat x4) ((0:Int),(0:Int),())).1:Int),(((List.getD x2 (Int.toNat x4) ((0:Int),(0:Int),())).2.1:Int),())))),((↑(List.length b3_0):Int),((0:Int),())))),()); some (.ret ((),((),((b1_0,()),((b3_0,()),(((0:Int),()),(((13:Int),()),())))))),[(sameRf Go.Proofs.Tryz.prog (nat_lit 70) (nat_lit 0),true),(true,true),(leF (0:Int) r0.1.1,true),(isRet (l176_0 ((b3_0,((((List.getD b1_0 (Int.toNat (if wrap64 (x4 - (1:Int)) < (0:Int) then (0:Int) else wrap64 (x4 - (1:Int)))) ((0:Int),(0:Int),())).1:Int),(((List.getD b1_0 (Int.toNat (if wrap64 (x4 - (1:Int)) < (0:Int) then (0:Int) else wrap64 (x4 - (1:Int)))) ((0:Int),(0:Int),())).2.1:Int),(((List.getD x2 (Int.toNat x4) ((0:Int),(0:Int),())).1:Int),(((List.getD x2 (Int.toNat x4) ((0:Int),(0:Int),())).2.1:Int),())))),((↑(List.length b3_0):Int),((0:Int),())))),())),true),(Option.isSome (l176_0 ((b3_0,((((List.getD b1_0 (Int.toNat (if wrap64 (x4 - (1:Int)) < (0:Int) then (0:Int) else wrap64 (x4 - (1:Int)))) ((0:Int),(0:Int),())).1:Int),(((List.getD b1_0 (Int.toNat (if wrap64 (x4 - (1:Int)) < (0:Int) then (0:Int) else wrap64 (x4 - (1:Int)))) ((0:Int),(0:Int),())).2.1:Int),(((List.getD x2 (Int.toNat x4) ((0:Int),(0:Int),())).1:Int),(((List.getD x2 (Int.toNat x4) ((0:Int),(0:Int),())).2.1:Int),())))),((↑(List.length b3_0):Int),((0:Int),())))),())),true),(decide ((0:Int) ≤ if wrap64 (x4 - (1:Int)) < (0:Int) then (0:Int) else wrap64 (x4 - (1:Int))) && decide ((if wrap64 (x4 - (1:Int)) < (0:Int) then (0:Int) else wrap64 (x4 - (1:Int))) < (↑(List.length b1_0):Int)),true),(decide ((0:Int) ≤ x4) && decide (x4 < (↑(List.length x2):Int)),true),(!leF x3 x4,true)])):=by kernel_rfl
theorem e175_0_1 (x2:(List (Int×(Int×Unit)))) (x3:Int) (x4:Int) (b1_0:(List (Int×(Int×Unit)))) (b3_0:(List ((Int×(Int×Unit))×((Int×(Int×Unit))×Unit)))) (b4_0:Int) (b5_0:Int):runBody (kl176_0 Go.Proofs.Tryz.prog).orc Go.Proofs.Tryz.prog 400 175 0 (sh175_0 Go.Proofs.Tryz.prog) (shb175_0 Go.Proofs.Tryz.prog) (shr175_0 Go.Proofs.Tryz.prog) ((x2,x3,x4,()),(),(b1_0,()),(b3_0,()),(b4_0,()),(b5_0,()),()) [tt,tt,tt,tt,tt,ff,ff] =
    (let r0:=r176_0 ((b3_0,((((List.getD b1_0 (Int.toNat (if wrap64 (x4 - (1:Int)) < (0:Int) then (0:Int) else wrap64 (x4 - (1:Int)))) ((0:Int),(0:Int),())).1:Int),(((List.getD b1_0 (Int.toNat (if wrap64 (x4 - (1:Int)) < (0:Int) then (0:Int) else wrap64 (x4 - (1:Int)))) ((0:Int),(0:Int),())).2.1:Int),(((List.getD x2 (Int.toNat x4) ((0:Int),(0:Int),())).1:Int),(((List.getD x2 (Int.toNat x4) ((0:Int),(0:Int),())).2.1:Int),())))),((↑(List.length b3_0):Int),((0:Int),())))),()); some (.again ((x2,(x3,((wrap64 (x4 + (1:Int)):Int),()))),((),((b1_0,()),((b3_0,()),((b4_0,()),((b5_0,()),())))))),[(sameRf Go.Proofs.Tryz.prog (nat_lit 70) (nat_lit 0),true),(false,false),(leF (0:Int) r0.1.1,false),(isRet (l176_0 ((b3_0,((((List.getD b1_0 (Int.toNat (if wrap64 (x4 - (1:Int)) < (0:Int) then (0:Int) else wrap64 (x4 - (1:Int)))) ((0:Int),(0:Int),())).1:Int),(((List.getD b1_0 (Int.toNat (if wrap64 (x4 - (1:Int)) < (0:Int) then (0:Int) else wrap64 (x4 - (1:Int)))) ((0:Int),(0:Int),())).2.1:Int),(((List.getD x2 (Int.toNat x4) ((0:Int),(0:Int),())).1:Int),(((List.getD x2 (Int.toNat x4) ((0:Int),(0:Int),())).2.1:Int),())))),((↑(List.length b3_0):Int),((0:Int),())))),())),true),(Option.isSome (l176_0 ((b3_0,((((List.getD b1_0 (Int.toNat (if wrap64 (x4 - (1:Int)) < (0:Int) then (0:Int) else wrap64 (x4 - (1:Int)))) ((0:Int),(0:Int),())).1:Int),(((List.getD b1_0 (Int.toNat (if wrap64 (x4 - (1:Int)) < (0:Int) then (0:Int) else wrap64 (x4 - (1:Int)))) ((0:Int),(0:Int),())).2.1:Int),(((List.getD x2 (Int.toNat x4) ((0:Int),(0:Int),())).1:Int),(((List.getD x2 (Int.toNat x4) ((0:Int),(0:Int),())).2.1:Int),())))),((↑(List.length b3_0):Int),((0:Int),())))),())),true),(decide ((0:Int) ≤ if wrap64 (x4 - (1:Int)) < (0:Int) then (0:Int) else wrap64 (x4 - (1:Int))) && decide ((if wrap64 (x4 - (1:Int)) < (0:Int) then (0:Int) else wrap64 (x4 - (1:Int))) < (↑(List.length b1_0):Int)),true),(decide ((0:Int) ≤ x4) && decide (x4 < (↑(List.length x2):Int)),true),(!leF x3 x4,true)])):=by kernel_rfl
theorem e175_0_2 (x2:(List (Int×(Int×Unit)))) (x3:Int) (x4:Int) (b1_0:(List (Int×(Int×Unit)))) (b3_0:(List ((Int×(Int×Unit))×((Int×(Int×Unit))×Unit)))) (b4_0:Int) (b5_0:Int):runBody (kl176_0 Go.Proofs.Tryz.prog).orc Go.Proofs.Tryz.prog 400 175 0 (sh175_0 Go.Proofs.Tryz.prog) (shb175_0 Go.Proofs.Tryz.prog) (shr175_0 Go.Proofs.Tryz.prog) ((x2,x3,x4,()),(),(b1_0,()),(b3_0,()),(b4_0,()),(b5_0,()),()) [tt,tt,tt,tt,ff,ff,ff] =
    (some (.again ((x2,(x3,((wrap64 (x4 + (1:Int)):Int),()))),((),((b1_0,()),((b3_0,()),((b4_0,()),((b5_0,()),())))))),[(sameRf Go.Proofs.Tryz.prog (nat_lit 70) (nat_lit 0),true),(false,false),(false,false),(isRet (l176_0 ((b3_0,((((List.getD b1_0 (Int.toNat (if wrap64 (x4 - (1:Int)) < (0:Int) then (0:Int) else wrap64 (x4 - (1:Int)))) ((0:Int),(0:Int),())).1:Int),(((List.getD b1_0 (Int.toNat (if wrap64 (x4 - (1:Int)) < (0:Int) then (0:Int) else wrap64 (x4 - (1:Int)))) ((0:Int),(0:Int),())).2.1:Int),(((List.getD x2 (Int.toNat x4) ((0:Int),(0:Int),())).1:Int),(((List.getD x2 (Int.toNat x4) ((0:Int),(0:Int),())).2.1:Int),())))),((↑(List.length b3_0):Int),((0:Int),())))),())),false),(Option.isSome (l176_0 ((b3_0,((((List.getD b1_0 (Int.toNat (if wrap64 (x4 - (1:Int)) < (0:Int) then (0:Int) else wrap64 (x4 - (1:Int)))) ((0:Int),(0:Int),())).1:Int),(((List.getD b1_0 (Int.toNat (if wrap64 (x4 - (1:Int)) < (0:Int) then (0:Int) else wrap64 (x4 - (1:Int)))) ((0:Int),(0:Int),())).2.1:Int),(((List.getD x2 (Int.toNat x4) ((0:Int),(0:Int),())).1:Int),(((List.getD x2 (Int.toNat x4) ((0:Int),(0:Int),())).2.1:Int),())))),((↑(List.length b3_0):Int),((0:Int),())))),())),true),(decide ((0:Int) ≤ if wrap64 (x4 - (1:Int)) < (0:Int) then (0:Int) else wrap64 (x4 - (1:Int))) && decide ((if wrap64 (x4 - (1:Int)) < (0:Int) then (0:Int) else wrap64 (x4 - (1:Int))) < (↑(List.length b1_0):Int)),true),(decide ((0:Int) ≤ x4) && decide (x4 < (↑(List.length x2):Int)),true),(!leF x3 x4,true)])):=by kernel_rfl
theorem e175_0_5 (x2:(List (Int×(Int×Unit)))) (x3:Int) (x4:Int) (b1_0:(List (Int×(Int×Unit)))) (b3_0:(List ((Int×(Int×Unit))×((Int×(Int×Unit))×Unit)))) (b4_0:Int) (b5_0:Int):runBody (kl176_0 Go.Proofs.Tryz.prog).orc Go.Proofs.Tryz.prog 400 175 0 (sh175_0 Go.Proofs.Tryz.prog) (shb175_0 Go.Proofs.Tryz.prog) (shr175_0 Go.Proofs.Tryz.prog) ((x2,x3,x4,()),(),(b1_0,()),(b3_0,()),(b4_0,()),(b5_0,()),()) [ff] =
    (some (.brk ((),((),((b1_0,()),((b3_0,()),((b4_0,()),((b5_0,()),())))))),[(sameRf Go.Proofs.Tryz.prog (nat_lit 70) (nat_lit 0),true),(!leF x3 x4,false)])):=by kernel_rfl

theorem ok175_0_t (x2:(List (Int×(Int×Unit)))) (x3:Int) (x4:Int) (b1_0:(List (Int×(Int×Unit)))) (b3_0:(List ((Int×(Int×Unit))×((Int×(Int×Unit))×Unit)))) (b4_0:Int) (b5_0:Int):TrOk (BodyRuns Go.Proofs.Tryz.prog (kl176_0 Go.Proofs.Tryz.prog).orc 175 0 (sh175_0 Go.Proofs.Tryz.prog) (shb175_0 Go.Proofs.Tryz.prog) (shr175_0 Go.Proofs.Tryz.prog) ((x2,x3,x4,()),(),(b1_0,()),(b3_0,()),(b4_0,()),(b5_0,()),())) (t175_0 x2 x3 x4 b1_0 b3_0 b4_0 b5_0) :=
  TrOk.ofTest (fun h0=>TrOk.ofTest (fun h1=>TrOk.ofTest (fun h2=>TrOk.ofTest (fun h3=>TrOk.ofTest (fun h4=>TrOk.ofTest (fun h5=>TrOk.ofFin (BodyRuns.of (e175_0_0 x2 x3 x4 b1_0 b3_0 b4_0 b5_0) (ac (sc70_0) (ac rfl (ac h5 (ac h4 (ac h3 (ac h2 (ac h1 (ac h0 All.nil)))))))))) (fun h5=>TrOk.ofFin (BodyRuns.of (e175_0_1 x2 x3 x4 b1_0 b3_0 b4_0 b5_0) (ac (sc70_0) (ac rfl (ac h5 (ac h4 (ac h3 (ac h2 (ac h1 (ac h0 All.nil))))))))))) (fun h4=>TrOk.ofFin (BodyRuns.of (e175_0_2 x2 x3 x4 b1_0 b3_0 b4_0 b5_0) (ac (sc70_0) (ac rfl (ac rfl (ac h4 (ac h3 (ac h2 (ac h1 (ac h0 All.nil))))))))))) (fun h3=>TrOk.ofStop)) (fun h2=>TrOk.ofStop)) (fun h1=>TrOk.ofStop)) (fun h0=>TrOk.ofFin (BodyRuns.of (e175_0_5 x2 x3 x4 b1_0 b3_0 b4_0 b5_0) (ac (sc70_0) (ac h0 All.nil))))

theorem ok175_0:LoopOk Go.Proofs.Tryz.prog 175 0 (lc175_0 Go.Proofs.Tryz.prog):=loopOk_of (sh:=(sh175_0 Go.Proofs.Tryz.prog)) (shB:=(shb175_0 Go.Proofs.Tryz.prog)) (shR:=(shr175_0 Go.Proofs.Tryz.prog)) kl176_0_ok.base (T:=fun (d:dt175_0)=>t175_0 d.1.1 d.1.2.1 d.1.2.2.1 d.2.2.1.1 d.2.2.2.1.1 d.2.2.2.2.1.1 d.2.2.2.2.2.1.1) (by kernel_rfl) rfl (fun (d:dt175_0)=>ok175_0_t d.1.1 d.1.2.1 d.1.2.2.1 d.2.2.1.1 d.2.2.2.1.1 d.2.2.2.2.1.1 d.2.2.2.2.2.1.1) (fun _=>rfl)
def kl175_0 (P:Go.Program):Known:=(kl176_0 P).loop 175 0 (lc175_0 P)
theorem kl175_0_ok:KnownOk Go.Proofs.Tryz.prog (kl175_0 Go.Proofs.Tryz.prog):=kl176_0_ok.loop ok175_0

/-! ductility/safety.ClearOf -/

abbrev as70:List Ty:=[(.slice (.pair (.pair (.int .i64) (.pair (.int .i64) .unit)) (.pair (.pair (.int .i64) (.pair (.int .i64) .unit)) .unit))),(.slice (.pair (.int .i64) (.pair (.int .i64) .unit)))]
abbrev rs70:List Ty:=[(.int .i64),(.int .i64)]

def t70 (x0:(List ((Int×(Int×Unit))×((Int×(Int×Unit))×Unit)))) (x1:(List (Int×(Int×Unit)))):Tr (Tys.data rs70) :=
  Tr.test (Option.isSome (f135 (x0,())))
    (Tr.test (Option.isSome (f136 (x1,())))
      (let r0:=g135 (x0,());
      let r1:=g136 (x1,());
      Tr.test (Option.isSome (f79 (([r0.1,r1.1]:List Int),())))
        (let r2:=g79 (([r0.1,r1.1]:List Int),());
        Tr.test ((!eqF r2.1 0:Bool))
          (Tr.fin (((0:Int),(r2.1,()))))
          (Tr.test (Option.isSome (l175_0 ((x1,((↑(List.length x1):Int),((0:Int),()))),((),((x1,()),((x0,()),(((0:Int),()),(((0:Int),()),()))))))))
            (Tr.test (isRet (l175_0 ((x1,((↑(List.length x1):Int),((0:Int),()))),((),((x1,()),((x0,()),(((0:Int),()),(((0:Int),()),()))))))))
              (let r3:=r175_0 ((x1,((↑(List.length x1):Int),((0:Int),()))),((),((x1,()),((x0,()),(((0:Int),()),(((0:Int),()),()))))));
              Tr.fin ((r3.2.2.2.2.1.1,(r3.2.2.2.2.2.1.1,()))))
              (Tr.fin (((↑(List.length x1):Int),((0:Int),())))))
            (Tr.stop)))
        (Tr.stop))
      (Tr.stop))
    (Tr.stop)

def f70 (d:Tys.data as70):Option (Tys.data rs70):=(t70 d.1 d.2.1).val
def g70 (d:Tys.data as70):Tys.data rs70:=(f70 d).getD (Tys.dflt rs70)
def p70:PureC:=pcOf as70 rs70 f70 g70

theorem e70_0 (x0:(List ((Int×(Int×Unit))×((Int×(Int×Unit))×Unit)))) (x1:(List (Int×(Int×Unit)))):runPure (kl175_0 Go.Proofs.Tryz.prog).orc Go.Proofs.Tryz.prog 400 70 as70 rs70 (x0,x1,()) [tt,tt,tt,tt] =
    (let r0:=g135 (x0,());let r1:=g136 (x1,());let r2:=g79 (([r0.1,r1.1]:List Int),()); some (((0:Int),(r2.1,())),[(!eqF r2.1 0,true),(Option.isSome (f79 (([r0.1,r1.1]:List Int),())),true),(Option.isSome (f136 (x1,())),true),(Option.isSome (f135 (x0,())),true)])):=by kernel_rfl
theorem e70_1 (x0:(List ((Int×(Int×Unit))×((Int×(Int×Unit))×Unit)))) (x1:(List (Int×(Int×Unit)))):runPure (kl175_0 Go.Proofs.Tryz.prog).orc Go.Proofs.Tryz.prog 400 70 as70 rs70 (x0,x1,()) [tt,tt,tt,ff,tt,tt,tt] =
    (let r0:=g135 (x0,());let r1:=g136 (x1,());let r2:=g79 (([r0.1,r1.1]:List Int),());let r3:=r175_0 ((x1,((↑(List.length x1):Int),((0:Int),()))),((),((x1,()),((x0,()),(((0:Int),()),(((0:Int),()),())))))); some ((r3.2.2.2.2.1.1,(r3.2.2.2.2.2.1.1,())),[(isRet (l175_0 ((x1,((↑(List.length x1):Int),((0:Int),()))),((),((x1,()),((x0,()),(((0:Int),()),(((0:Int),()),()))))))),true),(Option.isSome (l175_0 ((x1,((↑(List.length x1):Int),((0:Int),()))),((),((x1,()),((x0,()),(((0:Int),()),(((0:Int),()),()))))))),true),(sameRf Go.Proofs.Tryz.prog (nat_lit 70) (nat_lit 0),true),(!eqF r2.1 0,false),(Option.isSome (f79 (([r0.1,r1.1]:List Int),())),true),(Option.isSome (f136 (x1,())),true),(Option.isSome (f135 (x0,())),true)])):=by kernel_rfl
theorem e70_2 (x0:(List ((Int×(Int×Unit))×((Int×(Int×Unit))×Unit)))) (x1:(List (Int×(Int×Unit)))):runPure (kl175_0 Go.Proofs.Tryz.prog).orc Go.Proofs.Tryz.prog 400 70 as70 rs70 (x0,x1,()) [tt,tt,tt,ff,tt,tt,ff] =
    (let r0:=g135 (x0,());let r1:=g136 (x1,());let r2:=g79 (([r0.1,r1.1]:List Int),()); some (((↑(List.length x1):Int),((0:Int),())),[(isRet (l175_0 ((x1,((↑(List.length x1):Int),((0:Int),()))),((),((x1,()),((x0,()),(((0:Int),()),(((0:Int),()),()))))))),false),(Option.isSome (l175_0 ((x1,((↑(List.length x1):Int),((0:Int),()))),((),((x1,()),((x0,()),(((0:Int),()),(((0:Int),()),()))))))),true),(sameRf Go.Proofs.Tryz.prog (nat_lit 70) (nat_lit 0),true),(!eqF r2.1 0,false),(Option.isSome (f79 (([r0.1,r1.1]:List Int),())),true),(Option.isSome (f136 (x1,())),true),(Option.isSome (f135 (x0,())),true)])):=by kernel_rfl

theorem ok70_t (x0:(List ((Int×(Int×Unit))×((Int×(Int×Unit))×Unit)))) (x1:(List (Int×(Int×Unit)))):TrOk (PureRuns Go.Proofs.Tryz.prog (kl175_0 Go.Proofs.Tryz.prog).orc 70 as70 rs70 (x0,x1,())) (t70 x0 x1) :=
  TrOk.ofTest (fun h0=>TrOk.ofTest (fun h1=>TrOk.ofTest (fun h2=>TrOk.ofTest (fun h3=>TrOk.ofFin (PureRuns.of (e70_0 x0 x1) (ac h3 (ac h2 (ac h1 (ac h0 All.nil)))))) (fun h3=>TrOk.ofTest (fun h5=>TrOk.ofTest (fun h6=>TrOk.ofFin (PureRuns.of (e70_1 x0 x1) (ac h6 (ac h5 (ac (sc70_0) (ac h3 (ac h2 (ac h1 (ac h0 All.nil))))))))) (fun h6=>TrOk.ofFin (PureRuns.of (e70_2 x0 x1) (ac h6 (ac h5 (ac (sc70_0) (ac h3 (ac h2 (ac h1 (ac h0 All.nil)))))))))) (fun h5=>TrOk.ofStop))) (fun h2=>TrOk.ofStop)) (fun h1=>TrOk.ofStop)) (fun h0=>TrOk.ofStop)

theorem ok70:PureOk Go.Proofs.Tryz.prog 70 p70:=pureOk_of kl175_0_ok.base (T:=fun (d:Tys.data as70)=>t70 d.1 d.2.1) (by kernel_rfl) (fun (d:Tys.data as70)=>ok70_t d.1 d.2.1)
def kf70 (P:Go.Program):Known:=(kl175_0 P).func 70 p70
theorem kf70_ok:KnownOk Go.Proofs.Tryz.prog (kf70 Go.Proofs.Tryz.prog):=kl175_0_ok.func ok70

/-! ductility/ductilitybase.Within -/

abbrev as25:List Ty:=[(.int .i64),(.int .i64),(.int .i64)]
abbrev rs25:List Ty:=[.bool]

def t25 (x0:Int) (x1:Int) (x2:Int):Tr (Tys.data rs25) :=
  Tr.test ((leF x1 x0:Bool))
    (Tr.fin ((leF x0 x2,())))
    (Tr.fin ((false,())))

def f25 (d:Tys.data as25):Option (Tys.data rs25):=(t25 d.1 d.2.1 d.2.2.1).val
def g25 (d:Tys.data as25):Tys.data rs25:=(f25 d).getD (Tys.dflt rs25)
def p25:PureC:=pcOf as25 rs25 f25 g25

theorem wk25 (x0:Int) (x1:Int) (x2:Int):Walks (runPure (kf70 Go.Proofs.Tryz.prog).orc Go.Proofs.Tryz.prog 400 25 as25 rs25 (x0,x1,x2,())) (t25 x0 x1 x2) [(bl 1 1,[2,2,2,2]),(bl 1 0,[2,2,2,2])] :=
  ⟨by kernel_rfl,by kernel_rfl,trivial⟩

theorem ok25_t (x0:Int) (x1:Int) (x2:Int):TrOk (PureRuns Go.Proofs.Tryz.prog (kf70 Go.Proofs.Tryz.prog).orc 25 as25 rs25 (x0,x1,x2,())) (t25 x0 x1 x2) :=
  Walks.ok (fun _ _ _=>PureRuns.of) (wk25 x0 x1 x2) (by kernel_rfl)

theorem ok25:PureOk Go.Proofs.Tryz.prog 25 p25:=pureOk_of kf70_ok.base (T:=fun (d:Tys.data as25)=>t25 d.1 d.2.1 d.2.2.1) (by kernel_rfl) (fun (d:Tys.data as25)=>ok25_t d.1 d.2.1 d.2.2.1)
def kf25 (P:Go.Program):Known:=(kf70 P).func 25 p25
theorem kf25_ok:KnownOk Go.Proofs.Tryz.prog (kf25 Go.Proofs.Tryz.prog):=kf70_ok.func ok25

/-! ductility/ductilityref09.isPlace -/

abbrev as140:List Ty:=[(.int .i64)]
abbrev rs140:List Ty:=[.bool]

def t140 (x0:Int):Tr (Tys.data rs140) :=
  Tr.test (Option.isSome (f25 (x0,((-1000:Int),((1000:Int),())))))
    (let r0:=g25 (x0,((-1000:Int),((1000:Int),())));
    Tr.fin ((r0.1,())))
    (Tr.stop)

def f140 (d:Tys.data as140):Option (Tys.data rs140):=(t140 d.1).val
def g140 (d:Tys.data as140):Tys.data rs140:=(f140 d).getD (Tys.dflt rs140)
def p140:PureC:=pcOf as140 rs140 f140 g140

theorem wk140 (x0:Int):Walks (runPure (kf25 Go.Proofs.Tryz.prog).orc Go.Proofs.Tryz.prog 400 140 as140 rs140 (x0,())) (t140 x0) [(bl 1 1,[2])] :=
  ⟨by kernel_rfl,trivial⟩

theorem ok140_t (x0:Int):TrOk (PureRuns Go.Proofs.Tryz.prog (kf25 Go.Proofs.Tryz.prog).orc 140 as140 rs140 (x0,())) (t140 x0) :=
  Walks.ok (fun _ _ _=>PureRuns.of) (wk140 x0) (by kernel_rfl)

theorem ok140:PureOk Go.Proofs.Tryz.prog 140 p140:=pureOk_of kf25_ok.base (T:=fun (d:Tys.data as140)=>t140 d.1) (by kernel_rfl) (fun (d:Tys.data as140)=>ok140_t d.1)
def kf140 (P:Go.Program):Known:=(kf25 P).func 140 p140
theorem kf140_ok:KnownOk Go.Proofs.Tryz.prog (kf140 Go.Proofs.Tryz.prog):=kf25_ok.func ok140

/-! loop 0 of ductility/ductilityref09.ZonesErr -/

abbrev sh73_0:Sh:={ n:=88,slots:=[0,1,5],pats:=[.ty (.slice (.pair (.pair (.int .i64) (.pair (.int .i64) .unit)) (.pair (.pair (.int .i64) (.pair (.int .i64) .unit)) .unit))),.ty (.slice (.pair (.int .i64) (.pair (.int .i64) .unit))),.ty (.int .i64)],boxes:=[] }
abbrev shb73_0:Sh:={ n:=88,slots:=[1],pats:=[.ty (.slice (.pair (.int .i64) (.pair (.int .i64) .unit)))],boxes:=[] }
abbrev shr73_0:Sh:={ n:=88,slots:=[4],pats:=[.ty (.int .i64)],boxes:=[] }

def t73_0 (x0:(List ((Int×(Int×Unit))×((Int×(Int×Unit))×Unit)))) (x1:(List (Int×(Int×Unit)))) (x2:Int):Tr (Out sh73_0.data shb73_0.data shr73_0.data) :=
  Tr.test ((!leF (↑(List.length x0):Int) x2:Bool))
    (Tr.test (decide ((0:Int) ≤ x2) && decide (x2 < (↑(List.length x0):Int)))
      (Tr.test (Option.isSome (f140 (((List.getD x0 (Int.toNat x2) (((0:Int),(0:Int),()),((0:Int),(0:Int),()),())).1.1:Int),())))
        (let r0:=g140 (((List.getD x0 (Int.toNat x2) (((0:Int),(0:Int),()),((0:Int),(0:Int),()),())).1.1:Int),());
        Tr.test ((!r0.1:Bool))
          (Tr.fin (.ret (((2:Int),()),())))
          (Tr.test (Option.isSome (f140 (((List.getD x0 (Int.toNat x2) (((0:Int),(0:Int),()),((0:Int),(0:Int),()),())).1.2.1:Int),())))
            (let r1:=g140 (((List.getD x0 (Int.toNat x2) (((0:Int),(0:Int),()),((0:Int),(0:Int),()),())).1.2.1:Int),());
            Tr.test ((!r1.1:Bool))
              (Tr.fin (.ret (((2:Int),()),())))
              (Tr.test (Option.isSome (f140 (((List.getD x0 (Int.toNat x2) (((0:Int),(0:Int),()),((0:Int),(0:Int),()),())).2.1.1:Int),())))
                (let r2:=g140 (((List.getD x0 (Int.toNat x2) (((0:Int),(0:Int),()),((0:Int),(0:Int),()),())).2.1.1:Int),());
                Tr.test ((!r2.1:Bool))
                  (Tr.fin (.ret (((2:Int),()),())))
                  (Tr.test (Option.isSome (f140 (((List.getD x0 (Int.toNat x2) (((0:Int),(0:Int),()),((0:Int),(0:Int),()),())).2.1.2.1:Int),())))
                    (let r3:=g140 (((List.getD x0 (Int.toNat x2) (((0:Int),(0:Int),()),((0:Int),(0:Int),()),())).2.1.2.1:Int),());
                    Tr.test ((!r3.1:Bool))
                      (Tr.fin (.ret (((2:Int),()),())))
                      (Tr.test ((!leF (List.getD x0 (Int.toNat x2) (((0:Int),(0:Int),()),((0:Int),(0:Int),()),())).1.1 (List.getD x0 (Int.toNat x2) (((0:Int),(0:Int),()),((0:Int),(0:Int),()),())).1.2.1:Bool))
                        (Tr.fin (.ret (((9:Int),()),())))
                        (Tr.test ((!leF (List.getD x0 (Int.toNat x2) (((0:Int),(0:Int),()),((0:Int),(0:Int),()),())).2.1.1 (List.getD x0 (Int.toNat x2) (((0:Int),(0:Int),()),((0:Int),(0:Int),()),())).2.1.2.1:Bool))
                          (Tr.fin (.ret (((9:Int),()),())))
                          (Tr.fin (.again ((x0,(x1,((wrap64 (x2 + (1:Int)):Int),()))),()))))))
                    (Tr.stop)))
                (Tr.stop)))
            (Tr.stop)))
        (Tr.stop))
      (Tr.stop))
    (Tr.fin (.brk ((x1,()),())))

def s73_0 (d:sh73_0.data):Option (Out sh73_0.data shb73_0.data shr73_0.data):=(t73_0 d.1.1 d.1.2.1 d.1.2.2.1).val
def l73_0 (d:sh73_0.data):Option (shb73_0.data ⊕ shr73_0.data):=itr s73_0 rounds d
def b73_0 (d:sh73_0.data):shb73_0.data:=outB shb73_0.dflt (l73_0 d)
def r73_0 (d:sh73_0.data):shr73_0.data:=outR shr73_0.dflt (l73_0 d)
def lc73_0:LoopC:=lcOf sh73_0 shb73_0 shr73_0 l73_0 b73_0 r73_0

theorem wk73_0 (x0:(List ((Int×(Int×Unit))×((Int×(Int×Unit))×Unit)))) (x1:(List (Int×(Int×Unit)))) (x2:Int):Walks (runBody (kf140 Go.Proofs.Tryz.prog).orc Go.Proofs.Tryz.prog 400 73 0 sh73_0 shb73_0 shr73_0 ((x0,x1,x2,()),())) (t73_0 x0 x1 x2) [(bl 4 15,[1,1,1,1,1,1,1,1,1,1,1,1,1,2,2,2,2,2,2,4,1,6,8]),(bl 6 55,[1,1,1,1,1,1,1,2,2,2,2,2,2,6,6,4,6,1,6,6,6,8,1,10,12]),(bl 8 215,[1,2,2,2,2,2,2,6,6,4,6,1,6,6,6,10,10,8,10,1,10,10,10,12,1,14,16]),(bl 10 855,[2,6,6,4,6,1,6,6,6,10,10,8,10,1,10,10,10,14,14,12,14,1,14,14,14,16,1,18,20]),(bl 11 1367,[1,2,2,2,2,2,2,2,2,1,1,4,8,8,6,8,1,8,8,8,12,12,10,12,1,12,12,12,16,16,14,16,1,16,16,16,18,1,20,22]),(bl 12 2391,[2,4,4,1,4,4,4,1,4,4,4,1,1,6,10,10,8,10,1,10,10,10,14,14,12,14,1,14,14,14,18,18,16,18,1,18,18,18,20,1,22,24]),(bl 12 343,[2,4,4,1,4,4,4,1,4,4,4,1,1,6,10,10,8,10,1,10,10,10,14,14,12,14,1,14,14,14,18,18,16,18,1,18,18,18,20,1,22,24]),(bl 1 0,[2])] :=
  ⟨by kernel_rfl,by kernel_rfl,by kernel_rfl,by kernel_rfl,by kernel_rfl,by kernel_rfl,by kernel_rfl,by kernel_rfl,trivial⟩

theorem ok73_0_t (x0:(List ((Int×(Int×Unit))×((Int×(Int×Unit))×Unit)))) (x1:(List (Int×(Int×Unit)))) (x2:Int):TrOk (BodyRuns Go.Proofs.Tryz.prog (kf140 Go.Proofs.Tryz.prog).orc 73 0 sh73_0 shb73_0 shr73_0 ((x0,x1,x2,()),())) (t73_0 x0 x1 x2) :=
  Walks.ok (fun _ _ _=>BodyRuns.of) (wk73_0 x0 x1 x2) (by kernel_rfl)

theorem ok73_0:LoopOk Go.Proofs.Tryz.prog 73 0 lc73_0:=loopOk_of (sh:=sh73_0) (shB:=shb73_0) (shR:=shr73_0) kf140_ok.base (T:=fun (d:sh73_0.data)=>t73_0 d.1.1 d.1.2.1 d.1.2.2.1) (by kernel_rfl) rfl (fun (d:sh73_0.data)=>ok73_0_t d.1.1 d.1.2.1 d.1.2.2.1) (fun _=>rfl)
def kl73_0 (P:Go.Program):Known:=(kf140 P).loop 73 0 lc73_0
theorem kl73_0_ok:KnownOk Go.Proofs.Tryz.prog (kl73_0 Go.Proofs.Tryz.prog):=kf140_ok.loop ok73_0

/-! loop 2 of ductility/ductilityref09.ZonesErr -/

abbrev sh73_2:Sh:={ n:=88,slots:=[1,7],pats:=[.ty (.slice (.pair (.int .i64) (.pair (.int .i64) .unit))),.ty (.int .i64)],boxes:=[] }
abbrev shb73_2:Sh:={ n:=88,slots:=[],pats:=[],boxes:=[] }
abbrev shr73_2:Sh:={ n:=88,slots:=[4],pats:=[.ty (.int .i64)],boxes:=[] }

def t73_2 (x0:(List (Int×(Int×Unit)))) (x1:Int):Tr (Out sh73_2.data shb73_2.data shr73_2.data) :=
  Tr.test ((!leF (↑(List.length x0):Int) x1:Bool))
    (Tr.test (decide ((0:Int) ≤ x1) && decide (x1 < (↑(List.length x0):Int)))
      (Tr.test (Option.isSome (f140 (((List.getD x0 (Int.toNat x1) ((0:Int),(0:Int),())).1:Int),())))
        (let r0:=g140 (((List.getD x0 (Int.toNat x1) ((0:Int),(0:Int),())).1:Int),());
        Tr.test ((!r0.1:Bool))
          (Tr.fin (.ret (((2:Int),()),())))
          (Tr.test (Option.isSome (f140 (((List.getD x0 (Int.toNat x1) ((0:Int),(0:Int),())).2.1:Int),())))
            (let r1:=g140 (((List.getD x0 (Int.toNat x1) ((0:Int),(0:Int),())).2.1:Int),());
            Tr.test ((!r1.1:Bool))
              (Tr.fin (.ret (((2:Int),()),())))
              (Tr.fin (.again ((x0,((wrap64 (x1 + (1:Int)):Int),())),()))))
            (Tr.stop)))
        (Tr.stop))
      (Tr.stop))
    (Tr.fin (.brk ((),())))

def s73_2 (d:sh73_2.data):Option (Out sh73_2.data shb73_2.data shr73_2.data):=(t73_2 d.1.1 d.1.2.1).val
def l73_2 (d:sh73_2.data):Option (shb73_2.data ⊕ shr73_2.data):=itr s73_2 rounds d
def b73_2 (d:sh73_2.data):shb73_2.data:=outB shb73_2.dflt (l73_2 d)
def r73_2 (d:sh73_2.data):shr73_2.data:=outR shr73_2.dflt (l73_2 d)
def lc73_2:LoopC:=lcOf sh73_2 shb73_2 shr73_2 l73_2 b73_2 r73_2

theorem wk73_2 (x0:(List (Int×(Int×Unit)))) (x1:Int):Walks (runBody (kl73_0 Go.Proofs.Tryz.prog).orc Go.Proofs.Tryz.prog 400 73 2 sh73_2 shb73_2 shr73_2 ((x0,x1,()),())) (t73_2 x0 x1) [(bl 4 15,[1,2,2,2,2,2,2,2,2,4,1,6,8]),(bl 6 55,[2,6,6,4,6,6,1,6,10,6,6,6,8,1,10,12]),(bl 6 23,[2,6,6,4,6,6,1,6,10,6,6,6,8,1,10,12]),(bl 1 0,[2])] :=
  ⟨by kernel_rfl,by kernel_rfl,by kernel_rfl,by kernel_rfl,trivial⟩

theorem ok73_2_t (x0:(List (Int×(Int×Unit)))) (x1:Int):TrOk (BodyRuns Go.Proofs.Tryz.prog (kl73_0 Go.Proofs.Tryz.prog).orc 73 2 sh73_2 shb73_2 shr73_2 ((x0,x1,()),())) (t73_2 x0 x1) :=
  Walks.ok (fun _ _ _=>BodyRuns.of) (wk73_2 x0 x1) (by kernel_rfl)

theorem ok73_2:LoopOk Go.Proofs.Tryz.prog 73 2 lc73_2:=loopOk_of (sh:=sh73_2) (shB:=shb73_2) (shR:=shr73_2) kl73_0_ok.base (T:=fun (d:sh73_2.data)=>t73_2 d.1.1 d.1.2.1) (by kernel_rfl) rfl (fun (d:sh73_2.data)=>ok73_2_t d.1.1 d.1.2.1) (fun _=>rfl)
def kl73_2 (P:Go.Program):Known:=(kl73_0 P).loop 73 2 lc73_2
theorem kl73_2_ok:KnownOk Go.Proofs.Tryz.prog (kl73_2 Go.Proofs.Tryz.prog):=kl73_0_ok.loop ok73_2

/-! ductility/ductilityref09.ZonesErr -/

abbrev as73:List Ty:=[(.slice (.pair (.pair (.int .i64) (.pair (.int .i64) .unit)) (.pair (.pair (.int .i64) (.pair (.int .i64) .unit)) .unit))),(.slice (.pair (.int .i64) (.pair (.int .i64) .unit)))]
abbrev rs73:List Ty:=[(.int .i64)]

def t73 (x0:(List ((Int×(Int×Unit))×((Int×(Int×Unit))×Unit)))) (x1:(List (Int×(Int×Unit)))):Tr (Tys.data rs73) :=
  Tr.test ((!leF (↑(List.length x0):Int) (8:Int):Bool))
    (Tr.fin (((8:Int),())))
    (Tr.test (Option.isSome (l73_0 ((x0,(x1,((0:Int),()))),())))
      (Tr.test (isRet (l73_0 ((x0,(x1,((0:Int),()))),())))
        (let r0:=r73_0 ((x0,(x1,((0:Int),()))),());
        Tr.fin ((r0.1.1,())))
        (let r1:=b73_0 ((x0,(x1,((0:Int),()))),());
        Tr.test ((!leF (↑(List.length r1.1.1):Int) (20:Int):Bool))
          (Tr.fin (((8:Int),())))
          (Tr.test (Option.isSome (l73_2 ((r1.1.1,((0:Int),())),())))
            (Tr.test (isRet (l73_2 ((r1.1.1,((0:Int),())),())))
              (let r2:=r73_2 ((r1.1.1,((0:Int),())),());
              Tr.fin ((r2.1.1,())))
              (Tr.fin (((0:Int),()))))
            (Tr.stop))))
      (Tr.stop))

def f73 (d:Tys.data as73):Option (Tys.data rs73):=(t73 d.1 d.2.1).val
def g73 (d:Tys.data as73):Tys.data rs73:=(f73 d).getD (Tys.dflt rs73)
def p73:PureC:=pcOf as73 rs73 f73 g73

theorem wk73 (x0:(List ((Int×(Int×Unit))×((Int×(Int×Unit))×Unit)))) (x1:(List (Int×(Int×Unit)))):Walks (runPure (kl73_2 Go.Proofs.Tryz.prog).orc Go.Proofs.Tryz.prog 400 73 as73 rs73 (x0,x1,())) (t73 x0 x1) [(bl 1 1,[2]),(bl 3 6,[2,4,6]),(bl 4 10,[2,4,6,8]),(bl 6 50,[2,4,6,8,10,12]),(bl 6 18,[2,4,6,8,10,12])] :=
  ⟨by kernel_rfl,by kernel_rfl,by kernel_rfl,by kernel_rfl,by kernel_rfl,trivial⟩

theorem ok73_t (x0:(List ((Int×(Int×Unit))×((Int×(Int×Unit))×Unit)))) (x1:(List (Int×(Int×Unit)))):TrOk (PureRuns Go.Proofs.Tryz.prog (kl73_2 Go.Proofs.Tryz.prog).orc 73 as73 rs73 (x0,x1,())) (t73 x0 x1) :=
  Walks.ok (fun _ _ _=>PureRuns.of) (wk73 x0 x1) (by kernel_rfl)

theorem ok73:PureOk Go.Proofs.Tryz.prog 73 p73:=pureOk_of kl73_2_ok.base (T:=fun (d:Tys.data as73)=>t73 d.1 d.2.1) (by kernel_rfl) (fun (d:Tys.data as73)=>ok73_t d.1 d.2.1)
def kf73 (P:Go.Program):Known:=(kl73_2 P).func 73 p73
theorem kf73_ok:KnownOk Go.Proofs.Tryz.prog (kf73 Go.Proofs.Tryz.prog):=kl73_2_ok.func ok73

end Go.Vm.Mo
