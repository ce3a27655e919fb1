import Derived.Test.YtappjfcejjmdeaaA4
import Derived.KernelRfl
import Derived.Test.YtappjfcejjmdeaaProg
import Derived.Test.YtappjfcejjmdeaaRsFb
set_option linter.unusedVariables false
set_option linter.unusedSimpArgs false

namespace Go.Vm.Mo
open Go
set_option linter.unusedVariables false

/-! loop 0 of ductility/ductilityref02.Common -/

abbrev sh110_0:Sh:={ n:=58,slots:=[0,4,5],pats:=[.ty (.slice (.pair (.pair (.int .i64) (.pair (.slice (.int .i64)) .unit)) (.pair (.pair (.int .i64) (.pair (.slice (.int .i64)) .unit)) .unit))),.ptr 0 2 0,.ty (.int .i64)],boxes:=[.row [.ty (.int .i64),.ty (.slice (.int .i64))]] }
abbrev shb110_0:Sh:={ n:=58,slots:=[0,4],pats:=[.ty (.slice (.pair (.pair (.int .i64) (.pair (.slice (.int .i64)) .unit)) (.pair (.pair (.int .i64) (.pair (.slice (.int .i64)) .unit)) .unit))),.ptr 0 2 0],boxes:=[.row [.ty (.int .i64),.ty (.slice (.int .i64))]] }
abbrev shr110_0:Sh:={ n:=58,slots:=[],pats:=[],boxes:=[.row [.ty (.int .i64),.ty (.slice (.int .i64))]] }

def t110_0 (x0:(List ((Int×((List Int)×Unit))×((Int×((List Int)×Unit))×Unit)))) (x2:Int) (b0_0:Int) (b0_1:(List Int)):Tr (Out sh110_0.data shb110_0.data shr110_0.data) :=
  Tr.test ((!leF (↑(List.length x0):Int) x2:Bool))
    (Tr.test (decide ((0:Int) ≤ x2) && decide (x2 < (↑(List.length x0):Int)))
      (Tr.test (Option.isSome (f115 ((((List.getD x0 (Int.toNat x2) (((0:Int),[],()),((0:Int),[],()),())).2.1.1:Int),(((List.getD x0 (Int.toNat x2) (((0:Int),[],()),((0:Int),[],()),())).2.1.2.1:List Int),())),((b0_0,(b0_1,())),()))))
        (let r0:((Int×List Int×PUnit)×(Int×List Int×PUnit)×PUnit)×PUnit:=g115 ((((List.getD x0 (Int.toNat x2) (((0:Int),[],()),((0:Int),[],()),())).2.1.1:Int),(((List.getD x0 (Int.toNat x2) (((0:Int),[],()),((0:Int),[],()),())).2.1.2.1:List Int),())),((b0_0,(b0_1,())),()));
        Tr.test (Option.isSome (f117 ((b0_0,(b0_1,())),((r0.1.1.1,(r0.1.1.2.1,())),()))))
          (let r1:(Int×List Int×PUnit)×PUnit:=g117 ((b0_0,(b0_1,())),((r0.1.1.1,(r0.1.1.2.1,())),()));
          Tr.fin (.again ((x0,((wrap64 (x2 + (1:Int)):Int),())),((r1.1.1,(r1.1.2.1,())),()))))
          (Tr.stop))
        (Tr.stop))
      (Tr.stop))
    (Tr.fin (.brk ((x0,()),((b0_0,(b0_1,())),()))))

def s110_0 (d:sh110_0.data):Option (Out sh110_0.data shb110_0.data shr110_0.data):=(t110_0 d.1.1 d.1.2.1 d.2.1.1 d.2.1.2.1).val
def l110_0 (d:sh110_0.data):Option (shb110_0.data ⊕ shr110_0.data):=itr s110_0 rounds d
def b110_0 (d:sh110_0.data):shb110_0.data:=outB shb110_0.dflt (l110_0 d)
def lc110_0:LoopC:=lcB sh110_0 shb110_0 shr110_0 l110_0 b110_0

theorem e110_0_0 (x0:(List ((Int×((List Int)×Unit))×((Int×((List Int)×Unit))×Unit)))) (x2:Int) (b0_0:Int) (b0_1:(List Int)):runBody kf148.orc Go.Proofs.Try.prog 400 110 0 sh110_0 shb110_0 shr110_0 ((x0,x2,()),(b0_0,b0_1,()),()) [tt,tt,tt,tt] =
    (let r0:((Int×List Int×PUnit)×(Int×List Int×PUnit)×PUnit)×PUnit:=g115 ((((List.getD x0 (Int.toNat x2) (((0:Int),[],()),((0:Int),[],()),())).2.1.1:Int),(((List.getD x0 (Int.toNat x2) (((0:Int),[],()),((0:Int),[],()),())).2.1.2.1:List Int),())),((b0_0,(b0_1,())),()));let r1:(Int×List Int×PUnit)×PUnit:=g117 ((b0_0,(b0_1,())),((r0.1.1.1,(r0.1.1.2.1,())),())); some (.again ((x0,((wrap64 (x2 + (1:Int)):Int),())),((r1.1.1,(r1.1.2.1,())),())),[(Option.isSome (f117 ((b0_0,(b0_1,())),((r0.1.1.1,(r0.1.1.2.1,())),()))),true),(Option.isSome (f115 ((((List.getD x0 (Int.toNat x2) (((0:Int),[],()),((0:Int),[],()),())).2.1.1:Int),(((List.getD x0 (Int.toNat x2) (((0:Int),[],()),((0:Int),[],()),())).2.1.2.1:List Int),())),((b0_0,(b0_1,())),()))),true),(decide ((0:Int) ≤ x2) && decide (x2 < (↑(List.length x0):Int)),true),(!leF (↑(List.length x0):Int) x2,true)])):=by kernel_rfl
theorem e110_0_2 (x0:(List ((Int×((List Int)×Unit))×((Int×((List Int)×Unit))×Unit)))) (x2:Int) (b0_0:Int) (b0_1:(List Int)):runBody kf148.orc Go.Proofs.Try.prog 400 110 0 sh110_0 shb110_0 shr110_0 ((x0,x2,()),(b0_0,b0_1,()),()) [ff] =
    (some (.brk ((x0,()),((b0_0,(b0_1,())),())),[(!leF (↑(List.length x0):Int) x2,false)])):=by kernel_rfl

theorem ok110_0_t (x0:(List ((Int×((List Int)×Unit))×((Int×((List Int)×Unit))×Unit)))) (x2:Int) (b0_0:Int) (b0_1:(List Int)):TrOk (BodyRuns Go.Proofs.Try.prog kf148.orc 110 0 sh110_0 shb110_0 shr110_0 ((x0,x2,()),(b0_0,b0_1,()),())) (t110_0 x0 x2 b0_0 b0_1) :=
  TrOk.ofTest (fun h0=>TrOk.ofTest (fun h1=>TrOk.ofTest (fun h2=>TrOk.ofTest (fun h3=>TrOk.ofFin (BodyRuns.of (e110_0_0 x0 x2 b0_0 b0_1) (ac h3 (ac h2 (ac h1 (ac h0 All.nil)))))) (fun h3=>TrOk.ofStop)) (fun h2=>TrOk.ofStop)) (fun h1=>TrOk.ofStop)) (fun h0=>TrOk.ofFin (BodyRuns.of (e110_0_2 x0 x2 b0_0 b0_1) (ac h0 All.nil)))

theorem ok110_0:LoopOk Go.Proofs.Try.prog 110 0 lc110_0:=loopOk_ofB kf148_ok.base (T:=fun (d:sh110_0.data)=>t110_0 d.1.1 d.1.2.1 d.2.1.1 d.2.1.2.1) (by kernel_rfl) rfl (fun (d:sh110_0.data)=>ok110_0_t d.1.1 d.1.2.1 d.2.1.1 d.2.1.2.1) (fun _=>rfl)
def kl110_0:Known:=kf148.loop 110 0 lc110_0
theorem kl110_0_ok:KnownOk Go.Proofs.Try.prog kl110_0:=kf148_ok.loop ok110_0

/-! loop 2 of ductility/ductilityref02.Common -/

abbrev sh110_2:Sh:={ n:=58,slots:=[0,6,8,9],pats:=[.ty (.slice (.pair (.pair (.int .i64) (.pair (.slice (.int .i64)) .unit)) (.pair (.pair (.int .i64) (.pair (.slice (.int .i64)) .unit)) .unit))),.ty (.int .i64),.acc (.int .i64),.ty (.int .i64)],boxes:=[] }
abbrev shb110_2:Sh:={ n:=58,slots:=[6,8],pats:=[.ty (.int .i64),.acc (.int .i64)],boxes:=[] }
abbrev shr110_2:Sh:={ n:=58,slots:=[],pats:=[],boxes:=[] }

def t110_2 (x0:(List ((Int×((List Int)×Unit))×((Int×((List Int)×Unit))×Unit)))) (x1:Int) (x2:(List Int)) (x3:Int):Tr (Out sh110_2.data shb110_2.data shr110_2.data) :=
  Tr.test ((!leF (↑(List.length x0):Int) x3:Bool))
    (Tr.test (decide ((0:Int) ≤ x3) && decide (x3 < (↑(List.length x0):Int)))
      (Tr.test (Option.isSome (f48 (x1,())))
        (let r0:((Int×List Int×PUnit)×(Int×List Int×PUnit)×PUnit)×PUnit:=g48 (x1,());
        Tr.test (Option.isSome (f52 (((((List.getD x0 (Int.toNat x3) (((0:Int),[],()),((0:Int),[],()),())).1.1:Int),(((List.getD x0 (Int.toNat x3) (((0:Int),[],()),((0:Int),[],()),())).1.2.1:List Int),())),((((List.getD x0 (Int.toNat x3) (((0:Int),[],()),((0:Int),[],()),())).2.1.1:Int),(((List.getD x0 (Int.toNat x3) (((0:Int),[],()),((0:Int),[],()),())).2.1.2.1:List Int),())),())),(((r0.1.1.1,(r0.1.1.2.1,())),((r0.1.2.1.1,(r0.1.2.1.2.1,())),())),()))))
          (let r1:((Int×List Int×PUnit)×(Int×List Int×PUnit)×PUnit)×PUnit:=g52 (((((List.getD x0 (Int.toNat x3) (((0:Int),[],()),((0:Int),[],()),())).1.1:Int),(((List.getD x0 (Int.toNat x3) (((0:Int),[],()),((0:Int),[],()),())).1.2.1:List Int),())),((((List.getD x0 (Int.toNat x3) (((0:Int),[],()),((0:Int),[],()),())).2.1.1:Int),(((List.getD x0 (Int.toNat x3) (((0:Int),[],()),((0:Int),[],()),())).2.1.2.1:List Int),())),())),(((r0.1.1.1,(r0.1.1.2.1,())),((r0.1.2.1.1,(r0.1.2.1.2.1,())),())),()));
          Tr.test (Option.isSome (f148 (((r1.1.1.1,(r1.1.1.2.1,())),((r1.1.2.1.1,(r1.1.2.1.2.1,())),())),())))
            (let r2:(Int×List Int×PUnit)×PUnit:=g148 (((r1.1.1.1,(r1.1.1.2.1,())),((r1.1.2.1.1,(r1.1.2.1.2.1,())),())),());
            Tr.test (Option.isSome (f147 ((r2.1.1,(r2.1.2.1,())),())))
              (Tr.test ((Nat.ble (((2:Nat) * (List.length x2 + (1:Nat)) + (192:Nat)) * (8:Nat)) (281474976710656:Nat) && Nat.ble (List.length x2 + (1:Nat)) (281474976710656:Nat):Bool))
                (let r3:Int×Bool×PUnit:=g147 ((r2.1.1,(r2.1.2.1,())),());
                Tr.fin (.again ((x0,(x1,((x2++[r3.1]:List Int),((wrap64 (x3 + (1:Int)):Int),())))),())))
                (Tr.stop))
              (Tr.stop))
            (Tr.stop))
          (Tr.stop))
        (Tr.stop))
      (Tr.stop))
    (Tr.fin (.brk ((x1,(x2,())),())))

def s110_2 (d:sh110_2.data):Option (Out sh110_2.data shb110_2.data shr110_2.data):=(t110_2 d.1.1 d.1.2.1 d.1.2.2.1 d.1.2.2.2.1).val
def l110_2 (d:sh110_2.data):Option (shb110_2.data ⊕ shr110_2.data):=itr s110_2 rounds d
def b110_2 (d:sh110_2.data):shb110_2.data:=outB shb110_2.dflt (l110_2 d)
def lc110_2:LoopC:=lcB sh110_2 shb110_2 shr110_2 l110_2 b110_2

theorem e110_2_0 (x0:(List ((Int×((List Int)×Unit))×((Int×((List Int)×Unit))×Unit)))) (x1:Int) (x2:(List Int)) (x3:Int):runBody kl110_0.orc Go.Proofs.Try.prog 400 110 2 sh110_2 shb110_2 shr110_2 ((x0,x1,x2,x3,()),()) [tt,tt,tt,tt,tt,tt,ff,tt,tt] =
    (let r0:((Int×List Int×PUnit)×(Int×List Int×PUnit)×PUnit)×PUnit:=g48 (x1,());let r1:((Int×List Int×PUnit)×(Int×List Int×PUnit)×PUnit)×PUnit:=g52 (((((List.getD x0 (Int.toNat x3) (((0:Int),[],()),((0:Int),[],()),())).1.1:Int),(((List.getD x0 (Int.toNat x3) (((0:Int),[],()),((0:Int),[],()),())).1.2.1:List Int),())),((((List.getD x0 (Int.toNat x3) (((0:Int),[],()),((0:Int),[],()),())).2.1.1:Int),(((List.getD x0 (Int.toNat x3) (((0:Int),[],()),((0:Int),[],()),())).2.1.2.1:List Int),())),())),(((r0.1.1.1,(r0.1.1.2.1,())),((r0.1.2.1.1,(r0.1.2.1.2.1,())),())),()));let r2:(Int×List Int×PUnit)×PUnit:=g148 (((r1.1.1.1,(r1.1.1.2.1,())),((r1.1.2.1.1,(r1.1.2.1.2.1,())),())),());let r3:Int×Bool×PUnit:=g147 ((r2.1.1,(r2.1.2.1,())),()); some (.again ((x0,(x1,((x2++[r3.1]:List Int),((wrap64 (x3 + (1:Int)):Int),())))),()),[(true,true),(Nat.ble (((2:Nat) * (List.length x2 + (1:Nat)) + (192:Nat)) * (8:Nat)) (281474976710656:Nat) && Nat.ble (List.length x2 + (1:Nat)) (281474976710656:Nat),true),(false,false),(Option.isSome (f147 ((r2.1.1,(r2.1.2.1,())),())),true),(Option.isSome (f148 (((r1.1.1.1,(r1.1.1.2.1,())),((r1.1.2.1.1,(r1.1.2.1.2.1,())),())),())),true),(Option.isSome (f52 (((((List.getD x0 (Int.toNat x3) (((0:Int),[],()),((0:Int),[],()),())).1.1:Int),(((List.getD x0 (Int.toNat x3) (((0:Int),[],()),((0:Int),[],()),())).1.2.1:List Int),())),((((List.getD x0 (Int.toNat x3) (((0:Int),[],()),((0:Int),[],()),())).2.1.1:Int),(((List.getD x0 (Int.toNat x3) (((0:Int),[],()),((0:Int),[],()),())).2.1.2.1:List Int),())),())),(((r0.1.1.1,(r0.1.1.2.1,())),((r0.1.2.1.1,(r0.1.2.1.2.1,())),())),()))),true),(Option.isSome (f48 (x1,())),true),(decide ((0:Int) ≤ x3) && decide (x3 < (↑(List.length x0):Int)),true),(!leF (↑(List.length x0):Int) x3,true)])):=by kernel_rfl
theorem e110_2_3 (x0:(List ((Int×((List Int)×Unit))×((Int×((List Int)×Unit))×Unit)))) (x1:Int) (x2:(List Int)) (x3:Int):runBody kl110_0.orc Go.Proofs.Try.prog 400 110 2 sh110_2 shb110_2 shr110_2 ((x0,x1,x2,x3,()),()) [ff] =
    (some (.brk ((x1,(x2,())),()),[(!leF (↑(List.length x0):Int) x3,false)])):=by kernel_rfl

theorem ok110_2_t (x0:(List ((Int×((List Int)×Unit))×((Int×((List Int)×Unit))×Unit)))) (x1:Int) (x2:(List Int)) (x3:Int):TrOk (BodyRuns Go.Proofs.Try.prog kl110_0.orc 110 2 sh110_2 shb110_2 shr110_2 ((x0,x1,x2,x3,()),())) (t110_2 x0 x1 x2 x3) :=
  TrOk.ofTest (fun h0=>TrOk.ofTest (fun h1=>TrOk.ofTest (fun h2=>TrOk.ofTest (fun h3=>TrOk.ofTest (fun h4=>TrOk.ofTest (fun h5=>TrOk.ofTest (fun h7=>TrOk.ofFin (BodyRuns.of (e110_2_0 x0 x1 x2 x3) (ac rfl (ac h7 (ac rfl (ac h5 (ac h4 (ac h3 (ac h2 (ac h1 (ac h0 All.nil))))))))))) (fun h7=>TrOk.ofStop)) (fun h5=>TrOk.ofStop)) (fun h4=>TrOk.ofStop)) (fun h3=>TrOk.ofStop)) (fun h2=>TrOk.ofStop)) (fun h1=>TrOk.ofStop)) (fun h0=>TrOk.ofFin (BodyRuns.of (e110_2_3 x0 x1 x2 x3) (ac h0 All.nil)))

theorem ok110_2:LoopOk Go.Proofs.Try.prog 110 2 lc110_2:=loopOk_ofB kl110_0_ok.base (T:=fun (d:sh110_2.data)=>t110_2 d.1.1 d.1.2.1 d.1.2.2.1 d.1.2.2.2.1) (by kernel_rfl) rfl (fun (d:sh110_2.data)=>ok110_2_t d.1.1 d.1.2.1 d.1.2.2.1 d.1.2.2.2.1) (fun _=>rfl)
def kl110_2:Known:=kl110_0.loop 110 2 lc110_2
theorem kl110_2_ok:KnownOk Go.Proofs.Try.prog kl110_2:=kl110_0_ok.loop ok110_2

/-! ductility/ductilityref02.Common -/

abbrev as110:List Ty:=[(.slice (.pair (.pair (.int .i64) (.pair (.slice (.int .i64)) .unit)) (.pair (.pair (.int .i64) (.pair (.slice (.int .i64)) .unit)) .unit)))]
abbrev rs110:List Ty:=[(.int .i64),(.slice (.int .i64))]

def t110 (x0:(List ((Int×((List Int)×Unit))×((Int×((List Int)×Unit))×Unit)))):Tr (Tys.data rs110) :=
  Tr.test (Option.isSome (f113 ((1:Int),())))
    (let r0:(Int×List Int×PUnit)×PUnit:=g113 ((1:Int),());
    Tr.test (isBrk (l110_0 ((x0,((0:Int),())),((r0.1.1,(r0.1.2.1,())),()))))
      (let r1:(List ((Int×List Int×PUnit)×(Int×List Int×PUnit)×PUnit)×PUnit)×(Int×List Int×PUnit)×PUnit:=b110_0 ((x0,((0:Int),())),((r0.1.1,(r0.1.2.1,())),()));
      Tr.test (Option.isSome (f147 ((r1.2.1.1,(r1.2.1.2.1,())),())))
        (let r2:Int×Bool×PUnit:=g147 ((r1.2.1.1,(r1.2.1.2.1,())),());
        Tr.test (isBrk (l110_2 (((r1.1.1:List ((Int×List Int×PUnit)×(Int×List Int×PUnit)×PUnit)),(r2.1,(([]:List Int),((0:Int),())))),())))
          (let r3:(Int×List Int×PUnit)×PUnit:=b110_2 (((r1.1.1:List ((Int×List Int×PUnit)×(Int×List Int×PUnit)×PUnit)),(r2.1,(([]:List Int),((0:Int),())))),());
          Tr.fin ((r3.1.1,(r3.1.2.1,()))))
          (Tr.stop))
        (Tr.stop))
      (Tr.stop))
    (Tr.stop)

def f110 (d:Tys.data as110):Option (Tys.data rs110):=(t110 d.1).val
def g110 (d:Tys.data as110):Tys.data rs110:=(f110 d).getD (Tys.dflt rs110)
def p110:PureC:=pcOf as110 rs110 f110 g110

theorem e110_0 (x0:(List ((Int×((List Int)×Unit))×((Int×((List Int)×Unit))×Unit)))):runPure kl110_2.orc Go.Proofs.Try.prog 400 110 as110 rs110 (x0,()) [tt,tt,tt,tt,tt,tt] =
    (let r0:(Int×List Int×PUnit)×PUnit:=g113 ((1:Int),());let r1:(List ((Int×List Int×PUnit)×(Int×List Int×PUnit)×PUnit)×PUnit)×(Int×List Int×PUnit)×PUnit:=b110_0 ((x0,((0:Int),())),((r0.1.1,(r0.1.2.1,())),()));let r2:Int×Bool×PUnit:=g147 ((r1.2.1.1,(r1.2.1.2.1,())),());let r3:(Int×List Int×PUnit)×PUnit:=b110_2 (((r1.1.1:List ((Int×List Int×PUnit)×(Int×List Int×PUnit)×PUnit)),(r2.1,(([]:List Int),((0:Int),())))),()); some ((r3.1.1,(r3.1.2.1,())),[(true,true),(isBrk (l110_2 (((r1.1.1:List ((Int×List Int×PUnit)×(Int×List Int×PUnit)×PUnit)),(r2.1,(([]:List Int),((0:Int),())))),())),true),(Option.isSome (f147 ((r1.2.1.1,(r1.2.1.2.1,())),())),true),(true,true),(isBrk (l110_0 ((x0,((0:Int),())),((r0.1.1,(r0.1.2.1,())),()))),true),(Option.isSome (f113 ((1:Int),())),true)])):=by kernel_rfl

theorem ok110_t (x0:(List ((Int×((List Int)×Unit))×((Int×((List Int)×Unit))×Unit)))):TrOk (PureRuns Go.Proofs.Try.prog kl110_2.orc 110 as110 rs110 (x0,())) (t110 x0) :=
  TrOk.ofTest (fun h0=>TrOk.ofTest (fun h1=>TrOk.ofTest (fun h3=>TrOk.ofTest (fun h4=>TrOk.ofFin (PureRuns.of (e110_0 x0) (ac rfl (ac h4 (ac h3 (ac rfl (ac h1 (ac h0 All.nil)))))))) (fun h4=>TrOk.ofStop)) (fun h3=>TrOk.ofStop)) (fun h1=>TrOk.ofStop)) (fun h0=>TrOk.ofStop)

theorem ok110:PureOk Go.Proofs.Try.prog 110 p110:=pureOk_of kl110_2_ok.base (T:=fun (d:Tys.data as110)=>t110 d.1) (by kernel_rfl) (fun (d:Tys.data as110)=>ok110_t d.1)
def kf110:Known:=kl110_2.func 110 p110
theorem kf110_ok:KnownOk Go.Proofs.Try.prog kf110:=kl110_2_ok.func ok110

/-! loop 0 of ductility/ductilityref02.Rest -/

abbrev sh45_0:Sh:={ n:=64,slots:=[0,2,3,4,5,6,7],pats:=[.ty (.slice (.int .i64)),.ptr 0 2 0,.ptr 1 3 0,.ptr 2 4 0,.ptr 3 4 0,.acc (.pair (.pair (.int .i64) (.pair (.slice (.int .i64)) .unit)) (.pair (.pair (.int .i64) (.pair (.slice (.int .i64)) .unit)) .unit)),.ty (.int .i64)],boxes:=[.row [.ty (.int .i64),.nil],.row [.ty (.int .i64),.ty (.int .i64),.ty (.int .i64)],.row [.ty (.int .i64),.ty (.slice (.int .i64)),.ty (.int .i64),.ty (.slice (.int .i64))],.row [.ty (.int .i64),.ty (.slice (.int .i64)),.ty (.int .i64),.ty (.slice (.int .i64))]] }
abbrev shb45_0:Sh:={ n:=64,slots:=[2,3,4,5,6],pats:=[.ptr 0 2 0,.ptr 1 3 0,.ptr 2 4 0,.ptr 3 4 0,.acc (.pair (.pair (.int .i64) (.pair (.slice (.int .i64)) .unit)) (.pair (.pair (.int .i64) (.pair (.slice (.int .i64)) .unit)) .unit))],boxes:=[.row [.ty (.int .i64),.nil],.row [.ty (.int .i64),.ty (.int .i64),.ty (.int .i64)],.row [.ty (.int .i64),.ty (.slice (.int .i64)),.ty (.int .i64),.ty (.slice (.int .i64))],.row [.ty (.int .i64),.ty (.slice (.int .i64)),.ty (.int .i64),.ty (.slice (.int .i64))]] }
abbrev shr45_0:Sh:={ n:=64,slots:=[],pats:=[],boxes:=[.row [.ty (.int .i64),.nil],.row [.ty (.int .i64),.ty (.int .i64),.ty (.int .i64)],.row [.ty (.int .i64),.ty (.slice (.int .i64)),.ty (.int .i64),.ty (.slice (.int .i64))],.row [.ty (.int .i64),.ty (.slice (.int .i64)),.ty (.int .i64),.ty (.slice (.int .i64))]] }

def t45_0 (x0:(List Int)) (x5:(List ((Int×((List Int)×Unit))×((Int×((List Int)×Unit))×Unit)))) (x6:Int) (b0_0:Int) (b1_0:Int) (b1_1:Int) (b1_2:Int) (b2_0:Int) (b2_1:(List Int)) (b2_2:Int) (b2_3:(List Int)) (b3_0:Int) (b3_1:(List Int)) (b3_2:Int) (b3_3:(List Int)):Tr (Out sh45_0.data shb45_0.data shr45_0.data) :=
  Tr.test ((!leF (↑(List.length x0):Int) x6:Bool))
    (Tr.test (decide ((0:Int) ≤ x6) && decide (x6 < (↑(List.length x0):Int)))
      (Tr.test (Option.isSome (f48 ((List.getD x0 (Int.toNat x6) (0:Int):Int),())))
        (Tr.test (Option.isSome (f48 ((wrap64 ((↑(List.length x0):Int) - x6):Int),())))
          (let r1:((Int×List Int×PUnit)×(Int×List Int×PUnit)×PUnit)×PUnit:=g48 ((wrap64 ((↑(List.length x0):Int) - x6):Int),());
          Tr.test (Option.isSome (f52 (((b3_0,(b3_1,())),((b3_2,(b3_3,())),())),(((r1.1.1.1,(r1.1.1.2.1,())),((r1.1.2.1.1,(r1.1.2.1.2.1,())),())),()))))
            (let r2:((Int×List Int×PUnit)×(Int×List Int×PUnit)×PUnit)×PUnit:=g52 (((b3_0,(b3_1,())),((b3_2,(b3_3,())),())),(((r1.1.1.1,(r1.1.1.2.1,())),((r1.1.2.1.1,(r1.1.2.1.2.1,())),())),()));
            Tr.test (Option.isSome (f51 (((b2_0,(b2_1,())),((b2_2,(b2_3,())),())),(((r2.1.1.1,(r2.1.1.2.1,())),((r2.1.2.1.1,(r2.1.2.1.2.1,())),())),()))))
              (let r0:((Int×List Int×PUnit)×(Int×List Int×PUnit)×PUnit)×PUnit:=g48 ((List.getD x0 (Int.toNat x6) (0:Int):Int),());
              let r3:((Int×List Int×PUnit)×(Int×List Int×PUnit)×PUnit)×PUnit:=g51 (((b2_0,(b2_1,())),((b2_2,(b2_3,())),())),(((r2.1.1.1,(r2.1.1.2.1,())),((r2.1.2.1.1,(r2.1.2.1.2.1,())),())),()));
              Tr.test (Option.isSome (f51 (((r0.1.1.1,(r0.1.1.2.1,())),((r0.1.2.1.1,(r0.1.2.1.2.1,())),())),(((r3.1.1.1,(r3.1.1.2.1,())),((r3.1.2.1.1,(r3.1.2.1.2.1,())),())),()))))
                (Tr.test ((Nat.ble (((2:Nat) * (List.length x5 + (1:Nat)) + (192:Nat)) * (64:Nat)) (281474976710656:Nat) && Nat.ble (List.length x5 + (1:Nat)) (281474976710656:Nat):Bool))
                  (let r4:((Int×List Int×PUnit)×(Int×List Int×PUnit)×PUnit)×PUnit:=g51 (((r0.1.1.1,(r0.1.1.2.1,())),((r0.1.2.1.1,(r0.1.2.1.2.1,())),())),(((r3.1.1.1,(r3.1.1.2.1,())),((r3.1.2.1.1,(r3.1.2.1.2.1,())),())),()));
                  Tr.fin (.again ((x0,((x5++[((r4.1.1.1,r4.1.1.2.1,()),(r4.1.2.1.1,r4.1.2.1.2.1,()),())]:List ((Int×List Int×PUnit)×(Int×List Int×PUnit)×PUnit)),((wrap64 (x6 + (1:Int)):Int),()))),((b0_0,()),((b1_0,(b1_1,(b1_2,()))),((b2_0,(b2_1,(b2_2,(b2_3,())))),((b3_0,(b3_1,(b3_2,(b3_3,())))),())))))))
                  (Tr.stop))
                (Tr.stop))
              (Tr.stop))
            (Tr.stop))
          (Tr.stop))
        (Tr.stop))
      (Tr.stop))
    (Tr.fin (.brk ((x5,()),((b0_0,()),((b1_0,(b1_1,(b1_2,()))),((b2_0,(b2_1,(b2_2,(b2_3,())))),((b3_0,(b3_1,(b3_2,(b3_3,())))),())))))))

def s45_0 (d:sh45_0.data):Option (Out sh45_0.data shb45_0.data shr45_0.data):=(t45_0 d.1.1 d.1.2.1 d.1.2.2.1 d.2.1.1 d.2.2.1.1 d.2.2.1.2.1 d.2.2.1.2.2.1 d.2.2.2.1.1 d.2.2.2.1.2.1 d.2.2.2.1.2.2.1 d.2.2.2.1.2.2.2.1 d.2.2.2.2.1.1 d.2.2.2.2.1.2.1 d.2.2.2.2.1.2.2.1 d.2.2.2.2.1.2.2.2.1).val
def l45_0 (d:sh45_0.data):Option (shb45_0.data ⊕ shr45_0.data):=itr s45_0 rounds d
def b45_0 (d:sh45_0.data):shb45_0.data:=outB shb45_0.dflt (l45_0 d)
def lc45_0:LoopC:=lcB sh45_0 shb45_0 shr45_0 l45_0 b45_0

theorem e45_0_0 (x0:(List Int)) (x5:(List ((Int×((List Int)×Unit))×((Int×((List Int)×Unit))×Unit)))) (x6:Int) (b0_0:Int) (b1_0:Int) (b1_1:Int) (b1_2:Int) (b2_0:Int) (b2_1:(List Int)) (b2_2:Int) (b2_3:(List Int)) (b3_0:Int) (b3_1:(List Int)) (b3_2:Int) (b3_3:(List Int)):runBody kf110.orc Go.Proofs.Try.prog 400 45 0 sh45_0 shb45_0 shr45_0 ((x0,x5,x6,()),(b0_0,()),(b1_0,b1_1,b1_2,()),(b2_0,b2_1,b2_2,b2_3,()),(b3_0,b3_1,b3_2,b3_3,()),()) [tt,tt,tt,tt,tt,tt,tt,ff,tt,tt] =
    (let r1:((Int×List Int×PUnit)×(Int×List Int×PUnit)×PUnit)×PUnit:=g48 ((wrap64 ((↑(List.length x0):Int) - x6):Int),());let r2:((Int×List Int×PUnit)×(Int×List Int×PUnit)×PUnit)×PUnit:=g52 (((b3_0,(b3_1,())),((b3_2,(b3_3,())),())),(((r1.1.1.1,(r1.1.1.2.1,())),((r1.1.2.1.1,(r1.1.2.1.2.1,())),())),()));let r0:((Int×List Int×PUnit)×(Int×List Int×PUnit)×PUnit)×PUnit:=g48 ((List.getD x0 (Int.toNat x6) (0:Int):Int),());let r3:((Int×List Int×PUnit)×(Int×List Int×PUnit)×PUnit)×PUnit:=g51 (((b2_0,(b2_1,())),((b2_2,(b2_3,())),())),(((r2.1.1.1,(r2.1.1.2.1,())),((r2.1.2.1.1,(r2.1.2.1.2.1,())),())),()));let r4:((Int×List Int×PUnit)×(Int×List Int×PUnit)×PUnit)×PUnit:=g51 (((r0.1.1.1,(r0.1.1.2.1,())),((r0.1.2.1.1,(r0.1.2.1.2.1,())),())),(((r3.1.1.1,(r3.1.1.2.1,())),((r3.1.2.1.1,(r3.1.2.1.2.1,())),())),())); some (.again ((x0,((x5++[((r4.1.1.1,r4.1.1.2.1,()),(r4.1.2.1.1,r4.1.2.1.2.1,()),())]:List ((Int×List Int×PUnit)×(Int×List Int×PUnit)×PUnit)),((wrap64 (x6 + (1:Int)):Int),()))),((b0_0,()),((b1_0,(b1_1,(b1_2,()))),((b2_0,(b2_1,(b2_2,(b2_3,())))),((b3_0,(b3_1,(b3_2,(b3_3,())))),()))))),[(true,true),(Nat.ble (((2:Nat) * (List.length x5 + (1:Nat)) + (192:Nat)) * (64:Nat)) (281474976710656:Nat) && Nat.ble (List.length x5 + (1:Nat)) (281474976710656:Nat),true),(false,false),(Option.isSome (f51 (((r0.1.1.1,(r0.1.1.2.1,())),((r0.1.2.1.1,(r0.1.2.1.2.1,())),())),(((r3.1.1.1,(r3.1.1.2.1,())),((r3.1.2.1.1,(r3.1.2.1.2.1,())),())),()))),true),(Option.isSome (f51 (((b2_0,(b2_1,())),((b2_2,(b2_3,())),())),(((r2.1.1.1,(r2.1.1.2.1,())),((r2.1.2.1.1,(r2.1.2.1.2.1,())),())),()))),true),(Option.isSome (f52 (((b3_0,(b3_1,())),((b3_2,(b3_3,())),())),(((r1.1.1.1,(r1.1.1.2.1,())),((r1.1.2.1.1,(r1.1.2.1.2.1,())),())),()))),true),(Option.isSome (f48 ((wrap64 ((↑(List.length x0):Int) - x6):Int),())),true),(Option.isSome (f48 ((List.getD x0 (Int.toNat x6) (0:Int):Int),())),true),(decide ((0:Int) ≤ x6) && decide (x6 < (↑(List.length x0):Int)),true),(!leF (↑(List.length x0):Int) x6,true)])):=by kernel_rfl
theorem e45_0_3 (x0:(List Int)) (x5:(List ((Int×((List Int)×Unit))×((Int×((List Int)×Unit))×Unit)))) (x6:Int) (b0_0:Int) (b1_0:Int) (b1_1:Int) (b1_2:Int) (b2_0:Int) (b2_1:(List Int)) (b2_2:Int) (b2_3:(List Int)) (b3_0:Int) (b3_1:(List Int)) (b3_2:Int) (b3_3:(List Int)):runBody kf110.orc Go.Proofs.Try.prog 400 45 0 sh45_0 shb45_0 shr45_0 ((x0,x5,x6,()),(b0_0,()),(b1_0,b1_1,b1_2,()),(b2_0,b2_1,b2_2,b2_3,()),(b3_0,b3_1,b3_2,b3_3,()),()) [ff] =
    (some (.brk ((x5,()),((b0_0,()),((b1_0,(b1_1,(b1_2,()))),((b2_0,(b2_1,(b2_2,(b2_3,())))),((b3_0,(b3_1,(b3_2,(b3_3,())))),()))))),[(!leF (↑(List.length x0):Int) x6,false)])):=by kernel_rfl

theorem ok45_0_t (x0:(List Int)) (x5:(List ((Int×((List Int)×Unit))×((Int×((List Int)×Unit))×Unit)))) (x6:Int) (b0_0:Int) (b1_0:Int) (b1_1:Int) (b1_2:Int) (b2_0:Int) (b2_1:(List Int)) (b2_2:Int) (b2_3:(List Int)) (b3_0:Int) (b3_1:(List Int)) (b3_2:Int) (b3_3:(List Int)):TrOk (BodyRuns Go.Proofs.Try.prog kf110.orc 45 0 sh45_0 shb45_0 shr45_0 ((x0,x5,x6,()),(b0_0,()),(b1_0,b1_1,b1_2,()),(b2_0,b2_1,b2_2,b2_3,()),(b3_0,b3_1,b3_2,b3_3,()),())) (t45_0 x0 x5 x6 b0_0 b1_0 b1_1 b1_2 b2_0 b2_1 b2_2 b2_3 b3_0 b3_1 b3_2 b3_3) :=
  TrOk.ofTest (fun h0=>TrOk.ofTest (fun h1=>TrOk.ofTest (fun h2=>TrOk.ofTest (fun h3=>TrOk.ofTest (fun h4=>TrOk.ofTest (fun h5=>TrOk.ofTest (fun h6=>TrOk.ofTest (fun h8=>TrOk.ofFin (BodyRuns.of (e45_0_0 x0 x5 x6 b0_0 b1_0 b1_1 b1_2 b2_0 b2_1 b2_2 b2_3 b3_0 b3_1 b3_2 b3_3) (ac rfl (ac h8 (ac rfl (ac h6 (ac h5 (ac h4 (ac h3 (ac h2 (ac h1 (ac h0 All.nil)))))))))))) (fun h8=>TrOk.ofStop)) (fun h6=>TrOk.ofStop)) (fun h5=>TrOk.ofStop)) (fun h4=>TrOk.ofStop)) (fun h3=>TrOk.ofStop)) (fun h2=>TrOk.ofStop)) (fun h1=>TrOk.ofStop)) (fun h0=>TrOk.ofFin (BodyRuns.of (e45_0_3 x0 x5 x6 b0_0 b1_0 b1_1 b1_2 b2_0 b2_1 b2_2 b2_3 b3_0 b3_1 b3_2 b3_3) (ac h0 All.nil)))

theorem ok45_0:LoopOk Go.Proofs.Try.prog 45 0 lc45_0:=loopOk_ofB kf110_ok.base (T:=fun (d:sh45_0.data)=>t45_0 d.1.1 d.1.2.1 d.1.2.2.1 d.2.1.1 d.2.2.1.1 d.2.2.1.2.1 d.2.2.1.2.2.1 d.2.2.2.1.1 d.2.2.2.1.2.1 d.2.2.2.1.2.2.1 d.2.2.2.1.2.2.2.1 d.2.2.2.2.1.1 d.2.2.2.2.1.2.1 d.2.2.2.2.1.2.2.1 d.2.2.2.2.1.2.2.2.1) (by kernel_rfl) rfl (fun (d:sh45_0.data)=>ok45_0_t d.1.1 d.1.2.1 d.1.2.2.1 d.2.1.1 d.2.2.1.1 d.2.2.1.2.1 d.2.2.1.2.2.1 d.2.2.2.1.1 d.2.2.2.1.2.1 d.2.2.2.1.2.2.1 d.2.2.2.1.2.2.2.1 d.2.2.2.2.1.1 d.2.2.2.2.1.2.1 d.2.2.2.2.1.2.2.1 d.2.2.2.2.1.2.2.2.1) (fun _=>rfl)
def kl45_0:Known:=kf110.loop 45 0 lc45_0
theorem kl45_0_ok:KnownOk Go.Proofs.Try.prog kl45_0:=kf110_ok.loop ok45_0

/-! ductility/ductilityref02.Rest -/

abbrev as45:List Ty:=[(.slice (.int .i64))]
abbrev rs45:List Ty:=[(.pair (.int .i64) (.pair (.slice (.int .i64)) .unit)),(.pair (.int .i64) (.pair (.int .i64) (.pair (.int .i64) .unit)))]

def t45 (x0:(List Int)):Tr (Tys.data rs45) :=
  Tr.test (Option.isSome (f109 (x0,())))
    (let r0:((Int×List Int×PUnit)×(Int×List Int×PUnit)×PUnit)×((Int×List Int×PUnit)×(Int×List Int×PUnit)×PUnit)×PUnit:=g109 (x0,());
    Tr.test (isBrk (l45_0 ((x0,(([]:List ((Int×List Int×PUnit)×(Int×List Int×PUnit)×PUnit)),((0:Int),()))),(((0:Int),()),(((0:Int),((0:Int),((0:Int),()))),((r0.1.1.1,(r0.1.1.2.1,(r0.1.2.1.1,(r0.1.2.1.2.1,())))),((r0.2.1.1.1,(r0.2.1.1.2.1,(r0.2.1.2.1.1,(r0.2.1.2.1.2.1,())))),())))))))
      (let r1:(List ((Int×List Int×PUnit)×(Int×List Int×PUnit)×PUnit)×PUnit)×(Int×PUnit)×(Int×Int×Int×PUnit)×(Int×List Int×Int×List Int×PUnit)×(Int×List Int×Int×List Int×PUnit)×PUnit:=b45_0 ((x0,(([]:List ((Int×List Int×PUnit)×(Int×List Int×PUnit)×PUnit)),((0:Int),()))),(((0:Int),()),(((0:Int),((0:Int),((0:Int),()))),((r0.1.1.1,(r0.1.1.2.1,(r0.1.2.1.1,(r0.1.2.1.2.1,())))),((r0.2.1.1.1,(r0.2.1.1.2.1,(r0.2.1.2.1.1,(r0.2.1.2.1.2.1,())))),())))));
      Tr.test (Option.isSome (f110 ((r1.1.1:List ((Int×List Int×PUnit)×(Int×List Int×PUnit)×PUnit)),())))
        (Tr.test (Option.isSome (f110 (([((r1.2.2.2.1.1,r1.2.2.2.1.2.1,()),(r1.2.2.2.1.2.2.1,r1.2.2.2.1.2.2.2.1,()),()),((r1.2.2.2.2.1.1,r1.2.2.2.2.1.2.1,()),(r1.2.2.2.2.1.2.2.1,r1.2.2.2.2.1.2.2.2.1,()),())]:List ((Int×List Int×PUnit)×(Int×List Int×PUnit)×PUnit)),())))
          (let r3:Int×List Int×PUnit:=g110 (([((r1.2.2.2.1.1,r1.2.2.2.1.2.1,()),(r1.2.2.2.1.2.2.1,r1.2.2.2.1.2.2.2.1,()),()),((r1.2.2.2.2.1.1,r1.2.2.2.2.1.2.1,()),(r1.2.2.2.2.1.2.2.1,r1.2.2.2.2.1.2.2.2.1,()),())]:List ((Int×List Int×PUnit)×(Int×List Int×PUnit)×PUnit)),());
          Tr.test ((true && decide ((0:Int) < (↑(List.length r3.2.1):Int)):Bool))
            (Tr.test ((true && decide ((1:Int) < (↑(List.length r3.2.1):Int)):Bool))
              (let r2:Int×List Int×PUnit:=g110 ((r1.1.1:List ((Int×List Int×PUnit)×(Int×List Int×PUnit)×PUnit)),());
              Tr.fin (((r2.1,(r2.2.1,())),((r3.1,((List.getD r3.2.1 (0:Nat) (0:Int):Int),((List.getD r3.2.1 (1:Nat) (0:Int):Int),()))),()))))
              (Tr.stop))
            (Tr.stop))
          (Tr.stop))
        (Tr.stop))
      (Tr.stop))
    (Tr.stop)

def f45 (d:Tys.data as45):Option (Tys.data rs45):=(t45 d.1).val
def g45 (d:Tys.data as45):Tys.data rs45:=(f45 d).getD (Tys.dflt rs45)
def p45:PureC:=pcOf as45 rs45 f45 g45

theorem e45_0 (x0:(List Int)):runPure kl45_0.orc Go.Proofs.Try.prog 400 45 as45 rs45 (x0,()) [tt,tt,tt,tt,tt,tt,tt,tt] =
    (let r0:((Int×List Int×PUnit)×(Int×List Int×PUnit)×PUnit)×((Int×List Int×PUnit)×(Int×List Int×PUnit)×PUnit)×PUnit:=g109 (x0,());let r1:(List ((Int×List Int×PUnit)×(Int×List Int×PUnit)×PUnit)×PUnit)×(Int×PUnit)×(Int×Int×Int×PUnit)×(Int×List Int×Int×List Int×PUnit)×(Int×List Int×Int×List Int×PUnit)×PUnit:=b45_0 ((x0,(([]:List ((Int×List Int×PUnit)×(Int×List Int×PUnit)×PUnit)),((0:Int),()))),(((0:Int),()),(((0:Int),((0:Int),((0:Int),()))),((r0.1.1.1,(r0.1.1.2.1,(r0.1.2.1.1,(r0.1.2.1.2.1,())))),((r0.2.1.1.1,(r0.2.1.1.2.1,(r0.2.1.2.1.1,(r0.2.1.2.1.2.1,())))),())))));let r3:Int×List Int×PUnit:=g110 (([((r1.2.2.2.1.1,r1.2.2.2.1.2.1,()),(r1.2.2.2.1.2.2.1,r1.2.2.2.1.2.2.2.1,()),()),((r1.2.2.2.2.1.1,r1.2.2.2.2.1.2.1,()),(r1.2.2.2.2.1.2.2.1,r1.2.2.2.2.1.2.2.2.1,()),())]:List ((Int×List Int×PUnit)×(Int×List Int×PUnit)×PUnit)),());let r2:Int×List Int×PUnit:=g110 ((r1.1.1:List ((Int×List Int×PUnit)×(Int×List Int×PUnit)×PUnit)),()); some (((r2.1,(r2.2.1,())),((r3.1,((List.getD r3.2.1 (0:Nat) (0:Int):Int),((List.getD r3.2.1 (1:Nat) (0:Int):Int),()))),())),[(true && decide ((1:Int) < (↑(List.length r3.2.1):Int)),true),(true && decide ((0:Int) < (↑(List.length r3.2.1):Int)),true),(Option.isSome (f110 (([((r1.2.2.2.1.1,r1.2.2.2.1.2.1,()),(r1.2.2.2.1.2.2.1,r1.2.2.2.1.2.2.2.1,()),()),((r1.2.2.2.2.1.1,r1.2.2.2.2.1.2.1,()),(r1.2.2.2.2.1.2.2.1,r1.2.2.2.2.1.2.2.2.1,()),())]:List ((Int×List Int×PUnit)×(Int×List Int×PUnit)×PUnit)),())),true),(true,true),(Option.isSome (f110 ((r1.1.1:List ((Int×List Int×PUnit)×(Int×List Int×PUnit)×PUnit)),())),true),(true,true),(isBrk (l45_0 ((x0,(([]:List ((Int×List Int×PUnit)×(Int×List Int×PUnit)×PUnit)),((0:Int),()))),(((0:Int),()),(((0:Int),((0:Int),((0:Int),()))),((r0.1.1.1,(r0.1.1.2.1,(r0.1.2.1.1,(r0.1.2.1.2.1,())))),((r0.2.1.1.1,(r0.2.1.1.2.1,(r0.2.1.2.1.1,(r0.2.1.2.1.2.1,())))),())))))),true),(Option.isSome (f109 (x0,())),true)])):=by kernel_rfl

theorem ok45_t (x0:(List Int)):TrOk (PureRuns Go.Proofs.Try.prog kl45_0.orc 45 as45 rs45 (x0,())) (t45 x0) :=
  TrOk.ofTest (fun h0=>TrOk.ofTest (fun h1=>TrOk.ofTest (fun h3=>TrOk.ofTest (fun h5=>TrOk.ofTest (fun h6=>TrOk.ofTest (fun h7=>TrOk.ofFin (PureRuns.of (e45_0 x0) (ac h7 (ac h6 (ac h5 (ac rfl (ac h3 (ac rfl (ac h1 (ac h0 All.nil)))))))))) (fun h7=>TrOk.ofStop)) (fun h6=>TrOk.ofStop)) (fun h5=>TrOk.ofStop)) (fun h3=>TrOk.ofStop)) (fun h1=>TrOk.ofStop)) (fun h0=>TrOk.ofStop)

theorem ok45:PureOk Go.Proofs.Try.prog 45 p45:=pureOk_of kl45_0_ok.base (T:=fun (d:Tys.data as45)=>t45 d.1) (by kernel_rfl) (fun (d:Tys.data as45)=>ok45_t d.1)
def kf45:Known:=kl45_0.func 45 p45
theorem kf45_ok:KnownOk Go.Proofs.Try.prog kf45:=kl45_0_ok.func ok45

/-! ductility/ductilityref02.isPart -/

abbrev as111:List Ty:=[(.int .i64)]
abbrev rs111:List Ty:=[.bool]

def t111 (x0:Int):Tr (Tys.data rs111) :=
  Tr.test (Option.isSome (f47 (x0,((-1000000000000:Int),((1000000000000:Int),())))))
    (let r0:Bool×PUnit:=g47 (x0,((-1000000000000:Int),((1000000000000:Int),())));
    Tr.fin ((r0.1,())))
    (Tr.stop)

def f111 (d:Tys.data as111):Option (Tys.data rs111):=(t111 d.1).val
def g111 (d:Tys.data as111):Tys.data rs111:=(f111 d).getD (Tys.dflt rs111)
def p111:PureC:=pcOf as111 rs111 f111 g111

theorem e111_0 (x0:Int):runPure kf45.orc Go.Proofs.Try.prog 400 111 as111 rs111 (x0,()) [tt] =
    (let r0:Bool×PUnit:=g47 (x0,((-1000000000000:Int),((1000000000000:Int),()))); some ((r0.1,()),[(Option.isSome (f47 (x0,((-1000000000000:Int),((1000000000000:Int),())))),true)])):=by kernel_rfl

theorem ok111_t (x0:Int):TrOk (PureRuns Go.Proofs.Try.prog kf45.orc 111 as111 rs111 (x0,())) (t111 x0) :=
  TrOk.ofTest (fun h0=>TrOk.ofFin (PureRuns.of (e111_0 x0) (ac h0 All.nil))) (fun h0=>TrOk.ofStop)

theorem ok111:PureOk Go.Proofs.Try.prog 111 p111:=pureOk_of kf45_ok.base (T:=fun (d:Tys.data as111)=>t111 d.1) (by kernel_rfl) (fun (d:Tys.data as111)=>ok111_t d.1)
def kf111:Known:=kf45.func 111 p111
theorem kf111_ok:KnownOk Go.Proofs.Try.prog kf111:=kf45_ok.func ok111

/-! loop 0 of ductility/ductilitybase.Gcd -/

abbrev sh142_0:Sh:={ n:=13,slots:=[0,1],pats:=[.ty (.int .i64),.ty (.int .i64)],boxes:=[] }
abbrev shb142_0:Sh:={ n:=13,slots:=[0],pats:=[.ty (.int .i64)],boxes:=[] }
abbrev shr142_0:Sh:={ n:=13,slots:=[],pats:=[],boxes:=[] }

def t142_0 (x0:Int) (x1:Int):Tr (Out sh142_0.data shb142_0.data shr142_0.data) :=
  Tr.test ((!eqF x1 0:Bool))
    (Tr.test (x1 == (0:Int))
      (Tr.stop)
      (Tr.fin (.again ((x1,((Int.tmod x0 x1:Int),())),()))))
    (Tr.fin (.brk ((x0,()),())))

def s142_0 (d:sh142_0.data):Option (Out sh142_0.data shb142_0.data shr142_0.data):=(t142_0 d.1.1 d.1.2.1).val
def l142_0 (d:sh142_0.data):Option (shb142_0.data ⊕ shr142_0.data):=itr s142_0 rounds d
def b142_0 (d:sh142_0.data):shb142_0.data:=outB shb142_0.dflt (l142_0 d)
def lc142_0:LoopC:=lcB sh142_0 shb142_0 shr142_0 l142_0 b142_0

theorem e142_0_1 (x0:Int) (x1:Int):runBody kf111.orc Go.Proofs.Try.prog 400 142 0 sh142_0 shb142_0 shr142_0 ((x0,x1,()),()) [tt,ff] =
    (some (.again ((x1,((Int.tmod x0 x1:Int),())),()),[(x1 == (0:Int),false),(!eqF x1 0,true)])):=by kernel_rfl
theorem e142_0_2 (x0:Int) (x1:Int):runBody kf111.orc Go.Proofs.Try.prog 400 142 0 sh142_0 shb142_0 shr142_0 ((x0,x1,()),()) [ff] =
    (some (.brk ((x0,()),()),[(!eqF x1 0,false)])):=by kernel_rfl

theorem ok142_0_t (x0:Int) (x1:Int):TrOk (BodyRuns Go.Proofs.Try.prog kf111.orc 142 0 sh142_0 shb142_0 shr142_0 ((x0,x1,()),())) (t142_0 x0 x1) :=
  TrOk.ofTest (fun h0=>TrOk.ofTest (fun h1=>TrOk.ofStop) (fun h1=>TrOk.ofFin (BodyRuns.of (e142_0_1 x0 x1) (ac h1 (ac h0 All.nil))))) (fun h0=>TrOk.ofFin (BodyRuns.of (e142_0_2 x0 x1) (ac h0 All.nil)))

theorem ok142_0:LoopOk Go.Proofs.Try.prog 142 0 lc142_0:=loopOk_ofB kf111_ok.base (T:=fun (d:sh142_0.data)=>t142_0 d.1.1 d.1.2.1) (by kernel_rfl) rfl (fun (d:sh142_0.data)=>ok142_0_t d.1.1 d.1.2.1) (fun _=>rfl)
def kl142_0:Known:=kf111.loop 142 0 lc142_0
theorem kl142_0_ok:KnownOk Go.Proofs.Try.prog kl142_0:=kf111_ok.loop ok142_0

/-! ductility/ductilitybase.Gcd -/

abbrev as142:List Ty:=[(.int .i64),(.int .i64)]
abbrev rs142:List Ty:=[(.int .i64)]

def t142 (x0:Int) (x1:Int):Tr (Tys.data rs142) :=
  Tr.test (isBrk (l142_0 ((x0,(x1,())),())))
    (let r0:(Int×PUnit)×PUnit:=b142_0 ((x0,(x1,())),());
    Tr.test (Option.isSome (f131 (r0.1.1,())))
      (let r1:Int×PUnit:=g131 (r0.1.1,());
      Tr.fin ((r1.1,())))
      (Tr.stop))
    (Tr.stop)

def f142 (d:Tys.data as142):Option (Tys.data rs142):=(t142 d.1 d.2.1).val
def g142 (d:Tys.data as142):Tys.data rs142:=(f142 d).getD (Tys.dflt rs142)
def p142:PureC:=pcOf as142 rs142 f142 g142

theorem e142_0 (x0:Int) (x1:Int):runPure kl142_0.orc Go.Proofs.Try.prog 400 142 as142 rs142 (x0,x1,()) [tt,tt,tt] =
    (let r0:(Int×PUnit)×PUnit:=b142_0 ((x0,(x1,())),());let r1:Int×PUnit:=g131 (r0.1.1,()); some ((r1.1,()),[(Option.isSome (f131 (r0.1.1,())),true),(true,true),(isBrk (l142_0 ((x0,(x1,())),())),true)])):=by kernel_rfl

theorem ok142_t (x0:Int) (x1:Int):TrOk (PureRuns Go.Proofs.Try.prog kl142_0.orc 142 as142 rs142 (x0,x1,())) (t142 x0 x1) :=
  TrOk.ofTest (fun h0=>TrOk.ofTest (fun h2=>TrOk.ofFin (PureRuns.of (e142_0 x0 x1) (ac h2 (ac rfl (ac h0 All.nil))))) (fun h2=>TrOk.ofStop)) (fun h0=>TrOk.ofStop)

theorem ok142:PureOk Go.Proofs.Try.prog 142 p142:=pureOk_of kl142_0_ok.base (T:=fun (d:Tys.data as142)=>t142 d.1 d.2.1) (by kernel_rfl) (fun (d:Tys.data as142)=>ok142_t d.1 d.2.1)
def kf142:Known:=kl142_0.func 142 p142
theorem kf142_ok:KnownOk Go.Proofs.Try.prog kf142:=kl142_0_ok.func ok142

/-! loop 0 of ductility/ductilityref02.gcdOf -/

abbrev sh112_0:Sh:={ n:=22,slots:=[1,5,6],pats:=[.ty (.slice (.int .i64)),.ty (.int .i64),.ty (.int .i64)],boxes:=[] }
abbrev shb112_0:Sh:={ n:=22,slots:=[5],pats:=[.ty (.int .i64)],boxes:=[] }
abbrev shr112_0:Sh:={ n:=22,slots:=[],pats:=[],boxes:=[] }

def t112_0 (x0:(List Int)) (x1:Int) (x2:Int):Tr (Out sh112_0.data shb112_0.data shr112_0.data) :=
  Tr.test ((!leF (↑(List.length x0):Int) x2:Bool))
    (Tr.test (decide ((0:Int) ≤ x2) && decide (x2 < (↑(List.length x0):Int)))
      (Tr.test (Option.isSome (f142 (x1,((List.getD x0 (Int.toNat x2) (0:Int):Int),()))))
        (let r0:Int×PUnit:=g142 (x1,((List.getD x0 (Int.toNat x2) (0:Int):Int),()));
        Tr.fin (.again ((x0,(r0.1,((wrap64 (x2 + (1:Int)):Int),()))),())))
        (Tr.stop))
      (Tr.stop))
    (Tr.fin (.brk ((x1,()),())))

def s112_0 (d:sh112_0.data):Option (Out sh112_0.data shb112_0.data shr112_0.data):=(t112_0 d.1.1 d.1.2.1 d.1.2.2.1).val
def l112_0 (d:sh112_0.data):Option (shb112_0.data ⊕ shr112_0.data):=itr s112_0 rounds d
def b112_0 (d:sh112_0.data):shb112_0.data:=outB shb112_0.dflt (l112_0 d)
def lc112_0:LoopC:=lcB sh112_0 shb112_0 shr112_0 l112_0 b112_0

theorem e112_0_0 (x0:(List Int)) (x1:Int) (x2:Int):runBody kf142.orc Go.Proofs.Try.prog 400 112 0 sh112_0 shb112_0 shr112_0 ((x0,x1,x2,()),()) [tt,tt,tt] =
    (let r0:Int×PUnit:=g142 (x1,((List.getD x0 (Int.toNat x2) (0:Int):Int),())); some (.again ((x0,(r0.1,((wrap64 (x2 + (1:Int)):Int),()))),()),[(Option.isSome (f142 (x1,((List.getD x0 (Int.toNat x2) (0:Int):Int),()))),true),(decide ((0:Int) ≤ x2) && decide (x2 < (↑(List.length x0):Int)),true),(!leF (↑(List.length x0):Int) x2,true)])):=by kernel_rfl
theorem e112_0_2 (x0:(List Int)) (x1:Int) (x2:Int):runBody kf142.orc Go.Proofs.Try.prog 400 112 0 sh112_0 shb112_0 shr112_0 ((x0,x1,x2,()),()) [ff] =
    (some (.brk ((x1,()),()),[(!leF (↑(List.length x0):Int) x2,false)])):=by kernel_rfl

theorem ok112_0_t (x0:(List Int)) (x1:Int) (x2:Int):TrOk (BodyRuns Go.Proofs.Try.prog kf142.orc 112 0 sh112_0 shb112_0 shr112_0 ((x0,x1,x2,()),())) (t112_0 x0 x1 x2) :=
  TrOk.ofTest (fun h0=>TrOk.ofTest (fun h1=>TrOk.ofTest (fun h2=>TrOk.ofFin (BodyRuns.of (e112_0_0 x0 x1 x2) (ac h2 (ac h1 (ac h0 All.nil))))) (fun h2=>TrOk.ofStop)) (fun h1=>TrOk.ofStop)) (fun h0=>TrOk.ofFin (BodyRuns.of (e112_0_2 x0 x1 x2) (ac h0 All.nil)))

theorem ok112_0:LoopOk Go.Proofs.Try.prog 112 0 lc112_0:=loopOk_ofB kf142_ok.base (T:=fun (d:sh112_0.data)=>t112_0 d.1.1 d.1.2.1 d.1.2.2.1) (by kernel_rfl) rfl (fun (d:sh112_0.data)=>ok112_0_t d.1.1 d.1.2.1 d.1.2.2.1) (fun _=>rfl)
def kl112_0:Known:=kf142.loop 112 0 lc112_0
theorem kl112_0_ok:KnownOk Go.Proofs.Try.prog kl112_0:=kf142_ok.loop ok112_0

/-! ductility/ductilityref02.gcdOf -/

abbrev as112:List Ty:=[(.int .i64),(.slice (.int .i64))]
abbrev rs112:List Ty:=[(.int .i64)]

def t112 (x0:Int) (x1:(List Int)):Tr (Tys.data rs112) :=
  Tr.test (Option.isSome (f131 (x0,())))
    (let r0:Int×PUnit:=g131 (x0,());
    Tr.test (isBrk (l112_0 ((x1,(r0.1,((0:Int),()))),())))
      (let r1:(Int×PUnit)×PUnit:=b112_0 ((x1,(r0.1,((0:Int),()))),());
      Tr.fin ((r1.1.1,())))
      (Tr.stop))
    (Tr.stop)

def f112 (d:Tys.data as112):Option (Tys.data rs112):=(t112 d.1 d.2.1).val
def g112 (d:Tys.data as112):Tys.data rs112:=(f112 d).getD (Tys.dflt rs112)
def p112:PureC:=pcOf as112 rs112 f112 g112

theorem e112_0 (x0:Int) (x1:(List Int)):runPure kl112_0.orc Go.Proofs.Try.prog 400 112 as112 rs112 (x0,x1,()) [tt,tt,tt] =
    (let r0:Int×PUnit:=g131 (x0,());let r1:(Int×PUnit)×PUnit:=b112_0 ((x1,(r0.1,((0:Int),()))),()); some ((r1.1.1,()),[(true,true),(isBrk (l112_0 ((x1,(r0.1,((0:Int),()))),())),true),(Option.isSome (f131 (x0,())),true)])):=by kernel_rfl

theorem ok112_t (x0:Int) (x1:(List Int)):TrOk (PureRuns Go.Proofs.Try.prog kl112_0.orc 112 as112 rs112 (x0,x1,())) (t112 x0 x1) :=
  TrOk.ofTest (fun h0=>TrOk.ofTest (fun h1=>TrOk.ofFin (PureRuns.of (e112_0 x0 x1) (ac rfl (ac h1 (ac h0 All.nil))))) (fun h1=>TrOk.ofStop)) (fun h0=>TrOk.ofStop)

theorem ok112:PureOk Go.Proofs.Try.prog 112 p112:=pureOk_of kl112_0_ok.base (T:=fun (d:Tys.data as112)=>t112 d.1 d.2.1) (by kernel_rfl) (fun (d:Tys.data as112)=>ok112_t d.1 d.2.1)
def kf112:Known:=kl112_0.func 112 p112
theorem kf112_ok:KnownOk Go.Proofs.Try.prog kf112:=kl112_0_ok.func ok112

/-! ductility/ductilitybase.RatioOf -/

abbrev as50:List Ty:=[(.int .i64),(.int .i64)]
abbrev rs50:List Ty:=[(.pair (.pair (.int .i64) (.pair (.slice (.int .i64)) .unit)) (.pair (.pair (.int .i64) (.pair (.slice (.int .i64)) .unit)) .unit))]

def t50 (x0:Int) (x1:Int):Tr (Tys.data rs50) :=
  Tr.test (Option.isSome (f113 (x0,())))
    (Tr.test (Option.isSome (f113 (x1,())))
      (let r0:(Int×List Int×PUnit)×PUnit:=g113 (x0,());
      let r1:(Int×List Int×PUnit)×PUnit:=g113 (x1,());
      Tr.test (Option.isSome (f115 ((r0.1.1,(r0.1.2.1,())),((r1.1.1,(r1.1.2.1,())),()))))
        (let r2:((Int×List Int×PUnit)×(Int×List Int×PUnit)×PUnit)×PUnit:=g115 ((r0.1.1,(r0.1.2.1,())),((r1.1.1,(r1.1.2.1,())),()));
        Tr.fin ((((r2.1.1.1,(r2.1.1.2.1,())),((r2.1.2.1.1,(r2.1.2.1.2.1,())),())),())))
        (Tr.stop))
      (Tr.stop))
    (Tr.stop)

def f50 (d:Tys.data as50):Option (Tys.data rs50):=(t50 d.1 d.2.1).val
def g50 (d:Tys.data as50):Tys.data rs50:=(f50 d).getD (Tys.dflt rs50)
def p50:PureC:=pcOf as50 rs50 f50 g50

theorem e50_0 (x0:Int) (x1:Int):runPure kf112.orc Go.Proofs.Try.prog 400 50 as50 rs50 (x0,x1,()) [tt,tt,tt] =
    (let r0:(Int×List Int×PUnit)×PUnit:=g113 (x0,());let r1:(Int×List Int×PUnit)×PUnit:=g113 (x1,());let r2:((Int×List Int×PUnit)×(Int×List Int×PUnit)×PUnit)×PUnit:=g115 ((r0.1.1,(r0.1.2.1,())),((r1.1.1,(r1.1.2.1,())),())); some ((((r2.1.1.1,(r2.1.1.2.1,())),((r2.1.2.1.1,(r2.1.2.1.2.1,())),())),()),[(Option.isSome (f115 ((r0.1.1,(r0.1.2.1,())),((r1.1.1,(r1.1.2.1,())),()))),true),(Option.isSome (f113 (x1,())),true),(Option.isSome (f113 (x0,())),true)])):=by kernel_rfl

theorem ok50_t (x0:Int) (x1:Int):TrOk (PureRuns Go.Proofs.Try.prog kf112.orc 50 as50 rs50 (x0,x1,())) (t50 x0 x1) :=
  TrOk.ofTest (fun h0=>TrOk.ofTest (fun h1=>TrOk.ofTest (fun h2=>TrOk.ofFin (PureRuns.of (e50_0 x0 x1) (ac h2 (ac h1 (ac h0 All.nil))))) (fun h2=>TrOk.ofStop)) (fun h1=>TrOk.ofStop)) (fun h0=>TrOk.ofStop)

theorem ok50:PureOk Go.Proofs.Try.prog 50 p50:=pureOk_of kf112_ok.base (T:=fun (d:Tys.data as50)=>t50 d.1 d.2.1) (by kernel_rfl) (fun (d:Tys.data as50)=>ok50_t d.1 d.2.1)
def kf50:Known:=kf112.func 50 p50
theorem kf50_ok:KnownOk Go.Proofs.Try.prog kf50:=kf112_ok.func ok50

/-! ductility/ductilitybase.RatioCmp -/

abbrev as55:List Ty:=[(.pair (.pair (.int .i64) (.pair (.slice (.int .i64)) .unit)) (.pair (.pair (.int .i64) (.pair (.slice (.int .i64)) .unit)) .unit)),(.pair (.pair (.int .i64) (.pair (.slice (.int .i64)) .unit)) (.pair (.pair (.int .i64) (.pair (.slice (.int .i64)) .unit)) .unit))]
abbrev rs55:List Ty:=[(.int .i64)]

def t55 (x0_:Int) (x0_':(List Int)) (x0'_:Int) (x0'_':(List Int)) (x1_:Int) (x1_':(List Int)) (x1'_:Int) (x1'_':(List Int)):Tr (Tys.data rs55) :=
  Tr.test (Option.isSome (f117 ((x0_,(x0_',())),((x1'_,(x1'_',())),()))))
    (Tr.test (Option.isSome (f117 ((x1_,(x1_',())),((x0'_,(x0'_',())),()))))
      (let r0:(Int×List Int×PUnit)×PUnit:=g117 ((x0_,(x0_',())),((x1'_,(x1'_',())),()));
      let r1:(Int×List Int×PUnit)×PUnit:=g117 ((x1_,(x1_',())),((x0'_,(x0'_',())),()));
      Tr.test (Option.isSome (f118 ((r0.1.1,(r0.1.2.1,())),((r1.1.1,(r1.1.2.1,())),()))))
        (let r2:Int×PUnit:=g118 ((r0.1.1,(r0.1.2.1,())),((r1.1.1,(r1.1.2.1,())),()));
        Tr.fin ((r2.1,())))
        (Tr.stop))
      (Tr.stop))
    (Tr.stop)

def f55 (d:Tys.data as55):Option (Tys.data rs55):=(t55 d.1.1.1 d.1.1.2.1 d.1.2.1.1 d.1.2.1.2.1 d.2.1.1.1 d.2.1.1.2.1 d.2.1.2.1.1 d.2.1.2.1.2.1).val
def g55 (d:Tys.data as55):Tys.data rs55:=(f55 d).getD (Tys.dflt rs55)
def p55:PureC:=pcOf as55 rs55 f55 g55

theorem e55_0 (x0_:Int) (x0_':(List Int)) (x0'_:Int) (x0'_':(List Int)) (x1_:Int) (x1_':(List Int)) (x1'_:Int) (x1'_':(List Int)):runPure kf50.orc Go.Proofs.Try.prog 400 55 as55 rs55 (((x0_,x0_',()),(x0'_,x0'_',()),()),((x1_,x1_',()),(x1'_,x1'_',()),()),()) [tt,tt,tt] =
    (let r0:(Int×List Int×PUnit)×PUnit:=g117 ((x0_,(x0_',())),((x1'_,(x1'_',())),()));let r1:(Int×List Int×PUnit)×PUnit:=g117 ((x1_,(x1_',())),((x0'_,(x0'_',())),()));let r2:Int×PUnit:=g118 ((r0.1.1,(r0.1.2.1,())),((r1.1.1,(r1.1.2.1,())),())); some ((r2.1,()),[(Option.isSome (f118 ((r0.1.1,(r0.1.2.1,())),((r1.1.1,(r1.1.2.1,())),()))),true),(Option.isSome (f117 ((x1_,(x1_',())),((x0'_,(x0'_',())),()))),true),(Option.isSome (f117 ((x0_,(x0_',())),((x1'_,(x1'_',())),()))),true)])):=by kernel_rfl

theorem ok55_t (x0_:Int) (x0_':(List Int)) (x0'_:Int) (x0'_':(List Int)) (x1_:Int) (x1_':(List Int)) (x1'_:Int) (x1'_':(List Int)):TrOk (PureRuns Go.Proofs.Try.prog kf50.orc 55 as55 rs55 (((x0_,x0_',()),(x0'_,x0'_',()),()),((x1_,x1_',()),(x1'_,x1'_',()),()),())) (t55 x0_ x0_' x0'_ x0'_' x1_ x1_' x1'_ x1'_') :=
  TrOk.ofTest (fun h0=>TrOk.ofTest (fun h1=>TrOk.ofTest (fun h2=>TrOk.ofFin (PureRuns.of (e55_0 x0_ x0_' x0'_ x0'_' x1_ x1_' x1'_ x1'_') (ac h2 (ac h1 (ac h0 All.nil))))) (fun h2=>TrOk.ofStop)) (fun h1=>TrOk.ofStop)) (fun h0=>TrOk.ofStop)

theorem ok55:PureOk Go.Proofs.Try.prog 55 p55:=pureOk_of kf50_ok.base (T:=fun (d:Tys.data as55)=>t55 d.1.1.1 d.1.1.2.1 d.1.2.1.1 d.1.2.1.2.1 d.2.1.1.1 d.2.1.1.2.1 d.2.1.2.1.1 d.2.1.2.1.2.1) (by kernel_rfl) (fun (d:Tys.data as55)=>ok55_t d.1.1.1 d.1.1.2.1 d.1.2.1.1 d.1.2.1.2.1 d.2.1.1.1 d.2.1.1.2.1 d.2.1.2.1.1 d.2.1.2.1.2.1)
def kf55:Known:=kf50.func 55 p55
theorem kf55_ok:KnownOk Go.Proofs.Try.prog kf55:=kf50_ok.func ok55

/-! loop 0 of ductility/ductilityref02.CheckRest -/

abbrev sh46_0:Sh:={ n:=118,slots:=[0,4,5,8],pats:=[.ty (.slice (.int .i64)),.ptr 0 2 0,.ptr 1 3 0,.ty (.int .i64)],boxes:=[.row [.ty (.int .i64),.ty (.slice (.int .i64))],.row [.ty (.int .i64),.ty (.int .i64),.ty (.int .i64)]] }
abbrev shb46_0:Sh:={ n:=118,slots:=[0,4,5],pats:=[.ty (.slice (.int .i64)),.ptr 0 2 0,.ptr 1 3 0],boxes:=[.row [.ty (.int .i64),.ty (.slice (.int .i64))],.row [.ty (.int .i64),.ty (.int .i64),.ty (.int .i64)]] }
abbrev shr46_0:Sh:={ n:=118,slots:=[6,7],pats:=[.ty (.int .i64),.ty (.int .i64)],boxes:=[.row [.ty (.int .i64),.ty (.slice (.int .i64))],.row [.ty (.int .i64),.ty (.int .i64),.ty (.int .i64)]] }

def t46_0 (x0:(List Int)) (x3:Int) (b0_0:Int) (b0_1:(List Int)) (b1_0:Int) (b1_1:Int) (b1_2:Int):Tr (Out sh46_0.data shb46_0.data shr46_0.data) :=
  Tr.test ((!leF (↑(List.length x0):Int) x3:Bool))
    (Tr.test (decide ((0:Int) ≤ x3) && decide (x3 < (↑(List.length b0_1):Int)))
      (Tr.test (Option.isSome (f111 ((List.getD b0_1 (Int.toNat x3) (0:Int):Int),())))
        (let r0:Bool×PUnit:=g111 ((List.getD b0_1 (Int.toNat x3) (0:Int):Int),());
        Tr.test ((!r0.1:Bool))
          (Tr.fin (.ret (((0:Int),((2:Int),())),((b0_0,(b0_1,())),((b1_0,(b1_1,(b1_2,()))),())))))
          (Tr.fin (.again ((x0,((wrap64 (x3 + (1:Int)):Int),())),((b0_0,(b0_1,())),((b1_0,(b1_1,(b1_2,()))),()))))))
        (Tr.stop))
      (Tr.stop))
    (Tr.fin (.brk ((x0,()),((b0_0,(b0_1,())),((b1_0,(b1_1,(b1_2,()))),())))))

def s46_0 (d:sh46_0.data):Option (Out sh46_0.data shb46_0.data shr46_0.data):=(t46_0 d.1.1 d.1.2.1 d.2.1.1 d.2.1.2.1 d.2.2.1.1 d.2.2.1.2.1 d.2.2.1.2.2.1).val
def l46_0 (d:sh46_0.data):Option (shb46_0.data ⊕ shr46_0.data):=itr s46_0 rounds d
def b46_0 (d:sh46_0.data):shb46_0.data:=outB shb46_0.dflt (l46_0 d)
def r46_0 (d:sh46_0.data):shr46_0.data:=outR shr46_0.dflt (l46_0 d)
def lc46_0:LoopC:=lcOf sh46_0 shb46_0 shr46_0 l46_0 b46_0 r46_0

theorem e46_0_0 (x0:(List Int)) (x3:Int) (b0_0:Int) (b0_1:(List Int)) (b1_0:Int) (b1_1:Int) (b1_2:Int):runBody kf55.orc Go.Proofs.Try.prog 400 46 0 sh46_0 shb46_0 shr46_0 ((x0,x3,()),(b0_0,b0_1,()),(b1_0,b1_1,b1_2,()),()) [tt,tt,tt,tt] =
    (let r0:Bool×PUnit:=g111 ((List.getD b0_1 (Int.toNat x3) (0:Int):Int),()); some (.ret (((0:Int),((2:Int),())),((b0_0,(b0_1,())),((b1_0,(b1_1,(b1_2,()))),()))),[(!r0.1,true),(Option.isSome (f111 ((List.getD b0_1 (Int.toNat x3) (0:Int):Int),())),true),(decide ((0:Int) ≤ x3) && decide (x3 < (↑(List.length b0_1):Int)),true),(!leF (↑(List.length x0):Int) x3,true)])):=by kernel_rfl
theorem e46_0_1 (x0:(List Int)) (x3:Int) (b0_0:Int) (b0_1:(List Int)) (b1_0:Int) (b1_1:Int) (b1_2:Int):runBody kf55.orc Go.Proofs.Try.prog 400 46 0 sh46_0 shb46_0 shr46_0 ((x0,x3,()),(b0_0,b0_1,()),(b1_0,b1_1,b1_2,()),()) [tt,tt,tt,ff] =
    (let r0:Bool×PUnit:=g111 ((List.getD b0_1 (Int.toNat x3) (0:Int):Int),()); some (.again ((x0,((wrap64 (x3 + (1:Int)):Int),())),((b0_0,(b0_1,())),((b1_0,(b1_1,(b1_2,()))),()))),[(!r0.1,false),(Option.isSome (f111 ((List.getD b0_1 (Int.toNat x3) (0:Int):Int),())),true),(decide ((0:Int) ≤ x3) && decide (x3 < (↑(List.length b0_1):Int)),true),(!leF (↑(List.length x0):Int) x3,true)])):=by kernel_rfl
theorem e46_0_3 (x0:(List Int)) (x3:Int) (b0_0:Int) (b0_1:(List Int)) (b1_0:Int) (b1_1:Int) (b1_2:Int):runBody kf55.orc Go.Proofs.Try.prog 400 46 0 sh46_0 shb46_0 shr46_0 ((x0,x3,()),(b0_0,b0_1,()),(b1_0,b1_1,b1_2,()),()) [ff] =
    (some (.brk ((x0,()),((b0_0,(b0_1,())),((b1_0,(b1_1,(b1_2,()))),()))),[(!leF (↑(List.length x0):Int) x3,false)])):=by kernel_rfl

theorem ok46_0_t (x0:(List Int)) (x3:Int) (b0_0:Int) (b0_1:(List Int)) (b1_0:Int) (b1_1:Int) (b1_2:Int):TrOk (BodyRuns Go.Proofs.Try.prog kf55.orc 46 0 sh46_0 shb46_0 shr46_0 ((x0,x3,()),(b0_0,b0_1,()),(b1_0,b1_1,b1_2,()),())) (t46_0 x0 x3 b0_0 b0_1 b1_0 b1_1 b1_2) :=
  TrOk.ofTest (fun h0=>TrOk.ofTest (fun h1=>TrOk.ofTest (fun h2=>TrOk.ofTest (fun h3=>TrOk.ofFin (BodyRuns.of (e46_0_0 x0 x3 b0_0 b0_1 b1_0 b1_1 b1_2) (ac h3 (ac h2 (ac h1 (ac h0 All.nil)))))) (fun h3=>TrOk.ofFin (BodyRuns.of (e46_0_1 x0 x3 b0_0 b0_1 b1_0 b1_1 b1_2) (ac h3 (ac h2 (ac h1 (ac h0 All.nil))))))) (fun h2=>TrOk.ofStop)) (fun h1=>TrOk.ofStop)) (fun h0=>TrOk.ofFin (BodyRuns.of (e46_0_3 x0 x3 b0_0 b0_1 b1_0 b1_1 b1_2) (ac h0 All.nil)))

theorem ok46_0:LoopOk Go.Proofs.Try.prog 46 0 lc46_0:=loopOk_of kf55_ok.base (T:=fun (d:sh46_0.data)=>t46_0 d.1.1 d.1.2.1 d.2.1.1 d.2.1.2.1 d.2.2.1.1 d.2.2.1.2.1 d.2.2.1.2.2.1) (by kernel_rfl) rfl (fun (d:sh46_0.data)=>ok46_0_t d.1.1 d.1.2.1 d.2.1.1 d.2.1.2.1 d.2.2.1.1 d.2.2.1.2.1 d.2.2.1.2.2.1) (fun _=>rfl)
def kl46_0:Known:=kf55.loop 46 0 lc46_0
theorem kl46_0_ok:KnownOk Go.Proofs.Try.prog kl46_0:=kf55_ok.loop ok46_0

/-! loop 2 of ductility/ductilityref02.CheckRest -/

abbrev sh46_2:Sh:={ n:=118,slots:=[0,4,5,10],pats:=[.ty (.slice (.int .i64)),.ptr 0 2 0,.ptr 1 3 0,.ty (.int .i64)],boxes:=[.row [.ty (.int .i64),.ty (.slice (.int .i64))],.row [.ty (.int .i64),.ty (.int .i64),.ty (.int .i64)]] }
abbrev shb46_2:Sh:={ n:=118,slots:=[],pats:=[],boxes:=[.row [.ty (.int .i64),.ty (.slice (.int .i64))],.row [.ty (.int .i64),.ty (.int .i64),.ty (.int .i64)]] }
abbrev shr46_2:Sh:={ n:=118,slots:=[6,7],pats:=[.ty (.int .i64),.ty (.int .i64)],boxes:=[.row [.ty (.int .i64),.ty (.slice (.int .i64))],.row [.ty (.int .i64),.ty (.int .i64),.ty (.int .i64)]] }

def t46_2 (x0:(List Int)) (x3:Int) (b0_0:Int) (b0_1:(List Int)) (b1_0:Int) (b1_1:Int) (b1_2:Int):Tr (Out sh46_2.data shb46_2.data shr46_2.data) :=
  Tr.test ((!leF (↑(List.length x0):Int) x3:Bool))
    (Tr.test (decide ((0:Int) ≤ x3) && decide (x3 < (↑(List.length b0_1):Int)))
      (Tr.test (Option.isSome (f50 ((List.getD b0_1 (Int.toNat x3) (0:Int):Int),(b0_0,()))))
        (Tr.test ((decide ((0:Int) ≤ x3) && decide (x3 < (↑(List.length x0):Int)):Bool))
          (Tr.test (Option.isSome (f48 ((List.getD x0 (Int.toNat x3) (0:Int):Int),())))
            (let r0:((Int×List Int×PUnit)×(Int×List Int×PUnit)×PUnit)×PUnit:=g50 ((List.getD b0_1 (Int.toNat x3) (0:Int):Int),(b0_0,()));
            let r1:((Int×List Int×PUnit)×(Int×List Int×PUnit)×PUnit)×PUnit:=g48 ((List.getD x0 (Int.toNat x3) (0:Int):Int),());
            Tr.test (Option.isSome (f49 (((r0.1.1.1,(r0.1.1.2.1,())),((r0.1.2.1.1,(r0.1.2.1.2.1,())),())),(((r1.1.1.1,(r1.1.1.2.1,())),((r1.1.2.1.1,(r1.1.2.1.2.1,())),())),()))))
              (Tr.test (Option.isSome (f50 (b1_1,(b1_0,()))))
                (Tr.test (Option.isSome (f50 (b1_2,(b1_0,()))))
                  (Tr.test (Option.isSome (f48 ((wrap64 ((↑(List.length x0):Int) - x3):Int),())))
                    (let r4:((Int×List Int×PUnit)×(Int×List Int×PUnit)×PUnit)×PUnit:=g50 (b1_2,(b1_0,()));
                    let r5:((Int×List Int×PUnit)×(Int×List Int×PUnit)×PUnit)×PUnit:=g48 ((wrap64 ((↑(List.length x0):Int) - x3):Int),());
                    Tr.test (Option.isSome (f52 (((r4.1.1.1,(r4.1.1.2.1,())),((r4.1.2.1.1,(r4.1.2.1.2.1,())),())),(((r5.1.1.1,(r5.1.1.2.1,())),((r5.1.2.1.1,(r5.1.2.1.2.1,())),())),()))))
                      (let r3:((Int×List Int×PUnit)×(Int×List Int×PUnit)×PUnit)×PUnit:=g50 (b1_1,(b1_0,()));
                      let r6:((Int×List Int×PUnit)×(Int×List Int×PUnit)×PUnit)×PUnit:=g52 (((r4.1.1.1,(r4.1.1.2.1,())),((r4.1.2.1.1,(r4.1.2.1.2.1,())),())),(((r5.1.1.1,(r5.1.1.2.1,())),((r5.1.2.1.1,(r5.1.2.1.2.1,())),())),()));
                      Tr.test (Option.isSome (f51 (((r3.1.1.1,(r3.1.1.2.1,())),((r3.1.2.1.1,(r3.1.2.1.2.1,())),())),(((r6.1.1.1,(r6.1.1.2.1,())),((r6.1.2.1.1,(r6.1.2.1.2.1,())),())),()))))
                        (let r2:((Int×List Int×PUnit)×(Int×List Int×PUnit)×PUnit)×PUnit:=g49 (((r0.1.1.1,(r0.1.1.2.1,())),((r0.1.2.1.1,(r0.1.2.1.2.1,())),())),(((r1.1.1.1,(r1.1.1.2.1,())),((r1.1.2.1.1,(r1.1.2.1.2.1,())),())),()));
                        let r7:((Int×List Int×PUnit)×(Int×List Int×PUnit)×PUnit)×PUnit:=g51 (((r3.1.1.1,(r3.1.1.2.1,())),((r3.1.2.1.1,(r3.1.2.1.2.1,())),())),(((r6.1.1.1,(r6.1.1.2.1,())),((r6.1.2.1.1,(r6.1.2.1.2.1,())),())),()));
                        Tr.test (Option.isSome (f55 (((r2.1.1.1,(r2.1.1.2.1,())),((r2.1.2.1.1,(r2.1.2.1.2.1,())),())),(((r7.1.1.1,(r7.1.1.2.1,())),((r7.1.2.1.1,(r7.1.2.1.2.1,())),())),()))))
                          (let r8:Int×PUnit:=g55 (((r2.1.1.1,(r2.1.1.2.1,())),((r2.1.2.1.1,(r2.1.2.1.2.1,())),())),(((r7.1.1.1,(r7.1.1.2.1,())),((r7.1.2.1.1,(r7.1.2.1.2.1,())),())),()));
                          Tr.test ((!eqF r8.1 0:Bool))
                            (Tr.fin (.ret ((x3,((19:Int),())),((b0_0,(b0_1,())),((b1_0,(b1_1,(b1_2,()))),())))))
                            (Tr.fin (.again ((x0,((wrap64 (x3 + (1:Int)):Int),())),((b0_0,(b0_1,())),((b1_0,(b1_1,(b1_2,()))),()))))))
                          (Tr.stop))
                        (Tr.stop))
                      (Tr.stop))
                    (Tr.stop))
                  (Tr.stop))
                (Tr.stop))
              (Tr.stop))
            (Tr.stop))
          (Tr.stop))
        (Tr.stop))
      (Tr.stop))
    (Tr.fin (.brk ((),((b0_0,(b0_1,())),((b1_0,(b1_1,(b1_2,()))),())))))

def s46_2 (d:sh46_2.data):Option (Out sh46_2.data shb46_2.data shr46_2.data):=(t46_2 d.1.1 d.1.2.1 d.2.1.1 d.2.1.2.1 d.2.2.1.1 d.2.2.1.2.1 d.2.2.1.2.2.1).val
def l46_2 (d:sh46_2.data):Option (shb46_2.data ⊕ shr46_2.data):=itr s46_2 rounds d
def b46_2 (d:sh46_2.data):shb46_2.data:=outB shb46_2.dflt (l46_2 d)
def r46_2 (d:sh46_2.data):shr46_2.data:=outR shr46_2.dflt (l46_2 d)
def lc46_2:LoopC:=lcOf sh46_2 shb46_2 shr46_2 l46_2 b46_2 r46_2

theorem e46_2_0 (x0:(List Int)) (x3:Int) (b0_0:Int) (b0_1:(List Int)) (b1_0:Int) (b1_1:Int) (b1_2:Int):runBody kl46_0.orc Go.Proofs.Try.prog 400 46 2 sh46_2 shb46_2 shr46_2 ((x0,x3,()),(b0_0,b0_1,()),(b1_0,b1_1,b1_2,()),()) [tt,tt,tt,tt,tt,tt,tt,tt,tt,tt,tt,tt,tt] =
    (let r0:((Int×List Int×PUnit)×(Int×List Int×PUnit)×PUnit)×PUnit:=g50 ((List.getD b0_1 (Int.toNat x3) (0:Int):Int),(b0_0,()));let r1:((Int×List Int×PUnit)×(Int×List Int×PUnit)×PUnit)×PUnit:=g48 ((List.getD x0 (Int.toNat x3) (0:Int):Int),());let r4:((Int×List Int×PUnit)×(Int×List Int×PUnit)×PUnit)×PUnit:=g50 (b1_2,(b1_0,()));let r5:((Int×List Int×PUnit)×(Int×List Int×PUnit)×PUnit)×PUnit:=g48 ((wrap64 ((↑(List.length x0):Int) - x3):Int),());let r3:((Int×List Int×PUnit)×(Int×List Int×PUnit)×PUnit)×PUnit:=g50 (b1_1,(b1_0,()));let r6:((Int×List Int×PUnit)×(Int×List Int×PUnit)×PUnit)×PUnit:=g52 (((r4.1.1.1,(r4.1.1.2.1,())),((r4.1.2.1.1,(r4.1.2.1.2.1,())),())),(((r5.1.1.1,(r5.1.1.2.1,())),((r5.1.2.1.1,(r5.1.2.1.2.1,())),())),()));let r2:((Int×List Int×PUnit)×(Int×List Int×PUnit)×PUnit)×PUnit:=g49 (((r0.1.1.1,(r0.1.1.2.1,())),((r0.1.2.1.1,(r0.1.2.1.2.1,())),())),(((r1.1.1.1,(r1.1.1.2.1,())),((r1.1.2.1.1,(r1.1.2.1.2.1,())),())),()));let r7:((Int×List Int×PUnit)×(Int×List Int×PUnit)×PUnit)×PUnit:=g51 (((r3.1.1.1,(r3.1.1.2.1,())),((r3.1.2.1.1,(r3.1.2.1.2.1,())),())),(((r6.1.1.1,(r6.1.1.2.1,())),((r6.1.2.1.1,(r6.1.2.1.2.1,())),())),()));let r8:Int×PUnit:=g55 (((r2.1.1.1,(r2.1.1.2.1,())),((r2.1.2.1.1,(r2.1.2.1.2.1,())),())),(((r7.1.1.1,(r7.1.1.2.1,())),((r7.1.2.1.1,(r7.1.2.1.2.1,())),())),())); some (.ret ((x3,((19:Int),())),((b0_0,(b0_1,())),((b1_0,(b1_1,(b1_2,()))),()))),[(!eqF r8.1 0,true),(Option.isSome (f55 (((r2.1.1.1,(r2.1.1.2.1,())),((r2.1.2.1.1,(r2.1.2.1.2.1,())),())),(((r7.1.1.1,(r7.1.1.2.1,())),((r7.1.2.1.1,(r7.1.2.1.2.1,())),())),()))),true),(Option.isSome (f51 (((r3.1.1.1,(r3.1.1.2.1,())),((r3.1.2.1.1,(r3.1.2.1.2.1,())),())),(((r6.1.1.1,(r6.1.1.2.1,())),((r6.1.2.1.1,(r6.1.2.1.2.1,())),())),()))),true),(Option.isSome (f52 (((r4.1.1.1,(r4.1.1.2.1,())),((r4.1.2.1.1,(r4.1.2.1.2.1,())),())),(((r5.1.1.1,(r5.1.1.2.1,())),((r5.1.2.1.1,(r5.1.2.1.2.1,())),())),()))),true),(Option.isSome (f48 ((wrap64 ((↑(List.length x0):Int) - x3):Int),())),true),(Option.isSome (f50 (b1_2,(b1_0,()))),true),(Option.isSome (f50 (b1_1,(b1_0,()))),true),(Option.isSome (f49 (((r0.1.1.1,(r0.1.1.2.1,())),((r0.1.2.1.1,(r0.1.2.1.2.1,())),())),(((r1.1.1.1,(r1.1.1.2.1,())),((r1.1.2.1.1,(r1.1.2.1.2.1,())),())),()))),true),(Option.isSome (f48 ((List.getD x0 (Int.toNat x3) (0:Int):Int),())),true),(decide ((0:Int) ≤ x3) && decide (x3 < (↑(List.length x0):Int)),true),(Option.isSome (f50 ((List.getD b0_1 (Int.toNat x3) (0:Int):Int),(b0_0,()))),true),(decide ((0:Int) ≤ x3) && decide (x3 < (↑(List.length b0_1):Int)),true),(!leF (↑(List.length x0):Int) x3,true)])):=by kernel_rfl
theorem e46_2_1 (x0:(List Int)) (x3:Int) (b0_0:Int) (b0_1:(List Int)) (b1_0:Int) (b1_1:Int) (b1_2:Int):runBody kl46_0.orc Go.Proofs.Try.prog 400 46 2 sh46_2 shb46_2 shr46_2 ((x0,x3,()),(b0_0,b0_1,()),(b1_0,b1_1,b1_2,()),()) [tt,tt,tt,tt,tt,tt,tt,tt,tt,tt,tt,tt,ff] =
    (let r0:((Int×List Int×PUnit)×(Int×List Int×PUnit)×PUnit)×PUnit:=g50 ((List.getD b0_1 (Int.toNat x3) (0:Int):Int),(b0_0,()));let r1:((Int×List Int×PUnit)×(Int×List Int×PUnit)×PUnit)×PUnit:=g48 ((List.getD x0 (Int.toNat x3) (0:Int):Int),());let r4:((Int×List Int×PUnit)×(Int×List Int×PUnit)×PUnit)×PUnit:=g50 (b1_2,(b1_0,()));let r5:((Int×List Int×PUnit)×(Int×List Int×PUnit)×PUnit)×PUnit:=g48 ((wrap64 ((↑(List.length x0):Int) - x3):Int),());let r3:((Int×List Int×PUnit)×(Int×List Int×PUnit)×PUnit)×PUnit:=g50 (b1_1,(b1_0,()));let r6:((Int×List Int×PUnit)×(Int×List Int×PUnit)×PUnit)×PUnit:=g52 (((r4.1.1.1,(r4.1.1.2.1,())),((r4.1.2.1.1,(r4.1.2.1.2.1,())),())),(((r5.1.1.1,(r5.1.1.2.1,())),((r5.1.2.1.1,(r5.1.2.1.2.1,())),())),()));let r2:((Int×List Int×PUnit)×(Int×List Int×PUnit)×PUnit)×PUnit:=g49 (((r0.1.1.1,(r0.1.1.2.1,())),((r0.1.2.1.1,(r0.1.2.1.2.1,())),())),(((r1.1.1.1,(r1.1.1.2.1,())),((r1.1.2.1.1,(r1.1.2.1.2.1,())),())),()));let r7:((Int×List Int×PUnit)×(Int×List Int×PUnit)×PUnit)×PUnit:=g51 (((r3.1.1.1,(r3.1.1.2.1,())),((r3.1.2.1.1,(r3.1.2.1.2.1,())),())),(((r6.1.1.1,(r6.1.1.2.1,())),((r6.1.2.1.1,(r6.1.2.1.2.1,())),())),()));let r8:Int×PUnit:=g55 (((r2.1.1.1,(r2.1.1.2.1,())),((r2.1.2.1.1,(r2.1.2.1.2.1,())),())),(((r7.1.1.1,(r7.1.1.2.1,())),((r7.1.2.1.1,(r7.1.2.1.2.1,())),())),())); some (.again ((x0,((wrap64 (x3 + (1:Int)):Int),())),((b0_0,(b0_1,())),((b1_0,(b1_1,(b1_2,()))),()))),[(!eqF r8.1 0,false),(Option.isSome (f55 (((r2.1.1.1,(r2.1.1.2.1,())),((r2.1.2.1.1,(r2.1.2.1.2.1,())),())),(((r7.1.1.1,(r7.1.1.2.1,())),((r7.1.2.1.1,(r7.1.2.1.2.1,())),())),()))),true),(Option.isSome (f51 (((r3.1.1.1,(r3.1.1.2.1,())),((r3.1.2.1.1,(r3.1.2.1.2.1,())),())),(((r6.1.1.1,(r6.1.1.2.1,())),((r6.1.2.1.1,(r6.1.2.1.2.1,())),())),()))),true),(Option.isSome (f52 (((r4.1.1.1,(r4.1.1.2.1,())),((r4.1.2.1.1,(r4.1.2.1.2.1,())),())),(((r5.1.1.1,(r5.1.1.2.1,())),((r5.1.2.1.1,(r5.1.2.1.2.1,())),())),()))),true),(Option.isSome (f48 ((wrap64 ((↑(List.length x0):Int) - x3):Int),())),true),(Option.isSome (f50 (b1_2,(b1_0,()))),true),(Option.isSome (f50 (b1_1,(b1_0,()))),true),(Option.isSome (f49 (((r0.1.1.1,(r0.1.1.2.1,())),((r0.1.2.1.1,(r0.1.2.1.2.1,())),())),(((r1.1.1.1,(r1.1.1.2.1,())),((r1.1.2.1.1,(r1.1.2.1.2.1,())),())),()))),true),(Option.isSome (f48 ((List.getD x0 (Int.toNat x3) (0:Int):Int),())),true),(decide ((0:Int) ≤ x3) && decide (x3 < (↑(List.length x0):Int)),true),(Option.isSome (f50 ((List.getD b0_1 (Int.toNat x3) (0:Int):Int),(b0_0,()))),true),(decide ((0:Int) ≤ x3) && decide (x3 < (↑(List.length b0_1):Int)),true),(!leF (↑(List.length x0):Int) x3,true)])):=by kernel_rfl
theorem e46_2_4 (x0:(List Int)) (x3:Int) (b0_0:Int) (b0_1:(List Int)) (b1_0:Int) (b1_1:Int) (b1_2:Int):runBody kl46_0.orc Go.Proofs.Try.prog 400 46 2 sh46_2 shb46_2 shr46_2 ((x0,x3,()),(b0_0,b0_1,()),(b1_0,b1_1,b1_2,()),()) [ff] =
    (some (.brk ((),((b0_0,(b0_1,())),((b1_0,(b1_1,(b1_2,()))),()))),[(!leF (↑(List.length x0):Int) x3,false)])):=by kernel_rfl

theorem ok46_2_t (x0:(List Int)) (x3:Int) (b0_0:Int) (b0_1:(List Int)) (b1_0:Int) (b1_1:Int) (b1_2:Int):TrOk (BodyRuns Go.Proofs.Try.prog kl46_0.orc 46 2 sh46_2 shb46_2 shr46_2 ((x0,x3,()),(b0_0,b0_1,()),(b1_0,b1_1,b1_2,()),())) (t46_2 x0 x3 b0_0 b0_1 b1_0 b1_1 b1_2) :=
  TrOk.ofTest (fun h0=>TrOk.ofTest (fun h1=>TrOk.ofTest (fun h2=>TrOk.ofTest (fun h3=>TrOk.ofTest (fun h4=>TrOk.ofTest (fun h5=>TrOk.ofTest (fun h6=>TrOk.ofTest (fun h7=>TrOk.ofTest (fun h8=>TrOk.ofTest (fun h9=>TrOk.ofTest (fun h10=>TrOk.ofTest (fun h11=>TrOk.ofTest (fun h12=>TrOk.ofFin (BodyRuns.of (e46_2_0 x0 x3 b0_0 b0_1 b1_0 b1_1 b1_2) (ac h12 (ac h11 (ac h10 (ac h9 (ac h8 (ac h7 (ac h6 (ac h5 (ac h4 (ac h3 (ac h2 (ac h1 (ac h0 All.nil))))))))))))))) (fun h12=>TrOk.ofFin (BodyRuns.of (e46_2_1 x0 x3 b0_0 b0_1 b1_0 b1_1 b1_2) (ac h12 (ac h11 (ac h10 (ac h9 (ac h8 (ac h7 (ac h6 (ac h5 (ac h4 (ac h3 (ac h2 (ac h1 (ac h0 All.nil)))))))))))))))) (fun h11=>TrOk.ofStop)) (fun h10=>TrOk.ofStop)) (fun h9=>TrOk.ofStop)) (fun h8=>TrOk.ofStop)) (fun h7=>TrOk.ofStop)) (fun h6=>TrOk.ofStop)) (fun h5=>TrOk.ofStop)) (fun h4=>TrOk.ofStop)) (fun h3=>TrOk.ofStop)) (fun h2=>TrOk.ofStop)) (fun h1=>TrOk.ofStop)) (fun h0=>TrOk.ofFin (BodyRuns.of (e46_2_4 x0 x3 b0_0 b0_1 b1_0 b1_1 b1_2) (ac h0 All.nil)))

theorem ok46_2:LoopOk Go.Proofs.Try.prog 46 2 lc46_2:=loopOk_of kl46_0_ok.base (T:=fun (d:sh46_2.data)=>t46_2 d.1.1 d.1.2.1 d.2.1.1 d.2.1.2.1 d.2.2.1.1 d.2.2.1.2.1 d.2.2.1.2.2.1) (by kernel_rfl) rfl (fun (d:sh46_2.data)=>ok46_2_t d.1.1 d.1.2.1 d.2.1.1 d.2.1.2.1 d.2.2.1.1 d.2.2.1.2.1 d.2.2.1.2.2.1) (fun _=>rfl)
def kl46_2:Known:=kl46_0.loop 46 2 lc46_2
theorem kl46_2_ok:KnownOk Go.Proofs.Try.prog kl46_2:=kl46_0_ok.loop ok46_2

/-! ductility/ductilityref02.CheckRest -/

abbrev as46:List Ty:=[(.slice (.int .i64)),(.pair (.int .i64) (.pair (.slice (.int .i64)) .unit)),(.pair (.int .i64) (.pair (.int .i64) (.pair (.int .i64) .unit)))]
abbrev rs46:List Ty:=[(.int .i64),(.int .i64)]

def t46 (x0:(List Int)) (x1:Int) (x1':(List Int)) (x2:Int) (x2':Int) (x2'':Int):Tr (Tys.data rs46) :=
  Tr.test (Option.isSome (f47 (x1,((1:Int),((1000000000:Int),())))))
    (let r0:Bool×PUnit:=g47 (x1,((1:Int),((1000000000:Int),())));
    Tr.test ((!r0.1:Bool))
      (Tr.fin (((0:Int),((2:Int),()))))
      (Tr.test ((!eqF (↑(List.length x1'):Int) (↑(List.length x0):Int):Bool))
        (Tr.fin (((0:Int),((10:Int),()))))
        (Tr.test (Option.isSome (l46_0 ((x0,((0:Int),())),((x1,(x1',())),((x2,(x2',(x2'',()))),())))))
          (Tr.test (isRet (l46_0 ((x0,((0:Int),())),((x1,(x1',())),((x2,(x2',(x2'',()))),())))))
            (let r1:(Int×Int×PUnit)×(Int×List Int×PUnit)×(Int×Int×Int×PUnit)×PUnit:=r46_0 ((x0,((0:Int),())),((x1,(x1',())),((x2,(x2',(x2'',()))),())));
            Tr.fin ((r1.1.1,(r1.1.2.1,()))))
            (let r2:(List Int×PUnit)×(Int×List Int×PUnit)×(Int×Int×Int×PUnit)×PUnit:=b46_0 ((x0,((0:Int),())),((x1,(x1',())),((x2,(x2',(x2'',()))),())));
            Tr.test (Option.isSome (f112 (r2.2.1.1,(r2.2.1.2.1,()))))
              (let r3:Int×PUnit:=g112 (r2.2.1.1,(r2.2.1.2.1,()));
              Tr.test ((!eqF r3.1 1:Bool))
                (Tr.fin (((0:Int),((3:Int),()))))
                (Tr.test (Option.isSome (f47 (r2.2.2.1.1,((1:Int),((1000000000:Int),())))))
                  (let r4:Bool×PUnit:=g47 (r2.2.2.1.1,((1:Int),((1000000000:Int),())));
                  Tr.test ((!r4.1:Bool))
                    (Tr.fin (((0:Int),((2:Int),()))))
                    (Tr.test (Option.isSome (f111 (r2.2.2.1.2.1,())))
                      (let r5:Bool×PUnit:=g111 (r2.2.2.1.2.1,());
                      Tr.test ((!r5.1:Bool))
                        (Tr.fin (((0:Int),((2:Int),()))))
                        (Tr.test (Option.isSome (f111 (r2.2.2.1.2.2.1,())))
                          (let r6:Bool×PUnit:=g111 (r2.2.2.1.2.2.1,());
                          Tr.test ((!r6.1:Bool))
                            (Tr.fin (((0:Int),((2:Int),()))))
                            (Tr.test (Option.isSome (f112 (r2.2.2.1.1,(([r2.2.2.1.2.1,r2.2.2.1.2.2.1]:List Int),()))))
                              (let r7:Int×PUnit:=g112 (r2.2.2.1.1,(([r2.2.2.1.2.1,r2.2.2.1.2.2.1]:List Int),()));
                              Tr.test ((!eqF r7.1 1:Bool))
                                (Tr.fin (((0:Int),((3:Int),()))))
                                (Tr.test (Option.isSome (f26 (r2.2.1.2.1,())))
                                  (let r8:(Int×Int×PUnit)×PUnit:=g26 (r2.2.1.2.1,());
                                  Tr.test ((!eqF r8.1.1 0:Bool))
                                    (Tr.fin (((0:Int),((21:Int),()))))
                                    (Tr.test ((!eqF r8.1.2.1 0:Bool))
                                      (Tr.fin (((1:Int),((21:Int),()))))
                                      (Tr.test (Option.isSome (l46_2 ((r2.1.1,((0:Int),())),((r2.2.1.1,(r2.2.1.2.1,())),((r2.2.2.1.1,(r2.2.2.1.2.1,(r2.2.2.1.2.2.1,()))),())))))
                                        (Tr.test (isRet (l46_2 ((r2.1.1,((0:Int),())),((r2.2.1.1,(r2.2.1.2.1,())),((r2.2.2.1.1,(r2.2.2.1.2.1,(r2.2.2.1.2.2.1,()))),())))))
                                          (let r9:(Int×Int×PUnit)×(Int×List Int×PUnit)×(Int×Int×Int×PUnit)×PUnit:=r46_2 ((r2.1.1,((0:Int),())),((r2.2.1.1,(r2.2.1.2.1,())),((r2.2.2.1.1,(r2.2.2.1.2.1,(r2.2.2.1.2.2.1,()))),())));
                                          Tr.fin ((r9.1.1,(r9.1.2.1,()))))
                                          (Tr.fin (((0:Int),((0:Int),())))))
                                        (Tr.stop))))
                                  (Tr.stop)))
                              (Tr.stop)))
                          (Tr.stop)))
                      (Tr.stop)))
                  (Tr.stop)))
              (Tr.stop)))
          (Tr.stop))))
    (Tr.stop)

def f46 (d:Tys.data as46):Option (Tys.data rs46):=(t46 d.1 d.2.1.1 d.2.1.2.1 d.2.2.1.1 d.2.2.1.2.1 d.2.2.1.2.2.1).val
def g46 (d:Tys.data as46):Tys.data rs46:=(f46 d).getD (Tys.dflt rs46)
def p46:PureC:=pcOf as46 rs46 f46 g46

theorem e46_0 (x0:(List Int)) (x1:Int) (x1':(List Int)) (x2:Int) (x2':Int) (x2'':Int):runPure kl46_2.orc Go.Proofs.Try.prog 400 46 as46 rs46 (x0,(x1,x1',()),(x2,x2',x2'',()),()) [tt,tt] =
    (let r0:Bool×PUnit:=g47 (x1,((1:Int),((1000000000:Int),()))); some (((0:Int),((2:Int),())),[(!r0.1,true),(Option.isSome (f47 (x1,((1:Int),((1000000000:Int),())))),true)])):=by kernel_rfl
theorem e46_1 (x0:(List Int)) (x1:Int) (x1':(List Int)) (x2:Int) (x2':Int) (x2'':Int):runPure kl46_2.orc Go.Proofs.Try.prog 400 46 as46 rs46 (x0,(x1,x1',()),(x2,x2',x2'',()),()) [tt,ff,tt] =
    (let r0:Bool×PUnit:=g47 (x1,((1:Int),((1000000000:Int),()))); some (((0:Int),((10:Int),())),[(!eqF (↑(List.length x1'):Int) (↑(List.length x0):Int),true),(!r0.1,false),(Option.isSome (f47 (x1,((1:Int),((1000000000:Int),())))),true)])):=by kernel_rfl
theorem e46_2 (x0:(List Int)) (x1:Int) (x1':(List Int)) (x2:Int) (x2':Int) (x2'':Int):runPure kl46_2.orc Go.Proofs.Try.prog 400 46 as46 rs46 (x0,(x1,x1',()),(x2,x2',x2'',()),()) [tt,ff,ff,tt,tt] =
    (let r0:Bool×PUnit:=g47 (x1,((1:Int),((1000000000:Int),())));let r1:(Int×Int×PUnit)×(Int×List Int×PUnit)×(Int×Int×Int×PUnit)×PUnit:=r46_0 ((x0,((0:Int),())),((x1,(x1',())),((x2,(x2',(x2'',()))),()))); some ((r1.1.1,(r1.1.2.1,())),[(isRet (l46_0 ((x0,((0:Int),())),((x1,(x1',())),((x2,(x2',(x2'',()))),())))),true),(Option.isSome (l46_0 ((x0,((0:Int),())),((x1,(x1',())),((x2,(x2',(x2'',()))),())))),true),(!eqF (↑(List.length x1'):Int) (↑(List.length x0):Int),false),(!r0.1,false),(Option.isSome (f47 (x1,((1:Int),((1000000000:Int),())))),true)])):=by kernel_rfl
theorem e46_3 (x0:(List Int)) (x1:Int) (x1':(List Int)) (x2:Int) (x2':Int) (x2'':Int):runPure kl46_2.orc Go.Proofs.Try.prog 400 46 as46 rs46 (x0,(x1,x1',()),(x2,x2',x2'',()),()) [tt,ff,ff,tt,ff,tt,tt] =
    (let r0:Bool×PUnit:=g47 (x1,((1:Int),((1000000000:Int),())));let r2:(List Int×PUnit)×(Int×List Int×PUnit)×(Int×Int×Int×PUnit)×PUnit:=b46_0 ((x0,((0:Int),())),((x1,(x1',())),((x2,(x2',(x2'',()))),())));let r3:Int×PUnit:=g112 (r2.2.1.1,(r2.2.1.2.1,())); some (((0:Int),((3:Int),())),[(!eqF r3.1 1,true),(Option.isSome (f112 (r2.2.1.1,(r2.2.1.2.1,()))),true),(isRet (l46_0 ((x0,((0:Int),())),((x1,(x1',())),((x2,(x2',(x2'',()))),())))),false),(Option.isSome (l46_0 ((x0,((0:Int),())),((x1,(x1',())),((x2,(x2',(x2'',()))),())))),true),(!eqF (↑(List.length x1'):Int) (↑(List.length x0):Int),false),(!r0.1,false),(Option.isSome (f47 (x1,((1:Int),((1000000000:Int),())))),true)])):=by kernel_rfl
theorem e46_4 (x0:(List Int)) (x1:Int) (x1':(List Int)) (x2:Int) (x2':Int) (x2'':Int):runPure kl46_2.orc Go.Proofs.Try.prog 400 46 as46 rs46 (x0,(x1,x1',()),(x2,x2',x2'',()),()) [tt,ff,ff,tt,ff,tt,ff,tt,tt,tt,tt,tt,tt,tt,tt,tt,tt,tt,tt] =
    (let r0:Bool×PUnit:=g47 (x1,((1:Int),((1000000000:Int),())));let r2:(List Int×PUnit)×(Int×List Int×PUnit)×(Int×Int×Int×PUnit)×PUnit:=b46_0 ((x0,((0:Int),())),((x1,(x1',())),((x2,(x2',(x2'',()))),())));let r3:Int×PUnit:=g112 (r2.2.1.1,(r2.2.1.2.1,()));let r4:Bool×PUnit:=g47 (r2.2.2.1.1,((1:Int),((1000000000:Int),()))); some (((0:Int),((2:Int),())),[(true,true),(true,true),(true,true),(true,true),(true,true),(true,true),(!r4.1,true),(!r4.1,true),(!r4.1,true),(!r4.1,true),(!r4.1,true),(Option.isSome (f47 (r2.2.2.1.1,((1:Int),((1000000000:Int),())))),true),(!eqF r3.1 1,false),(Option.isSome (f112 (r2.2.1.1,(r2.2.1.2.1,()))),true),(isRet (l46_0 ((x0,((0:Int),())),((x1,(x1',())),((x2,(x2',(x2'',()))),())))),false),(Option.isSome (l46_0 ((x0,((0:Int),())),((x1,(x1',())),((x2,(x2',(x2'',()))),())))),true),(!eqF (↑(List.length x1'):Int) (↑(List.length x0):Int),false),(!r0.1,false),(Option.isSome (f47 (x1,((1:Int),((1000000000:Int),())))),true)])):=by kernel_rfl
theorem e46_5 (x0:(List Int)) (x1:Int) (x1':(List Int)) (x2:Int) (x2':Int) (x2'':Int):runPure kl46_2.orc Go.Proofs.Try.prog 400 46 as46 rs46 (x0,(x1,x1',()),(x2,x2',x2'',()),()) [tt,ff,ff,tt,ff,tt,ff,tt,ff,ff,ff,tt,ff,ff,tt,tt,tt,tt,tt,tt] =
    (let r0:Bool×PUnit:=g47 (x1,((1:Int),((1000000000:Int),())));let r2:(List Int×PUnit)×(Int×List Int×PUnit)×(Int×Int×Int×PUnit)×PUnit:=b46_0 ((x0,((0:Int),())),((x1,(x1',())),((x2,(x2',(x2'',()))),())));let r3:Int×PUnit:=g112 (r2.2.1.1,(r2.2.1.2.1,()));let r4:Bool×PUnit:=g47 (r2.2.2.1.1,((1:Int),((1000000000:Int),())));let r5:Bool×PUnit:=g111 (r2.2.2.1.2.1,()); some (((0:Int),((2:Int),())),[(true,true),(!r5.1,true),(!r5.1,true),(!r5.1,true),(!r5.1,true),(!r5.1,true),(!r4.1,false),(!r4.1,false),(Option.isSome (f111 (r2.2.2.1.2.1,())),true),(!r4.1,false),(!r4.1,false),(!r4.1,false),(Option.isSome (f47 (r2.2.2.1.1,((1:Int),((1000000000:Int),())))),true),(!eqF r3.1 1,false),(Option.isSome (f112 (r2.2.1.1,(r2.2.1.2.1,()))),true),(isRet (l46_0 ((x0,((0:Int),())),((x1,(x1',())),((x2,(x2',(x2'',()))),())))),false),(Option.isSome (l46_0 ((x0,((0:Int),())),((x1,(x1',())),((x2,(x2',(x2'',()))),())))),true),(!eqF (↑(List.length x1'):Int) (↑(List.length x0):Int),false),(!r0.1,false),(Option.isSome (f47 (x1,((1:Int),((1000000000:Int),())))),true)])):=by kernel_rfl
theorem e46_6 (x0:(List Int)) (x1:Int) (x1':(List Int)) (x2:Int) (x2':Int) (x2'':Int):runPure kl46_2.orc Go.Proofs.Try.prog 400 46 as46 rs46 (x0,(x1,x1',()),(x2,x2',x2'',()),()) [tt,ff,ff,tt,ff,tt,ff,tt,ff,ff,ff,tt,ff,ff,ff,ff,ff,tt,ff,ff,tt] =
    (let r0:Bool×PUnit:=g47 (x1,((1:Int),((1000000000:Int),())));let r2:(List Int×PUnit)×(Int×List Int×PUnit)×(Int×Int×Int×PUnit)×PUnit:=b46_0 ((x0,((0:Int),())),((x1,(x1',())),((x2,(x2',(x2'',()))),())));let r3:Int×PUnit:=g112 (r2.2.1.1,(r2.2.1.2.1,()));let r4:Bool×PUnit:=g47 (r2.2.2.1.1,((1:Int),((1000000000:Int),())));let r5:Bool×PUnit:=g111 (r2.2.2.1.2.1,());let r6:Bool×PUnit:=g111 (r2.2.2.1.2.2.1,()); some (((0:Int),((2:Int),())),[(!r6.1,true),(!r5.1,false),(!r5.1,false),(Option.isSome (f111 (r2.2.2.1.2.2.1,())),true),(!r5.1,false),(!r5.1,false),(!r5.1,false),(!r4.1,false),(!r4.1,false),(Option.isSome (f111 (r2.2.2.1.2.1,())),true),(!r4.1,false),(!r4.1,false),(!r4.1,false),(Option.isSome (f47 (r2.2.2.1.1,((1:Int),((1000000000:Int),())))),true),(!eqF r3.1 1,false),(Option.isSome (f112 (r2.2.1.1,(r2.2.1.2.1,()))),true),(isRet (l46_0 ((x0,((0:Int),())),((x1,(x1',())),((x2,(x2',(x2'',()))),())))),false),(Option.isSome (l46_0 ((x0,((0:Int),())),((x1,(x1',())),((x2,(x2',(x2'',()))),())))),true),(!eqF (↑(List.length x1'):Int) (↑(List.length x0):Int),false),(!r0.1,false),(Option.isSome (f47 (x1,((1:Int),((1000000000:Int),())))),true)])):=by kernel_rfl
theorem e46_7 (x0:(List Int)) (x1:Int) (x1':(List Int)) (x2:Int) (x2':Int) (x2'':Int):runPure kl46_2.orc Go.Proofs.Try.prog 400 46 as46 rs46 (x0,(x1,x1',()),(x2,x2',x2'',()),()) [tt,ff,ff,tt,ff,tt,ff,tt,ff,ff,ff,tt,ff,ff,ff,ff,ff,tt,ff,ff,ff,tt,tt,tt] =
    (let r0:Bool×PUnit:=g47 (x1,((1:Int),((1000000000:Int),())));let r2:(List Int×PUnit)×(Int×List Int×PUnit)×(Int×Int×Int×PUnit)×PUnit:=b46_0 ((x0,((0:Int),())),((x1,(x1',())),((x2,(x2',(x2'',()))),())));let r3:Int×PUnit:=g112 (r2.2.1.1,(r2.2.1.2.1,()));let r4:Bool×PUnit:=g47 (r2.2.2.1.1,((1:Int),((1000000000:Int),())));let r5:Bool×PUnit:=g111 (r2.2.2.1.2.1,());let r6:Bool×PUnit:=g111 (r2.2.2.1.2.2.1,());let r7:Int×PUnit:=g112 (r2.2.2.1.1,(([r2.2.2.1.2.1,r2.2.2.1.2.2.1]:List Int),())); some (((0:Int),((3:Int),())),[(!eqF r7.1 1,true),(Option.isSome (f112 (r2.2.2.1.1,(([r2.2.2.1.2.1,r2.2.2.1.2.2.1]:List Int),()))),true),(true,true),(!r6.1,false),(!r5.1,false),(!r5.1,false),(Option.isSome (f111 (r2.2.2.1.2.2.1,())),true),(!r5.1,false),(!r5.1,false),(!r5.1,false),(!r4.1,false),(!r4.1,false),(Option.isSome (f111 (r2.2.2.1.2.1,())),true),(!r4.1,false),(!r4.1,false),(!r4.1,false),(Option.isSome (f47 (r2.2.2.1.1,((1:Int),((1000000000:Int),())))),true),(!eqF r3.1 1,false),(Option.isSome (f112 (r2.2.1.1,(r2.2.1.2.1,()))),true),(isRet (l46_0 ((x0,((0:Int),())),((x1,(x1',())),((x2,(x2',(x2'',()))),())))),false),(Option.isSome (l46_0 ((x0,((0:Int),())),((x1,(x1',())),((x2,(x2',(x2'',()))),())))),true),(!eqF (↑(List.length x1'):Int) (↑(List.length x0):Int),false),(!r0.1,false),(Option.isSome (f47 (x1,((1:Int),((1000000000:Int),())))),true)])):=by kernel_rfl
theorem e46_8 (x0:(List Int)) (x1:Int) (x1':(List Int)) (x2:Int) (x2':Int) (x2'':Int):runPure kl46_2.orc Go.Proofs.Try.prog 400 46 as46 rs46 (x0,(x1,x1',()),(x2,x2',x2'',()),()) [tt,ff,ff,tt,ff,tt,ff,tt,ff,ff,ff,tt,ff,ff,ff,ff,ff,tt,ff,ff,ff,tt,tt,ff,tt,tt] =
    (let r0:Bool×PUnit:=g47 (x1,((1:Int),((1000000000:Int),())));let r2:(List Int×PUnit)×(Int×List Int×PUnit)×(Int×Int×Int×PUnit)×PUnit:=b46_0 ((x0,((0:Int),())),((x1,(x1',())),((x2,(x2',(x2'',()))),())));let r3:Int×PUnit:=g112 (r2.2.1.1,(r2.2.1.2.1,()));let r4:Bool×PUnit:=g47 (r2.2.2.1.1,((1:Int),((1000000000:Int),())));let r5:Bool×PUnit:=g111 (r2.2.2.1.2.1,());let r6:Bool×PUnit:=g111 (r2.2.2.1.2.2.1,());let r7:Int×PUnit:=g112 (r2.2.2.1.1,(([r2.2.2.1.2.1,r2.2.2.1.2.2.1]:List Int),()));let r8:(Int×Int×PUnit)×PUnit:=g26 (r2.2.1.2.1,()); some (((0:Int),((21:Int),())),[(!eqF r8.1.1 0,true),(Option.isSome (f26 (r2.2.1.2.1,())),true),(!eqF r7.1 1,false),(Option.isSome (f112 (r2.2.2.1.1,(([r2.2.2.1.2.1,r2.2.2.1.2.2.1]:List Int),()))),true),(true,true),(!r6.1,false),(!r5.1,false),(!r5.1,false),(Option.isSome (f111 (r2.2.2.1.2.2.1,())),true),(!r5.1,false),(!r5.1,false),(!r5.1,false),(!r4.1,false),(!r4.1,false),(Option.isSome (f111 (r2.2.2.1.2.1,())),true),(!r4.1,false),(!r4.1,false),(!r4.1,false),(Option.isSome (f47 (r2.2.2.1.1,((1:Int),((1000000000:Int),())))),true),(!eqF r3.1 1,false),(Option.isSome (f112 (r2.2.1.1,(r2.2.1.2.1,()))),true),(isRet (l46_0 ((x0,((0:Int),())),((x1,(x1',())),((x2,(x2',(x2'',()))),())))),false),(Option.isSome (l46_0 ((x0,((0:Int),())),((x1,(x1',())),((x2,(x2',(x2'',()))),())))),true),(!eqF (↑(List.length x1'):Int) (↑(List.length x0):Int),false),(!r0.1,false),(Option.isSome (f47 (x1,((1:Int),((1000000000:Int),())))),true)])):=by kernel_rfl
theorem e46_9 (x0:(List Int)) (x1:Int) (x1':(List Int)) (x2:Int) (x2':Int) (x2'':Int):runPure kl46_2.orc Go.Proofs.Try.prog 400 46 as46 rs46 (x0,(x1,x1',()),(x2,x2',x2'',()),()) [tt,ff,ff,tt,ff,tt,ff,tt,ff,ff,ff,tt,ff,ff,ff,ff,ff,tt,ff,ff,ff,tt,tt,ff,tt,ff,tt] =
    (let r0:Bool×PUnit:=g47 (x1,((1:Int),((1000000000:Int),())));let r2:(List Int×PUnit)×(Int×List Int×PUnit)×(Int×Int×Int×PUnit)×PUnit:=b46_0 ((x0,((0:Int),())),((x1,(x1',())),((x2,(x2',(x2'',()))),())));let r3:Int×PUnit:=g112 (r2.2.1.1,(r2.2.1.2.1,()));let r4:Bool×PUnit:=g47 (r2.2.2.1.1,((1:Int),((1000000000:Int),())));let r5:Bool×PUnit:=g111 (r2.2.2.1.2.1,());let r6:Bool×PUnit:=g111 (r2.2.2.1.2.2.1,());let r7:Int×PUnit:=g112 (r2.2.2.1.1,(([r2.2.2.1.2.1,r2.2.2.1.2.2.1]:List Int),()));let r8:(Int×Int×PUnit)×PUnit:=g26 (r2.2.1.2.1,()); some (((1:Int),((21:Int),())),[(!eqF r8.1.2.1 0,true),(!eqF r8.1.1 0,false),(Option.isSome (f26 (r2.2.1.2.1,())),true),(!eqF r7.1 1,false),(Option.isSome (f112 (r2.2.2.1.1,(([r2.2.2.1.2.1,r2.2.2.1.2.2.1]:List Int),()))),true),(true,true),(!r6.1,false),(!r5.1,false),(!r5.1,false),(Option.isSome (f111 (r2.2.2.1.2.2.1,())),true),(!r5.1,false),(!r5.1,false),(!r5.1,false),(!r4.1,false),(!r4.1,false),(Option.isSome (f111 (r2.2.2.1.2.1,())),true),(!r4.1,false),(!r4.1,false),(!r4.1,false),(Option.isSome (f47 (r2.2.2.1.1,((1:Int),((1000000000:Int),())))),true),(!eqF r3.1 1,false),(Option.isSome (f112 (r2.2.1.1,(r2.2.1.2.1,()))),true),(isRet (l46_0 ((x0,((0:Int),())),((x1,(x1',())),((x2,(x2',(x2'',()))),())))),false),(Option.isSome (l46_0 ((x0,((0:Int),())),((x1,(x1',())),((x2,(x2',(x2'',()))),())))),true),(!eqF (↑(List.length x1'):Int) (↑(List.length x0):Int),false),(!r0.1,false),(Option.isSome (f47 (x1,((1:Int),((1000000000:Int),())))),true)])):=by kernel_rfl
theorem e46_10 (x0:(List Int)) (x1:Int) (x1':(List Int)) (x2:Int) (x2':Int) (x2'':Int):runPure kl46_2.orc Go.Proofs.Try.prog 400 46 as46 rs46 (x0,(x1,x1',()),(x2,x2',x2'',()),()) [tt,ff,ff,tt,ff,tt,ff,tt,ff,ff,ff,tt,ff,ff,ff,ff,ff,tt,ff,ff,ff,tt,tt,ff,tt,ff,ff,tt,tt] =
    (let r0:Bool×PUnit:=g47 (x1,((1:Int),((1000000000:Int),())));let r2:(List Int×PUnit)×(Int×List Int×PUnit)×(Int×Int×Int×PUnit)×PUnit:=b46_0 ((x0,((0:Int),())),((x1,(x1',())),((x2,(x2',(x2'',()))),())));let r3:Int×PUnit:=g112 (r2.2.1.1,(r2.2.1.2.1,()));let r4:Bool×PUnit:=g47 (r2.2.2.1.1,((1:Int),((1000000000:Int),())));let r5:Bool×PUnit:=g111 (r2.2.2.1.2.1,());let r6:Bool×PUnit:=g111 (r2.2.2.1.2.2.1,());let r7:Int×PUnit:=g112 (r2.2.2.1.1,(([r2.2.2.1.2.1,r2.2.2.1.2.2.1]:List Int),()));let r8:(Int×Int×PUnit)×PUnit:=g26 (r2.2.1.2.1,());let r9:(Int×Int×PUnit)×(Int×List Int×PUnit)×(Int×Int×Int×PUnit)×PUnit:=r46_2 ((r2.1.1,((0:Int),())),((r2.2.1.1,(r2.2.1.2.1,())),((r2.2.2.1.1,(r2.2.2.1.2.1,(r2.2.2.1.2.2.1,()))),()))); some ((r9.1.1,(r9.1.2.1,())),[(isRet (l46_2 ((r2.1.1,((0:Int),())),((r2.2.1.1,(r2.2.1.2.1,())),((r2.2.2.1.1,(r2.2.2.1.2.1,(r2.2.2.1.2.2.1,()))),())))),true),(Option.isSome (l46_2 ((r2.1.1,((0:Int),())),((r2.2.1.1,(r2.2.1.2.1,())),((r2.2.2.1.1,(r2.2.2.1.2.1,(r2.2.2.1.2.2.1,()))),())))),true),(!eqF r8.1.2.1 0,false),(!eqF r8.1.1 0,false),(Option.isSome (f26 (r2.2.1.2.1,())),true),(!eqF r7.1 1,false),(Option.isSome (f112 (r2.2.2.1.1,(([r2.2.2.1.2.1,r2.2.2.1.2.2.1]:List Int),()))),true),(true,true),(!r6.1,false),(!r5.1,false),(!r5.1,false),(Option.isSome (f111 (r2.2.2.1.2.2.1,())),true),(!r5.1,false),(!r5.1,false),(!r5.1,false),(!r4.1,false),(!r4.1,false),(Option.isSome (f111 (r2.2.2.1.2.1,())),true),(!r4.1,false),(!r4.1,false),(!r4.1,false),(Option.isSome (f47 (r2.2.2.1.1,((1:Int),((1000000000:Int),())))),true),(!eqF r3.1 1,false),(Option.isSome (f112 (r2.2.1.1,(r2.2.1.2.1,()))),true),(isRet (l46_0 ((x0,((0:Int),())),((x1,(x1',())),((x2,(x2',(x2'',()))),())))),false),(Option.isSome (l46_0 ((x0,((0:Int),())),((x1,(x1',())),((x2,(x2',(x2'',()))),())))),true),(!eqF (↑(List.length x1'):Int) (↑(List.length x0):Int),false),(!r0.1,false),(Option.isSome (f47 (x1,((1:Int),((1000000000:Int),())))),true)])):=by kernel_rfl
theorem e46_11 (x0:(List Int)) (x1:Int) (x1':(List Int)) (x2:Int) (x2':Int) (x2'':Int):runPure kl46_2.orc Go.Proofs.Try.prog 400 46 as46 rs46 (x0,(x1,x1',()),(x2,x2',x2'',()),()) [tt,ff,ff,tt,ff,tt,ff,tt,ff,ff,ff,tt,ff,ff,ff,ff,ff,tt,ff,ff,ff,tt,tt,ff,tt,ff,ff,tt,ff] =
    (let r0:Bool×PUnit:=g47 (x1,((1:Int),((1000000000:Int),())));let r2:(List Int×PUnit)×(Int×List Int×PUnit)×(Int×Int×Int×PUnit)×PUnit:=b46_0 ((x0,((0:Int),())),((x1,(x1',())),((x2,(x2',(x2'',()))),())));let r3:Int×PUnit:=g112 (r2.2.1.1,(r2.2.1.2.1,()));let r4:Bool×PUnit:=g47 (r2.2.2.1.1,((1:Int),((1000000000:Int),())));let r5:Bool×PUnit:=g111 (r2.2.2.1.2.1,());let r6:Bool×PUnit:=g111 (r2.2.2.1.2.2.1,());let r7:Int×PUnit:=g112 (r2.2.2.1.1,(([r2.2.2.1.2.1,r2.2.2.1.2.2.1]:List Int),()));let r8:(Int×Int×PUnit)×PUnit:=g26 (r2.2.1.2.1,()); some (((0:Int),((0:Int),())),[(isRet (l46_2 ((r2.1.1,((0:Int),())),((r2.2.1.1,(r2.2.1.2.1,())),((r2.2.2.1.1,(r2.2.2.1.2.1,(r2.2.2.1.2.2.1,()))),())))),false),(Option.isSome (l46_2 ((r2.1.1,((0:Int),())),((r2.2.1.1,(r2.2.1.2.1,())),((r2.2.2.1.1,(r2.2.2.1.2.1,(r2.2.2.1.2.2.1,()))),())))),true),(!eqF r8.1.2.1 0,false),(!eqF r8.1.1 0,false),(Option.isSome (f26 (r2.2.1.2.1,())),true),(!eqF r7.1 1,false),(Option.isSome (f112 (r2.2.2.1.1,(([r2.2.2.1.2.1,r2.2.2.1.2.2.1]:List Int),()))),true),(true,true),(!r6.1,false),(!r5.1,false),(!r5.1,false),(Option.isSome (f111 (r2.2.2.1.2.2.1,())),true),(!r5.1,false),(!r5.1,false),(!r5.1,false),(!r4.1,false),(!r4.1,false),(Option.isSome (f111 (r2.2.2.1.2.1,())),true),(!r4.1,false),(!r4.1,false),(!r4.1,false),(Option.isSome (f47 (r2.2.2.1.1,((1:Int),((1000000000:Int),())))),true),(!eqF r3.1 1,false),(Option.isSome (f112 (r2.2.1.1,(r2.2.1.2.1,()))),true),(isRet (l46_0 ((x0,((0:Int),())),((x1,(x1',())),((x2,(x2',(x2'',()))),())))),false),(Option.isSome (l46_0 ((x0,((0:Int),())),((x1,(x1',())),((x2,(x2',(x2'',()))),())))),true),(!eqF (↑(List.length x1'):Int) (↑(List.length x0):Int),false),(!r0.1,false),(Option.isSome (f47 (x1,((1:Int),((1000000000:Int),())))),true)])):=by kernel_rfl

set_option maxRecDepth 100000 in
theorem ok46_t (x0:(List Int)) (x1:Int) (x1':(List Int)) (x2:Int) (x2':Int) (x2'':Int):TrOk (PureRuns Go.Proofs.Try.prog kl46_2.orc 46 as46 rs46 (x0,(x1,x1',()),(x2,x2',x2'',()),())) (t46 x0 x1 x1' x2 x2' x2'') :=
  TrOk.ofTest (fun h0=>TrOk.ofTest (fun h1=>TrOk.ofFin (PureRuns.of (e46_0 x0 x1 x1' x2 x2' x2'') (ac h1 (ac h0 All.nil)))) (fun h1=>TrOk.ofTest (fun h2=>TrOk.ofFin (PureRuns.of (e46_1 x0 x1 x1' x2 x2' x2'') (ac h2 (ac h1 (ac h0 All.nil))))) (fun h2=>TrOk.ofTest (fun h3=>TrOk.ofTest (fun h4=>TrOk.ofFin (PureRuns.of (e46_2 x0 x1 x1' x2 x2' x2'') (ac h4 (ac h3 (ac h2 (ac h1 (ac h0 All.nil))))))) (fun h4=>TrOk.ofTest (fun h5=>TrOk.ofTest (fun h6=>TrOk.ofFin (PureRuns.of (e46_3 x0 x1 x1' x2 x2' x2'') (ac h6 (ac h5 (ac h4 (ac h3 (ac h2 (ac h1 (ac h0 All.nil))))))))) (fun h6=>TrOk.ofTest (fun h7=>TrOk.ofTest (fun h8=>TrOk.ofFin (PureRuns.of (e46_4 x0 x1 x1' x2 x2' x2'') (ac rfl (ac rfl (ac rfl (ac rfl (ac rfl (ac rfl (ac (nn h8) (ac (nn h8) (ac (nn h8) (ac (nn h8) (ac h8 (ac h7 (ac h6 (ac h5 (ac h4 (ac h3 (ac h2 (ac h1 (ac h0 All.nil))))))))))))))))))))) (fun h8=>TrOk.ofTest (fun h11=>TrOk.ofTest (fun h14=>TrOk.ofFin (PureRuns.of (e46_5 x0 x1 x1' x2 x2' x2'') (ac rfl (ac (nn h14) (ac (nn h14) (ac (nn h14) (ac (nn h14) (ac h14 (ac (nn h8) (ac (nn h8) (ac h11 (ac (nn h8) (ac (nn h8) (ac h8 (ac h7 (ac h6 (ac h5 (ac h4 (ac h3 (ac h2 (ac h1 (ac h0 All.nil)))))))))))))))))))))) (fun h14=>TrOk.ofTest (fun h17=>TrOk.ofTest (fun h20=>TrOk.ofFin (PureRuns.of (e46_6 x0 x1 x1' x2 x2' x2'') (ac h20 (ac (nn h14) (ac (nn h14) (ac h17 (ac (nn h14) (ac (nn h14) (ac h14 (ac (nn h8) (ac (nn h8) (ac h11 (ac (nn h8) (ac (nn h8) (ac h8 (ac h7 (ac h6 (ac h5 (ac h4 (ac h3 (ac h2 (ac h1 (ac h0 All.nil))))))))))))))))))))))) (fun h20=>TrOk.ofTest (fun h22=>TrOk.ofTest (fun h23=>TrOk.ofFin (PureRuns.of (e46_7 x0 x1 x1' x2 x2' x2'') (ac h23 (ac h22 (ac rfl (ac h20 (ac (nn h14) (ac (nn h14) (ac h17 (ac (nn h14) (ac (nn h14) (ac h14 (ac (nn h8) (ac (nn h8) (ac h11 (ac (nn h8) (ac (nn h8) (ac h8 (ac h7 (ac h6 (ac h5 (ac h4 (ac h3 (ac h2 (ac h1 (ac h0 All.nil)))))))))))))))))))))))))) (fun h23=>TrOk.ofTest (fun h24=>TrOk.ofTest (fun h25=>TrOk.ofFin (PureRuns.of (e46_8 x0 x1 x1' x2 x2' x2'') (ac h25 (ac h24 (ac h23 (ac h22 (ac rfl (ac h20 (ac (nn h14) (ac (nn h14) (ac h17 (ac (nn h14) (ac (nn h14) (ac h14 (ac (nn h8) (ac (nn h8) (ac h11 (ac (nn h8) (ac (nn h8) (ac h8 (ac h7 (ac h6 (ac h5 (ac h4 (ac h3 (ac h2 (ac h1 (ac h0 All.nil)))))))))))))))))))))))))))) (fun h25=>TrOk.ofTest (fun h26=>TrOk.ofFin (PureRuns.of (e46_9 x0 x1 x1' x2 x2' x2'') (ac h26 (ac h25 (ac h24 (ac h23 (ac h22 (ac rfl (ac h20 (ac (nn h14) (ac (nn h14) (ac h17 (ac (nn h14) (ac (nn h14) (ac h14 (ac (nn h8) (ac (nn h8) (ac h11 (ac (nn h8) (ac (nn h8) (ac h8 (ac h7 (ac h6 (ac h5 (ac h4 (ac h3 (ac h2 (ac h1 (ac h0 All.nil))))))))))))))))))))))))))))) (fun h26=>TrOk.ofTest (fun h27=>TrOk.ofTest (fun h28=>TrOk.ofFin (PureRuns.of (e46_10 x0 x1 x1' x2 x2' x2'') (ac h28 (ac h27 (ac h26 (ac h25 (ac h24 (ac h23 (ac h22 (ac rfl (ac h20 (ac (nn h14) (ac (nn h14) (ac h17 (ac (nn h14) (ac (nn h14) (ac h14 (ac (nn h8) (ac (nn h8) (ac h11 (ac (nn h8) (ac (nn h8) (ac h8 (ac h7 (ac h6 (ac h5 (ac h4 (ac h3 (ac h2 (ac h1 (ac h0 All.nil))))))))))))))))))))))))))))))) (fun h28=>TrOk.ofFin (PureRuns.of (e46_11 x0 x1 x1' x2 x2' x2'') (ac h28 (ac h27 (ac h26 (ac h25 (ac h24 (ac h23 (ac h22 (ac rfl (ac h20 (ac (nn h14) (ac (nn h14) (ac h17 (ac (nn h14) (ac (nn h14) (ac h14 (ac (nn h8) (ac (nn h8) (ac h11 (ac (nn h8) (ac (nn h8) (ac h8 (ac h7 (ac h6 (ac h5 (ac h4 (ac h3 (ac h2 (ac h1 (ac h0 All.nil)))))))))))))))))))))))))))))))) (fun h27=>TrOk.ofStop)))) (fun h24=>TrOk.ofStop))) (fun h22=>TrOk.ofStop))) (fun h17=>TrOk.ofStop))) (fun h11=>TrOk.ofStop))) (fun h7=>TrOk.ofStop))) (fun h5=>TrOk.ofStop))) (fun h3=>TrOk.ofStop)))) (fun h0=>TrOk.ofStop)

theorem ok46:PureOk Go.Proofs.Try.prog 46 p46:=pureOk_of kl46_2_ok.base (T:=fun (d:Tys.data as46)=>t46 d.1 d.2.1.1 d.2.1.2.1 d.2.2.1.1 d.2.2.1.2.1 d.2.2.1.2.2.1) (by kernel_rfl) (fun (d:Tys.data as46)=>ok46_t d.1 d.2.1.1 d.2.1.2.1 d.2.2.1.1 d.2.2.1.2.1 d.2.2.1.2.2.1)
def kf46:Known:=kl46_2.func 46 p46
theorem kf46_ok:KnownOk Go.Proofs.Try.prog kf46:=kl46_2_ok.func ok46

/-! ductility/ductilitylaw02.MotionRests -/

abbrev as6:List Ty:=[(.pair (.int .i64) (.pair (.slice (.int .i64)) .unit)),(.pair (.int .i64) (.pair (.slice (.int .i64)) .unit)),(.pair (.int .i64) (.pair (.int .i64) (.pair (.int .i64) .unit)))]
abbrev rs6:List Ty:=[.bool]

def t6 (x0:Int) (x0':(List Int)) (x1:Int) (x1':(List Int)) (x2:Int) (x2':Int) (x2'':Int):Tr (Tys.data rs6) :=
  Tr.test (Option.isSome (f16 ((x0,(x0',())),())))
    (let r0:Bool×PUnit:=g16 ((x0,(x0',())),());
    Tr.test ((!r0.1:Bool))
      (Tr.fin (((true:Bool),())))
      (Tr.test ((!leF (↑(List.length x1'):Int) (26:Int):Bool))
        (Tr.fin (((true:Bool),())))
        (Tr.test (Option.isSome (f18 ((x0,(x0',())),())))
          (let r1:(Int×List Int×PUnit)×PUnit:=g18 ((x0,(x0',())),());
          Tr.test (Option.isSome (f40 ((r1.1.1,(r1.1.2.1,())),())))
            (Tr.test (Option.isSome (f41 ((r1.1.1,(r1.1.2.1,())),())))
              (Tr.test ((Nat.beq (List.length x1') (0:Nat):Bool))
                (Tr.test (Option.isSome (f42 ((r1.1.1,(r1.1.2.1,())),((x1,(([]:List Int),())),((x2,(x2',(x2'',()))),())))))
                  (Tr.test (Option.isSome (f29 ((x0,(x0',())),())))
                    (let r6:Int×PUnit:=g29 ((x0,(x0',())),());
                    Tr.test ((!eqF r6.1 0:Bool))
                      (let r2:(Int×List Int×PUnit)×Int×PUnit:=g40 ((r1.1.1,(r1.1.2.1,())),());
                      Tr.test ((eqF r2.2.1 r6.1:Bool))
                        (Tr.test (Option.isSome (f44 ((r2.1.1,(r2.1.2.1,())),(((0:Int),(([]:List Int),())),()))))
                          (let r7:Bool×PUnit:=g44 ((r2.1.1,(r2.1.2.1,())),(((0:Int),(([]:List Int),())),()));
                          Tr.test (r7.1)
                            (let r3:(Int×Int×Int×PUnit)×Int×PUnit:=g41 ((r1.1.1,(r1.1.2.1,())),());
                            Tr.test ((eqF r3.2.1 r6.1:Bool))
                              (Tr.test ((r3.1.1 == (0:Int) && (r3.1.2.1 == (0:Int) && (r3.1.2.2.1 == (0:Int) && true)):Bool))
                                (let r4:Int×Int×PUnit:=g42 ((r1.1.1,(r1.1.2.1,())),((x1,(([]:List Int),())),((x2,(x2',(x2'',()))),())));
                                Tr.test ((eqF r4.2.1 r6.1:Bool))
                                  (Tr.fin (((eqF r4.1 0:Bool),())))
                                  (Tr.fin (((false:Bool),()))))
                                (Tr.fin (((false:Bool),()))))
                              (Tr.fin (((false:Bool),()))))
                            (Tr.fin (((false:Bool),()))))
                          (Tr.stop))
                        (Tr.fin (((false:Bool),()))))
                      (Tr.test (Option.isSome (f45 (x0',())))
                        (let r2:(Int×List Int×PUnit)×Int×PUnit:=g40 ((r1.1.1,(r1.1.2.1,())),());
                        Tr.test ((!eqF r2.2.1 0:Bool))
                          (Tr.fin (((false:Bool),())))
                          (let r8:(Int×List Int×PUnit)×(Int×Int×Int×PUnit)×PUnit:=g45 (x0',());
                          Tr.test (Option.isSome (f44 ((r2.1.1,(r2.1.2.1,())),((r8.1.1,(r8.1.2.1,())),()))))
                            (let r9:Bool×PUnit:=g44 ((r2.1.1,(r2.1.2.1,())),((r8.1.1,(r8.1.2.1,())),()));
                            Tr.test ((!r9.1:Bool))
                              (Tr.fin (((false:Bool),())))
                              (let r3:(Int×Int×Int×PUnit)×Int×PUnit:=g41 ((r1.1.1,(r1.1.2.1,())),());
                              Tr.test ((!eqF r3.2.1 0:Bool))
                                (Tr.fin (((false:Bool),())))
                                (Tr.test ((!(r3.1.1 == r8.2.1.1 && (r3.1.2.1 == r8.2.1.2.1 && (r3.1.2.2.1 == r8.2.1.2.2.1 && true))):Bool))
                                  (Tr.fin (((false:Bool),())))
                                  (Tr.test (Option.isSome (f46 (x0',((x1,(x1',())),((x2,(x2',(x2'',()))),())))))
                                    (let r4:Int×Int×PUnit:=g42 ((r1.1.1,(r1.1.2.1,())),((x1,(([]:List Int),())),((x2,(x2',(x2'',()))),())));
                                    let r10:Int×Int×PUnit:=g46 (x0',((x1,(x1',())),((x2,(x2',(x2'',()))),())));
                                    Tr.test ((eqF r4.2.1 r10.2.1:Bool))
                                      (Tr.fin (((eqF r4.1 r10.1:Bool),())))
                                      (Tr.fin (((false:Bool),()))))
                                    (Tr.stop)))))
                            (Tr.stop)))
                        (Tr.stop)))
                    (Tr.stop))
                  (Tr.stop))
                (Tr.test ((Nat.ble ((0:Nat) + List.length x1') (0:Nat):Bool))
                  (Tr.stop)
                  (Tr.test ((Nat.ble (((2:Nat) * ((0:Nat) + List.length x1') + (192:Nat)) * (8:Nat)) (281474976710656:Nat) && Nat.ble ((0:Nat) + List.length x1') (281474976710656:Nat):Bool))
                    (Tr.test ((Nat.beq ((0:Nat) + List.length x1') (List.length ([]++x1')):Bool))
                      (Tr.test (Option.isSome (f42 ((r1.1.1,(r1.1.2.1,())),((x1,(([]++x1':List Int),())),((x2,(x2',(x2'',()))),())))))
                        (Tr.test (Option.isSome (f29 ((x0,(x0',())),())))
                          (let r6:Int×PUnit:=g29 ((x0,(x0',())),());
                          Tr.test ((!eqF r6.1 0:Bool))
                            (let r2:(Int×List Int×PUnit)×Int×PUnit:=g40 ((r1.1.1,(r1.1.2.1,())),());
                            Tr.test ((eqF r2.2.1 r6.1:Bool))
                              (Tr.test (Option.isSome (f44 ((r2.1.1,(r2.1.2.1,())),(((0:Int),(([]:List Int),())),()))))
                                (let r7:Bool×PUnit:=g44 ((r2.1.1,(r2.1.2.1,())),(((0:Int),(([]:List Int),())),()));
                                Tr.test (r7.1)
                                  (let r3:(Int×Int×Int×PUnit)×Int×PUnit:=g41 ((r1.1.1,(r1.1.2.1,())),());
                                  Tr.test ((eqF r3.2.1 r6.1:Bool))
                                    (Tr.test ((r3.1.1 == (0:Int) && (r3.1.2.1 == (0:Int) && (r3.1.2.2.1 == (0:Int) && true)):Bool))
                                      (let r5:Int×Int×PUnit:=g42 ((r1.1.1,(r1.1.2.1,())),((x1,(([]++x1':List Int),())),((x2,(x2',(x2'',()))),())));
                                      Tr.test ((eqF r5.2.1 r6.1:Bool))
                                        (Tr.fin (((eqF r5.1 0:Bool),())))
                                        (Tr.fin (((false:Bool),()))))
                                      (Tr.fin (((false:Bool),()))))
                                    (Tr.fin (((false:Bool),()))))
                                  (Tr.fin (((false:Bool),()))))
                                (Tr.stop))
                              (Tr.fin (((false:Bool),()))))
                            (Tr.test (Option.isSome (f45 (x0',())))
                              (let r2:(Int×List Int×PUnit)×Int×PUnit:=g40 ((r1.1.1,(r1.1.2.1,())),());
                              Tr.test ((!eqF r2.2.1 0:Bool))
                                (Tr.fin (((false:Bool),())))
                                (let r8:(Int×List Int×PUnit)×(Int×Int×Int×PUnit)×PUnit:=g45 (x0',());
                                Tr.test (Option.isSome (f44 ((r2.1.1,(r2.1.2.1,())),((r8.1.1,(r8.1.2.1,())),()))))
                                  (let r9:Bool×PUnit:=g44 ((r2.1.1,(r2.1.2.1,())),((r8.1.1,(r8.1.2.1,())),()));
                                  Tr.test ((!r9.1:Bool))
                                    (Tr.fin (((false:Bool),())))
                                    (let r3:(Int×Int×Int×PUnit)×Int×PUnit:=g41 ((r1.1.1,(r1.1.2.1,())),());
                                    Tr.test ((!eqF r3.2.1 0:Bool))
                                      (Tr.fin (((false:Bool),())))
                                      (Tr.test ((!(r3.1.1 == r8.2.1.1 && (r3.1.2.1 == r8.2.1.2.1 && (r3.1.2.2.1 == r8.2.1.2.2.1 && true))):Bool))
                                        (Tr.fin (((false:Bool),())))
                                        (Tr.test (Option.isSome (f46 (x0',((x1,(x1',())),((x2,(x2',(x2'',()))),())))))
                                          (let r5:Int×Int×PUnit:=g42 ((r1.1.1,(r1.1.2.1,())),((x1,(([]++x1':List Int),())),((x2,(x2',(x2'',()))),())));
                                          let r10:Int×Int×PUnit:=g46 (x0',((x1,(x1',())),((x2,(x2',(x2'',()))),())));
                                          Tr.test ((eqF r5.2.1 r10.2.1:Bool))
                                            (Tr.fin (((eqF r5.1 r10.1:Bool),())))
                                            (Tr.fin (((false:Bool),()))))
                                          (Tr.stop)))))
                                  (Tr.stop)))
                              (Tr.stop)))
                          (Tr.stop))
                        (Tr.stop))
                      (Tr.stop))
                    (Tr.stop))))
              (Tr.stop))
            (Tr.stop))
          (Tr.stop))))
    (Tr.stop)

def f6 (d:Tys.data as6):Option (Tys.data rs6):=(t6 d.1.1 d.1.2.1 d.2.1.1 d.2.1.2.1 d.2.2.1.1 d.2.2.1.2.1 d.2.2.1.2.2.1).val
def g6 (d:Tys.data as6):Tys.data rs6:=(f6 d).getD (Tys.dflt rs6)
def p6:PureC:=pcOf as6 rs6 f6 g6

theorem e6_0 (x0:Int) (x0':(List Int)) (x1:Int) (x1':(List Int)) (x2:Int) (x2':Int) (x2'':Int):runPure kf46.orc Go.Proofs.Try.prog 400 6 as6 rs6 ((x0,x0',()),(x1,x1',()),(x2,x2',x2'',()),()) [tt,ff,tt,tt,tt,tt,tt,tt,tt] =
    (let r0:Bool×PUnit:=g16 ((x0,(x0',())),()); some ((true,()),[(true,true),(!r0.1,true),(!r0.1,true),(!r0.1,true),(!r0.1,true),(!r0.1,true),(Option.isSome (f16 ((x0,(x0',())),())),true),(false,false),(true,true)])):=by kernel_rfl
theorem e6_1 (x0:Int) (x0':(List Int)) (x1:Int) (x1':(List Int)) (x2:Int) (x2':Int) (x2'':Int):runPure kf46.orc Go.Proofs.Try.prog 400 6 as6 rs6 ((x0,x0',()),(x1,x1',()),(x2,x2',x2'',()),()) [tt,ff,tt,ff,ff,ff,ff,ff,tt] =
    (let r0:Bool×PUnit:=g16 ((x0,(x0',())),()); some ((true,()),[(!leF (↑(List.length x1'):Int) (26:Int),true),(!r0.1,false),(!r0.1,false),(!r0.1,false),(!r0.1,false),(!r0.1,false),(Option.isSome (f16 ((x0,(x0',())),())),true),(false,false),(true,true)])):=by kernel_rfl
theorem e6_2 (x0:Int) (x0':(List Int)) (x1:Int) (x1':(List Int)) (x2:Int) (x2':Int) (x2'':Int):runPure kf46.orc Go.Proofs.Try.prog 400 6 as6 rs6 ((x0,x0',()),(x1,x1',()),(x2,x2',x2'',()),()) [tt,ff,tt,ff,ff,ff,ff,ff,ff,tt,tt,tt,tt,tt,tt,tt,tt,tt,tt,tt,tt,tt,tt,tt,tt,tt,tt,tt,tt,tt,tt,tt,tt,tt,tt,tt,tt,tt] =
    (let r0:Bool×PUnit:=g16 ((x0,(x0',())),());let r1:(Int×List Int×PUnit)×PUnit:=g18 ((x0,(x0',())),());let r6:Int×PUnit:=g29 ((x0,(x0',())),());let r2:(Int×List Int×PUnit)×Int×PUnit:=g40 ((r1.1.1,(r1.1.2.1,())),());let r7:Bool×PUnit:=g44 ((r2.1.1,(r2.1.2.1,())),(((0:Int),(([]:List Int),())),()));let r3:(Int×Int×Int×PUnit)×Int×PUnit:=g41 ((r1.1.1,(r1.1.2.1,())),());let r4:Int×Int×PUnit:=g42 ((r1.1.1,(r1.1.2.1,())),((x1,(([]:List Int),())),((x2,(x2',(x2'',()))),()))); some ((eqF r4.1 0,()),[(eqF r4.2.1 r6.1,true),(eqF r4.2.1 r6.1,true),(eqF r4.2.1 r6.1,true),(r3.1.1 == (0:Int) && (r3.1.2.1 == (0:Int) && (r3.1.2.2.1 == (0:Int) && true)),true),(r3.1.1 == (0:Int) && (r3.1.2.1 == (0:Int) && (r3.1.2.2.1 == (0:Int) && true)),true),(r3.1.1 == (0:Int) && (r3.1.2.1 == (0:Int) && (r3.1.2.2.1 == (0:Int) && true)),true),(r3.1.1 == (0:Int) && (r3.1.2.1 == (0:Int) && (r3.1.2.2.1 == (0:Int) && true)),true),(eqF r3.2.1 r6.1,true),(eqF r3.2.1 r6.1,true),(eqF r3.2.1 r6.1,true),(eqF r3.2.1 r6.1,true),(r7.1,true),(r7.1,true),(r7.1,true),(r7.1,true),(eqF r2.2.1 r6.1,true),(Option.isSome (f44 ((r2.1.1,(r2.1.2.1,())),(((0:Int),(([]:List Int),())),()))),true),(eqF r2.2.1 r6.1,true),(eqF r2.2.1 r6.1,true),(eqF r2.2.1 r6.1,true),(!eqF r6.1 0,true),(Option.isSome (f29 ((x0,(x0',())),())),true),(Option.isSome (f42 ((r1.1.1,(r1.1.2.1,())),((x1,(([]:List Int),())),((x2,(x2',(x2'',()))),())))),true),(Nat.beq (List.length x1') (0:Nat),true),(Option.isSome (f18 ((x0,(x0',())),())),true),(Option.isSome (f41 ((r1.1.1,(r1.1.2.1,())),())),true),(Option.isSome (f18 ((x0,(x0',())),())),true),(Option.isSome (f40 ((r1.1.1,(r1.1.2.1,())),())),true),(Option.isSome (f18 ((x0,(x0',())),())),true),(!leF (↑(List.length x1'):Int) (26:Int),false),(!r0.1,false),(!r0.1,false),(!r0.1,false),(!r0.1,false),(!r0.1,false),(Option.isSome (f16 ((x0,(x0',())),())),true),(false,false),(true,true)])):=by kernel_rfl
theorem e6_3 (x0:Int) (x0':(List Int)) (x1:Int) (x1':(List Int)) (x2:Int) (x2':Int) (x2'':Int):runPure kf46.orc Go.Proofs.Try.prog 400 6 as6 rs6 ((x0,x0',()),(x1,x1',()),(x2,x2',x2'',()),()) [tt,ff,tt,ff,ff,ff,ff,ff,ff,tt,tt,tt,tt,tt,tt,tt,tt,tt,tt,tt,tt,tt,tt,tt,tt,tt,tt,tt,tt,tt,tt,tt,tt,tt,tt,ff,ff,ff] =
    (let r0:Bool×PUnit:=g16 ((x0,(x0',())),());let r1:(Int×List Int×PUnit)×PUnit:=g18 ((x0,(x0',())),());let r6:Int×PUnit:=g29 ((x0,(x0',())),());let r2:(Int×List Int×PUnit)×Int×PUnit:=g40 ((r1.1.1,(r1.1.2.1,())),());let r7:Bool×PUnit:=g44 ((r2.1.1,(r2.1.2.1,())),(((0:Int),(([]:List Int),())),()));let r3:(Int×Int×Int×PUnit)×Int×PUnit:=g41 ((r1.1.1,(r1.1.2.1,())),());let r4:Int×Int×PUnit:=g42 ((r1.1.1,(r1.1.2.1,())),((x1,(([]:List Int),())),((x2,(x2',(x2'',()))),()))); some ((false,()),[(eqF r4.2.1 r6.1,false),(eqF r4.2.1 r6.1,false),(eqF r4.2.1 r6.1,false),(r3.1.1 == (0:Int) && (r3.1.2.1 == (0:Int) && (r3.1.2.2.1 == (0:Int) && true)),true),(r3.1.1 == (0:Int) && (r3.1.2.1 == (0:Int) && (r3.1.2.2.1 == (0:Int) && true)),true),(r3.1.1 == (0:Int) && (r3.1.2.1 == (0:Int) && (r3.1.2.2.1 == (0:Int) && true)),true),(r3.1.1 == (0:Int) && (r3.1.2.1 == (0:Int) && (r3.1.2.2.1 == (0:Int) && true)),true),(eqF r3.2.1 r6.1,true),(eqF r3.2.1 r6.1,true),(eqF r3.2.1 r6.1,true),(eqF r3.2.1 r6.1,true),(r7.1,true),(r7.1,true),(r7.1,true),(r7.1,true),(eqF r2.2.1 r6.1,true),(Option.isSome (f44 ((r2.1.1,(r2.1.2.1,())),(((0:Int),(([]:List Int),())),()))),true),(eqF r2.2.1 r6.1,true),(eqF r2.2.1 r6.1,true),(eqF r2.2.1 r6.1,true),(!eqF r6.1 0,true),(Option.isSome (f29 ((x0,(x0',())),())),true),(Option.isSome (f42 ((r1.1.1,(r1.1.2.1,())),((x1,(([]:List Int),())),((x2,(x2',(x2'',()))),())))),true),(Nat.beq (List.length x1') (0:Nat),true),(Option.isSome (f18 ((x0,(x0',())),())),true),(Option.isSome (f41 ((r1.1.1,(r1.1.2.1,())),())),true),(Option.isSome (f18 ((x0,(x0',())),())),true),(Option.isSome (f40 ((r1.1.1,(r1.1.2.1,())),())),true),(Option.isSome (f18 ((x0,(x0',())),())),true),(!leF (↑(List.length x1'):Int) (26:Int),false),(!r0.1,false),(!r0.1,false),(!r0.1,false),(!r0.1,false),(!r0.1,false),(Option.isSome (f16 ((x0,(x0',())),())),true),(false,false),(true,true)])):=by kernel_rfl
theorem e6_4 (x0:Int) (x0':(List Int)) (x1:Int) (x1':(List Int)) (x2:Int) (x2':Int) (x2'':Int):runPure kf46.orc Go.Proofs.Try.prog 400 6 as6 rs6 ((x0,x0',()),(x1,x1',()),(x2,x2',x2'',()),()) [tt,ff,tt,ff,ff,ff,ff,ff,ff,tt,tt,tt,tt,tt,tt,tt,tt,tt,tt,tt,tt,tt,tt,tt,tt,tt,tt,tt,tt,tt,tt,ff,ff,ff,ff,ff,ff,ff] =
    (let r0:Bool×PUnit:=g16 ((x0,(x0',())),());let r1:(Int×List Int×PUnit)×PUnit:=g18 ((x0,(x0',())),());let r6:Int×PUnit:=g29 ((x0,(x0',())),());let r2:(Int×List Int×PUnit)×Int×PUnit:=g40 ((r1.1.1,(r1.1.2.1,())),());let r7:Bool×PUnit:=g44 ((r2.1.1,(r2.1.2.1,())),(((0:Int),(([]:List Int),())),()));let r3:(Int×Int×Int×PUnit)×Int×PUnit:=g41 ((r1.1.1,(r1.1.2.1,())),()); some ((false,()),[(false,false),(false,false),(false,false),(r3.1.1 == (0:Int) && (r3.1.2.1 == (0:Int) && (r3.1.2.2.1 == (0:Int) && true)),false),(r3.1.1 == (0:Int) && (r3.1.2.1 == (0:Int) && (r3.1.2.2.1 == (0:Int) && true)),false),(r3.1.1 == (0:Int) && (r3.1.2.1 == (0:Int) && (r3.1.2.2.1 == (0:Int) && true)),false),(r3.1.1 == (0:Int) && (r3.1.2.1 == (0:Int) && (r3.1.2.2.1 == (0:Int) && true)),false),(eqF r3.2.1 r6.1,true),(eqF r3.2.1 r6.1,true),(eqF r3.2.1 r6.1,true),(eqF r3.2.1 r6.1,true),(r7.1,true),(r7.1,true),(r7.1,true),(r7.1,true),(eqF r2.2.1 r6.1,true),(Option.isSome (f44 ((r2.1.1,(r2.1.2.1,())),(((0:Int),(([]:List Int),())),()))),true),(eqF r2.2.1 r6.1,true),(eqF r2.2.1 r6.1,true),(eqF r2.2.1 r6.1,true),(!eqF r6.1 0,true),(Option.isSome (f29 ((x0,(x0',())),())),true),(Option.isSome (f42 ((r1.1.1,(r1.1.2.1,())),((x1,(([]:List Int),())),((x2,(x2',(x2'',()))),())))),true),(Nat.beq (List.length x1') (0:Nat),true),(Option.isSome (f18 ((x0,(x0',())),())),true),(Option.isSome (f41 ((r1.1.1,(r1.1.2.1,())),())),true),(Option.isSome (f18 ((x0,(x0',())),())),true),(Option.isSome (f40 ((r1.1.1,(r1.1.2.1,())),())),true),(Option.isSome (f18 ((x0,(x0',())),())),true),(!leF (↑(List.length x1'):Int) (26:Int),false),(!r0.1,false),(!r0.1,false),(!r0.1,false),(!r0.1,false),(!r0.1,false),(Option.isSome (f16 ((x0,(x0',())),())),true),(false,false),(true,true)])):=by kernel_rfl
theorem e6_5 (x0:Int) (x0':(List Int)) (x1:Int) (x1':(List Int)) (x2:Int) (x2':Int) (x2'':Int):runPure kf46.orc Go.Proofs.Try.prog 400 6 as6 rs6 ((x0,x0',()),(x1,x1',()),(x2,x2',x2'',()),()) [tt,ff,tt,ff,ff,ff,ff,ff,ff,tt,tt,tt,tt,tt,tt,tt,tt,tt,tt,tt,tt,tt,tt,tt,tt,tt,tt,ff,ff,ff,ff,ff,ff,ff,ff,ff,ff,ff] =
    (let r0:Bool×PUnit:=g16 ((x0,(x0',())),());let r1:(Int×List Int×PUnit)×PUnit:=g18 ((x0,(x0',())),());let r6:Int×PUnit:=g29 ((x0,(x0',())),());let r2:(Int×List Int×PUnit)×Int×PUnit:=g40 ((r1.1.1,(r1.1.2.1,())),());let r7:Bool×PUnit:=g44 ((r2.1.1,(r2.1.2.1,())),(((0:Int),(([]:List Int),())),()));let r3:(Int×Int×Int×PUnit)×Int×PUnit:=g41 ((r1.1.1,(r1.1.2.1,())),()); some ((false,()),[(false,false),(false,false),(false,false),(false,false),(false,false),(false,false),(false,false),(eqF r3.2.1 r6.1,false),(eqF r3.2.1 r6.1,false),(eqF r3.2.1 r6.1,false),(eqF r3.2.1 r6.1,false),(r7.1,true),(r7.1,true),(r7.1,true),(r7.1,true),(eqF r2.2.1 r6.1,true),(Option.isSome (f44 ((r2.1.1,(r2.1.2.1,())),(((0:Int),(([]:List Int),())),()))),true),(eqF r2.2.1 r6.1,true),(eqF r2.2.1 r6.1,true),(eqF r2.2.1 r6.1,true),(!eqF r6.1 0,true),(Option.isSome (f29 ((x0,(x0',())),())),true),(Option.isSome (f42 ((r1.1.1,(r1.1.2.1,())),((x1,(([]:List Int),())),((x2,(x2',(x2'',()))),())))),true),(Nat.beq (List.length x1') (0:Nat),true),(Option.isSome (f18 ((x0,(x0',())),())),true),(Option.isSome (f41 ((r1.1.1,(r1.1.2.1,())),())),true),(Option.isSome (f18 ((x0,(x0',())),())),true),(Option.isSome (f40 ((r1.1.1,(r1.1.2.1,())),())),true),(Option.isSome (f18 ((x0,(x0',())),())),true),(!leF (↑(List.length x1'):Int) (26:Int),false),(!r0.1,false),(!r0.1,false),(!r0.1,false),(!r0.1,false),(!r0.1,false),(Option.isSome (f16 ((x0,(x0',())),())),true),(false,false),(true,true)])):=by kernel_rfl
theorem e6_6 (x0:Int) (x0':(List Int)) (x1:Int) (x1':(List Int)) (x2:Int) (x2':Int) (x2'':Int):runPure kf46.orc Go.Proofs.Try.prog 400 6 as6 rs6 ((x0,x0',()),(x1,x1',()),(x2,x2',x2'',()),()) [tt,ff,tt,ff,ff,ff,ff,ff,ff,tt,tt,tt,tt,tt,tt,tt,tt,tt,tt,tt,tt,tt,tt,ff,ff,ff,ff,ff,ff,ff,ff,ff,ff,ff,ff,ff,ff,ff] =
    (let r0:Bool×PUnit:=g16 ((x0,(x0',())),());let r1:(Int×List Int×PUnit)×PUnit:=g18 ((x0,(x0',())),());let r6:Int×PUnit:=g29 ((x0,(x0',())),());let r2:(Int×List Int×PUnit)×Int×PUnit:=g40 ((r1.1.1,(r1.1.2.1,())),());let r7:Bool×PUnit:=g44 ((r2.1.1,(r2.1.2.1,())),(((0:Int),(([]:List Int),())),())); some ((false,()),[(false,false),(false,false),(false,false),(false,false),(false,false),(false,false),(false,false),(false,false),(false,false),(false,false),(false,false),(r7.1,false),(r7.1,false),(r7.1,false),(r7.1,false),(eqF r2.2.1 r6.1,true),(Option.isSome (f44 ((r2.1.1,(r2.1.2.1,())),(((0:Int),(([]:List Int),())),()))),true),(eqF r2.2.1 r6.1,true),(eqF r2.2.1 r6.1,true),(eqF r2.2.1 r6.1,true),(!eqF r6.1 0,true),(Option.isSome (f29 ((x0,(x0',())),())),true),(Option.isSome (f42 ((r1.1.1,(r1.1.2.1,())),((x1,(([]:List Int),())),((x2,(x2',(x2'',()))),())))),true),(Nat.beq (List.length x1') (0:Nat),true),(Option.isSome (f18 ((x0,(x0',())),())),true),(Option.isSome (f41 ((r1.1.1,(r1.1.2.1,())),())),true),(Option.isSome (f18 ((x0,(x0',())),())),true),(Option.isSome (f40 ((r1.1.1,(r1.1.2.1,())),())),true),(Option.isSome (f18 ((x0,(x0',())),())),true),(!leF (↑(List.length x1'):Int) (26:Int),false),(!r0.1,false),(!r0.1,false),(!r0.1,false),(!r0.1,false),(!r0.1,false),(Option.isSome (f16 ((x0,(x0',())),())),true),(false,false),(true,true)])):=by kernel_rfl
theorem e6_7 (x0:Int) (x0':(List Int)) (x1:Int) (x1':(List Int)) (x2:Int) (x2':Int) (x2'':Int):runPure kf46.orc Go.Proofs.Try.prog 400 6 as6 rs6 ((x0,x0',()),(x1,x1',()),(x2,x2',x2'',()),()) [tt,ff,tt,ff,ff,ff,ff,ff,ff,tt,tt,tt,tt,tt,tt,tt,tt,tt,ff,ff,ff,ff,ff,ff,ff,ff,ff,ff,ff,ff,ff,ff,ff,ff,ff,ff,ff] =
    (let r0:Bool×PUnit:=g16 ((x0,(x0',())),());let r1:(Int×List Int×PUnit)×PUnit:=g18 ((x0,(x0',())),());let r6:Int×PUnit:=g29 ((x0,(x0',())),());let r2:(Int×List Int×PUnit)×Int×PUnit:=g40 ((r1.1.1,(r1.1.2.1,())),()); some ((false,()),[(false,false),(false,false),(false,false),(false,false),(false,false),(false,false),(false,false),(false,false),(false,false),(false,false),(false,false),(false,false),(false,false),(false,false),(false,false),(eqF r2.2.1 r6.1,false),(eqF r2.2.1 r6.1,false),(eqF r2.2.1 r6.1,false),(eqF r2.2.1 r6.1,false),(!eqF r6.1 0,true),(Option.isSome (f29 ((x0,(x0',())),())),true),(Option.isSome (f42 ((r1.1.1,(r1.1.2.1,())),((x1,(([]:List Int),())),((x2,(x2',(x2'',()))),())))),true),(Nat.beq (List.length x1') (0:Nat),true),(Option.isSome (f18 ((x0,(x0',())),())),true),(Option.isSome (f41 ((r1.1.1,(r1.1.2.1,())),())),true),(Option.isSome (f18 ((x0,(x0',())),())),true),(Option.isSome (f40 ((r1.1.1,(r1.1.2.1,())),())),true),(Option.isSome (f18 ((x0,(x0',())),())),true),(!leF (↑(List.length x1'):Int) (26:Int),false),(!r0.1,false),(!r0.1,false),(!r0.1,false),(!r0.1,false),(!r0.1,false),(Option.isSome (f16 ((x0,(x0',())),())),true),(false,false),(true,true)])):=by kernel_rfl
theorem e6_8 (x0:Int) (x0':(List Int)) (x1:Int) (x1':(List Int)) (x2:Int) (x2':Int) (x2'':Int):runPure kf46.orc Go.Proofs.Try.prog 400 6 as6 rs6 ((x0,x0',()),(x1,x1',()),(x2,x2',x2'',()),()) [tt,ff,tt,ff,ff,ff,ff,ff,ff,tt,tt,tt,tt,tt,tt,tt,tt,ff,tt,tt,tt,tt,tt,tt,tt,tt,tt,tt,tt,tt,tt,tt] =
    (let r0:Bool×PUnit:=g16 ((x0,(x0',())),());let r1:(Int×List Int×PUnit)×PUnit:=g18 ((x0,(x0',())),());let r6:Int×PUnit:=g29 ((x0,(x0',())),());let r2:(Int×List Int×PUnit)×Int×PUnit:=g40 ((r1.1.1,(r1.1.2.1,())),()); some ((false,()),[(true,true),(true,true),(true,true),(true,true),(true,true),(true,true),(true,true),(true,true),(!eqF r2.2.1 0,true),(!eqF r2.2.1 0,true),(!eqF r2.2.1 0,true),(!eqF r2.2.1 0,true),(!eqF r2.2.1 0,true),(Option.isSome (f45 (x0',())),true),(!eqF r6.1 0,false),(Option.isSome (f29 ((x0,(x0',())),())),true),(Option.isSome (f42 ((r1.1.1,(r1.1.2.1,())),((x1,(([]:List Int),())),((x2,(x2',(x2'',()))),())))),true),(Nat.beq (List.length x1') (0:Nat),true),(Option.isSome (f18 ((x0,(x0',())),())),true),(Option.isSome (f41 ((r1.1.1,(r1.1.2.1,())),())),true),(Option.isSome (f18 ((x0,(x0',())),())),true),(Option.isSome (f40 ((r1.1.1,(r1.1.2.1,())),())),true),(Option.isSome (f18 ((x0,(x0',())),())),true),(!leF (↑(List.length x1'):Int) (26:Int),false),(!r0.1,false),(!r0.1,false),(!r0.1,false),(!r0.1,false),(!r0.1,false),(Option.isSome (f16 ((x0,(x0',())),())),true),(false,false),(true,true)])):=by kernel_rfl
theorem e6_9 (x0:Int) (x0':(List Int)) (x1:Int) (x1':(List Int)) (x2:Int) (x2':Int) (x2'':Int):runPure kf46.orc Go.Proofs.Try.prog 400 6 as6 rs6 ((x0,x0',()),(x1,x1',()),(x2,x2',x2'',()),()) [tt,ff,tt,ff,ff,ff,ff,ff,ff,tt,tt,tt,tt,tt,tt,tt,tt,ff,tt,ff,ff,ff,tt,ff,ff,tt,tt,tt,tt,tt,tt,tt,tt] =
    (let r0:Bool×PUnit:=g16 ((x0,(x0',())),());let r1:(Int×List Int×PUnit)×PUnit:=g18 ((x0,(x0',())),());let r6:Int×PUnit:=g29 ((x0,(x0',())),());let r2:(Int×List Int×PUnit)×Int×PUnit:=g40 ((r1.1.1,(r1.1.2.1,())),());let r8:(Int×List Int×PUnit)×(Int×Int×Int×PUnit)×PUnit:=g45 (x0',());let r9:Bool×PUnit:=g44 ((r2.1.1,(r2.1.2.1,())),((r8.1.1,(r8.1.2.1,())),())); some ((false,()),[(true,true),(true,true),(true,true),(true,true),(true,true),(!r9.1,true),(!r9.1,true),(!r9.1,true),(!eqF r2.2.1 0,false),(!eqF r2.2.1 0,false),(Option.isSome (f44 ((r2.1.1,(r2.1.2.1,())),((r8.1.1,(r8.1.2.1,())),()))),true),(!eqF r2.2.1 0,false),(!eqF r2.2.1 0,false),(!eqF r2.2.1 0,false),(Option.isSome (f45 (x0',())),true),(!eqF r6.1 0,false),(Option.isSome (f29 ((x0,(x0',())),())),true),(Option.isSome (f42 ((r1.1.1,(r1.1.2.1,())),((x1,(([]:List Int),())),((x2,(x2',(x2'',()))),())))),true),(Nat.beq (List.length x1') (0:Nat),true),(Option.isSome (f18 ((x0,(x0',())),())),true),(Option.isSome (f41 ((r1.1.1,(r1.1.2.1,())),())),true),(Option.isSome (f18 ((x0,(x0',())),())),true),(Option.isSome (f40 ((r1.1.1,(r1.1.2.1,())),())),true),(Option.isSome (f18 ((x0,(x0',())),())),true),(!leF (↑(List.length x1'):Int) (26:Int),false),(!r0.1,false),(!r0.1,false),(!r0.1,false),(!r0.1,false),(!r0.1,false),(Option.isSome (f16 ((x0,(x0',())),())),true),(false,false),(true,true)])):=by kernel_rfl
theorem e6_10 (x0:Int) (x0':(List Int)) (x1:Int) (x1':(List Int)) (x2:Int) (x2':Int) (x2'':Int):runPure kf46.orc Go.Proofs.Try.prog 400 6 as6 rs6 ((x0,x0',()),(x1,x1',()),(x2,x2',x2'',()),()) [tt,ff,tt,ff,ff,ff,ff,ff,ff,tt,tt,tt,tt,tt,tt,tt,tt,ff,tt,ff,ff,ff,tt,ff,ff,ff,ff,ff,tt,tt,tt,tt,tt] =
    (let r0:Bool×PUnit:=g16 ((x0,(x0',())),());let r1:(Int×List Int×PUnit)×PUnit:=g18 ((x0,(x0',())),());let r6:Int×PUnit:=g29 ((x0,(x0',())),());let r2:(Int×List Int×PUnit)×Int×PUnit:=g40 ((r1.1.1,(r1.1.2.1,())),());let r8:(Int×List Int×PUnit)×(Int×Int×Int×PUnit)×PUnit:=g45 (x0',());let r9:Bool×PUnit:=g44 ((r2.1.1,(r2.1.2.1,())),((r8.1.1,(r8.1.2.1,())),()));let r3:(Int×Int×Int×PUnit)×Int×PUnit:=g41 ((r1.1.1,(r1.1.2.1,())),()); some ((false,()),[(true,true),(!eqF r3.2.1 0,true),(!eqF r3.2.1 0,true),(!eqF r3.2.1 0,true),(!eqF r3.2.1 0,true),(!r9.1,false),(!r9.1,false),(!r9.1,false),(!eqF r2.2.1 0,false),(!eqF r2.2.1 0,false),(Option.isSome (f44 ((r2.1.1,(r2.1.2.1,())),((r8.1.1,(r8.1.2.1,())),()))),true),(!eqF r2.2.1 0,false),(!eqF r2.2.1 0,false),(!eqF r2.2.1 0,false),(Option.isSome (f45 (x0',())),true),(!eqF r6.1 0,false),(Option.isSome (f29 ((x0,(x0',())),())),true),(Option.isSome (f42 ((r1.1.1,(r1.1.2.1,())),((x1,(([]:List Int),())),((x2,(x2',(x2'',()))),())))),true),(Nat.beq (List.length x1') (0:Nat),true),(Option.isSome (f18 ((x0,(x0',())),())),true),(Option.isSome (f41 ((r1.1.1,(r1.1.2.1,())),())),true),(Option.isSome (f18 ((x0,(x0',())),())),true),(Option.isSome (f40 ((r1.1.1,(r1.1.2.1,())),())),true),(Option.isSome (f18 ((x0,(x0',())),())),true),(!leF (↑(List.length x1'):Int) (26:Int),false),(!r0.1,false),(!r0.1,false),(!r0.1,false),(!r0.1,false),(!r0.1,false),(Option.isSome (f16 ((x0,(x0',())),())),true),(false,false),(true,true)])):=by kernel_rfl
theorem e6_11 (x0:Int) (x0':(List Int)) (x1:Int) (x1':(List Int)) (x2:Int) (x2':Int) (x2'':Int):runPure kf46.orc Go.Proofs.Try.prog 400 6 as6 rs6 ((x0,x0',()),(x1,x1',()),(x2,x2',x2'',()),()) [tt,ff,tt,ff,ff,ff,ff,ff,ff,tt,tt,tt,tt,tt,tt,tt,tt,ff,tt,ff,ff,ff,tt,ff,ff,ff,ff,ff,ff,ff,ff,ff,tt] =
    (let r0:Bool×PUnit:=g16 ((x0,(x0',())),());let r1:(Int×List Int×PUnit)×PUnit:=g18 ((x0,(x0',())),());let r6:Int×PUnit:=g29 ((x0,(x0',())),());let r2:(Int×List Int×PUnit)×Int×PUnit:=g40 ((r1.1.1,(r1.1.2.1,())),());let r8:(Int×List Int×PUnit)×(Int×Int×Int×PUnit)×PUnit:=g45 (x0',());let r9:Bool×PUnit:=g44 ((r2.1.1,(r2.1.2.1,())),((r8.1.1,(r8.1.2.1,())),()));let r3:(Int×Int×Int×PUnit)×Int×PUnit:=g41 ((r1.1.1,(r1.1.2.1,())),()); some ((false,()),[(!(r3.1.1 == r8.2.1.1 && (r3.1.2.1 == r8.2.1.2.1 && (r3.1.2.2.1 == r8.2.1.2.2.1 && true))),true),(!eqF r3.2.1 0,false),(!eqF r3.2.1 0,false),(!eqF r3.2.1 0,false),(!eqF r3.2.1 0,false),(!r9.1,false),(!r9.1,false),(!r9.1,false),(!eqF r2.2.1 0,false),(!eqF r2.2.1 0,false),(Option.isSome (f44 ((r2.1.1,(r2.1.2.1,())),((r8.1.1,(r8.1.2.1,())),()))),true),(!eqF r2.2.1 0,false),(!eqF r2.2.1 0,false),(!eqF r2.2.1 0,false),(Option.isSome (f45 (x0',())),true),(!eqF r6.1 0,false),(Option.isSome (f29 ((x0,(x0',())),())),true),(Option.isSome (f42 ((r1.1.1,(r1.1.2.1,())),((x1,(([]:List Int),())),((x2,(x2',(x2'',()))),())))),true),(Nat.beq (List.length x1') (0:Nat),true),(Option.isSome (f18 ((x0,(x0',())),())),true),(Option.isSome (f41 ((r1.1.1,(r1.1.2.1,())),())),true),(Option.isSome (f18 ((x0,(x0',())),())),true),(Option.isSome (f40 ((r1.1.1,(r1.1.2.1,())),())),true),(Option.isSome (f18 ((x0,(x0',())),())),true),(!leF (↑(List.length x1'):Int) (26:Int),false),(!r0.1,false),(!r0.1,false),(!r0.1,false),(!r0.1,false),(!r0.1,false),(Option.isSome (f16 ((x0,(x0',())),())),true),(false,false),(true,true)])):=by kernel_rfl
theorem e6_12 (x0:Int) (x0':(List Int)) (x1:Int) (x1':(List Int)) (x2:Int) (x2':Int) (x2'':Int):runPure kf46.orc Go.Proofs.Try.prog 400 6 as6 rs6 ((x0,x0',()),(x1,x1',()),(x2,x2',x2'',()),()) [tt,ff,tt,ff,ff,ff,ff,ff,ff,tt,tt,tt,tt,tt,tt,tt,tt,ff,tt,ff,ff,ff,tt,ff,ff,ff,ff,ff,ff,ff,ff,ff,ff,tt,tt,tt,tt,tt] =
    (let r0:Bool×PUnit:=g16 ((x0,(x0',())),());let r1:(Int×List Int×PUnit)×PUnit:=g18 ((x0,(x0',())),());let r6:Int×PUnit:=g29 ((x0,(x0',())),());let r2:(Int×List Int×PUnit)×Int×PUnit:=g40 ((r1.1.1,(r1.1.2.1,())),());let r8:(Int×List Int×PUnit)×(Int×Int×Int×PUnit)×PUnit:=g45 (x0',());let r9:Bool×PUnit:=g44 ((r2.1.1,(r2.1.2.1,())),((r8.1.1,(r8.1.2.1,())),()));let r3:(Int×Int×Int×PUnit)×Int×PUnit:=g41 ((r1.1.1,(r1.1.2.1,())),());let r4:Int×Int×PUnit:=g42 ((r1.1.1,(r1.1.2.1,())),((x1,(([]:List Int),())),((x2,(x2',(x2'',()))),())));let r10:Int×Int×PUnit:=g46 (x0',((x1,(x1',())),((x2,(x2',(x2'',()))),()))); some ((eqF r4.1 r10.1,()),[(eqF r4.2.1 r10.2.1,true),(eqF r4.2.1 r10.2.1,true),(eqF r4.2.1 r10.2.1,true),(eqF r4.2.1 r10.2.1,true),(Option.isSome (f46 (x0',((x1,(x1',())),((x2,(x2',(x2'',()))),())))),true),(!(r3.1.1 == r8.2.1.1 && (r3.1.2.1 == r8.2.1.2.1 && (r3.1.2.2.1 == r8.2.1.2.2.1 && true))),false),(!eqF r3.2.1 0,false),(!eqF r3.2.1 0,false),(!eqF r3.2.1 0,false),(!eqF r3.2.1 0,false),(!r9.1,false),(!r9.1,false),(!r9.1,false),(!eqF r2.2.1 0,false),(!eqF r2.2.1 0,false),(Option.isSome (f44 ((r2.1.1,(r2.1.2.1,())),((r8.1.1,(r8.1.2.1,())),()))),true),(!eqF r2.2.1 0,false),(!eqF r2.2.1 0,false),(!eqF r2.2.1 0,false),(Option.isSome (f45 (x0',())),true),(!eqF r6.1 0,false),(Option.isSome (f29 ((x0,(x0',())),())),true),(Option.isSome (f42 ((r1.1.1,(r1.1.2.1,())),((x1,(([]:List Int),())),((x2,(x2',(x2'',()))),())))),true),(Nat.beq (List.length x1') (0:Nat),true),(Option.isSome (f18 ((x0,(x0',())),())),true),(Option.isSome (f41 ((r1.1.1,(r1.1.2.1,())),())),true),(Option.isSome (f18 ((x0,(x0',())),())),true),(Option.isSome (f40 ((r1.1.1,(r1.1.2.1,())),())),true),(Option.isSome (f18 ((x0,(x0',())),())),true),(!leF (↑(List.length x1'):Int) (26:Int),false),(!r0.1,false),(!r0.1,false),(!r0.1,false),(!r0.1,false),(!r0.1,false),(Option.isSome (f16 ((x0,(x0',())),())),true),(false,false),(true,true)])):=by kernel_rfl
theorem e6_13 (x0:Int) (x0':(List Int)) (x1:Int) (x1':(List Int)) (x2:Int) (x2':Int) (x2'':Int):runPure kf46.orc Go.Proofs.Try.prog 400 6 as6 rs6 ((x0,x0',()),(x1,x1',()),(x2,x2',x2'',()),()) [tt,ff,tt,ff,ff,ff,ff,ff,ff,tt,tt,tt,tt,tt,tt,tt,tt,ff,tt,ff,ff,ff,tt,ff,ff,ff,ff,ff,ff,ff,ff,ff,ff,tt,ff,ff,ff,ff] =
    (let r0:Bool×PUnit:=g16 ((x0,(x0',())),());let r1:(Int×List Int×PUnit)×PUnit:=g18 ((x0,(x0',())),());let r6:Int×PUnit:=g29 ((x0,(x0',())),());let r2:(Int×List Int×PUnit)×Int×PUnit:=g40 ((r1.1.1,(r1.1.2.1,())),());let r8:(Int×List Int×PUnit)×(Int×Int×Int×PUnit)×PUnit:=g45 (x0',());let r9:Bool×PUnit:=g44 ((r2.1.1,(r2.1.2.1,())),((r8.1.1,(r8.1.2.1,())),()));let r3:(Int×Int×Int×PUnit)×Int×PUnit:=g41 ((r1.1.1,(r1.1.2.1,())),());let r4:Int×Int×PUnit:=g42 ((r1.1.1,(r1.1.2.1,())),((x1,(([]:List Int),())),((x2,(x2',(x2'',()))),())));let r10:Int×Int×PUnit:=g46 (x0',((x1,(x1',())),((x2,(x2',(x2'',()))),()))); some ((false,()),[(eqF r4.2.1 r10.2.1,false),(eqF r4.2.1 r10.2.1,false),(eqF r4.2.1 r10.2.1,false),(eqF r4.2.1 r10.2.1,false),(Option.isSome (f46 (x0',((x1,(x1',())),((x2,(x2',(x2'',()))),())))),true),(!(r3.1.1 == r8.2.1.1 && (r3.1.2.1 == r8.2.1.2.1 && (r3.1.2.2.1 == r8.2.1.2.2.1 && true))),false),(!eqF r3.2.1 0,false),(!eqF r3.2.1 0,false),(!eqF r3.2.1 0,false),(!eqF r3.2.1 0,false),(!r9.1,false),(!r9.1,false),(!r9.1,false),(!eqF r2.2.1 0,false),(!eqF r2.2.1 0,false),(Option.isSome (f44 ((r2.1.1,(r2.1.2.1,())),((r8.1.1,(r8.1.2.1,())),()))),true),(!eqF r2.2.1 0,false),(!eqF r2.2.1 0,false),(!eqF r2.2.1 0,false),(Option.isSome (f45 (x0',())),true),(!eqF r6.1 0,false),(Option.isSome (f29 ((x0,(x0',())),())),true),(Option.isSome (f42 ((r1.1.1,(r1.1.2.1,())),((x1,(([]:List Int),())),((x2,(x2',(x2'',()))),())))),true),(Nat.beq (List.length x1') (0:Nat),true),(Option.isSome (f18 ((x0,(x0',())),())),true),(Option.isSome (f41 ((r1.1.1,(r1.1.2.1,())),())),true),(Option.isSome (f18 ((x0,(x0',())),())),true),(Option.isSome (f40 ((r1.1.1,(r1.1.2.1,())),())),true),(Option.isSome (f18 ((x0,(x0',())),())),true),(!leF (↑(List.length x1'):Int) (26:Int),false),(!r0.1,false),(!r0.1,false),(!r0.1,false),(!r0.1,false),(!r0.1,false),(Option.isSome (f16 ((x0,(x0',())),())),true),(false,false),(true,true)])):=by kernel_rfl
theorem e6_15 (x0:Int) (x0':(List Int)) (x1:Int) (x1':(List Int)) (x2:Int) (x2':Int) (x2'':Int):runPure kf46.orc Go.Proofs.Try.prog 400 6 as6 rs6 ((x0,x0',()),(x1,x1',()),(x2,x2',x2'',()),()) [tt,ff,tt,ff,ff,ff,ff,ff,ff,tt,tt,tt,tt,tt,ff,ff,tt,tt,tt,tt,tt,tt,tt,tt,tt,tt,tt,tt,tt,tt,tt,tt,tt,tt,tt,tt,tt,tt,tt,tt,tt] =
    (let r0:Bool×PUnit:=g16 ((x0,(x0',())),());let r1:(Int×List Int×PUnit)×PUnit:=g18 ((x0,(x0',())),());let r6:Int×PUnit:=g29 ((x0,(x0',())),());let r2:(Int×List Int×PUnit)×Int×PUnit:=g40 ((r1.1.1,(r1.1.2.1,())),());let r7:Bool×PUnit:=g44 ((r2.1.1,(r2.1.2.1,())),(((0:Int),(([]:List Int),())),()));let r3:(Int×Int×Int×PUnit)×Int×PUnit:=g41 ((r1.1.1,(r1.1.2.1,())),());let r5:Int×Int×PUnit:=g42 ((r1.1.1,(r1.1.2.1,())),((x1,(([]++x1':List Int),())),((x2,(x2',(x2'',()))),()))); some ((eqF r5.1 0,()),[(eqF r5.2.1 r6.1,true),(eqF r5.2.1 r6.1,true),(eqF r5.2.1 r6.1,true),(r3.1.1 == (0:Int) && (r3.1.2.1 == (0:Int) && (r3.1.2.2.1 == (0:Int) && true)),true),(r3.1.1 == (0:Int) && (r3.1.2.1 == (0:Int) && (r3.1.2.2.1 == (0:Int) && true)),true),(r3.1.1 == (0:Int) && (r3.1.2.1 == (0:Int) && (r3.1.2.2.1 == (0:Int) && true)),true),(r3.1.1 == (0:Int) && (r3.1.2.1 == (0:Int) && (r3.1.2.2.1 == (0:Int) && true)),true),(eqF r3.2.1 r6.1,true),(eqF r3.2.1 r6.1,true),(eqF r3.2.1 r6.1,true),(eqF r3.2.1 r6.1,true),(r7.1,true),(r7.1,true),(r7.1,true),(r7.1,true),(eqF r2.2.1 r6.1,true),(Option.isSome (f44 ((r2.1.1,(r2.1.2.1,())),(((0:Int),(([]:List Int),())),()))),true),(eqF r2.2.1 r6.1,true),(eqF r2.2.1 r6.1,true),(eqF r2.2.1 r6.1,true),(!eqF r6.1 0,true),(Option.isSome (f29 ((x0,(x0',())),())),true),(Option.isSome (f42 ((r1.1.1,(r1.1.2.1,())),((x1,(([]++x1':List Int),())),((x2,(x2',(x2'',()))),())))),true),(Nat.beq ((0:Nat) + List.length x1') (List.length ([]++x1')),true),(Nat.ble (((2:Nat) * ((0:Nat) + List.length x1') + (192:Nat)) * (8:Nat)) (281474976710656:Nat) && Nat.ble ((0:Nat) + List.length x1') (281474976710656:Nat),true),(Nat.ble ((0:Nat) + List.length x1') (0:Nat),false),(Nat.beq (List.length x1') (0:Nat),false),(Option.isSome (f18 ((x0,(x0',())),())),true),(Option.isSome (f41 ((r1.1.1,(r1.1.2.1,())),())),true),(Option.isSome (f18 ((x0,(x0',())),())),true),(Option.isSome (f40 ((r1.1.1,(r1.1.2.1,())),())),true),(Option.isSome (f18 ((x0,(x0',())),())),true),(!leF (↑(List.length x1'):Int) (26:Int),false),(!r0.1,false),(!r0.1,false),(!r0.1,false),(!r0.1,false),(!r0.1,false),(Option.isSome (f16 ((x0,(x0',())),())),true),(false,false),(true,true)])):=by kernel_rfl
theorem e6_16 (x0:Int) (x0':(List Int)) (x1:Int) (x1':(List Int)) (x2:Int) (x2':Int) (x2'':Int):runPure kf46.orc Go.Proofs.Try.prog 400 6 as6 rs6 ((x0,x0',()),(x1,x1',()),(x2,x2',x2'',()),()) [tt,ff,tt,ff,ff,ff,ff,ff,ff,tt,tt,tt,tt,tt,ff,ff,tt,tt,tt,tt,tt,tt,tt,tt,tt,tt,tt,tt,tt,tt,tt,tt,tt,tt,tt,tt,tt,tt,ff,ff,ff] =
    (let r0:Bool×PUnit:=g16 ((x0,(x0',())),());let r1:(Int×List Int×PUnit)×PUnit:=g18 ((x0,(x0',())),());let r6:Int×PUnit:=g29 ((x0,(x0',())),());let r2:(Int×List Int×PUnit)×Int×PUnit:=g40 ((r1.1.1,(r1.1.2.1,())),());let r7:Bool×PUnit:=g44 ((r2.1.1,(r2.1.2.1,())),(((0:Int),(([]:List Int),())),()));let r3:(Int×Int×Int×PUnit)×Int×PUnit:=g41 ((r1.1.1,(r1.1.2.1,())),());let r5:Int×Int×PUnit:=g42 ((r1.1.1,(r1.1.2.1,())),((x1,(([]++x1':List Int),())),((x2,(x2',(x2'',()))),()))); some ((false,()),[(eqF r5.2.1 r6.1,false),(eqF r5.2.1 r6.1,false),(eqF r5.2.1 r6.1,false),(r3.1.1 == (0:Int) && (r3.1.2.1 == (0:Int) && (r3.1.2.2.1 == (0:Int) && true)),true),(r3.1.1 == (0:Int) && (r3.1.2.1 == (0:Int) && (r3.1.2.2.1 == (0:Int) && true)),true),(r3.1.1 == (0:Int) && (r3.1.2.1 == (0:Int) && (r3.1.2.2.1 == (0:Int) && true)),true),(r3.1.1 == (0:Int) && (r3.1.2.1 == (0:Int) && (r3.1.2.2.1 == (0:Int) && true)),true),(eqF r3.2.1 r6.1,true),(eqF r3.2.1 r6.1,true),(eqF r3.2.1 r6.1,true),(eqF r3.2.1 r6.1,true),(r7.1,true),(r7.1,true),(r7.1,true),(r7.1,true),(eqF r2.2.1 r6.1,true),(Option.isSome (f44 ((r2.1.1,(r2.1.2.1,())),(((0:Int),(([]:List Int),())),()))),true),(eqF r2.2.1 r6.1,true),(eqF r2.2.1 r6.1,true),(eqF r2.2.1 r6.1,true),(!eqF r6.1 0,true),(Option.isSome (f29 ((x0,(x0',())),())),true),(Option.isSome (f42 ((r1.1.1,(r1.1.2.1,())),((x1,(([]++x1':List Int),())),((x2,(x2',(x2'',()))),())))),true),(Nat.beq ((0:Nat) + List.length x1') (List.length ([]++x1')),true),(Nat.ble (((2:Nat) * ((0:Nat) + List.length x1') + (192:Nat)) * (8:Nat)) (281474976710656:Nat) && Nat.ble ((0:Nat) + List.length x1') (281474976710656:Nat),true),(Nat.ble ((0:Nat) + List.length x1') (0:Nat),false),(Nat.beq (List.length x1') (0:Nat),false),(Option.isSome (f18 ((x0,(x0',())),())),true),(Option.isSome (f41 ((r1.1.1,(r1.1.2.1,())),())),true),(Option.isSome (f18 ((x0,(x0',())),())),true),(Option.isSome (f40 ((r1.1.1,(r1.1.2.1,())),())),true),(Option.isSome (f18 ((x0,(x0',())),())),true),(!leF (↑(List.length x1'):Int) (26:Int),false),(!r0.1,false),(!r0.1,false),(!r0.1,false),(!r0.1,false),(!r0.1,false),(Option.isSome (f16 ((x0,(x0',())),())),true),(false,false),(true,true)])):=by kernel_rfl
theorem e6_17 (x0:Int) (x0':(List Int)) (x1:Int) (x1':(List Int)) (x2:Int) (x2':Int) (x2'':Int):runPure kf46.orc Go.Proofs.Try.prog 400 6 as6 rs6 ((x0,x0',()),(x1,x1',()),(x2,x2',x2'',()),()) [tt,ff,tt,ff,ff,ff,ff,ff,ff,tt,tt,tt,tt,tt,ff,ff,tt,tt,tt,tt,tt,tt,tt,tt,tt,tt,tt,tt,tt,tt,tt,tt,tt,tt,ff,ff,ff,ff,ff,ff,ff] =
    (let r0:Bool×PUnit:=g16 ((x0,(x0',())),());let r1:(Int×List Int×PUnit)×PUnit:=g18 ((x0,(x0',())),());let r6:Int×PUnit:=g29 ((x0,(x0',())),());let r2:(Int×List Int×PUnit)×Int×PUnit:=g40 ((r1.1.1,(r1.1.2.1,())),());let r7:Bool×PUnit:=g44 ((r2.1.1,(r2.1.2.1,())),(((0:Int),(([]:List Int),())),()));let r3:(Int×Int×Int×PUnit)×Int×PUnit:=g41 ((r1.1.1,(r1.1.2.1,())),()); some ((false,()),[(false,false),(false,false),(false,false),(r3.1.1 == (0:Int) && (r3.1.2.1 == (0:Int) && (r3.1.2.2.1 == (0:Int) && true)),false),(r3.1.1 == (0:Int) && (r3.1.2.1 == (0:Int) && (r3.1.2.2.1 == (0:Int) && true)),false),(r3.1.1 == (0:Int) && (r3.1.2.1 == (0:Int) && (r3.1.2.2.1 == (0:Int) && true)),false),(r3.1.1 == (0:Int) && (r3.1.2.1 == (0:Int) && (r3.1.2.2.1 == (0:Int) && true)),false),(eqF r3.2.1 r6.1,true),(eqF r3.2.1 r6.1,true),(eqF r3.2.1 r6.1,true),(eqF r3.2.1 r6.1,true),(r7.1,true),(r7.1,true),(r7.1,true),(r7.1,true),(eqF r2.2.1 r6.1,true),(Option.isSome (f44 ((r2.1.1,(r2.1.2.1,())),(((0:Int),(([]:List Int),())),()))),true),(eqF r2.2.1 r6.1,true),(eqF r2.2.1 r6.1,true),(eqF r2.2.1 r6.1,true),(!eqF r6.1 0,true),(Option.isSome (f29 ((x0,(x0',())),())),true),(Option.isSome (f42 ((r1.1.1,(r1.1.2.1,())),((x1,(([]++x1':List Int),())),((x2,(x2',(x2'',()))),())))),true),(Nat.beq ((0:Nat) + List.length x1') (List.length ([]++x1')),true),(Nat.ble (((2:Nat) * ((0:Nat) + List.length x1') + (192:Nat)) * (8:Nat)) (281474976710656:Nat) && Nat.ble ((0:Nat) + List.length x1') (281474976710656:Nat),true),(Nat.ble ((0:Nat) + List.length x1') (0:Nat),false),(Nat.beq (List.length x1') (0:Nat),false),(Option.isSome (f18 ((x0,(x0',())),())),true),(Option.isSome (f41 ((r1.1.1,(r1.1.2.1,())),())),true),(Option.isSome (f18 ((x0,(x0',())),())),true),(Option.isSome (f40 ((r1.1.1,(r1.1.2.1,())),())),true),(Option.isSome (f18 ((x0,(x0',())),())),true),(!leF (↑(List.length x1'):Int) (26:Int),false),(!r0.1,false),(!r0.1,false),(!r0.1,false),(!r0.1,false),(!r0.1,false),(Option.isSome (f16 ((x0,(x0',())),())),true),(false,false),(true,true)])):=by kernel_rfl
theorem e6_18 (x0:Int) (x0':(List Int)) (x1:Int) (x1':(List Int)) (x2:Int) (x2':Int) (x2'':Int):runPure kf46.orc Go.Proofs.Try.prog 400 6 as6 rs6 ((x0,x0',()),(x1,x1',()),(x2,x2',x2'',()),()) [tt,ff,tt,ff,ff,ff,ff,ff,ff,tt,tt,tt,tt,tt,ff,ff,tt,tt,tt,tt,tt,tt,tt,tt,tt,tt,tt,tt,tt,tt,ff,ff,ff,ff,ff,ff,ff,ff,ff,ff,ff] =
    (let r0:Bool×PUnit:=g16 ((x0,(x0',())),());let r1:(Int×List Int×PUnit)×PUnit:=g18 ((x0,(x0',())),());let r6:Int×PUnit:=g29 ((x0,(x0',())),());let r2:(Int×List Int×PUnit)×Int×PUnit:=g40 ((r1.1.1,(r1.1.2.1,())),());let r7:Bool×PUnit:=g44 ((r2.1.1,(r2.1.2.1,())),(((0:Int),(([]:List Int),())),()));let r3:(Int×Int×Int×PUnit)×Int×PUnit:=g41 ((r1.1.1,(r1.1.2.1,())),()); some ((false,()),[(false,false),(false,false),(false,false),(false,false),(false,false),(false,false),(false,false),(eqF r3.2.1 r6.1,false),(eqF r3.2.1 r6.1,false),(eqF r3.2.1 r6.1,false),(eqF r3.2.1 r6.1,false),(r7.1,true),(r7.1,true),(r7.1,true),(r7.1,true),(eqF r2.2.1 r6.1,true),(Option.isSome (f44 ((r2.1.1,(r2.1.2.1,())),(((0:Int),(([]:List Int),())),()))),true),(eqF r2.2.1 r6.1,true),(eqF r2.2.1 r6.1,true),(eqF r2.2.1 r6.1,true),(!eqF r6.1 0,true),(Option.isSome (f29 ((x0,(x0',())),())),true),(Option.isSome (f42 ((r1.1.1,(r1.1.2.1,())),((x1,(([]++x1':List Int),())),((x2,(x2',(x2'',()))),())))),true),(Nat.beq ((0:Nat) + List.length x1') (List.length ([]++x1')),true),(Nat.ble (((2:Nat) * ((0:Nat) + List.length x1') + (192:Nat)) * (8:Nat)) (281474976710656:Nat) && Nat.ble ((0:Nat) + List.length x1') (281474976710656:Nat),true),(Nat.ble ((0:Nat) + List.length x1') (0:Nat),false),(Nat.beq (List.length x1') (0:Nat),false),(Option.isSome (f18 ((x0,(x0',())),())),true),(Option.isSome (f41 ((r1.1.1,(r1.1.2.1,())),())),true),(Option.isSome (f18 ((x0,(x0',())),())),true),(Option.isSome (f40 ((r1.1.1,(r1.1.2.1,())),())),true),(Option.isSome (f18 ((x0,(x0',())),())),true),(!leF (↑(List.length x1'):Int) (26:Int),false),(!r0.1,false),(!r0.1,false),(!r0.1,false),(!r0.1,false),(!r0.1,false),(Option.isSome (f16 ((x0,(x0',())),())),true),(false,false),(true,true)])):=by kernel_rfl
theorem e6_19 (x0:Int) (x0':(List Int)) (x1:Int) (x1':(List Int)) (x2:Int) (x2':Int) (x2'':Int):runPure kf46.orc Go.Proofs.Try.prog 400 6 as6 rs6 ((x0,x0',()),(x1,x1',()),(x2,x2',x2'',()),()) [tt,ff,tt,ff,ff,ff,ff,ff,ff,tt,tt,tt,tt,tt,ff,ff,tt,tt,tt,tt,tt,tt,tt,tt,tt,tt,ff,ff,ff,ff,ff,ff,ff,ff,ff,ff,ff,ff,ff,ff,ff] =
    (let r0:Bool×PUnit:=g16 ((x0,(x0',())),());let r1:(Int×List Int×PUnit)×PUnit:=g18 ((x0,(x0',())),());let r6:Int×PUnit:=g29 ((x0,(x0',())),());let r2:(Int×List Int×PUnit)×Int×PUnit:=g40 ((r1.1.1,(r1.1.2.1,())),());let r7:Bool×PUnit:=g44 ((r2.1.1,(r2.1.2.1,())),(((0:Int),(([]:List Int),())),())); some ((false,()),[(false,false),(false,false),(false,false),(false,false),(false,false),(false,false),(false,false),(false,false),(false,false),(false,false),(false,false),(r7.1,false),(r7.1,false),(r7.1,false),(r7.1,false),(eqF r2.2.1 r6.1,true),(Option.isSome (f44 ((r2.1.1,(r2.1.2.1,())),(((0:Int),(([]:List Int),())),()))),true),(eqF r2.2.1 r6.1,true),(eqF r2.2.1 r6.1,true),(eqF r2.2.1 r6.1,true),(!eqF r6.1 0,true),(Option.isSome (f29 ((x0,(x0',())),())),true),(Option.isSome (f42 ((r1.1.1,(r1.1.2.1,())),((x1,(([]++x1':List Int),())),((x2,(x2',(x2'',()))),())))),true),(Nat.beq ((0:Nat) + List.length x1') (List.length ([]++x1')),true),(Nat.ble (((2:Nat) * ((0:Nat) + List.length x1') + (192:Nat)) * (8:Nat)) (281474976710656:Nat) && Nat.ble ((0:Nat) + List.length x1') (281474976710656:Nat),true),(Nat.ble ((0:Nat) + List.length x1') (0:Nat),false),(Nat.beq (List.length x1') (0:Nat),false),(Option.isSome (f18 ((x0,(x0',())),())),true),(Option.isSome (f41 ((r1.1.1,(r1.1.2.1,())),())),true),(Option.isSome (f18 ((x0,(x0',())),())),true),(Option.isSome (f40 ((r1.1.1,(r1.1.2.1,())),())),true),(Option.isSome (f18 ((x0,(x0',())),())),true),(!leF (↑(List.length x1'):Int) (26:Int),false),(!r0.1,false),(!r0.1,false),(!r0.1,false),(!r0.1,false),(!r0.1,false),(Option.isSome (f16 ((x0,(x0',())),())),true),(false,false),(true,true)])):=by kernel_rfl
theorem e6_20 (x0:Int) (x0':(List Int)) (x1:Int) (x1':(List Int)) (x2:Int) (x2':Int) (x2'':Int):runPure kf46.orc Go.Proofs.Try.prog 400 6 as6 rs6 ((x0,x0',()),(x1,x1',()),(x2,x2',x2'',()),()) [tt,ff,tt,ff,ff,ff,ff,ff,ff,tt,tt,tt,tt,tt,ff,ff,tt,tt,tt,tt,tt,ff,ff,ff,ff,ff,ff,ff,ff,ff,ff,ff,ff,ff,ff,ff,ff,ff,ff,ff] =
    (let r0:Bool×PUnit:=g16 ((x0,(x0',())),());let r1:(Int×List Int×PUnit)×PUnit:=g18 ((x0,(x0',())),());let r6:Int×PUnit:=g29 ((x0,(x0',())),());let r2:(Int×List Int×PUnit)×Int×PUnit:=g40 ((r1.1.1,(r1.1.2.1,())),()); some ((false,()),[(false,false),(false,false),(false,false),(false,false),(false,false),(false,false),(false,false),(false,false),(false,false),(false,false),(false,false),(false,false),(false,false),(false,false),(false,false),(eqF r2.2.1 r6.1,false),(eqF r2.2.1 r6.1,false),(eqF r2.2.1 r6.1,false),(eqF r2.2.1 r6.1,false),(!eqF r6.1 0,true),(Option.isSome (f29 ((x0,(x0',())),())),true),(Option.isSome (f42 ((r1.1.1,(r1.1.2.1,())),((x1,(([]++x1':List Int),())),((x2,(x2',(x2'',()))),())))),true),(Nat.beq ((0:Nat) + List.length x1') (List.length ([]++x1')),true),(Nat.ble (((2:Nat) * ((0:Nat) + List.length x1') + (192:Nat)) * (8:Nat)) (281474976710656:Nat) && Nat.ble ((0:Nat) + List.length x1') (281474976710656:Nat),true),(Nat.ble ((0:Nat) + List.length x1') (0:Nat),false),(Nat.beq (List.length x1') (0:Nat),false),(Option.isSome (f18 ((x0,(x0',())),())),true),(Option.isSome (f41 ((r1.1.1,(r1.1.2.1,())),())),true),(Option.isSome (f18 ((x0,(x0',())),())),true),(Option.isSome (f40 ((r1.1.1,(r1.1.2.1,())),())),true),(Option.isSome (f18 ((x0,(x0',())),())),true),(!leF (↑(List.length x1'):Int) (26:Int),false),(!r0.1,false),(!r0.1,false),(!r0.1,false),(!r0.1,false),(!r0.1,false),(Option.isSome (f16 ((x0,(x0',())),())),true),(false,false),(true,true)])):=by kernel_rfl
theorem e6_21 (x0:Int) (x0':(List Int)) (x1:Int) (x1':(List Int)) (x2:Int) (x2':Int) (x2'':Int):runPure kf46.orc Go.Proofs.Try.prog 400 6 as6 rs6 ((x0,x0',()),(x1,x1',()),(x2,x2',x2'',()),()) [tt,ff,tt,ff,ff,ff,ff,ff,ff,tt,tt,tt,tt,tt,ff,ff,tt,tt,tt,tt,ff,tt,tt,tt,tt,tt,tt,tt,tt,tt,tt,tt,tt,tt,tt] =
    (let r0:Bool×PUnit:=g16 ((x0,(x0',())),());let r1:(Int×List Int×PUnit)×PUnit:=g18 ((x0,(x0',())),());let r6:Int×PUnit:=g29 ((x0,(x0',())),());let r2:(Int×List Int×PUnit)×Int×PUnit:=g40 ((r1.1.1,(r1.1.2.1,())),()); some ((false,()),[(true,true),(true,true),(true,true),(true,true),(true,true),(true,true),(true,true),(true,true),(!eqF r2.2.1 0,true),(!eqF r2.2.1 0,true),(!eqF r2.2.1 0,true),(!eqF r2.2.1 0,true),(!eqF r2.2.1 0,true),(Option.isSome (f45 (x0',())),true),(!eqF r6.1 0,false),(Option.isSome (f29 ((x0,(x0',())),())),true),(Option.isSome (f42 ((r1.1.1,(r1.1.2.1,())),((x1,(([]++x1':List Int),())),((x2,(x2',(x2'',()))),())))),true),(Nat.beq ((0:Nat) + List.length x1') (List.length ([]++x1')),true),(Nat.ble (((2:Nat) * ((0:Nat) + List.length x1') + (192:Nat)) * (8:Nat)) (281474976710656:Nat) && Nat.ble ((0:Nat) + List.length x1') (281474976710656:Nat),true),(Nat.ble ((0:Nat) + List.length x1') (0:Nat),false),(Nat.beq (List.length x1') (0:Nat),false),(Option.isSome (f18 ((x0,(x0',())),())),true),(Option.isSome (f41 ((r1.1.1,(r1.1.2.1,())),())),true),(Option.isSome (f18 ((x0,(x0',())),())),true),(Option.isSome (f40 ((r1.1.1,(r1.1.2.1,())),())),true),(Option.isSome (f18 ((x0,(x0',())),())),true),(!leF (↑(List.length x1'):Int) (26:Int),false),(!r0.1,false),(!r0.1,false),(!r0.1,false),(!r0.1,false),(!r0.1,false),(Option.isSome (f16 ((x0,(x0',())),())),true),(false,false),(true,true)])):=by kernel_rfl
theorem e6_22 (x0:Int) (x0':(List Int)) (x1:Int) (x1':(List Int)) (x2:Int) (x2':Int) (x2'':Int):runPure kf46.orc Go.Proofs.Try.prog 400 6 as6 rs6 ((x0,x0',()),(x1,x1',()),(x2,x2',x2'',()),()) [tt,ff,tt,ff,ff,ff,ff,ff,ff,tt,tt,tt,tt,tt,ff,ff,tt,tt,tt,tt,ff,tt,ff,ff,ff,tt,ff,ff,tt,tt,tt,tt,tt,tt,tt,tt] =
    (let r0:Bool×PUnit:=g16 ((x0,(x0',())),());let r1:(Int×List Int×PUnit)×PUnit:=g18 ((x0,(x0',())),());let r6:Int×PUnit:=g29 ((x0,(x0',())),());let r2:(Int×List Int×PUnit)×Int×PUnit:=g40 ((r1.1.1,(r1.1.2.1,())),());let r8:(Int×List Int×PUnit)×(Int×Int×Int×PUnit)×PUnit:=g45 (x0',());let r9:Bool×PUnit:=g44 ((r2.1.1,(r2.1.2.1,())),((r8.1.1,(r8.1.2.1,())),())); some ((false,()),[(true,true),(true,true),(true,true),(true,true),(true,true),(!r9.1,true),(!r9.1,true),(!r9.1,true),(!eqF r2.2.1 0,false),(!eqF r2.2.1 0,false),(Option.isSome (f44 ((r2.1.1,(r2.1.2.1,())),((r8.1.1,(r8.1.2.1,())),()))),true),(!eqF r2.2.1 0,false),(!eqF r2.2.1 0,false),(!eqF r2.2.1 0,false),(Option.isSome (f45 (x0',())),true),(!eqF r6.1 0,false),(Option.isSome (f29 ((x0,(x0',())),())),true),(Option.isSome (f42 ((r1.1.1,(r1.1.2.1,())),((x1,(([]++x1':List Int),())),((x2,(x2',(x2'',()))),())))),true),(Nat.beq ((0:Nat) + List.length x1') (List.length ([]++x1')),true),(Nat.ble (((2:Nat) * ((0:Nat) + List.length x1') + (192:Nat)) * (8:Nat)) (281474976710656:Nat) && Nat.ble ((0:Nat) + List.length x1') (281474976710656:Nat),true),(Nat.ble ((0:Nat) + List.length x1') (0:Nat),false),(Nat.beq (List.length x1') (0:Nat),false),(Option.isSome (f18 ((x0,(x0',())),())),true),(Option.isSome (f41 ((r1.1.1,(r1.1.2.1,())),())),true),(Option.isSome (f18 ((x0,(x0',())),())),true),(Option.isSome (f40 ((r1.1.1,(r1.1.2.1,())),())),true),(Option.isSome (f18 ((x0,(x0',())),())),true),(!leF (↑(List.length x1'):Int) (26:Int),false),(!r0.1,false),(!r0.1,false),(!r0.1,false),(!r0.1,false),(!r0.1,false),(Option.isSome (f16 ((x0,(x0',())),())),true),(false,false),(true,true)])):=by kernel_rfl
theorem e6_23 (x0:Int) (x0':(List Int)) (x1:Int) (x1':(List Int)) (x2:Int) (x2':Int) (x2'':Int):runPure kf46.orc Go.Proofs.Try.prog 400 6 as6 rs6 ((x0,x0',()),(x1,x1',()),(x2,x2',x2'',()),()) [tt,ff,tt,ff,ff,ff,ff,ff,ff,tt,tt,tt,tt,tt,ff,ff,tt,tt,tt,tt,ff,tt,ff,ff,ff,tt,ff,ff,ff,ff,ff,tt,tt,tt,tt,tt] =
    (let r0:Bool×PUnit:=g16 ((x0,(x0',())),());let r1:(Int×List Int×PUnit)×PUnit:=g18 ((x0,(x0',())),());let r6:Int×PUnit:=g29 ((x0,(x0',())),());let r2:(Int×List Int×PUnit)×Int×PUnit:=g40 ((r1.1.1,(r1.1.2.1,())),());let r8:(Int×List Int×PUnit)×(Int×Int×Int×PUnit)×PUnit:=g45 (x0',());let r9:Bool×PUnit:=g44 ((r2.1.1,(r2.1.2.1,())),((r8.1.1,(r8.1.2.1,())),()));let r3:(Int×Int×Int×PUnit)×Int×PUnit:=g41 ((r1.1.1,(r1.1.2.1,())),()); some ((false,()),[(true,true),(!eqF r3.2.1 0,true),(!eqF r3.2.1 0,true),(!eqF r3.2.1 0,true),(!eqF r3.2.1 0,true),(!r9.1,false),(!r9.1,false),(!r9.1,false),(!eqF r2.2.1 0,false),(!eqF r2.2.1 0,false),(Option.isSome (f44 ((r2.1.1,(r2.1.2.1,())),((r8.1.1,(r8.1.2.1,())),()))),true),(!eqF r2.2.1 0,false),(!eqF r2.2.1 0,false),(!eqF r2.2.1 0,false),(Option.isSome (f45 (x0',())),true),(!eqF r6.1 0,false),(Option.isSome (f29 ((x0,(x0',())),())),true),(Option.isSome (f42 ((r1.1.1,(r1.1.2.1,())),((x1,(([]++x1':List Int),())),((x2,(x2',(x2'',()))),())))),true),(Nat.beq ((0:Nat) + List.length x1') (List.length ([]++x1')),true),(Nat.ble (((2:Nat) * ((0:Nat) + List.length x1') + (192:Nat)) * (8:Nat)) (281474976710656:Nat) && Nat.ble ((0:Nat) + List.length x1') (281474976710656:Nat),true),(Nat.ble ((0:Nat) + List.length x1') (0:Nat),false),(Nat.beq (List.length x1') (0:Nat),false),(Option.isSome (f18 ((x0,(x0',())),())),true),(Option.isSome (f41 ((r1.1.1,(r1.1.2.1,())),())),true),(Option.isSome (f18 ((x0,(x0',())),())),true),(Option.isSome (f40 ((r1.1.1,(r1.1.2.1,())),())),true),(Option.isSome (f18 ((x0,(x0',())),())),true),(!leF (↑(List.length x1'):Int) (26:Int),false),(!r0.1,false),(!r0.1,false),(!r0.1,false),(!r0.1,false),(!r0.1,false),(Option.isSome (f16 ((x0,(x0',())),())),true),(false,false),(true,true)])):=by kernel_rfl
theorem e6_24 (x0:Int) (x0':(List Int)) (x1:Int) (x1':(List Int)) (x2:Int) (x2':Int) (x2'':Int):runPure kf46.orc Go.Proofs.Try.prog 400 6 as6 rs6 ((x0,x0',()),(x1,x1',()),(x2,x2',x2'',()),()) [tt,ff,tt,ff,ff,ff,ff,ff,ff,tt,tt,tt,tt,tt,ff,ff,tt,tt,tt,tt,ff,tt,ff,ff,ff,tt,ff,ff,ff,ff,ff,ff,ff,ff,ff,tt] =
    (let r0:Bool×PUnit:=g16 ((x0,(x0',())),());let r1:(Int×List Int×PUnit)×PUnit:=g18 ((x0,(x0',())),());let r6:Int×PUnit:=g29 ((x0,(x0',())),());let r2:(Int×List Int×PUnit)×Int×PUnit:=g40 ((r1.1.1,(r1.1.2.1,())),());let r8:(Int×List Int×PUnit)×(Int×Int×Int×PUnit)×PUnit:=g45 (x0',());let r9:Bool×PUnit:=g44 ((r2.1.1,(r2.1.2.1,())),((r8.1.1,(r8.1.2.1,())),()));let r3:(Int×Int×Int×PUnit)×Int×PUnit:=g41 ((r1.1.1,(r1.1.2.1,())),()); some ((false,()),[(!(r3.1.1 == r8.2.1.1 && (r3.1.2.1 == r8.2.1.2.1 && (r3.1.2.2.1 == r8.2.1.2.2.1 && true))),true),(!eqF r3.2.1 0,false),(!eqF r3.2.1 0,false),(!eqF r3.2.1 0,false),(!eqF r3.2.1 0,false),(!r9.1,false),(!r9.1,false),(!r9.1,false),(!eqF r2.2.1 0,false),(!eqF r2.2.1 0,false),(Option.isSome (f44 ((r2.1.1,(r2.1.2.1,())),((r8.1.1,(r8.1.2.1,())),()))),true),(!eqF r2.2.1 0,false),(!eqF r2.2.1 0,false),(!eqF r2.2.1 0,false),(Option.isSome (f45 (x0',())),true),(!eqF r6.1 0,false),(Option.isSome (f29 ((x0,(x0',())),())),true),(Option.isSome (f42 ((r1.1.1,(r1.1.2.1,())),((x1,(([]++x1':List Int),())),((x2,(x2',(x2'',()))),())))),true),(Nat.beq ((0:Nat) + List.length x1') (List.length ([]++x1')),true),(Nat.ble (((2:Nat) * ((0:Nat) + List.length x1') + (192:Nat)) * (8:Nat)) (281474976710656:Nat) && Nat.ble ((0:Nat) + List.length x1') (281474976710656:Nat),true),(Nat.ble ((0:Nat) + List.length x1') (0:Nat),false),(Nat.beq (List.length x1') (0:Nat),false),(Option.isSome (f18 ((x0,(x0',())),())),true),(Option.isSome (f41 ((r1.1.1,(r1.1.2.1,())),())),true),(Option.isSome (f18 ((x0,(x0',())),())),true),(Option.isSome (f40 ((r1.1.1,(r1.1.2.1,())),())),true),(Option.isSome (f18 ((x0,(x0',())),())),true),(!leF (↑(List.length x1'):Int) (26:Int),false),(!r0.1,false),(!r0.1,false),(!r0.1,false),(!r0.1,false),(!r0.1,false),(Option.isSome (f16 ((x0,(x0',())),())),true),(false,false),(true,true)])):=by kernel_rfl
theorem e6_25 (x0:Int) (x0':(List Int)) (x1:Int) (x1':(List Int)) (x2:Int) (x2':Int) (x2'':Int):runPure kf46.orc Go.Proofs.Try.prog 400 6 as6 rs6 ((x0,x0',()),(x1,x1',()),(x2,x2',x2'',()),()) [tt,ff,tt,ff,ff,ff,ff,ff,ff,tt,tt,tt,tt,tt,ff,ff,tt,tt,tt,tt,ff,tt,ff,ff,ff,tt,ff,ff,ff,ff,ff,ff,ff,ff,ff,ff,tt,tt,tt,tt,tt] =
    (let r0:Bool×PUnit:=g16 ((x0,(x0',())),());let r1:(Int×List Int×PUnit)×PUnit:=g18 ((x0,(x0',())),());let r6:Int×PUnit:=g29 ((x0,(x0',())),());let r2:(Int×List Int×PUnit)×Int×PUnit:=g40 ((r1.1.1,(r1.1.2.1,())),());let r8:(Int×List Int×PUnit)×(Int×Int×Int×PUnit)×PUnit:=g45 (x0',());let r9:Bool×PUnit:=g44 ((r2.1.1,(r2.1.2.1,())),((r8.1.1,(r8.1.2.1,())),()));let r3:(Int×Int×Int×PUnit)×Int×PUnit:=g41 ((r1.1.1,(r1.1.2.1,())),());let r5:Int×Int×PUnit:=g42 ((r1.1.1,(r1.1.2.1,())),((x1,(([]++x1':List Int),())),((x2,(x2',(x2'',()))),())));let r10:Int×Int×PUnit:=g46 (x0',((x1,(x1',())),((x2,(x2',(x2'',()))),()))); some ((eqF r5.1 r10.1,()),[(eqF r5.2.1 r10.2.1,true),(eqF r5.2.1 r10.2.1,true),(eqF r5.2.1 r10.2.1,true),(eqF r5.2.1 r10.2.1,true),(Option.isSome (f46 (x0',((x1,(x1',())),((x2,(x2',(x2'',()))),())))),true),(!(r3.1.1 == r8.2.1.1 && (r3.1.2.1 == r8.2.1.2.1 && (r3.1.2.2.1 == r8.2.1.2.2.1 && true))),false),(!eqF r3.2.1 0,false),(!eqF r3.2.1 0,false),(!eqF r3.2.1 0,false),(!eqF r3.2.1 0,false),(!r9.1,false),(!r9.1,false),(!r9.1,false),(!eqF r2.2.1 0,false),(!eqF r2.2.1 0,false),(Option.isSome (f44 ((r2.1.1,(r2.1.2.1,())),((r8.1.1,(r8.1.2.1,())),()))),true),(!eqF r2.2.1 0,false),(!eqF r2.2.1 0,false),(!eqF r2.2.1 0,false),(Option.isSome (f45 (x0',())),true),(!eqF r6.1 0,false),(Option.isSome (f29 ((x0,(x0',())),())),true),(Option.isSome (f42 ((r1.1.1,(r1.1.2.1,())),((x1,(([]++x1':List Int),())),((x2,(x2',(x2'',()))),())))),true),(Nat.beq ((0:Nat) + List.length x1') (List.length ([]++x1')),true),(Nat.ble (((2:Nat) * ((0:Nat) + List.length x1') + (192:Nat)) * (8:Nat)) (281474976710656:Nat) && Nat.ble ((0:Nat) + List.length x1') (281474976710656:Nat),true),(Nat.ble ((0:Nat) + List.length x1') (0:Nat),false),(Nat.beq (List.length x1') (0:Nat),false),(Option.isSome (f18 ((x0,(x0',())),())),true),(Option.isSome (f41 ((r1.1.1,(r1.1.2.1,())),())),true),(Option.isSome (f18 ((x0,(x0',())),())),true),(Option.isSome (f40 ((r1.1.1,(r1.1.2.1,())),())),true),(Option.isSome (f18 ((x0,(x0',())),())),true),(!leF (↑(List.length x1'):Int) (26:Int),false),(!r0.1,false),(!r0.1,false),(!r0.1,false),(!r0.1,false),(!r0.1,false),(Option.isSome (f16 ((x0,(x0',())),())),true),(false,false),(true,true)])):=by kernel_rfl
theorem e6_26 (x0:Int) (x0':(List Int)) (x1:Int) (x1':(List Int)) (x2:Int) (x2':Int) (x2'':Int):runPure kf46.orc Go.Proofs.Try.prog 400 6 as6 rs6 ((x0,x0',()),(x1,x1',()),(x2,x2',x2'',()),()) [tt,ff,tt,ff,ff,ff,ff,ff,ff,tt,tt,tt,tt,tt,ff,ff,tt,tt,tt,tt,ff,tt,ff,ff,ff,tt,ff,ff,ff,ff,ff,ff,ff,ff,ff,ff,tt,ff,ff,ff,ff] =
    (let r0:Bool×PUnit:=g16 ((x0,(x0',())),());let r1:(Int×List Int×PUnit)×PUnit:=g18 ((x0,(x0',())),());let r6:Int×PUnit:=g29 ((x0,(x0',())),());let r2:(Int×List Int×PUnit)×Int×PUnit:=g40 ((r1.1.1,(r1.1.2.1,())),());let r8:(Int×List Int×PUnit)×(Int×Int×Int×PUnit)×PUnit:=g45 (x0',());let r9:Bool×PUnit:=g44 ((r2.1.1,(r2.1.2.1,())),((r8.1.1,(r8.1.2.1,())),()));let r3:(Int×Int×Int×PUnit)×Int×PUnit:=g41 ((r1.1.1,(r1.1.2.1,())),());let r5:Int×Int×PUnit:=g42 ((r1.1.1,(r1.1.2.1,())),((x1,(([]++x1':List Int),())),((x2,(x2',(x2'',()))),())));let r10:Int×Int×PUnit:=g46 (x0',((x1,(x1',())),((x2,(x2',(x2'',()))),()))); some ((false,()),[(eqF r5.2.1 r10.2.1,false),(eqF r5.2.1 r10.2.1,false),(eqF r5.2.1 r10.2.1,false),(eqF r5.2.1 r10.2.1,false),(Option.isSome (f46 (x0',((x1,(x1',())),((x2,(x2',(x2'',()))),())))),true),(!(r3.1.1 == r8.2.1.1 && (r3.1.2.1 == r8.2.1.2.1 && (r3.1.2.2.1 == r8.2.1.2.2.1 && true))),false),(!eqF r3.2.1 0,false),(!eqF r3.2.1 0,false),(!eqF r3.2.1 0,false),(!eqF r3.2.1 0,false),(!r9.1,false),(!r9.1,false),(!r9.1,false),(!eqF r2.2.1 0,false),(!eqF r2.2.1 0,false),(Option.isSome (f44 ((r2.1.1,(r2.1.2.1,())),((r8.1.1,(r8.1.2.1,())),()))),true),(!eqF r2.2.1 0,false),(!eqF r2.2.1 0,false),(!eqF r2.2.1 0,false),(Option.isSome (f45 (x0',())),true),(!eqF r6.1 0,false),(Option.isSome (f29 ((x0,(x0',())),())),true),(Option.isSome (f42 ((r1.1.1,(r1.1.2.1,())),((x1,(([]++x1':List Int),())),((x2,(x2',(x2'',()))),())))),true),(Nat.beq ((0:Nat) + List.length x1') (List.length ([]++x1')),true),(Nat.ble (((2:Nat) * ((0:Nat) + List.length x1') + (192:Nat)) * (8:Nat)) (281474976710656:Nat) && Nat.ble ((0:Nat) + List.length x1') (281474976710656:Nat),true),(Nat.ble ((0:Nat) + List.length x1') (0:Nat),false),(Nat.beq (List.length x1') (0:Nat),false),(Option.isSome (f18 ((x0,(x0',())),())),true),(Option.isSome (f41 ((r1.1.1,(r1.1.2.1,())),())),true),(Option.isSome (f18 ((x0,(x0',())),())),true),(Option.isSome (f40 ((r1.1.1,(r1.1.2.1,())),())),true),(Option.isSome (f18 ((x0,(x0',())),())),true),(!leF (↑(List.length x1'):Int) (26:Int),false),(!r0.1,false),(!r0.1,false),(!r0.1,false),(!r0.1,false),(!r0.1,false),(Option.isSome (f16 ((x0,(x0',())),())),true),(false,false),(true,true)])):=by kernel_rfl

set_option maxRecDepth 100000 in
theorem ok6_t (x0:Int) (x0':(List Int)) (x1:Int) (x1':(List Int)) (x2:Int) (x2':Int) (x2'':Int):TrOk (PureRuns Go.Proofs.Try.prog kf46.orc 6 as6 rs6 ((x0,x0',()),(x1,x1',()),(x2,x2',x2'',()),())) (t6 x0 x0' x1 x1' x2 x2' x2'') :=
  TrOk.ofTest (fun h2=>TrOk.ofTest (fun h3=>TrOk.ofFin (PureRuns.of (e6_0 x0 x0' x1 x1' x2 x2' x2'') (ac rfl (ac (nn h3) (ac (nn h3) (ac (nn h3) (ac (nn h3) (ac h3 (ac h2 (ac rfl (ac rfl All.nil))))))))))) (fun h3=>TrOk.ofTest (fun h8=>TrOk.ofFin (PureRuns.of (e6_1 x0 x0' x1 x1' x2 x2' x2'') (ac h8 (ac (nn h3) (ac (nn h3) (ac (nn h3) (ac (nn h3) (ac h3 (ac h2 (ac rfl (ac rfl All.nil))))))))))) (fun h8=>TrOk.ofTest (fun h9=>TrOk.ofTest (fun h10=>TrOk.ofTest (fun h12=>TrOk.ofTest (fun h14=>TrOk.ofTest (fun h15=>TrOk.ofTest (fun h16=>TrOk.ofTest (fun h17=>TrOk.ofTest (fun h18=>TrOk.ofTest (fun h21=>TrOk.ofTest (fun h23=>TrOk.ofTest (fun h27=>TrOk.ofTest (fun h31=>TrOk.ofTest (fun h35=>TrOk.ofFin (PureRuns.of (e6_2 x0 x0' x1 x1' x2 x2' x2'') (ac h35 (ac h35 (ac h35 (ac h31 (ac h31 (ac h31 (ac h31 (ac h27 (ac h27 (ac h27 (ac h27 (ac h23 (ac h23 (ac h23 (ac h23 (ac h18 (ac h21 (ac h18 (ac h18 (ac h18 (ac h17 (ac h16 (ac h15 (ac h14 (ac h9 (ac h12 (ac h9 (ac h10 (ac h9 (ac h8 (ac (nn h3) (ac (nn h3) (ac (nn h3) (ac (nn h3) (ac h3 (ac h2 (ac rfl (ac rfl All.nil)))))))))))))))))))))))))))))))))))))))) (fun h35=>TrOk.ofFin (PureRuns.of (e6_3 x0 x0' x1 x1' x2 x2' x2'') (ac h35 (ac h35 (ac h35 (ac h31 (ac h31 (ac h31 (ac h31 (ac h27 (ac h27 (ac h27 (ac h27 (ac h23 (ac h23 (ac h23 (ac h23 (ac h18 (ac h21 (ac h18 (ac h18 (ac h18 (ac h17 (ac h16 (ac h15 (ac h14 (ac h9 (ac h12 (ac h9 (ac h10 (ac h9 (ac h8 (ac (nn h3) (ac (nn h3) (ac (nn h3) (ac (nn h3) (ac h3 (ac h2 (ac rfl (ac rfl All.nil))))))))))))))))))))))))))))))))))))))))) (fun h31=>TrOk.ofFin (PureRuns.of (e6_4 x0 x0' x1 x1' x2 x2' x2'') (ac rfl (ac rfl (ac rfl (ac h31 (ac h31 (ac h31 (ac h31 (ac h27 (ac h27 (ac h27 (ac h27 (ac h23 (ac h23 (ac h23 (ac h23 (ac h18 (ac h21 (ac h18 (ac h18 (ac h18 (ac h17 (ac h16 (ac h15 (ac h14 (ac h9 (ac h12 (ac h9 (ac h10 (ac h9 (ac h8 (ac (nn h3) (ac (nn h3) (ac (nn h3) (ac (nn h3) (ac h3 (ac h2 (ac rfl (ac rfl All.nil))))))))))))))))))))))))))))))))))))))))) (fun h27=>TrOk.ofFin (PureRuns.of (e6_5 x0 x0' x1 x1' x2 x2' x2'') (ac rfl (ac rfl (ac rfl (ac rfl (ac rfl (ac rfl (ac rfl (ac h27 (ac h27 (ac h27 (ac h27 (ac h23 (ac h23 (ac h23 (ac h23 (ac h18 (ac h21 (ac h18 (ac h18 (ac h18 (ac h17 (ac h16 (ac h15 (ac h14 (ac h9 (ac h12 (ac h9 (ac h10 (ac h9 (ac h8 (ac (nn h3) (ac (nn h3) (ac (nn h3) (ac (nn h3) (ac h3 (ac h2 (ac rfl (ac rfl All.nil))))))))))))))))))))))))))))))))))))))))) (fun h23=>TrOk.ofFin (PureRuns.of (e6_6 x0 x0' x1 x1' x2 x2' x2'') (ac rfl (ac rfl (ac rfl (ac rfl (ac rfl (ac rfl (ac rfl (ac rfl (ac rfl (ac rfl (ac rfl (ac h23 (ac h23 (ac h23 (ac h23 (ac h18 (ac h21 (ac h18 (ac h18 (ac h18 (ac h17 (ac h16 (ac h15 (ac h14 (ac h9 (ac h12 (ac h9 (ac h10 (ac h9 (ac h8 (ac (nn h3) (ac (nn h3) (ac (nn h3) (ac (nn h3) (ac h3 (ac h2 (ac rfl (ac rfl All.nil))))))))))))))))))))))))))))))))))))))))) (fun h21=>TrOk.ofStop)) (fun h18=>TrOk.ofFin (PureRuns.of (e6_7 x0 x0' x1 x1' x2 x2' x2'') (ac rfl (ac rfl (ac rfl (ac rfl (ac rfl (ac rfl (ac rfl (ac rfl (ac rfl (ac rfl (ac rfl (ac rfl (ac rfl (ac rfl (ac rfl (ac h18 (ac h18 (ac h18 (ac h18 (ac h17 (ac h16 (ac h15 (ac h14 (ac h9 (ac h12 (ac h9 (ac h10 (ac h9 (ac h8 (ac (nn h3) (ac (nn h3) (ac (nn h3) (ac (nn h3) (ac h3 (ac h2 (ac rfl (ac rfl All.nil)))))))))))))))))))))))))))))))))))))))) (fun h17=>TrOk.ofTest (fun h18=>TrOk.ofTest (fun h19=>TrOk.ofFin (PureRuns.of (e6_8 x0 x0' x1 x1' x2 x2' x2'') (ac rfl (ac rfl (ac rfl (ac rfl (ac rfl (ac rfl (ac rfl (ac rfl (ac (nn h19) (ac (nn h19) (ac (nn h19) (ac (nn h19) (ac h19 (ac h18 (ac h17 (ac h16 (ac h15 (ac h14 (ac h9 (ac h12 (ac h9 (ac h10 (ac h9 (ac h8 (ac (nn h3) (ac (nn h3) (ac (nn h3) (ac (nn h3) (ac h3 (ac h2 (ac rfl (ac rfl All.nil)))))))))))))))))))))))))))))))))) (fun h19=>TrOk.ofTest (fun h22=>TrOk.ofTest (fun h25=>TrOk.ofFin (PureRuns.of (e6_9 x0 x0' x1 x1' x2 x2' x2'') (ac rfl (ac rfl (ac rfl (ac rfl (ac rfl (ac (nn h25) (ac (nn h25) (ac h25 (ac (nn h19) (ac (nn h19) (ac h22 (ac (nn h19) (ac (nn h19) (ac h19 (ac h18 (ac h17 (ac h16 (ac h15 (ac h14 (ac h9 (ac h12 (ac h9 (ac h10 (ac h9 (ac h8 (ac (nn h3) (ac (nn h3) (ac (nn h3) (ac (nn h3) (ac h3 (ac h2 (ac rfl (ac rfl All.nil))))))))))))))))))))))))))))))))))) (fun h25=>TrOk.ofTest (fun h28=>TrOk.ofFin (PureRuns.of (e6_10 x0 x0' x1 x1' x2 x2' x2'') (ac rfl (ac (nn h28) (ac (nn h28) (ac (nn h28) (ac h28 (ac (nn h25) (ac (nn h25) (ac h25 (ac (nn h19) (ac (nn h19) (ac h22 (ac (nn h19) (ac (nn h19) (ac h19 (ac h18 (ac h17 (ac h16 (ac h15 (ac h14 (ac h9 (ac h12 (ac h9 (ac h10 (ac h9 (ac h8 (ac (nn h3) (ac (nn h3) (ac (nn h3) (ac (nn h3) (ac h3 (ac h2 (ac rfl (ac rfl All.nil))))))))))))))))))))))))))))))))))) (fun h28=>TrOk.ofTest (fun h32=>TrOk.ofFin (PureRuns.of (e6_11 x0 x0' x1 x1' x2 x2' x2'') (ac h32 (ac (nn h28) (ac (nn h28) (ac (nn h28) (ac h28 (ac (nn h25) (ac (nn h25) (ac h25 (ac (nn h19) (ac (nn h19) (ac h22 (ac (nn h19) (ac (nn h19) (ac h19 (ac h18 (ac h17 (ac h16 (ac h15 (ac h14 (ac h9 (ac h12 (ac h9 (ac h10 (ac h9 (ac h8 (ac (nn h3) (ac (nn h3) (ac (nn h3) (ac (nn h3) (ac h3 (ac h2 (ac rfl (ac rfl All.nil))))))))))))))))))))))))))))))))))) (fun h32=>TrOk.ofTest (fun h33=>TrOk.ofTest (fun h34=>TrOk.ofFin (PureRuns.of (e6_12 x0 x0' x1 x1' x2 x2' x2'') (ac h34 (ac h34 (ac h34 (ac h34 (ac h33 (ac h32 (ac (nn h28) (ac (nn h28) (ac (nn h28) (ac h28 (ac (nn h25) (ac (nn h25) (ac h25 (ac (nn h19) (ac (nn h19) (ac h22 (ac (nn h19) (ac (nn h19) (ac h19 (ac h18 (ac h17 (ac h16 (ac h15 (ac h14 (ac h9 (ac h12 (ac h9 (ac h10 (ac h9 (ac h8 (ac (nn h3) (ac (nn h3) (ac (nn h3) (ac (nn h3) (ac h3 (ac h2 (ac rfl (ac rfl All.nil)))))))))))))))))))))))))))))))))))))))) (fun h34=>TrOk.ofFin (PureRuns.of (e6_13 x0 x0' x1 x1' x2 x2' x2'') (ac h34 (ac h34 (ac h34 (ac h34 (ac h33 (ac h32 (ac (nn h28) (ac (nn h28) (ac (nn h28) (ac h28 (ac (nn h25) (ac (nn h25) (ac h25 (ac (nn h19) (ac (nn h19) (ac h22 (ac (nn h19) (ac (nn h19) (ac h19 (ac h18 (ac h17 (ac h16 (ac h15 (ac h14 (ac h9 (ac h12 (ac h9 (ac h10 (ac h9 (ac h8 (ac (nn h3) (ac (nn h3) (ac (nn h3) (ac (nn h3) (ac h3 (ac h2 (ac rfl (ac rfl All.nil))))))))))))))))))))))))))))))))))))))))) (fun h33=>TrOk.ofStop))))) (fun h22=>TrOk.ofStop))) (fun h18=>TrOk.ofStop))) (fun h16=>TrOk.ofStop)) (fun h15=>TrOk.ofStop)) (fun h14=>TrOk.ofTest (fun h15=>TrOk.ofStop) (fun h15=>TrOk.ofTest (fun h16=>TrOk.ofTest (fun h17=>TrOk.ofTest (fun h18=>TrOk.ofTest (fun h19=>TrOk.ofTest (fun h20=>TrOk.ofTest (fun h21=>TrOk.ofTest (fun h24=>TrOk.ofTest (fun h26=>TrOk.ofTest (fun h30=>TrOk.ofTest (fun h34=>TrOk.ofTest (fun h38=>TrOk.ofFin (PureRuns.of (e6_15 x0 x0' x1 x1' x2 x2' x2'') (ac h38 (ac h38 (ac h38 (ac h34 (ac h34 (ac h34 (ac h34 (ac h30 (ac h30 (ac h30 (ac h30 (ac h26 (ac h26 (ac h26 (ac h26 (ac h21 (ac h24 (ac h21 (ac h21 (ac h21 (ac h20 (ac h19 (ac h18 (ac h17 (ac h16 (ac h15 (ac h14 (ac h9 (ac h12 (ac h9 (ac h10 (ac h9 (ac h8 (ac (nn h3) (ac (nn h3) (ac (nn h3) (ac (nn h3) (ac h3 (ac h2 (ac rfl (ac rfl All.nil))))))))))))))))))))))))))))))))))))))))))) (fun h38=>TrOk.ofFin (PureRuns.of (e6_16 x0 x0' x1 x1' x2 x2' x2'') (ac h38 (ac h38 (ac h38 (ac h34 (ac h34 (ac h34 (ac h34 (ac h30 (ac h30 (ac h30 (ac h30 (ac h26 (ac h26 (ac h26 (ac h26 (ac h21 (ac h24 (ac h21 (ac h21 (ac h21 (ac h20 (ac h19 (ac h18 (ac h17 (ac h16 (ac h15 (ac h14 (ac h9 (ac h12 (ac h9 (ac h10 (ac h9 (ac h8 (ac (nn h3) (ac (nn h3) (ac (nn h3) (ac (nn h3) (ac h3 (ac h2 (ac rfl (ac rfl All.nil)))))))))))))))))))))))))))))))))))))))))))) (fun h34=>TrOk.ofFin (PureRuns.of (e6_17 x0 x0' x1 x1' x2 x2' x2'') (ac rfl (ac rfl (ac rfl (ac h34 (ac h34 (ac h34 (ac h34 (ac h30 (ac h30 (ac h30 (ac h30 (ac h26 (ac h26 (ac h26 (ac h26 (ac h21 (ac h24 (ac h21 (ac h21 (ac h21 (ac h20 (ac h19 (ac h18 (ac h17 (ac h16 (ac h15 (ac h14 (ac h9 (ac h12 (ac h9 (ac h10 (ac h9 (ac h8 (ac (nn h3) (ac (nn h3) (ac (nn h3) (ac (nn h3) (ac h3 (ac h2 (ac rfl (ac rfl All.nil)))))))))))))))))))))))))))))))))))))))))))) (fun h30=>TrOk.ofFin (PureRuns.of (e6_18 x0 x0' x1 x1' x2 x2' x2'') (ac rfl (ac rfl (ac rfl (ac rfl (ac rfl (ac rfl (ac rfl (ac h30 (ac h30 (ac h30 (ac h30 (ac h26 (ac h26 (ac h26 (ac h26 (ac h21 (ac h24 (ac h21 (ac h21 (ac h21 (ac h20 (ac h19 (ac h18 (ac h17 (ac h16 (ac h15 (ac h14 (ac h9 (ac h12 (ac h9 (ac h10 (ac h9 (ac h8 (ac (nn h3) (ac (nn h3) (ac (nn h3) (ac (nn h3) (ac h3 (ac h2 (ac rfl (ac rfl All.nil)))))))))))))))))))))))))))))))))))))))))))) (fun h26=>TrOk.ofFin (PureRuns.of (e6_19 x0 x0' x1 x1' x2 x2' x2'') (ac rfl (ac rfl (ac rfl (ac rfl (ac rfl (ac rfl (ac rfl (ac rfl (ac rfl (ac rfl (ac rfl (ac h26 (ac h26 (ac h26 (ac h26 (ac h21 (ac h24 (ac h21 (ac h21 (ac h21 (ac h20 (ac h19 (ac h18 (ac h17 (ac h16 (ac h15 (ac h14 (ac h9 (ac h12 (ac h9 (ac h10 (ac h9 (ac h8 (ac (nn h3) (ac (nn h3) (ac (nn h3) (ac (nn h3) (ac h3 (ac h2 (ac rfl (ac rfl All.nil)))))))))))))))))))))))))))))))))))))))))))) (fun h24=>TrOk.ofStop)) (fun h21=>TrOk.ofFin (PureRuns.of (e6_20 x0 x0' x1 x1' x2 x2' x2'') (ac rfl (ac rfl (ac rfl (ac rfl (ac rfl (ac rfl (ac rfl (ac rfl (ac rfl (ac rfl (ac rfl (ac rfl (ac rfl (ac rfl (ac rfl (ac h21 (ac h21 (ac h21 (ac h21 (ac h20 (ac h19 (ac h18 (ac h17 (ac h16 (ac h15 (ac h14 (ac h9 (ac h12 (ac h9 (ac h10 (ac h9 (ac h8 (ac (nn h3) (ac (nn h3) (ac (nn h3) (ac (nn h3) (ac h3 (ac h2 (ac rfl (ac rfl All.nil))))))))))))))))))))))))))))))))))))))))))) (fun h20=>TrOk.ofTest (fun h21=>TrOk.ofTest (fun h22=>TrOk.ofFin (PureRuns.of (e6_21 x0 x0' x1 x1' x2 x2' x2'') (ac rfl (ac rfl (ac rfl (ac rfl (ac rfl (ac rfl (ac rfl (ac rfl (ac (nn h22) (ac (nn h22) (ac (nn h22) (ac (nn h22) (ac h22 (ac h21 (ac h20 (ac h19 (ac h18 (ac h17 (ac h16 (ac h15 (ac h14 (ac h9 (ac h12 (ac h9 (ac h10 (ac h9 (ac h8 (ac (nn h3) (ac (nn h3) (ac (nn h3) (ac (nn h3) (ac h3 (ac h2 (ac rfl (ac rfl All.nil))))))))))))))))))))))))))))))))))))) (fun h22=>TrOk.ofTest (fun h25=>TrOk.ofTest (fun h28=>TrOk.ofFin (PureRuns.of (e6_22 x0 x0' x1 x1' x2 x2' x2'') (ac rfl (ac rfl (ac rfl (ac rfl (ac rfl (ac (nn h28) (ac (nn h28) (ac h28 (ac (nn h22) (ac (nn h22) (ac h25 (ac (nn h22) (ac (nn h22) (ac h22 (ac h21 (ac h20 (ac h19 (ac h18 (ac h17 (ac h16 (ac h15 (ac h14 (ac h9 (ac h12 (ac h9 (ac h10 (ac h9 (ac h8 (ac (nn h3) (ac (nn h3) (ac (nn h3) (ac (nn h3) (ac h3 (ac h2 (ac rfl (ac rfl All.nil)))))))))))))))))))))))))))))))))))))) (fun h28=>TrOk.ofTest (fun h31=>TrOk.ofFin (PureRuns.of (e6_23 x0 x0' x1 x1' x2 x2' x2'') (ac rfl (ac (nn h31) (ac (nn h31) (ac (nn h31) (ac h31 (ac (nn h28) (ac (nn h28) (ac h28 (ac (nn h22) (ac (nn h22) (ac h25 (ac (nn h22) (ac (nn h22) (ac h22 (ac h21 (ac h20 (ac h19 (ac h18 (ac h17 (ac h16 (ac h15 (ac h14 (ac h9 (ac h12 (ac h9 (ac h10 (ac h9 (ac h8 (ac (nn h3) (ac (nn h3) (ac (nn h3) (ac (nn h3) (ac h3 (ac h2 (ac rfl (ac rfl All.nil)))))))))))))))))))))))))))))))))))))) (fun h31=>TrOk.ofTest (fun h35=>TrOk.ofFin (PureRuns.of (e6_24 x0 x0' x1 x1' x2 x2' x2'') (ac h35 (ac (nn h31) (ac (nn h31) (ac (nn h31) (ac h31 (ac (nn h28) (ac (nn h28) (ac h28 (ac (nn h22) (ac (nn h22) (ac h25 (ac (nn h22) (ac (nn h22) (ac h22 (ac h21 (ac h20 (ac h19 (ac h18 (ac h17 (ac h16 (ac h15 (ac h14 (ac h9 (ac h12 (ac h9 (ac h10 (ac h9 (ac h8 (ac (nn h3) (ac (nn h3) (ac (nn h3) (ac (nn h3) (ac h3 (ac h2 (ac rfl (ac rfl All.nil)))))))))))))))))))))))))))))))))))))) (fun h35=>TrOk.ofTest (fun h36=>TrOk.ofTest (fun h37=>TrOk.ofFin (PureRuns.of (e6_25 x0 x0' x1 x1' x2 x2' x2'') (ac h37 (ac h37 (ac h37 (ac h37 (ac h36 (ac h35 (ac (nn h31) (ac (nn h31) (ac (nn h31) (ac h31 (ac (nn h28) (ac (nn h28) (ac h28 (ac (nn h22) (ac (nn h22) (ac h25 (ac (nn h22) (ac (nn h22) (ac h22 (ac h21 (ac h20 (ac h19 (ac h18 (ac h17 (ac h16 (ac h15 (ac h14 (ac h9 (ac h12 (ac h9 (ac h10 (ac h9 (ac h8 (ac (nn h3) (ac (nn h3) (ac (nn h3) (ac (nn h3) (ac h3 (ac h2 (ac rfl (ac rfl All.nil))))))))))))))))))))))))))))))))))))))))))) (fun h37=>TrOk.ofFin (PureRuns.of (e6_26 x0 x0' x1 x1' x2 x2' x2'') (ac h37 (ac h37 (ac h37 (ac h37 (ac h36 (ac h35 (ac (nn h31) (ac (nn h31) (ac (nn h31) (ac h31 (ac (nn h28) (ac (nn h28) (ac h28 (ac (nn h22) (ac (nn h22) (ac h25 (ac (nn h22) (ac (nn h22) (ac h22 (ac h21 (ac h20 (ac h19 (ac h18 (ac h17 (ac h16 (ac h15 (ac h14 (ac h9 (ac h12 (ac h9 (ac h10 (ac h9 (ac h8 (ac (nn h3) (ac (nn h3) (ac (nn h3) (ac (nn h3) (ac h3 (ac h2 (ac rfl (ac rfl All.nil)))))))))))))))))))))))))))))))))))))))))))) (fun h36=>TrOk.ofStop))))) (fun h25=>TrOk.ofStop))) (fun h21=>TrOk.ofStop))) (fun h19=>TrOk.ofStop)) (fun h18=>TrOk.ofStop)) (fun h17=>TrOk.ofStop)) (fun h16=>TrOk.ofStop)))) (fun h12=>TrOk.ofStop)) (fun h10=>TrOk.ofStop)) (fun h9=>TrOk.ofStop)))) (fun h2=>TrOk.ofStop)

theorem ok6:PureOk Go.Proofs.Try.prog 6 p6:=pureOk_of kf46_ok.base (T:=fun (d:Tys.data as6)=>t6 d.1.1 d.1.2.1 d.2.1.1 d.2.1.2.1 d.2.2.1.1 d.2.2.1.2.1 d.2.2.1.2.2.1) (by kernel_rfl) (fun (d:Tys.data as6)=>ok6_t d.1.1 d.1.2.1 d.2.1.1 d.2.1.2.1 d.2.2.1.1 d.2.2.1.2.1 d.2.2.1.2.2.1)

end Go.Vm.Mo
