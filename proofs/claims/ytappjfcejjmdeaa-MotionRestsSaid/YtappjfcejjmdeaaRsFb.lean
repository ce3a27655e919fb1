import Derived.Test.YtappjfcejjmdeaaA4
import Derived.KernelRfl
import Derived.Test.YtappjfcejjmdeaaProg
import Derived.Test.YtappjfcejjmdeaaRsFa
set_option linter.unusedVariables false
set_option linter.unusedSimpArgs false

namespace Go.Vm.Mo
open Go
set_option linter.unusedVariables false

/-! ductility/ductilitybase.WideMul -/

abbrev as117:List Ty:=[(.pair (.int .i64) (.pair (.slice (.int .i64)) .unit)),(.pair (.int .i64) (.pair (.slice (.int .i64)) .unit))]
abbrev rs117:List Ty:=[(.pair (.int .i64) (.pair (.slice (.int .i64)) .unit))]

def t117 (x0:Int) (x0':(List Int)) (x1:Int) (x1':(List Int)):Tr (Tys.data rs117) :=
  Tr.test ((decide ((0:Int) ≤ wrap64 (wrap64 ((↑(List.length x0'):Int) + (↑(List.length x1'):Int)) + (1:Int))) && decide (wrap64 (wrap64 ((↑(List.length x0'):Int) + (↑(List.length x1'):Int)) + (1:Int)) ≤ wrap64 (wrap64 ((↑(List.length x0'):Int) + (↑(List.length x1'):Int)) + (1:Int))) && decide ((8:Int) * wrap64 (wrap64 ((↑(List.length x0'):Int) + (↑(List.length x1'):Int)) + (1:Int)) ≤ (281474976710656:Int)) && decide (wrap64 (wrap64 ((↑(List.length x0'):Int) + (↑(List.length x1'):Int)) + (1:Int)) ≤ (281474976710656:Int)):Bool))
    (Tr.test (isBrk (l117_0 ((((Int.toNat (wrap64 (wrap64 ((↑(List.length x0'):Int) + (↑(List.length x1'):Int)) + (1:Int))):Nat),(Int.toNat (wrap64 (wrap64 ((↑(List.length x0'):Int) + (↑(List.length x1'):Int)) + (1:Int))):Nat)),((0:Int),())),((x0,(x0',())),((x1,(x1',())),(((0:Int),()),((List.replicate (Int.toNat (wrap64 (wrap64 ((↑(List.length x0'):Int) + (↑(List.length x1'):Int)) + (1:Int)))) (0:Int):List Int),())))))))
      (let r0:((Nat×Nat)×PUnit)×(Int×List Int×PUnit)×(Int×List Int×PUnit)×(Int×PUnit)×List Int×PUnit:=b117_0 ((((Int.toNat (wrap64 (wrap64 ((↑(List.length x0'):Int) + (↑(List.length x1'):Int)) + (1:Int))):Nat),(Int.toNat (wrap64 (wrap64 ((↑(List.length x0'):Int) + (↑(List.length x1'):Int)) + (1:Int))):Nat)),((0:Int),())),((x0,(x0',())),((x1,(x1',())),(((0:Int),()),((List.replicate (Int.toNat (wrap64 (wrap64 ((↑(List.length x0'):Int) + (↑(List.length x1'):Int)) + (1:Int)))) (0:Int):List Int),())))));
      Tr.test ((Nat.beq r0.1.1.1 (List.length r0.2.2.2.2.1):Bool))
        (Tr.test (Option.isSome (f149 ((wrap64 (r0.2.1.1 * r0.2.2.1.1):Int),(r0.2.2.2.2.1,()))))
          (let r1:(Int×List Int×PUnit)×PUnit:=g149 ((wrap64 (r0.2.1.1 * r0.2.2.1.1):Int),(r0.2.2.2.2.1,()));
          Tr.fin (((r1.1.1,(r1.1.2.1,())),())))
          (Tr.stop))
        (Tr.test ((Nat.ble r0.1.1.1 (List.length r0.2.2.2.2.1):Bool))
          (Tr.test (Option.isSome (f149 ((wrap64 (r0.2.1.1 * r0.2.2.1.1):Int),((List.take r0.1.1.1 r0.2.2.2.2.1:List Int),()))))
            (let r2:(Int×List Int×PUnit)×PUnit:=g149 ((wrap64 (r0.2.1.1 * r0.2.2.1.1):Int),((List.take r0.1.1.1 r0.2.2.2.2.1:List Int),()));
            Tr.fin (((r2.1.1,(r2.1.2.1,())),())))
            (Tr.stop))
          (Tr.stop /- a known call [op 6 of region 12 of F117] -/)))
      (Tr.stop))
    (Tr.stop)

def f117 (d:Tys.data as117):Option (Tys.data rs117):=(t117 d.1.1 d.1.2.1 d.2.1.1 d.2.1.2.1).val
def g117 (d:Tys.data as117):Tys.data rs117:=(f117 d).getD (Tys.dflt rs117)
def p117:PureC:=pcOf as117 rs117 f117 g117

theorem e117_0 (x0:Int) (x0':(List Int)) (x1:Int) (x1':(List Int)):runPure kl117_0.orc Go.Proofs.Try.prog 400 117 as117 rs117 ((x0,x0',()),(x1,x1',()),()) [tt,tt,tt,tt,tt] =
    (let r0:((Nat×Nat)×PUnit)×(Int×List Int×PUnit)×(Int×List Int×PUnit)×(Int×PUnit)×List Int×PUnit:=b117_0 ((((Int.toNat (wrap64 (wrap64 ((↑(List.length x0'):Int) + (↑(List.length x1'):Int)) + (1:Int))):Nat),(Int.toNat (wrap64 (wrap64 ((↑(List.length x0'):Int) + (↑(List.length x1'):Int)) + (1:Int))):Nat)),((0:Int),())),((x0,(x0',())),((x1,(x1',())),(((0:Int),()),((List.replicate (Int.toNat (wrap64 (wrap64 ((↑(List.length x0'):Int) + (↑(List.length x1'):Int)) + (1:Int)))) (0:Int):List Int),())))));let r1:(Int×List Int×PUnit)×PUnit:=g149 ((wrap64 (r0.2.1.1 * r0.2.2.1.1):Int),(r0.2.2.2.2.1,())); some (((r1.1.1,(r1.1.2.1,())),()),[(Option.isSome (f149 ((wrap64 (r0.2.1.1 * r0.2.2.1.1):Int),(r0.2.2.2.2.1,()))),true),(Nat.beq r0.1.1.1 (List.length r0.2.2.2.2.1),true),(true,true),(isBrk (l117_0 ((((Int.toNat (wrap64 (wrap64 ((↑(List.length x0'):Int) + (↑(List.length x1'):Int)) + (1:Int))):Nat),(Int.toNat (wrap64 (wrap64 ((↑(List.length x0'):Int) + (↑(List.length x1'):Int)) + (1:Int))):Nat)),((0:Int),())),((x0,(x0',())),((x1,(x1',())),(((0:Int),()),((List.replicate (Int.toNat (wrap64 (wrap64 ((↑(List.length x0'):Int) + (↑(List.length x1'):Int)) + (1:Int)))) (0:Int):List Int),())))))),true),(decide ((0:Int) ≤ wrap64 (wrap64 ((↑(List.length x0'):Int) + (↑(List.length x1'):Int)) + (1:Int))) && decide (wrap64 (wrap64 ((↑(List.length x0'):Int) + (↑(List.length x1'):Int)) + (1:Int)) ≤ wrap64 (wrap64 ((↑(List.length x0'):Int) + (↑(List.length x1'):Int)) + (1:Int))) && decide ((8:Int) * wrap64 (wrap64 ((↑(List.length x0'):Int) + (↑(List.length x1'):Int)) + (1:Int)) ≤ (281474976710656:Int)) && decide (wrap64 (wrap64 ((↑(List.length x0'):Int) + (↑(List.length x1'):Int)) + (1:Int)) ≤ (281474976710656:Int)),true)])):=by kernel_rfl
theorem e117_1 (x0:Int) (x0':(List Int)) (x1:Int) (x1':(List Int)):runPure kl117_0.orc Go.Proofs.Try.prog 400 117 as117 rs117 ((x0,x0',()),(x1,x1',()),()) [tt,tt,tt,ff,tt,tt] =
    (let r0:((Nat×Nat)×PUnit)×(Int×List Int×PUnit)×(Int×List Int×PUnit)×(Int×PUnit)×List Int×PUnit:=b117_0 ((((Int.toNat (wrap64 (wrap64 ((↑(List.length x0'):Int) + (↑(List.length x1'):Int)) + (1:Int))):Nat),(Int.toNat (wrap64 (wrap64 ((↑(List.length x0'):Int) + (↑(List.length x1'):Int)) + (1:Int))):Nat)),((0:Int),())),((x0,(x0',())),((x1,(x1',())),(((0:Int),()),((List.replicate (Int.toNat (wrap64 (wrap64 ((↑(List.length x0'):Int) + (↑(List.length x1'):Int)) + (1:Int)))) (0:Int):List Int),())))));let r2:(Int×List Int×PUnit)×PUnit:=g149 ((wrap64 (r0.2.1.1 * r0.2.2.1.1):Int),((List.take r0.1.1.1 r0.2.2.2.2.1:List Int),())); some (((r2.1.1,(r2.1.2.1,())),()),[(Option.isSome (f149 ((wrap64 (r0.2.1.1 * r0.2.2.1.1):Int),((List.take r0.1.1.1 r0.2.2.2.2.1:List Int),()))),true),(Nat.ble r0.1.1.1 (List.length r0.2.2.2.2.1),true),(Nat.beq r0.1.1.1 (List.length r0.2.2.2.2.1),false),(true,true),(isBrk (l117_0 ((((Int.toNat (wrap64 (wrap64 ((↑(List.length x0'):Int) + (↑(List.length x1'):Int)) + (1:Int))):Nat),(Int.toNat (wrap64 (wrap64 ((↑(List.length x0'):Int) + (↑(List.length x1'):Int)) + (1:Int))):Nat)),((0:Int),())),((x0,(x0',())),((x1,(x1',())),(((0:Int),()),((List.replicate (Int.toNat (wrap64 (wrap64 ((↑(List.length x0'):Int) + (↑(List.length x1'):Int)) + (1:Int)))) (0:Int):List Int),())))))),true),(decide ((0:Int) ≤ wrap64 (wrap64 ((↑(List.length x0'):Int) + (↑(List.length x1'):Int)) + (1:Int))) && decide (wrap64 (wrap64 ((↑(List.length x0'):Int) + (↑(List.length x1'):Int)) + (1:Int)) ≤ wrap64 (wrap64 ((↑(List.length x0'):Int) + (↑(List.length x1'):Int)) + (1:Int))) && decide ((8:Int) * wrap64 (wrap64 ((↑(List.length x0'):Int) + (↑(List.length x1'):Int)) + (1:Int)) ≤ (281474976710656:Int)) && decide (wrap64 (wrap64 ((↑(List.length x0'):Int) + (↑(List.length x1'):Int)) + (1:Int)) ≤ (281474976710656:Int)),true)])):=by kernel_rfl

theorem ok117_t (x0:Int) (x0':(List Int)) (x1:Int) (x1':(List Int)):TrOk (PureRuns Go.Proofs.Try.prog kl117_0.orc 117 as117 rs117 ((x0,x0',()),(x1,x1',()),())) (t117 x0 x0' x1 x1') :=
  TrOk.ofTest (fun h0=>TrOk.ofTest (fun h1=>TrOk.ofTest (fun h3=>TrOk.ofTest (fun h4=>TrOk.ofFin (PureRuns.of (e117_0 x0 x0' x1 x1') (ac h4 (ac h3 (ac rfl (ac h1 (ac h0 All.nil))))))) (fun h4=>TrOk.ofStop)) (fun h3=>TrOk.ofTest (fun h4=>TrOk.ofTest (fun h5=>TrOk.ofFin (PureRuns.of (e117_1 x0 x0' x1 x1') (ac h5 (ac h4 (ac h3 (ac rfl (ac h1 (ac h0 All.nil)))))))) (fun h5=>TrOk.ofStop)) (fun h4=>TrOk.ofStop))) (fun h1=>TrOk.ofStop)) (fun h0=>TrOk.ofStop)

theorem ok117:PureOk Go.Proofs.Try.prog 117 p117:=pureOk_of kl117_0_ok.base (T:=fun (d:Tys.data as117)=>t117 d.1.1 d.1.2.1 d.2.1.1 d.2.1.2.1) (by kernel_rfl) (fun (d:Tys.data as117)=>ok117_t d.1.1 d.1.2.1 d.2.1.1 d.2.1.2.1)
def kf117:Known:=kl117_0.func 117 p117
theorem kf117_ok:KnownOk Go.Proofs.Try.prog kf117:=kl117_0_ok.func ok117

/-! ductility/ductilitybase.WideNeg -/

abbrev as150:List Ty:=[(.pair (.int .i64) (.pair (.slice (.int .i64)) .unit))]
abbrev rs150:List Ty:=[(.pair (.int .i64) (.pair (.slice (.int .i64)) .unit))]

def t150 (x0:Int) (x0':(List Int)):Tr (Tys.data rs150) :=
  Tr.fin ((((Go.IntKind.wrap Go.IntKind.i64 ((0:Int) - x0):Int),(x0',())),()))

def f150 (d:Tys.data as150):Option (Tys.data rs150):=(t150 d.1.1 d.1.2.1).val
def g150 (d:Tys.data as150):Tys.data rs150:=(f150 d).getD (Tys.dflt rs150)
def p150:PureC:=pcOf as150 rs150 f150 g150

theorem e150_0 (x0:Int) (x0':(List Int)):runPure kf117.orc Go.Proofs.Try.prog 400 150 as150 rs150 ((x0,x0',()),()) [] =
    (some ((((Go.IntKind.wrap Go.IntKind.i64 ((0:Int) - x0):Int),(x0',())),()),[])):=by kernel_rfl

theorem ok150_t (x0:Int) (x0':(List Int)):TrOk (PureRuns Go.Proofs.Try.prog kf117.orc 150 as150 rs150 ((x0,x0',()),())) (t150 x0 x0') :=
  TrOk.ofFin (PureRuns.of (e150_0 x0 x0') All.nil)

theorem ok150:PureOk Go.Proofs.Try.prog 150 p150:=pureOk_of kf117_ok.base (T:=fun (d:Tys.data as150)=>t150 d.1.1 d.1.2.1) (by kernel_rfl) (fun (d:Tys.data as150)=>ok150_t d.1.1 d.1.2.1)
def kf150:Known:=kf117.func 150 p150
theorem kf150_ok:KnownOk Go.Proofs.Try.prog kf150:=kf117_ok.func ok150

/-! ductility/ductilitybase.wideSize -/

abbrev as174:List Ty:=[(.pair (.int .i64) (.pair (.slice (.int .i64)) .unit))]
abbrev rs174:List Ty:=[(.pair (.int .i64) (.pair (.slice (.int .i64)) .unit))]

def t174 (x0:Int) (x0':(List Int)):Tr (Tys.data rs174) :=
  Tr.test ((!leF (0:Int) x0:Bool))
    (Tr.test (Option.isSome (f150 ((x0,(x0',())),())))
      (let r0:(Int×List Int×PUnit)×PUnit:=g150 ((x0,(x0',())),());
      Tr.fin (((r0.1.1,(r0.1.2.1,())),())))
      (Tr.stop))
    (Tr.fin (((x0,(x0',())),())))

def f174 (d:Tys.data as174):Option (Tys.data rs174):=(t174 d.1.1 d.1.2.1).val
def g174 (d:Tys.data as174):Tys.data rs174:=(f174 d).getD (Tys.dflt rs174)
def p174:PureC:=pcOf as174 rs174 f174 g174

theorem e174_0 (x0:Int) (x0':(List Int)):runPure kf150.orc Go.Proofs.Try.prog 400 174 as174 rs174 ((x0,x0',()),()) [tt,tt] =
    (let r0:(Int×List Int×PUnit)×PUnit:=g150 ((x0,(x0',())),()); some (((r0.1.1,(r0.1.2.1,())),()),[(Option.isSome (f150 ((x0,(x0',())),())),true),(!leF (0:Int) x0,true)])):=by kernel_rfl
theorem e174_1 (x0:Int) (x0':(List Int)):runPure kf150.orc Go.Proofs.Try.prog 400 174 as174 rs174 ((x0,x0',()),()) [ff] =
    (some (((x0,(x0',())),()),[(!leF (0:Int) x0,false)])):=by kernel_rfl

theorem ok174_t (x0:Int) (x0':(List Int)):TrOk (PureRuns Go.Proofs.Try.prog kf150.orc 174 as174 rs174 ((x0,x0',()),())) (t174 x0 x0') :=
  TrOk.ofTest (fun h0=>TrOk.ofTest (fun h1=>TrOk.ofFin (PureRuns.of (e174_0 x0 x0') (ac h1 (ac h0 All.nil)))) (fun h1=>TrOk.ofStop)) (fun h0=>TrOk.ofFin (PureRuns.of (e174_1 x0 x0') (ac h0 All.nil)))

theorem ok174:PureOk Go.Proofs.Try.prog 174 p174:=pureOk_of kf150_ok.base (T:=fun (d:Tys.data as174)=>t174 d.1.1 d.1.2.1) (by kernel_rfl) (fun (d:Tys.data as174)=>ok174_t d.1.1 d.1.2.1)
def kf174:Known:=kf150.func 174 p174
theorem kf174_ok:KnownOk Go.Proofs.Try.prog kf174:=kf150_ok.func ok174

/-! loop 0 of ductility/ductilitybase.cmpDigits -/

abbrev sh155_0:Sh:={ n:=41,slots:=[0,1,5],pats:=[.ty (.slice (.int .i64)),.ty (.slice (.int .i64)),.ty (.int .i64)],boxes:=[] }
abbrev shb155_0:Sh:={ n:=41,slots:=[],pats:=[],boxes:=[] }
abbrev shr155_0:Sh:={ n:=41,slots:=[4],pats:=[.ty (.int .i64)],boxes:=[] }

def t155_0 (x0:(List Int)) (x1:(List Int)) (x2:Int):Tr (Out sh155_0.data shb155_0.data shr155_0.data) :=
  Tr.test ((leF (0:Int) x2:Bool))
    (Tr.test (decide ((0:Int) ≤ x2) && decide (x2 < (↑(List.length x0):Int)))
      (Tr.test ((decide ((0:Int) ≤ x2) && decide (x2 < (↑(List.length x1):Int)):Bool))
        (Tr.test ((!leF (List.getD x1 (Int.toNat x2) (0:Int)) (List.getD x0 (Int.toNat x2) (0:Int)):Bool))
          (Tr.fin (.ret (((-1:Int),()),())))
          (Tr.test ((!leF (List.getD x0 (Int.toNat x2) (0:Int)) (List.getD x1 (Int.toNat x2) (0:Int)):Bool))
            (Tr.fin (.ret (((1:Int),()),())))
            (Tr.fin (.again ((x0,(x1,((wrap64 (x2 - (1:Int)):Int),()))),())))))
        (Tr.stop))
      (Tr.stop))
    (Tr.fin (.brk ((),())))

def s155_0 (d:sh155_0.data):Option (Out sh155_0.data shb155_0.data shr155_0.data):=(t155_0 d.1.1 d.1.2.1 d.1.2.2.1).val
def l155_0 (d:sh155_0.data):Option (shb155_0.data ⊕ shr155_0.data):=itr s155_0 rounds d
def b155_0 (d:sh155_0.data):shb155_0.data:=outB shb155_0.dflt (l155_0 d)
def r155_0 (d:sh155_0.data):shr155_0.data:=outR shr155_0.dflt (l155_0 d)
def lc155_0:LoopC:=lcOf sh155_0 shb155_0 shr155_0 l155_0 b155_0 r155_0

theorem e155_0_0 (x0:(List Int)) (x1:(List Int)) (x2:Int):runBody kf174.orc Go.Proofs.Try.prog 400 155 0 sh155_0 shb155_0 shr155_0 ((x0,x1,x2,()),()) [tt,tt,tt,tt] =
    (some (.ret (((-1:Int),()),()),[(!leF (List.getD x1 (Int.toNat x2) (0:Int)) (List.getD x0 (Int.toNat x2) (0:Int)),true),(decide ((0:Int) ≤ x2) && decide (x2 < (↑(List.length x1):Int)),true),(decide ((0:Int) ≤ x2) && decide (x2 < (↑(List.length x0):Int)),true),(leF (0:Int) x2,true)])):=by kernel_rfl
theorem e155_0_1 (x0:(List Int)) (x1:(List Int)) (x2:Int):runBody kf174.orc Go.Proofs.Try.prog 400 155 0 sh155_0 shb155_0 shr155_0 ((x0,x1,x2,()),()) [tt,tt,tt,ff,tt,tt,tt] =
    (some (.ret (((1:Int),()),()),[(!leF (List.getD x0 (Int.toNat x2) (0:Int)) (List.getD x1 (Int.toNat x2) (0:Int)),true),(decide ((0:Int) ≤ x2) && decide (x2 < (↑(List.length x1):Int)),true),(decide ((0:Int) ≤ x2) && decide (x2 < (↑(List.length x0):Int)),true),(!leF (List.getD x1 (Int.toNat x2) (0:Int)) (List.getD x0 (Int.toNat x2) (0:Int)),false),(decide ((0:Int) ≤ x2) && decide (x2 < (↑(List.length x1):Int)),true),(decide ((0:Int) ≤ x2) && decide (x2 < (↑(List.length x0):Int)),true),(leF (0:Int) x2,true)])):=by kernel_rfl
theorem e155_0_2 (x0:(List Int)) (x1:(List Int)) (x2:Int):runBody kf174.orc Go.Proofs.Try.prog 400 155 0 sh155_0 shb155_0 shr155_0 ((x0,x1,x2,()),()) [tt,tt,tt,ff,tt,tt,ff] =
    (some (.again ((x0,(x1,((wrap64 (x2 - (1:Int)):Int),()))),()),[(!leF (List.getD x0 (Int.toNat x2) (0:Int)) (List.getD x1 (Int.toNat x2) (0:Int)),false),(decide ((0:Int) ≤ x2) && decide (x2 < (↑(List.length x1):Int)),true),(decide ((0:Int) ≤ x2) && decide (x2 < (↑(List.length x0):Int)),true),(!leF (List.getD x1 (Int.toNat x2) (0:Int)) (List.getD x0 (Int.toNat x2) (0:Int)),false),(decide ((0:Int) ≤ x2) && decide (x2 < (↑(List.length x1):Int)),true),(decide ((0:Int) ≤ x2) && decide (x2 < (↑(List.length x0):Int)),true),(leF (0:Int) x2,true)])):=by kernel_rfl
theorem e155_0_5 (x0:(List Int)) (x1:(List Int)) (x2:Int):runBody kf174.orc Go.Proofs.Try.prog 400 155 0 sh155_0 shb155_0 shr155_0 ((x0,x1,x2,()),()) [ff] =
    (some (.brk ((),()),[(leF (0:Int) x2,false)])):=by kernel_rfl

theorem ok155_0_t (x0:(List Int)) (x1:(List Int)) (x2:Int):TrOk (BodyRuns Go.Proofs.Try.prog kf174.orc 155 0 sh155_0 shb155_0 shr155_0 ((x0,x1,x2,()),())) (t155_0 x0 x1 x2) :=
  TrOk.ofTest (fun h0=>TrOk.ofTest (fun h1=>TrOk.ofTest (fun h2=>TrOk.ofTest (fun h3=>TrOk.ofFin (BodyRuns.of (e155_0_0 x0 x1 x2) (ac h3 (ac h2 (ac h1 (ac h0 All.nil)))))) (fun h3=>TrOk.ofTest (fun h6=>TrOk.ofFin (BodyRuns.of (e155_0_1 x0 x1 x2) (ac h6 (ac h2 (ac h1 (ac h3 (ac h2 (ac h1 (ac h0 All.nil))))))))) (fun h6=>TrOk.ofFin (BodyRuns.of (e155_0_2 x0 x1 x2) (ac h6 (ac h2 (ac h1 (ac h3 (ac h2 (ac h1 (ac h0 All.nil))))))))))) (fun h2=>TrOk.ofStop)) (fun h1=>TrOk.ofStop)) (fun h0=>TrOk.ofFin (BodyRuns.of (e155_0_5 x0 x1 x2) (ac h0 All.nil)))

theorem ok155_0:LoopOk Go.Proofs.Try.prog 155 0 lc155_0:=loopOk_of kf174_ok.base (T:=fun (d:sh155_0.data)=>t155_0 d.1.1 d.1.2.1 d.1.2.2.1) (by kernel_rfl) rfl (fun (d:sh155_0.data)=>ok155_0_t d.1.1 d.1.2.1 d.1.2.2.1) (fun _=>rfl)
def kl155_0:Known:=kf174.loop 155 0 lc155_0
theorem kl155_0_ok:KnownOk Go.Proofs.Try.prog kl155_0:=kf174_ok.loop ok155_0

/-! ductility/ductilitybase.cmpDigits -/

abbrev as155:List Ty:=[(.slice (.int .i64)),(.slice (.int .i64))]
abbrev rs155:List Ty:=[(.int .i64)]

def t155 (x0:(List Int)) (x1:(List Int)):Tr (Tys.data rs155) :=
  Tr.test ((!eqF (↑(List.length x0):Int) (↑(List.length x1):Int):Bool))
    (Tr.test (!leF (↑(List.length x1):Int) (↑(List.length x0):Int))
      (Tr.fin (((-1:Int),())))
      (Tr.fin (((1:Int),()))))
    (Tr.test (Option.isSome (l155_0 ((x0,(x1,((wrap64 ((↑(List.length x0):Int) - (1:Int)):Int),()))),())))
      (Tr.test (isRet (l155_0 ((x0,(x1,((wrap64 ((↑(List.length x0):Int) - (1:Int)):Int),()))),())))
        (let r0:(Int×PUnit)×PUnit:=r155_0 ((x0,(x1,((wrap64 ((↑(List.length x0):Int) - (1:Int)):Int),()))),());
        Tr.fin ((r0.1.1,())))
        (Tr.fin (((0:Int),()))))
      (Tr.stop))

def f155 (d:Tys.data as155):Option (Tys.data rs155):=(t155 d.1 d.2.1).val
def g155 (d:Tys.data as155):Tys.data rs155:=(f155 d).getD (Tys.dflt rs155)
def p155:PureC:=pcOf as155 rs155 f155 g155

theorem e155_0 (x0:(List Int)) (x1:(List Int)):runPure kl155_0.orc Go.Proofs.Try.prog 400 155 as155 rs155 (x0,x1,()) [tt,tt] =
    (some (((-1:Int),()),[(!leF (↑(List.length x1):Int) (↑(List.length x0):Int),true),(!eqF (↑(List.length x0):Int) (↑(List.length x1):Int),true)])):=by kernel_rfl
theorem e155_1 (x0:(List Int)) (x1:(List Int)):runPure kl155_0.orc Go.Proofs.Try.prog 400 155 as155 rs155 (x0,x1,()) [tt,ff] =
    (some (((1:Int),()),[(!leF (↑(List.length x1):Int) (↑(List.length x0):Int),false),(!eqF (↑(List.length x0):Int) (↑(List.length x1):Int),true)])):=by kernel_rfl
theorem e155_2 (x0:(List Int)) (x1:(List Int)):runPure kl155_0.orc Go.Proofs.Try.prog 400 155 as155 rs155 (x0,x1,()) [ff,tt,tt] =
    (let r0:(Int×PUnit)×PUnit:=r155_0 ((x0,(x1,((wrap64 ((↑(List.length x0):Int) - (1:Int)):Int),()))),()); some ((r0.1.1,()),[(isRet (l155_0 ((x0,(x1,((wrap64 ((↑(List.length x0):Int) - (1:Int)):Int),()))),())),true),(Option.isSome (l155_0 ((x0,(x1,((wrap64 ((↑(List.length x0):Int) - (1:Int)):Int),()))),())),true),(!eqF (↑(List.length x0):Int) (↑(List.length x1):Int),false)])):=by kernel_rfl
theorem e155_3 (x0:(List Int)) (x1:(List Int)):runPure kl155_0.orc Go.Proofs.Try.prog 400 155 as155 rs155 (x0,x1,()) [ff,tt,ff] =
    (some (((0:Int),()),[(isRet (l155_0 ((x0,(x1,((wrap64 ((↑(List.length x0):Int) - (1:Int)):Int),()))),())),false),(Option.isSome (l155_0 ((x0,(x1,((wrap64 ((↑(List.length x0):Int) - (1:Int)):Int),()))),())),true),(!eqF (↑(List.length x0):Int) (↑(List.length x1):Int),false)])):=by kernel_rfl

theorem ok155_t (x0:(List Int)) (x1:(List Int)):TrOk (PureRuns Go.Proofs.Try.prog kl155_0.orc 155 as155 rs155 (x0,x1,())) (t155 x0 x1) :=
  TrOk.ofTest (fun h0=>TrOk.ofTest (fun h1=>TrOk.ofFin (PureRuns.of (e155_0 x0 x1) (ac h1 (ac h0 All.nil)))) (fun h1=>TrOk.ofFin (PureRuns.of (e155_1 x0 x1) (ac h1 (ac h0 All.nil))))) (fun h0=>TrOk.ofTest (fun h1=>TrOk.ofTest (fun h2=>TrOk.ofFin (PureRuns.of (e155_2 x0 x1) (ac h2 (ac h1 (ac h0 All.nil))))) (fun h2=>TrOk.ofFin (PureRuns.of (e155_3 x0 x1) (ac h2 (ac h1 (ac h0 All.nil)))))) (fun h1=>TrOk.ofStop))

theorem ok155:PureOk Go.Proofs.Try.prog 155 p155:=pureOk_of kl155_0_ok.base (T:=fun (d:Tys.data as155)=>t155 d.1 d.2.1) (by kernel_rfl) (fun (d:Tys.data as155)=>ok155_t d.1 d.2.1)
def kf155:Known:=kl155_0.func 155 p155
theorem kf155_ok:KnownOk Go.Proofs.Try.prog kf155:=kl155_0_ok.func ok155

/-! ductility/ductilitybase.digit -/

abbrev as175:List Ty:=[(.slice (.int .i64)),(.int .i64)]
abbrev rs175:List Ty:=[(.int .i64)]

def t175 (x0:(List Int)) (x1:Int):Tr (Tys.data rs175) :=
  Tr.test ((!leF (↑(List.length x0):Int) x1:Bool))
    (Tr.test (decide ((0:Int) ≤ x1) && decide (x1 < (↑(List.length x0):Int)))
      (Tr.fin (((List.getD x0 (Int.toNat x1) (0:Int):Int),())))
      (Tr.stop))
    (Tr.fin (((0:Int),())))

def f175 (d:Tys.data as175):Option (Tys.data rs175):=(t175 d.1 d.2.1).val
def g175 (d:Tys.data as175):Tys.data rs175:=(f175 d).getD (Tys.dflt rs175)
def p175:PureC:=pcOf as175 rs175 f175 g175

theorem e175_0 (x0:(List Int)) (x1:Int):runPure kf155.orc Go.Proofs.Try.prog 400 175 as175 rs175 (x0,x1,()) [tt,tt] =
    (some (((List.getD x0 (Int.toNat x1) (0:Int):Int),()),[(decide ((0:Int) ≤ x1) && decide (x1 < (↑(List.length x0):Int)),true),(!leF (↑(List.length x0):Int) x1,true)])):=by kernel_rfl
theorem e175_2 (x0:(List Int)) (x1:Int):runPure kf155.orc Go.Proofs.Try.prog 400 175 as175 rs175 (x0,x1,()) [ff] =
    (some (((0:Int),()),[(!leF (↑(List.length x0):Int) x1,false)])):=by kernel_rfl

theorem ok175_t (x0:(List Int)) (x1:Int):TrOk (PureRuns Go.Proofs.Try.prog kf155.orc 175 as175 rs175 (x0,x1,())) (t175 x0 x1) :=
  TrOk.ofTest (fun h0=>TrOk.ofTest (fun h1=>TrOk.ofFin (PureRuns.of (e175_0 x0 x1) (ac h1 (ac h0 All.nil)))) (fun h1=>TrOk.ofStop)) (fun h0=>TrOk.ofFin (PureRuns.of (e175_2 x0 x1) (ac h0 All.nil)))

theorem ok175:PureOk Go.Proofs.Try.prog 175 p175:=pureOk_of kf155_ok.base (T:=fun (d:Tys.data as175)=>t175 d.1 d.2.1) (by kernel_rfl) (fun (d:Tys.data as175)=>ok175_t d.1 d.2.1)
def kf175:Known:=kf155.func 175 p175
theorem kf175_ok:KnownOk Go.Proofs.Try.prog kf175:=kf155_ok.func ok175

/-! loop 0 of ductility/ductilitybase.subDigits -/

abbrev sh156_0:Sh:={ n:=35,slots:=[0,1,5,6,7],pats:=[.ty (.slice (.int .i64)),.ty (.slice (.int .i64)),.acc (.int .i64),.ty (.int .i64),.ty (.int .i64)],boxes:=[] }
abbrev shb156_0:Sh:={ n:=35,slots:=[5],pats:=[.acc (.int .i64)],boxes:=[] }
abbrev shr156_0:Sh:={ n:=35,slots:=[],pats:=[],boxes:=[] }

def t156_0 (x0:(List Int)) (x1:(List Int)) (x2:(List Int)) (x3:Int) (x4:Int):Tr (Out sh156_0.data shb156_0.data shr156_0.data) :=
  Tr.test ((!leF (↑(List.length x0):Int) x4:Bool))
    (Tr.test (decide ((0:Int) ≤ x4) && decide (x4 < (↑(List.length x0):Int)))
      (Tr.test (Option.isSome (f175 (x1,(x4,()))))
        (let r0:Int×PUnit:=g175 (x1,(x4,()));
        Tr.test ((!leF (0:Int) (wrap64 (wrap64 (List.getD x0 (Int.toNat x4) (0:Int) - r0.1) - x3)):Bool))
          (Tr.test ((Nat.ble (((2:Nat) * (List.length x2 + (1:Nat)) + (192:Nat)) * (8:Nat)) (281474976710656:Nat) && Nat.ble (List.length x2 + (1:Nat)) (281474976710656:Nat):Bool))
            (Tr.fin (.again ((x0,(x1,((x2++[wrap64 (wrap64 (wrap64 (List.getD x0 (Int.toNat x4) (0:Int) - r0.1) - x3) + (1000000000:Int))]:List Int),((1:Int),((wrap64 (x4 + (1:Int)):Int),()))))),())))
            (Tr.stop))
          (Tr.test ((Nat.ble (((2:Nat) * (List.length x2 + (1:Nat)) + (192:Nat)) * (8:Nat)) (281474976710656:Nat) && Nat.ble (List.length x2 + (1:Nat)) (281474976710656:Nat):Bool))
            (Tr.fin (.again ((x0,(x1,((x2++[wrap64 (wrap64 (List.getD x0 (Int.toNat x4) (0:Int) - r0.1) - x3)]:List Int),((0:Int),((wrap64 (x4 + (1:Int)):Int),()))))),())))
            (Tr.stop)))
        (Tr.stop))
      (Tr.stop))
    (Tr.fin (.brk ((x2,()),())))

def s156_0 (d:sh156_0.data):Option (Out sh156_0.data shb156_0.data shr156_0.data):=(t156_0 d.1.1 d.1.2.1 d.1.2.2.1 d.1.2.2.2.1 d.1.2.2.2.2.1).val
def l156_0 (d:sh156_0.data):Option (shb156_0.data ⊕ shr156_0.data):=itr s156_0 rounds d
def b156_0 (d:sh156_0.data):shb156_0.data:=outB shb156_0.dflt (l156_0 d)
def lc156_0:LoopC:=lcB sh156_0 shb156_0 shr156_0 l156_0 b156_0

theorem e156_0_0 (x0:(List Int)) (x1:(List Int)) (x2:(List Int)) (x3:Int) (x4:Int):runBody kf175.orc Go.Proofs.Try.prog 400 156 0 sh156_0 shb156_0 shr156_0 ((x0,x1,x2,x3,x4,()),()) [tt,tt,tt,tt,ff,tt,tt] =
    (let r0:Int×PUnit:=g175 (x1,(x4,())); some (.again ((x0,(x1,((x2++[wrap64 (wrap64 (wrap64 (List.getD x0 (Int.toNat x4) (0:Int) - r0.1) - x3) + (1000000000:Int))]:List Int),((1:Int),((wrap64 (x4 + (1:Int)):Int),()))))),()),[(true,true),(Nat.ble (((2:Nat) * (List.length x2 + (1:Nat)) + (192:Nat)) * (8:Nat)) (281474976710656:Nat) && Nat.ble (List.length x2 + (1:Nat)) (281474976710656:Nat),true),(false,false),(!leF (0:Int) (wrap64 (wrap64 (List.getD x0 (Int.toNat x4) (0:Int) - r0.1) - x3)),true),(Option.isSome (f175 (x1,(x4,()))),true),(decide ((0:Int) ≤ x4) && decide (x4 < (↑(List.length x0):Int)),true),(!leF (↑(List.length x0):Int) x4,true)])):=by kernel_rfl
theorem e156_0_2 (x0:(List Int)) (x1:(List Int)) (x2:(List Int)) (x3:Int) (x4:Int):runBody kf175.orc Go.Proofs.Try.prog 400 156 0 sh156_0 shb156_0 shr156_0 ((x0,x1,x2,x3,x4,()),()) [tt,tt,tt,ff,ff,tt,tt] =
    (let r0:Int×PUnit:=g175 (x1,(x4,())); some (.again ((x0,(x1,((x2++[wrap64 (wrap64 (List.getD x0 (Int.toNat x4) (0:Int) - r0.1) - x3)]:List Int),((0:Int),((wrap64 (x4 + (1:Int)):Int),()))))),()),[(true,true),(Nat.ble (((2:Nat) * (List.length x2 + (1:Nat)) + (192:Nat)) * (8:Nat)) (281474976710656:Nat) && Nat.ble (List.length x2 + (1:Nat)) (281474976710656:Nat),true),(false,false),(!leF (0:Int) (wrap64 (wrap64 (List.getD x0 (Int.toNat x4) (0:Int) - r0.1) - x3)),false),(Option.isSome (f175 (x1,(x4,()))),true),(decide ((0:Int) ≤ x4) && decide (x4 < (↑(List.length x0):Int)),true),(!leF (↑(List.length x0):Int) x4,true)])):=by kernel_rfl
theorem e156_0_5 (x0:(List Int)) (x1:(List Int)) (x2:(List Int)) (x3:Int) (x4:Int):runBody kf175.orc Go.Proofs.Try.prog 400 156 0 sh156_0 shb156_0 shr156_0 ((x0,x1,x2,x3,x4,()),()) [ff] =
    (some (.brk ((x2,()),()),[(!leF (↑(List.length x0):Int) x4,false)])):=by kernel_rfl

theorem ok156_0_t (x0:(List Int)) (x1:(List Int)) (x2:(List Int)) (x3:Int) (x4:Int):TrOk (BodyRuns Go.Proofs.Try.prog kf175.orc 156 0 sh156_0 shb156_0 shr156_0 ((x0,x1,x2,x3,x4,()),())) (t156_0 x0 x1 x2 x3 x4) :=
  TrOk.ofTest (fun h0=>TrOk.ofTest (fun h1=>TrOk.ofTest (fun h2=>TrOk.ofTest (fun h3=>TrOk.ofTest (fun h5=>TrOk.ofFin (BodyRuns.of (e156_0_0 x0 x1 x2 x3 x4) (ac rfl (ac h5 (ac rfl (ac h3 (ac h2 (ac h1 (ac h0 All.nil))))))))) (fun h5=>TrOk.ofStop)) (fun h3=>TrOk.ofTest (fun h5=>TrOk.ofFin (BodyRuns.of (e156_0_2 x0 x1 x2 x3 x4) (ac rfl (ac h5 (ac rfl (ac h3 (ac h2 (ac h1 (ac h0 All.nil))))))))) (fun h5=>TrOk.ofStop))) (fun h2=>TrOk.ofStop)) (fun h1=>TrOk.ofStop)) (fun h0=>TrOk.ofFin (BodyRuns.of (e156_0_5 x0 x1 x2 x3 x4) (ac h0 All.nil)))

theorem ok156_0:LoopOk Go.Proofs.Try.prog 156 0 lc156_0:=loopOk_ofB kf175_ok.base (T:=fun (d:sh156_0.data)=>t156_0 d.1.1 d.1.2.1 d.1.2.2.1 d.1.2.2.2.1 d.1.2.2.2.2.1) (by kernel_rfl) rfl (fun (d:sh156_0.data)=>ok156_0_t d.1.1 d.1.2.1 d.1.2.2.1 d.1.2.2.2.1 d.1.2.2.2.2.1) (fun _=>rfl)
def kl156_0:Known:=kf175.loop 156 0 lc156_0
theorem kl156_0_ok:KnownOk Go.Proofs.Try.prog kl156_0:=kf175_ok.loop ok156_0

/-! ductility/ductilitybase.subDigits -/

abbrev as156:List Ty:=[(.slice (.int .i64)),(.slice (.int .i64))]
abbrev rs156:List Ty:=[(.slice (.int .i64))]

def t156 (x0:(List Int)) (x1:(List Int)):Tr (Tys.data rs156) :=
  Tr.test (isBrk (l156_0 ((x0,(x1,(([]:List Int),((0:Int),((0:Int),()))))),())))
    (let r0:(List Int×PUnit)×PUnit:=b156_0 ((x0,(x1,(([]:List Int),((0:Int),((0:Int),()))))),());
    Tr.test (Option.isSome (f173 (r0.1.1,())))
      (let r1:List Int×PUnit:=g173 (r0.1.1,());
      Tr.fin ((r1.1,())))
      (Tr.stop))
    (Tr.stop)

def f156 (d:Tys.data as156):Option (Tys.data rs156):=(t156 d.1 d.2.1).val
def g156 (d:Tys.data as156):Tys.data rs156:=(f156 d).getD (Tys.dflt rs156)
def p156:PureC:=pcOf as156 rs156 f156 g156

theorem e156_0 (x0:(List Int)) (x1:(List Int)):runPure kl156_0.orc Go.Proofs.Try.prog 400 156 as156 rs156 (x0,x1,()) [tt,tt,tt] =
    (let r0:(List Int×PUnit)×PUnit:=b156_0 ((x0,(x1,(([]:List Int),((0:Int),((0:Int),()))))),());let r1:List Int×PUnit:=g173 (r0.1.1,()); some ((r1.1,()),[(Option.isSome (f173 (r0.1.1,())),true),(true,true),(isBrk (l156_0 ((x0,(x1,(([]:List Int),((0:Int),((0:Int),()))))),())),true)])):=by kernel_rfl

theorem ok156_t (x0:(List Int)) (x1:(List Int)):TrOk (PureRuns Go.Proofs.Try.prog kl156_0.orc 156 as156 rs156 (x0,x1,())) (t156 x0 x1) :=
  TrOk.ofTest (fun h0=>TrOk.ofTest (fun h2=>TrOk.ofFin (PureRuns.of (e156_0 x0 x1) (ac h2 (ac rfl (ac h0 All.nil))))) (fun h2=>TrOk.ofStop)) (fun h0=>TrOk.ofStop)

theorem ok156:PureOk Go.Proofs.Try.prog 156 p156:=pureOk_of kl156_0_ok.base (T:=fun (d:Tys.data as156)=>t156 d.1 d.2.1) (by kernel_rfl) (fun (d:Tys.data as156)=>ok156_t d.1 d.2.1)
def kf156:Known:=kl156_0.func 156 p156
theorem kf156_ok:KnownOk Go.Proofs.Try.prog kf156:=kl156_0_ok.func ok156

/-! loop 0 of ductility/ductilitybase.addDigits -/

abbrev sh154_0:Sh:={ n:=42,slots:=[0,1,5,6,7],pats:=[.ty (.slice (.int .i64)),.ty (.slice (.int .i64)),.acc (.int .i64),.ty (.int .i64),.ty (.int .i64)],boxes:=[] }
abbrev shb154_0:Sh:={ n:=42,slots:=[5],pats:=[.acc (.int .i64)],boxes:=[] }
abbrev shr154_0:Sh:={ n:=42,slots:=[],pats:=[],boxes:=[] }

def t154_0 (x0:(List Int)) (x1:(List Int)) (x2:(List Int)) (x3:Int) (x4:Int):Tr (Out sh154_0.data shb154_0.data shr154_0.data) :=
  Tr.test ((!leF (↑(List.length x0):Int) x4:Bool))
    (Tr.test (Option.isSome (f175 (x0,(x4,()))))
      (Tr.test (Option.isSome (f175 (x1,(x4,()))))
        (Tr.test ((Nat.ble (((2:Nat) * (List.length x2 + (1:Nat)) + (192:Nat)) * (8:Nat)) (281474976710656:Nat) && Nat.ble (List.length x2 + (1:Nat)) (281474976710656:Nat):Bool))
          (let r0:Int×PUnit:=g175 (x0,(x4,()));
          let r1:Int×PUnit:=g175 (x1,(x4,()));
          Tr.fin (.again ((x0,(x1,((x2++[Int.tmod (wrap64 (wrap64 (r0.1 + r1.1) + x3)) (1000000000:Int)]:List Int),((Go.IntKind.wrap Go.IntKind.i64 (Int.tdiv (wrap64 (wrap64 (r0.1 + r1.1) + x3)) (1000000000:Int)):Int),((wrap64 (x4 + (1:Int)):Int),()))))),())))
          (Tr.stop))
        (Tr.stop))
      (Tr.stop))
    (Tr.test (!leF (↑(List.length x1):Int) x4)
      (Tr.test (Option.isSome (f175 (x0,(x4,()))))
        (Tr.test (Option.isSome (f175 (x1,(x4,()))))
          (Tr.test ((Nat.ble (((2:Nat) * (List.length x2 + (1:Nat)) + (192:Nat)) * (8:Nat)) (281474976710656:Nat) && Nat.ble (List.length x2 + (1:Nat)) (281474976710656:Nat):Bool))
            (let r0:Int×PUnit:=g175 (x0,(x4,()));
            let r1:Int×PUnit:=g175 (x1,(x4,()));
            Tr.fin (.again ((x0,(x1,((x2++[Int.tmod (wrap64 (wrap64 (r0.1 + r1.1) + x3)) (1000000000:Int)]:List Int),((Go.IntKind.wrap Go.IntKind.i64 (Int.tdiv (wrap64 (wrap64 (r0.1 + r1.1) + x3)) (1000000000:Int)):Int),((wrap64 (x4 + (1:Int)):Int),()))))),())))
            (Tr.stop))
          (Tr.stop))
        (Tr.stop))
      (Tr.test ((!leF x3 0:Bool))
        (Tr.test (Option.isSome (f175 (x0,(x4,()))))
          (Tr.test (Option.isSome (f175 (x1,(x4,()))))
            (Tr.test ((Nat.ble (((2:Nat) * (List.length x2 + (1:Nat)) + (192:Nat)) * (8:Nat)) (281474976710656:Nat) && Nat.ble (List.length x2 + (1:Nat)) (281474976710656:Nat):Bool))
              (let r0:Int×PUnit:=g175 (x0,(x4,()));
              let r1:Int×PUnit:=g175 (x1,(x4,()));
              Tr.fin (.again ((x0,(x1,((x2++[Int.tmod (wrap64 (wrap64 (r0.1 + r1.1) + x3)) (1000000000:Int)]:List Int),((Go.IntKind.wrap Go.IntKind.i64 (Int.tdiv (wrap64 (wrap64 (r0.1 + r1.1) + x3)) (1000000000:Int)):Int),((wrap64 (x4 + (1:Int)):Int),()))))),())))
              (Tr.stop))
            (Tr.stop))
          (Tr.stop))
        (Tr.fin (.brk ((x2,()),())))))

def s154_0 (d:sh154_0.data):Option (Out sh154_0.data shb154_0.data shr154_0.data):=(t154_0 d.1.1 d.1.2.1 d.1.2.2.1 d.1.2.2.2.1 d.1.2.2.2.2.1).val
def l154_0 (d:sh154_0.data):Option (shb154_0.data ⊕ shr154_0.data):=itr s154_0 rounds d
def b154_0 (d:sh154_0.data):shb154_0.data:=outB shb154_0.dflt (l154_0 d)
def lc154_0:LoopC:=lcB sh154_0 shb154_0 shr154_0 l154_0 b154_0

theorem e154_0_0 (x0:(List Int)) (x1:(List Int)) (x2:(List Int)) (x3:Int) (x4:Int):runBody kf156.orc Go.Proofs.Try.prog 400 154 0 sh154_0 shb154_0 shr154_0 ((x0,x1,x2,x3,x4,()),()) [tt,tt,tt,tt,tt,tt,tt,tt,tt,tt,tt,ff,ff,tt,tt,ff] =
    (let r0:Int×PUnit:=g175 (x0,(x4,()));let r1:Int×PUnit:=g175 (x1,(x4,())); some (.again ((x0,(x1,((x2++[Int.tmod (wrap64 (wrap64 (r0.1 + r1.1) + x3)) (1000000000:Int)]:List Int),((Go.IntKind.wrap Go.IntKind.i64 (Int.tdiv (wrap64 (wrap64 (r0.1 + r1.1) + x3)) (1000000000:Int)):Int),((wrap64 (x4 + (1:Int)):Int),()))))),()),[(false,false),(true,true),(Nat.ble (((2:Nat) * (List.length x2 + (1:Nat)) + (192:Nat)) * (8:Nat)) (281474976710656:Nat) && Nat.ble (List.length x2 + (1:Nat)) (281474976710656:Nat),true),(false,false),(false,false),(Option.isSome (f175 (x1,(x4,()))),true),(Option.isSome (f175 (x0,(x4,()))),true),(true,true),(true,true),(true,true),(true,true),(!leF (↑(List.length x0):Int) x4,true),(!leF (↑(List.length x0):Int) x4,true),(!leF (↑(List.length x0):Int) x4,true),(!leF (↑(List.length x0):Int) x4,true),(!leF (↑(List.length x0):Int) x4,true)])):=by kernel_rfl
theorem e154_0_2 (x0:(List Int)) (x1:(List Int)) (x2:(List Int)) (x3:Int) (x4:Int):runBody kf156.orc Go.Proofs.Try.prog 400 154 0 sh154_0 shb154_0 shr154_0 ((x0,x1,x2,x3,x4,()),()) [ff,ff,ff,ff,ff,tt,tt,tt,tt,tt,tt,ff,ff,tt,tt,ff] =
    (let r0:Int×PUnit:=g175 (x0,(x4,()));let r1:Int×PUnit:=g175 (x1,(x4,())); some (.again ((x0,(x1,((x2++[Int.tmod (wrap64 (wrap64 (r0.1 + r1.1) + x3)) (1000000000:Int)]:List Int),((Go.IntKind.wrap Go.IntKind.i64 (Int.tdiv (wrap64 (wrap64 (r0.1 + r1.1) + x3)) (1000000000:Int)):Int),((wrap64 (x4 + (1:Int)):Int),()))))),()),[(false,false),(true,true),(Nat.ble (((2:Nat) * (List.length x2 + (1:Nat)) + (192:Nat)) * (8:Nat)) (281474976710656:Nat) && Nat.ble (List.length x2 + (1:Nat)) (281474976710656:Nat),true),(false,false),(false,false),(Option.isSome (f175 (x1,(x4,()))),true),(Option.isSome (f175 (x0,(x4,()))),true),(true,true),(!leF (↑(List.length x1):Int) x4,true),(!leF (↑(List.length x1):Int) x4,true),(!leF (↑(List.length x1):Int) x4,true),(!leF (↑(List.length x0):Int) x4,false),(!leF (↑(List.length x0):Int) x4,false),(!leF (↑(List.length x0):Int) x4,false),(!leF (↑(List.length x0):Int) x4,false),(!leF (↑(List.length x0):Int) x4,false)])):=by kernel_rfl
theorem e154_0_4 (x0:(List Int)) (x1:(List Int)) (x2:(List Int)) (x3:Int) (x4:Int):runBody kf156.orc Go.Proofs.Try.prog 400 154 0 sh154_0 shb154_0 shr154_0 ((x0,x1,x2,x3,x4,()),()) [ff,ff,ff,ff,ff,ff,ff,ff,tt,tt,tt,ff,ff,tt,tt,ff] =
    (let r0:Int×PUnit:=g175 (x0,(x4,()));let r1:Int×PUnit:=g175 (x1,(x4,())); some (.again ((x0,(x1,((x2++[Int.tmod (wrap64 (wrap64 (r0.1 + r1.1) + x3)) (1000000000:Int)]:List Int),((Go.IntKind.wrap Go.IntKind.i64 (Int.tdiv (wrap64 (wrap64 (r0.1 + r1.1) + x3)) (1000000000:Int)):Int),((wrap64 (x4 + (1:Int)):Int),()))))),()),[(false,false),(true,true),(Nat.ble (((2:Nat) * (List.length x2 + (1:Nat)) + (192:Nat)) * (8:Nat)) (281474976710656:Nat) && Nat.ble (List.length x2 + (1:Nat)) (281474976710656:Nat),true),(false,false),(false,false),(Option.isSome (f175 (x1,(x4,()))),true),(Option.isSome (f175 (x0,(x4,()))),true),(!leF x3 0,true),(!leF (↑(List.length x1):Int) x4,false),(!leF (↑(List.length x1):Int) x4,false),(!leF (↑(List.length x1):Int) x4,false),(!leF (↑(List.length x0):Int) x4,false),(!leF (↑(List.length x0):Int) x4,false),(!leF (↑(List.length x0):Int) x4,false),(!leF (↑(List.length x0):Int) x4,false),(!leF (↑(List.length x0):Int) x4,false)])):=by kernel_rfl
theorem e154_0_6 (x0:(List Int)) (x1:(List Int)) (x2:(List Int)) (x3:Int) (x4:Int):runBody kf156.orc Go.Proofs.Try.prog 400 154 0 sh154_0 shb154_0 shr154_0 ((x0,x1,x2,x3,x4,()),()) [ff,ff,ff,ff,ff,ff,ff,ff,ff] =
    (some (.brk ((x2,()),()),[(!leF x3 0,false),(!leF (↑(List.length x1):Int) x4,false),(!leF (↑(List.length x1):Int) x4,false),(!leF (↑(List.length x1):Int) x4,false),(!leF (↑(List.length x0):Int) x4,false),(!leF (↑(List.length x0):Int) x4,false),(!leF (↑(List.length x0):Int) x4,false),(!leF (↑(List.length x0):Int) x4,false),(!leF (↑(List.length x0):Int) x4,false)])):=by kernel_rfl

theorem ok154_0_t (x0:(List Int)) (x1:(List Int)) (x2:(List Int)) (x3:Int) (x4:Int):TrOk (BodyRuns Go.Proofs.Try.prog kf156.orc 154 0 sh154_0 shb154_0 shr154_0 ((x0,x1,x2,x3,x4,()),())) (t154_0 x0 x1 x2 x3 x4) :=
  TrOk.ofTest (fun h0=>TrOk.ofTest (fun h9=>TrOk.ofTest (fun h10=>TrOk.ofTest (fun h13=>TrOk.ofFin (BodyRuns.of (e154_0_0 x0 x1 x2 x3 x4) (ac rfl (ac rfl (ac h13 (ac rfl (ac rfl (ac h10 (ac h9 (ac rfl (ac rfl (ac rfl (ac rfl (ac (nn h0) (ac (nn h0) (ac (nn h0) (ac (nn h0) (ac h0 All.nil)))))))))))))))))) (fun h13=>TrOk.ofStop)) (fun h10=>TrOk.ofStop)) (fun h9=>TrOk.ofStop)) (fun h0=>TrOk.ofTest (fun h5=>TrOk.ofTest (fun h9=>TrOk.ofTest (fun h10=>TrOk.ofTest (fun h13=>TrOk.ofFin (BodyRuns.of (e154_0_2 x0 x1 x2 x3 x4) (ac rfl (ac rfl (ac h13 (ac rfl (ac rfl (ac h10 (ac h9 (ac rfl (ac (nn h5) (ac (nn h5) (ac h5 (ac (nn h0) (ac (nn h0) (ac (nn h0) (ac (nn h0) (ac h0 All.nil)))))))))))))))))) (fun h13=>TrOk.ofStop)) (fun h10=>TrOk.ofStop)) (fun h9=>TrOk.ofStop)) (fun h5=>TrOk.ofTest (fun h8=>TrOk.ofTest (fun h9=>TrOk.ofTest (fun h10=>TrOk.ofTest (fun h13=>TrOk.ofFin (BodyRuns.of (e154_0_4 x0 x1 x2 x3 x4) (ac rfl (ac rfl (ac h13 (ac rfl (ac rfl (ac h10 (ac h9 (ac h8 (ac (nn h5) (ac (nn h5) (ac h5 (ac (nn h0) (ac (nn h0) (ac (nn h0) (ac (nn h0) (ac h0 All.nil)))))))))))))))))) (fun h13=>TrOk.ofStop)) (fun h10=>TrOk.ofStop)) (fun h9=>TrOk.ofStop)) (fun h8=>TrOk.ofFin (BodyRuns.of (e154_0_6 x0 x1 x2 x3 x4) (ac h8 (ac (nn h5) (ac (nn h5) (ac h5 (ac (nn h0) (ac (nn h0) (ac (nn h0) (ac (nn h0) (ac h0 All.nil)))))))))))))

theorem ok154_0:LoopOk Go.Proofs.Try.prog 154 0 lc154_0:=loopOk_ofB kf156_ok.base (T:=fun (d:sh154_0.data)=>t154_0 d.1.1 d.1.2.1 d.1.2.2.1 d.1.2.2.2.1 d.1.2.2.2.2.1) (by kernel_rfl) rfl (fun (d:sh154_0.data)=>ok154_0_t d.1.1 d.1.2.1 d.1.2.2.1 d.1.2.2.2.1 d.1.2.2.2.2.1) (fun _=>rfl)
def kl154_0:Known:=kf156.loop 154 0 lc154_0
theorem kl154_0_ok:KnownOk Go.Proofs.Try.prog kl154_0:=kf156_ok.loop ok154_0

/-! ductility/ductilitybase.addDigits -/

abbrev as154:List Ty:=[(.slice (.int .i64)),(.slice (.int .i64))]
abbrev rs154:List Ty:=[(.slice (.int .i64))]

def t154 (x0:(List Int)) (x1:(List Int)):Tr (Tys.data rs154) :=
  Tr.test (isBrk (l154_0 ((x0,(x1,(([]:List Int),((0:Int),((0:Int),()))))),())))
    (let r0:(List Int×PUnit)×PUnit:=b154_0 ((x0,(x1,(([]:List Int),((0:Int),((0:Int),()))))),());
    Tr.fin ((r0.1.1,())))
    (Tr.stop)

def f154 (d:Tys.data as154):Option (Tys.data rs154):=(t154 d.1 d.2.1).val
def g154 (d:Tys.data as154):Tys.data rs154:=(f154 d).getD (Tys.dflt rs154)
def p154:PureC:=pcOf as154 rs154 f154 g154

theorem e154_0 (x0:(List Int)) (x1:(List Int)):runPure kl154_0.orc Go.Proofs.Try.prog 400 154 as154 rs154 (x0,x1,()) [tt,tt] =
    (let r0:(List Int×PUnit)×PUnit:=b154_0 ((x0,(x1,(([]:List Int),((0:Int),((0:Int),()))))),()); some ((r0.1.1,()),[(true,true),(isBrk (l154_0 ((x0,(x1,(([]:List Int),((0:Int),((0:Int),()))))),())),true)])):=by kernel_rfl

theorem ok154_t (x0:(List Int)) (x1:(List Int)):TrOk (PureRuns Go.Proofs.Try.prog kl154_0.orc 154 as154 rs154 (x0,x1,())) (t154 x0 x1) :=
  TrOk.ofTest (fun h0=>TrOk.ofFin (PureRuns.of (e154_0 x0 x1) (ac rfl (ac h0 All.nil)))) (fun h0=>TrOk.ofStop)

theorem ok154:PureOk Go.Proofs.Try.prog 154 p154:=pureOk_of kl154_0_ok.base (T:=fun (d:Tys.data as154)=>t154 d.1 d.2.1) (by kernel_rfl) (fun (d:Tys.data as154)=>ok154_t d.1 d.2.1)
def kf154:Known:=kl154_0.func 154 p154
theorem kf154_ok:KnownOk Go.Proofs.Try.prog kf154:=kl154_0_ok.func ok154

/-! ductility/ductilitybase.WideAdd -/

abbrev as116:List Ty:=[(.pair (.int .i64) (.pair (.slice (.int .i64)) .unit)),(.pair (.int .i64) (.pair (.slice (.int .i64)) .unit))]
abbrev rs116:List Ty:=[(.pair (.int .i64) (.pair (.slice (.int .i64)) .unit))]

def t116 (x0:Int) (x0':(List Int)) (x1:Int) (x1':(List Int)):Tr (Tys.data rs116) :=
  Tr.test ((eqF x0 0:Bool))
    (Tr.fin (((x1,(x1',())),())))
    (Tr.test (eqF x1 0)
      (Tr.fin (((x0,(x0',())),())))
      (Tr.test ((eqF x0 x1:Bool))
        (Tr.test (Option.isSome (f154 (x0',(x1',()))))
          (let r0:List Int×PUnit:=g154 (x0',(x1',()));
          Tr.test (Option.isSome (f149 (x0,(r0.1,()))))
            (let r1:(Int×List Int×PUnit)×PUnit:=g149 (x0,(r0.1,()));
            Tr.fin (((r1.1.1,(r1.1.2.1,())),())))
            (Tr.stop))
          (Tr.stop))
        (Tr.test (Option.isSome (f155 (x0',(x1',()))))
          (let r2:Int×PUnit:=g155 (x0',(x1',()));
          Tr.test ((eqF r2.1 0:Bool))
            (Tr.fin ((((0:Int),(([]:List Int),())),())))
            (Tr.test ((!leF r2.1 0:Bool))
              (Tr.test (Option.isSome (f156 (x0',(x1',()))))
                (let r3:List Int×PUnit:=g156 (x0',(x1',()));
                Tr.test (Option.isSome (f149 (x0,(r3.1,()))))
                  (let r4:(Int×List Int×PUnit)×PUnit:=g149 (x0,(r3.1,()));
                  Tr.fin (((r4.1.1,(r4.1.2.1,())),())))
                  (Tr.stop))
                (Tr.stop))
              (Tr.test (Option.isSome (f156 (x1',(x0',()))))
                (let r5:List Int×PUnit:=g156 (x1',(x0',()));
                Tr.test (Option.isSome (f149 (x1,(r5.1,()))))
                  (let r6:(Int×List Int×PUnit)×PUnit:=g149 (x1,(r5.1,()));
                  Tr.fin (((r6.1.1,(r6.1.2.1,())),())))
                  (Tr.stop))
                (Tr.stop))))
          (Tr.stop))))

def f116 (d:Tys.data as116):Option (Tys.data rs116):=(t116 d.1.1 d.1.2.1 d.2.1.1 d.2.1.2.1).val
def g116 (d:Tys.data as116):Tys.data rs116:=(f116 d).getD (Tys.dflt rs116)
def p116:PureC:=pcOf as116 rs116 f116 g116

theorem e116_0 (x0:Int) (x0':(List Int)) (x1:Int) (x1':(List Int)):runPure kf154.orc Go.Proofs.Try.prog 400 116 as116 rs116 ((x0,x0',()),(x1,x1',()),()) [tt] =
    (some (((x1,(x1',())),()),[(eqF x0 0,true)])):=by kernel_rfl
theorem e116_1 (x0:Int) (x0':(List Int)) (x1:Int) (x1':(List Int)):runPure kf154.orc Go.Proofs.Try.prog 400 116 as116 rs116 ((x0,x0',()),(x1,x1',()),()) [ff,tt] =
    (some (((x0,(x0',())),()),[(eqF x1 0,true),(eqF x0 0,false)])):=by kernel_rfl
theorem e116_2 (x0:Int) (x0':(List Int)) (x1:Int) (x1':(List Int)):runPure kf154.orc Go.Proofs.Try.prog 400 116 as116 rs116 ((x0,x0',()),(x1,x1',()),()) [ff,ff,tt,tt,tt] =
    (let r0:List Int×PUnit:=g154 (x0',(x1',()));let r1:(Int×List Int×PUnit)×PUnit:=g149 (x0,(r0.1,())); some (((r1.1.1,(r1.1.2.1,())),()),[(Option.isSome (f149 (x0,(r0.1,()))),true),(Option.isSome (f154 (x0',(x1',()))),true),(eqF x0 x1,true),(eqF x1 0,false),(eqF x0 0,false)])):=by kernel_rfl
theorem e116_3 (x0:Int) (x0':(List Int)) (x1:Int) (x1':(List Int)):runPure kf154.orc Go.Proofs.Try.prog 400 116 as116 rs116 ((x0,x0',()),(x1,x1',()),()) [ff,ff,ff,tt,tt] =
    (let r2:Int×PUnit:=g155 (x0',(x1',())); some ((((0:Int),(([]:List Int),())),()),[(eqF r2.1 0,true),(Option.isSome (f155 (x0',(x1',()))),true),(eqF x0 x1,false),(eqF x1 0,false),(eqF x0 0,false)])):=by kernel_rfl
theorem e116_4 (x0:Int) (x0':(List Int)) (x1:Int) (x1':(List Int)):runPure kf154.orc Go.Proofs.Try.prog 400 116 as116 rs116 ((x0,x0',()),(x1,x1',()),()) [ff,ff,ff,tt,ff,tt,tt,tt] =
    (let r2:Int×PUnit:=g155 (x0',(x1',()));let r3:List Int×PUnit:=g156 (x0',(x1',()));let r4:(Int×List Int×PUnit)×PUnit:=g149 (x0,(r3.1,())); some (((r4.1.1,(r4.1.2.1,())),()),[(Option.isSome (f149 (x0,(r3.1,()))),true),(Option.isSome (f156 (x0',(x1',()))),true),(!leF r2.1 0,true),(eqF r2.1 0,false),(Option.isSome (f155 (x0',(x1',()))),true),(eqF x0 x1,false),(eqF x1 0,false),(eqF x0 0,false)])):=by kernel_rfl
theorem e116_5 (x0:Int) (x0':(List Int)) (x1:Int) (x1':(List Int)):runPure kf154.orc Go.Proofs.Try.prog 400 116 as116 rs116 ((x0,x0',()),(x1,x1',()),()) [ff,ff,ff,tt,ff,ff,tt,tt] =
    (let r2:Int×PUnit:=g155 (x0',(x1',()));let r5:List Int×PUnit:=g156 (x1',(x0',()));let r6:(Int×List Int×PUnit)×PUnit:=g149 (x1,(r5.1,())); some (((r6.1.1,(r6.1.2.1,())),()),[(Option.isSome (f149 (x1,(r5.1,()))),true),(Option.isSome (f156 (x1',(x0',()))),true),(!leF r2.1 0,false),(eqF r2.1 0,false),(Option.isSome (f155 (x0',(x1',()))),true),(eqF x0 x1,false),(eqF x1 0,false),(eqF x0 0,false)])):=by kernel_rfl

theorem ok116_t (x0:Int) (x0':(List Int)) (x1:Int) (x1':(List Int)):TrOk (PureRuns Go.Proofs.Try.prog kf154.orc 116 as116 rs116 ((x0,x0',()),(x1,x1',()),())) (t116 x0 x0' x1 x1') :=
  TrOk.ofTest (fun h0=>TrOk.ofFin (PureRuns.of (e116_0 x0 x0' x1 x1') (ac h0 All.nil))) (fun h0=>TrOk.ofTest (fun h1=>TrOk.ofFin (PureRuns.of (e116_1 x0 x0' x1 x1') (ac h1 (ac h0 All.nil)))) (fun h1=>TrOk.ofTest (fun h2=>TrOk.ofTest (fun h3=>TrOk.ofTest (fun h4=>TrOk.ofFin (PureRuns.of (e116_2 x0 x0' x1 x1') (ac h4 (ac h3 (ac h2 (ac h1 (ac h0 All.nil))))))) (fun h4=>TrOk.ofStop)) (fun h3=>TrOk.ofStop)) (fun h2=>TrOk.ofTest (fun h3=>TrOk.ofTest (fun h4=>TrOk.ofFin (PureRuns.of (e116_3 x0 x0' x1 x1') (ac h4 (ac h3 (ac h2 (ac h1 (ac h0 All.nil))))))) (fun h4=>TrOk.ofTest (fun h5=>TrOk.ofTest (fun h6=>TrOk.ofTest (fun h7=>TrOk.ofFin (PureRuns.of (e116_4 x0 x0' x1 x1') (ac h7 (ac h6 (ac h5 (ac h4 (ac h3 (ac h2 (ac h1 (ac h0 All.nil)))))))))) (fun h7=>TrOk.ofStop)) (fun h6=>TrOk.ofStop)) (fun h5=>TrOk.ofTest (fun h6=>TrOk.ofTest (fun h7=>TrOk.ofFin (PureRuns.of (e116_5 x0 x0' x1 x1') (ac h7 (ac h6 (ac h5 (ac h4 (ac h3 (ac h2 (ac h1 (ac h0 All.nil)))))))))) (fun h7=>TrOk.ofStop)) (fun h6=>TrOk.ofStop)))) (fun h3=>TrOk.ofStop))))

theorem ok116:PureOk Go.Proofs.Try.prog 116 p116:=pureOk_of kf154_ok.base (T:=fun (d:Tys.data as116)=>t116 d.1.1 d.1.2.1 d.2.1.1 d.2.1.2.1) (by kernel_rfl) (fun (d:Tys.data as116)=>ok116_t d.1.1 d.1.2.1 d.2.1.1 d.2.1.2.1)
def kf116:Known:=kf154.func 116 p116
theorem kf116_ok:KnownOk Go.Proofs.Try.prog kf116:=kf154_ok.func ok116

/-! ductility/ductilitybase.WideSub -/

abbrev as157:List Ty:=[(.pair (.int .i64) (.pair (.slice (.int .i64)) .unit)),(.pair (.int .i64) (.pair (.slice (.int .i64)) .unit))]
abbrev rs157:List Ty:=[(.pair (.int .i64) (.pair (.slice (.int .i64)) .unit))]

def t157 (x0:Int) (x0':(List Int)) (x1:Int) (x1':(List Int)):Tr (Tys.data rs157) :=
  Tr.test (Option.isSome (f150 ((x1,(x1',())),())))
    (let r0:(Int×List Int×PUnit)×PUnit:=g150 ((x1,(x1',())),());
    Tr.test (Option.isSome (f116 ((x0,(x0',())),((r0.1.1,(r0.1.2.1,())),()))))
      (let r1:(Int×List Int×PUnit)×PUnit:=g116 ((x0,(x0',())),((r0.1.1,(r0.1.2.1,())),()));
      Tr.fin (((r1.1.1,(r1.1.2.1,())),())))
      (Tr.stop))
    (Tr.stop)

def f157 (d:Tys.data as157):Option (Tys.data rs157):=(t157 d.1.1 d.1.2.1 d.2.1.1 d.2.1.2.1).val
def g157 (d:Tys.data as157):Tys.data rs157:=(f157 d).getD (Tys.dflt rs157)
def p157:PureC:=pcOf as157 rs157 f157 g157

theorem e157_0 (x0:Int) (x0':(List Int)) (x1:Int) (x1':(List Int)):runPure kf116.orc Go.Proofs.Try.prog 400 157 as157 rs157 ((x0,x0',()),(x1,x1',()),()) [tt,tt] =
    (let r0:(Int×List Int×PUnit)×PUnit:=g150 ((x1,(x1',())),());let r1:(Int×List Int×PUnit)×PUnit:=g116 ((x0,(x0',())),((r0.1.1,(r0.1.2.1,())),())); some (((r1.1.1,(r1.1.2.1,())),()),[(Option.isSome (f116 ((x0,(x0',())),((r0.1.1,(r0.1.2.1,())),()))),true),(Option.isSome (f150 ((x1,(x1',())),())),true)])):=by kernel_rfl

theorem ok157_t (x0:Int) (x0':(List Int)) (x1:Int) (x1':(List Int)):TrOk (PureRuns Go.Proofs.Try.prog kf116.orc 157 as157 rs157 ((x0,x0',()),(x1,x1',()),())) (t157 x0 x0' x1 x1') :=
  TrOk.ofTest (fun h0=>TrOk.ofTest (fun h1=>TrOk.ofFin (PureRuns.of (e157_0 x0 x0' x1 x1') (ac h1 (ac h0 All.nil)))) (fun h1=>TrOk.ofStop)) (fun h0=>TrOk.ofStop)

theorem ok157:PureOk Go.Proofs.Try.prog 157 p157:=pureOk_of kf116_ok.base (T:=fun (d:Tys.data as157)=>t157 d.1.1 d.1.2.1 d.2.1.1 d.2.1.2.1) (by kernel_rfl) (fun (d:Tys.data as157)=>ok157_t d.1.1 d.1.2.1 d.2.1.1 d.2.1.2.1)
def kf157:Known:=kf116.func 157 p157
theorem kf157_ok:KnownOk Go.Proofs.Try.prog kf157:=kf116_ok.func ok157

/-! loop 2 of ductility/ductilitybase.WideFloor -/

abbrev sh153_2:Sh:={ n:=88,slots:=[2,3,4,5,6,7,8,9],pats:=[.ptr 0 2 0,.ptr 1 2 0,.ptr 2 2 0,.sli 3 1,.ty (.slice (.int .i64)),.ty (.int .i64),.ty (.int .i64),.ty (.int .i64)],boxes:=[.row [.ty (.int .i64),.ty (.slice (.int .i64))],.row [.ty (.int .i64),.ty (.slice (.int .i64))],.row [.ty (.int .i64),.nil],.arr (.int .i64)] }
abbrev shb153_2:Sh:={ n:=88,slots:=[2,3,4,5,6,7,8],pats:=[.ptr 0 2 0,.ptr 1 2 0,.ptr 2 2 0,.sli 3 1,.ty (.slice (.int .i64)),.ty (.int .i64),.ty (.int .i64)],boxes:=[.row [.ty (.int .i64),.ty (.slice (.int .i64))],.row [.ty (.int .i64),.ty (.slice (.int .i64))],.row [.ty (.int .i64),.nil],.arr (.int .i64)] }
abbrev shr153_2:Sh:={ n:=88,slots:=[],pats:=[],boxes:=[.row [.ty (.int .i64),.ty (.slice (.int .i64))],.row [.ty (.int .i64),.ty (.slice (.int .i64))],.row [.ty (.int .i64),.nil],.arr (.int .i64)] }

def t153_2 (x3n:Nat) (x3c:Nat) (x4:(List Int)) (x5:Int) (x6:Int) (x7:Int) (b0_0:Int) (b0_1:(List Int)) (b1_0:Int) (b1_1:(List Int)) (b2_0:Int) (b3:(List Int)):Tr (Out sh153_2.data shb153_2.data shr153_2.data) :=
  Tr.test ((!leF x7 x6:Bool))
    (Tr.test (Option.isSome (f149 ((1:Int),(b1_1,()))))
      (Tr.test (Option.isSome (f113 ((Go.IntKind.wrap Go.IntKind.i64 (Int.tdiv (wrap64 (wrap64 (x6 + x7) + (1:Int))) (2:Int)):Int),())))
        (let r0:(Int×List Int×PUnit)×PUnit:=g149 ((1:Int),(b1_1,()));
        let r1:(Int×List Int×PUnit)×PUnit:=g113 ((Go.IntKind.wrap Go.IntKind.i64 (Int.tdiv (wrap64 (wrap64 (x6 + x7) + (1:Int))) (2:Int)):Int),());
        Tr.test (Option.isSome (f117 ((r0.1.1,(r0.1.2.1,())),((r1.1.1,(r1.1.2.1,())),()))))
          (let r2:(Int×List Int×PUnit)×PUnit:=g117 ((r0.1.1,(r0.1.2.1,())),((r1.1.1,(r1.1.2.1,())),()));
          Tr.test (Option.isSome (f155 (r2.1.2.1,(x4,()))))
            (let r3:Int×PUnit:=g155 (r2.1.2.1,(x4,()));
            Tr.test ((leF r3.1 0:Bool))
              (Tr.fin (.again (((x3n,x3c),(x4,(x5,((Go.IntKind.wrap Go.IntKind.i64 (Int.tdiv (wrap64 (wrap64 (x6 + x7) + (1:Int))) (2:Int)):Int),(x7,()))))),((b0_0,(b0_1,())),((b1_0,(b1_1,())),((b2_0,()),(b3,())))))))
              (Tr.fin (.again (((x3n,x3c),(x4,(x5,(x6,((wrap64 (Go.IntKind.wrap Go.IntKind.i64 (Int.tdiv (wrap64 (wrap64 (x6 + x7) + (1:Int))) (2:Int)) - (1:Int)):Int),()))))),((b0_0,(b0_1,())),((b1_0,(b1_1,())),((b2_0,()),(b3,()))))))))
            (Tr.stop))
          (Tr.stop))
        (Tr.stop))
      (Tr.stop))
    (Tr.fin (.brk (((x3n,x3c),(x4,(x5,(x6,())))),((b0_0,(b0_1,())),((b1_0,(b1_1,())),((b2_0,()),(b3,())))))))

def s153_2 (d:sh153_2.data):Option (Out sh153_2.data shb153_2.data shr153_2.data):=(t153_2 d.1.1.1 d.1.1.2 d.1.2.1 d.1.2.2.1 d.1.2.2.2.1 d.1.2.2.2.2.1 d.2.1.1 d.2.1.2.1 d.2.2.1.1 d.2.2.1.2.1 d.2.2.2.1.1 d.2.2.2.2.1).val
def l153_2 (d:sh153_2.data):Option (shb153_2.data ⊕ shr153_2.data):=itr s153_2 rounds d
def b153_2 (d:sh153_2.data):shb153_2.data:=outB shb153_2.dflt (l153_2 d)
def lc153_2:LoopC:=lcB sh153_2 shb153_2 shr153_2 l153_2 b153_2

theorem e153_2_0 (x3n:Nat) (x3c:Nat) (x4:(List Int)) (x5:Int) (x6:Int) (x7:Int) (b0_0:Int) (b0_1:(List Int)) (b1_0:Int) (b1_1:(List Int)) (b2_0:Int) (b3:(List Int)):runBody kf157.orc Go.Proofs.Try.prog 400 153 2 sh153_2 shb153_2 shr153_2 (((x3n,x3c),x4,x5,x6,x7,()),(b0_0,b0_1,()),(b1_0,b1_1,()),(b2_0,()),b3,()) [tt,ff,tt,tt,tt,tt,tt] =
    (let r0:(Int×List Int×PUnit)×PUnit:=g149 ((1:Int),(b1_1,()));let r1:(Int×List Int×PUnit)×PUnit:=g113 ((Go.IntKind.wrap Go.IntKind.i64 (Int.tdiv (wrap64 (wrap64 (x6 + x7) + (1:Int))) (2:Int)):Int),());let r2:(Int×List Int×PUnit)×PUnit:=g117 ((r0.1.1,(r0.1.2.1,())),((r1.1.1,(r1.1.2.1,())),()));let r3:Int×PUnit:=g155 (r2.1.2.1,(x4,())); some (.again (((x3n,x3c),(x4,(x5,((Go.IntKind.wrap Go.IntKind.i64 (Int.tdiv (wrap64 (wrap64 (x6 + x7) + (1:Int))) (2:Int)):Int),(x7,()))))),((b0_0,(b0_1,())),((b1_0,(b1_1,())),((b2_0,()),(b3,()))))),[(leF r3.1 0,true),(Option.isSome (f155 (r2.1.2.1,(x4,()))),true),(Option.isSome (f117 ((r0.1.1,(r0.1.2.1,())),((r1.1.1,(r1.1.2.1,())),()))),true),(Option.isSome (f113 ((Go.IntKind.wrap Go.IntKind.i64 (Int.tdiv (wrap64 (wrap64 (x6 + x7) + (1:Int))) (2:Int)):Int),())),true),(Option.isSome (f149 ((1:Int),(b1_1,()))),true),(false,false),(!leF x7 x6,true)])):=by kernel_rfl
theorem e153_2_1 (x3n:Nat) (x3c:Nat) (x4:(List Int)) (x5:Int) (x6:Int) (x7:Int) (b0_0:Int) (b0_1:(List Int)) (b1_0:Int) (b1_1:(List Int)) (b2_0:Int) (b3:(List Int)):runBody kf157.orc Go.Proofs.Try.prog 400 153 2 sh153_2 shb153_2 shr153_2 (((x3n,x3c),x4,x5,x6,x7,()),(b0_0,b0_1,()),(b1_0,b1_1,()),(b2_0,()),b3,()) [tt,ff,tt,tt,tt,tt,ff] =
    (let r0:(Int×List Int×PUnit)×PUnit:=g149 ((1:Int),(b1_1,()));let r1:(Int×List Int×PUnit)×PUnit:=g113 ((Go.IntKind.wrap Go.IntKind.i64 (Int.tdiv (wrap64 (wrap64 (x6 + x7) + (1:Int))) (2:Int)):Int),());let r2:(Int×List Int×PUnit)×PUnit:=g117 ((r0.1.1,(r0.1.2.1,())),((r1.1.1,(r1.1.2.1,())),()));let r3:Int×PUnit:=g155 (r2.1.2.1,(x4,())); some (.again (((x3n,x3c),(x4,(x5,(x6,((wrap64 (Go.IntKind.wrap Go.IntKind.i64 (Int.tdiv (wrap64 (wrap64 (x6 + x7) + (1:Int))) (2:Int)) - (1:Int)):Int),()))))),((b0_0,(b0_1,())),((b1_0,(b1_1,())),((b2_0,()),(b3,()))))),[(leF r3.1 0,false),(Option.isSome (f155 (r2.1.2.1,(x4,()))),true),(Option.isSome (f117 ((r0.1.1,(r0.1.2.1,())),((r1.1.1,(r1.1.2.1,())),()))),true),(Option.isSome (f113 ((Go.IntKind.wrap Go.IntKind.i64 (Int.tdiv (wrap64 (wrap64 (x6 + x7) + (1:Int))) (2:Int)):Int),())),true),(Option.isSome (f149 ((1:Int),(b1_1,()))),true),(false,false),(!leF x7 x6,true)])):=by kernel_rfl
theorem e153_2_2 (x3n:Nat) (x3c:Nat) (x4:(List Int)) (x5:Int) (x6:Int) (x7:Int) (b0_0:Int) (b0_1:(List Int)) (b1_0:Int) (b1_1:(List Int)) (b2_0:Int) (b3:(List Int)):runBody kf157.orc Go.Proofs.Try.prog 400 153 2 sh153_2 shb153_2 shr153_2 (((x3n,x3c),x4,x5,x6,x7,()),(b0_0,b0_1,()),(b1_0,b1_1,()),(b2_0,()),b3,()) [ff] =
    (some (.brk (((x3n,x3c),(x4,(x5,(x6,())))),((b0_0,(b0_1,())),((b1_0,(b1_1,())),((b2_0,()),(b3,()))))),[(!leF x7 x6,false)])):=by kernel_rfl

theorem ok153_2_t (x3n:Nat) (x3c:Nat) (x4:(List Int)) (x5:Int) (x6:Int) (x7:Int) (b0_0:Int) (b0_1:(List Int)) (b1_0:Int) (b1_1:(List Int)) (b2_0:Int) (b3:(List Int)):TrOk (BodyRuns Go.Proofs.Try.prog kf157.orc 153 2 sh153_2 shb153_2 shr153_2 (((x3n,x3c),x4,x5,x6,x7,()),(b0_0,b0_1,()),(b1_0,b1_1,()),(b2_0,()),b3,())) (t153_2 x3n x3c x4 x5 x6 x7 b0_0 b0_1 b1_0 b1_1 b2_0 b3) :=
  TrOk.ofTest (fun h0=>TrOk.ofTest (fun h2=>TrOk.ofTest (fun h3=>TrOk.ofTest (fun h4=>TrOk.ofTest (fun h5=>TrOk.ofTest (fun h6=>TrOk.ofFin (BodyRuns.of (e153_2_0 x3n x3c x4 x5 x6 x7 b0_0 b0_1 b1_0 b1_1 b2_0 b3) (ac h6 (ac h5 (ac h4 (ac h3 (ac h2 (ac rfl (ac h0 All.nil))))))))) (fun h6=>TrOk.ofFin (BodyRuns.of (e153_2_1 x3n x3c x4 x5 x6 x7 b0_0 b0_1 b1_0 b1_1 b2_0 b3) (ac h6 (ac h5 (ac h4 (ac h3 (ac h2 (ac rfl (ac h0 All.nil)))))))))) (fun h5=>TrOk.ofStop)) (fun h4=>TrOk.ofStop)) (fun h3=>TrOk.ofStop)) (fun h2=>TrOk.ofStop)) (fun h0=>TrOk.ofFin (BodyRuns.of (e153_2_2 x3n x3c x4 x5 x6 x7 b0_0 b0_1 b1_0 b1_1 b2_0 b3) (ac h0 All.nil)))

theorem ok153_2:LoopOk Go.Proofs.Try.prog 153 2 lc153_2:=loopOk_ofB kf157_ok.base (T:=fun (d:sh153_2.data)=>t153_2 d.1.1.1 d.1.1.2 d.1.2.1 d.1.2.2.1 d.1.2.2.2.1 d.1.2.2.2.2.1 d.2.1.1 d.2.1.2.1 d.2.2.1.1 d.2.2.1.2.1 d.2.2.2.1.1 d.2.2.2.2.1) (by kernel_rfl) rfl (fun (d:sh153_2.data)=>ok153_2_t d.1.1.1 d.1.1.2 d.1.2.1 d.1.2.2.1 d.1.2.2.2.1 d.1.2.2.2.2.1 d.2.1.1 d.2.1.2.1 d.2.2.1.1 d.2.2.1.2.1 d.2.2.2.1.1 d.2.2.2.2.1) (fun _=>rfl)
def kl153_2:Known:=kf157.loop 153 2 lc153_2
theorem kl153_2_ok:KnownOk Go.Proofs.Try.prog kl153_2:=kf157_ok.loop ok153_2

/-! loop 0 of ductility/ductilitybase.WideFloor -/

abbrev sh153_0:Sh:={ n:=88,slots:=[2,3,4,5,6,7],pats:=[.ptr 0 2 0,.ptr 1 2 0,.ptr 2 2 0,.sli 3 1,.ty (.slice (.int .i64)),.ty (.int .i64)],boxes:=[.row [.ty (.int .i64),.ty (.slice (.int .i64))],.row [.ty (.int .i64),.ty (.slice (.int .i64))],.row [.ty (.int .i64),.nil],.arr (.int .i64)] }
abbrev shb153_0:Sh:={ n:=88,slots:=[2,4,5,6],pats:=[.ptr 0 2 0,.ptr 2 2 0,.sli 3 1,.ty (.slice (.int .i64))],boxes:=[.row [.ty (.int .i64),.ty (.slice (.int .i64))],.row [.ty (.int .i64),.ty (.slice (.int .i64))],.row [.ty (.int .i64),.nil],.arr (.int .i64)] }
abbrev shr153_0:Sh:={ n:=88,slots:=[],pats:=[],boxes:=[.row [.ty (.int .i64),.ty (.slice (.int .i64))],.row [.ty (.int .i64),.ty (.slice (.int .i64))],.row [.ty (.int .i64),.nil],.arr (.int .i64)] }

def t153_0 (x3n:Nat) (x3c:Nat) (x4:(List Int)) (x5:Int) (b0_0:Int) (b0_1:(List Int)) (b1_0:Int) (b1_1:(List Int)) (b2_0:Int) (b3:(List Int)):Tr (Out sh153_0.data shb153_0.data shr153_0.data) :=
  Tr.test ((leF (0:Int) x5:Bool))
    (Tr.test (decide ((0:Int) ≤ x5) && decide (x5 < (↑(List.length b0_1):Int)))
      (Tr.test ((Nat.beq (List.length x4) (0:Nat):Bool))
        (Tr.test (Option.isSome (f173 (([List.getD b0_1 (Int.toNat x5) (0:Int)]:List Int),())))
          (let r0:List Int×PUnit:=g173 (([List.getD b0_1 (Int.toNat x5) (0:Int)]:List Int),());
          Tr.test (isBrk (l153_2 (((x3n,x3c),(r0.1,(x5,((0:Int),((999999999:Int),()))))),((b0_0,(b0_1,())),((b1_0,(b1_1,())),((b2_0,()),(b3,())))))))
            (let r2:((Nat×Nat)×List Int×Int×Int×PUnit)×(Int×List Int×PUnit)×(Int×List Int×PUnit)×(Int×PUnit)×List Int×PUnit:=b153_2 (((x3n,x3c),(r0.1,(x5,((0:Int),((999999999:Int),()))))),((b0_0,(b0_1,())),((b1_0,(b1_1,())),((b2_0,()),(b3,())))));
            Tr.test ((decide ((0:Int) ≤ r2.1.2.2.1) && decide (r2.1.2.2.1 < (↑r2.1.1.1:Int)):Bool))
              (Tr.test ((Nat.ble ((0:Nat) + Int.toNat r2.1.2.2.1 + (1:Nat)) (List.length r2.2.2.2.2.1):Bool))
                (Tr.test (Option.isSome (f149 ((1:Int),(r2.2.2.1.2.1,()))))
                  (Tr.test (Option.isSome (f113 (r2.1.2.2.2.1,())))
                    (let r3:(Int×List Int×PUnit)×PUnit:=g149 ((1:Int),(r2.2.2.1.2.1,()));
                    let r4:(Int×List Int×PUnit)×PUnit:=g113 (r2.1.2.2.2.1,());
                    Tr.test (Option.isSome (f117 ((r3.1.1,(r3.1.2.1,())),((r4.1.1,(r4.1.2.1,())),()))))
                      (let r5:(Int×List Int×PUnit)×PUnit:=g117 ((r3.1.1,(r3.1.2.1,())),((r4.1.1,(r4.1.2.1,())),()));
                      Tr.test (Option.isSome (f156 (r2.1.2.1,(r5.1.2.1,()))))
                        (let r6:List Int×PUnit:=g156 (r2.1.2.1,(r5.1.2.1,()));
                        Tr.fin (.again (((r2.1.1.1,r2.1.1.2),(r6.1,((wrap64 (r2.1.2.2.1 - (1:Int)):Int),()))),((r2.2.1.1,(r2.2.1.2.1,())),((r2.2.2.1.1,(r2.2.2.1.2.1,())),((r2.2.2.2.1.1,()),((List.set r2.2.2.2.2.1 ((0:Nat) + Int.toNat r2.1.2.2.1) r2.1.2.2.2.1:List Int),())))))))
                        (Tr.stop))
                      (Tr.stop))
                    (Tr.stop))
                  (Tr.stop))
                (Tr.stop))
              (Tr.stop))
            (Tr.stop))
          (Tr.stop))
        (Tr.test ((Nat.ble ((1:Nat) + List.length x4) (1:Nat):Bool))
          (Tr.stop)
          (Tr.test ((Nat.ble (((2:Nat) * ((1:Nat) + List.length x4) + (192:Nat)) * (8:Nat)) (281474976710656:Nat) && Nat.ble ((1:Nat) + List.length x4) (281474976710656:Nat):Bool))
            (Tr.test ((Nat.beq ((1:Nat) + List.length x4) (List.length ([List.getD b0_1 (Int.toNat x5) (0:Int)]++x4)):Bool))
              (Tr.test (Option.isSome (f173 (([List.getD b0_1 (Int.toNat x5) (0:Int)]++x4:List Int),())))
                (let r1:List Int×PUnit:=g173 (([List.getD b0_1 (Int.toNat x5) (0:Int)]++x4:List Int),());
                Tr.test (isBrk (l153_2 (((x3n,x3c),(r1.1,(x5,((0:Int),((999999999:Int),()))))),((b0_0,(b0_1,())),((b1_0,(b1_1,())),((b2_0,()),(b3,())))))))
                  (let r7:((Nat×Nat)×List Int×Int×Int×PUnit)×(Int×List Int×PUnit)×(Int×List Int×PUnit)×(Int×PUnit)×List Int×PUnit:=b153_2 (((x3n,x3c),(r1.1,(x5,((0:Int),((999999999:Int),()))))),((b0_0,(b0_1,())),((b1_0,(b1_1,())),((b2_0,()),(b3,())))));
                  Tr.test ((decide ((0:Int) ≤ r7.1.2.2.1) && decide (r7.1.2.2.1 < (↑r7.1.1.1:Int)):Bool))
                    (Tr.test ((Nat.ble ((0:Nat) + Int.toNat r7.1.2.2.1 + (1:Nat)) (List.length r7.2.2.2.2.1):Bool))
                      (Tr.test (Option.isSome (f149 ((1:Int),(r7.2.2.1.2.1,()))))
                        (Tr.test (Option.isSome (f113 (r7.1.2.2.2.1,())))
                          (let r8:(Int×List Int×PUnit)×PUnit:=g149 ((1:Int),(r7.2.2.1.2.1,()));
                          let r9:(Int×List Int×PUnit)×PUnit:=g113 (r7.1.2.2.2.1,());
                          Tr.test (Option.isSome (f117 ((r8.1.1,(r8.1.2.1,())),((r9.1.1,(r9.1.2.1,())),()))))
                            (let r10:(Int×List Int×PUnit)×PUnit:=g117 ((r8.1.1,(r8.1.2.1,())),((r9.1.1,(r9.1.2.1,())),()));
                            Tr.test (Option.isSome (f156 (r7.1.2.1,(r10.1.2.1,()))))
                              (let r11:List Int×PUnit:=g156 (r7.1.2.1,(r10.1.2.1,()));
                              Tr.fin (.again (((r7.1.1.1,r7.1.1.2),(r11.1,((wrap64 (r7.1.2.2.1 - (1:Int)):Int),()))),((r7.2.1.1,(r7.2.1.2.1,())),((r7.2.2.1.1,(r7.2.2.1.2.1,())),((r7.2.2.2.1.1,()),((List.set r7.2.2.2.2.1 ((0:Nat) + Int.toNat r7.1.2.2.1) r7.1.2.2.2.1:List Int),())))))))
                              (Tr.stop))
                            (Tr.stop))
                          (Tr.stop))
                        (Tr.stop))
                      (Tr.stop))
                    (Tr.stop))
                  (Tr.stop))
                (Tr.stop))
              (Tr.stop))
            (Tr.stop))))
      (Tr.stop))
    (Tr.fin (.brk (((x3n,x3c),(x4,())),((b0_0,(b0_1,())),((b1_0,(b1_1,())),((b2_0,()),(b3,())))))))

def s153_0 (d:sh153_0.data):Option (Out sh153_0.data shb153_0.data shr153_0.data):=(t153_0 d.1.1.1 d.1.1.2 d.1.2.1 d.1.2.2.1 d.2.1.1 d.2.1.2.1 d.2.2.1.1 d.2.2.1.2.1 d.2.2.2.1.1 d.2.2.2.2.1).val
def l153_0 (d:sh153_0.data):Option (shb153_0.data ⊕ shr153_0.data):=itr s153_0 rounds d
def b153_0 (d:sh153_0.data):shb153_0.data:=outB shb153_0.dflt (l153_0 d)
def lc153_0:LoopC:=lcB sh153_0 shb153_0 shr153_0 l153_0 b153_0

theorem e153_0_0 (x3n:Nat) (x3c:Nat) (x4:(List Int)) (x5:Int) (b0_0:Int) (b0_1:(List Int)) (b1_0:Int) (b1_1:(List Int)) (b2_0:Int) (b3:(List Int)):runBody kl153_2.orc Go.Proofs.Try.prog 400 153 0 sh153_0 shb153_0 shr153_0 (((x3n,x3c),x4,x5,()),(b0_0,b0_1,()),(b1_0,b1_1,()),(b2_0,()),b3,()) [tt,tt,tt,tt,tt,tt,tt,tt,tt,tt,tt,tt,tt] =
    (let r0:List Int×PUnit:=g173 (([List.getD b0_1 (Int.toNat x5) (0:Int)]:List Int),());let r2:((Nat×Nat)×List Int×Int×Int×PUnit)×(Int×List Int×PUnit)×(Int×List Int×PUnit)×(Int×PUnit)×List Int×PUnit:=b153_2 (((x3n,x3c),(r0.1,(x5,((0:Int),((999999999:Int),()))))),((b0_0,(b0_1,())),((b1_0,(b1_1,())),((b2_0,()),(b3,())))));let r3:(Int×List Int×PUnit)×PUnit:=g149 ((1:Int),(r2.2.2.1.2.1,()));let r4:(Int×List Int×PUnit)×PUnit:=g113 (r2.1.2.2.2.1,());let r5:(Int×List Int×PUnit)×PUnit:=g117 ((r3.1.1,(r3.1.2.1,())),((r4.1.1,(r4.1.2.1,())),()));let r6:List Int×PUnit:=g156 (r2.1.2.1,(r5.1.2.1,())); some (.again (((r2.1.1.1,r2.1.1.2),(r6.1,((wrap64 (r2.1.2.2.1 - (1:Int)):Int),()))),((r2.2.1.1,(r2.2.1.2.1,())),((r2.2.2.1.1,(r2.2.2.1.2.1,())),((r2.2.2.2.1.1,()),((List.set r2.2.2.2.2.1 ((0:Nat) + Int.toNat r2.1.2.2.1) r2.1.2.2.2.1:List Int),()))))),[(Option.isSome (f156 (r2.1.2.1,(r5.1.2.1,()))),true),(Option.isSome (f117 ((r3.1.1,(r3.1.2.1,())),((r4.1.1,(r4.1.2.1,())),()))),true),(Option.isSome (f113 (r2.1.2.2.2.1,())),true),(Option.isSome (f149 ((1:Int),(r2.2.2.1.2.1,()))),true),(Nat.ble ((0:Nat) + Int.toNat r2.1.2.2.1 + (1:Nat)) (List.length r2.2.2.2.2.1),true),(decide ((0:Int) ≤ r2.1.2.2.1) && decide (r2.1.2.2.1 < (↑r2.1.1.1:Int)),true),(true,true),(isBrk (l153_2 (((x3n,x3c),(r0.1,(x5,((0:Int),((999999999:Int),()))))),((b0_0,(b0_1,())),((b1_0,(b1_1,())),((b2_0,()),(b3,())))))),true),(Option.isSome (f173 (([List.getD b0_1 (Int.toNat x5) (0:Int)]:List Int),())),true),(true,true),(Nat.beq (List.length x4) (0:Nat),true),(decide ((0:Int) ≤ x5) && decide (x5 < (↑(List.length b0_1):Int)),true),(leF (0:Int) x5,true)])):=by kernel_rfl
theorem e153_0_4 (x3n:Nat) (x3c:Nat) (x4:(List Int)) (x5:Int) (b0_0:Int) (b0_1:(List Int)) (b1_0:Int) (b1_1:(List Int)) (b2_0:Int) (b3:(List Int)):runBody kl153_2.orc Go.Proofs.Try.prog 400 153 0 sh153_0 shb153_0 shr153_0 (((x3n,x3c),x4,x5,()),(b0_0,b0_1,()),(b1_0,b1_1,()),(b2_0,()),b3,()) [tt,tt,ff,ff,tt,tt,tt,tt,tt,tt,tt,tt,tt,tt,tt,tt] =
    (let r1:List Int×PUnit:=g173 (([List.getD b0_1 (Int.toNat x5) (0:Int)]++x4:List Int),());let r7:((Nat×Nat)×List Int×Int×Int×PUnit)×(Int×List Int×PUnit)×(Int×List Int×PUnit)×(Int×PUnit)×List Int×PUnit:=b153_2 (((x3n,x3c),(r1.1,(x5,((0:Int),((999999999:Int),()))))),((b0_0,(b0_1,())),((b1_0,(b1_1,())),((b2_0,()),(b3,())))));let r8:(Int×List Int×PUnit)×PUnit:=g149 ((1:Int),(r7.2.2.1.2.1,()));let r9:(Int×List Int×PUnit)×PUnit:=g113 (r7.1.2.2.2.1,());let r10:(Int×List Int×PUnit)×PUnit:=g117 ((r8.1.1,(r8.1.2.1,())),((r9.1.1,(r9.1.2.1,())),()));let r11:List Int×PUnit:=g156 (r7.1.2.1,(r10.1.2.1,())); some (.again (((r7.1.1.1,r7.1.1.2),(r11.1,((wrap64 (r7.1.2.2.1 - (1:Int)):Int),()))),((r7.2.1.1,(r7.2.1.2.1,())),((r7.2.2.1.1,(r7.2.2.1.2.1,())),((r7.2.2.2.1.1,()),((List.set r7.2.2.2.2.1 ((0:Nat) + Int.toNat r7.1.2.2.1) r7.1.2.2.2.1:List Int),()))))),[(Option.isSome (f156 (r7.1.2.1,(r10.1.2.1,()))),true),(Option.isSome (f117 ((r8.1.1,(r8.1.2.1,())),((r9.1.1,(r9.1.2.1,())),()))),true),(Option.isSome (f113 (r7.1.2.2.2.1,())),true),(Option.isSome (f149 ((1:Int),(r7.2.2.1.2.1,()))),true),(Nat.ble ((0:Nat) + Int.toNat r7.1.2.2.1 + (1:Nat)) (List.length r7.2.2.2.2.1),true),(decide ((0:Int) ≤ r7.1.2.2.1) && decide (r7.1.2.2.1 < (↑r7.1.1.1:Int)),true),(true,true),(isBrk (l153_2 (((x3n,x3c),(r1.1,(x5,((0:Int),((999999999:Int),()))))),((b0_0,(b0_1,())),((b1_0,(b1_1,())),((b2_0,()),(b3,())))))),true),(Option.isSome (f173 (([List.getD b0_1 (Int.toNat x5) (0:Int)]++x4:List Int),())),true),(Nat.beq ((1:Nat) + List.length x4) (List.length ([List.getD b0_1 (Int.toNat x5) (0:Int)]++x4)),true),(true,true),(Nat.ble (((2:Nat) * ((1:Nat) + List.length x4) + (192:Nat)) * (8:Nat)) (281474976710656:Nat) && Nat.ble ((1:Nat) + List.length x4) (281474976710656:Nat),true),(Nat.ble ((1:Nat) + List.length x4) (1:Nat),false),(Nat.beq (List.length x4) (0:Nat),false),(decide ((0:Int) ≤ x5) && decide (x5 < (↑(List.length b0_1):Int)),true),(leF (0:Int) x5,true)])):=by kernel_rfl
theorem e153_0_9 (x3n:Nat) (x3c:Nat) (x4:(List Int)) (x5:Int) (b0_0:Int) (b0_1:(List Int)) (b1_0:Int) (b1_1:(List Int)) (b2_0:Int) (b3:(List Int)):runBody kl153_2.orc Go.Proofs.Try.prog 400 153 0 sh153_0 shb153_0 shr153_0 (((x3n,x3c),x4,x5,()),(b0_0,b0_1,()),(b1_0,b1_1,()),(b2_0,()),b3,()) [ff] =
    (some (.brk (((x3n,x3c),(x4,())),((b0_0,(b0_1,())),((b1_0,(b1_1,())),((b2_0,()),(b3,()))))),[(leF (0:Int) x5,false)])):=by kernel_rfl

theorem ok153_0_t (x3n:Nat) (x3c:Nat) (x4:(List Int)) (x5:Int) (b0_0:Int) (b0_1:(List Int)) (b1_0:Int) (b1_1:(List Int)) (b2_0:Int) (b3:(List Int)):TrOk (BodyRuns Go.Proofs.Try.prog kl153_2.orc 153 0 sh153_0 shb153_0 shr153_0 (((x3n,x3c),x4,x5,()),(b0_0,b0_1,()),(b1_0,b1_1,()),(b2_0,()),b3,())) (t153_0 x3n x3c x4 x5 b0_0 b0_1 b1_0 b1_1 b2_0 b3) :=
  TrOk.ofTest (fun h0=>TrOk.ofTest (fun h1=>TrOk.ofTest (fun h2=>TrOk.ofTest (fun h4=>TrOk.ofTest (fun h5=>TrOk.ofTest (fun h7=>TrOk.ofTest (fun h8=>TrOk.ofTest (fun h9=>TrOk.ofTest (fun h10=>TrOk.ofTest (fun h11=>TrOk.ofTest (fun h12=>TrOk.ofFin (BodyRuns.of (e153_0_0 x3n x3c x4 x5 b0_0 b0_1 b1_0 b1_1 b2_0 b3) (ac h12 (ac h11 (ac h10 (ac h9 (ac h8 (ac h7 (ac rfl (ac h5 (ac h4 (ac rfl (ac h2 (ac h1 (ac h0 All.nil))))))))))))))) (fun h12=>TrOk.ofStop)) (fun h11=>TrOk.ofStop)) (fun h10=>TrOk.ofStop)) (fun h9=>TrOk.ofStop)) (fun h8=>TrOk.ofStop)) (fun h7=>TrOk.ofStop)) (fun h5=>TrOk.ofStop)) (fun h4=>TrOk.ofStop)) (fun h2=>TrOk.ofTest (fun h3=>TrOk.ofStop) (fun h3=>TrOk.ofTest (fun h4=>TrOk.ofTest (fun h6=>TrOk.ofTest (fun h7=>TrOk.ofTest (fun h8=>TrOk.ofTest (fun h10=>TrOk.ofTest (fun h11=>TrOk.ofTest (fun h12=>TrOk.ofTest (fun h13=>TrOk.ofTest (fun h14=>TrOk.ofTest (fun h15=>TrOk.ofFin (BodyRuns.of (e153_0_4 x3n x3c x4 x5 b0_0 b0_1 b1_0 b1_1 b2_0 b3) (ac h15 (ac h14 (ac h13 (ac h12 (ac h11 (ac h10 (ac rfl (ac h8 (ac h7 (ac h6 (ac rfl (ac h4 (ac h3 (ac h2 (ac h1 (ac h0 All.nil)))))))))))))))))) (fun h15=>TrOk.ofStop)) (fun h14=>TrOk.ofStop)) (fun h13=>TrOk.ofStop)) (fun h12=>TrOk.ofStop)) (fun h11=>TrOk.ofStop)) (fun h10=>TrOk.ofStop)) (fun h8=>TrOk.ofStop)) (fun h7=>TrOk.ofStop)) (fun h6=>TrOk.ofStop)) (fun h4=>TrOk.ofStop)))) (fun h1=>TrOk.ofStop)) (fun h0=>TrOk.ofFin (BodyRuns.of (e153_0_9 x3n x3c x4 x5 b0_0 b0_1 b1_0 b1_1 b2_0 b3) (ac h0 All.nil)))

theorem ok153_0:LoopOk Go.Proofs.Try.prog 153 0 lc153_0:=loopOk_ofB kl153_2_ok.base (T:=fun (d:sh153_0.data)=>t153_0 d.1.1.1 d.1.1.2 d.1.2.1 d.1.2.2.1 d.2.1.1 d.2.1.2.1 d.2.2.1.1 d.2.2.1.2.1 d.2.2.2.1.1 d.2.2.2.2.1) (by kernel_rfl) rfl (fun (d:sh153_0.data)=>ok153_0_t d.1.1.1 d.1.1.2 d.1.2.1 d.1.2.2.1 d.2.1.1 d.2.1.2.1 d.2.2.1.1 d.2.2.1.2.1 d.2.2.2.1.1 d.2.2.2.2.1) (fun _=>rfl)
def kl153_0:Known:=kl153_2.loop 153 0 lc153_0
theorem kl153_0_ok:KnownOk Go.Proofs.Try.prog kl153_0:=kl153_2_ok.loop ok153_0

/-! ductility/ductilitybase.WideFloor -/

abbrev as153:List Ty:=[(.pair (.int .i64) (.pair (.slice (.int .i64)) .unit)),(.pair (.int .i64) (.pair (.slice (.int .i64)) .unit))]
abbrev rs153:List Ty:=[(.pair (.int .i64) (.pair (.slice (.int .i64)) .unit))]

def t153 (x0:Int) (x0':(List Int)) (x1:Int) (x1':(List Int)):Tr (Tys.data rs153) :=
  Tr.test ((eqF x0 0:Bool))
    (Tr.fin ((((0:Int),(([]:List Int),())),())))
    (Tr.test (decide ((0:Int) ≤ (↑(List.length x0'):Int)) && decide ((↑(List.length x0'):Int) ≤ (↑(List.length x0'):Int)) && decide ((8:Int) * (↑(List.length x0'):Int) ≤ (281474976710656:Int)) && decide ((↑(List.length x0'):Int) ≤ (281474976710656:Int)))
      (Tr.test (isBrk (l153_0 ((((Int.toNat (↑(List.length x0'):Int):Nat),(Int.toNat (↑(List.length x0'):Int):Nat)),(([]:List Int),((wrap64 ((↑(List.length x0'):Int) - (1:Int)):Int),()))),((x0,(x0',())),((x1,(x1',())),(((0:Int),()),((List.replicate (Int.toNat (↑(List.length x0'):Int)) (0:Int):List Int),())))))))
        (let r0:((Nat×Nat)×List Int×PUnit)×(Int×List Int×PUnit)×(Int×List Int×PUnit)×(Int×PUnit)×List Int×PUnit:=b153_0 ((((Int.toNat (↑(List.length x0'):Int):Nat),(Int.toNat (↑(List.length x0'):Int):Nat)),(([]:List Int),((wrap64 ((↑(List.length x0'):Int) - (1:Int)):Int),()))),((x0,(x0',())),((x1,(x1',())),(((0:Int),()),((List.replicate (Int.toNat (↑(List.length x0'):Int)) (0:Int):List Int),())))));
        Tr.test ((Nat.beq r0.1.1.1 (List.length r0.2.2.2.2.1):Bool))
          (Tr.test (Option.isSome (f149 (r0.2.1.1,(r0.2.2.2.2.1,()))))
            (Tr.test ((!leF (0:Int) r0.2.1.1:Bool))
              (Tr.test ((!leF (↑(List.length r0.1.2.1):Int) (0:Int):Bool))
                (Tr.test (Option.isSome (f113 ((1:Int),())))
                  (let r1:(Int×List Int×PUnit)×PUnit:=g149 (r0.2.1.1,(r0.2.2.2.2.1,()));
                  let r3:(Int×List Int×PUnit)×PUnit:=g113 ((1:Int),());
                  Tr.test (Option.isSome (f157 ((r1.1.1,(r1.1.2.1,())),((r3.1.1,(r3.1.2.1,())),()))))
                    (let r4:(Int×List Int×PUnit)×PUnit:=g157 ((r1.1.1,(r1.1.2.1,())),((r3.1.1,(r3.1.2.1,())),()));
                    Tr.fin (((r4.1.1,(r4.1.2.1,())),())))
                    (Tr.stop))
                  (Tr.stop))
                (let r1:(Int×List Int×PUnit)×PUnit:=g149 (r0.2.1.1,(r0.2.2.2.2.1,()));
                Tr.fin (((r1.1.1,(r1.1.2.1,())),()))))
              (let r1:(Int×List Int×PUnit)×PUnit:=g149 (r0.2.1.1,(r0.2.2.2.2.1,()));
              Tr.fin (((r1.1.1,(r1.1.2.1,())),()))))
            (Tr.stop))
          (Tr.test ((Nat.ble r0.1.1.1 (List.length r0.2.2.2.2.1):Bool))
            (Tr.test (Option.isSome (f149 (r0.2.1.1,((List.take r0.1.1.1 r0.2.2.2.2.1:List Int),()))))
              (Tr.test ((!leF (0:Int) r0.2.1.1:Bool))
                (Tr.test ((!leF (↑(List.length r0.1.2.1):Int) (0:Int):Bool))
                  (Tr.test (Option.isSome (f113 ((1:Int),())))
                    (let r2:(Int×List Int×PUnit)×PUnit:=g149 (r0.2.1.1,((List.take r0.1.1.1 r0.2.2.2.2.1:List Int),()));
                    let r3:(Int×List Int×PUnit)×PUnit:=g113 ((1:Int),());
                    Tr.test (Option.isSome (f157 ((r2.1.1,(r2.1.2.1,())),((r3.1.1,(r3.1.2.1,())),()))))
                      (let r5:(Int×List Int×PUnit)×PUnit:=g157 ((r2.1.1,(r2.1.2.1,())),((r3.1.1,(r3.1.2.1,())),()));
                      Tr.fin (((r5.1.1,(r5.1.2.1,())),())))
                      (Tr.stop))
                    (Tr.stop))
                  (let r2:(Int×List Int×PUnit)×PUnit:=g149 (r0.2.1.1,((List.take r0.1.1.1 r0.2.2.2.2.1:List Int),()));
                  Tr.fin (((r2.1.1,(r2.1.2.1,())),()))))
                (let r2:(Int×List Int×PUnit)×PUnit:=g149 (r0.2.1.1,((List.take r0.1.1.1 r0.2.2.2.2.1:List Int),()));
                Tr.fin (((r2.1.1,(r2.1.2.1,())),()))))
              (Tr.stop))
            (Tr.stop /- a known call [op 3 of region 16 of F153] -/)))
        (Tr.stop))
      (Tr.stop))

def f153 (d:Tys.data as153):Option (Tys.data rs153):=(t153 d.1.1 d.1.2.1 d.2.1.1 d.2.1.2.1).val
def g153 (d:Tys.data as153):Tys.data rs153:=(f153 d).getD (Tys.dflt rs153)
def p153:PureC:=pcOf as153 rs153 f153 g153

theorem e153_0 (x0:Int) (x0':(List Int)) (x1:Int) (x1':(List Int)):runPure kl153_0.orc Go.Proofs.Try.prog 400 153 as153 rs153 ((x0,x0',()),(x1,x1',()),()) [tt] =
    (some ((((0:Int),(([]:List Int),())),()),[(eqF x0 0,true)])):=by kernel_rfl
theorem e153_1 (x0:Int) (x0':(List Int)) (x1:Int) (x1':(List Int)):runPure kl153_0.orc Go.Proofs.Try.prog 400 153 as153 rs153 ((x0,x0',()),(x1,x1',()),()) [ff,tt,tt,tt,tt,tt,tt,tt,tt,tt,tt,tt,tt] =
    (let r0:((Nat×Nat)×List Int×PUnit)×(Int×List Int×PUnit)×(Int×List Int×PUnit)×(Int×PUnit)×List Int×PUnit:=b153_0 ((((Int.toNat (↑(List.length x0'):Int):Nat),(Int.toNat (↑(List.length x0'):Int):Nat)),(([]:List Int),((wrap64 ((↑(List.length x0'):Int) - (1:Int)):Int),()))),((x0,(x0',())),((x1,(x1',())),(((0:Int),()),((List.replicate (Int.toNat (↑(List.length x0'):Int)) (0:Int):List Int),())))));let r1:(Int×List Int×PUnit)×PUnit:=g149 (r0.2.1.1,(r0.2.2.2.2.1,()));let r3:(Int×List Int×PUnit)×PUnit:=g113 ((1:Int),());let r4:(Int×List Int×PUnit)×PUnit:=g157 ((r1.1.1,(r1.1.2.1,())),((r3.1.1,(r3.1.2.1,())),())); some (((r4.1.1,(r4.1.2.1,())),()),[(Option.isSome (f157 ((r1.1.1,(r1.1.2.1,())),((r3.1.1,(r3.1.2.1,())),()))),true),(Option.isSome (f113 ((1:Int),())),true),(!leF (↑(List.length r0.1.2.1):Int) (0:Int),true),(!leF (0:Int) r0.2.1.1,true),(!leF (0:Int) r0.2.1.1,true),(!leF (0:Int) r0.2.1.1,true),(!leF (0:Int) r0.2.1.1,true),(Option.isSome (f149 (r0.2.1.1,(r0.2.2.2.2.1,()))),true),(Nat.beq r0.1.1.1 (List.length r0.2.2.2.2.1),true),(true,true),(isBrk (l153_0 ((((Int.toNat (↑(List.length x0'):Int):Nat),(Int.toNat (↑(List.length x0'):Int):Nat)),(([]:List Int),((wrap64 ((↑(List.length x0'):Int) - (1:Int)):Int),()))),((x0,(x0',())),((x1,(x1',())),(((0:Int),()),((List.replicate (Int.toNat (↑(List.length x0'):Int)) (0:Int):List Int),())))))),true),(decide ((0:Int) ≤ (↑(List.length x0'):Int)) && decide ((↑(List.length x0'):Int) ≤ (↑(List.length x0'):Int)) && decide ((8:Int) * (↑(List.length x0'):Int) ≤ (281474976710656:Int)) && decide ((↑(List.length x0'):Int) ≤ (281474976710656:Int)),true),(eqF x0 0,false)])):=by kernel_rfl
theorem e153_2 (x0:Int) (x0':(List Int)) (x1:Int) (x1':(List Int)):runPure kl153_0.orc Go.Proofs.Try.prog 400 153 as153 rs153 ((x0,x0',()),(x1,x1',()),()) [ff,tt,tt,tt,tt,tt,tt,tt,tt,tt,ff] =
    (let r0:((Nat×Nat)×List Int×PUnit)×(Int×List Int×PUnit)×(Int×List Int×PUnit)×(Int×PUnit)×List Int×PUnit:=b153_0 ((((Int.toNat (↑(List.length x0'):Int):Nat),(Int.toNat (↑(List.length x0'):Int):Nat)),(([]:List Int),((wrap64 ((↑(List.length x0'):Int) - (1:Int)):Int),()))),((x0,(x0',())),((x1,(x1',())),(((0:Int),()),((List.replicate (Int.toNat (↑(List.length x0'):Int)) (0:Int):List Int),())))));let r1:(Int×List Int×PUnit)×PUnit:=g149 (r0.2.1.1,(r0.2.2.2.2.1,())); some (((r1.1.1,(r1.1.2.1,())),()),[(!leF (↑(List.length r0.1.2.1):Int) (0:Int),false),(!leF (0:Int) r0.2.1.1,true),(!leF (0:Int) r0.2.1.1,true),(!leF (0:Int) r0.2.1.1,true),(!leF (0:Int) r0.2.1.1,true),(Option.isSome (f149 (r0.2.1.1,(r0.2.2.2.2.1,()))),true),(Nat.beq r0.1.1.1 (List.length r0.2.2.2.2.1),true),(true,true),(isBrk (l153_0 ((((Int.toNat (↑(List.length x0'):Int):Nat),(Int.toNat (↑(List.length x0'):Int):Nat)),(([]:List Int),((wrap64 ((↑(List.length x0'):Int) - (1:Int)):Int),()))),((x0,(x0',())),((x1,(x1',())),(((0:Int),()),((List.replicate (Int.toNat (↑(List.length x0'):Int)) (0:Int):List Int),())))))),true),(decide ((0:Int) ≤ (↑(List.length x0'):Int)) && decide ((↑(List.length x0'):Int) ≤ (↑(List.length x0'):Int)) && decide ((8:Int) * (↑(List.length x0'):Int) ≤ (281474976710656:Int)) && decide ((↑(List.length x0'):Int) ≤ (281474976710656:Int)),true),(eqF x0 0,false)])):=by kernel_rfl
theorem e153_3 (x0:Int) (x0':(List Int)) (x1:Int) (x1':(List Int)):runPure kl153_0.orc Go.Proofs.Try.prog 400 153 as153 rs153 ((x0,x0',()),(x1,x1',()),()) [ff,tt,tt,tt,tt,tt,ff,ff,ff,ff,ff] =
    (let r0:((Nat×Nat)×List Int×PUnit)×(Int×List Int×PUnit)×(Int×List Int×PUnit)×(Int×PUnit)×List Int×PUnit:=b153_0 ((((Int.toNat (↑(List.length x0'):Int):Nat),(Int.toNat (↑(List.length x0'):Int):Nat)),(([]:List Int),((wrap64 ((↑(List.length x0'):Int) - (1:Int)):Int),()))),((x0,(x0',())),((x1,(x1',())),(((0:Int),()),((List.replicate (Int.toNat (↑(List.length x0'):Int)) (0:Int):List Int),())))));let r1:(Int×List Int×PUnit)×PUnit:=g149 (r0.2.1.1,(r0.2.2.2.2.1,())); some (((r1.1.1,(r1.1.2.1,())),()),[(false,false),(!leF (0:Int) r0.2.1.1,false),(!leF (0:Int) r0.2.1.1,false),(!leF (0:Int) r0.2.1.1,false),(!leF (0:Int) r0.2.1.1,false),(Option.isSome (f149 (r0.2.1.1,(r0.2.2.2.2.1,()))),true),(Nat.beq r0.1.1.1 (List.length r0.2.2.2.2.1),true),(true,true),(isBrk (l153_0 ((((Int.toNat (↑(List.length x0'):Int):Nat),(Int.toNat (↑(List.length x0'):Int):Nat)),(([]:List Int),((wrap64 ((↑(List.length x0'):Int) - (1:Int)):Int),()))),((x0,(x0',())),((x1,(x1',())),(((0:Int),()),((List.replicate (Int.toNat (↑(List.length x0'):Int)) (0:Int):List Int),())))))),true),(decide ((0:Int) ≤ (↑(List.length x0'):Int)) && decide ((↑(List.length x0'):Int) ≤ (↑(List.length x0'):Int)) && decide ((8:Int) * (↑(List.length x0'):Int) ≤ (281474976710656:Int)) && decide ((↑(List.length x0'):Int) ≤ (281474976710656:Int)),true),(eqF x0 0,false)])):=by kernel_rfl
theorem e153_4 (x0:Int) (x0':(List Int)) (x1:Int) (x1':(List Int)):runPure kl153_0.orc Go.Proofs.Try.prog 400 153 as153 rs153 ((x0,x0',()),(x1,x1',()),()) [ff,tt,tt,tt,ff,tt,tt,tt,tt,tt,tt,tt,tt,tt] =
    (let r0:((Nat×Nat)×List Int×PUnit)×(Int×List Int×PUnit)×(Int×List Int×PUnit)×(Int×PUnit)×List Int×PUnit:=b153_0 ((((Int.toNat (↑(List.length x0'):Int):Nat),(Int.toNat (↑(List.length x0'):Int):Nat)),(([]:List Int),((wrap64 ((↑(List.length x0'):Int) - (1:Int)):Int),()))),((x0,(x0',())),((x1,(x1',())),(((0:Int),()),((List.replicate (Int.toNat (↑(List.length x0'):Int)) (0:Int):List Int),())))));let r2:(Int×List Int×PUnit)×PUnit:=g149 (r0.2.1.1,((List.take r0.1.1.1 r0.2.2.2.2.1:List Int),()));let r3:(Int×List Int×PUnit)×PUnit:=g113 ((1:Int),());let r5:(Int×List Int×PUnit)×PUnit:=g157 ((r2.1.1,(r2.1.2.1,())),((r3.1.1,(r3.1.2.1,())),())); some (((r5.1.1,(r5.1.2.1,())),()),[(Option.isSome (f157 ((r2.1.1,(r2.1.2.1,())),((r3.1.1,(r3.1.2.1,())),()))),true),(Option.isSome (f113 ((1:Int),())),true),(!leF (↑(List.length r0.1.2.1):Int) (0:Int),true),(!leF (0:Int) r0.2.1.1,true),(!leF (0:Int) r0.2.1.1,true),(!leF (0:Int) r0.2.1.1,true),(!leF (0:Int) r0.2.1.1,true),(Option.isSome (f149 (r0.2.1.1,((List.take r0.1.1.1 r0.2.2.2.2.1:List Int),()))),true),(Nat.ble r0.1.1.1 (List.length r0.2.2.2.2.1),true),(Nat.beq r0.1.1.1 (List.length r0.2.2.2.2.1),false),(true,true),(isBrk (l153_0 ((((Int.toNat (↑(List.length x0'):Int):Nat),(Int.toNat (↑(List.length x0'):Int):Nat)),(([]:List Int),((wrap64 ((↑(List.length x0'):Int) - (1:Int)):Int),()))),((x0,(x0',())),((x1,(x1',())),(((0:Int),()),((List.replicate (Int.toNat (↑(List.length x0'):Int)) (0:Int):List Int),())))))),true),(decide ((0:Int) ≤ (↑(List.length x0'):Int)) && decide ((↑(List.length x0'):Int) ≤ (↑(List.length x0'):Int)) && decide ((8:Int) * (↑(List.length x0'):Int) ≤ (281474976710656:Int)) && decide ((↑(List.length x0'):Int) ≤ (281474976710656:Int)),true),(eqF x0 0,false)])):=by kernel_rfl
theorem e153_5 (x0:Int) (x0':(List Int)) (x1:Int) (x1':(List Int)):runPure kl153_0.orc Go.Proofs.Try.prog 400 153 as153 rs153 ((x0,x0',()),(x1,x1',()),()) [ff,tt,tt,tt,ff,tt,tt,tt,tt,tt,tt,ff] =
    (let r0:((Nat×Nat)×List Int×PUnit)×(Int×List Int×PUnit)×(Int×List Int×PUnit)×(Int×PUnit)×List Int×PUnit:=b153_0 ((((Int.toNat (↑(List.length x0'):Int):Nat),(Int.toNat (↑(List.length x0'):Int):Nat)),(([]:List Int),((wrap64 ((↑(List.length x0'):Int) - (1:Int)):Int),()))),((x0,(x0',())),((x1,(x1',())),(((0:Int),()),((List.replicate (Int.toNat (↑(List.length x0'):Int)) (0:Int):List Int),())))));let r2:(Int×List Int×PUnit)×PUnit:=g149 (r0.2.1.1,((List.take r0.1.1.1 r0.2.2.2.2.1:List Int),())); some (((r2.1.1,(r2.1.2.1,())),()),[(!leF (↑(List.length r0.1.2.1):Int) (0:Int),false),(!leF (0:Int) r0.2.1.1,true),(!leF (0:Int) r0.2.1.1,true),(!leF (0:Int) r0.2.1.1,true),(!leF (0:Int) r0.2.1.1,true),(Option.isSome (f149 (r0.2.1.1,((List.take r0.1.1.1 r0.2.2.2.2.1:List Int),()))),true),(Nat.ble r0.1.1.1 (List.length r0.2.2.2.2.1),true),(Nat.beq r0.1.1.1 (List.length r0.2.2.2.2.1),false),(true,true),(isBrk (l153_0 ((((Int.toNat (↑(List.length x0'):Int):Nat),(Int.toNat (↑(List.length x0'):Int):Nat)),(([]:List Int),((wrap64 ((↑(List.length x0'):Int) - (1:Int)):Int),()))),((x0,(x0',())),((x1,(x1',())),(((0:Int),()),((List.replicate (Int.toNat (↑(List.length x0'):Int)) (0:Int):List Int),())))))),true),(decide ((0:Int) ≤ (↑(List.length x0'):Int)) && decide ((↑(List.length x0'):Int) ≤ (↑(List.length x0'):Int)) && decide ((8:Int) * (↑(List.length x0'):Int) ≤ (281474976710656:Int)) && decide ((↑(List.length x0'):Int) ≤ (281474976710656:Int)),true),(eqF x0 0,false)])):=by kernel_rfl
theorem e153_6 (x0:Int) (x0':(List Int)) (x1:Int) (x1':(List Int)):runPure kl153_0.orc Go.Proofs.Try.prog 400 153 as153 rs153 ((x0,x0',()),(x1,x1',()),()) [ff,tt,tt,tt,ff,tt,tt,ff,ff,ff,ff,ff] =
    (let r0:((Nat×Nat)×List Int×PUnit)×(Int×List Int×PUnit)×(Int×List Int×PUnit)×(Int×PUnit)×List Int×PUnit:=b153_0 ((((Int.toNat (↑(List.length x0'):Int):Nat),(Int.toNat (↑(List.length x0'):Int):Nat)),(([]:List Int),((wrap64 ((↑(List.length x0'):Int) - (1:Int)):Int),()))),((x0,(x0',())),((x1,(x1',())),(((0:Int),()),((List.replicate (Int.toNat (↑(List.length x0'):Int)) (0:Int):List Int),())))));let r2:(Int×List Int×PUnit)×PUnit:=g149 (r0.2.1.1,((List.take r0.1.1.1 r0.2.2.2.2.1:List Int),())); some (((r2.1.1,(r2.1.2.1,())),()),[(false,false),(!leF (0:Int) r0.2.1.1,false),(!leF (0:Int) r0.2.1.1,false),(!leF (0:Int) r0.2.1.1,false),(!leF (0:Int) r0.2.1.1,false),(Option.isSome (f149 (r0.2.1.1,((List.take r0.1.1.1 r0.2.2.2.2.1:List Int),()))),true),(Nat.ble r0.1.1.1 (List.length r0.2.2.2.2.1),true),(Nat.beq r0.1.1.1 (List.length r0.2.2.2.2.1),false),(true,true),(isBrk (l153_0 ((((Int.toNat (↑(List.length x0'):Int):Nat),(Int.toNat (↑(List.length x0'):Int):Nat)),(([]:List Int),((wrap64 ((↑(List.length x0'):Int) - (1:Int)):Int),()))),((x0,(x0',())),((x1,(x1',())),(((0:Int),()),((List.replicate (Int.toNat (↑(List.length x0'):Int)) (0:Int):List Int),())))))),true),(decide ((0:Int) ≤ (↑(List.length x0'):Int)) && decide ((↑(List.length x0'):Int) ≤ (↑(List.length x0'):Int)) && decide ((8:Int) * (↑(List.length x0'):Int) ≤ (281474976710656:Int)) && decide ((↑(List.length x0'):Int) ≤ (281474976710656:Int)),true),(eqF x0 0,false)])):=by kernel_rfl

theorem ok153_t (x0:Int) (x0':(List Int)) (x1:Int) (x1':(List Int)):TrOk (PureRuns Go.Proofs.Try.prog kl153_0.orc 153 as153 rs153 ((x0,x0',()),(x1,x1',()),())) (t153 x0 x0' x1 x1') :=
  TrOk.ofTest (fun h0=>TrOk.ofFin (PureRuns.of (e153_0 x0 x0' x1 x1') (ac h0 All.nil))) (fun h0=>TrOk.ofTest (fun h1=>TrOk.ofTest (fun h2=>TrOk.ofTest (fun h4=>TrOk.ofTest (fun h5=>TrOk.ofTest (fun h6=>TrOk.ofTest (fun h10=>TrOk.ofTest (fun h11=>TrOk.ofTest (fun h12=>TrOk.ofFin (PureRuns.of (e153_1 x0 x0' x1 x1') (ac h12 (ac h11 (ac h10 (ac (nn h6) (ac (nn h6) (ac (nn h6) (ac h6 (ac h5 (ac h4 (ac rfl (ac h2 (ac h1 (ac h0 All.nil))))))))))))))) (fun h12=>TrOk.ofStop)) (fun h11=>TrOk.ofStop)) (fun h10=>TrOk.ofFin (PureRuns.of (e153_2 x0 x0' x1 x1') (ac h10 (ac (nn h6) (ac (nn h6) (ac (nn h6) (ac h6 (ac h5 (ac h4 (ac rfl (ac h2 (ac h1 (ac h0 All.nil)))))))))))))) (fun h6=>TrOk.ofFin (PureRuns.of (e153_3 x0 x0' x1 x1') (ac rfl (ac (nn h6) (ac (nn h6) (ac (nn h6) (ac h6 (ac h5 (ac h4 (ac rfl (ac h2 (ac h1 (ac h0 All.nil)))))))))))))) (fun h5=>TrOk.ofStop)) (fun h4=>TrOk.ofTest (fun h5=>TrOk.ofTest (fun h6=>TrOk.ofTest (fun h7=>TrOk.ofTest (fun h11=>TrOk.ofTest (fun h12=>TrOk.ofTest (fun h13=>TrOk.ofFin (PureRuns.of (e153_4 x0 x0' x1 x1') (ac h13 (ac h12 (ac h11 (ac (nn h7) (ac (nn h7) (ac (nn h7) (ac h7 (ac h6 (ac h5 (ac h4 (ac rfl (ac h2 (ac h1 (ac h0 All.nil)))))))))))))))) (fun h13=>TrOk.ofStop)) (fun h12=>TrOk.ofStop)) (fun h11=>TrOk.ofFin (PureRuns.of (e153_5 x0 x0' x1 x1') (ac h11 (ac (nn h7) (ac (nn h7) (ac (nn h7) (ac h7 (ac h6 (ac h5 (ac h4 (ac rfl (ac h2 (ac h1 (ac h0 All.nil))))))))))))))) (fun h7=>TrOk.ofFin (PureRuns.of (e153_6 x0 x0' x1 x1') (ac rfl (ac (nn h7) (ac (nn h7) (ac (nn h7) (ac h7 (ac h6 (ac h5 (ac h4 (ac rfl (ac h2 (ac h1 (ac h0 All.nil))))))))))))))) (fun h6=>TrOk.ofStop)) (fun h5=>TrOk.ofStop))) (fun h2=>TrOk.ofStop)) (fun h1=>TrOk.ofStop))

theorem ok153:PureOk Go.Proofs.Try.prog 153 p153:=pureOk_of kl153_0_ok.base (T:=fun (d:Tys.data as153)=>t153 d.1.1 d.1.2.1 d.2.1.1 d.2.1.2.1) (by kernel_rfl) (fun (d:Tys.data as153)=>ok153_t d.1.1 d.1.2.1 d.2.1.1 d.2.1.2.1)
def kf153:Known:=kl153_0.func 153 p153
theorem kf153_ok:KnownOk Go.Proofs.Try.prog kf153:=kl153_0_ok.func ok153

/-! loop 0 of ductility/ductilitybase.wideGcd -/

abbrev sh152_0:Sh:={ n:=23,slots:=[2,3,4],pats:=[.ptr 0 2 0,.ptr 1 2 0,.ptr 2 2 0],boxes:=[.row [.ty (.int .i64),.ty (.slice (.int .i64))],.row [.ty (.int .i64),.ty (.slice (.int .i64))],.row [.ty (.int .i64),.nil]] }
abbrev shb152_0:Sh:={ n:=23,slots:=[2,4],pats:=[.ptr 0 2 0,.ptr 2 2 0],boxes:=[.row [.ty (.int .i64),.ty (.slice (.int .i64))],.row [.ty (.int .i64),.ty (.slice (.int .i64))],.row [.ty (.int .i64),.nil]] }
abbrev shr152_0:Sh:={ n:=23,slots:=[],pats:=[],boxes:=[.row [.ty (.int .i64),.ty (.slice (.int .i64))],.row [.ty (.int .i64),.ty (.slice (.int .i64))],.row [.ty (.int .i64),.nil]] }

def t152_0 (b0_0:Int) (b0_1:(List Int)) (b1_0:Int) (b1_1:(List Int)) (b2_0:Int):Tr (Out sh152_0.data shb152_0.data shr152_0.data) :=
  Tr.test (Option.isSome (f151 ((b1_0,(b1_1,())),())))
    (let r0:Int×PUnit:=g151 ((b1_0,(b1_1,())),());
    Tr.test ((!eqF r0.1 0:Bool))
      (Tr.test (Option.isSome (f153 ((b0_0,(b0_1,())),((b1_0,(b1_1,())),()))))
        (let r1:(Int×List Int×PUnit)×PUnit:=g153 ((b0_0,(b0_1,())),((b1_0,(b1_1,())),()));
        Tr.test (Option.isSome (f117 ((r1.1.1,(r1.1.2.1,())),((b1_0,(b1_1,())),()))))
          (let r2:(Int×List Int×PUnit)×PUnit:=g117 ((r1.1.1,(r1.1.2.1,())),((b1_0,(b1_1,())),()));
          Tr.test (Option.isSome (f157 ((b0_0,(b0_1,())),((r2.1.1,(r2.1.2.1,())),()))))
            (let r3:(Int×List Int×PUnit)×PUnit:=g157 ((b0_0,(b0_1,())),((r2.1.1,(r2.1.2.1,())),()));
            Tr.fin (.again ((),((b1_0,(b1_1,())),((r3.1.1,(r3.1.2.1,())),((b2_0,()),()))))))
            (Tr.stop))
          (Tr.stop))
        (Tr.stop))
      (Tr.fin (.brk ((),((b0_0,(b0_1,())),((b1_0,(b1_1,())),((b2_0,()),())))))))
    (Tr.stop)

def s152_0 (d:sh152_0.data):Option (Out sh152_0.data shb152_0.data shr152_0.data):=(t152_0 d.2.1.1 d.2.1.2.1 d.2.2.1.1 d.2.2.1.2.1 d.2.2.2.1.1).val
def l152_0 (d:sh152_0.data):Option (shb152_0.data ⊕ shr152_0.data):=itr s152_0 rounds d
def b152_0 (d:sh152_0.data):shb152_0.data:=outB shb152_0.dflt (l152_0 d)
def lc152_0:LoopC:=lcB sh152_0 shb152_0 shr152_0 l152_0 b152_0

theorem e152_0_0 (b0_0:Int) (b0_1:(List Int)) (b1_0:Int) (b1_1:(List Int)) (b2_0:Int):runBody kf153.orc Go.Proofs.Try.prog 400 152 0 sh152_0 shb152_0 shr152_0 ((),(b0_0,b0_1,()),(b1_0,b1_1,()),(b2_0,()),()) [tt,tt,tt,tt,tt] =
    (let r0:Int×PUnit:=g151 ((b1_0,(b1_1,())),());let r1:(Int×List Int×PUnit)×PUnit:=g153 ((b0_0,(b0_1,())),((b1_0,(b1_1,())),()));let r2:(Int×List Int×PUnit)×PUnit:=g117 ((r1.1.1,(r1.1.2.1,())),((b1_0,(b1_1,())),()));let r3:(Int×List Int×PUnit)×PUnit:=g157 ((b0_0,(b0_1,())),((r2.1.1,(r2.1.2.1,())),())); some (.again ((),((b1_0,(b1_1,())),((r3.1.1,(r3.1.2.1,())),((b2_0,()),())))),[(Option.isSome (f157 ((b0_0,(b0_1,())),((r2.1.1,(r2.1.2.1,())),()))),true),(Option.isSome (f117 ((r1.1.1,(r1.1.2.1,())),((b1_0,(b1_1,())),()))),true),(Option.isSome (f153 ((b0_0,(b0_1,())),((b1_0,(b1_1,())),()))),true),(!eqF r0.1 0,true),(Option.isSome (f151 ((b1_0,(b1_1,())),())),true)])):=by kernel_rfl
theorem e152_0_1 (b0_0:Int) (b0_1:(List Int)) (b1_0:Int) (b1_1:(List Int)) (b2_0:Int):runBody kf153.orc Go.Proofs.Try.prog 400 152 0 sh152_0 shb152_0 shr152_0 ((),(b0_0,b0_1,()),(b1_0,b1_1,()),(b2_0,()),()) [tt,ff] =
    (let r0:Int×PUnit:=g151 ((b1_0,(b1_1,())),()); some (.brk ((),((b0_0,(b0_1,())),((b1_0,(b1_1,())),((b2_0,()),())))),[(!eqF r0.1 0,false),(Option.isSome (f151 ((b1_0,(b1_1,())),())),true)])):=by kernel_rfl

theorem ok152_0_t (b0_0:Int) (b0_1:(List Int)) (b1_0:Int) (b1_1:(List Int)) (b2_0:Int):TrOk (BodyRuns Go.Proofs.Try.prog kf153.orc 152 0 sh152_0 shb152_0 shr152_0 ((),(b0_0,b0_1,()),(b1_0,b1_1,()),(b2_0,()),())) (t152_0 b0_0 b0_1 b1_0 b1_1 b2_0) :=
  TrOk.ofTest (fun h0=>TrOk.ofTest (fun h1=>TrOk.ofTest (fun h2=>TrOk.ofTest (fun h3=>TrOk.ofTest (fun h4=>TrOk.ofFin (BodyRuns.of (e152_0_0 b0_0 b0_1 b1_0 b1_1 b2_0) (ac h4 (ac h3 (ac h2 (ac h1 (ac h0 All.nil))))))) (fun h4=>TrOk.ofStop)) (fun h3=>TrOk.ofStop)) (fun h2=>TrOk.ofStop)) (fun h1=>TrOk.ofFin (BodyRuns.of (e152_0_1 b0_0 b0_1 b1_0 b1_1 b2_0) (ac h1 (ac h0 All.nil))))) (fun h0=>TrOk.ofStop)

theorem ok152_0:LoopOk Go.Proofs.Try.prog 152 0 lc152_0:=loopOk_ofB kf153_ok.base (T:=fun (d:sh152_0.data)=>t152_0 d.2.1.1 d.2.1.2.1 d.2.2.1.1 d.2.2.1.2.1 d.2.2.2.1.1) (by kernel_rfl) rfl (fun (d:sh152_0.data)=>ok152_0_t d.2.1.1 d.2.1.2.1 d.2.2.1.1 d.2.2.1.2.1 d.2.2.2.1.1) (fun _=>rfl)
def kl152_0:Known:=kf153.loop 152 0 lc152_0
theorem kl152_0_ok:KnownOk Go.Proofs.Try.prog kl152_0:=kf153_ok.loop ok152_0

/-! ductility/ductilitybase.wideGcd -/

abbrev as152:List Ty:=[(.pair (.int .i64) (.pair (.slice (.int .i64)) .unit)),(.pair (.int .i64) (.pair (.slice (.int .i64)) .unit))]
abbrev rs152:List Ty:=[(.pair (.int .i64) (.pair (.slice (.int .i64)) .unit))]

def t152 (x0:Int) (x0':(List Int)) (x1:Int) (x1':(List Int)):Tr (Tys.data rs152) :=
  Tr.test (Option.isSome (f174 ((x0,(x0',())),())))
    (Tr.test (Option.isSome (f174 ((x1,(x1',())),())))
      (let r0:(Int×List Int×PUnit)×PUnit:=g174 ((x0,(x0',())),());
      let r1:(Int×List Int×PUnit)×PUnit:=g174 ((x1,(x1',())),());
      Tr.test (isBrk (l152_0 ((),((r0.1.1,(r0.1.2.1,())),((r1.1.1,(r1.1.2.1,())),(((0:Int),()),()))))))
        (let r2:PUnit×(Int×List Int×PUnit)×(Int×List Int×PUnit)×(Int×PUnit)×PUnit:=b152_0 ((),((r0.1.1,(r0.1.2.1,())),((r1.1.1,(r1.1.2.1,())),(((0:Int),()),()))));
        Tr.fin (((r2.2.1.1,(r2.2.1.2.1,())),())))
        (Tr.stop))
      (Tr.stop))
    (Tr.stop)

def f152 (d:Tys.data as152):Option (Tys.data rs152):=(t152 d.1.1 d.1.2.1 d.2.1.1 d.2.1.2.1).val
def g152 (d:Tys.data as152):Tys.data rs152:=(f152 d).getD (Tys.dflt rs152)
def p152:PureC:=pcOf as152 rs152 f152 g152

theorem e152_0 (x0:Int) (x0':(List Int)) (x1:Int) (x1':(List Int)):runPure kl152_0.orc Go.Proofs.Try.prog 400 152 as152 rs152 ((x0,x0',()),(x1,x1',()),()) [tt,tt,tt,tt] =
    (let r0:(Int×List Int×PUnit)×PUnit:=g174 ((x0,(x0',())),());let r1:(Int×List Int×PUnit)×PUnit:=g174 ((x1,(x1',())),());let r2:PUnit×(Int×List Int×PUnit)×(Int×List Int×PUnit)×(Int×PUnit)×PUnit:=b152_0 ((),((r0.1.1,(r0.1.2.1,())),((r1.1.1,(r1.1.2.1,())),(((0:Int),()),())))); some (((r2.2.1.1,(r2.2.1.2.1,())),()),[(true,true),(isBrk (l152_0 ((),((r0.1.1,(r0.1.2.1,())),((r1.1.1,(r1.1.2.1,())),(((0:Int),()),()))))),true),(Option.isSome (f174 ((x1,(x1',())),())),true),(Option.isSome (f174 ((x0,(x0',())),())),true)])):=by kernel_rfl

theorem ok152_t (x0:Int) (x0':(List Int)) (x1:Int) (x1':(List Int)):TrOk (PureRuns Go.Proofs.Try.prog kl152_0.orc 152 as152 rs152 ((x0,x0',()),(x1,x1',()),())) (t152 x0 x0' x1 x1') :=
  TrOk.ofTest (fun h0=>TrOk.ofTest (fun h1=>TrOk.ofTest (fun h2=>TrOk.ofFin (PureRuns.of (e152_0 x0 x0' x1 x1') (ac rfl (ac h2 (ac h1 (ac h0 All.nil)))))) (fun h2=>TrOk.ofStop)) (fun h1=>TrOk.ofStop)) (fun h0=>TrOk.ofStop)

theorem ok152:PureOk Go.Proofs.Try.prog 152 p152:=pureOk_of kl152_0_ok.base (T:=fun (d:Tys.data as152)=>t152 d.1.1 d.1.2.1 d.2.1.1 d.2.1.2.1) (by kernel_rfl) (fun (d:Tys.data as152)=>ok152_t d.1.1 d.1.2.1 d.2.1.1 d.2.1.2.1)
def kf152:Known:=kl152_0.func 152 p152
theorem kf152_ok:KnownOk Go.Proofs.Try.prog kf152:=kl152_0_ok.func ok152

/-! ductility/ductilitybase.WideCmp -/

abbrev as118:List Ty:=[(.pair (.int .i64) (.pair (.slice (.int .i64)) .unit)),(.pair (.int .i64) (.pair (.slice (.int .i64)) .unit))]
abbrev rs118:List Ty:=[(.int .i64)]

def t118 (x0:Int) (x0':(List Int)) (x1:Int) (x1':(List Int)):Tr (Tys.data rs118) :=
  Tr.test (Option.isSome (f157 ((x0,(x0',())),((x1,(x1',())),()))))
    (let r0:(Int×List Int×PUnit)×PUnit:=g157 ((x0,(x0',())),((x1,(x1',())),()));
    Tr.fin ((r0.1.1,())))
    (Tr.stop)

def f118 (d:Tys.data as118):Option (Tys.data rs118):=(t118 d.1.1 d.1.2.1 d.2.1.1 d.2.1.2.1).val
def g118 (d:Tys.data as118):Tys.data rs118:=(f118 d).getD (Tys.dflt rs118)
def p118:PureC:=pcOf as118 rs118 f118 g118

theorem e118_0 (x0:Int) (x0':(List Int)) (x1:Int) (x1':(List Int)):runPure kf152.orc Go.Proofs.Try.prog 400 118 as118 rs118 ((x0,x0',()),(x1,x1',()),()) [tt] =
    (let r0:(Int×List Int×PUnit)×PUnit:=g157 ((x0,(x0',())),((x1,(x1',())),())); some ((r0.1.1,()),[(Option.isSome (f157 ((x0,(x0',())),((x1,(x1',())),()))),true)])):=by kernel_rfl

theorem ok118_t (x0:Int) (x0':(List Int)) (x1:Int) (x1':(List Int)):TrOk (PureRuns Go.Proofs.Try.prog kf152.orc 118 as118 rs118 ((x0,x0',()),(x1,x1',()),())) (t118 x0 x0' x1 x1') :=
  TrOk.ofTest (fun h0=>TrOk.ofFin (PureRuns.of (e118_0 x0 x0' x1 x1') (ac h0 All.nil))) (fun h0=>TrOk.ofStop)

theorem ok118:PureOk Go.Proofs.Try.prog 118 p118:=pureOk_of kf152_ok.base (T:=fun (d:Tys.data as118)=>t118 d.1.1 d.1.2.1 d.2.1.1 d.2.1.2.1) (by kernel_rfl) (fun (d:Tys.data as118)=>ok118_t d.1.1 d.1.2.1 d.2.1.1 d.2.1.2.1)
def kf118:Known:=kf152.func 118 p118
theorem kf118_ok:KnownOk Go.Proofs.Try.prog kf118:=kf152_ok.func ok118

/-! ductility/ductilitybase.RatioMake -/

abbrev as115:List Ty:=[(.pair (.int .i64) (.pair (.slice (.int .i64)) .unit)),(.pair (.int .i64) (.pair (.slice (.int .i64)) .unit))]
abbrev rs115:List Ty:=[(.pair (.pair (.int .i64) (.pair (.slice (.int .i64)) .unit)) (.pair (.pair (.int .i64) (.pair (.slice (.int .i64)) .unit)) .unit))]

def t115 (x0:Int) (x0':(List Int)) (x1:Int) (x1':(List Int)):Tr (Tys.data rs115) :=
  Tr.test (Option.isSome (f151 ((x1,(x1',())),())))
    (let r0:Int×PUnit:=g151 ((x1,(x1',())),());
    Tr.test ((!leF (0:Int) r0.1:Bool))
      (Tr.test (Option.isSome (f150 ((x0,(x0',())),())))
        (Tr.test (Option.isSome (f150 ((x1,(x1',())),())))
          (let r1:(Int×List Int×PUnit)×PUnit:=g150 ((x0,(x0',())),());
          let r2:(Int×List Int×PUnit)×PUnit:=g150 ((x1,(x1',())),());
          Tr.test (Option.isSome (f152 ((r1.1.1,(r1.1.2.1,())),((r2.1.1,(r2.1.2.1,())),()))))
            (Tr.test (Option.isSome (f113 ((1:Int),())))
              (let r3:(Int×List Int×PUnit)×PUnit:=g152 ((r1.1.1,(r1.1.2.1,())),((r2.1.1,(r2.1.2.1,())),()));
              let r4:(Int×List Int×PUnit)×PUnit:=g113 ((1:Int),());
              Tr.test (Option.isSome (f118 ((r3.1.1,(r3.1.2.1,())),((r4.1.1,(r4.1.2.1,())),()))))
                (let r5:Int×PUnit:=g118 ((r3.1.1,(r3.1.2.1,())),((r4.1.1,(r4.1.2.1,())),()));
                Tr.test ((eqF r5.1 0:Bool))
                  (Tr.fin ((((r1.1.1,(r1.1.2.1,())),((r2.1.1,(r2.1.2.1,())),())),())))
                  (Tr.test (Option.isSome (f153 ((r1.1.1,(r1.1.2.1,())),((r3.1.1,(r3.1.2.1,())),()))))
                    (Tr.test (Option.isSome (f153 ((r2.1.1,(r2.1.2.1,())),((r3.1.1,(r3.1.2.1,())),()))))
                      (let r6:(Int×List Int×PUnit)×PUnit:=g153 ((r1.1.1,(r1.1.2.1,())),((r3.1.1,(r3.1.2.1,())),()));
                      let r7:(Int×List Int×PUnit)×PUnit:=g153 ((r2.1.1,(r2.1.2.1,())),((r3.1.1,(r3.1.2.1,())),()));
                      Tr.fin ((((r6.1.1,(r6.1.2.1,())),((r7.1.1,(r7.1.2.1,())),())),())))
                      (Tr.stop))
                    (Tr.stop)))
                (Tr.stop))
              (Tr.stop))
            (Tr.stop))
          (Tr.stop))
        (Tr.stop))
      (Tr.test (Option.isSome (f152 ((x0,(x0',())),((x1,(x1',())),()))))
        (Tr.test (Option.isSome (f113 ((1:Int),())))
          (let r4:(Int×List Int×PUnit)×PUnit:=g113 ((1:Int),());
          let r8:(Int×List Int×PUnit)×PUnit:=g152 ((x0,(x0',())),((x1,(x1',())),()));
          Tr.test (Option.isSome (f118 ((r8.1.1,(r8.1.2.1,())),((r4.1.1,(r4.1.2.1,())),()))))
            (let r9:Int×PUnit:=g118 ((r8.1.1,(r8.1.2.1,())),((r4.1.1,(r4.1.2.1,())),()));
            Tr.test ((eqF r9.1 0:Bool))
              (Tr.fin ((((x0,(x0',())),((x1,(x1',())),())),())))
              (Tr.test (Option.isSome (f153 ((x0,(x0',())),((r8.1.1,(r8.1.2.1,())),()))))
                (Tr.test (Option.isSome (f153 ((x1,(x1',())),((r8.1.1,(r8.1.2.1,())),()))))
                  (let r10:(Int×List Int×PUnit)×PUnit:=g153 ((x0,(x0',())),((r8.1.1,(r8.1.2.1,())),()));
                  let r11:(Int×List Int×PUnit)×PUnit:=g153 ((x1,(x1',())),((r8.1.1,(r8.1.2.1,())),()));
                  Tr.fin ((((r10.1.1,(r10.1.2.1,())),((r11.1.1,(r11.1.2.1,())),())),())))
                  (Tr.stop))
                (Tr.stop)))
            (Tr.stop))
          (Tr.stop))
        (Tr.stop)))
    (Tr.stop)

def f115 (d:Tys.data as115):Option (Tys.data rs115):=(t115 d.1.1 d.1.2.1 d.2.1.1 d.2.1.2.1).val
def g115 (d:Tys.data as115):Tys.data rs115:=(f115 d).getD (Tys.dflt rs115)
def p115:PureC:=pcOf as115 rs115 f115 g115

theorem e115_0 (x0:Int) (x0':(List Int)) (x1:Int) (x1':(List Int)):runPure kf118.orc Go.Proofs.Try.prog 400 115 as115 rs115 ((x0,x0',()),(x1,x1',()),()) [tt,tt,tt,tt,tt,tt,tt,tt] =
    (let r0:Int×PUnit:=g151 ((x1,(x1',())),());let r1:(Int×List Int×PUnit)×PUnit:=g150 ((x0,(x0',())),());let r2:(Int×List Int×PUnit)×PUnit:=g150 ((x1,(x1',())),());let r3:(Int×List Int×PUnit)×PUnit:=g152 ((r1.1.1,(r1.1.2.1,())),((r2.1.1,(r2.1.2.1,())),()));let r4:(Int×List Int×PUnit)×PUnit:=g113 ((1:Int),());let r5:Int×PUnit:=g118 ((r3.1.1,(r3.1.2.1,())),((r4.1.1,(r4.1.2.1,())),())); some ((((r1.1.1,(r1.1.2.1,())),((r2.1.1,(r2.1.2.1,())),())),()),[(eqF r5.1 0,true),(Option.isSome (f118 ((r3.1.1,(r3.1.2.1,())),((r4.1.1,(r4.1.2.1,())),()))),true),(Option.isSome (f113 ((1:Int),())),true),(Option.isSome (f152 ((r1.1.1,(r1.1.2.1,())),((r2.1.1,(r2.1.2.1,())),()))),true),(Option.isSome (f150 ((x1,(x1',())),())),true),(Option.isSome (f150 ((x0,(x0',())),())),true),(!leF (0:Int) r0.1,true),(Option.isSome (f151 ((x1,(x1',())),())),true)])):=by kernel_rfl
theorem e115_1 (x0:Int) (x0':(List Int)) (x1:Int) (x1':(List Int)):runPure kf118.orc Go.Proofs.Try.prog 400 115 as115 rs115 ((x0,x0',()),(x1,x1',()),()) [tt,tt,tt,tt,tt,tt,tt,ff,tt,tt] =
    (let r0:Int×PUnit:=g151 ((x1,(x1',())),());let r1:(Int×List Int×PUnit)×PUnit:=g150 ((x0,(x0',())),());let r2:(Int×List Int×PUnit)×PUnit:=g150 ((x1,(x1',())),());let r3:(Int×List Int×PUnit)×PUnit:=g152 ((r1.1.1,(r1.1.2.1,())),((r2.1.1,(r2.1.2.1,())),()));let r4:(Int×List Int×PUnit)×PUnit:=g113 ((1:Int),());let r5:Int×PUnit:=g118 ((r3.1.1,(r3.1.2.1,())),((r4.1.1,(r4.1.2.1,())),()));let r6:(Int×List Int×PUnit)×PUnit:=g153 ((r1.1.1,(r1.1.2.1,())),((r3.1.1,(r3.1.2.1,())),()));let r7:(Int×List Int×PUnit)×PUnit:=g153 ((r2.1.1,(r2.1.2.1,())),((r3.1.1,(r3.1.2.1,())),())); some ((((r6.1.1,(r6.1.2.1,())),((r7.1.1,(r7.1.2.1,())),())),()),[(Option.isSome (f153 ((r2.1.1,(r2.1.2.1,())),((r3.1.1,(r3.1.2.1,())),()))),true),(Option.isSome (f153 ((r1.1.1,(r1.1.2.1,())),((r3.1.1,(r3.1.2.1,())),()))),true),(eqF r5.1 0,false),(Option.isSome (f118 ((r3.1.1,(r3.1.2.1,())),((r4.1.1,(r4.1.2.1,())),()))),true),(Option.isSome (f113 ((1:Int),())),true),(Option.isSome (f152 ((r1.1.1,(r1.1.2.1,())),((r2.1.1,(r2.1.2.1,())),()))),true),(Option.isSome (f150 ((x1,(x1',())),())),true),(Option.isSome (f150 ((x0,(x0',())),())),true),(!leF (0:Int) r0.1,true),(Option.isSome (f151 ((x1,(x1',())),())),true)])):=by kernel_rfl
theorem e115_2 (x0:Int) (x0':(List Int)) (x1:Int) (x1':(List Int)):runPure kf118.orc Go.Proofs.Try.prog 400 115 as115 rs115 ((x0,x0',()),(x1,x1',()),()) [tt,ff,tt,tt,tt,tt] =
    (let r0:Int×PUnit:=g151 ((x1,(x1',())),());let r4:(Int×List Int×PUnit)×PUnit:=g113 ((1:Int),());let r8:(Int×List Int×PUnit)×PUnit:=g152 ((x0,(x0',())),((x1,(x1',())),()));let r9:Int×PUnit:=g118 ((r8.1.1,(r8.1.2.1,())),((r4.1.1,(r4.1.2.1,())),())); some ((((x0,(x0',())),((x1,(x1',())),())),()),[(eqF r9.1 0,true),(Option.isSome (f118 ((r8.1.1,(r8.1.2.1,())),((r4.1.1,(r4.1.2.1,())),()))),true),(Option.isSome (f113 ((1:Int),())),true),(Option.isSome (f152 ((x0,(x0',())),((x1,(x1',())),()))),true),(!leF (0:Int) r0.1,false),(Option.isSome (f151 ((x1,(x1',())),())),true)])):=by kernel_rfl
theorem e115_3 (x0:Int) (x0':(List Int)) (x1:Int) (x1':(List Int)):runPure kf118.orc Go.Proofs.Try.prog 400 115 as115 rs115 ((x0,x0',()),(x1,x1',()),()) [tt,ff,tt,tt,tt,ff,tt,tt] =
    (let r0:Int×PUnit:=g151 ((x1,(x1',())),());let r4:(Int×List Int×PUnit)×PUnit:=g113 ((1:Int),());let r8:(Int×List Int×PUnit)×PUnit:=g152 ((x0,(x0',())),((x1,(x1',())),()));let r9:Int×PUnit:=g118 ((r8.1.1,(r8.1.2.1,())),((r4.1.1,(r4.1.2.1,())),()));let r10:(Int×List Int×PUnit)×PUnit:=g153 ((x0,(x0',())),((r8.1.1,(r8.1.2.1,())),()));let r11:(Int×List Int×PUnit)×PUnit:=g153 ((x1,(x1',())),((r8.1.1,(r8.1.2.1,())),())); some ((((r10.1.1,(r10.1.2.1,())),((r11.1.1,(r11.1.2.1,())),())),()),[(Option.isSome (f153 ((x1,(x1',())),((r8.1.1,(r8.1.2.1,())),()))),true),(Option.isSome (f153 ((x0,(x0',())),((r8.1.1,(r8.1.2.1,())),()))),true),(eqF r9.1 0,false),(Option.isSome (f118 ((r8.1.1,(r8.1.2.1,())),((r4.1.1,(r4.1.2.1,())),()))),true),(Option.isSome (f113 ((1:Int),())),true),(Option.isSome (f152 ((x0,(x0',())),((x1,(x1',())),()))),true),(!leF (0:Int) r0.1,false),(Option.isSome (f151 ((x1,(x1',())),())),true)])):=by kernel_rfl

theorem ok115_t (x0:Int) (x0':(List Int)) (x1:Int) (x1':(List Int)):TrOk (PureRuns Go.Proofs.Try.prog kf118.orc 115 as115 rs115 ((x0,x0',()),(x1,x1',()),())) (t115 x0 x0' x1 x1') :=
  TrOk.ofTest (fun h0=>TrOk.ofTest (fun h1=>TrOk.ofTest (fun h2=>TrOk.ofTest (fun h3=>TrOk.ofTest (fun h4=>TrOk.ofTest (fun h5=>TrOk.ofTest (fun h6=>TrOk.ofTest (fun h7=>TrOk.ofFin (PureRuns.of (e115_0 x0 x0' x1 x1') (ac h7 (ac h6 (ac h5 (ac h4 (ac h3 (ac h2 (ac h1 (ac h0 All.nil)))))))))) (fun h7=>TrOk.ofTest (fun h8=>TrOk.ofTest (fun h9=>TrOk.ofFin (PureRuns.of (e115_1 x0 x0' x1 x1') (ac h9 (ac h8 (ac h7 (ac h6 (ac h5 (ac h4 (ac h3 (ac h2 (ac h1 (ac h0 All.nil)))))))))))) (fun h9=>TrOk.ofStop)) (fun h8=>TrOk.ofStop))) (fun h6=>TrOk.ofStop)) (fun h5=>TrOk.ofStop)) (fun h4=>TrOk.ofStop)) (fun h3=>TrOk.ofStop)) (fun h2=>TrOk.ofStop)) (fun h1=>TrOk.ofTest (fun h2=>TrOk.ofTest (fun h3=>TrOk.ofTest (fun h4=>TrOk.ofTest (fun h5=>TrOk.ofFin (PureRuns.of (e115_2 x0 x0' x1 x1') (ac h5 (ac h4 (ac h3 (ac h2 (ac h1 (ac h0 All.nil)))))))) (fun h5=>TrOk.ofTest (fun h6=>TrOk.ofTest (fun h7=>TrOk.ofFin (PureRuns.of (e115_3 x0 x0' x1 x1') (ac h7 (ac h6 (ac h5 (ac h4 (ac h3 (ac h2 (ac h1 (ac h0 All.nil)))))))))) (fun h7=>TrOk.ofStop)) (fun h6=>TrOk.ofStop))) (fun h4=>TrOk.ofStop)) (fun h3=>TrOk.ofStop)) (fun h2=>TrOk.ofStop))) (fun h0=>TrOk.ofStop)

theorem ok115:PureOk Go.Proofs.Try.prog 115 p115:=pureOk_of kf118_ok.base (T:=fun (d:Tys.data as115)=>t115 d.1.1 d.1.2.1 d.2.1.1 d.2.1.2.1) (by kernel_rfl) (fun (d:Tys.data as115)=>ok115_t d.1.1 d.1.2.1 d.2.1.1 d.2.1.2.1)
def kf115:Known:=kf118.func 115 p115
theorem kf115_ok:KnownOk Go.Proofs.Try.prog kf115:=kf118_ok.func ok115

/-! ductility/ductilitybase.RatioDiv -/

abbrev as172:List Ty:=[(.pair (.pair (.int .i64) (.pair (.slice (.int .i64)) .unit)) (.pair (.pair (.int .i64) (.pair (.slice (.int .i64)) .unit)) .unit)),(.pair (.pair (.int .i64) (.pair (.slice (.int .i64)) .unit)) (.pair (.pair (.int .i64) (.pair (.slice (.int .i64)) .unit)) .unit))]
abbrev rs172:List Ty:=[(.pair (.pair (.int .i64) (.pair (.slice (.int .i64)) .unit)) (.pair (.pair (.int .i64) (.pair (.slice (.int .i64)) .unit)) .unit))]

def t172 (x0_:Int) (x0_':(List Int)) (x0'_:Int) (x0'_':(List Int)) (x1_:Int) (x1_':(List Int)) (x1'_:Int) (x1'_':(List Int)):Tr (Tys.data rs172) :=
  Tr.test (Option.isSome (f117 ((x0_,(x0_',())),((x1'_,(x1'_',())),()))))
    (Tr.test (Option.isSome (f117 ((x0'_,(x0'_',())),((x1_,(x1_',())),()))))
      (let r0:(Int×List Int×PUnit)×PUnit:=g117 ((x0_,(x0_',())),((x1'_,(x1'_',())),()));
      let r1:(Int×List Int×PUnit)×PUnit:=g117 ((x0'_,(x0'_',())),((x1_,(x1_',())),()));
      Tr.test (Option.isSome (f115 ((r0.1.1,(r0.1.2.1,())),((r1.1.1,(r1.1.2.1,())),()))))
        (let r2:((Int×List Int×PUnit)×(Int×List Int×PUnit)×PUnit)×PUnit:=g115 ((r0.1.1,(r0.1.2.1,())),((r1.1.1,(r1.1.2.1,())),()));
        Tr.fin ((((r2.1.1.1,(r2.1.1.2.1,())),((r2.1.2.1.1,(r2.1.2.1.2.1,())),())),())))
        (Tr.stop))
      (Tr.stop))
    (Tr.stop)

def f172 (d:Tys.data as172):Option (Tys.data rs172):=(t172 d.1.1.1 d.1.1.2.1 d.1.2.1.1 d.1.2.1.2.1 d.2.1.1.1 d.2.1.1.2.1 d.2.1.2.1.1 d.2.1.2.1.2.1).val
def g172 (d:Tys.data as172):Tys.data rs172:=(f172 d).getD (Tys.dflt rs172)
def p172:PureC:=pcOf as172 rs172 f172 g172

theorem e172_0 (x0_:Int) (x0_':(List Int)) (x0'_:Int) (x0'_':(List Int)) (x1_:Int) (x1_':(List Int)) (x1'_:Int) (x1'_':(List Int)):runPure kf115.orc Go.Proofs.Try.prog 400 172 as172 rs172 (((x0_,x0_',()),(x0'_,x0'_',()),()),((x1_,x1_',()),(x1'_,x1'_',()),()),()) [tt,tt,tt] =
    (let r0:(Int×List Int×PUnit)×PUnit:=g117 ((x0_,(x0_',())),((x1'_,(x1'_',())),()));let r1:(Int×List Int×PUnit)×PUnit:=g117 ((x0'_,(x0'_',())),((x1_,(x1_',())),()));let r2:((Int×List Int×PUnit)×(Int×List Int×PUnit)×PUnit)×PUnit:=g115 ((r0.1.1,(r0.1.2.1,())),((r1.1.1,(r1.1.2.1,())),())); some ((((r2.1.1.1,(r2.1.1.2.1,())),((r2.1.2.1.1,(r2.1.2.1.2.1,())),())),()),[(Option.isSome (f115 ((r0.1.1,(r0.1.2.1,())),((r1.1.1,(r1.1.2.1,())),()))),true),(Option.isSome (f117 ((x0'_,(x0'_',())),((x1_,(x1_',())),()))),true),(Option.isSome (f117 ((x0_,(x0_',())),((x1'_,(x1'_',())),()))),true)])):=by kernel_rfl

theorem ok172_t (x0_:Int) (x0_':(List Int)) (x0'_:Int) (x0'_':(List Int)) (x1_:Int) (x1_':(List Int)) (x1'_:Int) (x1'_':(List Int)):TrOk (PureRuns Go.Proofs.Try.prog kf115.orc 172 as172 rs172 (((x0_,x0_',()),(x0'_,x0'_',()),()),((x1_,x1_',()),(x1'_,x1'_',()),()),())) (t172 x0_ x0_' x0'_ x0'_' x1_ x1_' x1'_ x1'_') :=
  TrOk.ofTest (fun h0=>TrOk.ofTest (fun h1=>TrOk.ofTest (fun h2=>TrOk.ofFin (PureRuns.of (e172_0 x0_ x0_' x0'_ x0'_' x1_ x1_' x1'_ x1'_') (ac h2 (ac h1 (ac h0 All.nil))))) (fun h2=>TrOk.ofStop)) (fun h1=>TrOk.ofStop)) (fun h0=>TrOk.ofStop)

theorem ok172:PureOk Go.Proofs.Try.prog 172 p172:=pureOk_of kf115_ok.base (T:=fun (d:Tys.data as172)=>t172 d.1.1.1 d.1.1.2.1 d.1.2.1.1 d.1.2.1.2.1 d.2.1.1.1 d.2.1.1.2.1 d.2.1.2.1.1 d.2.1.2.1.2.1) (by kernel_rfl) (fun (d:Tys.data as172)=>ok172_t d.1.1.1 d.1.1.2.1 d.1.2.1.1 d.1.2.1.2.1 d.2.1.1.1 d.2.1.1.2.1 d.2.1.2.1.1 d.2.1.2.1.2.1)
def kf172:Known:=kf115.func 172 p172
theorem kf172_ok:KnownOk Go.Proofs.Try.prog kf172:=kf115_ok.func ok172

/-! ductility/ductilitybase.RatioMul -/

abbrev as52:List Ty:=[(.pair (.pair (.int .i64) (.pair (.slice (.int .i64)) .unit)) (.pair (.pair (.int .i64) (.pair (.slice (.int .i64)) .unit)) .unit)),(.pair (.pair (.int .i64) (.pair (.slice (.int .i64)) .unit)) (.pair (.pair (.int .i64) (.pair (.slice (.int .i64)) .unit)) .unit))]
abbrev rs52:List Ty:=[(.pair (.pair (.int .i64) (.pair (.slice (.int .i64)) .unit)) (.pair (.pair (.int .i64) (.pair (.slice (.int .i64)) .unit)) .unit))]

def t52 (x0_:Int) (x0_':(List Int)) (x0'_:Int) (x0'_':(List Int)) (x1_:Int) (x1_':(List Int)) (x1'_:Int) (x1'_':(List Int)):Tr (Tys.data rs52) :=
  Tr.test (Option.isSome (f117 ((x0_,(x0_',())),((x1_,(x1_',())),()))))
    (Tr.test (Option.isSome (f117 ((x0'_,(x0'_',())),((x1'_,(x1'_',())),()))))
      (let r0:(Int×List Int×PUnit)×PUnit:=g117 ((x0_,(x0_',())),((x1_,(x1_',())),()));
      let r1:(Int×List Int×PUnit)×PUnit:=g117 ((x0'_,(x0'_',())),((x1'_,(x1'_',())),()));
      Tr.test (Option.isSome (f115 ((r0.1.1,(r0.1.2.1,())),((r1.1.1,(r1.1.2.1,())),()))))
        (let r2:((Int×List Int×PUnit)×(Int×List Int×PUnit)×PUnit)×PUnit:=g115 ((r0.1.1,(r0.1.2.1,())),((r1.1.1,(r1.1.2.1,())),()));
        Tr.fin ((((r2.1.1.1,(r2.1.1.2.1,())),((r2.1.2.1.1,(r2.1.2.1.2.1,())),())),())))
        (Tr.stop))
      (Tr.stop))
    (Tr.stop)

def f52 (d:Tys.data as52):Option (Tys.data rs52):=(t52 d.1.1.1 d.1.1.2.1 d.1.2.1.1 d.1.2.1.2.1 d.2.1.1.1 d.2.1.1.2.1 d.2.1.2.1.1 d.2.1.2.1.2.1).val
def g52 (d:Tys.data as52):Tys.data rs52:=(f52 d).getD (Tys.dflt rs52)
def p52:PureC:=pcOf as52 rs52 f52 g52

theorem e52_0 (x0_:Int) (x0_':(List Int)) (x0'_:Int) (x0'_':(List Int)) (x1_:Int) (x1_':(List Int)) (x1'_:Int) (x1'_':(List Int)):runPure kf172.orc Go.Proofs.Try.prog 400 52 as52 rs52 (((x0_,x0_',()),(x0'_,x0'_',()),()),((x1_,x1_',()),(x1'_,x1'_',()),()),()) [tt,tt,tt] =
    (let r0:(Int×List Int×PUnit)×PUnit:=g117 ((x0_,(x0_',())),((x1_,(x1_',())),()));let r1:(Int×List Int×PUnit)×PUnit:=g117 ((x0'_,(x0'_',())),((x1'_,(x1'_',())),()));let r2:((Int×List Int×PUnit)×(Int×List Int×PUnit)×PUnit)×PUnit:=g115 ((r0.1.1,(r0.1.2.1,())),((r1.1.1,(r1.1.2.1,())),())); some ((((r2.1.1.1,(r2.1.1.2.1,())),((r2.1.2.1.1,(r2.1.2.1.2.1,())),())),()),[(Option.isSome (f115 ((r0.1.1,(r0.1.2.1,())),((r1.1.1,(r1.1.2.1,())),()))),true),(Option.isSome (f117 ((x0'_,(x0'_',())),((x1'_,(x1'_',())),()))),true),(Option.isSome (f117 ((x0_,(x0_',())),((x1_,(x1_',())),()))),true)])):=by kernel_rfl

theorem ok52_t (x0_:Int) (x0_':(List Int)) (x0'_:Int) (x0'_':(List Int)) (x1_:Int) (x1_':(List Int)) (x1'_:Int) (x1'_':(List Int)):TrOk (PureRuns Go.Proofs.Try.prog kf172.orc 52 as52 rs52 (((x0_,x0_',()),(x0'_,x0'_',()),()),((x1_,x1_',()),(x1'_,x1'_',()),()),())) (t52 x0_ x0_' x0'_ x0'_' x1_ x1_' x1'_ x1'_') :=
  TrOk.ofTest (fun h0=>TrOk.ofTest (fun h1=>TrOk.ofTest (fun h2=>TrOk.ofFin (PureRuns.of (e52_0 x0_ x0_' x0'_ x0'_' x1_ x1_' x1'_ x1'_') (ac h2 (ac h1 (ac h0 All.nil))))) (fun h2=>TrOk.ofStop)) (fun h1=>TrOk.ofStop)) (fun h0=>TrOk.ofStop)

theorem ok52:PureOk Go.Proofs.Try.prog 52 p52:=pureOk_of kf172_ok.base (T:=fun (d:Tys.data as52)=>t52 d.1.1.1 d.1.1.2.1 d.1.2.1.1 d.1.2.1.2.1 d.2.1.1.1 d.2.1.1.2.1 d.2.1.2.1.1 d.2.1.2.1.2.1) (by kernel_rfl) (fun (d:Tys.data as52)=>ok52_t d.1.1.1 d.1.1.2.1 d.1.2.1.1 d.1.2.1.2.1 d.2.1.1.1 d.2.1.1.2.1 d.2.1.2.1.1 d.2.1.2.1.2.1)
def kf52:Known:=kf172.func 52 p52
theorem kf52_ok:KnownOk Go.Proofs.Try.prog kf52:=kf172_ok.func ok52

/-! ductility/ductilitybase.RatioNeg -/

abbrev as114:List Ty:=[(.pair (.pair (.int .i64) (.pair (.slice (.int .i64)) .unit)) (.pair (.pair (.int .i64) (.pair (.slice (.int .i64)) .unit)) .unit))]
abbrev rs114:List Ty:=[(.pair (.pair (.int .i64) (.pair (.slice (.int .i64)) .unit)) (.pair (.pair (.int .i64) (.pair (.slice (.int .i64)) .unit)) .unit))]

def t114 (x0_:Int) (x0_':(List Int)) (x0'_:Int) (x0'_':(List Int)):Tr (Tys.data rs114) :=
  Tr.test (Option.isSome (f150 ((x0_,(x0_',())),())))
    (let r0:(Int×List Int×PUnit)×PUnit:=g150 ((x0_,(x0_',())),());
    Tr.fin ((((r0.1.1,(r0.1.2.1,())),((x0'_,(x0'_',())),())),())))
    (Tr.stop)

def f114 (d:Tys.data as114):Option (Tys.data rs114):=(t114 d.1.1.1 d.1.1.2.1 d.1.2.1.1 d.1.2.1.2.1).val
def g114 (d:Tys.data as114):Tys.data rs114:=(f114 d).getD (Tys.dflt rs114)
def p114:PureC:=pcOf as114 rs114 f114 g114

theorem e114_0 (x0_:Int) (x0_':(List Int)) (x0'_:Int) (x0'_':(List Int)):runPure kf52.orc Go.Proofs.Try.prog 400 114 as114 rs114 (((x0_,x0_',()),(x0'_,x0'_',()),()),()) [tt] =
    (let r0:(Int×List Int×PUnit)×PUnit:=g150 ((x0_,(x0_',())),()); some ((((r0.1.1,(r0.1.2.1,())),((x0'_,(x0'_',())),())),()),[(Option.isSome (f150 ((x0_,(x0_',())),())),true)])):=by kernel_rfl

theorem ok114_t (x0_:Int) (x0_':(List Int)) (x0'_:Int) (x0'_':(List Int)):TrOk (PureRuns Go.Proofs.Try.prog kf52.orc 114 as114 rs114 (((x0_,x0_',()),(x0'_,x0'_',()),()),())) (t114 x0_ x0_' x0'_ x0'_') :=
  TrOk.ofTest (fun h0=>TrOk.ofFin (PureRuns.of (e114_0 x0_ x0_' x0'_ x0'_') (ac h0 All.nil))) (fun h0=>TrOk.ofStop)

theorem ok114:PureOk Go.Proofs.Try.prog 114 p114:=pureOk_of kf52_ok.base (T:=fun (d:Tys.data as114)=>t114 d.1.1.1 d.1.1.2.1 d.1.2.1.1 d.1.2.1.2.1) (by kernel_rfl) (fun (d:Tys.data as114)=>ok114_t d.1.1.1 d.1.1.2.1 d.1.2.1.1 d.1.2.1.2.1)
def kf114:Known:=kf52.func 114 p114
theorem kf114_ok:KnownOk Go.Proofs.Try.prog kf114:=kf52_ok.func ok114

/-! ductility/ductilitybase.RatioAdd -/

abbrev as51:List Ty:=[(.pair (.pair (.int .i64) (.pair (.slice (.int .i64)) .unit)) (.pair (.pair (.int .i64) (.pair (.slice (.int .i64)) .unit)) .unit)),(.pair (.pair (.int .i64) (.pair (.slice (.int .i64)) .unit)) (.pair (.pair (.int .i64) (.pair (.slice (.int .i64)) .unit)) .unit))]
abbrev rs51:List Ty:=[(.pair (.pair (.int .i64) (.pair (.slice (.int .i64)) .unit)) (.pair (.pair (.int .i64) (.pair (.slice (.int .i64)) .unit)) .unit))]

def t51 (x0_:Int) (x0_':(List Int)) (x0'_:Int) (x0'_':(List Int)) (x1_:Int) (x1_':(List Int)) (x1'_:Int) (x1'_':(List Int)):Tr (Tys.data rs51) :=
  Tr.test (Option.isSome (f117 ((x0_,(x0_',())),((x1'_,(x1'_',())),()))))
    (Tr.test (Option.isSome (f117 ((x1_,(x1_',())),((x0'_,(x0'_',())),()))))
      (let r0:(Int×List Int×PUnit)×PUnit:=g117 ((x0_,(x0_',())),((x1'_,(x1'_',())),()));
      let r1:(Int×List Int×PUnit)×PUnit:=g117 ((x1_,(x1_',())),((x0'_,(x0'_',())),()));
      Tr.test (Option.isSome (f116 ((r0.1.1,(r0.1.2.1,())),((r1.1.1,(r1.1.2.1,())),()))))
        (Tr.test (Option.isSome (f117 ((x0'_,(x0'_',())),((x1'_,(x1'_',())),()))))
          (let r2:(Int×List Int×PUnit)×PUnit:=g116 ((r0.1.1,(r0.1.2.1,())),((r1.1.1,(r1.1.2.1,())),()));
          let r3:(Int×List Int×PUnit)×PUnit:=g117 ((x0'_,(x0'_',())),((x1'_,(x1'_',())),()));
          Tr.test (Option.isSome (f115 ((r2.1.1,(r2.1.2.1,())),((r3.1.1,(r3.1.2.1,())),()))))
            (let r4:((Int×List Int×PUnit)×(Int×List Int×PUnit)×PUnit)×PUnit:=g115 ((r2.1.1,(r2.1.2.1,())),((r3.1.1,(r3.1.2.1,())),()));
            Tr.fin ((((r4.1.1.1,(r4.1.1.2.1,())),((r4.1.2.1.1,(r4.1.2.1.2.1,())),())),())))
            (Tr.stop))
          (Tr.stop))
        (Tr.stop))
      (Tr.stop))
    (Tr.stop)

def f51 (d:Tys.data as51):Option (Tys.data rs51):=(t51 d.1.1.1 d.1.1.2.1 d.1.2.1.1 d.1.2.1.2.1 d.2.1.1.1 d.2.1.1.2.1 d.2.1.2.1.1 d.2.1.2.1.2.1).val
def g51 (d:Tys.data as51):Tys.data rs51:=(f51 d).getD (Tys.dflt rs51)
def p51:PureC:=pcOf as51 rs51 f51 g51

theorem e51_0 (x0_:Int) (x0_':(List Int)) (x0'_:Int) (x0'_':(List Int)) (x1_:Int) (x1_':(List Int)) (x1'_:Int) (x1'_':(List Int)):runPure kf114.orc Go.Proofs.Try.prog 400 51 as51 rs51 (((x0_,x0_',()),(x0'_,x0'_',()),()),((x1_,x1_',()),(x1'_,x1'_',()),()),()) [tt,tt,tt,tt,tt] =
    (let r0:(Int×List Int×PUnit)×PUnit:=g117 ((x0_,(x0_',())),((x1'_,(x1'_',())),()));let r1:(Int×List Int×PUnit)×PUnit:=g117 ((x1_,(x1_',())),((x0'_,(x0'_',())),()));let r2:(Int×List Int×PUnit)×PUnit:=g116 ((r0.1.1,(r0.1.2.1,())),((r1.1.1,(r1.1.2.1,())),()));let r3:(Int×List Int×PUnit)×PUnit:=g117 ((x0'_,(x0'_',())),((x1'_,(x1'_',())),()));let r4:((Int×List Int×PUnit)×(Int×List Int×PUnit)×PUnit)×PUnit:=g115 ((r2.1.1,(r2.1.2.1,())),((r3.1.1,(r3.1.2.1,())),())); some ((((r4.1.1.1,(r4.1.1.2.1,())),((r4.1.2.1.1,(r4.1.2.1.2.1,())),())),()),[(Option.isSome (f115 ((r2.1.1,(r2.1.2.1,())),((r3.1.1,(r3.1.2.1,())),()))),true),(Option.isSome (f117 ((x0'_,(x0'_',())),((x1'_,(x1'_',())),()))),true),(Option.isSome (f116 ((r0.1.1,(r0.1.2.1,())),((r1.1.1,(r1.1.2.1,())),()))),true),(Option.isSome (f117 ((x1_,(x1_',())),((x0'_,(x0'_',())),()))),true),(Option.isSome (f117 ((x0_,(x0_',())),((x1'_,(x1'_',())),()))),true)])):=by kernel_rfl

theorem ok51_t (x0_:Int) (x0_':(List Int)) (x0'_:Int) (x0'_':(List Int)) (x1_:Int) (x1_':(List Int)) (x1'_:Int) (x1'_':(List Int)):TrOk (PureRuns Go.Proofs.Try.prog kf114.orc 51 as51 rs51 (((x0_,x0_',()),(x0'_,x0'_',()),()),((x1_,x1_',()),(x1'_,x1'_',()),()),())) (t51 x0_ x0_' x0'_ x0'_' x1_ x1_' x1'_ x1'_') :=
  TrOk.ofTest (fun h0=>TrOk.ofTest (fun h1=>TrOk.ofTest (fun h2=>TrOk.ofTest (fun h3=>TrOk.ofTest (fun h4=>TrOk.ofFin (PureRuns.of (e51_0 x0_ x0_' x0'_ x0'_' x1_ x1_' x1'_ x1'_') (ac h4 (ac h3 (ac h2 (ac h1 (ac h0 All.nil))))))) (fun h4=>TrOk.ofStop)) (fun h3=>TrOk.ofStop)) (fun h2=>TrOk.ofStop)) (fun h1=>TrOk.ofStop)) (fun h0=>TrOk.ofStop)

theorem ok51:PureOk Go.Proofs.Try.prog 51 p51:=pureOk_of kf114_ok.base (T:=fun (d:Tys.data as51)=>t51 d.1.1.1 d.1.1.2.1 d.1.2.1.1 d.1.2.1.2.1 d.2.1.1.1 d.2.1.1.2.1 d.2.1.2.1.1 d.2.1.2.1.2.1) (by kernel_rfl) (fun (d:Tys.data as51)=>ok51_t d.1.1.1 d.1.1.2.1 d.1.2.1.1 d.1.2.1.2.1 d.2.1.1.1 d.2.1.1.2.1 d.2.1.2.1.1 d.2.1.2.1.2.1)
def kf51:Known:=kf114.func 51 p51
theorem kf51_ok:KnownOk Go.Proofs.Try.prog kf51:=kf114_ok.func ok51

/-! ductility/ductilitybase.RatioSub -/

abbrev as49:List Ty:=[(.pair (.pair (.int .i64) (.pair (.slice (.int .i64)) .unit)) (.pair (.pair (.int .i64) (.pair (.slice (.int .i64)) .unit)) .unit)),(.pair (.pair (.int .i64) (.pair (.slice (.int .i64)) .unit)) (.pair (.pair (.int .i64) (.pair (.slice (.int .i64)) .unit)) .unit))]
abbrev rs49:List Ty:=[(.pair (.pair (.int .i64) (.pair (.slice (.int .i64)) .unit)) (.pair (.pair (.int .i64) (.pair (.slice (.int .i64)) .unit)) .unit))]

def t49 (x0_:Int) (x0_':(List Int)) (x0'_:Int) (x0'_':(List Int)) (x1_:Int) (x1_':(List Int)) (x1'_:Int) (x1'_':(List Int)):Tr (Tys.data rs49) :=
  Tr.test (Option.isSome (f114 (((x1_,(x1_',())),((x1'_,(x1'_',())),())),())))
    (let r0:((Int×List Int×PUnit)×(Int×List Int×PUnit)×PUnit)×PUnit:=g114 (((x1_,(x1_',())),((x1'_,(x1'_',())),())),());
    Tr.test (Option.isSome (f51 (((x0_,(x0_',())),((x0'_,(x0'_',())),())),(((r0.1.1.1,(r0.1.1.2.1,())),((r0.1.2.1.1,(r0.1.2.1.2.1,())),())),()))))
      (let r1:((Int×List Int×PUnit)×(Int×List Int×PUnit)×PUnit)×PUnit:=g51 (((x0_,(x0_',())),((x0'_,(x0'_',())),())),(((r0.1.1.1,(r0.1.1.2.1,())),((r0.1.2.1.1,(r0.1.2.1.2.1,())),())),()));
      Tr.fin ((((r1.1.1.1,(r1.1.1.2.1,())),((r1.1.2.1.1,(r1.1.2.1.2.1,())),())),())))
      (Tr.stop))
    (Tr.stop)

def f49 (d:Tys.data as49):Option (Tys.data rs49):=(t49 d.1.1.1 d.1.1.2.1 d.1.2.1.1 d.1.2.1.2.1 d.2.1.1.1 d.2.1.1.2.1 d.2.1.2.1.1 d.2.1.2.1.2.1).val
def g49 (d:Tys.data as49):Tys.data rs49:=(f49 d).getD (Tys.dflt rs49)
def p49:PureC:=pcOf as49 rs49 f49 g49

theorem e49_0 (x0_:Int) (x0_':(List Int)) (x0'_:Int) (x0'_':(List Int)) (x1_:Int) (x1_':(List Int)) (x1'_:Int) (x1'_':(List Int)):runPure kf51.orc Go.Proofs.Try.prog 400 49 as49 rs49 (((x0_,x0_',()),(x0'_,x0'_',()),()),((x1_,x1_',()),(x1'_,x1'_',()),()),()) [tt,tt] =
    (let r0:((Int×List Int×PUnit)×(Int×List Int×PUnit)×PUnit)×PUnit:=g114 (((x1_,(x1_',())),((x1'_,(x1'_',())),())),());let r1:((Int×List Int×PUnit)×(Int×List Int×PUnit)×PUnit)×PUnit:=g51 (((x0_,(x0_',())),((x0'_,(x0'_',())),())),(((r0.1.1.1,(r0.1.1.2.1,())),((r0.1.2.1.1,(r0.1.2.1.2.1,())),())),())); some ((((r1.1.1.1,(r1.1.1.2.1,())),((r1.1.2.1.1,(r1.1.2.1.2.1,())),())),()),[(Option.isSome (f51 (((x0_,(x0_',())),((x0'_,(x0'_',())),())),(((r0.1.1.1,(r0.1.1.2.1,())),((r0.1.2.1.1,(r0.1.2.1.2.1,())),())),()))),true),(Option.isSome (f114 (((x1_,(x1_',())),((x1'_,(x1'_',())),())),())),true)])):=by kernel_rfl

theorem ok49_t (x0_:Int) (x0_':(List Int)) (x0'_:Int) (x0'_':(List Int)) (x1_:Int) (x1_':(List Int)) (x1'_:Int) (x1'_':(List Int)):TrOk (PureRuns Go.Proofs.Try.prog kf51.orc 49 as49 rs49 (((x0_,x0_',()),(x0'_,x0'_',()),()),((x1_,x1_',()),(x1'_,x1'_',()),()),())) (t49 x0_ x0_' x0'_ x0'_' x1_ x1_' x1'_ x1'_') :=
  TrOk.ofTest (fun h0=>TrOk.ofTest (fun h1=>TrOk.ofFin (PureRuns.of (e49_0 x0_ x0_' x0'_ x0'_' x1_ x1_' x1'_ x1'_') (ac h1 (ac h0 All.nil)))) (fun h1=>TrOk.ofStop)) (fun h0=>TrOk.ofStop)

theorem ok49:PureOk Go.Proofs.Try.prog 49 p49:=pureOk_of kf51_ok.base (T:=fun (d:Tys.data as49)=>t49 d.1.1.1 d.1.1.2.1 d.1.2.1.1 d.1.2.1.2.1 d.2.1.1.1 d.2.1.1.2.1 d.2.1.2.1.1 d.2.1.2.1.2.1) (by kernel_rfl) (fun (d:Tys.data as49)=>ok49_t d.1.1.1 d.1.1.2.1 d.1.2.1.1 d.1.2.1.2.1 d.2.1.1.1 d.2.1.1.2.1 d.2.1.2.1.1 d.2.1.2.1.2.1)
def kf49:Known:=kf51.func 49 p49
theorem kf49_ok:KnownOk Go.Proofs.Try.prog kf49:=kf51_ok.func ok49

/-! ductility/ductilitybase.Solve -/

abbrev as146:List Ty:=[(.slice (.slice (.pair (.pair (.int .i64) (.pair (.slice (.int .i64)) .unit)) (.pair (.pair (.int .i64) (.pair (.slice (.int .i64)) .unit)) .unit))))]
abbrev rs146:List Ty:=[(.slice (.pair (.pair (.int .i64) (.pair (.slice (.int .i64)) .unit)) (.pair (.pair (.int .i64) (.pair (.slice (.int .i64)) .unit)) .unit))),.bool]

def t146 (x0_0_0_:Int) (x0_0_0_':(List Int)) (x0_0_0'_:Int) (x0_0_0'_':(List Int)) (x0_0_1_:Int) (x0_0_1_':(List Int)) (x0_0_1'_:Int) (x0_0_1'_':(List Int)) (x0_0_2_:Int) (x0_0_2_':(List Int)) (x0_0_2'_:Int) (x0_0_2'_':(List Int)) (x0_1_0_:Int) (x0_1_0_':(List Int)) (x0_1_0'_:Int) (x0_1_0'_':(List Int)) (x0_1_1_:Int) (x0_1_1_':(List Int)) (x0_1_1'_:Int) (x0_1_1'_':(List Int)) (x0_1_2_:Int) (x0_1_2_':(List Int)) (x0_1_2'_:Int) (x0_1_2'_':(List Int)):Tr (Tys.data rs146) :=
  Tr.test ((true && decide ((0:Int) < (2:Int)):Bool))
    (Tr.test (true && decide ((1:Int) < (2:Int)))
      (Tr.test (Option.isSome (f171 (((x0_0_0_,(x0_0_0_',())),((x0_0_0'_,(x0_0_0'_',())),())),())))
        (let r0:Int×PUnit:=g171 (((x0_0_0_,(x0_0_0_',())),((x0_0_0'_,(x0_0_0'_',())),())),());
        Tr.test ((eqF r0.1 0:Bool))
          (Tr.stop)
          (Tr.test (Option.isSome (f171 (((x0_1_0_,(x0_1_0_',())),((x0_1_0'_,(x0_1_0'_',())),())),())))
            (let r1:Int×PUnit:=g171 (((x0_1_0_,(x0_1_0_',())),((x0_1_0'_,(x0_1_0'_',())),())),());
            Tr.test ((eqF r1.1 0:Bool))
              (Tr.stop)
              (Tr.test (Option.isSome (f172 (((x0_1_0_,(x0_1_0_',())),((x0_1_0'_,(x0_1_0'_',())),())),(((x0_0_0_,(x0_0_0_',())),((x0_0_0'_,(x0_0_0'_',())),())),()))))
                (let r2:((Int×List Int×PUnit)×(Int×List Int×PUnit)×PUnit)×PUnit:=g172 (((x0_1_0_,(x0_1_0_',())),((x0_1_0'_,(x0_1_0'_',())),())),(((x0_0_0_,(x0_0_0_',())),((x0_0_0'_,(x0_0_0'_',())),())),()));
                Tr.test (Option.isSome (f52 (((r2.1.1.1,(r2.1.1.2.1,())),((r2.1.2.1.1,(r2.1.2.1.2.1,())),())),(((x0_0_0_,(x0_0_0_',())),((x0_0_0'_,(x0_0_0'_',())),())),()))))
                  (let r3:((Int×List Int×PUnit)×(Int×List Int×PUnit)×PUnit)×PUnit:=g52 (((r2.1.1.1,(r2.1.1.2.1,())),((r2.1.2.1.1,(r2.1.2.1.2.1,())),())),(((x0_0_0_,(x0_0_0_',())),((x0_0_0'_,(x0_0_0'_',())),())),()));
                  Tr.test (Option.isSome (f49 (((x0_1_0_,(x0_1_0_',())),((x0_1_0'_,(x0_1_0'_',())),())),(((r3.1.1.1,(r3.1.1.2.1,())),((r3.1.2.1.1,(r3.1.2.1.2.1,())),())),()))))
                    (Tr.test (Option.isSome (f52 (((r2.1.1.1,(r2.1.1.2.1,())),((r2.1.2.1.1,(r2.1.2.1.2.1,())),())),(((x0_0_1_,(x0_0_1_',())),((x0_0_1'_,(x0_0_1'_',())),())),()))))
                      (let r5:((Int×List Int×PUnit)×(Int×List Int×PUnit)×PUnit)×PUnit:=g52 (((r2.1.1.1,(r2.1.1.2.1,())),((r2.1.2.1.1,(r2.1.2.1.2.1,())),())),(((x0_0_1_,(x0_0_1_',())),((x0_0_1'_,(x0_0_1'_',())),())),()));
                      Tr.test (Option.isSome (f49 (((x0_1_1_,(x0_1_1_',())),((x0_1_1'_,(x0_1_1'_',())),())),(((r5.1.1.1,(r5.1.1.2.1,())),((r5.1.2.1.1,(r5.1.2.1.2.1,())),())),()))))
                        (Tr.test (Option.isSome (f52 (((r2.1.1.1,(r2.1.1.2.1,())),((r2.1.2.1.1,(r2.1.2.1.2.1,())),())),(((x0_0_2_,(x0_0_2_',())),((x0_0_2'_,(x0_0_2'_',())),())),()))))
                          (let r7:((Int×List Int×PUnit)×(Int×List Int×PUnit)×PUnit)×PUnit:=g52 (((r2.1.1.1,(r2.1.1.2.1,())),((r2.1.2.1.1,(r2.1.2.1.2.1,())),())),(((x0_0_2_,(x0_0_2_',())),((x0_0_2'_,(x0_0_2'_',())),())),()));
                          Tr.test (Option.isSome (f49 (((x0_1_2_,(x0_1_2_',())),((x0_1_2'_,(x0_1_2'_',())),())),(((r7.1.1.1,(r7.1.1.2.1,())),((r7.1.2.1.1,(r7.1.2.1.2.1,())),())),()))))
                            (let r6:((Int×List Int×PUnit)×(Int×List Int×PUnit)×PUnit)×PUnit:=g49 (((x0_1_1_,(x0_1_1_',())),((x0_1_1'_,(x0_1_1'_',())),())),(((r5.1.1.1,(r5.1.1.2.1,())),((r5.1.2.1.1,(r5.1.2.1.2.1,())),())),()));
                            Tr.test (Option.isSome (f171 (((r6.1.1.1,(r6.1.1.2.1,())),((r6.1.2.1.1,(r6.1.2.1.2.1,())),())),())))
                              (let r9:Int×PUnit:=g171 (((r6.1.1.1,(r6.1.1.2.1,())),((r6.1.2.1.1,(r6.1.2.1.2.1,())),())),());
                              Tr.test ((eqF r9.1 0:Bool))
                                (Tr.stop)
                                (Tr.test (Option.isSome (f171 (((x0_0_1_,(x0_0_1_',())),((x0_0_1'_,(x0_0_1'_',())),())),())))
                                  (let r10:Int×PUnit:=g171 (((x0_0_1_,(x0_0_1_',())),((x0_0_1'_,(x0_0_1'_',())),())),());
                                  Tr.test ((eqF r10.1 0:Bool))
                                    (Tr.stop)
                                    (Tr.test (Option.isSome (f172 (((x0_0_1_,(x0_0_1_',())),((x0_0_1'_,(x0_0_1'_',())),())),(((r6.1.1.1,(r6.1.1.2.1,())),((r6.1.2.1.1,(r6.1.2.1.2.1,())),())),()))))
                                      (let r11:((Int×List Int×PUnit)×(Int×List Int×PUnit)×PUnit)×PUnit:=g172 (((x0_0_1_,(x0_0_1_',())),((x0_0_1'_,(x0_0_1'_',())),())),(((r6.1.1.1,(r6.1.1.2.1,())),((r6.1.2.1.1,(r6.1.2.1.2.1,())),())),()));
                                      Tr.test (Option.isSome (f52 (((r11.1.1.1,(r11.1.1.2.1,())),((r11.1.2.1.1,(r11.1.2.1.2.1,())),())),(((r6.1.1.1,(r6.1.1.2.1,())),((r6.1.2.1.1,(r6.1.2.1.2.1,())),())),()))))
                                        (let r12:((Int×List Int×PUnit)×(Int×List Int×PUnit)×PUnit)×PUnit:=g52 (((r11.1.1.1,(r11.1.1.2.1,())),((r11.1.2.1.1,(r11.1.2.1.2.1,())),())),(((r6.1.1.1,(r6.1.1.2.1,())),((r6.1.2.1.1,(r6.1.2.1.2.1,())),())),()));
                                        Tr.test (Option.isSome (f49 (((x0_0_1_,(x0_0_1_',())),((x0_0_1'_,(x0_0_1'_',())),())),(((r12.1.1.1,(r12.1.1.2.1,())),((r12.1.2.1.1,(r12.1.2.1.2.1,())),())),()))))
                                          (let r8:((Int×List Int×PUnit)×(Int×List Int×PUnit)×PUnit)×PUnit:=g49 (((x0_1_2_,(x0_1_2_',())),((x0_1_2'_,(x0_1_2'_',())),())),(((r7.1.1.1,(r7.1.1.2.1,())),((r7.1.2.1.1,(r7.1.2.1.2.1,())),())),()));
                                          Tr.test (Option.isSome (f52 (((r11.1.1.1,(r11.1.1.2.1,())),((r11.1.2.1.1,(r11.1.2.1.2.1,())),())),(((r8.1.1.1,(r8.1.1.2.1,())),((r8.1.2.1.1,(r8.1.2.1.2.1,())),())),()))))
                                            (let r14:((Int×List Int×PUnit)×(Int×List Int×PUnit)×PUnit)×PUnit:=g52 (((r11.1.1.1,(r11.1.1.2.1,())),((r11.1.2.1.1,(r11.1.2.1.2.1,())),())),(((r8.1.1.1,(r8.1.1.2.1,())),((r8.1.2.1.1,(r8.1.2.1.2.1,())),())),()));
                                            Tr.test (Option.isSome (f49 (((x0_0_2_,(x0_0_2_',())),((x0_0_2'_,(x0_0_2'_',())),())),(((r14.1.1.1,(r14.1.1.2.1,())),((r14.1.2.1.1,(r14.1.2.1.2.1,())),())),()))))
                                              (let r15:((Int×List Int×PUnit)×(Int×List Int×PUnit)×PUnit)×PUnit:=g49 (((x0_0_2_,(x0_0_2_',())),((x0_0_2'_,(x0_0_2'_',())),())),(((r14.1.1.1,(r14.1.1.2.1,())),((r14.1.2.1.1,(r14.1.2.1.2.1,())),())),()));
                                              Tr.test (Option.isSome (f172 (((r15.1.1.1,(r15.1.1.2.1,())),((r15.1.2.1.1,(r15.1.2.1.2.1,())),())),(((x0_0_0_,(x0_0_0_',())),((x0_0_0'_,(x0_0_0'_',())),())),()))))
                                                (Tr.test (Option.isSome (f172 (((r8.1.1.1,(r8.1.1.2.1,())),((r8.1.2.1.1,(r8.1.2.1.2.1,())),())),(((r6.1.1.1,(r6.1.1.2.1,())),((r6.1.2.1.1,(r6.1.2.1.2.1,())),())),()))))
                                                  (let r16:((Int×List Int×PUnit)×(Int×List Int×PUnit)×PUnit)×PUnit:=g172 (((r15.1.1.1,(r15.1.1.2.1,())),((r15.1.2.1.1,(r15.1.2.1.2.1,())),())),(((x0_0_0_,(x0_0_0_',())),((x0_0_0'_,(x0_0_0'_',())),())),()));
                                                  let r17:((Int×List Int×PUnit)×(Int×List Int×PUnit)×PUnit)×PUnit:=g172 (((r8.1.1.1,(r8.1.1.2.1,())),((r8.1.2.1.1,(r8.1.2.1.2.1,())),())),(((r6.1.1.1,(r6.1.1.2.1,())),((r6.1.2.1.1,(r6.1.2.1.2.1,())),())),()));
                                                  Tr.fin ((([]++[((r16.1.1.1,r16.1.1.2.1,()),(r16.1.2.1.1,r16.1.2.1.2.1,()),())]++[((r17.1.1.1,r17.1.1.2.1,()),(r17.1.2.1.1,r17.1.2.1.2.1,()),())]:List ((Int×List Int×PUnit)×(Int×List Int×PUnit)×PUnit)),((true:Bool),()))))
                                                  (Tr.stop))
                                                (Tr.stop))
                                              (Tr.stop))
                                            (Tr.stop))
                                          (Tr.stop))
                                        (Tr.stop))
                                      (Tr.stop)))
                                  (Tr.stop)))
                              (Tr.stop))
                            (Tr.stop))
                          (Tr.stop))
                        (Tr.stop))
                      (Tr.stop))
                    (Tr.stop))
                  (Tr.stop))
                (Tr.stop)))
            (Tr.stop)))
        (Tr.stop))
      (Tr.stop))
    (Tr.stop)

def T146 (d:Tys.data as146):Tr (Tys.data rs146) :=
  match d.1 with
  | [[y0_0,y0_1,y0_2],[y1_0,y1_1,y1_2]]=>t146 y0_0.1.1 y0_0.1.2.1 y0_0.2.1.1 y0_0.2.1.2.1 y0_1.1.1 y0_1.1.2.1 y0_1.2.1.1 y0_1.2.1.2.1 y0_2.1.1 y0_2.1.2.1 y0_2.2.1.1 y0_2.2.1.2.1 y1_0.1.1 y1_0.1.2.1 y1_0.2.1.1 y1_0.2.1.2.1 y1_1.1.1 y1_1.1.2.1 y1_1.2.1.1 y1_1.2.1.2.1 y1_2.1.1 y1_2.1.2.1 y1_2.2.1.1 y1_2.2.1.2.1
  | _=>Tr.stop
def f146 (d:Tys.data as146):Option (Tys.data rs146):=(T146 d).val
def g146 (d:Tys.data as146):Tys.data rs146:=(f146 d).getD (Tys.dflt rs146)
def p146:PureC:=pcOf as146 rs146 f146 g146

theorem e146_2 (x0_0_0_:Int) (x0_0_0_':(List Int)) (x0_0_0'_:Int) (x0_0_0'_':(List Int)) (x0_0_1_:Int) (x0_0_1_':(List Int)) (x0_0_1'_:Int) (x0_0_1'_':(List Int)) (x0_0_2_:Int) (x0_0_2_':(List Int)) (x0_0_2'_:Int) (x0_0_2'_':(List Int)) (x0_1_0_:Int) (x0_1_0_':(List Int)) (x0_1_0'_:Int) (x0_1_0'_':(List Int)) (x0_1_1_:Int) (x0_1_1_':(List Int)) (x0_1_1'_:Int) (x0_1_1'_':(List Int)) (x0_1_2_:Int) (x0_1_2_':(List Int)) (x0_1_2'_:Int) (x0_1_2'_':(List Int)):runPure kf49.orc Go.Proofs.Try.prog 400 146 as146 rs146 ([[((x0_0_0_,x0_0_0_',()),(x0_0_0'_,x0_0_0'_',()),()),((x0_0_1_,x0_0_1_',()),(x0_0_1'_,x0_0_1'_',()),()),((x0_0_2_,x0_0_2_',()),(x0_0_2'_,x0_0_2'_',()),())],[((x0_1_0_,x0_1_0_',()),(x0_1_0'_,x0_1_0'_',()),()),((x0_1_1_,x0_1_1_',()),(x0_1_1'_,x0_1_1'_',()),()),((x0_1_2_,x0_1_2_',()),(x0_1_2'_,x0_1_2'_',()),())]],()) [tt,tt,ff,ff,tt,ff,ff,tt,tt,tt,tt,ff,ff,tt,ff,tt,tt,tt,ff,tt,tt,tt,tt,tt,tt,tt,tt,tt,tt,tt,tt,tt,tt,tt,ff,ff,tt,tt,tt,tt,tt,tt,tt,tt,tt,tt,tt,tt,tt,tt,tt,tt,tt,ff,ff,ff,tt,ff,ff,ff,tt,ff,tt,ff,tt,ff,ff,ff,tt,tt,tt,tt,tt,tt,tt,tt,tt,tt,tt,tt,tt,tt,tt,tt,tt,tt,tt,tt,tt,tt,tt,tt,tt,tt,tt,tt,tt,tt,tt,tt,tt,tt,tt,tt,tt,tt,tt,tt,tt,tt,tt,ff,ff,tt,tt,tt,tt,tt,tt,tt,tt,tt,tt,tt,tt,tt,tt,tt,ff,ff,tt,tt,tt,tt,tt,ff,ff,ff,tt,ff,ff,ff,tt,ff,tt,ff,tt,ff,ff,ff,tt,tt,tt,tt,tt,tt,tt,tt,tt,tt,tt,tt,tt,tt,tt,tt,tt,tt,tt,tt,tt,tt,tt,tt,tt,tt,tt,tt,tt,tt,tt,ff,tt,tt,tt,tt,tt,tt,tt,tt,tt,tt,tt,tt,ff,ff,tt,tt,tt,tt,tt,tt,tt,tt,ff,tt,tt,tt,tt,tt,tt,tt,tt,tt,tt,ff,tt,tt,ff] =
    (let r0:Int×PUnit:=g171 (((x0_0_0_,(x0_0_0_',())),((x0_0_0'_,(x0_0_0'_',())),())),());let r1:Int×PUnit:=g171 (((x0_1_0_,(x0_1_0_',())),((x0_1_0'_,(x0_1_0'_',())),())),());let r2:((Int×List Int×PUnit)×(Int×List Int×PUnit)×PUnit)×PUnit:=g172 (((x0_1_0_,(x0_1_0_',())),((x0_1_0'_,(x0_1_0'_',())),())),(((x0_0_0_,(x0_0_0_',())),((x0_0_0'_,(x0_0_0'_',())),())),()));let r3:((Int×List Int×PUnit)×(Int×List Int×PUnit)×PUnit)×PUnit:=g52 (((r2.1.1.1,(r2.1.1.2.1,())),((r2.1.2.1.1,(r2.1.2.1.2.1,())),())),(((x0_0_0_,(x0_0_0_',())),((x0_0_0'_,(x0_0_0'_',())),())),()));let r5:((Int×List Int×PUnit)×(Int×List Int×PUnit)×PUnit)×PUnit:=g52 (((r2.1.1.1,(r2.1.1.2.1,())),((r2.1.2.1.1,(r2.1.2.1.2.1,())),())),(((x0_0_1_,(x0_0_1_',())),((x0_0_1'_,(x0_0_1'_',())),())),()));let r7:((Int×List Int×PUnit)×(Int×List Int×PUnit)×PUnit)×PUnit:=g52 (((r2.1.1.1,(r2.1.1.2.1,())),((r2.1.2.1.1,(r2.1.2.1.2.1,())),())),(((x0_0_2_,(x0_0_2_',())),((x0_0_2'_,(x0_0_2'_',())),())),()));let r6:((Int×List Int×PUnit)×(Int×List Int×PUnit)×PUnit)×PUnit:=g49 (((x0_1_1_,(x0_1_1_',())),((x0_1_1'_,(x0_1_1'_',())),())),(((r5.1.1.1,(r5.1.1.2.1,())),((r5.1.2.1.1,(r5.1.2.1.2.1,())),())),()));let r9:Int×PUnit:=g171 (((r6.1.1.1,(r6.1.1.2.1,())),((r6.1.2.1.1,(r6.1.2.1.2.1,())),())),());let r10:Int×PUnit:=g171 (((x0_0_1_,(x0_0_1_',())),((x0_0_1'_,(x0_0_1'_',())),())),());let r11:((Int×List Int×PUnit)×(Int×List Int×PUnit)×PUnit)×PUnit:=g172 (((x0_0_1_,(x0_0_1_',())),((x0_0_1'_,(x0_0_1'_',())),())),(((r6.1.1.1,(r6.1.1.2.1,())),((r6.1.2.1.1,(r6.1.2.1.2.1,())),())),()));let r12:((Int×List Int×PUnit)×(Int×List Int×PUnit)×PUnit)×PUnit:=g52 (((r11.1.1.1,(r11.1.1.2.1,())),((r11.1.2.1.1,(r11.1.2.1.2.1,())),())),(((r6.1.1.1,(r6.1.1.2.1,())),((r6.1.2.1.1,(r6.1.2.1.2.1,())),())),()));let r8:((Int×List Int×PUnit)×(Int×List Int×PUnit)×PUnit)×PUnit:=g49 (((x0_1_2_,(x0_1_2_',())),((x0_1_2'_,(x0_1_2'_',())),())),(((r7.1.1.1,(r7.1.1.2.1,())),((r7.1.2.1.1,(r7.1.2.1.2.1,())),())),()));let r14:((Int×List Int×PUnit)×(Int×List Int×PUnit)×PUnit)×PUnit:=g52 (((r11.1.1.1,(r11.1.1.2.1,())),((r11.1.2.1.1,(r11.1.2.1.2.1,())),())),(((r8.1.1.1,(r8.1.1.2.1,())),((r8.1.2.1.1,(r8.1.2.1.2.1,())),())),()));let r15:((Int×List Int×PUnit)×(Int×List Int×PUnit)×PUnit)×PUnit:=g49 (((x0_0_2_,(x0_0_2_',())),((x0_0_2'_,(x0_0_2'_',())),())),(((r14.1.1.1,(r14.1.1.2.1,())),((r14.1.2.1.1,(r14.1.2.1.2.1,())),())),()));let r16:((Int×List Int×PUnit)×(Int×List Int×PUnit)×PUnit)×PUnit:=g172 (((r15.1.1.1,(r15.1.1.2.1,())),((r15.1.2.1.1,(r15.1.2.1.2.1,())),())),(((x0_0_0_,(x0_0_0_',())),((x0_0_0'_,(x0_0_0'_',())),())),()));let r17:((Int×List Int×PUnit)×(Int×List Int×PUnit)×PUnit)×PUnit:=g172 (((r8.1.1.1,(r8.1.1.2.1,())),((r8.1.2.1.1,(r8.1.2.1.2.1,())),())),(((r6.1.1.1,(r6.1.1.2.1,())),((r6.1.2.1.1,(r6.1.2.1.2.1,())),())),())); some ((([]++[((r16.1.1.1,r16.1.1.2.1,()),(r16.1.2.1.1,r16.1.2.1.2.1,()),())]++[((r17.1.1.1,r17.1.1.2.1,()),(r17.1.2.1.1,r17.1.2.1.2.1,()),())]:List ((Int×List Int×PUnit)×(Int×List Int×PUnit)×PUnit)),(true,())),[(false,false),(true,true),(true,true),(false,false),(Option.isSome (f172 (((r8.1.1.1,(r8.1.1.2.1,())),((r8.1.2.1.1,(r8.1.2.1.2.1,())),())),(((r6.1.1.1,(r6.1.1.2.1,())),((r6.1.2.1.1,(r6.1.2.1.2.1,())),())),()))),true),(true,true),(true,true),(true,true),(true,true),(true,true),(true,true),(true,true),(true,true),(true,true),(false,false),(Option.isSome (f172 (((r15.1.1.1,(r15.1.1.2.1,())),((r15.1.2.1.1,(r15.1.2.1.2.1,())),())),(((x0_0_0_,(x0_0_0_',())),((x0_0_0'_,(x0_0_0'_',())),())),()))),true),(true,true),(true,true),(true,true),(true,true),(true,true),(true,true),(true,true),(false,false),(false,false),(true,true),(true,true),(true,true),(true,true),(true,true),(true,true),(true,true),(true,true),(true,true),(true,true),(true,true),(true,true),(false,false),(true,true),(true,true),(Option.isSome (f49 (((x0_0_2_,(x0_0_2_',())),((x0_0_2'_,(x0_0_2'_',())),())),(((r14.1.1.1,(r14.1.1.2.1,())),((r14.1.2.1.1,(r14.1.2.1.2.1,())),())),()))),true),(Option.isSome (f52 (((r11.1.1.1,(r11.1.1.2.1,())),((r11.1.2.1.1,(r11.1.2.1.2.1,())),())),(((r8.1.1.1,(r8.1.1.2.1,())),((r8.1.2.1.1,(r8.1.2.1.2.1,())),())),()))),true),(true,true),(true,true),(true,true),(true,true),(true,true),(true,true),(true,true),(true,true),(true,true),(true,true),(Option.isSome (f49 (((x0_0_1_,(x0_0_1_',())),((x0_0_1'_,(x0_0_1'_',())),())),(((r12.1.1.1,(r12.1.1.2.1,())),((r12.1.2.1.1,(r12.1.2.1.2.1,())),())),()))),true),(Option.isSome (f52 (((r11.1.1.1,(r11.1.1.2.1,())),((r11.1.2.1.1,(r11.1.2.1.2.1,())),())),(((r6.1.1.1,(r6.1.1.2.1,())),((r6.1.2.1.1,(r6.1.2.1.2.1,())),())),()))),true),(true,true),(true,true),(true,true),(true,true),(true,true),(true,true),(true,true),(true,true),(Option.isSome (f172 (((x0_0_1_,(x0_0_1_',())),((x0_0_1'_,(x0_0_1'_',())),())),(((r6.1.1.1,(r6.1.1.2.1,())),((r6.1.2.1.1,(r6.1.2.1.2.1,())),())),()))),true),(true,true),(true,true),(true,true),(true,true),(true,true),(true,true),(eqF r10.1 0,false),(false,false),(false,false),(Option.isSome (f171 (((x0_0_1_,(x0_0_1_',())),((x0_0_1'_,(x0_0_1'_',())),())),())),true),(false,false),(true,true),(false,false),(true,true),(false,false),(false,false),(false,false),(true,true),(false,false),(false,false),(false,false),(true,true),(true,true),(true,true),(true,true),(true,true),(false,false),(eqF r9.1 0,false),(true,true),(true,true),(Option.isSome (f171 (((r6.1.1.1,(r6.1.1.2.1,())),((r6.1.2.1.1,(r6.1.2.1.2.1,())),())),())),true),(true,true),(true,true),(true,true),(true,true),(true,true),(true,true),(true,true),(true,true),(true,true),(true,true),(true,true),(true,true),(false,false),(false,false),(true,true),(true,true),(Option.isSome (f49 (((x0_1_2_,(x0_1_2_',())),((x0_1_2'_,(x0_1_2'_',())),())),(((r7.1.1.1,(r7.1.1.2.1,())),((r7.1.2.1.1,(r7.1.2.1.2.1,())),())),()))),true),(Option.isSome (f52 (((r2.1.1.1,(r2.1.1.2.1,())),((r2.1.2.1.1,(r2.1.2.1.2.1,())),())),(((x0_0_2_,(x0_0_2_',())),((x0_0_2'_,(x0_0_2'_',())),())),()))),true),(true,true),(true,true),(true,true),(true,true),(true,true),(true,true),(true,true),(true,true),(true,true),(true,true),(Option.isSome (f49 (((x0_1_1_,(x0_1_1_',())),((x0_1_1'_,(x0_1_1'_',())),())),(((r5.1.1.1,(r5.1.1.2.1,())),((r5.1.2.1.1,(r5.1.2.1.2.1,())),())),()))),true),(Option.isSome (f52 (((r2.1.1.1,(r2.1.1.2.1,())),((r2.1.2.1.1,(r2.1.2.1.2.1,())),())),(((x0_0_1_,(x0_0_1_',())),((x0_0_1'_,(x0_0_1'_',())),())),()))),true),(true,true),(true,true),(true,true),(true,true),(true,true),(true,true),(true,true),(true,true),(true,true),(true,true),(Option.isSome (f49 (((x0_1_0_,(x0_1_0_',())),((x0_1_0'_,(x0_1_0'_',())),())),(((r3.1.1.1,(r3.1.1.2.1,())),((r3.1.2.1.1,(r3.1.2.1.2.1,())),())),()))),true),(Option.isSome (f52 (((r2.1.1.1,(r2.1.1.2.1,())),((r2.1.2.1.1,(r2.1.2.1.2.1,())),())),(((x0_0_0_,(x0_0_0_',())),((x0_0_0'_,(x0_0_0'_',())),())),()))),true),(true,true),(true,true),(true,true),(true,true),(true,true),(true,true),(true,true),(true,true),(Option.isSome (f172 (((x0_1_0_,(x0_1_0_',())),((x0_1_0'_,(x0_1_0'_',())),())),(((x0_0_0_,(x0_0_0_',())),((x0_0_0'_,(x0_0_0'_',())),())),()))),true),(true,true),(true,true),(true,true),(true,true),(true,true),(true,true),(eqF r1.1 0,false),(false,false),(false,false),(Option.isSome (f171 (((x0_1_0_,(x0_1_0_',())),((x0_1_0'_,(x0_1_0'_',())),())),())),true),(false,false),(true,true),(false,false),(true,true),(false,false),(false,false),(false,false),(true,true),(false,false),(false,false),(false,false),(true,true),(true,true),(true,true),(true,true),(true,true),(true,true),(true,true),(true,true),(true,true),(true,true),(true,true),(true,true),(true,true),(true,true),(true,true),(true,true),(true,true),(false,false),(eqF r0.1 0,false),(true,true),(true,true),(Option.isSome (f171 (((x0_0_0_,(x0_0_0_',())),((x0_0_0'_,(x0_0_0'_',())),())),())),true),(true,true),(true,true),(true,true),(true,true),(true,true),(true,true),(true,true),(true,true),(true,true),(true,true),(true,true),(true,true),(false,false),(true,true),(true,true),(true,true),(false,false),(true,true),(false,false),(false,false),(true && decide ((1:Int) < (2:Int)),true),(true,true),(true,true),(true,true),(false,false),(false,false),(true,true),(false,false),(false,false),(true && decide ((0:Int) < (2:Int)),true),(true,true)])):=by kernel_rfl

set_option maxRecDepth 100000 in
theorem ok146_t (x0_0_0_:Int) (x0_0_0_':(List Int)) (x0_0_0'_:Int) (x0_0_0'_':(List Int)) (x0_0_1_:Int) (x0_0_1_':(List Int)) (x0_0_1'_:Int) (x0_0_1'_':(List Int)) (x0_0_2_:Int) (x0_0_2_':(List Int)) (x0_0_2'_:Int) (x0_0_2'_':(List Int)) (x0_1_0_:Int) (x0_1_0_':(List Int)) (x0_1_0'_:Int) (x0_1_0'_':(List Int)) (x0_1_1_:Int) (x0_1_1_':(List Int)) (x0_1_1'_:Int) (x0_1_1'_':(List Int)) (x0_1_2_:Int) (x0_1_2_':(List Int)) (x0_1_2'_:Int) (x0_1_2'_':(List Int)):TrOk (PureRuns Go.Proofs.Try.prog kf49.orc 146 as146 rs146 ([[((x0_0_0_,x0_0_0_',()),(x0_0_0'_,x0_0_0'_',()),()),((x0_0_1_,x0_0_1_',()),(x0_0_1'_,x0_0_1'_',()),()),((x0_0_2_,x0_0_2_',()),(x0_0_2'_,x0_0_2'_',()),())],[((x0_1_0_,x0_1_0_',()),(x0_1_0'_,x0_1_0'_',()),()),((x0_1_1_,x0_1_1_',()),(x0_1_1'_,x0_1_1'_',()),()),((x0_1_2_,x0_1_2_',()),(x0_1_2'_,x0_1_2'_',()),())]],())) (t146 x0_0_0_ x0_0_0_' x0_0_0'_ x0_0_0'_' x0_0_1_ x0_0_1_' x0_0_1'_ x0_0_1'_' x0_0_2_ x0_0_2_' x0_0_2'_ x0_0_2'_' x0_1_0_ x0_1_0_' x0_1_0'_ x0_1_0'_' x0_1_1_ x0_1_1_' x0_1_1'_ x0_1_1'_' x0_1_2_ x0_1_2_' x0_1_2'_ x0_1_2'_') :=
  TrOk.ofTest (fun h1=>TrOk.ofTest (fun h10=>TrOk.ofTest (fun h31=>TrOk.ofTest (fun h34=>TrOk.ofStop) (fun h34=>TrOk.ofTest (fun h64=>TrOk.ofTest (fun h67=>TrOk.ofStop) (fun h67=>TrOk.ofTest (fun h74=>TrOk.ofTest (fun h83=>TrOk.ofTest (fun h84=>TrOk.ofTest (fun h95=>TrOk.ofTest (fun h96=>TrOk.ofTest (fun h107=>TrOk.ofTest (fun h108=>TrOk.ofTest (fun h125=>TrOk.ofTest (fun h128=>TrOk.ofStop) (fun h128=>TrOk.ofTest (fun h146=>TrOk.ofTest (fun h149=>TrOk.ofStop) (fun h149=>TrOk.ofTest (fun h156=>TrOk.ofTest (fun h165=>TrOk.ofTest (fun h166=>TrOk.ofTest (fun h177=>TrOk.ofTest (fun h178=>TrOk.ofTest (fun h203=>TrOk.ofTest (fun h214=>TrOk.ofFin (PureRuns.of (e146_2 x0_0_0_ x0_0_0_' x0_0_0'_ x0_0_0'_' x0_0_1_ x0_0_1_' x0_0_1'_ x0_0_1'_' x0_0_2_ x0_0_2_' x0_0_2'_ x0_0_2'_' x0_1_0_ x0_1_0_' x0_1_0'_ x0_1_0'_' x0_1_1_ x0_1_1_' x0_1_1'_ x0_1_1'_' x0_1_2_ x0_1_2_' x0_1_2'_ x0_1_2'_') (ac rfl (ac rfl (ac rfl (ac rfl (ac h214 (ac rfl (ac rfl (ac rfl (ac rfl (ac rfl (ac rfl (ac rfl (ac rfl (ac rfl (ac rfl (ac h203 (ac rfl (ac rfl (ac rfl (ac rfl (ac rfl (ac rfl (ac rfl (ac rfl (ac rfl (ac rfl (ac rfl (ac rfl (ac rfl (ac rfl (ac rfl (ac rfl (ac rfl (ac rfl (ac rfl (ac rfl (ac rfl (ac rfl (ac rfl (ac rfl (ac h178 (ac h177 (ac rfl (ac rfl (ac rfl (ac rfl (ac rfl (ac rfl (ac rfl (ac rfl (ac rfl (ac rfl (ac h166 (ac h165 (ac rfl (ac rfl (ac rfl (ac rfl (ac rfl (ac rfl (ac rfl (ac rfl (ac h156 (ac rfl (ac rfl (ac rfl (ac rfl (ac rfl (ac rfl (ac h149 (ac rfl (ac rfl (ac h146 (ac rfl (ac rfl (ac rfl (ac rfl (ac rfl (ac rfl (ac rfl (ac rfl (ac rfl (ac rfl (ac rfl (ac rfl (ac rfl (ac rfl (ac rfl (ac rfl (ac rfl (ac h128 (ac rfl (ac rfl (ac h125 (ac rfl (ac rfl (ac rfl (ac rfl (ac rfl (ac rfl (ac rfl (ac rfl (ac rfl (ac rfl (ac rfl (ac rfl (ac rfl (ac rfl (ac rfl (ac rfl (ac h108 (ac h107 (ac rfl (ac rfl (ac rfl (ac rfl (ac rfl (ac rfl (ac rfl (ac rfl (ac rfl (ac rfl (ac h96 (ac h95 (ac rfl (ac rfl (ac rfl (ac rfl (ac rfl (ac rfl (ac rfl (ac rfl (ac rfl (ac rfl (ac h84 (ac h83 (ac rfl (ac rfl (ac rfl (ac rfl (ac rfl (ac rfl (ac rfl (ac rfl (ac h74 (ac rfl (ac rfl (ac rfl (ac rfl (ac rfl (ac rfl (ac h67 (ac rfl (ac rfl (ac h64 (ac rfl (ac rfl (ac rfl (ac rfl (ac rfl (ac rfl (ac rfl (ac rfl (ac rfl (ac rfl (ac rfl (ac rfl (ac rfl (ac rfl (ac rfl (ac rfl (ac rfl (ac rfl (ac rfl (ac rfl (ac rfl (ac rfl (ac rfl (ac rfl (ac rfl (ac rfl (ac rfl (ac rfl (ac rfl (ac h34 (ac rfl (ac rfl (ac h31 (ac rfl (ac rfl (ac rfl (ac rfl (ac rfl (ac rfl (ac rfl (ac rfl (ac rfl (ac rfl (ac rfl (ac rfl (ac rfl (ac rfl (ac rfl (ac rfl (ac rfl (ac rfl (ac rfl (ac rfl (ac h10 (ac rfl (ac rfl (ac rfl (ac rfl (ac rfl (ac rfl (ac rfl (ac rfl (ac h1 (ac rfl All.nil))))))))))))))))))))))))))))))))))))))))))))))))))))))))))))))))))))))))))))))))))))))))))))))))))))))))))))))))))))))))))))))))))))))))))))))))))))))))))))))))))))))))))))))))))))))))))))))))))))))))))))))))))))))))))))) (fun h214=>TrOk.ofStop)) (fun h203=>TrOk.ofStop)) (fun h178=>TrOk.ofStop)) (fun h177=>TrOk.ofStop)) (fun h166=>TrOk.ofStop)) (fun h165=>TrOk.ofStop)) (fun h156=>TrOk.ofStop))) (fun h146=>TrOk.ofStop))) (fun h125=>TrOk.ofStop)) (fun h108=>TrOk.ofStop)) (fun h107=>TrOk.ofStop)) (fun h96=>TrOk.ofStop)) (fun h95=>TrOk.ofStop)) (fun h84=>TrOk.ofStop)) (fun h83=>TrOk.ofStop)) (fun h74=>TrOk.ofStop))) (fun h64=>TrOk.ofStop))) (fun h31=>TrOk.ofStop)) (fun h10=>TrOk.ofStop)) (fun h1=>TrOk.ofStop)

theorem ok146_T (d:Tys.data as146):TrOk (PureRuns Go.Proofs.Try.prog kf49.orc 146 as146 rs146 d) (T146 d):=by
  unfold T146
  obtain ⟨l,u⟩:=d
  dsimp only
  split
  · rename_i y0_0 y0_1 y0_2 y1_0 y1_1 y1_2
    exact ok146_t y0_0.1.1 y0_0.1.2.1 y0_0.2.1.1 y0_0.2.1.2.1 y0_1.1.1 y0_1.1.2.1 y0_1.2.1.1 y0_1.2.1.2.1 y0_2.1.1 y0_2.1.2.1 y0_2.2.1.1 y0_2.2.1.2.1 y1_0.1.1 y1_0.1.2.1 y1_0.2.1.1 y1_0.2.1.2.1 y1_1.1.1 y1_1.1.2.1 y1_1.2.1.1 y1_1.2.1.2.1 y1_2.1.1 y1_2.1.2.1 y1_2.2.1.1 y1_2.2.1.2.1
  · exact TrOk.ofStop
theorem ok146:PureOk Go.Proofs.Try.prog 146 p146:=pureOk_of kf49_ok.base (T:=T146) (by kernel_rfl) ok146_T
def kf146:Known:=kf49.func 146 p146
theorem kf146_ok:KnownOk Go.Proofs.Try.prog kf146:=kf49_ok.func ok146

/-! loop 0 of ductility/ductilityref02.Prices -/

abbrev sh109_0:Sh:={ n:=63,slots:=[0,2,3,4,5,6,7],pats:=[.ty (.slice (.int .i64)),.ptr 0 4 0,.ptr 1 4 0,.ty (.int .i64),.ty (.int .i64),.ty (.int .i64),.ty (.int .i64)],boxes:=[.row [.ty (.int .i64),.nil,.ty (.int .i64),.nil],.row [.ty (.int .i64),.nil,.ty (.int .i64),.nil]] }
abbrev shb109_0:Sh:={ n:=63,slots:=[0,2,3,4,5,6],pats:=[.ty (.slice (.int .i64)),.ptr 0 4 0,.ptr 1 4 0,.ty (.int .i64),.ty (.int .i64),.ty (.int .i64)],boxes:=[.row [.ty (.int .i64),.nil,.ty (.int .i64),.nil],.row [.ty (.int .i64),.nil,.ty (.int .i64),.nil]] }
abbrev shr109_0:Sh:={ n:=63,slots:=[],pats:=[],boxes:=[.row [.ty (.int .i64),.nil,.ty (.int .i64),.nil],.row [.ty (.int .i64),.nil,.ty (.int .i64),.nil]] }

def t109_0 (x0:(List Int)) (x3:Int) (x4:Int) (x5:Int) (x6:Int) (b0_0:Int) (b0_2:Int) (b1_0:Int) (b1_2:Int):Tr (Out sh109_0.data shb109_0.data shr109_0.data) :=
  Tr.test ((!leF x3 x6:Bool))
    (Tr.fin (.again ((x0,(x3,((wrap64 (wrap64 (x4 + x3) - x6):Int),((wrap64 (x5 + wrap64 (wrap64 (x3 - x6) * wrap64 (x3 - x6))):Int),((wrap64 (x6 + (1:Int)):Int),()))))),((b0_0,(b0_2,())),((b1_0,(b1_2,())),())))))
    (Tr.fin (.brk ((x0,(x3,(x4,(x5,())))),((b0_0,(b0_2,())),((b1_0,(b1_2,())),())))))

def s109_0 (d:sh109_0.data):Option (Out sh109_0.data shb109_0.data shr109_0.data):=(t109_0 d.1.1 d.1.2.1 d.1.2.2.1 d.1.2.2.2.1 d.1.2.2.2.2.1 d.2.1.1 d.2.1.2.1 d.2.2.1.1 d.2.2.1.2.1).val
def l109_0 (d:sh109_0.data):Option (shb109_0.data ⊕ shr109_0.data):=itr s109_0 rounds d
def b109_0 (d:sh109_0.data):shb109_0.data:=outB shb109_0.dflt (l109_0 d)
def lc109_0:LoopC:=lcB sh109_0 shb109_0 shr109_0 l109_0 b109_0

theorem e109_0_0 (x0:(List Int)) (x3:Int) (x4:Int) (x5:Int) (x6:Int) (b0_0:Int) (b0_2:Int) (b1_0:Int) (b1_2:Int):runBody kf146.orc Go.Proofs.Try.prog 400 109 0 sh109_0 shb109_0 shr109_0 ((x0,x3,x4,x5,x6,()),(b0_0,b0_2,()),(b1_0,b1_2,()),()) [tt] =
    (some (.again ((x0,(x3,((wrap64 (wrap64 (x4 + x3) - x6):Int),((wrap64 (x5 + wrap64 (wrap64 (x3 - x6) * wrap64 (x3 - x6))):Int),((wrap64 (x6 + (1:Int)):Int),()))))),((b0_0,(b0_2,())),((b1_0,(b1_2,())),()))),[(!leF x3 x6,true)])):=by kernel_rfl
theorem e109_0_1 (x0:(List Int)) (x3:Int) (x4:Int) (x5:Int) (x6:Int) (b0_0:Int) (b0_2:Int) (b1_0:Int) (b1_2:Int):runBody kf146.orc Go.Proofs.Try.prog 400 109 0 sh109_0 shb109_0 shr109_0 ((x0,x3,x4,x5,x6,()),(b0_0,b0_2,()),(b1_0,b1_2,()),()) [ff] =
    (some (.brk ((x0,(x3,(x4,(x5,())))),((b0_0,(b0_2,())),((b1_0,(b1_2,())),()))),[(!leF x3 x6,false)])):=by kernel_rfl

theorem ok109_0_t (x0:(List Int)) (x3:Int) (x4:Int) (x5:Int) (x6:Int) (b0_0:Int) (b0_2:Int) (b1_0:Int) (b1_2:Int):TrOk (BodyRuns Go.Proofs.Try.prog kf146.orc 109 0 sh109_0 shb109_0 shr109_0 ((x0,x3,x4,x5,x6,()),(b0_0,b0_2,()),(b1_0,b1_2,()),())) (t109_0 x0 x3 x4 x5 x6 b0_0 b0_2 b1_0 b1_2) :=
  TrOk.ofTest (fun h0=>TrOk.ofFin (BodyRuns.of (e109_0_0 x0 x3 x4 x5 x6 b0_0 b0_2 b1_0 b1_2) (ac h0 All.nil))) (fun h0=>TrOk.ofFin (BodyRuns.of (e109_0_1 x0 x3 x4 x5 x6 b0_0 b0_2 b1_0 b1_2) (ac h0 All.nil)))

theorem ok109_0:LoopOk Go.Proofs.Try.prog 109 0 lc109_0:=loopOk_ofB kf146_ok.base (T:=fun (d:sh109_0.data)=>t109_0 d.1.1 d.1.2.1 d.1.2.2.1 d.1.2.2.2.1 d.1.2.2.2.2.1 d.2.1.1 d.2.1.2.1 d.2.2.1.1 d.2.2.1.2.1) (by kernel_rfl) rfl (fun (d:sh109_0.data)=>ok109_0_t d.1.1 d.1.2.1 d.1.2.2.1 d.1.2.2.2.1 d.1.2.2.2.2.1 d.2.1.1 d.2.1.2.1 d.2.2.1.1 d.2.2.1.2.1) (fun _=>rfl)
def kl109_0:Known:=kf146.loop 109 0 lc109_0
theorem kl109_0_ok:KnownOk Go.Proofs.Try.prog kl109_0:=kf146_ok.loop ok109_0

/-! ductility/ductilityref02.Prices -/

abbrev as109:List Ty:=[(.slice (.int .i64))]
abbrev rs109:List Ty:=[(.pair (.pair (.int .i64) (.pair (.slice (.int .i64)) .unit)) (.pair (.pair (.int .i64) (.pair (.slice (.int .i64)) .unit)) .unit)),(.pair (.pair (.int .i64) (.pair (.slice (.int .i64)) .unit)) (.pair (.pair (.int .i64) (.pair (.slice (.int .i64)) .unit)) .unit))]

def t109 (x0:(List Int)):Tr (Tys.data rs109) :=
  Tr.test (isBrk (l109_0 ((x0,((↑(List.length x0):Int),((0:Int),((0:Int),((0:Int),()))))),(((0:Int),((0:Int),())),(((0:Int),((0:Int),())),())))))
    (let r0:(List Int×Int×Int×Int×PUnit)×(Int×Int×PUnit)×(Int×Int×PUnit)×PUnit:=b109_0 ((x0,((↑(List.length x0):Int),((0:Int),((0:Int),((0:Int),()))))),(((0:Int),((0:Int),())),(((0:Int),((0:Int),())),())));
    Tr.test (Option.isSome (f26 (r0.1.1,())))
      (Tr.test (Option.isSome (f48 (r0.1.2.1,())))
        (Tr.test (Option.isSome (f48 (r0.1.2.2.1,())))
          (let r1:(Int×Int×PUnit)×PUnit:=g26 (r0.1.1,());
          Tr.test (Option.isSome (f48 ((Go.IntKind.wrap Go.IntKind.i64 ((0:Int) - r1.1.1):Int),())))
            (Tr.test (Option.isSome (f48 (r0.1.2.2.2.1,())))
              (Tr.test (Option.isSome (f48 ((Go.IntKind.wrap Go.IntKind.i64 ((0:Int) - r1.1.2.1):Int),())))
                (let r2:((Int×List Int×PUnit)×(Int×List Int×PUnit)×PUnit)×PUnit:=g48 (r0.1.2.1,());
                let r3:((Int×List Int×PUnit)×(Int×List Int×PUnit)×PUnit)×PUnit:=g48 (r0.1.2.2.1,());
                let r4:((Int×List Int×PUnit)×(Int×List Int×PUnit)×PUnit)×PUnit:=g48 ((Go.IntKind.wrap Go.IntKind.i64 ((0:Int) - r1.1.1):Int),());
                let r5:((Int×List Int×PUnit)×(Int×List Int×PUnit)×PUnit)×PUnit:=g48 (r0.1.2.2.2.1,());
                let r6:((Int×List Int×PUnit)×(Int×List Int×PUnit)×PUnit)×PUnit:=g48 ((Go.IntKind.wrap Go.IntKind.i64 ((0:Int) - r1.1.2.1):Int),());
                Tr.test (Option.isSome (f146 (([[((r2.1.1.1,r2.1.1.2.1,()),(r2.1.2.1.1,r2.1.2.1.2.1,()),()),((r3.1.1.1,r3.1.1.2.1,()),(r3.1.2.1.1,r3.1.2.1.2.1,()),()),((r4.1.1.1,r4.1.1.2.1,()),(r4.1.2.1.1,r4.1.2.1.2.1,()),())],[((r3.1.1.1,r3.1.1.2.1,()),(r3.1.2.1.1,r3.1.2.1.2.1,()),()),((r5.1.1.1,r5.1.1.2.1,()),(r5.1.2.1.1,r5.1.2.1.2.1,()),()),((r6.1.1.1,r6.1.1.2.1,()),(r6.1.2.1.1,r6.1.2.1.2.1,()),())]]:List (List ((Int×List Int×PUnit)×(Int×List Int×PUnit)×PUnit))),())))
                  (let r7:List ((Int×List Int×PUnit)×(Int×List Int×PUnit)×PUnit)×Bool×PUnit:=g146 (([[((r2.1.1.1,r2.1.1.2.1,()),(r2.1.2.1.1,r2.1.2.1.2.1,()),()),((r3.1.1.1,r3.1.1.2.1,()),(r3.1.2.1.1,r3.1.2.1.2.1,()),()),((r4.1.1.1,r4.1.1.2.1,()),(r4.1.2.1.1,r4.1.2.1.2.1,()),())],[((r3.1.1.1,r3.1.1.2.1,()),(r3.1.2.1.1,r3.1.2.1.2.1,()),()),((r5.1.1.1,r5.1.1.2.1,()),(r5.1.2.1.1,r5.1.2.1.2.1,()),()),((r6.1.1.1,r6.1.1.2.1,()),(r6.1.2.1.1,r6.1.2.1.2.1,()),())]]:List (List ((Int×List Int×PUnit)×(Int×List Int×PUnit)×PUnit))),());
                  Tr.test ((true && decide ((0:Int) < (↑(List.length r7.1):Int)):Bool))
                    (Tr.test ((true && decide ((1:Int) < (↑(List.length r7.1):Int)):Bool))
                      (Tr.fin ((((((List.getD r7.1 (0:Nat) (((0:Int),[],()),((0:Int),[],()),())).1.1:Int),(((List.getD r7.1 (0:Nat) (((0:Int),[],()),((0:Int),[],()),())).1.2.1:List Int),())),((((List.getD r7.1 (0:Nat) (((0:Int),[],()),((0:Int),[],()),())).2.1.1:Int),(((List.getD r7.1 (0:Nat) (((0:Int),[],()),((0:Int),[],()),())).2.1.2.1:List Int),())),())),(((((List.getD r7.1 (1:Nat) (((0:Int),[],()),((0:Int),[],()),())).1.1:Int),(((List.getD r7.1 (1:Nat) (((0:Int),[],()),((0:Int),[],()),())).1.2.1:List Int),())),((((List.getD r7.1 (1:Nat) (((0:Int),[],()),((0:Int),[],()),())).2.1.1:Int),(((List.getD r7.1 (1:Nat) (((0:Int),[],()),((0:Int),[],()),())).2.1.2.1:List Int),())),())),()))))
                      (Tr.stop))
                    (Tr.stop))
                  (Tr.stop))
                (Tr.stop))
              (Tr.stop))
            (Tr.stop))
          (Tr.stop))
        (Tr.stop))
      (Tr.stop))
    (Tr.stop)

def f109 (d:Tys.data as109):Option (Tys.data rs109):=(t109 d.1).val
def g109 (d:Tys.data as109):Tys.data rs109:=(f109 d).getD (Tys.dflt rs109)
def p109:PureC:=pcOf as109 rs109 f109 g109

theorem e109_0 (x0:(List Int)):runPure kl109_0.orc Go.Proofs.Try.prog 400 109 as109 rs109 (x0,()) [tt,tt,tt,tt,tt,tt,tt,tt,tt,tt,tt,tt,tt,tt,tt] =
    (let r0:(List Int×Int×Int×Int×PUnit)×(Int×Int×PUnit)×(Int×Int×PUnit)×PUnit:=b109_0 ((x0,((↑(List.length x0):Int),((0:Int),((0:Int),((0:Int),()))))),(((0:Int),((0:Int),())),(((0:Int),((0:Int),())),())));let r1:(Int×Int×PUnit)×PUnit:=g26 (r0.1.1,());let r2:((Int×List Int×PUnit)×(Int×List Int×PUnit)×PUnit)×PUnit:=g48 (r0.1.2.1,());let r3:((Int×List Int×PUnit)×(Int×List Int×PUnit)×PUnit)×PUnit:=g48 (r0.1.2.2.1,());let r4:((Int×List Int×PUnit)×(Int×List Int×PUnit)×PUnit)×PUnit:=g48 ((Go.IntKind.wrap Go.IntKind.i64 ((0:Int) - r1.1.1):Int),());let r5:((Int×List Int×PUnit)×(Int×List Int×PUnit)×PUnit)×PUnit:=g48 (r0.1.2.2.2.1,());let r6:((Int×List Int×PUnit)×(Int×List Int×PUnit)×PUnit)×PUnit:=g48 ((Go.IntKind.wrap Go.IntKind.i64 ((0:Int) - r1.1.2.1):Int),());let r7:List ((Int×List Int×PUnit)×(Int×List Int×PUnit)×PUnit)×Bool×PUnit:=g146 (([[((r2.1.1.1,r2.1.1.2.1,()),(r2.1.2.1.1,r2.1.2.1.2.1,()),()),((r3.1.1.1,r3.1.1.2.1,()),(r3.1.2.1.1,r3.1.2.1.2.1,()),()),((r4.1.1.1,r4.1.1.2.1,()),(r4.1.2.1.1,r4.1.2.1.2.1,()),())],[((r3.1.1.1,r3.1.1.2.1,()),(r3.1.2.1.1,r3.1.2.1.2.1,()),()),((r5.1.1.1,r5.1.1.2.1,()),(r5.1.2.1.1,r5.1.2.1.2.1,()),()),((r6.1.1.1,r6.1.1.2.1,()),(r6.1.2.1.1,r6.1.2.1.2.1,()),())]]:List (List ((Int×List Int×PUnit)×(Int×List Int×PUnit)×PUnit))),()); some ((((((List.getD r7.1 (0:Nat) (((0:Int),[],()),((0:Int),[],()),())).1.1:Int),(((List.getD r7.1 (0:Nat) (((0:Int),[],()),((0:Int),[],()),())).1.2.1:List Int),())),((((List.getD r7.1 (0:Nat) (((0:Int),[],()),((0:Int),[],()),())).2.1.1:Int),(((List.getD r7.1 (0:Nat) (((0:Int),[],()),((0:Int),[],()),())).2.1.2.1:List Int),())),())),(((((List.getD r7.1 (1:Nat) (((0:Int),[],()),((0:Int),[],()),())).1.1:Int),(((List.getD r7.1 (1:Nat) (((0:Int),[],()),((0:Int),[],()),())).1.2.1:List Int),())),((((List.getD r7.1 (1:Nat) (((0:Int),[],()),((0:Int),[],()),())).2.1.1:Int),(((List.getD r7.1 (1:Nat) (((0:Int),[],()),((0:Int),[],()),())).2.1.2.1:List Int),())),())),())),[(true && decide ((1:Int) < (↑(List.length r7.1):Int)),true),(true && decide ((0:Int) < (↑(List.length r7.1):Int)),true),(Option.isSome (f146 (([[((r2.1.1.1,r2.1.1.2.1,()),(r2.1.2.1.1,r2.1.2.1.2.1,()),()),((r3.1.1.1,r3.1.1.2.1,()),(r3.1.2.1.1,r3.1.2.1.2.1,()),()),((r4.1.1.1,r4.1.1.2.1,()),(r4.1.2.1.1,r4.1.2.1.2.1,()),())],[((r3.1.1.1,r3.1.1.2.1,()),(r3.1.2.1.1,r3.1.2.1.2.1,()),()),((r5.1.1.1,r5.1.1.2.1,()),(r5.1.2.1.1,r5.1.2.1.2.1,()),()),((r6.1.1.1,r6.1.1.2.1,()),(r6.1.2.1.1,r6.1.2.1.2.1,()),())]]:List (List ((Int×List Int×PUnit)×(Int×List Int×PUnit)×PUnit))),())),true),(true,true),(true,true),(true,true),(Option.isSome (f48 ((Go.IntKind.wrap Go.IntKind.i64 ((0:Int) - r1.1.2.1):Int),())),true),(Option.isSome (f48 (r0.1.2.2.2.1,())),true),(Option.isSome (f48 (r0.1.2.2.1,())),true),(Option.isSome (f48 ((Go.IntKind.wrap Go.IntKind.i64 ((0:Int) - r1.1.1):Int),())),true),(Option.isSome (f48 (r0.1.2.2.1,())),true),(Option.isSome (f48 (r0.1.2.1,())),true),(Option.isSome (f26 (r0.1.1,())),true),(true,true),(isBrk (l109_0 ((x0,((↑(List.length x0):Int),((0:Int),((0:Int),((0:Int),()))))),(((0:Int),((0:Int),())),(((0:Int),((0:Int),())),())))),true)])):=by kernel_rfl

theorem ok109_t (x0:(List Int)):TrOk (PureRuns Go.Proofs.Try.prog kl109_0.orc 109 as109 rs109 (x0,())) (t109 x0) :=
  TrOk.ofTest (fun h0=>TrOk.ofTest (fun h2=>TrOk.ofTest (fun h3=>TrOk.ofTest (fun h4=>TrOk.ofTest (fun h5=>TrOk.ofTest (fun h7=>TrOk.ofTest (fun h8=>TrOk.ofTest (fun h12=>TrOk.ofTest (fun h13=>TrOk.ofTest (fun h14=>TrOk.ofFin (PureRuns.of (e109_0 x0) (ac h14 (ac h13 (ac h12 (ac rfl (ac rfl (ac rfl (ac h8 (ac h7 (ac h4 (ac h5 (ac h4 (ac h3 (ac h2 (ac rfl (ac h0 All.nil))))))))))))))))) (fun h14=>TrOk.ofStop)) (fun h13=>TrOk.ofStop)) (fun h12=>TrOk.ofStop)) (fun h8=>TrOk.ofStop)) (fun h7=>TrOk.ofStop)) (fun h5=>TrOk.ofStop)) (fun h4=>TrOk.ofStop)) (fun h3=>TrOk.ofStop)) (fun h2=>TrOk.ofStop)) (fun h0=>TrOk.ofStop)

theorem ok109:PureOk Go.Proofs.Try.prog 109 p109:=pureOk_of kl109_0_ok.base (T:=fun (d:Tys.data as109)=>t109 d.1) (by kernel_rfl) (fun (d:Tys.data as109)=>ok109_t d.1)
def kf109:Known:=kl109_0.func 109 p109
theorem kf109_ok:KnownOk Go.Proofs.Try.prog kf109:=kl109_0_ok.func ok109

/-! loop 0 of ductility/ductilitybase.WideInt -/

abbrev sh147_0:Sh:={ n:=30,slots:=[1,4,5],pats:=[.ptr 0 2 0,.ty (.int .i64),.ty (.int .i64)],boxes:=[.row [.ty (.int .i64),.ty (.slice (.int .i64))]] }
abbrev shb147_0:Sh:={ n:=30,slots:=[1,4],pats:=[.ptr 0 2 0,.ty (.int .i64)],boxes:=[.row [.ty (.int .i64),.ty (.slice (.int .i64))]] }
abbrev shr147_0:Sh:={ n:=30,slots:=[],pats:=[],boxes:=[.row [.ty (.int .i64),.ty (.slice (.int .i64))]] }

def t147_0 (x1:Int) (x2:Int) (b0_0:Int) (b0_1:(List Int)):Tr (Out sh147_0.data shb147_0.data shr147_0.data) :=
  Tr.test ((leF (0:Int) x2:Bool))
    (Tr.test (decide ((0:Int) ≤ x2) && decide (x2 < (↑(List.length b0_1):Int)))
      (Tr.fin (.again (((wrap64 (wrap64 (x1 * (1000000000:Int)) + List.getD b0_1 (Int.toNat x2) (0:Int)):Int),((wrap64 (x2 - (1:Int)):Int),())),((b0_0,(b0_1,())),()))))
      (Tr.stop))
    (Tr.fin (.brk ((x1,()),((b0_0,(b0_1,())),()))))

def s147_0 (d:sh147_0.data):Option (Out sh147_0.data shb147_0.data shr147_0.data):=(t147_0 d.1.1 d.1.2.1 d.2.1.1 d.2.1.2.1).val
def l147_0 (d:sh147_0.data):Option (shb147_0.data ⊕ shr147_0.data):=itr s147_0 rounds d
def b147_0 (d:sh147_0.data):shb147_0.data:=outB shb147_0.dflt (l147_0 d)
def lc147_0:LoopC:=lcB sh147_0 shb147_0 shr147_0 l147_0 b147_0

theorem e147_0_0 (x1:Int) (x2:Int) (b0_0:Int) (b0_1:(List Int)):runBody kf109.orc Go.Proofs.Try.prog 400 147 0 sh147_0 shb147_0 shr147_0 ((x1,x2,()),(b0_0,b0_1,()),()) [tt,tt] =
    (some (.again (((wrap64 (wrap64 (x1 * (1000000000:Int)) + List.getD b0_1 (Int.toNat x2) (0:Int)):Int),((wrap64 (x2 - (1:Int)):Int),())),((b0_0,(b0_1,())),())),[(decide ((0:Int) ≤ x2) && decide (x2 < (↑(List.length b0_1):Int)),true),(leF (0:Int) x2,true)])):=by kernel_rfl
theorem e147_0_2 (x1:Int) (x2:Int) (b0_0:Int) (b0_1:(List Int)):runBody kf109.orc Go.Proofs.Try.prog 400 147 0 sh147_0 shb147_0 shr147_0 ((x1,x2,()),(b0_0,b0_1,()),()) [ff] =
    (some (.brk ((x1,()),((b0_0,(b0_1,())),())),[(leF (0:Int) x2,false)])):=by kernel_rfl

theorem ok147_0_t (x1:Int) (x2:Int) (b0_0:Int) (b0_1:(List Int)):TrOk (BodyRuns Go.Proofs.Try.prog kf109.orc 147 0 sh147_0 shb147_0 shr147_0 ((x1,x2,()),(b0_0,b0_1,()),())) (t147_0 x1 x2 b0_0 b0_1) :=
  TrOk.ofTest (fun h0=>TrOk.ofTest (fun h1=>TrOk.ofFin (BodyRuns.of (e147_0_0 x1 x2 b0_0 b0_1) (ac h1 (ac h0 All.nil)))) (fun h1=>TrOk.ofStop)) (fun h0=>TrOk.ofFin (BodyRuns.of (e147_0_2 x1 x2 b0_0 b0_1) (ac h0 All.nil)))

theorem ok147_0:LoopOk Go.Proofs.Try.prog 147 0 lc147_0:=loopOk_ofB kf109_ok.base (T:=fun (d:sh147_0.data)=>t147_0 d.1.1 d.1.2.1 d.2.1.1 d.2.1.2.1) (by kernel_rfl) rfl (fun (d:sh147_0.data)=>ok147_0_t d.1.1 d.1.2.1 d.2.1.1 d.2.1.2.1) (fun _=>rfl)
def kl147_0:Known:=kf109.loop 147 0 lc147_0
theorem kl147_0_ok:KnownOk Go.Proofs.Try.prog kl147_0:=kf109_ok.loop ok147_0

/-! ductility/ductilitybase.WideInt -/

abbrev as147:List Ty:=[(.pair (.int .i64) (.pair (.slice (.int .i64)) .unit))]
abbrev rs147:List Ty:=[(.int .i64),.bool]

def t147 (x0:Int) (x0':(List Int)):Tr (Tys.data rs147) :=
  Tr.test ((!leF (↑(List.length x0'):Int) (2:Int):Bool))
    (Tr.fin (((0:Int),(false,()))))
    (Tr.test (isBrk (l147_0 (((0:Int),((wrap64 ((↑(List.length x0'):Int) - (1:Int)):Int),())),((x0,(x0',())),()))))
      (let r0:(Int×PUnit)×(Int×List Int×PUnit)×PUnit:=b147_0 (((0:Int),((wrap64 ((↑(List.length x0'):Int) - (1:Int)):Int),())),((x0,(x0',())),()));
      Tr.fin (((wrap64 (r0.2.1.1 * r0.1.1):Int),((true:Bool),()))))
      (Tr.stop))

def f147 (d:Tys.data as147):Option (Tys.data rs147):=(t147 d.1.1 d.1.2.1).val
def g147 (d:Tys.data as147):Tys.data rs147:=(f147 d).getD (Tys.dflt rs147)
def p147:PureC:=pcOf as147 rs147 f147 g147

theorem e147_0 (x0:Int) (x0':(List Int)):runPure kl147_0.orc Go.Proofs.Try.prog 400 147 as147 rs147 ((x0,x0',()),()) [tt] =
    (some (((0:Int),(false,())),[(!leF (↑(List.length x0'):Int) (2:Int),true)])):=by kernel_rfl
theorem e147_1 (x0:Int) (x0':(List Int)):runPure kl147_0.orc Go.Proofs.Try.prog 400 147 as147 rs147 ((x0,x0',()),()) [ff,tt,tt] =
    (let r0:(Int×PUnit)×(Int×List Int×PUnit)×PUnit:=b147_0 (((0:Int),((wrap64 ((↑(List.length x0'):Int) - (1:Int)):Int),())),((x0,(x0',())),())); some (((wrap64 (r0.2.1.1 * r0.1.1):Int),(true,())),[(true,true),(isBrk (l147_0 (((0:Int),((wrap64 ((↑(List.length x0'):Int) - (1:Int)):Int),())),((x0,(x0',())),()))),true),(!leF (↑(List.length x0'):Int) (2:Int),false)])):=by kernel_rfl

theorem ok147_t (x0:Int) (x0':(List Int)):TrOk (PureRuns Go.Proofs.Try.prog kl147_0.orc 147 as147 rs147 ((x0,x0',()),())) (t147 x0 x0') :=
  TrOk.ofTest (fun h0=>TrOk.ofFin (PureRuns.of (e147_0 x0 x0') (ac h0 All.nil))) (fun h0=>TrOk.ofTest (fun h1=>TrOk.ofFin (PureRuns.of (e147_1 x0 x0') (ac rfl (ac h1 (ac h0 All.nil))))) (fun h1=>TrOk.ofStop))

theorem ok147:PureOk Go.Proofs.Try.prog 147 p147:=pureOk_of kl147_0_ok.base (T:=fun (d:Tys.data as147)=>t147 d.1.1 d.1.2.1) (by kernel_rfl) (fun (d:Tys.data as147)=>ok147_t d.1.1 d.1.2.1)
def kf147:Known:=kl147_0.func 147 p147
theorem kf147_ok:KnownOk Go.Proofs.Try.prog kf147:=kl147_0_ok.func ok147

/-! ductility/ductilitybase.RatioFloor -/

abbrev as148:List Ty:=[(.pair (.pair (.int .i64) (.pair (.slice (.int .i64)) .unit)) (.pair (.pair (.int .i64) (.pair (.slice (.int .i64)) .unit)) .unit))]
abbrev rs148:List Ty:=[(.pair (.int .i64) (.pair (.slice (.int .i64)) .unit))]

def t148 (x0_:Int) (x0_':(List Int)) (x0'_:Int) (x0'_':(List Int)):Tr (Tys.data rs148) :=
  Tr.test (Option.isSome (f153 ((x0_,(x0_',())),((x0'_,(x0'_',())),()))))
    (let r0:(Int×List Int×PUnit)×PUnit:=g153 ((x0_,(x0_',())),((x0'_,(x0'_',())),()));
    Tr.fin (((r0.1.1,(r0.1.2.1,())),())))
    (Tr.stop)

def f148 (d:Tys.data as148):Option (Tys.data rs148):=(t148 d.1.1.1 d.1.1.2.1 d.1.2.1.1 d.1.2.1.2.1).val
def g148 (d:Tys.data as148):Tys.data rs148:=(f148 d).getD (Tys.dflt rs148)
def p148:PureC:=pcOf as148 rs148 f148 g148

theorem e148_0 (x0_:Int) (x0_':(List Int)) (x0'_:Int) (x0'_':(List Int)):runPure kf147.orc Go.Proofs.Try.prog 400 148 as148 rs148 (((x0_,x0_',()),(x0'_,x0'_',()),()),()) [tt] =
    (let r0:(Int×List Int×PUnit)×PUnit:=g153 ((x0_,(x0_',())),((x0'_,(x0'_',())),())); some (((r0.1.1,(r0.1.2.1,())),()),[(Option.isSome (f153 ((x0_,(x0_',())),((x0'_,(x0'_',())),()))),true)])):=by kernel_rfl

theorem ok148_t (x0_:Int) (x0_':(List Int)) (x0'_:Int) (x0'_':(List Int)):TrOk (PureRuns Go.Proofs.Try.prog kf147.orc 148 as148 rs148 (((x0_,x0_',()),(x0'_,x0'_',()),()),())) (t148 x0_ x0_' x0'_ x0'_') :=
  TrOk.ofTest (fun h0=>TrOk.ofFin (PureRuns.of (e148_0 x0_ x0_' x0'_ x0'_') (ac h0 All.nil))) (fun h0=>TrOk.ofStop)

theorem ok148:PureOk Go.Proofs.Try.prog 148 p148:=pureOk_of kf147_ok.base (T:=fun (d:Tys.data as148)=>t148 d.1.1.1 d.1.1.2.1 d.1.2.1.1 d.1.2.1.2.1) (by kernel_rfl) (fun (d:Tys.data as148)=>ok148_t d.1.1.1 d.1.1.2.1 d.1.2.1.1 d.1.2.1.2.1)
def kf148:Known:=kf147.func 148 p148
theorem kf148_ok:KnownOk Go.Proofs.Try.prog kf148:=kf147_ok.func ok148

end Go.Vm.Mo
