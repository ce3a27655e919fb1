import Derived.Test.YtlmcodagfhdncaaA4
import Derived.KernelRfl
import Derived.Test.YtlmcodagfhdncaaProg
import Derived.Test.YtlmcodagfhdncaaRsFa
set_option linter.unusedVariables false
set_option linter.unusedSimpArgs false

namespace Go.Vm.Mo
open Go
set_option linter.unusedVariables false

/-! ductility/hybrid.ActuatorsAt -/

abbrev as14:List Ty:=[(.pair (.int .i64) (.pair (.int .i64) (.pair (.int .i64) (.pair (.int .i64) (.pair (.int .i64) (.pair .bool (.pair (.int .i64) (.pair (.pair (.int .i64) (.pair (.int .i64) .unit)) .unit)))))))),(.slice (.int .i64))]
abbrev rs14:List Ty:=[(.int .i64),(.int .i64)]

def t14 (x0:Int) (x0':Int) (x0'':Int) (x0''':Int) (x0'''':Int) (x0''''':Bool) (x0'''''':Int) (x0'''''''_:Int) (x0'''''''_':Int) (x1:(List Int)):Tr (Tys.data rs14) :=
  Tr.test (Option.isSome (f11 ((x0,(x0',(x0'',(x0''',(x0'''',(x0''''',(x0'''''',((x0'''''''_,(x0'''''''_',())),())))))))),(x1,()))))
    (let r0:=g11 ((x0,(x0',(x0'',(x0''',(x0'''',(x0''''',(x0'''''',((x0'''''''_,(x0'''''''_',())),())))))))),(x1,()));
    Tr.test ((!eqF r0.1 0:Bool))
      (Tr.fin (((0:Int),(r0.1,()))))
      (Tr.test (Option.isSome (f64 (x1,())))
        (let r1:=g64 (x1,());
        Tr.test (Option.isSome (f65 (((x0,(x0',(x0'',(x0''',(x0'''',(x0''''',(x0'''''',((x0'''''''_,(x0'''''''_',())),())))))))),()),((r1.1.1,(r1.1.2.1,(r1.1.2.2.1,(r1.1.2.2.2.1,())))),()))))
          (let r2:=g65 (((x0,(x0',(x0'',(x0''',(x0'''',(x0''''',(x0'''''',((x0'''''''_,(x0'''''''_',())),())))))))),()),((r1.1.1,(r1.1.2.1,(r1.1.2.2.1,(r1.1.2.2.2.1,())))),()));
          Tr.fin ((r2.1,((0:Int),()))))
          (Tr.stop))
        (Tr.stop)))
    (Tr.stop)

def f14 (d:Tys.data as14):Option (Tys.data rs14):=(t14 d.1.1 d.1.2.1 d.1.2.2.1 d.1.2.2.2.1 d.1.2.2.2.2.1 d.1.2.2.2.2.2.1 d.1.2.2.2.2.2.2.1 d.1.2.2.2.2.2.2.2.1.1 d.1.2.2.2.2.2.2.2.1.2.1 d.2.1).val
def g14 (d:Tys.data as14):Tys.data rs14:=(f14 d).getD (Tys.dflt rs14)
def p14:PureC:=pcOf as14 rs14 f14 g14

theorem wk14 (x0:Int) (x0':Int) (x0'':Int) (x0''':Int) (x0'''':Int) (x0''''':Bool) (x0'''''':Int) (x0'''''''_:Int) (x0'''''''_':Int) (x1:(List Int)):Walks (runPure (kf65 Go.Proofs.Try.prog).orc Go.Proofs.Try.prog 400 14 as14 rs14 ((x0,x0',x0'',x0''',x0'''',x0''''',x0'''''',(x0'''''''_,x0'''''''_',()),()),x1,())) (t14 x0 x0' x0'' x0''' x0'''' x0''''' x0'''''' x0'''''''_ x0'''''''_' x1) [([true,true],[2,4]),([true,false,true,true],[2,4,6,8])] :=
  ⟨by kernel_rfl,by kernel_rfl,trivial⟩

theorem ok14_t (x0:Int) (x0':Int) (x0'':Int) (x0''':Int) (x0'''':Int) (x0''''':Bool) (x0'''''':Int) (x0'''''''_:Int) (x0'''''''_':Int) (x1:(List Int)):TrOk (PureRuns Go.Proofs.Try.prog (kf65 Go.Proofs.Try.prog).orc 14 as14 rs14 ((x0,x0',x0'',x0''',x0'''',x0''''',x0'''''',(x0'''''''_,x0'''''''_',()),()),x1,())) (t14 x0 x0' x0'' x0''' x0'''' x0''''' x0'''''' x0'''''''_ x0'''''''_' x1) :=
  Walks.ok (fun _ _ _=>PureRuns.of) (wk14 x0 x0' x0'' x0''' x0'''' x0''''' x0'''''' x0'''''''_ x0'''''''_' x1) (by kernel_rfl)

theorem ok14:PureOk Go.Proofs.Try.prog 14 p14:=pureOk_of kf65_ok.base (T:=fun (d:Tys.data as14)=>t14 d.1.1 d.1.2.1 d.1.2.2.1 d.1.2.2.2.1 d.1.2.2.2.2.1 d.1.2.2.2.2.2.1 d.1.2.2.2.2.2.2.1 d.1.2.2.2.2.2.2.2.1.1 d.1.2.2.2.2.2.2.2.1.2.1 d.2.1) (by kernel_rfl) (fun (d:Tys.data as14)=>ok14_t d.1.1 d.1.2.1 d.1.2.2.1 d.1.2.2.2.1 d.1.2.2.2.2.1 d.1.2.2.2.2.2.1 d.1.2.2.2.2.2.2.1 d.1.2.2.2.2.2.2.2.1.1 d.1.2.2.2.2.2.2.2.1.2.1 d.2.1)
def kf14 (P:Go.Program):Known:=(kf65 P).func 14 p14
theorem kf14_ok:KnownOk Go.Proofs.Try.prog (kf14 Go.Proofs.Try.prog):=kf65_ok.func ok14

/-! ductility/hybrid.down -/

abbrev as95:List Ty:=[(.int .i64),(.int .i64)]
abbrev rs95:List Ty:=[(.int .i64)]

def t95 (x0:Int) (x1:Int):Tr (Tys.data rs95) :=
  Tr.test ((x1 == (0:Int):Bool))
    (Tr.stop)
    (Tr.test (!leF (0:Int) (Int.tmod x0 x1))
      (Tr.fin (((wrap64 (Go.IntKind.wrap Go.IntKind.i64 (Int.tdiv x0 x1) - (1:Int)):Int),())))
      (Tr.fin (((Go.IntKind.wrap Go.IntKind.i64 (Int.tdiv x0 x1):Int),()))))

def f95 (d:Tys.data as95):Option (Tys.data rs95):=(t95 d.1 d.2.1).val
def g95 (d:Tys.data as95):Tys.data rs95:=(f95 d).getD (Tys.dflt rs95)
def p95:PureC:=pcOf as95 rs95 f95 g95

theorem wk95 (x0:Int) (x1:Int):Walks (runPure (kf14 Go.Proofs.Try.prog).orc Go.Proofs.Try.prog 400 95 as95 rs95 (x0,x1,())) (t95 x0 x1) [([false,true],[4,2,4]),([false,false],[4,2,4])] :=
  ⟨by kernel_rfl,by kernel_rfl,trivial⟩

theorem ok95_t (x0:Int) (x1:Int):TrOk (PureRuns Go.Proofs.Try.prog (kf14 Go.Proofs.Try.prog).orc 95 as95 rs95 (x0,x1,())) (t95 x0 x1) :=
  Walks.ok (fun _ _ _=>PureRuns.of) (wk95 x0 x1) (by kernel_rfl)

theorem ok95:PureOk Go.Proofs.Try.prog 95 p95:=pureOk_of kf14_ok.base (T:=fun (d:Tys.data as95)=>t95 d.1 d.2.1) (by kernel_rfl) (fun (d:Tys.data as95)=>ok95_t d.1 d.2.1)
def kf95 (P:Go.Program):Known:=(kf14 P).func 95 p95
theorem kf95_ok:KnownOk Go.Proofs.Try.prog (kf95 Go.Proofs.Try.prog):=kf14_ok.func ok95

/-! (ductility/hybrid.test).moved -/

abbrev as66:List Ty:=[(.pair (.pair (.int .i64) (.pair (.int .i64) (.pair (.int .i64) (.pair (.int .i64) (.pair (.int .i64) (.pair .bool (.pair (.int .i64) (.pair (.pair (.int .i64) (.pair (.int .i64) .unit)) .unit)))))))) .unit),(.pair (.int .i64) (.pair (.int .i64) (.pair (.int .i64) (.pair (.int .i64) .unit)))),(.int .i64)]
abbrev rs66:List Ty:=[(.int .i64)]

def t66 (x0_:Int) (x0_':Int) (x0_'':Int) (x0_''':Int) (x0_'''':Int) (x0_''''':Bool) (x0_'''''':Int) (x0_'''''''_:Int) (x0_'''''''_':Int) (x1:Int) (x1':Int) (x1'':Int) (x1''':Int) (x2:Int):Tr (Tys.data rs66) :=
  Tr.test (Option.isSome (f65 (((x0_,(x0_',(x0_'',(x0_''',(x0_'''',(x0_''''',(x0_'''''',((x0_'''''''_,(x0_'''''''_',())),())))))))),()),((x1,(x1',(x1'',(x1''',())))),()))))
    (let r0:=g65 (((x0_,(x0_',(x0_'',(x0_''',(x0_'''',(x0_''''',(x0_'''''',((x0_'''''''_,(x0_'''''''_',())),())))))))),()),((x1,(x1',(x1'',(x1''',())))),()));
    Tr.test (Option.isSome (f95 ((wrap64 (wrap64 (wrap64 (x2 - wrap64 (x0_' * wrap64 (x1 - x1'))) - wrap64 (x0_'' * x1)) - wrap64 (x0_''' * r0.1)):Int),(x0_,()))))
      (let r1:=g95 ((wrap64 (wrap64 (wrap64 (x2 - wrap64 (x0_' * wrap64 (x1 - x1'))) - wrap64 (x0_'' * x1)) - wrap64 (x0_''' * r0.1)):Int),(x0_,()));
      Tr.fin (((wrap64 (wrap64 (x1 + wrap64 (x1 - x1')) + r1.1):Int),())))
      (Tr.stop))
    (Tr.stop)

def f66 (d:Tys.data as66):Option (Tys.data rs66):=(t66 d.1.1.1 d.1.1.2.1 d.1.1.2.2.1 d.1.1.2.2.2.1 d.1.1.2.2.2.2.1 d.1.1.2.2.2.2.2.1 d.1.1.2.2.2.2.2.2.1 d.1.1.2.2.2.2.2.2.2.1.1 d.1.1.2.2.2.2.2.2.2.1.2.1 d.2.1.1 d.2.1.2.1 d.2.1.2.2.1 d.2.1.2.2.2.1 d.2.2.1).val
def g66 (d:Tys.data as66):Tys.data rs66:=(f66 d).getD (Tys.dflt rs66)
def p66:PureC:=pcOf as66 rs66 f66 g66

theorem wk66 (x0_:Int) (x0_':Int) (x0_'':Int) (x0_''':Int) (x0_'''':Int) (x0_''''':Bool) (x0_'''''':Int) (x0_'''''''_:Int) (x0_'''''''_':Int) (x1:Int) (x1':Int) (x1'':Int) (x1''':Int) (x2:Int):Walks (runPure (kf95 Go.Proofs.Try.prog).orc Go.Proofs.Try.prog 400 66 as66 rs66 (((x0_,x0_',x0_'',x0_''',x0_'''',x0_''''',x0_'''''',(x0_'''''''_,x0_'''''''_',()),()),()),(x1,x1',x1'',x1''',()),x2,())) (t66 x0_ x0_' x0_'' x0_''' x0_'''' x0_''''' x0_'''''' x0_'''''''_ x0_'''''''_' x1 x1' x1'' x1''' x2) [([true,true],[2,1,1,4,1,1,1,1,1,1])] :=
  ⟨by kernel_rfl,trivial⟩

theorem ok66_t (x0_:Int) (x0_':Int) (x0_'':Int) (x0_''':Int) (x0_'''':Int) (x0_''''':Bool) (x0_'''''':Int) (x0_'''''''_:Int) (x0_'''''''_':Int) (x1:Int) (x1':Int) (x1'':Int) (x1''':Int) (x2:Int):TrOk (PureRuns Go.Proofs.Try.prog (kf95 Go.Proofs.Try.prog).orc 66 as66 rs66 (((x0_,x0_',x0_'',x0_''',x0_'''',x0_''''',x0_'''''',(x0_'''''''_,x0_'''''''_',()),()),()),(x1,x1',x1'',x1''',()),x2,())) (t66 x0_ x0_' x0_'' x0_''' x0_'''' x0_''''' x0_'''''' x0_'''''''_ x0_'''''''_' x1 x1' x1'' x1''' x2) :=
  Walks.ok (fun _ _ _=>PureRuns.of) (wk66 x0_ x0_' x0_'' x0_''' x0_'''' x0_''''' x0_'''''' x0_'''''''_ x0_'''''''_' x1 x1' x1'' x1''' x2) (by kernel_rfl)

theorem ok66:PureOk Go.Proofs.Try.prog 66 p66:=pureOk_of kf95_ok.base (T:=fun (d:Tys.data as66)=>t66 d.1.1.1 d.1.1.2.1 d.1.1.2.2.1 d.1.1.2.2.2.1 d.1.1.2.2.2.2.1 d.1.1.2.2.2.2.2.1 d.1.1.2.2.2.2.2.2.1 d.1.1.2.2.2.2.2.2.2.1.1 d.1.1.2.2.2.2.2.2.2.1.2.1 d.2.1.1 d.2.1.2.1 d.2.1.2.2.1 d.2.1.2.2.2.1 d.2.2.1) (by kernel_rfl) (fun (d:Tys.data as66)=>ok66_t d.1.1.1 d.1.1.2.1 d.1.1.2.2.1 d.1.1.2.2.2.1 d.1.1.2.2.2.2.1 d.1.1.2.2.2.2.2.1 d.1.1.2.2.2.2.2.2.1 d.1.1.2.2.2.2.2.2.2.1.1 d.1.1.2.2.2.2.2.2.2.1.2.1 d.2.1.1 d.2.1.2.1 d.2.1.2.2.1 d.2.1.2.2.2.1 d.2.2.1)
def kf66 (P:Go.Program):Known:=(kf95 P).func 66 p66
theorem kf66_ok:KnownOk Go.Proofs.Try.prog (kf66 Go.Proofs.Try.prog):=kf95_ok.func ok66

/-! (ductility/hybrid.test).leaves -/

abbrev as67:List Ty:=[(.pair (.pair (.int .i64) (.pair (.int .i64) (.pair (.int .i64) (.pair (.int .i64) (.pair (.int .i64) (.pair .bool (.pair (.int .i64) (.pair (.pair (.int .i64) (.pair (.int .i64) .unit)) .unit)))))))) .unit),(.int .i64)]
abbrev rs67:List Ty:=[.bool]

def t67 (x0_:Int) (x0_':Int) (x0_'':Int) (x0_''':Int) (x0_'''':Int) (x0_''''':Bool) (x0_'''''':Int) (x0_'''''''_:Int) (x0_'''''''_':Int) (x1:Int):Tr (Tys.data rs67) :=
  Tr.test (Option.isSome (f58 (x0_'''''',(([x1]:List Int),()))))
    (let r0:=g58 (x0_'''''',(([x1]:List Int),()));
    Tr.fin ((r0.1,())))
    (Tr.stop)

def f67 (d:Tys.data as67):Option (Tys.data rs67):=(t67 d.1.1.1 d.1.1.2.1 d.1.1.2.2.1 d.1.1.2.2.2.1 d.1.1.2.2.2.2.1 d.1.1.2.2.2.2.2.1 d.1.1.2.2.2.2.2.2.1 d.1.1.2.2.2.2.2.2.2.1.1 d.1.1.2.2.2.2.2.2.2.1.2.1 d.2.1).val
def g67 (d:Tys.data as67):Tys.data rs67:=(f67 d).getD (Tys.dflt rs67)
def p67:PureC:=pcOf as67 rs67 f67 g67

theorem wk67 (x0_:Int) (x0_':Int) (x0_'':Int) (x0_''':Int) (x0_'''':Int) (x0_''''':Bool) (x0_'''''':Int) (x0_'''''''_:Int) (x0_'''''''_':Int) (x1:Int):Walks (runPure (kf66 Go.Proofs.Try.prog).orc Go.Proofs.Try.prog 400 67 as67 rs67 (((x0_,x0_',x0_'',x0_''',x0_'''',x0_''''',x0_'''''',(x0_'''''''_,x0_'''''''_',()),()),()),x1,())) (t67 x0_ x0_' x0_'' x0_''' x0_'''' x0_''''' x0_'''''' x0_'''''''_ x0_'''''''_' x1) [([tt],[2])] :=
  ⟨by kernel_rfl,trivial⟩

theorem ok67_t (x0_:Int) (x0_':Int) (x0_'':Int) (x0_''':Int) (x0_'''':Int) (x0_''''':Bool) (x0_'''''':Int) (x0_'''''''_:Int) (x0_'''''''_':Int) (x1:Int):TrOk (PureRuns Go.Proofs.Try.prog (kf66 Go.Proofs.Try.prog).orc 67 as67 rs67 (((x0_,x0_',x0_'',x0_''',x0_'''',x0_''''',x0_'''''',(x0_'''''''_,x0_'''''''_',()),()),()),x1,())) (t67 x0_ x0_' x0_'' x0_''' x0_'''' x0_''''' x0_'''''' x0_'''''''_ x0_'''''''_' x1) :=
  Walks.ok (fun _ _ _=>PureRuns.of) (wk67 x0_ x0_' x0_'' x0_''' x0_'''' x0_''''' x0_'''''' x0_'''''''_ x0_'''''''_' x1) (by kernel_rfl)

theorem ok67:PureOk Go.Proofs.Try.prog 67 p67:=pureOk_of kf66_ok.base (T:=fun (d:Tys.data as67)=>t67 d.1.1.1 d.1.1.2.1 d.1.1.2.2.1 d.1.1.2.2.2.1 d.1.1.2.2.2.2.1 d.1.1.2.2.2.2.2.1 d.1.1.2.2.2.2.2.2.1 d.1.1.2.2.2.2.2.2.2.1.1 d.1.1.2.2.2.2.2.2.2.1.2.1 d.2.1) (by kernel_rfl) (fun (d:Tys.data as67)=>ok67_t d.1.1.1 d.1.1.2.1 d.1.1.2.2.1 d.1.1.2.2.2.1 d.1.1.2.2.2.2.1 d.1.1.2.2.2.2.2.1 d.1.1.2.2.2.2.2.2.1 d.1.1.2.2.2.2.2.2.2.1.1 d.1.1.2.2.2.2.2.2.2.1.2.1 d.2.1)
def kf67 (P:Go.Program):Known:=(kf66 P).func 67 p67
theorem kf67_ok:KnownOk Go.Proofs.Try.prog (kf67 Go.Proofs.Try.prog):=kf66_ok.func ok67

/-! (ductility/hybrid.test).after -/

abbrev as69:List Ty:=[(.pair (.pair (.int .i64) (.pair (.int .i64) (.pair (.int .i64) (.pair (.int .i64) (.pair (.int .i64) (.pair .bool (.pair (.int .i64) (.pair (.pair (.int .i64) (.pair (.int .i64) .unit)) .unit)))))))) .unit),(.pair (.int .i64) (.pair (.int .i64) (.pair (.int .i64) (.pair (.int .i64) .unit)))),(.int .i64)]
abbrev rs69:List Ty:=[(.pair (.int .i64) (.pair (.int .i64) (.pair (.int .i64) (.pair (.int .i64) .unit))))]

def t69 (x0_:Int) (x0_':Int) (x0_'':Int) (x0_''':Int) (x0_'''':Int) (x0_''''':Bool) (x0_'''''':Int) (x0_'''''''_:Int) (x0_'''''''_':Int) (x1:Int) (x1':Int) (x1'':Int) (x1''':Int) (x2:Int):Tr (Tys.data rs69) :=
  Tr.test (Option.isSome (f92 (((x0_,(x0_',(x0_'',(x0_''',(x0_'''',(x0_''''',(x0_'''''',((x0_'''''''_,(x0_'''''''_',())),())))))))),()),())))
    (let r0:=g92 (((x0_,(x0_',(x0_'',(x0_''',(x0_'''',(x0_''''',(x0_'''''',((x0_'''''''_,(x0_'''''''_',())),())))))))),()),());
    Tr.test ((decide ((0:Int) ≤ r0.1) && decide (r0.1 ≤ (4:Int)):Bool))
      (Tr.test ((true && decide ((1:Int) ≤ (↑(Int.toNat r0.1):Int)):Bool))
        (Tr.test ((Nat.ble (4:Nat) (Int.toNat r0.1 - (1:Nat)):Bool))
          (Tr.stop)
          (Tr.test ((Nat.beq (Int.toNat r0.1 - (1:Nat)) (0:Nat):Bool))
            (Tr.fin (((x2,((0:Int),((0:Int),((0:Int),())))),())))
            (Tr.test ((Nat.beq (Int.toNat r0.1 - (1:Nat)) (1:Nat):Bool))
              (Tr.fin (((x2,(x1,((0:Int),((0:Int),())))),())))
              (Tr.test ((Nat.beq (Int.toNat r0.1 - (1:Nat)) (2:Nat):Bool))
                (Tr.fin (((x2,(x1,(x1',((0:Int),())))),())))
                (Tr.test ((Nat.beq (Int.toNat r0.1 - (1:Nat)) (3:Nat):Bool))
                  (Tr.fin (((x2,(x1,(x1',(x1'',())))),())))
                  (Tr.stop))))))
        (Tr.stop))
      (Tr.stop))
    (Tr.stop)

def f69 (d:Tys.data as69):Option (Tys.data rs69):=(t69 d.1.1.1 d.1.1.2.1 d.1.1.2.2.1 d.1.1.2.2.2.1 d.1.1.2.2.2.2.1 d.1.1.2.2.2.2.2.1 d.1.1.2.2.2.2.2.2.1 d.1.1.2.2.2.2.2.2.2.1.1 d.1.1.2.2.2.2.2.2.2.1.2.1 d.2.1.1 d.2.1.2.1 d.2.1.2.2.1 d.2.1.2.2.2.1 d.2.2.1).val
def g69 (d:Tys.data as69):Tys.data rs69:=(f69 d).getD (Tys.dflt rs69)
def p69:PureC:=pcOf as69 rs69 f69 g69

theorem wk69 (x0_:Int) (x0_':Int) (x0_'':Int) (x0_''':Int) (x0_'''':Int) (x0_''''':Bool) (x0_'''''':Int) (x0_'''''''_:Int) (x0_'''''''_':Int) (x1:Int) (x1':Int) (x1'':Int) (x1''':Int) (x2:Int):Walks (runPure (kf67 Go.Proofs.Try.prog).orc Go.Proofs.Try.prog 400 69 as69 rs69 (((x0_,x0_',x0_'',x0_''',x0_'''',x0_''''',x0_'''''',(x0_'''''''_,x0_'''''''_',()),()),()),(x1,x1',x1'',x1''',()),x2,())) (t69 x0_ x0_' x0_'' x0_''' x0_'''' x0_''''' x0_'''''' x0_'''''''_ x0_'''''''_' x1 x1' x1'' x1''' x2) [([true,true,true,false,true],[0,1,2,4,0,6,8,10]),([true,true,true,false,false,true],[0,1,2,4,6,0,8,10,12]),([true,true,true,false,false,false,true],[0,1,2,4,6,8,0,10,12,14]),([true,true,true,false,false,false,false,true],[0,1,2,4,6,8,10,0,12,14,16])] :=
  ⟨by kernel_rfl,by kernel_rfl,by kernel_rfl,by kernel_rfl,trivial⟩

theorem ok69_t (x0_:Int) (x0_':Int) (x0_'':Int) (x0_''':Int) (x0_'''':Int) (x0_''''':Bool) (x0_'''''':Int) (x0_'''''''_:Int) (x0_'''''''_':Int) (x1:Int) (x1':Int) (x1'':Int) (x1''':Int) (x2:Int):TrOk (PureRuns Go.Proofs.Try.prog (kf67 Go.Proofs.Try.prog).orc 69 as69 rs69 (((x0_,x0_',x0_'',x0_''',x0_'''',x0_''''',x0_'''''',(x0_'''''''_,x0_'''''''_',()),()),()),(x1,x1',x1'',x1''',()),x2,())) (t69 x0_ x0_' x0_'' x0_''' x0_'''' x0_''''' x0_'''''' x0_'''''''_ x0_'''''''_' x1 x1' x1'' x1''' x2) :=
  Walks.ok (fun _ _ _=>PureRuns.of) (wk69 x0_ x0_' x0_'' x0_''' x0_'''' x0_''''' x0_'''''' x0_'''''''_ x0_'''''''_' x1 x1' x1'' x1''' x2) (by kernel_rfl)

theorem ok69:PureOk Go.Proofs.Try.prog 69 p69:=pureOk_of kf67_ok.base (T:=fun (d:Tys.data as69)=>t69 d.1.1.1 d.1.1.2.1 d.1.1.2.2.1 d.1.1.2.2.2.1 d.1.1.2.2.2.2.1 d.1.1.2.2.2.2.2.1 d.1.1.2.2.2.2.2.2.1 d.1.1.2.2.2.2.2.2.2.1.1 d.1.1.2.2.2.2.2.2.2.1.2.1 d.2.1.1 d.2.1.2.1 d.2.1.2.2.1 d.2.1.2.2.2.1 d.2.2.1) (by kernel_rfl) (fun (d:Tys.data as69)=>ok69_t d.1.1.1 d.1.1.2.1 d.1.1.2.2.1 d.1.1.2.2.2.1 d.1.1.2.2.2.2.1 d.1.1.2.2.2.2.2.1 d.1.1.2.2.2.2.2.2.1 d.1.1.2.2.2.2.2.2.2.1.1 d.1.1.2.2.2.2.2.2.2.1.2.1 d.2.1.1 d.2.1.2.1 d.2.1.2.2.1 d.2.1.2.2.2.1 d.2.2.1)
def kf69 (P:Go.Program):Known:=(kf67 P).func 69 p69
theorem kf69_ok:KnownOk Go.Proofs.Try.prog (kf69 Go.Proofs.Try.prog):=kf67_ok.func ok69

/-! (ductility/hybrid.test).listed -/

abbrev as68:List Ty:=[(.pair (.pair (.int .i64) (.pair (.int .i64) (.pair (.int .i64) (.pair (.int .i64) (.pair (.int .i64) (.pair .bool (.pair (.int .i64) (.pair (.pair (.int .i64) (.pair (.int .i64) .unit)) .unit)))))))) .unit),(.pair (.int .i64) (.pair (.int .i64) (.pair (.int .i64) (.pair (.int .i64) .unit))))]
abbrev rs68:List Ty:=[(.slice (.int .i64))]

def t68 (x0_:Int) (x0_':Int) (x0_'':Int) (x0_''':Int) (x0_'''':Int) (x0_''''':Bool) (x0_'''''':Int) (x0_'''''''_:Int) (x0_'''''''_':Int) (x1:Int) (x1':Int) (x1'':Int) (x1''':Int):Tr (Tys.data rs68) :=
  Tr.test (Option.isSome (f92 (((x0_,(x0_',(x0_'',(x0_''',(x0_'''',(x0_''''',(x0_'''''',((x0_'''''''_,(x0_'''''''_',())),())))))))),()),())))
    (let r0:=g92 (((x0_,(x0_',(x0_'',(x0_''',(x0_'''',(x0_''''',(x0_'''''',((x0_'''''''_,(x0_'''''''_',())),())))))))),()),());
    Tr.test ((decide ((0:Int) ≤ r0.1) && decide (r0.1 ≤ r0.1) && decide ((8:Int) * r0.1 ≤ (281474976710656:Int)) && decide (r0.1 ≤ (281474976710656:Int)):Bool))
      (Tr.test ((Nat.ble (4:Nat) (Int.toNat r0.1):Bool))
        (Tr.test ((Nat.ble (4:Nat) (List.length (List.replicate (Int.toNat r0.1) (0:Int))):Bool))
          (Tr.test ((Nat.beq (Int.toNat r0.1) (List.length (List.take (0:Nat) (List.replicate (Int.toNat r0.1) (0:Int))++([x1,x1',x1'',x1''']++List.drop (4:Nat) (List.replicate (Int.toNat r0.1) (0:Int))))):Bool))
            (Tr.fin (((List.take (0:Nat) (List.replicate (Int.toNat r0.1) (0:Int))++([x1,x1',x1'',x1''']++List.drop (4:Nat) (List.replicate (Int.toNat r0.1) (0:Int))):List Int),())))
            (Tr.test ((Nat.ble (Int.toNat r0.1) (List.length (List.take (0:Nat) (List.replicate (Int.toNat r0.1) (0:Int))++([x1,x1',x1'',x1''']++List.drop (4:Nat) (List.replicate (Int.toNat r0.1) (0:Int))))):Bool))
              (Tr.fin (((List.take (Int.toNat r0.1) (List.take (0:Nat) (List.replicate (Int.toNat r0.1) (0:Int))++([x1,x1',x1'',x1''']++List.drop (4:Nat) (List.replicate (Int.toNat r0.1) (0:Int)))):List Int),())))
              (Tr.stop)))
          (Tr.stop))
        (Tr.test ((Nat.ble ((0:Nat) + Int.toNat r0.1 * (1:Nat)) (4:Nat):Bool))
          (Tr.test ((Nat.beq (Int.toNat r0.1) (4:Nat):Bool))
            (Tr.test ((Nat.ble ((0:Nat) + Int.toNat r0.1) (List.length (List.replicate (Int.toNat r0.1) (0:Int))):Bool))
              (Tr.test ((Nat.beq (Int.toNat r0.1) (List.length (List.take (0:Nat) (List.replicate (Int.toNat r0.1) (0:Int))++([x1,x1',x1'',x1''']++List.drop ((0:Nat) + Int.toNat r0.1) (List.replicate (Int.toNat r0.1) (0:Int))))):Bool))
                (Tr.fin (((List.take (0:Nat) (List.replicate (Int.toNat r0.1) (0:Int))++([x1,x1',x1'',x1''']++List.drop ((0:Nat) + Int.toNat r0.1) (List.replicate (Int.toNat r0.1) (0:Int))):List Int),())))
                (Tr.test ((Nat.ble (Int.toNat r0.1) (List.length (List.take (0:Nat) (List.replicate (Int.toNat r0.1) (0:Int))++([x1,x1',x1'',x1''']++List.drop ((0:Nat) + Int.toNat r0.1) (List.replicate (Int.toNat r0.1) (0:Int))))):Bool))
                  (Tr.fin (((List.take (Int.toNat r0.1) (List.take (0:Nat) (List.replicate (Int.toNat r0.1) (0:Int))++([x1,x1',x1'',x1''']++List.drop ((0:Nat) + Int.toNat r0.1) (List.replicate (Int.toNat r0.1) (0:Int)))):List Int),())))
                  (Tr.stop)))
              (Tr.stop))
            (Tr.test ((Nat.ble ((0:Nat) + Int.toNat r0.1) (List.length (List.replicate (Int.toNat r0.1) (0:Int))):Bool))
              (Tr.test ((Nat.beq (Int.toNat r0.1) (List.length (List.take (0:Nat) (List.replicate (Int.toNat r0.1) (0:Int))++(List.take (Int.toNat r0.1) [x1,x1',x1'',x1''']++List.drop ((0:Nat) + Int.toNat r0.1) (List.replicate (Int.toNat r0.1) (0:Int))))):Bool))
                (Tr.fin (((List.take (0:Nat) (List.replicate (Int.toNat r0.1) (0:Int))++(List.take (Int.toNat r0.1) [x1,x1',x1'',x1''']++List.drop ((0:Nat) + Int.toNat r0.1) (List.replicate (Int.toNat r0.1) (0:Int))):List Int),())))
                (Tr.test ((Nat.ble (Int.toNat r0.1) (List.length (List.take (0:Nat) (List.replicate (Int.toNat r0.1) (0:Int))++(List.take (Int.toNat r0.1) [x1,x1',x1'',x1''']++List.drop ((0:Nat) + Int.toNat r0.1) (List.replicate (Int.toNat r0.1) (0:Int))))):Bool))
                  (Tr.fin (((List.take (Int.toNat r0.1) (List.take (0:Nat) (List.replicate (Int.toNat r0.1) (0:Int))++(List.take (Int.toNat r0.1) [x1,x1',x1'',x1''']++List.drop ((0:Nat) + Int.toNat r0.1) (List.replicate (Int.toNat r0.1) (0:Int)))):List Int),())))
                  (Tr.stop)))
              (Tr.stop)))
          (Tr.stop)))
      (Tr.stop))
    (Tr.stop)

def f68 (d:Tys.data as68):Option (Tys.data rs68):=(t68 d.1.1.1 d.1.1.2.1 d.1.1.2.2.1 d.1.1.2.2.2.1 d.1.1.2.2.2.2.1 d.1.1.2.2.2.2.2.1 d.1.1.2.2.2.2.2.2.1 d.1.1.2.2.2.2.2.2.2.1.1 d.1.1.2.2.2.2.2.2.2.1.2.1 d.2.1.1 d.2.1.2.1 d.2.1.2.2.1 d.2.1.2.2.2.1).val
def g68 (d:Tys.data as68):Tys.data rs68:=(f68 d).getD (Tys.dflt rs68)
def p68:PureC:=pcOf as68 rs68 f68 g68

theorem wk68 (x0_:Int) (x0_':Int) (x0_'':Int) (x0_''':Int) (x0_'''':Int) (x0_''''':Bool) (x0_'''''':Int) (x0_'''''''_:Int) (x0_'''''''_':Int) (x1:Int) (x1':Int) (x1'':Int) (x1''':Int):Walks (runPure (kf69 Go.Proofs.Try.prog).orc Go.Proofs.Try.prog 400 68 as68 rs68 (((x0_,x0_',x0_'',x0_''',x0_'''',x0_''''',x0_'''''',(x0_'''''''_,x0_'''''''_',()),()),()),(x1,x1',x1'',x1''',()),())) (t68 x0_ x0_' x0_'' x0_''' x0_'''' x0_''''' x0_'''''' x0_'''''''_ x0_'''''''_' x1 x1' x1'' x1''') [([true,true,true,true,true],[2,4,1,1,6,8,10]),([true,true,true,true,false,true],[2,4,6,1,1,8,10,12]),([true,true,false,true,true,true,true],[2,4,6,8,10,12,14]),([true,true,false,true,true,true,false,true],[2,4,6,8,10,12,14,16]),([true,true,false,true,false,true,true],[2,4,6,8,10,12,14]),([true,true,false,true,false,true,false,true],[2,4,6,8,10,12,14,16])] :=
  ⟨by kernel_rfl,by kernel_rfl,by kernel_rfl,by kernel_rfl,by kernel_rfl,by kernel_rfl,trivial⟩

theorem ok68_t (x0_:Int) (x0_':Int) (x0_'':Int) (x0_''':Int) (x0_'''':Int) (x0_''''':Bool) (x0_'''''':Int) (x0_'''''''_:Int) (x0_'''''''_':Int) (x1:Int) (x1':Int) (x1'':Int) (x1''':Int):TrOk (PureRuns Go.Proofs.Try.prog (kf69 Go.Proofs.Try.prog).orc 68 as68 rs68 (((x0_,x0_',x0_'',x0_''',x0_'''',x0_''''',x0_'''''',(x0_'''''''_,x0_'''''''_',()),()),()),(x1,x1',x1'',x1''',()),())) (t68 x0_ x0_' x0_'' x0_''' x0_'''' x0_''''' x0_'''''' x0_'''''''_ x0_'''''''_' x1 x1' x1'' x1''') :=
  Walks.ok (fun _ _ _=>PureRuns.of) (wk68 x0_ x0_' x0_'' x0_''' x0_'''' x0_''''' x0_'''''' x0_'''''''_ x0_'''''''_' x1 x1' x1'' x1''') (by kernel_rfl)

theorem ok68:PureOk Go.Proofs.Try.prog 68 p68:=pureOk_of kf69_ok.base (T:=fun (d:Tys.data as68)=>t68 d.1.1.1 d.1.1.2.1 d.1.1.2.2.1 d.1.1.2.2.2.1 d.1.1.2.2.2.2.1 d.1.1.2.2.2.2.2.1 d.1.1.2.2.2.2.2.2.1 d.1.1.2.2.2.2.2.2.2.1.1 d.1.1.2.2.2.2.2.2.2.1.2.1 d.2.1.1 d.2.1.2.1 d.2.1.2.2.1 d.2.1.2.2.2.1) (by kernel_rfl) (fun (d:Tys.data as68)=>ok68_t d.1.1.1 d.1.1.2.1 d.1.1.2.2.1 d.1.1.2.2.2.1 d.1.1.2.2.2.2.1 d.1.1.2.2.2.2.2.1 d.1.1.2.2.2.2.2.2.1 d.1.1.2.2.2.2.2.2.2.1.1 d.1.1.2.2.2.2.2.2.2.1.2.1 d.2.1.1 d.2.1.2.1 d.2.1.2.2.1 d.2.1.2.2.2.1)
def kf68 (P:Go.Program):Known:=(kf69 P).func 68 p68
theorem kf68_ok:KnownOk Go.Proofs.Try.prog (kf68 Go.Proofs.Try.prog):=kf69_ok.func ok68

/-! ductility/hybrid.NextOf -/

abbrev as15:List Ty:=[(.pair (.int .i64) (.pair (.int .i64) (.pair (.int .i64) (.pair (.int .i64) (.pair (.int .i64) (.pair .bool (.pair (.int .i64) (.pair (.pair (.int .i64) (.pair (.int .i64) .unit)) .unit)))))))),(.slice (.int .i64)),(.int .i64)]
abbrev rs15:List Ty:=[(.slice (.int .i64)),(.int .i64)]

def t15 (x0:Int) (x0':Int) (x0'':Int) (x0''':Int) (x0'''':Int) (x0''''':Bool) (x0'''''':Int) (x0'''''''_:Int) (x0'''''''_':Int) (x1:(List Int)) (x2:Int):Tr (Tys.data rs15) :=
  Tr.test (Option.isSome (f57 (x0'''''''_,(x0'''''''_',(([x2]:List Int),())))))
    (Tr.test (Option.isSome (f11 ((x0,(x0',(x0'',(x0''',(x0'''',(x0''''',(x0'''''',((x0'''''''_,(x0'''''''_',())),())))))))),(x1,()))))
      (let r0:=g57 (x0'''''''_,(x0'''''''_',(([x2]:List Int),())));
      Tr.test (Option.isSome (f60 ((!r0.1:Bool),((6:Int),()))))
        (let r1:=g11 ((x0,(x0',(x0'',(x0''',(x0'''',(x0''''',(x0'''''',((x0'''''''_,(x0'''''''_',())),())))))))),(x1,()));
        let r2:=g60 ((!r0.1:Bool),((6:Int),()));
        Tr.test (Option.isSome (f59 (([r1.1,r2.1]:List Int),())))
          (let r3:=g59 (([r1.1,r2.1]:List Int),());
          Tr.test ((!eqF r3.1 0:Bool))
            (Tr.fin ((([]:List Int),(r3.1,()))))
            (Tr.test (Option.isSome (f64 (x1,())))
              (let r4:=g64 (x1,());
              Tr.test (Option.isSome (f66 (((x0,(x0',(x0'',(x0''',(x0'''',(x0''''',(x0'''''',((x0'''''''_,(x0'''''''_',())),())))))))),()),((r4.1.1,(r4.1.2.1,(r4.1.2.2.1,(r4.1.2.2.2.1,())))),(x2,())))))
                (let r5:=g66 (((x0,(x0',(x0'',(x0''',(x0'''',(x0''''',(x0'''''',((x0'''''''_,(x0'''''''_',())),())))))))),()),((r4.1.1,(r4.1.2.1,(r4.1.2.2.1,(r4.1.2.2.2.1,())))),(x2,())));
                Tr.test (Option.isSome (f67 (((x0,(x0',(x0'',(x0''',(x0'''',(x0''''',(x0'''''',((x0'''''''_,(x0'''''''_',())),())))))))),()),(r5.1,()))))
                  (let r6:=g67 (((x0,(x0',(x0'',(x0''',(x0'''',(x0''''',(x0'''''',((x0'''''''_,(x0'''''''_',())),())))))))),()),(r5.1,()));
                  Tr.test (r6.1)
                    (Tr.fin ((([]:List Int),((22:Int),()))))
                    (Tr.test (Option.isSome (f69 (((x0,(x0',(x0'',(x0''',(x0'''',(x0''''',(x0'''''',((x0'''''''_,(x0'''''''_',())),())))))))),()),((r4.1.1,(r4.1.2.1,(r4.1.2.2.1,(r4.1.2.2.2.1,())))),(r5.1,())))))
                      (let r7:=g69 (((x0,(x0',(x0'',(x0''',(x0'''',(x0''''',(x0'''''',((x0'''''''_,(x0'''''''_',())),())))))))),()),((r4.1.1,(r4.1.2.1,(r4.1.2.2.1,(r4.1.2.2.2.1,())))),(r5.1,())));
                      Tr.test (Option.isSome (f68 (((x0,(x0',(x0'',(x0''',(x0'''',(x0''''',(x0'''''',((x0'''''''_,(x0'''''''_',())),())))))))),()),((r7.1.1,(r7.1.2.1,(r7.1.2.2.1,(r7.1.2.2.2.1,())))),()))))
                        (let r8:=g68 (((x0,(x0',(x0'',(x0''',(x0'''',(x0''''',(x0'''''',((x0'''''''_,(x0'''''''_',())),())))))))),()),((r7.1.1,(r7.1.2.1,(r7.1.2.2.1,(r7.1.2.2.2.1,())))),()));
                        Tr.fin ((r8.1,((0:Int),()))))
                        (Tr.stop))
                      (Tr.stop)))
                  (Tr.stop))
                (Tr.stop))
              (Tr.stop)))
          (Tr.stop))
        (Tr.stop))
      (Tr.stop))
    (Tr.stop)

def f15 (d:Tys.data as15):Option (Tys.data rs15):=(t15 d.1.1 d.1.2.1 d.1.2.2.1 d.1.2.2.2.1 d.1.2.2.2.2.1 d.1.2.2.2.2.2.1 d.1.2.2.2.2.2.2.1 d.1.2.2.2.2.2.2.2.1.1 d.1.2.2.2.2.2.2.2.1.2.1 d.2.1 d.2.2.1).val
def g15 (d:Tys.data as15):Tys.data rs15:=(f15 d).getD (Tys.dflt rs15)
def p15:PureC:=pcOf as15 rs15 f15 g15

theorem wk15 (x0:Int) (x0':Int) (x0'':Int) (x0''':Int) (x0'''':Int) (x0''''':Bool) (x0'''''':Int) (x0'''''''_:Int) (x0'''''''_':Int) (x1:(List Int)) (x2:Int):Walks (runPure (kf68 Go.Proofs.Try.prog).orc Go.Proofs.Try.prog 400 15 as15 rs15 ((x0,x0',x0'',x0''',x0'''',x0''''',x0'''''',(x0'''''''_,x0'''''''_',()),()),x1,x2,())) (t15 x0 x0' x0'' x0''' x0'''' x0''''' x0'''''' x0'''''''_ x0'''''''_' x1 x2) [([true,true,true,true,true],[2,4,6,8,10]),([true,true,true,true,false,true,true,true,true],[2,4,6,8,10,12,14,16,18]),([true,true,true,true,false,true,true,true,false,true,true],[2,4,6,8,10,12,14,16,18,20,22])] :=
  ⟨by kernel_rfl,by kernel_rfl,by kernel_rfl,trivial⟩

theorem ok15_t (x0:Int) (x0':Int) (x0'':Int) (x0''':Int) (x0'''':Int) (x0''''':Bool) (x0'''''':Int) (x0'''''''_:Int) (x0'''''''_':Int) (x1:(List Int)) (x2:Int):TrOk (PureRuns Go.Proofs.Try.prog (kf68 Go.Proofs.Try.prog).orc 15 as15 rs15 ((x0,x0',x0'',x0''',x0'''',x0''''',x0'''''',(x0'''''''_,x0'''''''_',()),()),x1,x2,())) (t15 x0 x0' x0'' x0''' x0'''' x0''''' x0'''''' x0'''''''_ x0'''''''_' x1 x2) :=
  Walks.ok (fun _ _ _=>PureRuns.of) (wk15 x0 x0' x0'' x0''' x0'''' x0''''' x0'''''' x0'''''''_ x0'''''''_' x1 x2) (by kernel_rfl)

theorem ok15:PureOk Go.Proofs.Try.prog 15 p15:=pureOk_of kf68_ok.base (T:=fun (d:Tys.data as15)=>t15 d.1.1 d.1.2.1 d.1.2.2.1 d.1.2.2.2.1 d.1.2.2.2.2.1 d.1.2.2.2.2.2.1 d.1.2.2.2.2.2.2.1 d.1.2.2.2.2.2.2.2.1.1 d.1.2.2.2.2.2.2.2.1.2.1 d.2.1 d.2.2.1) (by kernel_rfl) (fun (d:Tys.data as15)=>ok15_t d.1.1 d.1.2.1 d.1.2.2.1 d.1.2.2.2.1 d.1.2.2.2.2.1 d.1.2.2.2.2.2.1 d.1.2.2.2.2.2.2.1 d.1.2.2.2.2.2.2.2.1.1 d.1.2.2.2.2.2.2.2.1.2.1 d.2.1 d.2.2.1)
def kf15 (P:Go.Program):Known:=(kf68 P).func 15 p15
theorem kf15_ok:KnownOk Go.Proofs.Try.prog (kf15 Go.Proofs.Try.prog):=kf68_ok.func ok15

/-! ductility/hybrid.WholeOf -/

abbrev as16:List Ty:=[(.pair (.int .i64) (.pair (.int .i64) (.pair (.int .i64) (.pair (.int .i64) (.pair (.int .i64) (.pair .bool (.pair (.int .i64) (.pair (.pair (.int .i64) (.pair (.int .i64) .unit)) .unit))))))))]
abbrev rs16:List Ty:=[(.pair (.int .i64) (.pair (.int .i64) (.pair (.int .i64) (.pair (.int .i64) (.pair (.int .i64) (.pair .bool (.pair (.int .i64) (.pair (.pair (.int .i64) (.pair (.int .i64) .unit)) .unit)))))))),(.int .i64)]

def t16 (x0:Int) (x0':Int) (x0'':Int) (x0''':Int) (x0'''':Int) (x0''''':Bool) (x0'''''':Int) (x0'''''''_:Int) (x0'''''''_':Int):Tr (Tys.data rs16) :=
  Tr.test (Option.isSome (f10 ((x0,(x0',(x0'',(x0''',(x0'''',(x0''''',(x0'''''',((x0'''''''_,(x0'''''''_',())),())))))))),())))
    (Tr.test (Option.isSome (f60 (!leF (wrap64 (x0'' + x0''')) (1000:Int),((8:Int),()))))
      (let r0:=g10 ((x0,(x0',(x0'',(x0''',(x0'''',(x0''''',(x0'''''',((x0'''''''_,(x0'''''''_',())),())))))))),());
      let r1:=g60 ((!leF (wrap64 (x0'' + x0''')) (1000:Int):Bool),((8:Int),()));
      Tr.test (Option.isSome (f59 (([r0.1,r1.1]:List Int),())))
        (let r2:=g59 (([r0.1,r1.1]:List Int),());
        Tr.test ((!eqF r2.1 0:Bool))
          (Tr.fin ((((0:Int),((0:Int),((0:Int),((0:Int),((0:Int),((false:Bool),((0:Int),(((0:Int),((0:Int),())),())))))))),(r2.1,()))))
          (Tr.fin (((x0,(x0',((wrap64 (x0'' + x0'''):Int),((0:Int),((0:Int),(x0''''',(x0'''''',((x0'''''''_,(x0'''''''_',())),())))))))),((0:Int),())))))
        (Tr.stop))
      (Tr.stop))
    (Tr.stop)

def f16 (d:Tys.data as16):Option (Tys.data rs16):=(t16 d.1.1 d.1.2.1 d.1.2.2.1 d.1.2.2.2.1 d.1.2.2.2.2.1 d.1.2.2.2.2.2.1 d.1.2.2.2.2.2.2.1 d.1.2.2.2.2.2.2.2.1.1 d.1.2.2.2.2.2.2.2.1.2.1).val
def g16 (d:Tys.data as16):Tys.data rs16:=(f16 d).getD (Tys.dflt rs16)
def p16:PureC:=pcOf as16 rs16 f16 g16

theorem wk16 (x0:Int) (x0':Int) (x0'':Int) (x0''':Int) (x0'''':Int) (x0''''':Bool) (x0'''''':Int) (x0'''''''_:Int) (x0'''''''_':Int):Walks (runPure (kf15 Go.Proofs.Try.prog).orc Go.Proofs.Try.prog 400 16 as16 rs16 ((x0,x0',x0'',x0''',x0'''',x0''''',x0'''''',(x0'''''''_,x0'''''''_',()),()),())) (t16 x0 x0' x0'' x0''' x0'''' x0''''' x0'''''' x0'''''''_ x0'''''''_') [([true,true,true,true],[2,4,6,8]),([true,true,true,false],[2,4,6,8])] :=
  ⟨by kernel_rfl,by kernel_rfl,trivial⟩

theorem ok16_t (x0:Int) (x0':Int) (x0'':Int) (x0''':Int) (x0'''':Int) (x0''''':Bool) (x0'''''':Int) (x0'''''''_:Int) (x0'''''''_':Int):TrOk (PureRuns Go.Proofs.Try.prog (kf15 Go.Proofs.Try.prog).orc 16 as16 rs16 ((x0,x0',x0'',x0''',x0'''',x0''''',x0'''''',(x0'''''''_,x0'''''''_',()),()),())) (t16 x0 x0' x0'' x0''' x0'''' x0''''' x0'''''' x0'''''''_ x0'''''''_') :=
  Walks.ok (fun _ _ _=>PureRuns.of) (wk16 x0 x0' x0'' x0''' x0'''' x0''''' x0'''''' x0'''''''_ x0'''''''_') (by kernel_rfl)

theorem ok16:PureOk Go.Proofs.Try.prog 16 p16:=pureOk_of kf15_ok.base (T:=fun (d:Tys.data as16)=>t16 d.1.1 d.1.2.1 d.1.2.2.1 d.1.2.2.2.1 d.1.2.2.2.2.1 d.1.2.2.2.2.2.1 d.1.2.2.2.2.2.2.1 d.1.2.2.2.2.2.2.2.1.1 d.1.2.2.2.2.2.2.2.1.2.1) (by kernel_rfl) (fun (d:Tys.data as16)=>ok16_t d.1.1 d.1.2.1 d.1.2.2.1 d.1.2.2.2.1 d.1.2.2.2.2.1 d.1.2.2.2.2.2.1 d.1.2.2.2.2.2.2.1 d.1.2.2.2.2.2.2.2.1.1 d.1.2.2.2.2.2.2.2.1.2.1)
def kf16 (P:Go.Program):Known:=(kf15 P).func 16 p16
theorem kf16_ok:KnownOk Go.Proofs.Try.prog (kf16 Go.Proofs.Try.prog):=kf15_ok.func ok16

/-! ductility/ductilitybase.Within -/

abbrev as39:List Ty:=[(.int .i64),(.int .i64),(.int .i64)]
abbrev rs39:List Ty:=[.bool]

def t39 (x0:Int) (x1:Int) (x2:Int):Tr (Tys.data rs39) :=
  Tr.test ((leF x1 x0:Bool))
    (Tr.fin ((leF x0 x2,())))
    (Tr.fin ((false,())))

def f39 (d:Tys.data as39):Option (Tys.data rs39):=(t39 d.1 d.2.1 d.2.2.1).val
def g39 (d:Tys.data as39):Tys.data rs39:=(f39 d).getD (Tys.dflt rs39)
def p39:PureC:=pcOf as39 rs39 f39 g39

theorem wk39 (x0:Int) (x1:Int) (x2:Int):Walks (runPure (kf16 Go.Proofs.Try.prog).orc Go.Proofs.Try.prog 400 39 as39 rs39 (x0,x1,x2,())) (t39 x0 x1 x2) [([tt],[2,2,2,2]),([ff],[2,2,2,2])] :=
  ⟨by kernel_rfl,by kernel_rfl,trivial⟩

theorem ok39_t (x0:Int) (x1:Int) (x2:Int):TrOk (PureRuns Go.Proofs.Try.prog (kf16 Go.Proofs.Try.prog).orc 39 as39 rs39 (x0,x1,x2,())) (t39 x0 x1 x2) :=
  Walks.ok (fun _ _ _=>PureRuns.of) (wk39 x0 x1 x2) (by kernel_rfl)

theorem ok39:PureOk Go.Proofs.Try.prog 39 p39:=pureOk_of kf16_ok.base (T:=fun (d:Tys.data as39)=>t39 d.1 d.2.1 d.2.2.1) (by kernel_rfl) (fun (d:Tys.data as39)=>ok39_t d.1 d.2.1 d.2.2.1)
def kf39 (P:Go.Program):Known:=(kf16 P).func 39 p39
theorem kf39_ok:KnownOk Go.Proofs.Try.prog (kf39 Go.Proofs.Try.prog):=kf16_ok.func ok39

/-! ductility/ductilityref08.TestErr -/

abbrev as17:List Ty:=[(.pair (.int .i64) (.pair (.int .i64) (.pair (.int .i64) (.pair (.int .i64) (.pair (.int .i64) (.pair .bool (.pair (.int .i64) (.pair (.pair (.int .i64) (.pair (.int .i64) .unit)) .unit))))))))]
abbrev rs17:List Ty:=[(.int .i64)]

def t17 (x0:Int) (x0':Int) (x0'':Int) (x0''':Int) (x0'''':Int) (x0''''':Bool) (x0'''''':Int) (x0'''''''_:Int) (x0'''''''_':Int):Tr (Tys.data rs17) :=
  Tr.test (Option.isSome (f39 (x0,((1:Int),((1000:Int),())))))
    (let r0:=g39 (x0,((1:Int),((1000:Int),())));
    Tr.test ((!r0.1:Bool))
      (Tr.fin (((2:Int),())))
      (Tr.test (Option.isSome (f39 (x0',((0:Int),((1000:Int),())))))
        (let r1:=g39 (x0',((0:Int),((1000:Int),())));
        Tr.test ((!r1.1:Bool))
          (Tr.fin (((2:Int),())))
          (Tr.test (Option.isSome (f39 (x0'',((0:Int),((1000:Int),())))))
            (let r2:=g39 (x0'',((0:Int),((1000:Int),())));
            Tr.test ((!r2.1:Bool))
              (Tr.fin (((2:Int),())))
              (Tr.test (Option.isSome (f39 (x0''',((0:Int),((1000:Int),())))))
                (let r3:=g39 (x0''',((0:Int),((1000:Int),())));
                Tr.test ((!r3.1:Bool))
                  (Tr.fin (((2:Int),())))
                  (Tr.test (Option.isSome (f39 (x0'''',((0:Int),((2:Int),())))))
                    (let r4:=g39 (x0'''',((0:Int),((2:Int),())));
                    Tr.test ((!r4.1:Bool))
                      (Tr.fin (((2:Int),())))
                      (Tr.test (Option.isSome (f39 (x0'''''',((0:Int),((3:Int),())))))
                        (let r5:=g39 (x0'''''',((0:Int),((3:Int),())));
                        Tr.test ((!r5.1:Bool))
                          (Tr.fin (((2:Int),())))
                          (Tr.test (Option.isSome (f39 (x0'''''''_,((-1000:Int),((1000:Int),())))))
                            (let r6:=g39 (x0'''''''_,((-1000:Int),((1000:Int),())));
                            Tr.test ((!r6.1:Bool))
                              (Tr.fin (((2:Int),())))
                              (Tr.test (Option.isSome (f39 (x0'''''''_',((-1000:Int),((1000:Int),())))))
                                (let r7:=g39 (x0'''''''_',((-1000:Int),((1000:Int),())));
                                Tr.test ((!r7.1:Bool))
                                  (Tr.fin (((2:Int),())))
                                  (Tr.test ((!leF x0'''''''_ x0'''''''_':Bool))
                                    (Tr.fin (((9:Int),())))
                                    (Tr.test ((leF (9:Int) (wrap64 (x0'''''''_' - x0'''''''_)):Bool))
                                      (Tr.fin (((8:Int),())))
                                      (Tr.fin (((0:Int),()))))))
                                (Tr.stop)))
                            (Tr.stop)))
                        (Tr.stop)))
                    (Tr.stop)))
                (Tr.stop)))
            (Tr.stop)))
        (Tr.stop)))
    (Tr.stop)

def f17 (d:Tys.data as17):Option (Tys.data rs17):=(t17 d.1.1 d.1.2.1 d.1.2.2.1 d.1.2.2.2.1 d.1.2.2.2.2.1 d.1.2.2.2.2.2.1 d.1.2.2.2.2.2.2.1 d.1.2.2.2.2.2.2.2.1.1 d.1.2.2.2.2.2.2.2.1.2.1).val
def g17 (d:Tys.data as17):Tys.data rs17:=(f17 d).getD (Tys.dflt rs17)
def p17:PureC:=pcOf as17 rs17 f17 g17

theorem wk17 (x0:Int) (x0':Int) (x0'':Int) (x0''':Int) (x0'''':Int) (x0''''':Bool) (x0'''''':Int) (x0'''''''_:Int) (x0'''''''_':Int):Walks (runPure (kf39 Go.Proofs.Try.prog).orc Go.Proofs.Try.prog 400 17 as17 rs17 ((x0,x0',x0'',x0''',x0'''',x0''''',x0'''''',(x0'''''''_,x0'''''''_',()),()),())) (t17 x0 x0' x0'' x0''' x0'''' x0''''' x0'''''' x0'''''''_ x0'''''''_') [([true,true],[1,1,1,1,1,1,1,1,1,1,1,1,1,1,1,1,1,1,1,1,1,1,1,1,1,1,1,1,1,1,1,1,1,1,1,1,1,1,1,1,1,2,2,2,2,2,2,4]),([true,false,true,true],[1,1,1,1,1,1,1,1,1,1,1,1,1,1,1,1,1,1,1,1,1,1,1,1,1,1,1,1,1,1,1,1,1,1,1,2,2,2,2,2,2,6,6,4,6,6,6,6,8]),([true,false,true,false,true,true],[1,1,1,1,1,1,1,1,1,1,1,1,1,1,1,1,1,1,1,1,1,1,1,1,1,1,1,1,1,2,2,2,2,2,2,6,6,4,6,6,6,6,10,10,8,10,10,10,10,12]),([true,false,true,false,true,false,true,true],[1,1,1,1,1,1,1,1,1,1,1,1,1,1,1,1,1,1,1,1,1,1,1,1,2,2,2,2,2,6,6,4,6,6,6,6,10,10,8,10,10,10,10,14,14,12,14,14,14,14,16]),([true,false,true,false,true,false,true,false,true,true],[1,1,1,1,1,1,1,1,1,1,1,1,1,1,1,1,1,1,1,2,2,2,2,2,6,6,4,6,6,6,10,10,8,10,10,10,10,14,14,12,14,14,14,14,18,18,16,18,18,18,18,20]),([true,false,true,false,true,false,true,false,true,false,true,true],[1,1,1,1,1,1,1,1,1,1,2,2,2,2,2,2,2,2,2,6,6,4,6,6,6,10,10,8,10,10,10,14,14,12,14,14,14,14,18,18,16,18,18,18,18,22,22,20,22,22,22,22,24]),([true,false,true,false,true,false,true,false,true,false,true,false,true,true],[1,2,2,2,2,2,2,2,2,2,6,6,4,6,6,6,6,6,6,6,10,10,8,10,10,10,14,14,12,14,14,14,18,18,16,18,18,18,18,22,22,20,22,22,22,22,26,26,24,26,26,26,26,28]),([true,false,true,false,true,false,true,false,true,false,true,false,true,false,true,true],[2,6,6,4,6,6,6,6,6,6,6,10,10,8,10,10,10,10,10,10,10,14,14,12,14,14,14,18,18,16,18,18,18,22,22,20,22,22,22,22,26,26,24,26,26,26,26,30,30,28,30,30,30,30,32]),([true,false,true,false,true,false,true,false,true,false,true,false,true,false,true,false,true],[2,4,8,8,6,8,8,8,8,8,8,8,12,12,10,12,12,12,12,12,12,12,16,16,14,16,16,16,20,20,18,20,20,20,24,24,22,24,24,24,24,28,28,26,28,28,28,28,32,32,30,32,32,32,32,34]),([true,false,true,false,true,false,true,false,true,false,true,false,true,false,true,false,false,true],[2,4,6,10,10,8,10,10,10,10,10,10,10,14,14,12,14,14,14,14,14,14,14,18,18,16,18,18,18,22,22,20,22,22,22,26,26,24,26,26,26,26,30,30,28,30,30,30,30,34,34,32,34,34,34,34,36]),([true,false,true,false,true,false,true,false,true,false,true,false,true,false,true,false,false,false],[2,4,6,10,10,8,10,10,10,10,10,10,10,14,14,12,14,14,14,14,14,14,14,18,18,16,18,18,18,22,22,20,22,22,22,26,26,24,26,26,26,26,30,30,28,30,30,30,30,34,34,32,34,34,34,34,36])] :=
  ⟨by kernel_rfl,by kernel_rfl,by kernel_rfl,by kernel_rfl,by kernel_rfl,by kernel_rfl,by kernel_rfl,by kernel_rfl,by kernel_rfl,by kernel_rfl,by kernel_rfl,trivial⟩

theorem ok17_t (x0:Int) (x0':Int) (x0'':Int) (x0''':Int) (x0'''':Int) (x0''''':Bool) (x0'''''':Int) (x0'''''''_:Int) (x0'''''''_':Int):TrOk (PureRuns Go.Proofs.Try.prog (kf39 Go.Proofs.Try.prog).orc 17 as17 rs17 ((x0,x0',x0'',x0''',x0'''',x0''''',x0'''''',(x0'''''''_,x0'''''''_',()),()),())) (t17 x0 x0' x0'' x0''' x0'''' x0''''' x0'''''' x0'''''''_ x0'''''''_') :=
  Walks.ok (fun _ _ _=>PureRuns.of) (wk17 x0 x0' x0'' x0''' x0'''' x0''''' x0'''''' x0'''''''_ x0'''''''_') (by kernel_rfl)

theorem ok17:PureOk Go.Proofs.Try.prog 17 p17:=pureOk_of kf39_ok.base (T:=fun (d:Tys.data as17)=>t17 d.1.1 d.1.2.1 d.1.2.2.1 d.1.2.2.2.1 d.1.2.2.2.2.1 d.1.2.2.2.2.2.1 d.1.2.2.2.2.2.2.1 d.1.2.2.2.2.2.2.2.1.1 d.1.2.2.2.2.2.2.2.1.2.1) (by kernel_rfl) (fun (d:Tys.data as17)=>ok17_t d.1.1 d.1.2.1 d.1.2.2.1 d.1.2.2.2.1 d.1.2.2.2.2.1 d.1.2.2.2.2.2.1 d.1.2.2.2.2.2.2.1 d.1.2.2.2.2.2.2.2.1.1 d.1.2.2.2.2.2.2.2.1.2.1)
def kf17 (P:Go.Program):Known:=(kf39 P).func 17 p17
theorem kf17_ok:KnownOk Go.Proofs.Try.prog (kf17 Go.Proofs.Try.prog):=kf39_ok.func ok17

/-! ductility/ductilityref08.WholeErr -/

abbrev as18:List Ty:=[(.pair (.int .i64) (.pair (.int .i64) (.pair (.int .i64) (.pair (.int .i64) (.pair (.int .i64) (.pair .bool (.pair (.int .i64) (.pair (.pair (.int .i64) (.pair (.int .i64) .unit)) .unit))))))))]
abbrev rs18:List Ty:=[(.int .i64)]

def t18 (x0:Int) (x0':Int) (x0'':Int) (x0''':Int) (x0'''':Int) (x0''''':Bool) (x0'''''':Int) (x0'''''''_:Int) (x0'''''''_':Int):Tr (Tys.data rs18) :=
  Tr.test (Option.isSome (f17 ((x0,(x0',(x0'',(x0''',(x0'''',(x0''''',(x0'''''',((x0'''''''_,(x0'''''''_',())),())))))))),())))
    (let r0:=g17 ((x0,(x0',(x0'',(x0''',(x0'''',(x0''''',(x0'''''',((x0'''''''_,(x0'''''''_',())),())))))))),());
    Tr.test ((!eqF r0.1 0:Bool))
      (Tr.fin ((r0.1,())))
      (Tr.test ((!leF (wrap64 (x0'' + x0''')) (1000:Int):Bool))
        (Tr.fin (((8:Int),())))
        (Tr.fin (((0:Int),())))))
    (Tr.stop)

def f18 (d:Tys.data as18):Option (Tys.data rs18):=(t18 d.1.1 d.1.2.1 d.1.2.2.1 d.1.2.2.2.1 d.1.2.2.2.2.1 d.1.2.2.2.2.2.1 d.1.2.2.2.2.2.2.1 d.1.2.2.2.2.2.2.2.1.1 d.1.2.2.2.2.2.2.2.1.2.1).val
def g18 (d:Tys.data as18):Tys.data rs18:=(f18 d).getD (Tys.dflt rs18)
def p18:PureC:=pcOf as18 rs18 f18 g18

theorem wk18 (x0:Int) (x0':Int) (x0'':Int) (x0''':Int) (x0'''':Int) (x0''''':Bool) (x0'''''':Int) (x0'''''''_:Int) (x0'''''''_':Int):Walks (runPure (kf17 Go.Proofs.Try.prog).orc Go.Proofs.Try.prog 400 18 as18 rs18 ((x0,x0',x0'',x0''',x0'''',x0''''',x0'''''',(x0'''''''_,x0'''''''_',()),()),())) (t18 x0 x0' x0'' x0''' x0'''' x0''''' x0'''''' x0'''''''_ x0'''''''_') [([true,true],[2,4]),([true,false,true],[2,4,6]),([true,false,false],[2,4,6])] :=
  ⟨by kernel_rfl,by kernel_rfl,by kernel_rfl,trivial⟩

theorem ok18_t (x0:Int) (x0':Int) (x0'':Int) (x0''':Int) (x0'''':Int) (x0''''':Bool) (x0'''''':Int) (x0'''''''_:Int) (x0'''''''_':Int):TrOk (PureRuns Go.Proofs.Try.prog (kf17 Go.Proofs.Try.prog).orc 18 as18 rs18 ((x0,x0',x0'',x0''',x0'''',x0''''',x0'''''',(x0'''''''_,x0'''''''_',()),()),())) (t18 x0 x0' x0'' x0''' x0'''' x0''''' x0'''''' x0'''''''_ x0'''''''_') :=
  Walks.ok (fun _ _ _=>PureRuns.of) (wk18 x0 x0' x0'' x0''' x0'''' x0''''' x0'''''' x0'''''''_ x0'''''''_') (by kernel_rfl)

theorem ok18:PureOk Go.Proofs.Try.prog 18 p18:=pureOk_of kf17_ok.base (T:=fun (d:Tys.data as18)=>t18 d.1.1 d.1.2.1 d.1.2.2.1 d.1.2.2.2.1 d.1.2.2.2.2.1 d.1.2.2.2.2.2.1 d.1.2.2.2.2.2.2.1 d.1.2.2.2.2.2.2.2.1.1 d.1.2.2.2.2.2.2.2.1.2.1) (by kernel_rfl) (fun (d:Tys.data as18)=>ok18_t d.1.1 d.1.2.1 d.1.2.2.1 d.1.2.2.2.1 d.1.2.2.2.2.1 d.1.2.2.2.2.2.1 d.1.2.2.2.2.2.2.1 d.1.2.2.2.2.2.2.2.1.1 d.1.2.2.2.2.2.2.2.1.2.1)
def kf18 (P:Go.Program):Known:=(kf17 P).func 18 p18
theorem kf18_ok:KnownOk Go.Proofs.Try.prog (kf18 Go.Proofs.Try.prog):=kf17_ok.func ok18

/-! ductility/ductilityref08.Whole -/

abbrev as19:List Ty:=[(.pair (.int .i64) (.pair (.int .i64) (.pair (.int .i64) (.pair (.int .i64) (.pair (.int .i64) (.pair .bool (.pair (.int .i64) (.pair (.pair (.int .i64) (.pair (.int .i64) .unit)) .unit))))))))]
abbrev rs19:List Ty:=[(.pair (.int .i64) (.pair (.int .i64) (.pair (.int .i64) (.pair (.int .i64) (.pair (.int .i64) (.pair .bool (.pair (.int .i64) (.pair (.pair (.int .i64) (.pair (.int .i64) .unit)) .unit))))))))]

def t19 (x0:Int) (x0':Int) (x0'':Int) (x0''':Int) (x0'''':Int) (x0''''':Bool) (x0'''''':Int) (x0'''''''_:Int) (x0'''''''_':Int):Tr (Tys.data rs19) :=
  Tr.fin (((x0,(x0',((wrap64 (x0'' + x0'''):Int),((0:Int),((0:Int),(x0''''',(x0'''''',((x0'''''''_,(x0'''''''_',())),())))))))),()))

def f19 (d:Tys.data as19):Option (Tys.data rs19):=(t19 d.1.1 d.1.2.1 d.1.2.2.1 d.1.2.2.2.1 d.1.2.2.2.2.1 d.1.2.2.2.2.2.1 d.1.2.2.2.2.2.2.1 d.1.2.2.2.2.2.2.2.1.1 d.1.2.2.2.2.2.2.2.1.2.1).val
def g19 (d:Tys.data as19):Tys.data rs19:=(f19 d).getD (Tys.dflt rs19)
def p19:PureC:=pcOf as19 rs19 f19 g19

theorem wk19 (x0:Int) (x0':Int) (x0'':Int) (x0''':Int) (x0'''':Int) (x0''''':Bool) (x0'''''':Int) (x0'''''''_:Int) (x0'''''''_':Int):Walks (runPure (kf18 Go.Proofs.Try.prog).orc Go.Proofs.Try.prog 400 19 as19 rs19 ((x0,x0',x0'',x0''',x0'''',x0''''',x0'''''',(x0'''''''_,x0'''''''_',()),()),())) (t19 x0 x0' x0'' x0''' x0'''' x0''''' x0'''''' x0'''''''_ x0'''''''_') [([],[])] :=
  ⟨by kernel_rfl,trivial⟩

theorem ok19_t (x0:Int) (x0':Int) (x0'':Int) (x0''':Int) (x0'''':Int) (x0''''':Bool) (x0'''''':Int) (x0'''''''_:Int) (x0'''''''_':Int):TrOk (PureRuns Go.Proofs.Try.prog (kf18 Go.Proofs.Try.prog).orc 19 as19 rs19 ((x0,x0',x0'',x0''',x0'''',x0''''',x0'''''',(x0'''''''_,x0'''''''_',()),()),())) (t19 x0 x0' x0'' x0''' x0'''' x0''''' x0'''''' x0'''''''_ x0'''''''_') :=
  Walks.ok (fun _ _ _=>PureRuns.of) (wk19 x0 x0' x0'' x0''' x0'''' x0''''' x0'''''' x0'''''''_ x0'''''''_') (by kernel_rfl)

theorem ok19:PureOk Go.Proofs.Try.prog 19 p19:=pureOk_of kf18_ok.base (T:=fun (d:Tys.data as19)=>t19 d.1.1 d.1.2.1 d.1.2.2.1 d.1.2.2.2.1 d.1.2.2.2.2.1 d.1.2.2.2.2.2.1 d.1.2.2.2.2.2.2.1 d.1.2.2.2.2.2.2.2.1.1 d.1.2.2.2.2.2.2.2.1.2.1) (by kernel_rfl) (fun (d:Tys.data as19)=>ok19_t d.1.1 d.1.2.1 d.1.2.2.1 d.1.2.2.2.1 d.1.2.2.2.2.1 d.1.2.2.2.2.2.1 d.1.2.2.2.2.2.2.1 d.1.2.2.2.2.2.2.2.1.1 d.1.2.2.2.2.2.2.2.1.2.1)
def kf19 (P:Go.Program):Known:=(kf18 P).func 19 p19
theorem kf19_ok:KnownOk Go.Proofs.Try.prog (kf19 Go.Proofs.Try.prog):=kf18_ok.func ok19

/-! loop 0 of ductility/ductilityref08.StateErr -/

abbrev sh20_0:Sh:={ n:=29,slots:=[1,2,5],pats:=[.ty (.slice (.int .i64)),.ptr 0 9 0,.ty (.int .i64)],boxes:=[.row [.ty (.int .i64),.ty (.int .i64),.ty (.int .i64),.ty (.int .i64),.ty (.int .i64),.ty .bool,.ty (.int .i64),.ty (.int .i64),.ty (.int .i64)]] }
abbrev shb20_0:Sh:={ n:=29,slots:=[],pats:=[],boxes:=[.row [.ty (.int .i64),.ty (.int .i64),.ty (.int .i64),.ty (.int .i64),.ty (.int .i64),.ty .bool,.ty (.int .i64),.ty (.int .i64),.ty (.int .i64)]] }
abbrev shr20_0:Sh:={ n:=29,slots:=[4],pats:=[.ty (.int .i64)],boxes:=[.row [.ty (.int .i64),.ty (.int .i64),.ty (.int .i64),.ty (.int .i64),.ty (.int .i64),.ty .bool,.ty (.int .i64),.ty (.int .i64),.ty (.int .i64)]] }

def t20_0 (x0:(List Int)) (x2:Int) (b0_0:Int) (b0_1:Int) (b0_2:Int) (b0_3:Int) (b0_4:Int) (b0_5:Bool) (b0_6:Int) (b0_7:Int) (b0_8:Int):Tr (Out sh20_0.data shb20_0.data shr20_0.data) :=
  Tr.test ((!leF (↑(List.length x0):Int) x2:Bool))
    (Tr.test (decide ((0:Int) ≤ x2) && decide (x2 < (↑(List.length x0):Int)))
      (Tr.test (Option.isSome (f39 ((List.getD x0 (Int.toNat x2) (0:Int):Int),((Go.IntKind.wrap Go.IntKind.i64 ((0:Int) - b0_6):Int),(b0_6,())))))
        (let r0:=g39 ((List.getD x0 (Int.toNat x2) (0:Int):Int),((Go.IntKind.wrap Go.IntKind.i64 ((0:Int) - b0_6):Int),(b0_6,())));
        Tr.test ((!r0.1:Bool))
          (Tr.fin (.ret (((2:Int),()),((b0_0,(b0_1,(b0_2,(b0_3,(b0_4,(b0_5,(b0_6,(b0_7,(b0_8,()))))))))),()))))
          (Tr.fin (.again ((x0,((wrap64 (x2 + (1:Int)):Int),())),((b0_0,(b0_1,(b0_2,(b0_3,(b0_4,(b0_5,(b0_6,(b0_7,(b0_8,()))))))))),())))))
        (Tr.stop))
      (Tr.stop))
    (Tr.fin (.brk ((),((b0_0,(b0_1,(b0_2,(b0_3,(b0_4,(b0_5,(b0_6,(b0_7,(b0_8,()))))))))),()))))

def s20_0 (d:sh20_0.data):Option (Out sh20_0.data shb20_0.data shr20_0.data):=(t20_0 d.1.1 d.1.2.1 d.2.1.1 d.2.1.2.1 d.2.1.2.2.1 d.2.1.2.2.2.1 d.2.1.2.2.2.2.1 d.2.1.2.2.2.2.2.1 d.2.1.2.2.2.2.2.2.1 d.2.1.2.2.2.2.2.2.2.1 d.2.1.2.2.2.2.2.2.2.2.1).val
def l20_0 (d:sh20_0.data):Option (shb20_0.data ⊕ shr20_0.data):=itr s20_0 rounds d
def b20_0 (d:sh20_0.data):shb20_0.data:=outB shb20_0.dflt (l20_0 d)
def r20_0 (d:sh20_0.data):shr20_0.data:=outR shr20_0.dflt (l20_0 d)
def lc20_0:LoopC:=lcOf sh20_0 shb20_0 shr20_0 l20_0 b20_0 r20_0

theorem wk20_0 (x0:(List Int)) (x2:Int) (b0_0:Int) (b0_1:Int) (b0_2:Int) (b0_3:Int) (b0_4:Int) (b0_5:Bool) (b0_6:Int) (b0_7:Int) (b0_8:Int):Walks (runBody (kf19 Go.Proofs.Try.prog).orc Go.Proofs.Try.prog 400 20 0 sh20_0 shb20_0 shr20_0 ((x0,x2,()),(b0_0,b0_1,b0_2,b0_3,b0_4,b0_5,b0_6,b0_7,b0_8,()),())) (t20_0 x0 x2 b0_0 b0_1 b0_2 b0_3 b0_4 b0_5 b0_6 b0_7 b0_8) [([true,true,true,true],[2,4,6,8]),([true,true,true,false],[2,4,6,8]),([ff],[2])] :=
  ⟨by kernel_rfl,by kernel_rfl,by kernel_rfl,trivial⟩

theorem ok20_0_t (x0:(List Int)) (x2:Int) (b0_0:Int) (b0_1:Int) (b0_2:Int) (b0_3:Int) (b0_4:Int) (b0_5:Bool) (b0_6:Int) (b0_7:Int) (b0_8:Int):TrOk (BodyRuns Go.Proofs.Try.prog (kf19 Go.Proofs.Try.prog).orc 20 0 sh20_0 shb20_0 shr20_0 ((x0,x2,()),(b0_0,b0_1,b0_2,b0_3,b0_4,b0_5,b0_6,b0_7,b0_8,()),())) (t20_0 x0 x2 b0_0 b0_1 b0_2 b0_3 b0_4 b0_5 b0_6 b0_7 b0_8) :=
  Walks.ok (fun _ _ _=>BodyRuns.of) (wk20_0 x0 x2 b0_0 b0_1 b0_2 b0_3 b0_4 b0_5 b0_6 b0_7 b0_8) (by kernel_rfl)

theorem ok20_0:LoopOk Go.Proofs.Try.prog 20 0 lc20_0:=loopOk_of (sh:=sh20_0) (shB:=shb20_0) (shR:=shr20_0) kf19_ok.base (T:=fun (d:sh20_0.data)=>t20_0 d.1.1 d.1.2.1 d.2.1.1 d.2.1.2.1 d.2.1.2.2.1 d.2.1.2.2.2.1 d.2.1.2.2.2.2.1 d.2.1.2.2.2.2.2.1 d.2.1.2.2.2.2.2.2.1 d.2.1.2.2.2.2.2.2.2.1 d.2.1.2.2.2.2.2.2.2.2.1) (by kernel_rfl) rfl (fun (d:sh20_0.data)=>ok20_0_t d.1.1 d.1.2.1 d.2.1.1 d.2.1.2.1 d.2.1.2.2.1 d.2.1.2.2.2.1 d.2.1.2.2.2.2.1 d.2.1.2.2.2.2.2.1 d.2.1.2.2.2.2.2.2.1 d.2.1.2.2.2.2.2.2.2.1 d.2.1.2.2.2.2.2.2.2.2.1) (fun _=>rfl)
def kl20_0 (P:Go.Program):Known:=(kf19 P).loop 20 0 lc20_0
theorem kl20_0_ok:KnownOk Go.Proofs.Try.prog (kl20_0 Go.Proofs.Try.prog):=kf19_ok.loop ok20_0

/-! ductility/ductilityref08.StateErr -/

abbrev as20:List Ty:=[(.pair (.int .i64) (.pair (.int .i64) (.pair (.int .i64) (.pair (.int .i64) (.pair (.int .i64) (.pair .bool (.pair (.int .i64) (.pair (.pair (.int .i64) (.pair (.int .i64) .unit)) .unit)))))))),(.slice (.int .i64))]
abbrev rs20:List Ty:=[(.int .i64)]

def t20 (x0:Int) (x0':Int) (x0'':Int) (x0''':Int) (x0'''':Int) (x0''''':Bool) (x0'''''':Int) (x0'''''''_:Int) (x0'''''''_':Int) (x1:(List Int)):Tr (Tys.data rs20) :=
  Tr.test ((!eqF (↑(List.length x1):Int) (wrap64 (x0'''' + (2:Int))):Bool))
    (Tr.fin (((10:Int),())))
    (Tr.test (Option.isSome (l20_0 ((x1,((0:Int),())),((x0,(x0',(x0'',(x0''',(x0'''',(x0''''',(x0'''''',(x0'''''''_,(x0'''''''_',()))))))))),()))))
      (Tr.test (isRet (l20_0 ((x1,((0:Int),())),((x0,(x0',(x0'',(x0''',(x0'''',(x0''''',(x0'''''',(x0'''''''_,(x0'''''''_',()))))))))),()))))
        (let r0:=r20_0 ((x1,((0:Int),())),((x0,(x0',(x0'',(x0''',(x0'''',(x0''''',(x0'''''',(x0'''''''_,(x0'''''''_',()))))))))),()));
        Tr.fin ((r0.1.1,())))
        (Tr.fin (((0:Int),()))))
      (Tr.stop))

def f20 (d:Tys.data as20):Option (Tys.data rs20):=(t20 d.1.1 d.1.2.1 d.1.2.2.1 d.1.2.2.2.1 d.1.2.2.2.2.1 d.1.2.2.2.2.2.1 d.1.2.2.2.2.2.2.1 d.1.2.2.2.2.2.2.2.1.1 d.1.2.2.2.2.2.2.2.1.2.1 d.2.1).val
def g20 (d:Tys.data as20):Tys.data rs20:=(f20 d).getD (Tys.dflt rs20)
def p20:PureC:=pcOf as20 rs20 f20 g20

theorem wk20 (x0:Int) (x0':Int) (x0'':Int) (x0''':Int) (x0'''':Int) (x0''''':Bool) (x0'''''':Int) (x0'''''''_:Int) (x0'''''''_':Int) (x1:(List Int)):Walks (runPure (kl20_0 Go.Proofs.Try.prog).orc Go.Proofs.Try.prog 400 20 as20 rs20 ((x0,x0',x0'',x0''',x0'''',x0''''',x0'''''',(x0'''''''_,x0'''''''_',()),()),x1,())) (t20 x0 x0' x0'' x0''' x0'''' x0''''' x0'''''' x0'''''''_ x0'''''''_' x1) [([tt],[2]),([false,true,true],[2,4,6]),([false,true,false],[2,4,6])] :=
  ⟨by kernel_rfl,by kernel_rfl,by kernel_rfl,trivial⟩

theorem ok20_t (x0:Int) (x0':Int) (x0'':Int) (x0''':Int) (x0'''':Int) (x0''''':Bool) (x0'''''':Int) (x0'''''''_:Int) (x0'''''''_':Int) (x1:(List Int)):TrOk (PureRuns Go.Proofs.Try.prog (kl20_0 Go.Proofs.Try.prog).orc 20 as20 rs20 ((x0,x0',x0'',x0''',x0'''',x0''''',x0'''''',(x0'''''''_,x0'''''''_',()),()),x1,())) (t20 x0 x0' x0'' x0''' x0'''' x0''''' x0'''''' x0'''''''_ x0'''''''_' x1) :=
  Walks.ok (fun _ _ _=>PureRuns.of) (wk20 x0 x0' x0'' x0''' x0'''' x0''''' x0'''''' x0'''''''_ x0'''''''_' x1) (by kernel_rfl)

theorem ok20:PureOk Go.Proofs.Try.prog 20 p20:=pureOk_of kl20_0_ok.base (T:=fun (d:Tys.data as20)=>t20 d.1.1 d.1.2.1 d.1.2.2.1 d.1.2.2.2.1 d.1.2.2.2.2.1 d.1.2.2.2.2.2.1 d.1.2.2.2.2.2.2.1 d.1.2.2.2.2.2.2.2.1.1 d.1.2.2.2.2.2.2.2.1.2.1 d.2.1) (by kernel_rfl) (fun (d:Tys.data as20)=>ok20_t d.1.1 d.1.2.1 d.1.2.2.1 d.1.2.2.2.1 d.1.2.2.2.2.1 d.1.2.2.2.2.2.1 d.1.2.2.2.2.2.2.1 d.1.2.2.2.2.2.2.2.1.1 d.1.2.2.2.2.2.2.2.1.2.1 d.2.1)
def kf20 (P:Go.Program):Known:=(kl20_0 P).func 20 p20
theorem kf20_ok:KnownOk Go.Proofs.Try.prog (kf20 Go.Proofs.Try.prog):=kl20_0_ok.func ok20

/-! ductility/ductilityref08.Command -/

abbrev as22:List Ty:=[(.pair (.int .i64) (.pair (.int .i64) (.pair (.int .i64) (.pair (.int .i64) (.pair (.int .i64) (.pair .bool (.pair (.int .i64) (.pair (.pair (.int .i64) (.pair (.int .i64) .unit)) .unit)))))))),(.slice (.int .i64)),(.int .i64)]
abbrev rs22:List Ty:=[(.int .i64)]

def t22 (x0:Int) (x0':Int) (x0'':Int) (x0''':Int) (x0'''':Int) (x0''''':Bool) (x0'''''':Int) (x0'''''''_:Int) (x0'''''''_':Int) (x1:(List Int)) (x2:Int):Tr (Tys.data rs22) :=
  Tr.test ((!x0''''':Bool))
    (Tr.test (decide ((0:Int) ≤ x2) && decide (x2 < (↑(List.length x1):Int)))
      (Tr.fin (((List.getD x1 (Int.toNat x2) (0:Int):Int),())))
      (Tr.stop))
    (Tr.test (decide ((0:Int) ≤ x2) && decide (x2 < (↑(List.length x1):Int)))
      (Tr.test ((decide ((0:Int) ≤ wrap64 (x2 + (1:Int))) && decide (wrap64 (x2 + (1:Int)) < (↑(List.length x1):Int)):Bool))
        (Tr.fin (((wrap64 (List.getD x1 (Int.toNat x2) (0:Int) + wrap64 (x0'''' * wrap64 (List.getD x1 (Int.toNat x2) (0:Int) - List.getD x1 (Int.toNat (wrap64 (x2 + (1:Int)))) (0:Int)))):Int),())))
        (Tr.stop))
      (Tr.stop))

def f22 (d:Tys.data as22):Option (Tys.data rs22):=(t22 d.1.1 d.1.2.1 d.1.2.2.1 d.1.2.2.2.1 d.1.2.2.2.2.1 d.1.2.2.2.2.2.1 d.1.2.2.2.2.2.2.1 d.1.2.2.2.2.2.2.2.1.1 d.1.2.2.2.2.2.2.2.1.2.1 d.2.1 d.2.2.1).val
def g22 (d:Tys.data as22):Tys.data rs22:=(f22 d).getD (Tys.dflt rs22)
def p22:PureC:=pcOf as22 rs22 f22 g22

theorem wk22 (x0:Int) (x0':Int) (x0'':Int) (x0''':Int) (x0'''':Int) (x0''''':Bool) (x0'''''':Int) (x0'''''''_:Int) (x0'''''''_':Int) (x1:(List Int)) (x2:Int):Walks (runPure (kf20 Go.Proofs.Try.prog).orc Go.Proofs.Try.prog 400 22 as22 rs22 ((x0,x0',x0'',x0''',x0'''',x0''''',x0'''''',(x0'''''''_,x0'''''''_',()),()),x1,x2,())) (t22 x0 x0' x0'' x0''' x0'''' x0''''' x0'''''' x0'''''''_ x0'''''''_' x1 x2) [([true,true],[2,4]),([false,true,true],[2,4,4,6])] :=
  ⟨by kernel_rfl,by kernel_rfl,trivial⟩

theorem ok22_t (x0:Int) (x0':Int) (x0'':Int) (x0''':Int) (x0'''':Int) (x0''''':Bool) (x0'''''':Int) (x0'''''''_:Int) (x0'''''''_':Int) (x1:(List Int)) (x2:Int):TrOk (PureRuns Go.Proofs.Try.prog (kf20 Go.Proofs.Try.prog).orc 22 as22 rs22 ((x0,x0',x0'',x0''',x0'''',x0''''',x0'''''',(x0'''''''_,x0'''''''_',()),()),x1,x2,())) (t22 x0 x0' x0'' x0''' x0'''' x0''''' x0'''''' x0'''''''_ x0'''''''_' x1 x2) :=
  Walks.ok (fun _ _ _=>PureRuns.of) (wk22 x0 x0' x0'' x0''' x0'''' x0''''' x0'''''' x0'''''''_ x0'''''''_' x1 x2) (by kernel_rfl)

theorem ok22:PureOk Go.Proofs.Try.prog 22 p22:=pureOk_of kf20_ok.base (T:=fun (d:Tys.data as22)=>t22 d.1.1 d.1.2.1 d.1.2.2.1 d.1.2.2.2.1 d.1.2.2.2.2.1 d.1.2.2.2.2.2.1 d.1.2.2.2.2.2.2.1 d.1.2.2.2.2.2.2.2.1.1 d.1.2.2.2.2.2.2.2.1.2.1 d.2.1 d.2.2.1) (by kernel_rfl) (fun (d:Tys.data as22)=>ok22_t d.1.1 d.1.2.1 d.1.2.2.1 d.1.2.2.2.1 d.1.2.2.2.2.1 d.1.2.2.2.2.2.1 d.1.2.2.2.2.2.2.1 d.1.2.2.2.2.2.2.2.1.1 d.1.2.2.2.2.2.2.2.1.2.1 d.2.1 d.2.2.1)
def kf22 (P:Go.Program):Known:=(kf20 P).func 22 p22
theorem kf22_ok:KnownOk Go.Proofs.Try.prog (kf22 Go.Proofs.Try.prog):=kf20_ok.func ok22

/-! ductility/ductilityref08.Actuators -/

abbrev as23:List Ty:=[(.pair (.int .i64) (.pair (.int .i64) (.pair (.int .i64) (.pair (.int .i64) (.pair (.int .i64) (.pair .bool (.pair (.int .i64) (.pair (.pair (.int .i64) (.pair (.int .i64) .unit)) .unit)))))))),(.slice (.int .i64))]
abbrev rs23:List Ty:=[(.int .i64)]

def t23 (x0:Int) (x0':Int) (x0'':Int) (x0''':Int) (x0'''':Int) (x0''''':Bool) (x0'''''':Int) (x0'''''''_:Int) (x0'''''''_':Int) (x1:(List Int)):Tr (Tys.data rs23) :=
  Tr.test (Option.isSome (f22 ((x0,(x0',(x0'',(x0''',(x0'''',(x0''''',(x0'''''',((x0'''''''_,(x0'''''''_',())),())))))))),(x1,(x0'''',())))))
    (let r0:=g22 ((x0,(x0',(x0'',(x0''',(x0'''',(x0''''',(x0'''''',((x0'''''''_,(x0'''''''_',())),())))))))),(x1,(x0'''',())));
    Tr.fin ((r0.1,())))
    (Tr.stop)

def f23 (d:Tys.data as23):Option (Tys.data rs23):=(t23 d.1.1 d.1.2.1 d.1.2.2.1 d.1.2.2.2.1 d.1.2.2.2.2.1 d.1.2.2.2.2.2.1 d.1.2.2.2.2.2.2.1 d.1.2.2.2.2.2.2.2.1.1 d.1.2.2.2.2.2.2.2.1.2.1 d.2.1).val
def g23 (d:Tys.data as23):Tys.data rs23:=(f23 d).getD (Tys.dflt rs23)
def p23:PureC:=pcOf as23 rs23 f23 g23

theorem wk23 (x0:Int) (x0':Int) (x0'':Int) (x0''':Int) (x0'''':Int) (x0''''':Bool) (x0'''''':Int) (x0'''''''_:Int) (x0'''''''_':Int) (x1:(List Int)):Walks (runPure (kf22 Go.Proofs.Try.prog).orc Go.Proofs.Try.prog 400 23 as23 rs23 ((x0,x0',x0'',x0''',x0'''',x0''''',x0'''''',(x0'''''''_,x0'''''''_',()),()),x1,())) (t23 x0 x0' x0'' x0''' x0'''' x0''''' x0'''''' x0'''''''_ x0'''''''_' x1) [([tt],[2])] :=
  ⟨by kernel_rfl,trivial⟩

theorem ok23_t (x0:Int) (x0':Int) (x0'':Int) (x0''':Int) (x0'''':Int) (x0''''':Bool) (x0'''''':Int) (x0'''''''_:Int) (x0'''''''_':Int) (x1:(List Int)):TrOk (PureRuns Go.Proofs.Try.prog (kf22 Go.Proofs.Try.prog).orc 23 as23 rs23 ((x0,x0',x0'',x0''',x0'''',x0''''',x0'''''',(x0'''''''_,x0'''''''_',()),()),x1,())) (t23 x0 x0' x0'' x0''' x0'''' x0''''' x0'''''' x0'''''''_ x0'''''''_' x1) :=
  Walks.ok (fun _ _ _=>PureRuns.of) (wk23 x0 x0' x0'' x0''' x0'''' x0''''' x0'''''' x0'''''''_ x0'''''''_' x1) (by kernel_rfl)

theorem ok23:PureOk Go.Proofs.Try.prog 23 p23:=pureOk_of kf22_ok.base (T:=fun (d:Tys.data as23)=>t23 d.1.1 d.1.2.1 d.1.2.2.1 d.1.2.2.2.1 d.1.2.2.2.2.1 d.1.2.2.2.2.2.1 d.1.2.2.2.2.2.2.1 d.1.2.2.2.2.2.2.2.1.1 d.1.2.2.2.2.2.2.2.1.2.1 d.2.1) (by kernel_rfl) (fun (d:Tys.data as23)=>ok23_t d.1.1 d.1.2.1 d.1.2.2.1 d.1.2.2.2.1 d.1.2.2.2.2.1 d.1.2.2.2.2.2.1 d.1.2.2.2.2.2.2.1 d.1.2.2.2.2.2.2.2.1.1 d.1.2.2.2.2.2.2.2.1.2.1 d.2.1)
def kf23 (P:Go.Program):Known:=(kf22 P).func 23 p23
theorem kf23_ok:KnownOk Go.Proofs.Try.prog (kf23 Go.Proofs.Try.prog):=kf22_ok.func ok23

/-! ductility/ductilitybase.Floor -/

abbrev as96:List Ty:=[(.int .i64),(.int .i64)]
abbrev rs96:List Ty:=[(.int .i64)]

def t96 (x0:Int) (x1:Int):Tr (Tys.data rs96) :=
  Tr.test ((x1 == (0:Int):Bool))
    (Tr.stop)
    (Tr.test (!leF (0:Int) (Int.tmod x0 x1))
      (Tr.fin (((wrap64 (Go.IntKind.wrap Go.IntKind.i64 (Int.tdiv x0 x1) - (1:Int)):Int),())))
      (Tr.fin (((Go.IntKind.wrap Go.IntKind.i64 (Int.tdiv x0 x1):Int),()))))

def f96 (d:Tys.data as96):Option (Tys.data rs96):=(t96 d.1 d.2.1).val
def g96 (d:Tys.data as96):Tys.data rs96:=(f96 d).getD (Tys.dflt rs96)
def p96:PureC:=pcOf as96 rs96 f96 g96

theorem wk96 (x0:Int) (x1:Int):Walks (runPure (kf23 Go.Proofs.Try.prog).orc Go.Proofs.Try.prog 400 96 as96 rs96 (x0,x1,())) (t96 x0 x1) [([false,true],[2,4,4]),([false,false],[2,4,4])] :=
  ⟨by kernel_rfl,by kernel_rfl,trivial⟩

theorem ok96_t (x0:Int) (x1:Int):TrOk (PureRuns Go.Proofs.Try.prog (kf23 Go.Proofs.Try.prog).orc 96 as96 rs96 (x0,x1,())) (t96 x0 x1) :=
  Walks.ok (fun _ _ _=>PureRuns.of) (wk96 x0 x1) (by kernel_rfl)

theorem ok96:PureOk Go.Proofs.Try.prog 96 p96:=pureOk_of kf23_ok.base (T:=fun (d:Tys.data as96)=>t96 d.1 d.2.1) (by kernel_rfl) (fun (d:Tys.data as96)=>ok96_t d.1 d.2.1)
def kf96 (P:Go.Program):Known:=(kf23 P).func 96 p96
theorem kf96_ok:KnownOk Go.Proofs.Try.prog (kf96 Go.Proofs.Try.prog):=kf23_ok.func ok96

/-! ductility/ductilityref08.Next -/

abbrev as70:List Ty:=[(.pair (.int .i64) (.pair (.int .i64) (.pair (.int .i64) (.pair (.int .i64) (.pair (.int .i64) (.pair .bool (.pair (.int .i64) (.pair (.pair (.int .i64) (.pair (.int .i64) .unit)) .unit)))))))),(.slice (.int .i64)),(.int .i64)]
abbrev rs70:List Ty:=[(.slice (.int .i64)),.bool]

def t70 (x0:Int) (x0':Int) (x0'':Int) (x0''':Int) (x0'''':Int) (x0''''':Bool) (x0'''''':Int) (x0'''''''_:Int) (x0'''''''_':Int) (x1:(List Int)) (x2:Int):Tr (Tys.data rs70) :=
  Tr.test ((true && decide ((0:Int) < (↑(List.length x1):Int)):Bool))
    (Tr.test (true && decide ((1:Int) < (↑(List.length x1):Int)))
      (Tr.test (Option.isSome (f23 ((x0,(x0',(x0'',(x0''',(x0'''',(x0''''',(x0'''''',((x0'''''''_,(x0'''''''_',())),())))))))),(x1,()))))
        (let r0:=g23 ((x0,(x0',(x0'',(x0''',(x0'''',(x0''''',(x0'''''',((x0'''''''_,(x0'''''''_',())),())))))))),(x1,()));
        Tr.test (Option.isSome (f96 ((wrap64 (wrap64 (wrap64 (x2 - wrap64 (x0' * wrap64 (List.getD x1 (0:Nat) (0:Int) - List.getD x1 (1:Nat) (0:Int)))) - wrap64 (x0'' * List.getD x1 (0:Nat) (0:Int))) - wrap64 (x0''' * r0.1)):Int),(x0,()))))
          (Tr.test ((decide ((0:Int) ≤ wrap64 ((↑(List.length x1):Int) - (1:Int))) && decide (wrap64 ((↑(List.length x1):Int) - (1:Int)) ≤ (↑(List.length x1):Int)):Bool))
            (Tr.test ((Nat.beq (List.length (List.take (Int.toNat (wrap64 ((↑(List.length x1):Int) - (1:Int)))) x1)) (0:Nat):Bool))
              (let r1:=g96 ((wrap64 (wrap64 (wrap64 (x2 - wrap64 (x0' * wrap64 (List.getD x1 (0:Nat) (0:Int) - List.getD x1 (1:Nat) (0:Int)))) - wrap64 (x0'' * List.getD x1 (0:Nat) (0:Int))) - wrap64 (x0''' * r0.1)):Int),(x0,()));
              Tr.test (Option.isSome (f39 ((wrap64 (wrap64 (wrap64 ((2:Int) * List.getD x1 (0:Nat) (0:Int)) - List.getD x1 (1:Nat) (0:Int)) + r1.1):Int),((Go.IntKind.wrap Go.IntKind.i64 ((0:Int) - x0''''''):Int),(x0'''''',())))))
                (let r2:=g39 ((wrap64 (wrap64 (wrap64 ((2:Int) * List.getD x1 (0:Nat) (0:Int)) - List.getD x1 (1:Nat) (0:Int)) + r1.1):Int),((Go.IntKind.wrap Go.IntKind.i64 ((0:Int) - x0''''''):Int),(x0'''''',())));
                Tr.fin ((([wrap64 (wrap64 (wrap64 ((2:Int) * List.getD x1 (0:Nat) (0:Int)) - List.getD x1 (1:Nat) (0:Int)) + r1.1)]:List Int),(r2.1,()))))
                (Tr.stop))
              (Tr.test ((Nat.ble (((2:Nat) * ((1:Nat) + List.length (List.take (Int.toNat (wrap64 ((↑(List.length x1):Int) - (1:Int)))) x1)) + (192:Nat)) * (8:Nat)) (281474976710656:Nat) && Nat.ble ((1:Nat) + List.length (List.take (Int.toNat (wrap64 ((↑(List.length x1):Int) - (1:Int)))) x1)) (281474976710656:Nat):Bool))
                (let r1:=g96 ((wrap64 (wrap64 (wrap64 (x2 - wrap64 (x0' * wrap64 (List.getD x1 (0:Nat) (0:Int) - List.getD x1 (1:Nat) (0:Int)))) - wrap64 (x0'' * List.getD x1 (0:Nat) (0:Int))) - wrap64 (x0''' * r0.1)):Int),(x0,()));
                Tr.test (Option.isSome (f39 ((wrap64 (wrap64 (wrap64 ((2:Int) * List.getD x1 (0:Nat) (0:Int)) - List.getD x1 (1:Nat) (0:Int)) + r1.1):Int),((Go.IntKind.wrap Go.IntKind.i64 ((0:Int) - x0''''''):Int),(x0'''''',())))))
                  (let r2:=g39 ((wrap64 (wrap64 (wrap64 ((2:Int) * List.getD x1 (0:Nat) (0:Int)) - List.getD x1 (1:Nat) (0:Int)) + r1.1):Int),((Go.IntKind.wrap Go.IntKind.i64 ((0:Int) - x0''''''):Int),(x0'''''',())));
                  Tr.fin ((([wrap64 (wrap64 (wrap64 ((2:Int) * List.getD x1 (0:Nat) (0:Int)) - List.getD x1 (1:Nat) (0:Int)) + r1.1)]++List.take (Int.toNat (wrap64 ((↑(List.length x1):Int) - (1:Int)))) x1:List Int),(r2.1,()))))
                  (Tr.stop))
                (Tr.stop)))
            (Tr.stop))
          (Tr.stop))
        (Tr.stop))
      (Tr.stop))
    (Tr.stop)

def f70 (d:Tys.data as70):Option (Tys.data rs70):=(t70 d.1.1 d.1.2.1 d.1.2.2.1 d.1.2.2.2.1 d.1.2.2.2.2.1 d.1.2.2.2.2.2.1 d.1.2.2.2.2.2.2.1 d.1.2.2.2.2.2.2.2.1.1 d.1.2.2.2.2.2.2.2.1.2.1 d.2.1 d.2.2.1).val
def g70 (d:Tys.data as70):Tys.data rs70:=(f70 d).getD (Tys.dflt rs70)
def p70:PureC:=pcOf as70 rs70 f70 g70

theorem wk70 (x0:Int) (x0':Int) (x0'':Int) (x0''':Int) (x0'''':Int) (x0''''':Bool) (x0'''''':Int) (x0'''''''_:Int) (x0'''''''_':Int) (x1:(List Int)) (x2:Int):Walks (runPure (kf96 Go.Proofs.Try.prog).orc Go.Proofs.Try.prog 400 70 as70 rs70 ((x0,x0',x0'',x0''',x0'''',x0''''',x0'''''',(x0'''''''_,x0'''''''_',()),()),x1,x2,())) (t70 x0 x0' x0'' x0''' x0'''' x0''''' x0'''''' x0'''''''_ x0'''''''_' x1 x2) [([true,true,true,true,true,true,true],[2,4,6,8,12,14,10,14,12,14]),([true,true,true,true,true,false,true,true],[2,4,6,8,10,14,16,12,16,14,16])] :=
  ⟨by kernel_rfl,by kernel_rfl,trivial⟩

theorem ok70_t (x0:Int) (x0':Int) (x0'':Int) (x0''':Int) (x0'''':Int) (x0''''':Bool) (x0'''''':Int) (x0'''''''_:Int) (x0'''''''_':Int) (x1:(List Int)) (x2:Int):TrOk (PureRuns Go.Proofs.Try.prog (kf96 Go.Proofs.Try.prog).orc 70 as70 rs70 ((x0,x0',x0'',x0''',x0'''',x0''''',x0'''''',(x0'''''''_,x0'''''''_',()),()),x1,x2,())) (t70 x0 x0' x0'' x0''' x0'''' x0''''' x0'''''' x0'''''''_ x0'''''''_' x1 x2) :=
  Walks.ok (fun _ _ _=>PureRuns.of) (wk70 x0 x0' x0'' x0''' x0'''' x0''''' x0'''''' x0'''''''_ x0'''''''_' x1 x2) (by kernel_rfl)

theorem ok70:PureOk Go.Proofs.Try.prog 70 p70:=pureOk_of kf96_ok.base (T:=fun (d:Tys.data as70)=>t70 d.1.1 d.1.2.1 d.1.2.2.1 d.1.2.2.2.1 d.1.2.2.2.2.1 d.1.2.2.2.2.2.1 d.1.2.2.2.2.2.2.1 d.1.2.2.2.2.2.2.2.1.1 d.1.2.2.2.2.2.2.2.1.2.1 d.2.1 d.2.2.1) (by kernel_rfl) (fun (d:Tys.data as70)=>ok70_t d.1.1 d.1.2.1 d.1.2.2.1 d.1.2.2.2.1 d.1.2.2.2.2.1 d.1.2.2.2.2.2.1 d.1.2.2.2.2.2.2.1 d.1.2.2.2.2.2.2.2.1.1 d.1.2.2.2.2.2.2.2.1.2.1 d.2.1 d.2.2.1)
def kf70 (P:Go.Program):Known:=(kf96 P).func 70 p70
theorem kf70_ok:KnownOk Go.Proofs.Try.prog (kf70 Go.Proofs.Try.prog):=kf96_ok.func ok70

/-! ductility/ductilityref08.NextErr -/

abbrev as21:List Ty:=[(.pair (.int .i64) (.pair (.int .i64) (.pair (.int .i64) (.pair (.int .i64) (.pair (.int .i64) (.pair .bool (.pair (.int .i64) (.pair (.pair (.int .i64) (.pair (.int .i64) .unit)) .unit)))))))),(.slice (.int .i64)),(.int .i64)]
abbrev rs21:List Ty:=[(.slice (.int .i64)),(.int .i64)]

def t21 (x0:Int) (x0':Int) (x0'':Int) (x0''':Int) (x0'''':Int) (x0''''':Bool) (x0'''''':Int) (x0'''''''_:Int) (x0'''''''_':Int) (x1:(List Int)) (x2:Int):Tr (Tys.data rs21) :=
  Tr.test (Option.isSome (f39 (x2,(x0'''''''_,(x0'''''''_',())))))
    (let r0:=g39 (x2,(x0'''''''_,(x0'''''''_',())));
    Tr.test ((!r0.1:Bool))
      (Tr.fin ((([]:List Int),((6:Int),()))))
      (Tr.test (Option.isSome (f70 ((x0,(x0',(x0'',(x0''',(x0'''',(x0''''',(x0'''''',((x0'''''''_,(x0'''''''_',())),())))))))),(x1,(x2,())))))
        (let r1:=g70 ((x0,(x0',(x0'',(x0''',(x0'''',(x0''''',(x0'''''',((x0'''''''_,(x0'''''''_',())),())))))))),(x1,(x2,())));
        Tr.test ((!r1.2.1:Bool))
          (Tr.fin ((([]:List Int),((22:Int),()))))
          (Tr.fin ((r1.1,((0:Int),())))))
        (Tr.stop)))
    (Tr.stop)

def f21 (d:Tys.data as21):Option (Tys.data rs21):=(t21 d.1.1 d.1.2.1 d.1.2.2.1 d.1.2.2.2.1 d.1.2.2.2.2.1 d.1.2.2.2.2.2.1 d.1.2.2.2.2.2.2.1 d.1.2.2.2.2.2.2.2.1.1 d.1.2.2.2.2.2.2.2.1.2.1 d.2.1 d.2.2.1).val
def g21 (d:Tys.data as21):Tys.data rs21:=(f21 d).getD (Tys.dflt rs21)
def p21:PureC:=pcOf as21 rs21 f21 g21

theorem wk21 (x0:Int) (x0':Int) (x0'':Int) (x0''':Int) (x0'''':Int) (x0''''':Bool) (x0'''''':Int) (x0'''''''_:Int) (x0'''''''_':Int) (x1:(List Int)) (x2:Int):Walks (runPure (kf70 Go.Proofs.Try.prog).orc Go.Proofs.Try.prog 400 21 as21 rs21 ((x0,x0',x0'',x0''',x0'''',x0''''',x0'''''',(x0'''''''_,x0'''''''_',()),()),x1,x2,())) (t21 x0 x0' x0'' x0''' x0'''' x0''''' x0'''''' x0'''''''_ x0'''''''_' x1 x2) [([true,true],[2,4]),([true,false,true,true],[2,4,6,8]),([true,false,true,false],[2,4,6,8])] :=
  ⟨by kernel_rfl,by kernel_rfl,by kernel_rfl,trivial⟩

theorem ok21_t (x0:Int) (x0':Int) (x0'':Int) (x0''':Int) (x0'''':Int) (x0''''':Bool) (x0'''''':Int) (x0'''''''_:Int) (x0'''''''_':Int) (x1:(List Int)) (x2:Int):TrOk (PureRuns Go.Proofs.Try.prog (kf70 Go.Proofs.Try.prog).orc 21 as21 rs21 ((x0,x0',x0'',x0''',x0'''',x0''''',x0'''''',(x0'''''''_,x0'''''''_',()),()),x1,x2,())) (t21 x0 x0' x0'' x0''' x0'''' x0''''' x0'''''' x0'''''''_ x0'''''''_' x1 x2) :=
  Walks.ok (fun _ _ _=>PureRuns.of) (wk21 x0 x0' x0'' x0''' x0'''' x0''''' x0'''''' x0'''''''_ x0'''''''_' x1 x2) (by kernel_rfl)

theorem ok21:PureOk Go.Proofs.Try.prog 21 p21:=pureOk_of kf70_ok.base (T:=fun (d:Tys.data as21)=>t21 d.1.1 d.1.2.1 d.1.2.2.1 d.1.2.2.2.1 d.1.2.2.2.2.1 d.1.2.2.2.2.2.1 d.1.2.2.2.2.2.2.1 d.1.2.2.2.2.2.2.2.1.1 d.1.2.2.2.2.2.2.2.1.2.1 d.2.1 d.2.2.1) (by kernel_rfl) (fun (d:Tys.data as21)=>ok21_t d.1.1 d.1.2.1 d.1.2.2.1 d.1.2.2.2.1 d.1.2.2.2.2.1 d.1.2.2.2.2.2.1 d.1.2.2.2.2.2.2.1 d.1.2.2.2.2.2.2.2.1.1 d.1.2.2.2.2.2.2.2.1.2.1 d.2.1 d.2.2.1)
def kf21 (P:Go.Program):Known:=(kf70 P).func 21 p21
theorem kf21_ok:KnownOk Go.Proofs.Try.prog (kf21 Go.Proofs.Try.prog):=kf70_ok.func ok21

/-! ductility/ductilitylaw08.HybridTests -/

abbrev as3:List Ty:=[(.pair (.int .i64) (.pair (.int .i64) (.pair (.int .i64) (.pair (.int .i64) (.pair (.int .i64) (.pair .bool (.pair (.int .i64) (.pair (.pair (.int .i64) (.pair (.int .i64) .unit)) .unit)))))))),(.slice (.int .i64)),(.int .i64)]
abbrev rs3:List Ty:=[.bool]

def t3 (x0:Int) (x0':Int) (x0'':Int) (x0''':Int) (x0'''':Int) (x0''''':Bool) (x0'''''':Int) (x0'''''''_:Int) (x0'''''''_':Int) (x1:(List Int)) (x2:Int):Tr (Tys.data rs3) :=
  Tr.test ((!leF (↑(List.length x1):Int) (6:Int):Bool))
    (Tr.fin ((true,())))
    (Tr.test (Option.isSome (f10 ((x0,(x0',(x0'',(x0''',(x0'''',(x0''''',(x0'''''',((x0'''''''_,(x0'''''''_',())),())))))))),())))
      (Tr.test (Option.isSome (f12 (x1,())))
        (let r1:=g12 (x1,());
        Tr.test (Option.isSome (f11 ((x0,(x0',(x0'',(x0''',(x0'''',(x0''''',(x0'''''',((x0'''''''_,(x0'''''''_',())),())))))))),(r1.1,()))))
          (Tr.test (Option.isSome (f13 ((x0,(x0',(x0'',(x0''',(x0'''',(x0''''',(x0'''''',((x0'''''''_,(x0'''''''_',())),())))))))),(r1.1,()))))
            (Tr.test (Option.isSome (f14 ((x0,(x0',(x0'',(x0''',(x0'''',(x0''''',(x0'''''',((x0'''''''_,(x0'''''''_',())),())))))))),(r1.1,()))))
              (Tr.test (Option.isSome (f15 ((x0,(x0',(x0'',(x0''',(x0'''',(x0''''',(x0'''''',((x0'''''''_,(x0'''''''_',())),())))))))),(r1.1,(x2,())))))
                (Tr.test (Option.isSome (f16 ((x0,(x0',(x0'',(x0''',(x0'''',(x0''''',(x0'''''',((x0'''''''_,(x0'''''''_',())),())))))))),())))
                  (Tr.test (Option.isSome (f17 ((x0,(x0',(x0'',(x0''',(x0'''',(x0''''',(x0'''''',((x0'''''''_,(x0'''''''_',())),())))))))),())))
                    (let r0:=g10 ((x0,(x0',(x0'',(x0''',(x0'''',(x0''''',(x0'''''',((x0'''''''_,(x0'''''''_',())),())))))))),());
                    let r7:=g17 ((x0,(x0',(x0'',(x0''',(x0'''',(x0''''',(x0'''''',((x0'''''''_,(x0'''''''_',())),())))))))),());
                    Tr.test ((!eqF r0.1 r7.1:Bool))
                      (Tr.fin (((false:Bool),())))
                      (Tr.test (Option.isSome (f18 ((x0,(x0',(x0'',(x0''',(x0'''',(x0''''',(x0'''''',((x0'''''''_,(x0'''''''_',())),())))))))),())))
                        (let r8:=g18 ((x0,(x0',(x0'',(x0''',(x0'''',(x0''''',(x0'''''',((x0'''''''_,(x0'''''''_',())),())))))))),());
                        Tr.test ((!eqF r8.1 0:Bool))
                          (let r6:=g16 ((x0,(x0',(x0'',(x0''',(x0'''',(x0''''',(x0'''''',((x0'''''''_,(x0'''''''_',())),())))))))),());
                          Tr.test ((!eqF r6.2.1 r8.1:Bool))
                            (Tr.fin (((false:Bool),())))
                            (Tr.test ((!(r6.1.1 == (0:Int) && (r6.1.2.1 == (0:Int) && (r6.1.2.2.1 == (0:Int) && (r6.1.2.2.2.1 == (0:Int) && (r6.1.2.2.2.2.1 == (0:Int) && (r6.1.2.2.2.2.2.1 == false && (r6.1.2.2.2.2.2.2.1 == (0:Int) && (r6.1.2.2.2.2.2.2.2.1.1 == (0:Int) && (r6.1.2.2.2.2.2.2.2.1.2.1 == (0:Int) && true) && true)))))))):Bool))
                              (Tr.fin (((false:Bool),())))
                              (Tr.test ((eqF r7.1 0:Bool))
                                (Tr.test (Option.isSome (f20 ((x0,(x0',(x0'',(x0''',(x0'''',(x0''''',(x0'''''',((x0'''''''_,(x0'''''''_',())),())))))))),(x1,()))))
                                  (let r10:=g20 ((x0,(x0',(x0'',(x0''',(x0'''',(x0''''',(x0'''''',((x0'''''''_,(x0'''''''_',())),())))))))),(x1,()));
                                  Tr.test ((!eqF r10.1 0:Bool))
                                    (let r2:=g11 ((x0,(x0',(x0'',(x0''',(x0'''',(x0''''',(x0'''''',((x0'''''''_,(x0'''''''_',())),())))))))),(r1.1,()));
                                    Tr.test ((eqF r2.1 r10.1:Bool))
                                      (let r3:=g13 ((x0,(x0',(x0'',(x0''',(x0'''',(x0''''',(x0'''''',((x0'''''''_,(x0'''''''_',())),())))))))),(r1.1,()));
                                      Tr.test ((eqF r3.2.1 r10.1:Bool))
                                        (let r4:=g14 ((x0,(x0',(x0'',(x0''',(x0'''',(x0''''',(x0'''''',((x0'''''''_,(x0'''''''_',())),())))))))),(r1.1,()));
                                        Tr.test ((eqF r4.2.1 r10.1:Bool))
                                          (let r5:=g15 ((x0,(x0',(x0'',(x0''',(x0'''',(x0''''',(x0'''''',((x0'''''''_,(x0'''''''_',())),())))))))),(r1.1,(x2,())));
                                          Tr.test ((eqF r5.2.1 r10.1:Bool))
                                            (Tr.test ((eqF r3.1 0:Bool))
                                              (Tr.test ((eqF r4.1 0:Bool))
                                                (Tr.fin (((eqF (↑(List.length r5.1):Int) (0:Int):Bool),())))
                                                (Tr.fin (((false:Bool),()))))
                                              (Tr.fin (((false:Bool),()))))
                                            (Tr.fin (((false:Bool),()))))
                                          (Tr.fin (((false:Bool),()))))
                                        (Tr.fin (((false:Bool),()))))
                                      (Tr.fin (((false:Bool),()))))
                                    (Tr.test (Option.isSome (f21 ((x0,(x0',(x0'',(x0''',(x0'''',(x0''''',(x0'''''',((x0'''''''_,(x0'''''''_',())),())))))))),(x1,(x2,())))))
                                      (let r2:=g11 ((x0,(x0',(x0'',(x0''',(x0'''',(x0''''',(x0'''''',((x0'''''''_,(x0'''''''_',())),())))))))),(r1.1,()));
                                      Tr.test ((eqF r2.1 0:Bool))
                                        (let r3:=g13 ((x0,(x0',(x0'',(x0''',(x0'''',(x0''''',(x0'''''',((x0'''''''_,(x0'''''''_',())),())))))))),(r1.1,()));
                                        Tr.test ((eqF r3.2.1 0:Bool))
                                          (Tr.test (Option.isSome (f22 ((x0,(x0',(x0'',(x0''',(x0'''',(x0''''',(x0'''''',((x0'''''''_,(x0'''''''_',())),())))))))),(x1,((0:Int),())))))
                                            (let r12:=g22 ((x0,(x0',(x0'',(x0''',(x0'''',(x0''''',(x0'''''',((x0'''''''_,(x0'''''''_',())),())))))))),(x1,((0:Int),())));
                                            Tr.test ((eqF r3.1 r12.1:Bool))
                                              (let r4:=g14 ((x0,(x0',(x0'',(x0''',(x0'''',(x0''''',(x0'''''',((x0'''''''_,(x0'''''''_',())),())))))))),(r1.1,()));
                                              Tr.test ((eqF r4.2.1 0:Bool))
                                                (Tr.test (Option.isSome (f23 ((x0,(x0',(x0'',(x0''',(x0'''',(x0''''',(x0'''''',((x0'''''''_,(x0'''''''_',())),())))))))),(x1,()))))
                                                  (let r13:=g23 ((x0,(x0',(x0'',(x0''',(x0'''',(x0''''',(x0'''''',((x0'''''''_,(x0'''''''_',())),())))))))),(x1,()));
                                                  Tr.test ((eqF r4.1 r13.1:Bool))
                                                    (let r5:=g15 ((x0,(x0',(x0'',(x0''',(x0'''',(x0''''',(x0'''''',((x0'''''''_,(x0'''''''_',())),())))))))),(r1.1,(x2,())));
                                                    let r11:=g21 ((x0,(x0',(x0'',(x0''',(x0'''',(x0''''',(x0'''''',((x0'''''''_,(x0'''''''_',())),())))))))),(x1,(x2,())));
                                                    Tr.test ((eqF r5.2.1 r11.2.1:Bool))
                                                      (Tr.test (Option.isSome (f24 (r5.1,(r11.1,()))))
                                                        (let r14:=g24 (r5.1,(r11.1,()));
                                                        Tr.fin ((r14.1,())))
                                                        (Tr.stop))
                                                      (Tr.fin (((false:Bool),()))))
                                                    (Tr.fin (((false:Bool),()))))
                                                  (Tr.stop))
                                                (Tr.fin (((false:Bool),()))))
                                              (Tr.fin (((false:Bool),()))))
                                            (Tr.stop))
                                          (Tr.fin (((false:Bool),()))))
                                        (Tr.fin (((false:Bool),()))))
                                      (Tr.stop)))
                                  (Tr.stop))
                                (let r2:=g11 ((x0,(x0',(x0'',(x0''',(x0'''',(x0''''',(x0'''''',((x0'''''''_,(x0'''''''_',())),())))))))),(r1.1,()));
                                Tr.test ((eqF r2.1 r7.1:Bool))
                                  (let r3:=g13 ((x0,(x0',(x0'',(x0''',(x0'''',(x0''''',(x0'''''',((x0'''''''_,(x0'''''''_',())),())))))))),(r1.1,()));
                                  Tr.test ((eqF r3.2.1 r7.1:Bool))
                                    (let r4:=g14 ((x0,(x0',(x0'',(x0''',(x0'''',(x0''''',(x0'''''',((x0'''''''_,(x0'''''''_',())),())))))))),(r1.1,()));
                                    Tr.test ((eqF r4.2.1 r7.1:Bool))
                                      (let r5:=g15 ((x0,(x0',(x0'',(x0''',(x0'''',(x0''''',(x0'''''',((x0'''''''_,(x0'''''''_',())),())))))))),(r1.1,(x2,())));
                                      Tr.test ((eqF r5.2.1 r7.1:Bool))
                                        (Tr.test ((eqF r3.1 0:Bool))
                                          (Tr.test ((eqF r4.1 0:Bool))
                                            (Tr.fin (((eqF (↑(List.length r5.1):Int) (0:Int):Bool),())))
                                            (Tr.fin (((false:Bool),()))))
                                          (Tr.fin (((false:Bool),()))))
                                        (Tr.fin (((false:Bool),()))))
                                      (Tr.fin (((false:Bool),()))))
                                    (Tr.fin (((false:Bool),()))))
                                  (Tr.fin (((false:Bool),())))))))
                          (let r6:=g16 ((x0,(x0',(x0'',(x0''',(x0'''',(x0''''',(x0'''''',((x0'''''''_,(x0'''''''_',())),())))))))),());
                          Tr.test ((!eqF r6.2.1 0:Bool))
                            (Tr.fin (((false:Bool),())))
                            (Tr.test (Option.isSome (f19 ((x0,(x0',(x0'',(x0''',(x0'''',(x0''''',(x0'''''',((x0'''''''_,(x0'''''''_',())),())))))))),())))
                              (let r9:=g19 ((x0,(x0',(x0'',(x0''',(x0'''',(x0''''',(x0'''''',((x0'''''''_,(x0'''''''_',())),())))))))),());
                              Tr.test ((!(r6.1.1 == r9.1.1 && (r6.1.2.1 == r9.1.2.1 && (r6.1.2.2.1 == r9.1.2.2.1 && (r6.1.2.2.2.1 == r9.1.2.2.2.1 && (r6.1.2.2.2.2.1 == r9.1.2.2.2.2.1 && (r6.1.2.2.2.2.2.1 == r9.1.2.2.2.2.2.1 && (r6.1.2.2.2.2.2.2.1 == r9.1.2.2.2.2.2.2.1 && (r6.1.2.2.2.2.2.2.2.1.1 == r9.1.2.2.2.2.2.2.2.1.1 && (r6.1.2.2.2.2.2.2.2.1.2.1 == r9.1.2.2.2.2.2.2.2.1.2.1 && true) && true)))))))):Bool))
                                (Tr.fin (((false:Bool),())))
                                (Tr.test ((eqF r7.1 0:Bool))
                                  (Tr.test (Option.isSome (f20 ((x0,(x0',(x0'',(x0''',(x0'''',(x0''''',(x0'''''',((x0'''''''_,(x0'''''''_',())),())))))))),(x1,()))))
                                    (let r10:=g20 ((x0,(x0',(x0'',(x0''',(x0'''',(x0''''',(x0'''''',((x0'''''''_,(x0'''''''_',())),())))))))),(x1,()));
                                    Tr.test ((!eqF r10.1 0:Bool))
                                      (let r2:=g11 ((x0,(x0',(x0'',(x0''',(x0'''',(x0''''',(x0'''''',((x0'''''''_,(x0'''''''_',())),())))))))),(r1.1,()));
                                      Tr.test ((eqF r2.1 r10.1:Bool))
                                        (let r3:=g13 ((x0,(x0',(x0'',(x0''',(x0'''',(x0''''',(x0'''''',((x0'''''''_,(x0'''''''_',())),())))))))),(r1.1,()));
                                        Tr.test ((eqF r3.2.1 r10.1:Bool))
                                          (let r4:=g14 ((x0,(x0',(x0'',(x0''',(x0'''',(x0''''',(x0'''''',((x0'''''''_,(x0'''''''_',())),())))))))),(r1.1,()));
                                          Tr.test ((eqF r4.2.1 r10.1:Bool))
                                            (let r5:=g15 ((x0,(x0',(x0'',(x0''',(x0'''',(x0''''',(x0'''''',((x0'''''''_,(x0'''''''_',())),())))))))),(r1.1,(x2,())));
                                            Tr.test ((eqF r5.2.1 r10.1:Bool))
                                              (Tr.test ((eqF r3.1 0:Bool))
                                                (Tr.test ((eqF r4.1 0:Bool))
                                                  (Tr.fin (((eqF (↑(List.length r5.1):Int) (0:Int):Bool),())))
                                                  (Tr.fin (((false:Bool),()))))
                                                (Tr.fin (((false:Bool),()))))
                                              (Tr.fin (((false:Bool),()))))
                                            (Tr.fin (((false:Bool),()))))
                                          (Tr.fin (((false:Bool),()))))
                                        (Tr.fin (((false:Bool),()))))
                                      (Tr.test (Option.isSome (f21 ((x0,(x0',(x0'',(x0''',(x0'''',(x0''''',(x0'''''',((x0'''''''_,(x0'''''''_',())),())))))))),(x1,(x2,())))))
                                        (let r2:=g11 ((x0,(x0',(x0'',(x0''',(x0'''',(x0''''',(x0'''''',((x0'''''''_,(x0'''''''_',())),())))))))),(r1.1,()));
                                        Tr.test ((eqF r2.1 0:Bool))
                                          (let r3:=g13 ((x0,(x0',(x0'',(x0''',(x0'''',(x0''''',(x0'''''',((x0'''''''_,(x0'''''''_',())),())))))))),(r1.1,()));
                                          Tr.test ((eqF r3.2.1 0:Bool))
                                            (Tr.test (Option.isSome (f22 ((x0,(x0',(x0'',(x0''',(x0'''',(x0''''',(x0'''''',((x0'''''''_,(x0'''''''_',())),())))))))),(x1,((0:Int),())))))
                                              (let r12:=g22 ((x0,(x0',(x0'',(x0''',(x0'''',(x0''''',(x0'''''',((x0'''''''_,(x0'''''''_',())),())))))))),(x1,((0:Int),())));
                                              Tr.test ((eqF r3.1 r12.1:Bool))
                                                (let r4:=g14 ((x0,(x0',(x0'',(x0''',(x0'''',(x0''''',(x0'''''',((x0'''''''_,(x0'''''''_',())),())))))))),(r1.1,()));
                                                Tr.test ((eqF r4.2.1 0:Bool))
                                                  (Tr.test (Option.isSome (f23 ((x0,(x0',(x0'',(x0''',(x0'''',(x0''''',(x0'''''',((x0'''''''_,(x0'''''''_',())),())))))))),(x1,()))))
                                                    (let r13:=g23 ((x0,(x0',(x0'',(x0''',(x0'''',(x0''''',(x0'''''',((x0'''''''_,(x0'''''''_',())),())))))))),(x1,()));
                                                    Tr.test ((eqF r4.1 r13.1:Bool))
                                                      (let r5:=g15 ((x0,(x0',(x0'',(x0''',(x0'''',(x0''''',(x0'''''',((x0'''''''_,(x0'''''''_',())),())))))))),(r1.1,(x2,())));
                                                      let r11:=g21 ((x0,(x0',(x0'',(x0''',(x0'''',(x0''''',(x0'''''',((x0'''''''_,(x0'''''''_',())),())))))))),(x1,(x2,())));
                                                      Tr.test ((eqF r5.2.1 r11.2.1:Bool))
                                                        (Tr.test (Option.isSome (f24 (r5.1,(r11.1,()))))
                                                          (let r14:=g24 (r5.1,(r11.1,()));
                                                          Tr.fin ((r14.1,())))
                                                          (Tr.stop))
                                                        (Tr.fin (((false:Bool),()))))
                                                      (Tr.fin (((false:Bool),()))))
                                                    (Tr.stop))
                                                  (Tr.fin (((false:Bool),()))))
                                                (Tr.fin (((false:Bool),()))))
                                              (Tr.stop))
                                            (Tr.fin (((false:Bool),()))))
                                          (Tr.fin (((false:Bool),()))))
                                        (Tr.stop)))
                                    (Tr.stop))
                                  (let r2:=g11 ((x0,(x0',(x0'',(x0''',(x0'''',(x0''''',(x0'''''',((x0'''''''_,(x0'''''''_',())),())))))))),(r1.1,()));
                                  Tr.test ((eqF r2.1 r7.1:Bool))
                                    (let r3:=g13 ((x0,(x0',(x0'',(x0''',(x0'''',(x0''''',(x0'''''',((x0'''''''_,(x0'''''''_',())),())))))))),(r1.1,()));
                                    Tr.test ((eqF r3.2.1 r7.1:Bool))
                                      (let r4:=g14 ((x0,(x0',(x0'',(x0''',(x0'''',(x0''''',(x0'''''',((x0'''''''_,(x0'''''''_',())),())))))))),(r1.1,()));
                                      Tr.test ((eqF r4.2.1 r7.1:Bool))
                                        (let r5:=g15 ((x0,(x0',(x0'',(x0''',(x0'''',(x0''''',(x0'''''',((x0'''''''_,(x0'''''''_',())),())))))))),(r1.1,(x2,())));
                                        Tr.test ((eqF r5.2.1 r7.1:Bool))
                                          (Tr.test ((eqF r3.1 0:Bool))
                                            (Tr.test ((eqF r4.1 0:Bool))
                                              (Tr.fin (((eqF (↑(List.length r5.1):Int) (0:Int):Bool),())))
                                              (Tr.fin (((false:Bool),()))))
                                            (Tr.fin (((false:Bool),()))))
                                          (Tr.fin (((false:Bool),()))))
                                        (Tr.fin (((false:Bool),()))))
                                      (Tr.fin (((false:Bool),()))))
                                    (Tr.fin (((false:Bool),()))))))
                              (Tr.stop))))
                        (Tr.stop)))
                    (Tr.stop))
                  (Tr.stop))
                (Tr.stop))
              (Tr.stop))
            (Tr.stop))
          (Tr.stop))
        (Tr.stop))
      (Tr.stop))

def f3 (d:Tys.data as3):Option (Tys.data rs3):=(t3 d.1.1 d.1.2.1 d.1.2.2.1 d.1.2.2.2.1 d.1.2.2.2.2.1 d.1.2.2.2.2.2.1 d.1.2.2.2.2.2.2.1 d.1.2.2.2.2.2.2.2.1.1 d.1.2.2.2.2.2.2.2.1.2.1 d.2.1 d.2.2.1).val
def g3 (d:Tys.data as3):Tys.data rs3:=(f3 d).getD (Tys.dflt rs3)
def p3:PureC:=pcOf as3 rs3 f3 g3

theorem e3_0 (x0:Int) (x0':Int) (x0'':Int) (x0''':Int) (x0'''':Int) (x0''''':Bool) (x0'''''':Int) (x0'''''''_:Int) (x0'''''''_':Int) (x1:(List Int)) (x2:Int):runPure (kf21 Go.Proofs.Try.prog).orc Go.Proofs.Try.prog 400 3 as3 rs3 ((x0,x0',x0'',x0''',x0'''',x0''''',x0'''''',(x0'''''''_,x0'''''''_',()),()),x1,x2,()) [tt,ff,tt] =
    (some ((true,()),[(!leF (↑(List.length x1):Int) (6:Int),true),(false,false),(true,true)])):=by kernel_rfl
theorem e3_1 (x0:Int) (x0':Int) (x0'':Int) (x0''':Int) (x0'''':Int) (x0''''':Bool) (x0'''''':Int) (x0'''''''_:Int) (x0'''''''_':Int) (x1:(List Int)) (x2:Int):runPure (kf21 Go.Proofs.Try.prog).orc Go.Proofs.Try.prog 400 3 as3 rs3 ((x0,x0',x0'',x0''',x0'''',x0''''',x0'''''',(x0'''''''_,x0'''''''_',()),()),x1,x2,()) [tt,ff,ff,tt,tt,tt,tt,tt,tt,tt,tt,tt,tt,tt,tt] =
    (let r1:=g12 (x1,());let r0:=g10 ((x0,(x0',(x0'',(x0''',(x0'''',(x0''''',(x0'''''',((x0'''''''_,(x0'''''''_',())),())))))))),());let r7:=g17 ((x0,(x0',(x0'',(x0''',(x0'''',(x0''''',(x0'''''',((x0'''''''_,(x0'''''''_',())),())))))))),()); some ((false,()),[(!eqF r0.1 r7.1,true),(Option.isSome (f17 ((x0,(x0',(x0'',(x0''',(x0'''',(x0''''',(x0'''''',((x0'''''''_,(x0'''''''_',())),())))))))),())),true),(Option.isSome (f16 ((x0,(x0',(x0'',(x0''',(x0'''',(x0''''',(x0'''''',((x0'''''''_,(x0'''''''_',())),())))))))),())),true),(Option.isSome (f15 ((x0,(x0',(x0'',(x0''',(x0'''',(x0''''',(x0'''''',((x0'''''''_,(x0'''''''_',())),())))))))),(r1.1,(x2,())))),true),(Option.isSome (f12 (x1,())),true),(Option.isSome (f14 ((x0,(x0',(x0'',(x0''',(x0'''',(x0''''',(x0'''''',((x0'''''''_,(x0'''''''_',())),())))))))),(r1.1,()))),true),(Option.isSome (f12 (x1,())),true),(Option.isSome (f13 ((x0,(x0',(x0'',(x0''',(x0'''',(x0''''',(x0'''''',((x0'''''''_,(x0'''''''_',())),())))))))),(r1.1,()))),true),(Option.isSome (f12 (x1,())),true),(Option.isSome (f11 ((x0,(x0',(x0'',(x0''',(x0'''',(x0''''',(x0'''''',((x0'''''''_,(x0'''''''_',())),())))))))),(r1.1,()))),true),(Option.isSome (f12 (x1,())),true),(Option.isSome (f10 ((x0,(x0',(x0'',(x0''',(x0'''',(x0''''',(x0'''''',((x0'''''''_,(x0'''''''_',())),())))))))),())),true),(!leF (↑(List.length x1):Int) (6:Int),false),(false,false),(true,true)])):=by kernel_rfl
theorem e3_2 (x0:Int) (x0':Int) (x0'':Int) (x0''':Int) (x0'''':Int) (x0''''':Bool) (x0'''''':Int) (x0'''''''_:Int) (x0'''''''_':Int) (x1:(List Int)) (x2:Int):runPure (kf21 Go.Proofs.Try.prog).orc Go.Proofs.Try.prog 400 3 as3 rs3 ((x0,x0',x0'',x0''',x0'''',x0''''',x0'''''',(x0'''''''_,x0'''''''_',()),()),x1,x2,()) [tt,ff,ff,tt,tt,tt,tt,tt,tt,tt,tt,tt,tt,tt,ff,tt,tt,tt,tt,tt,tt,tt,tt,tt,tt,tt,tt,tt,tt,tt,tt,tt] =
    (let r1:=g12 (x1,());let r0:=g10 ((x0,(x0',(x0'',(x0''',(x0'''',(x0''''',(x0'''''',((x0'''''''_,(x0'''''''_',())),())))))))),());let r7:=g17 ((x0,(x0',(x0'',(x0''',(x0'''',(x0''''',(x0'''''',((x0'''''''_,(x0'''''''_',())),())))))))),());let r8:=g18 ((x0,(x0',(x0'',(x0''',(x0'''',(x0''''',(x0'''''',((x0'''''''_,(x0'''''''_',())),())))))))),());let r6:=g16 ((x0,(x0',(x0'',(x0''',(x0'''',(x0''''',(x0'''''',((x0'''''''_,(x0'''''''_',())),())))))))),()); some ((false,()),[(true,true),(true,true),(true,true),(true,true),(true,true),(true,true),(!eqF r8.1 0,true),(!eqF r6.2.1 r8.1,true),(!eqF r8.1 0,true),(!eqF r6.2.1 r8.1,true),(!eqF r6.2.1 r8.1,true),(!eqF r6.2.1 r8.1,true),(!eqF r8.1 0,true),(!eqF r8.1 0,true),(!eqF r8.1 0,true),(!eqF r8.1 0,true),(Option.isSome (f18 ((x0,(x0',(x0'',(x0''',(x0'''',(x0''''',(x0'''''',((x0'''''''_,(x0'''''''_',())),())))))))),())),true),(!eqF r0.1 r7.1,false),(Option.isSome (f17 ((x0,(x0',(x0'',(x0''',(x0'''',(x0''''',(x0'''''',((x0'''''''_,(x0'''''''_',())),())))))))),())),true),(Option.isSome (f16 ((x0,(x0',(x0'',(x0''',(x0'''',(x0''''',(x0'''''',((x0'''''''_,(x0'''''''_',())),())))))))),())),true),(Option.isSome (f15 ((x0,(x0',(x0'',(x0''',(x0'''',(x0''''',(x0'''''',((x0'''''''_,(x0'''''''_',())),())))))))),(r1.1,(x2,())))),true),(Option.isSome (f12 (x1,())),true),(Option.isSome (f14 ((x0,(x0',(x0'',(x0''',(x0'''',(x0''''',(x0'''''',((x0'''''''_,(x0'''''''_',())),())))))))),(r1.1,()))),true),(Option.isSome (f12 (x1,())),true),(Option.isSome (f13 ((x0,(x0',(x0'',(x0''',(x0'''',(x0''''',(x0'''''',((x0'''''''_,(x0'''''''_',())),())))))))),(r1.1,()))),true),(Option.isSome (f12 (x1,())),true),(Option.isSome (f11 ((x0,(x0',(x0'',(x0''',(x0'''',(x0''''',(x0'''''',((x0'''''''_,(x0'''''''_',())),())))))))),(r1.1,()))),true),(Option.isSome (f12 (x1,())),true),(Option.isSome (f10 ((x0,(x0',(x0'',(x0''',(x0'''',(x0''''',(x0'''''',((x0'''''''_,(x0'''''''_',())),())))))))),())),true),(!leF (↑(List.length x1):Int) (6:Int),false),(false,false),(true,true)])):=by kernel_rfl
theorem e3_3 (x0:Int) (x0':Int) (x0'':Int) (x0''':Int) (x0'''':Int) (x0''''':Bool) (x0'''''':Int) (x0'''''''_:Int) (x0'''''''_':Int) (x1:(List Int)) (x2:Int):runPure (kf21 Go.Proofs.Try.prog).orc Go.Proofs.Try.prog 400 3 as3 rs3 ((x0,x0',x0'',x0''',x0'''',x0''''',x0'''''',(x0'''''''_,x0'''''''_',()),()),x1,x2,()) [tt,ff,ff,tt,tt,tt,tt,tt,tt,tt,tt,tt,tt,tt,ff,tt,tt,tt,tt,tt,ff,ff,ff,tt,ff,tt,tt,tt,tt,tt,tt,tt] =
    (let r1:=g12 (x1,());let r0:=g10 ((x0,(x0',(x0'',(x0''',(x0'''',(x0''''',(x0'''''',((x0'''''''_,(x0'''''''_',())),())))))))),());let r7:=g17 ((x0,(x0',(x0'',(x0''',(x0'''',(x0''''',(x0'''''',((x0'''''''_,(x0'''''''_',())),())))))))),());let r8:=g18 ((x0,(x0',(x0'',(x0''',(x0'''',(x0''''',(x0'''''',((x0'''''''_,(x0'''''''_',())),())))))))),());let r6:=g16 ((x0,(x0',(x0'',(x0''',(x0'''',(x0''''',(x0'''''',((x0'''''''_,(x0'''''''_',())),())))))))),()); some ((false,()),[(true,true),(!(r6.1.1 == (0:Int) && (r6.1.2.1 == (0:Int) && (r6.1.2.2.1 == (0:Int) && (r6.1.2.2.2.1 == (0:Int) && (r6.1.2.2.2.2.1 == (0:Int) && (r6.1.2.2.2.2.2.1 == false && (r6.1.2.2.2.2.2.2.1 == (0:Int) && (r6.1.2.2.2.2.2.2.2.1.1 == (0:Int) && (r6.1.2.2.2.2.2.2.2.1.2.1 == (0:Int) && true) && true)))))))),true),(!(r6.1.1 == (0:Int) && (r6.1.2.1 == (0:Int) && (r6.1.2.2.1 == (0:Int) && (r6.1.2.2.2.1 == (0:Int) && (r6.1.2.2.2.2.1 == (0:Int) && (r6.1.2.2.2.2.2.1 == false && (r6.1.2.2.2.2.2.2.1 == (0:Int) && (r6.1.2.2.2.2.2.2.2.1.1 == (0:Int) && (r6.1.2.2.2.2.2.2.2.1.2.1 == (0:Int) && true) && true)))))))),true),(!(r6.1.1 == (0:Int) && (r6.1.2.1 == (0:Int) && (r6.1.2.2.1 == (0:Int) && (r6.1.2.2.2.1 == (0:Int) && (r6.1.2.2.2.2.1 == (0:Int) && (r6.1.2.2.2.2.2.1 == false && (r6.1.2.2.2.2.2.2.1 == (0:Int) && (r6.1.2.2.2.2.2.2.2.1.1 == (0:Int) && (r6.1.2.2.2.2.2.2.2.1.2.1 == (0:Int) && true) && true)))))))),true),(!(r6.1.1 == (0:Int) && (r6.1.2.1 == (0:Int) && (r6.1.2.2.1 == (0:Int) && (r6.1.2.2.2.1 == (0:Int) && (r6.1.2.2.2.2.1 == (0:Int) && (r6.1.2.2.2.2.2.1 == false && (r6.1.2.2.2.2.2.2.1 == (0:Int) && (r6.1.2.2.2.2.2.2.2.1.1 == (0:Int) && (r6.1.2.2.2.2.2.2.2.1.2.1 == (0:Int) && true) && true)))))))),true),(!(r6.1.1 == (0:Int) && (r6.1.2.1 == (0:Int) && (r6.1.2.2.1 == (0:Int) && (r6.1.2.2.2.1 == (0:Int) && (r6.1.2.2.2.2.1 == (0:Int) && (r6.1.2.2.2.2.2.1 == false && (r6.1.2.2.2.2.2.2.1 == (0:Int) && (r6.1.2.2.2.2.2.2.2.1.1 == (0:Int) && (r6.1.2.2.2.2.2.2.2.1.2.1 == (0:Int) && true) && true)))))))),true),(!eqF r8.1 0,true),(!eqF r6.2.1 r8.1,false),(!eqF r8.1 0,true),(!eqF r6.2.1 r8.1,false),(!eqF r6.2.1 r8.1,false),(!eqF r6.2.1 r8.1,false),(!eqF r8.1 0,true),(!eqF r8.1 0,true),(!eqF r8.1 0,true),(!eqF r8.1 0,true),(Option.isSome (f18 ((x0,(x0',(x0'',(x0''',(x0'''',(x0''''',(x0'''''',((x0'''''''_,(x0'''''''_',())),())))))))),())),true),(!eqF r0.1 r7.1,false),(Option.isSome (f17 ((x0,(x0',(x0'',(x0''',(x0'''',(x0''''',(x0'''''',((x0'''''''_,(x0'''''''_',())),())))))))),())),true),(Option.isSome (f16 ((x0,(x0',(x0'',(x0''',(x0'''',(x0''''',(x0'''''',((x0'''''''_,(x0'''''''_',())),())))))))),())),true),(Option.isSome (f15 ((x0,(x0',(x0'',(x0''',(x0'''',(x0''''',(x0'''''',((x0'''''''_,(x0'''''''_',())),())))))))),(r1.1,(x2,())))),true),(Option.isSome (f12 (x1,())),true),(Option.isSome (f14 ((x0,(x0',(x0'',(x0''',(x0'''',(x0''''',(x0'''''',((x0'''''''_,(x0'''''''_',())),())))))))),(r1.1,()))),true),(Option.isSome (f12 (x1,())),true),(Option.isSome (f13 ((x0,(x0',(x0'',(x0''',(x0'''',(x0''''',(x0'''''',((x0'''''''_,(x0'''''''_',())),())))))))),(r1.1,()))),true),(Option.isSome (f12 (x1,())),true),(Option.isSome (f11 ((x0,(x0',(x0'',(x0''',(x0'''',(x0''''',(x0'''''',((x0'''''''_,(x0'''''''_',())),())))))))),(r1.1,()))),true),(Option.isSome (f12 (x1,())),true),(Option.isSome (f10 ((x0,(x0',(x0'',(x0''',(x0'''',(x0''''',(x0'''''',((x0'''''''_,(x0'''''''_',())),())))))))),())),true),(!leF (↑(List.length x1):Int) (6:Int),false),(false,false),(true,true)])):=by kernel_rfl
theorem e3_4 (x0:Int) (x0':Int) (x0'':Int) (x0''':Int) (x0'''':Int) (x0''''':Bool) (x0'''''':Int) (x0'''''''_:Int) (x0'''''''_':Int) (x1:(List Int)) (x2:Int):runPure (kf21 Go.Proofs.Try.prog).orc Go.Proofs.Try.prog 400 3 as3 rs3 ((x0,x0',x0'',x0''',x0'''',x0''''',x0'''''',(x0'''''''_,x0'''''''_',()),()),x1,x2,()) [tt,ff,ff,tt,tt,tt,tt,tt,tt,tt,tt,tt,tt,tt,ff,tt,tt,tt,tt,tt,ff,ff,ff,tt,ff,tt,ff,ff,ff,ff,ff,ff,ff,ff,ff,ff,ff,tt,tt,tt,tt,tt,tt,tt,tt,tt,tt,tt,tt,tt,tt,tt,tt,tt,tt,tt,tt,tt,tt,tt,tt,tt] =
    (let r1:=g12 (x1,());let r0:=g10 ((x0,(x0',(x0'',(x0''',(x0'''',(x0''''',(x0'''''',((x0'''''''_,(x0'''''''_',())),())))))))),());let r7:=g17 ((x0,(x0',(x0'',(x0''',(x0'''',(x0''''',(x0'''''',((x0'''''''_,(x0'''''''_',())),())))))))),());let r8:=g18 ((x0,(x0',(x0'',(x0''',(x0'''',(x0''''',(x0'''''',((x0'''''''_,(x0'''''''_',())),())))))))),());let r6:=g16 ((x0,(x0',(x0'',(x0''',(x0'''',(x0''''',(x0'''''',((x0'''''''_,(x0'''''''_',())),())))))))),());let r10:=g20 ((x0,(x0',(x0'',(x0''',(x0'''',(x0''''',(x0'''''',((x0'''''''_,(x0'''''''_',())),())))))))),(x1,()));let r2:=g11 ((x0,(x0',(x0'',(x0''',(x0'''',(x0''''',(x0'''''',((x0'''''''_,(x0'''''''_',())),())))))))),(r1.1,()));let r3:=g13 ((x0,(x0',(x0'',(x0''',(x0'''',(x0''''',(x0'''''',((x0'''''''_,(x0'''''''_',())),())))))))),(r1.1,()));let r4:=g14 ((x0,(x0',(x0'',(x0''',(x0'''',(x0''''',(x0'''''',((x0'''''''_,(x0'''''''_',())),())))))))),(r1.1,()));let r5:=g15 ((x0,(x0',(x0'',(x0''',(x0'''',(x0''''',(x0'''''',((x0'''''''_,(x0'''''''_',())),())))))))),(r1.1,(x2,()))); some ((eqF (↑(List.length r5.1):Int) (0:Int),()),[(eqF r4.1 0,true),(eqF r4.1 0,true),(eqF r4.1 0,true),(eqF r4.1 0,true),(eqF r3.1 0,true),(eqF r3.1 0,true),(eqF r3.1 0,true),(eqF r5.2.1 r10.1,true),(eqF r5.2.1 r10.1,true),(eqF r5.2.1 r10.1,true),(eqF r4.2.1 r10.1,true),(eqF r4.2.1 r10.1,true),(eqF r4.2.1 r10.1,true),(eqF r4.2.1 r10.1,true),(eqF r3.2.1 r10.1,true),(eqF r3.2.1 r10.1,true),(eqF r3.2.1 r10.1,true),(eqF r3.2.1 r10.1,true),(eqF r2.1 r10.1,true),(eqF r2.1 r10.1,true),(eqF r2.1 r10.1,true),(eqF r2.1 r10.1,true),(!eqF r10.1 0,true),(Option.isSome (f20 ((x0,(x0',(x0'',(x0''',(x0'''',(x0''''',(x0'''''',((x0'''''''_,(x0'''''''_',())),())))))))),(x1,()))),true),(eqF r7.1 0,true),(false,false),(!(r6.1.1 == (0:Int) && (r6.1.2.1 == (0:Int) && (r6.1.2.2.1 == (0:Int) && (r6.1.2.2.2.1 == (0:Int) && (r6.1.2.2.2.2.1 == (0:Int) && (r6.1.2.2.2.2.2.1 == false && (r6.1.2.2.2.2.2.2.1 == (0:Int) && (r6.1.2.2.2.2.2.2.2.1.1 == (0:Int) && (r6.1.2.2.2.2.2.2.2.1.2.1 == (0:Int) && true) && true)))))))),false),(eqF r8.1 0,false),(!(r6.1.1 == (0:Int) && (r6.1.2.1 == (0:Int) && (r6.1.2.2.1 == (0:Int) && (r6.1.2.2.2.1 == (0:Int) && (r6.1.2.2.2.2.1 == (0:Int) && (r6.1.2.2.2.2.2.1 == false && (r6.1.2.2.2.2.2.2.1 == (0:Int) && (r6.1.2.2.2.2.2.2.2.1.1 == (0:Int) && (r6.1.2.2.2.2.2.2.2.1.2.1 == (0:Int) && true) && true)))))))),false),(eqF r8.1 0,false),(eqF r8.1 0,false),(eqF r8.1 0,false),(eqF r8.1 0,false),(!(r6.1.1 == (0:Int) && (r6.1.2.1 == (0:Int) && (r6.1.2.2.1 == (0:Int) && (r6.1.2.2.2.1 == (0:Int) && (r6.1.2.2.2.2.1 == (0:Int) && (r6.1.2.2.2.2.2.1 == false && (r6.1.2.2.2.2.2.2.1 == (0:Int) && (r6.1.2.2.2.2.2.2.2.1.1 == (0:Int) && (r6.1.2.2.2.2.2.2.2.1.2.1 == (0:Int) && true) && true)))))))),false),(!(r6.1.1 == (0:Int) && (r6.1.2.1 == (0:Int) && (r6.1.2.2.1 == (0:Int) && (r6.1.2.2.2.1 == (0:Int) && (r6.1.2.2.2.2.1 == (0:Int) && (r6.1.2.2.2.2.2.1 == false && (r6.1.2.2.2.2.2.2.1 == (0:Int) && (r6.1.2.2.2.2.2.2.2.1.1 == (0:Int) && (r6.1.2.2.2.2.2.2.2.1.2.1 == (0:Int) && true) && true)))))))),false),(!(r6.1.1 == (0:Int) && (r6.1.2.1 == (0:Int) && (r6.1.2.2.1 == (0:Int) && (r6.1.2.2.2.1 == (0:Int) && (r6.1.2.2.2.2.1 == (0:Int) && (r6.1.2.2.2.2.2.1 == false && (r6.1.2.2.2.2.2.2.1 == (0:Int) && (r6.1.2.2.2.2.2.2.2.1.1 == (0:Int) && (r6.1.2.2.2.2.2.2.2.1.2.1 == (0:Int) && true) && true)))))))),false),(!eqF r8.1 0,true),(!eqF r6.2.1 r8.1,false),(!eqF r8.1 0,true),(!eqF r6.2.1 r8.1,false),(!eqF r6.2.1 r8.1,false),(!eqF r6.2.1 r8.1,false),(!eqF r8.1 0,true),(!eqF r8.1 0,true),(!eqF r8.1 0,true),(!eqF r8.1 0,true),(Option.isSome (f18 ((x0,(x0',(x0'',(x0''',(x0'''',(x0''''',(x0'''''',((x0'''''''_,(x0'''''''_',())),())))))))),())),true),(!eqF r0.1 r7.1,false),(Option.isSome (f17 ((x0,(x0',(x0'',(x0''',(x0'''',(x0''''',(x0'''''',((x0'''''''_,(x0'''''''_',())),())))))))),())),true),(Option.isSome (f16 ((x0,(x0',(x0'',(x0''',(x0'''',(x0''''',(x0'''''',((x0'''''''_,(x0'''''''_',())),())))))))),())),true),(Option.isSome (f15 ((x0,(x0',(x0'',(x0''',(x0'''',(x0''''',(x0'''''',((x0'''''''_,(x0'''''''_',())),())))))))),(r1.1,(x2,())))),true),(Option.isSome (f12 (x1,())),true),(Option.isSome (f14 ((x0,(x0',(x0'',(x0''',(x0'''',(x0''''',(x0'''''',((x0'''''''_,(x0'''''''_',())),())))))))),(r1.1,()))),true),(Option.isSome (f12 (x1,())),true),(Option.isSome (f13 ((x0,(x0',(x0'',(x0''',(x0'''',(x0''''',(x0'''''',((x0'''''''_,(x0'''''''_',())),())))))))),(r1.1,()))),true),(Option.isSome (f12 (x1,())),true),(Option.isSome (f11 ((x0,(x0',(x0'',(x0''',(x0'''',(x0''''',(x0'''''',((x0'''''''_,(x0'''''''_',())),())))))))),(r1.1,()))),true),(Option.isSome (f12 (x1,())),true),(Option.isSome (f10 ((x0,(x0',(x0'',(x0''',(x0'''',(x0''''',(x0'''''',((x0'''''''_,(x0'''''''_',())),())))))))),())),true),(!leF (↑(List.length x1):Int) (6:Int),false),(false,false),(true,true)])):=by kernel_rfl
theorem e3_5 (x0:Int) (x0':Int) (x0'':Int) (x0''':Int) (x0'''':Int) (x0''''':Bool) (x0'''''':Int) (x0'''''''_:Int) (x0'''''''_':Int) (x1:(List Int)) (x2:Int):runPure (kf21 Go.Proofs.Try.prog).orc Go.Proofs.Try.prog 400 3 as3 rs3 ((x0,x0',x0'',x0''',x0'''',x0''''',x0'''''',(x0'''''''_,x0'''''''_',()),()),x1,x2,()) [tt,ff,ff,tt,tt,tt,tt,tt,tt,tt,tt,tt,tt,tt,ff,tt,tt,tt,tt,tt,ff,ff,ff,tt,ff,tt,ff,ff,ff,ff,ff,ff,ff,ff,ff,ff,ff,tt,tt,tt,tt,tt,tt,tt,tt,tt,tt,tt,tt,tt,tt,tt,tt,tt,tt,tt,tt,tt,ff,ff,ff,ff] =
    (let r1:=g12 (x1,());let r0:=g10 ((x0,(x0',(x0'',(x0''',(x0'''',(x0''''',(x0'''''',((x0'''''''_,(x0'''''''_',())),())))))))),());let r7:=g17 ((x0,(x0',(x0'',(x0''',(x0'''',(x0''''',(x0'''''',((x0'''''''_,(x0'''''''_',())),())))))))),());let r8:=g18 ((x0,(x0',(x0'',(x0''',(x0'''',(x0''''',(x0'''''',((x0'''''''_,(x0'''''''_',())),())))))))),());let r6:=g16 ((x0,(x0',(x0'',(x0''',(x0'''',(x0''''',(x0'''''',((x0'''''''_,(x0'''''''_',())),())))))))),());let r10:=g20 ((x0,(x0',(x0'',(x0''',(x0'''',(x0''''',(x0'''''',((x0'''''''_,(x0'''''''_',())),())))))))),(x1,()));let r2:=g11 ((x0,(x0',(x0'',(x0''',(x0'''',(x0''''',(x0'''''',((x0'''''''_,(x0'''''''_',())),())))))))),(r1.1,()));let r3:=g13 ((x0,(x0',(x0'',(x0''',(x0'''',(x0''''',(x0'''''',((x0'''''''_,(x0'''''''_',())),())))))))),(r1.1,()));let r4:=g14 ((x0,(x0',(x0'',(x0''',(x0'''',(x0''''',(x0'''''',((x0'''''''_,(x0'''''''_',())),())))))))),(r1.1,()));let r5:=g15 ((x0,(x0',(x0'',(x0''',(x0'''',(x0''''',(x0'''''',((x0'''''''_,(x0'''''''_',())),())))))))),(r1.1,(x2,()))); some ((false,()),[(eqF r4.1 0,false),(eqF r4.1 0,false),(eqF r4.1 0,false),(eqF r4.1 0,false),(eqF r3.1 0,true),(eqF r3.1 0,true),(eqF r3.1 0,true),(eqF r5.2.1 r10.1,true),(eqF r5.2.1 r10.1,true),(eqF r5.2.1 r10.1,true),(eqF r4.2.1 r10.1,true),(eqF r4.2.1 r10.1,true),(eqF r4.2.1 r10.1,true),(eqF r4.2.1 r10.1,true),(eqF r3.2.1 r10.1,true),(eqF r3.2.1 r10.1,true),(eqF r3.2.1 r10.1,true),(eqF r3.2.1 r10.1,true),(eqF r2.1 r10.1,true),(eqF r2.1 r10.1,true),(eqF r2.1 r10.1,true),(eqF r2.1 r10.1,true),(!eqF r10.1 0,true),(Option.isSome (f20 ((x0,(x0',(x0'',(x0''',(x0'''',(x0''''',(x0'''''',((x0'''''''_,(x0'''''''_',())),())))))))),(x1,()))),true),(eqF r7.1 0,true),(false,false),(!(r6.1.1 == (0:Int) && (r6.1.2.1 == (0:Int) && (r6.1.2.2.1 == (0:Int) && (r6.1.2.2.2.1 == (0:Int) && (r6.1.2.2.2.2.1 == (0:Int) && (r6.1.2.2.2.2.2.1 == false && (r6.1.2.2.2.2.2.2.1 == (0:Int) && (r6.1.2.2.2.2.2.2.2.1.1 == (0:Int) && (r6.1.2.2.2.2.2.2.2.1.2.1 == (0:Int) && true) && true)))))))),false),(eqF r8.1 0,false),(!(r6.1.1 == (0:Int) && (r6.1.2.1 == (0:Int) && (r6.1.2.2.1 == (0:Int) && (r6.1.2.2.2.1 == (0:Int) && (r6.1.2.2.2.2.1 == (0:Int) && (r6.1.2.2.2.2.2.1 == false && (r6.1.2.2.2.2.2.2.1 == (0:Int) && (r6.1.2.2.2.2.2.2.2.1.1 == (0:Int) && (r6.1.2.2.2.2.2.2.2.1.2.1 == (0:Int) && true) && true)))))))),false),(eqF r8.1 0,false),(eqF r8.1 0,false),(eqF r8.1 0,false),(eqF r8.1 0,false),(!(r6.1.1 == (0:Int) && (r6.1.2.1 == (0:Int) && (r6.1.2.2.1 == (0:Int) && (r6.1.2.2.2.1 == (0:Int) && (r6.1.2.2.2.2.1 == (0:Int) && (r6.1.2.2.2.2.2.1 == false && (r6.1.2.2.2.2.2.2.1 == (0:Int) && (r6.1.2.2.2.2.2.2.2.1.1 == (0:Int) && (r6.1.2.2.2.2.2.2.2.1.2.1 == (0:Int) && true) && true)))))))),false),(!(r6.1.1 == (0:Int) && (r6.1.2.1 == (0:Int) && (r6.1.2.2.1 == (0:Int) && (r6.1.2.2.2.1 == (0:Int) && (r6.1.2.2.2.2.1 == (0:Int) && (r6.1.2.2.2.2.2.1 == false && (r6.1.2.2.2.2.2.2.1 == (0:Int) && (r6.1.2.2.2.2.2.2.2.1.1 == (0:Int) && (r6.1.2.2.2.2.2.2.2.1.2.1 == (0:Int) && true) && true)))))))),false),(!(r6.1.1 == (0:Int) && (r6.1.2.1 == (0:Int) && (r6.1.2.2.1 == (0:Int) && (r6.1.2.2.2.1 == (0:Int) && (r6.1.2.2.2.2.1 == (0:Int) && (r6.1.2.2.2.2.2.1 == false && (r6.1.2.2.2.2.2.2.1 == (0:Int) && (r6.1.2.2.2.2.2.2.2.1.1 == (0:Int) && (r6.1.2.2.2.2.2.2.2.1.2.1 == (0:Int) && true) && true)))))))),false),(!eqF r8.1 0,true),(!eqF r6.2.1 r8.1,false),(!eqF r8.1 0,true),(!eqF r6.2.1 r8.1,false),(!eqF r6.2.1 r8.1,false),(!eqF r6.2.1 r8.1,false),(!eqF r8.1 0,true),(!eqF r8.1 0,true),(!eqF r8.1 0,true),(!eqF r8.1 0,true),(Option.isSome (f18 ((x0,(x0',(x0'',(x0''',(x0'''',(x0''''',(x0'''''',((x0'''''''_,(x0'''''''_',())),())))))))),())),true),(!eqF r0.1 r7.1,false),(Option.isSome (f17 ((x0,(x0',(x0'',(x0''',(x0'''',(x0''''',(x0'''''',((x0'''''''_,(x0'''''''_',())),())))))))),())),true),(Option.isSome (f16 ((x0,(x0',(x0'',(x0''',(x0'''',(x0''''',(x0'''''',((x0'''''''_,(x0'''''''_',())),())))))))),())),true),(Option.isSome (f15 ((x0,(x0',(x0'',(x0''',(x0'''',(x0''''',(x0'''''',((x0'''''''_,(x0'''''''_',())),())))))))),(r1.1,(x2,())))),true),(Option.isSome (f12 (x1,())),true),(Option.isSome (f14 ((x0,(x0',(x0'',(x0''',(x0'''',(x0''''',(x0'''''',((x0'''''''_,(x0'''''''_',())),())))))))),(r1.1,()))),true),(Option.isSome (f12 (x1,())),true),(Option.isSome (f13 ((x0,(x0',(x0'',(x0''',(x0'''',(x0''''',(x0'''''',((x0'''''''_,(x0'''''''_',())),())))))))),(r1.1,()))),true),(Option.isSome (f12 (x1,())),true),(Option.isSome (f11 ((x0,(x0',(x0'',(x0''',(x0'''',(x0''''',(x0'''''',((x0'''''''_,(x0'''''''_',())),())))))))),(r1.1,()))),true),(Option.isSome (f12 (x1,())),true),(Option.isSome (f10 ((x0,(x0',(x0'',(x0''',(x0'''',(x0''''',(x0'''''',((x0'''''''_,(x0'''''''_',())),())))))))),())),true),(!leF (↑(List.length x1):Int) (6:Int),false),(false,false),(true,true)])):=by kernel_rfl
theorem e3_6 (x0:Int) (x0':Int) (x0'':Int) (x0''':Int) (x0'''':Int) (x0''''':Bool) (x0'''''':Int) (x0'''''''_:Int) (x0'''''''_':Int) (x1:(List Int)) (x2:Int):runPure (kf21 Go.Proofs.Try.prog).orc Go.Proofs.Try.prog 400 3 as3 rs3 ((x0,x0',x0'',x0''',x0'''',x0''''',x0'''''',(x0'''''''_,x0'''''''_',()),()),x1,x2,()) [tt,ff,ff,tt,tt,tt,tt,tt,tt,tt,tt,tt,tt,tt,ff,tt,tt,tt,tt,tt,ff,ff,ff,tt,ff,tt,ff,ff,ff,ff,ff,ff,ff,ff,ff,ff,ff,tt,tt,tt,tt,tt,tt,tt,tt,tt,tt,tt,tt,tt,tt,tt,tt,tt,tt,ff,ff,ff,ff,ff,ff,ff] =
    (let r1:=g12 (x1,());let r0:=g10 ((x0,(x0',(x0'',(x0''',(x0'''',(x0''''',(x0'''''',((x0'''''''_,(x0'''''''_',())),())))))))),());let r7:=g17 ((x0,(x0',(x0'',(x0''',(x0'''',(x0''''',(x0'''''',((x0'''''''_,(x0'''''''_',())),())))))))),());let r8:=g18 ((x0,(x0',(x0'',(x0''',(x0'''',(x0''''',(x0'''''',((x0'''''''_,(x0'''''''_',())),())))))))),());let r6:=g16 ((x0,(x0',(x0'',(x0''',(x0'''',(x0''''',(x0'''''',((x0'''''''_,(x0'''''''_',())),())))))))),());let r10:=g20 ((x0,(x0',(x0'',(x0''',(x0'''',(x0''''',(x0'''''',((x0'''''''_,(x0'''''''_',())),())))))))),(x1,()));let r2:=g11 ((x0,(x0',(x0'',(x0''',(x0'''',(x0''''',(x0'''''',((x0'''''''_,(x0'''''''_',())),())))))))),(r1.1,()));let r3:=g13 ((x0,(x0',(x0'',(x0''',(x0'''',(x0''''',(x0'''''',((x0'''''''_,(x0'''''''_',())),())))))))),(r1.1,()));let r4:=g14 ((x0,(x0',(x0'',(x0''',(x0'''',(x0''''',(x0'''''',((x0'''''''_,(x0'''''''_',())),())))))))),(r1.1,()));let r5:=g15 ((x0,(x0',(x0'',(x0''',(x0'''',(x0''''',(x0'''''',((x0'''''''_,(x0'''''''_',())),())))))))),(r1.1,(x2,()))); some ((false,()),[(false,false),(false,false),(false,false),(false,false),(eqF r3.1 0,false),(eqF r3.1 0,false),(eqF r3.1 0,false),(eqF r5.2.1 r10.1,true),(eqF r5.2.1 r10.1,true),(eqF r5.2.1 r10.1,true),(eqF r4.2.1 r10.1,true),(eqF r4.2.1 r10.1,true),(eqF r4.2.1 r10.1,true),(eqF r4.2.1 r10.1,true),(eqF r3.2.1 r10.1,true),(eqF r3.2.1 r10.1,true),(eqF r3.2.1 r10.1,true),(eqF r3.2.1 r10.1,true),(eqF r2.1 r10.1,true),(eqF r2.1 r10.1,true),(eqF r2.1 r10.1,true),(eqF r2.1 r10.1,true),(!eqF r10.1 0,true),(Option.isSome (f20 ((x0,(x0',(x0'',(x0''',(x0'''',(x0''''',(x0'''''',((x0'''''''_,(x0'''''''_',())),())))))))),(x1,()))),true),(eqF r7.1 0,true),(false,false),(!(r6.1.1 == (0:Int) && (r6.1.2.1 == (0:Int) && (r6.1.2.2.1 == (0:Int) && (r6.1.2.2.2.1 == (0:Int) && (r6.1.2.2.2.2.1 == (0:Int) && (r6.1.2.2.2.2.2.1 == false && (r6.1.2.2.2.2.2.2.1 == (0:Int) && (r6.1.2.2.2.2.2.2.2.1.1 == (0:Int) && (r6.1.2.2.2.2.2.2.2.1.2.1 == (0:Int) && true) && true)))))))),false),(eqF r8.1 0,false),(!(r6.1.1 == (0:Int) && (r6.1.2.1 == (0:Int) && (r6.1.2.2.1 == (0:Int) && (r6.1.2.2.2.1 == (0:Int) && (r6.1.2.2.2.2.1 == (0:Int) && (r6.1.2.2.2.2.2.1 == false && (r6.1.2.2.2.2.2.2.1 == (0:Int) && (r6.1.2.2.2.2.2.2.2.1.1 == (0:Int) && (r6.1.2.2.2.2.2.2.2.1.2.1 == (0:Int) && true) && true)))))))),false),(eqF r8.1 0,false),(eqF r8.1 0,false),(eqF r8.1 0,false),(eqF r8.1 0,false),(!(r6.1.1 == (0:Int) && (r6.1.2.1 == (0:Int) && (r6.1.2.2.1 == (0:Int) && (r6.1.2.2.2.1 == (0:Int) && (r6.1.2.2.2.2.1 == (0:Int) && (r6.1.2.2.2.2.2.1 == false && (r6.1.2.2.2.2.2.2.1 == (0:Int) && (r6.1.2.2.2.2.2.2.2.1.1 == (0:Int) && (r6.1.2.2.2.2.2.2.2.1.2.1 == (0:Int) && true) && true)))))))),false),(!(r6.1.1 == (0:Int) && (r6.1.2.1 == (0:Int) && (r6.1.2.2.1 == (0:Int) && (r6.1.2.2.2.1 == (0:Int) && (r6.1.2.2.2.2.1 == (0:Int) && (r6.1.2.2.2.2.2.1 == false && (r6.1.2.2.2.2.2.2.1 == (0:Int) && (r6.1.2.2.2.2.2.2.2.1.1 == (0:Int) && (r6.1.2.2.2.2.2.2.2.1.2.1 == (0:Int) && true) && true)))))))),false),(!(r6.1.1 == (0:Int) && (r6.1.2.1 == (0:Int) && (r6.1.2.2.1 == (0:Int) && (r6.1.2.2.2.1 == (0:Int) && (r6.1.2.2.2.2.1 == (0:Int) && (r6.1.2.2.2.2.2.1 == false && (r6.1.2.2.2.2.2.2.1 == (0:Int) && (r6.1.2.2.2.2.2.2.2.1.1 == (0:Int) && (r6.1.2.2.2.2.2.2.2.1.2.1 == (0:Int) && true) && true)))))))),false),(!eqF r8.1 0,true),(!eqF r6.2.1 r8.1,false),(!eqF r8.1 0,true),(!eqF r6.2.1 r8.1,false),(!eqF r6.2.1 r8.1,false),(!eqF r6.2.1 r8.1,false),(!eqF r8.1 0,true),(!eqF r8.1 0,true),(!eqF r8.1 0,true),(!eqF r8.1 0,true),(Option.isSome (f18 ((x0,(x0',(x0'',(x0''',(x0'''',(x0''''',(x0'''''',((x0'''''''_,(x0'''''''_',())),())))))))),())),true),(!eqF r0.1 r7.1,false),(Option.isSome (f17 ((x0,(x0',(x0'',(x0''',(x0'''',(x0''''',(x0'''''',((x0'''''''_,(x0'''''''_',())),())))))))),())),true),(Option.isSome (f16 ((x0,(x0',(x0'',(x0''',(x0'''',(x0''''',(x0'''''',((x0'''''''_,(x0'''''''_',())),())))))))),())),true),(Option.isSome (f15 ((x0,(x0',(x0'',(x0''',(x0'''',(x0''''',(x0'''''',((x0'''''''_,(x0'''''''_',())),())))))))),(r1.1,(x2,())))),true),(Option.isSome (f12 (x1,())),true),(Option.isSome (f14 ((x0,(x0',(x0'',(x0''',(x0'''',(x0''''',(x0'''''',((x0'''''''_,(x0'''''''_',())),())))))))),(r1.1,()))),true),(Option.isSome (f12 (x1,())),true),(Option.isSome (f13 ((x0,(x0',(x0'',(x0''',(x0'''',(x0''''',(x0'''''',((x0'''''''_,(x0'''''''_',())),())))))))),(r1.1,()))),true),(Option.isSome (f12 (x1,())),true),(Option.isSome (f11 ((x0,(x0',(x0'',(x0''',(x0'''',(x0''''',(x0'''''',((x0'''''''_,(x0'''''''_',())),())))))))),(r1.1,()))),true),(Option.isSome (f12 (x1,())),true),(Option.isSome (f10 ((x0,(x0',(x0'',(x0''',(x0'''',(x0''''',(x0'''''',((x0'''''''_,(x0'''''''_',())),())))))))),())),true),(!leF (↑(List.length x1):Int) (6:Int),false),(false,false),(true,true)])):=by kernel_rfl

end Go.Vm.Mo
