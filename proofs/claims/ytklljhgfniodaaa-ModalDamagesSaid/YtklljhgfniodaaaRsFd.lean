import Derived.Test.YtklljhgfniodaaaA4
import Derived.KernelRfl
import Derived.Test.YtklljhgfniodaaaProg
import Derived.Test.YtklljhgfniodaaaRsFc
set_option linter.unusedVariables false
set_option linter.unusedSimpArgs false

namespace Go.Vm.Mo
open Go
set_option linter.unusedVariables false

/-! ductility/ductilitybase.RatioMul -/

abbrev as27:List Ty:=[(.pair (.pair (.int .i64) (.pair (.slice (.int .i64)) .unit)) (.pair (.pair (.int .i64) (.pair (.slice (.int .i64)) .unit)) .unit)),(.pair (.pair (.int .i64) (.pair (.slice (.int .i64)) .unit)) (.pair (.pair (.int .i64) (.pair (.slice (.int .i64)) .unit)) .unit))]
abbrev rs27:List Ty:=[(.pair (.pair (.int .i64) (.pair (.slice (.int .i64)) .unit)) (.pair (.pair (.int .i64) (.pair (.slice (.int .i64)) .unit)) .unit))]

def t27 (x0_:Int) (x0_':(List Int)) (x0'_:Int) (x0'_':(List Int)) (x1_:Int) (x1_':(List Int)) (x1'_:Int) (x1'_':(List Int)):Tr (Tys.data rs27) :=
  Tr.test (Option.isSome (f64 ((x0_,(x0_',())),((x1_,(x1_',())),()))))
    (Tr.test (Option.isSome (f64 ((x0'_,(x0'_',())),((x1'_,(x1'_',())),()))))
      (let r0:=g64 ((x0_,(x0_',())),((x1_,(x1_',())),()));
      let r1:=g64 ((x0'_,(x0'_',())),((x1'_,(x1'_',())),()));
      Tr.test (Option.isSome (f62 ((r0.1.1,(r0.1.2.1,())),((r1.1.1,(r1.1.2.1,())),()))))
        (let r2:=g62 ((r0.1.1,(r0.1.2.1,())),((r1.1.1,(r1.1.2.1,())),()));
        Tr.fin ((((r2.1.1.1,(r2.1.1.2.1,())),((r2.1.2.1.1,(r2.1.2.1.2.1,())),())),())))
        (Tr.stop))
      (Tr.stop))
    (Tr.stop)

def f27 (d:Tys.data as27):Option (Tys.data rs27):=(t27 d.1.1.1 d.1.1.2.1 d.1.2.1.1 d.1.2.1.2.1 d.2.1.1.1 d.2.1.1.2.1 d.2.1.2.1.1 d.2.1.2.1.2.1).val
def g27 (d:Tys.data as27):Tys.data rs27:=(f27 d).getD (Tys.dflt rs27)
def p27:PureC:=pcOf as27 rs27 f27 g27

theorem wk27 (x0_:Int) (x0_':(List Int)) (x0'_:Int) (x0'_':(List Int)) (x1_:Int) (x1_':(List Int)) (x1'_:Int) (x1'_':(List Int)):Walks (runPure (kf89 Go.Proofs.Try.prog).orc Go.Proofs.Try.prog 400 27 as27 rs27 (((x0_,x0_',()),(x0'_,x0'_',()),()),((x1_,x1_',()),(x1'_,x1'_',()),()),())) (t27 x0_ x0_' x0'_ x0'_' x1_ x1_' x1'_ x1'_') [([true,true,true],[2,4,6])] :=
  ⟨by kernel_rfl,trivial⟩

theorem ok27_t (x0_:Int) (x0_':(List Int)) (x0'_:Int) (x0'_':(List Int)) (x1_:Int) (x1_':(List Int)) (x1'_:Int) (x1'_':(List Int)):TrOk (PureRuns Go.Proofs.Try.prog (kf89 Go.Proofs.Try.prog).orc 27 as27 rs27 (((x0_,x0_',()),(x0'_,x0'_',()),()),((x1_,x1_',()),(x1'_,x1'_',()),()),())) (t27 x0_ x0_' x0'_ x0'_' x1_ x1_' x1'_ x1'_') :=
  Walks.ok (fun _ _ _=>PureRuns.of) (wk27 x0_ x0_' x0'_ x0'_' x1_ x1_' x1'_ x1'_') (by kernel_rfl)

theorem ok27:PureOk Go.Proofs.Try.prog 27 p27:=pureOk_of kf89_ok.base (T:=fun (d:Tys.data as27)=>t27 d.1.1.1 d.1.1.2.1 d.1.2.1.1 d.1.2.1.2.1 d.2.1.1.1 d.2.1.1.2.1 d.2.1.2.1.1 d.2.1.2.1.2.1) (by kernel_rfl) (fun (d:Tys.data as27)=>ok27_t d.1.1.1 d.1.1.2.1 d.1.2.1.1 d.1.2.1.2.1 d.2.1.1.1 d.2.1.1.2.1 d.2.1.2.1.1 d.2.1.2.1.2.1)
def kf27 (P:Go.Program):Known:=(kf89 P).func 27 p27
theorem kf27_ok:KnownOk Go.Proofs.Try.prog (kf27 Go.Proofs.Try.prog):=kf89_ok.func ok27

/-! ductility/ductilitybase.RatioNeg -/

abbrev as112:List Ty:=[(.pair (.pair (.int .i64) (.pair (.slice (.int .i64)) .unit)) (.pair (.pair (.int .i64) (.pair (.slice (.int .i64)) .unit)) .unit))]
abbrev rs112:List Ty:=[(.pair (.pair (.int .i64) (.pair (.slice (.int .i64)) .unit)) (.pair (.pair (.int .i64) (.pair (.slice (.int .i64)) .unit)) .unit))]

def t112 (x0_:Int) (x0_':(List Int)) (x0'_:Int) (x0'_':(List Int)):Tr (Tys.data rs112) :=
  Tr.test (Option.isSome (f96 ((x0_,(x0_',())),())))
    (let r0:=g96 ((x0_,(x0_',())),());
    Tr.fin ((((r0.1.1,(r0.1.2.1,())),((x0'_,(x0'_',())),())),())))
    (Tr.stop)

def f112 (d:Tys.data as112):Option (Tys.data rs112):=(t112 d.1.1.1 d.1.1.2.1 d.1.2.1.1 d.1.2.1.2.1).val
def g112 (d:Tys.data as112):Tys.data rs112:=(f112 d).getD (Tys.dflt rs112)
def p112:PureC:=pcOf as112 rs112 f112 g112

theorem wk112 (x0_:Int) (x0_':(List Int)) (x0'_:Int) (x0'_':(List Int)):Walks (runPure (kf27 Go.Proofs.Try.prog).orc Go.Proofs.Try.prog 400 112 as112 rs112 (((x0_,x0_',()),(x0'_,x0'_',()),()),())) (t112 x0_ x0_' x0'_ x0'_') [([tt],[2])] :=
  ⟨by kernel_rfl,trivial⟩

theorem ok112_t (x0_:Int) (x0_':(List Int)) (x0'_:Int) (x0'_':(List Int)):TrOk (PureRuns Go.Proofs.Try.prog (kf27 Go.Proofs.Try.prog).orc 112 as112 rs112 (((x0_,x0_',()),(x0'_,x0'_',()),()),())) (t112 x0_ x0_' x0'_ x0'_') :=
  Walks.ok (fun _ _ _=>PureRuns.of) (wk112 x0_ x0_' x0'_ x0'_') (by kernel_rfl)

theorem ok112:PureOk Go.Proofs.Try.prog 112 p112:=pureOk_of kf27_ok.base (T:=fun (d:Tys.data as112)=>t112 d.1.1.1 d.1.1.2.1 d.1.2.1.1 d.1.2.1.2.1) (by kernel_rfl) (fun (d:Tys.data as112)=>ok112_t d.1.1.1 d.1.1.2.1 d.1.2.1.1 d.1.2.1.2.1)
def kf112 (P:Go.Program):Known:=(kf27 P).func 112 p112
theorem kf112_ok:KnownOk Go.Proofs.Try.prog (kf112 Go.Proofs.Try.prog):=kf27_ok.func ok112

/-! ductility/ductilitybase.RatioAdd -/

abbrev as26:List Ty:=[(.pair (.pair (.int .i64) (.pair (.slice (.int .i64)) .unit)) (.pair (.pair (.int .i64) (.pair (.slice (.int .i64)) .unit)) .unit)),(.pair (.pair (.int .i64) (.pair (.slice (.int .i64)) .unit)) (.pair (.pair (.int .i64) (.pair (.slice (.int .i64)) .unit)) .unit))]
abbrev rs26:List Ty:=[(.pair (.pair (.int .i64) (.pair (.slice (.int .i64)) .unit)) (.pair (.pair (.int .i64) (.pair (.slice (.int .i64)) .unit)) .unit))]

def t26 (x0_:Int) (x0_':(List Int)) (x0'_:Int) (x0'_':(List Int)) (x1_:Int) (x1_':(List Int)) (x1'_:Int) (x1'_':(List Int)):Tr (Tys.data rs26) :=
  Tr.test (Option.isSome (f64 ((x0_,(x0_',())),((x1'_,(x1'_',())),()))))
    (Tr.test (Option.isSome (f64 ((x1_,(x1_',())),((x0'_,(x0'_',())),()))))
      (let r0:=g64 ((x0_,(x0_',())),((x1'_,(x1'_',())),()));
      let r1:=g64 ((x1_,(x1_',())),((x0'_,(x0'_',())),()));
      Tr.test (Option.isSome (f63 ((r0.1.1,(r0.1.2.1,())),((r1.1.1,(r1.1.2.1,())),()))))
        (Tr.test (Option.isSome (f64 ((x0'_,(x0'_',())),((x1'_,(x1'_',())),()))))
          (let r2:=g63 ((r0.1.1,(r0.1.2.1,())),((r1.1.1,(r1.1.2.1,())),()));
          let r3:=g64 ((x0'_,(x0'_',())),((x1'_,(x1'_',())),()));
          Tr.test (Option.isSome (f62 ((r2.1.1,(r2.1.2.1,())),((r3.1.1,(r3.1.2.1,())),()))))
            (let r4:=g62 ((r2.1.1,(r2.1.2.1,())),((r3.1.1,(r3.1.2.1,())),()));
            Tr.fin ((((r4.1.1.1,(r4.1.1.2.1,())),((r4.1.2.1.1,(r4.1.2.1.2.1,())),())),())))
            (Tr.stop))
          (Tr.stop))
        (Tr.stop))
      (Tr.stop))
    (Tr.stop)

def f26 (d:Tys.data as26):Option (Tys.data rs26):=(t26 d.1.1.1 d.1.1.2.1 d.1.2.1.1 d.1.2.1.2.1 d.2.1.1.1 d.2.1.1.2.1 d.2.1.2.1.1 d.2.1.2.1.2.1).val
def g26 (d:Tys.data as26):Tys.data rs26:=(f26 d).getD (Tys.dflt rs26)
def p26:PureC:=pcOf as26 rs26 f26 g26

theorem wk26 (x0_:Int) (x0_':(List Int)) (x0'_:Int) (x0'_':(List Int)) (x1_:Int) (x1_':(List Int)) (x1'_:Int) (x1'_':(List Int)):Walks (runPure (kf112 Go.Proofs.Try.prog).orc Go.Proofs.Try.prog 400 26 as26 rs26 (((x0_,x0_',()),(x0'_,x0'_',()),()),((x1_,x1_',()),(x1'_,x1'_',()),()),())) (t26 x0_ x0_' x0'_ x0'_' x1_ x1_' x1'_ x1'_') [([true,true,true,true,true],[2,4,6,8,10])] :=
  ⟨by kernel_rfl,trivial⟩

theorem ok26_t (x0_:Int) (x0_':(List Int)) (x0'_:Int) (x0'_':(List Int)) (x1_:Int) (x1_':(List Int)) (x1'_:Int) (x1'_':(List Int)):TrOk (PureRuns Go.Proofs.Try.prog (kf112 Go.Proofs.Try.prog).orc 26 as26 rs26 (((x0_,x0_',()),(x0'_,x0'_',()),()),((x1_,x1_',()),(x1'_,x1'_',()),()),())) (t26 x0_ x0_' x0'_ x0'_' x1_ x1_' x1'_ x1'_') :=
  Walks.ok (fun _ _ _=>PureRuns.of) (wk26 x0_ x0_' x0'_ x0'_' x1_ x1_' x1'_ x1'_') (by kernel_rfl)

theorem ok26:PureOk Go.Proofs.Try.prog 26 p26:=pureOk_of kf112_ok.base (T:=fun (d:Tys.data as26)=>t26 d.1.1.1 d.1.1.2.1 d.1.2.1.1 d.1.2.1.2.1 d.2.1.1.1 d.2.1.1.2.1 d.2.1.2.1.1 d.2.1.2.1.2.1) (by kernel_rfl) (fun (d:Tys.data as26)=>ok26_t d.1.1.1 d.1.1.2.1 d.1.2.1.1 d.1.2.1.2.1 d.2.1.1.1 d.2.1.1.2.1 d.2.1.2.1.1 d.2.1.2.1.2.1)
def kf26 (P:Go.Program):Known:=(kf112 P).func 26 p26
theorem kf26_ok:KnownOk Go.Proofs.Try.prog (kf26 Go.Proofs.Try.prog):=kf112_ok.func ok26

/-! ductility/ductilitybase.RatioSub -/

abbrev as88:List Ty:=[(.pair (.pair (.int .i64) (.pair (.slice (.int .i64)) .unit)) (.pair (.pair (.int .i64) (.pair (.slice (.int .i64)) .unit)) .unit)),(.pair (.pair (.int .i64) (.pair (.slice (.int .i64)) .unit)) (.pair (.pair (.int .i64) (.pair (.slice (.int .i64)) .unit)) .unit))]
abbrev rs88:List Ty:=[(.pair (.pair (.int .i64) (.pair (.slice (.int .i64)) .unit)) (.pair (.pair (.int .i64) (.pair (.slice (.int .i64)) .unit)) .unit))]

def t88 (x0_:Int) (x0_':(List Int)) (x0'_:Int) (x0'_':(List Int)) (x1_:Int) (x1_':(List Int)) (x1'_:Int) (x1'_':(List Int)):Tr (Tys.data rs88) :=
  Tr.test (Option.isSome (f112 (((x1_,(x1_',())),((x1'_,(x1'_',())),())),())))
    (let r0:=g112 (((x1_,(x1_',())),((x1'_,(x1'_',())),())),());
    Tr.test (Option.isSome (f26 (((x0_,(x0_',())),((x0'_,(x0'_',())),())),(((r0.1.1.1,(r0.1.1.2.1,())),((r0.1.2.1.1,(r0.1.2.1.2.1,())),())),()))))
      (let r1:=g26 (((x0_,(x0_',())),((x0'_,(x0'_',())),())),(((r0.1.1.1,(r0.1.1.2.1,())),((r0.1.2.1.1,(r0.1.2.1.2.1,())),())),()));
      Tr.fin ((((r1.1.1.1,(r1.1.1.2.1,())),((r1.1.2.1.1,(r1.1.2.1.2.1,())),())),())))
      (Tr.stop))
    (Tr.stop)

def f88 (d:Tys.data as88):Option (Tys.data rs88):=(t88 d.1.1.1 d.1.1.2.1 d.1.2.1.1 d.1.2.1.2.1 d.2.1.1.1 d.2.1.1.2.1 d.2.1.2.1.1 d.2.1.2.1.2.1).val
def g88 (d:Tys.data as88):Tys.data rs88:=(f88 d).getD (Tys.dflt rs88)
def p88:PureC:=pcOf as88 rs88 f88 g88

theorem wk88 (x0_:Int) (x0_':(List Int)) (x0'_:Int) (x0'_':(List Int)) (x1_:Int) (x1_':(List Int)) (x1'_:Int) (x1'_':(List Int)):Walks (runPure (kf26 Go.Proofs.Try.prog).orc Go.Proofs.Try.prog 400 88 as88 rs88 (((x0_,x0_',()),(x0'_,x0'_',()),()),((x1_,x1_',()),(x1'_,x1'_',()),()),())) (t88 x0_ x0_' x0'_ x0'_' x1_ x1_' x1'_ x1'_') [([true,true],[2,4])] :=
  ⟨by kernel_rfl,trivial⟩

theorem ok88_t (x0_:Int) (x0_':(List Int)) (x0'_:Int) (x0'_':(List Int)) (x1_:Int) (x1_':(List Int)) (x1'_:Int) (x1'_':(List Int)):TrOk (PureRuns Go.Proofs.Try.prog (kf26 Go.Proofs.Try.prog).orc 88 as88 rs88 (((x0_,x0_',()),(x0'_,x0'_',()),()),((x1_,x1_',()),(x1'_,x1'_',()),()),())) (t88 x0_ x0_' x0'_ x0'_' x1_ x1_' x1'_ x1'_') :=
  Walks.ok (fun _ _ _=>PureRuns.of) (wk88 x0_ x0_' x0'_ x0'_' x1_ x1_' x1'_ x1'_') (by kernel_rfl)

theorem ok88:PureOk Go.Proofs.Try.prog 88 p88:=pureOk_of kf26_ok.base (T:=fun (d:Tys.data as88)=>t88 d.1.1.1 d.1.1.2.1 d.1.2.1.1 d.1.2.1.2.1 d.2.1.1.1 d.2.1.1.2.1 d.2.1.2.1.1 d.2.1.2.1.2.1) (by kernel_rfl) (fun (d:Tys.data as88)=>ok88_t d.1.1.1 d.1.1.2.1 d.1.2.1.1 d.1.2.1.2.1 d.2.1.1.1 d.2.1.1.2.1 d.2.1.2.1.1 d.2.1.2.1.2.1)
def kf88 (P:Go.Program):Known:=(kf26 P).func 88 p88
theorem kf88_ok:KnownOk Go.Proofs.Try.prog (kf88 Go.Proofs.Try.prog):=kf26_ok.func ok88

/-! loop 0 of ductility/ductilityref06.Determinants -/

abbrev sh58_0:Sh:={ n:=64,slots:=[2,3,5,6],pats:=[.ptr 0 2 0,.ptr 1 4 0,.acc (.pair (.pair (.int .i64) (.pair (.slice (.int .i64)) .unit)) (.pair (.pair (.int .i64) (.pair (.slice (.int .i64)) .unit)) .unit)),.ty (.int .i64)],boxes:=[.row [.ty (.slice (.int .i64)),.ty (.slice (.int .i64))],.row [.ty (.int .i64),.ty (.slice (.int .i64)),.ty (.int .i64),.ty (.slice (.int .i64))]] }
abbrev shb58_0:Sh:={ n:=64,slots:=[5],pats:=[.acc (.pair (.pair (.int .i64) (.pair (.slice (.int .i64)) .unit)) (.pair (.pair (.int .i64) (.pair (.slice (.int .i64)) .unit)) .unit))],boxes:=[.row [.ty (.slice (.int .i64)),.ty (.slice (.int .i64))],.row [.ty (.int .i64),.ty (.slice (.int .i64)),.ty (.int .i64),.ty (.slice (.int .i64))]] }
abbrev shr58_0:Sh:={ n:=64,slots:=[],pats:=[],boxes:=[.row [.ty (.slice (.int .i64)),.ty (.slice (.int .i64))],.row [.ty (.int .i64),.ty (.slice (.int .i64)),.ty (.int .i64),.ty (.slice (.int .i64))]] }

def t58_0 (x2:(List ((Int×((List Int)×Unit))×((Int×((List Int)×Unit))×Unit)))) (x3:Int) (b0_0:(List Int)) (b0_1:(List Int)) (b1_0:Int) (b1_1:(List Int)) (b1_2:Int) (b1_3:(List Int)):Tr (Out sh58_0.data shb58_0.data shr58_0.data) :=
  Tr.test ((!leF (↑(List.length b0_0):Int) x3:Bool))
    (Tr.test (Option.isSome (f89 ((b0_0,(b0_1,())),(x3,()))))
      (let r0:=g89 ((b0_0,(b0_1,())),(x3,()));
      Tr.test (Option.isSome (f25 (r0.1,())))
        (Tr.test ((decide ((0:Int) ≤ x3) && decide (x3 < (↑(List.length b0_0):Int)):Bool))
          (Tr.test (Option.isSome (f25 ((List.getD b0_0 (Int.toNat x3) (0:Int):Int),())))
            (let r2:=g25 ((List.getD b0_0 (Int.toNat x3) (0:Int):Int),());
            Tr.test (Option.isSome (f27 (((b1_0,(b1_1,())),((b1_2,(b1_3,())),())),(((r2.1.1.1,(r2.1.1.2.1,())),((r2.1.2.1.1,(r2.1.2.1.2.1,())),())),()))))
              (let r1:=g25 (r0.1,());
              let r3:=g27 (((b1_0,(b1_1,())),((b1_2,(b1_3,())),())),(((r2.1.1.1,(r2.1.1.2.1,())),((r2.1.2.1.1,(r2.1.2.1.2.1,())),())),()));
              Tr.test (Option.isSome (f88 (((r1.1.1.1,(r1.1.1.2.1,())),((r1.1.2.1.1,(r1.1.2.1.2.1,())),())),(((r3.1.1.1,(r3.1.1.2.1,())),((r3.1.2.1.1,(r3.1.2.1.2.1,())),())),()))))
                (Tr.test ((decide ((0:Int) ≤ x3) && decide (x3 < (↑(List.length x2):Int)):Bool))
                  (let r4:=g88 (((r1.1.1.1,(r1.1.1.2.1,())),((r1.1.2.1.1,(r1.1.2.1.2.1,())),())),(((r3.1.1.1,(r3.1.1.2.1,())),((r3.1.2.1.1,(r3.1.2.1.2.1,())),())),()));
                  Tr.test (Option.isSome (f27 (((r4.1.1.1,(r4.1.1.2.1,())),((r4.1.2.1.1,(r4.1.2.1.2.1,())),())),(((((List.getD x2 (Int.toNat x3) (((0:Int),[],()),((0:Int),[],()),())).1.1:Int),(((List.getD x2 (Int.toNat x3) (((0:Int),[],()),((0:Int),[],()),())).1.2.1:List Int),())),((((List.getD x2 (Int.toNat x3) (((0:Int),[],()),((0:Int),[],()),())).2.1.1:Int),(((List.getD x2 (Int.toNat x3) (((0:Int),[],()),((0:Int),[],()),())).2.1.2.1:List Int),())),())),()))))
                    (Tr.test ((!leF x3 0:Bool))
                      (Tr.test ((decide ((0:Int) ≤ x3) && decide (x3 < (↑(List.length b0_1):Int)):Bool))
                        (Tr.test (Option.isSome (f25 ((wrap64 (List.getD b0_1 (Int.toNat x3) (0:Int) * List.getD b0_1 (Int.toNat x3) (0:Int)):Int),())))
                          (Tr.test ((decide ((0:Int) ≤ wrap64 (x3 - (1:Int))) && decide (wrap64 (x3 - (1:Int)) < (↑(List.length x2):Int)):Bool))
                            (let r6:=g25 ((wrap64 (List.getD b0_1 (Int.toNat x3) (0:Int) * List.getD b0_1 (Int.toNat x3) (0:Int)):Int),());
                            Tr.test (Option.isSome (f27 (((r6.1.1.1,(r6.1.1.2.1,())),((r6.1.2.1.1,(r6.1.2.1.2.1,())),())),(((((List.getD x2 (Int.toNat (wrap64 (x3 - (1:Int)))) (((0:Int),[],()),((0:Int),[],()),())).1.1:Int),(((List.getD x2 (Int.toNat (wrap64 (x3 - (1:Int)))) (((0:Int),[],()),((0:Int),[],()),())).1.2.1:List Int),())),((((List.getD x2 (Int.toNat (wrap64 (x3 - (1:Int)))) (((0:Int),[],()),((0:Int),[],()),())).2.1.1:Int),(((List.getD x2 (Int.toNat (wrap64 (x3 - (1:Int)))) (((0:Int),[],()),((0:Int),[],()),())).2.1.2.1:List Int),())),())),()))))
                              (let r5:=g27 (((r4.1.1.1,(r4.1.1.2.1,())),((r4.1.2.1.1,(r4.1.2.1.2.1,())),())),(((((List.getD x2 (Int.toNat x3) (((0:Int),[],()),((0:Int),[],()),())).1.1:Int),(((List.getD x2 (Int.toNat x3) (((0:Int),[],()),((0:Int),[],()),())).1.2.1:List Int),())),((((List.getD x2 (Int.toNat x3) (((0:Int),[],()),((0:Int),[],()),())).2.1.1:Int),(((List.getD x2 (Int.toNat x3) (((0:Int),[],()),((0:Int),[],()),())).2.1.2.1:List Int),())),())),()));
                              let r7:=g27 (((r6.1.1.1,(r6.1.1.2.1,())),((r6.1.2.1.1,(r6.1.2.1.2.1,())),())),(((((List.getD x2 (Int.toNat (wrap64 (x3 - (1:Int)))) (((0:Int),[],()),((0:Int),[],()),())).1.1:Int),(((List.getD x2 (Int.toNat (wrap64 (x3 - (1:Int)))) (((0:Int),[],()),((0:Int),[],()),())).1.2.1:List Int),())),((((List.getD x2 (Int.toNat (wrap64 (x3 - (1:Int)))) (((0:Int),[],()),((0:Int),[],()),())).2.1.1:Int),(((List.getD x2 (Int.toNat (wrap64 (x3 - (1:Int)))) (((0:Int),[],()),((0:Int),[],()),())).2.1.2.1:List Int),())),())),()));
                              Tr.test (Option.isSome (f88 (((r5.1.1.1,(r5.1.1.2.1,())),((r5.1.2.1.1,(r5.1.2.1.2.1,())),())),(((r7.1.1.1,(r7.1.1.2.1,())),((r7.1.2.1.1,(r7.1.2.1.2.1,())),())),()))))
                                (Tr.test ((Nat.ble (((2:Nat) * (List.length x2 + (1:Nat)) + (192:Nat)) * (64:Nat)) (281474976710656:Nat) && Nat.ble (List.length x2 + (1:Nat)) (281474976710656:Nat):Bool))
                                  (let r8:=g88 (((r5.1.1.1,(r5.1.1.2.1,())),((r5.1.2.1.1,(r5.1.2.1.2.1,())),())),(((r7.1.1.1,(r7.1.1.2.1,())),((r7.1.2.1.1,(r7.1.2.1.2.1,())),())),()));
                                  Tr.fin (.again (((x2++[((r8.1.1.1,r8.1.1.2.1,()),(r8.1.2.1.1,r8.1.2.1.2.1,()),())]:List ((Int×List Int×PUnit)×(Int×List Int×PUnit)×PUnit)),((wrap64 (x3 + (1:Int)):Int),())),((b0_0,(b0_1,())),((b1_0,(b1_1,(b1_2,(b1_3,())))),())))))
                                  (Tr.stop))
                                (Tr.stop))
                              (Tr.stop))
                            (Tr.stop))
                          (Tr.stop))
                        (Tr.stop))
                      (Tr.test ((Nat.ble (((2:Nat) * (List.length x2 + (1:Nat)) + (192:Nat)) * (64:Nat)) (281474976710656:Nat) && Nat.ble (List.length x2 + (1:Nat)) (281474976710656:Nat):Bool))
                        (let r5:=g27 (((r4.1.1.1,(r4.1.1.2.1,())),((r4.1.2.1.1,(r4.1.2.1.2.1,())),())),(((((List.getD x2 (Int.toNat x3) (((0:Int),[],()),((0:Int),[],()),())).1.1:Int),(((List.getD x2 (Int.toNat x3) (((0:Int),[],()),((0:Int),[],()),())).1.2.1:List Int),())),((((List.getD x2 (Int.toNat x3) (((0:Int),[],()),((0:Int),[],()),())).2.1.1:Int),(((List.getD x2 (Int.toNat x3) (((0:Int),[],()),((0:Int),[],()),())).2.1.2.1:List Int),())),())),()));
                        Tr.fin (.again (((x2++[((r5.1.1.1,r5.1.1.2.1,()),(r5.1.2.1.1,r5.1.2.1.2.1,()),())]:List ((Int×List Int×PUnit)×(Int×List Int×PUnit)×PUnit)),((wrap64 (x3 + (1:Int)):Int),())),((b0_0,(b0_1,())),((b1_0,(b1_1,(b1_2,(b1_3,())))),())))))
                        (Tr.stop)))
                    (Tr.stop))
                  (Tr.stop))
                (Tr.stop))
              (Tr.stop))
            (Tr.stop))
          (Tr.stop))
        (Tr.stop))
      (Tr.stop))
    (Tr.fin (.brk ((x2,()),((b0_0,(b0_1,())),((b1_0,(b1_1,(b1_2,(b1_3,())))),())))))

def s58_0 (d:sh58_0.data):Option (Out sh58_0.data shb58_0.data shr58_0.data):=(t58_0 d.1.1 d.1.2.1 d.2.1.1 d.2.1.2.1 d.2.2.1.1 d.2.2.1.2.1 d.2.2.1.2.2.1 d.2.2.1.2.2.2.1).val
def l58_0 (d:sh58_0.data):Option (shb58_0.data ⊕ shr58_0.data):=itr s58_0 rounds d
def b58_0 (d:sh58_0.data):shb58_0.data:=outB shb58_0.dflt (l58_0 d)
def lc58_0:LoopC:=lcB sh58_0 shb58_0 shr58_0 l58_0 b58_0

theorem wk58_0 (x2:(List ((Int×((List Int)×Unit))×((Int×((List Int)×Unit))×Unit)))) (x3:Int) (b0_0:(List Int)) (b0_1:(List Int)) (b1_0:Int) (b1_1:(List Int)) (b1_2:Int) (b1_3:(List Int)):Walks (runBody (kf88 Go.Proofs.Try.prog).orc Go.Proofs.Try.prog 400 58 0 sh58_0 shb58_0 shr58_0 ((x2,x3,()),(b0_0,b0_1,()),(b1_0,b1_1,b1_2,b1_3,()),())) (t58_0 x2 x3 b0_0 b0_1 b1_0 b1_1 b1_2 b1_3) [([true,true,true,true,true,true,true,true,true,true,true,true,true,true,true,true],[1,2,0,4,6,8,10,12,12,14,16,18,20,22,24,26,28,30,32]),([true,true,true,true,true,true,true,true,true,false,true],[1,2,0,4,6,8,10,12,14,16,18,20,22]),([ff],[2])] :=
  ⟨by kernel_rfl,by kernel_rfl,by kernel_rfl,trivial⟩

theorem ok58_0_t (x2:(List ((Int×((List Int)×Unit))×((Int×((List Int)×Unit))×Unit)))) (x3:Int) (b0_0:(List Int)) (b0_1:(List Int)) (b1_0:Int) (b1_1:(List Int)) (b1_2:Int) (b1_3:(List Int)):TrOk (BodyRuns Go.Proofs.Try.prog (kf88 Go.Proofs.Try.prog).orc 58 0 sh58_0 shb58_0 shr58_0 ((x2,x3,()),(b0_0,b0_1,()),(b1_0,b1_1,b1_2,b1_3,()),())) (t58_0 x2 x3 b0_0 b0_1 b1_0 b1_1 b1_2 b1_3) :=
  Walks.ok (fun _ _ _=>BodyRuns.of) (wk58_0 x2 x3 b0_0 b0_1 b1_0 b1_1 b1_2 b1_3) (by kernel_rfl)

theorem ok58_0:LoopOk Go.Proofs.Try.prog 58 0 lc58_0:=loopOk_ofB (sh:=sh58_0) (shB:=shb58_0) (shR:=shr58_0) kf88_ok.base (T:=fun (d:sh58_0.data)=>t58_0 d.1.1 d.1.2.1 d.2.1.1 d.2.1.2.1 d.2.2.1.1 d.2.2.1.2.1 d.2.2.1.2.2.1 d.2.2.1.2.2.2.1) (by kernel_rfl) rfl (fun (d:sh58_0.data)=>ok58_0_t d.1.1 d.1.2.1 d.2.1.1 d.2.1.2.1 d.2.2.1.1 d.2.2.1.2.1 d.2.2.1.2.2.1 d.2.2.1.2.2.2.1) (fun _=>rfl)
def kl58_0 (P:Go.Program):Known:=(kf88 P).loop 58 0 lc58_0
theorem kl58_0_ok:KnownOk Go.Proofs.Try.prog (kl58_0 Go.Proofs.Try.prog):=kf88_ok.loop ok58_0

/-! ductility/ductilityref06.Determinants -/

abbrev as58:List Ty:=[(.pair (.slice (.int .i64)) (.pair (.slice (.int .i64)) .unit)),(.pair (.pair (.int .i64) (.pair (.slice (.int .i64)) .unit)) (.pair (.pair (.int .i64) (.pair (.slice (.int .i64)) .unit)) .unit))]
abbrev rs58:List Ty:=[(.slice (.pair (.pair (.int .i64) (.pair (.slice (.int .i64)) .unit)) (.pair (.pair (.int .i64) (.pair (.slice (.int .i64)) .unit)) .unit)))]

def t58 (x0:(List Int)) (x0':(List Int)) (x1_:Int) (x1_':(List Int)) (x1'_:Int) (x1'_':(List Int)):Tr (Tys.data rs58) :=
  Tr.test (Option.isSome (f25 ((1:Int),())))
    (let r0:=g25 ((1:Int),());
    Tr.test (isBrk (l58_0 ((([((r0.1.1.1,r0.1.1.2.1,()),(r0.1.2.1.1,r0.1.2.1.2.1,()),())]:List ((Int×List Int×PUnit)×(Int×List Int×PUnit)×PUnit)),((0:Int),())),((x0,(x0',())),((x1_,(x1_',(x1'_,(x1'_',())))),())))))
      (let r1:=b58_0 ((([((r0.1.1.1,r0.1.1.2.1,()),(r0.1.2.1.1,r0.1.2.1.2.1,()),())]:List ((Int×List Int×PUnit)×(Int×List Int×PUnit)×PUnit)),((0:Int),())),((x0,(x0',())),((x1_,(x1_',(x1'_,(x1'_',())))),())));
      Tr.fin (((r1.1.1:List ((Int×List Int×PUnit)×(Int×List Int×PUnit)×PUnit)),())))
      (Tr.stop))
    (Tr.stop)

def f58 (d:Tys.data as58):Option (Tys.data rs58):=(t58 d.1.1 d.1.2.1 d.2.1.1.1 d.2.1.1.2.1 d.2.1.2.1.1 d.2.1.2.1.2.1).val
def g58 (d:Tys.data as58):Tys.data rs58:=(f58 d).getD (Tys.dflt rs58)
def p58:PureC:=pcOf as58 rs58 f58 g58

theorem wk58 (x0:(List Int)) (x0':(List Int)) (x1_:Int) (x1_':(List Int)) (x1'_:Int) (x1'_':(List Int)):Walks (runPure (kl58_0 Go.Proofs.Try.prog).orc Go.Proofs.Try.prog 400 58 as58 rs58 ((x0,x0',()),((x1_,x1_',()),(x1'_,x1'_',()),()),())) (t58 x0 x0' x1_ x1_' x1'_ x1'_') [([true,true],[1,2,4])] :=
  ⟨by kernel_rfl,trivial⟩

theorem ok58_t (x0:(List Int)) (x0':(List Int)) (x1_:Int) (x1_':(List Int)) (x1'_:Int) (x1'_':(List Int)):TrOk (PureRuns Go.Proofs.Try.prog (kl58_0 Go.Proofs.Try.prog).orc 58 as58 rs58 ((x0,x0',()),((x1_,x1_',()),(x1'_,x1'_',()),()),())) (t58 x0 x0' x1_ x1_' x1'_ x1'_') :=
  Walks.ok (fun _ _ _=>PureRuns.of) (wk58 x0 x0' x1_ x1_' x1'_ x1'_') (by kernel_rfl)

theorem ok58:PureOk Go.Proofs.Try.prog 58 p58:=pureOk_of kl58_0_ok.base (T:=fun (d:Tys.data as58)=>t58 d.1.1 d.1.2.1 d.2.1.1.1 d.2.1.1.2.1 d.2.1.2.1.1 d.2.1.2.1.2.1) (by kernel_rfl) (fun (d:Tys.data as58)=>ok58_t d.1.1 d.1.2.1 d.2.1.1.1 d.2.1.1.2.1 d.2.1.2.1.1 d.2.1.2.1.2.1)
def kf58 (P:Go.Program):Known:=(kl58_0 P).func 58 p58
theorem kf58_ok:KnownOk Go.Proofs.Try.prog (kf58 Go.Proofs.Try.prog):=kl58_0_ok.func ok58

/-! ductility/ductilitybase.RatioSign -/

abbrev as28:List Ty:=[(.pair (.pair (.int .i64) (.pair (.slice (.int .i64)) .unit)) (.pair (.pair (.int .i64) (.pair (.slice (.int .i64)) .unit)) .unit))]
abbrev rs28:List Ty:=[(.int .i64)]

def t28 (x0_:Int) (x0_':(List Int)) (x0'_:Int) (x0'_':(List Int)):Tr (Tys.data rs28) :=
  Tr.test (Option.isSome (f65 ((x0_,(x0_',())),())))
    (let r0:=g65 ((x0_,(x0_',())),());
    Tr.fin ((r0.1,())))
    (Tr.stop)

def f28 (d:Tys.data as28):Option (Tys.data rs28):=(t28 d.1.1.1 d.1.1.2.1 d.1.2.1.1 d.1.2.1.2.1).val
def g28 (d:Tys.data as28):Tys.data rs28:=(f28 d).getD (Tys.dflt rs28)
def p28:PureC:=pcOf as28 rs28 f28 g28

theorem wk28 (x0_:Int) (x0_':(List Int)) (x0'_:Int) (x0'_':(List Int)):Walks (runPure (kf58 Go.Proofs.Try.prog).orc Go.Proofs.Try.prog 400 28 as28 rs28 (((x0_,x0_',()),(x0'_,x0'_',()),()),())) (t28 x0_ x0_' x0'_ x0'_') [([tt],[2])] :=
  ⟨by kernel_rfl,trivial⟩

theorem ok28_t (x0_:Int) (x0_':(List Int)) (x0'_:Int) (x0'_':(List Int)):TrOk (PureRuns Go.Proofs.Try.prog (kf58 Go.Proofs.Try.prog).orc 28 as28 rs28 (((x0_,x0_',()),(x0'_,x0'_',()),()),())) (t28 x0_ x0_' x0'_ x0'_') :=
  Walks.ok (fun _ _ _=>PureRuns.of) (wk28 x0_ x0_' x0'_ x0'_') (by kernel_rfl)

theorem ok28:PureOk Go.Proofs.Try.prog 28 p28:=pureOk_of kf58_ok.base (T:=fun (d:Tys.data as28)=>t28 d.1.1.1 d.1.1.2.1 d.1.2.1.1 d.1.2.1.2.1) (by kernel_rfl) (fun (d:Tys.data as28)=>ok28_t d.1.1.1 d.1.1.2.1 d.1.2.1.1 d.1.2.1.2.1)
def kf28 (P:Go.Program):Known:=(kf58 P).func 28 p28
theorem kf28_ok:KnownOk Go.Proofs.Try.prog (kf28 Go.Proofs.Try.prog):=kf58_ok.func ok28

/-! loop 0 of ductility/ductilityref06.Below -/

abbrev sh18_0:Sh:={ n:=37,slots:=[5,6,7,8],pats:=[.ty (.slice (.pair (.pair (.int .i64) (.pair (.slice (.int .i64)) .unit)) (.pair (.pair (.int .i64) (.pair (.slice (.int .i64)) .unit)) .unit))),.ty (.int .i64),.ty (.int .i64),.ty (.int .i64)],boxes:=[] }
abbrev shb18_0:Sh:={ n:=37,slots:=[6],pats:=[.ty (.int .i64)],boxes:=[] }
abbrev shr18_0:Sh:={ n:=37,slots:=[],pats:=[],boxes:=[] }

def t18_0 (x0:(List ((Int×((List Int)×Unit))×((Int×((List Int)×Unit))×Unit)))) (x1:Int) (x2:Int) (x3:Int):Tr (Out sh18_0.data shb18_0.data shr18_0.data) :=
  Tr.test ((!leF (↑(List.length x0):Int) x3:Bool))
    (Tr.test (decide ((0:Int) ≤ x3) && decide (x3 < (↑(List.length x0):Int)))
      (Tr.test (Option.isSome (f28 (((((List.getD x0 (Int.toNat x3) (((0:Int),[],()),((0:Int),[],()),())).1.1:Int),(((List.getD x0 (Int.toNat x3) (((0:Int),[],()),((0:Int),[],()),())).1.2.1:List Int),())),((((List.getD x0 (Int.toNat x3) (((0:Int),[],()),((0:Int),[],()),())).2.1.1:Int),(((List.getD x0 (Int.toNat x3) (((0:Int),[],()),((0:Int),[],()),())).2.1.2.1:List Int),())),())),())))
        (let r0:=g28 (((((List.getD x0 (Int.toNat x3) (((0:Int),[],()),((0:Int),[],()),())).1.1:Int),(((List.getD x0 (Int.toNat x3) (((0:Int),[],()),((0:Int),[],()),())).1.2.1:List Int),())),((((List.getD x0 (Int.toNat x3) (((0:Int),[],()),((0:Int),[],()),())).2.1.1:Int),(((List.getD x0 (Int.toNat x3) (((0:Int),[],()),((0:Int),[],()),())).2.1.2.1:List Int),())),())),());
        Tr.test ((!eqF r0.1 0:Bool))
          (Tr.test ((!eqF r0.1 x2:Bool))
            (Tr.fin (.again ((x0,((wrap64 (x1 + (1:Int)):Int),(r0.1,((wrap64 (x3 + (1:Int)):Int),())))),())))
            (Tr.fin (.again ((x0,(x1,(r0.1,((wrap64 (x3 + (1:Int)):Int),())))),()))))
          (Tr.fin (.again ((x0,(x1,(x2,((wrap64 (x3 + (1:Int)):Int),())))),()))))
        (Tr.stop))
      (Tr.stop))
    (Tr.fin (.brk ((x1,()),())))

def s18_0 (d:sh18_0.data):Option (Out sh18_0.data shb18_0.data shr18_0.data):=(t18_0 d.1.1 d.1.2.1 d.1.2.2.1 d.1.2.2.2.1).val
def l18_0 (d:sh18_0.data):Option (shb18_0.data ⊕ shr18_0.data):=itr s18_0 rounds d
def b18_0 (d:sh18_0.data):shb18_0.data:=outB shb18_0.dflt (l18_0 d)
def lc18_0:LoopC:=lcB sh18_0 shb18_0 shr18_0 l18_0 b18_0

theorem wk18_0 (x0:(List ((Int×((List Int)×Unit))×((Int×((List Int)×Unit))×Unit)))) (x1:Int) (x2:Int) (x3:Int):Walks (runBody (kf28 Go.Proofs.Try.prog).orc Go.Proofs.Try.prog 400 18 0 sh18_0 shb18_0 shr18_0 ((x0,x1,x2,x3,()),())) (t18_0 x0 x1 x2 x3) [([true,true,true,true,true],[4,2,4,4,4,4,6,8,10]),([true,true,true,true,false],[4,2,4,4,4,4,6,8,10]),([true,true,true,false],[2,0,2,2,2,2,4,6,8]),([ff],[2])] :=
  ⟨by kernel_rfl,by kernel_rfl,by kernel_rfl,by kernel_rfl,trivial⟩

theorem ok18_0_t (x0:(List ((Int×((List Int)×Unit))×((Int×((List Int)×Unit))×Unit)))) (x1:Int) (x2:Int) (x3:Int):TrOk (BodyRuns Go.Proofs.Try.prog (kf28 Go.Proofs.Try.prog).orc 18 0 sh18_0 shb18_0 shr18_0 ((x0,x1,x2,x3,()),())) (t18_0 x0 x1 x2 x3) :=
  Walks.ok (fun _ _ _=>BodyRuns.of) (wk18_0 x0 x1 x2 x3) (by kernel_rfl)

theorem ok18_0:LoopOk Go.Proofs.Try.prog 18 0 lc18_0:=loopOk_ofB (sh:=sh18_0) (shB:=shb18_0) (shR:=shr18_0) kf28_ok.base (T:=fun (d:sh18_0.data)=>t18_0 d.1.1 d.1.2.1 d.1.2.2.1 d.1.2.2.2.1) (by kernel_rfl) rfl (fun (d:sh18_0.data)=>ok18_0_t d.1.1 d.1.2.1 d.1.2.2.1 d.1.2.2.2.1) (fun _=>rfl)
def kl18_0 (P:Go.Program):Known:=(kf28 P).loop 18 0 lc18_0
theorem kl18_0_ok:KnownOk Go.Proofs.Try.prog (kl18_0 Go.Proofs.Try.prog):=kf28_ok.loop ok18_0

/-! ductility/ductilityref06.Below -/

abbrev as18:List Ty:=[(.pair (.slice (.int .i64)) (.pair (.slice (.int .i64)) .unit)),(.pair (.pair (.int .i64) (.pair (.slice (.int .i64)) .unit)) (.pair (.pair (.int .i64) (.pair (.slice (.int .i64)) .unit)) .unit))]
abbrev rs18:List Ty:=[(.int .i64)]

def t18 (x0:(List Int)) (x0':(List Int)) (x1_:Int) (x1_':(List Int)) (x1'_:Int) (x1'_':(List Int)):Tr (Tys.data rs18) :=
  Tr.test (Option.isSome (f58 ((x0,(x0',())),(((x1_,(x1_',())),((x1'_,(x1'_',())),())),()))))
    (let r0:=g58 ((x0,(x0',())),(((x1_,(x1_',())),((x1'_,(x1'_',())),())),()));
    Tr.test (isBrk (l18_0 (((r0.1:List ((Int×List Int×PUnit)×(Int×List Int×PUnit)×PUnit)),((0:Int),((1:Int),((1:Int),())))),())))
      (let r1:=b18_0 (((r0.1:List ((Int×List Int×PUnit)×(Int×List Int×PUnit)×PUnit)),((0:Int),((1:Int),((1:Int),())))),());
      Tr.fin ((r1.1.1,())))
      (Tr.stop))
    (Tr.stop)

def f18 (d:Tys.data as18):Option (Tys.data rs18):=(t18 d.1.1 d.1.2.1 d.2.1.1.1 d.2.1.1.2.1 d.2.1.2.1.1 d.2.1.2.1.2.1).val
def g18 (d:Tys.data as18):Tys.data rs18:=(f18 d).getD (Tys.dflt rs18)
def p18:PureC:=pcOf as18 rs18 f18 g18

theorem wk18 (x0:(List Int)) (x0':(List Int)) (x1_:Int) (x1_':(List Int)) (x1'_:Int) (x1'_':(List Int)):Walks (runPure (kl18_0 Go.Proofs.Try.prog).orc Go.Proofs.Try.prog 400 18 as18 rs18 ((x0,x0',()),((x1_,x1_',()),(x1'_,x1'_',()),()),())) (t18 x0 x0' x1_ x1_' x1'_ x1'_') [([true,true],[1,2,4])] :=
  ⟨by kernel_rfl,trivial⟩

theorem ok18_t (x0:(List Int)) (x0':(List Int)) (x1_:Int) (x1_':(List Int)) (x1'_:Int) (x1'_':(List Int)):TrOk (PureRuns Go.Proofs.Try.prog (kl18_0 Go.Proofs.Try.prog).orc 18 as18 rs18 ((x0,x0',()),((x1_,x1_',()),(x1'_,x1'_',()),()),())) (t18 x0 x0' x1_ x1_' x1'_ x1'_') :=
  Walks.ok (fun _ _ _=>PureRuns.of) (wk18 x0 x0' x1_ x1_' x1'_ x1'_') (by kernel_rfl)

theorem ok18:PureOk Go.Proofs.Try.prog 18 p18:=pureOk_of kl18_0_ok.base (T:=fun (d:Tys.data as18)=>t18 d.1.1 d.1.2.1 d.2.1.1.1 d.2.1.1.2.1 d.2.1.2.1.1 d.2.1.2.1.2.1) (by kernel_rfl) (fun (d:Tys.data as18)=>ok18_t d.1.1 d.1.2.1 d.2.1.1.1 d.2.1.1.2.1 d.2.1.2.1.1 d.2.1.2.1.2.1)
def kf18 (P:Go.Program):Known:=(kl18_0 P).func 18 p18
theorem kf18_ok:KnownOk Go.Proofs.Try.prog (kf18 Go.Proofs.Try.prog):=kl18_0_ok.func ok18

/-! ductility/ductilityref06.IsMode -/

abbrev as19:List Ty:=[(.pair (.slice (.int .i64)) (.pair (.slice (.int .i64)) .unit)),(.pair (.pair (.int .i64) (.pair (.slice (.int .i64)) .unit)) (.pair (.pair (.int .i64) (.pair (.slice (.int .i64)) .unit)) .unit))]
abbrev rs19:List Ty:=[.bool]

def t19 (x0:(List Int)) (x0':(List Int)) (x1_:Int) (x1_':(List Int)) (x1'_:Int) (x1'_':(List Int)):Tr (Tys.data rs19) :=
  Tr.test (Option.isSome (f58 ((x0,(x0',())),(((x1_,(x1_',())),((x1'_,(x1'_',())),())),()))))
    (let r0:=g58 ((x0,(x0',())),(((x1_,(x1_',())),((x1'_,(x1'_',())),())),()));
    Tr.test ((decide ((0:Int) ≤ wrap64 ((↑(List.length r0.1):Int) - (1:Int))) && decide (wrap64 ((↑(List.length r0.1):Int) - (1:Int)) < (↑(List.length r0.1):Int)):Bool))
      (Tr.test (Option.isSome (f28 (((((List.getD r0.1 (Int.toNat (wrap64 ((↑(List.length r0.1):Int) - (1:Int)))) (((0:Int),[],()),((0:Int),[],()),())).1.1:Int),(((List.getD r0.1 (Int.toNat (wrap64 ((↑(List.length r0.1):Int) - (1:Int)))) (((0:Int),[],()),((0:Int),[],()),())).1.2.1:List Int),())),((((List.getD r0.1 (Int.toNat (wrap64 ((↑(List.length r0.1):Int) - (1:Int)))) (((0:Int),[],()),((0:Int),[],()),())).2.1.1:Int),(((List.getD r0.1 (Int.toNat (wrap64 ((↑(List.length r0.1):Int) - (1:Int)))) (((0:Int),[],()),((0:Int),[],()),())).2.1.2.1:List Int),())),())),())))
        (let r1:=g28 (((((List.getD r0.1 (Int.toNat (wrap64 ((↑(List.length r0.1):Int) - (1:Int)))) (((0:Int),[],()),((0:Int),[],()),())).1.1:Int),(((List.getD r0.1 (Int.toNat (wrap64 ((↑(List.length r0.1):Int) - (1:Int)))) (((0:Int),[],()),((0:Int),[],()),())).1.2.1:List Int),())),((((List.getD r0.1 (Int.toNat (wrap64 ((↑(List.length r0.1):Int) - (1:Int)))) (((0:Int),[],()),((0:Int),[],()),())).2.1.1:Int),(((List.getD r0.1 (Int.toNat (wrap64 ((↑(List.length r0.1):Int) - (1:Int)))) (((0:Int),[],()),((0:Int),[],()),())).2.1.2.1:List Int),())),())),());
        Tr.fin (((eqF r1.1 0:Bool),())))
        (Tr.stop))
      (Tr.stop))
    (Tr.stop)

def f19 (d:Tys.data as19):Option (Tys.data rs19):=(t19 d.1.1 d.1.2.1 d.2.1.1.1 d.2.1.1.2.1 d.2.1.2.1.1 d.2.1.2.1.2.1).val
def g19 (d:Tys.data as19):Tys.data rs19:=(f19 d).getD (Tys.dflt rs19)
def p19:PureC:=pcOf as19 rs19 f19 g19

theorem wk19 (x0:(List Int)) (x0':(List Int)) (x1_:Int) (x1_':(List Int)) (x1'_:Int) (x1'_':(List Int)):Walks (runPure (kf18 Go.Proofs.Try.prog).orc Go.Proofs.Try.prog 400 19 as19 rs19 ((x0,x0',()),((x1_,x1_',()),(x1'_,x1'_',()),()),())) (t19 x0 x0' x1_ x1_' x1'_ x1'_') [([true,true,true],[2,4,6])] :=
  ⟨by kernel_rfl,trivial⟩

theorem ok19_t (x0:(List Int)) (x0':(List Int)) (x1_:Int) (x1_':(List Int)) (x1'_:Int) (x1'_':(List Int)):TrOk (PureRuns Go.Proofs.Try.prog (kf18 Go.Proofs.Try.prog).orc 19 as19 rs19 ((x0,x0',()),((x1_,x1_',()),(x1'_,x1'_',()),()),())) (t19 x0 x0' x1_ x1_' x1'_ x1'_') :=
  Walks.ok (fun _ _ _=>PureRuns.of) (wk19 x0 x0' x1_ x1_' x1'_ x1'_') (by kernel_rfl)

theorem ok19:PureOk Go.Proofs.Try.prog 19 p19:=pureOk_of kf18_ok.base (T:=fun (d:Tys.data as19)=>t19 d.1.1 d.1.2.1 d.2.1.1.1 d.2.1.1.2.1 d.2.1.2.1.1 d.2.1.2.1.2.1) (by kernel_rfl) (fun (d:Tys.data as19)=>ok19_t d.1.1 d.1.2.1 d.2.1.1.1 d.2.1.1.2.1 d.2.1.2.1.1 d.2.1.2.1.2.1)
def kf19 (P:Go.Program):Known:=(kf18 P).func 19 p19
theorem kf19_ok:KnownOk Go.Proofs.Try.prog (kf19 Go.Proofs.Try.prog):=kf18_ok.func ok19

/-! loop 0 of ductility/ductilityref06.Enclosure -/

abbrev sh22_0:Sh:={ n:=51,slots:=[1,2,3,6,7,8],pats:=[.ty (.int .i64),.ty (.int .i64),.ptr 0 2 0,.ptr 1 2 0,.ty (.int .i64),.ty (.int .i64)],boxes:=[.row [.ty (.slice (.int .i64)),.ty (.slice (.int .i64))],.row [.ty (.int .i64),.ty (.int .i64)]] }
abbrev shb22_0:Sh:={ n:=51,slots:=[1,2,3,6,7],pats:=[.ty (.int .i64),.ty (.int .i64),.ptr 0 2 0,.ptr 1 2 0,.ty (.int .i64)],boxes:=[.row [.ty (.slice (.int .i64)),.ty (.slice (.int .i64))],.row [.ty (.int .i64),.ty (.int .i64)]] }
abbrev shr22_0:Sh:={ n:=51,slots:=[],pats:=[],boxes:=[.row [.ty (.slice (.int .i64)),.ty (.slice (.int .i64))],.row [.ty (.int .i64),.ty (.int .i64)]] }

def t22_0 (x0:Int) (x1:Int) (x4:Int) (x5:Int) (b0_0:(List Int)) (b0_1:(List Int)) (b1_0:Int) (b1_1:Int):Tr (Out sh22_0.data shb22_0.data shr22_0.data) :=
  Tr.test ((!leF (wrap64 (x5 - x4)) (1:Int):Bool))
    (Tr.test (Option.isSome (f57 ((Go.IntKind.wrap Go.IntKind.i64 (Int.tdiv (wrap64 (x4 + x5)) (2:Int)):Int),(x1,()))))
      (let r0:=g57 ((Go.IntKind.wrap Go.IntKind.i64 (Int.tdiv (wrap64 (x4 + x5)) (2:Int)):Int),(x1,()));
      Tr.test (Option.isSome (f18 ((b0_0,(b0_1,())),(((r0.1.1.1,(r0.1.1.2.1,())),((r0.1.2.1.1,(r0.1.2.1.2.1,())),())),()))))
        (let r1:=g18 ((b0_0,(b0_1,())),(((r0.1.1.1,(r0.1.1.2.1,())),((r0.1.2.1.1,(r0.1.2.1.2.1,())),())),()));
        Tr.test ((leF r1.1 x0:Bool))
          (Tr.fin (.again ((x0,(x1,((Go.IntKind.wrap Go.IntKind.i64 (Int.tdiv (wrap64 (x4 + x5)) (2:Int)):Int),(x5,())))),((b0_0,(b0_1,())),((b1_0,(b1_1,())),())))))
          (Tr.fin (.again ((x0,(x1,(x4,((Go.IntKind.wrap Go.IntKind.i64 (Int.tdiv (wrap64 (x4 + x5)) (2:Int)):Int),())))),((b0_0,(b0_1,())),((b1_0,(b1_1,())),()))))))
        (Tr.stop))
      (Tr.stop))
    (Tr.fin (.brk ((x0,(x1,(x4,()))),((b0_0,(b0_1,())),((b1_0,(b1_1,())),())))))

def s22_0 (d:sh22_0.data):Option (Out sh22_0.data shb22_0.data shr22_0.data):=(t22_0 d.1.1 d.1.2.1 d.1.2.2.1 d.1.2.2.2.1 d.2.1.1 d.2.1.2.1 d.2.2.1.1 d.2.2.1.2.1).val
def l22_0 (d:sh22_0.data):Option (shb22_0.data ⊕ shr22_0.data):=itr s22_0 rounds d
def b22_0 (d:sh22_0.data):shb22_0.data:=outB shb22_0.dflt (l22_0 d)
def lc22_0:LoopC:=lcB sh22_0 shb22_0 shr22_0 l22_0 b22_0

theorem wk22_0 (x0:Int) (x1:Int) (x4:Int) (x5:Int) (b0_0:(List Int)) (b0_1:(List Int)) (b1_0:Int) (b1_1:Int):Walks (runBody (kf19 Go.Proofs.Try.prog).orc Go.Proofs.Try.prog 400 22 0 sh22_0 shb22_0 shr22_0 ((x0,x1,x4,x5,()),(b0_0,b0_1,()),(b1_0,b1_1,()),())) (t22_0 x0 x1 x4 x5 b0_0 b0_1 b1_0 b1_1) [([true,true,true,true],[2,4,6,0,8]),([true,true,true,false],[2,4,6,0,8]),([ff],[2])] :=
  ⟨by kernel_rfl,by kernel_rfl,by kernel_rfl,trivial⟩

theorem ok22_0_t (x0:Int) (x1:Int) (x4:Int) (x5:Int) (b0_0:(List Int)) (b0_1:(List Int)) (b1_0:Int) (b1_1:Int):TrOk (BodyRuns Go.Proofs.Try.prog (kf19 Go.Proofs.Try.prog).orc 22 0 sh22_0 shb22_0 shr22_0 ((x0,x1,x4,x5,()),(b0_0,b0_1,()),(b1_0,b1_1,()),())) (t22_0 x0 x1 x4 x5 b0_0 b0_1 b1_0 b1_1) :=
  Walks.ok (fun _ _ _=>BodyRuns.of) (wk22_0 x0 x1 x4 x5 b0_0 b0_1 b1_0 b1_1) (by kernel_rfl)

theorem ok22_0:LoopOk Go.Proofs.Try.prog 22 0 lc22_0:=loopOk_ofB (sh:=sh22_0) (shB:=shb22_0) (shR:=shr22_0) kf19_ok.base (T:=fun (d:sh22_0.data)=>t22_0 d.1.1 d.1.2.1 d.1.2.2.1 d.1.2.2.2.1 d.2.1.1 d.2.1.2.1 d.2.2.1.1 d.2.2.1.2.1) (by kernel_rfl) rfl (fun (d:sh22_0.data)=>ok22_0_t d.1.1 d.1.2.1 d.1.2.2.1 d.1.2.2.2.1 d.2.1.1 d.2.1.2.1 d.2.2.1.1 d.2.2.1.2.1) (fun _=>rfl)
def kl22_0 (P:Go.Program):Known:=(kf19 P).loop 22 0 lc22_0
theorem kl22_0_ok:KnownOk Go.Proofs.Try.prog (kl22_0 Go.Proofs.Try.prog):=kf19_ok.loop ok22_0

/-! ductility/ductilityref06.Enclosure -/

abbrev as22:List Ty:=[(.pair (.slice (.int .i64)) (.pair (.slice (.int .i64)) .unit)),(.int .i64),(.int .i64)]
abbrev rs22:List Ty:=[(.pair (.int .i64) (.pair (.int .i64) .unit))]

def t22 (x0:(List Int)) (x0':(List Int)) (x1:Int) (x2:Int):Tr (Tys.data rs22) :=
  Tr.test (isBrk (l22_0 ((x1,(x2,((0:Int),((wrap64 (wrap64 ((80:Int) * x2) + (1:Int)):Int),())))),((x0,(x0',())),(((0:Int),((0:Int),())),())))))
    (let r0:=b22_0 ((x1,(x2,((0:Int),((wrap64 (wrap64 ((80:Int) * x2) + (1:Int)):Int),())))),((x0,(x0',())),(((0:Int),((0:Int),())),())));
    Tr.test (Option.isSome (f57 (r0.1.2.2.1,(r0.1.2.1,()))))
      (let r1:=g57 (r0.1.2.2.1,(r0.1.2.1,()));
      Tr.test (Option.isSome (f19 ((r0.2.1.1,(r0.2.1.2.1,())),(((r1.1.1.1,(r1.1.1.2.1,())),((r1.1.2.1.1,(r1.1.2.1.2.1,())),())),()))))
        (let r2:=g19 ((r0.2.1.1,(r0.2.1.2.1,())),(((r1.1.1.1,(r1.1.1.2.1,())),((r1.1.2.1.1,(r1.1.2.1.2.1,())),())),()));
        Tr.test (r2.1)
          (Tr.test (Option.isSome (f18 ((r0.2.1.1,(r0.2.1.2.1,())),(((r1.1.1.1,(r1.1.1.2.1,())),((r1.1.2.1.1,(r1.1.2.1.2.1,())),())),()))))
            (let r3:=g18 ((r0.2.1.1,(r0.2.1.2.1,())),(((r1.1.1.1,(r1.1.1.2.1,())),((r1.1.2.1.1,(r1.1.2.1.2.1,())),())),()));
            Tr.test ((eqF r3.1 r0.1.1:Bool))
              (Tr.fin (((r0.1.2.2.1,(r0.1.2.2.1,())),())))
              (Tr.fin (((r0.1.2.2.1,((wrap64 (r0.1.2.2.1 + (1:Int)):Int),())),()))))
            (Tr.stop))
          (Tr.fin (((r0.1.2.2.1,((wrap64 (r0.1.2.2.1 + (1:Int)):Int),())),()))))
        (Tr.stop))
      (Tr.stop))
    (Tr.stop)

def f22 (d:Tys.data as22):Option (Tys.data rs22):=(t22 d.1.1 d.1.2.1 d.2.1 d.2.2.1).val
def g22 (d:Tys.data as22):Tys.data rs22:=(f22 d).getD (Tys.dflt rs22)
def p22:PureC:=pcOf as22 rs22 f22 g22

theorem wk22 (x0:(List Int)) (x0':(List Int)) (x1:Int) (x2:Int):Walks (runPure (kl22_0 Go.Proofs.Try.prog).orc Go.Proofs.Try.prog 400 22 as22 rs22 ((x0,x0',()),x1,x2,())) (t22 x0 x0' x1 x2) [([true,true,true,true,true,true],[2,6,6,6,4,6,6,6,8,10,1,12]),([true,true,true,true,true,false],[2,6,6,6,4,6,6,6,8,10,1,12]),([true,true,true,false],[0,2,2,2,2,2,2,4,6,1,8])] :=
  ⟨by kernel_rfl,by kernel_rfl,by kernel_rfl,trivial⟩

theorem ok22_t (x0:(List Int)) (x0':(List Int)) (x1:Int) (x2:Int):TrOk (PureRuns Go.Proofs.Try.prog (kl22_0 Go.Proofs.Try.prog).orc 22 as22 rs22 ((x0,x0',()),x1,x2,())) (t22 x0 x0' x1 x2) :=
  Walks.ok (fun _ _ _=>PureRuns.of) (wk22 x0 x0' x1 x2) (by kernel_rfl)

theorem ok22:PureOk Go.Proofs.Try.prog 22 p22:=pureOk_of kl22_0_ok.base (T:=fun (d:Tys.data as22)=>t22 d.1.1 d.1.2.1 d.2.1 d.2.2.1) (by kernel_rfl) (fun (d:Tys.data as22)=>ok22_t d.1.1 d.1.2.1 d.2.1 d.2.2.1)
def kf22 (P:Go.Program):Known:=(kl22_0 P).func 22 p22
theorem kf22_ok:KnownOk Go.Proofs.Try.prog (kf22 Go.Proofs.Try.prog):=kl22_0_ok.func ok22

/-! ductility/ductilityref06.Meet -/

abbrev as71:List Ty:=[(.pair (.int .i64) (.pair (.int .i64) .unit)),(.pair (.int .i64) (.pair (.int .i64) .unit))]
abbrev rs71:List Ty:=[.bool]

def t71 (x0:Int) (x0':Int) (x1:Int) (x1':Int):Tr (Tys.data rs71) :=
  Tr.fin (((leF (if x0 < x1 then x1 else x0) (if x1' < x0' then x1' else x0'):Bool),()))

def f71 (d:Tys.data as71):Option (Tys.data rs71):=(t71 d.1.1 d.1.2.1 d.2.1.1 d.2.1.2.1).val
def g71 (d:Tys.data as71):Tys.data rs71:=(f71 d).getD (Tys.dflt rs71)
def p71:PureC:=pcOf as71 rs71 f71 g71

theorem wk71 (x0:Int) (x0':Int) (x1:Int) (x1':Int):Walks (runPure (kf22 Go.Proofs.Try.prog).orc Go.Proofs.Try.prog 400 71 as71 rs71 ((x0,x0',()),(x1,x1',()),())) (t71 x0 x0' x1 x1') [([],[])] :=
  ⟨by kernel_rfl,trivial⟩

theorem ok71_t (x0:Int) (x0':Int) (x1:Int) (x1':Int):TrOk (PureRuns Go.Proofs.Try.prog (kf22 Go.Proofs.Try.prog).orc 71 as71 rs71 ((x0,x0',()),(x1,x1',()),())) (t71 x0 x0' x1 x1') :=
  Walks.ok (fun _ _ _=>PureRuns.of) (wk71 x0 x0' x1 x1') (by kernel_rfl)

theorem ok71:PureOk Go.Proofs.Try.prog 71 p71:=pureOk_of kf22_ok.base (T:=fun (d:Tys.data as71)=>t71 d.1.1 d.1.2.1 d.2.1.1 d.2.1.2.1) (by kernel_rfl) (fun (d:Tys.data as71)=>ok71_t d.1.1 d.1.2.1 d.2.1.1 d.2.1.2.1)
def kf71 (P:Go.Program):Known:=(kf22 P).func 71 p71
theorem kf71_ok:KnownOk Go.Proofs.Try.prog (kf71 Go.Proofs.Try.prog):=kf22_ok.func ok71

/-! loop 0 of ductility/ductilityref06.Failing -/

abbrev sh38_0:Sh:={ n:=26,slots:=[2,3,5],pats:=[.ptr 0 2 0,.ptr 1 2 0,.ty (.int .i64)],boxes:=[.row [.ty (.slice (.int .i64)),.ty (.slice (.int .i64))],.row [.ty (.int .i64),.ty (.slice (.pair (.int .i64) (.pair (.int .i64) .unit)))]] }
abbrev shb38_0:Sh:={ n:=26,slots:=[],pats:=[],boxes:=[.row [.ty (.slice (.int .i64)),.ty (.slice (.int .i64))],.row [.ty (.int .i64),.ty (.slice (.pair (.int .i64) (.pair (.int .i64) .unit)))]] }
abbrev shr38_0:Sh:={ n:=26,slots:=[4],pats:=[.ty (.int .i64)],boxes:=[.row [.ty (.slice (.int .i64)),.ty (.slice (.int .i64))],.row [.ty (.int .i64),.ty (.slice (.pair (.int .i64) (.pair (.int .i64) .unit)))]] }

def t38_0 (x2:Int) (b0_0:(List Int)) (b0_1:(List Int)) (b1_0:Int) (b1_1:(List (Int×(Int×Unit)))):Tr (Out sh38_0.data shb38_0.data shr38_0.data) :=
  Tr.test ((!leF (↑(List.length b0_0):Int) x2:Bool))
    (Tr.test (Option.isSome (f22 ((b0_0,(b0_1,())),(x2,(b1_0,())))))
      (Tr.test ((decide ((0:Int) ≤ x2) && decide (x2 < (↑(List.length b1_1):Int)):Bool))
        (let r0:=g22 ((b0_0,(b0_1,())),(x2,(b1_0,())));
        Tr.test (Option.isSome (f71 ((r0.1.1,(r0.1.2.1,())),((((List.getD b1_1 (Int.toNat x2) ((0:Int),(0:Int),())).1:Int),(((List.getD b1_1 (Int.toNat x2) ((0:Int),(0:Int),())).2.1:Int),())),()))))
          (let r1:=g71 ((r0.1.1,(r0.1.2.1,())),((((List.getD b1_1 (Int.toNat x2) ((0:Int),(0:Int),())).1:Int),(((List.getD b1_1 (Int.toNat x2) ((0:Int),(0:Int),())).2.1:Int),())),()));
          Tr.test ((!r1.1:Bool))
            (Tr.fin (.ret ((x2,()),((b0_0,(b0_1,())),((b1_0,(b1_1,())),())))))
            (Tr.fin (.again (((wrap64 (x2 + (1:Int)):Int),()),((b0_0,(b0_1,())),((b1_0,(b1_1,())),()))))))
          (Tr.stop))
        (Tr.stop))
      (Tr.stop))
    (Tr.fin (.brk ((),((b0_0,(b0_1,())),((b1_0,(b1_1,())),())))))

def s38_0 (d:sh38_0.data):Option (Out sh38_0.data shb38_0.data shr38_0.data):=(t38_0 d.1.1 d.2.1.1 d.2.1.2.1 d.2.2.1.1 d.2.2.1.2.1).val
def l38_0 (d:sh38_0.data):Option (shb38_0.data ⊕ shr38_0.data):=itr s38_0 rounds d
def b38_0 (d:sh38_0.data):shb38_0.data:=outB shb38_0.dflt (l38_0 d)
def r38_0 (d:sh38_0.data):shr38_0.data:=outR shr38_0.dflt (l38_0 d)
def lc38_0:LoopC:=lcOf sh38_0 shb38_0 shr38_0 l38_0 b38_0 r38_0

theorem wk38_0 (x2:Int) (b0_0:(List Int)) (b0_1:(List Int)) (b1_0:Int) (b1_1:(List (Int×(Int×Unit)))):Walks (runBody (kf71 Go.Proofs.Try.prog).orc Go.Proofs.Try.prog 400 38 0 sh38_0 shb38_0 shr38_0 ((x2,()),(b0_0,b0_1,()),(b1_0,b1_1,()),())) (t38_0 x2 b0_0 b0_1 b1_0 b1_1) [([true,true,true,true,true],[2,4,6,8,10]),([true,true,true,true,false],[2,4,6,8,10]),([ff],[2])] :=
  ⟨by kernel_rfl,by kernel_rfl,by kernel_rfl,trivial⟩

theorem ok38_0_t (x2:Int) (b0_0:(List Int)) (b0_1:(List Int)) (b1_0:Int) (b1_1:(List (Int×(Int×Unit)))):TrOk (BodyRuns Go.Proofs.Try.prog (kf71 Go.Proofs.Try.prog).orc 38 0 sh38_0 shb38_0 shr38_0 ((x2,()),(b0_0,b0_1,()),(b1_0,b1_1,()),())) (t38_0 x2 b0_0 b0_1 b1_0 b1_1) :=
  Walks.ok (fun _ _ _=>BodyRuns.of) (wk38_0 x2 b0_0 b0_1 b1_0 b1_1) (by kernel_rfl)

theorem ok38_0:LoopOk Go.Proofs.Try.prog 38 0 lc38_0:=loopOk_of (sh:=sh38_0) (shB:=shb38_0) (shR:=shr38_0) kf71_ok.base (T:=fun (d:sh38_0.data)=>t38_0 d.1.1 d.2.1.1 d.2.1.2.1 d.2.2.1.1 d.2.2.1.2.1) (by kernel_rfl) rfl (fun (d:sh38_0.data)=>ok38_0_t d.1.1 d.2.1.1 d.2.1.2.1 d.2.2.1.1 d.2.2.1.2.1) (fun _=>rfl)
def kl38_0 (P:Go.Program):Known:=(kf71 P).loop 38 0 lc38_0
theorem kl38_0_ok:KnownOk Go.Proofs.Try.prog (kl38_0 Go.Proofs.Try.prog):=kf71_ok.loop ok38_0

/-! ductility/ductilityref06.Failing -/

abbrev as38:List Ty:=[(.pair (.slice (.int .i64)) (.pair (.slice (.int .i64)) .unit)),(.pair (.int .i64) (.pair (.slice (.pair (.int .i64) (.pair (.int .i64) .unit))) .unit))]
abbrev rs38:List Ty:=[(.int .i64)]

def t38 (x0:(List Int)) (x0':(List Int)) (x1:Int) (x1':(List (Int×(Int×Unit)))):Tr (Tys.data rs38) :=
  Tr.test (Option.isSome (l38_0 (((0:Int),()),((x0,(x0',())),((x1,(x1',())),())))))
    (Tr.test (isRet (l38_0 (((0:Int),()),((x0,(x0',())),((x1,(x1',())),())))))
      (let r0:=r38_0 (((0:Int),()),((x0,(x0',())),((x1,(x1',())),())));
      Tr.fin ((r0.1.1,())))
      (Tr.fin (((-1:Int),()))))
    (Tr.stop)

def f38 (d:Tys.data as38):Option (Tys.data rs38):=(t38 d.1.1 d.1.2.1 d.2.1.1 d.2.1.2.1).val
def g38 (d:Tys.data as38):Tys.data rs38:=(f38 d).getD (Tys.dflt rs38)
def p38:PureC:=pcOf as38 rs38 f38 g38

theorem wk38 (x0:(List Int)) (x0':(List Int)) (x1:Int) (x1':(List (Int×(Int×Unit)))):Walks (runPure (kl38_0 Go.Proofs.Try.prog).orc Go.Proofs.Try.prog 400 38 as38 rs38 ((x0,x0',()),(x1,x1',()),())) (t38 x0 x0' x1 x1') [([true,true],[2,4]),([true,false],[2,4])] :=
  ⟨by kernel_rfl,by kernel_rfl,trivial⟩

theorem ok38_t (x0:(List Int)) (x0':(List Int)) (x1:Int) (x1':(List (Int×(Int×Unit)))):TrOk (PureRuns Go.Proofs.Try.prog (kl38_0 Go.Proofs.Try.prog).orc 38 as38 rs38 ((x0,x0',()),(x1,x1',()),())) (t38 x0 x0' x1 x1') :=
  Walks.ok (fun _ _ _=>PureRuns.of) (wk38 x0 x0' x1 x1') (by kernel_rfl)

theorem ok38:PureOk Go.Proofs.Try.prog 38 p38:=pureOk_of kl38_0_ok.base (T:=fun (d:Tys.data as38)=>t38 d.1.1 d.1.2.1 d.2.1.1 d.2.1.2.1) (by kernel_rfl) (fun (d:Tys.data as38)=>ok38_t d.1.1 d.1.2.1 d.2.1.1 d.2.1.2.1)
def kf38 (P:Go.Program):Known:=(kl38_0 P).func 38 p38
theorem kf38_ok:KnownOk Go.Proofs.Try.prog (kf38 Go.Proofs.Try.prog):=kl38_0_ok.func ok38

/-! ductility/ductilitybase.Floor -/

abbrev as66:List Ty:=[(.int .i64),(.int .i64)]
abbrev rs66:List Ty:=[(.int .i64)]

def t66 (x0:Int) (x1:Int):Tr (Tys.data rs66) :=
  Tr.test ((x1 == (0:Int):Bool))
    (Tr.stop)
    (Tr.test (!leF (0:Int) (Int.tmod x0 x1))
      (Tr.fin (((wrap64 (Go.IntKind.wrap Go.IntKind.i64 (Int.tdiv x0 x1) - (1:Int)):Int),())))
      (Tr.fin (((Go.IntKind.wrap Go.IntKind.i64 (Int.tdiv x0 x1):Int),()))))

def f66 (d:Tys.data as66):Option (Tys.data rs66):=(t66 d.1 d.2.1).val
def g66 (d:Tys.data as66):Tys.data rs66:=(f66 d).getD (Tys.dflt rs66)
def p66:PureC:=pcOf as66 rs66 f66 g66

theorem wk66 (x0:Int) (x1:Int):Walks (runPure (kf38 Go.Proofs.Try.prog).orc Go.Proofs.Try.prog 400 66 as66 rs66 (x0,x1,())) (t66 x0 x1) [([false,true],[2,4,4]),([false,false],[2,4,4])] :=
  ⟨by kernel_rfl,by kernel_rfl,trivial⟩

theorem ok66_t (x0:Int) (x1:Int):TrOk (PureRuns Go.Proofs.Try.prog (kf38 Go.Proofs.Try.prog).orc 66 as66 rs66 (x0,x1,())) (t66 x0 x1) :=
  Walks.ok (fun _ _ _=>PureRuns.of) (wk66 x0 x1) (by kernel_rfl)

theorem ok66:PureOk Go.Proofs.Try.prog 66 p66:=pureOk_of kf38_ok.base (T:=fun (d:Tys.data as66)=>t66 d.1 d.2.1) (by kernel_rfl) (fun (d:Tys.data as66)=>ok66_t d.1 d.2.1)
def kf66 (P:Go.Program):Known:=(kf38 P).func 66 p66
theorem kf66_ok:KnownOk Go.Proofs.Try.prog (kf66 Go.Proofs.Try.prog):=kf38_ok.func ok66

/-! loop 0 of ductility/ductilitybase.Compare -/

abbrev sh30_0:Sh:={ n:=47,slots:=[0,1,2,3],pats:=[.ty (.int .i64),.ty (.int .i64),.ty (.int .i64),.ty (.int .i64)],boxes:=[] }
abbrev shb30_0:Sh:={ n:=47,slots:=[],pats:=[],boxes:=[] }
abbrev shr30_0:Sh:={ n:=47,slots:=[8],pats:=[.ty (.int .i64)],boxes:=[] }

def t30_0 (x0:Int) (x1:Int) (x2:Int) (x3:Int):Tr (Out sh30_0.data shb30_0.data shr30_0.data) :=
  Tr.test (Option.isSome (f66 (x0,(x1,()))))
    (Tr.test (Option.isSome (f66 (x2,(x3,()))))
      (let r0:=g66 (x0,(x1,()));
      let r1:=g66 (x2,(x3,()));
      Tr.test ((!leF r1.1 r0.1:Bool))
        (Tr.fin (.ret (((-1:Int),()),())))
        (Tr.test ((!leF r0.1 r1.1:Bool))
          (Tr.fin (.ret (((1:Int),()),())))
          (Tr.test ((eqF (wrap64 (x0 - wrap64 (r0.1 * x1))) (0:Int):Bool))
            (Tr.test ((eqF (wrap64 (x2 - wrap64 (r1.1 * x3))) (0:Int):Bool))
              (Tr.fin (.ret (((0:Int),()),())))
              (Tr.fin (.ret (((-1:Int),()),()))))
            (Tr.test ((eqF (wrap64 (x2 - wrap64 (r1.1 * x3))) (0:Int):Bool))
              (Tr.fin (.ret (((1:Int),()),())))
              (Tr.fin (.again ((x3,((wrap64 (x2 - wrap64 (r1.1 * x3)):Int),(x1,((wrap64 (x0 - wrap64 (r0.1 * x1)):Int),())))),())))))))
      (Tr.stop))
    (Tr.stop)

def s30_0 (d:sh30_0.data):Option (Out sh30_0.data shb30_0.data shr30_0.data):=(t30_0 d.1.1 d.1.2.1 d.1.2.2.1 d.1.2.2.2.1).val
def l30_0 (d:sh30_0.data):Option (shb30_0.data ⊕ shr30_0.data):=itr s30_0 rounds d
def r30_0 (d:sh30_0.data):shr30_0.data:=outR shr30_0.dflt (l30_0 d)
def lc30_0:LoopC:=lcR sh30_0 shb30_0 shr30_0 l30_0 r30_0

theorem wk30_0 (x0:Int) (x1:Int) (x2:Int) (x3:Int):Walks (runBody (kf66 Go.Proofs.Try.prog).orc Go.Proofs.Try.prog 400 30 0 sh30_0 shb30_0 shr30_0 ((x0,x1,x2,x3,()),())) (t30_0 x0 x1 x2 x3) [([true,true,true],[2,4,6]),([true,true,false,true],[2,4,6,8]),([true,true,false,false,true,true],[2,4,4,4,6,8,10,12]),([true,true,false,false,true,false],[4,2,4,4,4,6,8,10,12]),([true,true,false,false,false,true],[2,4,0,4,4,4,6,8,10,12]),([true,true,false,false,false,false],[2,4,0,4,4,4,6,8,10,12])] :=
  ⟨by kernel_rfl,by kernel_rfl,by kernel_rfl,by kernel_rfl,by kernel_rfl,by kernel_rfl,trivial⟩

theorem ok30_0_t (x0:Int) (x1:Int) (x2:Int) (x3:Int):TrOk (BodyRuns Go.Proofs.Try.prog (kf66 Go.Proofs.Try.prog).orc 30 0 sh30_0 shb30_0 shr30_0 ((x0,x1,x2,x3,()),())) (t30_0 x0 x1 x2 x3) :=
  Walks.ok (fun _ _ _=>BodyRuns.of) (wk30_0 x0 x1 x2 x3) (by kernel_rfl)

theorem ok30_0:LoopOk Go.Proofs.Try.prog 30 0 lc30_0:=loopOk_ofR (sh:=sh30_0) (shB:=shb30_0) (shR:=shr30_0) kf66_ok.base (T:=fun (d:sh30_0.data)=>t30_0 d.1.1 d.1.2.1 d.1.2.2.1 d.1.2.2.2.1) (by kernel_rfl) rfl (fun (d:sh30_0.data)=>ok30_0_t d.1.1 d.1.2.1 d.1.2.2.1 d.1.2.2.2.1) (fun _=>rfl)
def kl30_0 (P:Go.Program):Known:=(kf66 P).loop 30 0 lc30_0
theorem kl30_0_ok:KnownOk Go.Proofs.Try.prog (kl30_0 Go.Proofs.Try.prog):=kf66_ok.loop ok30_0

/-! ductility/ductilitybase.Compare -/

abbrev as30:List Ty:=[(.int .i64),(.int .i64),(.int .i64),(.int .i64)]
abbrev rs30:List Ty:=[(.int .i64)]

def t30 (x0:Int) (x1:Int) (x2:Int) (x3:Int):Tr (Tys.data rs30) :=
  Tr.test (endsRet (l30_0 ((x0,(x1,(x2,(x3,())))),())))
    (let r0:=r30_0 ((x0,(x1,(x2,(x3,())))),());
    Tr.fin ((r0.1.1,())))
    (Tr.stop)

def f30 (d:Tys.data as30):Option (Tys.data rs30):=(t30 d.1 d.2.1 d.2.2.1 d.2.2.2.1).val
def g30 (d:Tys.data as30):Tys.data rs30:=(f30 d).getD (Tys.dflt rs30)
def p30:PureC:=pcOf as30 rs30 f30 g30

theorem wk30 (x0:Int) (x1:Int) (x2:Int) (x3:Int):Walks (runPure (kl30_0 Go.Proofs.Try.prog).orc Go.Proofs.Try.prog 400 30 as30 rs30 (x0,x1,x2,x3,())) (t30 x0 x1 x2 x3) [([tt],[1,2])] :=
  ⟨by kernel_rfl,trivial⟩

theorem ok30_t (x0:Int) (x1:Int) (x2:Int) (x3:Int):TrOk (PureRuns Go.Proofs.Try.prog (kl30_0 Go.Proofs.Try.prog).orc 30 as30 rs30 (x0,x1,x2,x3,())) (t30 x0 x1 x2 x3) :=
  Walks.ok (fun _ _ _=>PureRuns.of) (wk30 x0 x1 x2 x3) (by kernel_rfl)

theorem ok30:PureOk Go.Proofs.Try.prog 30 p30:=pureOk_of kl30_0_ok.base (T:=fun (d:Tys.data as30)=>t30 d.1 d.2.1 d.2.2.1 d.2.2.2.1) (by kernel_rfl) (fun (d:Tys.data as30)=>ok30_t d.1 d.2.1 d.2.2.1 d.2.2.2.1)
def kf30 (P:Go.Program):Known:=(kl30_0 P).func 30 p30
theorem kf30_ok:KnownOk Go.Proofs.Try.prog (kf30 Go.Proofs.Try.prog):=kl30_0_ok.func ok30

/-! loop 2 of ductility/ductilityref06.Explained -/

abbrev sh36_2:Sh:={ n:=59,slots:=[2,3,4,6,7,8,9],pats:=[.ptr 0 2 0,.ptr 1 2 0,.ptr 2 2 0,.ptr 3 2 0,.ty .bool,.ty (.int .i64),.ty (.int .i64)],boxes:=[.row [.ty (.slice (.int .i64)),.ty (.slice (.int .i64))],.row [.ty (.int .i64),.ty (.slice (.pair (.int .i64) (.pair (.int .i64) .unit)))],.row [.ty (.int .i64),.ty (.int .i64)],.row [.ty (.int .i64),.ty (.int .i64)]] }
abbrev shb36_2:Sh:={ n:=59,slots:=[2,3,4,6,7,8],pats:=[.ptr 0 2 0,.ptr 1 2 0,.ptr 2 2 0,.ptr 3 2 0,.ty .bool,.ty (.int .i64)],boxes:=[.row [.ty (.slice (.int .i64)),.ty (.slice (.int .i64))],.row [.ty (.int .i64),.ty (.slice (.pair (.int .i64) (.pair (.int .i64) .unit)))],.row [.ty (.int .i64),.ty (.int .i64)],.row [.ty (.int .i64),.ty (.int .i64)]] }
abbrev shr36_2:Sh:={ n:=59,slots:=[],pats:=[],boxes:=[.row [.ty (.slice (.int .i64)),.ty (.slice (.int .i64))],.row [.ty (.int .i64),.ty (.slice (.pair (.int .i64) (.pair (.int .i64) .unit)))],.row [.ty (.int .i64),.ty (.int .i64)],.row [.ty (.int .i64),.ty (.int .i64)]] }

def t36_2 (x4:Bool) (x5:Int) (x6:Int) (b0_0:(List Int)) (b0_1:(List Int)) (b1_0:Int) (b1_1:(List (Int×(Int×Unit)))) (b2_0:Int) (b2_1:Int) (b3_0:Int) (b3_1:Int):Tr (Out sh36_2.data shb36_2.data shr36_2.data) :=
  Tr.test ((leF (1:Int) x6:Bool))
    (Tr.test (Option.isSome (f39 ((b0_0,(b0_1,())),((x5,(x6,())),()))))
      (let r0:=g39 ((b0_0,(b0_1,())),((x5,(x6,())),()));
      Tr.test (Option.isSome (f38 ((r0.1.1,(r0.1.2.1,())),((b1_0,(b1_1,())),()))))
        (let r1:=g38 ((r0.1.1,(r0.1.2.1,())),((b1_0,(b1_1,())),()));
        Tr.test ((leF (0:Int) r1.1:Bool))
          (Tr.fin (.again ((x4,(x5,((wrap64 (x6 - (1:Int)):Int),()))),((b0_0,(b0_1,())),((b1_0,(b1_1,())),((b2_0,(b2_1,())),((b3_0,(b3_1,())),())))))))
          (Tr.test ((!x4:Bool))
            (Tr.fin (.brk (((true:Bool),(x5,())),((b0_0,(b0_1,())),((b1_0,(b1_1,())),((b2_0,(b2_1,())),((x5,(x6,())),())))))))
            (Tr.test ((decide ((0:Int) ≤ x5) && decide (x5 < (↑(List.length b0_1):Int)):Bool))
              (Tr.test ((decide ((0:Int) ≤ b3_0) && decide (b3_0 < (↑(List.length b0_1):Int)):Bool))
                (Tr.test (Option.isSome (f30 (x6,((List.getD b0_1 (Int.toNat x5) (0:Int):Int),(b3_1,((List.getD b0_1 (Int.toNat b3_0) (0:Int):Int),()))))))
                  (let r2:=g30 (x6,((List.getD b0_1 (Int.toNat x5) (0:Int):Int),(b3_1,((List.getD b0_1 (Int.toNat b3_0) (0:Int):Int),()))));
                  Tr.test ((!leF r2.1 0:Bool))
                    (Tr.fin (.brk (((true:Bool),(x5,())),((b0_0,(b0_1,())),((b1_0,(b1_1,())),((b2_0,(b2_1,())),((x5,(x6,())),())))))))
                    (Tr.fin (.brk ((x4,(x5,())),((b0_0,(b0_1,())),((b1_0,(b1_1,())),((b2_0,(b2_1,())),((b3_0,(b3_1,())),()))))))))
                  (Tr.stop))
                (Tr.stop))
              (Tr.stop))))
        (Tr.stop))
      (Tr.stop))
    (Tr.fin (.brk ((x4,(x5,())),((b0_0,(b0_1,())),((b1_0,(b1_1,())),((b2_0,(b2_1,())),((b3_0,(b3_1,())),())))))))

def s36_2 (d:sh36_2.data):Option (Out sh36_2.data shb36_2.data shr36_2.data):=(t36_2 d.1.1 d.1.2.1 d.1.2.2.1 d.2.1.1 d.2.1.2.1 d.2.2.1.1 d.2.2.1.2.1 d.2.2.2.1.1 d.2.2.2.1.2.1 d.2.2.2.2.1.1 d.2.2.2.2.1.2.1).val
def l36_2 (d:sh36_2.data):Option (shb36_2.data ⊕ shr36_2.data):=itr s36_2 rounds d
def b36_2 (d:sh36_2.data):shb36_2.data:=outB shb36_2.dflt (l36_2 d)
def lc36_2:LoopC:=lcB sh36_2 shb36_2 shr36_2 l36_2 b36_2

theorem wk36_2 (x4:Bool) (x5:Int) (x6:Int) (b0_0:(List Int)) (b0_1:(List Int)) (b1_0:Int) (b1_1:(List (Int×(Int×Unit)))) (b2_0:Int) (b2_1:Int) (b3_0:Int) (b3_1:Int):Walks (runBody (kf30 Go.Proofs.Try.prog).orc Go.Proofs.Try.prog 400 36 2 sh36_2 shb36_2 shr36_2 ((x4,x5,x6,()),(b0_0,b0_1,()),(b1_0,b1_1,()),(b2_0,b2_1,()),(b3_0,b3_1,()),())) (t36_2 x4 x5 x6 b0_0 b0_1 b1_0 b1_1 b2_0 b2_1 b3_0 b3_1) [([true,true,true,true],[2,4,6,8]),([true,true,true,false,true],[1,2,2,2,2,2,2,2,2,2,2,2,2,2,2,2,2,2,4,6,8,10]),([true,true,true,false,false,true,true,true,true],[2,10,10,4,10,10,6,10,10,10,10,10,10,10,10,8,10,10,10,10,10,12,14,16,18]),([true,true,true,false,false,true,true,true,false],[2,10,10,4,10,10,6,10,10,10,10,10,10,10,10,8,10,10,10,10,10,12,14,16,18]),([ff],[2])] :=
  ⟨by kernel_rfl,by kernel_rfl,by kernel_rfl,by kernel_rfl,by kernel_rfl,trivial⟩

theorem ok36_2_t (x4:Bool) (x5:Int) (x6:Int) (b0_0:(List Int)) (b0_1:(List Int)) (b1_0:Int) (b1_1:(List (Int×(Int×Unit)))) (b2_0:Int) (b2_1:Int) (b3_0:Int) (b3_1:Int):TrOk (BodyRuns Go.Proofs.Try.prog (kf30 Go.Proofs.Try.prog).orc 36 2 sh36_2 shb36_2 shr36_2 ((x4,x5,x6,()),(b0_0,b0_1,()),(b1_0,b1_1,()),(b2_0,b2_1,()),(b3_0,b3_1,()),())) (t36_2 x4 x5 x6 b0_0 b0_1 b1_0 b1_1 b2_0 b2_1 b3_0 b3_1) :=
  Walks.ok (fun _ _ _=>BodyRuns.of) (wk36_2 x4 x5 x6 b0_0 b0_1 b1_0 b1_1 b2_0 b2_1 b3_0 b3_1) (by kernel_rfl)

theorem ok36_2:LoopOk Go.Proofs.Try.prog 36 2 lc36_2:=loopOk_ofB (sh:=sh36_2) (shB:=shb36_2) (shR:=shr36_2) kf30_ok.base (T:=fun (d:sh36_2.data)=>t36_2 d.1.1 d.1.2.1 d.1.2.2.1 d.2.1.1 d.2.1.2.1 d.2.2.1.1 d.2.2.1.2.1 d.2.2.2.1.1 d.2.2.2.1.2.1 d.2.2.2.2.1.1 d.2.2.2.2.1.2.1) (by kernel_rfl) rfl (fun (d:sh36_2.data)=>ok36_2_t d.1.1 d.1.2.1 d.1.2.2.1 d.2.1.1 d.2.1.2.1 d.2.2.1.1 d.2.2.1.2.1 d.2.2.2.1.1 d.2.2.2.1.2.1 d.2.2.2.2.1.1 d.2.2.2.2.1.2.1) (fun _=>rfl)
def kl36_2 (P:Go.Program):Known:=(kf30 P).loop 36 2 lc36_2
theorem kl36_2_ok:KnownOk Go.Proofs.Try.prog (kl36_2 Go.Proofs.Try.prog):=kf30_ok.loop ok36_2

/-! loop 0 of ductility/ductilityref06.Explained -/

abbrev sh36_0:Sh:={ n:=59,slots:=[2,3,4,6,7,8],pats:=[.ptr 0 2 0,.ptr 1 2 0,.ptr 2 2 0,.ptr 3 2 0,.ty .bool,.ty (.int .i64)],boxes:=[.row [.ty (.slice (.int .i64)),.ty (.slice (.int .i64))],.row [.ty (.int .i64),.ty (.slice (.pair (.int .i64) (.pair (.int .i64) .unit)))],.row [.ty (.int .i64),.ty (.int .i64)],.row [.ty (.int .i64),.ty (.int .i64)]] }
abbrev shb36_0:Sh:={ n:=59,slots:=[4,6,7],pats:=[.ptr 2 2 0,.ptr 3 2 0,.ty .bool],boxes:=[.row [.ty (.slice (.int .i64)),.ty (.slice (.int .i64))],.row [.ty (.int .i64),.ty (.slice (.pair (.int .i64) (.pair (.int .i64) .unit)))],.row [.ty (.int .i64),.ty (.int .i64)],.row [.ty (.int .i64),.ty (.int .i64)]] }
abbrev shr36_0:Sh:={ n:=59,slots:=[],pats:=[],boxes:=[.row [.ty (.slice (.int .i64)),.ty (.slice (.int .i64))],.row [.ty (.int .i64),.ty (.slice (.pair (.int .i64) (.pair (.int .i64) .unit)))],.row [.ty (.int .i64),.ty (.int .i64)],.row [.ty (.int .i64),.ty (.int .i64)]] }

def t36_0 (x4:Bool) (x5:Int) (b0_0:(List Int)) (b0_1:(List Int)) (b1_0:Int) (b1_1:(List (Int×(Int×Unit)))) (b2_0:Int) (b2_1:Int) (b3_0:Int) (b3_1:Int):Tr (Out sh36_0.data shb36_0.data shr36_0.data) :=
  Tr.test ((!leF (↑(List.length b0_1):Int) x5:Bool))
    (Tr.test (decide ((0:Int) ≤ x5) && decide (x5 < (↑(List.length b0_1):Int)))
      (Tr.test (isBrk (l36_2 ((x4,(x5,((List.getD b0_1 (Int.toNat x5) (0:Int):Int),()))),((b0_0,(b0_1,())),((b1_0,(b1_1,())),((b2_0,(b2_1,())),((b3_0,(b3_1,())),())))))))
        (let r0:=b36_2 ((x4,(x5,((List.getD b0_1 (Int.toNat x5) (0:Int):Int),()))),((b0_0,(b0_1,())),((b1_0,(b1_1,())),((b2_0,(b2_1,())),((b3_0,(b3_1,())),())))));
        Tr.fin (.again ((r0.1.1,((wrap64 (r0.1.2.1 + (1:Int)):Int),())),((r0.2.1.1,(r0.2.1.2.1,())),((r0.2.2.1.1,(r0.2.2.1.2.1,())),((r0.2.2.2.1.1,(r0.2.2.2.1.2.1,())),((r0.2.2.2.2.1.1,(r0.2.2.2.2.1.2.1,())),())))))))
        (Tr.stop))
      (Tr.stop))
    (Tr.fin (.brk ((x4,()),((b0_0,(b0_1,())),((b1_0,(b1_1,())),((b2_0,(b2_1,())),((b3_0,(b3_1,())),())))))))

def s36_0 (d:sh36_0.data):Option (Out sh36_0.data shb36_0.data shr36_0.data):=(t36_0 d.1.1 d.1.2.1 d.2.1.1 d.2.1.2.1 d.2.2.1.1 d.2.2.1.2.1 d.2.2.2.1.1 d.2.2.2.1.2.1 d.2.2.2.2.1.1 d.2.2.2.2.1.2.1).val
def l36_0 (d:sh36_0.data):Option (shb36_0.data ⊕ shr36_0.data):=itr s36_0 rounds d
def b36_0 (d:sh36_0.data):shb36_0.data:=outB shb36_0.dflt (l36_0 d)
def lc36_0:LoopC:=lcB sh36_0 shb36_0 shr36_0 l36_0 b36_0

theorem wk36_0 (x4:Bool) (x5:Int) (b0_0:(List Int)) (b0_1:(List Int)) (b1_0:Int) (b1_1:(List (Int×(Int×Unit)))) (b2_0:Int) (b2_1:Int) (b3_0:Int) (b3_1:Int):Walks (runBody (kl36_2 Go.Proofs.Try.prog).orc Go.Proofs.Try.prog 400 36 0 sh36_0 shb36_0 shr36_0 ((x4,x5,()),(b0_0,b0_1,()),(b1_0,b1_1,()),(b2_0,b2_1,()),(b3_0,b3_1,()),())) (t36_0 x4 x5 b0_0 b0_1 b1_0 b1_1 b2_0 b2_1 b3_0 b3_1) [([true,true,true],[1,2,4,6]),([ff],[2])] :=
  ⟨by kernel_rfl,by kernel_rfl,trivial⟩

theorem ok36_0_t (x4:Bool) (x5:Int) (b0_0:(List Int)) (b0_1:(List Int)) (b1_0:Int) (b1_1:(List (Int×(Int×Unit)))) (b2_0:Int) (b2_1:Int) (b3_0:Int) (b3_1:Int):TrOk (BodyRuns Go.Proofs.Try.prog (kl36_2 Go.Proofs.Try.prog).orc 36 0 sh36_0 shb36_0 shr36_0 ((x4,x5,()),(b0_0,b0_1,()),(b1_0,b1_1,()),(b2_0,b2_1,()),(b3_0,b3_1,()),())) (t36_0 x4 x5 b0_0 b0_1 b1_0 b1_1 b2_0 b2_1 b3_0 b3_1) :=
  Walks.ok (fun _ _ _=>BodyRuns.of) (wk36_0 x4 x5 b0_0 b0_1 b1_0 b1_1 b2_0 b2_1 b3_0 b3_1) (by kernel_rfl)

theorem ok36_0:LoopOk Go.Proofs.Try.prog 36 0 lc36_0:=loopOk_ofB (sh:=sh36_0) (shB:=shb36_0) (shR:=shr36_0) kl36_2_ok.base (T:=fun (d:sh36_0.data)=>t36_0 d.1.1 d.1.2.1 d.2.1.1 d.2.1.2.1 d.2.2.1.1 d.2.2.1.2.1 d.2.2.2.1.1 d.2.2.2.1.2.1 d.2.2.2.2.1.1 d.2.2.2.2.1.2.1) (by kernel_rfl) rfl (fun (d:sh36_0.data)=>ok36_0_t d.1.1 d.1.2.1 d.2.1.1 d.2.1.2.1 d.2.2.1.1 d.2.2.1.2.1 d.2.2.2.1.1 d.2.2.2.1.2.1 d.2.2.2.2.1.1 d.2.2.2.2.1.2.1) (fun _=>rfl)
def kl36_0 (P:Go.Program):Known:=(kl36_2 P).loop 36 0 lc36_0
theorem kl36_0_ok:KnownOk Go.Proofs.Try.prog (kl36_0 Go.Proofs.Try.prog):=kl36_2_ok.loop ok36_0

/-! ductility/ductilityref06.Explained -/

abbrev as36:List Ty:=[(.pair (.slice (.int .i64)) (.pair (.slice (.int .i64)) .unit)),(.pair (.int .i64) (.pair (.slice (.pair (.int .i64) (.pair (.int .i64) .unit))) .unit))]
abbrev rs36:List Ty:=[(.pair (.int .i64) (.pair (.int .i64) .unit)),.bool]

def t36 (x0:(List Int)) (x0':(List Int)) (x1:Int) (x1':(List (Int×(Int×Unit)))):Tr (Tys.data rs36) :=
  Tr.test (isBrk (l36_0 (((false:Bool),((0:Int),())),((x0,(x0',())),((x1,(x1',())),(((0:Int),((0:Int),())),(((0:Int),((0:Int),())),())))))))
    (let r0:=b36_0 ((false,((0:Int),())),((x0,(x0',())),((x1,(x1',())),(((0:Int),((0:Int),())),(((0:Int),((0:Int),())),())))));
    Tr.fin (((r0.2.2.2.2.1.1,(r0.2.2.2.2.1.2.1,())),(r0.1.1,()))))
    (Tr.stop)

def f36 (d:Tys.data as36):Option (Tys.data rs36):=(t36 d.1.1 d.1.2.1 d.2.1.1 d.2.1.2.1).val
def g36 (d:Tys.data as36):Tys.data rs36:=(f36 d).getD (Tys.dflt rs36)
def p36:PureC:=pcOf as36 rs36 f36 g36

theorem wk36 (x0:(List Int)) (x0':(List Int)) (x1:Int) (x1':(List (Int×(Int×Unit)))):Walks (runPure (kl36_0 Go.Proofs.Try.prog).orc Go.Proofs.Try.prog 400 36 as36 rs36 ((x0,x0',()),(x1,x1',()),())) (t36 x0 x0' x1 x1') [([tt],[1,2])] :=
  ⟨by kernel_rfl,trivial⟩

theorem ok36_t (x0:(List Int)) (x0':(List Int)) (x1:Int) (x1':(List (Int×(Int×Unit)))):TrOk (PureRuns Go.Proofs.Try.prog (kl36_0 Go.Proofs.Try.prog).orc 36 as36 rs36 ((x0,x0',()),(x1,x1',()),())) (t36 x0 x0' x1 x1') :=
  Walks.ok (fun _ _ _=>PureRuns.of) (wk36 x0 x0' x1 x1') (by kernel_rfl)

theorem ok36:PureOk Go.Proofs.Try.prog 36 p36:=pureOk_of kl36_0_ok.base (T:=fun (d:Tys.data as36)=>t36 d.1.1 d.1.2.1 d.2.1.1 d.2.1.2.1) (by kernel_rfl) (fun (d:Tys.data as36)=>ok36_t d.1.1 d.1.2.1 d.2.1.1 d.2.1.2.1)
def kf36 (P:Go.Program):Known:=(kl36_0 P).func 36 p36
theorem kf36_ok:KnownOk Go.Proofs.Try.prog (kf36 Go.Proofs.Try.prog):=kl36_0_ok.func ok36

/-! ductility/ductilityref06.DamageErr -/

abbrev as37:List Ty:=[(.pair (.slice (.int .i64)) (.pair (.slice (.int .i64)) .unit)),(.pair (.int .i64) (.pair (.int .i64) .unit))]
abbrev rs37:List Ty:=[(.int .i64)]

def t37 (x0:(List Int)) (x0':(List Int)) (x1:Int) (x1':Int):Tr (Tys.data rs37) :=
  Tr.test (Option.isSome (f21 (x1,((0:Int),((wrap64 ((↑(List.length x0'):Int) - (1:Int)):Int),())))))
    (let r0:=g21 (x1,((0:Int),((wrap64 ((↑(List.length x0'):Int) - (1:Int)):Int),())));
    Tr.test ((!r0.1:Bool))
      (Tr.fin (((6:Int),())))
      (Tr.test ((decide ((0:Int) ≤ x1) && decide (x1 < (↑(List.length x0'):Int)):Bool))
        (Tr.test (Option.isSome (f21 (x1',((1:Int),((List.getD x0' (Int.toNat x1) (0:Int):Int),())))))
          (let r1:=g21 (x1',((1:Int),((List.getD x0' (Int.toNat x1) (0:Int):Int),())));
          Tr.test ((!r1.1:Bool))
            (Tr.fin (((2:Int),())))
            (Tr.fin (((0:Int),()))))
          (Tr.stop))
        (Tr.stop)))
    (Tr.stop)

def f37 (d:Tys.data as37):Option (Tys.data rs37):=(t37 d.1.1 d.1.2.1 d.2.1.1 d.2.1.2.1).val
def g37 (d:Tys.data as37):Tys.data rs37:=(f37 d).getD (Tys.dflt rs37)
def p37:PureC:=pcOf as37 rs37 f37 g37

theorem wk37 (x0:(List Int)) (x0':(List Int)) (x1:Int) (x1':Int):Walks (runPure (kf36 Go.Proofs.Try.prog).orc Go.Proofs.Try.prog 400 37 as37 rs37 ((x0,x0',()),(x1,x1',()),())) (t37 x0 x0' x1 x1') [([true,true],[2,4]),([true,false,true,true,true],[2,4,6,8,10]),([true,false,true,true,false],[2,4,6,8,10])] :=
  ⟨by kernel_rfl,by kernel_rfl,by kernel_rfl,trivial⟩

theorem ok37_t (x0:(List Int)) (x0':(List Int)) (x1:Int) (x1':Int):TrOk (PureRuns Go.Proofs.Try.prog (kf36 Go.Proofs.Try.prog).orc 37 as37 rs37 ((x0,x0',()),(x1,x1',()),())) (t37 x0 x0' x1 x1') :=
  Walks.ok (fun _ _ _=>PureRuns.of) (wk37 x0 x0' x1 x1') (by kernel_rfl)

theorem ok37:PureOk Go.Proofs.Try.prog 37 p37:=pureOk_of kf36_ok.base (T:=fun (d:Tys.data as37)=>t37 d.1.1 d.1.2.1 d.2.1.1 d.2.1.2.1) (by kernel_rfl) (fun (d:Tys.data as37)=>ok37_t d.1.1 d.1.2.1 d.2.1.1 d.2.1.2.1)
def kf37 (P:Go.Program):Known:=(kf36 P).func 37 p37
theorem kf37_ok:KnownOk Go.Proofs.Try.prog (kf37 Go.Proofs.Try.prog):=kf36_ok.func ok37

/-! ductility/ductilitylaw06.ModalDamages -/

abbrev as6:List Ty:=[(.pair (.slice (.int .i64)) (.pair (.slice (.int .i64)) .unit)),(.pair (.int .i64) (.pair (.slice (.pair (.int .i64) (.pair (.int .i64) .unit))) .unit)),(.pair (.int .i64) (.pair (.int .i64) .unit))]
abbrev rs6:List Ty:=[.bool]

def t6 (x0:(List Int)) (x0':(List Int)) (x1:Int) (x1':(List (Int×(Int×Unit)))) (x2:Int) (x2':Int):Tr (Tys.data rs6) :=
  Tr.test (Option.isSome (f9 ((x0,(x0',())),())))
    (let r0:=g9 ((x0,(x0',())),());
    Tr.test ((!r0.1:Bool))
      (Tr.fin (((true:Bool),())))
      (Tr.test ((eqF (↑(List.length x0):Int) (4:Int):Bool))
        (Tr.fin (((true:Bool),())))
        (Tr.test ((!leF (↑(List.length x1'):Int) (6:Int):Bool))
          (Tr.fin (((true:Bool),())))
          (Tr.test (Option.isSome (f11 ((x0,(x0',())),())))
            (Tr.test (Option.isSome (f33 ((x1,(x1',())),())))
              (let r1:=g11 ((x0,(x0',())),());
              let r2:=g33 ((x1,(x1',())),());
              Tr.test (Option.isSome (f32 ((r1.1.1,(r1.1.2.1,())),((r2.1.1,(r2.1.2.1,())),()))))
                (Tr.test (Option.isSome (f34 ((r1.1.1,(r1.1.2.1,())),((r2.1.1,(r2.1.2.1,())),((x2,(x2',())),())))))
                  (Tr.test (Option.isSome (f14 ((x0,(x0',())),())))
                    (let r5:=g14 ((x0,(x0',())),());
                    Tr.test ((eqF r5.1 0:Bool))
                      (Tr.test (Option.isSome (f35 ((x0,(x0',())),((x1,(x1',())),()))))
                        (let r6:=g35 ((x0,(x0',())),((x1,(x1',())),()));
                        Tr.test ((!eqF r6.1 0:Bool))
                          (let r3:=g32 ((r1.1.1,(r1.1.2.1,())),((r2.1.1,(r2.1.2.1,())),()));
                          Tr.test ((eqF r3.2.1 r6.1:Bool))
                            (Tr.test ((r3.1.1 == (0:Int) && (r3.1.2.1 == (0:Int) && true):Bool))
                              (let r4:=g34 ((r1.1.1,(r1.1.2.1,())),((r2.1.1,(r2.1.2.1,())),((x2,(x2',())),())));
                              Tr.test ((eqF r4.2.1 r6.1:Bool))
                                (Tr.fin (((eqF r4.1 0:Bool),())))
                                (Tr.fin (((false:Bool),()))))
                              (Tr.fin (((false:Bool),()))))
                            (Tr.fin (((false:Bool),()))))
                          (Tr.test (Option.isSome (f36 ((x0,(x0',())),((x1,(x1',())),()))))
                            (let r7:=g36 ((x0,(x0',())),((x1,(x1',())),()));
                            Tr.test (r7.2.1)
                              (let r3:=g32 ((r1.1.1,(r1.1.2.1,())),((r2.1.1,(r2.1.2.1,())),()));
                              Tr.test ((!eqF r3.2.1 0:Bool))
                                (Tr.fin (((false:Bool),())))
                                (Tr.test ((!(r3.1.1 == r7.1.1 && (r3.1.2.1 == r7.1.2.1 && true)):Bool))
                                  (Tr.fin (((false:Bool),())))
                                  (Tr.test (Option.isSome (f37 ((x0,(x0',())),((x2,(x2',())),()))))
                                    (let r8:=g37 ((x0,(x0',())),((x2,(x2',())),()));
                                    Tr.test ((!eqF r8.1 0:Bool))
                                      (let r4:=g34 ((r1.1.1,(r1.1.2.1,())),((r2.1.1,(r2.1.2.1,())),((x2,(x2',())),())));
                                      Tr.test ((eqF r4.2.1 r8.1:Bool))
                                        (Tr.fin (((eqF r4.1 0:Bool),())))
                                        (Tr.fin (((false:Bool),()))))
                                      (Tr.test (Option.isSome (f39 ((x0,(x0',())),((x2,(x2',())),()))))
                                        (let r9:=g39 ((x0,(x0',())),((x2,(x2',())),()));
                                        Tr.test (Option.isSome (f38 ((r9.1.1,(r9.1.2.1,())),((x1,(x1',())),()))))
                                          (let r10:=g38 ((r9.1.1,(r9.1.2.1,())),((x1,(x1',())),()));
                                          Tr.test ((leF (0:Int) r10.1:Bool))
                                            (let r4:=g34 ((r1.1.1,(r1.1.2.1,())),((r2.1.1,(r2.1.2.1,())),((x2,(x2',())),())));
                                            Tr.test ((eqF r4.2.1 19:Bool))
                                              (Tr.fin (((eqF r4.1 r10.1:Bool),())))
                                              (Tr.fin (((false:Bool),()))))
                                            (let r4:=g34 ((r1.1.1,(r1.1.2.1,())),((r2.1.1,(r2.1.2.1,())),((x2,(x2',())),())));
                                            Tr.test ((eqF r4.2.1 0:Bool))
                                              (Tr.fin (((eqF r4.1 0:Bool),())))
                                              (Tr.fin (((false:Bool),())))))
                                          (Tr.stop))
                                        (Tr.stop)))
                                    (Tr.stop))))
                              (let r3:=g32 ((r1.1.1,(r1.1.2.1,())),((r2.1.1,(r2.1.2.1,())),()));
                              Tr.test ((!eqF r3.2.1 12:Bool))
                                (Tr.fin (((false:Bool),())))
                                (Tr.test ((!(r3.1.1 == (0:Int) && (r3.1.2.1 == (0:Int) && true)):Bool))
                                  (Tr.fin (((false:Bool),())))
                                  (Tr.test (Option.isSome (f37 ((x0,(x0',())),((x2,(x2',())),()))))
                                    (let r8:=g37 ((x0,(x0',())),((x2,(x2',())),()));
                                    Tr.test ((!eqF r8.1 0:Bool))
                                      (let r4:=g34 ((r1.1.1,(r1.1.2.1,())),((r2.1.1,(r2.1.2.1,())),((x2,(x2',())),())));
                                      Tr.test ((eqF r4.2.1 r8.1:Bool))
                                        (Tr.fin (((eqF r4.1 0:Bool),())))
                                        (Tr.fin (((false:Bool),()))))
                                      (Tr.test (Option.isSome (f39 ((x0,(x0',())),((x2,(x2',())),()))))
                                        (let r9:=g39 ((x0,(x0',())),((x2,(x2',())),()));
                                        Tr.test (Option.isSome (f38 ((r9.1.1,(r9.1.2.1,())),((x1,(x1',())),()))))
                                          (let r10:=g38 ((r9.1.1,(r9.1.2.1,())),((x1,(x1',())),()));
                                          Tr.test ((leF (0:Int) r10.1:Bool))
                                            (let r4:=g34 ((r1.1.1,(r1.1.2.1,())),((r2.1.1,(r2.1.2.1,())),((x2,(x2',())),())));
                                            Tr.test ((eqF r4.2.1 19:Bool))
                                              (Tr.fin (((eqF r4.1 r10.1:Bool),())))
                                              (Tr.fin (((false:Bool),()))))
                                            (let r4:=g34 ((r1.1.1,(r1.1.2.1,())),((r2.1.1,(r2.1.2.1,())),((x2,(x2',())),())));
                                            Tr.test ((eqF r4.2.1 0:Bool))
                                              (Tr.fin (((eqF r4.1 0:Bool),())))
                                              (Tr.fin (((false:Bool),())))))
                                          (Tr.stop))
                                        (Tr.stop)))
                                    (Tr.stop)))))
                            (Tr.stop)))
                        (Tr.stop))
                      (let r3:=g32 ((r1.1.1,(r1.1.2.1,())),((r2.1.1,(r2.1.2.1,())),()));
                      Tr.test ((eqF r3.2.1 r5.1:Bool))
                        (Tr.test ((r3.1.1 == (0:Int) && (r3.1.2.1 == (0:Int) && true):Bool))
                          (let r4:=g34 ((r1.1.1,(r1.1.2.1,())),((r2.1.1,(r2.1.2.1,())),((x2,(x2',())),())));
                          Tr.test ((eqF r4.2.1 r5.1:Bool))
                            (Tr.fin (((eqF r4.1 0:Bool),())))
                            (Tr.fin (((false:Bool),()))))
                          (Tr.fin (((false:Bool),()))))
                        (Tr.fin (((false:Bool),())))))
                    (Tr.stop))
                  (Tr.stop))
                (Tr.stop))
              (Tr.stop))
            (Tr.stop)))))
    (Tr.stop)

def f6 (d:Tys.data as6):Option (Tys.data rs6):=(t6 d.1.1 d.1.2.1 d.2.1.1 d.2.1.2.1 d.2.2.1.1 d.2.2.1.2.1).val
def g6 (d:Tys.data as6):Tys.data rs6:=(f6 d).getD (Tys.dflt rs6)
def p6:PureC:=pcOf as6 rs6 f6 g6

theorem wk6 (x0:(List Int)) (x0':(List Int)) (x1:Int) (x1':(List (Int×(Int×Unit)))) (x2:Int) (x2':Int):Walks (runPure (kf37 Go.Proofs.Try.prog).orc Go.Proofs.Try.prog 400 6 as6 rs6 ((x0,x0',()),(x1,x1',()),(x2,x2',()),())) (t6 x0 x0' x1 x1' x2 x2') [([true,true],[1,1,1,1,1,1,2,2,2,2,2,4,0,1]),([true,false,true],[1,2,2,2,2,2,4,4,4,4,4,6,0,1]),([true,false,false,true],[2,4,4,4,4,4,6,6,6,6,6,8,0,1]),([true,false,false,false,true,true,true,true,true,true,true,true,true,true,true],[2,2,2,4,4,4,4,6,6,6,6,8,10,12,14,16,20,22,18,20,22,24,26,26,26,26,26,28,28,28,28,28,30,0,1]),([true,false,false,false,true,true,true,true,true,true,true,true,true,true,false],[2,2,2,4,4,4,4,6,6,6,6,8,10,12,14,16,20,22,18,20,22,24,26,26,26,26,26,28,28,28,28,28,30,0,1]),([true,false,false,false,true,true,true,true,true,true,true,true,true,false],[0,0,0,2,2,2,2,4,4,4,4,6,8,10,12,14,18,20,16,18,20,22,24,24,24,24,24,26,26,26,26,26,28,0,1]),([true,false,false,false,true,true,true,true,true,true,true,true,false],[0,0,0,0,0,0,0,2,2,2,2,4,6,8,10,12,16,18,14,16,18,20,22,22,22,22,22,24,24,24,24,24,26,0,1]),([true,false,false,false,true,true,true,true,true,true,true,false,true,true,true],[1,0,4,0,2,4,2,2,2,4,4,4,0,0,5,5,5,5,5,6,8,10,12,14,16,20,22,18,20,22,24,26,26,26,26,26,28,28,28,28,28,30,0,1]),([true,false,false,false,true,true,true,true,true,true,true,false,true,true,false,true],[2,0,6,0,4,6,4,4,4,6,6,6,0,0,7,7,7,7,7,8,10,12,14,16,18,22,24,20,22,24,26,28,28,28,28,28,30,30,30,30,30,32,0,1]),([true,false,false,false,true,true,true,true,true,true,true,false,true,true,false,false,true,true,true],[2,2,2,4,6,8,0,12,0,10,12,10,10,10,12,12,12,0,0,13,13,13,13,13,14,16,18,20,22,24,28,30,26,28,30,32,34,34,34,34,34,36,36,36,36,36,38,0,1]),([true,false,false,false,true,true,true,true,true,true,true,false,true,true,false,false,true,true,false],[2,2,2,4,6,8,0,12,0,10,12,10,10,10,12,12,12,0,0,13,13,13,13,13,14,16,18,20,22,24,28,30,26,28,30,32,34,34,34,34,34,36,36,36,36,36,38,0,1]),([true,false,false,false,true,true,true,true,true,true,true,false,true,true,false,false,true,false,true,true,true,true],[2,2,2,2,4,6,8,10,12,14,0,18,0,16,18,16,16,16,18,18,18,0,0,19,19,19,19,19,20,22,24,26,28,30,34,36,32,34,36,38,40,40,40,40,40,42,42,42,42,42,44,0,1]),([true,false,false,false,true,true,true,true,true,true,true,false,true,true,false,false,true,false,true,true,true,false],[2,2,2,2,4,6,8,10,12,14,0,18,0,16,18,16,16,16,18,18,18,0,0,19,19,19,19,19,20,22,24,26,28,30,34,36,32,34,36,38,40,40,40,40,40,42,42,42,42,42,44,0,1]),([true,false,false,false,true,true,true,true,true,true,true,false,true,true,false,false,true,false,true,true,false,true],[2,2,2,4,6,8,10,12,14,0,18,0,16,18,16,16,16,18,18,18,0,0,19,19,19,19,19,20,22,24,26,28,30,34,36,32,34,36,38,40,40,40,40,40,42,42,42,42,42,44,0,1]),([true,false,false,false,true,true,true,true,true,true,true,false,true,true,false,false,true,false,true,true,false,false],[2,2,2,4,6,8,10,12,14,0,18,0,16,18,16,16,16,18,18,18,0,0,19,19,19,19,19,20,22,24,26,28,30,34,36,32,34,36,38,40,40,40,40,40,42,42,42,42,42,44,0,1]),([true,false,false,false,true,true,true,true,true,true,true,false,true,false,true],[1,1,1,1,1,5,2,5,2,2,2,5,5,5,6,8,10,12,14,16,20,22,18,20,22,24,26,26,26,26,26,28,28,28,28,28,30,0,1]),([true,false,false,false,true,true,true,true,true,true,true,false,true,false,false,true],[1,2,2,2,2,7,4,7,4,4,4,7,7,7,8,10,12,14,16,18,22,24,20,22,24,26,28,28,28,28,28,30,30,30,30,30,32,0,1]),([true,false,false,false,true,true,true,true,true,true,true,false,true,false,false,false,true,true,true],[2,2,2,4,6,0,8,12,8,12,12,12,12,8,8,13,10,13,10,10,10,13,13,13,14,16,18,20,22,24,28,30,26,28,30,32,34,34,34,34,34,36,36,36,36,36,38,0,1]),([true,false,false,false,true,true,true,true,true,true,true,false,true,false,false,false,true,true,false],[2,2,2,4,6,0,8,12,8,12,12,12,12,8,8,13,10,13,10,10,10,13,13,13,14,16,18,20,22,24,28,30,26,28,30,32,34,34,34,34,34,36,36,36,36,36,38,0,1]),([true,false,false,false,true,true,true,true,true,true,true,false,true,false,false,false,true,false,true,true,true,true],[2,2,2,2,4,6,8,10,12,0,14,18,14,18,18,18,18,14,14,19,16,19,16,16,16,19,19,19,20,22,24,26,28,30,34,36,32,34,36,38,40,40,40,40,40,42,42,42,42,42,44,0,1]),([true,false,false,false,true,true,true,true,true,true,true,false,true,false,false,false,true,false,true,true,true,false],[2,2,2,2,4,6,8,10,12,0,14,18,14,18,18,18,18,14,14,19,16,19,16,16,16,19,19,19,20,22,24,26,28,30,34,36,32,34,36,38,40,40,40,40,40,42,42,42,42,42,44,0,1]),([true,false,false,false,true,true,true,true,true,true,true,false,true,false,false,false,true,false,true,true,false,true],[2,2,2,4,6,8,10,12,0,14,18,14,18,18,18,18,14,14,19,16,19,16,16,16,19,19,19,20,22,24,26,28,30,34,36,32,34,36,38,40,40,40,40,40,42,42,42,42,42,44,0,1]),([true,false,false,false,true,true,true,true,true,true,true,false,true,false,false,false,true,false,true,true,false,false],[2,2,2,4,6,8,10,12,0,14,18,14,18,18,18,18,14,14,19,16,19,16,16,16,19,19,19,20,22,24,26,28,30,34,36,32,34,36,38,40,40,40,40,40,42,42,42,42,42,44,0,1]),([true,false,false,false,true,true,true,true,true,false,true,true,true],[2,2,2,4,4,4,4,6,6,6,6,9,8,10,12,16,18,14,16,18,20,22,22,22,22,22,24,24,24,24,24,26,0,1]),([true,false,false,false,true,true,true,true,true,false,true,true,false],[2,2,2,4,4,4,4,6,6,6,6,9,8,10,12,16,18,14,16,18,20,22,22,22,22,22,24,24,24,24,24,26,0,1]),([true,false,false,false,true,true,true,true,true,false,true,false],[0,0,0,2,2,2,2,4,4,4,4,7,6,8,10,14,16,12,14,16,18,20,20,20,20,20,22,22,22,22,22,24,0,1]),([true,false,false,false,true,true,true,true,true,false,false],[0,0,0,0,0,0,0,2,2,2,2,5,4,6,8,12,14,10,12,14,16,18,18,18,18,18,20,20,20,20,20,22,0,1])] :=
  ⟨by kernel_rfl,by kernel_rfl,by kernel_rfl,by kernel_rfl,by kernel_rfl,by kernel_rfl,by kernel_rfl,by kernel_rfl,by kernel_rfl,by kernel_rfl,by kernel_rfl,by kernel_rfl,by kernel_rfl,by kernel_rfl,by kernel_rfl,by kernel_rfl,by kernel_rfl,by kernel_rfl,by kernel_rfl,by kernel_rfl,by kernel_rfl,by kernel_rfl,by kernel_rfl,by kernel_rfl,by kernel_rfl,by kernel_rfl,by kernel_rfl,trivial⟩

theorem ok6_t (x0:(List Int)) (x0':(List Int)) (x1:Int) (x1':(List (Int×(Int×Unit)))) (x2:Int) (x2':Int):TrOk (PureRuns Go.Proofs.Try.prog (kf37 Go.Proofs.Try.prog).orc 6 as6 rs6 ((x0,x0',()),(x1,x1',()),(x2,x2',()),())) (t6 x0 x0' x1 x1' x2 x2') :=
  Walks.ok (fun _ _ _=>PureRuns.of) (wk6 x0 x0' x1 x1' x2 x2') (by kernel_rfl)

theorem ok6:PureOk Go.Proofs.Try.prog 6 p6:=pureOk_of kf37_ok.base (T:=fun (d:Tys.data as6)=>t6 d.1.1 d.1.2.1 d.2.1.1 d.2.1.2.1 d.2.2.1.1 d.2.2.1.2.1) (by kernel_rfl) (fun (d:Tys.data as6)=>ok6_t d.1.1 d.1.2.1 d.2.1.1 d.2.1.2.1 d.2.2.1.1 d.2.2.1.2.1)

end Go.Vm.Mo
