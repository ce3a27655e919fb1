import Derived.Test.YtlmcodagfhdncaaA4
import Derived.KernelRfl
import Derived.Test.YtlmcodagfhdncaaProg
import Derived.Test.YtlmcodagfhdncaaRsFb
set_option linter.unusedVariables false
set_option linter.unusedSimpArgs false

namespace Go.Vm.Mo
open Go
set_option linter.unusedVariables false

/-! (ductility/hybrid.test).leaves -/

abbrev as67:List Ty:=[(.pair (.pair (.int .i64) (.pair (.int .i64) (.pair (.int .i64) (.pair (.int .i64) (.pair (.int .i64) (.pair .bool (.pair (.int .i64) (.pair (.pair (.int .i64) (.pair (.int .i64) .unit)) .unit)))))))) .unit),(.int .i64)]
abbrev rs67:List Ty:=[.bool]

def t67 (x0_:Int) (x0_':Int) (x0_'':Int) (x0_''':Int) (x0_'''':Int) (x0_''''':Bool) (x0_'''''':Int) (x0_'''''''_:Int) (x0_'''''''_':Int) (x1:Int):Tr (Tys.data rs67) :=
  Tr.test (Option.isSome (f58 (x0_'''''',(([x1]:List Int),()))))
    (let r0:=g58 (x0_'''''',(([x1]:List Int),()));
    Tr.fin ((r0.1,())))
    (Tr.stop)

def f67 (d:Tys.data as67):Option (Tys.data rs67):=(t67 d.1.1.1 d.1.1.2.1 d.1.1.2.2.1 d.1.1.2.2.2.1 d.1.1.2.2.2.2.1 d.1.1.2.2.2.2.2.1 d.1.1.2.2.2.2.2.2.1 d.1.1.2.2.2.2.2.2.2.1.1 d.1.1.2.2.2.2.2.2.2.1.2.1 d.2.1).val
def g67 (d:Tys.data as67):Tys.data rs67:=(f67 d).getD (Tys.dflt rs67)
def p67:PureC:=pcOf as67 rs67 f67 g67

theorem wk67 (x0_:Int) (x0_':Int) (x0_'':Int) (x0_''':Int) (x0_'''':Int) (x0_''''':Bool) (x0_'''''':Int) (x0_'''''''_:Int) (x0_'''''''_':Int) (x1:Int):Walks (runPure (kf66 Go.Proofs.Try.prog).orc Go.Proofs.Try.prog 400 67 as67 rs67 (((x0_,x0_',x0_'',x0_''',x0_'''',x0_''''',x0_'''''',(x0_'''''''_,x0_'''''''_',()),()),()),x1,())) (t67 x0_ x0_' x0_'' x0_''' x0_'''' x0_''''' x0_'''''' x0_'''''''_ x0_'''''''_' x1) [([tt],[2])] :=
  ⟨by kernel_rfl,trivial⟩

theorem ok67_t (x0_:Int) (x0_':Int) (x0_'':Int) (x0_''':Int) (x0_'''':Int) (x0_''''':Bool) (x0_'''''':Int) (x0_'''''''_:Int) (x0_'''''''_':Int) (x1:Int):TrOk (PureRuns Go.Proofs.Try.prog (kf66 Go.Proofs.Try.prog).orc 67 as67 rs67 (((x0_,x0_',x0_'',x0_''',x0_'''',x0_''''',x0_'''''',(x0_'''''''_,x0_'''''''_',()),()),()),x1,())) (t67 x0_ x0_' x0_'' x0_''' x0_'''' x0_''''' x0_'''''' x0_'''''''_ x0_'''''''_' x1) :=
  Walks.ok (fun _ _ _=>PureRuns.of) (wk67 x0_ x0_' x0_'' x0_''' x0_'''' x0_''''' x0_'''''' x0_'''''''_ x0_'''''''_' x1) (by kernel_rfl)

theorem ok67:PureOk Go.Proofs.Try.prog 67 p67:=pureOk_of kf66_ok.base (T:=fun (d:Tys.data as67)=>t67 d.1.1.1 d.1.1.2.1 d.1.1.2.2.1 d.1.1.2.2.2.1 d.1.1.2.2.2.2.1 d.1.1.2.2.2.2.2.1 d.1.1.2.2.2.2.2.2.1 d.1.1.2.2.2.2.2.2.2.1.1 d.1.1.2.2.2.2.2.2.2.1.2.1 d.2.1) (by kernel_rfl) (fun (d:Tys.data as67)=>ok67_t d.1.1.1 d.1.1.2.1 d.1.1.2.2.1 d.1.1.2.2.2.1 d.1.1.2.2.2.2.1 d.1.1.2.2.2.2.2.1 d.1.1.2.2.2.2.2.2.1 d.1.1.2.2.2.2.2.2.2.1.1 d.1.1.2.2.2.2.2.2.2.1.2.1 d.2.1)
def kf67 (P:Go.Program):Known:=(kf66 P).func 67 p67
theorem kf67_ok:KnownOk Go.Proofs.Try.prog (kf67 Go.Proofs.Try.prog):=kf66_ok.func ok67

/-! (ductility/hybrid.test).length -/

abbrev as92:List Ty:=[(.pair (.pair (.int .i64) (.pair (.int .i64) (.pair (.int .i64) (.pair (.int .i64) (.pair (.int .i64) (.pair .bool (.pair (.int .i64) (.pair (.pair (.int .i64) (.pair (.int .i64) .unit)) .unit)))))))) .unit)]
abbrev rs92:List Ty:=[(.int .i64)]

def t92 (x0_:Int) (x0_':Int) (x0_'':Int) (x0_''':Int) (x0_'''':Int) (x0_''''':Bool) (x0_'''''':Int) (x0_'''''''_:Int) (x0_'''''''_':Int):Tr (Tys.data rs92) :=
  Tr.fin (((wrap64 (x0_'''' + (2:Int)):Int),()))

def f92 (d:Tys.data as92):Option (Tys.data rs92):=(t92 d.1.1.1 d.1.1.2.1 d.1.1.2.2.1 d.1.1.2.2.2.1 d.1.1.2.2.2.2.1 d.1.1.2.2.2.2.2.1 d.1.1.2.2.2.2.2.2.1 d.1.1.2.2.2.2.2.2.2.1.1 d.1.1.2.2.2.2.2.2.2.1.2.1).val
def g92 (d:Tys.data as92):Tys.data rs92:=(f92 d).getD (Tys.dflt rs92)
def p92:PureC:=pcOf as92 rs92 f92 g92

theorem wk92 (x0_:Int) (x0_':Int) (x0_'':Int) (x0_''':Int) (x0_'''':Int) (x0_''''':Bool) (x0_'''''':Int) (x0_'''''''_:Int) (x0_'''''''_':Int):Walks (runPure (kf67 Go.Proofs.Try.prog).orc Go.Proofs.Try.prog 400 92 as92 rs92 (((x0_,x0_',x0_'',x0_''',x0_'''',x0_''''',x0_'''''',(x0_'''''''_,x0_'''''''_',()),()),()),())) (t92 x0_ x0_' x0_'' x0_''' x0_'''' x0_''''' x0_'''''' x0_'''''''_ x0_'''''''_') [([],[])] :=
  ⟨by kernel_rfl,trivial⟩

theorem ok92_t (x0_:Int) (x0_':Int) (x0_'':Int) (x0_''':Int) (x0_'''':Int) (x0_''''':Bool) (x0_'''''':Int) (x0_'''''''_:Int) (x0_'''''''_':Int):TrOk (PureRuns Go.Proofs.Try.prog (kf67 Go.Proofs.Try.prog).orc 92 as92 rs92 (((x0_,x0_',x0_'',x0_''',x0_'''',x0_''''',x0_'''''',(x0_'''''''_,x0_'''''''_',()),()),()),())) (t92 x0_ x0_' x0_'' x0_''' x0_'''' x0_''''' x0_'''''' x0_'''''''_ x0_'''''''_') :=
  Walks.ok (fun _ _ _=>PureRuns.of) (wk92 x0_ x0_' x0_'' x0_''' x0_'''' x0_''''' x0_'''''' x0_'''''''_ x0_'''''''_') (by kernel_rfl)

theorem ok92:PureOk Go.Proofs.Try.prog 92 p92:=pureOk_of kf67_ok.base (T:=fun (d:Tys.data as92)=>t92 d.1.1.1 d.1.1.2.1 d.1.1.2.2.1 d.1.1.2.2.2.1 d.1.1.2.2.2.2.1 d.1.1.2.2.2.2.2.1 d.1.1.2.2.2.2.2.2.1 d.1.1.2.2.2.2.2.2.2.1.1 d.1.1.2.2.2.2.2.2.2.1.2.1) (by kernel_rfl) (fun (d:Tys.data as92)=>ok92_t d.1.1.1 d.1.1.2.1 d.1.1.2.2.1 d.1.1.2.2.2.1 d.1.1.2.2.2.2.1 d.1.1.2.2.2.2.2.1 d.1.1.2.2.2.2.2.2.1 d.1.1.2.2.2.2.2.2.2.1.1 d.1.1.2.2.2.2.2.2.2.1.2.1)
def kf92 (P:Go.Program):Known:=(kf67 P).func 92 p92
theorem kf92_ok:KnownOk Go.Proofs.Try.prog (kf92 Go.Proofs.Try.prog):=kf67_ok.func ok92

/-! (ductility/hybrid.test).after -/

abbrev as69:List Ty:=[(.pair (.pair (.int .i64) (.pair (.int .i64) (.pair (.int .i64) (.pair (.int .i64) (.pair (.int .i64) (.pair .bool (.pair (.int .i64) (.pair (.pair (.int .i64) (.pair (.int .i64) .unit)) .unit)))))))) .unit),(.pair (.int .i64) (.pair (.int .i64) (.pair (.int .i64) (.pair (.int .i64) .unit)))),(.int .i64)]
abbrev rs69:List Ty:=[(.pair (.int .i64) (.pair (.int .i64) (.pair (.int .i64) (.pair (.int .i64) .unit))))]

def t69 (x0_:Int) (x0_':Int) (x0_'':Int) (x0_''':Int) (x0_'''':Int) (x0_''''':Bool) (x0_'''''':Int) (x0_'''''''_:Int) (x0_'''''''_':Int) (x1:Int) (x1':Int) (x1'':Int) (x1''':Int) (x2:Int):Tr (Tys.data rs69) :=
  Tr.test (Option.isSome (f92 (((x0_,(x0_',(x0_'',(x0_''',(x0_'''',(x0_''''',(x0_'''''',((x0_'''''''_,(x0_'''''''_',())),())))))))),()),())))
    (let r0:=g92 (((x0_,(x0_',(x0_'',(x0_''',(x0_'''',(x0_''''',(x0_'''''',((x0_'''''''_,(x0_'''''''_',())),())))))))),()),());
    Tr.test ((decide ((0:Int) ≤ r0.1) && decide (r0.1 ≤ (4:Int)):Bool))
      (Tr.test ((true && decide ((1:Int) ≤ (↑(Int.toNat r0.1):Int)):Bool))
        (Tr.test ((Nat.ble (4:Nat) (Int.toNat r0.1 - (1:Nat)):Bool))
          (Tr.stop)
          (Tr.test ((Nat.beq (Int.toNat r0.1 - (1:Nat)) (0:Nat):Bool))
            (Tr.fin (((x2,((0:Int),((0:Int),((0:Int),())))),())))
            (Tr.test ((Nat.beq (Int.toNat r0.1 - (1:Nat)) (1:Nat):Bool))
              (Tr.fin (((x2,(x1,((0:Int),((0:Int),())))),())))
              (Tr.test ((Nat.beq (Int.toNat r0.1 - (1:Nat)) (2:Nat):Bool))
                (Tr.fin (((x2,(x1,(x1',((0:Int),())))),())))
                (Tr.test ((Nat.beq (Int.toNat r0.1 - (1:Nat)) (3:Nat):Bool))
                  (Tr.fin (((x2,(x1,(x1',(x1'',())))),())))
                  (Tr.stop))))))
        (Tr.stop))
      (Tr.stop))
    (Tr.stop)

def f69 (d:Tys.data as69):Option (Tys.data rs69):=(t69 d.1.1.1 d.1.1.2.1 d.1.1.2.2.1 d.1.1.2.2.2.1 d.1.1.2.2.2.2.1 d.1.1.2.2.2.2.2.1 d.1.1.2.2.2.2.2.2.1 d.1.1.2.2.2.2.2.2.2.1.1 d.1.1.2.2.2.2.2.2.2.1.2.1 d.2.1.1 d.2.1.2.1 d.2.1.2.2.1 d.2.1.2.2.2.1 d.2.2.1).val
def g69 (d:Tys.data as69):Tys.data rs69:=(f69 d).getD (Tys.dflt rs69)
def p69:PureC:=pcOf as69 rs69 f69 g69

theorem wk69 (x0_:Int) (x0_':Int) (x0_'':Int) (x0_''':Int) (x0_'''':Int) (x0_''''':Bool) (x0_'''''':Int) (x0_'''''''_:Int) (x0_'''''''_':Int) (x1:Int) (x1':Int) (x1'':Int) (x1''':Int) (x2:Int):Walks (runPure (kf92 Go.Proofs.Try.prog).orc Go.Proofs.Try.prog 400 69 as69 rs69 (((x0_,x0_',x0_'',x0_''',x0_'''',x0_''''',x0_'''''',(x0_'''''''_,x0_'''''''_',()),()),()),(x1,x1',x1'',x1''',()),x2,())) (t69 x0_ x0_' x0_'' x0_''' x0_'''' x0_''''' x0_'''''' x0_'''''''_ x0_'''''''_' x1 x1' x1'' x1''' x2) [([true,true,true,false,true],[0,1,2,4,0,6,8,10]),([true,true,true,false,false,true],[0,1,2,4,6,0,8,10,12]),([true,true,true,false,false,false,true],[0,1,2,4,6,8,0,10,12,14]),([true,true,true,false,false,false,false,true],[0,1,2,4,6,8,10,0,12,14,16])] :=
  ⟨by kernel_rfl,by kernel_rfl,by kernel_rfl,by kernel_rfl,trivial⟩

theorem ok69_t (x0_:Int) (x0_':Int) (x0_'':Int) (x0_''':Int) (x0_'''':Int) (x0_''''':Bool) (x0_'''''':Int) (x0_'''''''_:Int) (x0_'''''''_':Int) (x1:Int) (x1':Int) (x1'':Int) (x1''':Int) (x2:Int):TrOk (PureRuns Go.Proofs.Try.prog (kf92 Go.Proofs.Try.prog).orc 69 as69 rs69 (((x0_,x0_',x0_'',x0_''',x0_'''',x0_''''',x0_'''''',(x0_'''''''_,x0_'''''''_',()),()),()),(x1,x1',x1'',x1''',()),x2,())) (t69 x0_ x0_' x0_'' x0_''' x0_'''' x0_''''' x0_'''''' x0_'''''''_ x0_'''''''_' x1 x1' x1'' x1''' x2) :=
  Walks.ok (fun _ _ _=>PureRuns.of) (wk69 x0_ x0_' x0_'' x0_''' x0_'''' x0_''''' x0_'''''' x0_'''''''_ x0_'''''''_' x1 x1' x1'' x1''' x2) (by kernel_rfl)

theorem ok69:PureOk Go.Proofs.Try.prog 69 p69:=pureOk_of kf92_ok.base (T:=fun (d:Tys.data as69)=>t69 d.1.1.1 d.1.1.2.1 d.1.1.2.2.1 d.1.1.2.2.2.1 d.1.1.2.2.2.2.1 d.1.1.2.2.2.2.2.1 d.1.1.2.2.2.2.2.2.1 d.1.1.2.2.2.2.2.2.2.1.1 d.1.1.2.2.2.2.2.2.2.1.2.1 d.2.1.1 d.2.1.2.1 d.2.1.2.2.1 d.2.1.2.2.2.1 d.2.2.1) (by kernel_rfl) (fun (d:Tys.data as69)=>ok69_t d.1.1.1 d.1.1.2.1 d.1.1.2.2.1 d.1.1.2.2.2.1 d.1.1.2.2.2.2.1 d.1.1.2.2.2.2.2.1 d.1.1.2.2.2.2.2.2.1 d.1.1.2.2.2.2.2.2.2.1.1 d.1.1.2.2.2.2.2.2.2.1.2.1 d.2.1.1 d.2.1.2.1 d.2.1.2.2.1 d.2.1.2.2.2.1 d.2.2.1)
def kf69 (P:Go.Program):Known:=(kf92 P).func 69 p69
theorem kf69_ok:KnownOk Go.Proofs.Try.prog (kf69 Go.Proofs.Try.prog):=kf92_ok.func ok69

theorem sc25_0:sameRf Go.Proofs.Try.prog 25 0 = true:=sameRf_ok (by kernel_rfl)

/-! loop 0 of (ductility/hybrid.test).steps$1 -/

abbrev sh97_0 (P:Go.Program):Sh:={ n:=33,slots:=[0,2,4,8,9,10],pats:=[.yld 0,.ptr 1 9 0,.ptr 2 4 0,.ty (.slice (.int .i64)),.ty (.int .i64),.ty (.int .i64)],boxes:=[.lp (lpOf P 25 0 .ready none 36 [8] 3) [.ptr 4 1 0],.row [.ty (.int .i64),.ty (.int .i64),.ty (.int .i64),.ty (.int .i64),.ty (.int .i64),.ty .bool,.ty (.int .i64),.ty (.int .i64),.ty (.int .i64)],.row [.ty (.int .i64),.ty (.int .i64),.ty (.int .i64),.ty (.int .i64)],.dfr,.row [.acc (.int .i64)]] }
abbrev shb97_0 (P:Go.Program):Sh:={ n:=33,slots:=[],pats:=[],boxes:=[.lp (lpOf P 25 0 .ready none 36 [8] 3) [.ptr 4 1 0],.row [.ty (.int .i64),.ty (.int .i64),.ty (.int .i64),.ty (.int .i64),.ty (.int .i64),.ty .bool,.ty (.int .i64),.ty (.int .i64),.ty (.int .i64)],.row [.ty (.int .i64),.ty (.int .i64),.ty (.int .i64),.ty (.int .i64)],.dfr,.row [.acc (.int .i64)]] }
abbrev shr97_0 (P:Go.Program):Sh:={ n:=33,slots:=[],pats:=[],boxes:=[.lp (lpOf P 25 0 .ready none 36 [8] 3) [.ptr 4 1 0],.row [.ty (.int .i64),.ty (.int .i64),.ty (.int .i64),.ty (.int .i64),.ty (.int .i64),.ty .bool,.ty (.int .i64),.ty (.int .i64),.ty (.int .i64)],.row [.ty (.int .i64),.ty (.int .i64),.ty (.int .i64),.ty (.int .i64)],.dfr,.row [.acc (.int .i64)]] }

abbrev dt97_0:Type:=(List Int×Int×Int×PUnit)×PUnit×(Int×Int×Int×Int×Int×Bool×Int×Int×Int×PUnit)×(Int×Int×Int×Int×PUnit)×(List Int×PUnit)×PUnit
abbrev db97_0:Type:=PUnit×PUnit×(Int×Int×Int×Int×Int×Bool×Int×Int×Int×PUnit)×(Int×Int×Int×Int×PUnit)×(List Int×PUnit)×PUnit
abbrev dr97_0:Type:=PUnit×PUnit×(Int×Int×Int×Int×Int×Bool×Int×Int×Int×PUnit)×(Int×Int×Int×Int×PUnit)×(List Int×PUnit)×PUnit

def t97_0 (x3:(List Int)) (x4:Int) (x5:Int) (b1_0:Int) (b1_1:Int) (b1_2:Int) (b1_3:Int) (b1_4:Int) (b1_5:Bool) (b1_6:Int) (b1_7:Int) (b1_8:Int) (b2_0:Int) (b2_1:Int) (b2_2:Int) (b2_3:Int) (b4_0:(List Int)):Tr (Out dt97_0 db97_0 dr97_0) :=
  Tr.test ((!leF x4 x5:Bool))
    (Tr.test (decide ((0:Int) ≤ x5) && decide (x5 < (↑(List.length x3):Int)))
      (Tr.test (Option.isSome (f66 (((b1_0,(b1_1,(b1_2,(b1_3,(b1_4,(b1_5,(b1_6,((b1_7,(b1_8,())),())))))))),()),((b2_0,(b2_1,(b2_2,(b2_3,())))),((List.getD x3 (Int.toNat x5) (0:Int):Int),())))))
        (Tr.test ((Nat.ble (((2:Nat) * (List.length b4_0 + (1:Nat)) + (192:Nat)) * (8:Nat)) (281474976710656:Nat) && Nat.ble (List.length b4_0 + (1:Nat)) (281474976710656:Nat):Bool))
          (let r0:=g66 (((b1_0,(b1_1,(b1_2,(b1_3,(b1_4,(b1_5,(b1_6,((b1_7,(b1_8,())),())))))))),()),((b2_0,(b2_1,(b2_2,(b2_3,())))),((List.getD x3 (Int.toNat x5) (0:Int):Int),())));
          Tr.test (Option.isSome (f67 (((b1_0,(b1_1,(b1_2,(b1_3,(b1_4,(b1_5,(b1_6,((b1_7,(b1_8,())),())))))))),()),(r0.1,()))))
            (let r1:=g67 (((b1_0,(b1_1,(b1_2,(b1_3,(b1_4,(b1_5,(b1_6,((b1_7,(b1_8,())),())))))))),()),(r0.1,()));
            Tr.test (r1.1)
              (Tr.fin (.ret ((),((),((b1_0,(b1_1,(b1_2,(b1_3,(b1_4,(b1_5,(b1_6,(b1_7,(b1_8,()))))))))),((b2_0,(b2_1,(b2_2,(b2_3,())))),(((b4_0++[r0.1]:List Int),()),())))))))
              (Tr.test (Option.isSome (f69 (((b1_0,(b1_1,(b1_2,(b1_3,(b1_4,(b1_5,(b1_6,((b1_7,(b1_8,())),())))))))),()),((b2_0,(b2_1,(b2_2,(b2_3,())))),(r0.1,())))))
                (let r2:=g69 (((b1_0,(b1_1,(b1_2,(b1_3,(b1_4,(b1_5,(b1_6,((b1_7,(b1_8,())),())))))))),()),((b2_0,(b2_1,(b2_2,(b2_3,())))),(r0.1,())));
                Tr.fin (.again ((x3,(x4,((wrap64 (x5 + (1:Int)):Int),()))),((),((b1_0,(b1_1,(b1_2,(b1_3,(b1_4,(b1_5,(b1_6,(b1_7,(b1_8,()))))))))),((r2.1.1,(r2.1.2.1,(r2.1.2.2.1,(r2.1.2.2.2.1,())))),(((b4_0++[r0.1]:List Int),()),())))))))
                (Tr.stop)))
            (Tr.stop))
          (Tr.stop))
        (Tr.stop))
      (Tr.stop))
    (Tr.fin (.brk ((),((),((b1_0,(b1_1,(b1_2,(b1_3,(b1_4,(b1_5,(b1_6,(b1_7,(b1_8,()))))))))),((b2_0,(b2_1,(b2_2,(b2_3,())))),((b4_0,()),())))))))

def s97_0 (d:dt97_0):Option (Out dt97_0 db97_0 dr97_0):=(t97_0 d.1.1 d.1.2.1 d.1.2.2.1 d.2.2.1.1 d.2.2.1.2.1 d.2.2.1.2.2.1 d.2.2.1.2.2.2.1 d.2.2.1.2.2.2.2.1 d.2.2.1.2.2.2.2.2.1 d.2.2.1.2.2.2.2.2.2.1 d.2.2.1.2.2.2.2.2.2.2.1 d.2.2.1.2.2.2.2.2.2.2.2.1 d.2.2.2.1.1 d.2.2.2.1.2.1 d.2.2.2.1.2.2.1 d.2.2.2.1.2.2.2.1 d.2.2.2.2.1.1).val
def l97_0 (d:dt97_0):Option (db97_0 ⊕ dr97_0):=itr s97_0 rounds d
def b97_0 (d:dt97_0):db97_0:=outB (((),((),(((0:Int),((0:Int),((0:Int),((0:Int),((0:Int),((false:Bool),((0:Int),((0:Int),((0:Int),()))))))))),(((0:Int),((0:Int),((0:Int),((0:Int),())))),((([]:List Int),()),())))))) (l97_0 d)
def r97_0 (d:dt97_0):dr97_0:=outR (((),((),(((0:Int),((0:Int),((0:Int),((0:Int),((0:Int),((false:Bool),((0:Int),((0:Int),((0:Int),()))))))))),(((0:Int),((0:Int),((0:Int),((0:Int),())))),((([]:List Int),()),())))))) (l97_0 d)
def lc97_0 (P:Go.Program):LoopC:=lcOf (sh97_0 P) (shb97_0 P) (shr97_0 P) l97_0 b97_0 r97_0

theorem e97_0_0 (x3:(List Int)) (x4:Int) (x5:Int) (b1_0:Int) (b1_1:Int) (b1_2:Int) (b1_3:Int) (b1_4:Int) (b1_5:Bool) (b1_6:Int) (b1_7:Int) (b1_8:Int) (b2_0:Int) (b2_1:Int) (b2_2:Int) (b2_3:Int) (b4_0:(List Int)):runBody (kf69 Go.Proofs.Try.prog).orc Go.Proofs.Try.prog 400 97 0 (sh97_0 Go.Proofs.Try.prog) (shb97_0 Go.Proofs.Try.prog) (shr97_0 Go.Proofs.Try.prog) ((x3,x4,x5,()),(),(b1_0,b1_1,b1_2,b1_3,b1_4,b1_5,b1_6,b1_7,b1_8,()),(b2_0,b2_1,b2_2,b2_3,()),(b4_0,()),()) [tt,tt,tt,ff,tt,ff,ff,ff,tt,ff,tt] =
    (let r0:=g66 (((b1_0,(b1_1,(b1_2,(b1_3,(b1_4,(b1_5,(b1_6,((b1_7,(b1_8,())),())))))))),()),((b2_0,(b2_1,(b2_2,(b2_3,())))),((List.getD x3 (Int.toNat x5) (0:Int):Int),())));let r1:=g67 (((b1_0,(b1_1,(b1_2,(b1_3,(b1_4,(b1_5,(b1_6,((b1_7,(b1_8,())),())))))))),()),(r0.1,())); some (.ret ((),((),((b1_0,(b1_1,(b1_2,(b1_3,(b1_4,(b1_5,(b1_6,(b1_7,(b1_8,()))))))))),((b2_0,(b2_1,(b2_2,(b2_3,())))),(((b4_0++[r0.1]:List Int),()),()))))),[(sameRf Go.Proofs.Try.prog (nat_lit 25) (nat_lit 0),true),(r1.1,true),(false,false),(Option.isSome (f67 (((b1_0,(b1_1,(b1_2,(b1_3,(b1_4,(b1_5,(b1_6,((b1_7,(b1_8,())),())))))))),()),(r0.1,()))),true),(false,false),(false,false),(false,false),(Nat.ble (((2:Nat) * (List.length b4_0 + (1:Nat)) + (192:Nat)) * (8:Nat)) (281474976710656:Nat) && Nat.ble (List.length b4_0 + (1:Nat)) (281474976710656:Nat),true),(false,false),(Option.isSome (f66 (((b1_0,(b1_1,(b1_2,(b1_3,(b1_4,(b1_5,(b1_6,((b1_7,(b1_8,())),())))))))),()),((b2_0,(b2_1,(b2_2,(b2_3,())))),((List.getD x3 (Int.toNat x5) (0:Int):Int),())))),true),(decide ((0:Int) ≤ x5) && decide (x5 < (↑(List.length x3):Int)),true),(!leF x4 x5,true)])):=by kernel_rfl
theorem e97_0_1 (x3:(List Int)) (x4:Int) (x5:Int) (b1_0:Int) (b1_1:Int) (b1_2:Int) (b1_3:Int) (b1_4:Int) (b1_5:Bool) (b1_6:Int) (b1_7:Int) (b1_8:Int) (b2_0:Int) (b2_1:Int) (b2_2:Int) (b2_3:Int) (b4_0:(List Int)):runBody (kf69 Go.Proofs.Try.prog).orc Go.Proofs.Try.prog 400 97 0 (sh97_0 Go.Proofs.Try.prog) (shb97_0 Go.Proofs.Try.prog) (shr97_0 Go.Proofs.Try.prog) ((x3,x4,x5,()),(),(b1_0,b1_1,b1_2,b1_3,b1_4,b1_5,b1_6,b1_7,b1_8,()),(b2_0,b2_1,b2_2,b2_3,()),(b4_0,()),()) [tt,tt,tt,ff,tt,ff,ff,ff,tt,ff,ff,tt] =
    (let r0:=g66 (((b1_0,(b1_1,(b1_2,(b1_3,(b1_4,(b1_5,(b1_6,((b1_7,(b1_8,())),())))))))),()),((b2_0,(b2_1,(b2_2,(b2_3,())))),((List.getD x3 (Int.toNat x5) (0:Int):Int),())));let r1:=g67 (((b1_0,(b1_1,(b1_2,(b1_3,(b1_4,(b1_5,(b1_6,((b1_7,(b1_8,())),())))))))),()),(r0.1,()));let r2:=g69 (((b1_0,(b1_1,(b1_2,(b1_3,(b1_4,(b1_5,(b1_6,((b1_7,(b1_8,())),())))))))),()),((b2_0,(b2_1,(b2_2,(b2_3,())))),(r0.1,()))); some (.again ((x3,(x4,((wrap64 (x5 + (1:Int)):Int),()))),((),((b1_0,(b1_1,(b1_2,(b1_3,(b1_4,(b1_5,(b1_6,(b1_7,(b1_8,()))))))))),((r2.1.1,(r2.1.2.1,(r2.1.2.2.1,(r2.1.2.2.2.1,())))),(((b4_0++[r0.1]:List Int),()),()))))),[(sameRf Go.Proofs.Try.prog (nat_lit 25) (nat_lit 0),true),(Option.isSome (f69 (((b1_0,(b1_1,(b1_2,(b1_3,(b1_4,(b1_5,(b1_6,((b1_7,(b1_8,())),())))))))),()),((b2_0,(b2_1,(b2_2,(b2_3,())))),(r0.1,())))),true),(r1.1,false),(false,false),(Option.isSome (f67 (((b1_0,(b1_1,(b1_2,(b1_3,(b1_4,(b1_5,(b1_6,((b1_7,(b1_8,())),())))))))),()),(r0.1,()))),true),(false,false),(false,false),(false,false),(Nat.ble (((2:Nat) * (List.length b4_0 + (1:Nat)) + (192:Nat)) * (8:Nat)) (281474976710656:Nat) && Nat.ble (List.length b4_0 + (1:Nat)) (281474976710656:Nat),true),(false,false),(Option.isSome (f66 (((b1_0,(b1_1,(b1_2,(b1_3,(b1_4,(b1_5,(b1_6,((b1_7,(b1_8,())),())))))))),()),((b2_0,(b2_1,(b2_2,(b2_3,())))),((List.getD x3 (Int.toNat x5) (0:Int):Int),())))),true),(decide ((0:Int) ≤ x5) && decide (x5 < (↑(List.length x3):Int)),true),(!leF x4 x5,true)])):=by kernel_rfl
theorem e97_0_4 (x3:(List Int)) (x4:Int) (x5:Int) (b1_0:Int) (b1_1:Int) (b1_2:Int) (b1_3:Int) (b1_4:Int) (b1_5:Bool) (b1_6:Int) (b1_7:Int) (b1_8:Int) (b2_0:Int) (b2_1:Int) (b2_2:Int) (b2_3:Int) (b4_0:(List Int)):runBody (kf69 Go.Proofs.Try.prog).orc Go.Proofs.Try.prog 400 97 0 (sh97_0 Go.Proofs.Try.prog) (shb97_0 Go.Proofs.Try.prog) (shr97_0 Go.Proofs.Try.prog) ((x3,x4,x5,()),(),(b1_0,b1_1,b1_2,b1_3,b1_4,b1_5,b1_6,b1_7,b1_8,()),(b2_0,b2_1,b2_2,b2_3,()),(b4_0,()),()) [ff] =
    (some (.brk ((),((),((b1_0,(b1_1,(b1_2,(b1_3,(b1_4,(b1_5,(b1_6,(b1_7,(b1_8,()))))))))),((b2_0,(b2_1,(b2_2,(b2_3,())))),((b4_0,()),()))))),[(sameRf Go.Proofs.Try.prog (nat_lit 25) (nat_lit 0),true),(!leF x4 x5,false)])):=by kernel_rfl

theorem ok97_0_t (x3:(List Int)) (x4:Int) (x5:Int) (b1_0:Int) (b1_1:Int) (b1_2:Int) (b1_3:Int) (b1_4:Int) (b1_5:Bool) (b1_6:Int) (b1_7:Int) (b1_8:Int) (b2_0:Int) (b2_1:Int) (b2_2:Int) (b2_3:Int) (b4_0:(List Int)):TrOk (BodyRuns Go.Proofs.Try.prog (kf69 Go.Proofs.Try.prog).orc 97 0 (sh97_0 Go.Proofs.Try.prog) (shb97_0 Go.Proofs.Try.prog) (shr97_0 Go.Proofs.Try.prog) ((x3,x4,x5,()),(),(b1_0,b1_1,b1_2,b1_3,b1_4,b1_5,b1_6,b1_7,b1_8,()),(b2_0,b2_1,b2_2,b2_3,()),(b4_0,()),())) (t97_0 x3 x4 x5 b1_0 b1_1 b1_2 b1_3 b1_4 b1_5 b1_6 b1_7 b1_8 b2_0 b2_1 b2_2 b2_3 b4_0) :=
  TrOk.ofTest (fun h0=>TrOk.ofTest (fun h1=>TrOk.ofTest (fun h2=>TrOk.ofTest (fun h4=>TrOk.ofTest (fun h8=>TrOk.ofTest (fun h10=>TrOk.ofFin (BodyRuns.of (e97_0_0 x3 x4 x5 b1_0 b1_1 b1_2 b1_3 b1_4 b1_5 b1_6 b1_7 b1_8 b2_0 b2_1 b2_2 b2_3 b4_0) (ac (sc25_0) (ac h10 (ac rfl (ac h8 (ac rfl (ac rfl (ac rfl (ac h4 (ac rfl (ac h2 (ac h1 (ac h0 All.nil)))))))))))))) (fun h10=>TrOk.ofTest (fun h11=>TrOk.ofFin (BodyRuns.of (e97_0_1 x3 x4 x5 b1_0 b1_1 b1_2 b1_3 b1_4 b1_5 b1_6 b1_7 b1_8 b2_0 b2_1 b2_2 b2_3 b4_0) (ac (sc25_0) (ac h11 (ac h10 (ac rfl (ac h8 (ac rfl (ac rfl (ac rfl (ac h4 (ac rfl (ac h2 (ac h1 (ac h0 All.nil))))))))))))))) (fun h11=>TrOk.ofStop))) (fun h8=>TrOk.ofStop)) (fun h4=>TrOk.ofStop)) (fun h2=>TrOk.ofStop)) (fun h1=>TrOk.ofStop)) (fun h0=>TrOk.ofFin (BodyRuns.of (e97_0_4 x3 x4 x5 b1_0 b1_1 b1_2 b1_3 b1_4 b1_5 b1_6 b1_7 b1_8 b2_0 b2_1 b2_2 b2_3 b4_0) (ac (sc25_0) (ac h0 All.nil))))

theorem ok97_0:LoopOk Go.Proofs.Try.prog 97 0 (lc97_0 Go.Proofs.Try.prog):=loopOk_of (sh:=(sh97_0 Go.Proofs.Try.prog)) (shB:=(shb97_0 Go.Proofs.Try.prog)) (shR:=(shr97_0 Go.Proofs.Try.prog)) kf69_ok.base (T:=fun (d:dt97_0)=>t97_0 d.1.1 d.1.2.1 d.1.2.2.1 d.2.2.1.1 d.2.2.1.2.1 d.2.2.1.2.2.1 d.2.2.1.2.2.2.1 d.2.2.1.2.2.2.2.1 d.2.2.1.2.2.2.2.2.1 d.2.2.1.2.2.2.2.2.2.1 d.2.2.1.2.2.2.2.2.2.2.1 d.2.2.1.2.2.2.2.2.2.2.2.1 d.2.2.2.1.1 d.2.2.2.1.2.1 d.2.2.2.1.2.2.1 d.2.2.2.1.2.2.2.1 d.2.2.2.2.1.1) (by kernel_rfl) rfl (fun (d:dt97_0)=>ok97_0_t d.1.1 d.1.2.1 d.1.2.2.1 d.2.2.1.1 d.2.2.1.2.1 d.2.2.1.2.2.1 d.2.2.1.2.2.2.1 d.2.2.1.2.2.2.2.1 d.2.2.1.2.2.2.2.2.1 d.2.2.1.2.2.2.2.2.2.1 d.2.2.1.2.2.2.2.2.2.2.1 d.2.2.1.2.2.2.2.2.2.2.2.1 d.2.2.2.1.1 d.2.2.2.1.2.1 d.2.2.2.1.2.2.1 d.2.2.2.1.2.2.2.1 d.2.2.2.2.1.1) (fun _=>rfl)
def kl97_0 (P:Go.Program):Known:=(kf69 P).loop 97 0 (lc97_0 P)
theorem kl97_0_ok:KnownOk Go.Proofs.Try.prog (kl97_0 Go.Proofs.Try.prog):=kf69_ok.loop ok97_0

/-! ductility/hybrid.RunOf -/

abbrev as25:List Ty:=[(.pair (.int .i64) (.pair (.int .i64) (.pair (.int .i64) (.pair (.int .i64) (.pair (.int .i64) (.pair .bool (.pair (.int .i64) (.pair (.pair (.int .i64) (.pair (.int .i64) .unit)) .unit)))))))),(.slice (.int .i64))]
abbrev rs25:List Ty:=[(.slice (.int .i64)),(.int .i64)]

def t25 (x0:Int) (x0':Int) (x0'':Int) (x0''':Int) (x0'''':Int) (x0''''':Bool) (x0'''''':Int) (x0'''''''_:Int) (x0'''''''_':Int) (x1:(List Int)):Tr (Tys.data rs25) :=
  Tr.test (Option.isSome (f61 ((x0,(x0',(x0'',(x0''',(x0'''',(x0''''',(x0'''''',((x0'''''''_,(x0'''''''_',())),())))))))),())))
    (let r0:=g61 ((x0,(x0',(x0'',(x0''',(x0'''',(x0''''',(x0'''''',((x0'''''''_,(x0'''''''_',())),())))))))),());
    Tr.test (Option.isSome (f71 (((r0.1.1.1,(r0.1.1.2.1,(r0.1.1.2.2.1,(r0.1.1.2.2.2.1,(r0.1.1.2.2.2.2.1,(r0.1.1.2.2.2.2.2.1,(r0.1.1.2.2.2.2.2.2.1,((r0.1.1.2.2.2.2.2.2.2.1.1,(r0.1.1.2.2.2.2.2.2.2.1.2.1,())),())))))))),()),(x1,()))))
      (let r1:=g71 (((r0.1.1.1,(r0.1.1.2.1,(r0.1.1.2.2.1,(r0.1.1.2.2.2.1,(r0.1.1.2.2.2.2.1,(r0.1.1.2.2.2.2.2.1,(r0.1.1.2.2.2.2.2.2.1,((r0.1.1.2.2.2.2.2.2.2.1.1,(r0.1.1.2.2.2.2.2.2.2.1.2.1,())),())))))))),()),(x1,()));
      Tr.test (Option.isSome (f59 (([r0.2.1,r1.1]:List Int),())))
        (let r2:=g59 (([r0.2.1,r1.1]:List Int),());
        Tr.test ((!eqF r2.1 0:Bool))
          (Tr.fin ((([]:List Int),(r2.1,()))))
          (Tr.test (Option.isSome (l97_0 ((x1,((↑(List.length x1):Int),((0:Int),()))),((),((r0.1.1.1,(r0.1.1.2.1,(r0.1.1.2.2.1,(r0.1.1.2.2.2.1,(r0.1.1.2.2.2.2.1,(r0.1.1.2.2.2.2.2.1,(r0.1.1.2.2.2.2.2.2.1,(r0.1.1.2.2.2.2.2.2.2.1.1,(r0.1.1.2.2.2.2.2.2.2.1.2.1,()))))))))),(((0:Int),((0:Int),((0:Int),((0:Int),())))),((([(0:Int)]:List Int),()),())))))))
            (Tr.test (isRet (l97_0 ((x1,((↑(List.length x1):Int),((0:Int),()))),((),((r0.1.1.1,(r0.1.1.2.1,(r0.1.1.2.2.1,(r0.1.1.2.2.2.1,(r0.1.1.2.2.2.2.1,(r0.1.1.2.2.2.2.2.1,(r0.1.1.2.2.2.2.2.2.1,(r0.1.1.2.2.2.2.2.2.2.1.1,(r0.1.1.2.2.2.2.2.2.2.1.2.1,()))))))))),(((0:Int),((0:Int),((0:Int),((0:Int),())))),((([(0:Int)]:List Int),()),())))))))
              (let r3:=r97_0 ((x1,((↑(List.length x1):Int),((0:Int),()))),((),((r0.1.1.1,(r0.1.1.2.1,(r0.1.1.2.2.1,(r0.1.1.2.2.2.1,(r0.1.1.2.2.2.2.1,(r0.1.1.2.2.2.2.2.1,(r0.1.1.2.2.2.2.2.2.1,(r0.1.1.2.2.2.2.2.2.2.1.1,(r0.1.1.2.2.2.2.2.2.2.1.2.1,()))))))))),(((0:Int),((0:Int),((0:Int),((0:Int),())))),((([(0:Int)]:List Int),()),())))));
              Tr.fin ((r3.2.2.2.2.1.1,((0:Int),()))))
              (let r4:=b97_0 ((x1,((↑(List.length x1):Int),((0:Int),()))),((),((r0.1.1.1,(r0.1.1.2.1,(r0.1.1.2.2.1,(r0.1.1.2.2.2.1,(r0.1.1.2.2.2.2.1,(r0.1.1.2.2.2.2.2.1,(r0.1.1.2.2.2.2.2.2.1,(r0.1.1.2.2.2.2.2.2.2.1.1,(r0.1.1.2.2.2.2.2.2.2.1.2.1,()))))))))),(((0:Int),((0:Int),((0:Int),((0:Int),())))),((([(0:Int)]:List Int),()),())))));
              Tr.fin ((r4.2.2.2.2.1.1,((0:Int),())))))
            (Tr.stop)))
        (Tr.stop))
      (Tr.stop))
    (Tr.stop)

def f25 (d:Tys.data as25):Option (Tys.data rs25):=(t25 d.1.1 d.1.2.1 d.1.2.2.1 d.1.2.2.2.1 d.1.2.2.2.2.1 d.1.2.2.2.2.2.1 d.1.2.2.2.2.2.2.1 d.1.2.2.2.2.2.2.2.1.1 d.1.2.2.2.2.2.2.2.1.2.1 d.2.1).val
def g25 (d:Tys.data as25):Tys.data rs25:=(f25 d).getD (Tys.dflt rs25)
def p25:PureC:=pcOf as25 rs25 f25 g25

theorem e25_0 (x0:Int) (x0':Int) (x0'':Int) (x0''':Int) (x0'''':Int) (x0''''':Bool) (x0'''''':Int) (x0'''''''_:Int) (x0'''''''_':Int) (x1:(List Int)):runPure (kl97_0 Go.Proofs.Try.prog).orc Go.Proofs.Try.prog 400 25 as25 rs25 ((x0,x0',x0'',x0''',x0'''',x0''''',x0'''''',(x0'''''''_,x0'''''''_',()),()),x1,()) [tt,tt,tt,tt] =
    (let r0:=g61 ((x0,(x0',(x0'',(x0''',(x0'''',(x0''''',(x0'''''',((x0'''''''_,(x0'''''''_',())),())))))))),());let r1:=g71 (((r0.1.1.1,(r0.1.1.2.1,(r0.1.1.2.2.1,(r0.1.1.2.2.2.1,(r0.1.1.2.2.2.2.1,(r0.1.1.2.2.2.2.2.1,(r0.1.1.2.2.2.2.2.2.1,((r0.1.1.2.2.2.2.2.2.2.1.1,(r0.1.1.2.2.2.2.2.2.2.1.2.1,())),())))))))),()),(x1,()));let r2:=g59 (([r0.2.1,r1.1]:List Int),()); some ((([]:List Int),(r2.1,())),[(!eqF r2.1 0,true),(Option.isSome (f59 (([r0.2.1,r1.1]:List Int),())),true),(Option.isSome (f71 (((r0.1.1.1,(r0.1.1.2.1,(r0.1.1.2.2.1,(r0.1.1.2.2.2.1,(r0.1.1.2.2.2.2.1,(r0.1.1.2.2.2.2.2.1,(r0.1.1.2.2.2.2.2.2.1,((r0.1.1.2.2.2.2.2.2.2.1.1,(r0.1.1.2.2.2.2.2.2.2.1.2.1,())),())))))))),()),(x1,()))),true),(Option.isSome (f61 ((x0,(x0',(x0'',(x0''',(x0'''',(x0''''',(x0'''''',((x0'''''''_,(x0'''''''_',())),())))))))),())),true)])):=by kernel_rfl
theorem e25_1 (x0:Int) (x0':Int) (x0'':Int) (x0''':Int) (x0'''':Int) (x0''''':Bool) (x0'''''':Int) (x0'''''''_:Int) (x0'''''''_':Int) (x1:(List Int)):runPure (kl97_0 Go.Proofs.Try.prog).orc Go.Proofs.Try.prog 400 25 as25 rs25 ((x0,x0',x0'',x0''',x0'''',x0''''',x0'''''',(x0'''''''_,x0'''''''_',()),()),x1,()) [tt,tt,tt,ff,tt,tt,tt] =
    (let r0:=g61 ((x0,(x0',(x0'',(x0''',(x0'''',(x0''''',(x0'''''',((x0'''''''_,(x0'''''''_',())),())))))))),());let r1:=g71 (((r0.1.1.1,(r0.1.1.2.1,(r0.1.1.2.2.1,(r0.1.1.2.2.2.1,(r0.1.1.2.2.2.2.1,(r0.1.1.2.2.2.2.2.1,(r0.1.1.2.2.2.2.2.2.1,((r0.1.1.2.2.2.2.2.2.2.1.1,(r0.1.1.2.2.2.2.2.2.2.1.2.1,())),())))))))),()),(x1,()));let r2:=g59 (([r0.2.1,r1.1]:List Int),());let r3:=r97_0 ((x1,((↑(List.length x1):Int),((0:Int),()))),((),((r0.1.1.1,(r0.1.1.2.1,(r0.1.1.2.2.1,(r0.1.1.2.2.2.1,(r0.1.1.2.2.2.2.1,(r0.1.1.2.2.2.2.2.1,(r0.1.1.2.2.2.2.2.2.1,(r0.1.1.2.2.2.2.2.2.2.1.1,(r0.1.1.2.2.2.2.2.2.2.1.2.1,()))))))))),(((0:Int),((0:Int),((0:Int),((0:Int),())))),((([(0:Int)]:List Int),()),()))))); some ((r3.2.2.2.2.1.1,((0:Int),())),[(isRet (l97_0 ((x1,((↑(List.length x1):Int),((0:Int),()))),((),((r0.1.1.1,(r0.1.1.2.1,(r0.1.1.2.2.1,(r0.1.1.2.2.2.1,(r0.1.1.2.2.2.2.1,(r0.1.1.2.2.2.2.2.1,(r0.1.1.2.2.2.2.2.2.1,(r0.1.1.2.2.2.2.2.2.2.1.1,(r0.1.1.2.2.2.2.2.2.2.1.2.1,()))))))))),(((0:Int),((0:Int),((0:Int),((0:Int),())))),((([(0:Int)]:List Int),()),())))))),true),(Option.isSome (l97_0 ((x1,((↑(List.length x1):Int),((0:Int),()))),((),((r0.1.1.1,(r0.1.1.2.1,(r0.1.1.2.2.1,(r0.1.1.2.2.2.1,(r0.1.1.2.2.2.2.1,(r0.1.1.2.2.2.2.2.1,(r0.1.1.2.2.2.2.2.2.1,(r0.1.1.2.2.2.2.2.2.2.1.1,(r0.1.1.2.2.2.2.2.2.2.1.2.1,()))))))))),(((0:Int),((0:Int),((0:Int),((0:Int),())))),((([(0:Int)]:List Int),()),())))))),true),(sameRf Go.Proofs.Try.prog (nat_lit 25) (nat_lit 0),true),(!eqF r2.1 0,false),(Option.isSome (f59 (([r0.2.1,r1.1]:List Int),())),true),(Option.isSome (f71 (((r0.1.1.1,(r0.1.1.2.1,(r0.1.1.2.2.1,(r0.1.1.2.2.2.1,(r0.1.1.2.2.2.2.1,(r0.1.1.2.2.2.2.2.1,(r0.1.1.2.2.2.2.2.2.1,((r0.1.1.2.2.2.2.2.2.2.1.1,(r0.1.1.2.2.2.2.2.2.2.1.2.1,())),())))))))),()),(x1,()))),true),(Option.isSome (f61 ((x0,(x0',(x0'',(x0''',(x0'''',(x0''''',(x0'''''',((x0'''''''_,(x0'''''''_',())),())))))))),())),true)])):=by kernel_rfl
theorem e25_2 (x0:Int) (x0':Int) (x0'':Int) (x0''':Int) (x0'''':Int) (x0''''':Bool) (x0'''''':Int) (x0'''''''_:Int) (x0'''''''_':Int) (x1:(List Int)):runPure (kl97_0 Go.Proofs.Try.prog).orc Go.Proofs.Try.prog 400 25 as25 rs25 ((x0,x0',x0'',x0''',x0'''',x0''''',x0'''''',(x0'''''''_,x0'''''''_',()),()),x1,()) [tt,tt,tt,ff,tt,tt,ff] =
    (let r0:=g61 ((x0,(x0',(x0'',(x0''',(x0'''',(x0''''',(x0'''''',((x0'''''''_,(x0'''''''_',())),())))))))),());let r1:=g71 (((r0.1.1.1,(r0.1.1.2.1,(r0.1.1.2.2.1,(r0.1.1.2.2.2.1,(r0.1.1.2.2.2.2.1,(r0.1.1.2.2.2.2.2.1,(r0.1.1.2.2.2.2.2.2.1,((r0.1.1.2.2.2.2.2.2.2.1.1,(r0.1.1.2.2.2.2.2.2.2.1.2.1,())),())))))))),()),(x1,()));let r2:=g59 (([r0.2.1,r1.1]:List Int),());let r4:=b97_0 ((x1,((↑(List.length x1):Int),((0:Int),()))),((),((r0.1.1.1,(r0.1.1.2.1,(r0.1.1.2.2.1,(r0.1.1.2.2.2.1,(r0.1.1.2.2.2.2.1,(r0.1.1.2.2.2.2.2.1,(r0.1.1.2.2.2.2.2.2.1,(r0.1.1.2.2.2.2.2.2.2.1.1,(r0.1.1.2.2.2.2.2.2.2.1.2.1,()))))))))),(((0:Int),((0:Int),((0:Int),((0:Int),())))),((([(0:Int)]:List Int),()),()))))); some ((r4.2.2.2.2.1.1,((0:Int),())),[(isRet (l97_0 ((x1,((↑(List.length x1):Int),((0:Int),()))),((),((r0.1.1.1,(r0.1.1.2.1,(r0.1.1.2.2.1,(r0.1.1.2.2.2.1,(r0.1.1.2.2.2.2.1,(r0.1.1.2.2.2.2.2.1,(r0.1.1.2.2.2.2.2.2.1,(r0.1.1.2.2.2.2.2.2.2.1.1,(r0.1.1.2.2.2.2.2.2.2.1.2.1,()))))))))),(((0:Int),((0:Int),((0:Int),((0:Int),())))),((([(0:Int)]:List Int),()),())))))),false),(Option.isSome (l97_0 ((x1,((↑(List.length x1):Int),((0:Int),()))),((),((r0.1.1.1,(r0.1.1.2.1,(r0.1.1.2.2.1,(r0.1.1.2.2.2.1,(r0.1.1.2.2.2.2.1,(r0.1.1.2.2.2.2.2.1,(r0.1.1.2.2.2.2.2.2.1,(r0.1.1.2.2.2.2.2.2.2.1.1,(r0.1.1.2.2.2.2.2.2.2.1.2.1,()))))))))),(((0:Int),((0:Int),((0:Int),((0:Int),())))),((([(0:Int)]:List Int),()),())))))),true),(sameRf Go.Proofs.Try.prog (nat_lit 25) (nat_lit 0),true),(!eqF r2.1 0,false),(Option.isSome (f59 (([r0.2.1,r1.1]:List Int),())),true),(Option.isSome (f71 (((r0.1.1.1,(r0.1.1.2.1,(r0.1.1.2.2.1,(r0.1.1.2.2.2.1,(r0.1.1.2.2.2.2.1,(r0.1.1.2.2.2.2.2.1,(r0.1.1.2.2.2.2.2.2.1,((r0.1.1.2.2.2.2.2.2.2.1.1,(r0.1.1.2.2.2.2.2.2.2.1.2.1,())),())))))))),()),(x1,()))),true),(Option.isSome (f61 ((x0,(x0',(x0'',(x0''',(x0'''',(x0''''',(x0'''''',((x0'''''''_,(x0'''''''_',())),())))))))),())),true)])):=by kernel_rfl

theorem ok25_t (x0:Int) (x0':Int) (x0'':Int) (x0''':Int) (x0'''':Int) (x0''''':Bool) (x0'''''':Int) (x0'''''''_:Int) (x0'''''''_':Int) (x1:(List Int)):TrOk (PureRuns Go.Proofs.Try.prog (kl97_0 Go.Proofs.Try.prog).orc 25 as25 rs25 ((x0,x0',x0'',x0''',x0'''',x0''''',x0'''''',(x0'''''''_,x0'''''''_',()),()),x1,())) (t25 x0 x0' x0'' x0''' x0'''' x0''''' x0'''''' x0'''''''_ x0'''''''_' x1) :=
  TrOk.ofTest (fun h0=>TrOk.ofTest (fun h1=>TrOk.ofTest (fun h2=>TrOk.ofTest (fun h3=>TrOk.ofFin (PureRuns.of (e25_0 x0 x0' x0'' x0''' x0'''' x0''''' x0'''''' x0'''''''_ x0'''''''_' x1) (ac h3 (ac h2 (ac h1 (ac h0 All.nil)))))) (fun h3=>TrOk.ofTest (fun h5=>TrOk.ofTest (fun h6=>TrOk.ofFin (PureRuns.of (e25_1 x0 x0' x0'' x0''' x0'''' x0''''' x0'''''' x0'''''''_ x0'''''''_' x1) (ac h6 (ac h5 (ac (sc25_0) (ac h3 (ac h2 (ac h1 (ac h0 All.nil))))))))) (fun h6=>TrOk.ofFin (PureRuns.of (e25_2 x0 x0' x0'' x0''' x0'''' x0''''' x0'''''' x0'''''''_ x0'''''''_' x1) (ac h6 (ac h5 (ac (sc25_0) (ac h3 (ac h2 (ac h1 (ac h0 All.nil)))))))))) (fun h5=>TrOk.ofStop))) (fun h2=>TrOk.ofStop)) (fun h1=>TrOk.ofStop)) (fun h0=>TrOk.ofStop)

theorem ok25:PureOk Go.Proofs.Try.prog 25 p25:=pureOk_of kl97_0_ok.base (T:=fun (d:Tys.data as25)=>t25 d.1.1 d.1.2.1 d.1.2.2.1 d.1.2.2.2.1 d.1.2.2.2.2.1 d.1.2.2.2.2.2.1 d.1.2.2.2.2.2.2.1 d.1.2.2.2.2.2.2.2.1.1 d.1.2.2.2.2.2.2.2.1.2.1 d.2.1) (by kernel_rfl) (fun (d:Tys.data as25)=>ok25_t d.1.1 d.1.2.1 d.1.2.2.1 d.1.2.2.2.1 d.1.2.2.2.2.1 d.1.2.2.2.2.2.1 d.1.2.2.2.2.2.2.1 d.1.2.2.2.2.2.2.2.1.1 d.1.2.2.2.2.2.2.2.1.2.1 d.2.1)
def kf25 (P:Go.Program):Known:=(kl97_0 P).func 25 p25
theorem kf25_ok:KnownOk Go.Proofs.Try.prog (kf25 Go.Proofs.Try.prog):=kl97_0_ok.func ok25

/-! ductility/hybrid.WholeOf -/

abbrev as16:List Ty:=[(.pair (.int .i64) (.pair (.int .i64) (.pair (.int .i64) (.pair (.int .i64) (.pair (.int .i64) (.pair .bool (.pair (.int .i64) (.pair (.pair (.int .i64) (.pair (.int .i64) .unit)) .unit))))))))]
abbrev rs16:List Ty:=[(.pair (.int .i64) (.pair (.int .i64) (.pair (.int .i64) (.pair (.int .i64) (.pair (.int .i64) (.pair .bool (.pair (.int .i64) (.pair (.pair (.int .i64) (.pair (.int .i64) .unit)) .unit)))))))),(.int .i64)]

def t16 (x0:Int) (x0':Int) (x0'':Int) (x0''':Int) (x0'''':Int) (x0''''':Bool) (x0'''''':Int) (x0'''''''_:Int) (x0'''''''_':Int):Tr (Tys.data rs16) :=
  Tr.test (Option.isSome (f10 ((x0,(x0',(x0'',(x0''',(x0'''',(x0''''',(x0'''''',((x0'''''''_,(x0'''''''_',())),())))))))),())))
    (Tr.test (Option.isSome (f60 (!leF (wrap64 (x0'' + x0''')) (1000:Int),((8:Int),()))))
      (let r0:=g10 ((x0,(x0',(x0'',(x0''',(x0'''',(x0''''',(x0'''''',((x0'''''''_,(x0'''''''_',())),())))))))),());
      let r1:=g60 ((!leF (wrap64 (x0'' + x0''')) (1000:Int):Bool),((8:Int),()));
      Tr.test (Option.isSome (f59 (([r0.1,r1.1]:List Int),())))
        (let r2:=g59 (([r0.1,r1.1]:List Int),());
        Tr.test ((!eqF r2.1 0:Bool))
          (Tr.fin ((((0:Int),((0:Int),((0:Int),((0:Int),((0:Int),((false:Bool),((0:Int),(((0:Int),((0:Int),())),())))))))),(r2.1,()))))
          (Tr.fin (((x0,(x0',((wrap64 (x0'' + x0'''):Int),((0:Int),((0:Int),(x0''''',(x0'''''',((x0'''''''_,(x0'''''''_',())),())))))))),((0:Int),())))))
        (Tr.stop))
      (Tr.stop))
    (Tr.stop)

def f16 (d:Tys.data as16):Option (Tys.data rs16):=(t16 d.1.1 d.1.2.1 d.1.2.2.1 d.1.2.2.2.1 d.1.2.2.2.2.1 d.1.2.2.2.2.2.1 d.1.2.2.2.2.2.2.1 d.1.2.2.2.2.2.2.2.1.1 d.1.2.2.2.2.2.2.2.1.2.1).val
def g16 (d:Tys.data as16):Tys.data rs16:=(f16 d).getD (Tys.dflt rs16)
def p16:PureC:=pcOf as16 rs16 f16 g16

theorem wk16 (x0:Int) (x0':Int) (x0'':Int) (x0''':Int) (x0'''':Int) (x0''''':Bool) (x0'''''':Int) (x0'''''''_:Int) (x0'''''''_':Int):Walks (runPure (kf25 Go.Proofs.Try.prog).orc Go.Proofs.Try.prog 400 16 as16 rs16 ((x0,x0',x0'',x0''',x0'''',x0''''',x0'''''',(x0'''''''_,x0'''''''_',()),()),())) (t16 x0 x0' x0'' x0''' x0'''' x0''''' x0'''''' x0'''''''_ x0'''''''_') [([true,true,true,true],[2,4,6,8]),([true,true,true,false],[2,4,6,8])] :=
  ⟨by kernel_rfl,by kernel_rfl,trivial⟩

theorem ok16_t (x0:Int) (x0':Int) (x0'':Int) (x0''':Int) (x0'''':Int) (x0''''':Bool) (x0'''''':Int) (x0'''''''_:Int) (x0'''''''_':Int):TrOk (PureRuns Go.Proofs.Try.prog (kf25 Go.Proofs.Try.prog).orc 16 as16 rs16 ((x0,x0',x0'',x0''',x0'''',x0''''',x0'''''',(x0'''''''_,x0'''''''_',()),()),())) (t16 x0 x0' x0'' x0''' x0'''' x0''''' x0'''''' x0'''''''_ x0'''''''_') :=
  Walks.ok (fun _ _ _=>PureRuns.of) (wk16 x0 x0' x0'' x0''' x0'''' x0''''' x0'''''' x0'''''''_ x0'''''''_') (by kernel_rfl)

theorem ok16:PureOk Go.Proofs.Try.prog 16 p16:=pureOk_of kf25_ok.base (T:=fun (d:Tys.data as16)=>t16 d.1.1 d.1.2.1 d.1.2.2.1 d.1.2.2.2.1 d.1.2.2.2.2.1 d.1.2.2.2.2.2.1 d.1.2.2.2.2.2.2.1 d.1.2.2.2.2.2.2.2.1.1 d.1.2.2.2.2.2.2.2.1.2.1) (by kernel_rfl) (fun (d:Tys.data as16)=>ok16_t d.1.1 d.1.2.1 d.1.2.2.1 d.1.2.2.2.1 d.1.2.2.2.2.1 d.1.2.2.2.2.2.1 d.1.2.2.2.2.2.2.1 d.1.2.2.2.2.2.2.2.1.1 d.1.2.2.2.2.2.2.2.1.2.1)
def kf16 (P:Go.Program):Known:=(kf25 P).func 16 p16
theorem kf16_ok:KnownOk Go.Proofs.Try.prog (kf16 Go.Proofs.Try.prog):=kf25_ok.func ok16

theorem sc26_0:sameRf Go.Proofs.Try.prog 26 0 = true:=sameRf_ok (by kernel_rfl)

/-! loop 0 of (ductility/hybrid.test).steps$1 -/

abbrev sh97_0_1 (P:Go.Program):Sh:={ n:=33,slots:=[0,2,4,8,9,10],pats:=[.yld 0,.ptr 1 9 0,.ptr 2 4 0,.ty (.slice (.int .i64)),.ty (.int .i64),.ty (.int .i64)],boxes:=[.lp (lpOf P 26 0 .ready none 79 [3,5,8,11] 3) [.ptr 4 9 0,.ptr 5 1 0,.ptr 6 9 0,.ptr 7 2 0],.row [.ty (.int .i64),.ty (.int .i64),.ty (.int .i64),.ty (.int .i64),.ty (.int .i64),.ty .bool,.ty (.int .i64),.ty (.int .i64),.ty (.int .i64)],.row [.ty (.int .i64),.ty (.int .i64),.ty (.int .i64),.ty (.int .i64)],.dfr,.row [.ty (.int .i64),.ty (.int .i64),.ty (.int .i64),.ty (.int .i64),.ty (.int .i64),.ty .bool,.ty (.int .i64),.ty (.int .i64),.ty (.int .i64)],.row [.ty (.int .i64)],.row [.ty (.int .i64),.ty (.int .i64),.ty (.int .i64),.ty (.int .i64),.ty (.int .i64),.ty .bool,.ty (.int .i64),.ty (.int .i64),.ty (.int .i64)],.row [.ty (.int .i64),.ty (.int .i64)]] }
abbrev shb97_0_1 (P:Go.Program):Sh:={ n:=33,slots:=[],pats:=[],boxes:=[.lp (lpOf P 26 0 .ready none 79 [3,5,8,11] 3) [.ptr 4 9 0,.ptr 5 1 0,.ptr 6 9 0,.ptr 7 2 0],.row [.ty (.int .i64),.ty (.int .i64),.ty (.int .i64),.ty (.int .i64),.ty (.int .i64),.ty .bool,.ty (.int .i64),.ty (.int .i64),.ty (.int .i64)],.row [.ty (.int .i64),.ty (.int .i64),.ty (.int .i64),.ty (.int .i64)],.dfr,.row [.ty (.int .i64),.ty (.int .i64),.ty (.int .i64),.ty (.int .i64),.ty (.int .i64),.ty .bool,.ty (.int .i64),.ty (.int .i64),.ty (.int .i64)],.row [.ty (.int .i64)],.row [.ty (.int .i64),.ty (.int .i64),.ty (.int .i64),.ty (.int .i64),.ty (.int .i64),.ty .bool,.ty (.int .i64),.ty (.int .i64),.ty (.int .i64)],.row [.ty (.int .i64),.ty (.int .i64)]] }
abbrev shr97_0_1 (P:Go.Program):Sh:={ n:=33,slots:=[],pats:=[],boxes:=[.lp (lpOf P 26 0 .ready none 79 [3,5,8,11] 3) [.ptr 4 9 0,.ptr 5 1 0,.ptr 6 9 0,.ptr 7 2 0],.row [.ty (.int .i64),.ty (.int .i64),.ty (.int .i64),.ty (.int .i64),.ty (.int .i64),.ty .bool,.ty (.int .i64),.ty (.int .i64),.ty (.int .i64)],.row [.ty (.int .i64),.ty (.int .i64),.ty (.int .i64),.ty (.int .i64)],.dfr,.row [.ty (.int .i64),.ty (.int .i64),.ty (.int .i64),.ty (.int .i64),.ty (.int .i64),.ty .bool,.ty (.int .i64),.ty (.int .i64),.ty (.int .i64)],.row [.ty (.int .i64)],.row [.ty (.int .i64),.ty (.int .i64),.ty (.int .i64),.ty (.int .i64),.ty (.int .i64),.ty .bool,.ty (.int .i64),.ty (.int .i64),.ty (.int .i64)],.row [.ty (.int .i64),.ty (.int .i64)]] }

abbrev dt97_0_1:Type:=(List Int×Int×Int×PUnit)×PUnit×(Int×Int×Int×Int×Int×Bool×Int×Int×Int×PUnit)×(Int×Int×Int×Int×PUnit)×(Int×Int×Int×Int×Int×Bool×Int×Int×Int×PUnit)×(Int×PUnit)×(Int×Int×Int×Int×Int×Bool×Int×Int×Int×PUnit)×(Int×Int×PUnit)×PUnit
abbrev db97_0_1:Type:=PUnit×PUnit×(Int×Int×Int×Int×Int×Bool×Int×Int×Int×PUnit)×(Int×Int×Int×Int×PUnit)×(Int×Int×Int×Int×Int×Bool×Int×Int×Int×PUnit)×(Int×PUnit)×(Int×Int×Int×Int×Int×Bool×Int×Int×Int×PUnit)×(Int×Int×PUnit)×PUnit
abbrev dr97_0_1:Type:=PUnit×PUnit×(Int×Int×Int×Int×Int×Bool×Int×Int×Int×PUnit)×(Int×Int×Int×Int×PUnit)×(Int×Int×Int×Int×Int×Bool×Int×Int×Int×PUnit)×(Int×PUnit)×(Int×Int×Int×Int×Int×Bool×Int×Int×Int×PUnit)×(Int×Int×PUnit)×PUnit

def t97_0_1 (x3:(List Int)) (x4:Int) (x5:Int) (b1_0:Int) (b1_1:Int) (b1_2:Int) (b1_3:Int) (b1_4:Int) (b1_5:Bool) (b1_6:Int) (b1_7:Int) (b1_8:Int) (b2_0:Int) (b2_1:Int) (b2_2:Int) (b2_3:Int) (b4_0:Int) (b4_1:Int) (b4_2:Int) (b4_3:Int) (b4_4:Int) (b4_5:Bool) (b4_6:Int) (b4_7:Int) (b4_8:Int) (b5_0:Int) (b6_0:Int) (b6_1:Int) (b6_2:Int) (b6_3:Int) (b6_4:Int) (b6_5:Bool) (b6_6:Int) (b6_7:Int) (b6_8:Int) (b7_0:Int) (b7_1:Int):Tr (Out dt97_0_1 db97_0_1 dr97_0_1) :=
  Tr.test ((!leF x4 x5:Bool))
    (Tr.test (decide ((0:Int) ≤ x5) && decide (x5 < (↑(List.length x3):Int)))
      (Tr.test (Option.isSome (f66 (((b1_0,(b1_1,(b1_2,(b1_3,(b1_4,(b1_5,(b1_6,((b1_7,(b1_8,())),())))))))),()),((b2_0,(b2_1,(b2_2,(b2_3,())))),((List.getD x3 (Int.toNat x5) (0:Int):Int),())))))
        (Tr.test (Option.isSome (f65 (((b6_0,(b6_1,(b6_2,(b6_3,(b6_4,(b6_5,(b6_6,((b6_7,(b6_8,())),())))))))),()),((b2_0,(b2_1,(b2_2,(b2_3,())))),()))))
          (let r0:=g66 (((b1_0,(b1_1,(b1_2,(b1_3,(b1_4,(b1_5,(b1_6,((b1_7,(b1_8,())),())))))))),()),((b2_0,(b2_1,(b2_2,(b2_3,())))),((List.getD x3 (Int.toNat x5) (0:Int):Int),())));
          Tr.test (Option.isSome (f67 (((b1_0,(b1_1,(b1_2,(b1_3,(b1_4,(b1_5,(b1_6,((b1_7,(b1_8,())),())))))))),()),(r0.1,()))))
            (let r2:=g67 (((b1_0,(b1_1,(b1_2,(b1_3,(b1_4,(b1_5,(b1_6,((b1_7,(b1_8,())),())))))))),()),(r0.1,()));
            Tr.test (r2.1)
              (let r1:=g65 (((b6_0,(b6_1,(b6_2,(b6_3,(b6_4,(b6_5,(b6_6,((b6_7,(b6_8,())),())))))))),()),((b2_0,(b2_1,(b2_2,(b2_3,())))),()));
              Tr.fin (.ret ((),((),((b1_0,(b1_1,(b1_2,(b1_3,(b1_4,(b1_5,(b1_6,(b1_7,(b1_8,()))))))))),((b2_0,(b2_1,(b2_2,(b2_3,())))),((b4_0,(b4_1,(b4_2,(b4_3,(b4_4,(b4_5,(b4_6,(b4_7,(b4_8,()))))))))),((b5_0,()),((b6_0,(b6_1,(b6_2,(b6_3,(b6_4,(b6_5,(b6_6,(b6_7,(b6_8,()))))))))),(((wrap64 (b7_0 + wrap64 (wrap64 (wrap64 (b4_3 * wrap64 (r1.1 - b2_0)) * wrap64 (r0.1 - b2_1)) - wrap64 (b5_0 * if wrap64 (r0.1 - b2_1) < Go.IntKind.wrap Go.IntKind.i64 ((0:Int) - wrap64 (r0.1 - b2_1)) then Go.IntKind.wrap Go.IntKind.i64 ((0:Int) - wrap64 (r0.1 - b2_1)) else wrap64 (r0.1 - b2_1)))):Int),((wrap64 (b7_1 + wrap64 (wrap64 (wrap64 (b4_3 * wrap64 (r1.1 - b2_0)) * wrap64 (r0.1 - b2_1)) + wrap64 (b5_0 * if wrap64 (r0.1 - b2_1) < Go.IntKind.wrap Go.IntKind.i64 ((0:Int) - wrap64 (r0.1 - b2_1)) then Go.IntKind.wrap Go.IntKind.i64 ((0:Int) - wrap64 (r0.1 - b2_1)) else wrap64 (r0.1 - b2_1)))):Int),())),()))))))))))
              (Tr.test (Option.isSome (f69 (((b1_0,(b1_1,(b1_2,(b1_3,(b1_4,(b1_5,(b1_6,((b1_7,(b1_8,())),())))))))),()),((b2_0,(b2_1,(b2_2,(b2_3,())))),(r0.1,())))))
                (let r1:=g65 (((b6_0,(b6_1,(b6_2,(b6_3,(b6_4,(b6_5,(b6_6,((b6_7,(b6_8,())),())))))))),()),((b2_0,(b2_1,(b2_2,(b2_3,())))),()));
                let r3:=g69 (((b1_0,(b1_1,(b1_2,(b1_3,(b1_4,(b1_5,(b1_6,((b1_7,(b1_8,())),())))))))),()),((b2_0,(b2_1,(b2_2,(b2_3,())))),(r0.1,())));
                Tr.fin (.again ((x3,(x4,((wrap64 (x5 + (1:Int)):Int),()))),((),((b1_0,(b1_1,(b1_2,(b1_3,(b1_4,(b1_5,(b1_6,(b1_7,(b1_8,()))))))))),((r3.1.1,(r3.1.2.1,(r3.1.2.2.1,(r3.1.2.2.2.1,())))),((b4_0,(b4_1,(b4_2,(b4_3,(b4_4,(b4_5,(b4_6,(b4_7,(b4_8,()))))))))),((b5_0,()),((b6_0,(b6_1,(b6_2,(b6_3,(b6_4,(b6_5,(b6_6,(b6_7,(b6_8,()))))))))),(((wrap64 (b7_0 + wrap64 (wrap64 (wrap64 (b4_3 * wrap64 (r1.1 - b2_0)) * wrap64 (r0.1 - b2_1)) - wrap64 (b5_0 * if wrap64 (r0.1 - b2_1) < Go.IntKind.wrap Go.IntKind.i64 ((0:Int) - wrap64 (r0.1 - b2_1)) then Go.IntKind.wrap Go.IntKind.i64 ((0:Int) - wrap64 (r0.1 - b2_1)) else wrap64 (r0.1 - b2_1)))):Int),((wrap64 (b7_1 + wrap64 (wrap64 (wrap64 (b4_3 * wrap64 (r1.1 - b2_0)) * wrap64 (r0.1 - b2_1)) + wrap64 (b5_0 * if wrap64 (r0.1 - b2_1) < Go.IntKind.wrap Go.IntKind.i64 ((0:Int) - wrap64 (r0.1 - b2_1)) then Go.IntKind.wrap Go.IntKind.i64 ((0:Int) - wrap64 (r0.1 - b2_1)) else wrap64 (r0.1 - b2_1)))):Int),())),()))))))))))
                (Tr.stop)))
            (Tr.stop))
          (Tr.stop))
        (Tr.stop))
      (Tr.stop))
    (Tr.fin (.brk ((),((),((b1_0,(b1_1,(b1_2,(b1_3,(b1_4,(b1_5,(b1_6,(b1_7,(b1_8,()))))))))),((b2_0,(b2_1,(b2_2,(b2_3,())))),((b4_0,(b4_1,(b4_2,(b4_3,(b4_4,(b4_5,(b4_6,(b4_7,(b4_8,()))))))))),((b5_0,()),((b6_0,(b6_1,(b6_2,(b6_3,(b6_4,(b6_5,(b6_6,(b6_7,(b6_8,()))))))))),((b7_0,(b7_1,())),()))))))))))

def s97_0_1 (d:dt97_0_1):Option (Out dt97_0_1 db97_0_1 dr97_0_1):=(t97_0_1 d.1.1 d.1.2.1 d.1.2.2.1 d.2.2.1.1 d.2.2.1.2.1 d.2.2.1.2.2.1 d.2.2.1.2.2.2.1 d.2.2.1.2.2.2.2.1 d.2.2.1.2.2.2.2.2.1 d.2.2.1.2.2.2.2.2.2.1 d.2.2.1.2.2.2.2.2.2.2.1 d.2.2.1.2.2.2.2.2.2.2.2.1 d.2.2.2.1.1 d.2.2.2.1.2.1 d.2.2.2.1.2.2.1 d.2.2.2.1.2.2.2.1 d.2.2.2.2.1.1 d.2.2.2.2.1.2.1 d.2.2.2.2.1.2.2.1 d.2.2.2.2.1.2.2.2.1 d.2.2.2.2.1.2.2.2.2.1 d.2.2.2.2.1.2.2.2.2.2.1 d.2.2.2.2.1.2.2.2.2.2.2.1 d.2.2.2.2.1.2.2.2.2.2.2.2.1 d.2.2.2.2.1.2.2.2.2.2.2.2.2.1 d.2.2.2.2.2.1.1 d.2.2.2.2.2.2.1.1 d.2.2.2.2.2.2.1.2.1 d.2.2.2.2.2.2.1.2.2.1 d.2.2.2.2.2.2.1.2.2.2.1 d.2.2.2.2.2.2.1.2.2.2.2.1 d.2.2.2.2.2.2.1.2.2.2.2.2.1 d.2.2.2.2.2.2.1.2.2.2.2.2.2.1 d.2.2.2.2.2.2.1.2.2.2.2.2.2.2.1 d.2.2.2.2.2.2.1.2.2.2.2.2.2.2.2.1 d.2.2.2.2.2.2.2.1.1 d.2.2.2.2.2.2.2.1.2.1).val
def l97_0_1 (d:dt97_0_1):Option (db97_0_1 ⊕ dr97_0_1):=itr s97_0_1 rounds d
def b97_0_1 (d:dt97_0_1):db97_0_1:=outB (((),((),(((0:Int),((0:Int),((0:Int),((0:Int),((0:Int),((false:Bool),((0:Int),((0:Int),((0:Int),()))))))))),(((0:Int),((0:Int),((0:Int),((0:Int),())))),(((0:Int),((0:Int),((0:Int),((0:Int),((0:Int),((false:Bool),((0:Int),((0:Int),((0:Int),()))))))))),(((0:Int),()),(((0:Int),((0:Int),((0:Int),((0:Int),((0:Int),((false:Bool),((0:Int),((0:Int),((0:Int),()))))))))),(((0:Int),((0:Int),())),()))))))))) (l97_0_1 d)
def r97_0_1 (d:dt97_0_1):dr97_0_1:=outR (((),((),(((0:Int),((0:Int),((0:Int),((0:Int),((0:Int),((false:Bool),((0:Int),((0:Int),((0:Int),()))))))))),(((0:Int),((0:Int),((0:Int),((0:Int),())))),(((0:Int),((0:Int),((0:Int),((0:Int),((0:Int),((false:Bool),((0:Int),((0:Int),((0:Int),()))))))))),(((0:Int),()),(((0:Int),((0:Int),((0:Int),((0:Int),((0:Int),((false:Bool),((0:Int),((0:Int),((0:Int),()))))))))),(((0:Int),((0:Int),())),()))))))))) (l97_0_1 d)
def lc97_0_1 (P:Go.Program):LoopC:=lcOf (sh97_0_1 P) (shb97_0_1 P) (shr97_0_1 P) l97_0_1 b97_0_1 r97_0_1

theorem e97_0_1_0 (x3:(List Int)) (x4:Int) (x5:Int) (b1_0:Int) (b1_1:Int) (b1_2:Int) (b1_3:Int) (b1_4:Int) (b1_5:Bool) (b1_6:Int) (b1_7:Int) (b1_8:Int) (b2_0:Int) (b2_1:Int) (b2_2:Int) (b2_3:Int) (b4_0:Int) (b4_1:Int) (b4_2:Int) (b4_3:Int) (b4_4:Int) (b4_5:Bool) (b4_6:Int) (b4_7:Int) (b4_8:Int) (b5_0:Int) (b6_0:Int) (b6_1:Int) (b6_2:Int) (b6_3:Int) (b6_4:Int) (b6_5:Bool) (b6_6:Int) (b6_7:Int) (b6_8:Int) (b7_0:Int) (b7_1:Int):runBody (kf16 Go.Proofs.Try.prog).orc Go.Proofs.Try.prog 400 97 0 (sh97_0_1 Go.Proofs.Try.prog) (shb97_0_1 Go.Proofs.Try.prog) (shr97_0_1 Go.Proofs.Try.prog) ((x3,x4,x5,()),(),(b1_0,b1_1,b1_2,b1_3,b1_4,b1_5,b1_6,b1_7,b1_8,()),(b2_0,b2_1,b2_2,b2_3,()),(b4_0,b4_1,b4_2,b4_3,b4_4,b4_5,b4_6,b4_7,b4_8,()),(b5_0,()),(b6_0,b6_1,b6_2,b6_3,b6_4,b6_5,b6_6,b6_7,b6_8,()),(b7_0,b7_1,()),()) [tt,tt,tt,tt,tt,tt,tt,tt,ff,ff,ff,tt,ff,tt] =
    (let r0:=g66 (((b1_0,(b1_1,(b1_2,(b1_3,(b1_4,(b1_5,(b1_6,((b1_7,(b1_8,())),())))))))),()),((b2_0,(b2_1,(b2_2,(b2_3,())))),((List.getD x3 (Int.toNat x5) (0:Int):Int),())));let r2:=g67 (((b1_0,(b1_1,(b1_2,(b1_3,(b1_4,(b1_5,(b1_6,((b1_7,(b1_8,())),())))))))),()),(r0.1,()));let r1:=g65 (((b6_0,(b6_1,(b6_2,(b6_3,(b6_4,(b6_5,(b6_6,((b6_7,(b6_8,())),())))))))),()),((b2_0,(b2_1,(b2_2,(b2_3,())))),())); some (.ret ((),((),((b1_0,(b1_1,(b1_2,(b1_3,(b1_4,(b1_5,(b1_6,(b1_7,(b1_8,()))))))))),((b2_0,(b2_1,(b2_2,(b2_3,())))),((b4_0,(b4_1,(b4_2,(b4_3,(b4_4,(b4_5,(b4_6,(b4_7,(b4_8,()))))))))),((b5_0,()),((b6_0,(b6_1,(b6_2,(b6_3,(b6_4,(b6_5,(b6_6,(b6_7,(b6_8,()))))))))),(((wrap64 (b7_0 + wrap64 (wrap64 (wrap64 (b4_3 * wrap64 (r1.1 - b2_0)) * wrap64 (r0.1 - b2_1)) - wrap64 (b5_0 * if wrap64 (r0.1 - b2_1) < Go.IntKind.wrap Go.IntKind.i64 ((0:Int) - wrap64 (r0.1 - b2_1)) then Go.IntKind.wrap Go.IntKind.i64 ((0:Int) - wrap64 (r0.1 - b2_1)) else wrap64 (r0.1 - b2_1)))):Int),((wrap64 (b7_1 + wrap64 (wrap64 (wrap64 (b4_3 * wrap64 (r1.1 - b2_0)) * wrap64 (r0.1 - b2_1)) + wrap64 (b5_0 * if wrap64 (r0.1 - b2_1) < Go.IntKind.wrap Go.IntKind.i64 ((0:Int) - wrap64 (r0.1 - b2_1)) then Go.IntKind.wrap Go.IntKind.i64 ((0:Int) - wrap64 (r0.1 - b2_1)) else wrap64 (r0.1 - b2_1)))):Int),())),())))))))),[(sameRf Go.Proofs.Try.prog (nat_lit 26) (nat_lit 0),true),(r2.1,true),(false,false),(Option.isSome (f67 (((b1_0,(b1_1,(b1_2,(b1_3,(b1_4,(b1_5,(b1_6,((b1_7,(b1_8,())),())))))))),()),(r0.1,()))),true),(false,false),(false,false),(false,false),(true,true),(true,true),(Option.isSome (f65 (((b6_0,(b6_1,(b6_2,(b6_3,(b6_4,(b6_5,(b6_6,((b6_7,(b6_8,())),())))))))),()),((b2_0,(b2_1,(b2_2,(b2_3,())))),()))),true),(true,true),(true,true),(Option.isSome (f66 (((b1_0,(b1_1,(b1_2,(b1_3,(b1_4,(b1_5,(b1_6,((b1_7,(b1_8,())),())))))))),()),((b2_0,(b2_1,(b2_2,(b2_3,())))),((List.getD x3 (Int.toNat x5) (0:Int):Int),())))),true),(decide ((0:Int) ≤ x5) && decide (x5 < (↑(List.length x3):Int)),true),(!leF x4 x5,true)])):=by kernel_rfl
theorem e97_0_1_1 (x3:(List Int)) (x4:Int) (x5:Int) (b1_0:Int) (b1_1:Int) (b1_2:Int) (b1_3:Int) (b1_4:Int) (b1_5:Bool) (b1_6:Int) (b1_7:Int) (b1_8:Int) (b2_0:Int) (b2_1:Int) (b2_2:Int) (b2_3:Int) (b4_0:Int) (b4_1:Int) (b4_2:Int) (b4_3:Int) (b4_4:Int) (b4_5:Bool) (b4_6:Int) (b4_7:Int) (b4_8:Int) (b5_0:Int) (b6_0:Int) (b6_1:Int) (b6_2:Int) (b6_3:Int) (b6_4:Int) (b6_5:Bool) (b6_6:Int) (b6_7:Int) (b6_8:Int) (b7_0:Int) (b7_1:Int):runBody (kf16 Go.Proofs.Try.prog).orc Go.Proofs.Try.prog 400 97 0 (sh97_0_1 Go.Proofs.Try.prog) (shb97_0_1 Go.Proofs.Try.prog) (shr97_0_1 Go.Proofs.Try.prog) ((x3,x4,x5,()),(),(b1_0,b1_1,b1_2,b1_3,b1_4,b1_5,b1_6,b1_7,b1_8,()),(b2_0,b2_1,b2_2,b2_3,()),(b4_0,b4_1,b4_2,b4_3,b4_4,b4_5,b4_6,b4_7,b4_8,()),(b5_0,()),(b6_0,b6_1,b6_2,b6_3,b6_4,b6_5,b6_6,b6_7,b6_8,()),(b7_0,b7_1,()),()) [tt,tt,tt,tt,tt,tt,tt,tt,ff,ff,ff,tt,ff,ff,tt] =
    (let r0:=g66 (((b1_0,(b1_1,(b1_2,(b1_3,(b1_4,(b1_5,(b1_6,((b1_7,(b1_8,())),())))))))),()),((b2_0,(b2_1,(b2_2,(b2_3,())))),((List.getD x3 (Int.toNat x5) (0:Int):Int),())));let r2:=g67 (((b1_0,(b1_1,(b1_2,(b1_3,(b1_4,(b1_5,(b1_6,((b1_7,(b1_8,())),())))))))),()),(r0.1,()));let r1:=g65 (((b6_0,(b6_1,(b6_2,(b6_3,(b6_4,(b6_5,(b6_6,((b6_7,(b6_8,())),())))))))),()),((b2_0,(b2_1,(b2_2,(b2_3,())))),()));let r3:=g69 (((b1_0,(b1_1,(b1_2,(b1_3,(b1_4,(b1_5,(b1_6,((b1_7,(b1_8,())),())))))))),()),((b2_0,(b2_1,(b2_2,(b2_3,())))),(r0.1,()))); some (.again ((x3,(x4,((wrap64 (x5 + (1:Int)):Int),()))),((),((b1_0,(b1_1,(b1_2,(b1_3,(b1_4,(b1_5,(b1_6,(b1_7,(b1_8,()))))))))),((r3.1.1,(r3.1.2.1,(r3.1.2.2.1,(r3.1.2.2.2.1,())))),((b4_0,(b4_1,(b4_2,(b4_3,(b4_4,(b4_5,(b4_6,(b4_7,(b4_8,()))))))))),((b5_0,()),((b6_0,(b6_1,(b6_2,(b6_3,(b6_4,(b6_5,(b6_6,(b6_7,(b6_8,()))))))))),(((wrap64 (b7_0 + wrap64 (wrap64 (wrap64 (b4_3 * wrap64 (r1.1 - b2_0)) * wrap64 (r0.1 - b2_1)) - wrap64 (b5_0 * if wrap64 (r0.1 - b2_1) < Go.IntKind.wrap Go.IntKind.i64 ((0:Int) - wrap64 (r0.1 - b2_1)) then Go.IntKind.wrap Go.IntKind.i64 ((0:Int) - wrap64 (r0.1 - b2_1)) else wrap64 (r0.1 - b2_1)))):Int),((wrap64 (b7_1 + wrap64 (wrap64 (wrap64 (b4_3 * wrap64 (r1.1 - b2_0)) * wrap64 (r0.1 - b2_1)) + wrap64 (b5_0 * if wrap64 (r0.1 - b2_1) < Go.IntKind.wrap Go.IntKind.i64 ((0:Int) - wrap64 (r0.1 - b2_1)) then Go.IntKind.wrap Go.IntKind.i64 ((0:Int) - wrap64 (r0.1 - b2_1)) else wrap64 (r0.1 - b2_1)))):Int),())),())))))))),[(sameRf Go.Proofs.Try.prog (nat_lit 26) (nat_lit 0),true),(Option.isSome (f69 (((b1_0,(b1_1,(b1_2,(b1_3,(b1_4,(b1_5,(b1_6,((b1_7,(b1_8,())),())))))))),()),((b2_0,(b2_1,(b2_2,(b2_3,())))),(r0.1,())))),true),(r2.1,false),(false,false),(Option.isSome (f67 (((b1_0,(b1_1,(b1_2,(b1_3,(b1_4,(b1_5,(b1_6,((b1_7,(b1_8,())),())))))))),()),(r0.1,()))),true),(false,false),(false,false),(false,false),(true,true),(true,true),(Option.isSome (f65 (((b6_0,(b6_1,(b6_2,(b6_3,(b6_4,(b6_5,(b6_6,((b6_7,(b6_8,())),())))))))),()),((b2_0,(b2_1,(b2_2,(b2_3,())))),()))),true),(true,true),(true,true),(Option.isSome (f66 (((b1_0,(b1_1,(b1_2,(b1_3,(b1_4,(b1_5,(b1_6,((b1_7,(b1_8,())),())))))))),()),((b2_0,(b2_1,(b2_2,(b2_3,())))),((List.getD x3 (Int.toNat x5) (0:Int):Int),())))),true),(decide ((0:Int) ≤ x5) && decide (x5 < (↑(List.length x3):Int)),true),(!leF x4 x5,true)])):=by kernel_rfl
theorem e97_0_1_3 (x3:(List Int)) (x4:Int) (x5:Int) (b1_0:Int) (b1_1:Int) (b1_2:Int) (b1_3:Int) (b1_4:Int) (b1_5:Bool) (b1_6:Int) (b1_7:Int) (b1_8:Int) (b2_0:Int) (b2_1:Int) (b2_2:Int) (b2_3:Int) (b4_0:Int) (b4_1:Int) (b4_2:Int) (b4_3:Int) (b4_4:Int) (b4_5:Bool) (b4_6:Int) (b4_7:Int) (b4_8:Int) (b5_0:Int) (b6_0:Int) (b6_1:Int) (b6_2:Int) (b6_3:Int) (b6_4:Int) (b6_5:Bool) (b6_6:Int) (b6_7:Int) (b6_8:Int) (b7_0:Int) (b7_1:Int):runBody (kf16 Go.Proofs.Try.prog).orc Go.Proofs.Try.prog 400 97 0 (sh97_0_1 Go.Proofs.Try.prog) (shb97_0_1 Go.Proofs.Try.prog) (shr97_0_1 Go.Proofs.Try.prog) ((x3,x4,x5,()),(),(b1_0,b1_1,b1_2,b1_3,b1_4,b1_5,b1_6,b1_7,b1_8,()),(b2_0,b2_1,b2_2,b2_3,()),(b4_0,b4_1,b4_2,b4_3,b4_4,b4_5,b4_6,b4_7,b4_8,()),(b5_0,()),(b6_0,b6_1,b6_2,b6_3,b6_4,b6_5,b6_6,b6_7,b6_8,()),(b7_0,b7_1,()),()) [ff] =
    (some (.brk ((),((),((b1_0,(b1_1,(b1_2,(b1_3,(b1_4,(b1_5,(b1_6,(b1_7,(b1_8,()))))))))),((b2_0,(b2_1,(b2_2,(b2_3,())))),((b4_0,(b4_1,(b4_2,(b4_3,(b4_4,(b4_5,(b4_6,(b4_7,(b4_8,()))))))))),((b5_0,()),((b6_0,(b6_1,(b6_2,(b6_3,(b6_4,(b6_5,(b6_6,(b6_7,(b6_8,()))))))))),((b7_0,(b7_1,())),())))))))),[(sameRf Go.Proofs.Try.prog (nat_lit 26) (nat_lit 0),true),(!leF x4 x5,false)])):=by kernel_rfl

theorem ok97_0_1_t (x3:(List Int)) (x4:Int) (x5:Int) (b1_0:Int) (b1_1:Int) (b1_2:Int) (b1_3:Int) (b1_4:Int) (b1_5:Bool) (b1_6:Int) (b1_7:Int) (b1_8:Int) (b2_0:Int) (b2_1:Int) (b2_2:Int) (b2_3:Int) (b4_0:Int) (b4_1:Int) (b4_2:Int) (b4_3:Int) (b4_4:Int) (b4_5:Bool) (b4_6:Int) (b4_7:Int) (b4_8:Int) (b5_0:Int) (b6_0:Int) (b6_1:Int) (b6_2:Int) (b6_3:Int) (b6_4:Int) (b6_5:Bool) (b6_6:Int) (b6_7:Int) (b6_8:Int) (b7_0:Int) (b7_1:Int):TrOk (BodyRuns Go.Proofs.Try.prog (kf16 Go.Proofs.Try.prog).orc 97 0 (sh97_0_1 Go.Proofs.Try.prog) (shb97_0_1 Go.Proofs.Try.prog) (shr97_0_1 Go.Proofs.Try.prog) ((x3,x4,x5,()),(),(b1_0,b1_1,b1_2,b1_3,b1_4,b1_5,b1_6,b1_7,b1_8,()),(b2_0,b2_1,b2_2,b2_3,()),(b4_0,b4_1,b4_2,b4_3,b4_4,b4_5,b4_6,b4_7,b4_8,()),(b5_0,()),(b6_0,b6_1,b6_2,b6_3,b6_4,b6_5,b6_6,b6_7,b6_8,()),(b7_0,b7_1,()),())) (t97_0_1 x3 x4 x5 b1_0 b1_1 b1_2 b1_3 b1_4 b1_5 b1_6 b1_7 b1_8 b2_0 b2_1 b2_2 b2_3 b4_0 b4_1 b4_2 b4_3 b4_4 b4_5 b4_6 b4_7 b4_8 b5_0 b6_0 b6_1 b6_2 b6_3 b6_4 b6_5 b6_6 b6_7 b6_8 b7_0 b7_1) :=
  TrOk.ofTest (fun h0=>TrOk.ofTest (fun h1=>TrOk.ofTest (fun h2=>TrOk.ofTest (fun h5=>TrOk.ofTest (fun h11=>TrOk.ofTest (fun h13=>TrOk.ofFin (BodyRuns.of (e97_0_1_0 x3 x4 x5 b1_0 b1_1 b1_2 b1_3 b1_4 b1_5 b1_6 b1_7 b1_8 b2_0 b2_1 b2_2 b2_3 b4_0 b4_1 b4_2 b4_3 b4_4 b4_5 b4_6 b4_7 b4_8 b5_0 b6_0 b6_1 b6_2 b6_3 b6_4 b6_5 b6_6 b6_7 b6_8 b7_0 b7_1) (ac (sc26_0) (ac h13 (ac rfl (ac h11 (ac rfl (ac rfl (ac rfl (ac rfl (ac rfl (ac h5 (ac rfl (ac rfl (ac h2 (ac h1 (ac h0 All.nil))))))))))))))))) (fun h13=>TrOk.ofTest (fun h14=>TrOk.ofFin (BodyRuns.of (e97_0_1_1 x3 x4 x5 b1_0 b1_1 b1_2 b1_3 b1_4 b1_5 b1_6 b1_7 b1_8 b2_0 b2_1 b2_2 b2_3 b4_0 b4_1 b4_2 b4_3 b4_4 b4_5 b4_6 b4_7 b4_8 b5_0 b6_0 b6_1 b6_2 b6_3 b6_4 b6_5 b6_6 b6_7 b6_8 b7_0 b7_1) (ac (sc26_0) (ac h14 (ac h13 (ac rfl (ac h11 (ac rfl (ac rfl (ac rfl (ac rfl (ac rfl (ac h5 (ac rfl (ac rfl (ac h2 (ac h1 (ac h0 All.nil)))))))))))))))))) (fun h14=>TrOk.ofStop))) (fun h11=>TrOk.ofStop)) (fun h5=>TrOk.ofStop)) (fun h2=>TrOk.ofStop)) (fun h1=>TrOk.ofStop)) (fun h0=>TrOk.ofFin (BodyRuns.of (e97_0_1_3 x3 x4 x5 b1_0 b1_1 b1_2 b1_3 b1_4 b1_5 b1_6 b1_7 b1_8 b2_0 b2_1 b2_2 b2_3 b4_0 b4_1 b4_2 b4_3 b4_4 b4_5 b4_6 b4_7 b4_8 b5_0 b6_0 b6_1 b6_2 b6_3 b6_4 b6_5 b6_6 b6_7 b6_8 b7_0 b7_1) (ac (sc26_0) (ac h0 All.nil))))

theorem ok97_0_1:LoopOk Go.Proofs.Try.prog 97 0 (lc97_0_1 Go.Proofs.Try.prog):=loopOk_of (sh:=(sh97_0_1 Go.Proofs.Try.prog)) (shB:=(shb97_0_1 Go.Proofs.Try.prog)) (shR:=(shr97_0_1 Go.Proofs.Try.prog)) kf16_ok.base (T:=fun (d:dt97_0_1)=>t97_0_1 d.1.1 d.1.2.1 d.1.2.2.1 d.2.2.1.1 d.2.2.1.2.1 d.2.2.1.2.2.1 d.2.2.1.2.2.2.1 d.2.2.1.2.2.2.2.1 d.2.2.1.2.2.2.2.2.1 d.2.2.1.2.2.2.2.2.2.1 d.2.2.1.2.2.2.2.2.2.2.1 d.2.2.1.2.2.2.2.2.2.2.2.1 d.2.2.2.1.1 d.2.2.2.1.2.1 d.2.2.2.1.2.2.1 d.2.2.2.1.2.2.2.1 d.2.2.2.2.1.1 d.2.2.2.2.1.2.1 d.2.2.2.2.1.2.2.1 d.2.2.2.2.1.2.2.2.1 d.2.2.2.2.1.2.2.2.2.1 d.2.2.2.2.1.2.2.2.2.2.1 d.2.2.2.2.1.2.2.2.2.2.2.1 d.2.2.2.2.1.2.2.2.2.2.2.2.1 d.2.2.2.2.1.2.2.2.2.2.2.2.2.1 d.2.2.2.2.2.1.1 d.2.2.2.2.2.2.1.1 d.2.2.2.2.2.2.1.2.1 d.2.2.2.2.2.2.1.2.2.1 d.2.2.2.2.2.2.1.2.2.2.1 d.2.2.2.2.2.2.1.2.2.2.2.1 d.2.2.2.2.2.2.1.2.2.2.2.2.1 d.2.2.2.2.2.2.1.2.2.2.2.2.2.1 d.2.2.2.2.2.2.1.2.2.2.2.2.2.2.1 d.2.2.2.2.2.2.1.2.2.2.2.2.2.2.2.1 d.2.2.2.2.2.2.2.1.1 d.2.2.2.2.2.2.2.1.2.1) (by kernel_rfl) rfl (fun (d:dt97_0_1)=>ok97_0_1_t d.1.1 d.1.2.1 d.1.2.2.1 d.2.2.1.1 d.2.2.1.2.1 d.2.2.1.2.2.1 d.2.2.1.2.2.2.1 d.2.2.1.2.2.2.2.1 d.2.2.1.2.2.2.2.2.1 d.2.2.1.2.2.2.2.2.2.1 d.2.2.1.2.2.2.2.2.2.2.1 d.2.2.1.2.2.2.2.2.2.2.2.1 d.2.2.2.1.1 d.2.2.2.1.2.1 d.2.2.2.1.2.2.1 d.2.2.2.1.2.2.2.1 d.2.2.2.2.1.1 d.2.2.2.2.1.2.1 d.2.2.2.2.1.2.2.1 d.2.2.2.2.1.2.2.2.1 d.2.2.2.2.1.2.2.2.2.1 d.2.2.2.2.1.2.2.2.2.2.1 d.2.2.2.2.1.2.2.2.2.2.2.1 d.2.2.2.2.1.2.2.2.2.2.2.2.1 d.2.2.2.2.1.2.2.2.2.2.2.2.2.1 d.2.2.2.2.2.1.1 d.2.2.2.2.2.2.1.1 d.2.2.2.2.2.2.1.2.1 d.2.2.2.2.2.2.1.2.2.1 d.2.2.2.2.2.2.1.2.2.2.1 d.2.2.2.2.2.2.1.2.2.2.2.1 d.2.2.2.2.2.2.1.2.2.2.2.2.1 d.2.2.2.2.2.2.1.2.2.2.2.2.2.1 d.2.2.2.2.2.2.1.2.2.2.2.2.2.2.1 d.2.2.2.2.2.2.1.2.2.2.2.2.2.2.2.1 d.2.2.2.2.2.2.2.1.1 d.2.2.2.2.2.2.2.1.2.1) (fun _=>rfl)
def kl97_0_1 (P:Go.Program):Known:=(kf16 P).loop 97 0 (lc97_0_1 P)
theorem kl97_0_1_ok:KnownOk Go.Proofs.Try.prog (kl97_0_1 Go.Proofs.Try.prog):=kf16_ok.loop ok97_0_1

end Go.Vm.Mo
