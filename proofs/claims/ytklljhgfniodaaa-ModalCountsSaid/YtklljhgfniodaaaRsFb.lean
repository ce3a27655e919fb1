import Derived.Test.YtklljhgfniodaaaA4
import Derived.KernelRfl
import Derived.Test.YtklljhgfniodaaaProg
import Derived.Test.YtklljhgfniodaaaRsFa
set_option linter.unusedVariables false
set_option linter.unusedSimpArgs false

namespace Go.Vm.Mo
open Go
set_option linter.unusedVariables false

/-! loop 2 of ductility/modal.divisorOf -/

abbrev sh107_2:Sh:={ n:=26,slots:=[5,7,9,10,11],pats:=[.ty (.int .i64),.ty (.int .i64),.ty (.slice (.int .i64)),.ty (.int .i64),.ty (.int .i64)],boxes:=[] }
abbrev shb107_2:Sh:={ n:=26,slots:=[5,9,10,11],pats:=[.ty (.int .i64),.ty (.slice (.int .i64)),.ty (.int .i64),.ty (.int .i64)],boxes:=[] }
abbrev shr107_2:Sh:={ n:=26,slots:=[],pats:=[],boxes:=[] }

def t107_2 (x0:Int) (x1:Int) (x2:(List Int)) (x3:Int) (x4:Int):Tr (Out sh107_2.data shb107_2.data shr107_2.data) :=
  Tr.test ((!eqF x1 0:Bool))
    (Tr.test (x1 == (0:Int))
      (Tr.stop)
      (Tr.fin (.again ((x1,((Int.tmod x0 x1:Int),(x2,(x3,(x4,()))))),()))))
    (Tr.fin (.brk ((x0,(x2,(x3,(x4,())))),())))

def s107_2 (d:sh107_2.data):Option (Out sh107_2.data shb107_2.data shr107_2.data):=(t107_2 d.1.1 d.1.2.1 d.1.2.2.1 d.1.2.2.2.1 d.1.2.2.2.2.1).val
def l107_2 (d:sh107_2.data):Option (shb107_2.data ⊕ shr107_2.data):=itr s107_2 rounds d
def b107_2 (d:sh107_2.data):shb107_2.data:=outB shb107_2.dflt (l107_2 d)
def lc107_2:LoopC:=lcB sh107_2 shb107_2 shr107_2 l107_2 b107_2

theorem wk107_2 (x0:Int) (x1:Int) (x2:(List Int)) (x3:Int) (x4:Int):Walks (runBody (kf76 Go.Proofs.Try.prog).orc Go.Proofs.Try.prog 400 107 2 sh107_2 shb107_2 shr107_2 ((x0,x1,x2,x3,x4,()),())) (t107_2 x0 x1 x2 x3 x4) [([true,false],[2,4]),([ff],[2])] :=
  ⟨by kernel_rfl,by kernel_rfl,trivial⟩

theorem ok107_2_t (x0:Int) (x1:Int) (x2:(List Int)) (x3:Int) (x4:Int):TrOk (BodyRuns Go.Proofs.Try.prog (kf76 Go.Proofs.Try.prog).orc 107 2 sh107_2 shb107_2 shr107_2 ((x0,x1,x2,x3,x4,()),())) (t107_2 x0 x1 x2 x3 x4) :=
  Walks.ok (fun _ _ _=>BodyRuns.of) (wk107_2 x0 x1 x2 x3 x4) (by kernel_rfl)

theorem ok107_2:LoopOk Go.Proofs.Try.prog 107 2 lc107_2:=loopOk_ofB (sh:=sh107_2) (shB:=shb107_2) (shR:=shr107_2) kf76_ok.base (T:=fun (d:sh107_2.data)=>t107_2 d.1.1 d.1.2.1 d.1.2.2.1 d.1.2.2.2.1 d.1.2.2.2.2.1) (by kernel_rfl) rfl (fun (d:sh107_2.data)=>ok107_2_t d.1.1 d.1.2.1 d.1.2.2.1 d.1.2.2.2.1 d.1.2.2.2.2.1) (fun _=>rfl)
def kl107_2 (P:Go.Program):Known:=(kf76 P).loop 107 2 lc107_2
theorem kl107_2_ok:KnownOk Go.Proofs.Try.prog (kl107_2 Go.Proofs.Try.prog):=kf76_ok.loop ok107_2

/-! loop 0 of ductility/modal.divisorOf -/

abbrev sh107_0:Sh:={ n:=26,slots:=[5,9,10,11],pats:=[.ty (.int .i64),.ty (.slice (.int .i64)),.ty (.int .i64),.ty (.int .i64)],boxes:=[] }
abbrev shb107_0:Sh:={ n:=26,slots:=[5],pats:=[.ty (.int .i64)],boxes:=[] }
abbrev shr107_0:Sh:={ n:=26,slots:=[],pats:=[],boxes:=[] }

def t107_0 (x0:Int) (x1:(List Int)) (x2:Int) (x3:Int):Tr (Out sh107_0.data shb107_0.data shr107_0.data) :=
  Tr.test ((!leF x2 x3:Bool))
    (Tr.test (decide ((0:Int) ≤ x3) && decide (x3 < (↑(List.length x1):Int)))
      (Tr.test (isBrk (l107_2 ((x0,((List.getD x1 (Int.toNat x3) (0:Int):Int),(x1,(x2,(x3,()))))),())))
        (let r0:=b107_2 ((x0,((List.getD x1 (Int.toNat x3) (0:Int):Int),(x1,(x2,(x3,()))))),());
        Tr.fin (.again ((r0.1.1,(r0.1.2.1,(r0.1.2.2.1,((wrap64 (r0.1.2.2.2.1 + (1:Int)):Int),())))),())))
        (Tr.stop))
      (Tr.stop))
    (Tr.fin (.brk ((x0,()),())))

def s107_0 (d:sh107_0.data):Option (Out sh107_0.data shb107_0.data shr107_0.data):=(t107_0 d.1.1 d.1.2.1 d.1.2.2.1 d.1.2.2.2.1).val
def l107_0 (d:sh107_0.data):Option (shb107_0.data ⊕ shr107_0.data):=itr s107_0 rounds d
def b107_0 (d:sh107_0.data):shb107_0.data:=outB shb107_0.dflt (l107_0 d)
def lc107_0:LoopC:=lcB sh107_0 shb107_0 shr107_0 l107_0 b107_0

theorem wk107_0 (x0:Int) (x1:(List Int)) (x2:Int) (x3:Int):Walks (runBody (kl107_2 Go.Proofs.Try.prog).orc Go.Proofs.Try.prog 400 107 0 sh107_0 shb107_0 shr107_0 ((x0,x1,x2,x3,()),())) (t107_0 x0 x1 x2 x3) [([true,true,true],[1,2,4,6]),([ff],[2])] :=
  ⟨by kernel_rfl,by kernel_rfl,trivial⟩

theorem ok107_0_t (x0:Int) (x1:(List Int)) (x2:Int) (x3:Int):TrOk (BodyRuns Go.Proofs.Try.prog (kl107_2 Go.Proofs.Try.prog).orc 107 0 sh107_0 shb107_0 shr107_0 ((x0,x1,x2,x3,()),())) (t107_0 x0 x1 x2 x3) :=
  Walks.ok (fun _ _ _=>BodyRuns.of) (wk107_0 x0 x1 x2 x3) (by kernel_rfl)

theorem ok107_0:LoopOk Go.Proofs.Try.prog 107 0 lc107_0:=loopOk_ofB (sh:=sh107_0) (shB:=shb107_0) (shR:=shr107_0) kl107_2_ok.base (T:=fun (d:sh107_0.data)=>t107_0 d.1.1 d.1.2.1 d.1.2.2.1 d.1.2.2.2.1) (by kernel_rfl) rfl (fun (d:sh107_0.data)=>ok107_0_t d.1.1 d.1.2.1 d.1.2.2.1 d.1.2.2.2.1) (fun _=>rfl)
def kl107_0 (P:Go.Program):Known:=(kl107_2 P).loop 107 0 lc107_0
theorem kl107_0_ok:KnownOk Go.Proofs.Try.prog (kl107_0 Go.Proofs.Try.prog):=kl107_2_ok.loop ok107_0

/-! ductility/modal.divisorOf -/

abbrev as107:List Ty:=[(.int .i64),(.slice (.int .i64))]
abbrev rs107:List Ty:=[(.int .i64)]

def t107 (x0:Int) (x1:(List Int)):Tr (Tys.data rs107) :=
  Tr.test (isBrk (l107_0 ((x0,(x1,((↑(List.length x1):Int),((0:Int),())))),())))
    (let r0:=b107_0 ((x0,(x1,((↑(List.length x1):Int),((0:Int),())))),());
    Tr.fin (((if r0.1.1 < Go.IntKind.wrap Go.IntKind.i64 ((0:Int) - r0.1.1) then Go.IntKind.wrap Go.IntKind.i64 ((0:Int) - r0.1.1) else r0.1.1:Int),())))
    (Tr.stop)

def f107 (d:Tys.data as107):Option (Tys.data rs107):=(t107 d.1 d.2.1).val
def g107 (d:Tys.data as107):Tys.data rs107:=(f107 d).getD (Tys.dflt rs107)
def p107:PureC:=pcOf as107 rs107 f107 g107

theorem wk107 (x0:Int) (x1:(List Int)):Walks (runPure (kl107_0 Go.Proofs.Try.prog).orc Go.Proofs.Try.prog 400 107 as107 rs107 (x0,x1,())) (t107 x0 x1) [([tt],[1,2])] :=
  ⟨by kernel_rfl,trivial⟩

theorem ok107_t (x0:Int) (x1:(List Int)):TrOk (PureRuns Go.Proofs.Try.prog (kl107_0 Go.Proofs.Try.prog).orc 107 as107 rs107 (x0,x1,())) (t107 x0 x1) :=
  Walks.ok (fun _ _ _=>PureRuns.of) (wk107 x0 x1) (by kernel_rfl)

theorem ok107:PureOk Go.Proofs.Try.prog 107 p107:=pureOk_of kl107_0_ok.base (T:=fun (d:Tys.data as107)=>t107 d.1 d.2.1) (by kernel_rfl) (fun (d:Tys.data as107)=>ok107_t d.1 d.2.1)
def kf107 (P:Go.Program):Known:=(kl107_0 P).func 107 p107
theorem kf107_ok:KnownOk Go.Proofs.Try.prog (kf107 Go.Proofs.Try.prog):=kl107_0_ok.func ok107

/-! ductility/modal.fraction -/

abbrev as77:List Ty:=[(.int .i64),(.int .i64)]
abbrev rs77:List Ty:=[(.pair (.int .i64) (.pair (.int .i64) .unit))]

def t77 (x0:Int) (x1:Int):Tr (Tys.data rs77) :=
  Tr.test (Option.isSome (f107 (x1,(([x0]:List Int),()))))
    (let r0:=g107 (x1,(([x0]:List Int),()));
    Tr.test ((r0.1 == (0:Int):Bool))
      (Tr.stop)
      (Tr.fin ((((Go.IntKind.wrap Go.IntKind.i64 (Int.tdiv x0 r0.1):Int),((Go.IntKind.wrap Go.IntKind.i64 (Int.tdiv x1 r0.1):Int),())),()))))
    (Tr.stop)

def f77 (d:Tys.data as77):Option (Tys.data rs77):=(t77 d.1 d.2.1).val
def g77 (d:Tys.data as77):Tys.data rs77:=(f77 d).getD (Tys.dflt rs77)
def p77:PureC:=pcOf as77 rs77 f77 g77

theorem wk77 (x0:Int) (x1:Int):Walks (runPure (kf107 Go.Proofs.Try.prog).orc Go.Proofs.Try.prog 400 77 as77 rs77 (x0,x1,())) (t77 x0 x1) [([true,false],[2,2,4,1])] :=
  ⟨by kernel_rfl,trivial⟩

theorem ok77_t (x0:Int) (x1:Int):TrOk (PureRuns Go.Proofs.Try.prog (kf107 Go.Proofs.Try.prog).orc 77 as77 rs77 (x0,x1,())) (t77 x0 x1) :=
  Walks.ok (fun _ _ _=>PureRuns.of) (wk77 x0 x1) (by kernel_rfl)

theorem ok77:PureOk Go.Proofs.Try.prog 77 p77:=pureOk_of kf107_ok.base (T:=fun (d:Tys.data as77)=>t77 d.1 d.2.1) (by kernel_rfl) (fun (d:Tys.data as77)=>ok77_t d.1 d.2.1)
def kf77 (P:Go.Program):Known:=(kf107 P).func 77 p77
theorem kf77_ok:KnownOk Go.Proofs.Try.prog (kf77 Go.Proofs.Try.prog):=kf107_ok.func ok77

/-! ductility/modal.PeriodIn -/

abbrev as43:List Ty:=[(.pair (.slice (.int .i64)) (.pair (.int .i64) .unit))]
abbrev rs43:List Ty:=[(.pair (.pair (.int .i64) (.pair (.int .i64) .unit)) (.pair (.pair (.int .i64) (.pair (.int .i64) .unit)) .unit)),(.int .i64)]

def t43 (x0:(List Int)) (x0':Int):Tr (Tys.data rs43) :=
  Tr.test (Option.isSome (f75 ((x0,(x0',())),())))
    (let r0:=g75 ((x0,(x0',())),());
    Tr.test ((!eqF r0.2.1 0:Bool))
      (Tr.fin (((((0:Int),((0:Int),())),(((0:Int),((0:Int),())),())),(r0.2.1,()))))
      (Tr.test (Option.isSome (f76 (((r0.1.1.1,(r0.1.1.2.1,())),()),())))
        (let r1:=g76 (((r0.1.1.1,(r0.1.1.2.1,())),()),());
        Tr.test ((!leF (1:Int) (wrap64 ((↑(List.length r1.1):Int) - (1:Int))):Bool))
          (Tr.fin (((((0:Int),((0:Int),())),(((0:Int),((0:Int),())),())),((12:Int),()))))
          (Tr.test ((true && decide ((0:Int) < (↑(List.length r1.1):Int)):Bool))
            (Tr.test ((decide ((0:Int) ≤ wrap64 ((↑(List.length r1.1):Int) - (1:Int))) && decide (wrap64 ((↑(List.length r1.1):Int) - (1:Int)) < (↑(List.length r1.1):Int)):Bool))
              (Tr.test (Option.isSome (f77 ((wrap64 ((List.getD r1.1 (Int.toNat (wrap64 ((↑(List.length r1.1):Int) - (1:Int)))) ((0:Int),(0:Int),())).1 - (List.getD r1.1 (0:Nat) ((0:Int),(0:Int),())).2.1):Int),((wrap64 ((↑(List.length r1.1):Int) - (1:Int)):Int),()))))
                (Tr.test (Option.isSome (f77 ((wrap64 ((List.getD r1.1 (Int.toNat (wrap64 ((↑(List.length r1.1):Int) - (1:Int)))) ((0:Int),(0:Int),())).2.1 - (List.getD r1.1 (0:Nat) ((0:Int),(0:Int),())).1):Int),((wrap64 ((↑(List.length r1.1):Int) - (1:Int)):Int),()))))
                  (let r2:=g77 ((wrap64 ((List.getD r1.1 (Int.toNat (wrap64 ((↑(List.length r1.1):Int) - (1:Int)))) ((0:Int),(0:Int),())).1 - (List.getD r1.1 (0:Nat) ((0:Int),(0:Int),())).2.1):Int),((wrap64 ((↑(List.length r1.1):Int) - (1:Int)):Int),()));
                  let r3:=g77 ((wrap64 ((List.getD r1.1 (Int.toNat (wrap64 ((↑(List.length r1.1):Int) - (1:Int)))) ((0:Int),(0:Int),())).2.1 - (List.getD r1.1 (0:Nat) ((0:Int),(0:Int),())).1):Int),((wrap64 ((↑(List.length r1.1):Int) - (1:Int)):Int),()));
                  Tr.fin ((((r2.1.1,(r2.1.2.1,())),((r3.1.1,(r3.1.2.1,())),())),((0:Int),()))))
                  (Tr.stop))
                (Tr.stop))
              (Tr.stop))
            (Tr.stop)))
        (Tr.stop)))
    (Tr.stop)

def f43 (d:Tys.data as43):Option (Tys.data rs43):=(t43 d.1.1 d.1.2.1).val
def g43 (d:Tys.data as43):Tys.data rs43:=(f43 d).getD (Tys.dflt rs43)
def p43:PureC:=pcOf as43 rs43 f43 g43

theorem wk43 (x0:(List Int)) (x0':Int):Walks (runPure (kf77 Go.Proofs.Try.prog).orc Go.Proofs.Try.prog 400 43 as43 rs43 ((x0,x0',()),())) (t43 x0 x0') [([true,true],[2,4]),([true,false,true,true],[2,4,6,8]),([true,false,true,false,true,true,true,true],[2,4,6,8,10,12,14,16])] :=
  ⟨by kernel_rfl,by kernel_rfl,by kernel_rfl,trivial⟩

theorem ok43_t (x0:(List Int)) (x0':Int):TrOk (PureRuns Go.Proofs.Try.prog (kf77 Go.Proofs.Try.prog).orc 43 as43 rs43 ((x0,x0',()),())) (t43 x0 x0') :=
  Walks.ok (fun _ _ _=>PureRuns.of) (wk43 x0 x0') (by kernel_rfl)

theorem ok43:PureOk Go.Proofs.Try.prog 43 p43:=pureOk_of kf77_ok.base (T:=fun (d:Tys.data as43)=>t43 d.1.1 d.1.2.1) (by kernel_rfl) (fun (d:Tys.data as43)=>ok43_t d.1.1 d.1.2.1)
def kf43 (P:Go.Program):Known:=(kf77 P).func 43 p43
theorem kf43_ok:KnownOk Go.Proofs.Try.prog (kf43 Go.Proofs.Try.prog):=kf77_ok.func ok43

/-! loop 0 of ductility/modal.checkItems[ductility/api.Range] -/

abbrev sh104_0:Sh:={ n:=25,slots:=[1,9,10,11],pats:=[.fn 117 [(0,1),(1,1)],.ty (.slice (.pair (.int .i64) (.pair (.int .i64) .unit))),.ty (.int .i64),.ty (.int .i64)],boxes:=[.row [.ty (.int .i64)],.row [.ty (.int .i64)]] }
abbrev shb104_0:Sh:={ n:=25,slots:=[],pats:=[],boxes:=[.row [.ty (.int .i64)],.row [.ty (.int .i64)]] }
abbrev shr104_0:Sh:={ n:=25,slots:=[4,5],pats:=[.ty (.int .i64),.ty (.int .i64)],boxes:=[.row [.ty (.int .i64)],.row [.ty (.int .i64)]] }

def t104_0 (x1:(List (Int×(Int×Unit)))) (x2:Int) (x3:Int) (b0_0:Int) (b1_0:Int):Tr (Out sh104_0.data shb104_0.data shr104_0.data) :=
  Tr.test ((!leF x2 x3:Bool))
    (Tr.test (decide ((0:Int) ≤ x3) && decide (x3 < (↑(List.length x1):Int)))
      (Tr.test (Option.isSome (f51 (b0_0,(b1_0,(([(List.getD x1 (Int.toNat x3) ((0:Int),(0:Int),())).1,(List.getD x1 (Int.toNat x3) ((0:Int),(0:Int),())).2.1]:List Int),())))))
        (let r0:=g51 (b0_0,(b1_0,(([(List.getD x1 (Int.toNat x3) ((0:Int),(0:Int),())).1,(List.getD x1 (Int.toNat x3) ((0:Int),(0:Int),())).2.1]:List Int),())));
        Tr.test (Option.isSome (f52 ((!r0.1:Bool),((2:Int),()))))
          (Tr.test (Option.isSome (f52 ((!leF (List.getD x1 (Int.toNat x3) ((0:Int),(0:Int),())).1 (List.getD x1 (Int.toNat x3) ((0:Int),(0:Int),())).2.1:Bool),((9:Int),()))))
            (let r1:=g52 ((!r0.1:Bool),((2:Int),()));
            let r2:=g52 ((!leF (List.getD x1 (Int.toNat x3) ((0:Int),(0:Int),())).1 (List.getD x1 (Int.toNat x3) ((0:Int),(0:Int),())).2.1:Bool),((9:Int),()));
            Tr.test (Option.isSome (f72 (([r1.1,r2.1]:List Int),())))
              (let r3:=g72 (([r1.1,r2.1]:List Int),());
              Tr.test ((!eqF r3.1 0:Bool))
                (Tr.fin (.ret ((x3,(r3.1,())),((b0_0,()),((b1_0,()),())))))
                (Tr.fin (.again ((x1,(x2,((wrap64 (x3 + (1:Int)):Int),()))),((b0_0,()),((b1_0,()),()))))))
              (Tr.stop))
            (Tr.stop))
          (Tr.stop))
        (Tr.stop))
      (Tr.stop))
    (Tr.fin (.brk ((),((b0_0,()),((b1_0,()),())))))

def s104_0 (d:sh104_0.data):Option (Out sh104_0.data shb104_0.data shr104_0.data):=(t104_0 d.1.1 d.1.2.1 d.1.2.2.1 d.2.1.1 d.2.2.1.1).val
def l104_0 (d:sh104_0.data):Option (shb104_0.data ⊕ shr104_0.data):=itr s104_0 rounds d
def b104_0 (d:sh104_0.data):shb104_0.data:=outB shb104_0.dflt (l104_0 d)
def r104_0 (d:sh104_0.data):shr104_0.data:=outR shr104_0.dflt (l104_0 d)
def lc104_0:LoopC:=lcOf sh104_0 shb104_0 shr104_0 l104_0 b104_0 r104_0

theorem wk104_0 (x1:(List (Int×(Int×Unit)))) (x2:Int) (x3:Int) (b0_0:Int) (b1_0:Int):Walks (runBody (kf43 Go.Proofs.Try.prog).orc Go.Proofs.Try.prog 400 104 0 sh104_0 shb104_0 shr104_0 ((x1,x2,x3,()),(b0_0,()),(b1_0,()),())) (t104_0 x1 x2 x3 b0_0 b1_0) [([true,true,true,true,true,true,true],[2,4,1,6,8,10,1,12,14]),([true,true,true,true,true,true,false],[2,4,1,6,8,10,1,12,14]),([ff],[2])] :=
  ⟨by kernel_rfl,by kernel_rfl,by kernel_rfl,trivial⟩

theorem ok104_0_t (x1:(List (Int×(Int×Unit)))) (x2:Int) (x3:Int) (b0_0:Int) (b1_0:Int):TrOk (BodyRuns Go.Proofs.Try.prog (kf43 Go.Proofs.Try.prog).orc 104 0 sh104_0 shb104_0 shr104_0 ((x1,x2,x3,()),(b0_0,()),(b1_0,()),())) (t104_0 x1 x2 x3 b0_0 b1_0) :=
  Walks.ok (fun _ _ _=>BodyRuns.of) (wk104_0 x1 x2 x3 b0_0 b1_0) (by kernel_rfl)

theorem ok104_0:LoopOk Go.Proofs.Try.prog 104 0 lc104_0:=loopOk_of (sh:=sh104_0) (shB:=shb104_0) (shR:=shr104_0) kf43_ok.base (T:=fun (d:sh104_0.data)=>t104_0 d.1.1 d.1.2.1 d.1.2.2.1 d.2.1.1 d.2.2.1.1) (by kernel_rfl) rfl (fun (d:sh104_0.data)=>ok104_0_t d.1.1 d.1.2.1 d.1.2.2.1 d.2.1.1 d.2.2.1.1) (fun _=>rfl)
def kl104_0 (P:Go.Program):Known:=(kf43 P).loop 104 0 lc104_0
theorem kl104_0_ok:KnownOk Go.Proofs.Try.prog (kl104_0 Go.Proofs.Try.prog):=kf43_ok.loop ok104_0

/-! ductility/modal.endsError -/

abbrev as103:List Ty:=[(.slice (.pair (.int .i64) (.pair (.int .i64) .unit))),(.int .i64),(.int .i64)]
abbrev rs103:List Ty:=[(.int .i64)]

def t103 (x0:(List (Int×(Int×Unit)))) (x1:Int) (x2:Int):Tr (Tys.data rs103) :=
  Tr.test (Option.isSome (l104_0 ((x0,((↑(List.length x0):Int),((0:Int),()))),((x1,()),((x2,()),())))))
    (Tr.test (isRet (l104_0 ((x0,((↑(List.length x0):Int),((0:Int),()))),((x1,()),((x2,()),())))))
      (let r0:=r104_0 ((x0,((↑(List.length x0):Int),((0:Int),()))),((x1,()),((x2,()),())));
      Tr.fin ((r0.1.2.1,())))
      (Tr.fin (((0:Int),()))))
    (Tr.stop)

def f103 (d:Tys.data as103):Option (Tys.data rs103):=(t103 d.1 d.2.1 d.2.2.1).val
def g103 (d:Tys.data as103):Tys.data rs103:=(f103 d).getD (Tys.dflt rs103)
def p103:PureC:=pcOf as103 rs103 f103 g103

theorem wk103 (x0:(List (Int×(Int×Unit)))) (x1:Int) (x2:Int):Walks (runPure (kl104_0 Go.Proofs.Try.prog).orc Go.Proofs.Try.prog 400 103 as103 rs103 (x0,x1,x2,())) (t103 x0 x1 x2) [([true,true],[2,4]),([true,false],[2,4])] :=
  ⟨by kernel_rfl,by kernel_rfl,trivial⟩

theorem ok103_t (x0:(List (Int×(Int×Unit)))) (x1:Int) (x2:Int):TrOk (PureRuns Go.Proofs.Try.prog (kl104_0 Go.Proofs.Try.prog).orc 103 as103 rs103 (x0,x1,x2,())) (t103 x0 x1 x2) :=
  Walks.ok (fun _ _ _=>PureRuns.of) (wk103 x0 x1 x2) (by kernel_rfl)

theorem ok103:PureOk Go.Proofs.Try.prog 103 p103:=pureOk_of kl104_0_ok.base (T:=fun (d:Tys.data as103)=>t103 d.1 d.2.1 d.2.2.1) (by kernel_rfl) (fun (d:Tys.data as103)=>ok103_t d.1 d.2.1 d.2.2.1)
def kf103 (P:Go.Program):Known:=(kl104_0 P).func 103 p103
theorem kf103_ok:KnownOk Go.Proofs.Try.prog (kf103 Go.Proofs.Try.prog):=kl104_0_ok.func ok103

/-! ductility/modal.afterError -/

abbrev as67:List Ty:=[(.pair (.int .i64) (.pair (.slice (.pair (.int .i64) (.pair (.int .i64) .unit))) .unit)),(.int .i64)]
abbrev rs67:List Ty:=[(.int .i64)]

def t67 (x0:Int) (x0':(List (Int×(Int×Unit)))) (x1:Int):Tr (Tys.data rs67) :=
  Tr.test (Option.isSome (f53 (x0,())))
    (Tr.test (Option.isSome (f52 (!eqF (↑(List.length x0'):Int) x1,((10:Int),()))))
      (let r0:=g53 (x0,());
      let r1:=g52 ((!eqF (↑(List.length x0'):Int) x1:Bool),((10:Int),()));
      Tr.test (Option.isSome (f72 (([r0.1,r1.1]:List Int),())))
        (let r2:=g72 (([r0.1,r1.1]:List Int),());
        Tr.test ((!eqF r2.1 0:Bool))
          (Tr.fin ((r2.1,())))
          (Tr.test (Option.isSome (f103 (x0',((0:Int),((1000000000:Int),())))))
            (let r3:=g103 (x0',((0:Int),((1000000000:Int),())));
            Tr.fin ((r3.1,())))
            (Tr.stop)))
        (Tr.stop))
      (Tr.stop))
    (Tr.stop)

def f67 (d:Tys.data as67):Option (Tys.data rs67):=(t67 d.1.1 d.1.2.1 d.2.1).val
def g67 (d:Tys.data as67):Tys.data rs67:=(f67 d).getD (Tys.dflt rs67)
def p67:PureC:=pcOf as67 rs67 f67 g67

theorem wk67 (x0:Int) (x0':(List (Int×(Int×Unit)))) (x1:Int):Walks (runPure (kf103 Go.Proofs.Try.prog).orc Go.Proofs.Try.prog 400 67 as67 rs67 ((x0,x0',()),x1,())) (t67 x0 x0' x1) [([true,true,true,true],[2,4,1,6,8]),([true,true,true,false,true],[2,4,6,1,8,10])] :=
  ⟨by kernel_rfl,by kernel_rfl,trivial⟩

theorem ok67_t (x0:Int) (x0':(List (Int×(Int×Unit)))) (x1:Int):TrOk (PureRuns Go.Proofs.Try.prog (kf103 Go.Proofs.Try.prog).orc 67 as67 rs67 ((x0,x0',()),x1,())) (t67 x0 x0' x1) :=
  Walks.ok (fun _ _ _=>PureRuns.of) (wk67 x0 x0' x1) (by kernel_rfl)

theorem ok67:PureOk Go.Proofs.Try.prog 67 p67:=pureOk_of kf103_ok.base (T:=fun (d:Tys.data as67)=>t67 d.1.1 d.1.2.1 d.2.1) (by kernel_rfl) (fun (d:Tys.data as67)=>ok67_t d.1.1 d.1.2.1 d.2.1)
def kf67 (P:Go.Program):Known:=(kf103 P).func 67 p67
theorem kf67_ok:KnownOk Go.Proofs.Try.prog (kf67 Go.Proofs.Try.prog):=kf103_ok.func ok67

/-! loop 0 of ductility/modal.agreed -/

abbrev sh74_0:Sh:={ n:=34,slots:=[4,6,10,11,12],pats:=[.ptr 0 2 0,.ptr 1 2 0,.ty (.slice (.pair (.int .i64) (.pair (.int .i64) .unit))),.ty (.int .i64),.ty (.int .i64)],boxes:=[.row [.ty (.int .i64),.ty (.int .i64)],.row [.ty (.int .i64),.ty (.int .i64)]] }
abbrev shb74_0:Sh:={ n:=34,slots:=[4,6],pats:=[.ptr 0 2 0,.ptr 1 2 0],boxes:=[.row [.ty (.int .i64),.ty (.int .i64)],.row [.ty (.int .i64),.ty (.int .i64)]] }
abbrev shr74_0:Sh:={ n:=34,slots:=[],pats:=[],boxes:=[.row [.ty (.int .i64),.ty (.int .i64)],.row [.ty (.int .i64),.ty (.int .i64)]] }

def t74_0 (x2:(List (Int×(Int×Unit)))) (x3:Int) (x4:Int) (b0_0:Int) (b0_1:Int) (b1_0:Int) (b1_1:Int):Tr (Out sh74_0.data shb74_0.data shr74_0.data) :=
  Tr.test ((!leF x3 x4:Bool))
    (Tr.test (decide ((0:Int) ≤ x4) && decide (x4 < (↑(List.length x2):Int)))
      (Tr.fin (.again ((x2,(x3,((wrap64 (x4 + (1:Int)):Int),()))),((b0_0,(b0_1,())),(((if b1_0 < (List.getD x2 (Int.toNat x4) ((0:Int),(0:Int),())).1 then (List.getD x2 (Int.toNat x4) ((0:Int),(0:Int),())).1 else b1_0:Int),((if (List.getD x2 (Int.toNat x4) ((0:Int),(0:Int),())).2.1 < b1_1 then (List.getD x2 (Int.toNat x4) ((0:Int),(0:Int),())).2.1 else b1_1:Int),())),())))))
      (Tr.stop))
    (Tr.fin (.brk ((),((b0_0,(b0_1,())),((b1_0,(b1_1,())),())))))

def s74_0 (d:sh74_0.data):Option (Out sh74_0.data shb74_0.data shr74_0.data):=(t74_0 d.1.1 d.1.2.1 d.1.2.2.1 d.2.1.1 d.2.1.2.1 d.2.2.1.1 d.2.2.1.2.1).val
def l74_0 (d:sh74_0.data):Option (shb74_0.data ⊕ shr74_0.data):=itr s74_0 rounds d
def b74_0 (d:sh74_0.data):shb74_0.data:=outB shb74_0.dflt (l74_0 d)
def lc74_0:LoopC:=lcB sh74_0 shb74_0 shr74_0 l74_0 b74_0

theorem wk74_0 (x2:(List (Int×(Int×Unit)))) (x3:Int) (x4:Int) (b0_0:Int) (b0_1:Int) (b1_0:Int) (b1_1:Int):Walks (runBody (kf67 Go.Proofs.Try.prog).orc Go.Proofs.Try.prog 400 74 0 sh74_0 shb74_0 shr74_0 ((x2,x3,x4,()),(b0_0,b0_1,()),(b1_0,b1_1,()),())) (t74_0 x2 x3 x4 b0_0 b0_1 b1_0 b1_1) [([true,true],[2,4]),([ff],[2])] :=
  ⟨by kernel_rfl,by kernel_rfl,trivial⟩

theorem ok74_0_t (x2:(List (Int×(Int×Unit)))) (x3:Int) (x4:Int) (b0_0:Int) (b0_1:Int) (b1_0:Int) (b1_1:Int):TrOk (BodyRuns Go.Proofs.Try.prog (kf67 Go.Proofs.Try.prog).orc 74 0 sh74_0 shb74_0 shr74_0 ((x2,x3,x4,()),(b0_0,b0_1,()),(b1_0,b1_1,()),())) (t74_0 x2 x3 x4 b0_0 b0_1 b1_0 b1_1) :=
  Walks.ok (fun _ _ _=>BodyRuns.of) (wk74_0 x2 x3 x4 b0_0 b0_1 b1_0 b1_1) (by kernel_rfl)

theorem ok74_0:LoopOk Go.Proofs.Try.prog 74 0 lc74_0:=loopOk_ofB (sh:=sh74_0) (shB:=shb74_0) (shR:=shr74_0) kf67_ok.base (T:=fun (d:sh74_0.data)=>t74_0 d.1.1 d.1.2.1 d.1.2.2.1 d.2.1.1 d.2.1.2.1 d.2.2.1.1 d.2.2.1.2.1) (by kernel_rfl) rfl (fun (d:sh74_0.data)=>ok74_0_t d.1.1 d.1.2.1 d.1.2.2.1 d.2.1.1 d.2.1.2.1 d.2.2.1.1 d.2.2.1.2.1) (fun _=>rfl)
def kl74_0 (P:Go.Program):Known:=(kf67 P).loop 74 0 lc74_0
theorem kl74_0_ok:KnownOk Go.Proofs.Try.prog (kl74_0 Go.Proofs.Try.prog):=kf67_ok.loop ok74_0

/-! ductility/modal.agreed -/

abbrev as74:List Ty:=[(.pair (.int .i64) (.pair (.int .i64) .unit)),(.slice (.pair (.int .i64) (.pair (.int .i64) .unit)))]
abbrev rs74:List Ty:=[(.pair (.int .i64) (.pair (.int .i64) .unit)),.bool]

def t74 (x0:Int) (x0':Int) (x1:(List (Int×(Int×Unit)))):Tr (Tys.data rs74) :=
  Tr.test (isBrk (l74_0 ((x1,((↑(List.length x1):Int),((0:Int),()))),(((0:Int),((0:Int),())),((x0,(x0',())),())))))
    (let r0:=b74_0 ((x1,((↑(List.length x1):Int),((0:Int),()))),(((0:Int),((0:Int),())),((x0,(x0',())),())));
    Tr.fin (((r0.2.2.1.1,(r0.2.2.1.2.1,())),((decide (r0.2.2.1.1 ≤ r0.2.2.1.2.1):Bool),()))))
    (Tr.stop)

def f74 (d:Tys.data as74):Option (Tys.data rs74):=(t74 d.1.1 d.1.2.1 d.2.1).val
def g74 (d:Tys.data as74):Tys.data rs74:=(f74 d).getD (Tys.dflt rs74)
def p74:PureC:=pcOf as74 rs74 f74 g74

theorem wk74 (x0:Int) (x0':Int) (x1:(List (Int×(Int×Unit)))):Walks (runPure (kl74_0 Go.Proofs.Try.prog).orc Go.Proofs.Try.prog 400 74 as74 rs74 ((x0,x0',()),x1,())) (t74 x0 x0' x1) [([tt],[1,2])] :=
  ⟨by kernel_rfl,trivial⟩

theorem ok74_t (x0:Int) (x0':Int) (x1:(List (Int×(Int×Unit)))):TrOk (PureRuns Go.Proofs.Try.prog (kl74_0 Go.Proofs.Try.prog).orc 74 as74 rs74 ((x0,x0',()),x1,())) (t74 x0 x0' x1) :=
  Walks.ok (fun _ _ _=>PureRuns.of) (wk74 x0 x0' x1) (by kernel_rfl)

theorem ok74:PureOk Go.Proofs.Try.prog 74 p74:=pureOk_of kl74_0_ok.base (T:=fun (d:Tys.data as74)=>t74 d.1.1 d.1.2.1 d.2.1) (by kernel_rfl) (fun (d:Tys.data as74)=>ok74_t d.1.1 d.1.2.1 d.2.1)
def kf74 (P:Go.Program):Known:=(kl74_0 P).func 74 p74
theorem kf74_ok:KnownOk Go.Proofs.Try.prog (kf74 Go.Proofs.Try.prog):=kl74_0_ok.func ok74

/-! loop 0 of ductility/modal.checkItems[ductility/api.Range] -/

abbrev sh104_0_1:Sh:={ n:=25,slots:=[1,9,10,11],pats:=[.fn 105 [(0,2),(1,2)],.ty (.slice (.pair (.int .i64) (.pair (.int .i64) .unit))),.ty (.int .i64),.ty (.int .i64)],boxes:=[.row [.ty (.slice (.int .i64)),.ty (.slice (.int .i64))],.row [.ty (.int .i64),.ty (.slice (.pair (.int .i64) (.pair (.int .i64) .unit)))]] }
abbrev shb104_0_1:Sh:={ n:=25,slots:=[],pats:=[],boxes:=[.row [.ty (.slice (.int .i64)),.ty (.slice (.int .i64))],.row [.ty (.int .i64),.ty (.slice (.pair (.int .i64) (.pair (.int .i64) .unit)))]] }
abbrev shr104_0_1:Sh:={ n:=25,slots:=[4,5],pats:=[.ty (.int .i64),.ty (.int .i64)],boxes:=[.row [.ty (.slice (.int .i64)),.ty (.slice (.int .i64))],.row [.ty (.int .i64),.ty (.slice (.pair (.int .i64) (.pair (.int .i64) .unit)))]] }

def t104_0_1 (x1:(List (Int×(Int×Unit)))) (x2:Int) (x3:Int) (b0_0:(List Int)) (b0_1:(List Int)) (b1_0:Int) (b1_1:(List (Int×(Int×Unit)))):Tr (Out sh104_0_1.data shb104_0_1.data shr104_0_1.data) :=
  Tr.test ((!leF x2 x3:Bool))
    (Tr.test (decide ((0:Int) ≤ x3) && decide (x3 < (↑(List.length x1):Int)))
      (Tr.test (Option.isSome (f54 (((b0_0,(b0_1,())),()),(x3,(b1_0,())))))
        (let r0:=g54 (((b0_0,(b0_1,())),()),(x3,(b1_0,())));
        Tr.test (Option.isSome (f74 ((r0.1.1,(r0.1.2.1,())),(([((List.getD x1 (Int.toNat x3) ((0:Int),(0:Int),())).1,(List.getD x1 (Int.toNat x3) ((0:Int),(0:Int),())).2.1,())]:List (Int×Int×PUnit)),()))))
          (let r1:=g74 ((r0.1.1,(r0.1.2.1,())),(([((List.getD x1 (Int.toNat x3) ((0:Int),(0:Int),())).1,(List.getD x1 (Int.toNat x3) ((0:Int),(0:Int),())).2.1,())]:List (Int×Int×PUnit)),()));
          Tr.test (Option.isSome (f52 ((!r1.2.1:Bool),((19:Int),()))))
            (let r2:=g52 ((!r1.2.1:Bool),((19:Int),()));
            Tr.test ((!eqF r2.1 0:Bool))
              (Tr.fin (.ret ((x3,(r2.1,())),((b0_0,(b0_1,())),((b1_0,(b1_1,())),())))))
              (Tr.fin (.again ((x1,(x2,((wrap64 (x3 + (1:Int)):Int),()))),((b0_0,(b0_1,())),((b1_0,(b1_1,())),()))))))
            (Tr.stop))
          (Tr.stop))
        (Tr.stop))
      (Tr.stop))
    (Tr.fin (.brk ((),((b0_0,(b0_1,())),((b1_0,(b1_1,())),())))))

def s104_0_1 (d:sh104_0_1.data):Option (Out sh104_0_1.data shb104_0_1.data shr104_0_1.data):=(t104_0_1 d.1.1 d.1.2.1 d.1.2.2.1 d.2.1.1 d.2.1.2.1 d.2.2.1.1 d.2.2.1.2.1).val
def l104_0_1 (d:sh104_0_1.data):Option (shb104_0_1.data ⊕ shr104_0_1.data):=itr s104_0_1 rounds d
def b104_0_1 (d:sh104_0_1.data):shb104_0_1.data:=outB shb104_0_1.dflt (l104_0_1 d)
def r104_0_1 (d:sh104_0_1.data):shr104_0_1.data:=outR shr104_0_1.dflt (l104_0_1 d)
def lc104_0_1:LoopC:=lcOf sh104_0_1 shb104_0_1 shr104_0_1 l104_0_1 b104_0_1 r104_0_1

theorem wk104_0_1 (x1:(List (Int×(Int×Unit)))) (x2:Int) (x3:Int) (b0_0:(List Int)) (b0_1:(List Int)) (b1_0:Int) (b1_1:(List (Int×(Int×Unit)))):Walks (runBody (kf74 Go.Proofs.Try.prog).orc Go.Proofs.Try.prog 400 104 0 sh104_0_1 shb104_0_1 shr104_0_1 ((x1,x2,x3,()),(b0_0,b0_1,()),(b1_0,b1_1,()),())) (t104_0_1 x1 x2 x3 b0_0 b0_1 b1_0 b1_1) [([true,true,true,true,true,true],[2,4,6,1,8,10,12]),([true,true,true,true,true,false],[2,4,6,1,8,10,12]),([ff],[2])] :=
  ⟨by kernel_rfl,by kernel_rfl,by kernel_rfl,trivial⟩

theorem ok104_0_1_t (x1:(List (Int×(Int×Unit)))) (x2:Int) (x3:Int) (b0_0:(List Int)) (b0_1:(List Int)) (b1_0:Int) (b1_1:(List (Int×(Int×Unit)))):TrOk (BodyRuns Go.Proofs.Try.prog (kf74 Go.Proofs.Try.prog).orc 104 0 sh104_0_1 shb104_0_1 shr104_0_1 ((x1,x2,x3,()),(b0_0,b0_1,()),(b1_0,b1_1,()),())) (t104_0_1 x1 x2 x3 b0_0 b0_1 b1_0 b1_1) :=
  Walks.ok (fun _ _ _=>BodyRuns.of) (wk104_0_1 x1 x2 x3 b0_0 b0_1 b1_0 b1_1) (by kernel_rfl)

theorem ok104_0_1:LoopOk Go.Proofs.Try.prog 104 0 lc104_0_1:=loopOk_of (sh:=sh104_0_1) (shB:=shb104_0_1) (shR:=shr104_0_1) kf74_ok.base (T:=fun (d:sh104_0_1.data)=>t104_0_1 d.1.1 d.1.2.1 d.1.2.2.1 d.2.1.1 d.2.1.2.1 d.2.2.1.1 d.2.2.1.2.1) (by kernel_rfl) rfl (fun (d:sh104_0_1.data)=>ok104_0_1_t d.1.1 d.1.2.1 d.1.2.2.1 d.2.1.1 d.2.1.2.1 d.2.2.1.1 d.2.2.1.2.1) (fun _=>rfl)
def kl104_0_1 (P:Go.Program):Known:=(kf74 P).loop 104 0 lc104_0_1
theorem kl104_0_1_ok:KnownOk Go.Proofs.Try.prog (kl104_0_1 Go.Proofs.Try.prog):=kf74_ok.loop ok104_0_1

/-! (ductility/modal.frame).proofError -/

abbrev as70:List Ty:=[(.pair (.pair (.slice (.int .i64)) (.pair (.slice (.int .i64)) .unit)) .unit),(.pair (.int .i64) (.pair (.slice (.pair (.int .i64) (.pair (.int .i64) .unit))) .unit))]
abbrev rs70:List Ty:=[(.int .i64),(.int .i64)]

def t70 (x0_:(List Int)) (x0_':(List Int)) (x1:Int) (x1':(List (Int×(Int×Unit)))):Tr (Tys.data rs70) :=
  Tr.test (Option.isSome (l104_0_1 ((x1',((↑(List.length x1'):Int),((0:Int),()))),((x0_,(x0_',())),((x1,(x1',())),())))))
    (Tr.test (isRet (l104_0_1 ((x1',((↑(List.length x1'):Int),((0:Int),()))),((x0_,(x0_',())),((x1,(x1',())),())))))
      (let r0:=r104_0_1 ((x1',((↑(List.length x1'):Int),((0:Int),()))),((x0_,(x0_',())),((x1,(x1',())),())));
      Tr.fin ((r0.1.1,(r0.1.2.1,()))))
      (Tr.fin (((0:Int),((0:Int),())))))
    (Tr.stop)

def f70 (d:Tys.data as70):Option (Tys.data rs70):=(t70 d.1.1.1 d.1.1.2.1 d.2.1.1 d.2.1.2.1).val
def g70 (d:Tys.data as70):Tys.data rs70:=(f70 d).getD (Tys.dflt rs70)
def p70:PureC:=pcOf as70 rs70 f70 g70

theorem wk70 (x0_:(List Int)) (x0_':(List Int)) (x1:Int) (x1':(List (Int×(Int×Unit)))):Walks (runPure (kl104_0_1 Go.Proofs.Try.prog).orc Go.Proofs.Try.prog 400 70 as70 rs70 (((x0_,x0_',()),()),(x1,x1',()),())) (t70 x0_ x0_' x1 x1') [([true,true],[2,4]),([true,false],[2,4])] :=
  ⟨by kernel_rfl,by kernel_rfl,trivial⟩

theorem ok70_t (x0_:(List Int)) (x0_':(List Int)) (x1:Int) (x1':(List (Int×(Int×Unit)))):TrOk (PureRuns Go.Proofs.Try.prog (kl104_0_1 Go.Proofs.Try.prog).orc 70 as70 rs70 (((x0_,x0_',()),()),(x1,x1',()),())) (t70 x0_ x0_' x1 x1') :=
  Walks.ok (fun _ _ _=>PureRuns.of) (wk70 x0_ x0_' x1 x1') (by kernel_rfl)

theorem ok70:PureOk Go.Proofs.Try.prog 70 p70:=pureOk_of kl104_0_1_ok.base (T:=fun (d:Tys.data as70)=>t70 d.1.1.1 d.1.1.2.1 d.2.1.1 d.2.1.2.1) (by kernel_rfl) (fun (d:Tys.data as70)=>ok70_t d.1.1.1 d.1.1.2.1 d.2.1.1 d.2.1.2.1)
def kf70 (P:Go.Program):Known:=(kl104_0_1 P).func 70 p70
theorem kf70_ok:KnownOk Go.Proofs.Try.prog (kf70 Go.Proofs.Try.prog):=kl104_0_1_ok.func ok70

/-! loop 0 of ductility/ductilitybase.Ints -/

abbrev sh45_0:Sh:={ n:=26,slots:=[0,1,5],pats:=[.ty (.slice (.int .i64)),.ty (.slice (.int .i64)),.ty (.int .i64)],boxes:=[] }
abbrev shb45_0:Sh:={ n:=26,slots:=[],pats:=[],boxes:=[] }
abbrev shr45_0:Sh:={ n:=26,slots:=[4],pats:=[.ty .bool],boxes:=[] }

def t45_0 (x0:(List Int)) (x1:(List Int)) (x2:Int):Tr (Out sh45_0.data shb45_0.data shr45_0.data) :=
  Tr.test ((!leF (↑(List.length x0):Int) x2:Bool))
    (Tr.test (decide ((0:Int) ≤ x2) && decide (x2 < (↑(List.length x0):Int)))
      (Tr.test ((decide ((0:Int) ≤ x2) && decide (x2 < (↑(List.length x1):Int)):Bool))
        (Tr.test ((!eqF (List.getD x0 (Int.toNat x2) (0:Int)) (List.getD x1 (Int.toNat x2) (0:Int)):Bool))
          (Tr.fin (.ret (((false:Bool),()),())))
          (Tr.fin (.again ((x0,(x1,((wrap64 (x2 + (1:Int)):Int),()))),()))))
        (Tr.stop))
      (Tr.stop))
    (Tr.fin (.brk ((),())))

def s45_0 (d:sh45_0.data):Option (Out sh45_0.data shb45_0.data shr45_0.data):=(t45_0 d.1.1 d.1.2.1 d.1.2.2.1).val
def l45_0 (d:sh45_0.data):Option (shb45_0.data ⊕ shr45_0.data):=itr s45_0 rounds d
def b45_0 (d:sh45_0.data):shb45_0.data:=outB shb45_0.dflt (l45_0 d)
def r45_0 (d:sh45_0.data):shr45_0.data:=outR shr45_0.dflt (l45_0 d)
def lc45_0:LoopC:=lcOf sh45_0 shb45_0 shr45_0 l45_0 b45_0 r45_0

theorem wk45_0 (x0:(List Int)) (x1:(List Int)) (x2:Int):Walks (runBody (kf70 Go.Proofs.Try.prog).orc Go.Proofs.Try.prog 400 45 0 sh45_0 shb45_0 shr45_0 ((x0,x1,x2,()),())) (t45_0 x0 x1 x2) [([true,true,true,true],[2,4,6,8]),([true,true,true,false],[2,4,6,8]),([ff],[2])] :=
  ⟨by kernel_rfl,by kernel_rfl,by kernel_rfl,trivial⟩

theorem ok45_0_t (x0:(List Int)) (x1:(List Int)) (x2:Int):TrOk (BodyRuns Go.Proofs.Try.prog (kf70 Go.Proofs.Try.prog).orc 45 0 sh45_0 shb45_0 shr45_0 ((x0,x1,x2,()),())) (t45_0 x0 x1 x2) :=
  Walks.ok (fun _ _ _=>BodyRuns.of) (wk45_0 x0 x1 x2) (by kernel_rfl)

theorem ok45_0:LoopOk Go.Proofs.Try.prog 45 0 lc45_0:=loopOk_of (sh:=sh45_0) (shB:=shb45_0) (shR:=shr45_0) kf70_ok.base (T:=fun (d:sh45_0.data)=>t45_0 d.1.1 d.1.2.1 d.1.2.2.1) (by kernel_rfl) rfl (fun (d:sh45_0.data)=>ok45_0_t d.1.1 d.1.2.1 d.1.2.2.1) (fun _=>rfl)
def kl45_0 (P:Go.Program):Known:=(kf70 P).loop 45 0 lc45_0
theorem kl45_0_ok:KnownOk Go.Proofs.Try.prog (kl45_0 Go.Proofs.Try.prog):=kf70_ok.loop ok45_0

/-! ductility/ductilitybase.Ints -/

abbrev as45:List Ty:=[(.slice (.int .i64)),(.slice (.int .i64))]
abbrev rs45:List Ty:=[.bool]

def t45 (x0:(List Int)) (x1:(List Int)):Tr (Tys.data rs45) :=
  Tr.test ((!eqF (↑(List.length x0):Int) (↑(List.length x1):Int):Bool))
    (Tr.fin ((false,())))
    (Tr.test (Option.isSome (l45_0 ((x0,(x1,((0:Int),()))),())))
      (Tr.test (isRet (l45_0 ((x0,(x1,((0:Int),()))),())))
        (let r0:=r45_0 ((x0,(x1,((0:Int),()))),());
        Tr.fin ((r0.1.1,())))
        (Tr.fin (((true:Bool),()))))
      (Tr.stop))

def f45 (d:Tys.data as45):Option (Tys.data rs45):=(t45 d.1 d.2.1).val
def g45 (d:Tys.data as45):Tys.data rs45:=(f45 d).getD (Tys.dflt rs45)
def p45:PureC:=pcOf as45 rs45 f45 g45

theorem wk45 (x0:(List Int)) (x1:(List Int)):Walks (runPure (kl45_0 Go.Proofs.Try.prog).orc Go.Proofs.Try.prog 400 45 as45 rs45 (x0,x1,())) (t45 x0 x1) [([tt],[2]),([false,true,true],[2,4,6]),([false,true,false],[2,4,6])] :=
  ⟨by kernel_rfl,by kernel_rfl,by kernel_rfl,trivial⟩

theorem ok45_t (x0:(List Int)) (x1:(List Int)):TrOk (PureRuns Go.Proofs.Try.prog (kl45_0 Go.Proofs.Try.prog).orc 45 as45 rs45 (x0,x1,())) (t45 x0 x1) :=
  Walks.ok (fun _ _ _=>PureRuns.of) (wk45 x0 x1) (by kernel_rfl)

theorem ok45:PureOk Go.Proofs.Try.prog 45 p45:=pureOk_of kl45_0_ok.base (T:=fun (d:Tys.data as45)=>t45 d.1 d.2.1) (by kernel_rfl) (fun (d:Tys.data as45)=>ok45_t d.1 d.2.1)
def kf45 (P:Go.Program):Known:=(kl45_0 P).func 45 p45
theorem kf45_ok:KnownOk Go.Proofs.Try.prog (kf45 Go.Proofs.Try.prog):=kl45_0_ok.func ok45

/-! ductility/ductilitylaw06.awake -/

abbrev as8:List Ty:=[]
abbrev rs8:List Ty:=[.bool]
def f8 (_:Tys.data as8):Option (Tys.data rs8):=some (true,())
def g8 (_:Tys.data as8):Tys.data rs8:=(true,())
def p8:PureC:=pcOf as8 rs8 f8 g8

def kz (P:Go.Program):Known:=((((((((((((((((((((((((kf93 P).func 53 p53).func 111 p111).func 82 p82).func 110 p110).func 81 p81).func 48 p48).func 50 p50).func 86 p86).func 54 p54).func 13 p13).func 44 p44).func 106 p106).func 80 p80).func 75 p75).func 76 p76).func 107 p107).func 77 p77).func 43 p43).func 103 p103).func 67 p67).func 74 p74).func 70 p70).func 45 p45)
theorem kz_ok:KnownOk Go.Proofs.Try.prog (kz Go.Proofs.Try.prog):=(((((((((((((((((((((((kf93_ok.func ok53).func ok111).func ok82).func ok110).func ok81).func ok48).func ok50).func ok86).func ok54).func ok13).func ok44).func ok106).func ok80).func ok75).func ok76).func ok107).func ok77).func ok43).func ok103).func ok67).func ok74).func ok70).func ok45)

theorem e8:runAsk (kz Go.Proofs.Try.prog).orc Go.Proofs.Try.prog 400 8 as8 rs8 () none = some ((true,()),[]):=by kernel_rfl
theorem ok8:PureOk Go.Proofs.Try.prog 8 p8:=pureOk_closed kz_ok.base (by kernel_rfl) e8 All.nil
def kf8 (P:Go.Program):Known:=(kf45 P).func 8 p8
theorem kf8_ok:KnownOk Go.Proofs.Try.prog (kf8 Go.Proofs.Try.prog):=kf45_ok.func ok8

/-! ductility/ductilitylaw06.few -/

abbrev as9:List Ty:=[(.pair (.slice (.int .i64)) (.pair (.slice (.int .i64)) .unit))]
abbrev rs9:List Ty:=[.bool]

def t9 (x0:(List Int)) (x0':(List Int)):Tr (Tys.data rs9) :=
  Tr.test ((leF (↑(List.length x0):Int) (6:Int):Bool))
    (Tr.fin ((leF (↑(List.length x0'):Int) (6:Int),())))
    (Tr.fin ((false,())))

def f9 (d:Tys.data as9):Option (Tys.data rs9):=(t9 d.1.1 d.1.2.1).val
def g9 (d:Tys.data as9):Tys.data rs9:=(f9 d).getD (Tys.dflt rs9)
def p9:PureC:=pcOf as9 rs9 f9 g9

theorem wk9 (x0:(List Int)) (x0':(List Int)):Walks (runPure (kf8 Go.Proofs.Try.prog).orc Go.Proofs.Try.prog 400 9 as9 rs9 ((x0,x0',()),())) (t9 x0 x0') [([tt],[2,2,2,2,2]),([ff],[2,2,2,2,2])] :=
  ⟨by kernel_rfl,by kernel_rfl,trivial⟩

theorem ok9_t (x0:(List Int)) (x0':(List Int)):TrOk (PureRuns Go.Proofs.Try.prog (kf8 Go.Proofs.Try.prog).orc 9 as9 rs9 ((x0,x0',()),())) (t9 x0 x0') :=
  Walks.ok (fun _ _ _=>PureRuns.of) (wk9 x0 x0') (by kernel_rfl)

theorem ok9:PureOk Go.Proofs.Try.prog 9 p9:=pureOk_of kf8_ok.base (T:=fun (d:Tys.data as9)=>t9 d.1.1 d.1.2.1) (by kernel_rfl) (fun (d:Tys.data as9)=>ok9_t d.1.1 d.1.2.1)
def kf9 (P:Go.Program):Known:=(kf8 P).func 9 p9
theorem kf9_ok:KnownOk Go.Proofs.Try.prog (kf9 Go.Proofs.Try.prog):=kf8_ok.func ok9

/-! ductility/ductilitybase.CopyInts -/

abbrev as49:List Ty:=[(.slice (.int .i64))]
abbrev rs49:List Ty:=[(.slice (.int .i64))]

def t49 (x0:(List Int)):Tr (Tys.data rs49) :=
  Tr.test ((Nat.beq (List.length x0) (0:Nat):Bool))
    (Tr.fin ((([]:List Int),())))
    (Tr.test (Nat.ble ((0:Nat) + List.length x0) (0:Nat))
      (Tr.stop)
      (Tr.test ((Nat.ble (((2:Nat) * ((0:Nat) + List.length x0) + (192:Nat)) * (8:Nat)) (281474976710656:Nat) && Nat.ble ((0:Nat) + List.length x0) (281474976710656:Nat):Bool))
        (Tr.test ((Nat.beq ((0:Nat) + List.length x0) (List.length ([]++x0)):Bool))
          (Tr.fin ((([]++x0:List Int),())))
          (Tr.stop))
        (Tr.stop)))

def f49 (d:Tys.data as49):Option (Tys.data rs49):=(t49 d.1).val
def g49 (d:Tys.data as49):Tys.data rs49:=(f49 d).getD (Tys.dflt rs49)
def p49:PureC:=pcOf as49 rs49 f49 g49

theorem wk49 (x0:(List Int)):Walks (runPure (kf9 Go.Proofs.Try.prog).orc Go.Proofs.Try.prog 400 49 as49 rs49 (x0,())) (t49 x0) [([tt],[2]),([false,false,true,true],[2,4,6,8])] :=
  ⟨by kernel_rfl,by kernel_rfl,trivial⟩

theorem ok49_t (x0:(List Int)):TrOk (PureRuns Go.Proofs.Try.prog (kf9 Go.Proofs.Try.prog).orc 49 as49 rs49 (x0,())) (t49 x0) :=
  Walks.ok (fun _ _ _=>PureRuns.of) (wk49 x0) (by kernel_rfl)

theorem ok49:PureOk Go.Proofs.Try.prog 49 p49:=pureOk_of kf9_ok.base (T:=fun (d:Tys.data as49)=>t49 d.1) (by kernel_rfl) (fun (d:Tys.data as49)=>ok49_t d.1)
def kf49 (P:Go.Program):Known:=(kf9 P).func 49 p49
theorem kf49_ok:KnownOk Go.Proofs.Try.prog (kf49 Go.Proofs.Try.prog):=kf9_ok.func ok49

/-! ductility/ductilityref06.Copy -/

abbrev as11:List Ty:=[(.pair (.slice (.int .i64)) (.pair (.slice (.int .i64)) .unit))]
abbrev rs11:List Ty:=[(.pair (.slice (.int .i64)) (.pair (.slice (.int .i64)) .unit))]

def t11 (x0:(List Int)) (x0':(List Int)):Tr (Tys.data rs11) :=
  Tr.test (Option.isSome (f49 (x0,())))
    (Tr.test (Option.isSome (f49 (x0',())))
      (let r0:=g49 (x0,());
      let r1:=g49 (x0',());
      Tr.fin (((r0.1,(r1.1,())),())))
      (Tr.stop))
    (Tr.stop)

def f11 (d:Tys.data as11):Option (Tys.data rs11):=(t11 d.1.1 d.1.2.1).val
def g11 (d:Tys.data as11):Tys.data rs11:=(f11 d).getD (Tys.dflt rs11)
def p11:PureC:=pcOf as11 rs11 f11 g11

theorem wk11 (x0:(List Int)) (x0':(List Int)):Walks (runPure (kf49 Go.Proofs.Try.prog).orc Go.Proofs.Try.prog 400 11 as11 rs11 ((x0,x0',()),())) (t11 x0 x0') [([true,true],[2,4])] :=
  ⟨by kernel_rfl,trivial⟩

theorem ok11_t (x0:(List Int)) (x0':(List Int)):TrOk (PureRuns Go.Proofs.Try.prog (kf49 Go.Proofs.Try.prog).orc 11 as11 rs11 ((x0,x0',()),())) (t11 x0 x0') :=
  Walks.ok (fun _ _ _=>PureRuns.of) (wk11 x0 x0') (by kernel_rfl)

theorem ok11:PureOk Go.Proofs.Try.prog 11 p11:=pureOk_of kf49_ok.base (T:=fun (d:Tys.data as11)=>t11 d.1.1 d.1.2.1) (by kernel_rfl) (fun (d:Tys.data as11)=>ok11_t d.1.1 d.1.2.1)
def kf11 (P:Go.Program):Known:=(kf49 P).func 11 p11
theorem kf11_ok:KnownOk Go.Proofs.Try.prog (kf11 Go.Proofs.Try.prog):=kf49_ok.func ok11

/-! ductility/modal.isLowest -/

abbrev as79:List Ty:=[(.pair (.int .i64) (.pair (.int .i64) .unit))]
abbrev rs79:List Ty:=[.bool]

def t79 (x0:Int) (x0':Int):Tr (Tys.data rs79) :=
  Tr.test ((!leF x0' 0:Bool))
    (Tr.test (Option.isSome (f107 (x0',(([x0]:List Int),()))))
      (let r0:=g107 (x0',(([x0]:List Int),()));
      Tr.fin (((eqF r0.1 1:Bool),())))
      (Tr.stop))
    (Tr.fin ((false,())))

def f79 (d:Tys.data as79):Option (Tys.data rs79):=(t79 d.1.1 d.1.2.1).val
def g79 (d:Tys.data as79):Tys.data rs79:=(f79 d).getD (Tys.dflt rs79)
def p79:PureC:=pcOf as79 rs79 f79 g79

theorem wk79 (x0:Int) (x0':Int):Walks (runPure (kf11 Go.Proofs.Try.prog).orc Go.Proofs.Try.prog 400 79 as79 rs79 ((x0,x0',()),())) (t79 x0 x0') [([true,true],[4,4,2,1,4,4,4,4,4,4]),([ff],[2,2,2,2,2,2,2,2])] :=
  ⟨by kernel_rfl,by kernel_rfl,trivial⟩

theorem ok79_t (x0:Int) (x0':Int):TrOk (PureRuns Go.Proofs.Try.prog (kf11 Go.Proofs.Try.prog).orc 79 as79 rs79 ((x0,x0',()),())) (t79 x0 x0') :=
  Walks.ok (fun _ _ _=>PureRuns.of) (wk79 x0 x0') (by kernel_rfl)

theorem ok79:PureOk Go.Proofs.Try.prog 79 p79:=pureOk_of kf11_ok.base (T:=fun (d:Tys.data as79)=>t79 d.1.1 d.1.2.1) (by kernel_rfl) (fun (d:Tys.data as79)=>ok79_t d.1.1 d.1.2.1)
def kf79 (P:Go.Program):Known:=(kf11 P).func 79 p79
theorem kf79_ok:KnownOk Go.Proofs.Try.prog (kf79 Go.Proofs.Try.prog):=kf11_ok.func ok79

/-! ductility/modal.squareError -/

abbrev as47:List Ty:=[(.pair (.int .i64) (.pair (.int .i64) .unit))]
abbrev rs47:List Ty:=[(.int .i64)]

def t47 (x0:Int) (x0':Int):Tr (Tys.data rs47) :=
  Tr.test (Option.isSome (f79 ((x0,(x0',())),())))
    (let r0:=g79 ((x0,(x0',())),());
    Tr.test (Option.isSome (f52 ((!r0.1:Bool),((3:Int),()))))
      (Tr.test (Option.isSome (f80 ((100:Int),(([x0,x0']:List Int),()))))
        (let r1:=g52 ((!r0.1:Bool),((3:Int),()));
        let r2:=g80 ((100:Int),(([x0,x0']:List Int),()));
        Tr.test (Option.isSome (f72 (([r1.1,r2.1]:List Int),())))
          (let r3:=g72 (([r1.1,r2.1]:List Int),());
          Tr.fin ((r3.1,())))
          (Tr.stop))
        (Tr.stop))
      (Tr.stop))
    (Tr.stop)

def f47 (d:Tys.data as47):Option (Tys.data rs47):=(t47 d.1.1 d.1.2.1).val
def g47 (d:Tys.data as47):Tys.data rs47:=(f47 d).getD (Tys.dflt rs47)
def p47:PureC:=pcOf as47 rs47 f47 g47

theorem wk47 (x0:Int) (x0':Int):Walks (runPure (kf79 Go.Proofs.Try.prog).orc Go.Proofs.Try.prog 400 47 as47 rs47 ((x0,x0',()),())) (t47 x0 x0') [([true,true,true,true],[2,1,4,1,6,8])] :=
  ⟨by kernel_rfl,trivial⟩

theorem ok47_t (x0:Int) (x0':Int):TrOk (PureRuns Go.Proofs.Try.prog (kf79 Go.Proofs.Try.prog).orc 47 as47 rs47 ((x0,x0',()),())) (t47 x0 x0') :=
  Walks.ok (fun _ _ _=>PureRuns.of) (wk47 x0 x0') (by kernel_rfl)

theorem ok47:PureOk Go.Proofs.Try.prog 47 p47:=pureOk_of kf79_ok.base (T:=fun (d:Tys.data as47)=>t47 d.1.1 d.1.2.1) (by kernel_rfl) (fun (d:Tys.data as47)=>ok47_t d.1.1 d.1.2.1)
def kf47 (P:Go.Program):Known:=(kf79 P).func 47 p47
theorem kf47_ok:KnownOk Go.Proofs.Try.prog (kf47 Go.Proofs.Try.prog):=kf79_ok.func ok47

/-! ductility/modal.CountBelow -/

abbrev as10:List Ty:=[(.pair (.slice (.int .i64)) (.pair (.slice (.int .i64)) .unit)),(.pair (.int .i64) (.pair (.int .i64) .unit))]
abbrev rs10:List Ty:=[(.int .i64),(.int .i64)]

def t10 (x0:(List Int)) (x0':(List Int)) (x1:Int) (x1':Int):Tr (Tys.data rs10) :=
  Tr.test (Option.isSome (f47 ((x1,(x1',())),())))
    (Tr.test (Option.isSome (f78 ((x0,(x0',())),())))
      (let r0:=g47 ((x1,(x1',())),());
      Tr.test (Option.isSome (f72 (([r0.1]:List Int),())))
        (let r1:=g78 ((x0,(x0',())),());
        let r2:=g72 (([r0.1]:List Int),());
        Tr.test (Option.isSome (f72 (([r1.2.1,r2.1]:List Int),())))
          (let r3:=g72 (([r1.2.1,r2.1]:List Int),());
          Tr.test ((!eqF r3.1 0:Bool))
            (Tr.fin (((0:Int),(r3.1,()))))
            (Tr.test (Option.isSome (f48 (((x0,(x0',())),()),((x1,(x1',())),()))))
              (let r4:=g48 (((x0,(x0',())),()),((x1,(x1',())),()));
              Tr.fin ((r4.1,((0:Int),()))))
              (Tr.stop)))
          (Tr.stop))
        (Tr.stop))
      (Tr.stop))
    (Tr.stop)

def f10 (d:Tys.data as10):Option (Tys.data rs10):=(t10 d.1.1 d.1.2.1 d.2.1.1 d.2.1.2.1).val
def g10 (d:Tys.data as10):Tys.data rs10:=(f10 d).getD (Tys.dflt rs10)
def p10:PureC:=pcOf as10 rs10 f10 g10

theorem wk10 (x0:(List Int)) (x0':(List Int)) (x1:Int) (x1':Int):Walks (runPure (kf47 Go.Proofs.Try.prog).orc Go.Proofs.Try.prog 400 10 as10 rs10 ((x0,x0',()),(x1,x1',()),())) (t10 x0 x0' x1 x1') [([true,true,true,true,true],[2,2,4,1,6,1,8,10]),([true,true,true,true,false,true],[2,0,4,6,1,8,1,10,12])] :=
  ⟨by kernel_rfl,by kernel_rfl,trivial⟩

theorem ok10_t (x0:(List Int)) (x0':(List Int)) (x1:Int) (x1':Int):TrOk (PureRuns Go.Proofs.Try.prog (kf47 Go.Proofs.Try.prog).orc 10 as10 rs10 ((x0,x0',()),(x1,x1',()),())) (t10 x0 x0' x1 x1') :=
  Walks.ok (fun _ _ _=>PureRuns.of) (wk10 x0 x0' x1 x1') (by kernel_rfl)

theorem ok10:PureOk Go.Proofs.Try.prog 10 p10:=pureOk_of kf47_ok.base (T:=fun (d:Tys.data as10)=>t10 d.1.1 d.1.2.1 d.2.1.1 d.2.1.2.1) (by kernel_rfl) (fun (d:Tys.data as10)=>ok10_t d.1.1 d.1.2.1 d.2.1.1 d.2.1.2.1)
def kf10 (P:Go.Program):Known:=(kf47 P).func 10 p10
theorem kf10_ok:KnownOk Go.Proofs.Try.prog (kf10 Go.Proofs.Try.prog):=kf47_ok.func ok10

/-! ductility/modal.IsMode -/

abbrev as12:List Ty:=[(.pair (.slice (.int .i64)) (.pair (.slice (.int .i64)) .unit)),(.pair (.int .i64) (.pair (.int .i64) .unit))]
abbrev rs12:List Ty:=[.bool,(.int .i64)]

def t12 (x0:(List Int)) (x0':(List Int)) (x1:Int) (x1':Int):Tr (Tys.data rs12) :=
  Tr.test (Option.isSome (f47 ((x1,(x1',())),())))
    (Tr.test (Option.isSome (f78 ((x0,(x0',())),())))
      (let r0:=g47 ((x1,(x1',())),());
      Tr.test (Option.isSome (f72 (([r0.1]:List Int),())))
        (let r1:=g78 ((x0,(x0',())),());
        let r2:=g72 (([r0.1]:List Int),());
        Tr.test (Option.isSome (f72 (([r1.2.1,r2.1]:List Int),())))
          (let r3:=g72 (([r1.2.1,r2.1]:List Int),());
          Tr.test ((!eqF r3.1 0:Bool))
            (Tr.fin (((false:Bool),(r3.1,()))))
            (Tr.test (Option.isSome (f50 (((x0,(x0',())),()),((x1,(x1',())),()))))
              (let r4:=g50 (((x0,(x0',())),()),((x1,(x1',())),()));
              Tr.fin ((r4.1,((0:Int),()))))
              (Tr.stop)))
          (Tr.stop))
        (Tr.stop))
      (Tr.stop))
    (Tr.stop)

def f12 (d:Tys.data as12):Option (Tys.data rs12):=(t12 d.1.1 d.1.2.1 d.2.1.1 d.2.1.2.1).val
def g12 (d:Tys.data as12):Tys.data rs12:=(f12 d).getD (Tys.dflt rs12)
def p12:PureC:=pcOf as12 rs12 f12 g12

theorem wk12 (x0:(List Int)) (x0':(List Int)) (x1:Int) (x1':Int):Walks (runPure (kf10 Go.Proofs.Try.prog).orc Go.Proofs.Try.prog 400 12 as12 rs12 ((x0,x0',()),(x1,x1',()),())) (t12 x0 x0' x1 x1') [([true,true,true,true,true],[2,2,4,1,6,1,8,10]),([true,true,true,true,false,true],[2,0,4,6,1,8,1,10,12])] :=
  ⟨by kernel_rfl,by kernel_rfl,trivial⟩

theorem ok12_t (x0:(List Int)) (x0':(List Int)) (x1:Int) (x1':Int):TrOk (PureRuns Go.Proofs.Try.prog (kf10 Go.Proofs.Try.prog).orc 12 as12 rs12 ((x0,x0',()),(x1,x1',()),())) (t12 x0 x0' x1 x1') :=
  Walks.ok (fun _ _ _=>PureRuns.of) (wk12 x0 x0' x1 x1') (by kernel_rfl)

theorem ok12:PureOk Go.Proofs.Try.prog 12 p12:=pureOk_of kf10_ok.base (T:=fun (d:Tys.data as12)=>t12 d.1.1 d.1.2.1 d.2.1.1 d.2.1.2.1) (by kernel_rfl) (fun (d:Tys.data as12)=>ok12_t d.1.1 d.1.2.1 d.2.1.1 d.2.1.2.1)
def kf12 (P:Go.Program):Known:=(kf10 P).func 12 p12
theorem kf12_ok:KnownOk Go.Proofs.Try.prog (kf12 Go.Proofs.Try.prog):=kf10_ok.func ok12

/-! ductility/ductilitybase.Within -/

abbrev as21:List Ty:=[(.int .i64),(.int .i64),(.int .i64)]
abbrev rs21:List Ty:=[.bool]

def t21 (x0:Int) (x1:Int) (x2:Int):Tr (Tys.data rs21) :=
  Tr.test ((leF x1 x0:Bool))
    (Tr.fin ((leF x0 x2,())))
    (Tr.fin ((false,())))

def f21 (d:Tys.data as21):Option (Tys.data rs21):=(t21 d.1 d.2.1 d.2.2.1).val
def g21 (d:Tys.data as21):Tys.data rs21:=(f21 d).getD (Tys.dflt rs21)
def p21:PureC:=pcOf as21 rs21 f21 g21

theorem wk21 (x0:Int) (x1:Int) (x2:Int):Walks (runPure (kf12 Go.Proofs.Try.prog).orc Go.Proofs.Try.prog 400 21 as21 rs21 (x0,x1,x2,())) (t21 x0 x1 x2) [([tt],[2,2,2,2]),([ff],[2,2,2,2])] :=
  ⟨by kernel_rfl,by kernel_rfl,trivial⟩

theorem ok21_t (x0:Int) (x1:Int) (x2:Int):TrOk (PureRuns Go.Proofs.Try.prog (kf12 Go.Proofs.Try.prog).orc 21 as21 rs21 (x0,x1,x2,())) (t21 x0 x1 x2) :=
  Walks.ok (fun _ _ _=>PureRuns.of) (wk21 x0 x1 x2) (by kernel_rfl)

theorem ok21:PureOk Go.Proofs.Try.prog 21 p21:=pureOk_of kf12_ok.base (T:=fun (d:Tys.data as21)=>t21 d.1 d.2.1 d.2.2.1) (by kernel_rfl) (fun (d:Tys.data as21)=>ok21_t d.1 d.2.1 d.2.2.1)
def kf21 (P:Go.Program):Known:=(kf12 P).func 21 p21
theorem kf21_ok:KnownOk Go.Proofs.Try.prog (kf21 Go.Proofs.Try.prog):=kf12_ok.func ok21

/-! loop 0 of ductility/ductilityref06.CheckFrame -/

abbrev sh55_0:Sh:={ n:=46,slots:=[1,4],pats:=[.ptr 0 2 0,.ty (.int .i64)],boxes:=[.row [.ty (.slice (.int .i64)),.ty (.slice (.int .i64))]] }
abbrev shb55_0:Sh:={ n:=46,slots:=[],pats:=[],boxes:=[.row [.ty (.slice (.int .i64)),.ty (.slice (.int .i64))]] }
abbrev shr55_0:Sh:={ n:=46,slots:=[2,3],pats:=[.ty (.int .i64),.ty (.int .i64)],boxes:=[.row [.ty (.slice (.int .i64)),.ty (.slice (.int .i64))]] }

def t55_0 (x1:Int) (b0_0:(List Int)) (b0_1:(List Int)):Tr (Out sh55_0.data shb55_0.data shr55_0.data) :=
  Tr.test ((!leF (↑(List.length b0_0):Int) x1:Bool))
    (Tr.test (decide ((0:Int) ≤ x1) && decide (x1 < (↑(List.length b0_0):Int)))
      (Tr.test (Option.isSome (f21 ((List.getD b0_0 (Int.toNat x1) (0:Int):Int),((1:Int),((10:Int),())))))
        (let r0:=g21 ((List.getD b0_0 (Int.toNat x1) (0:Int):Int),((1:Int),((10:Int),())));
        Tr.test ((!r0.1:Bool))
          (Tr.fin (.ret ((x1,((2:Int),())),((b0_0,(b0_1,())),()))))
          (Tr.test ((decide ((0:Int) ≤ x1) && decide (x1 < (↑(List.length b0_1):Int)):Bool))
            (Tr.test (Option.isSome (f21 ((List.getD b0_1 (Int.toNat x1) (0:Int):Int),((1:Int),((20:Int),())))))
              (let r1:=g21 ((List.getD b0_1 (Int.toNat x1) (0:Int):Int),((1:Int),((20:Int),())));
              Tr.test ((!r1.1:Bool))
                (Tr.fin (.ret ((x1,((2:Int),())),((b0_0,(b0_1,())),()))))
                (Tr.fin (.again (((wrap64 (x1 + (1:Int)):Int),()),((b0_0,(b0_1,())),())))))
              (Tr.stop))
            (Tr.stop)))
        (Tr.stop))
      (Tr.stop))
    (Tr.fin (.brk ((),((b0_0,(b0_1,())),()))))

def s55_0 (d:sh55_0.data):Option (Out sh55_0.data shb55_0.data shr55_0.data):=(t55_0 d.1.1 d.2.1.1 d.2.1.2.1).val
def l55_0 (d:sh55_0.data):Option (shb55_0.data ⊕ shr55_0.data):=itr s55_0 rounds d
def b55_0 (d:sh55_0.data):shb55_0.data:=outB shb55_0.dflt (l55_0 d)
def r55_0 (d:sh55_0.data):shr55_0.data:=outR shr55_0.dflt (l55_0 d)
def lc55_0:LoopC:=lcOf sh55_0 shb55_0 shr55_0 l55_0 b55_0 r55_0

theorem wk55_0 (x1:Int) (b0_0:(List Int)) (b0_1:(List Int)):Walks (runBody (kf21 Go.Proofs.Try.prog).orc Go.Proofs.Try.prog 400 55 0 sh55_0 shb55_0 shr55_0 ((x1,()),(b0_0,b0_1,()),())) (t55_0 x1 b0_0 b0_1) [([true,true,true,true],[1,2,2,2,2,2,2,2,2,4,6,8]),([true,true,true,false,true,true,true],[2,8,8,4,8,8,6,8,8,8,8,10,12,14]),([true,true,true,false,true,true,false],[2,8,8,4,8,8,6,8,8,8,8,10,12,14]),([ff],[2])] :=
  ⟨by kernel_rfl,by kernel_rfl,by kernel_rfl,by kernel_rfl,trivial⟩

theorem ok55_0_t (x1:Int) (b0_0:(List Int)) (b0_1:(List Int)):TrOk (BodyRuns Go.Proofs.Try.prog (kf21 Go.Proofs.Try.prog).orc 55 0 sh55_0 shb55_0 shr55_0 ((x1,()),(b0_0,b0_1,()),())) (t55_0 x1 b0_0 b0_1) :=
  Walks.ok (fun _ _ _=>BodyRuns.of) (wk55_0 x1 b0_0 b0_1) (by kernel_rfl)

theorem ok55_0:LoopOk Go.Proofs.Try.prog 55 0 lc55_0:=loopOk_of (sh:=sh55_0) (shB:=shb55_0) (shR:=shr55_0) kf21_ok.base (T:=fun (d:sh55_0.data)=>t55_0 d.1.1 d.2.1.1 d.2.1.2.1) (by kernel_rfl) rfl (fun (d:sh55_0.data)=>ok55_0_t d.1.1 d.2.1.1 d.2.1.2.1) (fun _=>rfl)
def kl55_0 (P:Go.Program):Known:=(kf21 P).loop 55 0 lc55_0
theorem kl55_0_ok:KnownOk Go.Proofs.Try.prog (kl55_0 Go.Proofs.Try.prog):=kf21_ok.loop ok55_0

/-! ductility/ductilityref06.CheckFrame -/

abbrev as55:List Ty:=[(.pair (.slice (.int .i64)) (.pair (.slice (.int .i64)) .unit))]
abbrev rs55:List Ty:=[(.int .i64),(.int .i64)]

def t55 (x0:(List Int)) (x0':(List Int)):Tr (Tys.data rs55) :=
  Tr.test ((eqF (↑(List.length x0):Int) (0:Int):Bool))
    (Tr.fin (((0:Int),((10:Int),()))))
    (Tr.test (!eqF (↑(List.length x0'):Int) (↑(List.length x0):Int))
      (Tr.fin (((0:Int),((10:Int),()))))
      (Tr.test ((!leF (↑(List.length x0):Int) (4:Int):Bool))
        (Tr.fin (((0:Int),((8:Int),()))))
        (Tr.test (Option.isSome (l55_0 (((0:Int),()),((x0,(x0',())),()))))
          (Tr.test (isRet (l55_0 (((0:Int),()),((x0,(x0',())),()))))
            (let r0:=r55_0 (((0:Int),()),((x0,(x0',())),()));
            Tr.fin ((r0.1.1,(r0.1.2.1,()))))
            (Tr.fin (((0:Int),((0:Int),())))))
          (Tr.stop))))

def f55 (d:Tys.data as55):Option (Tys.data rs55):=(t55 d.1.1 d.1.2.1).val
def g55 (d:Tys.data as55):Tys.data rs55:=(f55 d).getD (Tys.dflt rs55)
def p55:PureC:=pcOf as55 rs55 f55 g55

theorem wk55 (x0:(List Int)) (x0':(List Int)):Walks (runPure (kl55_0 Go.Proofs.Try.prog).orc Go.Proofs.Try.prog 400 55 as55 rs55 ((x0,x0',()),())) (t55 x0 x0') [([tt],[1,2,2,2,2,2,2,2,2]),([false,true],[2,4,4,4,4,4,4,4,4]),([false,false,true],[2,4,6,6,6,6,6,6,6,6]),([false,false,false,true,true],[2,4,6,8,10,10,10,10,10,10,10,10]),([false,false,false,true,false],[2,4,6,8,10,10,10,10,10,10,10,10])] :=
  ⟨by kernel_rfl,by kernel_rfl,by kernel_rfl,by kernel_rfl,by kernel_rfl,trivial⟩

theorem ok55_t (x0:(List Int)) (x0':(List Int)):TrOk (PureRuns Go.Proofs.Try.prog (kl55_0 Go.Proofs.Try.prog).orc 55 as55 rs55 ((x0,x0',()),())) (t55 x0 x0') :=
  Walks.ok (fun _ _ _=>PureRuns.of) (wk55 x0 x0') (by kernel_rfl)

theorem ok55:PureOk Go.Proofs.Try.prog 55 p55:=pureOk_of kl55_0_ok.base (T:=fun (d:Tys.data as55)=>t55 d.1.1 d.1.2.1) (by kernel_rfl) (fun (d:Tys.data as55)=>ok55_t d.1.1 d.1.2.1)
def kf55 (P:Go.Program):Known:=(kl55_0 P).func 55 p55
theorem kf55_ok:KnownOk Go.Proofs.Try.prog (kf55 Go.Proofs.Try.prog):=kl55_0_ok.func ok55

/-! ductility/ductilityref06.FrameErr -/

abbrev as14:List Ty:=[(.pair (.slice (.int .i64)) (.pair (.slice (.int .i64)) .unit))]
abbrev rs14:List Ty:=[(.int .i64)]

def t14 (x0:(List Int)) (x0':(List Int)):Tr (Tys.data rs14) :=
  Tr.test (Option.isSome (f55 ((x0,(x0',())),())))
    (let r0:=g55 ((x0,(x0',())),());
    Tr.fin ((r0.2.1,())))
    (Tr.stop)

def f14 (d:Tys.data as14):Option (Tys.data rs14):=(t14 d.1.1 d.1.2.1).val
def g14 (d:Tys.data as14):Tys.data rs14:=(f14 d).getD (Tys.dflt rs14)
def p14:PureC:=pcOf as14 rs14 f14 g14

theorem wk14 (x0:(List Int)) (x0':(List Int)):Walks (runPure (kf55 Go.Proofs.Try.prog).orc Go.Proofs.Try.prog 400 14 as14 rs14 ((x0,x0',()),())) (t14 x0 x0') [([tt],[2])] :=
  ⟨by kernel_rfl,trivial⟩

theorem ok14_t (x0:(List Int)) (x0':(List Int)):TrOk (PureRuns Go.Proofs.Try.prog (kf55 Go.Proofs.Try.prog).orc 14 as14 rs14 ((x0,x0',()),())) (t14 x0 x0') :=
  Walks.ok (fun _ _ _=>PureRuns.of) (wk14 x0 x0') (by kernel_rfl)

theorem ok14:PureOk Go.Proofs.Try.prog 14 p14:=pureOk_of kf55_ok.base (T:=fun (d:Tys.data as14)=>t14 d.1.1 d.1.2.1) (by kernel_rfl) (fun (d:Tys.data as14)=>ok14_t d.1.1 d.1.2.1)
def kf14 (P:Go.Program):Known:=(kf55 P).func 14 p14
theorem kf14_ok:KnownOk Go.Proofs.Try.prog (kf14 Go.Proofs.Try.prog):=kf55_ok.func ok14

/-! ductility/ductilitybase.Size -/

abbrev as94:List Ty:=[(.int .i64)]
abbrev rs94:List Ty:=[(.int .i64)]

def t94 (x0:Int):Tr (Tys.data rs94) :=
  Tr.fin (((if x0 < Go.IntKind.wrap Go.IntKind.i64 ((0:Int) - x0) then Go.IntKind.wrap Go.IntKind.i64 ((0:Int) - x0) else x0:Int),()))

def f94 (d:Tys.data as94):Option (Tys.data rs94):=(t94 d.1).val
def g94 (d:Tys.data as94):Tys.data rs94:=(f94 d).getD (Tys.dflt rs94)
def p94:PureC:=pcOf as94 rs94 f94 g94

theorem wk94 (x0:Int):Walks (runPure (kf14 Go.Proofs.Try.prog).orc Go.Proofs.Try.prog 400 94 as94 rs94 (x0,())) (t94 x0) [([],[])] :=
  ⟨by kernel_rfl,trivial⟩

theorem ok94_t (x0:Int):TrOk (PureRuns Go.Proofs.Try.prog (kf14 Go.Proofs.Try.prog).orc 94 as94 rs94 (x0,())) (t94 x0) :=
  Walks.ok (fun _ _ _=>PureRuns.of) (wk94 x0) (by kernel_rfl)

theorem ok94:PureOk Go.Proofs.Try.prog 94 p94:=pureOk_of kf14_ok.base (T:=fun (d:Tys.data as94)=>t94 d.1) (by kernel_rfl) (fun (d:Tys.data as94)=>ok94_t d.1)
def kf94 (P:Go.Program):Known:=(kf14 P).func 94 p94
theorem kf94_ok:KnownOk Go.Proofs.Try.prog (kf94 Go.Proofs.Try.prog):=kf14_ok.func ok94

/-! loop 0 of ductility/ductilitybase.Gcd -/

abbrev sh87_0:Sh:={ n:=13,slots:=[0,1],pats:=[.ty (.int .i64),.ty (.int .i64)],boxes:=[] }
abbrev shb87_0:Sh:={ n:=13,slots:=[0],pats:=[.ty (.int .i64)],boxes:=[] }
abbrev shr87_0:Sh:={ n:=13,slots:=[],pats:=[],boxes:=[] }

def t87_0 (x0:Int) (x1:Int):Tr (Out sh87_0.data shb87_0.data shr87_0.data) :=
  Tr.test ((!eqF x1 0:Bool))
    (Tr.test (x1 == (0:Int))
      (Tr.stop)
      (Tr.fin (.again ((x1,((Int.tmod x0 x1:Int),())),()))))
    (Tr.fin (.brk ((x0,()),())))

def s87_0 (d:sh87_0.data):Option (Out sh87_0.data shb87_0.data shr87_0.data):=(t87_0 d.1.1 d.1.2.1).val
def l87_0 (d:sh87_0.data):Option (shb87_0.data ⊕ shr87_0.data):=itr s87_0 rounds d
def b87_0 (d:sh87_0.data):shb87_0.data:=outB shb87_0.dflt (l87_0 d)
def lc87_0:LoopC:=lcB sh87_0 shb87_0 shr87_0 l87_0 b87_0

theorem wk87_0 (x0:Int) (x1:Int):Walks (runBody (kf94 Go.Proofs.Try.prog).orc Go.Proofs.Try.prog 400 87 0 sh87_0 shb87_0 shr87_0 ((x0,x1,()),())) (t87_0 x0 x1) [([true,false],[2,4]),([ff],[2])] :=
  ⟨by kernel_rfl,by kernel_rfl,trivial⟩

theorem ok87_0_t (x0:Int) (x1:Int):TrOk (BodyRuns Go.Proofs.Try.prog (kf94 Go.Proofs.Try.prog).orc 87 0 sh87_0 shb87_0 shr87_0 ((x0,x1,()),())) (t87_0 x0 x1) :=
  Walks.ok (fun _ _ _=>BodyRuns.of) (wk87_0 x0 x1) (by kernel_rfl)

theorem ok87_0:LoopOk Go.Proofs.Try.prog 87 0 lc87_0:=loopOk_ofB (sh:=sh87_0) (shB:=shb87_0) (shR:=shr87_0) kf94_ok.base (T:=fun (d:sh87_0.data)=>t87_0 d.1.1 d.1.2.1) (by kernel_rfl) rfl (fun (d:sh87_0.data)=>ok87_0_t d.1.1 d.1.2.1) (fun _=>rfl)
def kl87_0 (P:Go.Program):Known:=(kf94 P).loop 87 0 lc87_0
theorem kl87_0_ok:KnownOk Go.Proofs.Try.prog (kl87_0 Go.Proofs.Try.prog):=kf94_ok.loop ok87_0

/-! ductility/ductilitybase.Gcd -/

abbrev as87:List Ty:=[(.int .i64),(.int .i64)]
abbrev rs87:List Ty:=[(.int .i64)]

def t87 (x0:Int) (x1:Int):Tr (Tys.data rs87) :=
  Tr.test (isBrk (l87_0 ((x0,(x1,())),())))
    (let r0:=b87_0 ((x0,(x1,())),());
    Tr.test (Option.isSome (f94 (r0.1.1,())))
      (let r1:=g94 (r0.1.1,());
      Tr.fin ((r1.1,())))
      (Tr.stop))
    (Tr.stop)

def f87 (d:Tys.data as87):Option (Tys.data rs87):=(t87 d.1 d.2.1).val
def g87 (d:Tys.data as87):Tys.data rs87:=(f87 d).getD (Tys.dflt rs87)
def p87:PureC:=pcOf as87 rs87 f87 g87

theorem wk87 (x0:Int) (x1:Int):Walks (runPure (kl87_0 Go.Proofs.Try.prog).orc Go.Proofs.Try.prog 400 87 as87 rs87 (x0,x1,())) (t87 x0 x1) [([true,true],[2,1,4])] :=
  ⟨by kernel_rfl,trivial⟩

theorem ok87_t (x0:Int) (x1:Int):TrOk (PureRuns Go.Proofs.Try.prog (kl87_0 Go.Proofs.Try.prog).orc 87 as87 rs87 (x0,x1,())) (t87 x0 x1) :=
  Walks.ok (fun _ _ _=>PureRuns.of) (wk87 x0 x1) (by kernel_rfl)

theorem ok87:PureOk Go.Proofs.Try.prog 87 p87:=pureOk_of kl87_0_ok.base (T:=fun (d:Tys.data as87)=>t87 d.1 d.2.1) (by kernel_rfl) (fun (d:Tys.data as87)=>ok87_t d.1 d.2.1)
def kf87 (P:Go.Program):Known:=(kl87_0 P).func 87 p87
theorem kf87_ok:KnownOk Go.Proofs.Try.prog (kf87 Go.Proofs.Try.prog):=kl87_0_ok.func ok87

/-! ductility/ductilitybase.IsLowest -/

abbrev as56:List Ty:=[(.pair (.int .i64) (.pair (.int .i64) .unit))]
abbrev rs56:List Ty:=[.bool]

def t56 (x0:Int) (x0':Int):Tr (Tys.data rs56) :=
  Tr.test ((!leF x0' 0:Bool))
    (Tr.test (Option.isSome (f87 (x0,(x0',()))))
      (let r0:=g87 (x0,(x0',()));
      Tr.fin (((eqF r0.1 1:Bool),())))
      (Tr.stop))
    (Tr.fin ((false,())))

def f56 (d:Tys.data as56):Option (Tys.data rs56):=(t56 d.1.1 d.1.2.1).val
def g56 (d:Tys.data as56):Tys.data rs56:=(f56 d).getD (Tys.dflt rs56)
def p56:PureC:=pcOf as56 rs56 f56 g56

theorem wk56 (x0:Int) (x0':Int):Walks (runPure (kf87 Go.Proofs.Try.prog).orc Go.Proofs.Try.prog 400 56 as56 rs56 ((x0,x0',()),())) (t56 x0 x0') [([true,true],[4,4,2,4,4,4,4,4]),([ff],[2,2,2,2,2,2,2])] :=
  ⟨by kernel_rfl,by kernel_rfl,trivial⟩

theorem ok56_t (x0:Int) (x0':Int):TrOk (PureRuns Go.Proofs.Try.prog (kf87 Go.Proofs.Try.prog).orc 56 as56 rs56 ((x0,x0',()),())) (t56 x0 x0') :=
  Walks.ok (fun _ _ _=>PureRuns.of) (wk56 x0 x0') (by kernel_rfl)

theorem ok56:PureOk Go.Proofs.Try.prog 56 p56:=pureOk_of kf87_ok.base (T:=fun (d:Tys.data as56)=>t56 d.1.1 d.1.2.1) (by kernel_rfl) (fun (d:Tys.data as56)=>ok56_t d.1.1 d.1.2.1)
def kf56 (P:Go.Program):Known:=(kf87 P).func 56 p56
theorem kf56_ok:KnownOk Go.Proofs.Try.prog (kf56 Go.Proofs.Try.prog):=kf87_ok.func ok56

/-! ductility/ductilityref06.SquareErr -/

abbrev as16:List Ty:=[(.pair (.int .i64) (.pair (.int .i64) .unit))]
abbrev rs16:List Ty:=[(.int .i64)]

def t16 (x0:Int) (x0':Int):Tr (Tys.data rs16) :=
  Tr.test (Option.isSome (f56 ((x0,(x0',())),())))
    (let r0:=g56 ((x0,(x0',())),());
    Tr.test ((!r0.1:Bool))
      (Tr.fin (((3:Int),())))
      (Tr.test (Option.isSome (f21 (x0,((-100:Int),((100:Int),())))))
        (let r1:=g21 (x0,((-100:Int),((100:Int),())));
        Tr.test ((!r1.1:Bool))
          (Tr.fin (((2:Int),())))
          (Tr.test ((!leF x0' 100:Bool))
            (Tr.fin (((2:Int),())))
            (Tr.fin (((0:Int),())))))
        (Tr.stop)))
    (Tr.stop)

def f16 (d:Tys.data as16):Option (Tys.data rs16):=(t16 d.1.1 d.1.2.1).val
def g16 (d:Tys.data as16):Tys.data rs16:=(f16 d).getD (Tys.dflt rs16)
def p16:PureC:=pcOf as16 rs16 f16 g16

theorem wk16 (x0:Int) (x0':Int):Walks (runPure (kf56 Go.Proofs.Try.prog).orc Go.Proofs.Try.prog 400 16 as16 rs16 ((x0,x0',()),())) (t16 x0 x0') [([true,true],[2,4]),([true,false,true,true],[1,2,2,2,2,4,6,8]),([true,false,true,false,true],[2,4,4,4,4,6,8,10]),([true,false,true,false,false],[2,4,4,4,4,6,8,10])] :=
  ⟨by kernel_rfl,by kernel_rfl,by kernel_rfl,by kernel_rfl,trivial⟩

theorem ok16_t (x0:Int) (x0':Int):TrOk (PureRuns Go.Proofs.Try.prog (kf56 Go.Proofs.Try.prog).orc 16 as16 rs16 ((x0,x0',()),())) (t16 x0 x0') :=
  Walks.ok (fun _ _ _=>PureRuns.of) (wk16 x0 x0') (by kernel_rfl)

theorem ok16:PureOk Go.Proofs.Try.prog 16 p16:=pureOk_of kf56_ok.base (T:=fun (d:Tys.data as16)=>t16 d.1.1 d.1.2.1) (by kernel_rfl) (fun (d:Tys.data as16)=>ok16_t d.1.1 d.1.2.1)
def kf16 (P:Go.Program):Known:=(kf56 P).func 16 p16
theorem kf16_ok:KnownOk Go.Proofs.Try.prog (kf16 Go.Proofs.Try.prog):=kf56_ok.func ok16

/-! ductility/ductilitylaw06.both -/

abbrev as15:List Ty:=[(.int .i64),(.int .i64)]
abbrev rs15:List Ty:=[(.int .i64)]

def t15 (x0:Int) (x1:Int):Tr (Tys.data rs15) :=
  Tr.test ((!eqF x0 0:Bool))
    (Tr.fin ((x0,())))
    (Tr.fin ((x1,())))

def f15 (d:Tys.data as15):Option (Tys.data rs15):=(t15 d.1 d.2.1).val
def g15 (d:Tys.data as15):Tys.data rs15:=(f15 d).getD (Tys.dflt rs15)
def p15:PureC:=pcOf as15 rs15 f15 g15

theorem wk15 (x0:Int) (x1:Int):Walks (runPure (kf16 Go.Proofs.Try.prog).orc Go.Proofs.Try.prog 400 15 as15 rs15 (x0,x1,())) (t15 x0 x1) [([tt],[2]),([ff],[2])] :=
  ⟨by kernel_rfl,by kernel_rfl,trivial⟩

theorem ok15_t (x0:Int) (x1:Int):TrOk (PureRuns Go.Proofs.Try.prog (kf16 Go.Proofs.Try.prog).orc 15 as15 rs15 (x0,x1,())) (t15 x0 x1) :=
  Walks.ok (fun _ _ _=>PureRuns.of) (wk15 x0 x1) (by kernel_rfl)

theorem ok15:PureOk Go.Proofs.Try.prog 15 p15:=pureOk_of kf16_ok.base (T:=fun (d:Tys.data as15)=>t15 d.1 d.2.1) (by kernel_rfl) (fun (d:Tys.data as15)=>ok15_t d.1 d.2.1)
def kf15 (P:Go.Program):Known:=(kf16 P).func 15 p15
theorem kf15_ok:KnownOk Go.Proofs.Try.prog (kf15 Go.Proofs.Try.prog):=kf16_ok.func ok15

/-! loop 0 of ductility/ductilitybase.trimmed -/

abbrev sh113_0:Sh:={ n:=21,slots:=[0,3],pats:=[.ty (.slice (.int .i64)),.ty (.int .i64)],boxes:=[] }
abbrev shb113_0:Sh:={ n:=21,slots:=[0,3],pats:=[.ty (.slice (.int .i64)),.ty (.int .i64)],boxes:=[] }
abbrev shr113_0:Sh:={ n:=21,slots:=[],pats:=[],boxes:=[] }

def t113_0 (x0:(List Int)) (x1:Int):Tr (Out sh113_0.data shb113_0.data shr113_0.data) :=
  Tr.test ((!leF x1 0:Bool))
    (Tr.test (decide ((0:Int) ≤ wrap64 (x1 - (1:Int))) && decide (wrap64 (x1 - (1:Int)) < (↑(List.length x0):Int)))
      (Tr.test ((eqF (List.getD x0 (Int.toNat (wrap64 (x1 - (1:Int)))) (0:Int)) (0:Int):Bool))
        (Tr.fin (.again ((x0,((wrap64 (x1 - (1:Int)):Int),())),())))
        (Tr.fin (.brk ((x0,(x1,())),()))))
      (Tr.stop))
    (Tr.fin (.brk ((x0,(x1,())),())))

def s113_0 (d:sh113_0.data):Option (Out sh113_0.data shb113_0.data shr113_0.data):=(t113_0 d.1.1 d.1.2.1).val
def l113_0 (d:sh113_0.data):Option (shb113_0.data ⊕ shr113_0.data):=itr s113_0 rounds d
def b113_0 (d:sh113_0.data):shb113_0.data:=outB shb113_0.dflt (l113_0 d)
def lc113_0:LoopC:=lcB sh113_0 shb113_0 shr113_0 l113_0 b113_0

theorem wk113_0 (x0:(List Int)) (x1:Int):Walks (runBody (kf15 Go.Proofs.Try.prog).orc Go.Proofs.Try.prog 400 113 0 sh113_0 shb113_0 shr113_0 ((x0,x1,()),())) (t113_0 x0 x1) [([true,true,true],[2,6,6,6,4,6,6,6,6]),([true,true,false],[2,6,6,6,4,6,6,6,6]),([ff],[0,2,2,2,2,2,2,2])] :=
  ⟨by kernel_rfl,by kernel_rfl,by kernel_rfl,trivial⟩

theorem ok113_0_t (x0:(List Int)) (x1:Int):TrOk (BodyRuns Go.Proofs.Try.prog (kf15 Go.Proofs.Try.prog).orc 113 0 sh113_0 shb113_0 shr113_0 ((x0,x1,()),())) (t113_0 x0 x1) :=
  Walks.ok (fun _ _ _=>BodyRuns.of) (wk113_0 x0 x1) (by kernel_rfl)

theorem ok113_0:LoopOk Go.Proofs.Try.prog 113 0 lc113_0:=loopOk_ofB (sh:=sh113_0) (shB:=shb113_0) (shR:=shr113_0) kf15_ok.base (T:=fun (d:sh113_0.data)=>t113_0 d.1.1 d.1.2.1) (by kernel_rfl) rfl (fun (d:sh113_0.data)=>ok113_0_t d.1.1 d.1.2.1) (fun _=>rfl)
def kl113_0 (P:Go.Program):Known:=(kf15 P).loop 113 0 lc113_0
theorem kl113_0_ok:KnownOk Go.Proofs.Try.prog (kl113_0 Go.Proofs.Try.prog):=kf15_ok.loop ok113_0

/-! ductility/ductilitybase.trimmed -/

abbrev as113:List Ty:=[(.slice (.int .i64))]
abbrev rs113:List Ty:=[(.slice (.int .i64))]

def t113 (x0:(List Int)):Tr (Tys.data rs113) :=
  Tr.test (isBrk (l113_0 ((x0,((↑(List.length x0):Int),())),())))
    (let r0:=b113_0 ((x0,((↑(List.length x0):Int),())),());
    Tr.test ((decide ((0:Int) ≤ r0.1.2.1) && decide (r0.1.2.1 ≤ (↑(List.length r0.1.1):Int)):Bool))
      (Tr.fin (((List.take (Int.toNat r0.1.2.1) r0.1.1:List Int),())))
      (Tr.stop))
    (Tr.stop)

def f113 (d:Tys.data as113):Option (Tys.data rs113):=(t113 d.1).val
def g113 (d:Tys.data as113):Tys.data rs113:=(f113 d).getD (Tys.dflt rs113)
def p113:PureC:=pcOf as113 rs113 f113 g113

theorem wk113 (x0:(List Int)):Walks (runPure (kl113_0 Go.Proofs.Try.prog).orc Go.Proofs.Try.prog 400 113 as113 rs113 (x0,())) (t113 x0) [([true,true],[2,1,4])] :=
  ⟨by kernel_rfl,trivial⟩

theorem ok113_t (x0:(List Int)):TrOk (PureRuns Go.Proofs.Try.prog (kl113_0 Go.Proofs.Try.prog).orc 113 as113 rs113 (x0,())) (t113 x0) :=
  Walks.ok (fun _ _ _=>PureRuns.of) (wk113 x0) (by kernel_rfl)

theorem ok113:PureOk Go.Proofs.Try.prog 113 p113:=pureOk_of kl113_0_ok.base (T:=fun (d:Tys.data as113)=>t113 d.1) (by kernel_rfl) (fun (d:Tys.data as113)=>ok113_t d.1)
def kf113 (P:Go.Program):Known:=(kl113_0 P).func 113 p113
theorem kf113_ok:KnownOk Go.Proofs.Try.prog (kf113 Go.Proofs.Try.prog):=kl113_0_ok.func ok113

/-! ductility/ductilitybase.wideOf -/

abbrev as95:List Ty:=[(.int .i64),(.slice (.int .i64))]
abbrev rs95:List Ty:=[(.pair (.int .i64) (.pair (.slice (.int .i64)) .unit))]

def t95 (x0:Int) (x1:(List Int)):Tr (Tys.data rs95) :=
  Tr.test (Option.isSome (f113 (x1,())))
    (let r0:=g113 (x1,());
    Tr.test ((eqF (↑(List.length r0.1):Int) (0:Int):Bool))
      (Tr.fin ((((0:Int),(r0.1,())),())))
      (Tr.fin (((x0,(r0.1,())),()))))
    (Tr.stop)

def f95 (d:Tys.data as95):Option (Tys.data rs95):=(t95 d.1 d.2.1).val
def g95 (d:Tys.data as95):Tys.data rs95:=(f95 d).getD (Tys.dflt rs95)
def p95:PureC:=pcOf as95 rs95 f95 g95

theorem wk95 (x0:Int) (x1:(List Int)):Walks (runPure (kf113 Go.Proofs.Try.prog).orc Go.Proofs.Try.prog 400 95 as95 rs95 (x0,x1,())) (t95 x0 x1) [([true,true],[2,4]),([true,false],[2,4])] :=
  ⟨by kernel_rfl,by kernel_rfl,trivial⟩

theorem ok95_t (x0:Int) (x1:(List Int)):TrOk (PureRuns Go.Proofs.Try.prog (kf113 Go.Proofs.Try.prog).orc 95 as95 rs95 (x0,x1,())) (t95 x0 x1) :=
  Walks.ok (fun _ _ _=>PureRuns.of) (wk95 x0 x1) (by kernel_rfl)

theorem ok95:PureOk Go.Proofs.Try.prog 95 p95:=pureOk_of kf113_ok.base (T:=fun (d:Tys.data as95)=>t95 d.1 d.2.1) (by kernel_rfl) (fun (d:Tys.data as95)=>ok95_t d.1 d.2.1)
def kf95 (P:Go.Program):Known:=(kf113 P).func 95 p95
theorem kf95_ok:KnownOk Go.Proofs.Try.prog (kf95 Go.Proofs.Try.prog):=kf113_ok.func ok95

/-! loop 0 of ductility/ductilitybase.WideOf -/

abbrev sh61_0:Sh:={ n:=20,slots:=[0,2,3,4],pats:=[.ty (.int .i64),.ptr 0 2 0,.ty (.int .i64),.acc (.int .i64)],boxes:=[.row [.ty (.int .i64),.nil]] }
abbrev shb61_0:Sh:={ n:=20,slots:=[2,3,4],pats:=[.ptr 0 2 0,.ty (.int .i64),.acc (.int .i64)],boxes:=[.row [.ty (.int .i64),.nil]] }
abbrev shr61_0:Sh:={ n:=20,slots:=[],pats:=[],boxes:=[.row [.ty (.int .i64),.nil]] }

def t61_0 (x0:Int) (x2:Int) (x3:(List Int)) (b0_0:Int):Tr (Out sh61_0.data shb61_0.data shr61_0.data) :=
  Tr.test ((!eqF x0 0:Bool))
    (Tr.test (Option.isSome (f94 ((Int.tmod x0 (1000000000:Int):Int),())))
      (Tr.test ((Nat.ble (((2:Nat) * (List.length x3 + (1:Nat)) + (192:Nat)) * (8:Nat)) (281474976710656:Nat) && Nat.ble (List.length x3 + (1:Nat)) (281474976710656:Nat):Bool))
        (let r0:=g94 ((Int.tmod x0 (1000000000:Int):Int),());
        Tr.fin (.again (((Go.IntKind.wrap Go.IntKind.i64 (Int.tdiv x0 (1000000000:Int)):Int),(x2,((x3++[r0.1]:List Int),()))),((b0_0,()),()))))
        (Tr.stop))
      (Tr.stop))
    (Tr.fin (.brk ((x2,(x3,())),((b0_0,()),()))))

def s61_0 (d:sh61_0.data):Option (Out sh61_0.data shb61_0.data shr61_0.data):=(t61_0 d.1.1 d.1.2.1 d.1.2.2.1 d.2.1.1).val
def l61_0 (d:sh61_0.data):Option (shb61_0.data ⊕ shr61_0.data):=itr s61_0 rounds d
def b61_0 (d:sh61_0.data):shb61_0.data:=outB shb61_0.dflt (l61_0 d)
def lc61_0:LoopC:=lcB sh61_0 shb61_0 shr61_0 l61_0 b61_0

theorem wk61_0 (x0:Int) (x2:Int) (x3:(List Int)) (b0_0:Int):Walks (runBody (kf95 Go.Proofs.Try.prog).orc Go.Proofs.Try.prog 400 61 0 sh61_0 shb61_0 shr61_0 ((x0,x2,x3,()),(b0_0,()),())) (t61_0 x0 x2 x3 b0_0) [([true,true,true],[0,1,2,0,4,0,6]),([ff],[2])] :=
  ⟨by kernel_rfl,by kernel_rfl,trivial⟩

theorem ok61_0_t (x0:Int) (x2:Int) (x3:(List Int)) (b0_0:Int):TrOk (BodyRuns Go.Proofs.Try.prog (kf95 Go.Proofs.Try.prog).orc 61 0 sh61_0 shb61_0 shr61_0 ((x0,x2,x3,()),(b0_0,()),())) (t61_0 x0 x2 x3 b0_0) :=
  Walks.ok (fun _ _ _=>BodyRuns.of) (wk61_0 x0 x2 x3 b0_0) (by kernel_rfl)

theorem ok61_0:LoopOk Go.Proofs.Try.prog 61 0 lc61_0:=loopOk_ofB (sh:=sh61_0) (shB:=shb61_0) (shR:=shr61_0) kf95_ok.base (T:=fun (d:sh61_0.data)=>t61_0 d.1.1 d.1.2.1 d.1.2.2.1 d.2.1.1) (by kernel_rfl) rfl (fun (d:sh61_0.data)=>ok61_0_t d.1.1 d.1.2.1 d.1.2.2.1 d.2.1.1) (fun _=>rfl)
def kl61_0 (P:Go.Program):Known:=(kf95 P).loop 61 0 lc61_0
theorem kl61_0_ok:KnownOk Go.Proofs.Try.prog (kl61_0 Go.Proofs.Try.prog):=kf95_ok.loop ok61_0

/-! ductility/ductilitybase.WideOf -/

abbrev as61:List Ty:=[(.int .i64)]
abbrev rs61:List Ty:=[(.pair (.int .i64) (.pair (.slice (.int .i64)) .unit))]

def t61 (x0:Int):Tr (Tys.data rs61) :=
  Tr.test ((!leF (0:Int) x0:Bool))
    (Tr.test (isBrk (l61_0 ((x0,((-1:Int),(([]:List Int),()))),(((0:Int),()),()))))
      (let r0:=b61_0 ((x0,((-1:Int),(([]:List Int),()))),(((0:Int),()),()));
      Tr.test (Option.isSome (f95 (r0.1.1,(r0.1.2.1,()))))
        (let r1:=g95 (r0.1.1,(r0.1.2.1,()));
        Tr.fin (((r1.1.1,(r1.1.2.1,())),())))
        (Tr.stop))
      (Tr.stop))
    (Tr.test (isBrk (l61_0 ((x0,((1:Int),(([]:List Int),()))),(((0:Int),()),()))))
      (let r2:=b61_0 ((x0,((1:Int),(([]:List Int),()))),(((0:Int),()),()));
      Tr.test (Option.isSome (f95 (r2.1.1,(r2.1.2.1,()))))
        (let r3:=g95 (r2.1.1,(r2.1.2.1,()));
        Tr.fin (((r3.1.1,(r3.1.2.1,())),())))
        (Tr.stop))
      (Tr.stop))

def f61 (d:Tys.data as61):Option (Tys.data rs61):=(t61 d.1).val
def g61 (d:Tys.data as61):Tys.data rs61:=(f61 d).getD (Tys.dflt rs61)
def p61:PureC:=pcOf as61 rs61 f61 g61

theorem wk61 (x0:Int):Walks (runPure (kl61_0 Go.Proofs.Try.prog).orc Go.Proofs.Try.prog 400 61 as61 rs61 (x0,())) (t61 x0) [([true,true,true],[2,1,4,6]),([false,true,true],[2,1,4,6])] :=
  ⟨by kernel_rfl,by kernel_rfl,trivial⟩

theorem ok61_t (x0:Int):TrOk (PureRuns Go.Proofs.Try.prog (kl61_0 Go.Proofs.Try.prog).orc 61 as61 rs61 (x0,())) (t61 x0) :=
  Walks.ok (fun _ _ _=>PureRuns.of) (wk61 x0) (by kernel_rfl)

theorem ok61:PureOk Go.Proofs.Try.prog 61 p61:=pureOk_of kl61_0_ok.base (T:=fun (d:Tys.data as61)=>t61 d.1) (by kernel_rfl) (fun (d:Tys.data as61)=>ok61_t d.1)
def kf61 (P:Go.Program):Known:=(kl61_0 P).func 61 p61
theorem kf61_ok:KnownOk Go.Proofs.Try.prog (kf61 Go.Proofs.Try.prog):=kl61_0_ok.func ok61

/-! ductility/ductilitybase.WideSign -/

abbrev as65:List Ty:=[(.pair (.int .i64) (.pair (.slice (.int .i64)) .unit))]
abbrev rs65:List Ty:=[(.int .i64)]

def t65 (x0:Int) (x0':(List Int)):Tr (Tys.data rs65) :=
  Tr.fin ((x0,()))

def f65 (d:Tys.data as65):Option (Tys.data rs65):=(t65 d.1.1 d.1.2.1).val
def g65 (d:Tys.data as65):Tys.data rs65:=(f65 d).getD (Tys.dflt rs65)
def p65:PureC:=pcOf as65 rs65 f65 g65

theorem wk65 (x0:Int) (x0':(List Int)):Walks (runPure (kf61 Go.Proofs.Try.prog).orc Go.Proofs.Try.prog 400 65 as65 rs65 ((x0,x0',()),())) (t65 x0 x0') [([],[])] :=
  ⟨by kernel_rfl,trivial⟩

theorem ok65_t (x0:Int) (x0':(List Int)):TrOk (PureRuns Go.Proofs.Try.prog (kf61 Go.Proofs.Try.prog).orc 65 as65 rs65 ((x0,x0',()),())) (t65 x0 x0') :=
  Walks.ok (fun _ _ _=>PureRuns.of) (wk65 x0 x0') (by kernel_rfl)

theorem ok65:PureOk Go.Proofs.Try.prog 65 p65:=pureOk_of kf61_ok.base (T:=fun (d:Tys.data as65)=>t65 d.1.1 d.1.2.1) (by kernel_rfl) (fun (d:Tys.data as65)=>ok65_t d.1.1 d.1.2.1)
def kf65 (P:Go.Program):Known:=(kf61 P).func 65 p65
theorem kf65_ok:KnownOk Go.Proofs.Try.prog (kf65 Go.Proofs.Try.prog):=kf61_ok.func ok65

/-! ductility/ductilitybase.WideNeg -/

abbrev as96:List Ty:=[(.pair (.int .i64) (.pair (.slice (.int .i64)) .unit))]
abbrev rs96:List Ty:=[(.pair (.int .i64) (.pair (.slice (.int .i64)) .unit))]

def t96 (x0:Int) (x0':(List Int)):Tr (Tys.data rs96) :=
  Tr.fin ((((Go.IntKind.wrap Go.IntKind.i64 ((0:Int) - x0):Int),(x0',())),()))

def f96 (d:Tys.data as96):Option (Tys.data rs96):=(t96 d.1.1 d.1.2.1).val
def g96 (d:Tys.data as96):Tys.data rs96:=(f96 d).getD (Tys.dflt rs96)
def p96:PureC:=pcOf as96 rs96 f96 g96

theorem wk96 (x0:Int) (x0':(List Int)):Walks (runPure (kf65 Go.Proofs.Try.prog).orc Go.Proofs.Try.prog 400 96 as96 rs96 ((x0,x0',()),())) (t96 x0 x0') [([],[])] :=
  ⟨by kernel_rfl,trivial⟩

theorem ok96_t (x0:Int) (x0':(List Int)):TrOk (PureRuns Go.Proofs.Try.prog (kf65 Go.Proofs.Try.prog).orc 96 as96 rs96 ((x0,x0',()),())) (t96 x0 x0') :=
  Walks.ok (fun _ _ _=>PureRuns.of) (wk96 x0 x0') (by kernel_rfl)

theorem ok96:PureOk Go.Proofs.Try.prog 96 p96:=pureOk_of kf65_ok.base (T:=fun (d:Tys.data as96)=>t96 d.1.1 d.1.2.1) (by kernel_rfl) (fun (d:Tys.data as96)=>ok96_t d.1.1 d.1.2.1)
def kf96 (P:Go.Program):Known:=(kf65 P).func 96 p96
theorem kf96_ok:KnownOk Go.Proofs.Try.prog (kf96 Go.Proofs.Try.prog):=kf65_ok.func ok96

/-! ductility/ductilitybase.wideSize -/

abbrev as114:List Ty:=[(.pair (.int .i64) (.pair (.slice (.int .i64)) .unit))]
abbrev rs114:List Ty:=[(.pair (.int .i64) (.pair (.slice (.int .i64)) .unit))]

def t114 (x0:Int) (x0':(List Int)):Tr (Tys.data rs114) :=
  Tr.test ((!leF (0:Int) x0:Bool))
    (Tr.test (Option.isSome (f96 ((x0,(x0',())),())))
      (let r0:=g96 ((x0,(x0',())),());
      Tr.fin (((r0.1.1,(r0.1.2.1,())),())))
      (Tr.stop))
    (Tr.fin (((x0,(x0',())),())))

def f114 (d:Tys.data as114):Option (Tys.data rs114):=(t114 d.1.1 d.1.2.1).val
def g114 (d:Tys.data as114):Tys.data rs114:=(f114 d).getD (Tys.dflt rs114)
def p114:PureC:=pcOf as114 rs114 f114 g114

theorem wk114 (x0:Int) (x0':(List Int)):Walks (runPure (kf96 Go.Proofs.Try.prog).orc Go.Proofs.Try.prog 400 114 as114 rs114 ((x0,x0',()),())) (t114 x0 x0') [([true,true],[2,4]),([ff],[2])] :=
  ⟨by kernel_rfl,by kernel_rfl,trivial⟩

theorem ok114_t (x0:Int) (x0':(List Int)):TrOk (PureRuns Go.Proofs.Try.prog (kf96 Go.Proofs.Try.prog).orc 114 as114 rs114 ((x0,x0',()),())) (t114 x0 x0') :=
  Walks.ok (fun _ _ _=>PureRuns.of) (wk114 x0 x0') (by kernel_rfl)

theorem ok114:PureOk Go.Proofs.Try.prog 114 p114:=pureOk_of kf96_ok.base (T:=fun (d:Tys.data as114)=>t114 d.1.1 d.1.2.1) (by kernel_rfl) (fun (d:Tys.data as114)=>ok114_t d.1.1 d.1.2.1)
def kf114 (P:Go.Program):Known:=(kf96 P).func 114 p114
theorem kf114_ok:KnownOk Go.Proofs.Try.prog (kf114 Go.Proofs.Try.prog):=kf96_ok.func ok114

/-! loop 2 of ductility/ductilitybase.WideMul -/

abbrev sh64_2:Sh:={ n:=86,slots:=[2,3,4,5,6,7,8],pats:=[.ptr 0 2 0,.ptr 1 2 0,.ptr 2 2 0,.sli 3 1,.ty (.int .i64),.ty (.int .i64),.ty (.int .i64)],boxes:=[.row [.ty (.int .i64),.ty (.slice (.int .i64))],.row [.ty (.int .i64),.ty (.slice (.int .i64))],.row [.ty (.int .i64),.nil],.arr (.int .i64)] }
abbrev shb64_2:Sh:={ n:=86,slots:=[2,3,4,5,6,7],pats:=[.ptr 0 2 0,.ptr 1 2 0,.ptr 2 2 0,.sli 3 1,.ty (.int .i64),.ty (.int .i64)],boxes:=[.row [.ty (.int .i64),.ty (.slice (.int .i64))],.row [.ty (.int .i64),.ty (.slice (.int .i64))],.row [.ty (.int .i64),.nil],.arr (.int .i64)] }
abbrev shr64_2:Sh:={ n:=86,slots:=[],pats:=[],boxes:=[.row [.ty (.int .i64),.ty (.slice (.int .i64))],.row [.ty (.int .i64),.ty (.slice (.int .i64))],.row [.ty (.int .i64),.nil],.arr (.int .i64)] }

def t64_2 (x3n:Nat) (x3c:Nat) (x4:Int) (x5:Int) (x6:Int) (b0_0:Int) (b0_1:(List Int)) (b1_0:Int) (b1_1:(List Int)) (b2_0:Int) (b3:(List Int)):Tr (Out sh64_2.data shb64_2.data shr64_2.data) :=
  Tr.test ((!leF (↑(List.length b1_1):Int) x6:Bool))
    (Tr.test (decide ((0:Int) ≤ wrap64 (x4 + x6)) && decide (wrap64 (x4 + x6) < (↑x3n:Int)))
      (Tr.test ((Nat.ble ((0:Nat) + Int.toNat (wrap64 (x4 + x6)) + (1:Nat)) (List.length b3):Bool))
        (Tr.test ((decide ((0:Int) ≤ x4) && decide (x4 < (↑(List.length b0_1):Int)):Bool))
          (Tr.test ((decide ((0:Int) ≤ x6) && decide (x6 < (↑(List.length b1_1):Int)):Bool))
            (Tr.fin (.again (((x3n,x3c),(x4,((Go.IntKind.wrap Go.IntKind.i64 (Int.tdiv (wrap64 (wrap64 (List.getD b3 ((0:Nat) + Int.toNat (wrap64 (x4 + x6))) (0:Int) + wrap64 (List.getD b0_1 (Int.toNat x4) (0:Int) * List.getD b1_1 (Int.toNat x6) (0:Int))) + x5)) (1000000000:Int)):Int),((wrap64 (x6 + (1:Int)):Int),())))),((b0_0,(b0_1,())),((b1_0,(b1_1,())),((b2_0,()),((List.set b3 ((0:Nat) + Int.toNat (wrap64 (x4 + x6))) (Int.tmod (wrap64 (wrap64 (List.getD b3 ((0:Nat) + Int.toNat (wrap64 (x4 + x6))) (0:Int) + wrap64 (List.getD b0_1 (Int.toNat x4) (0:Int) * List.getD b1_1 (Int.toNat x6) (0:Int))) + x5)) (1000000000:Int)):List Int),())))))))
            (Tr.stop))
          (Tr.stop))
        (Tr.stop))
      (Tr.stop))
    (Tr.fin (.brk (((x3n,x3c),(x4,(x5,()))),((b0_0,(b0_1,())),((b1_0,(b1_1,())),((b2_0,()),(b3,())))))))

def s64_2 (d:sh64_2.data):Option (Out sh64_2.data shb64_2.data shr64_2.data):=(t64_2 d.1.1.1 d.1.1.2 d.1.2.1 d.1.2.2.1 d.1.2.2.2.1 d.2.1.1 d.2.1.2.1 d.2.2.1.1 d.2.2.1.2.1 d.2.2.2.1.1 d.2.2.2.2.1).val
def l64_2 (d:sh64_2.data):Option (shb64_2.data ⊕ shr64_2.data):=itr s64_2 rounds d
def b64_2 (d:sh64_2.data):shb64_2.data:=outB shb64_2.dflt (l64_2 d)
def lc64_2:LoopC:=lcB sh64_2 shb64_2 shr64_2 l64_2 b64_2

theorem wk64_2 (x3n:Nat) (x3c:Nat) (x4:Int) (x5:Int) (x6:Int) (b0_0:Int) (b0_1:(List Int)) (b1_0:Int) (b1_1:(List Int)) (b2_0:Int) (b3:(List Int)):Walks (runBody (kf114 Go.Proofs.Try.prog).orc Go.Proofs.Try.prog 400 64 2 sh64_2 shb64_2 shr64_2 (((x3n,x3c),x4,x5,x6,()),(b0_0,b0_1,()),(b1_0,b1_1,()),(b2_0,()),b3,())) (t64_2 x3n x3c x4 x5 x6 b0_0 b0_1 b1_0 b1_1 b2_0 b3) [([true,true,true,true,true],[6,8,0,0,2,4,6,8,10]),([ff],[2])] :=
  ⟨by kernel_rfl,by kernel_rfl,trivial⟩

theorem ok64_2_t (x3n:Nat) (x3c:Nat) (x4:Int) (x5:Int) (x6:Int) (b0_0:Int) (b0_1:(List Int)) (b1_0:Int) (b1_1:(List Int)) (b2_0:Int) (b3:(List Int)):TrOk (BodyRuns Go.Proofs.Try.prog (kf114 Go.Proofs.Try.prog).orc 64 2 sh64_2 shb64_2 shr64_2 (((x3n,x3c),x4,x5,x6,()),(b0_0,b0_1,()),(b1_0,b1_1,()),(b2_0,()),b3,())) (t64_2 x3n x3c x4 x5 x6 b0_0 b0_1 b1_0 b1_1 b2_0 b3) :=
  Walks.ok (fun _ _ _=>BodyRuns.of) (wk64_2 x3n x3c x4 x5 x6 b0_0 b0_1 b1_0 b1_1 b2_0 b3) (by kernel_rfl)

theorem ok64_2:LoopOk Go.Proofs.Try.prog 64 2 lc64_2:=loopOk_ofB (sh:=sh64_2) (shB:=shb64_2) (shR:=shr64_2) kf114_ok.base (T:=fun (d:sh64_2.data)=>t64_2 d.1.1.1 d.1.1.2 d.1.2.1 d.1.2.2.1 d.1.2.2.2.1 d.2.1.1 d.2.1.2.1 d.2.2.1.1 d.2.2.1.2.1 d.2.2.2.1.1 d.2.2.2.2.1) (by kernel_rfl) rfl (fun (d:sh64_2.data)=>ok64_2_t d.1.1.1 d.1.1.2 d.1.2.1 d.1.2.2.1 d.1.2.2.2.1 d.2.1.1 d.2.1.2.1 d.2.2.1.1 d.2.2.1.2.1 d.2.2.2.1.1 d.2.2.2.2.1) (fun _=>rfl)
def kl64_2 (P:Go.Program):Known:=(kf114 P).loop 64 2 lc64_2
theorem kl64_2_ok:KnownOk Go.Proofs.Try.prog (kl64_2 Go.Proofs.Try.prog):=kf114_ok.loop ok64_2

/-! loop 0 of ductility/ductilitybase.WideMul -/

abbrev sh64_0:Sh:={ n:=86,slots:=[2,3,4,5,6],pats:=[.ptr 0 2 0,.ptr 1 2 0,.ptr 2 2 0,.sli 3 1,.ty (.int .i64)],boxes:=[.row [.ty (.int .i64),.ty (.slice (.int .i64))],.row [.ty (.int .i64),.ty (.slice (.int .i64))],.row [.ty (.int .i64),.nil],.arr (.int .i64)] }
abbrev shb64_0:Sh:={ n:=86,slots:=[2,3,4,5],pats:=[.ptr 0 2 0,.ptr 1 2 0,.ptr 2 2 0,.sli 3 1],boxes:=[.row [.ty (.int .i64),.ty (.slice (.int .i64))],.row [.ty (.int .i64),.ty (.slice (.int .i64))],.row [.ty (.int .i64),.nil],.arr (.int .i64)] }
abbrev shr64_0:Sh:={ n:=86,slots:=[],pats:=[],boxes:=[.row [.ty (.int .i64),.ty (.slice (.int .i64))],.row [.ty (.int .i64),.ty (.slice (.int .i64))],.row [.ty (.int .i64),.nil],.arr (.int .i64)] }

def t64_0 (x3n:Nat) (x3c:Nat) (x4:Int) (b0_0:Int) (b0_1:(List Int)) (b1_0:Int) (b1_1:(List Int)) (b2_0:Int) (b3:(List Int)):Tr (Out sh64_0.data shb64_0.data shr64_0.data) :=
  Tr.test ((!leF (↑(List.length b0_1):Int) x4:Bool))
    (Tr.test (isBrk (l64_2 (((x3n,x3c),(x4,((0:Int),((0:Int),())))),((b0_0,(b0_1,())),((b1_0,(b1_1,())),((b2_0,()),(b3,())))))))
      (let r0:=b64_2 (((x3n,x3c),(x4,((0:Int),((0:Int),())))),((b0_0,(b0_1,())),((b1_0,(b1_1,())),((b2_0,()),(b3,())))));
      Tr.test ((decide ((0:Int) ≤ wrap64 (r0.1.2.1 + (↑(List.length r0.2.2.1.2.1):Int))) && decide (wrap64 (r0.1.2.1 + (↑(List.length r0.2.2.1.2.1):Int)) < (↑r0.1.1.1:Int)):Bool))
        (Tr.test ((Nat.ble ((0:Nat) + Int.toNat (wrap64 (r0.1.2.1 + (↑(List.length r0.2.2.1.2.1):Int))) + (1:Nat)) (List.length r0.2.2.2.2.1):Bool))
          (Tr.fin (.again (((r0.1.1.1,r0.1.1.2),((wrap64 (r0.1.2.1 + (1:Int)):Int),())),((r0.2.1.1,(r0.2.1.2.1,())),((r0.2.2.1.1,(r0.2.2.1.2.1,())),((r0.2.2.2.1.1,()),((List.set r0.2.2.2.2.1 ((0:Nat) + Int.toNat (wrap64 (r0.1.2.1 + (↑(List.length r0.2.2.1.2.1):Int)))) (wrap64 (List.getD r0.2.2.2.2.1 ((0:Nat) + Int.toNat (wrap64 (r0.1.2.1 + (↑(List.length r0.2.2.1.2.1):Int)))) (0:Int) + r0.1.2.2.1)):List Int),())))))))
          (Tr.stop))
        (Tr.stop))
      (Tr.stop))
    (Tr.fin (.brk (((x3n,x3c),()),((b0_0,(b0_1,())),((b1_0,(b1_1,())),((b2_0,()),(b3,())))))))

def s64_0 (d:sh64_0.data):Option (Out sh64_0.data shb64_0.data shr64_0.data):=(t64_0 d.1.1.1 d.1.1.2 d.1.2.1 d.2.1.1 d.2.1.2.1 d.2.2.1.1 d.2.2.1.2.1 d.2.2.2.1.1 d.2.2.2.2.1).val
def l64_0 (d:sh64_0.data):Option (shb64_0.data ⊕ shr64_0.data):=itr s64_0 rounds d
def b64_0 (d:sh64_0.data):shb64_0.data:=outB shb64_0.dflt (l64_0 d)
def lc64_0:LoopC:=lcB sh64_0 shb64_0 shr64_0 l64_0 b64_0

theorem wk64_0 (x3n:Nat) (x3c:Nat) (x4:Int) (b0_0:Int) (b0_1:(List Int)) (b1_0:Int) (b1_1:(List Int)) (b2_0:Int) (b3:(List Int)):Walks (runBody (kl64_2 Go.Proofs.Try.prog).orc Go.Proofs.Try.prog 400 64 0 sh64_0 shb64_0 shr64_0 (((x3n,x3c),x4,()),(b0_0,b0_1,()),(b1_0,b1_1,()),(b2_0,()),b3,())) (t64_0 x3n x3c x4 b0_0 b0_1 b1_0 b1_1 b2_0 b3) [([true,true,true,true],[2,4,2,4,1,6,8]),([ff],[2])] :=
  ⟨by kernel_rfl,by kernel_rfl,trivial⟩

theorem ok64_0_t (x3n:Nat) (x3c:Nat) (x4:Int) (b0_0:Int) (b0_1:(List Int)) (b1_0:Int) (b1_1:(List Int)) (b2_0:Int) (b3:(List Int)):TrOk (BodyRuns Go.Proofs.Try.prog (kl64_2 Go.Proofs.Try.prog).orc 64 0 sh64_0 shb64_0 shr64_0 (((x3n,x3c),x4,()),(b0_0,b0_1,()),(b1_0,b1_1,()),(b2_0,()),b3,())) (t64_0 x3n x3c x4 b0_0 b0_1 b1_0 b1_1 b2_0 b3) :=
  Walks.ok (fun _ _ _=>BodyRuns.of) (wk64_0 x3n x3c x4 b0_0 b0_1 b1_0 b1_1 b2_0 b3) (by kernel_rfl)

theorem ok64_0:LoopOk Go.Proofs.Try.prog 64 0 lc64_0:=loopOk_ofB (sh:=sh64_0) (shB:=shb64_0) (shR:=shr64_0) kl64_2_ok.base (T:=fun (d:sh64_0.data)=>t64_0 d.1.1.1 d.1.1.2 d.1.2.1 d.2.1.1 d.2.1.2.1 d.2.2.1.1 d.2.2.1.2.1 d.2.2.2.1.1 d.2.2.2.2.1) (by kernel_rfl) rfl (fun (d:sh64_0.data)=>ok64_0_t d.1.1.1 d.1.1.2 d.1.2.1 d.2.1.1 d.2.1.2.1 d.2.2.1.1 d.2.2.1.2.1 d.2.2.2.1.1 d.2.2.2.2.1) (fun _=>rfl)
def kl64_0 (P:Go.Program):Known:=(kl64_2 P).loop 64 0 lc64_0
theorem kl64_0_ok:KnownOk Go.Proofs.Try.prog (kl64_0 Go.Proofs.Try.prog):=kl64_2_ok.loop ok64_0

/-! ductility/ductilitybase.WideMul -/

abbrev as64:List Ty:=[(.pair (.int .i64) (.pair (.slice (.int .i64)) .unit)),(.pair (.int .i64) (.pair (.slice (.int .i64)) .unit))]
abbrev rs64:List Ty:=[(.pair (.int .i64) (.pair (.slice (.int .i64)) .unit))]

def t64 (x0:Int) (x0':(List Int)) (x1:Int) (x1':(List Int)):Tr (Tys.data rs64) :=
  Tr.test ((decide ((0:Int) ≤ wrap64 (wrap64 ((↑(List.length x0'):Int) + (↑(List.length x1'):Int)) + (1:Int))) && decide (wrap64 (wrap64 ((↑(List.length x0'):Int) + (↑(List.length x1'):Int)) + (1:Int)) ≤ wrap64 (wrap64 ((↑(List.length x0'):Int) + (↑(List.length x1'):Int)) + (1:Int))) && decide ((8:Int) * wrap64 (wrap64 ((↑(List.length x0'):Int) + (↑(List.length x1'):Int)) + (1:Int)) ≤ (281474976710656:Int)) && decide (wrap64 (wrap64 ((↑(List.length x0'):Int) + (↑(List.length x1'):Int)) + (1:Int)) ≤ (281474976710656:Int)):Bool))
    (Tr.test (isBrk (l64_0 ((((Int.toNat (wrap64 (wrap64 ((↑(List.length x0'):Int) + (↑(List.length x1'):Int)) + (1:Int))):Nat),(Int.toNat (wrap64 (wrap64 ((↑(List.length x0'):Int) + (↑(List.length x1'):Int)) + (1:Int))):Nat)),((0:Int),())),((x0,(x0',())),((x1,(x1',())),(((0:Int),()),((List.replicate (Int.toNat (wrap64 (wrap64 ((↑(List.length x0'):Int) + (↑(List.length x1'):Int)) + (1:Int)))) (0:Int):List Int),())))))))
      (let r0:=b64_0 ((((Int.toNat (wrap64 (wrap64 ((↑(List.length x0'):Int) + (↑(List.length x1'):Int)) + (1:Int))):Nat),(Int.toNat (wrap64 (wrap64 ((↑(List.length x0'):Int) + (↑(List.length x1'):Int)) + (1:Int))):Nat)),((0:Int),())),((x0,(x0',())),((x1,(x1',())),(((0:Int),()),((List.replicate (Int.toNat (wrap64 (wrap64 ((↑(List.length x0'):Int) + (↑(List.length x1'):Int)) + (1:Int)))) (0:Int):List Int),())))));
      Tr.test ((Nat.beq r0.1.1.1 (List.length r0.2.2.2.2.1):Bool))
        (Tr.test (Option.isSome (f95 ((wrap64 (r0.2.1.1 * r0.2.2.1.1):Int),(r0.2.2.2.2.1,()))))
          (let r1:=g95 ((wrap64 (r0.2.1.1 * r0.2.2.1.1):Int),(r0.2.2.2.2.1,()));
          Tr.fin (((r1.1.1,(r1.1.2.1,())),())))
          (Tr.stop))
        (Tr.test ((Nat.ble r0.1.1.1 (List.length r0.2.2.2.2.1):Bool))
          (Tr.test (Option.isSome (f95 ((wrap64 (r0.2.1.1 * r0.2.2.1.1):Int),((List.take r0.1.1.1 r0.2.2.2.2.1:List Int),()))))
            (let r2:=g95 ((wrap64 (r0.2.1.1 * r0.2.2.1.1):Int),((List.take r0.1.1.1 r0.2.2.2.2.1:List Int),()));
            Tr.fin (((r2.1.1,(r2.1.2.1,())),())))
            (Tr.stop))
          (Tr.stop /- a known call [op 6 of region 12 of F64] -/)))
      (Tr.stop))
    (Tr.stop)

def f64 (d:Tys.data as64):Option (Tys.data rs64):=(t64 d.1.1 d.1.2.1 d.2.1.1 d.2.1.2.1).val
def g64 (d:Tys.data as64):Tys.data rs64:=(f64 d).getD (Tys.dflt rs64)
def p64:PureC:=pcOf as64 rs64 f64 g64

theorem wk64 (x0:Int) (x0':(List Int)) (x1:Int) (x1':(List Int)):Walks (runPure (kl64_0 Go.Proofs.Try.prog).orc Go.Proofs.Try.prog 400 64 as64 rs64 ((x0,x0',()),(x1,x1',()),())) (t64 x0 x0' x1 x1') [([true,true,true,true],[2,4,1,6,8]),([true,true,false,true,true],[2,4,6,1,8,10])] :=
  ⟨by kernel_rfl,by kernel_rfl,trivial⟩

theorem ok64_t (x0:Int) (x0':(List Int)) (x1:Int) (x1':(List Int)):TrOk (PureRuns Go.Proofs.Try.prog (kl64_0 Go.Proofs.Try.prog).orc 64 as64 rs64 ((x0,x0',()),(x1,x1',()),())) (t64 x0 x0' x1 x1') :=
  Walks.ok (fun _ _ _=>PureRuns.of) (wk64 x0 x0' x1 x1') (by kernel_rfl)

theorem ok64:PureOk Go.Proofs.Try.prog 64 p64:=pureOk_of kl64_0_ok.base (T:=fun (d:Tys.data as64)=>t64 d.1.1 d.1.2.1 d.2.1.1 d.2.1.2.1) (by kernel_rfl) (fun (d:Tys.data as64)=>ok64_t d.1.1 d.1.2.1 d.2.1.1 d.2.1.2.1)
def kf64 (P:Go.Program):Known:=(kl64_0 P).func 64 p64
theorem kf64_ok:KnownOk Go.Proofs.Try.prog (kf64 Go.Proofs.Try.prog):=kl64_0_ok.func ok64

/-! loop 0 of ductility/ductilitybase.cmpDigits -/

abbrev sh101_0:Sh:={ n:=41,slots:=[0,1,5],pats:=[.ty (.slice (.int .i64)),.ty (.slice (.int .i64)),.ty (.int .i64)],boxes:=[] }
abbrev shb101_0:Sh:={ n:=41,slots:=[],pats:=[],boxes:=[] }
abbrev shr101_0:Sh:={ n:=41,slots:=[4],pats:=[.ty (.int .i64)],boxes:=[] }

def t101_0 (x0:(List Int)) (x1:(List Int)) (x2:Int):Tr (Out sh101_0.data shb101_0.data shr101_0.data) :=
  Tr.test ((leF (0:Int) x2:Bool))
    (Tr.test (decide ((0:Int) ≤ x2) && decide (x2 < (↑(List.length x0):Int)))
      (Tr.test ((decide ((0:Int) ≤ x2) && decide (x2 < (↑(List.length x1):Int)):Bool))
        (Tr.test ((!leF (List.getD x1 (Int.toNat x2) (0:Int)) (List.getD x0 (Int.toNat x2) (0:Int)):Bool))
          (Tr.fin (.ret (((-1:Int),()),())))
          (Tr.test ((!leF (List.getD x0 (Int.toNat x2) (0:Int)) (List.getD x1 (Int.toNat x2) (0:Int)):Bool))
            (Tr.fin (.ret (((1:Int),()),())))
            (Tr.fin (.again ((x0,(x1,((wrap64 (x2 - (1:Int)):Int),()))),())))))
        (Tr.stop))
      (Tr.stop))
    (Tr.fin (.brk ((),())))

def s101_0 (d:sh101_0.data):Option (Out sh101_0.data shb101_0.data shr101_0.data):=(t101_0 d.1.1 d.1.2.1 d.1.2.2.1).val
def l101_0 (d:sh101_0.data):Option (shb101_0.data ⊕ shr101_0.data):=itr s101_0 rounds d
def b101_0 (d:sh101_0.data):shb101_0.data:=outB shb101_0.dflt (l101_0 d)
def r101_0 (d:sh101_0.data):shr101_0.data:=outR shr101_0.dflt (l101_0 d)
def lc101_0:LoopC:=lcOf sh101_0 shb101_0 shr101_0 l101_0 b101_0 r101_0

theorem wk101_0 (x0:(List Int)) (x1:(List Int)) (x2:Int):Walks (runBody (kf64 Go.Proofs.Try.prog).orc Go.Proofs.Try.prog 400 101 0 sh101_0 shb101_0 shr101_0 ((x0,x1,x2,()),())) (t101_0 x0 x1 x2) [([true,true,true,true],[2,4,6,8]),([true,true,true,false,true],[2,6,8,4,6,8,10]),([true,true,true,false,false],[2,6,8,4,6,8,10]),([ff],[2])] :=
  ⟨by kernel_rfl,by kernel_rfl,by kernel_rfl,by kernel_rfl,trivial⟩

theorem ok101_0_t (x0:(List Int)) (x1:(List Int)) (x2:Int):TrOk (BodyRuns Go.Proofs.Try.prog (kf64 Go.Proofs.Try.prog).orc 101 0 sh101_0 shb101_0 shr101_0 ((x0,x1,x2,()),())) (t101_0 x0 x1 x2) :=
  Walks.ok (fun _ _ _=>BodyRuns.of) (wk101_0 x0 x1 x2) (by kernel_rfl)

theorem ok101_0:LoopOk Go.Proofs.Try.prog 101 0 lc101_0:=loopOk_of (sh:=sh101_0) (shB:=shb101_0) (shR:=shr101_0) kf64_ok.base (T:=fun (d:sh101_0.data)=>t101_0 d.1.1 d.1.2.1 d.1.2.2.1) (by kernel_rfl) rfl (fun (d:sh101_0.data)=>ok101_0_t d.1.1 d.1.2.1 d.1.2.2.1) (fun _=>rfl)
def kl101_0 (P:Go.Program):Known:=(kf64 P).loop 101 0 lc101_0
theorem kl101_0_ok:KnownOk Go.Proofs.Try.prog (kl101_0 Go.Proofs.Try.prog):=kf64_ok.loop ok101_0

/-! ductility/ductilitybase.cmpDigits -/

abbrev as101:List Ty:=[(.slice (.int .i64)),(.slice (.int .i64))]
abbrev rs101:List Ty:=[(.int .i64)]

def t101 (x0:(List Int)) (x1:(List Int)):Tr (Tys.data rs101) :=
  Tr.test ((!eqF (↑(List.length x0):Int) (↑(List.length x1):Int):Bool))
    (Tr.test (!leF (↑(List.length x1):Int) (↑(List.length x0):Int))
      (Tr.fin (((-1:Int),())))
      (Tr.fin (((1:Int),()))))
    (Tr.test (Option.isSome (l101_0 ((x0,(x1,((wrap64 ((↑(List.length x0):Int) - (1:Int)):Int),()))),())))
      (Tr.test (isRet (l101_0 ((x0,(x1,((wrap64 ((↑(List.length x0):Int) - (1:Int)):Int),()))),())))
        (let r0:=r101_0 ((x0,(x1,((wrap64 ((↑(List.length x0):Int) - (1:Int)):Int),()))),());
        Tr.fin ((r0.1.1,())))
        (Tr.fin (((0:Int),()))))
      (Tr.stop))

def f101 (d:Tys.data as101):Option (Tys.data rs101):=(t101 d.1 d.2.1).val
def g101 (d:Tys.data as101):Tys.data rs101:=(f101 d).getD (Tys.dflt rs101)
def p101:PureC:=pcOf as101 rs101 f101 g101

theorem wk101 (x0:(List Int)) (x1:(List Int)):Walks (runPure (kl101_0 Go.Proofs.Try.prog).orc Go.Proofs.Try.prog 400 101 as101 rs101 (x0,x1,())) (t101 x0 x1) [([true,true],[2,4]),([true,false],[2,4]),([false,true,true],[2,4,6]),([false,true,false],[2,4,6])] :=
  ⟨by kernel_rfl,by kernel_rfl,by kernel_rfl,by kernel_rfl,trivial⟩

theorem ok101_t (x0:(List Int)) (x1:(List Int)):TrOk (PureRuns Go.Proofs.Try.prog (kl101_0 Go.Proofs.Try.prog).orc 101 as101 rs101 (x0,x1,())) (t101 x0 x1) :=
  Walks.ok (fun _ _ _=>PureRuns.of) (wk101 x0 x1) (by kernel_rfl)

theorem ok101:PureOk Go.Proofs.Try.prog 101 p101:=pureOk_of kl101_0_ok.base (T:=fun (d:Tys.data as101)=>t101 d.1 d.2.1) (by kernel_rfl) (fun (d:Tys.data as101)=>ok101_t d.1 d.2.1)
def kf101 (P:Go.Program):Known:=(kl101_0 P).func 101 p101
theorem kf101_ok:KnownOk Go.Proofs.Try.prog (kf101 Go.Proofs.Try.prog):=kl101_0_ok.func ok101

/-! ductility/ductilitybase.digit -/

abbrev as116:List Ty:=[(.slice (.int .i64)),(.int .i64)]
abbrev rs116:List Ty:=[(.int .i64)]

def t116 (x0:(List Int)) (x1:Int):Tr (Tys.data rs116) :=
  Tr.test ((!leF (↑(List.length x0):Int) x1:Bool))
    (Tr.test (decide ((0:Int) ≤ x1) && decide (x1 < (↑(List.length x0):Int)))
      (Tr.fin (((List.getD x0 (Int.toNat x1) (0:Int):Int),())))
      (Tr.stop))
    (Tr.fin (((0:Int),())))

def f116 (d:Tys.data as116):Option (Tys.data rs116):=(t116 d.1 d.2.1).val
def g116 (d:Tys.data as116):Tys.data rs116:=(f116 d).getD (Tys.dflt rs116)
def p116:PureC:=pcOf as116 rs116 f116 g116

theorem wk116 (x0:(List Int)) (x1:Int):Walks (runPure (kf101 Go.Proofs.Try.prog).orc Go.Proofs.Try.prog 400 116 as116 rs116 (x0,x1,())) (t116 x0 x1) [([true,true],[2,4]),([ff],[2])] :=
  ⟨by kernel_rfl,by kernel_rfl,trivial⟩

theorem ok116_t (x0:(List Int)) (x1:Int):TrOk (PureRuns Go.Proofs.Try.prog (kf101 Go.Proofs.Try.prog).orc 116 as116 rs116 (x0,x1,())) (t116 x0 x1) :=
  Walks.ok (fun _ _ _=>PureRuns.of) (wk116 x0 x1) (by kernel_rfl)

theorem ok116:PureOk Go.Proofs.Try.prog 116 p116:=pureOk_of kf101_ok.base (T:=fun (d:Tys.data as116)=>t116 d.1 d.2.1) (by kernel_rfl) (fun (d:Tys.data as116)=>ok116_t d.1 d.2.1)
def kf116 (P:Go.Program):Known:=(kf101 P).func 116 p116
theorem kf116_ok:KnownOk Go.Proofs.Try.prog (kf116 Go.Proofs.Try.prog):=kf101_ok.func ok116

/-! loop 0 of ductility/ductilitybase.subDigits -/

abbrev sh102_0:Sh:={ n:=35,slots:=[0,1,5,6,7],pats:=[.ty (.slice (.int .i64)),.ty (.slice (.int .i64)),.acc (.int .i64),.ty (.int .i64),.ty (.int .i64)],boxes:=[] }
abbrev shb102_0:Sh:={ n:=35,slots:=[5],pats:=[.acc (.int .i64)],boxes:=[] }
abbrev shr102_0:Sh:={ n:=35,slots:=[],pats:=[],boxes:=[] }

def t102_0 (x0:(List Int)) (x1:(List Int)) (x2:(List Int)) (x3:Int) (x4:Int):Tr (Out sh102_0.data shb102_0.data shr102_0.data) :=
  Tr.test ((!leF (↑(List.length x0):Int) x4:Bool))
    (Tr.test (decide ((0:Int) ≤ x4) && decide (x4 < (↑(List.length x0):Int)))
      (Tr.test (Option.isSome (f116 (x1,(x4,()))))
        (let r0:=g116 (x1,(x4,()));
        Tr.test ((!leF (0:Int) (wrap64 (wrap64 (List.getD x0 (Int.toNat x4) (0:Int) - r0.1) - x3)):Bool))
          (Tr.test ((Nat.ble (((2:Nat) * (List.length x2 + (1:Nat)) + (192:Nat)) * (8:Nat)) (281474976710656:Nat) && Nat.ble (List.length x2 + (1:Nat)) (281474976710656:Nat):Bool))
            (Tr.fin (.again ((x0,(x1,((x2++[wrap64 (wrap64 (wrap64 (List.getD x0 (Int.toNat x4) (0:Int) - r0.1) - x3) + (1000000000:Int))]:List Int),((1:Int),((wrap64 (x4 + (1:Int)):Int),()))))),())))
            (Tr.stop))
          (Tr.test ((Nat.ble (((2:Nat) * (List.length x2 + (1:Nat)) + (192:Nat)) * (8:Nat)) (281474976710656:Nat) && Nat.ble (List.length x2 + (1:Nat)) (281474976710656:Nat):Bool))
            (Tr.fin (.again ((x0,(x1,((x2++[wrap64 (wrap64 (List.getD x0 (Int.toNat x4) (0:Int) - r0.1) - x3)]:List Int),((0:Int),((wrap64 (x4 + (1:Int)):Int),()))))),())))
            (Tr.stop)))
        (Tr.stop))
      (Tr.stop))
    (Tr.fin (.brk ((x2,()),())))

def s102_0 (d:sh102_0.data):Option (Out sh102_0.data shb102_0.data shr102_0.data):=(t102_0 d.1.1 d.1.2.1 d.1.2.2.1 d.1.2.2.2.1 d.1.2.2.2.2.1).val
def l102_0 (d:sh102_0.data):Option (shb102_0.data ⊕ shr102_0.data):=itr s102_0 rounds d
def b102_0 (d:sh102_0.data):shb102_0.data:=outB shb102_0.dflt (l102_0 d)
def lc102_0:LoopC:=lcB sh102_0 shb102_0 shr102_0 l102_0 b102_0

theorem wk102_0 (x0:(List Int)) (x1:(List Int)) (x2:(List Int)) (x3:Int) (x4:Int):Walks (runBody (kf116 Go.Proofs.Try.prog).orc Go.Proofs.Try.prog 400 102 0 sh102_0 shb102_0 shr102_0 ((x0,x1,x2,x3,x4,()),())) (t102_0 x0 x1 x2 x3 x4) [([true,true,true,true,true],[1,2,0,4,6,8,10]),([true,true,true,false,true],[1,2,0,4,6,8,10]),([ff],[2])] :=
  ⟨by kernel_rfl,by kernel_rfl,by kernel_rfl,trivial⟩

theorem ok102_0_t (x0:(List Int)) (x1:(List Int)) (x2:(List Int)) (x3:Int) (x4:Int):TrOk (BodyRuns Go.Proofs.Try.prog (kf116 Go.Proofs.Try.prog).orc 102 0 sh102_0 shb102_0 shr102_0 ((x0,x1,x2,x3,x4,()),())) (t102_0 x0 x1 x2 x3 x4) :=
  Walks.ok (fun _ _ _=>BodyRuns.of) (wk102_0 x0 x1 x2 x3 x4) (by kernel_rfl)

theorem ok102_0:LoopOk Go.Proofs.Try.prog 102 0 lc102_0:=loopOk_ofB (sh:=sh102_0) (shB:=shb102_0) (shR:=shr102_0) kf116_ok.base (T:=fun (d:sh102_0.data)=>t102_0 d.1.1 d.1.2.1 d.1.2.2.1 d.1.2.2.2.1 d.1.2.2.2.2.1) (by kernel_rfl) rfl (fun (d:sh102_0.data)=>ok102_0_t d.1.1 d.1.2.1 d.1.2.2.1 d.1.2.2.2.1 d.1.2.2.2.2.1) (fun _=>rfl)
def kl102_0 (P:Go.Program):Known:=(kf116 P).loop 102 0 lc102_0
theorem kl102_0_ok:KnownOk Go.Proofs.Try.prog (kl102_0 Go.Proofs.Try.prog):=kf116_ok.loop ok102_0

/-! ductility/ductilitybase.subDigits -/

abbrev as102:List Ty:=[(.slice (.int .i64)),(.slice (.int .i64))]
abbrev rs102:List Ty:=[(.slice (.int .i64))]

def t102 (x0:(List Int)) (x1:(List Int)):Tr (Tys.data rs102) :=
  Tr.test (isBrk (l102_0 ((x0,(x1,(([]:List Int),((0:Int),((0:Int),()))))),())))
    (let r0:=b102_0 ((x0,(x1,(([]:List Int),((0:Int),((0:Int),()))))),());
    Tr.test (Option.isSome (f113 (r0.1.1,())))
      (let r1:=g113 (r0.1.1,());
      Tr.fin ((r1.1,())))
      (Tr.stop))
    (Tr.stop)

def f102 (d:Tys.data as102):Option (Tys.data rs102):=(t102 d.1 d.2.1).val
def g102 (d:Tys.data as102):Tys.data rs102:=(f102 d).getD (Tys.dflt rs102)
def p102:PureC:=pcOf as102 rs102 f102 g102

theorem wk102 (x0:(List Int)) (x1:(List Int)):Walks (runPure (kl102_0 Go.Proofs.Try.prog).orc Go.Proofs.Try.prog 400 102 as102 rs102 (x0,x1,())) (t102 x0 x1) [([true,true],[2,1,4])] :=
  ⟨by kernel_rfl,trivial⟩

theorem ok102_t (x0:(List Int)) (x1:(List Int)):TrOk (PureRuns Go.Proofs.Try.prog (kl102_0 Go.Proofs.Try.prog).orc 102 as102 rs102 (x0,x1,())) (t102 x0 x1) :=
  Walks.ok (fun _ _ _=>PureRuns.of) (wk102 x0 x1) (by kernel_rfl)

theorem ok102:PureOk Go.Proofs.Try.prog 102 p102:=pureOk_of kl102_0_ok.base (T:=fun (d:Tys.data as102)=>t102 d.1 d.2.1) (by kernel_rfl) (fun (d:Tys.data as102)=>ok102_t d.1 d.2.1)
def kf102 (P:Go.Program):Known:=(kl102_0 P).func 102 p102
theorem kf102_ok:KnownOk Go.Proofs.Try.prog (kf102 Go.Proofs.Try.prog):=kl102_0_ok.func ok102

end Go.Vm.Mo
