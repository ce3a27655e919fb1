import Derived.Test.YtklljhgfniodaaaA4
import Derived.KernelRfl
import Derived.Test.YtklljhgfniodaaaProg
import Derived.Test.YtklljhgfniodaaaRsFa
set_option linter.unusedVariables false
set_option linter.unusedSimpArgs false

namespace Go.Vm.Mo
open Go
set_option linter.unusedVariables false

/-! loop 2 of ductility/modal.divisorOf -/

abbrev sh107_2:Sh:={ n:=26,slots:=[5,7,9,10,11],pats:=[.ty (.int .i64),.ty (.int .i64),.ty (.slice (.int .i64)),.ty (.int .i64),.ty (.int .i64)],boxes:=[] }
abbrev shb107_2:Sh:={ n:=26,slots:=[5,9,10,11],pats:=[.ty (.int .i64),.ty (.slice (.int .i64)),.ty (.int .i64),.ty (.int .i64)],boxes:=[] }
abbrev shr107_2:Sh:={ n:=26,slots:=[],pats:=[],boxes:=[] }

def t107_2 (x0:Int) (x1:Int) (x2:(List Int)) (x3:Int) (x4:Int):Tr (Out sh107_2.data shb107_2.data shr107_2.data) :=
  Tr.test ((!eqF x1 0:Bool))
    (Tr.test (x1 == (0:Int))
      (Tr.stop)
      (Tr.fin (.again ((x1,((Int.tmod x0 x1:Int),(x2,(x3,(x4,()))))),()))))
    (Tr.fin (.brk ((x0,(x2,(x3,(x4,())))),())))

def s107_2 (d:sh107_2.data):Option (Out sh107_2.data shb107_2.data shr107_2.data):=(t107_2 d.1.1 d.1.2.1 d.1.2.2.1 d.1.2.2.2.1 d.1.2.2.2.2.1).val
def l107_2 (d:sh107_2.data):Option (shb107_2.data ⊕ shr107_2.data):=itr s107_2 rounds d
def b107_2 (d:sh107_2.data):shb107_2.data:=outB shb107_2.dflt (l107_2 d)
def lc107_2:LoopC:=lcB sh107_2 shb107_2 shr107_2 l107_2 b107_2

theorem wk107_2 (x0:Int) (x1:Int) (x2:(List Int)) (x3:Int) (x4:Int):Walks (runBody (kf76 Go.Proofs.Try.prog).orc Go.Proofs.Try.prog 400 107 2 sh107_2 shb107_2 shr107_2 ((x0,x1,x2,x3,x4,()),())) (t107_2 x0 x1 x2 x3 x4) [([true,false],[2,4]),([ff],[2])] :=
  ⟨by kernel_rfl,by kernel_rfl,trivial⟩

theorem ok107_2_t (x0:Int) (x1:Int) (x2:(List Int)) (x3:Int) (x4:Int):TrOk (BodyRuns Go.Proofs.Try.prog (kf76 Go.Proofs.Try.prog).orc 107 2 sh107_2 shb107_2 shr107_2 ((x0,x1,x2,x3,x4,()),())) (t107_2 x0 x1 x2 x3 x4) :=
  Walks.ok (fun _ _ _=>BodyRuns.of) (wk107_2 x0 x1 x2 x3 x4) (by kernel_rfl)

theorem ok107_2:LoopOk Go.Proofs.Try.prog 107 2 lc107_2:=loopOk_ofB (sh:=sh107_2) (shB:=shb107_2) (shR:=shr107_2) kf76_ok.base (T:=fun (d:sh107_2.data)=>t107_2 d.1.1 d.1.2.1 d.1.2.2.1 d.1.2.2.2.1 d.1.2.2.2.2.1) (by kernel_rfl) rfl (fun (d:sh107_2.data)=>ok107_2_t d.1.1 d.1.2.1 d.1.2.2.1 d.1.2.2.2.1 d.1.2.2.2.2.1) (fun _=>rfl)
def kl107_2 (P:Go.Program):Known:=(kf76 P).loop 107 2 lc107_2
theorem kl107_2_ok:KnownOk Go.Proofs.Try.prog (kl107_2 Go.Proofs.Try.prog):=kf76_ok.loop ok107_2

/-! loop 0 of ductility/modal.divisorOf -/

abbrev sh107_0:Sh:={ n:=26,slots:=[5,9,10,11],pats:=[.ty (.int .i64),.ty (.slice (.int .i64)),.ty (.int .i64),.ty (.int .i64)],boxes:=[] }
abbrev shb107_0:Sh:={ n:=26,slots:=[5],pats:=[.ty (.int .i64)],boxes:=[] }
abbrev shr107_0:Sh:={ n:=26,slots:=[],pats:=[],boxes:=[] }

def t107_0 (x0:Int) (x1:(List Int)) (x2:Int) (x3:Int):Tr (Out sh107_0.data shb107_0.data shr107_0.data) :=
  Tr.test ((!leF x2 x3:Bool))
    (Tr.test (decide ((0:Int) ≤ x3) && decide (x3 < (↑(List.length x1):Int)))
      (Tr.test (isBrk (l107_2 ((x0,((List.getD x1 (Int.toNat x3) (0:Int):Int),(x1,(x2,(x3,()))))),())))
        (let r0:=b107_2 ((x0,((List.getD x1 (Int.toNat x3) (0:Int):Int),(x1,(x2,(x3,()))))),());
        Tr.fin (.again ((r0.1.1,(r0.1.2.1,(r0.1.2.2.1,((wrap64 (r0.1.2.2.2.1 + (1:Int)):Int),())))),())))
        (Tr.stop))
      (Tr.stop))
    (Tr.fin (.brk ((x0,()),())))

def s107_0 (d:sh107_0.data):Option (Out sh107_0.data shb107_0.data shr107_0.data):=(t107_0 d.1.1 d.1.2.1 d.1.2.2.1 d.1.2.2.2.1).val
def l107_0 (d:sh107_0.data):Option (shb107_0.data ⊕ shr107_0.data):=itr s107_0 rounds d
def b107_0 (d:sh107_0.data):shb107_0.data:=outB shb107_0.dflt (l107_0 d)
def lc107_0:LoopC:=lcB sh107_0 shb107_0 shr107_0 l107_0 b107_0

theorem wk107_0 (x0:Int) (x1:(List Int)) (x2:Int) (x3:Int):Walks (runBody (kl107_2 Go.Proofs.Try.prog).orc Go.Proofs.Try.prog 400 107 0 sh107_0 shb107_0 shr107_0 ((x0,x1,x2,x3,()),())) (t107_0 x0 x1 x2 x3) [([true,true,true],[1,2,4,6]),([ff],[2])] :=
  ⟨by kernel_rfl,by kernel_rfl,trivial⟩

theorem ok107_0_t (x0:Int) (x1:(List Int)) (x2:Int) (x3:Int):TrOk (BodyRuns Go.Proofs.Try.prog (kl107_2 Go.Proofs.Try.prog).orc 107 0 sh107_0 shb107_0 shr107_0 ((x0,x1,x2,x3,()),())) (t107_0 x0 x1 x2 x3) :=
  Walks.ok (fun _ _ _=>BodyRuns.of) (wk107_0 x0 x1 x2 x3) (by kernel_rfl)

theorem ok107_0:LoopOk Go.Proofs.Try.prog 107 0 lc107_0:=loopOk_ofB (sh:=sh107_0) (shB:=shb107_0) (shR:=shr107_0) kl107_2_ok.base (T:=fun (d:sh107_0.data)=>t107_0 d.1.1 d.1.2.1 d.1.2.2.1 d.1.2.2.2.1) (by kernel_rfl) rfl (fun (d:sh107_0.data)=>ok107_0_t d.1.1 d.1.2.1 d.1.2.2.1 d.1.2.2.2.1) (fun _=>rfl)
def kl107_0 (P:Go.Program):Known:=(kl107_2 P).loop 107 0 lc107_0
theorem kl107_0_ok:KnownOk Go.Proofs.Try.prog (kl107_0 Go.Proofs.Try.prog):=kl107_2_ok.loop ok107_0

/-! ductility/modal.divisorOf -/

abbrev as107:List Ty:=[(.int .i64),(.slice (.int .i64))]
abbrev rs107:List Ty:=[(.int .i64)]

def t107 (x0:Int) (x1:(List Int)):Tr (Tys.data rs107) :=
  Tr.test (isBrk (l107_0 ((x0,(x1,((↑(List.length x1):Int),((0:Int),())))),())))
    (let r0:=b107_0 ((x0,(x1,((↑(List.length x1):Int),((0:Int),())))),());
    Tr.fin (((if r0.1.1 < Go.IntKind.wrap Go.IntKind.i64 ((0:Int) - r0.1.1) then Go.IntKind.wrap Go.IntKind.i64 ((0:Int) - r0.1.1) else r0.1.1:Int),())))
    (Tr.stop)

def f107 (d:Tys.data as107):Option (Tys.data rs107):=(t107 d.1 d.2.1).val
def g107 (d:Tys.data as107):Tys.data rs107:=(f107 d).getD (Tys.dflt rs107)
def p107:PureC:=pcOf as107 rs107 f107 g107

theorem wk107 (x0:Int) (x1:(List Int)):Walks (runPure (kl107_0 Go.Proofs.Try.prog).orc Go.Proofs.Try.prog 400 107 as107 rs107 (x0,x1,())) (t107 x0 x1) [([tt],[1,2])] :=
  ⟨by kernel_rfl,trivial⟩

theorem ok107_t (x0:Int) (x1:(List Int)):TrOk (PureRuns Go.Proofs.Try.prog (kl107_0 Go.Proofs.Try.prog).orc 107 as107 rs107 (x0,x1,())) (t107 x0 x1) :=
  Walks.ok (fun _ _ _=>PureRuns.of) (wk107 x0 x1) (by kernel_rfl)

theorem ok107:PureOk Go.Proofs.Try.prog 107 p107:=pureOk_of kl107_0_ok.base (T:=fun (d:Tys.data as107)=>t107 d.1 d.2.1) (by kernel_rfl) (fun (d:Tys.data as107)=>ok107_t d.1 d.2.1)
def kf107 (P:Go.Program):Known:=(kl107_0 P).func 107 p107
theorem kf107_ok:KnownOk Go.Proofs.Try.prog (kf107 Go.Proofs.Try.prog):=kl107_0_ok.func ok107

/-! ductility/modal.fraction -/

abbrev as77:List Ty:=[(.int .i64),(.int .i64)]
abbrev rs77:List Ty:=[(.pair (.int .i64) (.pair (.int .i64) .unit))]

def t77 (x0:Int) (x1:Int):Tr (Tys.data rs77) :=
  Tr.test (Option.isSome (f107 (x1,(([x0]:List Int),()))))
    (let r0:=g107 (x1,(([x0]:List Int),()));
    Tr.test ((r0.1 == (0:Int):Bool))
      (Tr.stop)
      (Tr.fin ((((Go.IntKind.wrap Go.IntKind.i64 (Int.tdiv x0 r0.1):Int),((Go.IntKind.wrap Go.IntKind.i64 (Int.tdiv x1 r0.1):Int),())),()))))
    (Tr.stop)

def f77 (d:Tys.data as77):Option (Tys.data rs77):=(t77 d.1 d.2.1).val
def g77 (d:Tys.data as77):Tys.data rs77:=(f77 d).getD (Tys.dflt rs77)
def p77:PureC:=pcOf as77 rs77 f77 g77

theorem wk77 (x0:Int) (x1:Int):Walks (runPure (kf107 Go.Proofs.Try.prog).orc Go.Proofs.Try.prog 400 77 as77 rs77 (x0,x1,())) (t77 x0 x1) [([true,false],[2,2,4,1])] :=
  ⟨by kernel_rfl,trivial⟩

theorem ok77_t (x0:Int) (x1:Int):TrOk (PureRuns Go.Proofs.Try.prog (kf107 Go.Proofs.Try.prog).orc 77 as77 rs77 (x0,x1,())) (t77 x0 x1) :=
  Walks.ok (fun _ _ _=>PureRuns.of) (wk77 x0 x1) (by kernel_rfl)

theorem ok77:PureOk Go.Proofs.Try.prog 77 p77:=pureOk_of kf107_ok.base (T:=fun (d:Tys.data as77)=>t77 d.1 d.2.1) (by kernel_rfl) (fun (d:Tys.data as77)=>ok77_t d.1 d.2.1)
def kf77 (P:Go.Program):Known:=(kf107 P).func 77 p77
theorem kf77_ok:KnownOk Go.Proofs.Try.prog (kf77 Go.Proofs.Try.prog):=kf107_ok.func ok77

/-! ductility/modal.PeriodIn -/

abbrev as43:List Ty:=[(.pair (.slice (.int .i64)) (.pair (.int .i64) .unit))]
abbrev rs43:List Ty:=[(.pair (.pair (.int .i64) (.pair (.int .i64) .unit)) (.pair (.pair (.int .i64) (.pair (.int .i64) .unit)) .unit)),(.int .i64)]

def t43 (x0:(List Int)) (x0':Int):Tr (Tys.data rs43) :=
  Tr.test (Option.isSome (f75 ((x0,(x0',())),())))
    (let r0:=g75 ((x0,(x0',())),());
    Tr.test ((!eqF r0.2.1 0:Bool))
      (Tr.fin (((((0:Int),((0:Int),())),(((0:Int),((0:Int),())),())),(r0.2.1,()))))
      (Tr.test (Option.isSome (f76 (((r0.1.1.1,(r0.1.1.2.1,())),()),())))
        (let r1:=g76 (((r0.1.1.1,(r0.1.1.2.1,())),()),());
        Tr.test ((!leF (1:Int) (wrap64 ((↑(List.length r1.1):Int) - (1:Int))):Bool))
          (Tr.fin (((((0:Int),((0:Int),())),(((0:Int),((0:Int),())),())),((12:Int),()))))
          (Tr.test ((true && decide ((0:Int) < (↑(List.length r1.1):Int)):Bool))
            (Tr.test ((decide ((0:Int) ≤ wrap64 ((↑(List.length r1.1):Int) - (1:Int))) && decide (wrap64 ((↑(List.length r1.1):Int) - (1:Int)) < (↑(List.length r1.1):Int)):Bool))
              (Tr.test (Option.isSome (f77 ((wrap64 ((List.getD r1.1 (Int.toNat (wrap64 ((↑(List.length r1.1):Int) - (1:Int)))) ((0:Int),(0:Int),())).1 - (List.getD r1.1 (0:Nat) ((0:Int),(0:Int),())).2.1):Int),((wrap64 ((↑(List.length r1.1):Int) - (1:Int)):Int),()))))
                (Tr.test (Option.isSome (f77 ((wrap64 ((List.getD r1.1 (Int.toNat (wrap64 ((↑(List.length r1.1):Int) - (1:Int)))) ((0:Int),(0:Int),())).2.1 - (List.getD r1.1 (0:Nat) ((0:Int),(0:Int),())).1):Int),((wrap64 ((↑(List.length r1.1):Int) - (1:Int)):Int),()))))
                  (let r2:=g77 ((wrap64 ((List.getD r1.1 (Int.toNat (wrap64 ((↑(List.length r1.1):Int) - (1:Int)))) ((0:Int),(0:Int),())).1 - (List.getD r1.1 (0:Nat) ((0:Int),(0:Int),())).2.1):Int),((wrap64 ((↑(List.length r1.1):Int) - (1:Int)):Int),()));
                  let r3:=g77 ((wrap64 ((List.getD r1.1 (Int.toNat (wrap64 ((↑(List.length r1.1):Int) - (1:Int)))) ((0:Int),(0:Int),())).2.1 - (List.getD r1.1 (0:Nat) ((0:Int),(0:Int),())).1):Int),((wrap64 ((↑(List.length r1.1):Int) - (1:Int)):Int),()));
                  Tr.fin ((((r2.1.1,(r2.1.2.1,())),((r3.1.1,(r3.1.2.1,())),())),((0:Int),()))))
                  (Tr.stop))
                (Tr.stop))
              (Tr.stop))
            (Tr.stop)))
        (Tr.stop)))
    (Tr.stop)

def f43 (d:Tys.data as43):Option (Tys.data rs43):=(t43 d.1.1 d.1.2.1).val
def g43 (d:Tys.data as43):Tys.data rs43:=(f43 d).getD (Tys.dflt rs43)
def p43:PureC:=pcOf as43 rs43 f43 g43

theorem wk43 (x0:(List Int)) (x0':Int):Walks (runPure (kf77 Go.Proofs.Try.prog).orc Go.Proofs.Try.prog 400 43 as43 rs43 ((x0,x0',()),())) (t43 x0 x0') [([true,true],[2,4]),([true,false,true,true],[2,4,6,8]),([true,false,true,false,true,true,true,true],[2,4,6,8,10,12,14,16])] :=
  ⟨by kernel_rfl,by kernel_rfl,by kernel_rfl,trivial⟩

theorem ok43_t (x0:(List Int)) (x0':Int):TrOk (PureRuns Go.Proofs.Try.prog (kf77 Go.Proofs.Try.prog).orc 43 as43 rs43 ((x0,x0',()),())) (t43 x0 x0') :=
  Walks.ok (fun _ _ _=>PureRuns.of) (wk43 x0 x0') (by kernel_rfl)

theorem ok43:PureOk Go.Proofs.Try.prog 43 p43:=pureOk_of kf77_ok.base (T:=fun (d:Tys.data as43)=>t43 d.1.1 d.1.2.1) (by kernel_rfl) (fun (d:Tys.data as43)=>ok43_t d.1.1 d.1.2.1)
def kf43 (P:Go.Program):Known:=(kf77 P).func 43 p43
theorem kf43_ok:KnownOk Go.Proofs.Try.prog (kf43 Go.Proofs.Try.prog):=kf77_ok.func ok43

/-! loop 0 of ductility/modal.checkItems[ductility/api.Range] -/

abbrev sh104_0:Sh:={ n:=25,slots:=[1,9,10,11],pats:=[.fn 117 [(0,1),(1,1)],.ty (.slice (.pair (.int .i64) (.pair (.int .i64) .unit))),.ty (.int .i64),.ty (.int .i64)],boxes:=[.row [.ty (.int .i64)],.row [.ty (.int .i64)]] }
abbrev shb104_0:Sh:={ n:=25,slots:=[],pats:=[],boxes:=[.row [.ty (.int .i64)],.row [.ty (.int .i64)]] }
abbrev shr104_0:Sh:={ n:=25,slots:=[4,5],pats:=[.ty (.int .i64),.ty (.int .i64)],boxes:=[.row [.ty (.int .i64)],.row [.ty (.int .i64)]] }

def t104_0 (x1:(List (Int×(Int×Unit)))) (x2:Int) (x3:Int) (b0_0:Int) (b1_0:Int):Tr (Out sh104_0.data shb104_0.data shr104_0.data) :=
  Tr.test ((!leF x2 x3:Bool))
    (Tr.test (decide ((0:Int) ≤ x3) && decide (x3 < (↑(List.length x1):Int)))
      (Tr.test (Option.isSome (f51 (b0_0,(b1_0,(([(List.getD x1 (Int.toNat x3) ((0:Int),(0:Int),())).1,(List.getD x1 (Int.toNat x3) ((0:Int),(0:Int),())).2.1]:List Int),())))))
        (let r0:=g51 (b0_0,(b1_0,(([(List.getD x1 (Int.toNat x3) ((0:Int),(0:Int),())).1,(List.getD x1 (Int.toNat x3) ((0:Int),(0:Int),())).2.1]:List Int),())));
        Tr.test (Option.isSome (f52 ((!r0.1:Bool),((2:Int),()))))
          (Tr.test (Option.isSome (f52 ((!leF (List.getD x1 (Int.toNat x3) ((0:Int),(0:Int),())).1 (List.getD x1 (Int.toNat x3) ((0:Int),(0:Int),())).2.1:Bool),((9:Int),()))))
            (let r1:=g52 ((!r0.1:Bool),((2:Int),()));
            let r2:=g52 ((!leF (List.getD x1 (Int.toNat x3) ((0:Int),(0:Int),())).1 (List.getD x1 (Int.toNat x3) ((0:Int),(0:Int),())).2.1:Bool),((9:Int),()));
            Tr.test (Option.isSome (f72 (([r1.1,r2.1]:List Int),())))
              (let r3:=g72 (([r1.1,r2.1]:List Int),());
              Tr.test ((!eqF r3.1 0:Bool))
                (Tr.fin (.ret ((x3,(r3.1,())),((b0_0,()),((b1_0,()),())))))
                (Tr.fin (.again ((x1,(x2,((wrap64 (x3 + (1:Int)):Int),()))),((b0_0,()),((b1_0,()),()))))))
              (Tr.stop))
            (Tr.stop))
          (Tr.stop))
        (Tr.stop))
      (Tr.stop))
    (Tr.fin (.brk ((),((b0_0,()),((b1_0,()),())))))

def s104_0 (d:sh104_0.data):Option (Out sh104_0.data shb104_0.data shr104_0.data):=(t104_0 d.1.1 d.1.2.1 d.1.2.2.1 d.2.1.1 d.2.2.1.1).val
def l104_0 (d:sh104_0.data):Option (shb104_0.data ⊕ shr104_0.data):=itr s104_0 rounds d
def b104_0 (d:sh104_0.data):shb104_0.data:=outB shb104_0.dflt (l104_0 d)
def r104_0 (d:sh104_0.data):shr104_0.data:=outR shr104_0.dflt (l104_0 d)
def lc104_0:LoopC:=lcOf sh104_0 shb104_0 shr104_0 l104_0 b104_0 r104_0

theorem wk104_0 (x1:(List (Int×(Int×Unit)))) (x2:Int) (x3:Int) (b0_0:Int) (b1_0:Int):Walks (runBody (kf43 Go.Proofs.Try.prog).orc Go.Proofs.Try.prog 400 104 0 sh104_0 shb104_0 shr104_0 ((x1,x2,x3,()),(b0_0,()),(b1_0,()),())) (t104_0 x1 x2 x3 b0_0 b1_0) [([true,true,true,true,true,true,true],[2,4,1,6,8,10,1,12,14]),([true,true,true,true,true,true,false],[2,4,1,6,8,10,1,12,14]),([ff],[2])] :=
  ⟨by kernel_rfl,by kernel_rfl,by kernel_rfl,trivial⟩

theorem ok104_0_t (x1:(List (Int×(Int×Unit)))) (x2:Int) (x3:Int) (b0_0:Int) (b1_0:Int):TrOk (BodyRuns Go.Proofs.Try.prog (kf43 Go.Proofs.Try.prog).orc 104 0 sh104_0 shb104_0 shr104_0 ((x1,x2,x3,()),(b0_0,()),(b1_0,()),())) (t104_0 x1 x2 x3 b0_0 b1_0) :=
  Walks.ok (fun _ _ _=>BodyRuns.of) (wk104_0 x1 x2 x3 b0_0 b1_0) (by kernel_rfl)

theorem ok104_0:LoopOk Go.Proofs.Try.prog 104 0 lc104_0:=loopOk_of (sh:=sh104_0) (shB:=shb104_0) (shR:=shr104_0) kf43_ok.base (T:=fun (d:sh104_0.data)=>t104_0 d.1.1 d.1.2.1 d.1.2.2.1 d.2.1.1 d.2.2.1.1) (by kernel_rfl) rfl (fun (d:sh104_0.data)=>ok104_0_t d.1.1 d.1.2.1 d.1.2.2.1 d.2.1.1 d.2.2.1.1) (fun _=>rfl)
def kl104_0 (P:Go.Program):Known:=(kf43 P).loop 104 0 lc104_0
theorem kl104_0_ok:KnownOk Go.Proofs.Try.prog (kl104_0 Go.Proofs.Try.prog):=kf43_ok.loop ok104_0

/-! ductility/modal.endsError -/

abbrev as103:List Ty:=[(.slice (.pair (.int .i64) (.pair (.int .i64) .unit))),(.int .i64),(.int .i64)]
abbrev rs103:List Ty:=[(.int .i64)]

def t103 (x0:(List (Int×(Int×Unit)))) (x1:Int) (x2:Int):Tr (Tys.data rs103) :=
  Tr.test (Option.isSome (l104_0 ((x0,((↑(List.length x0):Int),((0:Int),()))),((x1,()),((x2,()),())))))
    (Tr.test (isRet (l104_0 ((x0,((↑(List.length x0):Int),((0:Int),()))),((x1,()),((x2,()),())))))
      (let r0:=r104_0 ((x0,((↑(List.length x0):Int),((0:Int),()))),((x1,()),((x2,()),())));
      Tr.fin ((r0.1.2.1,())))
      (Tr.fin (((0:Int),()))))
    (Tr.stop)

def f103 (d:Tys.data as103):Option (Tys.data rs103):=(t103 d.1 d.2.1 d.2.2.1).val
def g103 (d:Tys.data as103):Tys.data rs103:=(f103 d).getD (Tys.dflt rs103)
def p103:PureC:=pcOf as103 rs103 f103 g103

theorem wk103 (x0:(List (Int×(Int×Unit)))) (x1:Int) (x2:Int):Walks (runPure (kl104_0 Go.Proofs.Try.prog).orc Go.Proofs.Try.prog 400 103 as103 rs103 (x0,x1,x2,())) (t103 x0 x1 x2) [([true,true],[2,4]),([true,false],[2,4])] :=
  ⟨by kernel_rfl,by kernel_rfl,trivial⟩

theorem ok103_t (x0:(List (Int×(Int×Unit)))) (x1:Int) (x2:Int):TrOk (PureRuns Go.Proofs.Try.prog (kl104_0 Go.Proofs.Try.prog).orc 103 as103 rs103 (x0,x1,x2,())) (t103 x0 x1 x2) :=
  Walks.ok (fun _ _ _=>PureRuns.of) (wk103 x0 x1 x2) (by kernel_rfl)

theorem ok103:PureOk Go.Proofs.Try.prog 103 p103:=pureOk_of kl104_0_ok.base (T:=fun (d:Tys.data as103)=>t103 d.1 d.2.1 d.2.2.1) (by kernel_rfl) (fun (d:Tys.data as103)=>ok103_t d.1 d.2.1 d.2.2.1)
def kf103 (P:Go.Program):Known:=(kl104_0 P).func 103 p103
theorem kf103_ok:KnownOk Go.Proofs.Try.prog (kf103 Go.Proofs.Try.prog):=kl104_0_ok.func ok103

/-! ductility/modal.afterError -/

abbrev as67:List Ty:=[(.pair (.int .i64) (.pair (.slice (.pair (.int .i64) (.pair (.int .i64) .unit))) .unit)),(.int .i64)]
abbrev rs67:List Ty:=[(.int .i64)]

def t67 (x0:Int) (x0':(List (Int×(Int×Unit)))) (x1:Int):Tr (Tys.data rs67) :=
  Tr.test (Option.isSome (f53 (x0,())))
    (Tr.test (Option.isSome (f52 (!eqF (↑(List.length x0'):Int) x1,((10:Int),()))))
      (let r0:=g53 (x0,());
      let r1:=g52 ((!eqF (↑(List.length x0'):Int) x1:Bool),((10:Int),()));
      Tr.test (Option.isSome (f72 (([r0.1,r1.1]:List Int),())))
        (let r2:=g72 (([r0.1,r1.1]:List Int),());
        Tr.test ((!eqF r2.1 0:Bool))
          (Tr.fin ((r2.1,())))
          (Tr.test (Option.isSome (f103 (x0',((0:Int),((1000000000:Int),())))))
            (let r3:=g103 (x0',((0:Int),((1000000000:Int),())));
            Tr.fin ((r3.1,())))
            (Tr.stop)))
        (Tr.stop))
      (Tr.stop))
    (Tr.stop)

def f67 (d:Tys.data as67):Option (Tys.data rs67):=(t67 d.1.1 d.1.2.1 d.2.1).val
def g67 (d:Tys.data as67):Tys.data rs67:=(f67 d).getD (Tys.dflt rs67)
def p67:PureC:=pcOf as67 rs67 f67 g67

theorem wk67 (x0:Int) (x0':(List (Int×(Int×Unit)))) (x1:Int):Walks (runPure (kf103 Go.Proofs.Try.prog).orc Go.Proofs.Try.prog 400 67 as67 rs67 ((x0,x0',()),x1,())) (t67 x0 x0' x1) [([true,true,true,true],[2,4,1,6,8]),([true,true,true,false,true],[2,4,6,1,8,10])] :=
  ⟨by kernel_rfl,by kernel_rfl,trivial⟩

theorem ok67_t (x0:Int) (x0':(List (Int×(Int×Unit)))) (x1:Int):TrOk (PureRuns Go.Proofs.Try.prog (kf103 Go.Proofs.Try.prog).orc 67 as67 rs67 ((x0,x0',()),x1,())) (t67 x0 x0' x1) :=
  Walks.ok (fun _ _ _=>PureRuns.of) (wk67 x0 x0' x1) (by kernel_rfl)

theorem ok67:PureOk Go.Proofs.Try.prog 67 p67:=pureOk_of kf103_ok.base (T:=fun (d:Tys.data as67)=>t67 d.1.1 d.1.2.1 d.2.1) (by kernel_rfl) (fun (d:Tys.data as67)=>ok67_t d.1.1 d.1.2.1 d.2.1)
def kf67 (P:Go.Program):Known:=(kf103 P).func 67 p67
theorem kf67_ok:KnownOk Go.Proofs.Try.prog (kf67 Go.Proofs.Try.prog):=kf103_ok.func ok67

/-! loop 0 of ductility/modal.agreed -/

abbrev sh74_0:Sh:={ n:=34,slots:=[4,6,10,11,12],pats:=[.ptr 0 2 0,.ptr 1 2 0,.ty (.slice (.pair (.int .i64) (.pair (.int .i64) .unit))),.ty (.int .i64),.ty (.int .i64)],boxes:=[.row [.ty (.int .i64),.ty (.int .i64)],.row [.ty (.int .i64),.ty (.int .i64)]] }
abbrev shb74_0:Sh:={ n:=34,slots:=[4,6],pats:=[.ptr 0 2 0,.ptr 1 2 0],boxes:=[.row [.ty (.int .i64),.ty (.int .i64)],.row [.ty (.int .i64),.ty (.int .i64)]] }
abbrev shr74_0:Sh:={ n:=34,slots:=[],pats:=[],boxes:=[.row [.ty (.int .i64),.ty (.int .i64)],.row [.ty (.int .i64),.ty (.int .i64)]] }

def t74_0 (x2:(List (Int×(Int×Unit)))) (x3:Int) (x4:Int) (b0_0:Int) (b0_1:Int) (b1_0:Int) (b1_1:Int):Tr (Out sh74_0.data shb74_0.data shr74_0.data) :=
  Tr.test ((!leF x3 x4:Bool))
    (Tr.test (decide ((0:Int) ≤ x4) && decide (x4 < (↑(List.length x2):Int)))
      (Tr.fin (.again ((x2,(x3,((wrap64 (x4 + (1:Int)):Int),()))),((b0_0,(b0_1,())),(((if b1_0 < (List.getD x2 (Int.toNat x4) ((0:Int),(0:Int),())).1 then (List.getD x2 (Int.toNat x4) ((0:Int),(0:Int),())).1 else b1_0:Int),((if (List.getD x2 (Int.toNat x4) ((0:Int),(0:Int),())).2.1 < b1_1 then (List.getD x2 (Int.toNat x4) ((0:Int),(0:Int),())).2.1 else b1_1:Int),())),())))))
      (Tr.stop))
    (Tr.fin (.brk ((),((b0_0,(b0_1,())),((b1_0,(b1_1,())),())))))

def s74_0 (d:sh74_0.data):Option (Out sh74_0.data shb74_0.data shr74_0.data):=(t74_0 d.1.1 d.1.2.1 d.1.2.2.1 d.2.1.1 d.2.1.2.1 d.2.2.1.1 d.2.2.1.2.1).val
def l74_0 (d:sh74_0.data):Option (shb74_0.data ⊕ shr74_0.data):=itr s74_0 rounds d
def b74_0 (d:sh74_0.data):shb74_0.data:=outB shb74_0.dflt (l74_0 d)
def lc74_0:LoopC:=lcB sh74_0 shb74_0 shr74_0 l74_0 b74_0

theorem wk74_0 (x2:(List (Int×(Int×Unit)))) (x3:Int) (x4:Int) (b0_0:Int) (b0_1:Int) (b1_0:Int) (b1_1:Int):Walks (runBody (kf67 Go.Proofs.Try.prog).orc Go.Proofs.Try.prog 400 74 0 sh74_0 shb74_0 shr74_0 ((x2,x3,x4,()),(b0_0,b0_1,()),(b1_0,b1_1,()),())) (t74_0 x2 x3 x4 b0_0 b0_1 b1_0 b1_1) [([true,true],[2,4]),([ff],[2])] :=
  ⟨by kernel_rfl,by kernel_rfl,trivial⟩

theorem ok74_0_t (x2:(List (Int×(Int×Unit)))) (x3:Int) (x4:Int) (b0_0:Int) (b0_1:Int) (b1_0:Int) (b1_1:Int):TrOk (BodyRuns Go.Proofs.Try.prog (kf67 Go.Proofs.Try.prog).orc 74 0 sh74_0 shb74_0 shr74_0 ((x2,x3,x4,()),(b0_0,b0_1,()),(b1_0,b1_1,()),())) (t74_0 x2 x3 x4 b0_0 b0_1 b1_0 b1_1) :=
  Walks.ok (fun _ _ _=>BodyRuns.of) (wk74_0 x2 x3 x4 b0_0 b0_1 b1_0 b1_1) (by kernel_rfl)

theorem ok74_0:LoopOk Go.Proofs.Try.prog 74 0 lc74_0:=loopOk_ofB (sh:=sh74_0) (shB:=shb74_0) (shR:=shr74_0) kf67_ok.base (T:=fun (d:sh74_0.data)=>t74_0 d.1.1 d.1.2.1 d.1.2.2.1 d.2.1.1 d.2.1.2.1 d.2.2.1.1 d.2.2.1.2.1) (by kernel_rfl) rfl (fun (d:sh74_0.data)=>ok74_0_t d.1.1 d.1.2.1 d.1.2.2.1 d.2.1.1 d.2.1.2.1 d.2.2.1.1 d.2.2.1.2.1) (fun _=>rfl)
def kl74_0 (P:Go.Program):Known:=(kf67 P).loop 74 0 lc74_0
theorem kl74_0_ok:KnownOk Go.Proofs.Try.prog (kl74_0 Go.Proofs.Try.prog):=kf67_ok.loop ok74_0

/-! ductility/modal.agreed -/

abbrev as74:List Ty:=[(.pair (.int .i64) (.pair (.int .i64) .unit)),(.slice (.pair (.int .i64) (.pair (.int .i64) .unit)))]
abbrev rs74:List Ty:=[(.pair (.int .i64) (.pair (.int .i64) .unit)),.bool]

def t74 (x0:Int) (x0':Int) (x1:(List (Int×(Int×Unit)))):Tr (Tys.data rs74) :=
  Tr.test (isBrk (l74_0 ((x1,((↑(List.length x1):Int),((0:Int),()))),(((0:Int),((0:Int),())),((x0,(x0',())),())))))
    (let r0:=b74_0 ((x1,((↑(List.length x1):Int),((0:Int),()))),(((0:Int),((0:Int),())),((x0,(x0',())),())));
    Tr.fin (((r0.2.2.1.1,(r0.2.2.1.2.1,())),((decide (r0.2.2.1.1 ≤ r0.2.2.1.2.1):Bool),()))))
    (Tr.stop)

def f74 (d:Tys.data as74):Option (Tys.data rs74):=(t74 d.1.1 d.1.2.1 d.2.1).val
def g74 (d:Tys.data as74):Tys.data rs74:=(f74 d).getD (Tys.dflt rs74)
def p74:PureC:=pcOf as74 rs74 f74 g74

theorem wk74 (x0:Int) (x0':Int) (x1:(List (Int×(Int×Unit)))):Walks (runPure (kl74_0 Go.Proofs.Try.prog).orc Go.Proofs.Try.prog 400 74 as74 rs74 ((x0,x0',()),x1,())) (t74 x0 x0' x1) [([tt],[1,2])] :=
  ⟨by kernel_rfl,trivial⟩

theorem ok74_t (x0:Int) (x0':Int) (x1:(List (Int×(Int×Unit)))):TrOk (PureRuns Go.Proofs.Try.prog (kl74_0 Go.Proofs.Try.prog).orc 74 as74 rs74 ((x0,x0',()),x1,())) (t74 x0 x0' x1) :=
  Walks.ok (fun _ _ _=>PureRuns.of) (wk74 x0 x0' x1) (by kernel_rfl)

theorem ok74:PureOk Go.Proofs.Try.prog 74 p74:=pureOk_of kl74_0_ok.base (T:=fun (d:Tys.data as74)=>t74 d.1.1 d.1.2.1 d.2.1) (by kernel_rfl) (fun (d:Tys.data as74)=>ok74_t d.1.1 d.1.2.1 d.2.1)
def kf74 (P:Go.Program):Known:=(kl74_0 P).func 74 p74
theorem kf74_ok:KnownOk Go.Proofs.Try.prog (kf74 Go.Proofs.Try.prog):=kl74_0_ok.func ok74

/-! loop 0 of ductility/modal.checkItems[ductility/api.Range] -/

abbrev sh104_0_1:Sh:={ n:=25,slots:=[1,9,10,11],pats:=[.fn 105 [(0,2),(1,2)],.ty (.slice (.pair (.int .i64) (.pair (.int .i64) .unit))),.ty (.int .i64),.ty (.int .i64)],boxes:=[.row [.ty (.slice (.int .i64)),.ty (.slice (.int .i64))],.row [.ty (.int .i64),.ty (.slice (.pair (.int .i64) (.pair (.int .i64) .unit)))]] }
abbrev shb104_0_1:Sh:={ n:=25,slots:=[],pats:=[],boxes:=[.row [.ty (.slice (.int .i64)),.ty (.slice (.int .i64))],.row [.ty (.int .i64),.ty (.slice (.pair (.int .i64) (.pair (.int .i64) .unit)))]] }
abbrev shr104_0_1:Sh:={ n:=25,slots:=[4,5],pats:=[.ty (.int .i64),.ty (.int .i64)],boxes:=[.row [.ty (.slice (.int .i64)),.ty (.slice (.int .i64))],.row [.ty (.int .i64),.ty (.slice (.pair (.int .i64) (.pair (.int .i64) .unit)))]] }

def t104_0_1 (x1:(List (Int×(Int×Unit)))) (x2:Int) (x3:Int) (b0_0:(List Int)) (b0_1:(List Int)) (b1_0:Int) (b1_1:(List (Int×(Int×Unit)))):Tr (Out sh104_0_1.data shb104_0_1.data shr104_0_1.data) :=
  Tr.test ((!leF x2 x3:Bool))
    (Tr.test (decide ((0:Int) ≤ x3) && decide (x3 < (↑(List.length x1):Int)))
      (Tr.test (Option.isSome (f54 (((b0_0,(b0_1,())),()),(x3,(b1_0,())))))
        (let r0:=g54 (((b0_0,(b0_1,())),()),(x3,(b1_0,())));
        Tr.test (Option.isSome (f74 ((r0.1.1,(r0.1.2.1,())),(([((List.getD x1 (Int.toNat x3) ((0:Int),(0:Int),())).1,(List.getD x1 (Int.toNat x3) ((0:Int),(0:Int),())).2.1,())]:List (Int×Int×PUnit)),()))))
          (let r1:=g74 ((r0.1.1,(r0.1.2.1,())),(([((List.getD x1 (Int.toNat x3) ((0:Int),(0:Int),())).1,(List.getD x1 (Int.toNat x3) ((0:Int),(0:Int),())).2.1,())]:List (Int×Int×PUnit)),()));
          Tr.test (Option.isSome (f52 ((!r1.2.1:Bool),((19:Int),()))))
            (let r2:=g52 ((!r1.2.1:Bool),((19:Int),()));
            Tr.test ((!eqF r2.1 0:Bool))
              (Tr.fin (.ret ((x3,(r2.1,())),((b0_0,(b0_1,())),((b1_0,(b1_1,())),())))))
              (Tr.fin (.again ((x1,(x2,((wrap64 (x3 + (1:Int)):Int),()))),((b0_0,(b0_1,())),((b1_0,(b1_1,())),()))))))
            (Tr.stop))
          (Tr.stop))
        (Tr.stop))
      (Tr.stop))
    (Tr.fin (.brk ((),((b0_0,(b0_1,())),((b1_0,(b1_1,())),())))))

def s104_0_1 (d:sh104_0_1.data):Option (Out sh104_0_1.data shb104_0_1.data shr104_0_1.data):=(t104_0_1 d.1.1 d.1.2.1 d.1.2.2.1 d.2.1.1 d.2.1.2.1 d.2.2.1.1 d.2.2.1.2.1).val
def l104_0_1 (d:sh104_0_1.data):Option (shb104_0_1.data ⊕ shr104_0_1.data):=itr s104_0_1 rounds d
def b104_0_1 (d:sh104_0_1.data):shb104_0_1.data:=outB shb104_0_1.dflt (l104_0_1 d)
def r104_0_1 (d:sh104_0_1.data):shr104_0_1.data:=outR shr104_0_1.dflt (l104_0_1 d)
def lc104_0_1:LoopC:=lcOf sh104_0_1 shb104_0_1 shr104_0_1 l104_0_1 b104_0_1 r104_0_1

theorem wk104_0_1 (x1:(List (Int×(Int×Unit)))) (x2:Int) (x3:Int) (b0_0:(List Int)) (b0_1:(List Int)) (b1_0:Int) (b1_1:(List (Int×(Int×Unit)))):Walks (runBody (kf74 Go.Proofs.Try.prog).orc Go.Proofs.Try.prog 400 104 0 sh104_0_1 shb104_0_1 shr104_0_1 ((x1,x2,x3,()),(b0_0,b0_1,()),(b1_0,b1_1,()),())) (t104_0_1 x1 x2 x3 b0_0 b0_1 b1_0 b1_1) [([true,true,true,true,true,true],[2,4,6,1,8,10,12]),([true,true,true,true,true,false],[2,4,6,1,8,10,12]),([ff],[2])] :=
  ⟨by kernel_rfl,by kernel_rfl,by kernel_rfl,trivial⟩

theorem ok104_0_1_t (x1:(List (Int×(Int×Unit)))) (x2:Int) (x3:Int) (b0_0:(List Int)) (b0_1:(List Int)) (b1_0:Int) (b1_1:(List (Int×(Int×Unit)))):TrOk (BodyRuns Go.Proofs.Try.prog (kf74 Go.Proofs.Try.prog).orc 104 0 sh104_0_1 shb104_0_1 shr104_0_1 ((x1,x2,x3,()),(b0_0,b0_1,()),(b1_0,b1_1,()),())) (t104_0_1 x1 x2 x3 b0_0 b0_1 b1_0 b1_1) :=
  Walks.ok (fun _ _ _=>BodyRuns.of) (wk104_0_1 x1 x2 x3 b0_0 b0_1 b1_0 b1_1) (by kernel_rfl)

theorem ok104_0_1:LoopOk Go.Proofs.Try.prog 104 0 lc104_0_1:=loopOk_of (sh:=sh104_0_1) (shB:=shb104_0_1) (shR:=shr104_0_1) kf74_ok.base (T:=fun (d:sh104_0_1.data)=>t104_0_1 d.1.1 d.1.2.1 d.1.2.2.1 d.2.1.1 d.2.1.2.1 d.2.2.1.1 d.2.2.1.2.1) (by kernel_rfl) rfl (fun (d:sh104_0_1.data)=>ok104_0_1_t d.1.1 d.1.2.1 d.1.2.2.1 d.2.1.1 d.2.1.2.1 d.2.2.1.1 d.2.2.1.2.1) (fun _=>rfl)
def kl104_0_1 (P:Go.Program):Known:=(kf74 P).loop 104 0 lc104_0_1
theorem kl104_0_1_ok:KnownOk Go.Proofs.Try.prog (kl104_0_1 Go.Proofs.Try.prog):=kf74_ok.loop ok104_0_1

/-! (ductility/modal.frame).proofError -/

abbrev as70:List Ty:=[(.pair (.pair (.slice (.int .i64)) (.pair (.slice (.int .i64)) .unit)) .unit),(.pair (.int .i64) (.pair (.slice (.pair (.int .i64) (.pair (.int .i64) .unit))) .unit))]
abbrev rs70:List Ty:=[(.int .i64),(.int .i64)]

def t70 (x0_:(List Int)) (x0_':(List Int)) (x1:Int) (x1':(List (Int×(Int×Unit)))):Tr (Tys.data rs70) :=
  Tr.test (Option.isSome (l104_0_1 ((x1',((↑(List.length x1'):Int),((0:Int),()))),((x0_,(x0_',())),((x1,(x1',())),())))))
    (Tr.test (isRet (l104_0_1 ((x1',((↑(List.length x1'):Int),((0:Int),()))),((x0_,(x0_',())),((x1,(x1',())),())))))
      (let r0:=r104_0_1 ((x1',((↑(List.length x1'):Int),((0:Int),()))),((x0_,(x0_',())),((x1,(x1',())),())));
      Tr.fin ((r0.1.1,(r0.1.2.1,()))))
      (Tr.fin (((0:Int),((0:Int),())))))
    (Tr.stop)

def f70 (d:Tys.data as70):Option (Tys.data rs70):=(t70 d.1.1.1 d.1.1.2.1 d.2.1.1 d.2.1.2.1).val
def g70 (d:Tys.data as70):Tys.data rs70:=(f70 d).getD (Tys.dflt rs70)
def p70:PureC:=pcOf as70 rs70 f70 g70

theorem wk70 (x0_:(List Int)) (x0_':(List Int)) (x1:Int) (x1':(List (Int×(Int×Unit)))):Walks (runPure (kl104_0_1 Go.Proofs.Try.prog).orc Go.Proofs.Try.prog 400 70 as70 rs70 (((x0_,x0_',()),()),(x1,x1',()),())) (t70 x0_ x0_' x1 x1') [([true,true],[2,4]),([true,false],[2,4])] :=
  ⟨by kernel_rfl,by kernel_rfl,trivial⟩

theorem ok70_t (x0_:(List Int)) (x0_':(List Int)) (x1:Int) (x1':(List (Int×(Int×Unit)))):TrOk (PureRuns Go.Proofs.Try.prog (kl104_0_1 Go.Proofs.Try.prog).orc 70 as70 rs70 (((x0_,x0_',()),()),(x1,x1',()),())) (t70 x0_ x0_' x1 x1') :=
  Walks.ok (fun _ _ _=>PureRuns.of) (wk70 x0_ x0_' x1 x1') (by kernel_rfl)

theorem ok70:PureOk Go.Proofs.Try.prog 70 p70:=pureOk_of kl104_0_1_ok.base (T:=fun (d:Tys.data as70)=>t70 d.1.1.1 d.1.1.2.1 d.2.1.1 d.2.1.2.1) (by kernel_rfl) (fun (d:Tys.data as70)=>ok70_t d.1.1.1 d.1.1.2.1 d.2.1.1 d.2.1.2.1)
def kf70 (P:Go.Program):Known:=(kl104_0_1 P).func 70 p70
theorem kf70_ok:KnownOk Go.Proofs.Try.prog (kf70 Go.Proofs.Try.prog):=kl104_0_1_ok.func ok70

/-! loop 0 of (ductility/modal.frame).leftAt -/

abbrev sh68_0:Sh:={ n:=33,slots:=[1,3,5,7],pats:=[.ty (.int .i64),.ptr 0 2 0,.ptr 1 2 0,.ty (.int .i64)],boxes:=[.row [.ty (.slice (.int .i64)),.ty (.slice (.int .i64))],.row [.ty (.int .i64),.ty (.slice (.pair (.int .i64) (.pair (.int .i64) .unit)))]] }
abbrev shb68_0:Sh:={ n:=33,slots:=[7],pats:=[.ty (.int .i64)],boxes:=[.row [.ty (.slice (.int .i64)),.ty (.slice (.int .i64))],.row [.ty (.int .i64),.ty (.slice (.pair (.int .i64) (.pair (.int .i64) .unit)))]] }
abbrev shr68_0:Sh:={ n:=33,slots:=[],pats:=[],boxes:=[.row [.ty (.slice (.int .i64)),.ty (.slice (.int .i64))],.row [.ty (.int .i64),.ty (.slice (.pair (.int .i64) (.pair (.int .i64) .unit)))]] }

def t68_0 (x0:Int) (x3:Int) (b0_0:(List Int)) (b0_1:(List Int)) (b1_0:Int) (b1_1:(List (Int×(Int×Unit)))):Tr (Out sh68_0.data shb68_0.data shr68_0.data) :=
  Tr.test ((!leF x3 0:Bool))
    (Tr.test (Nat.beq (List.length b0_1) (0:Nat))
      (Tr.stop)
      (Tr.test ((Nat.ble ((0:Nat) + List.length b0_1) (0:Nat):Bool))
        (Tr.stop)
        (Tr.test ((Nat.ble (((2:Nat) * ((0:Nat) + List.length b0_1) + (192:Nat)) * (8:Nat)) (281474976710656:Nat) && Nat.ble ((0:Nat) + List.length b0_1) (281474976710656:Nat):Bool))
          (Tr.test ((decide ((0:Int) ≤ x0) && decide (x0 < (↑((0:Nat) + List.length b0_1):Int)):Bool))
            (Tr.test ((Nat.ble ((0:Nat) + Int.toNat x0 + (1:Nat)) (List.length ([]++b0_1)):Bool))
              (Tr.test ((Nat.beq ((0:Nat) + List.length b0_1) (List.length (List.set ([]++b0_1) ((0:Nat) + Int.toNat x0) x3)):Bool))
                (Tr.test (Option.isSome (f70 (((b0_0,((List.set ([]++b0_1) ((0:Nat) + Int.toNat x0) x3:List Int),())),()),((b1_0,(b1_1,())),()))))
                  (let r0:=g70 (((b0_0,((List.set ([]++b0_1) ((0:Nat) + Int.toNat x0) x3:List Int),())),()),((b1_0,(b1_1,())),()));
                  Tr.test ((eqF r0.2.1 0:Bool))
                    (Tr.fin (.brk ((x3,()),((b0_0,(b0_1,())),((b1_0,(b1_1,())),())))))
                    (Tr.fin (.again ((x0,((wrap64 (x3 - (1:Int)):Int),())),((b0_0,(b0_1,())),((b1_0,(b1_1,())),()))))))
                  (Tr.stop))
                (Tr.stop))
              (Tr.stop))
            (Tr.stop))
          (Tr.stop))))
    (Tr.fin (.brk ((x3,()),((b0_0,(b0_1,())),((b1_0,(b1_1,())),())))))

def s68_0 (d:sh68_0.data):Option (Out sh68_0.data shb68_0.data shr68_0.data):=(t68_0 d.1.1 d.1.2.1 d.2.1.1 d.2.1.2.1 d.2.2.1.1 d.2.2.1.2.1).val
def l68_0 (d:sh68_0.data):Option (shb68_0.data ⊕ shr68_0.data):=itr s68_0 rounds d
def b68_0 (d:sh68_0.data):shb68_0.data:=outB shb68_0.dflt (l68_0 d)
def lc68_0:LoopC:=lcB sh68_0 shb68_0 shr68_0 l68_0 b68_0

theorem wk68_0 (x0:Int) (x3:Int) (b0_0:(List Int)) (b0_1:(List Int)) (b1_0:Int) (b1_1:(List (Int×(Int×Unit)))):Walks (runBody (kf70 Go.Proofs.Try.prog).orc Go.Proofs.Try.prog 400 68 0 sh68_0 shb68_0 shr68_0 ((x0,x3,()),(b0_0,b0_1,()),(b1_0,b1_1,()),())) (t68_0 x0 x3 b0_0 b0_1 b1_0 b1_1) [([true,false,false,true,true,true,true,true,true],[2,4,6,8,10,12,14,16,0,16,18]),([true,false,false,true,true,true,true,true,false],[2,4,6,8,10,12,14,16,0,16,18]),([ff],[2])] :=
  ⟨by kernel_rfl,by kernel_rfl,by kernel_rfl,trivial⟩

theorem ok68_0_t (x0:Int) (x3:Int) (b0_0:(List Int)) (b0_1:(List Int)) (b1_0:Int) (b1_1:(List (Int×(Int×Unit)))):TrOk (BodyRuns Go.Proofs.Try.prog (kf70 Go.Proofs.Try.prog).orc 68 0 sh68_0 shb68_0 shr68_0 ((x0,x3,()),(b0_0,b0_1,()),(b1_0,b1_1,()),())) (t68_0 x0 x3 b0_0 b0_1 b1_0 b1_1) :=
  Walks.ok (fun _ _ _=>BodyRuns.of) (wk68_0 x0 x3 b0_0 b0_1 b1_0 b1_1) (by kernel_rfl)

theorem ok68_0:LoopOk Go.Proofs.Try.prog 68 0 lc68_0:=loopOk_ofB (sh:=sh68_0) (shB:=shb68_0) (shR:=shr68_0) kf70_ok.base (T:=fun (d:sh68_0.data)=>t68_0 d.1.1 d.1.2.1 d.2.1.1 d.2.1.2.1 d.2.2.1.1 d.2.2.1.2.1) (by kernel_rfl) rfl (fun (d:sh68_0.data)=>ok68_0_t d.1.1 d.1.2.1 d.2.1.1 d.2.1.2.1 d.2.2.1.1 d.2.2.1.2.1) (fun _=>rfl)
def kl68_0 (P:Go.Program):Known:=(kf70 P).loop 68 0 lc68_0
theorem kl68_0_ok:KnownOk Go.Proofs.Try.prog (kl68_0 Go.Proofs.Try.prog):=kf70_ok.loop ok68_0

/-! (ductility/modal.frame).leftAt -/

abbrev as68:List Ty:=[(.pair (.pair (.slice (.int .i64)) (.pair (.slice (.int .i64)) .unit)) .unit),(.int .i64),(.pair (.int .i64) (.pair (.slice (.pair (.int .i64) (.pair (.int .i64) .unit))) .unit))]
abbrev rs68:List Ty:=[(.int .i64)]

def t68 (x0_:(List Int)) (x0_':(List Int)) (x1:Int) (x2:Int) (x2':(List (Int×(Int×Unit)))):Tr (Tys.data rs68) :=
  Tr.test ((decide ((0:Int) ≤ x1) && decide (x1 < (↑(List.length x0_'):Int)):Bool))
    (Tr.test (isBrk (l68_0 ((x1,((List.getD x0_' (Int.toNat x1) (0:Int):Int),())),((x0_,(x0_',())),((x2,(x2',())),())))))
      (let r0:=b68_0 ((x1,((List.getD x0_' (Int.toNat x1) (0:Int):Int),())),((x0_,(x0_',())),((x2,(x2',())),())));
      Tr.fin ((r0.1.1,())))
      (Tr.stop))
    (Tr.stop)

def f68 (d:Tys.data as68):Option (Tys.data rs68):=(t68 d.1.1.1 d.1.1.2.1 d.2.1 d.2.2.1.1 d.2.2.1.2.1).val
def g68 (d:Tys.data as68):Tys.data rs68:=(f68 d).getD (Tys.dflt rs68)
def p68:PureC:=pcOf as68 rs68 f68 g68

theorem wk68 (x0_:(List Int)) (x0_':(List Int)) (x1:Int) (x2:Int) (x2':(List (Int×(Int×Unit)))):Walks (runPure (kl68_0 Go.Proofs.Try.prog).orc Go.Proofs.Try.prog 400 68 as68 rs68 (((x0_,x0_',()),()),x1,(x2,x2',()),())) (t68 x0_ x0_' x1 x2 x2') [([true,true],[1,2,4])] :=
  ⟨by kernel_rfl,trivial⟩

theorem ok68_t (x0_:(List Int)) (x0_':(List Int)) (x1:Int) (x2:Int) (x2':(List (Int×(Int×Unit)))):TrOk (PureRuns Go.Proofs.Try.prog (kl68_0 Go.Proofs.Try.prog).orc 68 as68 rs68 (((x0_,x0_',()),()),x1,(x2,x2',()),())) (t68 x0_ x0_' x1 x2 x2') :=
  Walks.ok (fun _ _ _=>PureRuns.of) (wk68 x0_ x0_' x1 x2 x2') (by kernel_rfl)

theorem ok68:PureOk Go.Proofs.Try.prog 68 p68:=pureOk_of kl68_0_ok.base (T:=fun (d:Tys.data as68)=>t68 d.1.1.1 d.1.1.2.1 d.2.1 d.2.2.1.1 d.2.2.1.2.1) (by kernel_rfl) (fun (d:Tys.data as68)=>ok68_t d.1.1.1 d.1.1.2.1 d.2.1 d.2.2.1.1 d.2.2.1.2.1)
def kf68 (P:Go.Program):Known:=(kl68_0 P).func 68 p68
theorem kf68_ok:KnownOk Go.Proofs.Try.prog (kf68 Go.Proofs.Try.prog):=kl68_0_ok.func ok68

/-! loop 0 of ductility/modal.ExplainedBy -/

abbrev sh32_0:Sh:={ n:=61,slots:=[2,3,4,6,8,28,29,30],pats:=[.ptr 0 2 0,.ptr 1 2 0,.ptr 2 2 0,.ptr 3 2 0,.ptr 4 2 0,.ty (.slice (.int .i64)),.ty (.int .i64),.ty (.int .i64)],boxes:=[.row [.ty (.slice (.int .i64)),.ty (.slice (.int .i64))],.row [.ty (.int .i64),.ty (.slice (.pair (.int .i64) (.pair (.int .i64) .unit)))],.row [.ty (.int .i64),.ty (.int .i64)],.row [.ty (.slice (.int .i64)),.ty (.slice (.int .i64))],.row [.ty (.int .i64),.ty (.int .i64)]] }
abbrev shb32_0:Sh:={ n:=61,slots:=[4,8],pats:=[.ptr 2 2 0,.ptr 4 2 0],boxes:=[.row [.ty (.slice (.int .i64)),.ty (.slice (.int .i64))],.row [.ty (.int .i64),.ty (.slice (.pair (.int .i64) (.pair (.int .i64) .unit)))],.row [.ty (.int .i64),.ty (.int .i64)],.row [.ty (.slice (.int .i64)),.ty (.slice (.int .i64))],.row [.ty (.int .i64),.ty (.int .i64)]] }
abbrev shr32_0:Sh:={ n:=61,slots:=[],pats:=[],boxes:=[.row [.ty (.slice (.int .i64)),.ty (.slice (.int .i64))],.row [.ty (.int .i64),.ty (.slice (.pair (.int .i64) (.pair (.int .i64) .unit)))],.row [.ty (.int .i64),.ty (.int .i64)],.row [.ty (.slice (.int .i64)),.ty (.slice (.int .i64))],.row [.ty (.int .i64),.ty (.int .i64)]] }

def t32_0 (x5:(List Int)) (x6:Int) (x7:Int) (b0_0:(List Int)) (b0_1:(List Int)) (b1_0:Int) (b1_1:(List (Int×(Int×Unit)))) (b2_0:Int) (b2_1:Int) (b3_0:(List Int)) (b3_1:(List Int)) (b4_0:Int) (b4_1:Int):Tr (Out sh32_0.data shb32_0.data shr32_0.data) :=
  Tr.test ((!leF x6 x7:Bool))
    (Tr.test (decide ((0:Int) ≤ x7) && decide (x7 < (↑(List.length x5):Int)))
      (Tr.test (Option.isSome (f68 (((b3_0,(b3_1,())),()),(x7,((b1_0,(b1_1,())),())))))
        (Tr.test ((decide ((0:Int) ≤ b4_0) && decide (b4_0 < (↑(List.length b0_1):Int)):Bool))
          (let r0:=g68 (((b3_0,(b3_1,())),()),(x7,((b1_0,(b1_1,())),())));
          Tr.test ((!leF (wrap64 (r0.1 * List.getD b0_1 (Int.toNat b4_0) (0:Int))) (wrap64 (b4_1 * List.getD x5 (Int.toNat x7) (0:Int))):Bool))
            (Tr.fin (.again ((x5,(x6,((wrap64 (x7 + (1:Int)):Int),()))),((b0_0,(b0_1,())),((b1_0,(b1_1,())),((b2_0,(b2_1,())),((b3_0,(b3_1,())),((x7,(r0.1,())),()))))))))
            (Tr.fin (.again ((x5,(x6,((wrap64 (x7 + (1:Int)):Int),()))),((b0_0,(b0_1,())),((b1_0,(b1_1,())),((b2_0,(b2_1,())),((b3_0,(b3_1,())),((b4_0,(b4_1,())),())))))))))
          (Tr.stop))
        (Tr.stop))
      (Tr.stop))
    (Tr.fin (.brk ((),((b0_0,(b0_1,())),((b1_0,(b1_1,())),((b2_0,(b2_1,())),((b3_0,(b3_1,())),((b4_0,(b4_1,())),()))))))))

def s32_0 (d:sh32_0.data):Option (Out sh32_0.data shb32_0.data shr32_0.data):=(t32_0 d.1.1 d.1.2.1 d.1.2.2.1 d.2.1.1 d.2.1.2.1 d.2.2.1.1 d.2.2.1.2.1 d.2.2.2.1.1 d.2.2.2.1.2.1 d.2.2.2.2.1.1 d.2.2.2.2.1.2.1 d.2.2.2.2.2.1.1 d.2.2.2.2.2.1.2.1).val
def l32_0 (d:sh32_0.data):Option (shb32_0.data ⊕ shr32_0.data):=itr s32_0 rounds d
def b32_0 (d:sh32_0.data):shb32_0.data:=outB shb32_0.dflt (l32_0 d)
def lc32_0:LoopC:=lcB sh32_0 shb32_0 shr32_0 l32_0 b32_0

theorem wk32_0 (x5:(List Int)) (x6:Int) (x7:Int) (b0_0:(List Int)) (b0_1:(List Int)) (b1_0:Int) (b1_1:(List (Int×(Int×Unit)))) (b2_0:Int) (b2_1:Int) (b3_0:(List Int)) (b3_1:(List Int)) (b4_0:Int) (b4_1:Int):Walks (runBody (kf68 Go.Proofs.Try.prog).orc Go.Proofs.Try.prog 400 32 0 sh32_0 shb32_0 shr32_0 ((x5,x6,x7,()),(b0_0,b0_1,()),(b1_0,b1_1,()),(b2_0,b2_1,()),(b3_0,b3_1,()),(b4_0,b4_1,()),())) (t32_0 x5 x6 x7 b0_0 b0_1 b1_0 b1_1 b2_0 b2_1 b3_0 b3_1 b4_0 b4_1) [([true,true,true,true,true],[2,4,6,8,10]),([true,true,true,true,false],[2,4,6,8,10]),([ff],[2])] :=
  ⟨by kernel_rfl,by kernel_rfl,by kernel_rfl,trivial⟩

theorem ok32_0_t (x5:(List Int)) (x6:Int) (x7:Int) (b0_0:(List Int)) (b0_1:(List Int)) (b1_0:Int) (b1_1:(List (Int×(Int×Unit)))) (b2_0:Int) (b2_1:Int) (b3_0:(List Int)) (b3_1:(List Int)) (b4_0:Int) (b4_1:Int):TrOk (BodyRuns Go.Proofs.Try.prog (kf68 Go.Proofs.Try.prog).orc 32 0 sh32_0 shb32_0 shr32_0 ((x5,x6,x7,()),(b0_0,b0_1,()),(b1_0,b1_1,()),(b2_0,b2_1,()),(b3_0,b3_1,()),(b4_0,b4_1,()),())) (t32_0 x5 x6 x7 b0_0 b0_1 b1_0 b1_1 b2_0 b2_1 b3_0 b3_1 b4_0 b4_1) :=
  Walks.ok (fun _ _ _=>BodyRuns.of) (wk32_0 x5 x6 x7 b0_0 b0_1 b1_0 b1_1 b2_0 b2_1 b3_0 b3_1 b4_0 b4_1) (by kernel_rfl)

theorem ok32_0:LoopOk Go.Proofs.Try.prog 32 0 lc32_0:=loopOk_ofB (sh:=sh32_0) (shB:=shb32_0) (shR:=shr32_0) kf68_ok.base (T:=fun (d:sh32_0.data)=>t32_0 d.1.1 d.1.2.1 d.1.2.2.1 d.2.1.1 d.2.1.2.1 d.2.2.1.1 d.2.2.1.2.1 d.2.2.2.1.1 d.2.2.2.1.2.1 d.2.2.2.2.1.1 d.2.2.2.2.1.2.1 d.2.2.2.2.2.1.1 d.2.2.2.2.2.1.2.1) (by kernel_rfl) rfl (fun (d:sh32_0.data)=>ok32_0_t d.1.1 d.1.2.1 d.1.2.2.1 d.2.1.1 d.2.1.2.1 d.2.2.1.1 d.2.2.1.2.1 d.2.2.2.1.1 d.2.2.2.1.2.1 d.2.2.2.2.1.1 d.2.2.2.2.1.2.1 d.2.2.2.2.2.1.1 d.2.2.2.2.2.1.2.1) (fun _=>rfl)
def kl32_0 (P:Go.Program):Known:=(kf68 P).loop 32 0 lc32_0
theorem kl32_0_ok:KnownOk Go.Proofs.Try.prog (kl32_0 Go.Proofs.Try.prog):=kf68_ok.loop ok32_0

/-! ductility/modal.ExplainedBy -/

abbrev as32:List Ty:=[(.pair (.slice (.int .i64)) (.pair (.slice (.int .i64)) .unit)),(.pair (.int .i64) (.pair (.slice (.pair (.int .i64) (.pair (.int .i64) .unit))) .unit))]
abbrev rs32:List Ty:=[(.pair (.int .i64) (.pair (.int .i64) .unit)),(.int .i64)]

def t32 (x0:(List Int)) (x0':(List Int)) (x1:Int) (x1':(List (Int×(Int×Unit)))):Tr (Tys.data rs32) :=
  Tr.test (Option.isSome (f67 ((x1,(x1',())),((↑(List.length x0):Int),()))))
    (Tr.test (Option.isSome (f78 ((x0,(x0',())),())))
      (let r0:=g67 ((x1,(x1',())),((↑(List.length x0):Int),()));
      Tr.test (Option.isSome (f72 (([r0.1]:List Int),())))
        (let r1:=g78 ((x0,(x0',())),());
        let r2:=g72 (([r0.1]:List Int),());
        Tr.test (Option.isSome (f72 (([r1.2.1,r2.1]:List Int),())))
          (let r3:=g72 (([r1.2.1,r2.1]:List Int),());
          Tr.test ((!eqF r3.1 0:Bool))
            (Tr.fin ((((0:Int),((0:Int),())),(r3.1,()))))
            (Tr.test (isBrk (l32_0 ((x0',((↑(List.length x0'):Int),((0:Int),()))),((x0,(x0',())),((x1,(x1',())),(((0:Int),((0:Int),())),((x0,(x0',())),(((0:Int),((0:Int),())),()))))))))
              (let r4:=b32_0 ((x0',((↑(List.length x0'):Int),((0:Int),()))),((x0,(x0',())),((x1,(x1',())),(((0:Int),((0:Int),())),((x0,(x0',())),(((0:Int),((0:Int),())),()))))));
              Tr.test (Option.isSome (f52 ((eqF r4.2.2.2.2.2.1.2.1 0:Bool),((12:Int),()))))
                (let r5:=g52 ((eqF r4.2.2.2.2.2.1.2.1 0:Bool),((12:Int),()));
                Tr.fin (((r4.2.2.2.2.2.1.1,(r4.2.2.2.2.2.1.2.1,())),(r5.1,()))))
                (Tr.stop))
              (Tr.stop)))
          (Tr.stop))
        (Tr.stop))
      (Tr.stop))
    (Tr.stop)

def f32 (d:Tys.data as32):Option (Tys.data rs32):=(t32 d.1.1 d.1.2.1 d.2.1.1 d.2.1.2.1).val
def g32 (d:Tys.data as32):Tys.data rs32:=(f32 d).getD (Tys.dflt rs32)
def p32:PureC:=pcOf as32 rs32 f32 g32

theorem wk32 (x0:(List Int)) (x0':(List Int)) (x1:Int) (x1':(List (Int×(Int×Unit)))):Walks (runPure (kl32_0 Go.Proofs.Try.prog).orc Go.Proofs.Try.prog 400 32 as32 rs32 ((x0,x0',()),(x1,x1',()),())) (t32 x0 x0' x1 x1') [([true,true,true,true,true],[2,2,4,1,6,1,8,10]),([true,true,true,true,false,true,true],[2,1,4,0,6,8,1,10,1,12,14])] :=
  ⟨by kernel_rfl,by kernel_rfl,trivial⟩

theorem ok32_t (x0:(List Int)) (x0':(List Int)) (x1:Int) (x1':(List (Int×(Int×Unit)))):TrOk (PureRuns Go.Proofs.Try.prog (kl32_0 Go.Proofs.Try.prog).orc 32 as32 rs32 ((x0,x0',()),(x1,x1',()),())) (t32 x0 x0' x1 x1') :=
  Walks.ok (fun _ _ _=>PureRuns.of) (wk32 x0 x0' x1 x1') (by kernel_rfl)

theorem ok32:PureOk Go.Proofs.Try.prog 32 p32:=pureOk_of kl32_0_ok.base (T:=fun (d:Tys.data as32)=>t32 d.1.1 d.1.2.1 d.2.1.1 d.2.1.2.1) (by kernel_rfl) (fun (d:Tys.data as32)=>ok32_t d.1.1 d.1.2.1 d.2.1.1 d.2.1.2.1)
def kf32 (P:Go.Program):Known:=(kl32_0 P).func 32 p32
theorem kf32_ok:KnownOk Go.Proofs.Try.prog (kf32 Go.Proofs.Try.prog):=kl32_0_ok.func ok32

/-! loop 0 of ductility/ductilitybase.Ints -/

abbrev sh45_0:Sh:={ n:=26,slots:=[0,1,5],pats:=[.ty (.slice (.int .i64)),.ty (.slice (.int .i64)),.ty (.int .i64)],boxes:=[] }
abbrev shb45_0:Sh:={ n:=26,slots:=[],pats:=[],boxes:=[] }
abbrev shr45_0:Sh:={ n:=26,slots:=[4],pats:=[.ty .bool],boxes:=[] }

def t45_0 (x0:(List Int)) (x1:(List Int)) (x2:Int):Tr (Out sh45_0.data shb45_0.data shr45_0.data) :=
  Tr.test ((!leF (↑(List.length x0):Int) x2:Bool))
    (Tr.test (decide ((0:Int) ≤ x2) && decide (x2 < (↑(List.length x0):Int)))
      (Tr.test ((decide ((0:Int) ≤ x2) && decide (x2 < (↑(List.length x1):Int)):Bool))
        (Tr.test ((!eqF (List.getD x0 (Int.toNat x2) (0:Int)) (List.getD x1 (Int.toNat x2) (0:Int)):Bool))
          (Tr.fin (.ret (((false:Bool),()),())))
          (Tr.fin (.again ((x0,(x1,((wrap64 (x2 + (1:Int)):Int),()))),()))))
        (Tr.stop))
      (Tr.stop))
    (Tr.fin (.brk ((),())))

def s45_0 (d:sh45_0.data):Option (Out sh45_0.data shb45_0.data shr45_0.data):=(t45_0 d.1.1 d.1.2.1 d.1.2.2.1).val
def l45_0 (d:sh45_0.data):Option (shb45_0.data ⊕ shr45_0.data):=itr s45_0 rounds d
def b45_0 (d:sh45_0.data):shb45_0.data:=outB shb45_0.dflt (l45_0 d)
def r45_0 (d:sh45_0.data):shr45_0.data:=outR shr45_0.dflt (l45_0 d)
def lc45_0:LoopC:=lcOf sh45_0 shb45_0 shr45_0 l45_0 b45_0 r45_0

theorem wk45_0 (x0:(List Int)) (x1:(List Int)) (x2:Int):Walks (runBody (kf32 Go.Proofs.Try.prog).orc Go.Proofs.Try.prog 400 45 0 sh45_0 shb45_0 shr45_0 ((x0,x1,x2,()),())) (t45_0 x0 x1 x2) [([true,true,true,true],[2,4,6,8]),([true,true,true,false],[2,4,6,8]),([ff],[2])] :=
  ⟨by kernel_rfl,by kernel_rfl,by kernel_rfl,trivial⟩

theorem ok45_0_t (x0:(List Int)) (x1:(List Int)) (x2:Int):TrOk (BodyRuns Go.Proofs.Try.prog (kf32 Go.Proofs.Try.prog).orc 45 0 sh45_0 shb45_0 shr45_0 ((x0,x1,x2,()),())) (t45_0 x0 x1 x2) :=
  Walks.ok (fun _ _ _=>BodyRuns.of) (wk45_0 x0 x1 x2) (by kernel_rfl)

theorem ok45_0:LoopOk Go.Proofs.Try.prog 45 0 lc45_0:=loopOk_of (sh:=sh45_0) (shB:=shb45_0) (shR:=shr45_0) kf32_ok.base (T:=fun (d:sh45_0.data)=>t45_0 d.1.1 d.1.2.1 d.1.2.2.1) (by kernel_rfl) rfl (fun (d:sh45_0.data)=>ok45_0_t d.1.1 d.1.2.1 d.1.2.2.1) (fun _=>rfl)
def kl45_0 (P:Go.Program):Known:=(kf32 P).loop 45 0 lc45_0
theorem kl45_0_ok:KnownOk Go.Proofs.Try.prog (kl45_0 Go.Proofs.Try.prog):=kf32_ok.loop ok45_0

/-! ductility/ductilitybase.Ints -/

abbrev as45:List Ty:=[(.slice (.int .i64)),(.slice (.int .i64))]
abbrev rs45:List Ty:=[.bool]

def t45 (x0:(List Int)) (x1:(List Int)):Tr (Tys.data rs45) :=
  Tr.test ((!eqF (↑(List.length x0):Int) (↑(List.length x1):Int):Bool))
    (Tr.fin ((false,())))
    (Tr.test (Option.isSome (l45_0 ((x0,(x1,((0:Int),()))),())))
      (Tr.test (isRet (l45_0 ((x0,(x1,((0:Int),()))),())))
        (let r0:=r45_0 ((x0,(x1,((0:Int),()))),());
        Tr.fin ((r0.1.1,())))
        (Tr.fin (((true:Bool),()))))
      (Tr.stop))

def f45 (d:Tys.data as45):Option (Tys.data rs45):=(t45 d.1 d.2.1).val
def g45 (d:Tys.data as45):Tys.data rs45:=(f45 d).getD (Tys.dflt rs45)
def p45:PureC:=pcOf as45 rs45 f45 g45

theorem wk45 (x0:(List Int)) (x1:(List Int)):Walks (runPure (kl45_0 Go.Proofs.Try.prog).orc Go.Proofs.Try.prog 400 45 as45 rs45 (x0,x1,())) (t45 x0 x1) [([tt],[2]),([false,true,true],[2,4,6]),([false,true,false],[2,4,6])] :=
  ⟨by kernel_rfl,by kernel_rfl,by kernel_rfl,trivial⟩

theorem ok45_t (x0:(List Int)) (x1:(List Int)):TrOk (PureRuns Go.Proofs.Try.prog (kl45_0 Go.Proofs.Try.prog).orc 45 as45 rs45 (x0,x1,())) (t45 x0 x1) :=
  Walks.ok (fun _ _ _=>PureRuns.of) (wk45 x0 x1) (by kernel_rfl)

theorem ok45:PureOk Go.Proofs.Try.prog 45 p45:=pureOk_of kl45_0_ok.base (T:=fun (d:Tys.data as45)=>t45 d.1 d.2.1) (by kernel_rfl) (fun (d:Tys.data as45)=>ok45_t d.1 d.2.1)
def kf45 (P:Go.Program):Known:=(kl45_0 P).func 45 p45
theorem kf45_ok:KnownOk Go.Proofs.Try.prog (kf45 Go.Proofs.Try.prog):=kl45_0_ok.func ok45

/-! ductility/ductilitylaw06.awake -/

abbrev as8:List Ty:=[]
abbrev rs8:List Ty:=[.bool]
def f8 (_:Tys.data as8):Option (Tys.data rs8):=some (true,())
def g8 (_:Tys.data as8):Tys.data rs8:=(true,())
def p8:PureC:=pcOf as8 rs8 f8 g8

theorem e8:runAsk (kf45 Go.Proofs.Try.prog).orc Go.Proofs.Try.prog 400 8 as8 rs8 () none = some ((true,()),[]):=by kernel_rfl
theorem ok8:PureOk Go.Proofs.Try.prog 8 p8:=pureOk_closed kf45_ok.base (by kernel_rfl) e8 All.nil
def kf8 (P:Go.Program):Known:=(kf45 P).func 8 p8
theorem kf8_ok:KnownOk Go.Proofs.Try.prog (kf8 Go.Proofs.Try.prog):=kf45_ok.func ok8

/-! ductility/ductilityref06.With -/

abbrev as39:List Ty:=[(.pair (.slice (.int .i64)) (.pair (.slice (.int .i64)) .unit)),(.pair (.int .i64) (.pair (.int .i64) .unit))]
abbrev rs39:List Ty:=[(.pair (.slice (.int .i64)) (.pair (.slice (.int .i64)) .unit))]

def t39 (x0:(List Int)) (x0':(List Int)) (x1:Int) (x1':Int):Tr (Tys.data rs39) :=
  Tr.test ((Nat.beq (List.length x0) (0:Nat):Bool))
    (Tr.test (Nat.beq (List.length x0') (0:Nat))
      (Tr.test ((decide ((0:Int) ≤ x1) && decide (x1 < (0:Int)):Bool))
        (Tr.stop)
        (Tr.stop))
      (Tr.test ((Nat.ble ((0:Nat) + List.length x0') (0:Nat):Bool))
        (Tr.stop)
        (Tr.test ((Nat.ble (((2:Nat) * ((0:Nat) + List.length x0') + (192:Nat)) * (8:Nat)) (281474976710656:Nat) && Nat.ble ((0:Nat) + List.length x0') (281474976710656:Nat):Bool))
          (Tr.test ((decide ((0:Int) ≤ x1) && decide (x1 < (↑((0:Nat) + List.length x0'):Int)):Bool))
            (Tr.test ((Nat.ble ((0:Nat) + Int.toNat x1 + (1:Nat)) (List.length ([]++x0')):Bool))
              (Tr.test ((Nat.beq ((0:Nat) + List.length x0') (List.length (List.set ([]++x0') ((0:Nat) + Int.toNat x1) x1')):Bool))
                (Tr.fin (((([]:List Int),((List.set ([]++x0') ((0:Nat) + Int.toNat x1) x1':List Int),())),())))
                (Tr.stop))
              (Tr.stop))
            (Tr.stop))
          (Tr.stop))))
    (Tr.test (Nat.ble ((0:Nat) + List.length x0) (0:Nat))
      (Tr.stop)
      (Tr.test ((Nat.ble (((2:Nat) * ((0:Nat) + List.length x0) + (192:Nat)) * (8:Nat)) (281474976710656:Nat) && Nat.ble ((0:Nat) + List.length x0) (281474976710656:Nat):Bool))
        (Tr.test ((Nat.beq (List.length x0') (0:Nat):Bool))
          (Tr.test ((decide ((0:Int) ≤ x1) && decide (x1 < (0:Int)):Bool))
            (Tr.stop)
            (Tr.stop))
          (Tr.test ((Nat.ble ((0:Nat) + List.length x0') (0:Nat):Bool))
            (Tr.stop)
            (Tr.test ((Nat.ble (((2:Nat) * ((0:Nat) + List.length x0') + (192:Nat)) * (8:Nat)) (281474976710656:Nat) && Nat.ble ((0:Nat) + List.length x0') (281474976710656:Nat):Bool))
              (Tr.test ((decide ((0:Int) ≤ x1) && decide (x1 < (↑((0:Nat) + List.length x0'):Int)):Bool))
                (Tr.test ((Nat.ble ((0:Nat) + Int.toNat x1 + (1:Nat)) (List.length ([]++x0')):Bool))
                  (Tr.test ((Nat.beq ((0:Nat) + List.length x0) (List.length ([]++x0)):Bool))
                    (Tr.test ((Nat.beq ((0:Nat) + List.length x0') (List.length (List.set ([]++x0') ((0:Nat) + Int.toNat x1) x1')):Bool))
                      (Tr.fin (((([]++x0:List Int),((List.set ([]++x0') ((0:Nat) + Int.toNat x1) x1':List Int),())),())))
                      (Tr.stop))
                    (Tr.stop))
                  (Tr.stop))
                (Tr.stop))
              (Tr.stop))))
        (Tr.stop)))

def f39 (d:Tys.data as39):Option (Tys.data rs39):=(t39 d.1.1 d.1.2.1 d.2.1.1 d.2.1.2.1).val
def g39 (d:Tys.data as39):Tys.data rs39:=(f39 d).getD (Tys.dflt rs39)
def p39:PureC:=pcOf as39 rs39 f39 g39

theorem wk39 (x0:(List Int)) (x0':(List Int)) (x1:Int) (x1':Int):Walks (runPure (kf8 Go.Proofs.Try.prog).orc Go.Proofs.Try.prog 400 39 as39 rs39 ((x0,x0',()),(x1,x1',()),())) (t39 x0 x0' x1 x1') [([true,false,false,true,true,true,true],[2,4,6,8,10,12,14]),([false,false,true,false,false,true,true,true,true,true],[2,4,6,8,10,12,14,16,18,20])] :=
  ⟨by kernel_rfl,by kernel_rfl,trivial⟩

theorem ok39_t (x0:(List Int)) (x0':(List Int)) (x1:Int) (x1':Int):TrOk (PureRuns Go.Proofs.Try.prog (kf8 Go.Proofs.Try.prog).orc 39 as39 rs39 ((x0,x0',()),(x1,x1',()),())) (t39 x0 x0' x1 x1') :=
  Walks.ok (fun _ _ _=>PureRuns.of) (wk39 x0 x0' x1 x1') (by kernel_rfl)

theorem ok39:PureOk Go.Proofs.Try.prog 39 p39:=pureOk_of kf8_ok.base (T:=fun (d:Tys.data as39)=>t39 d.1.1 d.1.2.1 d.2.1.1 d.2.1.2.1) (by kernel_rfl) (fun (d:Tys.data as39)=>ok39_t d.1.1 d.1.2.1 d.2.1.1 d.2.1.2.1)
def kf39 (P:Go.Program):Known:=(kf8 P).func 39 p39
theorem kf39_ok:KnownOk Go.Proofs.Try.prog (kf39 Go.Proofs.Try.prog):=kf8_ok.func ok39

/-! ductility/ductilitylaw06.few -/

abbrev as9:List Ty:=[(.pair (.slice (.int .i64)) (.pair (.slice (.int .i64)) .unit))]
abbrev rs9:List Ty:=[.bool]

def t9 (x0:(List Int)) (x0':(List Int)):Tr (Tys.data rs9) :=
  Tr.test ((leF (↑(List.length x0):Int) (6:Int):Bool))
    (Tr.fin ((leF (↑(List.length x0'):Int) (6:Int),())))
    (Tr.fin ((false,())))

def f9 (d:Tys.data as9):Option (Tys.data rs9):=(t9 d.1.1 d.1.2.1).val
def g9 (d:Tys.data as9):Tys.data rs9:=(f9 d).getD (Tys.dflt rs9)
def p9:PureC:=pcOf as9 rs9 f9 g9

theorem wk9 (x0:(List Int)) (x0':(List Int)):Walks (runPure (kf39 Go.Proofs.Try.prog).orc Go.Proofs.Try.prog 400 9 as9 rs9 ((x0,x0',()),())) (t9 x0 x0') [([tt],[2,2,2,2,2]),([ff],[2,2,2,2,2])] :=
  ⟨by kernel_rfl,by kernel_rfl,trivial⟩

theorem ok9_t (x0:(List Int)) (x0':(List Int)):TrOk (PureRuns Go.Proofs.Try.prog (kf39 Go.Proofs.Try.prog).orc 9 as9 rs9 ((x0,x0',()),())) (t9 x0 x0') :=
  Walks.ok (fun _ _ _=>PureRuns.of) (wk9 x0 x0') (by kernel_rfl)

theorem ok9:PureOk Go.Proofs.Try.prog 9 p9:=pureOk_of kf39_ok.base (T:=fun (d:Tys.data as9)=>t9 d.1.1 d.1.2.1) (by kernel_rfl) (fun (d:Tys.data as9)=>ok9_t d.1.1 d.1.2.1)
def kf9 (P:Go.Program):Known:=(kf39 P).func 9 p9
theorem kf9_ok:KnownOk Go.Proofs.Try.prog (kf9 Go.Proofs.Try.prog):=kf39_ok.func ok9

/-! ductility/ductilitybase.CopyInts -/

abbrev as49:List Ty:=[(.slice (.int .i64))]
abbrev rs49:List Ty:=[(.slice (.int .i64))]

def t49 (x0:(List Int)):Tr (Tys.data rs49) :=
  Tr.test ((Nat.beq (List.length x0) (0:Nat):Bool))
    (Tr.fin ((([]:List Int),())))
    (Tr.test (Nat.ble ((0:Nat) + List.length x0) (0:Nat))
      (Tr.stop)
      (Tr.test ((Nat.ble (((2:Nat) * ((0:Nat) + List.length x0) + (192:Nat)) * (8:Nat)) (281474976710656:Nat) && Nat.ble ((0:Nat) + List.length x0) (281474976710656:Nat):Bool))
        (Tr.test ((Nat.beq ((0:Nat) + List.length x0) (List.length ([]++x0)):Bool))
          (Tr.fin ((([]++x0:List Int),())))
          (Tr.stop))
        (Tr.stop)))

def f49 (d:Tys.data as49):Option (Tys.data rs49):=(t49 d.1).val
def g49 (d:Tys.data as49):Tys.data rs49:=(f49 d).getD (Tys.dflt rs49)
def p49:PureC:=pcOf as49 rs49 f49 g49

theorem wk49 (x0:(List Int)):Walks (runPure (kf9 Go.Proofs.Try.prog).orc Go.Proofs.Try.prog 400 49 as49 rs49 (x0,())) (t49 x0) [([tt],[2]),([false,false,true,true],[2,4,6,8])] :=
  ⟨by kernel_rfl,by kernel_rfl,trivial⟩

theorem ok49_t (x0:(List Int)):TrOk (PureRuns Go.Proofs.Try.prog (kf9 Go.Proofs.Try.prog).orc 49 as49 rs49 (x0,())) (t49 x0) :=
  Walks.ok (fun _ _ _=>PureRuns.of) (wk49 x0) (by kernel_rfl)

theorem ok49:PureOk Go.Proofs.Try.prog 49 p49:=pureOk_of kf9_ok.base (T:=fun (d:Tys.data as49)=>t49 d.1) (by kernel_rfl) (fun (d:Tys.data as49)=>ok49_t d.1)
def kf49 (P:Go.Program):Known:=(kf9 P).func 49 p49
theorem kf49_ok:KnownOk Go.Proofs.Try.prog (kf49 Go.Proofs.Try.prog):=kf9_ok.func ok49

/-! ductility/ductilityref06.Copy -/

abbrev as11:List Ty:=[(.pair (.slice (.int .i64)) (.pair (.slice (.int .i64)) .unit))]
abbrev rs11:List Ty:=[(.pair (.slice (.int .i64)) (.pair (.slice (.int .i64)) .unit))]

def t11 (x0:(List Int)) (x0':(List Int)):Tr (Tys.data rs11) :=
  Tr.test (Option.isSome (f49 (x0,())))
    (Tr.test (Option.isSome (f49 (x0',())))
      (let r0:=g49 (x0,());
      let r1:=g49 (x0',());
      Tr.fin (((r0.1,(r1.1,())),())))
      (Tr.stop))
    (Tr.stop)

def f11 (d:Tys.data as11):Option (Tys.data rs11):=(t11 d.1.1 d.1.2.1).val
def g11 (d:Tys.data as11):Tys.data rs11:=(f11 d).getD (Tys.dflt rs11)
def p11:PureC:=pcOf as11 rs11 f11 g11

theorem wk11 (x0:(List Int)) (x0':(List Int)):Walks (runPure (kf49 Go.Proofs.Try.prog).orc Go.Proofs.Try.prog 400 11 as11 rs11 ((x0,x0',()),())) (t11 x0 x0') [([true,true],[2,4])] :=
  ⟨by kernel_rfl,trivial⟩

theorem ok11_t (x0:(List Int)) (x0':(List Int)):TrOk (PureRuns Go.Proofs.Try.prog (kf49 Go.Proofs.Try.prog).orc 11 as11 rs11 ((x0,x0',()),())) (t11 x0 x0') :=
  Walks.ok (fun _ _ _=>PureRuns.of) (wk11 x0 x0') (by kernel_rfl)

theorem ok11:PureOk Go.Proofs.Try.prog 11 p11:=pureOk_of kf49_ok.base (T:=fun (d:Tys.data as11)=>t11 d.1.1 d.1.2.1) (by kernel_rfl) (fun (d:Tys.data as11)=>ok11_t d.1.1 d.1.2.1)
def kf11 (P:Go.Program):Known:=(kf49 P).func 11 p11
theorem kf11_ok:KnownOk Go.Proofs.Try.prog (kf11 Go.Proofs.Try.prog):=kf49_ok.func ok11

/-! ductility/ductilitybase.CopyRanges -/

abbrev as41:List Ty:=[(.slice (.pair (.int .i64) (.pair (.int .i64) .unit)))]
abbrev rs41:List Ty:=[(.slice (.pair (.int .i64) (.pair (.int .i64) .unit)))]

def t41 (x0:(List (Int×(Int×Unit)))):Tr (Tys.data rs41) :=
  Tr.test ((Nat.beq (List.length x0) (0:Nat):Bool))
    (Tr.fin ((([]:List (Int×Int×PUnit)),())))
    (Tr.test (Nat.ble ((0:Nat) + List.length x0) (0:Nat))
      (Tr.stop)
      (Tr.test ((Nat.ble (((2:Nat) * ((0:Nat) + List.length x0) + (192:Nat)) * (16:Nat)) (281474976710656:Nat) && Nat.ble ((0:Nat) + List.length x0) (281474976710656:Nat):Bool))
        (Tr.test ((Nat.beq ((0:Nat) + List.length x0) (List.length ([]++x0)):Bool))
          (Tr.fin ((([]++x0:List (Int×Int×PUnit)),())))
          (Tr.stop))
        (Tr.stop)))

def f41 (d:Tys.data as41):Option (Tys.data rs41):=(t41 d.1).val
def g41 (d:Tys.data as41):Tys.data rs41:=(f41 d).getD (Tys.dflt rs41)
def p41:PureC:=pcOf as41 rs41 f41 g41

theorem wk41 (x0:(List (Int×(Int×Unit)))):Walks (runPure (kf11 Go.Proofs.Try.prog).orc Go.Proofs.Try.prog 400 41 as41 rs41 (x0,())) (t41 x0) [([tt],[2]),([false,false,true,true],[2,4,6,8])] :=
  ⟨by kernel_rfl,by kernel_rfl,trivial⟩

theorem ok41_t (x0:(List (Int×(Int×Unit)))):TrOk (PureRuns Go.Proofs.Try.prog (kf11 Go.Proofs.Try.prog).orc 41 as41 rs41 (x0,())) (t41 x0) :=
  Walks.ok (fun _ _ _=>PureRuns.of) (wk41 x0) (by kernel_rfl)

theorem ok41:PureOk Go.Proofs.Try.prog 41 p41:=pureOk_of kf11_ok.base (T:=fun (d:Tys.data as41)=>t41 d.1) (by kernel_rfl) (fun (d:Tys.data as41)=>ok41_t d.1)
def kf41 (P:Go.Program):Known:=(kf11 P).func 41 p41
theorem kf41_ok:KnownOk Go.Proofs.Try.prog (kf41 Go.Proofs.Try.prog):=kf11_ok.func ok41

/-! ductility/ductilityref06.CopyAfter -/

abbrev as33:List Ty:=[(.pair (.int .i64) (.pair (.slice (.pair (.int .i64) (.pair (.int .i64) .unit))) .unit))]
abbrev rs33:List Ty:=[(.pair (.int .i64) (.pair (.slice (.pair (.int .i64) (.pair (.int .i64) .unit))) .unit))]

def t33 (x0:Int) (x0':(List (Int×(Int×Unit)))):Tr (Tys.data rs33) :=
  Tr.test (Option.isSome (f41 (x0',())))
    (let r0:=g41 (x0',());
    Tr.fin (((x0,(r0.1,())),())))
    (Tr.stop)

def f33 (d:Tys.data as33):Option (Tys.data rs33):=(t33 d.1.1 d.1.2.1).val
def g33 (d:Tys.data as33):Tys.data rs33:=(f33 d).getD (Tys.dflt rs33)
def p33:PureC:=pcOf as33 rs33 f33 g33

theorem wk33 (x0:Int) (x0':(List (Int×(Int×Unit)))):Walks (runPure (kf41 Go.Proofs.Try.prog).orc Go.Proofs.Try.prog 400 33 as33 rs33 ((x0,x0',()),())) (t33 x0 x0') [([tt],[2])] :=
  ⟨by kernel_rfl,trivial⟩

theorem ok33_t (x0:Int) (x0':(List (Int×(Int×Unit)))):TrOk (PureRuns Go.Proofs.Try.prog (kf41 Go.Proofs.Try.prog).orc 33 as33 rs33 ((x0,x0',()),())) (t33 x0 x0') :=
  Walks.ok (fun _ _ _=>PureRuns.of) (wk33 x0 x0') (by kernel_rfl)

theorem ok33:PureOk Go.Proofs.Try.prog 33 p33:=pureOk_of kf41_ok.base (T:=fun (d:Tys.data as33)=>t33 d.1.1 d.1.2.1) (by kernel_rfl) (fun (d:Tys.data as33)=>ok33_t d.1.1 d.1.2.1)
def kf33 (P:Go.Program):Known:=(kf41 P).func 33 p33
theorem kf33_ok:KnownOk Go.Proofs.Try.prog (kf33 Go.Proofs.Try.prog):=kf41_ok.func ok33

/-! ductility/modal.CheckDamage -/

abbrev as34:List Ty:=[(.pair (.slice (.int .i64)) (.pair (.slice (.int .i64)) .unit)),(.pair (.int .i64) (.pair (.slice (.pair (.int .i64) (.pair (.int .i64) .unit))) .unit)),(.pair (.int .i64) (.pair (.int .i64) .unit))]
abbrev rs34:List Ty:=[(.int .i64),(.int .i64)]

def t34 (x0:(List Int)) (x0':(List Int)) (x1:Int) (x1':(List (Int×(Int×Unit)))) (x2:Int) (x2':Int):Tr (Tys.data rs34) :=
  Tr.test (Option.isSome (f51 ((0:Int),((wrap64 ((↑(List.length x0):Int) - (1:Int)):Int),(([x2]:List Int),())))))
    (Tr.test (Option.isSome (f67 ((x1,(x1',())),((↑(List.length x0):Int),()))))
      (let r0:=g51 ((0:Int),((wrap64 ((↑(List.length x0):Int) - (1:Int)):Int),(([x2]:List Int),())));
      Tr.test (Option.isSome (f52 ((!r0.1:Bool),((6:Int),()))))
        (Tr.test (Option.isSome (f78 ((x0,(x0',())),())))
          (let r1:=g67 ((x1,(x1',())),((↑(List.length x0):Int),()));
          let r2:=g52 ((!r0.1:Bool),((6:Int),()));
          Tr.test (Option.isSome (f72 (([r1.1,r2.1]:List Int),())))
            (let r3:=g78 ((x0,(x0',())),());
            let r4:=g72 (([r1.1,r2.1]:List Int),());
            Tr.test (Option.isSome (f72 (([r3.2.1,r4.1]:List Int),())))
              (let r5:=g72 (([r3.2.1,r4.1]:List Int),());
              Tr.test ((!eqF r5.1 0:Bool))
                (Tr.fin (((0:Int),(r5.1,()))))
                (Tr.test ((decide ((0:Int) ≤ x2) && decide (x2 < (↑(List.length x0'):Int)):Bool))
                  (Tr.test (Option.isSome (f51 ((1:Int),((List.getD x0' (Int.toNat x2) (0:Int):Int),(([x2']:List Int),())))))
                    (let r6:=g51 ((1:Int),((List.getD x0' (Int.toNat x2) (0:Int):Int),(([x2']:List Int),())));
                    Tr.test ((!r6.1:Bool))
                      (Tr.fin (((0:Int),((2:Int),()))))
                      (Tr.test ((Nat.beq (List.length x0') (0:Nat):Bool))
                        (Tr.stop)
                        (Tr.test ((Nat.ble ((0:Nat) + List.length x0') (0:Nat):Bool))
                          (Tr.stop)
                          (Tr.test ((Nat.ble (((2:Nat) * ((0:Nat) + List.length x0') + (192:Nat)) * (8:Nat)) (281474976710656:Nat) && Nat.ble ((0:Nat) + List.length x0') (281474976710656:Nat):Bool))
                            (Tr.test ((decide ((0:Int) ≤ x2) && decide (x2 < (↑((0:Nat) + List.length x0'):Int)):Bool))
                              (Tr.test ((Nat.ble ((0:Nat) + Int.toNat x2 + (1:Nat)) (List.length ([]++x0')):Bool))
                                (Tr.test ((Nat.beq ((0:Nat) + List.length x0') (List.length (List.set ([]++x0') ((0:Nat) + Int.toNat x2) x2')):Bool))
                                  (Tr.test (Option.isSome (f70 (((x0,((List.set ([]++x0') ((0:Nat) + Int.toNat x2) x2':List Int),())),()),((x1,(x1',())),()))))
                                    (let r7:=g70 (((x0,((List.set ([]++x0') ((0:Nat) + Int.toNat x2) x2':List Int),())),()),((x1,(x1',())),()));
                                    Tr.fin ((r7.1,(r7.2.1,()))))
                                    (Tr.stop))
                                  (Tr.stop))
                                (Tr.stop))
                              (Tr.stop))
                            (Tr.stop)))))
                    (Tr.stop))
                  (Tr.stop)))
              (Tr.stop))
            (Tr.stop))
          (Tr.stop))
        (Tr.stop))
      (Tr.stop))
    (Tr.stop)

def f34 (d:Tys.data as34):Option (Tys.data rs34):=(t34 d.1.1 d.1.2.1 d.2.1.1 d.2.1.2.1 d.2.2.1.1 d.2.2.1.2.1).val
def g34 (d:Tys.data as34):Tys.data rs34:=(f34 d).getD (Tys.dflt rs34)
def p34:PureC:=pcOf as34 rs34 f34 g34

theorem wk34 (x0:(List Int)) (x0':(List Int)) (x1:Int) (x1':(List (Int×(Int×Unit)))) (x2:Int) (x2':Int):Walks (runPure (kf33 Go.Proofs.Try.prog).orc Go.Proofs.Try.prog 400 34 as34 rs34 ((x0,x0',()),(x1,x1',()),(x2,x2',()),())) (t34 x0 x0' x1 x1' x2 x2') [([true,true,true,true,true,true,true],[2,2,4,1,6,1,8,10,12,14,1]),([true,true,true,true,true,true,false,true,true,true],[2,4,1,6,0,8,10,1,12,1,14,16,18,20,1]),([true,true,true,true,true,true,false,true,true,false,false,false,true,true,true,true,true],[2,4,6,8,10,12,14,0,14,16,18,1,20,0,22,24,1,26,1,28,30,32,34,1])] :=
  ⟨by kernel_rfl,by kernel_rfl,by kernel_rfl,trivial⟩

theorem ok34_t (x0:(List Int)) (x0':(List Int)) (x1:Int) (x1':(List (Int×(Int×Unit)))) (x2:Int) (x2':Int):TrOk (PureRuns Go.Proofs.Try.prog (kf33 Go.Proofs.Try.prog).orc 34 as34 rs34 ((x0,x0',()),(x1,x1',()),(x2,x2',()),())) (t34 x0 x0' x1 x1' x2 x2') :=
  Walks.ok (fun _ _ _=>PureRuns.of) (wk34 x0 x0' x1 x1' x2 x2') (by kernel_rfl)

theorem ok34:PureOk Go.Proofs.Try.prog 34 p34:=pureOk_of kf33_ok.base (T:=fun (d:Tys.data as34)=>t34 d.1.1 d.1.2.1 d.2.1.1 d.2.1.2.1 d.2.2.1.1 d.2.2.1.2.1) (by kernel_rfl) (fun (d:Tys.data as34)=>ok34_t d.1.1 d.1.2.1 d.2.1.1 d.2.1.2.1 d.2.2.1.1 d.2.2.1.2.1)
def kf34 (P:Go.Program):Known:=(kf33 P).func 34 p34
theorem kf34_ok:KnownOk Go.Proofs.Try.prog (kf34 Go.Proofs.Try.prog):=kf33_ok.func ok34

/-! ductility/ductilitybase.Within -/

abbrev as21:List Ty:=[(.int .i64),(.int .i64),(.int .i64)]
abbrev rs21:List Ty:=[.bool]

def t21 (x0:Int) (x1:Int) (x2:Int):Tr (Tys.data rs21) :=
  Tr.test ((leF x1 x0:Bool))
    (Tr.fin ((leF x0 x2,())))
    (Tr.fin ((false,())))

def f21 (d:Tys.data as21):Option (Tys.data rs21):=(t21 d.1 d.2.1 d.2.2.1).val
def g21 (d:Tys.data as21):Tys.data rs21:=(f21 d).getD (Tys.dflt rs21)
def p21:PureC:=pcOf as21 rs21 f21 g21

theorem wk21 (x0:Int) (x1:Int) (x2:Int):Walks (runPure (kf34 Go.Proofs.Try.prog).orc Go.Proofs.Try.prog 400 21 as21 rs21 (x0,x1,x2,())) (t21 x0 x1 x2) [([tt],[2,2,2,2]),([ff],[2,2,2,2])] :=
  ⟨by kernel_rfl,by kernel_rfl,trivial⟩

theorem ok21_t (x0:Int) (x1:Int) (x2:Int):TrOk (PureRuns Go.Proofs.Try.prog (kf34 Go.Proofs.Try.prog).orc 21 as21 rs21 (x0,x1,x2,())) (t21 x0 x1 x2) :=
  Walks.ok (fun _ _ _=>PureRuns.of) (wk21 x0 x1 x2) (by kernel_rfl)

theorem ok21:PureOk Go.Proofs.Try.prog 21 p21:=pureOk_of kf34_ok.base (T:=fun (d:Tys.data as21)=>t21 d.1 d.2.1 d.2.2.1) (by kernel_rfl) (fun (d:Tys.data as21)=>ok21_t d.1 d.2.1 d.2.2.1)
def kf21 (P:Go.Program):Known:=(kf34 P).func 21 p21
theorem kf21_ok:KnownOk Go.Proofs.Try.prog (kf21 Go.Proofs.Try.prog):=kf34_ok.func ok21

/-! loop 0 of ductility/ductilityref06.CheckFrame -/

abbrev sh55_0:Sh:={ n:=46,slots:=[1,4],pats:=[.ptr 0 2 0,.ty (.int .i64)],boxes:=[.row [.ty (.slice (.int .i64)),.ty (.slice (.int .i64))]] }
abbrev shb55_0:Sh:={ n:=46,slots:=[],pats:=[],boxes:=[.row [.ty (.slice (.int .i64)),.ty (.slice (.int .i64))]] }
abbrev shr55_0:Sh:={ n:=46,slots:=[2,3],pats:=[.ty (.int .i64),.ty (.int .i64)],boxes:=[.row [.ty (.slice (.int .i64)),.ty (.slice (.int .i64))]] }

def t55_0 (x1:Int) (b0_0:(List Int)) (b0_1:(List Int)):Tr (Out sh55_0.data shb55_0.data shr55_0.data) :=
  Tr.test ((!leF (↑(List.length b0_0):Int) x1:Bool))
    (Tr.test (decide ((0:Int) ≤ x1) && decide (x1 < (↑(List.length b0_0):Int)))
      (Tr.test (Option.isSome (f21 ((List.getD b0_0 (Int.toNat x1) (0:Int):Int),((1:Int),((10:Int),())))))
        (let r0:=g21 ((List.getD b0_0 (Int.toNat x1) (0:Int):Int),((1:Int),((10:Int),())));
        Tr.test ((!r0.1:Bool))
          (Tr.fin (.ret ((x1,((2:Int),())),((b0_0,(b0_1,())),()))))
          (Tr.test ((decide ((0:Int) ≤ x1) && decide (x1 < (↑(List.length b0_1):Int)):Bool))
            (Tr.test (Option.isSome (f21 ((List.getD b0_1 (Int.toNat x1) (0:Int):Int),((1:Int),((20:Int),())))))
              (let r1:=g21 ((List.getD b0_1 (Int.toNat x1) (0:Int):Int),((1:Int),((20:Int),())));
              Tr.test ((!r1.1:Bool))
                (Tr.fin (.ret ((x1,((2:Int),())),((b0_0,(b0_1,())),()))))
                (Tr.fin (.again (((wrap64 (x1 + (1:Int)):Int),()),((b0_0,(b0_1,())),())))))
              (Tr.stop))
            (Tr.stop)))
        (Tr.stop))
      (Tr.stop))
    (Tr.fin (.brk ((),((b0_0,(b0_1,())),()))))

def s55_0 (d:sh55_0.data):Option (Out sh55_0.data shb55_0.data shr55_0.data):=(t55_0 d.1.1 d.2.1.1 d.2.1.2.1).val
def l55_0 (d:sh55_0.data):Option (shb55_0.data ⊕ shr55_0.data):=itr s55_0 rounds d
def b55_0 (d:sh55_0.data):shb55_0.data:=outB shb55_0.dflt (l55_0 d)
def r55_0 (d:sh55_0.data):shr55_0.data:=outR shr55_0.dflt (l55_0 d)
def lc55_0:LoopC:=lcOf sh55_0 shb55_0 shr55_0 l55_0 b55_0 r55_0

theorem wk55_0 (x1:Int) (b0_0:(List Int)) (b0_1:(List Int)):Walks (runBody (kf21 Go.Proofs.Try.prog).orc Go.Proofs.Try.prog 400 55 0 sh55_0 shb55_0 shr55_0 ((x1,()),(b0_0,b0_1,()),())) (t55_0 x1 b0_0 b0_1) [([true,true,true,true],[1,2,2,2,2,2,2,2,2,4,6,8]),([true,true,true,false,true,true,true],[2,8,8,4,8,8,6,8,8,8,8,10,12,14]),([true,true,true,false,true,true,false],[2,8,8,4,8,8,6,8,8,8,8,10,12,14]),([ff],[2])] :=
  ⟨by kernel_rfl,by kernel_rfl,by kernel_rfl,by kernel_rfl,trivial⟩

theorem ok55_0_t (x1:Int) (b0_0:(List Int)) (b0_1:(List Int)):TrOk (BodyRuns Go.Proofs.Try.prog (kf21 Go.Proofs.Try.prog).orc 55 0 sh55_0 shb55_0 shr55_0 ((x1,()),(b0_0,b0_1,()),())) (t55_0 x1 b0_0 b0_1) :=
  Walks.ok (fun _ _ _=>BodyRuns.of) (wk55_0 x1 b0_0 b0_1) (by kernel_rfl)

theorem ok55_0:LoopOk Go.Proofs.Try.prog 55 0 lc55_0:=loopOk_of (sh:=sh55_0) (shB:=shb55_0) (shR:=shr55_0) kf21_ok.base (T:=fun (d:sh55_0.data)=>t55_0 d.1.1 d.2.1.1 d.2.1.2.1) (by kernel_rfl) rfl (fun (d:sh55_0.data)=>ok55_0_t d.1.1 d.2.1.1 d.2.1.2.1) (fun _=>rfl)
def kl55_0 (P:Go.Program):Known:=(kf21 P).loop 55 0 lc55_0
theorem kl55_0_ok:KnownOk Go.Proofs.Try.prog (kl55_0 Go.Proofs.Try.prog):=kf21_ok.loop ok55_0

/-! ductility/ductilityref06.CheckFrame -/

abbrev as55:List Ty:=[(.pair (.slice (.int .i64)) (.pair (.slice (.int .i64)) .unit))]
abbrev rs55:List Ty:=[(.int .i64),(.int .i64)]

def t55 (x0:(List Int)) (x0':(List Int)):Tr (Tys.data rs55) :=
  Tr.test ((eqF (↑(List.length x0):Int) (0:Int):Bool))
    (Tr.fin (((0:Int),((10:Int),()))))
    (Tr.test (!eqF (↑(List.length x0'):Int) (↑(List.length x0):Int))
      (Tr.fin (((0:Int),((10:Int),()))))
      (Tr.test ((!leF (↑(List.length x0):Int) (4:Int):Bool))
        (Tr.fin (((0:Int),((8:Int),()))))
        (Tr.test (Option.isSome (l55_0 (((0:Int),()),((x0,(x0',())),()))))
          (Tr.test (isRet (l55_0 (((0:Int),()),((x0,(x0',())),()))))
            (let r0:=r55_0 (((0:Int),()),((x0,(x0',())),()));
            Tr.fin ((r0.1.1,(r0.1.2.1,()))))
            (Tr.fin (((0:Int),((0:Int),())))))
          (Tr.stop))))

def f55 (d:Tys.data as55):Option (Tys.data rs55):=(t55 d.1.1 d.1.2.1).val
def g55 (d:Tys.data as55):Tys.data rs55:=(f55 d).getD (Tys.dflt rs55)
def p55:PureC:=pcOf as55 rs55 f55 g55

theorem wk55 (x0:(List Int)) (x0':(List Int)):Walks (runPure (kl55_0 Go.Proofs.Try.prog).orc Go.Proofs.Try.prog 400 55 as55 rs55 ((x0,x0',()),())) (t55 x0 x0') [([tt],[1,2,2,2,2,2,2,2,2]),([false,true],[2,4,4,4,4,4,4,4,4]),([false,false,true],[2,4,6,6,6,6,6,6,6,6]),([false,false,false,true,true],[2,4,6,8,10,10,10,10,10,10,10,10]),([false,false,false,true,false],[2,4,6,8,10,10,10,10,10,10,10,10])] :=
  ⟨by kernel_rfl,by kernel_rfl,by kernel_rfl,by kernel_rfl,by kernel_rfl,trivial⟩

theorem ok55_t (x0:(List Int)) (x0':(List Int)):TrOk (PureRuns Go.Proofs.Try.prog (kl55_0 Go.Proofs.Try.prog).orc 55 as55 rs55 ((x0,x0',()),())) (t55 x0 x0') :=
  Walks.ok (fun _ _ _=>PureRuns.of) (wk55 x0 x0') (by kernel_rfl)

theorem ok55:PureOk Go.Proofs.Try.prog 55 p55:=pureOk_of kl55_0_ok.base (T:=fun (d:Tys.data as55)=>t55 d.1.1 d.1.2.1) (by kernel_rfl) (fun (d:Tys.data as55)=>ok55_t d.1.1 d.1.2.1)
def kf55 (P:Go.Program):Known:=(kl55_0 P).func 55 p55
theorem kf55_ok:KnownOk Go.Proofs.Try.prog (kf55 Go.Proofs.Try.prog):=kl55_0_ok.func ok55

/-! ductility/ductilityref06.FrameErr -/

abbrev as14:List Ty:=[(.pair (.slice (.int .i64)) (.pair (.slice (.int .i64)) .unit))]
abbrev rs14:List Ty:=[(.int .i64)]

def t14 (x0:(List Int)) (x0':(List Int)):Tr (Tys.data rs14) :=
  Tr.test (Option.isSome (f55 ((x0,(x0',())),())))
    (let r0:=g55 ((x0,(x0',())),());
    Tr.fin ((r0.2.1,())))
    (Tr.stop)

def f14 (d:Tys.data as14):Option (Tys.data rs14):=(t14 d.1.1 d.1.2.1).val
def g14 (d:Tys.data as14):Tys.data rs14:=(f14 d).getD (Tys.dflt rs14)
def p14:PureC:=pcOf as14 rs14 f14 g14

theorem wk14 (x0:(List Int)) (x0':(List Int)):Walks (runPure (kf55 Go.Proofs.Try.prog).orc Go.Proofs.Try.prog 400 14 as14 rs14 ((x0,x0',()),())) (t14 x0 x0') [([tt],[2])] :=
  ⟨by kernel_rfl,trivial⟩

theorem ok14_t (x0:(List Int)) (x0':(List Int)):TrOk (PureRuns Go.Proofs.Try.prog (kf55 Go.Proofs.Try.prog).orc 14 as14 rs14 ((x0,x0',()),())) (t14 x0 x0') :=
  Walks.ok (fun _ _ _=>PureRuns.of) (wk14 x0 x0') (by kernel_rfl)

theorem ok14:PureOk Go.Proofs.Try.prog 14 p14:=pureOk_of kf55_ok.base (T:=fun (d:Tys.data as14)=>t14 d.1.1 d.1.2.1) (by kernel_rfl) (fun (d:Tys.data as14)=>ok14_t d.1.1 d.1.2.1)
def kf14 (P:Go.Program):Known:=(kf55 P).func 14 p14
theorem kf14_ok:KnownOk Go.Proofs.Try.prog (kf14 Go.Proofs.Try.prog):=kf55_ok.func ok14

/-! loop 0 of ductility/ductilityref06.AfterErr -/

abbrev sh35_0:Sh:={ n:=45,slots:=[3,5],pats:=[.ptr 0 2 0,.ty (.int .i64)],boxes:=[.row [.ty (.int .i64),.ty (.slice (.pair (.int .i64) (.pair (.int .i64) .unit)))]] }
abbrev shb35_0:Sh:={ n:=45,slots:=[],pats:=[],boxes:=[.row [.ty (.int .i64),.ty (.slice (.pair (.int .i64) (.pair (.int .i64) .unit)))]] }
abbrev shr35_0:Sh:={ n:=45,slots:=[4],pats:=[.ty (.int .i64)],boxes:=[.row [.ty (.int .i64),.ty (.slice (.pair (.int .i64) (.pair (.int .i64) .unit)))]] }

def t35_0 (x1:Int) (b0_0:Int) (b0_1:(List (Int×(Int×Unit)))):Tr (Out sh35_0.data shb35_0.data shr35_0.data) :=
  Tr.test ((!leF (↑(List.length b0_1):Int) x1:Bool))
    (Tr.test (decide ((0:Int) ≤ x1) && decide (x1 < (↑(List.length b0_1):Int)))
      (Tr.test (Option.isSome (f21 (((List.getD b0_1 (Int.toNat x1) ((0:Int),(0:Int),())).1:Int),((0:Int),((1000000000:Int),())))))
        (let r0:=g21 (((List.getD b0_1 (Int.toNat x1) ((0:Int),(0:Int),())).1:Int),((0:Int),((1000000000:Int),())));
        Tr.test ((!r0.1:Bool))
          (Tr.fin (.ret (((2:Int),()),((b0_0,(b0_1,())),()))))
          (Tr.test (Option.isSome (f21 (((List.getD b0_1 (Int.toNat x1) ((0:Int),(0:Int),())).2.1:Int),((0:Int),((1000000000:Int),())))))
            (let r1:=g21 (((List.getD b0_1 (Int.toNat x1) ((0:Int),(0:Int),())).2.1:Int),((0:Int),((1000000000:Int),())));
            Tr.test ((!r1.1:Bool))
              (Tr.fin (.ret (((2:Int),()),((b0_0,(b0_1,())),()))))
              (Tr.test ((!leF (List.getD b0_1 (Int.toNat x1) ((0:Int),(0:Int),())).1 (List.getD b0_1 (Int.toNat x1) ((0:Int),(0:Int),())).2.1:Bool))
                (Tr.fin (.ret (((9:Int),()),((b0_0,(b0_1,())),()))))
                (Tr.fin (.again (((wrap64 (x1 + (1:Int)):Int),()),((b0_0,(b0_1,())),()))))))
            (Tr.stop)))
        (Tr.stop))
      (Tr.stop))
    (Tr.fin (.brk ((),((b0_0,(b0_1,())),()))))

def s35_0 (d:sh35_0.data):Option (Out sh35_0.data shb35_0.data shr35_0.data):=(t35_0 d.1.1 d.2.1.1 d.2.1.2.1).val
def l35_0 (d:sh35_0.data):Option (shb35_0.data ⊕ shr35_0.data):=itr s35_0 rounds d
def b35_0 (d:sh35_0.data):shb35_0.data:=outB shb35_0.dflt (l35_0 d)
def r35_0 (d:sh35_0.data):shr35_0.data:=outR shr35_0.dflt (l35_0 d)
def lc35_0:LoopC:=lcOf sh35_0 shb35_0 shr35_0 l35_0 b35_0 r35_0

theorem wk35_0 (x1:Int) (b0_0:Int) (b0_1:(List (Int×(Int×Unit)))):Walks (runBody (kf14 Go.Proofs.Try.prog).orc Go.Proofs.Try.prog 400 35 0 sh35_0 shb35_0 shr35_0 ((x1,()),(b0_0,b0_1,()),())) (t35_0 x1 b0_0 b0_1) [([true,true,true,true],[1,2,2,2,2,2,4,6,8]),([true,true,true,false,true,true],[2,6,6,4,6,6,6,8,10,12]),([true,true,true,false,true,false,true],[2,4,8,8,6,8,8,8,10,12,14]),([true,true,true,false,true,false,false],[2,4,8,8,6,8,8,8,10,12,14]),([ff],[2])] :=
  ⟨by kernel_rfl,by kernel_rfl,by kernel_rfl,by kernel_rfl,by kernel_rfl,trivial⟩

theorem ok35_0_t (x1:Int) (b0_0:Int) (b0_1:(List (Int×(Int×Unit)))):TrOk (BodyRuns Go.Proofs.Try.prog (kf14 Go.Proofs.Try.prog).orc 35 0 sh35_0 shb35_0 shr35_0 ((x1,()),(b0_0,b0_1,()),())) (t35_0 x1 b0_0 b0_1) :=
  Walks.ok (fun _ _ _=>BodyRuns.of) (wk35_0 x1 b0_0 b0_1) (by kernel_rfl)

theorem ok35_0:LoopOk Go.Proofs.Try.prog 35 0 lc35_0:=loopOk_of (sh:=sh35_0) (shB:=shb35_0) (shR:=shr35_0) kf14_ok.base (T:=fun (d:sh35_0.data)=>t35_0 d.1.1 d.2.1.1 d.2.1.2.1) (by kernel_rfl) rfl (fun (d:sh35_0.data)=>ok35_0_t d.1.1 d.2.1.1 d.2.1.2.1) (fun _=>rfl)
def kl35_0 (P:Go.Program):Known:=(kf14 P).loop 35 0 lc35_0
theorem kl35_0_ok:KnownOk Go.Proofs.Try.prog (kl35_0 Go.Proofs.Try.prog):=kf14_ok.loop ok35_0

/-! ductility/ductilityref06.AfterErr -/

abbrev as35:List Ty:=[(.pair (.slice (.int .i64)) (.pair (.slice (.int .i64)) .unit)),(.pair (.int .i64) (.pair (.slice (.pair (.int .i64) (.pair (.int .i64) .unit))) .unit))]
abbrev rs35:List Ty:=[(.int .i64)]

def t35 (x0:(List Int)) (x0':(List Int)) (x1:Int) (x1':(List (Int×(Int×Unit)))):Tr (Tys.data rs35) :=
  Tr.test (Option.isSome (f21 (x1,((1:Int),((50:Int),())))))
    (let r0:=g21 (x1,((1:Int),((50:Int),())));
    Tr.test ((!r0.1:Bool))
      (Tr.fin (((2:Int),())))
      (Tr.test ((!eqF (↑(List.length x1'):Int) (↑(List.length x0):Int):Bool))
        (Tr.fin (((10:Int),())))
        (Tr.test (Option.isSome (l35_0 (((0:Int),()),((x1,(x1',())),()))))
          (Tr.test (isRet (l35_0 (((0:Int),()),((x1,(x1',())),()))))
            (let r1:=r35_0 (((0:Int),()),((x1,(x1',())),()));
            Tr.fin ((r1.1.1,())))
            (Tr.fin (((0:Int),()))))
          (Tr.stop))))
    (Tr.stop)

def f35 (d:Tys.data as35):Option (Tys.data rs35):=(t35 d.1.1 d.1.2.1 d.2.1.1 d.2.1.2.1).val
def g35 (d:Tys.data as35):Tys.data rs35:=(f35 d).getD (Tys.dflt rs35)
def p35:PureC:=pcOf as35 rs35 f35 g35

theorem wk35 (x0:(List Int)) (x0':(List Int)) (x1:Int) (x1':(List (Int×(Int×Unit)))):Walks (runPure (kl35_0 Go.Proofs.Try.prog).orc Go.Proofs.Try.prog 400 35 as35 rs35 ((x0,x0',()),(x1,x1',()),())) (t35 x0 x0' x1 x1') [([true,true],[2,4]),([true,false,true],[2,4,6]),([true,false,false,true,true],[2,4,6,8,10]),([true,false,false,true,false],[2,4,6,8,10])] :=
  ⟨by kernel_rfl,by kernel_rfl,by kernel_rfl,by kernel_rfl,trivial⟩

theorem ok35_t (x0:(List Int)) (x0':(List Int)) (x1:Int) (x1':(List (Int×(Int×Unit)))):TrOk (PureRuns Go.Proofs.Try.prog (kl35_0 Go.Proofs.Try.prog).orc 35 as35 rs35 ((x0,x0',()),(x1,x1',()),())) (t35 x0 x0' x1 x1') :=
  Walks.ok (fun _ _ _=>PureRuns.of) (wk35 x0 x0' x1 x1') (by kernel_rfl)

theorem ok35:PureOk Go.Proofs.Try.prog 35 p35:=pureOk_of kl35_0_ok.base (T:=fun (d:Tys.data as35)=>t35 d.1.1 d.1.2.1 d.2.1.1 d.2.1.2.1) (by kernel_rfl) (fun (d:Tys.data as35)=>ok35_t d.1.1 d.1.2.1 d.2.1.1 d.2.1.2.1)
def kf35 (P:Go.Program):Known:=(kl35_0 P).func 35 p35
theorem kf35_ok:KnownOk Go.Proofs.Try.prog (kf35 Go.Proofs.Try.prog):=kl35_0_ok.func ok35

/-! ductility/ductilitybase.Size -/

abbrev as94:List Ty:=[(.int .i64)]
abbrev rs94:List Ty:=[(.int .i64)]

def t94 (x0:Int):Tr (Tys.data rs94) :=
  Tr.fin (((if x0 < Go.IntKind.wrap Go.IntKind.i64 ((0:Int) - x0) then Go.IntKind.wrap Go.IntKind.i64 ((0:Int) - x0) else x0:Int),()))

def f94 (d:Tys.data as94):Option (Tys.data rs94):=(t94 d.1).val
def g94 (d:Tys.data as94):Tys.data rs94:=(f94 d).getD (Tys.dflt rs94)
def p94:PureC:=pcOf as94 rs94 f94 g94

theorem wk94 (x0:Int):Walks (runPure (kf35 Go.Proofs.Try.prog).orc Go.Proofs.Try.prog 400 94 as94 rs94 (x0,())) (t94 x0) [([],[])] :=
  ⟨by kernel_rfl,trivial⟩

theorem ok94_t (x0:Int):TrOk (PureRuns Go.Proofs.Try.prog (kf35 Go.Proofs.Try.prog).orc 94 as94 rs94 (x0,())) (t94 x0) :=
  Walks.ok (fun _ _ _=>PureRuns.of) (wk94 x0) (by kernel_rfl)

theorem ok94:PureOk Go.Proofs.Try.prog 94 p94:=pureOk_of kf35_ok.base (T:=fun (d:Tys.data as94)=>t94 d.1) (by kernel_rfl) (fun (d:Tys.data as94)=>ok94_t d.1)
def kf94 (P:Go.Program):Known:=(kf35 P).func 94 p94
theorem kf94_ok:KnownOk Go.Proofs.Try.prog (kf94 Go.Proofs.Try.prog):=kf35_ok.func ok94

end Go.Vm.Mo
