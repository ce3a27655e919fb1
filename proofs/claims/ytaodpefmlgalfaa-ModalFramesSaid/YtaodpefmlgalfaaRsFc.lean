import Derived.Test.YtaodpefmlgalfaaA4
import Derived.KernelRfl
import Derived.Test.YtaodpefmlgalfaaProg
import Derived.Test.YtaodpefmlgalfaaRsFb
set_option linter.unusedVariables false
set_option linter.unusedSimpArgs false

namespace Go.Vm.Mo
open Go
set_option linter.unusedVariables false

/-! ductility/modal.SumOf -/

abbrev as12:List Ty:=[(.pair (.slice (.int .i64)) (.pair (.slice (.int .i64)) .unit))]
abbrev rs12:List Ty:=[(.pair (.int .i64) (.pair (.int .i64) .unit)),(.int .i64)]

def t12 (x0:(List Int)) (x0':(List Int)):Tr (Tys.data rs12) :=
  Tr.test (Option.isSome (f49 ((x0,(x0',())),(([]:List Int),()))))
    (let r0:=g49 ((x0,(x0',())),(([]:List Int),()));
    Tr.test ((!eqF r0.2.1 0:Bool))
      (Tr.fin ((((0:Int),((0:Int),())),(r0.2.1,()))))
      (Tr.test (isBrk (l12_0 (((0:Int),((1:Int),(x0,((↑(List.length x0):Int),((0:Int),()))))),(((0:Int),((0:Int),())),((r0.1.1.1,(r0.1.1.2.1,())),())))))
        (let r1:=b12_0 (((0:Int),((1:Int),(x0,((↑(List.length x0):Int),((0:Int),()))))),(((0:Int),((0:Int),())),((r0.1.1.1,(r0.1.1.2.1,())),())));
        Tr.test (Option.isSome (f53 (r1.1.1,(r1.1.2.1,()))))
          (let r2:=g53 (r1.1.1,(r1.1.2.1,()));
          Tr.fin (((r2.1.1,(r2.1.2.1,())),((0:Int),()))))
          (Tr.stop))
        (Tr.stop)))
    (Tr.stop)

def f12 (d:Tys.data as12):Option (Tys.data rs12):=(t12 d.1.1 d.1.2.1).val
def g12 (d:Tys.data as12):Tys.data rs12:=(f12 d).getD (Tys.dflt rs12)
def p12:PureC:=pcOf as12 rs12 f12 g12

theorem wk12 (x0:(List Int)) (x0':(List Int)):Walks (runPure (kl12_0 Go.Proofs.Try.prog).orc Go.Proofs.Try.prog 400 12 as12 rs12 ((x0,x0',()),())) (t12 x0 x0') [([true,true],[2,4]),([true,false,true,true],[2,1,4,6,8])] :=
  ⟨by kernel_rfl,by kernel_rfl,trivial⟩

theorem ok12_t (x0:(List Int)) (x0':(List Int)):TrOk (PureRuns Go.Proofs.Try.prog (kl12_0 Go.Proofs.Try.prog).orc 12 as12 rs12 ((x0,x0',()),())) (t12 x0 x0') :=
  Walks.ok (fun _ _ _=>PureRuns.of) (wk12 x0 x0') (by kernel_rfl)

theorem ok12:PureOk Go.Proofs.Try.prog 12 p12:=pureOk_of kl12_0_ok.base (T:=fun (d:Tys.data as12)=>t12 d.1.1 d.1.2.1) (by kernel_rfl) (fun (d:Tys.data as12)=>ok12_t d.1.1 d.1.2.1)
def kf12 (P:Go.Program):Known:=(kl12_0 P).func 12 p12
theorem kf12_ok:KnownOk Go.Proofs.Try.prog (kf12 Go.Proofs.Try.prog):=kl12_0_ok.func ok12

/-! ductility/ductilitybase.Within -/

abbrev as18:List Ty:=[(.int .i64),(.int .i64),(.int .i64)]
abbrev rs18:List Ty:=[.bool]

def t18 (x0:Int) (x1:Int) (x2:Int):Tr (Tys.data rs18) :=
  Tr.test ((leF x1 x0:Bool))
    (Tr.fin ((leF x0 x2,())))
    (Tr.fin ((false,())))

def f18 (d:Tys.data as18):Option (Tys.data rs18):=(t18 d.1 d.2.1 d.2.2.1).val
def g18 (d:Tys.data as18):Tys.data rs18:=(f18 d).getD (Tys.dflt rs18)
def p18:PureC:=pcOf as18 rs18 f18 g18

theorem wk18 (x0:Int) (x1:Int) (x2:Int):Walks (runPure (kf12 Go.Proofs.Try.prog).orc Go.Proofs.Try.prog 400 18 as18 rs18 (x0,x1,x2,())) (t18 x0 x1 x2) [([tt],[2,2,2,2]),([ff],[2,2,2,2])] :=
  ⟨by kernel_rfl,by kernel_rfl,trivial⟩

theorem ok18_t (x0:Int) (x1:Int) (x2:Int):TrOk (PureRuns Go.Proofs.Try.prog (kf12 Go.Proofs.Try.prog).orc 18 as18 rs18 (x0,x1,x2,())) (t18 x0 x1 x2) :=
  Walks.ok (fun _ _ _=>PureRuns.of) (wk18 x0 x1 x2) (by kernel_rfl)

theorem ok18:PureOk Go.Proofs.Try.prog 18 p18:=pureOk_of kf12_ok.base (T:=fun (d:Tys.data as18)=>t18 d.1 d.2.1 d.2.2.1) (by kernel_rfl) (fun (d:Tys.data as18)=>ok18_t d.1 d.2.1 d.2.2.1)
def kf18 (P:Go.Program):Known:=(kf12 P).func 18 p18
theorem kf18_ok:KnownOk Go.Proofs.Try.prog (kf18 Go.Proofs.Try.prog):=kf12_ok.func ok18

/-! loop 0 of ductility/ductilityref06.CheckFrame -/

abbrev sh13_0:Sh:={ n:=46,slots:=[1,4],pats:=[.ptr 0 2 0,.ty (.int .i64)],boxes:=[.row [.ty (.slice (.int .i64)),.ty (.slice (.int .i64))]] }
abbrev shb13_0:Sh:={ n:=46,slots:=[],pats:=[],boxes:=[.row [.ty (.slice (.int .i64)),.ty (.slice (.int .i64))]] }
abbrev shr13_0:Sh:={ n:=46,slots:=[2,3],pats:=[.ty (.int .i64),.ty (.int .i64)],boxes:=[.row [.ty (.slice (.int .i64)),.ty (.slice (.int .i64))]] }

def t13_0 (x1:Int) (b0_0:(List Int)) (b0_1:(List Int)):Tr (Out sh13_0.data shb13_0.data shr13_0.data) :=
  Tr.test ((!leF (↑(List.length b0_0):Int) x1:Bool))
    (Tr.test (decide ((0:Int) ≤ x1) && decide (x1 < (↑(List.length b0_0):Int)))
      (Tr.test (Option.isSome (f18 ((List.getD b0_0 (Int.toNat x1) (0:Int):Int),((1:Int),((10:Int),())))))
        (let r0:=g18 ((List.getD b0_0 (Int.toNat x1) (0:Int):Int),((1:Int),((10:Int),())));
        Tr.test ((!r0.1:Bool))
          (Tr.fin (.ret ((x1,((2:Int),())),((b0_0,(b0_1,())),()))))
          (Tr.test ((decide ((0:Int) ≤ x1) && decide (x1 < (↑(List.length b0_1):Int)):Bool))
            (Tr.test (Option.isSome (f18 ((List.getD b0_1 (Int.toNat x1) (0:Int):Int),((1:Int),((20:Int),())))))
              (let r1:=g18 ((List.getD b0_1 (Int.toNat x1) (0:Int):Int),((1:Int),((20:Int),())));
              Tr.test ((!r1.1:Bool))
                (Tr.fin (.ret ((x1,((2:Int),())),((b0_0,(b0_1,())),()))))
                (Tr.fin (.again (((wrap64 (x1 + (1:Int)):Int),()),((b0_0,(b0_1,())),())))))
              (Tr.stop))
            (Tr.stop)))
        (Tr.stop))
      (Tr.stop))
    (Tr.fin (.brk ((),((b0_0,(b0_1,())),()))))

def s13_0 (d:sh13_0.data):Option (Out sh13_0.data shb13_0.data shr13_0.data):=(t13_0 d.1.1 d.2.1.1 d.2.1.2.1).val
def l13_0 (d:sh13_0.data):Option (shb13_0.data ⊕ shr13_0.data):=itr s13_0 rounds d
def b13_0 (d:sh13_0.data):shb13_0.data:=outB shb13_0.dflt (l13_0 d)
def r13_0 (d:sh13_0.data):shr13_0.data:=outR shr13_0.dflt (l13_0 d)
def lc13_0:LoopC:=lcOf sh13_0 shb13_0 shr13_0 l13_0 b13_0 r13_0

theorem wk13_0 (x1:Int) (b0_0:(List Int)) (b0_1:(List Int)):Walks (runBody (kf18 Go.Proofs.Try.prog).orc Go.Proofs.Try.prog 400 13 0 sh13_0 shb13_0 shr13_0 ((x1,()),(b0_0,b0_1,()),())) (t13_0 x1 b0_0 b0_1) [([true,true,true,true],[1,2,2,2,2,2,2,2,2,4,6,8]),([true,true,true,false,true,true,true],[2,8,8,4,8,8,6,8,8,8,8,10,12,14]),([true,true,true,false,true,true,false],[2,8,8,4,8,8,6,8,8,8,8,10,12,14]),([ff],[2])] :=
  ⟨by kernel_rfl,by kernel_rfl,by kernel_rfl,by kernel_rfl,trivial⟩

theorem ok13_0_t (x1:Int) (b0_0:(List Int)) (b0_1:(List Int)):TrOk (BodyRuns Go.Proofs.Try.prog (kf18 Go.Proofs.Try.prog).orc 13 0 sh13_0 shb13_0 shr13_0 ((x1,()),(b0_0,b0_1,()),())) (t13_0 x1 b0_0 b0_1) :=
  Walks.ok (fun _ _ _=>BodyRuns.of) (wk13_0 x1 b0_0 b0_1) (by kernel_rfl)

theorem ok13_0:LoopOk Go.Proofs.Try.prog 13 0 lc13_0:=loopOk_of (sh:=sh13_0) (shB:=shb13_0) (shR:=shr13_0) kf18_ok.base (T:=fun (d:sh13_0.data)=>t13_0 d.1.1 d.2.1.1 d.2.1.2.1) (by kernel_rfl) rfl (fun (d:sh13_0.data)=>ok13_0_t d.1.1 d.2.1.1 d.2.1.2.1) (fun _=>rfl)
def kl13_0 (P:Go.Program):Known:=(kf18 P).loop 13 0 lc13_0
theorem kl13_0_ok:KnownOk Go.Proofs.Try.prog (kl13_0 Go.Proofs.Try.prog):=kf18_ok.loop ok13_0

/-! ductility/ductilityref06.CheckFrame -/

abbrev as13:List Ty:=[(.pair (.slice (.int .i64)) (.pair (.slice (.int .i64)) .unit))]
abbrev rs13:List Ty:=[(.int .i64),(.int .i64)]

def t13 (x0:(List Int)) (x0':(List Int)):Tr (Tys.data rs13) :=
  Tr.test ((eqF (↑(List.length x0):Int) (0:Int):Bool))
    (Tr.fin (((0:Int),((10:Int),()))))
    (Tr.test (!eqF (↑(List.length x0'):Int) (↑(List.length x0):Int))
      (Tr.fin (((0:Int),((10:Int),()))))
      (Tr.test ((!leF (↑(List.length x0):Int) (4:Int):Bool))
        (Tr.fin (((0:Int),((8:Int),()))))
        (Tr.test (Option.isSome (l13_0 (((0:Int),()),((x0,(x0',())),()))))
          (Tr.test (isRet (l13_0 (((0:Int),()),((x0,(x0',())),()))))
            (let r0:=r13_0 (((0:Int),()),((x0,(x0',())),()));
            Tr.fin ((r0.1.1,(r0.1.2.1,()))))
            (Tr.fin (((0:Int),((0:Int),())))))
          (Tr.stop))))

def f13 (d:Tys.data as13):Option (Tys.data rs13):=(t13 d.1.1 d.1.2.1).val
def g13 (d:Tys.data as13):Tys.data rs13:=(f13 d).getD (Tys.dflt rs13)
def p13:PureC:=pcOf as13 rs13 f13 g13

theorem wk13 (x0:(List Int)) (x0':(List Int)):Walks (runPure (kl13_0 Go.Proofs.Try.prog).orc Go.Proofs.Try.prog 400 13 as13 rs13 ((x0,x0',()),())) (t13 x0 x0') [([tt],[1,2,2,2,2,2,2,2,2]),([false,true],[2,4,4,4,4,4,4,4,4]),([false,false,true],[2,4,6,6,6,6,6,6,6,6]),([false,false,false,true,true],[2,4,6,8,10,10,10,10,10,10,10,10]),([false,false,false,true,false],[2,4,6,8,10,10,10,10,10,10,10,10])] :=
  ⟨by kernel_rfl,by kernel_rfl,by kernel_rfl,by kernel_rfl,by kernel_rfl,trivial⟩

theorem ok13_t (x0:(List Int)) (x0':(List Int)):TrOk (PureRuns Go.Proofs.Try.prog (kl13_0 Go.Proofs.Try.prog).orc 13 as13 rs13 ((x0,x0',()),())) (t13 x0 x0') :=
  Walks.ok (fun _ _ _=>PureRuns.of) (wk13 x0 x0') (by kernel_rfl)

theorem ok13:PureOk Go.Proofs.Try.prog 13 p13:=pureOk_of kl13_0_ok.base (T:=fun (d:Tys.data as13)=>t13 d.1.1 d.1.2.1) (by kernel_rfl) (fun (d:Tys.data as13)=>ok13_t d.1.1 d.1.2.1)
def kf13 (P:Go.Program):Known:=(kl13_0 P).func 13 p13
theorem kf13_ok:KnownOk Go.Proofs.Try.prog (kf13 Go.Proofs.Try.prog):=kl13_0_ok.func ok13

/-! ductility/ductilityref06.Own -/

abbrev as54:List Ty:=[(.pair (.slice (.int .i64)) (.pair (.slice (.int .i64)) .unit)),(.int .i64)]
abbrev rs54:List Ty:=[(.int .i64)]

def t54 (x0:(List Int)) (x0':(List Int)) (x1:Int):Tr (Tys.data rs54) :=
  Tr.test ((!leF (↑(List.length x0'):Int) (wrap64 (x1 + (1:Int))):Bool))
    (Tr.test (decide ((0:Int) ≤ x1) && decide (x1 < (↑(List.length x0'):Int)))
      (Tr.test ((decide ((0:Int) ≤ wrap64 (x1 + (1:Int))) && decide (wrap64 (x1 + (1:Int)) < (↑(List.length x0'):Int)):Bool))
        (Tr.fin (((wrap64 (List.getD x0' (Int.toNat x1) (0:Int) + List.getD x0' (Int.toNat (wrap64 (x1 + (1:Int)))) (0:Int)):Int),())))
        (Tr.stop))
      (Tr.stop))
    (Tr.test (decide ((0:Int) ≤ x1) && decide (x1 < (↑(List.length x0'):Int)))
      (Tr.fin (((List.getD x0' (Int.toNat x1) (0:Int):Int),())))
      (Tr.stop))

def f54 (d:Tys.data as54):Option (Tys.data rs54):=(t54 d.1.1 d.1.2.1 d.2.1).val
def g54 (d:Tys.data as54):Tys.data rs54:=(f54 d).getD (Tys.dflt rs54)
def p54:PureC:=pcOf as54 rs54 f54 g54

theorem wk54 (x0:(List Int)) (x0':(List Int)) (x1:Int):Walks (runPure (kf13 Go.Proofs.Try.prog).orc Go.Proofs.Try.prog 400 54 as54 rs54 ((x0,x0',()),x1,())) (t54 x0 x0' x1) [([true,true,true],[2,4,6]),([false,true],[2,4])] :=
  ⟨by kernel_rfl,by kernel_rfl,trivial⟩

theorem ok54_t (x0:(List Int)) (x0':(List Int)) (x1:Int):TrOk (PureRuns Go.Proofs.Try.prog (kf13 Go.Proofs.Try.prog).orc 54 as54 rs54 ((x0,x0',()),x1,())) (t54 x0 x0' x1) :=
  Walks.ok (fun _ _ _=>PureRuns.of) (wk54 x0 x0' x1) (by kernel_rfl)

theorem ok54:PureOk Go.Proofs.Try.prog 54 p54:=pureOk_of kf13_ok.base (T:=fun (d:Tys.data as54)=>t54 d.1.1 d.1.2.1 d.2.1) (by kernel_rfl) (fun (d:Tys.data as54)=>ok54_t d.1.1 d.1.2.1 d.2.1)
def kf54 (P:Go.Program):Known:=(kf13 P).func 54 p54
theorem kf54_ok:KnownOk Go.Proofs.Try.prog (kf54 Go.Proofs.Try.prog):=kf13_ok.func ok54

/-! ductility/ductilityref06.Polynomial -/

abbrev as15:List Ty:=[(.pair (.slice (.int .i64)) (.pair (.slice (.int .i64)) .unit))]
abbrev rs15:List Ty:=[(.slice (.int .i64))]

def t15 (x0:(List Int)) (x0':(List Int)):Tr (Tys.data rs15) :=
  Tr.test ((!leF (↑(List.length x0):Int) (0:Int):Bool))
    (Tr.test (Option.isSome (f54 ((x0,(x0',())),((0:Int),()))))
      (Tr.test ((true && decide ((0:Int) < (↑(List.length x0):Int)):Bool))
        (Tr.test ((!leF (↑(List.length x0):Int) (1:Int):Bool))
          (Tr.test (Option.isSome (f54 ((x0,(x0',())),((1:Int),()))))
            (Tr.test ((true && decide ((1:Int) < (↑(List.length x0):Int)):Bool))
              (Tr.test ((true && decide ((1:Int) < (↑(List.length x0'):Int)):Bool))
                (Tr.test ((!leF (↑(List.length x0):Int) (2:Int):Bool))
                  (Tr.test (Option.isSome (f54 ((x0,(x0',())),((2:Int),()))))
                    (Tr.test ((true && decide ((2:Int) < (↑(List.length x0):Int)):Bool))
                      (Tr.test ((true && decide ((2:Int) < (↑(List.length x0'):Int)):Bool))
                        (Tr.test ((!leF (↑(List.length x0):Int) (3:Int):Bool))
                          (Tr.test (Option.isSome (f54 ((x0,(x0',())),((3:Int),()))))
                            (Tr.test ((true && decide ((3:Int) < (↑(List.length x0):Int)):Bool))
                              (Tr.test ((true && decide ((3:Int) < (↑(List.length x0'):Int)):Bool))
                                (Tr.test ((!leF (↑(List.length x0):Int) (4:Int):Bool))
                                  (Tr.test (Option.isSome (f54 ((x0,(x0',())),((4:Int),()))))
                                    (Tr.test ((true && decide ((4:Int) < (↑(List.length x0):Int)):Bool))
                                      (Tr.test ((true && decide ((4:Int) < (↑(List.length x0'):Int)):Bool))
                                        (Tr.test ((!leF (↑(List.length x0):Int) (5:Int):Bool))
                                          (Tr.test (Option.isSome (f54 ((x0,(x0',())),((5:Int),()))))
                                            (Tr.test ((true && decide ((5:Int) < (↑(List.length x0):Int)):Bool))
                                              (Tr.stop)
                                              (Tr.stop))
                                            (Tr.stop))
                                          (let r0:=g54 ((x0,(x0',())),((0:Int),()));
                                          let r1:=g54 ((x0,(x0',())),((1:Int),()));
                                          let r2:=g54 ((x0,(x0',())),((2:Int),()));
                                          let r3:=g54 ((x0,(x0',())),((3:Int),()));
                                          let r4:=g54 ((x0,(x0',())),((4:Int),()));
                                          Tr.fin (((List.set (List.set (List.set (List.set (List.set (List.set (List.set (List.set (List.set (List.set (List.set (List.set (List.set (List.set (List.replicate (6:Nat) (0:Int)) (0:Nat) (wrap64 ((0:Int) + wrap64 (r4.1 * wrap64 (wrap64 ((0:Int) + wrap64 (r3.1 * wrap64 (wrap64 ((0:Int) + wrap64 (r2.1 * wrap64 (wrap64 ((0:Int) + wrap64 (r1.1 * wrap64 ((0:Int) + wrap64 (r0.1 * (1:Int))))) - wrap64 (wrap64 (List.getD x0' (1:Nat) (0:Int) * List.getD x0' (1:Nat) (0:Int)) * (1:Int))))) - wrap64 (wrap64 (List.getD x0' (2:Nat) (0:Int) * List.getD x0' (2:Nat) (0:Int)) * wrap64 ((0:Int) + wrap64 (r0.1 * (1:Int))))))) - wrap64 (wrap64 (List.getD x0' (3:Nat) (0:Int) * List.getD x0' (3:Nat) (0:Int)) * wrap64 (wrap64 ((0:Int) + wrap64 (r1.1 * wrap64 ((0:Int) + wrap64 (r0.1 * (1:Int))))) - wrap64 (wrap64 (List.getD x0' (1:Nat) (0:Int) * List.getD x0' (1:Nat) (0:Int)) * (1:Int))))))))) (1:Nat) (wrap64 ((0:Int) - wrap64 (List.getD x0 (4:Nat) (0:Int) * wrap64 (wrap64 ((0:Int) + wrap64 (r3.1 * wrap64 (wrap64 ((0:Int) + wrap64 (r2.1 * wrap64 (wrap64 ((0:Int) + wrap64 (r1.1 * wrap64 ((0:Int) + wrap64 (r0.1 * (1:Int))))) - wrap64 (wrap64 (List.getD x0' (1:Nat) (0:Int) * List.getD x0' (1:Nat) (0:Int)) * (1:Int))))) - wrap64 (wrap64 (List.getD x0' (2:Nat) (0:Int) * List.getD x0' (2:Nat) (0:Int)) * wrap64 ((0:Int) + wrap64 (r0.1 * (1:Int))))))) - wrap64 (wrap64 (List.getD x0' (3:Nat) (0:Int) * List.getD x0' (3:Nat) (0:Int)) * wrap64 (wrap64 ((0:Int) + wrap64 (r1.1 * wrap64 ((0:Int) + wrap64 (r0.1 * (1:Int))))) - wrap64 (wrap64 (List.getD x0' (1:Nat) (0:Int) * List.getD x0' (1:Nat) (0:Int)) * (1:Int))))))))) (1:Nat) (wrap64 (wrap64 ((0:Int) - wrap64 (List.getD x0 (4:Nat) (0:Int) * wrap64 (wrap64 ((0:Int) + wrap64 (r3.1 * wrap64 (wrap64 ((0:Int) + wrap64 (r2.1 * wrap64 (wrap64 ((0:Int) + wrap64 (r1.1 * wrap64 ((0:Int) + wrap64 (r0.1 * (1:Int))))) - wrap64 (wrap64 (List.getD x0' (1:Nat) (0:Int) * List.getD x0' (1:Nat) (0:Int)) * (1:Int))))) - wrap64 (wrap64 (List.getD x0' (2:Nat) (0:Int) * List.getD x0' (2:Nat) (0:Int)) * wrap64 ((0:Int) + wrap64 (r0.1 * (1:Int))))))) - wrap64 (wrap64 (List.getD x0' (3:Nat) (0:Int) * List.getD x0' (3:Nat) (0:Int)) * wrap64 (wrap64 ((0:Int) + wrap64 (r1.1 * wrap64 ((0:Int) + wrap64 (r0.1 * (1:Int))))) - wrap64 (wrap64 (List.getD x0' (1:Nat) (0:Int) * List.getD x0' (1:Nat) (0:Int)) * (1:Int))))))) + wrap64 (r4.1 * wrap64 (wrap64 (wrap64 ((0:Int) - wrap64 (List.getD x0 (3:Nat) (0:Int) * wrap64 (wrap64 ((0:Int) + wrap64 (r2.1 * wrap64 (wrap64 ((0:Int) + wrap64 (r1.1 * wrap64 ((0:Int) + wrap64 (r0.1 * (1:Int))))) - wrap64 (wrap64 (List.getD x0' (1:Nat) (0:Int) * List.getD x0' (1:Nat) (0:Int)) * (1:Int))))) - wrap64 (wrap64 (List.getD x0' (2:Nat) (0:Int) * List.getD x0' (2:Nat) (0:Int)) * wrap64 ((0:Int) + wrap64 (r0.1 * (1:Int))))))) + wrap64 (r3.1 * wrap64 (wrap64 (wrap64 ((0:Int) - wrap64 (List.getD x0 (2:Nat) (0:Int) * wrap64 (wrap64 ((0:Int) + wrap64 (r1.1 * wrap64 ((0:Int) + wrap64 (r0.1 * (1:Int))))) - wrap64 (wrap64 (List.getD x0' (1:Nat) (0:Int) * List.getD x0' (1:Nat) (0:Int)) * (1:Int))))) + wrap64 (r2.1 * wrap64 (wrap64 ((0:Int) - wrap64 (List.getD x0 (1:Nat) (0:Int) * wrap64 ((0:Int) + wrap64 (r0.1 * (1:Int))))) + wrap64 (r1.1 * wrap64 ((0:Int) - wrap64 (List.getD x0 (0:Nat) (0:Int) * (1:Int))))))) - wrap64 (wrap64 (List.getD x0' (2:Nat) (0:Int) * List.getD x0' (2:Nat) (0:Int)) * wrap64 ((0:Int) - wrap64 (List.getD x0 (0:Nat) (0:Int) * (1:Int))))))) - wrap64 (wrap64 (List.getD x0' (3:Nat) (0:Int) * List.getD x0' (3:Nat) (0:Int)) * wrap64 (wrap64 ((0:Int) - wrap64 (List.getD x0 (1:Nat) (0:Int) * wrap64 ((0:Int) + wrap64 (r0.1 * (1:Int))))) + wrap64 (r1.1 * wrap64 ((0:Int) - wrap64 (List.getD x0 (0:Nat) (0:Int) * (1:Int))))))))))) (2:Nat) (wrap64 ((0:Int) - wrap64 (List.getD x0 (4:Nat) (0:Int) * wrap64 (wrap64 (wrap64 ((0:Int) - wrap64 (List.getD x0 (3:Nat) (0:Int) * wrap64 (wrap64 ((0:Int) + wrap64 (r2.1 * wrap64 (wrap64 ((0:Int) + wrap64 (r1.1 * wrap64 ((0:Int) + wrap64 (r0.1 * (1:Int))))) - wrap64 (wrap64 (List.getD x0' (1:Nat) (0:Int) * List.getD x0' (1:Nat) (0:Int)) * (1:Int))))) - wrap64 (wrap64 (List.getD x0' (2:Nat) (0:Int) * List.getD x0' (2:Nat) (0:Int)) * wrap64 ((0:Int) + wrap64 (r0.1 * (1:Int))))))) + wrap64 (r3.1 * wrap64 (wrap64 (wrap64 ((0:Int) - wrap64 (List.getD x0 (2:Nat) (0:Int) * wrap64 (wrap64 ((0:Int) + wrap64 (r1.1 * wrap64 ((0:Int) + wrap64 (r0.1 * (1:Int))))) - wrap64 (wrap64 (List.getD x0' (1:Nat) (0:Int) * List.getD x0' (1:Nat) (0:Int)) * (1:Int))))) + wrap64 (r2.1 * wrap64 (wrap64 ((0:Int) - wrap64 (List.getD x0 (1:Nat) (0:Int) * wrap64 ((0:Int) + wrap64 (r0.1 * (1:Int))))) + wrap64 (r1.1 * wrap64 ((0:Int) - wrap64 (List.getD x0 (0:Nat) (0:Int) * (1:Int))))))) - wrap64 (wrap64 (List.getD x0' (2:Nat) (0:Int) * List.getD x0' (2:Nat) (0:Int)) * wrap64 ((0:Int) - wrap64 (List.getD x0 (0:Nat) (0:Int) * (1:Int))))))) - wrap64 (wrap64 (List.getD x0' (3:Nat) (0:Int) * List.getD x0' (3:Nat) (0:Int)) * wrap64 (wrap64 ((0:Int) - wrap64 (List.getD x0 (1:Nat) (0:Int) * wrap64 ((0:Int) + wrap64 (r0.1 * (1:Int))))) + wrap64 (r1.1 * wrap64 ((0:Int) - wrap64 (List.getD x0 (0:Nat) (0:Int) * (1:Int))))))))))) (2:Nat) (wrap64 (wrap64 ((0:Int) - wrap64 (List.getD x0 (4:Nat) (0:Int) * wrap64 (wrap64 (wrap64 ((0:Int) - wrap64 (List.getD x0 (3:Nat) (0:Int) * wrap64 (wrap64 ((0:Int) + wrap64 (r2.1 * wrap64 (wrap64 ((0:Int) + wrap64 (r1.1 * wrap64 ((0:Int) + wrap64 (r0.1 * (1:Int))))) - wrap64 (wrap64 (List.getD x0' (1:Nat) (0:Int) * List.getD x0' (1:Nat) (0:Int)) * (1:Int))))) - wrap64 (wrap64 (List.getD x0' (2:Nat) (0:Int) * List.getD x0' (2:Nat) (0:Int)) * wrap64 ((0:Int) + wrap64 (r0.1 * (1:Int))))))) + wrap64 (r3.1 * wrap64 (wrap64 (wrap64 ((0:Int) - wrap64 (List.getD x0 (2:Nat) (0:Int) * wrap64 (wrap64 ((0:Int) + wrap64 (r1.1 * wrap64 ((0:Int) + wrap64 (r0.1 * (1:Int))))) - wrap64 (wrap64 (List.getD x0' (1:Nat) (0:Int) * List.getD x0' (1:Nat) (0:Int)) * (1:Int))))) + wrap64 (r2.1 * wrap64 (wrap64 ((0:Int) - wrap64 (List.getD x0 (1:Nat) (0:Int) * wrap64 ((0:Int) + wrap64 (r0.1 * (1:Int))))) + wrap64 (r1.1 * wrap64 ((0:Int) - wrap64 (List.getD x0 (0:Nat) (0:Int) * (1:Int))))))) - wrap64 (wrap64 (List.getD x0' (2:Nat) (0:Int) * List.getD x0' (2:Nat) (0:Int)) * wrap64 ((0:Int) - wrap64 (List.getD x0 (0:Nat) (0:Int) * (1:Int))))))) - wrap64 (wrap64 (List.getD x0' (3:Nat) (0:Int) * List.getD x0' (3:Nat) (0:Int)) * wrap64 (wrap64 ((0:Int) - wrap64 (List.getD x0 (1:Nat) (0:Int) * wrap64 ((0:Int) + wrap64 (r0.1 * (1:Int))))) + wrap64 (r1.1 * wrap64 ((0:Int) - wrap64 (List.getD x0 (0:Nat) (0:Int) * (1:Int))))))))) + wrap64 (r4.1 * wrap64 (wrap64 (wrap64 ((0:Int) - wrap64 (List.getD x0 (3:Nat) (0:Int) * wrap64 (wrap64 (wrap64 ((0:Int) - wrap64 (List.getD x0 (2:Nat) (0:Int) * wrap64 (wrap64 ((0:Int) + wrap64 (r1.1 * wrap64 ((0:Int) + wrap64 (r0.1 * (1:Int))))) - wrap64 (wrap64 (List.getD x0' (1:Nat) (0:Int) * List.getD x0' (1:Nat) (0:Int)) * (1:Int))))) + wrap64 (r2.1 * wrap64 (wrap64 ((0:Int) - wrap64 (List.getD x0 (1:Nat) (0:Int) * wrap64 ((0:Int) + wrap64 (r0.1 * (1:Int))))) + wrap64 (r1.1 * wrap64 ((0:Int) - wrap64 (List.getD x0 (0:Nat) (0:Int) * (1:Int))))))) - wrap64 (wrap64 (List.getD x0' (2:Nat) (0:Int) * List.getD x0' (2:Nat) (0:Int)) * wrap64 ((0:Int) - wrap64 (List.getD x0 (0:Nat) (0:Int) * (1:Int))))))) + wrap64 (r3.1 * wrap64 (wrap64 ((0:Int) - wrap64 (List.getD x0 (2:Nat) (0:Int) * wrap64 (wrap64 ((0:Int) - wrap64 (List.getD x0 (1:Nat) (0:Int) * wrap64 ((0:Int) + wrap64 (r0.1 * (1:Int))))) + wrap64 (r1.1 * wrap64 ((0:Int) - wrap64 (List.getD x0 (0:Nat) (0:Int) * (1:Int))))))) + wrap64 (r2.1 * wrap64 ((0:Int) - wrap64 (List.getD x0 (1:Nat) (0:Int) * wrap64 ((0:Int) - wrap64 (List.getD x0 (0:Nat) (0:Int) * (1:Int))))))))) - wrap64 (wrap64 (List.getD x0' (3:Nat) (0:Int) * List.getD x0' (3:Nat) (0:Int)) * wrap64 ((0:Int) - wrap64 (List.getD x0 (1:Nat) (0:Int) * wrap64 ((0:Int) - wrap64 (List.getD x0 (0:Nat) (0:Int) * (1:Int))))))))))) (3:Nat) (wrap64 ((0:Int) - wrap64 (List.getD x0 (4:Nat) (0:Int) * wrap64 (wrap64 (wrap64 ((0:Int) - wrap64 (List.getD x0 (3:Nat) (0:Int) * wrap64 (wrap64 (wrap64 ((0:Int) - wrap64 (List.getD x0 (2:Nat) (0:Int) * wrap64 (wrap64 ((0:Int) + wrap64 (r1.1 * wrap64 ((0:Int) + wrap64 (r0.1 * (1:Int))))) - wrap64 (wrap64 (List.getD x0' (1:Nat) (0:Int) * List.getD x0' (1:Nat) (0:Int)) * (1:Int))))) + wrap64 (r2.1 * wrap64 (wrap64 ((0:Int) - wrap64 (List.getD x0 (1:Nat) (0:Int) * wrap64 ((0:Int) + wrap64 (r0.1 * (1:Int))))) + wrap64 (r1.1 * wrap64 ((0:Int) - wrap64 (List.getD x0 (0:Nat) (0:Int) * (1:Int))))))) - wrap64 (wrap64 (List.getD x0' (2:Nat) (0:Int) * List.getD x0' (2:Nat) (0:Int)) * wrap64 ((0:Int) - wrap64 (List.getD x0 (0:Nat) (0:Int) * (1:Int))))))) + wrap64 (r3.1 * wrap64 (wrap64 ((0:Int) - wrap64 (List.getD x0 (2:Nat) (0:Int) * wrap64 (wrap64 ((0:Int) - wrap64 (List.getD x0 (1:Nat) (0:Int) * wrap64 ((0:Int) + wrap64 (r0.1 * (1:Int))))) + wrap64 (r1.1 * wrap64 ((0:Int) - wrap64 (List.getD x0 (0:Nat) (0:Int) * (1:Int))))))) + wrap64 (r2.1 * wrap64 ((0:Int) - wrap64 (List.getD x0 (1:Nat) (0:Int) * wrap64 ((0:Int) - wrap64 (List.getD x0 (0:Nat) (0:Int) * (1:Int))))))))) - wrap64 (wrap64 (List.getD x0' (3:Nat) (0:Int) * List.getD x0' (3:Nat) (0:Int)) * wrap64 ((0:Int) - wrap64 (List.getD x0 (1:Nat) (0:Int) * wrap64 ((0:Int) - wrap64 (List.getD x0 (0:Nat) (0:Int) * (1:Int))))))))))) (3:Nat) (wrap64 (wrap64 ((0:Int) - wrap64 (List.getD x0 (4:Nat) (0:Int) * wrap64 (wrap64 (wrap64 ((0:Int) - wrap64 (List.getD x0 (3:Nat) (0:Int) * wrap64 (wrap64 (wrap64 ((0:Int) - wrap64 (List.getD x0 (2:Nat) (0:Int) * wrap64 (wrap64 ((0:Int) + wrap64 (r1.1 * wrap64 ((0:Int) + wrap64 (r0.1 * (1:Int))))) - wrap64 (wrap64 (List.getD x0' (1:Nat) (0:Int) * List.getD x0' (1:Nat) (0:Int)) * (1:Int))))) + wrap64 (r2.1 * wrap64 (wrap64 ((0:Int) - wrap64 (List.getD x0 (1:Nat) (0:Int) * wrap64 ((0:Int) + wrap64 (r0.1 * (1:Int))))) + wrap64 (r1.1 * wrap64 ((0:Int) - wrap64 (List.getD x0 (0:Nat) (0:Int) * (1:Int))))))) - wrap64 (wrap64 (List.getD x0' (2:Nat) (0:Int) * List.getD x0' (2:Nat) (0:Int)) * wrap64 ((0:Int) - wrap64 (List.getD x0 (0:Nat) (0:Int) * (1:Int))))))) + wrap64 (r3.1 * wrap64 (wrap64 ((0:Int) - wrap64 (List.getD x0 (2:Nat) (0:Int) * wrap64 (wrap64 ((0:Int) - wrap64 (List.getD x0 (1:Nat) (0:Int) * wrap64 ((0:Int) + wrap64 (r0.1 * (1:Int))))) + wrap64 (r1.1 * wrap64 ((0:Int) - wrap64 (List.getD x0 (0:Nat) (0:Int) * (1:Int))))))) + wrap64 (r2.1 * wrap64 ((0:Int) - wrap64 (List.getD x0 (1:Nat) (0:Int) * wrap64 ((0:Int) - wrap64 (List.getD x0 (0:Nat) (0:Int) * (1:Int))))))))) - wrap64 (wrap64 (List.getD x0' (3:Nat) (0:Int) * List.getD x0' (3:Nat) (0:Int)) * wrap64 ((0:Int) - wrap64 (List.getD x0 (1:Nat) (0:Int) * wrap64 ((0:Int) - wrap64 (List.getD x0 (0:Nat) (0:Int) * (1:Int))))))))) + wrap64 (r4.1 * wrap64 (wrap64 ((0:Int) - wrap64 (List.getD x0 (3:Nat) (0:Int) * wrap64 (wrap64 ((0:Int) - wrap64 (List.getD x0 (2:Nat) (0:Int) * wrap64 (wrap64 ((0:Int) - wrap64 (List.getD x0 (1:Nat) (0:Int) * wrap64 ((0:Int) + wrap64 (r0.1 * (1:Int))))) + wrap64 (r1.1 * wrap64 ((0:Int) - wrap64 (List.getD x0 (0:Nat) (0:Int) * (1:Int))))))) + wrap64 (r2.1 * wrap64 ((0:Int) - wrap64 (List.getD x0 (1:Nat) (0:Int) * wrap64 ((0:Int) - wrap64 (List.getD x0 (0:Nat) (0:Int) * (1:Int))))))))) + wrap64 (r3.1 * wrap64 ((0:Int) - wrap64 (List.getD x0 (2:Nat) (0:Int) * wrap64 ((0:Int) - wrap64 (List.getD x0 (1:Nat) (0:Int) * wrap64 ((0:Int) - wrap64 (List.getD x0 (0:Nat) (0:Int) * (1:Int))))))))))))) (4:Nat) (wrap64 ((0:Int) - wrap64 (List.getD x0 (4:Nat) (0:Int) * wrap64 (wrap64 ((0:Int) - wrap64 (List.getD x0 (3:Nat) (0:Int) * wrap64 (wrap64 ((0:Int) - wrap64 (List.getD x0 (2:Nat) (0:Int) * wrap64 (wrap64 ((0:Int) - wrap64 (List.getD x0 (1:Nat) (0:Int) * wrap64 ((0:Int) + wrap64 (r0.1 * (1:Int))))) + wrap64 (r1.1 * wrap64 ((0:Int) - wrap64 (List.getD x0 (0:Nat) (0:Int) * (1:Int))))))) + wrap64 (r2.1 * wrap64 ((0:Int) - wrap64 (List.getD x0 (1:Nat) (0:Int) * wrap64 ((0:Int) - wrap64 (List.getD x0 (0:Nat) (0:Int) * (1:Int))))))))) + wrap64 (r3.1 * wrap64 ((0:Int) - wrap64 (List.getD x0 (2:Nat) (0:Int) * wrap64 ((0:Int) - wrap64 (List.getD x0 (1:Nat) (0:Int) * wrap64 ((0:Int) - wrap64 (List.getD x0 (0:Nat) (0:Int) * (1:Int))))))))))))) (4:Nat) (wrap64 (wrap64 ((0:Int) - wrap64 (List.getD x0 (4:Nat) (0:Int) * wrap64 (wrap64 ((0:Int) - wrap64 (List.getD x0 (3:Nat) (0:Int) * wrap64 (wrap64 ((0:Int) - wrap64 (List.getD x0 (2:Nat) (0:Int) * wrap64 (wrap64 ((0:Int) - wrap64 (List.getD x0 (1:Nat) (0:Int) * wrap64 ((0:Int) + wrap64 (r0.1 * (1:Int))))) + wrap64 (r1.1 * wrap64 ((0:Int) - wrap64 (List.getD x0 (0:Nat) (0:Int) * (1:Int))))))) + wrap64 (r2.1 * wrap64 ((0:Int) - wrap64 (List.getD x0 (1:Nat) (0:Int) * wrap64 ((0:Int) - wrap64 (List.getD x0 (0:Nat) (0:Int) * (1:Int))))))))) + wrap64 (r3.1 * wrap64 ((0:Int) - wrap64 (List.getD x0 (2:Nat) (0:Int) * wrap64 ((0:Int) - wrap64 (List.getD x0 (1:Nat) (0:Int) * wrap64 ((0:Int) - wrap64 (List.getD x0 (0:Nat) (0:Int) * (1:Int))))))))))) + wrap64 (r4.1 * wrap64 ((0:Int) - wrap64 (List.getD x0 (3:Nat) (0:Int) * wrap64 ((0:Int) - wrap64 (List.getD x0 (2:Nat) (0:Int) * wrap64 ((0:Int) - wrap64 (List.getD x0 (1:Nat) (0:Int) * wrap64 ((0:Int) - wrap64 (List.getD x0 (0:Nat) (0:Int) * (1:Int))))))))))))) (5:Nat) (wrap64 ((0:Int) - wrap64 (List.getD x0 (4:Nat) (0:Int) * wrap64 ((0:Int) - wrap64 (List.getD x0 (3:Nat) (0:Int) * wrap64 ((0:Int) - wrap64 (List.getD x0 (2:Nat) (0:Int) * wrap64 ((0:Int) - wrap64 (List.getD x0 (1:Nat) (0:Int) * wrap64 ((0:Int) - wrap64 (List.getD x0 (0:Nat) (0:Int) * (1:Int))))))))))))) (0:Nat) (wrap64 (wrap64 ((0:Int) + wrap64 (r4.1 * wrap64 (wrap64 ((0:Int) + wrap64 (r3.1 * wrap64 (wrap64 ((0:Int) + wrap64 (r2.1 * wrap64 (wrap64 ((0:Int) + wrap64 (r1.1 * wrap64 ((0:Int) + wrap64 (r0.1 * (1:Int))))) - wrap64 (wrap64 (List.getD x0' (1:Nat) (0:Int) * List.getD x0' (1:Nat) (0:Int)) * (1:Int))))) - wrap64 (wrap64 (List.getD x0' (2:Nat) (0:Int) * List.getD x0' (2:Nat) (0:Int)) * wrap64 ((0:Int) + wrap64 (r0.1 * (1:Int))))))) - wrap64 (wrap64 (List.getD x0' (3:Nat) (0:Int) * List.getD x0' (3:Nat) (0:Int)) * wrap64 (wrap64 ((0:Int) + wrap64 (r1.1 * wrap64 ((0:Int) + wrap64 (r0.1 * (1:Int))))) - wrap64 (wrap64 (List.getD x0' (1:Nat) (0:Int) * List.getD x0' (1:Nat) (0:Int)) * (1:Int))))))) - wrap64 (wrap64 (List.getD x0' (4:Nat) (0:Int) * List.getD x0' (4:Nat) (0:Int)) * wrap64 (wrap64 ((0:Int) + wrap64 (r2.1 * wrap64 (wrap64 ((0:Int) + wrap64 (r1.1 * wrap64 ((0:Int) + wrap64 (r0.1 * (1:Int))))) - wrap64 (wrap64 (List.getD x0' (1:Nat) (0:Int) * List.getD x0' (1:Nat) (0:Int)) * (1:Int))))) - wrap64 (wrap64 (List.getD x0' (2:Nat) (0:Int) * List.getD x0' (2:Nat) (0:Int)) * wrap64 ((0:Int) + wrap64 (r0.1 * (1:Int))))))))) (1:Nat) (wrap64 (wrap64 (wrap64 ((0:Int) - wrap64 (List.getD x0 (4:Nat) (0:Int) * wrap64 (wrap64 ((0:Int) + wrap64 (r3.1 * wrap64 (wrap64 ((0:Int) + wrap64 (r2.1 * wrap64 (wrap64 ((0:Int) + wrap64 (r1.1 * wrap64 ((0:Int) + wrap64 (r0.1 * (1:Int))))) - wrap64 (wrap64 (List.getD x0' (1:Nat) (0:Int) * List.getD x0' (1:Nat) (0:Int)) * (1:Int))))) - wrap64 (wrap64 (List.getD x0' (2:Nat) (0:Int) * List.getD x0' (2:Nat) (0:Int)) * wrap64 ((0:Int) + wrap64 (r0.1 * (1:Int))))))) - wrap64 (wrap64 (List.getD x0' (3:Nat) (0:Int) * List.getD x0' (3:Nat) (0:Int)) * wrap64 (wrap64 ((0:Int) + wrap64 (r1.1 * wrap64 ((0:Int) + wrap64 (r0.1 * (1:Int))))) - wrap64 (wrap64 (List.getD x0' (1:Nat) (0:Int) * List.getD x0' (1:Nat) (0:Int)) * (1:Int))))))) + wrap64 (r4.1 * wrap64 (wrap64 (wrap64 ((0:Int) - wrap64 (List.getD x0 (3:Nat) (0:Int) * wrap64 (wrap64 ((0:Int) + wrap64 (r2.1 * wrap64 (wrap64 ((0:Int) + wrap64 (r1.1 * wrap64 ((0:Int) + wrap64 (r0.1 * (1:Int))))) - wrap64 (wrap64 (List.getD x0' (1:Nat) (0:Int) * List.getD x0' (1:Nat) (0:Int)) * (1:Int))))) - wrap64 (wrap64 (List.getD x0' (2:Nat) (0:Int) * List.getD x0' (2:Nat) (0:Int)) * wrap64 ((0:Int) + wrap64 (r0.1 * (1:Int))))))) + wrap64 (r3.1 * wrap64 (wrap64 (wrap64 ((0:Int) - wrap64 (List.getD x0 (2:Nat) (0:Int) * wrap64 (wrap64 ((0:Int) + wrap64 (r1.1 * wrap64 ((0:Int) + wrap64 (r0.1 * (1:Int))))) - wrap64 (wrap64 (List.getD x0' (1:Nat) (0:Int) * List.getD x0' (1:Nat) (0:Int)) * (1:Int))))) + wrap64 (r2.1 * wrap64 (wrap64 ((0:Int) - wrap64 (List.getD x0 (1:Nat) (0:Int) * wrap64 ((0:Int) + wrap64 (r0.1 * (1:Int))))) + wrap64 (r1.1 * wrap64 ((0:Int) - wrap64 (List.getD x0 (0:Nat) (0:Int) * (1:Int))))))) - wrap64 (wrap64 (List.getD x0' (2:Nat) (0:Int) * List.getD x0' (2:Nat) (0:Int)) * wrap64 ((0:Int) - wrap64 (List.getD x0 (0:Nat) (0:Int) * (1:Int))))))) - wrap64 (wrap64 (List.getD x0' (3:Nat) (0:Int) * List.getD x0' (3:Nat) (0:Int)) * wrap64 (wrap64 ((0:Int) - wrap64 (List.getD x0 (1:Nat) (0:Int) * wrap64 ((0:Int) + wrap64 (r0.1 * (1:Int))))) + wrap64 (r1.1 * wrap64 ((0:Int) - wrap64 (List.getD x0 (0:Nat) (0:Int) * (1:Int))))))))) - wrap64 (wrap64 (List.getD x0' (4:Nat) (0:Int) * List.getD x0' (4:Nat) (0:Int)) * wrap64 (wrap64 (wrap64 ((0:Int) - wrap64 (List.getD x0 (2:Nat) (0:Int) * wrap64 (wrap64 ((0:Int) + wrap64 (r1.1 * wrap64 ((0:Int) + wrap64 (r0.1 * (1:Int))))) - wrap64 (wrap64 (List.getD x0' (1:Nat) (0:Int) * List.getD x0' (1:Nat) (0:Int)) * (1:Int))))) + wrap64 (r2.1 * wrap64 (wrap64 ((0:Int) - wrap64 (List.getD x0 (1:Nat) (0:Int) * wrap64 ((0:Int) + wrap64 (r0.1 * (1:Int))))) + wrap64 (r1.1 * wrap64 ((0:Int) - wrap64 (List.getD x0 (0:Nat) (0:Int) * (1:Int))))))) - wrap64 (wrap64 (List.getD x0' (2:Nat) (0:Int) * List.getD x0' (2:Nat) (0:Int)) * wrap64 ((0:Int) - wrap64 (List.getD x0 (0:Nat) (0:Int) * (1:Int))))))))) (2:Nat) (wrap64 (wrap64 (wrap64 ((0:Int) - wrap64 (List.getD x0 (4:Nat) (0:Int) * wrap64 (wrap64 (wrap64 ((0:Int) - wrap64 (List.getD x0 (3:Nat) (0:Int) * wrap64 (wrap64 ((0:Int) + wrap64 (r2.1 * wrap64 (wrap64 ((0:Int) + wrap64 (r1.1 * wrap64 ((0:Int) + wrap64 (r0.1 * (1:Int))))) - wrap64 (wrap64 (List.getD x0' (1:Nat) (0:Int) * List.getD x0' (1:Nat) (0:Int)) * (1:Int))))) - wrap64 (wrap64 (List.getD x0' (2:Nat) (0:Int) * List.getD x0' (2:Nat) (0:Int)) * wrap64 ((0:Int) + wrap64 (r0.1 * (1:Int))))))) + wrap64 (r3.1 * wrap64 (wrap64 (wrap64 ((0:Int) - wrap64 (List.getD x0 (2:Nat) (0:Int) * wrap64 (wrap64 ((0:Int) + wrap64 (r1.1 * wrap64 ((0:Int) + wrap64 (r0.1 * (1:Int))))) - wrap64 (wrap64 (List.getD x0' (1:Nat) (0:Int) * List.getD x0' (1:Nat) (0:Int)) * (1:Int))))) + wrap64 (r2.1 * wrap64 (wrap64 ((0:Int) - wrap64 (List.getD x0 (1:Nat) (0:Int) * wrap64 ((0:Int) + wrap64 (r0.1 * (1:Int))))) + wrap64 (r1.1 * wrap64 ((0:Int) - wrap64 (List.getD x0 (0:Nat) (0:Int) * (1:Int))))))) - wrap64 (wrap64 (List.getD x0' (2:Nat) (0:Int) * List.getD x0' (2:Nat) (0:Int)) * wrap64 ((0:Int) - wrap64 (List.getD x0 (0:Nat) (0:Int) * (1:Int))))))) - wrap64 (wrap64 (List.getD x0' (3:Nat) (0:Int) * List.getD x0' (3:Nat) (0:Int)) * wrap64 (wrap64 ((0:Int) - wrap64 (List.getD x0 (1:Nat) (0:Int) * wrap64 ((0:Int) + wrap64 (r0.1 * (1:Int))))) + wrap64 (r1.1 * wrap64 ((0:Int) - wrap64 (List.getD x0 (0:Nat) (0:Int) * (1:Int))))))))) + wrap64 (r4.1 * wrap64 (wrap64 (wrap64 ((0:Int) - wrap64 (List.getD x0 (3:Nat) (0:Int) * wrap64 (wrap64 (wrap64 ((0:Int) - wrap64 (List.getD x0 (2:Nat) (0:Int) * wrap64 (wrap64 ((0:Int) + wrap64 (r1.1 * wrap64 ((0:Int) + wrap64 (r0.1 * (1:Int))))) - wrap64 (wrap64 (List.getD x0' (1:Nat) (0:Int) * List.getD x0' (1:Nat) (0:Int)) * (1:Int))))) + wrap64 (r2.1 * wrap64 (wrap64 ((0:Int) - wrap64 (List.getD x0 (1:Nat) (0:Int) * wrap64 ((0:Int) + wrap64 (r0.1 * (1:Int))))) + wrap64 (r1.1 * wrap64 ((0:Int) - wrap64 (List.getD x0 (0:Nat) (0:Int) * (1:Int))))))) - wrap64 (wrap64 (List.getD x0' (2:Nat) (0:Int) * List.getD x0' (2:Nat) (0:Int)) * wrap64 ((0:Int) - wrap64 (List.getD x0 (0:Nat) (0:Int) * (1:Int))))))) + wrap64 (r3.1 * wrap64 (wrap64 ((0:Int) - wrap64 (List.getD x0 (2:Nat) (0:Int) * wrap64 (wrap64 ((0:Int) - wrap64 (List.getD x0 (1:Nat) (0:Int) * wrap64 ((0:Int) + wrap64 (r0.1 * (1:Int))))) + wrap64 (r1.1 * wrap64 ((0:Int) - wrap64 (List.getD x0 (0:Nat) (0:Int) * (1:Int))))))) + wrap64 (r2.1 * wrap64 ((0:Int) - wrap64 (List.getD x0 (1:Nat) (0:Int) * wrap64 ((0:Int) - wrap64 (List.getD x0 (0:Nat) (0:Int) * (1:Int))))))))) - wrap64 (wrap64 (List.getD x0' (3:Nat) (0:Int) * List.getD x0' (3:Nat) (0:Int)) * wrap64 ((0:Int) - wrap64 (List.getD x0 (1:Nat) (0:Int) * wrap64 ((0:Int) - wrap64 (List.getD x0 (0:Nat) (0:Int) * (1:Int))))))))) - wrap64 (wrap64 (List.getD x0' (4:Nat) (0:Int) * List.getD x0' (4:Nat) (0:Int)) * wrap64 (wrap64 ((0:Int) - wrap64 (List.getD x0 (2:Nat) (0:Int) * wrap64 (wrap64 ((0:Int) - wrap64 (List.getD x0 (1:Nat) (0:Int) * wrap64 ((0:Int) + wrap64 (r0.1 * (1:Int))))) + wrap64 (r1.1 * wrap64 ((0:Int) - wrap64 (List.getD x0 (0:Nat) (0:Int) * (1:Int))))))) + wrap64 (r2.1 * wrap64 ((0:Int) - wrap64 (List.getD x0 (1:Nat) (0:Int) * wrap64 ((0:Int) - wrap64 (List.getD x0 (0:Nat) (0:Int) * (1:Int))))))))))) (3:Nat) (wrap64 (wrap64 (wrap64 ((0:Int) - wrap64 (List.getD x0 (4:Nat) (0:Int) * wrap64 (wrap64 (wrap64 ((0:Int) - wrap64 (List.getD x0 (3:Nat) (0:Int) * wrap64 (wrap64 (wrap64 ((0:Int) - wrap64 (List.getD x0 (2:Nat) (0:Int) * wrap64 (wrap64 ((0:Int) + wrap64 (r1.1 * wrap64 ((0:Int) + wrap64 (r0.1 * (1:Int))))) - wrap64 (wrap64 (List.getD x0' (1:Nat) (0:Int) * List.getD x0' (1:Nat) (0:Int)) * (1:Int))))) + wrap64 (r2.1 * wrap64 (wrap64 ((0:Int) - wrap64 (List.getD x0 (1:Nat) (0:Int) * wrap64 ((0:Int) + wrap64 (r0.1 * (1:Int))))) + wrap64 (r1.1 * wrap64 ((0:Int) - wrap64 (List.getD x0 (0:Nat) (0:Int) * (1:Int))))))) - wrap64 (wrap64 (List.getD x0' (2:Nat) (0:Int) * List.getD x0' (2:Nat) (0:Int)) * wrap64 ((0:Int) - wrap64 (List.getD x0 (0:Nat) (0:Int) * (1:Int))))))) + wrap64 (r3.1 * wrap64 (wrap64 ((0:Int) - wrap64 (List.getD x0 (2:Nat) (0:Int) * wrap64 (wrap64 ((0:Int) - wrap64 (List.getD x0 (1:Nat) (0:Int) * wrap64 ((0:Int) + wrap64 (r0.1 * (1:Int))))) + wrap64 (r1.1 * wrap64 ((0:Int) - wrap64 (List.getD x0 (0:Nat) (0:Int) * (1:Int))))))) + wrap64 (r2.1 * wrap64 ((0:Int) - wrap64 (List.getD x0 (1:Nat) (0:Int) * wrap64 ((0:Int) - wrap64 (List.getD x0 (0:Nat) (0:Int) * (1:Int))))))))) - wrap64 (wrap64 (List.getD x0' (3:Nat) (0:Int) * List.getD x0' (3:Nat) (0:Int)) * wrap64 ((0:Int) - wrap64 (List.getD x0 (1:Nat) (0:Int) * wrap64 ((0:Int) - wrap64 (List.getD x0 (0:Nat) (0:Int) * (1:Int))))))))) + wrap64 (r4.1 * wrap64 (wrap64 ((0:Int) - wrap64 (List.getD x0 (3:Nat) (0:Int) * wrap64 (wrap64 ((0:Int) - wrap64 (List.getD x0 (2:Nat) (0:Int) * wrap64 (wrap64 ((0:Int) - wrap64 (List.getD x0 (1:Nat) (0:Int) * wrap64 ((0:Int) + wrap64 (r0.1 * (1:Int))))) + wrap64 (r1.1 * wrap64 ((0:Int) - wrap64 (List.getD x0 (0:Nat) (0:Int) * (1:Int))))))) + wrap64 (r2.1 * wrap64 ((0:Int) - wrap64 (List.getD x0 (1:Nat) (0:Int) * wrap64 ((0:Int) - wrap64 (List.getD x0 (0:Nat) (0:Int) * (1:Int))))))))) + wrap64 (r3.1 * wrap64 ((0:Int) - wrap64 (List.getD x0 (2:Nat) (0:Int) * wrap64 ((0:Int) - wrap64 (List.getD x0 (1:Nat) (0:Int) * wrap64 ((0:Int) - wrap64 (List.getD x0 (0:Nat) (0:Int) * (1:Int))))))))))) - wrap64 (wrap64 (List.getD x0' (4:Nat) (0:Int) * List.getD x0' (4:Nat) (0:Int)) * wrap64 ((0:Int) - wrap64 (List.getD x0 (2:Nat) (0:Int) * wrap64 ((0:Int) - wrap64 (List.getD x0 (1:Nat) (0:Int) * wrap64 ((0:Int) - wrap64 (List.getD x0 (0:Nat) (0:Int) * (1:Int)))))))))):List Int),()))))
                                        (Tr.stop))
                                      (Tr.stop))
                                    (Tr.stop))
                                  (let r0:=g54 ((x0,(x0',())),((0:Int),()));
                                  let r1:=g54 ((x0,(x0',())),((1:Int),()));
                                  let r2:=g54 ((x0,(x0',())),((2:Int),()));
                                  let r3:=g54 ((x0,(x0',())),((3:Int),()));
                                  Tr.fin (((List.set (List.set (List.set (List.set (List.set (List.set (List.set (List.set (List.set (List.set (List.set (List.replicate (5:Nat) (0:Int)) (0:Nat) (wrap64 ((0:Int) + wrap64 (r3.1 * wrap64 (wrap64 ((0:Int) + wrap64 (r2.1 * wrap64 (wrap64 ((0:Int) + wrap64 (r1.1 * wrap64 ((0:Int) + wrap64 (r0.1 * (1:Int))))) - wrap64 (wrap64 (List.getD x0' (1:Nat) (0:Int) * List.getD x0' (1:Nat) (0:Int)) * (1:Int))))) - wrap64 (wrap64 (List.getD x0' (2:Nat) (0:Int) * List.getD x0' (2:Nat) (0:Int)) * wrap64 ((0:Int) + wrap64 (r0.1 * (1:Int))))))))) (1:Nat) (wrap64 ((0:Int) - wrap64 (List.getD x0 (3:Nat) (0:Int) * wrap64 (wrap64 ((0:Int) + wrap64 (r2.1 * wrap64 (wrap64 ((0:Int) + wrap64 (r1.1 * wrap64 ((0:Int) + wrap64 (r0.1 * (1:Int))))) - wrap64 (wrap64 (List.getD x0' (1:Nat) (0:Int) * List.getD x0' (1:Nat) (0:Int)) * (1:Int))))) - wrap64 (wrap64 (List.getD x0' (2:Nat) (0:Int) * List.getD x0' (2:Nat) (0:Int)) * wrap64 ((0:Int) + wrap64 (r0.1 * (1:Int))))))))) (1:Nat) (wrap64 (wrap64 ((0:Int) - wrap64 (List.getD x0 (3:Nat) (0:Int) * wrap64 (wrap64 ((0:Int) + wrap64 (r2.1 * wrap64 (wrap64 ((0:Int) + wrap64 (r1.1 * wrap64 ((0:Int) + wrap64 (r0.1 * (1:Int))))) - wrap64 (wrap64 (List.getD x0' (1:Nat) (0:Int) * List.getD x0' (1:Nat) (0:Int)) * (1:Int))))) - wrap64 (wrap64 (List.getD x0' (2:Nat) (0:Int) * List.getD x0' (2:Nat) (0:Int)) * wrap64 ((0:Int) + wrap64 (r0.1 * (1:Int))))))) + wrap64 (r3.1 * wrap64 (wrap64 (wrap64 ((0:Int) - wrap64 (List.getD x0 (2:Nat) (0:Int) * wrap64 (wrap64 ((0:Int) + wrap64 (r1.1 * wrap64 ((0:Int) + wrap64 (r0.1 * (1:Int))))) - wrap64 (wrap64 (List.getD x0' (1:Nat) (0:Int) * List.getD x0' (1:Nat) (0:Int)) * (1:Int))))) + wrap64 (r2.1 * wrap64 (wrap64 ((0:Int) - wrap64 (List.getD x0 (1:Nat) (0:Int) * wrap64 ((0:Int) + wrap64 (r0.1 * (1:Int))))) + wrap64 (r1.1 * wrap64 ((0:Int) - wrap64 (List.getD x0 (0:Nat) (0:Int) * (1:Int))))))) - wrap64 (wrap64 (List.getD x0' (2:Nat) (0:Int) * List.getD x0' (2:Nat) (0:Int)) * wrap64 ((0:Int) - wrap64 (List.getD x0 (0:Nat) (0:Int) * (1:Int))))))))) (2:Nat) (wrap64 ((0:Int) - wrap64 (List.getD x0 (3:Nat) (0:Int) * wrap64 (wrap64 (wrap64 ((0:Int) - wrap64 (List.getD x0 (2:Nat) (0:Int) * wrap64 (wrap64 ((0:Int) + wrap64 (r1.1 * wrap64 ((0:Int) + wrap64 (r0.1 * (1:Int))))) - wrap64 (wrap64 (List.getD x0' (1:Nat) (0:Int) * List.getD x0' (1:Nat) (0:Int)) * (1:Int))))) + wrap64 (r2.1 * wrap64 (wrap64 ((0:Int) - wrap64 (List.getD x0 (1:Nat) (0:Int) * wrap64 ((0:Int) + wrap64 (r0.1 * (1:Int))))) + wrap64 (r1.1 * wrap64 ((0:Int) - wrap64 (List.getD x0 (0:Nat) (0:Int) * (1:Int))))))) - wrap64 (wrap64 (List.getD x0' (2:Nat) (0:Int) * List.getD x0' (2:Nat) (0:Int)) * wrap64 ((0:Int) - wrap64 (List.getD x0 (0:Nat) (0:Int) * (1:Int))))))))) (2:Nat) (wrap64 (wrap64 ((0:Int) - wrap64 (List.getD x0 (3:Nat) (0:Int) * wrap64 (wrap64 (wrap64 ((0:Int) - wrap64 (List.getD x0 (2:Nat) (0:Int) * wrap64 (wrap64 ((0:Int) + wrap64 (r1.1 * wrap64 ((0:Int) + wrap64 (r0.1 * (1:Int))))) - wrap64 (wrap64 (List.getD x0' (1:Nat) (0:Int) * List.getD x0' (1:Nat) (0:Int)) * (1:Int))))) + wrap64 (r2.1 * wrap64 (wrap64 ((0:Int) - wrap64 (List.getD x0 (1:Nat) (0:Int) * wrap64 ((0:Int) + wrap64 (r0.1 * (1:Int))))) + wrap64 (r1.1 * wrap64 ((0:Int) - wrap64 (List.getD x0 (0:Nat) (0:Int) * (1:Int))))))) - wrap64 (wrap64 (List.getD x0' (2:Nat) (0:Int) * List.getD x0' (2:Nat) (0:Int)) * wrap64 ((0:Int) - wrap64 (List.getD x0 (0:Nat) (0:Int) * (1:Int))))))) + wrap64 (r3.1 * wrap64 (wrap64 ((0:Int) - wrap64 (List.getD x0 (2:Nat) (0:Int) * wrap64 (wrap64 ((0:Int) - wrap64 (List.getD x0 (1:Nat) (0:Int) * wrap64 ((0:Int) + wrap64 (r0.1 * (1:Int))))) + wrap64 (r1.1 * wrap64 ((0:Int) - wrap64 (List.getD x0 (0:Nat) (0:Int) * (1:Int))))))) + wrap64 (r2.1 * wrap64 ((0:Int) - wrap64 (List.getD x0 (1:Nat) (0:Int) * wrap64 ((0:Int) - wrap64 (List.getD x0 (0:Nat) (0:Int) * (1:Int))))))))))) (3:Nat) (wrap64 ((0:Int) - wrap64 (List.getD x0 (3:Nat) (0:Int) * wrap64 (wrap64 ((0:Int) - wrap64 (List.getD x0 (2:Nat) (0:Int) * wrap64 (wrap64 ((0:Int) - wrap64 (List.getD x0 (1:Nat) (0:Int) * wrap64 ((0:Int) + wrap64 (r0.1 * (1:Int))))) + wrap64 (r1.1 * wrap64 ((0:Int) - wrap64 (List.getD x0 (0:Nat) (0:Int) * (1:Int))))))) + wrap64 (r2.1 * wrap64 ((0:Int) - wrap64 (List.getD x0 (1:Nat) (0:Int) * wrap64 ((0:Int) - wrap64 (List.getD x0 (0:Nat) (0:Int) * (1:Int))))))))))) (3:Nat) (wrap64 (wrap64 ((0:Int) - wrap64 (List.getD x0 (3:Nat) (0:Int) * wrap64 (wrap64 ((0:Int) - wrap64 (List.getD x0 (2:Nat) (0:Int) * wrap64 (wrap64 ((0:Int) - wrap64 (List.getD x0 (1:Nat) (0:Int) * wrap64 ((0:Int) + wrap64 (r0.1 * (1:Int))))) + wrap64 (r1.1 * wrap64 ((0:Int) - wrap64 (List.getD x0 (0:Nat) (0:Int) * (1:Int))))))) + wrap64 (r2.1 * wrap64 ((0:Int) - wrap64 (List.getD x0 (1:Nat) (0:Int) * wrap64 ((0:Int) - wrap64 (List.getD x0 (0:Nat) (0:Int) * (1:Int))))))))) + wrap64 (r3.1 * wrap64 ((0:Int) - wrap64 (List.getD x0 (2:Nat) (0:Int) * wrap64 ((0:Int) - wrap64 (List.getD x0 (1:Nat) (0:Int) * wrap64 ((0:Int) - wrap64 (List.getD x0 (0:Nat) (0:Int) * (1:Int))))))))))) (4:Nat) (wrap64 ((0:Int) - wrap64 (List.getD x0 (3:Nat) (0:Int) * wrap64 ((0:Int) - wrap64 (List.getD x0 (2:Nat) (0:Int) * wrap64 ((0:Int) - wrap64 (List.getD x0 (1:Nat) (0:Int) * wrap64 ((0:Int) - wrap64 (List.getD x0 (0:Nat) (0:Int) * (1:Int))))))))))) (0:Nat) (wrap64 (wrap64 ((0:Int) + wrap64 (r3.1 * wrap64 (wrap64 ((0:Int) + wrap64 (r2.1 * wrap64 (wrap64 ((0:Int) + wrap64 (r1.1 * wrap64 ((0:Int) + wrap64 (r0.1 * (1:Int))))) - wrap64 (wrap64 (List.getD x0' (1:Nat) (0:Int) * List.getD x0' (1:Nat) (0:Int)) * (1:Int))))) - wrap64 (wrap64 (List.getD x0' (2:Nat) (0:Int) * List.getD x0' (2:Nat) (0:Int)) * wrap64 ((0:Int) + wrap64 (r0.1 * (1:Int))))))) - wrap64 (wrap64 (List.getD x0' (3:Nat) (0:Int) * List.getD x0' (3:Nat) (0:Int)) * wrap64 (wrap64 ((0:Int) + wrap64 (r1.1 * wrap64 ((0:Int) + wrap64 (r0.1 * (1:Int))))) - wrap64 (wrap64 (List.getD x0' (1:Nat) (0:Int) * List.getD x0' (1:Nat) (0:Int)) * (1:Int))))))) (1:Nat) (wrap64 (wrap64 (wrap64 ((0:Int) - wrap64 (List.getD x0 (3:Nat) (0:Int) * wrap64 (wrap64 ((0:Int) + wrap64 (r2.1 * wrap64 (wrap64 ((0:Int) + wrap64 (r1.1 * wrap64 ((0:Int) + wrap64 (r0.1 * (1:Int))))) - wrap64 (wrap64 (List.getD x0' (1:Nat) (0:Int) * List.getD x0' (1:Nat) (0:Int)) * (1:Int))))) - wrap64 (wrap64 (List.getD x0' (2:Nat) (0:Int) * List.getD x0' (2:Nat) (0:Int)) * wrap64 ((0:Int) + wrap64 (r0.1 * (1:Int))))))) + wrap64 (r3.1 * wrap64 (wrap64 (wrap64 ((0:Int) - wrap64 (List.getD x0 (2:Nat) (0:Int) * wrap64 (wrap64 ((0:Int) + wrap64 (r1.1 * wrap64 ((0:Int) + wrap64 (r0.1 * (1:Int))))) - wrap64 (wrap64 (List.getD x0' (1:Nat) (0:Int) * List.getD x0' (1:Nat) (0:Int)) * (1:Int))))) + wrap64 (r2.1 * wrap64 (wrap64 ((0:Int) - wrap64 (List.getD x0 (1:Nat) (0:Int) * wrap64 ((0:Int) + wrap64 (r0.1 * (1:Int))))) + wrap64 (r1.1 * wrap64 ((0:Int) - wrap64 (List.getD x0 (0:Nat) (0:Int) * (1:Int))))))) - wrap64 (wrap64 (List.getD x0' (2:Nat) (0:Int) * List.getD x0' (2:Nat) (0:Int)) * wrap64 ((0:Int) - wrap64 (List.getD x0 (0:Nat) (0:Int) * (1:Int))))))) - wrap64 (wrap64 (List.getD x0' (3:Nat) (0:Int) * List.getD x0' (3:Nat) (0:Int)) * wrap64 (wrap64 ((0:Int) - wrap64 (List.getD x0 (1:Nat) (0:Int) * wrap64 ((0:Int) + wrap64 (r0.1 * (1:Int))))) + wrap64 (r1.1 * wrap64 ((0:Int) - wrap64 (List.getD x0 (0:Nat) (0:Int) * (1:Int))))))))) (2:Nat) (wrap64 (wrap64 (wrap64 ((0:Int) - wrap64 (List.getD x0 (3:Nat) (0:Int) * wrap64 (wrap64 (wrap64 ((0:Int) - wrap64 (List.getD x0 (2:Nat) (0:Int) * wrap64 (wrap64 ((0:Int) + wrap64 (r1.1 * wrap64 ((0:Int) + wrap64 (r0.1 * (1:Int))))) - wrap64 (wrap64 (List.getD x0' (1:Nat) (0:Int) * List.getD x0' (1:Nat) (0:Int)) * (1:Int))))) + wrap64 (r2.1 * wrap64 (wrap64 ((0:Int) - wrap64 (List.getD x0 (1:Nat) (0:Int) * wrap64 ((0:Int) + wrap64 (r0.1 * (1:Int))))) + wrap64 (r1.1 * wrap64 ((0:Int) - wrap64 (List.getD x0 (0:Nat) (0:Int) * (1:Int))))))) - wrap64 (wrap64 (List.getD x0' (2:Nat) (0:Int) * List.getD x0' (2:Nat) (0:Int)) * wrap64 ((0:Int) - wrap64 (List.getD x0 (0:Nat) (0:Int) * (1:Int))))))) + wrap64 (r3.1 * wrap64 (wrap64 ((0:Int) - wrap64 (List.getD x0 (2:Nat) (0:Int) * wrap64 (wrap64 ((0:Int) - wrap64 (List.getD x0 (1:Nat) (0:Int) * wrap64 ((0:Int) + wrap64 (r0.1 * (1:Int))))) + wrap64 (r1.1 * wrap64 ((0:Int) - wrap64 (List.getD x0 (0:Nat) (0:Int) * (1:Int))))))) + wrap64 (r2.1 * wrap64 ((0:Int) - wrap64 (List.getD x0 (1:Nat) (0:Int) * wrap64 ((0:Int) - wrap64 (List.getD x0 (0:Nat) (0:Int) * (1:Int))))))))) - wrap64 (wrap64 (List.getD x0' (3:Nat) (0:Int) * List.getD x0' (3:Nat) (0:Int)) * wrap64 ((0:Int) - wrap64 (List.getD x0 (1:Nat) (0:Int) * wrap64 ((0:Int) - wrap64 (List.getD x0 (0:Nat) (0:Int) * (1:Int)))))))):List Int),()))))
                                (Tr.stop))
                              (Tr.stop))
                            (Tr.stop))
                          (let r0:=g54 ((x0,(x0',())),((0:Int),()));
                          let r1:=g54 ((x0,(x0',())),((1:Int),()));
                          let r2:=g54 ((x0,(x0',())),((2:Int),()));
                          Tr.fin (((List.set (List.set (List.set (List.set (List.set (List.set (List.set (List.set (List.replicate (4:Nat) (0:Int)) (0:Nat) (wrap64 ((0:Int) + wrap64 (r2.1 * wrap64 (wrap64 ((0:Int) + wrap64 (r1.1 * wrap64 ((0:Int) + wrap64 (r0.1 * (1:Int))))) - wrap64 (wrap64 (List.getD x0' (1:Nat) (0:Int) * List.getD x0' (1:Nat) (0:Int)) * (1:Int))))))) (1:Nat) (wrap64 ((0:Int) - wrap64 (List.getD x0 (2:Nat) (0:Int) * wrap64 (wrap64 ((0:Int) + wrap64 (r1.1 * wrap64 ((0:Int) + wrap64 (r0.1 * (1:Int))))) - wrap64 (wrap64 (List.getD x0' (1:Nat) (0:Int) * List.getD x0' (1:Nat) (0:Int)) * (1:Int))))))) (1:Nat) (wrap64 (wrap64 ((0:Int) - wrap64 (List.getD x0 (2:Nat) (0:Int) * wrap64 (wrap64 ((0:Int) + wrap64 (r1.1 * wrap64 ((0:Int) + wrap64 (r0.1 * (1:Int))))) - wrap64 (wrap64 (List.getD x0' (1:Nat) (0:Int) * List.getD x0' (1:Nat) (0:Int)) * (1:Int))))) + wrap64 (r2.1 * wrap64 (wrap64 ((0:Int) - wrap64 (List.getD x0 (1:Nat) (0:Int) * wrap64 ((0:Int) + wrap64 (r0.1 * (1:Int))))) + wrap64 (r1.1 * wrap64 ((0:Int) - wrap64 (List.getD x0 (0:Nat) (0:Int) * (1:Int))))))))) (2:Nat) (wrap64 ((0:Int) - wrap64 (List.getD x0 (2:Nat) (0:Int) * wrap64 (wrap64 ((0:Int) - wrap64 (List.getD x0 (1:Nat) (0:Int) * wrap64 ((0:Int) + wrap64 (r0.1 * (1:Int))))) + wrap64 (r1.1 * wrap64 ((0:Int) - wrap64 (List.getD x0 (0:Nat) (0:Int) * (1:Int))))))))) (2:Nat) (wrap64 (wrap64 ((0:Int) - wrap64 (List.getD x0 (2:Nat) (0:Int) * wrap64 (wrap64 ((0:Int) - wrap64 (List.getD x0 (1:Nat) (0:Int) * wrap64 ((0:Int) + wrap64 (r0.1 * (1:Int))))) + wrap64 (r1.1 * wrap64 ((0:Int) - wrap64 (List.getD x0 (0:Nat) (0:Int) * (1:Int))))))) + wrap64 (r2.1 * wrap64 ((0:Int) - wrap64 (List.getD x0 (1:Nat) (0:Int) * wrap64 ((0:Int) - wrap64 (List.getD x0 (0:Nat) (0:Int) * (1:Int))))))))) (3:Nat) (wrap64 ((0:Int) - wrap64 (List.getD x0 (2:Nat) (0:Int) * wrap64 ((0:Int) - wrap64 (List.getD x0 (1:Nat) (0:Int) * wrap64 ((0:Int) - wrap64 (List.getD x0 (0:Nat) (0:Int) * (1:Int))))))))) (0:Nat) (wrap64 (wrap64 ((0:Int) + wrap64 (r2.1 * wrap64 (wrap64 ((0:Int) + wrap64 (r1.1 * wrap64 ((0:Int) + wrap64 (r0.1 * (1:Int))))) - wrap64 (wrap64 (List.getD x0' (1:Nat) (0:Int) * List.getD x0' (1:Nat) (0:Int)) * (1:Int))))) - wrap64 (wrap64 (List.getD x0' (2:Nat) (0:Int) * List.getD x0' (2:Nat) (0:Int)) * wrap64 ((0:Int) + wrap64 (r0.1 * (1:Int))))))) (1:Nat) (wrap64 (wrap64 (wrap64 ((0:Int) - wrap64 (List.getD x0 (2:Nat) (0:Int) * wrap64 (wrap64 ((0:Int) + wrap64 (r1.1 * wrap64 ((0:Int) + wrap64 (r0.1 * (1:Int))))) - wrap64 (wrap64 (List.getD x0' (1:Nat) (0:Int) * List.getD x0' (1:Nat) (0:Int)) * (1:Int))))) + wrap64 (r2.1 * wrap64 (wrap64 ((0:Int) - wrap64 (List.getD x0 (1:Nat) (0:Int) * wrap64 ((0:Int) + wrap64 (r0.1 * (1:Int))))) + wrap64 (r1.1 * wrap64 ((0:Int) - wrap64 (List.getD x0 (0:Nat) (0:Int) * (1:Int))))))) - wrap64 (wrap64 (List.getD x0' (2:Nat) (0:Int) * List.getD x0' (2:Nat) (0:Int)) * wrap64 ((0:Int) - wrap64 (List.getD x0 (0:Nat) (0:Int) * (1:Int)))))):List Int),()))))
                        (Tr.stop))
                      (Tr.stop))
                    (Tr.stop))
                  (let r0:=g54 ((x0,(x0',())),((0:Int),()));
                  let r1:=g54 ((x0,(x0',())),((1:Int),()));
                  Tr.fin (((List.set (List.set (List.set (List.set (List.set (List.replicate (3:Nat) (0:Int)) (0:Nat) (wrap64 ((0:Int) + wrap64 (r1.1 * wrap64 ((0:Int) + wrap64 (r0.1 * (1:Int))))))) (1:Nat) (wrap64 ((0:Int) - wrap64 (List.getD x0 (1:Nat) (0:Int) * wrap64 ((0:Int) + wrap64 (r0.1 * (1:Int))))))) (1:Nat) (wrap64 (wrap64 ((0:Int) - wrap64 (List.getD x0 (1:Nat) (0:Int) * wrap64 ((0:Int) + wrap64 (r0.1 * (1:Int))))) + wrap64 (r1.1 * wrap64 ((0:Int) - wrap64 (List.getD x0 (0:Nat) (0:Int) * (1:Int))))))) (2:Nat) (wrap64 ((0:Int) - wrap64 (List.getD x0 (1:Nat) (0:Int) * wrap64 ((0:Int) - wrap64 (List.getD x0 (0:Nat) (0:Int) * (1:Int))))))) (0:Nat) (wrap64 (wrap64 ((0:Int) + wrap64 (r1.1 * wrap64 ((0:Int) + wrap64 (r0.1 * (1:Int))))) - wrap64 (wrap64 (List.getD x0' (1:Nat) (0:Int) * List.getD x0' (1:Nat) (0:Int)) * (1:Int)))):List Int),()))))
                (Tr.stop))
              (Tr.stop))
            (Tr.stop))
          (let r0:=g54 ((x0,(x0',())),((0:Int),()));
          Tr.fin (((List.set (List.set (List.replicate (2:Nat) (0:Int)) (0:Nat) (wrap64 ((0:Int) + wrap64 (r0.1 * (1:Int))))) (1:Nat) (wrap64 ((0:Int) - wrap64 (List.getD x0 (0:Nat) (0:Int) * (1:Int)))):List Int),()))))
        (Tr.stop))
      (Tr.stop))
    (Tr.fin ((([(1:Int)]:List Int),())))

def f15 (d:Tys.data as15):Option (Tys.data rs15):=(t15 d.1.1 d.1.2.1).val
def g15 (d:Tys.data as15):Tys.data rs15:=(f15 d).getD (Tys.dflt rs15)
def p15:PureC:=pcOf as15 rs15 f15 g15

theorem wk15 (x0:(List Int)) (x0':(List Int)):Walks (runPure (kf54 Go.Proofs.Try.prog).orc Go.Proofs.Try.prog 400 15 as15 rs15 ((x0,x0',()),())) (t15 x0 x0') [([true,true,true,true,true,true,true,true,true,true,true,true,true,true,true,true,true,true,true,false],[1,2,0,0,0,0,1,1,1,1,4,4,1,1,1,1,1,1,1,1,1,1,4,4,1,1,1,1,1,1,1,1,1,1,4,4,1,1,1,1,1,1,1,1,1,1,4,4,1,1,1,1,1,1,0,1,1,1,1,6,1,1,1,1,1,1,8,1,1,1,1,1,1,1,6,1,1,1,1,1,1,8,1,1,1,1,1,1,1,6,1,1,1,1,1,1,8,1,1,1,1,1,1,1,6,1,1,1,1,1,1,8,1,1,1,1,1,1,1,6,1,1,1,1,1,1,8,1,1,1,1,10,0,0,0,0,1,1,1,1,12,12,1,1,1,1,1,1,1,1,1,1,12,12,1,1,1,1,1,1,1,1,1,1,12,12,1,1,1,1,1,1,0,1,1,1,1,14,1,1,1,1,1,1,16,1,1,1,1,1,1,1,14,1,1,1,1,1,1,16,1,1,1,1,1,1,1,14,1,1,1,1,1,1,16,1,1,1,1,1,1,1,14,1,1,1,1,1,1,16,1,1,1,1,18,0,0,0,0,1,1,1,1,20,20,1,1,1,1,1,1,1,1,1,1,20,20,1,1,1,1,1,1,0,1,1,1,1,22,1,1,1,1,1,1,24,1,1,1,1,1,1,1,22,1,1,1,1,1,1,24,1,1,1,1,1,1,1,22,1,1,1,1,1,1,24,1,1,1,1,26,0,0,0,0,1,1,1,28,28,1,1,1,1,1,1,0,1,1,1,1,30,1,1,1,1,1,1,32,1,1,1,1,1,1,1,30,1,1,1,1,1,1,32,1,1,1,1,34,0,1,1,1,0,1,1,1,36,1,1,1,1,1,38,1,1,1,1,40]),([true,true,true,true,true,true,true,true,true,true,true,true,true,true,true,false],[1,2,0,0,0,0,1,1,1,1,4,4,1,1,1,1,1,1,1,1,1,1,4,4,1,1,1,1,1,1,1,1,1,1,4,4,1,1,1,1,1,1,0,1,1,1,1,6,1,1,1,1,1,1,8,1,1,1,1,1,1,1,6,1,1,1,1,1,1,8,1,1,1,1,1,1,1,6,1,1,1,1,1,1,8,1,1,1,1,1,1,1,6,1,1,1,1,1,1,8,1,1,1,1,10,0,0,0,0,1,1,1,1,12,12,1,1,1,1,1,1,1,1,1,1,12,12,1,1,1,1,1,1,0,1,1,1,1,14,1,1,1,1,1,1,16,1,1,1,1,1,1,1,14,1,1,1,1,1,1,16,1,1,1,1,1,1,1,14,1,1,1,1,1,1,16,1,1,1,1,18,0,0,0,0,1,1,1,20,20,1,1,1,1,1,1,0,1,1,1,1,22,1,1,1,1,1,1,24,1,1,1,1,1,1,1,22,1,1,1,1,1,1,24,1,1,1,1,26,0,1,1,1,0,1,1,1,28,1,1,1,1,1,30,1,1,1,1,32]),([true,true,true,true,true,true,true,true,true,true,true,false],[1,2,0,0,0,0,1,1,1,1,4,4,1,1,1,1,1,1,1,1,1,1,4,4,1,1,1,1,1,1,0,1,1,1,1,6,1,1,1,1,1,1,8,1,1,1,1,1,1,1,6,1,1,1,1,1,1,8,1,1,1,1,1,1,1,6,1,1,1,1,1,1,8,1,1,1,1,10,0,0,0,0,1,1,1,12,12,1,1,1,1,1,1,0,1,1,1,1,14,1,1,1,1,1,1,16,1,1,1,1,1,1,1,14,1,1,1,1,1,1,16,1,1,1,1,18,0,1,1,1,0,1,1,1,20,1,1,1,1,1,22,1,1,1,1,24]),([true,true,true,true,true,true,true,false],[1,2,0,0,0,0,1,1,1,4,4,1,1,1,1,1,1,0,1,1,1,1,6,1,1,1,1,1,1,8,1,1,1,1,1,1,1,6,1,1,1,1,1,1,8,1,1,1,1,10,0,1,1,1,0,1,1,1,12,1,1,1,1,1,14,1,1,1,1,16]),([true,true,true,false],[1,2,0,1,1,1,0,1,1,1,4,1,1,1,1,1,6,1,1,1,1,8]),([ff],[1,2])] :=
  ⟨by kernel_rfl,by kernel_rfl,by kernel_rfl,by kernel_rfl,by kernel_rfl,by kernel_rfl,trivial⟩

theorem ok15_t (x0:(List Int)) (x0':(List Int)):TrOk (PureRuns Go.Proofs.Try.prog (kf54 Go.Proofs.Try.prog).orc 15 as15 rs15 ((x0,x0',()),())) (t15 x0 x0') :=
  Walks.ok (fun _ _ _=>PureRuns.of) (wk15 x0 x0') (by kernel_rfl)

theorem ok15:PureOk Go.Proofs.Try.prog 15 p15:=pureOk_of kf54_ok.base (T:=fun (d:Tys.data as15)=>t15 d.1.1 d.1.2.1) (by kernel_rfl) (fun (d:Tys.data as15)=>ok15_t d.1.1 d.1.2.1)
def kf15 (P:Go.Program):Known:=(kf54 P).func 15 p15
theorem kf15_ok:KnownOk Go.Proofs.Try.prog (kf15 Go.Proofs.Try.prog):=kf54_ok.func ok15

/-! ductility/ductilitybase.Size -/

abbrev as86:List Ty:=[(.int .i64)]
abbrev rs86:List Ty:=[(.int .i64)]

def t86 (x0:Int):Tr (Tys.data rs86) :=
  Tr.fin (((if x0 < Go.IntKind.wrap Go.IntKind.i64 ((0:Int) - x0) then Go.IntKind.wrap Go.IntKind.i64 ((0:Int) - x0) else x0:Int),()))

def f86 (d:Tys.data as86):Option (Tys.data rs86):=(t86 d.1).val
def g86 (d:Tys.data as86):Tys.data rs86:=(f86 d).getD (Tys.dflt rs86)
def p86:PureC:=pcOf as86 rs86 f86 g86

theorem wk86 (x0:Int):Walks (runPure (kf15 Go.Proofs.Try.prog).orc Go.Proofs.Try.prog 400 86 as86 rs86 (x0,())) (t86 x0) [([],[])] :=
  ⟨by kernel_rfl,trivial⟩

theorem ok86_t (x0:Int):TrOk (PureRuns Go.Proofs.Try.prog (kf15 Go.Proofs.Try.prog).orc 86 as86 rs86 (x0,())) (t86 x0) :=
  Walks.ok (fun _ _ _=>PureRuns.of) (wk86 x0) (by kernel_rfl)

theorem ok86:PureOk Go.Proofs.Try.prog 86 p86:=pureOk_of kf15_ok.base (T:=fun (d:Tys.data as86)=>t86 d.1) (by kernel_rfl) (fun (d:Tys.data as86)=>ok86_t d.1)
def kf86 (P:Go.Program):Known:=(kf15 P).func 86 p86
theorem kf86_ok:KnownOk Go.Proofs.Try.prog (kf86 Go.Proofs.Try.prog):=kf15_ok.func ok86

/-! loop 0 of ductility/ductilitybase.trimmed -/

abbrev sh104_0:Sh:={ n:=21,slots:=[0,3],pats:=[.ty (.slice (.int .i64)),.ty (.int .i64)],boxes:=[] }
abbrev shb104_0:Sh:={ n:=21,slots:=[0,3],pats:=[.ty (.slice (.int .i64)),.ty (.int .i64)],boxes:=[] }
abbrev shr104_0:Sh:={ n:=21,slots:=[],pats:=[],boxes:=[] }

def t104_0 (x0:(List Int)) (x1:Int):Tr (Out sh104_0.data shb104_0.data shr104_0.data) :=
  Tr.test ((!leF x1 0:Bool))
    (Tr.test (decide ((0:Int) ≤ wrap64 (x1 - (1:Int))) && decide (wrap64 (x1 - (1:Int)) < (↑(List.length x0):Int)))
      (Tr.test ((eqF (List.getD x0 (Int.toNat (wrap64 (x1 - (1:Int)))) (0:Int)) (0:Int):Bool))
        (Tr.fin (.again ((x0,((wrap64 (x1 - (1:Int)):Int),())),())))
        (Tr.fin (.brk ((x0,(x1,())),()))))
      (Tr.stop))
    (Tr.fin (.brk ((x0,(x1,())),())))

def s104_0 (d:sh104_0.data):Option (Out sh104_0.data shb104_0.data shr104_0.data):=(t104_0 d.1.1 d.1.2.1).val
def l104_0 (d:sh104_0.data):Option (shb104_0.data ⊕ shr104_0.data):=itr s104_0 rounds d
def b104_0 (d:sh104_0.data):shb104_0.data:=outB shb104_0.dflt (l104_0 d)
def lc104_0:LoopC:=lcB sh104_0 shb104_0 shr104_0 l104_0 b104_0

theorem wk104_0 (x0:(List Int)) (x1:Int):Walks (runBody (kf86 Go.Proofs.Try.prog).orc Go.Proofs.Try.prog 400 104 0 sh104_0 shb104_0 shr104_0 ((x0,x1,()),())) (t104_0 x0 x1) [([true,true,true],[2,6,6,6,4,6,6,6,6]),([true,true,false],[2,6,6,6,4,6,6,6,6]),([ff],[0,2,2,2,2,2,2,2])] :=
  ⟨by kernel_rfl,by kernel_rfl,by kernel_rfl,trivial⟩

theorem ok104_0_t (x0:(List Int)) (x1:Int):TrOk (BodyRuns Go.Proofs.Try.prog (kf86 Go.Proofs.Try.prog).orc 104 0 sh104_0 shb104_0 shr104_0 ((x0,x1,()),())) (t104_0 x0 x1) :=
  Walks.ok (fun _ _ _=>BodyRuns.of) (wk104_0 x0 x1) (by kernel_rfl)

theorem ok104_0:LoopOk Go.Proofs.Try.prog 104 0 lc104_0:=loopOk_ofB (sh:=sh104_0) (shB:=shb104_0) (shR:=shr104_0) kf86_ok.base (T:=fun (d:sh104_0.data)=>t104_0 d.1.1 d.1.2.1) (by kernel_rfl) rfl (fun (d:sh104_0.data)=>ok104_0_t d.1.1 d.1.2.1) (fun _=>rfl)
def kl104_0 (P:Go.Program):Known:=(kf86 P).loop 104 0 lc104_0
theorem kl104_0_ok:KnownOk Go.Proofs.Try.prog (kl104_0 Go.Proofs.Try.prog):=kf86_ok.loop ok104_0

/-! ductility/ductilitybase.trimmed -/

abbrev as104:List Ty:=[(.slice (.int .i64))]
abbrev rs104:List Ty:=[(.slice (.int .i64))]

def t104 (x0:(List Int)):Tr (Tys.data rs104) :=
  Tr.test (isBrk (l104_0 ((x0,((↑(List.length x0):Int),())),())))
    (let r0:=b104_0 ((x0,((↑(List.length x0):Int),())),());
    Tr.test ((decide ((0:Int) ≤ r0.1.2.1) && decide (r0.1.2.1 ≤ (↑(List.length r0.1.1):Int)):Bool))
      (Tr.fin (((List.take (Int.toNat r0.1.2.1) r0.1.1:List Int),())))
      (Tr.stop))
    (Tr.stop)

def f104 (d:Tys.data as104):Option (Tys.data rs104):=(t104 d.1).val
def g104 (d:Tys.data as104):Tys.data rs104:=(f104 d).getD (Tys.dflt rs104)
def p104:PureC:=pcOf as104 rs104 f104 g104

theorem wk104 (x0:(List Int)):Walks (runPure (kl104_0 Go.Proofs.Try.prog).orc Go.Proofs.Try.prog 400 104 as104 rs104 (x0,())) (t104 x0) [([true,true],[2,1,4])] :=
  ⟨by kernel_rfl,trivial⟩

theorem ok104_t (x0:(List Int)):TrOk (PureRuns Go.Proofs.Try.prog (kl104_0 Go.Proofs.Try.prog).orc 104 as104 rs104 (x0,())) (t104 x0) :=
  Walks.ok (fun _ _ _=>PureRuns.of) (wk104 x0) (by kernel_rfl)

theorem ok104:PureOk Go.Proofs.Try.prog 104 p104:=pureOk_of kl104_0_ok.base (T:=fun (d:Tys.data as104)=>t104 d.1) (by kernel_rfl) (fun (d:Tys.data as104)=>ok104_t d.1)
def kf104 (P:Go.Program):Known:=(kl104_0 P).func 104 p104
theorem kf104_ok:KnownOk Go.Proofs.Try.prog (kf104 Go.Proofs.Try.prog):=kl104_0_ok.func ok104

/-! ductility/ductilitybase.wideOf -/

abbrev as90:List Ty:=[(.int .i64),(.slice (.int .i64))]
abbrev rs90:List Ty:=[(.pair (.int .i64) (.pair (.slice (.int .i64)) .unit))]

def t90 (x0:Int) (x1:(List Int)):Tr (Tys.data rs90) :=
  Tr.test (Option.isSome (f104 (x1,())))
    (let r0:=g104 (x1,());
    Tr.test ((eqF (↑(List.length r0.1):Int) (0:Int):Bool))
      (Tr.fin ((((0:Int),(r0.1,())),())))
      (Tr.fin (((x0,(r0.1,())),()))))
    (Tr.stop)

def f90 (d:Tys.data as90):Option (Tys.data rs90):=(t90 d.1 d.2.1).val
def g90 (d:Tys.data as90):Tys.data rs90:=(f90 d).getD (Tys.dflt rs90)
def p90:PureC:=pcOf as90 rs90 f90 g90

theorem wk90 (x0:Int) (x1:(List Int)):Walks (runPure (kf104 Go.Proofs.Try.prog).orc Go.Proofs.Try.prog 400 90 as90 rs90 (x0,x1,())) (t90 x0 x1) [([true,true],[2,4]),([true,false],[2,4])] :=
  ⟨by kernel_rfl,by kernel_rfl,trivial⟩

theorem ok90_t (x0:Int) (x1:(List Int)):TrOk (PureRuns Go.Proofs.Try.prog (kf104 Go.Proofs.Try.prog).orc 90 as90 rs90 (x0,x1,())) (t90 x0 x1) :=
  Walks.ok (fun _ _ _=>PureRuns.of) (wk90 x0 x1) (by kernel_rfl)

theorem ok90:PureOk Go.Proofs.Try.prog 90 p90:=pureOk_of kf104_ok.base (T:=fun (d:Tys.data as90)=>t90 d.1 d.2.1) (by kernel_rfl) (fun (d:Tys.data as90)=>ok90_t d.1 d.2.1)
def kf90 (P:Go.Program):Known:=(kf104 P).func 90 p90
theorem kf90_ok:KnownOk Go.Proofs.Try.prog (kf90 Go.Proofs.Try.prog):=kf104_ok.func ok90

/-! loop 0 of ductility/ductilitybase.WideOf -/

abbrev sh68_0:Sh:={ n:=20,slots:=[0,2,3,4],pats:=[.ty (.int .i64),.ptr 0 2 0,.ty (.int .i64),.acc (.int .i64)],boxes:=[.row [.ty (.int .i64),.nil]] }
abbrev shb68_0:Sh:={ n:=20,slots:=[2,3,4],pats:=[.ptr 0 2 0,.ty (.int .i64),.acc (.int .i64)],boxes:=[.row [.ty (.int .i64),.nil]] }
abbrev shr68_0:Sh:={ n:=20,slots:=[],pats:=[],boxes:=[.row [.ty (.int .i64),.nil]] }

def t68_0 (x0:Int) (x2:Int) (x3:(List Int)) (b0_0:Int):Tr (Out sh68_0.data shb68_0.data shr68_0.data) :=
  Tr.test ((!eqF x0 0:Bool))
    (Tr.test (Option.isSome (f86 ((Int.tmod x0 (1000000000:Int):Int),())))
      (Tr.test ((Nat.ble (((2:Nat) * (List.length x3 + (1:Nat)) + (192:Nat)) * (8:Nat)) (281474976710656:Nat) && Nat.ble (List.length x3 + (1:Nat)) (281474976710656:Nat):Bool))
        (let r0:=g86 ((Int.tmod x0 (1000000000:Int):Int),());
        Tr.fin (.again (((Go.IntKind.wrap Go.IntKind.i64 (Int.tdiv x0 (1000000000:Int)):Int),(x2,((x3++[r0.1]:List Int),()))),((b0_0,()),()))))
        (Tr.stop))
      (Tr.stop))
    (Tr.fin (.brk ((x2,(x3,())),((b0_0,()),()))))

def s68_0 (d:sh68_0.data):Option (Out sh68_0.data shb68_0.data shr68_0.data):=(t68_0 d.1.1 d.1.2.1 d.1.2.2.1 d.2.1.1).val
def l68_0 (d:sh68_0.data):Option (shb68_0.data ⊕ shr68_0.data):=itr s68_0 rounds d
def b68_0 (d:sh68_0.data):shb68_0.data:=outB shb68_0.dflt (l68_0 d)
def lc68_0:LoopC:=lcB sh68_0 shb68_0 shr68_0 l68_0 b68_0

theorem wk68_0 (x0:Int) (x2:Int) (x3:(List Int)) (b0_0:Int):Walks (runBody (kf90 Go.Proofs.Try.prog).orc Go.Proofs.Try.prog 400 68 0 sh68_0 shb68_0 shr68_0 ((x0,x2,x3,()),(b0_0,()),())) (t68_0 x0 x2 x3 b0_0) [([true,true,true],[0,1,2,0,4,0,6]),([ff],[2])] :=
  ⟨by kernel_rfl,by kernel_rfl,trivial⟩

theorem ok68_0_t (x0:Int) (x2:Int) (x3:(List Int)) (b0_0:Int):TrOk (BodyRuns Go.Proofs.Try.prog (kf90 Go.Proofs.Try.prog).orc 68 0 sh68_0 shb68_0 shr68_0 ((x0,x2,x3,()),(b0_0,()),())) (t68_0 x0 x2 x3 b0_0) :=
  Walks.ok (fun _ _ _=>BodyRuns.of) (wk68_0 x0 x2 x3 b0_0) (by kernel_rfl)

theorem ok68_0:LoopOk Go.Proofs.Try.prog 68 0 lc68_0:=loopOk_ofB (sh:=sh68_0) (shB:=shb68_0) (shR:=shr68_0) kf90_ok.base (T:=fun (d:sh68_0.data)=>t68_0 d.1.1 d.1.2.1 d.1.2.2.1 d.2.1.1) (by kernel_rfl) rfl (fun (d:sh68_0.data)=>ok68_0_t d.1.1 d.1.2.1 d.1.2.2.1 d.2.1.1) (fun _=>rfl)
def kl68_0 (P:Go.Program):Known:=(kf90 P).loop 68 0 lc68_0
theorem kl68_0_ok:KnownOk Go.Proofs.Try.prog (kl68_0 Go.Proofs.Try.prog):=kf90_ok.loop ok68_0

/-! ductility/ductilitybase.WideOf -/

abbrev as68:List Ty:=[(.int .i64)]
abbrev rs68:List Ty:=[(.pair (.int .i64) (.pair (.slice (.int .i64)) .unit))]

def t68 (x0:Int):Tr (Tys.data rs68) :=
  Tr.test ((!leF (0:Int) x0:Bool))
    (Tr.test (isBrk (l68_0 ((x0,((-1:Int),(([]:List Int),()))),(((0:Int),()),()))))
      (let r0:=b68_0 ((x0,((-1:Int),(([]:List Int),()))),(((0:Int),()),()));
      Tr.test (Option.isSome (f90 (r0.1.1,(r0.1.2.1,()))))
        (let r1:=g90 (r0.1.1,(r0.1.2.1,()));
        Tr.fin (((r1.1.1,(r1.1.2.1,())),())))
        (Tr.stop))
      (Tr.stop))
    (Tr.test (isBrk (l68_0 ((x0,((1:Int),(([]:List Int),()))),(((0:Int),()),()))))
      (let r2:=b68_0 ((x0,((1:Int),(([]:List Int),()))),(((0:Int),()),()));
      Tr.test (Option.isSome (f90 (r2.1.1,(r2.1.2.1,()))))
        (let r3:=g90 (r2.1.1,(r2.1.2.1,()));
        Tr.fin (((r3.1.1,(r3.1.2.1,())),())))
        (Tr.stop))
      (Tr.stop))

def f68 (d:Tys.data as68):Option (Tys.data rs68):=(t68 d.1).val
def g68 (d:Tys.data as68):Tys.data rs68:=(f68 d).getD (Tys.dflt rs68)
def p68:PureC:=pcOf as68 rs68 f68 g68

theorem wk68 (x0:Int):Walks (runPure (kl68_0 Go.Proofs.Try.prog).orc Go.Proofs.Try.prog 400 68 as68 rs68 (x0,())) (t68 x0) [([true,true,true],[2,1,4,6]),([false,true,true],[2,1,4,6])] :=
  ⟨by kernel_rfl,by kernel_rfl,trivial⟩

theorem ok68_t (x0:Int):TrOk (PureRuns Go.Proofs.Try.prog (kl68_0 Go.Proofs.Try.prog).orc 68 as68 rs68 (x0,())) (t68 x0) :=
  Walks.ok (fun _ _ _=>PureRuns.of) (wk68 x0) (by kernel_rfl)

theorem ok68:PureOk Go.Proofs.Try.prog 68 p68:=pureOk_of kl68_0_ok.base (T:=fun (d:Tys.data as68)=>t68 d.1) (by kernel_rfl) (fun (d:Tys.data as68)=>ok68_t d.1)
def kf68 (P:Go.Program):Known:=(kl68_0 P).func 68 p68
theorem kf68_ok:KnownOk Go.Proofs.Try.prog (kf68 Go.Proofs.Try.prog):=kl68_0_ok.func ok68

/-! ductility/ductilitybase.RatioInt -/

abbrev as33:List Ty:=[(.int .i64)]
abbrev rs33:List Ty:=[(.pair (.pair (.int .i64) (.pair (.slice (.int .i64)) .unit)) (.pair (.pair (.int .i64) (.pair (.slice (.int .i64)) .unit)) .unit))]

def t33 (x0:Int):Tr (Tys.data rs33) :=
  Tr.test (Option.isSome (f68 (x0,())))
    (Tr.test (Option.isSome (f68 ((1:Int),())))
      (let r0:=g68 (x0,());
      let r1:=g68 ((1:Int),());
      Tr.fin ((((r0.1.1,(r0.1.2.1,())),((r1.1.1,(r1.1.2.1,())),())),())))
      (Tr.stop))
    (Tr.stop)

def f33 (d:Tys.data as33):Option (Tys.data rs33):=(t33 d.1).val
def g33 (d:Tys.data as33):Tys.data rs33:=(f33 d).getD (Tys.dflt rs33)
def p33:PureC:=pcOf as33 rs33 f33 g33

theorem wk33 (x0:Int):Walks (runPure (kf68 Go.Proofs.Try.prog).orc Go.Proofs.Try.prog 400 33 as33 rs33 (x0,())) (t33 x0) [([true,true],[2,4])] :=
  ⟨by kernel_rfl,trivial⟩

theorem ok33_t (x0:Int):TrOk (PureRuns Go.Proofs.Try.prog (kf68 Go.Proofs.Try.prog).orc 33 as33 rs33 (x0,())) (t33 x0) :=
  Walks.ok (fun _ _ _=>PureRuns.of) (wk33 x0) (by kernel_rfl)

theorem ok33:PureOk Go.Proofs.Try.prog 33 p33:=pureOk_of kf68_ok.base (T:=fun (d:Tys.data as33)=>t33 d.1) (by kernel_rfl) (fun (d:Tys.data as33)=>ok33_t d.1)
def kf33 (P:Go.Program):Known:=(kf68 P).func 33 p33
theorem kf33_ok:KnownOk Go.Proofs.Try.prog (kf33 Go.Proofs.Try.prog):=kf68_ok.func ok33

/-! ductility/ductilitybase.WideSign -/

abbrev as91:List Ty:=[(.pair (.int .i64) (.pair (.slice (.int .i64)) .unit))]
abbrev rs91:List Ty:=[(.int .i64)]

def t91 (x0:Int) (x0':(List Int)):Tr (Tys.data rs91) :=
  Tr.fin ((x0,()))

def f91 (d:Tys.data as91):Option (Tys.data rs91):=(t91 d.1.1 d.1.2.1).val
def g91 (d:Tys.data as91):Tys.data rs91:=(f91 d).getD (Tys.dflt rs91)
def p91:PureC:=pcOf as91 rs91 f91 g91

theorem wk91 (x0:Int) (x0':(List Int)):Walks (runPure (kf33 Go.Proofs.Try.prog).orc Go.Proofs.Try.prog 400 91 as91 rs91 ((x0,x0',()),())) (t91 x0 x0') [([],[])] :=
  ⟨by kernel_rfl,trivial⟩

theorem ok91_t (x0:Int) (x0':(List Int)):TrOk (PureRuns Go.Proofs.Try.prog (kf33 Go.Proofs.Try.prog).orc 91 as91 rs91 ((x0,x0',()),())) (t91 x0 x0') :=
  Walks.ok (fun _ _ _=>PureRuns.of) (wk91 x0 x0') (by kernel_rfl)

theorem ok91:PureOk Go.Proofs.Try.prog 91 p91:=pureOk_of kf33_ok.base (T:=fun (d:Tys.data as91)=>t91 d.1.1 d.1.2.1) (by kernel_rfl) (fun (d:Tys.data as91)=>ok91_t d.1.1 d.1.2.1)
def kf91 (P:Go.Program):Known:=(kf33 P).func 91 p91
theorem kf91_ok:KnownOk Go.Proofs.Try.prog (kf91 Go.Proofs.Try.prog):=kf33_ok.func ok91

/-! ductility/ductilitybase.WideNeg -/

abbrev as92:List Ty:=[(.pair (.int .i64) (.pair (.slice (.int .i64)) .unit))]
abbrev rs92:List Ty:=[(.pair (.int .i64) (.pair (.slice (.int .i64)) .unit))]

def t92 (x0:Int) (x0':(List Int)):Tr (Tys.data rs92) :=
  Tr.fin ((((Go.IntKind.wrap Go.IntKind.i64 ((0:Int) - x0):Int),(x0',())),()))

def f92 (d:Tys.data as92):Option (Tys.data rs92):=(t92 d.1.1 d.1.2.1).val
def g92 (d:Tys.data as92):Tys.data rs92:=(f92 d).getD (Tys.dflt rs92)
def p92:PureC:=pcOf as92 rs92 f92 g92

theorem wk92 (x0:Int) (x0':(List Int)):Walks (runPure (kf91 Go.Proofs.Try.prog).orc Go.Proofs.Try.prog 400 92 as92 rs92 ((x0,x0',()),())) (t92 x0 x0') [([],[])] :=
  ⟨by kernel_rfl,trivial⟩

theorem ok92_t (x0:Int) (x0':(List Int)):TrOk (PureRuns Go.Proofs.Try.prog (kf91 Go.Proofs.Try.prog).orc 92 as92 rs92 ((x0,x0',()),())) (t92 x0 x0') :=
  Walks.ok (fun _ _ _=>PureRuns.of) (wk92 x0 x0') (by kernel_rfl)

theorem ok92:PureOk Go.Proofs.Try.prog 92 p92:=pureOk_of kf91_ok.base (T:=fun (d:Tys.data as92)=>t92 d.1.1 d.1.2.1) (by kernel_rfl) (fun (d:Tys.data as92)=>ok92_t d.1.1 d.1.2.1)
def kf92 (P:Go.Program):Known:=(kf91 P).func 92 p92
theorem kf92_ok:KnownOk Go.Proofs.Try.prog (kf92 Go.Proofs.Try.prog):=kf91_ok.func ok92

/-! ductility/ductilitybase.wideSize -/

abbrev as105:List Ty:=[(.pair (.int .i64) (.pair (.slice (.int .i64)) .unit))]
abbrev rs105:List Ty:=[(.pair (.int .i64) (.pair (.slice (.int .i64)) .unit))]

def t105 (x0:Int) (x0':(List Int)):Tr (Tys.data rs105) :=
  Tr.test ((!leF (0:Int) x0:Bool))
    (Tr.test (Option.isSome (f92 ((x0,(x0',())),())))
      (let r0:=g92 ((x0,(x0',())),());
      Tr.fin (((r0.1.1,(r0.1.2.1,())),())))
      (Tr.stop))
    (Tr.fin (((x0,(x0',())),())))

def f105 (d:Tys.data as105):Option (Tys.data rs105):=(t105 d.1.1 d.1.2.1).val
def g105 (d:Tys.data as105):Tys.data rs105:=(f105 d).getD (Tys.dflt rs105)
def p105:PureC:=pcOf as105 rs105 f105 g105

theorem wk105 (x0:Int) (x0':(List Int)):Walks (runPure (kf92 Go.Proofs.Try.prog).orc Go.Proofs.Try.prog 400 105 as105 rs105 ((x0,x0',()),())) (t105 x0 x0') [([true,true],[2,4]),([ff],[2])] :=
  ⟨by kernel_rfl,by kernel_rfl,trivial⟩

theorem ok105_t (x0:Int) (x0':(List Int)):TrOk (PureRuns Go.Proofs.Try.prog (kf92 Go.Proofs.Try.prog).orc 105 as105 rs105 ((x0,x0',()),())) (t105 x0 x0') :=
  Walks.ok (fun _ _ _=>PureRuns.of) (wk105 x0 x0') (by kernel_rfl)

theorem ok105:PureOk Go.Proofs.Try.prog 105 p105:=pureOk_of kf92_ok.base (T:=fun (d:Tys.data as105)=>t105 d.1.1 d.1.2.1) (by kernel_rfl) (fun (d:Tys.data as105)=>ok105_t d.1.1 d.1.2.1)
def kf105 (P:Go.Program):Known:=(kf92 P).func 105 p105
theorem kf105_ok:KnownOk Go.Proofs.Try.prog (kf105 Go.Proofs.Try.prog):=kf92_ok.func ok105

/-! loop 2 of ductility/ductilitybase.WideMul -/

abbrev sh71_2:Sh:={ n:=86,slots:=[2,3,4,5,6,7,8],pats:=[.ptr 0 2 0,.ptr 1 2 0,.ptr 2 2 0,.sli 3 1,.ty (.int .i64),.ty (.int .i64),.ty (.int .i64)],boxes:=[.row [.ty (.int .i64),.ty (.slice (.int .i64))],.row [.ty (.int .i64),.ty (.slice (.int .i64))],.row [.ty (.int .i64),.nil],.arr (.int .i64)] }
abbrev shb71_2:Sh:={ n:=86,slots:=[2,3,4,5,6,7],pats:=[.ptr 0 2 0,.ptr 1 2 0,.ptr 2 2 0,.sli 3 1,.ty (.int .i64),.ty (.int .i64)],boxes:=[.row [.ty (.int .i64),.ty (.slice (.int .i64))],.row [.ty (.int .i64),.ty (.slice (.int .i64))],.row [.ty (.int .i64),.nil],.arr (.int .i64)] }
abbrev shr71_2:Sh:={ n:=86,slots:=[],pats:=[],boxes:=[.row [.ty (.int .i64),.ty (.slice (.int .i64))],.row [.ty (.int .i64),.ty (.slice (.int .i64))],.row [.ty (.int .i64),.nil],.arr (.int .i64)] }

def t71_2 (x3n:Nat) (x3c:Nat) (x4:Int) (x5:Int) (x6:Int) (b0_0:Int) (b0_1:(List Int)) (b1_0:Int) (b1_1:(List Int)) (b2_0:Int) (b3:(List Int)):Tr (Out sh71_2.data shb71_2.data shr71_2.data) :=
  Tr.test ((!leF (↑(List.length b1_1):Int) x6:Bool))
    (Tr.test (decide ((0:Int) ≤ wrap64 (x4 + x6)) && decide (wrap64 (x4 + x6) < (↑x3n:Int)))
      (Tr.test ((Nat.ble ((0:Nat) + Int.toNat (wrap64 (x4 + x6)) + (1:Nat)) (List.length b3):Bool))
        (Tr.test ((decide ((0:Int) ≤ x4) && decide (x4 < (↑(List.length b0_1):Int)):Bool))
          (Tr.test ((decide ((0:Int) ≤ x6) && decide (x6 < (↑(List.length b1_1):Int)):Bool))
            (Tr.fin (.again (((x3n,x3c),(x4,((Go.IntKind.wrap Go.IntKind.i64 (Int.tdiv (wrap64 (wrap64 (List.getD b3 ((0:Nat) + Int.toNat (wrap64 (x4 + x6))) (0:Int) + wrap64 (List.getD b0_1 (Int.toNat x4) (0:Int) * List.getD b1_1 (Int.toNat x6) (0:Int))) + x5)) (1000000000:Int)):Int),((wrap64 (x6 + (1:Int)):Int),())))),((b0_0,(b0_1,())),((b1_0,(b1_1,())),((b2_0,()),((List.set b3 ((0:Nat) + Int.toNat (wrap64 (x4 + x6))) (Int.tmod (wrap64 (wrap64 (List.getD b3 ((0:Nat) + Int.toNat (wrap64 (x4 + x6))) (0:Int) + wrap64 (List.getD b0_1 (Int.toNat x4) (0:Int) * List.getD b1_1 (Int.toNat x6) (0:Int))) + x5)) (1000000000:Int)):List Int),())))))))
            (Tr.stop))
          (Tr.stop))
        (Tr.stop))
      (Tr.stop))
    (Tr.fin (.brk (((x3n,x3c),(x4,(x5,()))),((b0_0,(b0_1,())),((b1_0,(b1_1,())),((b2_0,()),(b3,())))))))

def s71_2 (d:sh71_2.data):Option (Out sh71_2.data shb71_2.data shr71_2.data):=(t71_2 d.1.1.1 d.1.1.2 d.1.2.1 d.1.2.2.1 d.1.2.2.2.1 d.2.1.1 d.2.1.2.1 d.2.2.1.1 d.2.2.1.2.1 d.2.2.2.1.1 d.2.2.2.2.1).val
def l71_2 (d:sh71_2.data):Option (shb71_2.data ⊕ shr71_2.data):=itr s71_2 rounds d
def b71_2 (d:sh71_2.data):shb71_2.data:=outB shb71_2.dflt (l71_2 d)
def lc71_2:LoopC:=lcB sh71_2 shb71_2 shr71_2 l71_2 b71_2

theorem wk71_2 (x3n:Nat) (x3c:Nat) (x4:Int) (x5:Int) (x6:Int) (b0_0:Int) (b0_1:(List Int)) (b1_0:Int) (b1_1:(List Int)) (b2_0:Int) (b3:(List Int)):Walks (runBody (kf105 Go.Proofs.Try.prog).orc Go.Proofs.Try.prog 400 71 2 sh71_2 shb71_2 shr71_2 (((x3n,x3c),x4,x5,x6,()),(b0_0,b0_1,()),(b1_0,b1_1,()),(b2_0,()),b3,())) (t71_2 x3n x3c x4 x5 x6 b0_0 b0_1 b1_0 b1_1 b2_0 b3) [([true,true,true,true,true],[6,8,0,0,2,4,6,8,10]),([ff],[2])] :=
  ⟨by kernel_rfl,by kernel_rfl,trivial⟩

theorem ok71_2_t (x3n:Nat) (x3c:Nat) (x4:Int) (x5:Int) (x6:Int) (b0_0:Int) (b0_1:(List Int)) (b1_0:Int) (b1_1:(List Int)) (b2_0:Int) (b3:(List Int)):TrOk (BodyRuns Go.Proofs.Try.prog (kf105 Go.Proofs.Try.prog).orc 71 2 sh71_2 shb71_2 shr71_2 (((x3n,x3c),x4,x5,x6,()),(b0_0,b0_1,()),(b1_0,b1_1,()),(b2_0,()),b3,())) (t71_2 x3n x3c x4 x5 x6 b0_0 b0_1 b1_0 b1_1 b2_0 b3) :=
  Walks.ok (fun _ _ _=>BodyRuns.of) (wk71_2 x3n x3c x4 x5 x6 b0_0 b0_1 b1_0 b1_1 b2_0 b3) (by kernel_rfl)

theorem ok71_2:LoopOk Go.Proofs.Try.prog 71 2 lc71_2:=loopOk_ofB (sh:=sh71_2) (shB:=shb71_2) (shR:=shr71_2) kf105_ok.base (T:=fun (d:sh71_2.data)=>t71_2 d.1.1.1 d.1.1.2 d.1.2.1 d.1.2.2.1 d.1.2.2.2.1 d.2.1.1 d.2.1.2.1 d.2.2.1.1 d.2.2.1.2.1 d.2.2.2.1.1 d.2.2.2.2.1) (by kernel_rfl) rfl (fun (d:sh71_2.data)=>ok71_2_t d.1.1.1 d.1.1.2 d.1.2.1 d.1.2.2.1 d.1.2.2.2.1 d.2.1.1 d.2.1.2.1 d.2.2.1.1 d.2.2.1.2.1 d.2.2.2.1.1 d.2.2.2.2.1) (fun _=>rfl)
def kl71_2 (P:Go.Program):Known:=(kf105 P).loop 71 2 lc71_2
theorem kl71_2_ok:KnownOk Go.Proofs.Try.prog (kl71_2 Go.Proofs.Try.prog):=kf105_ok.loop ok71_2

end Go.Vm.Mo
