import Derived.Test.YtlaojojnembodaaA5
import Derived.KernelRfl
import Derived.Test.YtlaojojnembodaaProg
import Derived.Test.YtlaojojnembodaaRsFb
set_option linter.unusedVariables false
set_option linter.unusedSimpArgs false

namespace Go.Vm.Mo
open Go
set_option linter.unusedVariables false

/-! loop 0 of ductility/ductilityref05.Stiffness -/

abbrev sh52_0:Sh:={ n:=58,slots:=[1,3,4],pats:=[.ptr 0 1 0,.acc (.slice (.int .i64)),.ty (.int .i64)],boxes:=[.row [.ty (.slice (.pair (.int .i64) (.pair (.int .i64) (.pair (.slice (.pair (.int .i64) (.pair (.int .i64) (.pair .bool .unit)))) .unit))))]] }
abbrev shb52_0:Sh:={ n:=58,slots:=[3],pats:=[.acc (.slice (.int .i64))],boxes:=[.row [.ty (.slice (.pair (.int .i64) (.pair (.int .i64) (.pair (.slice (.pair (.int .i64) (.pair (.int .i64) (.pair .bool .unit)))) .unit))))]] }
abbrev shr52_0:Sh:={ n:=58,slots:=[],pats:=[],boxes:=[.row [.ty (.slice (.pair (.int .i64) (.pair (.int .i64) (.pair (.slice (.pair (.int .i64) (.pair (.int .i64) (.pair .bool .unit)))) .unit))))]] }

def t52_0 (x1:(List (List Int))) (x2:Int) (b0_0:(List (Int×(Int×((List (Int×(Int×(Bool×Unit))))×Unit))))):Tr (Out sh52_0.data shb52_0.data shr52_0.data) :=
  Tr.test ((!leF (↑(List.length b0_0):Int) x2:Bool))
    (Tr.test (decide ((0:Int) ≤ (↑(List.length b0_0):Int)) && decide ((↑(List.length b0_0):Int) ≤ (↑(List.length b0_0):Int)) && decide ((8:Int) * (↑(List.length b0_0):Int) ≤ (281474976710656:Int)) && decide ((↑(List.length b0_0):Int) ≤ (281474976710656:Int)))
      (Tr.test (Option.isSome (f114 ((b0_0,()),(x2,()))))
        (Tr.test (Option.isSome (f114 ((b0_0,()),((wrap64 (x2 + (1:Int)):Int),()))))
          (Tr.test ((decide ((0:Int) ≤ x2) && decide (x2 < (↑(Int.toNat (↑(List.length b0_0):Int)):Int)):Bool))
            (Tr.test ((Nat.ble ((0:Nat) + Int.toNat x2 + (1:Nat)) (List.length (List.replicate (Int.toNat (↑(List.length b0_0):Int)) (0:Int))):Bool))
              (Tr.test ((!leF x2 0:Bool))
                (Tr.test ((decide ((0:Int) ≤ wrap64 (x2 - (1:Int))) && decide (wrap64 (x2 - (1:Int)) < (↑(Int.toNat (↑(List.length b0_0):Int)):Int)):Bool))
                  (let r0:=g114 ((b0_0,()),(x2,()));
                  let r1:=g114 ((b0_0,()),((wrap64 (x2 + (1:Int)):Int),()));
                  Tr.test ((Nat.ble ((0:Nat) + Int.toNat (wrap64 (x2 - (1:Int))) + (1:Nat)) (List.length (List.set (List.replicate (Int.toNat (↑(List.length b0_0):Int)) (0:Int)) ((0:Nat) + Int.toNat x2) (wrap64 (r0.1 + r1.1)))):Bool))
                    (Tr.test ((!leF (↑(List.length b0_0):Int) (wrap64 (x2 + (1:Int))):Bool))
                      (Tr.test ((decide ((0:Int) ≤ wrap64 (x2 + (1:Int))) && decide (wrap64 (x2 + (1:Int)) < (↑(Int.toNat (↑(List.length b0_0):Int)):Int)):Bool))
                        (Tr.test ((Nat.ble ((0:Nat) + Int.toNat (wrap64 (x2 + (1:Int))) + (1:Nat)) (List.length (List.set (List.set (List.replicate (Int.toNat (↑(List.length b0_0):Int)) (0:Int)) ((0:Nat) + Int.toNat x2) (wrap64 (r0.1 + r1.1))) ((0:Nat) + Int.toNat (wrap64 (x2 - (1:Int)))) (Go.IntKind.wrap Go.IntKind.i64 ((0:Int) - r0.1)))):Bool))
                          (Tr.test ((Nat.beq (Int.toNat (↑(List.length b0_0):Int)) (List.length (List.set (List.set (List.set (List.replicate (Int.toNat (↑(List.length b0_0):Int)) (0:Int)) ((0:Nat) + Int.toNat x2) (wrap64 (r0.1 + r1.1))) ((0:Nat) + Int.toNat (wrap64 (x2 - (1:Int)))) (Go.IntKind.wrap Go.IntKind.i64 ((0:Int) - r0.1))) ((0:Nat) + Int.toNat (wrap64 (x2 + (1:Int)))) (Go.IntKind.wrap Go.IntKind.i64 ((0:Int) - r1.1)))):Bool))
                            (Tr.test ((Nat.ble (((2:Nat) * (List.length x1 + (1:Nat)) + (192:Nat)) * (24:Nat)) (281474976710656:Nat) && Nat.ble (List.length x1 + (1:Nat)) (281474976710656:Nat):Bool))
                              (Tr.fin (.again (((x1++[List.set (List.set (List.set (List.replicate (Int.toNat (↑(List.length b0_0):Int)) (0:Int)) ((0:Nat) + Int.toNat x2) (wrap64 (r0.1 + r1.1))) ((0:Nat) + Int.toNat (wrap64 (x2 - (1:Int)))) (Go.IntKind.wrap Go.IntKind.i64 ((0:Int) - r0.1))) ((0:Nat) + Int.toNat (wrap64 (x2 + (1:Int)))) (Go.IntKind.wrap Go.IntKind.i64 ((0:Int) - r1.1))]:List (List Int)),((wrap64 (x2 + (1:Int)):Int),())),((b0_0,()),()))))
                              (Tr.stop))
                            (Tr.stop))
                          (Tr.stop))
                        (Tr.stop))
                      (Tr.test ((Nat.beq (Int.toNat (↑(List.length b0_0):Int)) (List.length (List.set (List.set (List.replicate (Int.toNat (↑(List.length b0_0):Int)) (0:Int)) ((0:Nat) + Int.toNat x2) (wrap64 (r0.1 + r1.1))) ((0:Nat) + Int.toNat (wrap64 (x2 - (1:Int)))) (Go.IntKind.wrap Go.IntKind.i64 ((0:Int) - r0.1)))):Bool))
                        (Tr.test ((Nat.ble (((2:Nat) * (List.length x1 + (1:Nat)) + (192:Nat)) * (24:Nat)) (281474976710656:Nat) && Nat.ble (List.length x1 + (1:Nat)) (281474976710656:Nat):Bool))
                          (Tr.fin (.again (((x1++[List.set (List.set (List.replicate (Int.toNat (↑(List.length b0_0):Int)) (0:Int)) ((0:Nat) + Int.toNat x2) (wrap64 (r0.1 + r1.1))) ((0:Nat) + Int.toNat (wrap64 (x2 - (1:Int)))) (Go.IntKind.wrap Go.IntKind.i64 ((0:Int) - r0.1))]:List (List Int)),((wrap64 (x2 + (1:Int)):Int),())),((b0_0,()),()))))
                          (Tr.stop))
                        (Tr.stop)))
                    (Tr.stop))
                  (Tr.stop))
                (Tr.test ((!leF (↑(List.length b0_0):Int) (wrap64 (x2 + (1:Int))):Bool))
                  (Tr.test ((decide ((0:Int) ≤ wrap64 (x2 + (1:Int))) && decide (wrap64 (x2 + (1:Int)) < (↑(Int.toNat (↑(List.length b0_0):Int)):Int)):Bool))
                    (let r0:=g114 ((b0_0,()),(x2,()));
                    let r1:=g114 ((b0_0,()),((wrap64 (x2 + (1:Int)):Int),()));
                    Tr.test ((Nat.ble ((0:Nat) + Int.toNat (wrap64 (x2 + (1:Int))) + (1:Nat)) (List.length (List.set (List.replicate (Int.toNat (↑(List.length b0_0):Int)) (0:Int)) ((0:Nat) + Int.toNat x2) (wrap64 (r0.1 + r1.1)))):Bool))
                      (Tr.test ((Nat.beq (Int.toNat (↑(List.length b0_0):Int)) (List.length (List.set (List.set (List.replicate (Int.toNat (↑(List.length b0_0):Int)) (0:Int)) ((0:Nat) + Int.toNat x2) (wrap64 (r0.1 + r1.1))) ((0:Nat) + Int.toNat (wrap64 (x2 + (1:Int)))) (Go.IntKind.wrap Go.IntKind.i64 ((0:Int) - r1.1)))):Bool))
                        (Tr.test ((Nat.ble (((2:Nat) * (List.length x1 + (1:Nat)) + (192:Nat)) * (24:Nat)) (281474976710656:Nat) && Nat.ble (List.length x1 + (1:Nat)) (281474976710656:Nat):Bool))
                          (Tr.fin (.again (((x1++[List.set (List.set (List.replicate (Int.toNat (↑(List.length b0_0):Int)) (0:Int)) ((0:Nat) + Int.toNat x2) (wrap64 (r0.1 + r1.1))) ((0:Nat) + Int.toNat (wrap64 (x2 + (1:Int)))) (Go.IntKind.wrap Go.IntKind.i64 ((0:Int) - r1.1))]:List (List Int)),((wrap64 (x2 + (1:Int)):Int),())),((b0_0,()),()))))
                          (Tr.stop))
                        (Tr.stop))
                      (Tr.stop))
                    (Tr.stop))
                  (let r0:=g114 ((b0_0,()),(x2,()));
                  let r1:=g114 ((b0_0,()),((wrap64 (x2 + (1:Int)):Int),()));
                  Tr.test ((Nat.beq (Int.toNat (↑(List.length b0_0):Int)) (List.length (List.set (List.replicate (Int.toNat (↑(List.length b0_0):Int)) (0:Int)) ((0:Nat) + Int.toNat x2) (wrap64 (r0.1 + r1.1)))):Bool))
                    (Tr.test ((Nat.ble (((2:Nat) * (List.length x1 + (1:Nat)) + (192:Nat)) * (24:Nat)) (281474976710656:Nat) && Nat.ble (List.length x1 + (1:Nat)) (281474976710656:Nat):Bool))
                      (Tr.fin (.again (((x1++[List.set (List.replicate (Int.toNat (↑(List.length b0_0):Int)) (0:Int)) ((0:Nat) + Int.toNat x2) (wrap64 (r0.1 + r1.1))]:List (List Int)),((wrap64 (x2 + (1:Int)):Int),())),((b0_0,()),()))))
                      (Tr.stop))
                    (Tr.stop))))
              (Tr.stop))
            (Tr.stop))
          (Tr.stop))
        (Tr.stop))
      (Tr.stop))
    (Tr.fin (.brk ((x1,()),((b0_0,()),()))))

def s52_0 (d:sh52_0.data):Option (Out sh52_0.data shb52_0.data shr52_0.data):=(t52_0 d.1.1 d.1.2.1 d.2.1.1).val
def l52_0 (d:sh52_0.data):Option (shb52_0.data ⊕ shr52_0.data):=itr s52_0 rounds d
def b52_0 (d:sh52_0.data):shb52_0.data:=outB shb52_0.dflt (l52_0 d)
def lc52_0:LoopC:=lcB sh52_0 shb52_0 shr52_0 l52_0 b52_0

theorem wk52_0 (x1:(List (List Int))) (x2:Int) (b0_0:(List (Int×(Int×((List (Int×(Int×(Bool×Unit))))×Unit))))):Walks (runBody (kf114 Go.Proofs.Try.prog).orc Go.Proofs.Try.prog 400 52 0 sh52_0 shb52_0 shr52_0 ((x1,x2,()),(b0_0,()),())) (t52_0 x1 x2 b0_0) [(bl 14 16383,[2,4,1,0,6,8,22,10,12,14,24,16,18,20,22,24,26,28]),(bl 12 3583,[2,4,1,0,6,8,10,20,12,14,16,18,20,22,24]),(bl 12 4031,[2,4,1,0,6,8,18,10,12,14,16,18,20,22,24]),(bl 10 831,[2,4,1,0,6,8,10,12,14,16,18,20]),(bl 1 0,[2])] :=
  ⟨by kernel_rfl,by kernel_rfl,by kernel_rfl,by kernel_rfl,by kernel_rfl,trivial⟩

theorem ok52_0_t (x1:(List (List Int))) (x2:Int) (b0_0:(List (Int×(Int×((List (Int×(Int×(Bool×Unit))))×Unit))))):TrOk (BodyRuns Go.Proofs.Try.prog (kf114 Go.Proofs.Try.prog).orc 52 0 sh52_0 shb52_0 shr52_0 ((x1,x2,()),(b0_0,()),())) (t52_0 x1 x2 b0_0) :=
  Walks.ok (fun _ _ _=>BodyRuns.of) (wk52_0 x1 x2 b0_0) (by kernel_rfl)

theorem ok52_0:LoopOk Go.Proofs.Try.prog 52 0 lc52_0:=loopOk_ofB (sh:=sh52_0) (shB:=shb52_0) (shR:=shr52_0) kf114_ok.base (T:=fun (d:sh52_0.data)=>t52_0 d.1.1 d.1.2.1 d.2.1.1) (by kernel_rfl) rfl (fun (d:sh52_0.data)=>ok52_0_t d.1.1 d.1.2.1 d.2.1.1) (fun _=>rfl)
def kl52_0 (P:Go.Program):Known:=(kf114 P).loop 52 0 lc52_0
theorem kl52_0_ok:KnownOk Go.Proofs.Try.prog (kl52_0 Go.Proofs.Try.prog):=kf114_ok.loop ok52_0

/-! ductility/ductilityref05.Stiffness -/

abbrev as52:List Ty:=[(.pair (.slice (.pair (.int .i64) (.pair (.int .i64) (.pair (.slice (.pair (.int .i64) (.pair (.int .i64) (.pair .bool .unit)))) .unit)))) .unit)]
abbrev rs52:List Ty:=[(.slice (.slice (.int .i64)))]

def t52 (x0:(List (Int×(Int×((List (Int×(Int×(Bool×Unit))))×Unit))))):Tr (Tys.data rs52) :=
  Tr.test (isBrk (l52_0 ((([]:List (List Int)),((0:Int),())),((x0,()),()))))
    (let r0:=b52_0 ((([]:List (List Int)),((0:Int),())),((x0,()),()));
    Tr.fin ((r0.1.1,())))
    (Tr.stop)

def f52 (d:Tys.data as52):Option (Tys.data rs52):=(t52 d.1.1).val
def g52 (d:Tys.data as52):Tys.data rs52:=(f52 d).getD (Tys.dflt rs52)
def p52:PureC:=pcOf as52 rs52 f52 g52

theorem wk52 (x0:(List (Int×(Int×((List (Int×(Int×(Bool×Unit))))×Unit))))):Walks (runPure (kl52_0 Go.Proofs.Try.prog).orc Go.Proofs.Try.prog 400 52 as52 rs52 ((x0,()),())) (t52 x0) [(bl 1 1,[1,2])] :=
  ⟨by kernel_rfl,trivial⟩

theorem ok52_t (x0:(List (Int×(Int×((List (Int×(Int×(Bool×Unit))))×Unit))))):TrOk (PureRuns Go.Proofs.Try.prog (kl52_0 Go.Proofs.Try.prog).orc 52 as52 rs52 ((x0,()),())) (t52 x0) :=
  Walks.ok (fun _ _ _=>PureRuns.of) (wk52 x0) (by kernel_rfl)

theorem ok52:PureOk Go.Proofs.Try.prog 52 p52:=pureOk_of kl52_0_ok.base (T:=fun (d:Tys.data as52)=>t52 d.1.1) (by kernel_rfl) (fun (d:Tys.data as52)=>ok52_t d.1.1)
def kf52 (P:Go.Program):Known:=(kl52_0 P).func 52 p52
theorem kf52_ok:KnownOk Go.Proofs.Try.prog (kf52 Go.Proofs.Try.prog):=kl52_0_ok.func ok52

/-! loop 0 of ductility/ductilitybase.Lists -/

abbrev sh51_0:Sh:={ n:=27,slots:=[0,1,5],pats:=[.ty (.slice (.slice (.int .i64))),.ty (.slice (.slice (.int .i64))),.ty (.int .i64)],boxes:=[] }
abbrev shb51_0:Sh:={ n:=27,slots:=[],pats:=[],boxes:=[] }
abbrev shr51_0:Sh:={ n:=27,slots:=[4],pats:=[.ty .bool],boxes:=[] }

def t51_0 (x0:(List (List Int))) (x1:(List (List Int))) (x2:Int):Tr (Out sh51_0.data shb51_0.data shr51_0.data) :=
  Tr.test ((!leF (↑(List.length x0):Int) x2:Bool))
    (Tr.test (decide ((0:Int) ≤ x2) && decide (x2 < (↑(List.length x0):Int)))
      (Tr.test ((decide ((0:Int) ≤ x2) && decide (x2 < (↑(List.length x1):Int)):Bool))
        (Tr.test (Option.isSome (f64 ((List.getD x0 (Int.toNat x2) []:List Int),((List.getD x1 (Int.toNat x2) []:List Int),()))))
          (let r0:=g64 ((List.getD x0 (Int.toNat x2) []:List Int),((List.getD x1 (Int.toNat x2) []:List Int),()));
          Tr.test ((!r0.1:Bool))
            (Tr.fin (.ret (((false:Bool),()),())))
            (Tr.fin (.again ((x0,(x1,((wrap64 (x2 + (1:Int)):Int),()))),()))))
          (Tr.stop))
        (Tr.stop))
      (Tr.stop))
    (Tr.fin (.brk ((),())))

def s51_0 (d:sh51_0.data):Option (Out sh51_0.data shb51_0.data shr51_0.data):=(t51_0 d.1.1 d.1.2.1 d.1.2.2.1).val
def l51_0 (d:sh51_0.data):Option (shb51_0.data ⊕ shr51_0.data):=itr s51_0 rounds d
def b51_0 (d:sh51_0.data):shb51_0.data:=outB shb51_0.dflt (l51_0 d)
def r51_0 (d:sh51_0.data):shr51_0.data:=outR shr51_0.dflt (l51_0 d)
def lc51_0:LoopC:=lcOf sh51_0 shb51_0 shr51_0 l51_0 b51_0 r51_0

theorem wk51_0 (x0:(List (List Int))) (x1:(List (List Int))) (x2:Int):Walks (runBody (kf52 Go.Proofs.Try.prog).orc Go.Proofs.Try.prog 400 51 0 sh51_0 shb51_0 shr51_0 ((x0,x1,x2,()),())) (t51_0 x0 x1 x2) [(bl 5 31,[2,4,6,8,10]),(bl 5 15,[2,4,6,8,10]),(bl 1 0,[2])] :=
  ⟨by kernel_rfl,by kernel_rfl,by kernel_rfl,trivial⟩

theorem ok51_0_t (x0:(List (List Int))) (x1:(List (List Int))) (x2:Int):TrOk (BodyRuns Go.Proofs.Try.prog (kf52 Go.Proofs.Try.prog).orc 51 0 sh51_0 shb51_0 shr51_0 ((x0,x1,x2,()),())) (t51_0 x0 x1 x2) :=
  Walks.ok (fun _ _ _=>BodyRuns.of) (wk51_0 x0 x1 x2) (by kernel_rfl)

theorem ok51_0:LoopOk Go.Proofs.Try.prog 51 0 lc51_0:=loopOk_of (sh:=sh51_0) (shB:=shb51_0) (shR:=shr51_0) kf52_ok.base (T:=fun (d:sh51_0.data)=>t51_0 d.1.1 d.1.2.1 d.1.2.2.1) (by kernel_rfl) rfl (fun (d:sh51_0.data)=>ok51_0_t d.1.1 d.1.2.1 d.1.2.2.1) (fun _=>rfl)
def kl51_0 (P:Go.Program):Known:=(kf52 P).loop 51 0 lc51_0
theorem kl51_0_ok:KnownOk Go.Proofs.Try.prog (kl51_0 Go.Proofs.Try.prog):=kf52_ok.loop ok51_0

/-! ductility/ductilitybase.Lists -/

abbrev as51:List Ty:=[(.slice (.slice (.int .i64))),(.slice (.slice (.int .i64)))]
abbrev rs51:List Ty:=[.bool]

def t51 (x0:(List (List Int))) (x1:(List (List Int))):Tr (Tys.data rs51) :=
  Tr.test ((!eqF (↑(List.length x0):Int) (↑(List.length x1):Int):Bool))
    (Tr.fin ((false,())))
    (Tr.test (Option.isSome (l51_0 ((x0,(x1,((0:Int),()))),())))
      (Tr.test (isRet (l51_0 ((x0,(x1,((0:Int),()))),())))
        (let r0:=r51_0 ((x0,(x1,((0:Int),()))),());
        Tr.fin ((r0.1.1,())))
        (Tr.fin (((true:Bool),()))))
      (Tr.stop))

def f51 (d:Tys.data as51):Option (Tys.data rs51):=(t51 d.1 d.2.1).val
def g51 (d:Tys.data as51):Tys.data rs51:=(f51 d).getD (Tys.dflt rs51)
def p51:PureC:=pcOf as51 rs51 f51 g51

theorem wk51 (x0:(List (List Int))) (x1:(List (List Int))):Walks (runPure (kl51_0 Go.Proofs.Try.prog).orc Go.Proofs.Try.prog 400 51 as51 rs51 (x0,x1,())) (t51 x0 x1) [(bl 1 1,[2]),(bl 3 6,[2,4,6]),(bl 3 2,[2,4,6])] :=
  ⟨by kernel_rfl,by kernel_rfl,by kernel_rfl,trivial⟩

theorem ok51_t (x0:(List (List Int))) (x1:(List (List Int))):TrOk (PureRuns Go.Proofs.Try.prog (kl51_0 Go.Proofs.Try.prog).orc 51 as51 rs51 (x0,x1,())) (t51 x0 x1) :=
  Walks.ok (fun _ _ _=>PureRuns.of) (wk51 x0 x1) (by kernel_rfl)

theorem ok51:PureOk Go.Proofs.Try.prog 51 p51:=pureOk_of kl51_0_ok.base (T:=fun (d:Tys.data as51)=>t51 d.1 d.2.1) (by kernel_rfl) (fun (d:Tys.data as51)=>ok51_t d.1 d.2.1)
def kf51 (P:Go.Program):Known:=(kl51_0 P).func 51 p51
theorem kf51_ok:KnownOk Go.Proofs.Try.prog (kf51 Go.Proofs.Try.prog):=kl51_0_ok.func ok51

/-! ductility/ductilityref05.Begin -/

abbrev as35:List Ty:=[(.slice (.pair (.int .i64) (.pair (.int .i64) (.pair .bool .unit))))]
abbrev rs35:List Ty:=[(.pair (.int .i64) (.pair (.slice (.pair (.int .i64) (.pair .bool .unit))) .unit))]

def t35 (x0:(List (Int×(Int×(Bool×Unit))))):Tr (Tys.data rs35) :=
  Tr.test ((decide ((0:Int) ≤ (↑(List.length x0):Int)) && decide ((↑(List.length x0):Int) ≤ (↑(List.length x0):Int)) && decide ((16:Int) * (↑(List.length x0):Int) ≤ (281474976710656:Int)) && decide ((↑(List.length x0):Int) ≤ (281474976710656:Int)):Bool))
    (Tr.test (Nat.beq (Int.toNat (↑(List.length x0):Int)) (List.length (List.replicate (Int.toNat (↑(List.length x0):Int)) ((0:Int),false,()))))
      (Tr.fin ((((0:Int),((List.replicate (Int.toNat (↑(List.length x0):Int)) ((0:Int),false,()):List (Int×Bool×PUnit)),())),())))
      (Tr.stop))
    (Tr.stop)

def f35 (d:Tys.data as35):Option (Tys.data rs35):=(t35 d.1).val
def g35 (d:Tys.data as35):Tys.data rs35:=(f35 d).getD (Tys.dflt rs35)
def p35:PureC:=pcOf as35 rs35 f35 g35

theorem wk35 (x0:(List (Int×(Int×(Bool×Unit))))):Walks (runPure (kf51 Go.Proofs.Try.prog).orc Go.Proofs.Try.prog 400 35 as35 rs35 (x0,())) (t35 x0) [(bl 2 3,[2,4])] :=
  ⟨by kernel_rfl,trivial⟩

theorem ok35_t (x0:(List (Int×(Int×(Bool×Unit))))):TrOk (PureRuns Go.Proofs.Try.prog (kf51 Go.Proofs.Try.prog).orc 35 as35 rs35 (x0,())) (t35 x0) :=
  Walks.ok (fun _ _ _=>PureRuns.of) (wk35 x0) (by kernel_rfl)

theorem ok35:PureOk Go.Proofs.Try.prog 35 p35:=pureOk_of kf51_ok.base (T:=fun (d:Tys.data as35)=>t35 d.1) (by kernel_rfl) (fun (d:Tys.data as35)=>ok35_t d.1)
def kf35 (P:Go.Program):Known:=(kf51 P).func 35 p35
theorem kf35_ok:KnownOk Go.Proofs.Try.prog (kf35 Go.Proofs.Try.prog):=kf51_ok.func ok35

/-! loop 0 of ductility/ductilityref05.First -/

abbrev sh53_0:Sh:={ n:=32,slots:=[1,2,3,4,5],pats:=[.ptr 0 1 0,.ptr 1 3 0,.ty (.int .i64),.ptr 2 3 0,.ty (.int .i64)],boxes:=[.row [.ty (.slice (.pair (.int .i64) (.pair (.int .i64) (.pair (.slice (.pair (.int .i64) (.pair (.int .i64) (.pair .bool .unit)))) .unit))))],.row [.nil,.nil,.nil],.row [.sli 3 1,.sli 4 1,.acc (.pair (.int .i64) (.pair (.slice (.pair (.int .i64) (.pair .bool .unit))) .unit))],.arr (.int .i64),.arr (.int .i64)] }
abbrev shb53_0:Sh:={ n:=32,slots:=[2,4],pats:=[.ptr 1 3 0,.ptr 2 3 0],boxes:=[.row [.ty (.slice (.pair (.int .i64) (.pair (.int .i64) (.pair (.slice (.pair (.int .i64) (.pair (.int .i64) (.pair .bool .unit)))) .unit))))],.row [.nil,.nil,.nil],.row [.sli 3 1,.sli 4 1,.acc (.pair (.int .i64) (.pair (.slice (.pair (.int .i64) (.pair .bool .unit))) .unit))],.arr (.int .i64),.arr (.int .i64)] }
abbrev shr53_0:Sh:={ n:=32,slots:=[],pats:=[],boxes:=[.row [.ty (.slice (.pair (.int .i64) (.pair (.int .i64) (.pair (.slice (.pair (.int .i64) (.pair (.int .i64) (.pair .bool .unit)))) .unit))))],.row [.nil,.nil,.nil],.row [.sli 3 1,.sli 4 1,.acc (.pair (.int .i64) (.pair (.slice (.pair (.int .i64) (.pair .bool .unit))) .unit))],.arr (.int .i64),.arr (.int .i64)] }

def t53_0 (x2:Int) (x4:Int) (b0_0:(List (Int×(Int×((List (Int×(Int×(Bool×Unit))))×Unit))))) (b2_0n:Nat) (b2_0c:Nat) (b2_1n:Nat) (b2_1c:Nat) (b2_2:(List (Int×((List (Int×(Bool×Unit)))×Unit)))) (b3:(List Int)) (b4:(List Int)):Tr (Out sh53_0.data shb53_0.data shr53_0.data) :=
  Tr.test ((!leF x2 x4:Bool))
    (Tr.test (decide ((0:Int) ≤ x4) && decide (x4 < (↑(List.length b0_0):Int)))
      (Tr.test (Option.isSome (f35 (((List.getD b0_0 (Int.toNat x4) ((0:Int),(0:Int),[],())).2.2.1:List (Int×Int×Bool×PUnit)),())))
        (Tr.test ((Nat.ble (((2:Nat) * (List.length b2_2 + (1:Nat)) + (192:Nat)) * (32:Nat)) (281474976710656:Nat) && Nat.ble (List.length b2_2 + (1:Nat)) (281474976710656:Nat):Bool))
          (let r0:=g35 (((List.getD b0_0 (Int.toNat x4) ((0:Int),(0:Int),[],())).2.2.1:List (Int×Int×Bool×PUnit)),());
          Tr.fin (.again ((x2,((wrap64 (x4 + (1:Int)):Int),())),((b0_0,()),((),(((b2_0n,b2_0c),((b2_1n,b2_1c),((b2_2++[(r0.1.1,r0.1.2.1,())]:List (Int×List (Int×Bool×PUnit)×PUnit)),()))),(b3,(b4,()))))))))
          (Tr.stop))
        (Tr.stop))
      (Tr.stop))
    (Tr.fin (.brk ((),((b0_0,()),((),(((b2_0n,b2_0c),((b2_1n,b2_1c),(b2_2,()))),(b3,(b4,()))))))))

def s53_0 (d:sh53_0.data):Option (Out sh53_0.data shb53_0.data shr53_0.data):=(t53_0 d.1.1 d.1.2.1 d.2.1.1 d.2.2.2.1.1.1 d.2.2.2.1.1.2 d.2.2.2.1.2.1.1 d.2.2.2.1.2.1.2 d.2.2.2.1.2.2.1 d.2.2.2.2.1 d.2.2.2.2.2.1).val
def l53_0 (d:sh53_0.data):Option (shb53_0.data ⊕ shr53_0.data):=itr s53_0 rounds d
def b53_0 (d:sh53_0.data):shb53_0.data:=outB shb53_0.dflt (l53_0 d)
def lc53_0:LoopC:=lcB sh53_0 shb53_0 shr53_0 l53_0 b53_0

theorem wk53_0 (x2:Int) (x4:Int) (b0_0:(List (Int×(Int×((List (Int×(Int×(Bool×Unit))))×Unit))))) (b2_0n:Nat) (b2_0c:Nat) (b2_1n:Nat) (b2_1c:Nat) (b2_2:(List (Int×((List (Int×(Bool×Unit)))×Unit)))) (b3:(List Int)) (b4:(List Int)):Walks (runBody (kf35 Go.Proofs.Try.prog).orc Go.Proofs.Try.prog 400 53 0 sh53_0 shb53_0 shr53_0 ((x2,x4,()),(b0_0,()),(),((b2_0n,b2_0c),(b2_1n,b2_1c),b2_2,()),b3,b4,())) (t53_0 x2 x4 b0_0 b2_0n b2_0c b2_1n b2_1c b2_2 b3 b4) [(bl 4 15,[2,4,6,8]),(bl 1 0,[2])] :=
  ⟨by kernel_rfl,by kernel_rfl,trivial⟩

theorem ok53_0_t (x2:Int) (x4:Int) (b0_0:(List (Int×(Int×((List (Int×(Int×(Bool×Unit))))×Unit))))) (b2_0n:Nat) (b2_0c:Nat) (b2_1n:Nat) (b2_1c:Nat) (b2_2:(List (Int×((List (Int×(Bool×Unit)))×Unit)))) (b3:(List Int)) (b4:(List Int)):TrOk (BodyRuns Go.Proofs.Try.prog (kf35 Go.Proofs.Try.prog).orc 53 0 sh53_0 shb53_0 shr53_0 ((x2,x4,()),(b0_0,()),(),((b2_0n,b2_0c),(b2_1n,b2_1c),b2_2,()),b3,b4,())) (t53_0 x2 x4 b0_0 b2_0n b2_0c b2_1n b2_1c b2_2 b3 b4) :=
  Walks.ok (fun _ _ _=>BodyRuns.of) (wk53_0 x2 x4 b0_0 b2_0n b2_0c b2_1n b2_1c b2_2 b3 b4) (by kernel_rfl)

theorem ok53_0:LoopOk Go.Proofs.Try.prog 53 0 lc53_0:=loopOk_ofB (sh:=sh53_0) (shB:=shb53_0) (shR:=shr53_0) kf35_ok.base (T:=fun (d:sh53_0.data)=>t53_0 d.1.1 d.1.2.1 d.2.1.1 d.2.2.2.1.1.1 d.2.2.2.1.1.2 d.2.2.2.1.2.1.1 d.2.2.2.1.2.1.2 d.2.2.2.1.2.2.1 d.2.2.2.2.1 d.2.2.2.2.2.1) (by kernel_rfl) rfl (fun (d:sh53_0.data)=>ok53_0_t d.1.1 d.1.2.1 d.2.1.1 d.2.2.2.1.1.1 d.2.2.2.1.1.2 d.2.2.2.1.2.1.1 d.2.2.2.1.2.1.2 d.2.2.2.1.2.2.1 d.2.2.2.2.1 d.2.2.2.2.2.1) (fun _=>rfl)
def kl53_0 (P:Go.Program):Known:=(kf35 P).loop 53 0 lc53_0
theorem kl53_0_ok:KnownOk Go.Proofs.Try.prog (kl53_0 Go.Proofs.Try.prog):=kf35_ok.loop ok53_0

/-! ductility/ductilityref05.First -/

abbrev as53:List Ty:=[(.pair (.slice (.pair (.int .i64) (.pair (.int .i64) (.pair (.slice (.pair (.int .i64) (.pair (.int .i64) (.pair .bool .unit)))) .unit)))) .unit)]
abbrev rs53:List Ty:=[(.pair (.slice (.int .i64)) (.pair (.slice (.int .i64)) (.pair (.slice (.pair (.int .i64) (.pair (.slice (.pair (.int .i64) (.pair .bool .unit))) .unit))) .unit)))]

def t53 (x0:(List (Int×(Int×((List (Int×(Int×(Bool×Unit))))×Unit))))):Tr (Tys.data rs53) :=
  Tr.test ((decide ((0:Int) ≤ (↑(List.length x0):Int)) && decide ((↑(List.length x0):Int) ≤ (↑(List.length x0):Int)) && decide ((8:Int) * (↑(List.length x0):Int) ≤ (281474976710656:Int)) && decide ((↑(List.length x0):Int) ≤ (281474976710656:Int)):Bool))
    (Tr.test (isBrk (l53_0 (((↑(List.length x0):Int),((0:Int),())),((x0,()),((),((((Int.toNat (↑(List.length x0):Int):Nat),(Int.toNat (↑(List.length x0):Int):Nat)),(((Int.toNat (↑(List.length x0):Int):Nat),(Int.toNat (↑(List.length x0):Int):Nat)),(([]:List (Int×List (Int×Bool×PUnit)×PUnit)),()))),((List.replicate (Int.toNat (↑(List.length x0):Int)) (0:Int):List Int),((List.replicate (Int.toNat (↑(List.length x0):Int)) (0:Int):List Int),()))))))))
      (let r0:=b53_0 (((↑(List.length x0):Int),((0:Int),())),((x0,()),((),((((Int.toNat (↑(List.length x0):Int):Nat),(Int.toNat (↑(List.length x0):Int):Nat)),(((Int.toNat (↑(List.length x0):Int):Nat),(Int.toNat (↑(List.length x0):Int):Nat)),(([]:List (Int×List (Int×Bool×PUnit)×PUnit)),()))),((List.replicate (Int.toNat (↑(List.length x0):Int)) (0:Int):List Int),((List.replicate (Int.toNat (↑(List.length x0):Int)) (0:Int):List Int),()))))));
      Tr.test ((Nat.beq r0.2.2.2.1.1.1 (List.length r0.2.2.2.2.1):Bool))
        (Tr.test ((Nat.beq r0.2.2.2.1.2.1.1 (List.length r0.2.2.2.2.2.1):Bool))
          (Tr.fin (((r0.2.2.2.2.1,(r0.2.2.2.2.2.1,((r0.2.2.2.1.2.2.1:List (Int×List (Int×Bool×PUnit)×PUnit)),()))),())))
          (Tr.test ((Nat.ble r0.2.2.2.1.2.1.1 (List.length r0.2.2.2.2.2.1):Bool))
            (Tr.fin (((r0.2.2.2.2.1,((List.take r0.2.2.2.1.2.1.1 r0.2.2.2.2.2.1:List Int),((r0.2.2.2.1.2.2.1:List (Int×List (Int×Bool×PUnit)×PUnit)),()))),())))
            (Tr.stop)))
        (Tr.test ((Nat.ble r0.2.2.2.1.1.1 (List.length r0.2.2.2.2.1):Bool))
          (Tr.test ((Nat.beq r0.2.2.2.1.2.1.1 (List.length r0.2.2.2.2.2.1):Bool))
            (Tr.fin ((((List.take r0.2.2.2.1.1.1 r0.2.2.2.2.1:List Int),(r0.2.2.2.2.2.1,((r0.2.2.2.1.2.2.1:List (Int×List (Int×Bool×PUnit)×PUnit)),()))),())))
            (Tr.test ((Nat.ble r0.2.2.2.1.2.1.1 (List.length r0.2.2.2.2.2.1):Bool))
              (Tr.fin ((((List.take r0.2.2.2.1.1.1 r0.2.2.2.2.1:List Int),((List.take r0.2.2.2.1.2.1.1 r0.2.2.2.2.2.1:List Int),((r0.2.2.2.1.2.2.1:List (Int×List (Int×Bool×PUnit)×PUnit)),()))),())))
              (Tr.stop)))
          (Tr.stop)))
      (Tr.stop))
    (Tr.stop)

def f53 (d:Tys.data as53):Option (Tys.data rs53):=(t53 d.1.1).val
def g53 (d:Tys.data as53):Tys.data rs53:=(f53 d).getD (Tys.dflt rs53)
def p53:PureC:=pcOf as53 rs53 f53 g53

theorem wk53 (x0:(List (Int×(Int×((List (Int×(Int×(Bool×Unit))))×Unit))))):Walks (runPure (kl53_0 Go.Proofs.Try.prog).orc Go.Proofs.Try.prog 400 53 as53 rs53 ((x0,()),())) (t53 x0) [(bl 4 15,[2,4,1,6,8,8]),(bl 5 23,[2,4,6,1,8,10,10]),(bl 5 27,[2,4,6,1,8,10,10]),(bl 6 43,[2,4,6,8,1,10,12,12])] :=
  ⟨by kernel_rfl,by kernel_rfl,by kernel_rfl,by kernel_rfl,trivial⟩

theorem ok53_t (x0:(List (Int×(Int×((List (Int×(Int×(Bool×Unit))))×Unit))))):TrOk (PureRuns Go.Proofs.Try.prog (kl53_0 Go.Proofs.Try.prog).orc 53 as53 rs53 ((x0,()),())) (t53 x0) :=
  Walks.ok (fun _ _ _=>PureRuns.of) (wk53 x0) (by kernel_rfl)

theorem ok53:PureOk Go.Proofs.Try.prog 53 p53:=pureOk_of kl53_0_ok.base (T:=fun (d:Tys.data as53)=>t53 d.1.1) (by kernel_rfl) (fun (d:Tys.data as53)=>ok53_t d.1.1)
def kf53 (P:Go.Program):Known:=(kl53_0 P).func 53 p53
theorem kf53_ok:KnownOk Go.Proofs.Try.prog (kf53 Go.Proofs.Try.prog):=kl53_0_ok.func ok53

/-! loop 0 of ductility/ductilityref05.ForcesErr -/

abbrev sh54_0:Sh:={ n:=24,slots:=[1,5],pats:=[.ty (.slice (.int .i64)),.ty (.int .i64)],boxes:=[] }
abbrev shb54_0:Sh:={ n:=24,slots:=[],pats:=[],boxes:=[] }
abbrev shr54_0:Sh:={ n:=24,slots:=[4],pats:=[.ty (.int .i64)],boxes:=[] }

def t54_0 (x0:(List Int)) (x1:Int):Tr (Out sh54_0.data shb54_0.data shr54_0.data) :=
  Tr.test ((!leF (↑(List.length x0):Int) x1:Bool))
    (Tr.test (decide ((0:Int) ≤ x1) && decide (x1 < (↑(List.length x0):Int)))
      (Tr.test (Option.isSome (f40 ((List.getD x0 (Int.toNat x1) (0:Int):Int),((-1000000:Int),((1000000:Int),())))))
        (let r0:=g40 ((List.getD x0 (Int.toNat x1) (0:Int):Int),((-1000000:Int),((1000000:Int),())));
        Tr.test ((!r0.1:Bool))
          (Tr.fin (.ret (((2:Int),()),())))
          (Tr.fin (.again ((x0,((wrap64 (x1 + (1:Int)):Int),())),()))))
        (Tr.stop))
      (Tr.stop))
    (Tr.fin (.brk ((),())))

def s54_0 (d:sh54_0.data):Option (Out sh54_0.data shb54_0.data shr54_0.data):=(t54_0 d.1.1 d.1.2.1).val
def l54_0 (d:sh54_0.data):Option (shb54_0.data ⊕ shr54_0.data):=itr s54_0 rounds d
def b54_0 (d:sh54_0.data):shb54_0.data:=outB shb54_0.dflt (l54_0 d)
def r54_0 (d:sh54_0.data):shr54_0.data:=outR shr54_0.dflt (l54_0 d)
def lc54_0:LoopC:=lcOf sh54_0 shb54_0 shr54_0 l54_0 b54_0 r54_0

theorem wk54_0 (x0:(List Int)) (x1:Int):Walks (runBody (kf53 Go.Proofs.Try.prog).orc Go.Proofs.Try.prog 400 54 0 sh54_0 shb54_0 shr54_0 ((x0,x1,()),())) (t54_0 x0 x1) [(bl 4 15,[2,4,6,8]),(bl 4 7,[2,4,6,8]),(bl 1 0,[2])] :=
  ⟨by kernel_rfl,by kernel_rfl,by kernel_rfl,trivial⟩

theorem ok54_0_t (x0:(List Int)) (x1:Int):TrOk (BodyRuns Go.Proofs.Try.prog (kf53 Go.Proofs.Try.prog).orc 54 0 sh54_0 shb54_0 shr54_0 ((x0,x1,()),())) (t54_0 x0 x1) :=
  Walks.ok (fun _ _ _=>BodyRuns.of) (wk54_0 x0 x1) (by kernel_rfl)

theorem ok54_0:LoopOk Go.Proofs.Try.prog 54 0 lc54_0:=loopOk_of (sh:=sh54_0) (shB:=shb54_0) (shR:=shr54_0) kf53_ok.base (T:=fun (d:sh54_0.data)=>t54_0 d.1.1 d.1.2.1) (by kernel_rfl) rfl (fun (d:sh54_0.data)=>ok54_0_t d.1.1 d.1.2.1) (fun _=>rfl)
def kl54_0 (P:Go.Program):Known:=(kf53 P).loop 54 0 lc54_0
theorem kl54_0_ok:KnownOk Go.Proofs.Try.prog (kl54_0 Go.Proofs.Try.prog):=kf53_ok.loop ok54_0

/-! ductility/ductilityref05.ForcesErr -/

abbrev as54:List Ty:=[(.pair (.slice (.pair (.int .i64) (.pair (.int .i64) (.pair (.slice (.pair (.int .i64) (.pair (.int .i64) (.pair .bool .unit)))) .unit)))) .unit),(.slice (.int .i64))]
abbrev rs54:List Ty:=[(.int .i64)]

def t54 (x0:(List (Int×(Int×((List (Int×(Int×(Bool×Unit))))×Unit))))) (x1:(List Int)):Tr (Tys.data rs54) :=
  Tr.test ((!eqF (↑(List.length x1):Int) (↑(List.length x0):Int):Bool))
    (Tr.fin (((10:Int),())))
    (Tr.test (Option.isSome (l54_0 ((x1,((0:Int),())),())))
      (Tr.test (isRet (l54_0 ((x1,((0:Int),())),())))
        (let r0:=r54_0 ((x1,((0:Int),())),());
        Tr.fin ((r0.1.1,())))
        (Tr.fin (((0:Int),()))))
      (Tr.stop))

def f54 (d:Tys.data as54):Option (Tys.data rs54):=(t54 d.1.1 d.2.1).val
def g54 (d:Tys.data as54):Tys.data rs54:=(f54 d).getD (Tys.dflt rs54)
def p54:PureC:=pcOf as54 rs54 f54 g54

theorem wk54 (x0:(List (Int×(Int×((List (Int×(Int×(Bool×Unit))))×Unit))))) (x1:(List Int)):Walks (runPure (kl54_0 Go.Proofs.Try.prog).orc Go.Proofs.Try.prog 400 54 as54 rs54 ((x0,()),x1,())) (t54 x0 x1) [(bl 1 1,[2]),(bl 3 6,[2,4,6]),(bl 3 2,[2,4,6])] :=
  ⟨by kernel_rfl,by kernel_rfl,by kernel_rfl,trivial⟩

theorem ok54_t (x0:(List (Int×(Int×((List (Int×(Int×(Bool×Unit))))×Unit))))) (x1:(List Int)):TrOk (PureRuns Go.Proofs.Try.prog (kl54_0 Go.Proofs.Try.prog).orc 54 as54 rs54 ((x0,()),x1,())) (t54 x0 x1) :=
  Walks.ok (fun _ _ _=>PureRuns.of) (wk54 x0 x1) (by kernel_rfl)

theorem ok54:PureOk Go.Proofs.Try.prog 54 p54:=pureOk_of kl54_0_ok.base (T:=fun (d:Tys.data as54)=>t54 d.1.1 d.2.1) (by kernel_rfl) (fun (d:Tys.data as54)=>ok54_t d.1.1 d.2.1)
def kf54 (P:Go.Program):Known:=(kl54_0 P).func 54 p54
theorem kf54_ok:KnownOk Go.Proofs.Try.prog (kf54 Go.Proofs.Try.prog):=kl54_0_ok.func ok54

/-! ductility/ductilitybase.Size -/

abbrev as86:List Ty:=[(.int .i64)]
abbrev rs86:List Ty:=[(.int .i64)]

def t86 (x0:Int):Tr (Tys.data rs86) :=
  Tr.fin (((if x0 < Go.IntKind.wrap Go.IntKind.i64 ((0:Int) - x0) then Go.IntKind.wrap Go.IntKind.i64 ((0:Int) - x0) else x0:Int),()))

def f86 (d:Tys.data as86):Option (Tys.data rs86):=(t86 d.1).val
def g86 (d:Tys.data as86):Tys.data rs86:=(f86 d).getD (Tys.dflt rs86)
def p86:PureC:=pcOf as86 rs86 f86 g86

theorem wk86 (x0:Int):Walks (runPure (kf54 Go.Proofs.Try.prog).orc Go.Proofs.Try.prog 400 86 as86 rs86 (x0,())) (t86 x0) [(bl 0 0,[])] :=
  ⟨by kernel_rfl,trivial⟩

theorem ok86_t (x0:Int):TrOk (PureRuns Go.Proofs.Try.prog (kf54 Go.Proofs.Try.prog).orc 86 as86 rs86 (x0,())) (t86 x0) :=
  Walks.ok (fun _ _ _=>PureRuns.of) (wk86 x0) (by kernel_rfl)

theorem ok86:PureOk Go.Proofs.Try.prog 86 p86:=pureOk_of kf54_ok.base (T:=fun (d:Tys.data as86)=>t86 d.1) (by kernel_rfl) (fun (d:Tys.data as86)=>ok86_t d.1)
def kf86 (P:Go.Program):Known:=(kf54 P).func 86 p86
theorem kf86_ok:KnownOk Go.Proofs.Try.prog (kf86 Go.Proofs.Try.prog):=kf54_ok.func ok86

/-! loop 0 of ductility/ductilitybase.Gcd -/

abbrev sh115_0:Sh:={ n:=13,slots:=[0,1],pats:=[.ty (.int .i64),.ty (.int .i64)],boxes:=[] }
abbrev shb115_0:Sh:={ n:=13,slots:=[0],pats:=[.ty (.int .i64)],boxes:=[] }
abbrev shr115_0:Sh:={ n:=13,slots:=[],pats:=[],boxes:=[] }

def t115_0 (x0:Int) (x1:Int):Tr (Out sh115_0.data shb115_0.data shr115_0.data) :=
  Tr.test ((!eqF x1 0:Bool))
    (Tr.test (x1 == (0:Int))
      (Tr.stop)
      (Tr.fin (.again ((x1,((Int.tmod x0 x1:Int),())),()))))
    (Tr.fin (.brk ((x0,()),())))

def s115_0 (d:sh115_0.data):Option (Out sh115_0.data shb115_0.data shr115_0.data):=(t115_0 d.1.1 d.1.2.1).val
def l115_0 (d:sh115_0.data):Option (shb115_0.data ⊕ shr115_0.data):=itr s115_0 rounds d
def b115_0 (d:sh115_0.data):shb115_0.data:=outB shb115_0.dflt (l115_0 d)
def lc115_0:LoopC:=lcB sh115_0 shb115_0 shr115_0 l115_0 b115_0

theorem wk115_0 (x0:Int) (x1:Int):Walks (runBody (kf86 Go.Proofs.Try.prog).orc Go.Proofs.Try.prog 400 115 0 sh115_0 shb115_0 shr115_0 ((x0,x1,()),())) (t115_0 x0 x1) [(bl 2 1,[2,4]),(bl 1 0,[2])] :=
  ⟨by kernel_rfl,by kernel_rfl,trivial⟩

theorem ok115_0_t (x0:Int) (x1:Int):TrOk (BodyRuns Go.Proofs.Try.prog (kf86 Go.Proofs.Try.prog).orc 115 0 sh115_0 shb115_0 shr115_0 ((x0,x1,()),())) (t115_0 x0 x1) :=
  Walks.ok (fun _ _ _=>BodyRuns.of) (wk115_0 x0 x1) (by kernel_rfl)

theorem ok115_0:LoopOk Go.Proofs.Try.prog 115 0 lc115_0:=loopOk_ofB (sh:=sh115_0) (shB:=shb115_0) (shR:=shr115_0) kf86_ok.base (T:=fun (d:sh115_0.data)=>t115_0 d.1.1 d.1.2.1) (by kernel_rfl) rfl (fun (d:sh115_0.data)=>ok115_0_t d.1.1 d.1.2.1) (fun _=>rfl)
def kl115_0 (P:Go.Program):Known:=(kf86 P).loop 115 0 lc115_0
theorem kl115_0_ok:KnownOk Go.Proofs.Try.prog (kl115_0 Go.Proofs.Try.prog):=kf86_ok.loop ok115_0

/-! ductility/ductilitybase.Gcd -/

abbrev as115:List Ty:=[(.int .i64),(.int .i64)]
abbrev rs115:List Ty:=[(.int .i64)]

def t115 (x0:Int) (x1:Int):Tr (Tys.data rs115) :=
  Tr.test (isBrk (l115_0 ((x0,(x1,())),())))
    (let r0:=b115_0 ((x0,(x1,())),());
    Tr.test (Option.isSome (f86 (r0.1.1,())))
      (let r1:=g86 (r0.1.1,());
      Tr.fin ((r1.1,())))
      (Tr.stop))
    (Tr.stop)

def f115 (d:Tys.data as115):Option (Tys.data rs115):=(t115 d.1 d.2.1).val
def g115 (d:Tys.data as115):Tys.data rs115:=(f115 d).getD (Tys.dflt rs115)
def p115:PureC:=pcOf as115 rs115 f115 g115

theorem wk115 (x0:Int) (x1:Int):Walks (runPure (kl115_0 Go.Proofs.Try.prog).orc Go.Proofs.Try.prog 400 115 as115 rs115 (x0,x1,())) (t115 x0 x1) [(bl 2 3,[2,1,4])] :=
  ⟨by kernel_rfl,trivial⟩

theorem ok115_t (x0:Int) (x1:Int):TrOk (PureRuns Go.Proofs.Try.prog (kl115_0 Go.Proofs.Try.prog).orc 115 as115 rs115 (x0,x1,())) (t115 x0 x1) :=
  Walks.ok (fun _ _ _=>PureRuns.of) (wk115 x0 x1) (by kernel_rfl)

theorem ok115:PureOk Go.Proofs.Try.prog 115 p115:=pureOk_of kl115_0_ok.base (T:=fun (d:Tys.data as115)=>t115 d.1 d.2.1) (by kernel_rfl) (fun (d:Tys.data as115)=>ok115_t d.1 d.2.1)
def kf115 (P:Go.Program):Known:=(kl115_0 P).func 115 p115
theorem kf115_ok:KnownOk Go.Proofs.Try.prog (kf115 Go.Proofs.Try.prog):=kl115_0_ok.func ok115

/-! ductility/ductilitybase.Lowest -/

abbrev as57:List Ty:=[(.int .i64),(.int .i64)]
abbrev rs57:List Ty:=[(.pair (.int .i64) (.pair (.int .i64) .unit))]

def t57 (x0:Int) (x1:Int):Tr (Tys.data rs57) :=
  Tr.test (Option.isSome (f115 (x0,(x1,()))))
    (Tr.test (!leF (0:Int) x1)
      (let r0:=g115 (x0,(x1,()));
      Tr.test ((Go.IntKind.wrap Go.IntKind.i64 ((0:Int) - r0.1) == (0:Int):Bool))
        (Tr.stop)
        (Tr.fin ((((Go.IntKind.wrap Go.IntKind.i64 (Int.tdiv x0 (Go.IntKind.wrap Go.IntKind.i64 ((0:Int) - r0.1))):Int),((Go.IntKind.wrap Go.IntKind.i64 (Int.tdiv x1 (Go.IntKind.wrap Go.IntKind.i64 ((0:Int) - r0.1))):Int),())),()))))
      (let r0:=g115 (x0,(x1,()));
      Tr.test ((r0.1 == (0:Int):Bool))
        (Tr.stop)
        (Tr.fin ((((Go.IntKind.wrap Go.IntKind.i64 (Int.tdiv x0 r0.1):Int),((Go.IntKind.wrap Go.IntKind.i64 (Int.tdiv x1 r0.1):Int),())),())))))
    (Tr.stop)

def f57 (d:Tys.data as57):Option (Tys.data rs57):=(t57 d.1 d.2.1).val
def g57 (d:Tys.data as57):Tys.data rs57:=(f57 d).getD (Tys.dflt rs57)
def p57:PureC:=pcOf as57 rs57 f57 g57

theorem wk57 (x0:Int) (x1:Int):Walks (runPure (kf115 Go.Proofs.Try.prog).orc Go.Proofs.Try.prog 400 57 as57 rs57 (x0,x1,())) (t57 x0 x1) [(bl 3 3,[2,2,4,6]),(bl 3 1,[2,2,4,6])] :=
  ⟨by kernel_rfl,by kernel_rfl,trivial⟩

theorem ok57_t (x0:Int) (x1:Int):TrOk (PureRuns Go.Proofs.Try.prog (kf115 Go.Proofs.Try.prog).orc 57 as57 rs57 (x0,x1,())) (t57 x0 x1) :=
  Walks.ok (fun _ _ _=>PureRuns.of) (wk57 x0 x1) (by kernel_rfl)

theorem ok57:PureOk Go.Proofs.Try.prog 57 p57:=pureOk_of kf115_ok.base (T:=fun (d:Tys.data as57)=>t57 d.1 d.2.1) (by kernel_rfl) (fun (d:Tys.data as57)=>ok57_t d.1 d.2.1)
def kf57 (P:Go.Program):Known:=(kf115 P).func 57 p57
theorem kf57_ok:KnownOk Go.Proofs.Try.prog (kf57 Go.Proofs.Try.prog):=kf115_ok.func ok57

/-! loop 2 of ductility/ductilityref05.Drifts -/

abbrev sh56_2:Sh:={ n:=37,slots:=[1,2,5,6,7,8],pats:=[.ty (.slice (.int .i64)),.ptr 0 1 0,.nil,.ty (.int .i64),.ty (.int .i64),.ty (.int .i64)],boxes:=[.row [.ty (.slice (.pair (.int .i64) (.pair (.int .i64) (.pair (.slice (.pair (.int .i64) (.pair (.int .i64) (.pair .bool .unit)))) .unit))))]] }
abbrev shb56_2:Sh:={ n:=37,slots:=[1,2,5,6,7],pats:=[.ty (.slice (.int .i64)),.ptr 0 1 0,.nil,.ty (.int .i64),.ty (.int .i64)],boxes:=[.row [.ty (.slice (.pair (.int .i64) (.pair (.int .i64) (.pair (.slice (.pair (.int .i64) (.pair (.int .i64) (.pair .bool .unit)))) .unit))))]] }
abbrev shr56_2:Sh:={ n:=37,slots:=[],pats:=[],boxes:=[.row [.ty (.slice (.pair (.int .i64) (.pair (.int .i64) (.pair (.slice (.pair (.int .i64) (.pair (.int .i64) (.pair .bool .unit)))) .unit))))]] }

def t56_2 (x0:(List Int)) (x3:Int) (x4:Int) (x5:Int) (b0_0:(List (Int×(Int×((List (Int×(Int×(Bool×Unit))))×Unit))))):Tr (Out sh56_2.data shb56_2.data shr56_2.data) :=
  Tr.test ((!leF (↑(List.length x0):Int) x5:Bool))
    (Tr.test (decide ((0:Int) ≤ x5) && decide (x5 < (↑(List.length x0):Int)))
      (Tr.fin (.again ((x0,(x3,((wrap64 (x4 + List.getD x0 (Int.toNat x5) (0:Int)):Int),((wrap64 (x5 + (1:Int)):Int),())))),((b0_0,()),()))))
      (Tr.stop))
    (Tr.fin (.brk ((x0,(x3,(x4,()))),((b0_0,()),()))))

def s56_2 (d:sh56_2.data):Option (Out sh56_2.data shb56_2.data shr56_2.data):=(t56_2 d.1.1 d.1.2.1 d.1.2.2.1 d.1.2.2.2.1 d.2.1.1).val
def l56_2 (d:sh56_2.data):Option (shb56_2.data ⊕ shr56_2.data):=itr s56_2 rounds d
def b56_2 (d:sh56_2.data):shb56_2.data:=outB shb56_2.dflt (l56_2 d)
def lc56_2:LoopC:=lcB sh56_2 shb56_2 shr56_2 l56_2 b56_2

theorem wk56_2 (x0:(List Int)) (x3:Int) (x4:Int) (x5:Int) (b0_0:(List (Int×(Int×((List (Int×(Int×(Bool×Unit))))×Unit))))):Walks (runBody (kf57 Go.Proofs.Try.prog).orc Go.Proofs.Try.prog 400 56 2 sh56_2 shb56_2 shr56_2 ((x0,x3,x4,x5,()),(b0_0,()),())) (t56_2 x0 x3 x4 x5 b0_0) [(bl 2 3,[2,4]),(bl 1 0,[2])] :=
  ⟨by kernel_rfl,by kernel_rfl,trivial⟩

theorem ok56_2_t (x0:(List Int)) (x3:Int) (x4:Int) (x5:Int) (b0_0:(List (Int×(Int×((List (Int×(Int×(Bool×Unit))))×Unit))))):TrOk (BodyRuns Go.Proofs.Try.prog (kf57 Go.Proofs.Try.prog).orc 56 2 sh56_2 shb56_2 shr56_2 ((x0,x3,x4,x5,()),(b0_0,()),())) (t56_2 x0 x3 x4 x5 b0_0) :=
  Walks.ok (fun _ _ _=>BodyRuns.of) (wk56_2 x0 x3 x4 x5 b0_0) (by kernel_rfl)

theorem ok56_2:LoopOk Go.Proofs.Try.prog 56 2 lc56_2:=loopOk_ofB (sh:=sh56_2) (shB:=shb56_2) (shR:=shr56_2) kf57_ok.base (T:=fun (d:sh56_2.data)=>t56_2 d.1.1 d.1.2.1 d.1.2.2.1 d.1.2.2.2.1 d.2.1.1) (by kernel_rfl) rfl (fun (d:sh56_2.data)=>ok56_2_t d.1.1 d.1.2.1 d.1.2.2.1 d.1.2.2.2.1 d.2.1.1) (fun _=>rfl)
def kl56_2 (P:Go.Program):Known:=(kf57 P).loop 56 2 lc56_2
theorem kl56_2_ok:KnownOk Go.Proofs.Try.prog (kl56_2 Go.Proofs.Try.prog):=kf57_ok.loop ok56_2

/-! loop 2 of ductility/ductilityref05.Drifts -/

abbrev sh56_2_1:Sh:={ n:=37,slots:=[1,2,5,6,7,8],pats:=[.ty (.slice (.int .i64)),.ptr 0 1 0,.acc (.pair (.int .i64) (.pair (.int .i64) .unit)),.ty (.int .i64),.ty (.int .i64),.ty (.int .i64)],boxes:=[.row [.ty (.slice (.pair (.int .i64) (.pair (.int .i64) (.pair (.slice (.pair (.int .i64) (.pair (.int .i64) (.pair .bool .unit)))) .unit))))]] }
abbrev shb56_2_1:Sh:={ n:=37,slots:=[1,2,5,6,7],pats:=[.ty (.slice (.int .i64)),.ptr 0 1 0,.acc (.pair (.int .i64) (.pair (.int .i64) .unit)),.ty (.int .i64),.ty (.int .i64)],boxes:=[.row [.ty (.slice (.pair (.int .i64) (.pair (.int .i64) (.pair (.slice (.pair (.int .i64) (.pair (.int .i64) (.pair .bool .unit)))) .unit))))]] }
abbrev shr56_2_1:Sh:={ n:=37,slots:=[],pats:=[],boxes:=[.row [.ty (.slice (.pair (.int .i64) (.pair (.int .i64) (.pair (.slice (.pair (.int .i64) (.pair (.int .i64) (.pair .bool .unit)))) .unit))))]] }

def t56_2_1 (x0:(List Int)) (x2:(List (Int×(Int×Unit)))) (x3:Int) (x4:Int) (x5:Int) (b0_0:(List (Int×(Int×((List (Int×(Int×(Bool×Unit))))×Unit))))):Tr (Out sh56_2_1.data shb56_2_1.data shr56_2_1.data) :=
  Tr.test ((!leF (↑(List.length x0):Int) x5:Bool))
    (Tr.test (decide ((0:Int) ≤ x5) && decide (x5 < (↑(List.length x0):Int)))
      (Tr.fin (.again ((x0,(x2,(x3,((wrap64 (x4 + List.getD x0 (Int.toNat x5) (0:Int)):Int),((wrap64 (x5 + (1:Int)):Int),()))))),((b0_0,()),()))))
      (Tr.stop))
    (Tr.fin (.brk ((x0,(x2,(x3,(x4,())))),((b0_0,()),()))))

def s56_2_1 (d:sh56_2_1.data):Option (Out sh56_2_1.data shb56_2_1.data shr56_2_1.data):=(t56_2_1 d.1.1 d.1.2.1 d.1.2.2.1 d.1.2.2.2.1 d.1.2.2.2.2.1 d.2.1.1).val
def l56_2_1 (d:sh56_2_1.data):Option (shb56_2_1.data ⊕ shr56_2_1.data):=itr s56_2_1 rounds d
def b56_2_1 (d:sh56_2_1.data):shb56_2_1.data:=outB shb56_2_1.dflt (l56_2_1 d)
def lc56_2_1:LoopC:=lcB sh56_2_1 shb56_2_1 shr56_2_1 l56_2_1 b56_2_1

theorem wk56_2_1 (x0:(List Int)) (x2:(List (Int×(Int×Unit)))) (x3:Int) (x4:Int) (x5:Int) (b0_0:(List (Int×(Int×((List (Int×(Int×(Bool×Unit))))×Unit))))):Walks (runBody (kl56_2 Go.Proofs.Try.prog).orc Go.Proofs.Try.prog 400 56 2 sh56_2_1 shb56_2_1 shr56_2_1 ((x0,x2,x3,x4,x5,()),(b0_0,()),())) (t56_2_1 x0 x2 x3 x4 x5 b0_0) [(bl 2 3,[2,4]),(bl 1 0,[2])] :=
  ⟨by kernel_rfl,by kernel_rfl,trivial⟩

theorem ok56_2_1_t (x0:(List Int)) (x2:(List (Int×(Int×Unit)))) (x3:Int) (x4:Int) (x5:Int) (b0_0:(List (Int×(Int×((List (Int×(Int×(Bool×Unit))))×Unit))))):TrOk (BodyRuns Go.Proofs.Try.prog (kl56_2 Go.Proofs.Try.prog).orc 56 2 sh56_2_1 shb56_2_1 shr56_2_1 ((x0,x2,x3,x4,x5,()),(b0_0,()),())) (t56_2_1 x0 x2 x3 x4 x5 b0_0) :=
  Walks.ok (fun _ _ _=>BodyRuns.of) (wk56_2_1 x0 x2 x3 x4 x5 b0_0) (by kernel_rfl)

theorem ok56_2_1:LoopOk Go.Proofs.Try.prog 56 2 lc56_2_1:=loopOk_ofB (sh:=sh56_2_1) (shB:=shb56_2_1) (shR:=shr56_2_1) kl56_2_ok.base (T:=fun (d:sh56_2_1.data)=>t56_2_1 d.1.1 d.1.2.1 d.1.2.2.1 d.1.2.2.2.1 d.1.2.2.2.2.1 d.2.1.1) (by kernel_rfl) rfl (fun (d:sh56_2_1.data)=>ok56_2_1_t d.1.1 d.1.2.1 d.1.2.2.1 d.1.2.2.2.1 d.1.2.2.2.2.1 d.2.1.1) (fun _=>rfl)
def kl56_2_1 (P:Go.Program):Known:=(kl56_2 P).loop 56 2 lc56_2_1
theorem kl56_2_1_ok:KnownOk Go.Proofs.Try.prog (kl56_2_1 Go.Proofs.Try.prog):=kl56_2_ok.loop ok56_2_1

/-! loop 0 of ductility/ductilityref05.Drifts -/

abbrev sh56_0:Sh:={ n:=37,slots:=[1,2,5,6],pats:=[.ty (.slice (.int .i64)),.ptr 0 1 0,.acc (.pair (.int .i64) (.pair (.int .i64) .unit)),.ty (.int .i64)],boxes:=[.row [.ty (.slice (.pair (.int .i64) (.pair (.int .i64) (.pair (.slice (.pair (.int .i64) (.pair (.int .i64) (.pair .bool .unit)))) .unit))))]] }
abbrev shb56_0:Sh:={ n:=37,slots:=[5],pats:=[.acc (.pair (.int .i64) (.pair (.int .i64) .unit))],boxes:=[.row [.ty (.slice (.pair (.int .i64) (.pair (.int .i64) (.pair (.slice (.pair (.int .i64) (.pair (.int .i64) (.pair .bool .unit)))) .unit))))]] }
abbrev shr56_0:Sh:={ n:=37,slots:=[],pats:=[],boxes:=[.row [.ty (.slice (.pair (.int .i64) (.pair (.int .i64) (.pair (.slice (.pair (.int .i64) (.pair (.int .i64) (.pair .bool .unit)))) .unit))))]] }

def t56_0 (x0:(List Int)) (x2:(List (Int×(Int×Unit)))) (x3:Int) (b0_0:(List (Int×(Int×((List (Int×(Int×(Bool×Unit))))×Unit))))):Tr (Out sh56_0.data shb56_0.data shr56_0.data) :=
  Tr.test ((!leF (↑(List.length x0):Int) x3:Bool))
    (Tr.test (isBrk (l56_2_1 ((x0,(x2,(x3,((0:Int),(x3,()))))),((b0_0,()),()))))
      (let r0:=b56_2_1 ((x0,(x2,(x3,((0:Int),(x3,()))))),((b0_0,()),()));
      Tr.test (Option.isSome (f114 (((r0.2.1.1:List (Int×Int×List (Int×Int×Bool×PUnit)×PUnit)),()),(r0.1.2.2.1,()))))
        (let r1:=g114 (((r0.2.1.1:List (Int×Int×List (Int×Int×Bool×PUnit)×PUnit)),()),(r0.1.2.2.1,()));
        Tr.test (Option.isSome (f57 (r0.1.2.2.2.1,(r1.1,()))))
          (Tr.test ((Nat.ble (((2:Nat) * (List.length r0.1.2.1 + (1:Nat)) + (192:Nat)) * (16:Nat)) (281474976710656:Nat) && Nat.ble (List.length r0.1.2.1 + (1:Nat)) (281474976710656:Nat):Bool))
            (let r2:=g57 (r0.1.2.2.2.1,(r1.1,()));
            Tr.fin (.again ((r0.1.1,((r0.1.2.1++[(r2.1.1,r2.1.2.1,())]:List (Int×Int×PUnit)),((wrap64 (r0.1.2.2.1 + (1:Int)):Int),()))),(((r0.2.1.1:List (Int×Int×List (Int×Int×Bool×PUnit)×PUnit)),()),()))))
            (Tr.stop))
          (Tr.stop))
        (Tr.stop))
      (Tr.stop))
    (Tr.fin (.brk ((x2,()),((b0_0,()),()))))

def s56_0 (d:sh56_0.data):Option (Out sh56_0.data shb56_0.data shr56_0.data):=(t56_0 d.1.1 d.1.2.1 d.1.2.2.1 d.2.1.1).val
def l56_0 (d:sh56_0.data):Option (shb56_0.data ⊕ shr56_0.data):=itr s56_0 rounds d
def b56_0 (d:sh56_0.data):shb56_0.data:=outB shb56_0.dflt (l56_0 d)
def lc56_0:LoopC:=lcB sh56_0 shb56_0 shr56_0 l56_0 b56_0

theorem wk56_0 (x0:(List Int)) (x2:(List (Int×(Int×Unit)))) (x3:Int) (b0_0:(List (Int×(Int×((List (Int×(Int×(Bool×Unit))))×Unit))))):Walks (runBody (kl56_2_1 Go.Proofs.Try.prog).orc Go.Proofs.Try.prog 400 56 0 sh56_0 shb56_0 shr56_0 ((x0,x2,x3,()),(b0_0,()),())) (t56_0 x0 x2 x3 b0_0) [(bl 5 31,[2,4,6,1,8,10]),(bl 1 0,[2])] :=
  ⟨by kernel_rfl,by kernel_rfl,trivial⟩

theorem ok56_0_t (x0:(List Int)) (x2:(List (Int×(Int×Unit)))) (x3:Int) (b0_0:(List (Int×(Int×((List (Int×(Int×(Bool×Unit))))×Unit))))):TrOk (BodyRuns Go.Proofs.Try.prog (kl56_2_1 Go.Proofs.Try.prog).orc 56 0 sh56_0 shb56_0 shr56_0 ((x0,x2,x3,()),(b0_0,()),())) (t56_0 x0 x2 x3 b0_0) :=
  Walks.ok (fun _ _ _=>BodyRuns.of) (wk56_0 x0 x2 x3 b0_0) (by kernel_rfl)

theorem ok56_0:LoopOk Go.Proofs.Try.prog 56 0 lc56_0:=loopOk_ofB (sh:=sh56_0) (shB:=shb56_0) (shR:=shr56_0) kl56_2_1_ok.base (T:=fun (d:sh56_0.data)=>t56_0 d.1.1 d.1.2.1 d.1.2.2.1 d.2.1.1) (by kernel_rfl) rfl (fun (d:sh56_0.data)=>ok56_0_t d.1.1 d.1.2.1 d.1.2.2.1 d.2.1.1) (fun _=>rfl)
def kl56_0 (P:Go.Program):Known:=(kl56_2_1 P).loop 56 0 lc56_0
theorem kl56_0_ok:KnownOk Go.Proofs.Try.prog (kl56_0 Go.Proofs.Try.prog):=kl56_2_1_ok.loop ok56_0

/-! ductility/ductilityref05.Drifts -/

abbrev as56:List Ty:=[(.pair (.slice (.pair (.int .i64) (.pair (.int .i64) (.pair (.slice (.pair (.int .i64) (.pair (.int .i64) (.pair .bool .unit)))) .unit)))) .unit),(.slice (.int .i64))]
abbrev rs56:List Ty:=[(.slice (.pair (.int .i64) (.pair (.int .i64) .unit)))]

def t56 (x0:(List (Int×(Int×((List (Int×(Int×(Bool×Unit))))×Unit))))) (x1:(List Int)):Tr (Tys.data rs56) :=
  Tr.test (isBrk (l56_0 ((x1,(([]:List (Int×Int×PUnit)),((0:Int),()))),((x0,()),()))))
    (let r0:=b56_0 ((x1,(([]:List (Int×Int×PUnit)),((0:Int),()))),((x0,()),()));
    Tr.fin ((r0.1.1,())))
    (Tr.stop)

def f56 (d:Tys.data as56):Option (Tys.data rs56):=(t56 d.1.1 d.2.1).val
def g56 (d:Tys.data as56):Tys.data rs56:=(f56 d).getD (Tys.dflt rs56)
def p56:PureC:=pcOf as56 rs56 f56 g56

theorem wk56 (x0:(List (Int×(Int×((List (Int×(Int×(Bool×Unit))))×Unit))))) (x1:(List Int)):Walks (runPure (kl56_0 Go.Proofs.Try.prog).orc Go.Proofs.Try.prog 400 56 as56 rs56 ((x0,()),x1,())) (t56 x0 x1) [(bl 1 1,[1,2])] :=
  ⟨by kernel_rfl,trivial⟩

theorem ok56_t (x0:(List (Int×(Int×((List (Int×(Int×(Bool×Unit))))×Unit))))) (x1:(List Int)):TrOk (PureRuns Go.Proofs.Try.prog (kl56_0 Go.Proofs.Try.prog).orc 56 as56 rs56 ((x0,()),x1,())) (t56 x0 x1) :=
  Walks.ok (fun _ _ _=>PureRuns.of) (wk56 x0 x1) (by kernel_rfl)

theorem ok56:PureOk Go.Proofs.Try.prog 56 p56:=pureOk_of kl56_0_ok.base (T:=fun (d:Tys.data as56)=>t56 d.1.1 d.2.1) (by kernel_rfl) (fun (d:Tys.data as56)=>ok56_t d.1.1 d.2.1)
def kf56 (P:Go.Program):Known:=(kl56_0 P).func 56 p56
theorem kf56_ok:KnownOk Go.Proofs.Try.prog (kf56 Go.Proofs.Try.prog):=kl56_0_ok.func ok56

/-! loop 0 of ductility/ductilitybase.Fracs -/

abbrev sh55_0:Sh:={ n:=26,slots:=[0,1,5],pats:=[.ty (.slice (.pair (.int .i64) (.pair (.int .i64) .unit))),.ty (.slice (.pair (.int .i64) (.pair (.int .i64) .unit))),.ty (.int .i64)],boxes:=[] }
abbrev shb55_0:Sh:={ n:=26,slots:=[],pats:=[],boxes:=[] }
abbrev shr55_0:Sh:={ n:=26,slots:=[4],pats:=[.ty .bool],boxes:=[] }

def t55_0 (x0:(List (Int×(Int×Unit)))) (x1:(List (Int×(Int×Unit)))) (x2:Int):Tr (Out sh55_0.data shb55_0.data shr55_0.data) :=
  Tr.test ((!leF (↑(List.length x0):Int) x2:Bool))
    (Tr.test (decide ((0:Int) ≤ x2) && decide (x2 < (↑(List.length x0):Int)))
      (Tr.test ((decide ((0:Int) ≤ x2) && decide (x2 < (↑(List.length x1):Int)):Bool))
        (Tr.test ((!((List.getD x0 (Int.toNat x2) ((0:Int),(0:Int),())).1 == (List.getD x1 (Int.toNat x2) ((0:Int),(0:Int),())).1 && ((List.getD x0 (Int.toNat x2) ((0:Int),(0:Int),())).2.1 == (List.getD x1 (Int.toNat x2) ((0:Int),(0:Int),())).2.1 && true)):Bool))
          (Tr.fin (.ret (((false:Bool),()),())))
          (Tr.fin (.again ((x0,(x1,((wrap64 (x2 + (1:Int)):Int),()))),()))))
        (Tr.stop))
      (Tr.stop))
    (Tr.fin (.brk ((),())))

def s55_0 (d:sh55_0.data):Option (Out sh55_0.data shb55_0.data shr55_0.data):=(t55_0 d.1.1 d.1.2.1 d.1.2.2.1).val
def l55_0 (d:sh55_0.data):Option (shb55_0.data ⊕ shr55_0.data):=itr s55_0 rounds d
def b55_0 (d:sh55_0.data):shb55_0.data:=outB shb55_0.dflt (l55_0 d)
def r55_0 (d:sh55_0.data):shr55_0.data:=outR shr55_0.dflt (l55_0 d)
def lc55_0:LoopC:=lcOf sh55_0 shb55_0 shr55_0 l55_0 b55_0 r55_0

theorem wk55_0 (x0:(List (Int×(Int×Unit)))) (x1:(List (Int×(Int×Unit)))) (x2:Int):Walks (runBody (kf56 Go.Proofs.Try.prog).orc Go.Proofs.Try.prog 400 55 0 sh55_0 shb55_0 shr55_0 ((x0,x1,x2,()),())) (t55_0 x0 x1 x2) [(bl 4 15,[2,4,6,8]),(bl 4 7,[2,4,6,8]),(bl 1 0,[2])] :=
  ⟨by kernel_rfl,by kernel_rfl,by kernel_rfl,trivial⟩

theorem ok55_0_t (x0:(List (Int×(Int×Unit)))) (x1:(List (Int×(Int×Unit)))) (x2:Int):TrOk (BodyRuns Go.Proofs.Try.prog (kf56 Go.Proofs.Try.prog).orc 55 0 sh55_0 shb55_0 shr55_0 ((x0,x1,x2,()),())) (t55_0 x0 x1 x2) :=
  Walks.ok (fun _ _ _=>BodyRuns.of) (wk55_0 x0 x1 x2) (by kernel_rfl)

theorem ok55_0:LoopOk Go.Proofs.Try.prog 55 0 lc55_0:=loopOk_of (sh:=sh55_0) (shB:=shb55_0) (shR:=shr55_0) kf56_ok.base (T:=fun (d:sh55_0.data)=>t55_0 d.1.1 d.1.2.1 d.1.2.2.1) (by kernel_rfl) rfl (fun (d:sh55_0.data)=>ok55_0_t d.1.1 d.1.2.1 d.1.2.2.1) (fun _=>rfl)
def kl55_0 (P:Go.Program):Known:=(kf56 P).loop 55 0 lc55_0
theorem kl55_0_ok:KnownOk Go.Proofs.Try.prog (kl55_0 Go.Proofs.Try.prog):=kf56_ok.loop ok55_0

/-! ductility/ductilitybase.Fracs -/

abbrev as55:List Ty:=[(.slice (.pair (.int .i64) (.pair (.int .i64) .unit))),(.slice (.pair (.int .i64) (.pair (.int .i64) .unit)))]
abbrev rs55:List Ty:=[.bool]

def t55 (x0:(List (Int×(Int×Unit)))) (x1:(List (Int×(Int×Unit)))):Tr (Tys.data rs55) :=
  Tr.test ((!eqF (↑(List.length x0):Int) (↑(List.length x1):Int):Bool))
    (Tr.fin ((false,())))
    (Tr.test (Option.isSome (l55_0 ((x0,(x1,((0:Int),()))),())))
      (Tr.test (isRet (l55_0 ((x0,(x1,((0:Int),()))),())))
        (let r0:=r55_0 ((x0,(x1,((0:Int),()))),());
        Tr.fin ((r0.1.1,())))
        (Tr.fin (((true:Bool),()))))
      (Tr.stop))

def f55 (d:Tys.data as55):Option (Tys.data rs55):=(t55 d.1 d.2.1).val
def g55 (d:Tys.data as55):Tys.data rs55:=(f55 d).getD (Tys.dflt rs55)
def p55:PureC:=pcOf as55 rs55 f55 g55

theorem wk55 (x0:(List (Int×(Int×Unit)))) (x1:(List (Int×(Int×Unit)))):Walks (runPure (kl55_0 Go.Proofs.Try.prog).orc Go.Proofs.Try.prog 400 55 as55 rs55 (x0,x1,())) (t55 x0 x1) [(bl 1 1,[2]),(bl 3 6,[2,4,6]),(bl 3 2,[2,4,6])] :=
  ⟨by kernel_rfl,by kernel_rfl,by kernel_rfl,trivial⟩

theorem ok55_t (x0:(List (Int×(Int×Unit)))) (x1:(List (Int×(Int×Unit)))):TrOk (PureRuns Go.Proofs.Try.prog (kl55_0 Go.Proofs.Try.prog).orc 55 as55 rs55 (x0,x1,())) (t55 x0 x1) :=
  Walks.ok (fun _ _ _=>PureRuns.of) (wk55 x0 x1) (by kernel_rfl)

theorem ok55:PureOk Go.Proofs.Try.prog 55 p55:=pureOk_of kl55_0_ok.base (T:=fun (d:Tys.data as55)=>t55 d.1 d.2.1) (by kernel_rfl) (fun (d:Tys.data as55)=>ok55_t d.1 d.2.1)
def kf55 (P:Go.Program):Known:=(kl55_0 P).func 55 p55
theorem kf55_ok:KnownOk Go.Proofs.Try.prog (kf55 Go.Proofs.Try.prog):=kl55_0_ok.func ok55

/-! loop 0 of ductility/ductilitylaw05.ModelFrames -/

abbrev sh7_0:Sh:={ n:=249,slots:=[1,7,9,15],pats:=[.ty (.slice (.int .i64)),.ty (.slice (.slice (.int .i64))),.ty (.slice (.pair (.int .i64) (.pair (.int .i64) .unit))),.ty (.int .i64)],boxes:=[] }
abbrev shb7_0:Sh:={ n:=249,slots:=[],pats:=[],boxes:=[] }
abbrev shr7_0:Sh:={ n:=249,slots:=[4],pats:=[.ty .bool],boxes:=[] }

def t7_0 (x0:(List Int)) (x1:(List (List Int))) (x2:(List (Int×(Int×Unit)))) (x3:Int):Tr (Out sh7_0.data shb7_0.data shr7_0.data) :=
  Tr.test ((!leF (↑(List.length x0):Int) x3:Bool))
    (Tr.test (decide ((0:Int) ≤ x3) && decide (x3 < (↑(List.length x1):Int)))
      (Tr.test ((decide ((0:Int) ≤ x3) && decide (x3 < (↑(List.length (List.getD x1 (Int.toNat x3) [])):Int)):Bool))
        (Tr.test ((decide ((0:Int) ≤ x3) && decide (x3 < (↑(List.length x2):Int)):Bool))
          (Tr.test (Option.isSome (f57 ((wrap64 (Go.IntKind.wrap Go.IntKind.i64 ((0:Int) - List.getD (List.getD x1 (Int.toNat x3) []) (Int.toNat x3) (0:Int)) * (List.getD x2 (Int.toNat x3) ((0:Int),(0:Int),())).1):Int),(((List.getD x2 (Int.toNat x3) ((0:Int),(0:Int),())).2.1:Int),()))))
            (Tr.test ((!leF (↑(List.length x0):Int) (wrap64 (x3 + (1:Int))):Bool))
              (Tr.test ((decide ((0:Int) ≤ wrap64 (x3 + (1:Int))) && decide (wrap64 (x3 + (1:Int)) < (↑(List.length (List.getD x1 (Int.toNat x3) [])):Int)):Bool))
                (Tr.test (Option.isSome (f57 ((wrap64 (wrap64 (Go.IntKind.wrap Go.IntKind.i64 ((0:Int) - List.getD (List.getD x1 (Int.toNat x3) []) (Int.toNat (wrap64 (x3 + (1:Int)))) (0:Int)) - List.getD (List.getD x1 (Int.toNat x3) []) (Int.toNat x3) (0:Int)) * (List.getD x2 (Int.toNat x3) ((0:Int),(0:Int),())).1):Int),(((List.getD x2 (Int.toNat x3) ((0:Int),(0:Int),())).2.1:Int),()))))
                  (Tr.test ((decide ((0:Int) ≤ wrap64 (x3 + (1:Int))) && decide (wrap64 (x3 + (1:Int)) < (↑(List.length x2):Int)):Bool))
                    (Tr.test (Option.isSome (f57 ((wrap64 (Go.IntKind.wrap Go.IntKind.i64 ((0:Int) - List.getD (List.getD x1 (Int.toNat x3) []) (Int.toNat (wrap64 (x3 + (1:Int)))) (0:Int)) * (List.getD x2 (Int.toNat (wrap64 (x3 + (1:Int)))) ((0:Int),(0:Int),())).1):Int),(((List.getD x2 (Int.toNat (wrap64 (x3 + (1:Int)))) ((0:Int),(0:Int),())).2.1:Int),()))))
                      (let r1:=g57 ((wrap64 (wrap64 (Go.IntKind.wrap Go.IntKind.i64 ((0:Int) - List.getD (List.getD x1 (Int.toNat x3) []) (Int.toNat (wrap64 (x3 + (1:Int)))) (0:Int)) - List.getD (List.getD x1 (Int.toNat x3) []) (Int.toNat x3) (0:Int)) * (List.getD x2 (Int.toNat x3) ((0:Int),(0:Int),())).1):Int),(((List.getD x2 (Int.toNat x3) ((0:Int),(0:Int),())).2.1:Int),()));
                      Tr.test ((!eqF r1.1.2.1 1:Bool))
                        (Tr.fin (.ret (((false:Bool),()),())))
                        (let r2:=g57 ((wrap64 (Go.IntKind.wrap Go.IntKind.i64 ((0:Int) - List.getD (List.getD x1 (Int.toNat x3) []) (Int.toNat (wrap64 (x3 + (1:Int)))) (0:Int)) * (List.getD x2 (Int.toNat (wrap64 (x3 + (1:Int)))) ((0:Int),(0:Int),())).1):Int),(((List.getD x2 (Int.toNat (wrap64 (x3 + (1:Int)))) ((0:Int),(0:Int),())).2.1:Int),()));
                        Tr.test ((!eqF r2.1.2.1 1:Bool))
                          (Tr.fin (.ret (((false:Bool),()),())))
                          (Tr.test ((decide ((0:Int) ≤ x3) && decide (x3 < (↑(List.length x0):Int)):Bool))
                            (Tr.test ((!eqF (wrap64 (r1.1.1 + r2.1.1)) (Go.IntKind.wrap Go.IntKind.i64 ((0:Int) - List.getD x0 (Int.toNat x3) (0:Int))):Bool))
                              (Tr.fin (.ret (((false:Bool),()),())))
                              (Tr.fin (.again ((x0,(x1,(x2,((wrap64 (x3 + (1:Int)):Int),())))),()))))
                            (Tr.stop))))
                      (Tr.stop))
                    (Tr.stop))
                  (Tr.stop))
                (Tr.stop))
              (let r0:=g57 ((wrap64 (Go.IntKind.wrap Go.IntKind.i64 ((0:Int) - List.getD (List.getD x1 (Int.toNat x3) []) (Int.toNat x3) (0:Int)) * (List.getD x2 (Int.toNat x3) ((0:Int),(0:Int),())).1):Int),(((List.getD x2 (Int.toNat x3) ((0:Int),(0:Int),())).2.1:Int),()));
              Tr.test ((!eqF r0.1.2.1 1:Bool))
                (Tr.fin (.ret (((false:Bool),()),())))
                (Tr.test ((decide ((0:Int) ≤ x3) && decide (x3 < (↑(List.length x0):Int)):Bool))
                  (Tr.test ((!eqF r0.1.1 (Go.IntKind.wrap Go.IntKind.i64 ((0:Int) - List.getD x0 (Int.toNat x3) (0:Int))):Bool))
                    (Tr.fin (.ret (((false:Bool),()),())))
                    (Tr.fin (.again ((x0,(x1,(x2,((wrap64 (x3 + (1:Int)):Int),())))),()))))
                  (Tr.stop))))
            (Tr.stop))
          (Tr.stop))
        (Tr.stop))
      (Tr.stop))
    (Tr.fin (.brk ((),())))

def s7_0 (d:sh7_0.data):Option (Out sh7_0.data shb7_0.data shr7_0.data):=(t7_0 d.1.1 d.1.2.1 d.1.2.2.1 d.1.2.2.2.1).val
def l7_0 (d:sh7_0.data):Option (shb7_0.data ⊕ shr7_0.data):=itr s7_0 rounds d
def b7_0 (d:sh7_0.data):shb7_0.data:=outB shb7_0.dflt (l7_0 d)
def r7_0 (d:sh7_0.data):shr7_0.data:=outR shr7_0.dflt (l7_0 d)
def lc7_0:LoopC:=lcOf sh7_0 shb7_0 shr7_0 l7_0 b7_0 r7_0

theorem wk7_0 (x0:(List Int)) (x1:(List (List Int))) (x2:(List (Int×(Int×Unit)))) (x3:Int):Walks (runBody (kf55 Go.Proofs.Try.prog).orc Go.Proofs.Try.prog 400 7 0 sh7_0 shb7_0 shr7_0 ((x0,x1,x2,x3,()),())) (t7_0 x0 x1 x2 x3) [(bl 11 2047,[1,1,1,1,1,1,1,1,1,1,1,1,1,2,2,2,2,4,6,6,8,16,16,18,20,10,20,12,14,16,16,18,20,22]),(bl 12 3071,[1,2,2,2,2,2,2,2,2,2,2,2,2,4,4,4,4,6,8,8,10,18,18,20,22,12,22,14,16,18,18,20,22,24]),(bl 14 13311,[2,6,6,6,6,4,6,6,6,6,6,6,6,6,8,8,8,8,10,12,12,14,22,22,24,26,16,26,18,20,22,22,24,26,28]),(bl 14 5119,[2,6,6,6,6,4,6,6,6,6,6,6,6,6,8,8,8,8,10,12,12,14,22,22,24,26,16,26,18,20,22,22,24,26,28]),(bl 7 95,[1,2,2,2,2,2,2,2,2,2,4,6,8,8,10,12,14]),(bl 9 415,[2,6,6,6,6,4,6,6,6,6,6,8,10,12,12,14,16,18]),(bl 9 159,[2,6,6,6,6,4,6,6,6,6,6,8,10,12,12,14,16,18]),(bl 1 0,[2])] :=
  ⟨by kernel_rfl,by kernel_rfl,by kernel_rfl,by kernel_rfl,by kernel_rfl,by kernel_rfl,by kernel_rfl,by kernel_rfl,trivial⟩

theorem ok7_0_t (x0:(List Int)) (x1:(List (List Int))) (x2:(List (Int×(Int×Unit)))) (x3:Int):TrOk (BodyRuns Go.Proofs.Try.prog (kf55 Go.Proofs.Try.prog).orc 7 0 sh7_0 shb7_0 shr7_0 ((x0,x1,x2,x3,()),())) (t7_0 x0 x1 x2 x3) :=
  Walks.ok (fun _ _ _=>BodyRuns.of) (wk7_0 x0 x1 x2 x3) (by kernel_rfl)

theorem ok7_0:LoopOk Go.Proofs.Try.prog 7 0 lc7_0:=loopOk_of (sh:=sh7_0) (shB:=shb7_0) (shR:=shr7_0) kf55_ok.base (T:=fun (d:sh7_0.data)=>t7_0 d.1.1 d.1.2.1 d.1.2.2.1 d.1.2.2.2.1) (by kernel_rfl) rfl (fun (d:sh7_0.data)=>ok7_0_t d.1.1 d.1.2.1 d.1.2.2.1 d.1.2.2.2.1) (fun _=>rfl)
def kl7_0 (P:Go.Program):Known:=(kf55 P).loop 7 0 lc7_0
theorem kl7_0_ok:KnownOk Go.Proofs.Try.prog (kl7_0 Go.Proofs.Try.prog):=kf55_ok.loop ok7_0

/-! ductility/ductilitylaw05.ModelFrames -/

abbrev as7:List Ty:=[(.pair (.slice (.pair (.int .i64) (.pair (.int .i64) (.pair (.slice (.pair (.int .i64) (.pair (.int .i64) (.pair .bool .unit)))) .unit)))) .unit),(.slice (.int .i64))]
abbrev rs7:List Ty:=[.bool]

def t7 (x0:(List (Int×(Int×((List (Int×(Int×(Bool×Unit))))×Unit))))) (x1:(List Int)):Tr (Tys.data rs7) :=
  Tr.test (Option.isSome (f42 ((x0,()),())))
    (let r0:=g42 ((x0,()),());
    Tr.test ((!r0.1:Bool))
      (Tr.fin (((true:Bool),())))
      (Tr.test ((!leF (↑(List.length x1):Int) (7:Int):Bool))
        (Tr.fin (((true:Bool),())))
        (Tr.test (Option.isSome (f44 ((x0,()),())))
          (let r1:=g44 ((x0,()),());
          Tr.test (Option.isSome (f43 (((r1.1.1:List (Int×Int×List (Int×Int×Bool×PUnit)×PUnit)),()),())))
            (Tr.test (Option.isSome (f45 (((r1.1.1:List (Int×Int×List (Int×Int×Bool×PUnit)×PUnit)),()),())))
              (Tr.test (Option.isSome (f47 (x1,())))
                (let r4:=g47 (x1,());
                Tr.test (Option.isSome (f46 (((r1.1.1:List (Int×Int×List (Int×Int×Bool×PUnit)×PUnit)),()),(r4.1,()))))
                  (Tr.test (Option.isSome (f48 (((r1.1.1:List (Int×Int×List (Int×Int×Bool×PUnit)×PUnit)),()),())))
                    (Tr.test (Option.isSome (f49 ((x0,()),())))
                      (let r2:=g43 (((r1.1.1:List (Int×Int×List (Int×Int×Bool×PUnit)×PUnit)),()),());
                      let r7:=g49 ((x0,()),());
                      Tr.test ((!eqF r2.2.1 r7.2.1:Bool))
                        (Tr.fin (((false:Bool),())))
                        (Tr.test ((!eqF r2.1 r7.1:Bool))
                          (Tr.fin (((false:Bool),())))
                          (Tr.test ((!eqF r7.2.1 0:Bool))
                            (let r3:=g45 (((r1.1.1:List (Int×Int×List (Int×Int×Bool×PUnit)×PUnit)),()),());
                            Tr.test ((eqF r3.2.1 r7.2.1:Bool))
                              (let r5:=g46 (((r1.1.1:List (Int×Int×List (Int×Int×Bool×PUnit)×PUnit)),()),(r4.1,()));
                              Tr.test ((eqF r5.2.1 r7.2.1:Bool))
                                (let r6:=g48 (((r1.1.1:List (Int×Int×List (Int×Int×Bool×PUnit)×PUnit)),()),());
                                Tr.test ((eqF r6.2.1 r7.2.1:Bool))
                                  (Tr.test ((eqF (wrap64 ((↑(List.length r3.1):Int) + (↑(List.length r5.1):Int))) (0:Int):Bool))
                                    (Tr.test (Option.isSome (f50 ((r6.1.1,(r6.1.2.1,((r6.1.2.2.1:List (Int×List (Int×Bool×PUnit)×PUnit)),()))),((([]:List Int),(([]:List Int),(([]:List (Int×List (Int×Bool×PUnit)×PUnit)),()))),()))))
                                      (let r8:=g50 ((r6.1.1,(r6.1.2.1,((r6.1.2.2.1:List (Int×List (Int×Bool×PUnit)×PUnit)),()))),((([]:List Int),(([]:List Int),(([]:List (Int×List (Int×Bool×PUnit)×PUnit)),()))),()));
                                      Tr.fin ((r8.1,())))
                                      (Tr.stop))
                                    (Tr.fin (((false:Bool),()))))
                                  (Tr.fin (((false:Bool),()))))
                                (Tr.fin (((false:Bool),()))))
                              (Tr.fin (((false:Bool),()))))
                            (let r3:=g45 (((r1.1.1:List (Int×Int×List (Int×Int×Bool×PUnit)×PUnit)),()),());
                            Tr.test ((!eqF r3.2.1 0:Bool))
                              (Tr.fin (((false:Bool),())))
                              (Tr.test (Option.isSome (f52 ((x0,()),())))
                                (let r9:=g52 ((x0,()),());
                                Tr.test (Option.isSome (f51 (r3.1,(r9.1,()))))
                                  (let r10:=g51 (r3.1,(r9.1,()));
                                  Tr.test ((!r10.1:Bool))
                                    (Tr.fin (((false:Bool),())))
                                    (let r6:=g48 (((r1.1.1:List (Int×Int×List (Int×Int×Bool×PUnit)×PUnit)),()),());
                                    Tr.test ((!eqF r6.2.1 0:Bool))
                                      (Tr.fin (((false:Bool),())))
                                      (Tr.test (Option.isSome (f53 ((x0,()),())))
                                        (let r11:=g53 ((x0,()),());
                                        Tr.test (Option.isSome (f50 ((r6.1.1,(r6.1.2.1,((r6.1.2.2.1:List (Int×List (Int×Bool×PUnit)×PUnit)),()))),((r11.1.1,(r11.1.2.1,((r11.1.2.2.1:List (Int×List (Int×Bool×PUnit)×PUnit)),()))),()))))
                                          (let r12:=g50 ((r6.1.1,(r6.1.2.1,((r6.1.2.2.1:List (Int×List (Int×Bool×PUnit)×PUnit)),()))),((r11.1.1,(r11.1.2.1,((r11.1.2.2.1:List (Int×List (Int×Bool×PUnit)×PUnit)),()))),()));
                                          Tr.test ((!r12.1:Bool))
                                            (Tr.fin (((false:Bool),())))
                                            (Tr.test (Option.isSome (f54 ((x0,()),(x1,()))))
                                              (let r13:=g54 ((x0,()),(x1,()));
                                              Tr.test ((!eqF r13.1 0:Bool))
                                                (let r5:=g46 (((r1.1.1:List (Int×Int×List (Int×Int×Bool×PUnit)×PUnit)),()),(r4.1,()));
                                                Tr.test ((eqF r5.2.1 r13.1:Bool))
                                                  (Tr.fin (((eqF (↑(List.length r5.1):Int) (0:Int):Bool),())))
                                                  (Tr.fin (((false:Bool),()))))
                                                (let r5:=g46 (((r1.1.1:List (Int×Int×List (Int×Int×Bool×PUnit)×PUnit)),()),(r4.1,()));
                                                Tr.test ((!eqF r5.2.1 0:Bool))
                                                  (Tr.fin (((false:Bool),())))
                                                  (Tr.test (Option.isSome (f56 ((x0,()),(x1,()))))
                                                    (let r14:=g56 ((x0,()),(x1,()));
                                                    Tr.test (Option.isSome (f55 (r5.1,(r14.1,()))))
                                                      (let r15:=g55 (r5.1,(r14.1,()));
                                                      Tr.test ((!r15.1:Bool))
                                                        (Tr.fin (((false:Bool),())))
                                                        (Tr.test (Option.isSome (l7_0 ((x1,(r3.1,(r5.1,((0:Int),())))),())))
                                                          (Tr.test (isRet (l7_0 ((x1,(r3.1,(r5.1,((0:Int),())))),())))
                                                            (let r16:=r7_0 ((x1,(r3.1,(r5.1,((0:Int),())))),());
                                                            Tr.fin ((r16.1.1,())))
                                                            (Tr.fin (((true:Bool),()))))
                                                          (Tr.stop)))
                                                      (Tr.stop))
                                                    (Tr.stop))))
                                              (Tr.stop)))
                                          (Tr.stop))
                                        (Tr.stop))))
                                  (Tr.stop))
                                (Tr.stop))))))
                      (Tr.stop))
                    (Tr.stop))
                  (Tr.stop))
                (Tr.stop))
              (Tr.stop))
            (Tr.stop))
          (Tr.stop))))
    (Tr.stop)

def f7 (d:Tys.data as7):Option (Tys.data rs7):=(t7 d.1.1 d.2.1).val
def g7 (d:Tys.data as7):Tys.data rs7:=(f7 d).getD (Tys.dflt rs7)
def p7:PureC:=pcOf as7 rs7 f7 g7

theorem wk7n0 (x0:(List (Int×(Int×((List (Int×(Int×(Bool×Unit))))×Unit))))) (x1:(List Int)):Walks (runPure (kl7_0 Go.Proofs.Try.prog).orc Go.Proofs.Try.prog 400 7 as7 rs7 ((x0,()),x1,())) (t7 x0 x1) [(bl 2 3,[1,2,2,2,2,4,0,1]),(bl 3 5,[2,4,4,4,4,6,0,1]),(bl 11 2041,[1,2,2,2,2,4,6,16,8,10,16,12,16,14,16,18,20,20,20,20,22,0,1]),(bl 12 3065,[2,4,4,4,4,6,8,18,10,12,18,14,18,16,18,20,22,22,22,22,24,0,1]),(bl 18 259065,[4,2,4,4,4,6,6,6,6,6,6,6,8,8,8,8,10,10,10,10,12,14,16,16,16,16,18,20,30,22,24,30,26,30,28,30,32,34,34,34,34,36,0,1]),(bl 17 62457,[2,2,2,2,4,4,4,4,4,4,4,6,6,6,6,8,8,8,8,10,12,14,14,14,14,16,18,28,20,22,28,24,28,26,28,30,32,32,32,32,34,0,1]),(bl 16 29689,[0,0,0,0,2,2,2,2,2,2,2,4,4,4,4,6,6,6,6,8,10,12,12,12,12,14,16,26,18,20,26,22,26,24,26,28,30,30,30,30,32,0,1]),(bl 15 13305,[0,0,0,0,0,0,0,0,0,0,0,2,2,2,2,4,4,4,4,6,8,10,10,10,10,12,14,24,16,18,24,20,24,22,24,26,28,28,28,28,30,0,1]),(bl 14 5113,[0,0,0,0,0,0,0,0,0,0,0,0,0,0,0,2,2,2,2,4,6,8,8,8,8,10,12,22,14,16,22,18,22,20,22,24,26,26,26,26,28,0,1]),(bl 14 9209,[1,1,1,1,1,1,1,1,1,1,2,2,2,2,2,2,4,6,8,8,8,8,10,12,22,14,16,22,18,22,20,22,24,26,26,26,26,28,0,1]),(bl 17 115705,[1,1,1,1,1,1,1,2,2,2,8,8,4,8,6,8,8,8,10,12,14,14,14,14,16,18,28,20,22,28,24,28,26,28,30,32,32,32,32,34,0,1]),(bl 18 181241,[1,2,2,2,2,2,2,4,4,4,10,10,6,10,8,10,10,10,12,14,16,16,16,16,18,20,30,22,24,30,26,30,28,30,32,34,34,34,34,36,0,1]),(bl 21 1885177,[2,8,8,4,8,6,8,8,8,10,10,10,16,16,12,16,14,16,16,16,18,20,22,22,22,22,24,26,36,28,30,36,32,36,34,36,38,40,40,40,40,42,0,1]),(bl 24 15516665,[2,2,2,2,4,6,8,14,14,10,14,12,14,14,14,16,16,16,22,22,18,22,20,22,22,22,24,26,28,28,28,28,30,32,42,34,36,42,38,42,40,42,44,46,46,46,46,48,0,1]),(bl 24 7128057,[2,2,2,2,4,6,8,14,14,10,14,12,14,14,14,16,16,16,22,22,18,22,20,22,22,22,24,26,28,28,28,28,30,32,42,34,36,42,38,42,40,42,44,46,46,46,46,48,0,1]),(bl 24 11322361,[1,2,2,2,2,2,2,2,4,6,8,14,14,10,14,12,14,14,14,16,16,16,22,22,18,22,20,22,22,22,24,26,28,28,28,28,30,32,42,34,36,42,38,42,40,42,44,46,46,46,46,48,0,1])] :=
  ⟨by kernel_rfl,by kernel_rfl,by kernel_rfl,by kernel_rfl,by kernel_rfl,by kernel_rfl,by kernel_rfl,by kernel_rfl,by kernel_rfl,by kernel_rfl,by kernel_rfl,by kernel_rfl,by kernel_rfl,by kernel_rfl,by kernel_rfl,by kernel_rfl,trivial⟩

theorem wk7n1 (x0:(List (Int×(Int×((List (Int×(Int×(Bool×Unit))))×Unit))))) (x1:(List Int)):Walks (runPure (kl7_0 Go.Proofs.Try.prog).orc Go.Proofs.Try.prog 400 7 as7 rs7 ((x0,()),x1,())) (t7 x0 x1) [(bl 27 120374265,[2,8,8,4,8,6,8,8,8,8,10,12,14,20,20,16,20,18,20,20,20,22,22,22,28,28,24,28,26,28,28,28,30,32,34,34,34,34,36,38,48,40,42,48,44,48,46,48,50,52,52,52,52,54,0,1]),(bl 29 455918585,[2,4,6,12,12,8,12,10,12,12,12,12,14,16,18,24,24,20,24,22,24,24,24,26,26,26,32,32,28,32,30,32,32,32,34,36,38,38,38,38,40,42,52,44,46,52,48,52,50,52,54,56,56,56,56,58,0,1]),(bl 29 187483129,[2,4,6,12,12,8,12,10,12,12,12,12,14,16,18,24,24,20,24,22,24,24,24,26,26,26,32,32,28,32,30,32,32,32,34,36,38,38,38,38,40,42,52,44,46,52,48,52,50,52,54,56,56,56,56,58,0,1])] :=
  ⟨by kernel_rfl,by kernel_rfl,by kernel_rfl,trivial⟩

theorem ok7_t (x0:(List (Int×(Int×((List (Int×(Int×(Bool×Unit))))×Unit))))) (x1:(List Int)):TrOk (PureRuns Go.Proofs.Try.prog (kl7_0 Go.Proofs.Try.prog).orc 7 as7 rs7 ((x0,()),x1,())) (t7 x0 x1) :=
  Walks.ok (fun _ _ _=>PureRuns.of) ((wk7n0 x0 x1).append (wk7n1 x0 x1)) (by kernel_rfl)

theorem ok7:PureOk Go.Proofs.Try.prog 7 p7:=pureOk_of kl7_0_ok.base (T:=fun (d:Tys.data as7)=>t7 d.1.1 d.2.1) (by kernel_rfl) (fun (d:Tys.data as7)=>ok7_t d.1.1 d.2.1)

end Go.Vm.Mo
