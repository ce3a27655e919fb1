import Derived.Test.YtkhlccjbpejpjaaA4
import Derived.KernelRfl
import Derived.Test.YtkhlccjbpejpjaaProg
import Derived.Test.YtkhlccjbpejpjaaRsFb
set_option linter.unusedVariables false
set_option linter.unusedSimpArgs false

namespace Go.Vm.Mo
open Go
set_option linter.unusedVariables false

/-! ductility/ductilitylaw07.images -/

abbrev as69:List Ty:=[(.slice (.slice (.int .i64)))]
abbrev rs69:List Ty:=[.bool]

def t69 (x0:(List (List Int))):Tr (Tys.data rs69) :=
  Tr.test (Option.isSome (l69_0 ((x0,((0:Int),())),())))
    (Tr.test (isRet (l69_0 ((x0,((0:Int),())),())))
      (let r0:=r69_0 ((x0,((0:Int),())),());
      Tr.fin ((r0.1.1,())))
      (let r1:=b69_0 ((x0,((0:Int),())),());
      Tr.fin (((leF (↑(List.length r1.1.1):Int) (12:Int):Bool),()))))
    (Tr.stop)

def f69 (d:Tys.data as69):Option (Tys.data rs69):=(t69 d.1).val
def g69 (d:Tys.data as69):Tys.data rs69:=(f69 d).getD (Tys.dflt rs69)
def p69:PureC:=pcOf as69 rs69 f69 g69

theorem wk69 (x0:(List (List Int))):Walks (runPure (kl69_0 Go.Proofs.Try.prog).orc Go.Proofs.Try.prog 400 69 as69 rs69 (x0,())) (t69 x0) [([true,true],[2,4]),([true,false],[2,4])] :=
  ⟨by kernel_rfl,by kernel_rfl,trivial⟩

theorem ok69_t (x0:(List (List Int))):TrOk (PureRuns Go.Proofs.Try.prog (kl69_0 Go.Proofs.Try.prog).orc 69 as69 rs69 (x0,())) (t69 x0) :=
  Walks.ok (fun _ _ _=>PureRuns.of) (wk69 x0) (by kernel_rfl)

theorem ok69:PureOk Go.Proofs.Try.prog 69 p69:=pureOk_of kl69_0_ok.base (T:=fun (d:Tys.data as69)=>t69 d.1) (by kernel_rfl) (fun (d:Tys.data as69)=>ok69_t d.1)
def kf69 (P:Go.Program):Known:=(kl69_0 P).func 69 p69
theorem kf69_ok:KnownOk Go.Proofs.Try.prog (kf69 Go.Proofs.Try.prog):=kl69_0_ok.func ok69

/-! ductility/ductilitybase.Within -/

abbrev as22:List Ty:=[(.int .i64),(.int .i64),(.int .i64)]
abbrev rs22:List Ty:=[.bool]

def t22 (x0:Int) (x1:Int) (x2:Int):Tr (Tys.data rs22) :=
  Tr.test ((leF x1 x0:Bool))
    (Tr.fin ((leF x0 x2,())))
    (Tr.fin ((false,())))

def f22 (d:Tys.data as22):Option (Tys.data rs22):=(t22 d.1 d.2.1 d.2.2.1).val
def g22 (d:Tys.data as22):Tys.data rs22:=(f22 d).getD (Tys.dflt rs22)
def p22:PureC:=pcOf as22 rs22 f22 g22

theorem wk22 (x0:Int) (x1:Int) (x2:Int):Walks (runPure (kf69 Go.Proofs.Try.prog).orc Go.Proofs.Try.prog 400 22 as22 rs22 (x0,x1,x2,())) (t22 x0 x1 x2) [([tt],[2,2,2,2]),([ff],[2,2,2,2])] :=
  ⟨by kernel_rfl,by kernel_rfl,trivial⟩

theorem ok22_t (x0:Int) (x1:Int) (x2:Int):TrOk (PureRuns Go.Proofs.Try.prog (kf69 Go.Proofs.Try.prog).orc 22 as22 rs22 (x0,x1,x2,())) (t22 x0 x1 x2) :=
  Walks.ok (fun _ _ _=>PureRuns.of) (wk22 x0 x1 x2) (by kernel_rfl)

theorem ok22:PureOk Go.Proofs.Try.prog 22 p22:=pureOk_of kf69_ok.base (T:=fun (d:Tys.data as22)=>t22 d.1 d.2.1 d.2.2.1) (by kernel_rfl) (fun (d:Tys.data as22)=>ok22_t d.1 d.2.1 d.2.2.1)
def kf22 (P:Go.Program):Known:=(kf69 P).func 22 p22
theorem kf22_ok:KnownOk Go.Proofs.Try.prog (kf22 Go.Proofs.Try.prog):=kf69_ok.func ok22

/-! loop 0 of ductility/ductilityref07.ImageErr -/

abbrev sh70_0:Sh:={ n:=78,slots:=[0,3],pats:=[.ty (.slice (.slice (.int .i64))),.ty (.int .i64)],boxes:=[] }
abbrev shb70_0:Sh:={ n:=78,slots:=[0],pats:=[.ty (.slice (.slice (.int .i64)))],boxes:=[] }
abbrev shr70_0:Sh:={ n:=78,slots:=[2],pats:=[.ty (.int .i64)],boxes:=[] }

def t70_0 (x0:(List (List Int))) (x1:Int):Tr (Out sh70_0.data shb70_0.data shr70_0.data) :=
  Tr.test ((!leF (↑(List.length x0):Int) x1:Bool))
    (Tr.test (decide ((0:Int) ≤ x1) && decide (x1 < (↑(List.length x0):Int)))
      (Tr.test ((true && decide ((0:Int) < (↑(List.length x0):Int)):Bool))
        (Tr.test ((!eqF (↑(List.length (List.getD x0 (Int.toNat x1) [])):Int) (↑(List.length (List.getD x0 (0:Nat) [])):Int):Bool))
          (Tr.fin (.ret (((10:Int),()),())))
          (Tr.fin (.again ((x0,((wrap64 (x1 + (1:Int)):Int),())),()))))
        (Tr.stop))
      (Tr.stop))
    (Tr.fin (.brk ((x0,()),())))

def s70_0 (d:sh70_0.data):Option (Out sh70_0.data shb70_0.data shr70_0.data):=(t70_0 d.1.1 d.1.2.1).val
def l70_0 (d:sh70_0.data):Option (shb70_0.data ⊕ shr70_0.data):=itr s70_0 rounds d
def b70_0 (d:sh70_0.data):shb70_0.data:=outB shb70_0.dflt (l70_0 d)
def r70_0 (d:sh70_0.data):shr70_0.data:=outR shr70_0.dflt (l70_0 d)
def lc70_0:LoopC:=lcOf sh70_0 shb70_0 shr70_0 l70_0 b70_0 r70_0

theorem wk70_0 (x0:(List (List Int))) (x1:Int):Walks (runBody (kf22 Go.Proofs.Try.prog).orc Go.Proofs.Try.prog 400 70 0 sh70_0 shb70_0 shr70_0 ((x0,x1,()),())) (t70_0 x0 x1) [([true,true,true,true],[2,4,6,8]),([true,true,true,false],[2,4,6,8]),([ff],[2])] :=
  ⟨by kernel_rfl,by kernel_rfl,by kernel_rfl,trivial⟩

theorem ok70_0_t (x0:(List (List Int))) (x1:Int):TrOk (BodyRuns Go.Proofs.Try.prog (kf22 Go.Proofs.Try.prog).orc 70 0 sh70_0 shb70_0 shr70_0 ((x0,x1,()),())) (t70_0 x0 x1) :=
  Walks.ok (fun _ _ _=>BodyRuns.of) (wk70_0 x0 x1) (by kernel_rfl)

theorem ok70_0:LoopOk Go.Proofs.Try.prog 70 0 lc70_0:=loopOk_of (sh:=sh70_0) (shB:=shb70_0) (shR:=shr70_0) kf22_ok.base (T:=fun (d:sh70_0.data)=>t70_0 d.1.1 d.1.2.1) (by kernel_rfl) rfl (fun (d:sh70_0.data)=>ok70_0_t d.1.1 d.1.2.1) (fun _=>rfl)
def kl70_0 (P:Go.Program):Known:=(kf22 P).loop 70 0 lc70_0
theorem kl70_0_ok:KnownOk Go.Proofs.Try.prog (kl70_0 Go.Proofs.Try.prog):=kf22_ok.loop ok70_0

/-! loop 4 of ductility/ductilityref07.ImageErr -/

abbrev sh70_4:Sh:={ n:=78,slots:=[0,4,5,6],pats:=[.ty (.slice (.slice (.int .i64))),.ty (.int .i64),.ty (.int .i64),.ty (.int .i64)],boxes:=[] }
abbrev shb70_4:Sh:={ n:=78,slots:=[0,4,5],pats:=[.ty (.slice (.slice (.int .i64))),.ty (.int .i64),.ty (.int .i64)],boxes:=[] }
abbrev shr70_4:Sh:={ n:=78,slots:=[2],pats:=[.ty (.int .i64)],boxes:=[] }

def t70_4 (x0:(List (List Int))) (x1:Int) (x2:Int) (x3:Int):Tr (Out sh70_4.data shb70_4.data shr70_4.data) :=
  Tr.test ((decide ((0:Int) ≤ x2) && decide (x2 < (↑(List.length x0):Int)):Bool))
    (Tr.test (!leF (↑(List.length (List.getD x0 (Int.toNat x2) [])):Int) x3)
      (Tr.test ((decide ((0:Int) ≤ x3) && decide (x3 < (↑(List.length (List.getD x0 (Int.toNat x2) [])):Int)):Bool))
        (Tr.test (Option.isSome (f22 ((List.getD (List.getD x0 (Int.toNat x2) []) (Int.toNat x3) (0:Int):Int),((0:Int),((255:Int),())))))
          (let r0:=g22 ((List.getD (List.getD x0 (Int.toNat x2) []) (Int.toNat x3) (0:Int):Int),((0:Int),((255:Int),())));
          Tr.test ((!r0.1:Bool))
            (Tr.fin (.ret (((2:Int),()),())))
            (Tr.fin (.again ((x0,((wrap64 (x1 + List.getD (List.getD x0 (Int.toNat x2) []) (Int.toNat x3) (0:Int)):Int),(x2,((wrap64 (x3 + (1:Int)):Int),())))),()))))
          (Tr.stop))
        (Tr.stop))
      (Tr.fin (.brk ((x0,(x1,(x2,()))),()))))
    (Tr.stop)

def s70_4 (d:sh70_4.data):Option (Out sh70_4.data shb70_4.data shr70_4.data):=(t70_4 d.1.1 d.1.2.1 d.1.2.2.1 d.1.2.2.2.1).val
def l70_4 (d:sh70_4.data):Option (shb70_4.data ⊕ shr70_4.data):=itr s70_4 rounds d
def b70_4 (d:sh70_4.data):shb70_4.data:=outB shb70_4.dflt (l70_4 d)
def r70_4 (d:sh70_4.data):shr70_4.data:=outR shr70_4.dflt (l70_4 d)
def lc70_4:LoopC:=lcOf sh70_4 shb70_4 shr70_4 l70_4 b70_4 r70_4

theorem wk70_4 (x0:(List (List Int))) (x1:Int) (x2:Int) (x3:Int):Walks (runBody (kl70_0 Go.Proofs.Try.prog).orc Go.Proofs.Try.prog 400 70 4 sh70_4 shb70_4 shr70_4 ((x0,x1,x2,x3,()),())) (t70_4 x0 x1 x2 x3) [([true,true,true,true,true],[2,4,6,10,8,10]),([true,true,true,true,false],[6,10,2,4,6,10,8,10]),([true,false],[2,4])] :=
  ⟨by kernel_rfl,by kernel_rfl,by kernel_rfl,trivial⟩

theorem ok70_4_t (x0:(List (List Int))) (x1:Int) (x2:Int) (x3:Int):TrOk (BodyRuns Go.Proofs.Try.prog (kl70_0 Go.Proofs.Try.prog).orc 70 4 sh70_4 shb70_4 shr70_4 ((x0,x1,x2,x3,()),())) (t70_4 x0 x1 x2 x3) :=
  Walks.ok (fun _ _ _=>BodyRuns.of) (wk70_4 x0 x1 x2 x3) (by kernel_rfl)

theorem ok70_4:LoopOk Go.Proofs.Try.prog 70 4 lc70_4:=loopOk_of (sh:=sh70_4) (shB:=shb70_4) (shR:=shr70_4) kl70_0_ok.base (T:=fun (d:sh70_4.data)=>t70_4 d.1.1 d.1.2.1 d.1.2.2.1 d.1.2.2.2.1) (by kernel_rfl) rfl (fun (d:sh70_4.data)=>ok70_4_t d.1.1 d.1.2.1 d.1.2.2.1 d.1.2.2.2.1) (fun _=>rfl)
def kl70_4 (P:Go.Program):Known:=(kl70_0 P).loop 70 4 lc70_4
theorem kl70_4_ok:KnownOk Go.Proofs.Try.prog (kl70_4 Go.Proofs.Try.prog):=kl70_0_ok.loop ok70_4

/-! loop 2 of ductility/ductilityref07.ImageErr -/

abbrev sh70_2:Sh:={ n:=78,slots:=[0,4,5],pats:=[.ty (.slice (.slice (.int .i64))),.ty (.int .i64),.ty (.int .i64)],boxes:=[] }
abbrev shb70_2:Sh:={ n:=78,slots:=[4],pats:=[.ty (.int .i64)],boxes:=[] }
abbrev shr70_2:Sh:={ n:=78,slots:=[2],pats:=[.ty (.int .i64)],boxes:=[] }

def t70_2 (x0:(List (List Int))) (x1:Int) (x2:Int):Tr (Out sh70_2.data shb70_2.data shr70_2.data) :=
  Tr.test ((!leF (↑(List.length x0):Int) x2:Bool))
    (Tr.test (Option.isSome (l70_4 ((x0,(x1,(x2,((0:Int),())))),())))
      (Tr.test (isRet (l70_4 ((x0,(x1,(x2,((0:Int),())))),())))
        (let r0:=r70_4 ((x0,(x1,(x2,((0:Int),())))),());
        Tr.fin (.ret ((r0.1.1,()),())))
        (let r1:=b70_4 ((x0,(x1,(x2,((0:Int),())))),());
        Tr.fin (.again ((r1.1.1,(r1.1.2.1,((wrap64 (r1.1.2.2.1 + (1:Int)):Int),()))),()))))
      (Tr.stop))
    (Tr.fin (.brk ((x1,()),())))

def s70_2 (d:sh70_2.data):Option (Out sh70_2.data shb70_2.data shr70_2.data):=(t70_2 d.1.1 d.1.2.1 d.1.2.2.1).val
def l70_2 (d:sh70_2.data):Option (shb70_2.data ⊕ shr70_2.data):=itr s70_2 rounds d
def b70_2 (d:sh70_2.data):shb70_2.data:=outB shb70_2.dflt (l70_2 d)
def r70_2 (d:sh70_2.data):shr70_2.data:=outR shr70_2.dflt (l70_2 d)
def lc70_2:LoopC:=lcOf sh70_2 shb70_2 shr70_2 l70_2 b70_2 r70_2

theorem wk70_2 (x0:(List (List Int))) (x1:Int) (x2:Int):Walks (runBody (kl70_4 Go.Proofs.Try.prog).orc Go.Proofs.Try.prog 400 70 2 sh70_2 shb70_2 shr70_2 ((x0,x1,x2,()),())) (t70_2 x0 x1 x2) [([true,true,true],[2,4,6]),([true,true,false],[2,4,6]),([ff],[2])] :=
  ⟨by kernel_rfl,by kernel_rfl,by kernel_rfl,trivial⟩

theorem ok70_2_t (x0:(List (List Int))) (x1:Int) (x2:Int):TrOk (BodyRuns Go.Proofs.Try.prog (kl70_4 Go.Proofs.Try.prog).orc 70 2 sh70_2 shb70_2 shr70_2 ((x0,x1,x2,()),())) (t70_2 x0 x1 x2) :=
  Walks.ok (fun _ _ _=>BodyRuns.of) (wk70_2 x0 x1 x2) (by kernel_rfl)

theorem ok70_2:LoopOk Go.Proofs.Try.prog 70 2 lc70_2:=loopOk_of (sh:=sh70_2) (shB:=shb70_2) (shR:=shr70_2) kl70_4_ok.base (T:=fun (d:sh70_2.data)=>t70_2 d.1.1 d.1.2.1 d.1.2.2.1) (by kernel_rfl) rfl (fun (d:sh70_2.data)=>ok70_2_t d.1.1 d.1.2.1 d.1.2.2.1) (fun _=>rfl)
def kl70_2 (P:Go.Program):Known:=(kl70_4 P).loop 70 2 lc70_2
theorem kl70_2_ok:KnownOk Go.Proofs.Try.prog (kl70_2 Go.Proofs.Try.prog):=kl70_4_ok.loop ok70_2

/-! ductility/ductilityref07.ImageErr -/

abbrev as70:List Ty:=[(.slice (.slice (.int .i64)))]
abbrev rs70:List Ty:=[(.int .i64)]

def t70 (x0:(List (List Int))):Tr (Tys.data rs70) :=
  Tr.test ((eqF (↑(List.length x0):Int) (0:Int):Bool))
    (Tr.fin (((10:Int),())))
    (Tr.test (true && decide ((0:Int) < (↑(List.length x0):Int)))
      (Tr.test ((eqF (↑(List.length (List.getD x0 (0:Nat) [])):Int) (0:Int):Bool))
        (Tr.fin (((10:Int),())))
        (Tr.test (Option.isSome (l70_0 ((x0,((0:Int),())),())))
          (Tr.test (isRet (l70_0 ((x0,((0:Int),())),())))
            (let r0:=r70_0 ((x0,((0:Int),())),());
            Tr.fin ((r0.1.1,())))
            (let r1:=b70_0 ((x0,((0:Int),())),());
            Tr.test ((!leF (↑(List.length r1.1.1):Int) (10:Int):Bool))
              (Tr.fin (((8:Int),())))
              (Tr.test ((true && decide ((0:Int) < (↑(List.length r1.1.1):Int)):Bool))
                (Tr.test ((!leF (↑(List.length (List.getD r1.1.1 (0:Nat) [])):Int) (10:Int):Bool))
                  (Tr.fin (((8:Int),())))
                  (Tr.test (Option.isSome (l70_2 ((r1.1.1,((0:Int),((0:Int),()))),())))
                    (Tr.test (isRet (l70_2 ((r1.1.1,((0:Int),((0:Int),()))),())))
                      (let r2:=r70_2 ((r1.1.1,((0:Int),((0:Int),()))),());
                      Tr.fin ((r2.1.1,())))
                      (let r3:=b70_2 ((r1.1.1,((0:Int),((0:Int),()))),());
                      Tr.test ((eqF r3.1.1 0:Bool))
                        (Tr.fin (((11:Int),())))
                        (Tr.fin (((0:Int),())))))
                    (Tr.stop)))
                (Tr.stop))))
          (Tr.stop)))
      (Tr.stop))

def f70 (d:Tys.data as70):Option (Tys.data rs70):=(t70 d.1).val
def g70 (d:Tys.data as70):Tys.data rs70:=(f70 d).getD (Tys.dflt rs70)
def p70:PureC:=pcOf as70 rs70 f70 g70

theorem wk70 (x0:(List (List Int))):Walks (runPure (kl70_2 Go.Proofs.Try.prog).orc Go.Proofs.Try.prog 400 70 as70 rs70 (x0,())) (t70 x0) [([tt],[1,2,2,2,2,2,2]),([false,true,true],[2,6,6,6,6,4,6,6]),([false,true,false,true,true],[2,4,6,10,10,10,10,8,10,10]),([false,true,false,true,false,true],[1,2,2,2,2,2,2,4,6,8,12,12,12,12,10,12,12]),([false,true,false,true,false,false,true,true],[2,6,6,6,6,4,6,6,8,10,12,16,16,16,16,14,16,16]),([false,true,false,true,false,false,true,false,true,true],[2,4,6,10,10,10,10,8,10,10,12,14,16,20,20,20,20,18,20,20]),([false,true,false,true,false,false,true,false,true,false,true],[2,4,6,8,12,12,12,12,10,12,12,14,16,18,22,22,22,22,20,22,22]),([false,true,false,true,false,false,true,false,true,false,false],[2,4,6,8,12,12,12,12,10,12,12,14,16,18,22,22,22,22,20,22,22])] :=
  ⟨by kernel_rfl,by kernel_rfl,by kernel_rfl,by kernel_rfl,by kernel_rfl,by kernel_rfl,by kernel_rfl,by kernel_rfl,trivial⟩

theorem ok70_t (x0:(List (List Int))):TrOk (PureRuns Go.Proofs.Try.prog (kl70_2 Go.Proofs.Try.prog).orc 70 as70 rs70 (x0,())) (t70 x0) :=
  Walks.ok (fun _ _ _=>PureRuns.of) (wk70 x0) (by kernel_rfl)

theorem ok70:PureOk Go.Proofs.Try.prog 70 p70:=pureOk_of kl70_2_ok.base (T:=fun (d:Tys.data as70)=>t70 d.1) (by kernel_rfl) (fun (d:Tys.data as70)=>ok70_t d.1)
def kf70 (P:Go.Program):Known:=(kl70_2 P).func 70 p70
theorem kf70_ok:KnownOk Go.Proofs.Try.prog (kf70 Go.Proofs.Try.prog):=kl70_2_ok.func ok70

/-! ductility/ductilitybase.CopyInts -/

abbrev as14:List Ty:=[(.slice (.int .i64))]
abbrev rs14:List Ty:=[(.slice (.int .i64))]

def t14 (x0:(List Int)):Tr (Tys.data rs14) :=
  Tr.test ((Nat.beq (List.length x0) (0:Nat):Bool))
    (Tr.fin ((([]:List Int),())))
    (Tr.test (Nat.ble ((0:Nat) + List.length x0) (0:Nat))
      (Tr.stop)
      (Tr.test ((Nat.ble (((2:Nat) * ((0:Nat) + List.length x0) + (192:Nat)) * (8:Nat)) (281474976710656:Nat) && Nat.ble ((0:Nat) + List.length x0) (281474976710656:Nat):Bool))
        (Tr.test ((Nat.beq ((0:Nat) + List.length x0) (List.length ([]++x0)):Bool))
          (Tr.fin ((([]++x0:List Int),())))
          (Tr.stop))
        (Tr.stop)))

def f14 (d:Tys.data as14):Option (Tys.data rs14):=(t14 d.1).val
def g14 (d:Tys.data as14):Tys.data rs14:=(f14 d).getD (Tys.dflt rs14)
def p14:PureC:=pcOf as14 rs14 f14 g14

theorem wk14 (x0:(List Int)):Walks (runPure (kf70 Go.Proofs.Try.prog).orc Go.Proofs.Try.prog 400 14 as14 rs14 (x0,())) (t14 x0) [([tt],[2]),([false,false,true,true],[2,4,6,8])] :=
  ⟨by kernel_rfl,by kernel_rfl,trivial⟩

theorem ok14_t (x0:(List Int)):TrOk (PureRuns Go.Proofs.Try.prog (kf70 Go.Proofs.Try.prog).orc 14 as14 rs14 (x0,())) (t14 x0) :=
  Walks.ok (fun _ _ _=>PureRuns.of) (wk14 x0) (by kernel_rfl)

theorem ok14:PureOk Go.Proofs.Try.prog 14 p14:=pureOk_of kf70_ok.base (T:=fun (d:Tys.data as14)=>t14 d.1) (by kernel_rfl) (fun (d:Tys.data as14)=>ok14_t d.1)
def kf14 (P:Go.Program):Known:=(kf70 P).func 14 p14
theorem kf14_ok:KnownOk Go.Proofs.Try.prog (kf14 Go.Proofs.Try.prog):=kf70_ok.func ok14

/-! loop 0 of ductility/ductilitybase.CopyLists -/

abbrev sh46_0:Sh:={ n:=20,slots:=[0,3,4],pats:=[.ty (.slice (.slice (.int .i64))),.acc (.slice (.int .i64)),.ty (.int .i64)],boxes:=[] }
abbrev shb46_0:Sh:={ n:=20,slots:=[3],pats:=[.acc (.slice (.int .i64))],boxes:=[] }
abbrev shr46_0:Sh:={ n:=20,slots:=[],pats:=[],boxes:=[] }

def t46_0 (x0:(List (List Int))) (x1:(List (List Int))) (x2:Int):Tr (Out sh46_0.data shb46_0.data shr46_0.data) :=
  Tr.test ((!leF (↑(List.length x0):Int) x2:Bool))
    (Tr.test (decide ((0:Int) ≤ x2) && decide (x2 < (↑(List.length x0):Int)))
      (Tr.test (Option.isSome (f14 ((List.getD x0 (Int.toNat x2) []:List Int),())))
        (Tr.test ((Nat.ble (((2:Nat) * (List.length x1 + (1:Nat)) + (192:Nat)) * (24:Nat)) (281474976710656:Nat) && Nat.ble (List.length x1 + (1:Nat)) (281474976710656:Nat):Bool))
          (let r0:=g14 ((List.getD x0 (Int.toNat x2) []:List Int),());
          Tr.fin (.again ((x0,((x1++[r0.1]:List (List Int)),((wrap64 (x2 + (1:Int)):Int),()))),())))
          (Tr.stop))
        (Tr.stop))
      (Tr.stop))
    (Tr.fin (.brk ((x1,()),())))

def s46_0 (d:sh46_0.data):Option (Out sh46_0.data shb46_0.data shr46_0.data):=(t46_0 d.1.1 d.1.2.1 d.1.2.2.1).val
def l46_0 (d:sh46_0.data):Option (shb46_0.data ⊕ shr46_0.data):=itr s46_0 rounds d
def b46_0 (d:sh46_0.data):shb46_0.data:=outB shb46_0.dflt (l46_0 d)
def lc46_0:LoopC:=lcB sh46_0 shb46_0 shr46_0 l46_0 b46_0

theorem wk46_0 (x0:(List (List Int))) (x1:(List (List Int))) (x2:Int):Walks (runBody (kf14 Go.Proofs.Try.prog).orc Go.Proofs.Try.prog 400 46 0 sh46_0 shb46_0 shr46_0 ((x0,x1,x2,()),())) (t46_0 x0 x1 x2) [([true,true,true,true],[1,2,0,4,6,8]),([ff],[2])] :=
  ⟨by kernel_rfl,by kernel_rfl,trivial⟩

theorem ok46_0_t (x0:(List (List Int))) (x1:(List (List Int))) (x2:Int):TrOk (BodyRuns Go.Proofs.Try.prog (kf14 Go.Proofs.Try.prog).orc 46 0 sh46_0 shb46_0 shr46_0 ((x0,x1,x2,()),())) (t46_0 x0 x1 x2) :=
  Walks.ok (fun _ _ _=>BodyRuns.of) (wk46_0 x0 x1 x2) (by kernel_rfl)

theorem ok46_0:LoopOk Go.Proofs.Try.prog 46 0 lc46_0:=loopOk_ofB (sh:=sh46_0) (shB:=shb46_0) (shR:=shr46_0) kf14_ok.base (T:=fun (d:sh46_0.data)=>t46_0 d.1.1 d.1.2.1 d.1.2.2.1) (by kernel_rfl) rfl (fun (d:sh46_0.data)=>ok46_0_t d.1.1 d.1.2.1 d.1.2.2.1) (fun _=>rfl)
def kl46_0 (P:Go.Program):Known:=(kf14 P).loop 46 0 lc46_0
theorem kl46_0_ok:KnownOk Go.Proofs.Try.prog (kl46_0 Go.Proofs.Try.prog):=kf14_ok.loop ok46_0

/-! ductility/ductilitybase.CopyLists -/

abbrev as46:List Ty:=[(.slice (.slice (.int .i64)))]
abbrev rs46:List Ty:=[(.slice (.slice (.int .i64)))]

def t46 (x0:(List (List Int))):Tr (Tys.data rs46) :=
  Tr.test (isBrk (l46_0 ((x0,(([]:List (List Int)),((0:Int),()))),())))
    (let r0:=b46_0 ((x0,(([]:List (List Int)),((0:Int),()))),());
    Tr.fin ((r0.1.1,())))
    (Tr.stop)

def f46 (d:Tys.data as46):Option (Tys.data rs46):=(t46 d.1).val
def g46 (d:Tys.data as46):Tys.data rs46:=(f46 d).getD (Tys.dflt rs46)
def p46:PureC:=pcOf as46 rs46 f46 g46

theorem wk46 (x0:(List (List Int))):Walks (runPure (kl46_0 Go.Proofs.Try.prog).orc Go.Proofs.Try.prog 400 46 as46 rs46 (x0,())) (t46 x0) [([tt],[1,2])] :=
  ⟨by kernel_rfl,trivial⟩

theorem ok46_t (x0:(List (List Int))):TrOk (PureRuns Go.Proofs.Try.prog (kl46_0 Go.Proofs.Try.prog).orc 46 as46 rs46 (x0,())) (t46 x0) :=
  Walks.ok (fun _ _ _=>PureRuns.of) (wk46 x0) (by kernel_rfl)

theorem ok46:PureOk Go.Proofs.Try.prog 46 p46:=pureOk_of kl46_0_ok.base (T:=fun (d:Tys.data as46)=>t46 d.1) (by kernel_rfl) (fun (d:Tys.data as46)=>ok46_t d.1)
def kf46 (P:Go.Program):Known:=(kl46_0 P).func 46 p46
theorem kf46_ok:KnownOk Go.Proofs.Try.prog (kf46 Go.Proofs.Try.prog):=kl46_0_ok.func ok46

/-! ductility/sensor.minus -/

abbrev as120:List Ty:=[(.pair (.int .i64) (.pair (.int .i64) .unit)),(.pair (.int .i64) (.pair (.int .i64) .unit))]
abbrev rs120:List Ty:=[(.pair (.int .i64) (.pair (.int .i64) .unit))]

def t120 (x0:Int) (x0':Int) (x1:Int) (x1':Int):Tr (Tys.data rs120) :=
  Tr.test (Option.isSome (f141 ((wrap64 (wrap64 (x0 * x1') - wrap64 (x1 * x0')):Int),((wrap64 (x0' * x1'):Int),()))))
    (let r0:=g141 ((wrap64 (wrap64 (x0 * x1') - wrap64 (x1 * x0')):Int),((wrap64 (x0' * x1'):Int),()));
    Tr.fin (((r0.1.1,(r0.1.2.1,())),())))
    (Tr.stop)

def f120 (d:Tys.data as120):Option (Tys.data rs120):=(t120 d.1.1 d.1.2.1 d.2.1.1 d.2.1.2.1).val
def g120 (d:Tys.data as120):Tys.data rs120:=(f120 d).getD (Tys.dflt rs120)
def p120:PureC:=pcOf as120 rs120 f120 g120

theorem wk120 (x0:Int) (x0':Int) (x1:Int) (x1':Int):Walks (runPure (kf46 Go.Proofs.Try.prog).orc Go.Proofs.Try.prog 400 120 as120 rs120 ((x0,x0',()),(x1,x1',()),())) (t120 x0 x0' x1 x1') [([tt],[2])] :=
  ⟨by kernel_rfl,trivial⟩

theorem ok120_t (x0:Int) (x0':Int) (x1:Int) (x1':Int):TrOk (PureRuns Go.Proofs.Try.prog (kf46 Go.Proofs.Try.prog).orc 120 as120 rs120 ((x0,x0',()),(x1,x1',()),())) (t120 x0 x0' x1 x1') :=
  Walks.ok (fun _ _ _=>PureRuns.of) (wk120 x0 x0' x1 x1') (by kernel_rfl)

theorem ok120:PureOk Go.Proofs.Try.prog 120 p120:=pureOk_of kf46_ok.base (T:=fun (d:Tys.data as120)=>t120 d.1.1 d.1.2.1 d.2.1.1 d.2.1.2.1) (by kernel_rfl) (fun (d:Tys.data as120)=>ok120_t d.1.1 d.1.2.1 d.2.1.1 d.2.1.2.1)
def kf120 (P:Go.Program):Known:=(kf46 P).func 120 p120
theorem kf120_ok:KnownOk Go.Proofs.Try.prog (kf120 Go.Proofs.Try.prog):=kf46_ok.func ok120

/-! ductility/sensor.MovedBy -/

abbrev as72:List Ty:=[(.slice (.slice (.int .i64))),(.slice (.slice (.int .i64)))]
abbrev rs72:List Ty:=[(.pair (.pair (.int .i64) (.pair (.int .i64) .unit)) (.pair (.pair (.int .i64) (.pair (.int .i64) .unit)) .unit)),(.int .i64)]

def t72 (x0:(List (List Int))) (x1:(List (List Int))):Tr (Tys.data rs72) :=
  Tr.test (Option.isSome (f118 (x0,())))
    (Tr.test (Option.isSome (f118 (x1,())))
      (let r0:=g118 (x0,());
      let r1:=g118 (x1,());
      Tr.test (Option.isSome (f88 (([r0.1,r1.1]:List Int),())))
        (let r2:=g88 (([r0.1,r1.1]:List Int),());
        Tr.test ((!eqF r2.1 0:Bool))
          (Tr.fin (((((0:Int),((0:Int),())),(((0:Int),((0:Int),())),())),(r2.1,()))))
          (Tr.test ((!eqF (↑(List.length x0):Int) (↑(List.length x1):Int):Bool))
            (Tr.fin (((((0:Int),((0:Int),())),(((0:Int),((0:Int),())),())),((13:Int),()))))
            (Tr.test ((true && decide ((0:Int) < (↑(List.length x0):Int)):Bool))
              (Tr.test ((true && decide ((0:Int) < (↑(List.length x1):Int)):Bool))
                (Tr.test ((!eqF (↑(List.length (List.getD x0 (0:Nat) [])):Int) (↑(List.length (List.getD x1 (0:Nat) [])):Int):Bool))
                  (Tr.fin (((((0:Int),((0:Int),())),(((0:Int),((0:Int),())),())),((13:Int),()))))
                  (Tr.test (Option.isSome (f119 (x0,())))
                    (Tr.test (Option.isSome (f119 (x1,())))
                      (let r3:=g119 (x0,());
                      let r4:=g119 (x1,());
                      Tr.test (Option.isSome (f120 ((r4.1.1.1,(r4.1.1.2.1,())),((r3.1.1.1,(r3.1.1.2.1,())),()))))
                        (Tr.test (Option.isSome (f120 ((r4.1.2.1.1,(r4.1.2.1.2.1,())),((r3.1.2.1.1,(r3.1.2.1.2.1,())),()))))
                          (let r5:=g120 ((r4.1.1.1,(r4.1.1.2.1,())),((r3.1.1.1,(r3.1.1.2.1,())),()));
                          let r6:=g120 ((r4.1.2.1.1,(r4.1.2.1.2.1,())),((r3.1.2.1.1,(r3.1.2.1.2.1,())),()));
                          Tr.fin ((((r5.1.1,(r5.1.2.1,())),((r6.1.1,(r6.1.2.1,())),())),((0:Int),()))))
                          (Tr.stop))
                        (Tr.stop))
                      (Tr.stop))
                    (Tr.stop)))
                (Tr.stop))
              (Tr.stop))))
        (Tr.stop))
      (Tr.stop))
    (Tr.stop)

def f72 (d:Tys.data as72):Option (Tys.data rs72):=(t72 d.1 d.2.1).val
def g72 (d:Tys.data as72):Tys.data rs72:=(f72 d).getD (Tys.dflt rs72)
def p72:PureC:=pcOf as72 rs72 f72 g72

theorem wk72 (x0:(List (List Int))) (x1:(List (List Int))):Walks (runPure (kf120 Go.Proofs.Try.prog).orc Go.Proofs.Try.prog 400 72 as72 rs72 (x0,x1,())) (t72 x0 x1) [([true,true,true,true],[2,4,1,6,8]),([true,true,true,false,true],[1,2,2,2,2,2,2,2,2,2,2,4,6,1,8,10]),([true,true,true,false,false,true,true,true],[2,8,8,8,8,4,8,8,8,8,6,8,8,10,12,1,14,16]),([true,true,true,false,false,true,true,false,true,true,true,true],[2,4,6,8,10,16,16,16,16,12,16,16,16,16,14,16,16,18,20,1,22,24])] :=
  ⟨by kernel_rfl,by kernel_rfl,by kernel_rfl,by kernel_rfl,trivial⟩

theorem ok72_t (x0:(List (List Int))) (x1:(List (List Int))):TrOk (PureRuns Go.Proofs.Try.prog (kf120 Go.Proofs.Try.prog).orc 72 as72 rs72 (x0,x1,())) (t72 x0 x1) :=
  Walks.ok (fun _ _ _=>PureRuns.of) (wk72 x0 x1) (by kernel_rfl)

theorem ok72:PureOk Go.Proofs.Try.prog 72 p72:=pureOk_of kf120_ok.base (T:=fun (d:Tys.data as72)=>t72 d.1 d.2.1) (by kernel_rfl) (fun (d:Tys.data as72)=>ok72_t d.1 d.2.1)
def kf72 (P:Go.Program):Known:=(kf120 P).func 72 p72
theorem kf72_ok:KnownOk Go.Proofs.Try.prog (kf72 Go.Proofs.Try.prog):=kf120_ok.func ok72

/-! ductility/ductilitybase.Whole -/

abbrev as74:List Ty:=[(.int .i64)]
abbrev rs74:List Ty:=[(.pair (.int .i64) (.pair (.int .i64) .unit))]

def t74 (x0:Int):Tr (Tys.data rs74) :=
  Tr.fin (((x0,((1:Int),())),()))

def f74 (d:Tys.data as74):Option (Tys.data rs74):=(t74 d.1).val
def g74 (d:Tys.data as74):Tys.data rs74:=(f74 d).getD (Tys.dflt rs74)
def p74:PureC:=pcOf as74 rs74 f74 g74

theorem wk74 (x0:Int):Walks (runPure (kf72 Go.Proofs.Try.prog).orc Go.Proofs.Try.prog 400 74 as74 rs74 (x0,())) (t74 x0) [([],[])] :=
  ⟨by kernel_rfl,trivial⟩

theorem ok74_t (x0:Int):TrOk (PureRuns Go.Proofs.Try.prog (kf72 Go.Proofs.Try.prog).orc 74 as74 rs74 (x0,())) (t74 x0) :=
  Walks.ok (fun _ _ _=>PureRuns.of) (wk74 x0) (by kernel_rfl)

theorem ok74:PureOk Go.Proofs.Try.prog 74 p74:=pureOk_of kf72_ok.base (T:=fun (d:Tys.data as74)=>t74 d.1) (by kernel_rfl) (fun (d:Tys.data as74)=>ok74_t d.1)
def kf74 (P:Go.Program):Known:=(kf72 P).func 74 p74
theorem kf74_ok:KnownOk Go.Proofs.Try.prog (kf74 Go.Proofs.Try.prog):=kf72_ok.func ok74

/-! ductility/ductilitybase.Cmp -/

abbrev as73:List Ty:=[(.pair (.int .i64) (.pair (.int .i64) .unit)),(.pair (.int .i64) (.pair (.int .i64) .unit))]
abbrev rs73:List Ty:=[(.int .i64)]

def t73 (x0:Int) (x0':Int) (x1:Int) (x1':Int):Tr (Tys.data rs73) :=
  Tr.test ((!leF (wrap64 (x1 * x0')) (wrap64 (x0 * x1')):Bool))
    (Tr.fin (((-1:Int),())))
    (Tr.test (!leF (wrap64 (x0 * x1')) (wrap64 (x1 * x0')))
      (Tr.fin (((1:Int),())))
      (Tr.fin (((0:Int),()))))

def f73 (d:Tys.data as73):Option (Tys.data rs73):=(t73 d.1.1 d.1.2.1 d.2.1.1 d.2.1.2.1).val
def g73 (d:Tys.data as73):Tys.data rs73:=(f73 d).getD (Tys.dflt rs73)
def p73:PureC:=pcOf as73 rs73 f73 g73

theorem wk73 (x0:Int) (x0':Int) (x1:Int) (x1':Int):Walks (runPure (kf74 Go.Proofs.Try.prog).orc Go.Proofs.Try.prog 400 73 as73 rs73 ((x0,x0',()),(x1,x1',()),())) (t73 x0 x0' x1 x1') [([tt],[2]),([false,true],[2,4]),([false,false],[2,4])] :=
  ⟨by kernel_rfl,by kernel_rfl,by kernel_rfl,trivial⟩

theorem ok73_t (x0:Int) (x0':Int) (x1:Int) (x1':Int):TrOk (PureRuns Go.Proofs.Try.prog (kf74 Go.Proofs.Try.prog).orc 73 as73 rs73 ((x0,x0',()),(x1,x1',()),())) (t73 x0 x0' x1 x1') :=
  Walks.ok (fun _ _ _=>PureRuns.of) (wk73 x0 x0' x1 x1') (by kernel_rfl)

theorem ok73:PureOk Go.Proofs.Try.prog 73 p73:=pureOk_of kf74_ok.base (T:=fun (d:Tys.data as73)=>t73 d.1.1 d.1.2.1 d.2.1.1 d.2.1.2.1) (by kernel_rfl) (fun (d:Tys.data as73)=>ok73_t d.1.1 d.1.2.1 d.2.1.1 d.2.1.2.1)
def kf73 (P:Go.Program):Known:=(kf74 P).func 73 p73
theorem kf73_ok:KnownOk Go.Proofs.Try.prog (kf73 Go.Proofs.Try.prog):=kf74_ok.func ok73

/-! ductility/ductilityref07.MovedErr -/

abbrev as75:List Ty:=[(.slice (.slice (.int .i64))),(.slice (.slice (.int .i64)))]
abbrev rs75:List Ty:=[(.int .i64)]

def t75 (x0:(List (List Int))) (x1:(List (List Int))):Tr (Tys.data rs75) :=
  Tr.test (Option.isSome (f70 (x0,())))
    (let r0:=g70 (x0,());
    Tr.test ((!eqF r0.1 0:Bool))
      (Tr.fin ((r0.1,())))
      (Tr.test (Option.isSome (f70 (x1,())))
        (let r1:=g70 (x1,());
        Tr.test ((!eqF r1.1 0:Bool))
          (Tr.fin ((r1.1,())))
          (Tr.test ((!eqF (↑(List.length x0):Int) (↑(List.length x1):Int):Bool))
            (Tr.fin (((13:Int),())))
            (Tr.test ((true && decide ((0:Int) < (↑(List.length x0):Int)):Bool))
              (Tr.test ((true && decide ((0:Int) < (↑(List.length x1):Int)):Bool))
                (Tr.test ((!eqF (↑(List.length (List.getD x0 (0:Nat) [])):Int) (↑(List.length (List.getD x1 (0:Nat) [])):Int):Bool))
                  (Tr.fin (((13:Int),())))
                  (Tr.fin (((0:Int),()))))
                (Tr.stop))
              (Tr.stop))))
        (Tr.stop)))
    (Tr.stop)

def f75 (d:Tys.data as75):Option (Tys.data rs75):=(t75 d.1 d.2.1).val
def g75 (d:Tys.data as75):Tys.data rs75:=(f75 d).getD (Tys.dflt rs75)
def p75:PureC:=pcOf as75 rs75 f75 g75

theorem wk75 (x0:(List (List Int))) (x1:(List (List Int))):Walks (runPure (kf73 Go.Proofs.Try.prog).orc Go.Proofs.Try.prog 400 75 as75 rs75 (x0,x1,())) (t75 x0 x1) [([true,true],[2,4]),([true,false,true,true],[2,4,6,8]),([true,false,true,false,true],[1,2,2,2,2,2,2,2,2,2,2,4,6,8,10]),([true,false,true,false,false,true,true,true],[2,8,8,8,8,4,8,8,8,8,6,8,8,10,12,14,16]),([true,false,true,false,false,true,true,false],[2,8,8,8,8,4,8,8,8,8,6,8,8,10,12,14,16])] :=
  ⟨by kernel_rfl,by kernel_rfl,by kernel_rfl,by kernel_rfl,by kernel_rfl,trivial⟩

theorem ok75_t (x0:(List (List Int))) (x1:(List (List Int))):TrOk (PureRuns Go.Proofs.Try.prog (kf73 Go.Proofs.Try.prog).orc 75 as75 rs75 (x0,x1,())) (t75 x0 x1) :=
  Walks.ok (fun _ _ _=>PureRuns.of) (wk75 x0 x1) (by kernel_rfl)

theorem ok75:PureOk Go.Proofs.Try.prog 75 p75:=pureOk_of kf73_ok.base (T:=fun (d:Tys.data as75)=>t75 d.1 d.2.1) (by kernel_rfl) (fun (d:Tys.data as75)=>ok75_t d.1 d.2.1)
def kf75 (P:Go.Program):Known:=(kf73 P).func 75 p75
theorem kf75_ok:KnownOk Go.Proofs.Try.prog (kf75 Go.Proofs.Try.prog):=kf73_ok.func ok75

/-! loop 2 of ductility/ductilitylaw07.SensorCenters -/

abbrev sh10_2:Sh:={ n:=307,slots:=[0,1,2,7,8,9,10,11,12],pats:=[.ty (.slice (.slice (.int .i64))),.ty (.slice (.slice (.int .i64))),.ty .bool,.nil,.nil,.ty (.int .i64),.sli 0 1,.sli 1 1,.ty (.int .i64)],boxes:=[.arr (.int .i64),.arr (.int .i64)] }
abbrev shb10_2:Sh:={ n:=307,slots:=[0,1,2,7,8,9,10,11],pats:=[.ty (.slice (.slice (.int .i64))),.ty (.slice (.slice (.int .i64))),.ty .bool,.nil,.nil,.ty (.int .i64),.sli 0 1,.sli 1 1],boxes:=[.arr (.int .i64),.arr (.int .i64)] }
abbrev shr10_2:Sh:={ n:=307,slots:=[],pats:=[],boxes:=[.arr (.int .i64),.arr (.int .i64)] }

def t10_2 (x0:(List (List Int))) (x1:(List (List Int))) (x2:Bool) (x5:Int) (x6n:Nat) (x6c:Nat) (x7n:Nat) (x7c:Nat) (x8:Int) (b0:(List Int)) (b1:(List Int)):Tr (Out sh10_2.data shb10_2.data shr10_2.data) :=
  Tr.test ((true && decide ((0:Int) < (↑(List.length x0):Int)):Bool))
    (Tr.test (!leF (↑(List.length (List.getD x0 (0:Nat) [])):Int) x8)
      (Tr.test ((!leF (↑(List.length x0):Int) x5:Bool))
        (Tr.test ((decide ((0:Int) ≤ x5) && decide (x5 < (↑(List.length x0):Int)):Bool))
          (Tr.test ((decide ((0:Int) ≤ x8) && decide (x8 < (↑(List.length (List.getD x0 (Int.toNat x5) [])):Int)):Bool))
            (Tr.test ((decide ((0:Int) ≤ x8) && decide (x8 < (↑x6n:Int)):Bool))
              (Tr.test ((Nat.ble ((0:Nat) + Int.toNat x8 + (1:Nat)) (List.length b0):Bool))
                (Tr.test (x2)
                  (Tr.test ((!leF x5 0:Bool))
                    (Tr.test ((decide ((0:Int) ≤ wrap64 (x5 - (1:Int))) && decide (wrap64 (x5 - (1:Int)) < (↑(List.length x0):Int)):Bool))
                      (Tr.test ((decide ((0:Int) ≤ x8) && decide (x8 < (↑(List.length (List.getD x0 (Int.toNat (wrap64 (x5 - (1:Int)))) [])):Int)):Bool))
                        (Tr.test ((decide ((0:Int) ≤ x8) && decide (x8 < (↑x7n:Int)):Bool))
                          (Tr.test ((Nat.ble ((0:Nat) + Int.toNat x8 + (1:Nat)) (List.length b1):Bool))
                            (Tr.fin (.again ((x0,(x1,(x2,(x5,((x6n,x6c),((x7n,x7c),((wrap64 (x8 + (1:Int)):Int),()))))))),((List.set b0 ((0:Nat) + Int.toNat x8) (List.getD (List.getD x0 (Int.toNat x5) []) (Int.toNat x8) (0:Int)):List Int),((List.set b1 ((0:Nat) + Int.toNat x8) (List.getD (List.getD x0 (Int.toNat (wrap64 (x5 - (1:Int)))) []) (Int.toNat x8) (0:Int)):List Int),())))))
                            (Tr.stop))
                          (Tr.stop))
                        (Tr.stop))
                      (Tr.stop))
                    (Tr.fin (.again ((x0,(x1,(x2,(x5,((x6n,x6c),((x7n,x7c),((wrap64 (x8 + (1:Int)):Int),()))))))),((List.set b0 ((0:Nat) + Int.toNat x8) (List.getD (List.getD x0 (Int.toNat x5) []) (Int.toNat x8) (0:Int)):List Int),(b1,()))))))
                  (Tr.test ((decide ((0:Int) ≤ wrap64 (x8 + (1:Int))) && decide (wrap64 (x8 + (1:Int)) < (↑x7n:Int)):Bool))
                    (Tr.test ((Nat.ble ((0:Nat) + Int.toNat (wrap64 (x8 + (1:Int))) + (1:Nat)) (List.length b1):Bool))
                      (Tr.fin (.again ((x0,(x1,(x2,(x5,((x6n,x6c),((x7n,x7c),((wrap64 (x8 + (1:Int)):Int),()))))))),((List.set b0 ((0:Nat) + Int.toNat x8) (List.getD (List.getD x0 (Int.toNat x5) []) (Int.toNat x8) (0:Int)):List Int),((List.set b1 ((0:Nat) + Int.toNat (wrap64 (x8 + (1:Int)))) (List.getD (List.getD x0 (Int.toNat x5) []) (Int.toNat x8) (0:Int)):List Int),())))))
                      (Tr.stop))
                    (Tr.stop)))
                (Tr.stop))
              (Tr.stop))
            (Tr.stop))
          (Tr.stop))
        (Tr.test (x2)
          (Tr.test ((!leF x5 0:Bool))
            (Tr.test ((decide ((0:Int) ≤ wrap64 (x5 - (1:Int))) && decide (wrap64 (x5 - (1:Int)) < (↑(List.length x0):Int)):Bool))
              (Tr.test ((decide ((0:Int) ≤ x8) && decide (x8 < (↑(List.length (List.getD x0 (Int.toNat (wrap64 (x5 - (1:Int)))) [])):Int)):Bool))
                (Tr.test ((decide ((0:Int) ≤ x8) && decide (x8 < (↑x7n:Int)):Bool))
                  (Tr.test ((Nat.ble ((0:Nat) + Int.toNat x8 + (1:Nat)) (List.length b1):Bool))
                    (Tr.fin (.again ((x0,(x1,(x2,(x5,((x6n,x6c),((x7n,x7c),((wrap64 (x8 + (1:Int)):Int),()))))))),(b0,((List.set b1 ((0:Nat) + Int.toNat x8) (List.getD (List.getD x0 (Int.toNat (wrap64 (x5 - (1:Int)))) []) (Int.toNat x8) (0:Int)):List Int),())))))
                    (Tr.stop))
                  (Tr.stop))
                (Tr.stop))
              (Tr.stop))
            (Tr.fin (.again ((x0,(x1,(x2,(x5,((x6n,x6c),((x7n,x7c),((wrap64 (x8 + (1:Int)):Int),()))))))),(b0,(b1,()))))))
          (Tr.fin (.again ((x0,(x1,(x2,(x5,((x6n,x6c),((x7n,x7c),((wrap64 (x8 + (1:Int)):Int),()))))))),(b0,(b1,())))))))
      (Tr.fin (.brk ((x0,(x1,(x2,(x5,((x6n,x6c),((x7n,x7c),())))))),(b0,(b1,()))))))
    (Tr.stop)

def s10_2 (d:sh10_2.data):Option (Out sh10_2.data shb10_2.data shr10_2.data):=(t10_2 d.1.1 d.1.2.1 d.1.2.2.1 d.1.2.2.2.1 d.1.2.2.2.2.1.1 d.1.2.2.2.2.1.2 d.1.2.2.2.2.2.1.1 d.1.2.2.2.2.2.1.2 d.1.2.2.2.2.2.2.1 d.2.1 d.2.2.1).val
def l10_2 (d:sh10_2.data):Option (shb10_2.data ⊕ shr10_2.data):=itr s10_2 rounds d
def b10_2 (d:sh10_2.data):shb10_2.data:=outB shb10_2.dflt (l10_2 d)
def lc10_2:LoopC:=lcB sh10_2 shb10_2 shr10_2 l10_2 b10_2

theorem wk10_2 (x0:(List (List Int))) (x1:(List (List Int))) (x2:Bool) (x5:Int) (x6n:Nat) (x6c:Nat) (x7n:Nat) (x7c:Nat) (x8:Int) (b0:(List Int)) (b1:(List Int)):Walks (runBody (kf75 Go.Proofs.Try.prog).orc Go.Proofs.Try.prog 400 10 2 sh10_2 shb10_2 shr10_2 ((x0,x1,x2,x5,(x6n,x6c),(x7n,x7c),x8,()),b0,b1,())) (t10_2 x0 x1 x2 x5 x6n x6c x7n x7c x8 b0 b1) [([true,true,true,true,true,true,true,true,true,true,true,true,true],[0,13,13,13,13,13,2,4,6,8,10,12,12,12,14,16,18,20,22,24,26]),([true,true,true,true,true,true,true,true,false],[0,5,5,5,5,5,2,4,4,4,6,8,10,12,14,16,18]),([true,true,true,true,true,true,true,false,true,true],[2,4,12,14,16,7,7,7,7,7,0,6,6,6,8,10,12,14,16,18,20]),([true,true,false,true,true,true,true,true,true],[0,13,13,13,13,13,2,4,6,8,10,12,12,12,14,16,18]),([true,true,false,true,false],[0,5,5,5,5,5,2,4,4,4,6,8,10]),([true,true,false,false],[4,3,3,3,3,3,0,2,2,2,4,6,8]),([true,false],[2,4])] :=
  ⟨by kernel_rfl,by kernel_rfl,by kernel_rfl,by kernel_rfl,by kernel_rfl,by kernel_rfl,by kernel_rfl,trivial⟩

theorem ok10_2_t (x0:(List (List Int))) (x1:(List (List Int))) (x2:Bool) (x5:Int) (x6n:Nat) (x6c:Nat) (x7n:Nat) (x7c:Nat) (x8:Int) (b0:(List Int)) (b1:(List Int)):TrOk (BodyRuns Go.Proofs.Try.prog (kf75 Go.Proofs.Try.prog).orc 10 2 sh10_2 shb10_2 shr10_2 ((x0,x1,x2,x5,(x6n,x6c),(x7n,x7c),x8,()),b0,b1,())) (t10_2 x0 x1 x2 x5 x6n x6c x7n x7c x8 b0 b1) :=
  Walks.ok (fun _ _ _=>BodyRuns.of) (wk10_2 x0 x1 x2 x5 x6n x6c x7n x7c x8 b0 b1) (by kernel_rfl)

theorem ok10_2:LoopOk Go.Proofs.Try.prog 10 2 lc10_2:=loopOk_ofB (sh:=sh10_2) (shB:=shb10_2) (shR:=shr10_2) kf75_ok.base (T:=fun (d:sh10_2.data)=>t10_2 d.1.1 d.1.2.1 d.1.2.2.1 d.1.2.2.2.1 d.1.2.2.2.2.1.1 d.1.2.2.2.2.1.2 d.1.2.2.2.2.2.1.1 d.1.2.2.2.2.2.1.2 d.1.2.2.2.2.2.2.1 d.2.1 d.2.2.1) (by kernel_rfl) rfl (fun (d:sh10_2.data)=>ok10_2_t d.1.1 d.1.2.1 d.1.2.2.1 d.1.2.2.2.1 d.1.2.2.2.2.1.1 d.1.2.2.2.2.1.2 d.1.2.2.2.2.2.1.1 d.1.2.2.2.2.2.1.2 d.1.2.2.2.2.2.2.1 d.2.1 d.2.2.1) (fun _=>rfl)
def kl10_2 (P:Go.Program):Known:=(kf75 P).loop 10 2 lc10_2
theorem kl10_2_ok:KnownOk Go.Proofs.Try.prog (kl10_2 Go.Proofs.Try.prog):=kf75_ok.loop ok10_2

/-! loop 2 of ductility/ductilitylaw07.SensorCenters -/

abbrev sh10_2_1:Sh:={ n:=307,slots:=[0,1,2,7,8,9,10,11,12],pats:=[.ty (.slice (.slice (.int .i64))),.ty (.slice (.slice (.int .i64))),.ty .bool,.acc (.slice (.int .i64)),.acc (.slice (.int .i64)),.ty (.int .i64),.sli 0 1,.sli 1 1,.ty (.int .i64)],boxes:=[.arr (.int .i64),.arr (.int .i64)] }
abbrev shb10_2_1:Sh:={ n:=307,slots:=[0,1,2,7,8,9,10,11],pats:=[.ty (.slice (.slice (.int .i64))),.ty (.slice (.slice (.int .i64))),.ty .bool,.acc (.slice (.int .i64)),.acc (.slice (.int .i64)),.ty (.int .i64),.sli 0 1,.sli 1 1],boxes:=[.arr (.int .i64),.arr (.int .i64)] }
abbrev shr10_2_1:Sh:={ n:=307,slots:=[],pats:=[],boxes:=[.arr (.int .i64),.arr (.int .i64)] }

def t10_2_1 (x0:(List (List Int))) (x1:(List (List Int))) (x2:Bool) (x3:(List (List Int))) (x4:(List (List Int))) (x5:Int) (x6n:Nat) (x6c:Nat) (x7n:Nat) (x7c:Nat) (x8:Int) (b0:(List Int)) (b1:(List Int)):Tr (Out sh10_2_1.data shb10_2_1.data shr10_2_1.data) :=
  Tr.test ((true && decide ((0:Int) < (↑(List.length x0):Int)):Bool))
    (Tr.test (!leF (↑(List.length (List.getD x0 (0:Nat) [])):Int) x8)
      (Tr.test ((!leF (↑(List.length x0):Int) x5:Bool))
        (Tr.test ((decide ((0:Int) ≤ x5) && decide (x5 < (↑(List.length x0):Int)):Bool))
          (Tr.test ((decide ((0:Int) ≤ x8) && decide (x8 < (↑(List.length (List.getD x0 (Int.toNat x5) [])):Int)):Bool))
            (Tr.test ((decide ((0:Int) ≤ x8) && decide (x8 < (↑x6n:Int)):Bool))
              (Tr.test ((Nat.ble ((0:Nat) + Int.toNat x8 + (1:Nat)) (List.length b0):Bool))
                (Tr.test (x2)
                  (Tr.test ((!leF x5 0:Bool))
                    (Tr.test ((decide ((0:Int) ≤ wrap64 (x5 - (1:Int))) && decide (wrap64 (x5 - (1:Int)) < (↑(List.length x0):Int)):Bool))
                      (Tr.test ((decide ((0:Int) ≤ x8) && decide (x8 < (↑(List.length (List.getD x0 (Int.toNat (wrap64 (x5 - (1:Int)))) [])):Int)):Bool))
                        (Tr.test ((decide ((0:Int) ≤ x8) && decide (x8 < (↑x7n:Int)):Bool))
                          (Tr.test ((Nat.ble ((0:Nat) + Int.toNat x8 + (1:Nat)) (List.length b1):Bool))
                            (Tr.fin (.again ((x0,(x1,(x2,(x3,(x4,(x5,((x6n,x6c),((x7n,x7c),((wrap64 (x8 + (1:Int)):Int),()))))))))),((List.set b0 ((0:Nat) + Int.toNat x8) (List.getD (List.getD x0 (Int.toNat x5) []) (Int.toNat x8) (0:Int)):List Int),((List.set b1 ((0:Nat) + Int.toNat x8) (List.getD (List.getD x0 (Int.toNat (wrap64 (x5 - (1:Int)))) []) (Int.toNat x8) (0:Int)):List Int),())))))
                            (Tr.stop))
                          (Tr.stop))
                        (Tr.stop))
                      (Tr.stop))
                    (Tr.fin (.again ((x0,(x1,(x2,(x3,(x4,(x5,((x6n,x6c),((x7n,x7c),((wrap64 (x8 + (1:Int)):Int),()))))))))),((List.set b0 ((0:Nat) + Int.toNat x8) (List.getD (List.getD x0 (Int.toNat x5) []) (Int.toNat x8) (0:Int)):List Int),(b1,()))))))
                  (Tr.test ((decide ((0:Int) ≤ wrap64 (x8 + (1:Int))) && decide (wrap64 (x8 + (1:Int)) < (↑x7n:Int)):Bool))
                    (Tr.test ((Nat.ble ((0:Nat) + Int.toNat (wrap64 (x8 + (1:Int))) + (1:Nat)) (List.length b1):Bool))
                      (Tr.fin (.again ((x0,(x1,(x2,(x3,(x4,(x5,((x6n,x6c),((x7n,x7c),((wrap64 (x8 + (1:Int)):Int),()))))))))),((List.set b0 ((0:Nat) + Int.toNat x8) (List.getD (List.getD x0 (Int.toNat x5) []) (Int.toNat x8) (0:Int)):List Int),((List.set b1 ((0:Nat) + Int.toNat (wrap64 (x8 + (1:Int)))) (List.getD (List.getD x0 (Int.toNat x5) []) (Int.toNat x8) (0:Int)):List Int),())))))
                      (Tr.stop))
                    (Tr.stop)))
                (Tr.stop))
              (Tr.stop))
            (Tr.stop))
          (Tr.stop))
        (Tr.test (x2)
          (Tr.test ((!leF x5 0:Bool))
            (Tr.test ((decide ((0:Int) ≤ wrap64 (x5 - (1:Int))) && decide (wrap64 (x5 - (1:Int)) < (↑(List.length x0):Int)):Bool))
              (Tr.test ((decide ((0:Int) ≤ x8) && decide (x8 < (↑(List.length (List.getD x0 (Int.toNat (wrap64 (x5 - (1:Int)))) [])):Int)):Bool))
                (Tr.test ((decide ((0:Int) ≤ x8) && decide (x8 < (↑x7n:Int)):Bool))
                  (Tr.test ((Nat.ble ((0:Nat) + Int.toNat x8 + (1:Nat)) (List.length b1):Bool))
                    (Tr.fin (.again ((x0,(x1,(x2,(x3,(x4,(x5,((x6n,x6c),((x7n,x7c),((wrap64 (x8 + (1:Int)):Int),()))))))))),(b0,((List.set b1 ((0:Nat) + Int.toNat x8) (List.getD (List.getD x0 (Int.toNat (wrap64 (x5 - (1:Int)))) []) (Int.toNat x8) (0:Int)):List Int),())))))
                    (Tr.stop))
                  (Tr.stop))
                (Tr.stop))
              (Tr.stop))
            (Tr.fin (.again ((x0,(x1,(x2,(x3,(x4,(x5,((x6n,x6c),((x7n,x7c),((wrap64 (x8 + (1:Int)):Int),()))))))))),(b0,(b1,()))))))
          (Tr.fin (.again ((x0,(x1,(x2,(x3,(x4,(x5,((x6n,x6c),((x7n,x7c),((wrap64 (x8 + (1:Int)):Int),()))))))))),(b0,(b1,())))))))
      (Tr.fin (.brk ((x0,(x1,(x2,(x3,(x4,(x5,((x6n,x6c),((x7n,x7c),())))))))),(b0,(b1,()))))))
    (Tr.stop)

def s10_2_1 (d:sh10_2_1.data):Option (Out sh10_2_1.data shb10_2_1.data shr10_2_1.data):=(t10_2_1 d.1.1 d.1.2.1 d.1.2.2.1 d.1.2.2.2.1 d.1.2.2.2.2.1 d.1.2.2.2.2.2.1 d.1.2.2.2.2.2.2.1.1 d.1.2.2.2.2.2.2.1.2 d.1.2.2.2.2.2.2.2.1.1 d.1.2.2.2.2.2.2.2.1.2 d.1.2.2.2.2.2.2.2.2.1 d.2.1 d.2.2.1).val
def l10_2_1 (d:sh10_2_1.data):Option (shb10_2_1.data ⊕ shr10_2_1.data):=itr s10_2_1 rounds d
def b10_2_1 (d:sh10_2_1.data):shb10_2_1.data:=outB shb10_2_1.dflt (l10_2_1 d)
def lc10_2_1:LoopC:=lcB sh10_2_1 shb10_2_1 shr10_2_1 l10_2_1 b10_2_1

theorem wk10_2_1 (x0:(List (List Int))) (x1:(List (List Int))) (x2:Bool) (x3:(List (List Int))) (x4:(List (List Int))) (x5:Int) (x6n:Nat) (x6c:Nat) (x7n:Nat) (x7c:Nat) (x8:Int) (b0:(List Int)) (b1:(List Int)):Walks (runBody (kl10_2 Go.Proofs.Try.prog).orc Go.Proofs.Try.prog 400 10 2 sh10_2_1 shb10_2_1 shr10_2_1 ((x0,x1,x2,x3,x4,x5,(x6n,x6c),(x7n,x7c),x8,()),b0,b1,())) (t10_2_1 x0 x1 x2 x3 x4 x5 x6n x6c x7n x7c x8 b0 b1) [([true,true,true,true,true,true,true,true,true,true,true,true,true],[0,13,13,13,13,13,2,4,6,8,10,12,12,12,14,16,18,20,22,24,26]),([true,true,true,true,true,true,true,true,false],[0,5,5,5,5,5,2,4,4,4,6,8,10,12,14,16,18]),([true,true,true,true,true,true,true,false,true,true],[2,4,12,14,16,7,7,7,7,7,0,6,6,6,8,10,12,14,16,18,20]),([true,true,false,true,true,true,true,true,true],[0,13,13,13,13,13,2,4,6,8,10,12,12,12,14,16,18]),([true,true,false,true,false],[0,5,5,5,5,5,2,4,4,4,6,8,10]),([true,true,false,false],[4,3,3,3,3,3,0,2,2,2,4,6,8]),([true,false],[2,4])] :=
  ⟨by kernel_rfl,by kernel_rfl,by kernel_rfl,by kernel_rfl,by kernel_rfl,by kernel_rfl,by kernel_rfl,trivial⟩

theorem ok10_2_1_t (x0:(List (List Int))) (x1:(List (List Int))) (x2:Bool) (x3:(List (List Int))) (x4:(List (List Int))) (x5:Int) (x6n:Nat) (x6c:Nat) (x7n:Nat) (x7c:Nat) (x8:Int) (b0:(List Int)) (b1:(List Int)):TrOk (BodyRuns Go.Proofs.Try.prog (kl10_2 Go.Proofs.Try.prog).orc 10 2 sh10_2_1 shb10_2_1 shr10_2_1 ((x0,x1,x2,x3,x4,x5,(x6n,x6c),(x7n,x7c),x8,()),b0,b1,())) (t10_2_1 x0 x1 x2 x3 x4 x5 x6n x6c x7n x7c x8 b0 b1) :=
  Walks.ok (fun _ _ _=>BodyRuns.of) (wk10_2_1 x0 x1 x2 x3 x4 x5 x6n x6c x7n x7c x8 b0 b1) (by kernel_rfl)

theorem ok10_2_1:LoopOk Go.Proofs.Try.prog 10 2 lc10_2_1:=loopOk_ofB (sh:=sh10_2_1) (shB:=shb10_2_1) (shR:=shr10_2_1) kl10_2_ok.base (T:=fun (d:sh10_2_1.data)=>t10_2_1 d.1.1 d.1.2.1 d.1.2.2.1 d.1.2.2.2.1 d.1.2.2.2.2.1 d.1.2.2.2.2.2.1 d.1.2.2.2.2.2.2.1.1 d.1.2.2.2.2.2.2.1.2 d.1.2.2.2.2.2.2.2.1.1 d.1.2.2.2.2.2.2.2.1.2 d.1.2.2.2.2.2.2.2.2.1 d.2.1 d.2.2.1) (by kernel_rfl) rfl (fun (d:sh10_2_1.data)=>ok10_2_1_t d.1.1 d.1.2.1 d.1.2.2.1 d.1.2.2.2.1 d.1.2.2.2.2.1 d.1.2.2.2.2.2.1 d.1.2.2.2.2.2.2.1.1 d.1.2.2.2.2.2.2.1.2 d.1.2.2.2.2.2.2.2.1.1 d.1.2.2.2.2.2.2.2.1.2 d.1.2.2.2.2.2.2.2.2.1 d.2.1 d.2.2.1) (fun _=>rfl)
def kl10_2_1 (P:Go.Program):Known:=(kl10_2 P).loop 10 2 lc10_2_1
theorem kl10_2_1_ok:KnownOk Go.Proofs.Try.prog (kl10_2_1 Go.Proofs.Try.prog):=kl10_2_ok.loop ok10_2_1

/-! loop 0 of ductility/ductilitylaw07.SensorCenters -/

abbrev sh10_0:Sh:={ n:=307,slots:=[0,1,2,7,8,9],pats:=[.ty (.slice (.slice (.int .i64))),.ty (.slice (.slice (.int .i64))),.ty .bool,.acc (.slice (.int .i64)),.acc (.slice (.int .i64)),.ty (.int .i64)],boxes:=[] }
abbrev shb10_0:Sh:={ n:=307,slots:=[0,1,2,7,8],pats:=[.ty (.slice (.slice (.int .i64))),.ty (.slice (.slice (.int .i64))),.ty .bool,.acc (.slice (.int .i64)),.acc (.slice (.int .i64))],boxes:=[] }
abbrev shr10_0:Sh:={ n:=307,slots:=[],pats:=[],boxes:=[] }

def t10_0 (x0:(List (List Int))) (x1:(List (List Int))) (x2:Bool) (x3:(List (List Int))) (x4:(List (List Int))) (x5:Int):Tr (Out sh10_0.data shb10_0.data shr10_0.data) :=
  Tr.test ((leF x5 (↑(List.length x0):Int):Bool))
    (Tr.test (true && decide ((0:Int) < (↑(List.length x0):Int)))
      (Tr.test ((decide ((0:Int) ≤ wrap64 ((↑(List.length (List.getD x0 (0:Nat) [])):Int) + (1:Int))) && decide (wrap64 ((↑(List.length (List.getD x0 (0:Nat) [])):Int) + (1:Int)) ≤ wrap64 ((↑(List.length (List.getD x0 (0:Nat) [])):Int) + (1:Int))) && decide ((8:Int) * wrap64 ((↑(List.length (List.getD x0 (0:Nat) [])):Int) + (1:Int)) ≤ (281474976710656:Int)) && decide (wrap64 ((↑(List.length (List.getD x0 (0:Nat) [])):Int) + (1:Int)) ≤ (281474976710656:Int)):Bool))
        (Tr.test (isBrk (l10_2_1 ((x0,(x1,(x2,(x3,(x4,(x5,(((Int.toNat (wrap64 ((↑(List.length (List.getD x0 (0:Nat) [])):Int) + (1:Int))):Nat),(Int.toNat (wrap64 ((↑(List.length (List.getD x0 (0:Nat) [])):Int) + (1:Int))):Nat)),(((Int.toNat (wrap64 ((↑(List.length (List.getD x0 (0:Nat) [])):Int) + (1:Int))):Nat),(Int.toNat (wrap64 ((↑(List.length (List.getD x0 (0:Nat) [])):Int) + (1:Int))):Nat)),((0:Int),()))))))))),((List.replicate (Int.toNat (wrap64 ((↑(List.length (List.getD x0 (0:Nat) [])):Int) + (1:Int)))) (0:Int):List Int),((List.replicate (Int.toNat (wrap64 ((↑(List.length (List.getD x0 (0:Nat) [])):Int) + (1:Int)))) (0:Int):List Int),())))))
          (let r0:=b10_2_1 ((x0,(x1,(x2,(x3,(x4,(x5,(((Int.toNat (wrap64 ((↑(List.length (List.getD x0 (0:Nat) [])):Int) + (1:Int))):Nat),(Int.toNat (wrap64 ((↑(List.length (List.getD x0 (0:Nat) [])):Int) + (1:Int))):Nat)),(((Int.toNat (wrap64 ((↑(List.length (List.getD x0 (0:Nat) [])):Int) + (1:Int))):Nat),(Int.toNat (wrap64 ((↑(List.length (List.getD x0 (0:Nat) [])):Int) + (1:Int))):Nat)),((0:Int),()))))))))),((List.replicate (Int.toNat (wrap64 ((↑(List.length (List.getD x0 (0:Nat) [])):Int) + (1:Int)))) (0:Int):List Int),((List.replicate (Int.toNat (wrap64 ((↑(List.length (List.getD x0 (0:Nat) [])):Int) + (1:Int)))) (0:Int):List Int),())));
          Tr.test ((Nat.beq r0.1.2.2.2.2.2.2.1.1 (List.length r0.2.1):Bool))
            (Tr.test ((Nat.ble (((2:Nat) * (List.length r0.1.2.2.2.1 + (1:Nat)) + (192:Nat)) * (24:Nat)) (281474976710656:Nat) && Nat.ble (List.length r0.1.2.2.2.1 + (1:Nat)) (281474976710656:Nat):Bool))
              (Tr.test ((Nat.beq r0.1.2.2.2.2.2.2.2.1.1 (List.length r0.2.2.1):Bool))
                (Tr.test ((Nat.ble (((2:Nat) * (List.length r0.1.2.2.2.2.1 + (1:Nat)) + (192:Nat)) * (24:Nat)) (281474976710656:Nat) && Nat.ble (List.length r0.1.2.2.2.2.1 + (1:Nat)) (281474976710656:Nat):Bool))
                  (Tr.fin (.again ((r0.1.1,(r0.1.2.1,(r0.1.2.2.1,((r0.1.2.2.2.1++[r0.2.1]:List (List Int)),((r0.1.2.2.2.2.1++[r0.2.2.1]:List (List Int)),((wrap64 (r0.1.2.2.2.2.2.1 + (1:Int)):Int),())))))),())))
                  (Tr.stop))
                (Tr.test ((Nat.ble r0.1.2.2.2.2.2.2.2.1.1 (List.length r0.2.2.1):Bool))
                  (Tr.test ((Nat.ble (((2:Nat) * (List.length r0.1.2.2.2.2.1 + (1:Nat)) + (192:Nat)) * (24:Nat)) (281474976710656:Nat) && Nat.ble (List.length r0.1.2.2.2.2.1 + (1:Nat)) (281474976710656:Nat):Bool))
                    (Tr.fin (.again ((r0.1.1,(r0.1.2.1,(r0.1.2.2.1,((r0.1.2.2.2.1++[r0.2.1]:List (List Int)),((r0.1.2.2.2.2.1++[List.take r0.1.2.2.2.2.2.2.2.1.1 r0.2.2.1]:List (List Int)),((wrap64 (r0.1.2.2.2.2.2.1 + (1:Int)):Int),())))))),())))
                    (Tr.stop))
                  (Tr.stop)))
              (Tr.stop))
            (Tr.test ((Nat.ble r0.1.2.2.2.2.2.2.1.1 (List.length r0.2.1):Bool))
              (Tr.test ((Nat.ble (((2:Nat) * (List.length r0.1.2.2.2.1 + (1:Nat)) + (192:Nat)) * (24:Nat)) (281474976710656:Nat) && Nat.ble (List.length r0.1.2.2.2.1 + (1:Nat)) (281474976710656:Nat):Bool))
                (Tr.test ((Nat.beq r0.1.2.2.2.2.2.2.2.1.1 (List.length r0.2.2.1):Bool))
                  (Tr.test ((Nat.ble (((2:Nat) * (List.length r0.1.2.2.2.2.1 + (1:Nat)) + (192:Nat)) * (24:Nat)) (281474976710656:Nat) && Nat.ble (List.length r0.1.2.2.2.2.1 + (1:Nat)) (281474976710656:Nat):Bool))
                    (Tr.fin (.again ((r0.1.1,(r0.1.2.1,(r0.1.2.2.1,((r0.1.2.2.2.1++[List.take r0.1.2.2.2.2.2.2.1.1 r0.2.1]:List (List Int)),((r0.1.2.2.2.2.1++[r0.2.2.1]:List (List Int)),((wrap64 (r0.1.2.2.2.2.2.1 + (1:Int)):Int),())))))),())))
                    (Tr.stop))
                  (Tr.test ((Nat.ble r0.1.2.2.2.2.2.2.2.1.1 (List.length r0.2.2.1):Bool))
                    (Tr.test ((Nat.ble (((2:Nat) * (List.length r0.1.2.2.2.2.1 + (1:Nat)) + (192:Nat)) * (24:Nat)) (281474976710656:Nat) && Nat.ble (List.length r0.1.2.2.2.2.1 + (1:Nat)) (281474976710656:Nat):Bool))
                      (Tr.fin (.again ((r0.1.1,(r0.1.2.1,(r0.1.2.2.1,((r0.1.2.2.2.1++[List.take r0.1.2.2.2.2.2.2.1.1 r0.2.1]:List (List Int)),((r0.1.2.2.2.2.1++[List.take r0.1.2.2.2.2.2.2.2.1.1 r0.2.2.1]:List (List Int)),((wrap64 (r0.1.2.2.2.2.2.1 + (1:Int)):Int),())))))),())))
                      (Tr.stop))
                    (Tr.stop)))
                (Tr.stop))
              (Tr.stop)))
          (Tr.stop))
        (Tr.stop))
      (Tr.stop))
    (Tr.fin (.brk ((x0,(x1,(x2,(x3,(x4,()))))),())))

def s10_0 (d:sh10_0.data):Option (Out sh10_0.data shb10_0.data shr10_0.data):=(t10_0 d.1.1 d.1.2.1 d.1.2.2.1 d.1.2.2.2.1 d.1.2.2.2.2.1 d.1.2.2.2.2.2.1).val
def l10_0 (d:sh10_0.data):Option (shb10_0.data ⊕ shr10_0.data):=itr s10_0 rounds d
def b10_0 (d:sh10_0.data):shb10_0.data:=outB shb10_0.dflt (l10_0 d)
def lc10_0:LoopC:=lcB sh10_0 shb10_0 shr10_0 l10_0 b10_0

theorem wk10_0 (x0:(List (List Int))) (x1:(List (List Int))) (x2:Bool) (x3:(List (List Int))) (x4:(List (List Int))) (x5:Int):Walks (runBody (kl10_2_1 Go.Proofs.Try.prog).orc Go.Proofs.Try.prog 400 10 0 sh10_0 shb10_0 shr10_0 ((x0,x1,x2,x3,x4,x5,()),())) (t10_0 x0 x1 x2 x3 x4 x5) [([true,true,true,true,true,true,true,true],[2,4,1,0,6,8,1,0,1,10,12,14,12,14,16]),([true,true,true,true,true,true,false,true,true],[2,4,6,1,0,8,10,1,0,1,12,14,16,14,16,18]),([true,true,true,true,false,true,true,true,true],[2,4,1,0,6,8,10,1,0,1,12,14,16,14,16,18]),([true,true,true,true,false,true,true,false,true,true],[2,4,6,1,0,8,10,12,1,0,1,14,16,18,16,18,20]),([ff],[2])] :=
  ⟨by kernel_rfl,by kernel_rfl,by kernel_rfl,by kernel_rfl,by kernel_rfl,trivial⟩

theorem ok10_0_t (x0:(List (List Int))) (x1:(List (List Int))) (x2:Bool) (x3:(List (List Int))) (x4:(List (List Int))) (x5:Int):TrOk (BodyRuns Go.Proofs.Try.prog (kl10_2_1 Go.Proofs.Try.prog).orc 10 0 sh10_0 shb10_0 shr10_0 ((x0,x1,x2,x3,x4,x5,()),())) (t10_0 x0 x1 x2 x3 x4 x5) :=
  Walks.ok (fun _ _ _=>BodyRuns.of) (wk10_0 x0 x1 x2 x3 x4 x5) (by kernel_rfl)

theorem ok10_0:LoopOk Go.Proofs.Try.prog 10 0 lc10_0:=loopOk_ofB (sh:=sh10_0) (shB:=shb10_0) (shR:=shr10_0) kl10_2_1_ok.base (T:=fun (d:sh10_0.data)=>t10_0 d.1.1 d.1.2.1 d.1.2.2.1 d.1.2.2.2.1 d.1.2.2.2.2.1 d.1.2.2.2.2.2.1) (by kernel_rfl) rfl (fun (d:sh10_0.data)=>ok10_0_t d.1.1 d.1.2.1 d.1.2.2.1 d.1.2.2.2.1 d.1.2.2.2.2.1 d.1.2.2.2.2.2.1) (fun _=>rfl)
def kl10_0 (P:Go.Program):Known:=(kl10_2_1 P).loop 10 0 lc10_0
theorem kl10_0_ok:KnownOk Go.Proofs.Try.prog (kl10_0 Go.Proofs.Try.prog):=kl10_2_1_ok.loop ok10_0

/-! ductility/ductilitylaw07.SensorCenters -/

abbrev as10:List Ty:=[(.slice (.slice (.int .i64))),(.slice (.slice (.int .i64))),.bool]
abbrev rs10:List Ty:=[.bool]

def t10 (x0:(List (List Int))) (x1:(List (List Int))) (x2:Bool):Tr (Tys.data rs10) :=
  Tr.test (Option.isSome (f69 (x0,())))
    (let r0:=g69 (x0,());
    Tr.test ((!r0.1:Bool))
      (Tr.fin (((true:Bool),())))
      (Tr.test (Option.isSome (f69 (x1,())))
        (let r1:=g69 (x1,());
        Tr.test ((!r1.1:Bool))
          (Tr.fin (((true:Bool),())))
          (Tr.test (Option.isSome (f70 (x0,())))
            (let r2:=g70 (x0,());
            Tr.test ((!eqF r2.1 0:Bool))
              (Tr.fin (((true:Bool),())))
              (Tr.test ((!leF (↑(List.length x0):Int) (9:Int):Bool))
                (Tr.fin (((true:Bool),())))
                (Tr.test ((true && decide ((0:Int) < (↑(List.length x0):Int)):Bool))
                  (Tr.test ((!leF (↑(List.length (List.getD x0 (0:Nat) [])):Int) (9:Int):Bool))
                    (Tr.fin (((true:Bool),())))
                    (Tr.test (isBrk (l10_0 ((x0,(x1,(x2,(([]:List (List Int)),(([]:List (List Int)),((0:Int),())))))),())))
                      (let r3:=b10_0 ((x0,(x1,(x2,(([]:List (List Int)),(([]:List (List Int)),((0:Int),())))))),());
                      Tr.test (Option.isSome (f46 (r3.1.2.2.2.1,())))
                        (let r4:=g46 (r3.1.2.2.2.1,());
                        Tr.test (Option.isSome (f71 (r4.1,())))
                          (Tr.test (Option.isSome (f46 (r3.1.2.2.2.2.1,())))
                            (let r6:=g46 (r3.1.2.2.2.2.1,());
                            Tr.test (Option.isSome (f72 (r4.1,(r6.1,()))))
                              (Tr.test (Option.isSome (f72 (r4.1,(r4.1,()))))
                                (let r5:=g71 (r4.1,());
                                Tr.test ((!eqF r5.2.1 0:Bool))
                                  (Tr.fin (((false:Bool),())))
                                  (let r7:=g72 (r4.1,(r6.1,()));
                                  Tr.test ((!eqF r7.2.1 0:Bool))
                                    (Tr.fin (((false:Bool),())))
                                    (let r8:=g72 (r4.1,(r4.1,()));
                                    Tr.test ((!eqF r8.2.1 0:Bool))
                                      (Tr.fin (((false:Bool),())))
                                      (Tr.test ((leF r5.1.1.2.1 0:Bool))
                                        (Tr.fin (((false:Bool),())))
                                        (Tr.test ((leF r5.1.2.1.2.1 0:Bool))
                                          (Tr.fin (((false:Bool),())))
                                          (Tr.test (Option.isSome (f74 ((0:Int),())))
                                            (let r9:=g74 ((0:Int),());
                                            Tr.test (Option.isSome (f73 ((r5.1.1.1,(r5.1.1.2.1,())),((r9.1.1,(r9.1.2.1,())),()))))
                                              (let r10:=g73 ((r5.1.1.1,(r5.1.1.2.1,())),((r9.1.1,(r9.1.2.1,())),()));
                                              Tr.test ((!leF (0:Int) r10.1:Bool))
                                                (Tr.fin (((false:Bool),())))
                                                (Tr.test (Option.isSome (f73 ((r5.1.2.1.1,(r5.1.2.1.2.1,())),((r9.1.1,(r9.1.2.1,())),()))))
                                                  (let r11:=g73 ((r5.1.2.1.1,(r5.1.2.1.2.1,())),((r9.1.1,(r9.1.2.1,())),()));
                                                  Tr.test ((!leF (0:Int) r11.1:Bool))
                                                    (Tr.fin (((false:Bool),())))
                                                    (Tr.test ((true && decide ((0:Int) < (↑(List.length r3.1.1):Int)):Bool))
                                                      (Tr.test (Option.isSome (f74 ((wrap64 ((↑(List.length (List.getD r3.1.1 (0:Nat) [])):Int) - (1:Int)):Int),())))
                                                        (let r12:=g74 ((wrap64 ((↑(List.length (List.getD r3.1.1 (0:Nat) [])):Int) - (1:Int)):Int),());
                                                        Tr.test (Option.isSome (f73 ((r5.1.1.1,(r5.1.1.2.1,())),((r12.1.1,(r12.1.2.1,())),()))))
                                                          (let r13:=g73 ((r5.1.1.1,(r5.1.1.2.1,())),((r12.1.1,(r12.1.2.1,())),()));
                                                          Tr.test ((!leF r13.1 0:Bool))
                                                            (Tr.fin (((false:Bool),())))
                                                            (Tr.test (Option.isSome (f74 ((wrap64 ((↑(List.length r3.1.1):Int) - (1:Int)):Int),())))
                                                              (let r14:=g74 ((wrap64 ((↑(List.length r3.1.1):Int) - (1:Int)):Int),());
                                                              Tr.test (Option.isSome (f73 ((r5.1.2.1.1,(r5.1.2.1.2.1,())),((r14.1.1,(r14.1.2.1,())),()))))
                                                                (let r15:=g73 ((r5.1.2.1.1,(r5.1.2.1.2.1,())),((r14.1.1,(r14.1.2.1,())),()));
                                                                Tr.test ((!leF r15.1 0:Bool))
                                                                  (Tr.fin (((false:Bool),())))
                                                                  (Tr.test (Option.isSome (f74 ((1:Int),())))
                                                                    (Tr.test ((!(r8.1.1.1 == r9.1.1 && (r8.1.1.2.1 == r9.1.2.1 && true) && (r8.1.2.1.1 == r9.1.1 && (r8.1.2.1.2.1 == r9.1.2.1 && true) && true)):Bool))
                                                                      (Tr.fin (((false:Bool),())))
                                                                      (Tr.test (r3.1.2.2.1)
                                                                        (let r16:=g74 ((1:Int),());
                                                                        Tr.test ((!(r7.1.1.1 == r9.1.1 && (r7.1.1.2.1 == r9.1.2.1 && true) && (r7.1.2.1.1 == r16.1.1 && (r7.1.2.1.2.1 == r16.1.2.1 && true) && true)):Bool))
                                                                          (Tr.fin (((false:Bool),())))
                                                                          (Tr.test (Option.isSome (f75 (r3.1.1,(r3.1.2.1,()))))
                                                                            (let r17:=g75 (r3.1.1,(r3.1.2.1,()));
                                                                            Tr.test ((!eqF r17.1 0:Bool))
                                                                              (Tr.fin (((true:Bool),())))
                                                                              (Tr.test (Option.isSome (f46 (r3.1.1,())))
                                                                                (Tr.test (Option.isSome (f46 (r3.1.2.1,())))
                                                                                  (let r18:=g46 (r3.1.1,());
                                                                                  let r19:=g46 (r3.1.2.1,());
                                                                                  Tr.test (Option.isSome (f72 (r18.1,(r19.1,()))))
                                                                                    (Tr.test (Option.isSome (f72 (r19.1,(r18.1,()))))
                                                                                      (let r20:=g72 (r18.1,(r19.1,()));
                                                                                      Tr.test ((eqF r20.2.1 0:Bool))
                                                                                        (let r21:=g72 (r19.1,(r18.1,()));
                                                                                        Tr.test ((eqF r21.2.1 0:Bool))
                                                                                          (Tr.test ((eqF r20.1.1.1 (Go.IntKind.wrap Go.IntKind.i64 ((0:Int) - r21.1.1.1)):Bool))
                                                                                            (Tr.test ((eqF r20.1.1.2.1 r21.1.1.2.1:Bool))
                                                                                              (Tr.test ((eqF r20.1.2.1.1 (Go.IntKind.wrap Go.IntKind.i64 ((0:Int) - r21.1.2.1.1)):Bool))
                                                                                                (Tr.fin (((eqF r20.1.2.1.2.1 r21.1.2.1.2.1:Bool),())))
                                                                                                (Tr.fin (((false:Bool),()))))
                                                                                              (Tr.fin (((false:Bool),()))))
                                                                                            (Tr.fin (((false:Bool),()))))
                                                                                          (Tr.fin (((false:Bool),()))))
                                                                                        (Tr.fin (((false:Bool),()))))
                                                                                      (Tr.stop))
                                                                                    (Tr.stop))
                                                                                  (Tr.stop))
                                                                                (Tr.stop)))
                                                                            (Tr.stop)))
                                                                        (let r16:=g74 ((1:Int),());
                                                                        Tr.test ((!(r7.1.1.1 == r16.1.1 && (r7.1.1.2.1 == r16.1.2.1 && true) && (r7.1.2.1.1 == r9.1.1 && (r7.1.2.1.2.1 == r9.1.2.1 && true) && true)):Bool))
                                                                          (Tr.fin (((false:Bool),())))
                                                                          (Tr.test (Option.isSome (f75 (r3.1.1,(r3.1.2.1,()))))
                                                                            (let r17:=g75 (r3.1.1,(r3.1.2.1,()));
                                                                            Tr.test ((!eqF r17.1 0:Bool))
                                                                              (Tr.fin (((true:Bool),())))
                                                                              (Tr.test (Option.isSome (f46 (r3.1.1,())))
                                                                                (Tr.test (Option.isSome (f46 (r3.1.2.1,())))
                                                                                  (let r18:=g46 (r3.1.1,());
                                                                                  let r19:=g46 (r3.1.2.1,());
                                                                                  Tr.test (Option.isSome (f72 (r18.1,(r19.1,()))))
                                                                                    (Tr.test (Option.isSome (f72 (r19.1,(r18.1,()))))
                                                                                      (let r20:=g72 (r18.1,(r19.1,()));
                                                                                      Tr.test ((eqF r20.2.1 0:Bool))
                                                                                        (let r21:=g72 (r19.1,(r18.1,()));
                                                                                        Tr.test ((eqF r21.2.1 0:Bool))
                                                                                          (Tr.test ((eqF r20.1.1.1 (Go.IntKind.wrap Go.IntKind.i64 ((0:Int) - r21.1.1.1)):Bool))
                                                                                            (Tr.test ((eqF r20.1.1.2.1 r21.1.1.2.1:Bool))
                                                                                              (Tr.test ((eqF r20.1.2.1.1 (Go.IntKind.wrap Go.IntKind.i64 ((0:Int) - r21.1.2.1.1)):Bool))
                                                                                                (Tr.fin (((eqF r20.1.2.1.2.1 r21.1.2.1.2.1:Bool),())))
                                                                                                (Tr.fin (((false:Bool),()))))
                                                                                              (Tr.fin (((false:Bool),()))))
                                                                                            (Tr.fin (((false:Bool),()))))
                                                                                          (Tr.fin (((false:Bool),()))))
                                                                                        (Tr.fin (((false:Bool),()))))
                                                                                      (Tr.stop))
                                                                                    (Tr.stop))
                                                                                  (Tr.stop))
                                                                                (Tr.stop)))
                                                                            (Tr.stop)))))
                                                                    (Tr.stop)))
                                                                (Tr.stop))
                                                              (Tr.stop)))
                                                          (Tr.stop))
                                                        (Tr.stop))
                                                      (Tr.stop)))
                                                  (Tr.stop)))
                                              (Tr.stop))
                                            (Tr.stop)))))))
                                (Tr.stop))
                              (Tr.stop))
                            (Tr.stop))
                          (Tr.stop))
                        (Tr.stop))
                      (Tr.stop)))
                  (Tr.stop))))
            (Tr.stop)))
        (Tr.stop)))
    (Tr.stop)

def f10 (d:Tys.data as10):Option (Tys.data rs10):=(t10 d.1 d.2.1 d.2.2.1).val
def g10 (d:Tys.data as10):Tys.data rs10:=(f10 d).getD (Tys.dflt rs10)
def p10:PureC:=pcOf as10 rs10 f10 g10

theorem wk10 (x0:(List (List Int))) (x1:(List (List Int))) (x2:Bool):Walks (runPure (kl10_0 Go.Proofs.Try.prog).orc Go.Proofs.Try.prog 400 10 as10 rs10 (x0,x1,x2,())) (t10 x0 x1 x2) [([true,true],[1,1,1,1,1,1,1,1,1,1,1,1,1,1,1,2,2,2,2,4,0,1]),([true,false,true,true],[1,1,1,1,1,1,1,1,1,1,1,2,2,2,2,6,6,4,6,6,8,0,1]),([true,false,true,false,true,true],[1,1,1,1,1,1,1,2,2,2,2,6,6,4,6,6,10,10,8,10,10,12,0,1]),([true,false,true,false,true,false,true],[1,2,2,2,2,2,2,4,4,4,4,8,8,6,8,8,12,12,10,12,12,14,0,1]),([true,false,true,false,true,false,false,true,true],[2,6,6,6,6,4,6,6,8,8,8,8,12,12,10,12,12,16,16,14,16,16,18,0,1]),([true,false,true,false,true,false,false,true,false,true,true,true,true,true,true,true],[1,1,1,1,1,1,1,1,1,1,1,1,1,1,1,1,1,1,1,1,1,1,1,1,1,1,1,1,1,1,1,1,1,1,1,1,1,1,1,1,1,1,1,1,1,1,2,2,2,4,12,12,6,8,12,10,12,1,14,16,20,20,20,20,18,20,20,22,22,22,22,26,26,24,26,26,30,30,28,30,30,32,0,1]),([true,false,true,false,true,false,false,true,false,true,true,true,true,true,true,false,true],[1,1,1,1,1,1,1,1,1,1,1,1,1,1,1,1,1,1,1,1,1,1,1,1,1,1,1,1,1,1,1,1,1,1,1,1,1,1,1,1,1,1,1,2,2,2,4,4,4,6,14,14,8,10,14,12,14,1,16,18,22,22,22,22,20,22,22,24,24,24,24,28,28,26,28,28,32,32,30,32,32,34,0,1]),([true,false,true,false,true,false,false,true,false,true,true,true,true,true,true,false,false,true],[1,1,1,1,1,1,1,1,1,1,1,1,1,1,1,1,1,1,1,1,1,1,1,1,1,1,1,1,1,1,1,1,1,1,1,1,1,1,2,2,2,2,2,4,4,4,6,6,6,8,16,16,10,12,16,14,16,1,18,20,24,24,24,24,22,24,24,26,26,26,26,30,30,28,30,30,34,34,32,34,34,36,0,1]),([true,false,true,false,true,false,false,true,false,true,true,true,true,true,true,false,false,false,true],[1,1,1,1,1,1,1,1,1,1,1,1,1,1,1,1,1,1,1,1,1,1,1,1,1,1,1,1,1,1,1,1,1,2,2,2,2,2,4,4,4,4,4,6,6,6,8,8,8,10,18,18,12,14,18,16,18,1,20,22,26,26,26,26,24,26,26,28,28,28,28,32,32,30,32,32,36,36,34,36,36,38,0,1]),([true,false,true,false,true,false,false,true,false,true,true,true,true,true,true,false,false,false,false,true],[1,1,1,1,1,1,1,1,1,1,1,1,1,1,1,1,1,1,1,1,1,1,1,1,1,1,1,2,2,2,2,2,2,4,4,4,4,4,6,6,6,6,6,8,8,8,10,10,10,12,20,20,14,16,20,18,20,1,22,24,28,28,28,28,26,28,28,30,30,30,30,34,34,32,34,34,38,38,36,38,38,40,0,1]),([true,false,true,false,true,false,false,true,false,true,true,true,true,true,true,false,false,false,false,false,true,true,true],[1,1,1,1,1,1,1,1,1,1,1,1,1,1,1,1,1,1,1,1,1,2,2,2,2,2,2,8,8,4,8,6,8,8,8,10,10,10,10,10,12,12,12,12,12,14,14,14,16,16,16,18,26,26,20,22,26,24,26,1,28,30,34,34,34,34,32,34,34,36,36,36,36,40,40,38,40,40,44,44,42,44,44,46,0,1]),([true,false,true,false,true,false,false,true,false,true,true,true,true,true,true,false,false,false,false,false,true,true,false,true,true],[1,1,1,1,1,1,1,1,1,1,2,2,2,2,2,2,2,2,2,2,2,6,6,4,6,10,6,6,6,12,12,8,12,10,12,12,12,14,14,14,14,14,16,16,16,16,16,18,18,18,20,20,20,22,30,30,24,26,30,28,30,1,32,34,38,38,38,38,36,38,38,40,40,40,40,44,44,42,44,44,48,48,46,48,48,50,0,1]),([true,false,true,false,true,false,false,true,false,true,true,true,true,true,true,false,false,false,false,false,true,true,false,true,false,true,true,true,true],[1,2,2,2,2,2,2,2,2,2,10,10,4,10,6,10,10,10,10,8,10,10,10,10,14,14,12,14,18,14,14,14,20,20,16,20,18,20,20,20,22,22,22,22,22,24,24,24,24,24,26,26,26,28,28,28,30,38,38,32,34,38,36,38,1,40,42,46,46,46,46,44,46,46,48,48,48,48,52,52,50,52,52,56,56,54,56,56,58,0,1]),([true,false,true,false,true,false,false,true,false,true,true,true,true,true,true,false,false,false,false,false,true,true,false,true,false,true,true,true,false,true,true,true],[2,8,8,4,8,6,8,8,8,8,8,8,16,16,10,16,12,16,16,16,16,14,16,16,16,16,20,20,18,20,24,20,20,20,26,26,22,26,24,26,26,26,28,28,28,28,28,30,30,30,30,30,32,32,32,34,34,34,36,44,44,38,40,44,42,44,1,46,48,52,52,52,52,50,52,52,54,54,54,54,58,58,56,58,58,62,62,60,62,62,64,0,1]),([true,false,true,false,true,false,false,true,false,true,true,true,true,true,true,false,false,false,false,false,true,true,false,true,false,true,true,true,false,true,true,false,true,true],[1,1,1,1,1,1,2,2,2,2,28,4,6,12,12,8,12,10,12,12,12,12,12,12,20,20,14,20,16,20,20,20,20,18,20,20,20,20,24,24,22,24,28,24,24,24,30,30,26,30,28,30,30,30,32,32,32,32,32,34,34,34,34,34,36,36,36,38,38,38,40,48,48,42,44,48,46,48,1,50,52,56,56,56,56,54,56,56,58,58,58,58,62,62,60,62,62,66,66,64,66,66,68,0,1]),([true,false,true,false,true,false,false,true,false,true,true,true,true,true,true,false,false,false,false,false,true,true,false,true,false,true,true,true,false,true,true,false,true,false,true,true],[1,2,2,2,2,2,6,4,6,4,4,4,4,4,6,6,32,8,10,16,16,12,16,14,16,16,16,16,16,16,24,24,18,24,20,24,24,24,24,22,24,24,24,24,28,28,26,28,32,28,28,28,34,34,30,34,32,34,34,34,36,36,36,36,36,38,38,38,38,38,40,40,40,42,42,42,44,52,52,46,48,52,50,52,1,54,56,60,60,60,60,58,60,60,62,62,62,62,66,66,64,66,66,70,70,68,70,70,72,0,1]),([true,false,true,false,true,false,false,true,false,true,true,true,true,true,true,false,false,false,false,false,true,true,false,true,false,true,true,true,false,true,true,false,true,false,true,false,true,true],[2,4,0,6,9,6,9,9,9,9,9,6,6,6,10,8,10,8,8,8,8,8,10,10,36,12,14,20,20,16,20,18,20,20,20,20,20,20,28,28,22,28,24,28,28,28,28,26,28,28,28,28,32,32,30,32,36,32,32,32,38,38,34,38,36,38,38,38,40,40,40,40,40,42,42,42,42,42,44,44,44,46,46,46,48,56,56,50,52,56,54,56,1,58,60,64,64,64,64,62,64,64,66,66,66,66,70,70,68,70,70,74,74,72,74,74,76,0,1]),([true,false,true,false,true,false,false,true,false,true,true,true,true,true,true,false,false,false,false,false,true,true,false,true,false,true,true,true,false,true,true,false,true,false,true,false,true,false,true,true,true,true,true,true,true,true,true],[2,2,2,2,2,2,2,2,4,4,4,4,4,4,4,4,4,6,6,6,6,6,6,6,6,8,8,8,8,8,8,8,8,8,10,10,10,12,18,16,14,16,18,20,22,0,24,27,24,27,27,27,27,27,24,24,24,28,26,28,26,26,26,26,26,28,28,54,30,32,38,38,34,38,36,38,38,38,38,38,38,46,46,40,46,42,46,46,46,46,44,46,46,46,46,50,50,48,50,54,50,50,50,56,56,52,56,54,56,56,56,58,58,58,58,58,60,60,60,60,60,62,62,62,64,64,64,66,74,74,68,70,74,72,74,1,76,78,82,82,82,82,80,82,82,84,84,84,84,88,88,86,88,88,92,92,90,92,92,94,0,1]),([true,false,true,false,true,false,false,true,false,true,true,true,true,true,true,false,false,false,false,false,true,true,false,true,false,true,true,true,false,true,true,false,true,false,true,false,true,false,true,true,true,true,true,true,true,true,false],[2,2,2,2,2,2,2,2,4,4,4,4,4,4,4,4,4,6,6,6,6,6,6,6,6,8,8,8,8,8,8,8,8,8,10,10,10,12,18,16,14,16,18,20,22,0,24,27,24,27,27,27,27,27,24,24,24,28,26,28,26,26,26,26,26,28,28,54,30,32,38,38,34,38,36,38,38,38,38,38,38,46,46,40,46,42,46,46,46,46,44,46,46,46,46,50,50,48,50,54,50,50,50,56,56,52,56,54,56,56,56,58,58,58,58,58,60,60,60,60,60,62,62,62,64,64,64,66,74,74,68,70,74,72,74,1,76,78,82,82,82,82,80,82,82,84,84,84,84,88,88,86,88,88,92,92,90,92,92,94,0,1]),([true,false,true,false,true,false,false,true,false,true,true,true,true,true,true,false,false,false,false,false,true,true,false,true,false,true,true,true,false,true,true,false,true,false,true,false,true,false,true,true,true,true,true,true,true,false],[0,0,0,0,0,0,0,0,2,2,2,2,2,2,2,2,2,4,4,4,4,4,4,4,4,6,6,6,6,6,6,6,6,6,8,8,8,10,16,14,12,14,16,18,20,0,22,25,22,25,25,25,25,25,22,22,22,26,24,26,24,24,24,24,24,26,26,52,28,30,36,36,32,36,34,36,36,36,36,36,36,44,44,38,44,40,44,44,44,44,42,44,44,44,44,48,48,46,48,52,48,48,48,54,54,50,54,52,54,54,54,56,56,56,56,56,58,58,58,58,58,60,60,60,62,62,62,64,72,72,66,68,72,70,72,1,74,76,80,80,80,80,78,80,80,82,82,82,82,86,86,84,86,86,90,90,88,90,90,92,0,1]),([true,false,true,false,true,false,false,true,false,true,true,true,true,true,true,false,false,false,false,false,true,true,false,true,false,true,true,true,false,true,true,false,true,false,true,false,true,false,true,true,true,true,true,true,false],[0,0,0,0,0,0,0,0,0,0,0,0,0,0,0,0,0,2,2,2,2,2,2,2,2,4,4,4,4,4,4,4,4,4,6,6,6,8,14,12,10,12,14,16,18,0,20,23,20,23,23,23,23,23,20,20,20,24,22,24,22,22,22,22,22,24,24,50,26,28,34,34,30,34,32,34,34,34,34,34,34,42,42,36,42,38,42,42,42,42,40,42,42,42,42,46,46,44,46,50,46,46,46,52,52,48,52,50,52,52,52,54,54,54,54,54,56,56,56,56,56,58,58,58,60,60,60,62,70,70,64,66,70,68,70,1,72,74,78,78,78,78,76,78,78,80,80,80,80,84,84,82,84,84,88,88,86,88,88,90,0,1]),([true,false,true,false,true,false,false,true,false,true,true,true,true,true,true,false,false,false,false,false,true,true,false,true,false,true,true,true,false,true,true,false,true,false,true,false,true,false,true,true,true,true,true,false],[0,0,0,0,0,0,0,0,0,0,0,0,0,0,0,0,0,0,0,0,0,0,0,0,0,2,2,2,2,2,2,2,2,2,4,4,4,6,12,10,8,10,12,14,16,0,18,21,18,21,21,21,21,21,18,18,18,22,20,22,20,20,20,20,20,22,22,48,24,26,32,32,28,32,30,32,32,32,32,32,32,40,40,34,40,36,40,40,40,40,38,40,40,40,40,44,44,42,44,48,44,44,44,50,50,46,50,48,50,50,50,52,52,52,52,52,54,54,54,54,54,56,56,56,58,58,58,60,68,68,62,64,68,66,68,1,70,72,76,76,76,76,74,76,76,78,78,78,78,82,82,80,82,82,86,86,84,86,86,88,0,1]),([true,false,true,false,true,false,false,true,false,true,true,true,true,true,true,false,false,false,false,false,true,true,false,true,false,true,true,true,false,true,true,false,true,false,true,false,true,false,true,true,true,true,false],[0,0,0,0,0,0,0,0,0,0,0,0,0,0,0,0,0,0,0,0,0,0,0,0,0,0,0,0,0,0,0,0,0,0,2,2,2,4,10,8,6,8,10,12,14,0,16,19,16,19,19,19,19,19,16,16,16,20,18,20,18,18,18,18,18,20,20,46,22,24,30,30,26,30,28,30,30,30,30,30,30,38,38,32,38,34,38,38,38,38,36,38,38,38,38,42,42,40,42,46,42,42,42,48,48,44,48,46,48,48,48,50,50,50,50,50,52,52,52,52,52,54,54,54,56,56,56,58,66,66,60,62,66,64,66,1,68,70,74,74,74,74,72,74,74,76,76,76,76,80,80,78,80,80,84,84,82,84,84,86,0,1]),([true,false,true,false,true,false,false,true,false,true,true,true,true,true,true,false,false,false,false,false,true,true,false,true,false,true,true,true,false,true,true,false,true,false,false,true],[2,0,5,0,5,5,5,5,5,0,0,0,6,4,6,4,4,4,4,4,6,6,32,8,10,16,16,12,16,14,16,16,16,16,16,16,24,24,18,24,20,24,24,24,24,22,24,24,24,24,28,28,26,28,32,28,28,28,34,34,30,34,32,34,34,34,36,36,36,36,36,38,38,38,38,38,40,40,40,42,42,42,44,52,52,46,48,52,50,52,1,54,56,60,60,60,60,58,60,60,62,62,62,62,66,66,64,66,66,70,70,68,70,70,72,0,1]),([true,false,true,false,true,false,false,true,false,true,true,true,true,true,true,false,false,false,false,false,true,true,false,true,false,true,true,true,false,true,true,false,true,false,false,false,true,true],[2,4,6,0,9,0,9,9,9,9,9,0,0,0,10,8,10,8,8,8,8,8,10,10,36,12,14,20,20,16,20,18,20,20,20,20,20,20,28,28,22,28,24,28,28,28,28,26,28,28,28,28,32,32,30,32,36,32,32,32,38,38,34,38,36,38,38,38,40,40,40,40,40,42,42,42,42,42,44,44,44,46,46,46,48,56,56,50,52,56,54,56,1,58,60,64,64,64,64,62,64,64,66,66,66,66,70,70,68,70,70,74,74,72,74,74,76,0,1]),([true,false,true,false,true,false,false,true,false,true,true,true,true,true,true,false,false,false,false,false,true,true,false,true,false,true,true,true,false,true,true,false,true,false,false,false,true,false,true,true,true,true,true,true,true,true,true],[2,2,2,2,2,2,2,2,4,4,4,4,4,4,4,4,4,6,6,6,6,6,6,6,6,8,8,8,8,8,8,8,8,8,10,10,10,12,18,16,14,16,18,20,22,24,0,27,0,27,27,27,27,27,0,0,0,28,26,28,26,26,26,26,26,28,28,54,30,32,38,38,34,38,36,38,38,38,38,38,38,46,46,40,46,42,46,46,46,46,44,46,46,46,46,50,50,48,50,54,50,50,50,56,56,52,56,54,56,56,56,58,58,58,58,58,60,60,60,60,60,62,62,62,64,64,64,66,74,74,68,70,74,72,74,1,76,78,82,82,82,82,80,82,82,84,84,84,84,88,88,86,88,88,92,92,90,92,92,94,0,1]),([true,false,true,false,true,false,false,true,false,true,true,true,true,true,true,false,false,false,false,false,true,true,false,true,false,true,true,true,false,true,true,false,true,false,false,false,true,false,true,true,true,true,true,true,true,true,false],[2,2,2,2,2,2,2,2,4,4,4,4,4,4,4,4,4,6,6,6,6,6,6,6,6,8,8,8,8,8,8,8,8,8,10,10,10,12,18,16,14,16,18,20,22,24,0,27,0,27,27,27,27,27,0,0,0,28,26,28,26,26,26,26,26,28,28,54,30,32,38,38,34,38,36,38,38,38,38,38,38,46,46,40,46,42,46,46,46,46,44,46,46,46,46,50,50,48,50,54,50,50,50,56,56,52,56,54,56,56,56,58,58,58,58,58,60,60,60,60,60,62,62,62,64,64,64,66,74,74,68,70,74,72,74,1,76,78,82,82,82,82,80,82,82,84,84,84,84,88,88,86,88,88,92,92,90,92,92,94,0,1]),([true,false,true,false,true,false,false,true,false,true,true,true,true,true,true,false,false,false,false,false,true,true,false,true,false,true,true,true,false,true,true,false,true,false,false,false,true,false,true,true,true,true,true,true,true,false],[0,0,0,0,0,0,0,0,2,2,2,2,2,2,2,2,2,4,4,4,4,4,4,4,4,6,6,6,6,6,6,6,6,6,8,8,8,10,16,14,12,14,16,18,20,22,0,25,0,25,25,25,25,25,0,0,0,26,24,26,24,24,24,24,24,26,26,52,28,30,36,36,32,36,34,36,36,36,36,36,36,44,44,38,44,40,44,44,44,44,42,44,44,44,44,48,48,46,48,52,48,48,48,54,54,50,54,52,54,54,54,56,56,56,56,56,58,58,58,58,58,60,60,60,62,62,62,64,72,72,66,68,72,70,72,1,74,76,80,80,80,80,78,80,80,82,82,82,82,86,86,84,86,86,90,90,88,90,90,92,0,1]),([true,false,true,false,true,false,false,true,false,true,true,true,true,true,true,false,false,false,false,false,true,true,false,true,false,true,true,true,false,true,true,false,true,false,false,false,true,false,true,true,true,true,true,true,false],[0,0,0,0,0,0,0,0,0,0,0,0,0,0,0,0,0,2,2,2,2,2,2,2,2,4,4,4,4,4,4,4,4,4,6,6,6,8,14,12,10,12,14,16,18,20,0,23,0,23,23,23,23,23,0,0,0,24,22,24,22,22,22,22,22,24,24,50,26,28,34,34,30,34,32,34,34,34,34,34,34,42,42,36,42,38,42,42,42,42,40,42,42,42,42,46,46,44,46,50,46,46,46,52,52,48,52,50,52,52,52,54,54,54,54,54,56,56,56,56,56,58,58,58,60,60,60,62,70,70,64,66,70,68,70,1,72,74,78,78,78,78,76,78,78,80,80,80,80,84,84,82,84,84,88,88,86,88,88,90,0,1]),([true,false,true,false,true,false,false,true,false,true,true,true,true,true,true,false,false,false,false,false,true,true,false,true,false,true,true,true,false,true,true,false,true,false,false,false,true,false,true,true,true,true,true,false],[0,0,0,0,0,0,0,0,0,0,0,0,0,0,0,0,0,0,0,0,0,0,0,0,0,2,2,2,2,2,2,2,2,2,4,4,4,6,12,10,8,10,12,14,16,18,0,21,0,21,21,21,21,21,0,0,0,22,20,22,20,20,20,20,20,22,22,48,24,26,32,32,28,32,30,32,32,32,32,32,32,40,40,34,40,36,40,40,40,40,38,40,40,40,40,44,44,42,44,48,44,44,44,50,50,46,50,48,50,50,50,52,52,52,52,52,54,54,54,54,54,56,56,56,58,58,58,60,68,68,62,64,68,66,68,1,70,72,76,76,76,76,74,76,76,78,78,78,78,82,82,80,82,82,86,86,84,86,86,88,0,1]),([true,false,true,false,true,false,false,true,false,true,true,true,true,true,true,false,false,false,false,false,true,true,false,true,false,true,true,true,false,true,true,false,true,false,false,false,true,false,true,true,true,true,false],[0,0,0,0,0,0,0,0,0,0,0,0,0,0,0,0,0,0,0,0,0,0,0,0,0,0,0,0,0,0,0,0,0,0,2,2,2,4,10,8,6,8,10,12,14,16,0,19,0,19,19,19,19,19,0,0,0,20,18,20,18,18,18,18,18,20,20,46,22,24,30,30,26,30,28,30,30,30,30,30,30,38,38,32,38,34,38,38,38,38,36,38,38,38,38,42,42,40,42,46,42,42,42,48,48,44,48,46,48,48,48,50,50,50,50,50,52,52,52,52,52,54,54,54,56,56,56,58,66,66,60,62,66,64,66,1,68,70,74,74,74,74,72,74,74,76,76,76,76,80,80,78,80,80,84,84,82,84,84,86,0,1])] :=
  ⟨by kernel_rfl,by kernel_rfl,by kernel_rfl,by kernel_rfl,by kernel_rfl,by kernel_rfl,by kernel_rfl,by kernel_rfl,by kernel_rfl,by kernel_rfl,by kernel_rfl,by kernel_rfl,by kernel_rfl,by kernel_rfl,by kernel_rfl,by kernel_rfl,by kernel_rfl,by kernel_rfl,by kernel_rfl,by kernel_rfl,by kernel_rfl,by kernel_rfl,by kernel_rfl,by kernel_rfl,by kernel_rfl,by kernel_rfl,by kernel_rfl,by kernel_rfl,by kernel_rfl,by kernel_rfl,by kernel_rfl,trivial⟩

theorem ok10_t (x0:(List (List Int))) (x1:(List (List Int))) (x2:Bool):TrOk (PureRuns Go.Proofs.Try.prog (kl10_0 Go.Proofs.Try.prog).orc 10 as10 rs10 (x0,x1,x2,())) (t10 x0 x1 x2) :=
  Walks.ok (fun _ _ _=>PureRuns.of) (wk10 x0 x1 x2) (by kernel_rfl)

theorem ok10:PureOk Go.Proofs.Try.prog 10 p10:=pureOk_of kl10_0_ok.base (T:=fun (d:Tys.data as10)=>t10 d.1 d.2.1 d.2.2.1) (by kernel_rfl) (fun (d:Tys.data as10)=>ok10_t d.1 d.2.1 d.2.2.1)

end Go.Vm.Mo
