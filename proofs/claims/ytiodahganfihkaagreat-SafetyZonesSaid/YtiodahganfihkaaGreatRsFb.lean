import Derived.Test.YtiodahganfihkaaGreatA4
import Derived.Test.YtiodahganfihkaaGreatA5
import Derived.KernelRfl
import Derived.Test.YtiodahganfihkaaGreatProg
import Derived.Test.YtiodahganfihkaaGreatRsFa
set_option linter.unusedVariables false
set_option linter.unusedSimpArgs false

namespace Go.Vm.Mo
open Go
set_option linter.unusedVariables false

/-! (ductility/safety.line).sideOf -/

abbrev as179:List Ty:=[(.pair (.pair (.int .i64) (.pair (.int .i64) .unit)) (.pair (.pair (.int .i64) (.pair (.int .i64) .unit)) .unit)),(.pair (.int .i64) (.pair (.int .i64) .unit))]
abbrev rs179:List Ty:=[(.int .i64)]

def t179 (x0_:Int) (x0_':Int) (x0'_:Int) (x0'_':Int) (x1:Int) (x1':Int):Tr (Tys.data rs179) :=
  Tr.fin (((wrap64 (wrap64 (wrap64 (x0'_ - x0_) * wrap64 (x1' - x0_')) - wrap64 (wrap64 (x0'_' - x0_') * wrap64 (x1 - x0_))):Int),()))

def f179 (d:Tys.data as179):Option (Tys.data rs179):=(t179 d.1.1.1 d.1.1.2.1 d.1.2.1.1 d.1.2.1.2.1 d.2.1.1 d.2.1.2.1).val
def g179 (d:Tys.data as179):Tys.data rs179:=(f179 d).getD (Tys.dflt rs179)
def p179:PureC:=pcOf as179 rs179 f179 g179

theorem wk179 (x0_:Int) (x0_':Int) (x0'_:Int) (x0'_':Int) (x1:Int) (x1':Int):Walks (runPure (kf178 Go.Proofs.Tryz.prog).orc Go.Proofs.Tryz.prog 400 179 as179 rs179 (((x0_,x0_',()),(x0'_,x0'_',()),()),(x1,x1',()),())) (t179 x0_ x0_' x0'_ x0'_' x1 x1') [(bl 0 0,[1,1,1,1,1,1,1,1,1,1,1,1,1,1])] :=
  ⟨by kernel_rfl,trivial⟩

theorem ok179_t (x0_:Int) (x0_':Int) (x0'_:Int) (x0'_':Int) (x1:Int) (x1':Int):TrOk (PureRuns Go.Proofs.Tryz.prog (kf178 Go.Proofs.Tryz.prog).orc 179 as179 rs179 (((x0_,x0_',()),(x0'_,x0'_',()),()),(x1,x1',()),())) (t179 x0_ x0_' x0'_ x0'_' x1 x1') :=
  Walks.ok (fun _ _ _=>PureRuns.of) (wk179 x0_ x0_' x0'_ x0'_' x1 x1') (by kernel_rfl)

theorem ok179:PureOk Go.Proofs.Tryz.prog 179 p179:=pureOk_of kf178_ok.base (T:=fun (d:Tys.data as179)=>t179 d.1.1.1 d.1.1.2.1 d.1.2.1.1 d.1.2.1.2.1 d.2.1.1 d.2.1.2.1) (by kernel_rfl) (fun (d:Tys.data as179)=>ok179_t d.1.1.1 d.1.1.2.1 d.1.2.1.1 d.1.2.1.2.1 d.2.1.1 d.2.1.2.1)
def kf179 (P:Go.Program):Known:=(kf178 P).func 179 p179
theorem kf179_ok:KnownOk Go.Proofs.Tryz.prog (kf179 Go.Proofs.Tryz.prog):=kf178_ok.func ok179

/-! loop 0 of slices.Min[[]int,int] -/

abbrev sh180_0:Sh:={ n:=25,slots:=[0,3,4],pats:=[.ty (.slice (.int .i64)),.ty (.int .i64),.ty (.int .i64)],boxes:=[] }
abbrev shb180_0:Sh:={ n:=25,slots:=[3],pats:=[.ty (.int .i64)],boxes:=[] }
abbrev shr180_0:Sh:={ n:=25,slots:=[],pats:=[],boxes:=[] }

def t180_0 (x0:(List Int)) (x1:Int) (x2:Int):Tr (Out sh180_0.data shb180_0.data shr180_0.data) :=
  Tr.test ((!leF (↑(List.length x0):Int) x2:Bool))
    (Tr.test (decide ((0:Int) ≤ x2) && decide (x2 < (↑(List.length x0):Int)))
      (Tr.fin (.again ((x0,((if List.getD x0 (Int.toNat x2) (0:Int) < x1 then List.getD x0 (Int.toNat x2) (0:Int) else x1:Int),((wrap64 (x2 + (1:Int)):Int),()))),())))
      (Tr.stop))
    (Tr.fin (.brk ((x1,()),())))

def s180_0 (d:sh180_0.data):Option (Out sh180_0.data shb180_0.data shr180_0.data):=(t180_0 d.1.1 d.1.2.1 d.1.2.2.1).val
def l180_0 (d:sh180_0.data):Option (shb180_0.data ⊕ shr180_0.data):=itr s180_0 rounds d
def b180_0 (d:sh180_0.data):shb180_0.data:=outB shb180_0.dflt (l180_0 d)
def lc180_0:LoopC:=lcB sh180_0 shb180_0 shr180_0 l180_0 b180_0

theorem wk180_0 (x0:(List Int)) (x1:Int) (x2:Int):Walks (runBody (kf179 Go.Proofs.Tryz.prog).orc Go.Proofs.Tryz.prog 400 180 0 sh180_0 shb180_0 shr180_0 ((x0,x1,x2,()),())) (t180_0 x0 x1 x2) [(bl 2 3,[2,4]),(bl 1 0,[2])] :=
  ⟨by kernel_rfl,by kernel_rfl,trivial⟩

theorem ok180_0_t (x0:(List Int)) (x1:Int) (x2:Int):TrOk (BodyRuns Go.Proofs.Tryz.prog (kf179 Go.Proofs.Tryz.prog).orc 180 0 sh180_0 shb180_0 shr180_0 ((x0,x1,x2,()),())) (t180_0 x0 x1 x2) :=
  Walks.ok (fun _ _ _=>BodyRuns.of) (wk180_0 x0 x1 x2) (by kernel_rfl)

theorem ok180_0:LoopOk Go.Proofs.Tryz.prog 180 0 lc180_0:=loopOk_ofB (sh:=sh180_0) (shB:=shb180_0) (shR:=shr180_0) kf179_ok.base (T:=fun (d:sh180_0.data)=>t180_0 d.1.1 d.1.2.1 d.1.2.2.1) (by kernel_rfl) rfl (fun (d:sh180_0.data)=>ok180_0_t d.1.1 d.1.2.1 d.1.2.2.1) (fun _=>rfl)
def kl180_0 (P:Go.Program):Known:=(kf179 P).loop 180 0 lc180_0
theorem kl180_0_ok:KnownOk Go.Proofs.Tryz.prog (kl180_0 Go.Proofs.Tryz.prog):=kf179_ok.loop ok180_0

/-! slices.Min[[]int,int] -/

abbrev as180:List Ty:=[(.slice (.int .i64))]
abbrev rs180:List Ty:=[(.int .i64)]

def t180 (x0:(List Int)):Tr (Tys.data rs180) :=
  Tr.test ((!leF (1:Int) (↑(List.length x0):Int):Bool))
    (Tr.stop)
    (Tr.test (true && decide ((0:Int) < (↑(List.length x0):Int)))
      (Tr.test (isBrk (l180_0 ((x0,((List.getD x0 (0:Nat) (0:Int):Int),((1:Int),()))),())))
        (let r0:=b180_0 ((x0,((List.getD x0 (0:Nat) (0:Int):Int),((1:Int),()))),());
        Tr.fin ((r0.1.1,())))
        (Tr.stop))
      (Tr.stop))

def f180 (d:Tys.data as180):Option (Tys.data rs180):=(t180 d.1).val
def g180 (d:Tys.data as180):Tys.data rs180:=(f180 d).getD (Tys.dflt rs180)
def p180:PureC:=pcOf as180 rs180 f180 g180

theorem wk180 (x0:(List Int)):Walks (runPure (kl180_0 Go.Proofs.Tryz.prog).orc Go.Proofs.Tryz.prog 400 180 as180 rs180 (x0,())) (t180 x0) [(bl 3 6,[1,2,4,6])] :=
  ⟨by kernel_rfl,trivial⟩

theorem ok180_t (x0:(List Int)):TrOk (PureRuns Go.Proofs.Tryz.prog (kl180_0 Go.Proofs.Tryz.prog).orc 180 as180 rs180 (x0,())) (t180 x0) :=
  Walks.ok (fun _ _ _=>PureRuns.of) (wk180 x0) (by kernel_rfl)

theorem ok180:PureOk Go.Proofs.Tryz.prog 180 p180:=pureOk_of kl180_0_ok.base (T:=fun (d:Tys.data as180)=>t180 d.1) (by kernel_rfl) (fun (d:Tys.data as180)=>ok180_t d.1)
def kf180 (P:Go.Program):Known:=(kl180_0 P).func 180 p180
theorem kf180_ok:KnownOk Go.Proofs.Tryz.prog (kf180 Go.Proofs.Tryz.prog):=kl180_0_ok.func ok180

/-! loop 0 of slices.Max[[]int,int] -/

abbrev sh181_0:Sh:={ n:=25,slots:=[0,3,4],pats:=[.ty (.slice (.int .i64)),.ty (.int .i64),.ty (.int .i64)],boxes:=[] }
abbrev shb181_0:Sh:={ n:=25,slots:=[3],pats:=[.ty (.int .i64)],boxes:=[] }
abbrev shr181_0:Sh:={ n:=25,slots:=[],pats:=[],boxes:=[] }

def t181_0 (x0:(List Int)) (x1:Int) (x2:Int):Tr (Out sh181_0.data shb181_0.data shr181_0.data) :=
  Tr.test ((!leF (↑(List.length x0):Int) x2:Bool))
    (Tr.test (decide ((0:Int) ≤ x2) && decide (x2 < (↑(List.length x0):Int)))
      (Tr.fin (.again ((x0,((if x1 < List.getD x0 (Int.toNat x2) (0:Int) then List.getD x0 (Int.toNat x2) (0:Int) else x1:Int),((wrap64 (x2 + (1:Int)):Int),()))),())))
      (Tr.stop))
    (Tr.fin (.brk ((x1,()),())))

def s181_0 (d:sh181_0.data):Option (Out sh181_0.data shb181_0.data shr181_0.data):=(t181_0 d.1.1 d.1.2.1 d.1.2.2.1).val
def l181_0 (d:sh181_0.data):Option (shb181_0.data ⊕ shr181_0.data):=itr s181_0 rounds d
def b181_0 (d:sh181_0.data):shb181_0.data:=outB shb181_0.dflt (l181_0 d)
def lc181_0:LoopC:=lcB sh181_0 shb181_0 shr181_0 l181_0 b181_0

theorem wk181_0 (x0:(List Int)) (x1:Int) (x2:Int):Walks (runBody (kf180 Go.Proofs.Tryz.prog).orc Go.Proofs.Tryz.prog 400 181 0 sh181_0 shb181_0 shr181_0 ((x0,x1,x2,()),())) (t181_0 x0 x1 x2) [(bl 2 3,[2,4]),(bl 1 0,[2])] :=
  ⟨by kernel_rfl,by kernel_rfl,trivial⟩

theorem ok181_0_t (x0:(List Int)) (x1:Int) (x2:Int):TrOk (BodyRuns Go.Proofs.Tryz.prog (kf180 Go.Proofs.Tryz.prog).orc 181 0 sh181_0 shb181_0 shr181_0 ((x0,x1,x2,()),())) (t181_0 x0 x1 x2) :=
  Walks.ok (fun _ _ _=>BodyRuns.of) (wk181_0 x0 x1 x2) (by kernel_rfl)

theorem ok181_0:LoopOk Go.Proofs.Tryz.prog 181 0 lc181_0:=loopOk_ofB (sh:=sh181_0) (shB:=shb181_0) (shR:=shr181_0) kf180_ok.base (T:=fun (d:sh181_0.data)=>t181_0 d.1.1 d.1.2.1 d.1.2.2.1) (by kernel_rfl) rfl (fun (d:sh181_0.data)=>ok181_0_t d.1.1 d.1.2.1 d.1.2.2.1) (fun _=>rfl)
def kl181_0 (P:Go.Program):Known:=(kf180 P).loop 181 0 lc181_0
theorem kl181_0_ok:KnownOk Go.Proofs.Tryz.prog (kl181_0 Go.Proofs.Tryz.prog):=kf180_ok.loop ok181_0

/-! slices.Max[[]int,int] -/

abbrev as181:List Ty:=[(.slice (.int .i64))]
abbrev rs181:List Ty:=[(.int .i64)]

def t181 (x0:(List Int)):Tr (Tys.data rs181) :=
  Tr.test ((!leF (1:Int) (↑(List.length x0):Int):Bool))
    (Tr.stop)
    (Tr.test (true && decide ((0:Int) < (↑(List.length x0):Int)))
      (Tr.test (isBrk (l181_0 ((x0,((List.getD x0 (0:Nat) (0:Int):Int),((1:Int),()))),())))
        (let r0:=b181_0 ((x0,((List.getD x0 (0:Nat) (0:Int):Int),((1:Int),()))),());
        Tr.fin ((r0.1.1,())))
        (Tr.stop))
      (Tr.stop))

def f181 (d:Tys.data as181):Option (Tys.data rs181):=(t181 d.1).val
def g181 (d:Tys.data as181):Tys.data rs181:=(f181 d).getD (Tys.dflt rs181)
def p181:PureC:=pcOf as181 rs181 f181 g181

theorem wk181 (x0:(List Int)):Walks (runPure (kl181_0 Go.Proofs.Tryz.prog).orc Go.Proofs.Tryz.prog 400 181 as181 rs181 (x0,())) (t181 x0) [(bl 3 6,[1,2,4,6])] :=
  ⟨by kernel_rfl,trivial⟩

theorem ok181_t (x0:(List Int)):TrOk (PureRuns Go.Proofs.Tryz.prog (kl181_0 Go.Proofs.Tryz.prog).orc 181 as181 rs181 (x0,())) (t181 x0) :=
  Walks.ok (fun _ _ _=>PureRuns.of) (wk181 x0) (by kernel_rfl)

theorem ok181:PureOk Go.Proofs.Tryz.prog 181 p181:=pureOk_of kl181_0_ok.base (T:=fun (d:Tys.data as181)=>t181 d.1) (by kernel_rfl) (fun (d:Tys.data as181)=>ok181_t d.1)
def kf181 (P:Go.Program):Known:=(kl181_0 P).func 181 p181
theorem kf181_ok:KnownOk Go.Proofs.Tryz.prog (kf181 Go.Proofs.Tryz.prog):=kl181_0_ok.func ok181

/-! loop 0 of (ductility/safety.line).touches -/

abbrev sh139_0:Sh:={ n:=38,slots:=[2,5,19,20],pats:=[.ptr 0 4 0,.ptr 1 4 0,.ty (.pair (.int .i64) (.pair (.int .i64) (.pair (.int .i64) (.pair (.int .i64) (.pair (.int .i64) (.pair (.int .i64) (.pair (.int .i64) (.pair (.int .i64) .unit)))))))),.ty (.int .i64)],boxes:=[.row [.ty (.int .i64),.ty (.int .i64),.ty (.int .i64),.ty (.int .i64)],.row [.ty (.int .i64),.ty (.int .i64),.ty (.int .i64),.ty (.int .i64)]] }
abbrev shb139_0:Sh:={ n:=38,slots:=[5],pats:=[.ptr 1 4 0],boxes:=[.row [.ty (.int .i64),.ty (.int .i64),.ty (.int .i64),.ty (.int .i64)],.row [.ty (.int .i64),.ty (.int .i64),.ty (.int .i64),.ty (.int .i64)]] }
abbrev shr139_0:Sh:={ n:=38,slots:=[],pats:=[],boxes:=[.row [.ty (.int .i64),.ty (.int .i64),.ty (.int .i64),.ty (.int .i64)],.row [.ty (.int .i64),.ty (.int .i64),.ty (.int .i64),.ty (.int .i64)]] }

def t139_0 (x2:Int) (x2':Int) (x2'':Int) (x2''':Int) (x2'''':Int) (x2''''':Int) (x2'''''':Int) (x2''''''':Int) (x3:Int) (b0_0:Int) (b0_1:Int) (b0_2:Int) (b0_3:Int) (b1_0:Int) (b1_1:Int) (b1_2:Int) (b1_3:Int):Tr (Out sh139_0.data shb139_0.data shr139_0.data) :=
  Tr.test ((!leF (4:Int) x3:Bool))
    (Tr.test (decide ((0:Int) ≤ x3) && decide (x3 < (4:Int)))
      (Tr.test ((Nat.ble (Int.toNat x3 * (2:Nat) + (2:Nat)) (8:Nat):Bool))
        (Tr.test (Option.isSome (f179 (((b0_0,(b0_1,())),((b0_2,(b0_3,())),())),(((List.getD [x2,x2',x2'',x2''',x2'''',x2''''',x2'''''',x2'''''''] (Int.toNat x3 * (2:Nat) + (0:Nat)) (0:Int):Int),((List.getD [x2,x2',x2'',x2''',x2'''',x2''''',x2'''''',x2'''''''] (Int.toNat x3 * (2:Nat) + (1:Nat)) (0:Int):Int),())),()))))
          (Tr.test ((Nat.ble ((0:Nat) + Int.toNat x3 * (1:Nat) + (1:Nat)) (4:Nat):Bool))
            (let r0:=g179 (((b0_0,(b0_1,())),((b0_2,(b0_3,())),())),(((List.getD [x2,x2',x2'',x2''',x2'''',x2''''',x2'''''',x2'''''''] (Int.toNat x3 * (2:Nat) + (0:Nat)) (0:Int):Int),((List.getD [x2,x2',x2'',x2''',x2'''',x2''''',x2'''''',x2'''''''] (Int.toNat x3 * (2:Nat) + (1:Nat)) (0:Int):Int),())),()));
            Tr.fin (.again (((x2,(x2',(x2'',(x2''',(x2'''',(x2''''',(x2'''''',(x2''''''',())))))))),((wrap64 (x3 + (1:Int)):Int),())),((b0_0,(b0_1,(b0_2,(b0_3,())))),(((List.getD (List.set [b1_0,b1_1,b1_2,b1_3] ((0:Nat) + Int.toNat x3 * (1:Nat)) r0.1) (0:Nat) (0:Int):Int),((List.getD (List.set [b1_0,b1_1,b1_2,b1_3] ((0:Nat) + Int.toNat x3 * (1:Nat)) r0.1) (1:Nat) (0:Int):Int),((List.getD (List.set [b1_0,b1_1,b1_2,b1_3] ((0:Nat) + Int.toNat x3 * (1:Nat)) r0.1) (2:Nat) (0:Int):Int),((List.getD (List.set [b1_0,b1_1,b1_2,b1_3] ((0:Nat) + Int.toNat x3 * (1:Nat)) r0.1) (3:Nat) (0:Int):Int),())))),())))))
            (Tr.stop))
          (Tr.stop))
        (Tr.stop))
      (Tr.stop))
    (Tr.fin (.brk ((),((b0_0,(b0_1,(b0_2,(b0_3,())))),((b1_0,(b1_1,(b1_2,(b1_3,())))),())))))

def s139_0 (d:sh139_0.data):Option (Out sh139_0.data shb139_0.data shr139_0.data):=(t139_0 d.1.1.1 d.1.1.2.1 d.1.1.2.2.1 d.1.1.2.2.2.1 d.1.1.2.2.2.2.1 d.1.1.2.2.2.2.2.1 d.1.1.2.2.2.2.2.2.1 d.1.1.2.2.2.2.2.2.2.1 d.1.2.1 d.2.1.1 d.2.1.2.1 d.2.1.2.2.1 d.2.1.2.2.2.1 d.2.2.1.1 d.2.2.1.2.1 d.2.2.1.2.2.1 d.2.2.1.2.2.2.1).val
def l139_0 (d:sh139_0.data):Option (shb139_0.data ⊕ shr139_0.data):=itr s139_0 rounds d
def b139_0 (d:sh139_0.data):shb139_0.data:=outB shb139_0.dflt (l139_0 d)
def lc139_0:LoopC:=lcB sh139_0 shb139_0 shr139_0 l139_0 b139_0

theorem wk139_0 (x2:Int) (x2':Int) (x2'':Int) (x2''':Int) (x2'''':Int) (x2''''':Int) (x2'''''':Int) (x2''''''':Int) (x3:Int) (b0_0:Int) (b0_1:Int) (b0_2:Int) (b0_3:Int) (b1_0:Int) (b1_1:Int) (b1_2:Int) (b1_3:Int):Walks (runBody (kf181 Go.Proofs.Tryz.prog).orc Go.Proofs.Tryz.prog 400 139 0 sh139_0 shb139_0 shr139_0 (((x2,x2',x2'',x2''',x2'''',x2''''',x2'''''',x2''''''',()),x3,()),(b0_0,b0_1,b0_2,b0_3,()),(b1_0,b1_1,b1_2,b1_3,()),())) (t139_0 x2 x2' x2'' x2''' x2'''' x2''''' x2'''''' x2''''''' x3 b0_0 b0_1 b0_2 b0_3 b1_0 b1_1 b1_2 b1_3) [(bl 5 31,[2,8,4,6,8,10]),(bl 1 0,[2])] :=
  ⟨by kernel_rfl,by kernel_rfl,trivial⟩

theorem ok139_0_t (x2:Int) (x2':Int) (x2'':Int) (x2''':Int) (x2'''':Int) (x2''''':Int) (x2'''''':Int) (x2''''''':Int) (x3:Int) (b0_0:Int) (b0_1:Int) (b0_2:Int) (b0_3:Int) (b1_0:Int) (b1_1:Int) (b1_2:Int) (b1_3:Int):TrOk (BodyRuns Go.Proofs.Tryz.prog (kf181 Go.Proofs.Tryz.prog).orc 139 0 sh139_0 shb139_0 shr139_0 (((x2,x2',x2'',x2''',x2'''',x2''''',x2'''''',x2''''''',()),x3,()),(b0_0,b0_1,b0_2,b0_3,()),(b1_0,b1_1,b1_2,b1_3,()),())) (t139_0 x2 x2' x2'' x2''' x2'''' x2''''' x2'''''' x2''''''' x3 b0_0 b0_1 b0_2 b0_3 b1_0 b1_1 b1_2 b1_3) :=
  Walks.ok (fun _ _ _=>BodyRuns.of) (wk139_0 x2 x2' x2'' x2''' x2'''' x2''''' x2'''''' x2''''''' x3 b0_0 b0_1 b0_2 b0_3 b1_0 b1_1 b1_2 b1_3) (by kernel_rfl)

theorem ok139_0:LoopOk Go.Proofs.Tryz.prog 139 0 lc139_0:=loopOk_ofB (sh:=sh139_0) (shB:=shb139_0) (shR:=shr139_0) kf181_ok.base (T:=fun (d:sh139_0.data)=>t139_0 d.1.1.1 d.1.1.2.1 d.1.1.2.2.1 d.1.1.2.2.2.1 d.1.1.2.2.2.2.1 d.1.1.2.2.2.2.2.1 d.1.1.2.2.2.2.2.2.1 d.1.1.2.2.2.2.2.2.2.1 d.1.2.1 d.2.1.1 d.2.1.2.1 d.2.1.2.2.1 d.2.1.2.2.2.1 d.2.2.1.1 d.2.2.1.2.1 d.2.2.1.2.2.1 d.2.2.1.2.2.2.1) (by kernel_rfl) rfl (fun (d:sh139_0.data)=>ok139_0_t d.1.1.1 d.1.1.2.1 d.1.1.2.2.1 d.1.1.2.2.2.1 d.1.1.2.2.2.2.1 d.1.1.2.2.2.2.2.1 d.1.1.2.2.2.2.2.2.1 d.1.1.2.2.2.2.2.2.2.1 d.1.2.1 d.2.1.1 d.2.1.2.1 d.2.1.2.2.1 d.2.1.2.2.2.1 d.2.2.1.1 d.2.2.1.2.1 d.2.2.1.2.2.1 d.2.2.1.2.2.2.1) (fun _=>rfl)
def kl139_0 (P:Go.Program):Known:=(kf181 P).loop 139 0 lc139_0
theorem kl139_0_ok:KnownOk Go.Proofs.Tryz.prog (kl139_0 Go.Proofs.Tryz.prog):=kf181_ok.loop ok139_0

/-! (ductility/safety.line).touches -/

abbrev as139:List Ty:=[(.pair (.pair (.int .i64) (.pair (.int .i64) .unit)) (.pair (.pair (.int .i64) (.pair (.int .i64) .unit)) .unit)),(.pair (.pair (.int .i64) (.pair (.int .i64) .unit)) (.pair (.pair (.int .i64) (.pair (.int .i64) .unit)) .unit))]
abbrev rs139:List Ty:=[.bool]

def t139 (x0_:Int) (x0_':Int) (x0'_:Int) (x0'_':Int) (x1_:Int) (x1_':Int) (x1'_:Int) (x1'_':Int):Tr (Tys.data rs139) :=
  Tr.test (Option.isSome (f177 (((x0_,(x0_',())),((x0'_,(x0'_',())),())),((x1_,(x1_',())),((0:Int),())))))
    (let r0:=g177 (((x0_,(x0_',())),((x0'_,(x0'_',())),())),((x1_,(x1_',())),((0:Int),())));
    Tr.test (r0.1)
      (Tr.fin (((false:Bool),())))
      (Tr.test (Option.isSome (f177 (((x0_,(x0_',())),((x0'_,(x0'_',())),())),((x1'_,(x1'_',())),((1:Int),())))))
        (let r1:=g177 (((x0_,(x0_',())),((x0'_,(x0'_',())),())),((x1'_,(x1'_',())),((1:Int),())));
        Tr.test (r1.1)
          (Tr.fin (((false:Bool),())))
          (Tr.test (Option.isSome (f178 (((x1_,(x1_',())),((x1'_,(x1'_',())),())),())))
            (let r2:=g178 (((x1_,(x1_',())),((x1'_,(x1'_',())),())),());
            Tr.test (isBrk (l139_0 (((r2.1.1.1,(r2.1.1.2.1,(r2.1.2.1.1,(r2.1.2.1.2.1,(r2.1.2.2.1.1,(r2.1.2.2.1.2.1,(r2.1.2.2.2.1.1,(r2.1.2.2.2.1.2.1,())))))))),((0:Int),())),((x0_,(x0_',(x0'_,(x0'_',())))),(((0:Int),((0:Int),((0:Int),((0:Int),())))),())))))
              (let r3:=b139_0 (((r2.1.1.1,(r2.1.1.2.1,(r2.1.2.1.1,(r2.1.2.1.2.1,(r2.1.2.2.1.1,(r2.1.2.2.1.2.1,(r2.1.2.2.2.1.1,(r2.1.2.2.2.1.2.1,())))))))),((0:Int),())),((x0_,(x0_',(x0'_,(x0'_',())))),(((0:Int),((0:Int),((0:Int),((0:Int),())))),())));
              Tr.test (Option.isSome (f180 (([r3.2.2.1.1,r3.2.2.1.2.1,r3.2.2.1.2.2.1,r3.2.2.1.2.2.2.1]:List Int),())))
                (let r4:=g180 (([r3.2.2.1.1,r3.2.2.1.2.1,r3.2.2.1.2.2.1,r3.2.2.1.2.2.2.1]:List Int),());
                Tr.test ((leF r4.1 0:Bool))
                  (Tr.test (Option.isSome (f181 (([r3.2.2.1.1,r3.2.2.1.2.1,r3.2.2.1.2.2.1,r3.2.2.1.2.2.2.1]:List Int),())))
                    (let r5:=g181 (([r3.2.2.1.1,r3.2.2.1.2.1,r3.2.2.1.2.2.1,r3.2.2.1.2.2.2.1]:List Int),());
                    Tr.fin (((leF (0:Int) r5.1:Bool),())))
                    (Tr.stop))
                  (Tr.fin (((false:Bool),()))))
                (Tr.stop))
              (Tr.stop))
            (Tr.stop)))
        (Tr.stop)))
    (Tr.stop)

def f139 (d:Tys.data as139):Option (Tys.data rs139):=(t139 d.1.1.1 d.1.1.2.1 d.1.2.1.1 d.1.2.1.2.1 d.2.1.1.1 d.2.1.1.2.1 d.2.1.2.1.1 d.2.1.2.1.2.1).val
def g139 (d:Tys.data as139):Tys.data rs139:=(f139 d).getD (Tys.dflt rs139)
def p139:PureC:=pcOf as139 rs139 f139 g139

theorem wk139 (x0_:Int) (x0_':Int) (x0'_:Int) (x0'_':Int) (x1_:Int) (x1_':Int) (x1'_:Int) (x1'_':Int):Walks (runPure (kl139_0 Go.Proofs.Tryz.prog).orc Go.Proofs.Tryz.prog 400 139 as139 rs139 (((x0_,x0_',()),(x0'_,x0'_',()),()),((x1_,x1_',()),(x1'_,x1'_',()),()),())) (t139 x0_ x0_' x0'_ x0'_' x1_ x1_' x1'_ x1'_') [(bl 2 3,[1,2,2,2,2,2,4,1]),(bl 4 13,[2,6,4,6,1,6,6,6,8,1]),(bl 9 501,[4,4,2,1,1,4,4,6,1,1,1,8,10,12,16,14,16,1,16,16,16,18,1]),(bl 8 117,[2,2,2,2,4,1,1,1,6,8,10,14,12,14,1,14,14,14,16,1])] :=
  ⟨by kernel_rfl,by kernel_rfl,by kernel_rfl,by kernel_rfl,trivial⟩

theorem ok139_t (x0_:Int) (x0_':Int) (x0'_:Int) (x0'_':Int) (x1_:Int) (x1_':Int) (x1'_:Int) (x1'_':Int):TrOk (PureRuns Go.Proofs.Tryz.prog (kl139_0 Go.Proofs.Tryz.prog).orc 139 as139 rs139 (((x0_,x0_',()),(x0'_,x0'_',()),()),((x1_,x1_',()),(x1'_,x1'_',()),()),())) (t139 x0_ x0_' x0'_ x0'_' x1_ x1_' x1'_ x1'_') :=
  Walks.ok (fun _ _ _=>PureRuns.of) (wk139 x0_ x0_' x0'_ x0'_' x1_ x1_' x1'_ x1'_') (by kernel_rfl)

theorem ok139:PureOk Go.Proofs.Tryz.prog 139 p139:=pureOk_of kl139_0_ok.base (T:=fun (d:Tys.data as139)=>t139 d.1.1.1 d.1.1.2.1 d.1.2.1.1 d.1.2.1.2.1 d.2.1.1.1 d.2.1.1.2.1 d.2.1.2.1.1 d.2.1.2.1.2.1) (by kernel_rfl) (fun (d:Tys.data as139)=>ok139_t d.1.1.1 d.1.1.2.1 d.1.2.1.1 d.1.2.1.2.1 d.2.1.1.1 d.2.1.1.2.1 d.2.1.2.1.1 d.2.1.2.1.2.1)
def kf139 (P:Go.Program):Known:=(kl139_0 P).func 139 p139
theorem kf139_ok:KnownOk Go.Proofs.Tryz.prog (kf139 Go.Proofs.Tryz.prog):=kl139_0_ok.func ok139

/-! loop 0 of slices.IndexFunc[[]ductility/api.SafetyZone,ductility/api.SafetyZone] -/

abbrev sh176_0:Sh:={ n:=19,slots:=[0,1,7,8],pats:=[.ty (.slice (.pair (.pair (.int .i64) (.pair (.int .i64) .unit)) (.pair (.pair (.int .i64) (.pair (.int .i64) .unit)) .unit))),.mth 139 (.pair (.int .i64) (.pair (.int .i64) (.pair (.int .i64) (.pair (.int .i64) .unit)))),.ty (.int .i64),.ty (.int .i64)],boxes:=[] }
abbrev shb176_0:Sh:={ n:=19,slots:=[],pats:=[],boxes:=[] }
abbrev shr176_0:Sh:={ n:=19,slots:=[4],pats:=[.ty (.int .i64)],boxes:=[] }

def t176_0 (x0:(List ((Int×(Int×Unit))×((Int×(Int×Unit))×Unit)))) (x1:Int) (x1':Int) (x1'':Int) (x1''':Int) (x2:Int) (x3:Int):Tr (Out sh176_0.data shb176_0.data shr176_0.data) :=
  Tr.test ((!leF x2 x3:Bool))
    (Tr.test (decide ((0:Int) ≤ x3) && decide (x3 < (↑(List.length x0):Int)))
      (Tr.test (Option.isSome (f139 (((x1,(x1',())),((x1'',(x1''',())),())),(((((List.getD x0 (Int.toNat x3) (((0:Int),(0:Int),()),((0:Int),(0:Int),()),())).1.1:Int),(((List.getD x0 (Int.toNat x3) (((0:Int),(0:Int),()),((0:Int),(0:Int),()),())).1.2.1:Int),())),((((List.getD x0 (Int.toNat x3) (((0:Int),(0:Int),()),((0:Int),(0:Int),()),())).2.1.1:Int),(((List.getD x0 (Int.toNat x3) (((0:Int),(0:Int),()),((0:Int),(0:Int),()),())).2.1.2.1:Int),())),())),()))))
        (let r0:=g139 (((x1,(x1',())),((x1'',(x1''',())),())),(((((List.getD x0 (Int.toNat x3) (((0:Int),(0:Int),()),((0:Int),(0:Int),()),())).1.1:Int),(((List.getD x0 (Int.toNat x3) (((0:Int),(0:Int),()),((0:Int),(0:Int),()),())).1.2.1:Int),())),((((List.getD x0 (Int.toNat x3) (((0:Int),(0:Int),()),((0:Int),(0:Int),()),())).2.1.1:Int),(((List.getD x0 (Int.toNat x3) (((0:Int),(0:Int),()),((0:Int),(0:Int),()),())).2.1.2.1:Int),())),())),()));
        Tr.test (r0.1)
          (Tr.fin (.ret ((x3,()),())))
          (Tr.fin (.again ((x0,((x1,(x1',(x1'',(x1''',())))),(x2,((wrap64 (x3 + (1:Int)):Int),())))),()))))
        (Tr.stop))
      (Tr.stop))
    (Tr.fin (.brk ((),())))

def s176_0 (d:sh176_0.data):Option (Out sh176_0.data shb176_0.data shr176_0.data):=(t176_0 d.1.1 d.1.2.1.1 d.1.2.1.2.1 d.1.2.1.2.2.1 d.1.2.1.2.2.2.1 d.1.2.2.1 d.1.2.2.2.1).val
def l176_0 (d:sh176_0.data):Option (shb176_0.data ⊕ shr176_0.data):=itr s176_0 rounds d
def b176_0 (d:sh176_0.data):shb176_0.data:=outB shb176_0.dflt (l176_0 d)
def r176_0 (d:sh176_0.data):shr176_0.data:=outR shr176_0.dflt (l176_0 d)
def lc176_0:LoopC:=lcOf sh176_0 shb176_0 shr176_0 l176_0 b176_0 r176_0

theorem wk176_0 (x0:(List ((Int×(Int×Unit))×((Int×(Int×Unit))×Unit)))) (x1:Int) (x1':Int) (x1'':Int) (x1''':Int) (x2:Int) (x3:Int):Walks (runBody (kf139 Go.Proofs.Tryz.prog).orc Go.Proofs.Tryz.prog 400 176 0 sh176_0 shb176_0 shr176_0 ((x0,(x1,x1',x1'',x1''',()),x2,x3,()),())) (t176_0 x0 x1 x1' x1'' x1''' x2 x3) [(bl 4 15,[2,4,6,8]),(bl 4 7,[2,4,6,8]),(bl 1 0,[2])] :=
  ⟨by kernel_rfl,by kernel_rfl,by kernel_rfl,trivial⟩

theorem ok176_0_t (x0:(List ((Int×(Int×Unit))×((Int×(Int×Unit))×Unit)))) (x1:Int) (x1':Int) (x1'':Int) (x1''':Int) (x2:Int) (x3:Int):TrOk (BodyRuns Go.Proofs.Tryz.prog (kf139 Go.Proofs.Tryz.prog).orc 176 0 sh176_0 shb176_0 shr176_0 ((x0,(x1,x1',x1'',x1''',()),x2,x3,()),())) (t176_0 x0 x1 x1' x1'' x1''' x2 x3) :=
  Walks.ok (fun _ _ _=>BodyRuns.of) (wk176_0 x0 x1 x1' x1'' x1''' x2 x3) (by kernel_rfl)

theorem ok176_0:LoopOk Go.Proofs.Tryz.prog 176 0 lc176_0:=loopOk_of (sh:=sh176_0) (shB:=shb176_0) (shR:=shr176_0) kf139_ok.base (T:=fun (d:sh176_0.data)=>t176_0 d.1.1 d.1.2.1.1 d.1.2.1.2.1 d.1.2.1.2.2.1 d.1.2.1.2.2.2.1 d.1.2.2.1 d.1.2.2.2.1) (by kernel_rfl) rfl (fun (d:sh176_0.data)=>ok176_0_t d.1.1 d.1.2.1.1 d.1.2.1.2.1 d.1.2.1.2.2.1 d.1.2.1.2.2.2.1 d.1.2.2.1 d.1.2.2.2.1) (fun _=>rfl)
def kl176_0 (P:Go.Program):Known:=(kf139 P).loop 176 0 lc176_0
theorem kl176_0_ok:KnownOk Go.Proofs.Tryz.prog (kl176_0 Go.Proofs.Tryz.prog):=kf139_ok.loop ok176_0

theorem sc70_0:sameRf Go.Proofs.Tryz.prog 70 0 = true:=sameRf_ok (by kernel_rfl)

end Go.Vm.Mo
