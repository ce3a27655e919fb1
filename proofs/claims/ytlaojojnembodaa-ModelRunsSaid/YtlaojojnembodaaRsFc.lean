import Derived.Test.YtlaojojnembodaaA5
import Derived.KernelRfl
import Derived.Test.YtlaojojnembodaaProg
import Derived.Test.YtlaojojnembodaaRsFb
set_option linter.unusedVariables false
set_option linter.unusedSimpArgs false

namespace Go.Vm.Mo
open Go
set_option linter.unusedVariables false
abbrev sh33_0:Sh:={ n:=38,slots:=[0,3,5,6],pats:=[.ty (.slice (.pair (.int .i64) (.pair (.int .i64) (.pair .bool .unit)))),.ptr 0 2 0,.ty (.int .i64),.ty (.int .i64)],boxes:=[.row [.ty (.int .i64),.ty (.slice (.pair (.int .i64) (.pair .bool .unit)))]] }
abbrev shb33_0:Sh:={ n:=38,slots:=[5],pats:=[.ty (.int .i64)],boxes:=[.row [.ty (.int .i64),.ty (.slice (.pair (.int .i64) (.pair .bool .unit)))]] }
abbrev shr33_0:Sh:={ n:=38,slots:=[],pats:=[],boxes:=[.row [.ty (.int .i64),.ty (.slice (.pair (.int .i64) (.pair .bool .unit)))]] }
def t33_0 (x0:(List (Int×(Int×(Bool×Unit))))) (x2:Int) (x3:Int) (b0_0:Int) (b0_1:(List (Int×(Bool×Unit)))):Tr (Out sh33_0.data shb33_0.data shr33_0.data) :=
  Tr.test ((!leF (↑(List.length x0):Int) x3:Bool))
    (Tr.test (decide ((0:Int) ≤ x3) && decide (x3 < (↑(List.length b0_1):Int)))
      (Tr.test ((!(List.getD b0_1 (Int.toNat x3) ((0:Int),false,())).2.1:Bool))
        (Tr.test ((decide ((0:Int) ≤ x3) && decide (x3 < (↑(List.length x0):Int)):Bool))
          (Tr.fin (.again ((x0,((wrap64 (x2 + wrap64 ((List.getD x0 (Int.toNat x3) ((0:Int),(0:Int),false,())).1 * wrap64 (b0_0 - (List.getD b0_1 (Int.toNat x3) ((0:Int),false,())).1))):Int),((wrap64 (x3 + (1:Int)):Int),()))),((b0_0,(b0_1,())),()))))
          (Tr.stop))
        (Tr.fin (.again ((x0,(x2,((wrap64 (x3 + (1:Int)):Int),()))),((b0_0,(b0_1,())),())))))
      (Tr.stop))
    (Tr.fin (.brk ((x2,()),((b0_0,(b0_1,())),()))))
def s33_0 (d:sh33_0.data):Option (Out sh33_0.data shb33_0.data shr33_0.data):=(t33_0 d.1.1 d.1.2.1 d.1.2.2.1 d.2.1.1 d.2.1.2.1).val
def l33_0 (d:sh33_0.data):Option (shb33_0.data ⊕ shr33_0.data):=itr s33_0 rounds d
def b33_0 (d:sh33_0.data):shb33_0.data:=outB shb33_0.dflt (l33_0 d)
def lc33_0:LoopC:=lcB sh33_0 shb33_0 shr33_0 l33_0 b33_0
theorem wk33_0 (x0:(List (Int×(Int×(Bool×Unit))))) (x2:Int) (x3:Int) (b0_0:Int) (b0_1:(List (Int×(Bool×Unit)))):Walks (qal (kf53 Proofs.Try.prog).orc Proofs.Try.prog 400 33 0 sh33_0 shb33_0 shr33_0 ((x0,x2,x3,()),(b0_0,b0_1,()),())) (t33_0 x0 x2 x3 b0_0 b0_1) [(bl 4 15,[6,2,4,6,8]),(bl 3 3,[2,4,6]),(bl 1 0,[2])] :=
  ⟨by kernel_rfl,by kernel_rfl,by kernel_rfl,trivial⟩
theorem ok33_0_t (x0:(List (Int×(Int×(Bool×Unit))))) (x2:Int) (x3:Int) (b0_0:Int) (b0_1:(List (Int×(Bool×Unit)))):TrOk (BodyRuns Proofs.Try.prog (kf53 Proofs.Try.prog).orc 33 0 sh33_0 shb33_0 shr33_0 ((x0,x2,x3,()),(b0_0,b0_1,()),())) (t33_0 x0 x2 x3 b0_0 b0_1) :=
  Walks.ok (fun _ _ _=>BodyRuns.of) (wk33_0 x0 x2 x3 b0_0 b0_1) (by kernel_rfl)
theorem ok33_0:qau Proofs.Try.prog 33 0 lc33_0:=qay (sh:=sh33_0) (shB:=shb33_0) (shR:=shr33_0) kf53_ok.base (T:=fun (d:sh33_0.data)=>t33_0 d.1.1 d.1.2.1 d.1.2.2.1 d.2.1.1 d.2.1.2.1) (by kernel_rfl) rfl (fun (d:sh33_0.data)=>ok33_0_t d.1.1 d.1.2.1 d.1.2.2.1 d.2.1.1 d.2.1.2.1) (fun _=>rfl)
def kl33_0 (P:Go.Program):Known:=(kf53 P).loop 33 0 lc33_0
theorem kl33_0_ok:KnownOk Proofs.Try.prog (kl33_0 Proofs.Try.prog):=kf53_ok.loop ok33_0
abbrev as33:List Ty:=[(.slice (.pair (.int .i64) (.pair (.int .i64) (.pair .bool .unit)))),(.pair (.int .i64) (.pair (.slice (.pair (.int .i64) (.pair .bool .unit))) .unit))]
abbrev rs33:List Ty:=[(.int .i64)]
def t33 (x0:(List (Int×(Int×(Bool×Unit))))) (x1:Int) (x1':(List (Int×(Bool×Unit)))):Tr (Tys.data rs33) :=
  Tr.test (qbh (l33_0 ((x0,((0:Int),((0:Int),()))),((x1,(x1',())),()))))
    (let r0:=b33_0 ((x0,((0:Int),((0:Int),()))),((x1,(x1',())),()));
    Tr.fin ((r0.1.1,())))
    (Tr.stop)
def f33 (d:Tys.data as33):Option (Tys.data rs33):=(t33 d.1 d.2.1.1 d.2.1.2.1).val
def g33 (d:Tys.data as33):Tys.data rs33:=(f33 d).getD (Tys.dflt rs33)
def p33:PureC:=pcOf as33 rs33 f33 g33
theorem wk33 (x0:(List (Int×(Int×(Bool×Unit))))) (x1:Int) (x1':(List (Int×(Bool×Unit)))):Walks (runPure (kl33_0 Proofs.Try.prog).orc Proofs.Try.prog 400 33 as33 rs33 (x0,(x1,x1',()),())) (t33 x0 x1 x1') [(bl 1 1,[1,2])] :=
  ⟨by kernel_rfl,trivial⟩
theorem ok33_t (x0:(List (Int×(Int×(Bool×Unit))))) (x1:Int) (x1':(List (Int×(Bool×Unit)))):TrOk (PureRuns Proofs.Try.prog (kl33_0 Proofs.Try.prog).orc 33 as33 rs33 (x0,(x1,x1',()),())) (t33 x0 x1 x1') :=
  Walks.ok (fun _ _ _=>PureRuns.of) (wk33 x0 x1 x1') (by kernel_rfl)
theorem ok33:PureOk Proofs.Try.prog 33 p33:=qab kl33_0_ok.base (T:=fun (d:Tys.data as33)=>t33 d.1 d.2.1.1 d.2.1.2.1) (by kernel_rfl) (fun (d:Tys.data as33)=>ok33_t d.1 d.2.1.1 d.2.1.2.1)
def kf33 (P:Go.Program):Known:=(kl33_0 P).func 33 p33
theorem kf33_ok:KnownOk Proofs.Try.prog (kf33 Proofs.Try.prog):=kl33_0_ok.func ok33
abbrev as142:List Ty:=[(.pair (.slice (.pair (.int .i64) (.pair (.int .i64) (.pair (.slice (.pair (.int .i64) (.pair (.int .i64) (.pair .bool .unit)))) .unit)))) .unit),(.pair (.slice (.int .i64)) (.pair (.slice (.int .i64)) (.pair (.slice (.pair (.int .i64) (.pair (.slice (.pair (.int .i64) (.pair .bool .unit))) .unit))) .unit))),(.int .i64)]
abbrev rs142:List Ty:=[(.int .i64)]
def t142 (x0:(List (Int×(Int×((List (Int×(Int×(Bool×Unit))))×Unit))))) (x1:(List Int)) (x1':(List Int)) (x1'':(List (Int×((List (Int×(Bool×Unit)))×Unit)))) (x2:Int):Tr (Tys.data rs142) :=
  Tr.test ((decide ((0:Int) ≤ x2) && decide (x2 < (↑(List.length x0):Int)):Bool))
    (Tr.test (decide ((0:Int) ≤ x2) && decide (x2 < (↑(List.length x1''):Int)))
      (Tr.test (Option.isSome (f33 (((List.getD x0 (Int.toNat x2) ((0:Int),(0:Int),[],())).2.2.1:List (Int×Int×Bool×PUnit)),((((List.getD x1'' (Int.toNat x2) ((0:Int),[],())).1:Int),(((List.getD x1'' (Int.toNat x2) ((0:Int),[],())).2.1:List (Int×Bool×PUnit)),())),()))))
        (Tr.test ((!leF (↑(List.length x0):Int) (wrap64 (x2 + (1:Int))):Bool))
          (Tr.test ((decide ((0:Int) ≤ wrap64 (x2 + (1:Int))) && decide (wrap64 (x2 + (1:Int)) < (↑(List.length x0):Int)):Bool))
            (Tr.test ((decide ((0:Int) ≤ wrap64 (x2 + (1:Int))) && decide (wrap64 (x2 + (1:Int)) < (↑(List.length x1''):Int)):Bool))
              (Tr.test (Option.isSome (f33 (((List.getD x0 (Int.toNat (wrap64 (x2 + (1:Int)))) ((0:Int),(0:Int),[],())).2.2.1:List (Int×Int×Bool×PUnit)),((((List.getD x1'' (Int.toNat (wrap64 (x2 + (1:Int)))) ((0:Int),[],())).1:Int),(((List.getD x1'' (Int.toNat (wrap64 (x2 + (1:Int)))) ((0:Int),[],())).2.1:List (Int×Bool×PUnit)),())),()))))
                (let r0:=g33 (((List.getD x0 (Int.toNat x2) ((0:Int),(0:Int),[],())).2.2.1:List (Int×Int×Bool×PUnit)),((((List.getD x1'' (Int.toNat x2) ((0:Int),[],())).1:Int),(((List.getD x1'' (Int.toNat x2) ((0:Int),[],())).2.1:List (Int×Bool×PUnit)),())),()));
                let r1:=g33 (((List.getD x0 (Int.toNat (wrap64 (x2 + (1:Int)))) ((0:Int),(0:Int),[],())).2.2.1:List (Int×Int×Bool×PUnit)),((((List.getD x1'' (Int.toNat (wrap64 (x2 + (1:Int)))) ((0:Int),[],())).1:Int),(((List.getD x1'' (Int.toNat (wrap64 (x2 + (1:Int)))) ((0:Int),[],())).2.1:List (Int×Bool×PUnit)),())),()));
                Tr.fin (((wrap64 (Go.IntKind.wrap Go.IntKind.i64 ((0:Int) - r0.1) + r1.1):Int),())))
                (Tr.stop))
              (Tr.stop))
            (Tr.stop))
          (let r0:=g33 (((List.getD x0 (Int.toNat x2) ((0:Int),(0:Int),[],())).2.2.1:List (Int×Int×Bool×PUnit)),((((List.getD x1'' (Int.toNat x2) ((0:Int),[],())).1:Int),(((List.getD x1'' (Int.toNat x2) ((0:Int),[],())).2.1:List (Int×Bool×PUnit)),())),()));
          Tr.fin (((Go.IntKind.wrap Go.IntKind.i64 ((0:Int) - r0.1):Int),()))))
        (Tr.stop))
      (Tr.stop))
    (Tr.stop)
def f142 (d:Tys.data as142):Option (Tys.data rs142):=(t142 d.1.1 d.2.1.1 d.2.1.2.1 d.2.1.2.2.1 d.2.2.1).val
def g142 (d:Tys.data as142):Tys.data rs142:=(f142 d).getD (Tys.dflt rs142)
def p142:PureC:=pcOf as142 rs142 f142 g142
theorem wk142 (x0:(List (Int×(Int×((List (Int×(Int×(Bool×Unit))))×Unit))))) (x1:(List Int)) (x1':(List Int)) (x1'':(List (Int×((List (Int×(Bool×Unit)))×Unit)))) (x2:Int):Walks (runPure (kf33 Proofs.Try.prog).orc Proofs.Try.prog 400 142 as142 rs142 ((x0,()),(x1,x1',x1'',()),x2,())) (t142 x0 x1 x1' x1'' x2) [(bl 7 127,[2,4,6,8,10,12,14]),(bl 4 7,[2,4,6,8])] :=
  ⟨by kernel_rfl,by kernel_rfl,trivial⟩
theorem ok142_t (x0:(List (Int×(Int×((List (Int×(Int×(Bool×Unit))))×Unit))))) (x1:(List Int)) (x1':(List Int)) (x1'':(List (Int×((List (Int×(Bool×Unit)))×Unit)))) (x2:Int):TrOk (PureRuns Proofs.Try.prog (kf33 Proofs.Try.prog).orc 142 as142 rs142 ((x0,()),(x1,x1',x1'',()),x2,())) (t142 x0 x1 x1' x1'' x2) :=
  Walks.ok (fun _ _ _=>PureRuns.of) (wk142 x0 x1 x1' x1'' x2) (by kernel_rfl)
theorem ok142:PureOk Proofs.Try.prog 142 p142:=qab kf33_ok.base (T:=fun (d:Tys.data as142)=>t142 d.1.1 d.2.1.1 d.2.1.2.1 d.2.1.2.2.1 d.2.2.1) (by kernel_rfl) (fun (d:Tys.data as142)=>ok142_t d.1.1 d.2.1.1 d.2.1.2.1 d.2.1.2.2.1 d.2.2.1)
def kf142 (P:Go.Program):Known:=(kf33 P).func 142 p142
theorem kf142_ok:KnownOk Proofs.Try.prog (kf142 Proofs.Try.prog):=kf33_ok.func ok142
abbrev as141:List Ty:=[(.int .i64),(.int .i64)]
abbrev rs141:List Ty:=[(.int .i64)]
def t141 (x0:Int) (x1:Int):Tr (Tys.data rs141) :=
  Tr.test ((x1 == (0:Int):Bool))
    (Tr.stop)
    (Tr.test (!leF (0:Int) (Int.tmod x0 x1))
      (Tr.fin (((wrap64 (Go.IntKind.wrap Go.IntKind.i64 (Int.tdiv x0 x1) - (1:Int)):Int),())))
      (Tr.fin (((Go.IntKind.wrap Go.IntKind.i64 (Int.tdiv x0 x1):Int),()))))
def f141 (d:Tys.data as141):Option (Tys.data rs141):=(t141 d.1 d.2.1).val
def g141 (d:Tys.data as141):Tys.data rs141:=(f141 d).getD (Tys.dflt rs141)
def p141:PureC:=pcOf as141 rs141 f141 g141
theorem wk141 (x0:Int) (x1:Int):Walks (runPure (kf142 Proofs.Try.prog).orc Proofs.Try.prog 400 141 as141 rs141 (x0,x1,())) (t141 x0 x1) [(bl 2 2,[2,4,4]),(bl 2 0,[2,4,4])] :=
  ⟨by kernel_rfl,by kernel_rfl,trivial⟩
theorem ok141_t (x0:Int) (x1:Int):TrOk (PureRuns Proofs.Try.prog (kf142 Proofs.Try.prog).orc 141 as141 rs141 (x0,x1,())) (t141 x0 x1) :=
  Walks.ok (fun _ _ _=>PureRuns.of) (wk141 x0 x1) (by kernel_rfl)
theorem ok141:PureOk Proofs.Try.prog 141 p141:=qab kf142_ok.base (T:=fun (d:Tys.data as141)=>t141 d.1 d.2.1) (by kernel_rfl) (fun (d:Tys.data as141)=>ok141_t d.1 d.2.1)
def kf141 (P:Go.Program):Known:=(kf142 P).func 141 p141
theorem kf141_ok:KnownOk Proofs.Try.prog (kf141 Proofs.Try.prog):=kf142_ok.func ok141
abbrev sh137_0:Sh:={ n:=46,slots:=[2,3,4,7,8],pats:=[.ty (.int .i64),.ptr 0 1 0,.ptr 1 3 0,.acc (.int .i64),.ty (.int .i64)],boxes:=[.row [.ty (.slice (.pair (.int .i64) (.pair (.int .i64) (.pair (.slice (.pair (.int .i64) (.pair (.int .i64) (.pair .bool .unit)))) .unit))))],.row [.ty (.slice (.int .i64)),.ty (.slice (.int .i64)),.ty (.slice (.pair (.int .i64) (.pair (.slice (.pair (.int .i64) (.pair .bool .unit))) .unit)))]] }
abbrev shb137_0:Sh:={ n:=46,slots:=[7],pats:=[.acc (.int .i64)],boxes:=[.row [.ty (.slice (.pair (.int .i64) (.pair (.int .i64) (.pair (.slice (.pair (.int .i64) (.pair (.int .i64) (.pair .bool .unit)))) .unit))))],.row [.ty (.slice (.int .i64)),.ty (.slice (.int .i64)),.ty (.slice (.pair (.int .i64) (.pair (.slice (.pair (.int .i64) (.pair .bool .unit))) .unit)))]] }
abbrev shr137_0:Sh:={ n:=46,slots:=[],pats:=[],boxes:=[.row [.ty (.slice (.pair (.int .i64) (.pair (.int .i64) (.pair (.slice (.pair (.int .i64) (.pair (.int .i64) (.pair .bool .unit)))) .unit))))],.row [.ty (.slice (.int .i64)),.ty (.slice (.int .i64)),.ty (.slice (.pair (.int .i64) (.pair (.slice (.pair (.int .i64) (.pair .bool .unit))) .unit)))]] }
def t137_0 (x0:Int) (x3:(List Int)) (x4:Int) (b0_0:(List (Int×(Int×((List (Int×(Int×(Bool×Unit))))×Unit))))) (b1_0:(List Int)) (b1_1:(List Int)) (b1_2:(List (Int×((List (Int×(Bool×Unit)))×Unit)))):Tr (Out sh137_0.data shb137_0.data shr137_0.data) :=
  Tr.test ((!leF (↑(List.length b0_0):Int) x4:Bool))
    (Tr.test (decide ((0:Int) ≤ x4) && decide (x4 < (↑(List.length b1_0):Int)))
      (Tr.test ((decide ((0:Int) ≤ x4) && decide (x4 < (↑(List.length b1_1):Int)):Bool))
        (Tr.test (Option.isSome (f142 ((b0_0,()),((b1_0,(b1_1,(b1_2,()))),(x4,())))))
          (Tr.test ((decide ((0:Int) ≤ x4) && decide (x4 < (↑(List.length b0_0):Int)):Bool))
            (let r0:=g142 ((b0_0,()),((b1_0,(b1_1,(b1_2,()))),(x4,())));
            Tr.test (Option.isSome (f141 (r0.1,(((List.getD b0_0 (Int.toNat x4) ((0:Int),(0:Int),[],())).1:Int),()))))
              (Tr.test ((Nat.ble (((2:Nat) * (List.length x3 + (1:Nat)) + (192:Nat)) * (8:Nat)) (281474976710656:Nat) && Nat.ble (List.length x3 + (1:Nat)) (281474976710656:Nat):Bool))
                (let r1:=g141 (r0.1,(((List.getD b0_0 (Int.toNat x4) ((0:Int),(0:Int),[],())).1:Int),()));
                Tr.fin (.again ((x0,((x3++[wrap64 (wrap64 (wrap64 (wrap64 ((2:Int) * List.getD b1_0 (Int.toNat x4) (0:Int)) - List.getD b1_1 (Int.toNat x4) (0:Int)) + r1.1) - x0)]:List Int),((wrap64 (x4 + (1:Int)):Int),()))),((b0_0,()),((b1_0,(b1_1,(b1_2,()))),())))))
                (Tr.stop))
              (Tr.stop))
            (Tr.stop))
          (Tr.stop))
        (Tr.stop))
      (Tr.stop))
    (Tr.fin (.brk ((x3,()),((b0_0,()),((b1_0,(b1_1,(b1_2,()))),())))))
def s137_0 (d:sh137_0.data):Option (Out sh137_0.data shb137_0.data shr137_0.data):=(t137_0 d.1.1 d.1.2.1 d.1.2.2.1 d.2.1.1 d.2.2.1.1 d.2.2.1.2.1 d.2.2.1.2.2.1).val
def l137_0 (d:sh137_0.data):Option (shb137_0.data ⊕ shr137_0.data):=itr s137_0 rounds d
def b137_0 (d:sh137_0.data):shb137_0.data:=outB shb137_0.dflt (l137_0 d)
def lc137_0:LoopC:=lcB sh137_0 shb137_0 shr137_0 l137_0 b137_0
theorem wk137_0 (x0:Int) (x3:(List Int)) (x4:Int) (b0_0:(List (Int×(Int×((List (Int×(Int×(Bool×Unit))))×Unit))))) (b1_0:(List Int)) (b1_1:(List Int)) (b1_2:(List (Int×((List (Int×(Bool×Unit)))×Unit)))):Walks (qal (kf141 Proofs.Try.prog).orc Proofs.Try.prog 400 137 0 sh137_0 shb137_0 shr137_0 ((x0,x3,x4,()),(b0_0,()),(b1_0,b1_1,b1_2,()),())) (t137_0 x0 x3 x4 b0_0 b1_0 b1_1 b1_2) [(bl 7 127,[2,4,6,8,10,12,14]),(bl 1 0,[2])] :=
  ⟨by kernel_rfl,by kernel_rfl,trivial⟩
theorem ok137_0_t (x0:Int) (x3:(List Int)) (x4:Int) (b0_0:(List (Int×(Int×((List (Int×(Int×(Bool×Unit))))×Unit))))) (b1_0:(List Int)) (b1_1:(List Int)) (b1_2:(List (Int×((List (Int×(Bool×Unit)))×Unit)))):TrOk (BodyRuns Proofs.Try.prog (kf141 Proofs.Try.prog).orc 137 0 sh137_0 shb137_0 shr137_0 ((x0,x3,x4,()),(b0_0,()),(b1_0,b1_1,b1_2,()),())) (t137_0 x0 x3 x4 b0_0 b1_0 b1_1 b1_2) :=
  Walks.ok (fun _ _ _=>BodyRuns.of) (wk137_0 x0 x3 x4 b0_0 b1_0 b1_1 b1_2) (by kernel_rfl)
theorem ok137_0:qau Proofs.Try.prog 137 0 lc137_0:=qay (sh:=sh137_0) (shB:=shb137_0) (shR:=shr137_0) kf141_ok.base (T:=fun (d:sh137_0.data)=>t137_0 d.1.1 d.1.2.1 d.1.2.2.1 d.2.1.1 d.2.2.1.1 d.2.2.1.2.1 d.2.2.1.2.2.1) (by kernel_rfl) rfl (fun (d:sh137_0.data)=>ok137_0_t d.1.1 d.1.2.1 d.1.2.2.1 d.2.1.1 d.2.2.1.1 d.2.2.1.2.1 d.2.2.1.2.2.1) (fun _=>rfl)
def kl137_0 (P:Go.Program):Known:=(kf141 P).loop 137 0 lc137_0
theorem kl137_0_ok:KnownOk Proofs.Try.prog (kl137_0 Proofs.Try.prog):=kf141_ok.loop ok137_0
abbrev as137:List Ty:=[(.pair (.slice (.pair (.int .i64) (.pair (.int .i64) (.pair (.slice (.pair (.int .i64) (.pair (.int .i64) (.pair .bool .unit)))) .unit)))) .unit),(.pair (.slice (.int .i64)) (.pair (.slice (.int .i64)) (.pair (.slice (.pair (.int .i64) (.pair (.slice (.pair (.int .i64) (.pair .bool .unit))) .unit))) .unit))),(.int .i64)]
abbrev rs137:List Ty:=[(.slice (.int .i64))]
def t137 (x0:(List (Int×(Int×((List (Int×(Int×(Bool×Unit))))×Unit))))) (x1:(List Int)) (x1':(List Int)) (x1'':(List (Int×((List (Int×(Bool×Unit)))×Unit)))) (x2:Int):Tr (Tys.data rs137) :=
  Tr.test (qbh (l137_0 ((x2,(([]:List Int),((0:Int),()))),((x0,()),((x1,(x1',(x1'',()))),())))))
    (let r0:=b137_0 ((x2,(([]:List Int),((0:Int),()))),((x0,()),((x1,(x1',(x1'',()))),())));
    Tr.fin ((r0.1.1,())))
    (Tr.stop)
def f137 (d:Tys.data as137):Option (Tys.data rs137):=(t137 d.1.1 d.2.1.1 d.2.1.2.1 d.2.1.2.2.1 d.2.2.1).val
def g137 (d:Tys.data as137):Tys.data rs137:=(f137 d).getD (Tys.dflt rs137)
def p137:PureC:=pcOf as137 rs137 f137 g137
theorem wk137 (x0:(List (Int×(Int×((List (Int×(Int×(Bool×Unit))))×Unit))))) (x1:(List Int)) (x1':(List Int)) (x1'':(List (Int×((List (Int×(Bool×Unit)))×Unit)))) (x2:Int):Walks (runPure (kl137_0 Proofs.Try.prog).orc Proofs.Try.prog 400 137 as137 rs137 ((x0,()),(x1,x1',x1'',()),x2,())) (t137 x0 x1 x1' x1'' x2) [(bl 1 1,[1,2])] :=
  ⟨by kernel_rfl,trivial⟩
theorem ok137_t (x0:(List (Int×(Int×((List (Int×(Int×(Bool×Unit))))×Unit))))) (x1:(List Int)) (x1':(List Int)) (x1'':(List (Int×((List (Int×(Bool×Unit)))×Unit)))) (x2:Int):TrOk (PureRuns Proofs.Try.prog (kl137_0 Proofs.Try.prog).orc 137 as137 rs137 ((x0,()),(x1,x1',x1'',()),x2,())) (t137 x0 x1 x1' x1'' x2) :=
  Walks.ok (fun _ _ _=>PureRuns.of) (wk137 x0 x1 x1' x1'' x2) (by kernel_rfl)
theorem ok137:PureOk Proofs.Try.prog 137 p137:=qab kl137_0_ok.base (T:=fun (d:Tys.data as137)=>t137 d.1.1 d.2.1.1 d.2.1.2.1 d.2.1.2.2.1 d.2.2.1) (by kernel_rfl) (fun (d:Tys.data as137)=>ok137_t d.1.1 d.2.1.1 d.2.1.2.1 d.2.1.2.2.1 d.2.2.1)
def kf137 (P:Go.Program):Known:=(kl137_0 P).func 137 p137
theorem kf137_ok:KnownOk Proofs.Try.prog (kf137 Proofs.Try.prog):=kl137_0_ok.func ok137
abbrev as122:List Ty:=[(.slice (.int .i64)),(.int .i64)]
abbrev rs122:List Ty:=[(.int .i64)]
def t122 (x0:(List Int)) (x1:Int):Tr (Tys.data rs122) :=
  Tr.test ((eqF x1 0:Bool))
    (Tr.test (true && decide ((0:Int) < (↑(List.length x0):Int)))
      (Tr.fin (((List.getD x0 (0:Nat) (0:Int):Int),())))
      (Tr.stop))
    (Tr.test (decide ((0:Int) ≤ x1) && decide (x1 < (↑(List.length x0):Int)))
      (Tr.test ((decide ((0:Int) ≤ wrap64 (x1 - (1:Int))) && decide (wrap64 (x1 - (1:Int)) < (↑(List.length x0):Int)):Bool))
        (Tr.fin (((wrap64 (List.getD x0 (Int.toNat x1) (0:Int) - List.getD x0 (Int.toNat (wrap64 (x1 - (1:Int)))) (0:Int)):Int),())))
        (Tr.stop))
      (Tr.stop))
def f122 (d:Tys.data as122):Option (Tys.data rs122):=(t122 d.1 d.2.1).val
def g122 (d:Tys.data as122):Tys.data rs122:=(f122 d).getD (Tys.dflt rs122)
def p122:PureC:=pcOf as122 rs122 f122 g122
theorem wk122 (x0:(List Int)) (x1:Int):Walks (runPure (kf137 Proofs.Try.prog).orc Proofs.Try.prog 400 122 as122 rs122 (x0,x1,())) (t122 x0 x1) [(bl 2 3,[2,4]),(bl 3 6,[2,4,6])] :=
  ⟨by kernel_rfl,by kernel_rfl,trivial⟩
theorem ok122_t (x0:(List Int)) (x1:Int):TrOk (PureRuns Proofs.Try.prog (kf137 Proofs.Try.prog).orc 122 as122 rs122 (x0,x1,())) (t122 x0 x1) :=
  Walks.ok (fun _ _ _=>PureRuns.of) (wk122 x0 x1) (by kernel_rfl)
theorem ok122:PureOk Proofs.Try.prog 122 p122:=qab kf137_ok.base (T:=fun (d:Tys.data as122)=>t122 d.1 d.2.1) (by kernel_rfl) (fun (d:Tys.data as122)=>ok122_t d.1 d.2.1)
def kf122 (P:Go.Program):Known:=(kf137 P).func 122 p122
theorem kf122_ok:KnownOk Proofs.Try.prog (kf122 Proofs.Try.prog):=kf137_ok.func ok122
abbrev as86:List Ty:=[(.int .i64)]
abbrev rs86:List Ty:=[(.int .i64)]
def t86 (x0:Int):Tr (Tys.data rs86) :=
  Tr.fin (((if x0 < Go.IntKind.wrap Go.IntKind.i64 ((0:Int) - x0) then Go.IntKind.wrap Go.IntKind.i64 ((0:Int) - x0) else x0:Int),()))
def f86 (d:Tys.data as86):Option (Tys.data rs86):=(t86 d.1).val
def g86 (d:Tys.data as86):Tys.data rs86:=(f86 d).getD (Tys.dflt rs86)
def p86:PureC:=pcOf as86 rs86 f86 g86
theorem wk86 (x0:Int):Walks (runPure (kf122 Proofs.Try.prog).orc Proofs.Try.prog 400 86 as86 rs86 (x0,())) (t86 x0) [(bl 0 0,[])] :=
  ⟨by kernel_rfl,trivial⟩
theorem ok86_t (x0:Int):TrOk (PureRuns Proofs.Try.prog (kf122 Proofs.Try.prog).orc 86 as86 rs86 (x0,())) (t86 x0) :=
  Walks.ok (fun _ _ _=>PureRuns.of) (wk86 x0) (by kernel_rfl)
theorem ok86:PureOk Proofs.Try.prog 86 p86:=qab kf122_ok.base (T:=fun (d:Tys.data as86)=>t86 d.1) (by kernel_rfl) (fun (d:Tys.data as86)=>ok86_t d.1)
def kf86 (P:Go.Program):Known:=(kf122 P).func 86 p86
theorem kf86_ok:KnownOk Proofs.Try.prog (kf86 Proofs.Try.prog):=kf122_ok.func ok86
abbrev sh34_0:Sh:={ n:=72,slots:=[0,2,4,6,7,8],pats:=[.ty (.slice (.pair (.int .i64) (.pair (.int .i64) (.pair .bool .unit)))),.ty (.int .i64),.ptr 0 2 0,.ptr 1 2 0,.ptr 2 2 0,.ty (.int .i64)],boxes:=[.row [.ty (.int .i64),.ty (.slice (.pair (.int .i64) (.pair .bool .unit)))],.row [.ty (.int .i64),.nil],.row [.ty (.int .i64),.acc (.pair (.int .i64) (.pair .bool .unit))]] }
abbrev shb34_0:Sh:={ n:=72,slots:=[6,7],pats:=[.ptr 1 2 0,.ptr 2 2 0],boxes:=[.row [.ty (.int .i64),.ty (.slice (.pair (.int .i64) (.pair .bool .unit)))],.row [.ty (.int .i64),.nil],.row [.ty (.int .i64),.acc (.pair (.int .i64) (.pair .bool .unit))]] }
abbrev shr34_0:Sh:={ n:=72,slots:=[],pats:=[],boxes:=[.row [.ty (.int .i64),.ty (.slice (.pair (.int .i64) (.pair .bool .unit)))],.row [.ty (.int .i64),.nil],.row [.ty (.int .i64),.acc (.pair (.int .i64) (.pair .bool .unit))]] }
def t34_0 (x0:(List (Int×(Int×(Bool×Unit))))) (x1:Int) (x5:Int) (b0_0:Int) (b0_1:(List (Int×(Bool×Unit)))) (b1_0:Int) (b2_0:Int) (b2_1:(List (Int×(Bool×Unit)))):Tr (Out sh34_0.data shb34_0.data shr34_0.data) :=
  Tr.test ((!leF (↑(List.length x0):Int) x5:Bool))
    (Tr.test (decide ((0:Int) ≤ x5) && decide (x5 < (↑(List.length b0_1):Int)))
      (Tr.test ((!(List.getD b0_1 (Int.toNat x5) ((0:Int),false,())).2.1:Bool))
        (Tr.test (Option.isSome (f86 ((wrap64 (x1 - (List.getD b0_1 (Int.toNat x5) ((0:Int),false,())).1):Int),())))
          (Tr.test ((decide ((0:Int) ≤ x5) && decide (x5 < (↑(List.length x0):Int)):Bool))
            (let r0:=g86 ((wrap64 (x1 - (List.getD b0_1 (Int.toNat x5) ((0:Int),false,())).1):Int),());
            Tr.test ((!leF r0.1 (List.getD x0 (Int.toNat x5) ((0:Int),(0:Int),false,())).2.1:Bool))
              (Tr.test (((List.getD x0 (Int.toNat x5) ((0:Int),(0:Int),false,())).2.2.1:Bool))
                (Tr.test ((Nat.ble (((2:Nat) * (List.length b2_1 + (1:Nat)) + (192:Nat)) * (16:Nat)) (281474976710656:Nat) && Nat.ble (List.length b2_1 + (1:Nat)) (281474976710656:Nat):Bool))
                  (Tr.fin (.again ((x0,(x1,((wrap64 (x5 + (1:Int)):Int),()))),((b0_0,(b0_1,())),((b1_0,()),((b2_0,((b2_1++[((0:Int),true,())]:List (Int×Bool×PUnit)),())),()))))))
                  (Tr.stop))
                (Tr.test ((!leF (wrap64 (x1 - (List.getD b0_1 (Int.toNat x5) ((0:Int),false,())).1)) (0:Int):Bool))
                  (Tr.test ((Nat.ble (((2:Nat) * (List.length b2_1 + (1:Nat)) + (192:Nat)) * (16:Nat)) (281474976710656:Nat) && Nat.ble (List.length b2_1 + (1:Nat)) (281474976710656:Nat):Bool))
                    (Tr.fin (.again ((x0,(x1,((wrap64 (x5 + (1:Int)):Int),()))),((b0_0,(b0_1,())),((b1_0,()),((b2_0,((b2_1++[(wrap64 (x1 - (List.getD x0 (Int.toNat x5) ((0:Int),(0:Int),false,())).2.1),(List.getD b0_1 (Int.toNat x5) ((0:Int),false,())).2.1,())]:List (Int×Bool×PUnit)),())),()))))))
                    (Tr.stop))
                  (Tr.test ((Nat.ble (((2:Nat) * (List.length b2_1 + (1:Nat)) + (192:Nat)) * (16:Nat)) (281474976710656:Nat) && Nat.ble (List.length b2_1 + (1:Nat)) (281474976710656:Nat):Bool))
                    (Tr.fin (.again ((x0,(x1,((wrap64 (x5 + (1:Int)):Int),()))),((b0_0,(b0_1,())),((b1_0,()),((b2_0,((b2_1++[(wrap64 (x1 + (List.getD x0 (Int.toNat x5) ((0:Int),(0:Int),false,())).2.1),(List.getD b0_1 (Int.toNat x5) ((0:Int),false,())).2.1,())]:List (Int×Bool×PUnit)),())),()))))))
                    (Tr.stop))))
              (Tr.test ((Nat.ble (((2:Nat) * (List.length b2_1 + (1:Nat)) + (192:Nat)) * (16:Nat)) (281474976710656:Nat) && Nat.ble (List.length b2_1 + (1:Nat)) (281474976710656:Nat):Bool))
                (Tr.fin (.again ((x0,(x1,((wrap64 (x5 + (1:Int)):Int),()))),((b0_0,(b0_1,())),((b1_0,()),((b2_0,((b2_1++[((List.getD b0_1 (Int.toNat x5) ((0:Int),false,())).1,(List.getD b0_1 (Int.toNat x5) ((0:Int),false,())).2.1,())]:List (Int×Bool×PUnit)),())),()))))))
                (Tr.stop)))
            (Tr.stop))
          (Tr.stop))
        (Tr.test ((Nat.ble (((2:Nat) * (List.length b2_1 + (1:Nat)) + (192:Nat)) * (16:Nat)) (281474976710656:Nat) && Nat.ble (List.length b2_1 + (1:Nat)) (281474976710656:Nat):Bool))
          (Tr.fin (.again ((x0,(x1,((wrap64 (x5 + (1:Int)):Int),()))),((b0_0,(b0_1,())),((b1_0,()),((b2_0,((b2_1++[((List.getD b0_1 (Int.toNat x5) ((0:Int),false,())).1,(List.getD b0_1 (Int.toNat x5) ((0:Int),false,())).2.1,())]:List (Int×Bool×PUnit)),())),()))))))
          (Tr.stop)))
      (Tr.stop))
    (Tr.fin (.brk ((),((b0_0,(b0_1,())),((b1_0,()),((b2_0,(b2_1,())),()))))))
def s34_0 (d:sh34_0.data):Option (Out sh34_0.data shb34_0.data shr34_0.data):=(t34_0 d.1.1 d.1.2.1 d.1.2.2.1 d.2.1.1 d.2.1.2.1 d.2.2.1.1 d.2.2.2.1.1 d.2.2.2.1.2.1).val
def l34_0 (d:sh34_0.data):Option (shb34_0.data ⊕ shr34_0.data):=itr s34_0 rounds d
def b34_0 (d:sh34_0.data):shb34_0.data:=outB shb34_0.dflt (l34_0 d)
def lc34_0:LoopC:=lcB sh34_0 shb34_0 shr34_0 l34_0 b34_0
theorem wk34_0 (x0:(List (Int×(Int×(Bool×Unit))))) (x1:Int) (x5:Int) (b0_0:Int) (b0_1:(List (Int×(Bool×Unit)))) (b1_0:Int) (b2_0:Int) (b2_1:(List (Int×(Bool×Unit)))):Walks (qal (kf86 Proofs.Try.prog).orc Proofs.Try.prog 400 34 0 sh34_0 shb34_0 shr34_0 ((x0,x1,x5,()),(b0_0,b0_1,()),(b1_0,()),(b2_0,b2_1,()),())) (t34_0 x0 x1 x5 b0_0 b0_1 b1_0 b2_0 b2_1) [(bl 8 255,[2,4,8,6,12,12,12,12,8,12,12,12,10,12,12,14,16]),(bl 9 447,[2,10,4,6,10,8,14,14,14,14,10,14,14,14,12,14,14,16,18]),(bl 9 319,[2,10,4,6,10,8,14,14,14,14,10,14,14,14,12,14,14,16,18]),(bl 7 95,[2,4,10,10,10,10,6,10,10,10,8,10,10,12,14]),(bl 4 11,[2,0,4,4,4,4,4,4,4,4,4,6,8]),(bl 1 0,[2])] :=
  ⟨by kernel_rfl,by kernel_rfl,by kernel_rfl,by kernel_rfl,by kernel_rfl,by kernel_rfl,trivial⟩
theorem ok34_0_t (x0:(List (Int×(Int×(Bool×Unit))))) (x1:Int) (x5:Int) (b0_0:Int) (b0_1:(List (Int×(Bool×Unit)))) (b1_0:Int) (b2_0:Int) (b2_1:(List (Int×(Bool×Unit)))):TrOk (BodyRuns Proofs.Try.prog (kf86 Proofs.Try.prog).orc 34 0 sh34_0 shb34_0 shr34_0 ((x0,x1,x5,()),(b0_0,b0_1,()),(b1_0,()),(b2_0,b2_1,()),())) (t34_0 x0 x1 x5 b0_0 b0_1 b1_0 b2_0 b2_1) :=
  Walks.ok (fun _ _ _=>BodyRuns.of) (wk34_0 x0 x1 x5 b0_0 b0_1 b1_0 b2_0 b2_1) (by kernel_rfl)
theorem ok34_0:qau Proofs.Try.prog 34 0 lc34_0:=qay (sh:=sh34_0) (shB:=shb34_0) (shR:=shr34_0) kf86_ok.base (T:=fun (d:sh34_0.data)=>t34_0 d.1.1 d.1.2.1 d.1.2.2.1 d.2.1.1 d.2.1.2.1 d.2.2.1.1 d.2.2.2.1.1 d.2.2.2.1.2.1) (by kernel_rfl) rfl (fun (d:sh34_0.data)=>ok34_0_t d.1.1 d.1.2.1 d.1.2.2.1 d.2.1.1 d.2.1.2.1 d.2.2.1.1 d.2.2.2.1.1 d.2.2.2.1.2.1) (fun _=>rfl)
def kl34_0 (P:Go.Program):Known:=(kf86 P).loop 34 0 lc34_0
theorem kl34_0_ok:KnownOk Proofs.Try.prog (kl34_0 Proofs.Try.prog):=kf86_ok.loop ok34_0
abbrev as34:List Ty:=[(.slice (.pair (.int .i64) (.pair (.int .i64) (.pair .bool .unit)))),(.pair (.int .i64) (.pair (.slice (.pair (.int .i64) (.pair .bool .unit))) .unit)),(.int .i64)]
abbrev rs34:List Ty:=[(.pair (.int .i64) (.pair (.slice (.pair (.int .i64) (.pair .bool .unit))) .unit))]
def t34 (x0:(List (Int×(Int×(Bool×Unit))))) (x1:Int) (x1':(List (Int×(Bool×Unit)))) (x2:Int):Tr (Tys.data rs34) :=
  Tr.test (qbh (l34_0 ((x0,(x2,((0:Int),()))),((x1,(x1',())),(((0:Int),()),((x2,(([]:List (Int×Bool×PUnit)),())),()))))))
    (let r0:=b34_0 ((x0,(x2,((0:Int),()))),((x1,(x1',())),(((0:Int),()),((x2,(([]:List (Int×Bool×PUnit)),())),()))));
    Tr.fin (((r0.2.2.2.1.1,(r0.2.2.2.1.2.1,())),())))
    (Tr.stop)
def f34 (d:Tys.data as34):Option (Tys.data rs34):=(t34 d.1 d.2.1.1 d.2.1.2.1 d.2.2.1).val
def g34 (d:Tys.data as34):Tys.data rs34:=(f34 d).getD (Tys.dflt rs34)
def p34:PureC:=pcOf as34 rs34 f34 g34
theorem wk34 (x0:(List (Int×(Int×(Bool×Unit))))) (x1:Int) (x1':(List (Int×(Bool×Unit)))) (x2:Int):Walks (runPure (kl34_0 Proofs.Try.prog).orc Proofs.Try.prog 400 34 as34 rs34 (x0,(x1,x1',()),x2,())) (t34 x0 x1 x1' x2) [(bl 1 1,[1,2])] :=
  ⟨by kernel_rfl,trivial⟩
theorem ok34_t (x0:(List (Int×(Int×(Bool×Unit))))) (x1:Int) (x1':(List (Int×(Bool×Unit)))) (x2:Int):TrOk (PureRuns Proofs.Try.prog (kl34_0 Proofs.Try.prog).orc 34 as34 rs34 (x0,(x1,x1',()),x2,())) (t34 x0 x1 x1' x2) :=
  Walks.ok (fun _ _ _=>PureRuns.of) (wk34 x0 x1 x1' x2) (by kernel_rfl)
theorem ok34:PureOk Proofs.Try.prog 34 p34:=qab kl34_0_ok.base (T:=fun (d:Tys.data as34)=>t34 d.1 d.2.1.1 d.2.1.2.1 d.2.2.1) (by kernel_rfl) (fun (d:Tys.data as34)=>ok34_t d.1 d.2.1.1 d.2.1.2.1 d.2.2.1)
def kf34 (P:Go.Program):Known:=(kl34_0 P).func 34 p34
theorem kf34_ok:KnownOk Proofs.Try.prog (kf34 Proofs.Try.prog):=kl34_0_ok.func ok34
abbrev sh121_0:Sh:={ n:=60,slots:=[3,4,6,8,9,10],pats:=[.ptr 0 1 0,.ptr 1 3 0,.ptr 2 3 0,.ty (.slice (.int .i64)),.ptr 3 3 0,.ty (.int .i64)],boxes:=[.row [.ty (.slice (.pair (.int .i64) (.pair (.int .i64) (.pair (.slice (.pair (.int .i64) (.pair (.int .i64) (.pair .bool .unit)))) .unit))))],.row [.ty (.slice (.int .i64)),.ty (.slice (.int .i64)),.ty (.slice (.pair (.int .i64) (.pair (.slice (.pair (.int .i64) (.pair .bool .unit))) .unit)))],.row [.nil,.nil,.nil],.row [.ty (.slice (.int .i64)),.ty (.slice (.int .i64)),.acc (.pair (.int .i64) (.pair (.slice (.pair (.int .i64) (.pair .bool .unit))) .unit))]] }
abbrev shb121_0:Sh:={ n:=60,slots:=[6,9],pats:=[.ptr 2 3 0,.ptr 3 3 0],boxes:=[.row [.ty (.slice (.pair (.int .i64) (.pair (.int .i64) (.pair (.slice (.pair (.int .i64) (.pair (.int .i64) (.pair .bool .unit)))) .unit))))],.row [.ty (.slice (.int .i64)),.ty (.slice (.int .i64)),.ty (.slice (.pair (.int .i64) (.pair (.slice (.pair (.int .i64) (.pair .bool .unit))) .unit)))],.row [.nil,.nil,.nil],.row [.ty (.slice (.int .i64)),.ty (.slice (.int .i64)),.acc (.pair (.int .i64) (.pair (.slice (.pair (.int .i64) (.pair .bool .unit))) .unit))]] }
abbrev shr121_0:Sh:={ n:=60,slots:=[6,7],pats:=[.ptr 2 3 0,.ty (.int .i64)],boxes:=[.row [.ty (.slice (.pair (.int .i64) (.pair (.int .i64) (.pair (.slice (.pair (.int .i64) (.pair (.int .i64) (.pair .bool .unit)))) .unit))))],.row [.ty (.slice (.int .i64)),.ty (.slice (.int .i64)),.ty (.slice (.pair (.int .i64) (.pair (.slice (.pair (.int .i64) (.pair .bool .unit))) .unit)))],.row [.nil,.nil,.nil],.row [.ty (.slice (.int .i64)),.ty (.slice (.int .i64)),.acc (.pair (.int .i64) (.pair (.slice (.pair (.int .i64) (.pair .bool .unit))) .unit))]] }
def t121_0 (x3:(List Int)) (x5:Int) (b0_0:(List (Int×(Int×((List (Int×(Int×(Bool×Unit))))×Unit))))) (b1_0:(List Int)) (b1_1:(List Int)) (b1_2:(List (Int×((List (Int×(Bool×Unit)))×Unit)))) (b3_0:(List Int)) (b3_1:(List Int)) (b3_2:(List (Int×((List (Int×(Bool×Unit)))×Unit)))):Tr (Out sh121_0.data shb121_0.data shr121_0.data) :=
  Tr.test ((!leF (↑(List.length x3):Int) x5:Bool))
    (Tr.test (Option.isSome (f122 (x3,(x5,()))))
      (let r0:=g122 (x3,(x5,()));
      Tr.test (Option.isSome (f86 (r0.1,())))
        (Tr.test ((decide ((0:Int) ≤ x5) && decide (x5 < (↑(List.length b0_0):Int)):Bool))
          (let r1:=g86 (r0.1,());
          Tr.test ((!leF r1.1 (List.getD b0_0 (Int.toNat x5) ((0:Int),(0:Int),[],())).2.1:Bool))
            (Tr.fin (.ret ((x5,()),((b0_0,()),((b1_0,(b1_1,(b1_2,()))),((),((b3_0,(b3_1,(b3_2,()))),())))))))
            (Tr.test ((decide ((0:Int) ≤ x5) && decide (x5 < (↑(List.length b1_2):Int)):Bool))
              (Tr.test (Option.isSome (f34 (((List.getD b0_0 (Int.toNat x5) ((0:Int),(0:Int),[],())).2.2.1:List (Int×Int×Bool×PUnit)),((((List.getD b1_2 (Int.toNat x5) ((0:Int),[],())).1:Int),(((List.getD b1_2 (Int.toNat x5) ((0:Int),[],())).2.1:List (Int×Bool×PUnit)),())),(r0.1,())))))
                (Tr.test ((Nat.ble (((2:Nat) * (List.length b3_2 + (1:Nat)) + (192:Nat)) * (32:Nat)) (281474976710656:Nat) && Nat.ble (List.length b3_2 + (1:Nat)) (281474976710656:Nat):Bool))
                  (let r2:=g34 (((List.getD b0_0 (Int.toNat x5) ((0:Int),(0:Int),[],())).2.2.1:List (Int×Int×Bool×PUnit)),((((List.getD b1_2 (Int.toNat x5) ((0:Int),[],())).1:Int),(((List.getD b1_2 (Int.toNat x5) ((0:Int),[],())).2.1:List (Int×Bool×PUnit)),())),(r0.1,())));
                  Tr.fin (.again ((x3,((wrap64 (x5 + (1:Int)):Int),())),((b0_0,()),((b1_0,(b1_1,(b1_2,()))),((),((b3_0,(b3_1,((b3_2++[(r2.1.1,r2.1.2.1,())]:List (Int×List (Int×Bool×PUnit)×PUnit)),()))),())))))))
                  (Tr.stop))
                (Tr.stop))
              (Tr.stop)))
          (Tr.stop))
        (Tr.stop))
      (Tr.stop))
    (Tr.fin (.brk ((),((b0_0,()),((b1_0,(b1_1,(b1_2,()))),((),((b3_0,(b3_1,(b3_2,()))),())))))))
def s121_0 (d:sh121_0.data):Option (Out sh121_0.data shb121_0.data shr121_0.data):=(t121_0 d.1.1 d.1.2.1 d.2.1.1 d.2.2.1.1 d.2.2.1.2.1 d.2.2.1.2.2.1 d.2.2.2.2.1.1 d.2.2.2.2.1.2.1 d.2.2.2.2.1.2.2.1).val
def l121_0 (d:sh121_0.data):Option (shb121_0.data ⊕ shr121_0.data):=itr s121_0 rounds d
def b121_0 (d:sh121_0.data):shb121_0.data:=outB shb121_0.dflt (l121_0 d)
def r121_0 (d:sh121_0.data):shr121_0.data:=outR shr121_0.dflt (l121_0 d)
def lc121_0:LoopC:=lcOf sh121_0 shb121_0 shr121_0 l121_0 b121_0 r121_0
theorem wk121_0 (x3:(List Int)) (x5:Int) (b0_0:(List (Int×(Int×((List (Int×(Int×(Bool×Unit))))×Unit))))) (b1_0:(List Int)) (b1_1:(List Int)) (b1_2:(List (Int×((List (Int×(Bool×Unit)))×Unit)))) (b3_0:(List Int)) (b3_1:(List Int)) (b3_2:(List (Int×((List (Int×(Bool×Unit)))×Unit)))):Walks (qal (kf34 Proofs.Try.prog).orc Proofs.Try.prog 400 121 0 sh121_0 shb121_0 shr121_0 ((x3,x5,()),(b0_0,()),(b1_0,b1_1,b1_2,()),(),(b3_0,b3_1,b3_2,()),())) (t121_0 x3 x5 b0_0 b1_0 b1_1 b1_2 b3_0 b3_1 b3_2) [(bl 5 31,[2,4,6,8,10]),(bl 8 239,[2,4,14,6,10,8,10,12,14,16]),(bl 1 0,[2])] :=
  ⟨by kernel_rfl,by kernel_rfl,by kernel_rfl,trivial⟩
theorem ok121_0_t (x3:(List Int)) (x5:Int) (b0_0:(List (Int×(Int×((List (Int×(Int×(Bool×Unit))))×Unit))))) (b1_0:(List Int)) (b1_1:(List Int)) (b1_2:(List (Int×((List (Int×(Bool×Unit)))×Unit)))) (b3_0:(List Int)) (b3_1:(List Int)) (b3_2:(List (Int×((List (Int×(Bool×Unit)))×Unit)))):TrOk (BodyRuns Proofs.Try.prog (kf34 Proofs.Try.prog).orc 121 0 sh121_0 shb121_0 shr121_0 ((x3,x5,()),(b0_0,()),(b1_0,b1_1,b1_2,()),(),(b3_0,b3_1,b3_2,()),())) (t121_0 x3 x5 b0_0 b1_0 b1_1 b1_2 b3_0 b3_1 b3_2) :=
  Walks.ok (fun _ _ _=>BodyRuns.of) (wk121_0 x3 x5 b0_0 b1_0 b1_1 b1_2 b3_0 b3_1 b3_2) (by kernel_rfl)
theorem ok121_0:qau Proofs.Try.prog 121 0 lc121_0:=qax (sh:=sh121_0) (shB:=shb121_0) (shR:=shr121_0) kf34_ok.base (T:=fun (d:sh121_0.data)=>t121_0 d.1.1 d.1.2.1 d.2.1.1 d.2.2.1.1 d.2.2.1.2.1 d.2.2.1.2.2.1 d.2.2.2.2.1.1 d.2.2.2.2.1.2.1 d.2.2.2.2.1.2.2.1) (by kernel_rfl) rfl (fun (d:sh121_0.data)=>ok121_0_t d.1.1 d.1.2.1 d.2.1.1 d.2.2.1.1 d.2.2.1.2.1 d.2.2.1.2.2.1 d.2.2.2.2.1.1 d.2.2.2.2.1.2.1 d.2.2.2.2.1.2.2.1) (fun _=>rfl)
def kl121_0 (P:Go.Program):Known:=(kf34 P).loop 121 0 lc121_0
theorem kl121_0_ok:KnownOk Proofs.Try.prog (kl121_0 Proofs.Try.prog):=kf34_ok.loop ok121_0
abbrev as121:List Ty:=[(.pair (.slice (.pair (.int .i64) (.pair (.int .i64) (.pair (.slice (.pair (.int .i64) (.pair (.int .i64) (.pair .bool .unit)))) .unit)))) .unit),(.pair (.slice (.int .i64)) (.pair (.slice (.int .i64)) (.pair (.slice (.pair (.int .i64) (.pair (.slice (.pair (.int .i64) (.pair .bool .unit))) .unit))) .unit))),(.int .i64)]
abbrev rs121:List Ty:=[(.pair (.slice (.int .i64)) (.pair (.slice (.int .i64)) (.pair (.slice (.pair (.int .i64) (.pair (.slice (.pair (.int .i64) (.pair .bool .unit))) .unit))) .unit))),(.int .i64)]
def t121 (x0:(List (Int×(Int×((List (Int×(Int×(Bool×Unit))))×Unit))))) (x1:(List Int)) (x1':(List Int)) (x1'':(List (Int×((List (Int×(Bool×Unit)))×Unit)))) (x2:Int):Tr (Tys.data rs121) :=
  Tr.test (Option.isSome (f137 ((x0,()),((x1,(x1',(x1'',()))),(x2,())))))
    (Tr.test (Option.isSome (f47 (x1,())))
      (let r0:=g137 ((x0,()),((x1,(x1',(x1'',()))),(x2,())));
      let r1:=g47 (x1,());
      Tr.test (Option.isSome (l121_0 ((r0.1,((0:Int),())),((x0,()),((x1,(x1',(x1'',()))),((),((r0.1,(r1.1,(([]:List (Int×List (Int×Bool×PUnit)×PUnit)),()))),())))))))
        (Tr.test (qaY (l121_0 ((r0.1,((0:Int),())),((x0,()),((x1,(x1',(x1'',()))),((),((r0.1,(r1.1,(([]:List (Int×List (Int×Bool×PUnit)×PUnit)),()))),())))))))
          (let r2:=r121_0 ((r0.1,((0:Int),())),((x0,()),((x1,(x1',(x1'',()))),((),((r0.1,(r1.1,(([]:List (Int×List (Int×Bool×PUnit)×PUnit)),()))),())))));
          Tr.fin (((([]:List Int),(([]:List Int),(([]:List (Int×List (Int×Bool×PUnit)×PUnit)),()))),(r2.1.1,()))))
          (let r3:=b121_0 ((r0.1,((0:Int),())),((x0,()),((x1,(x1',(x1'',()))),((),((r0.1,(r1.1,(([]:List (Int×List (Int×Bool×PUnit)×PUnit)),()))),())))));
          Tr.fin (((r3.2.2.2.2.1.1,(r3.2.2.2.2.1.2.1,((r3.2.2.2.2.1.2.2.1:List (Int×List (Int×Bool×PUnit)×PUnit)),()))),((-1:Int),())))))
        (Tr.stop))
      (Tr.stop))
    (Tr.stop)
def f121 (d:Tys.data as121):Option (Tys.data rs121):=(t121 d.1.1 d.2.1.1 d.2.1.2.1 d.2.1.2.2.1 d.2.2.1).val
def g121 (d:Tys.data as121):Tys.data rs121:=(f121 d).getD (Tys.dflt rs121)
def p121:PureC:=pcOf as121 rs121 f121 g121
theorem wk121 (x0:(List (Int×(Int×((List (Int×(Int×(Bool×Unit))))×Unit))))) (x1:(List Int)) (x1':(List Int)) (x1'':(List (Int×((List (Int×(Bool×Unit)))×Unit)))) (x2:Int):Walks (runPure (kl121_0 Proofs.Try.prog).orc Proofs.Try.prog 400 121 as121 rs121 ((x0,()),(x1,x1',x1'',()),x2,())) (t121 x0 x1 x1' x1'' x2) [(bl 4 15,[2,4,6,8]),(bl 4 7,[2,4,6,8])] :=
  ⟨by kernel_rfl,by kernel_rfl,trivial⟩
theorem ok121_t (x0:(List (Int×(Int×((List (Int×(Int×(Bool×Unit))))×Unit))))) (x1:(List Int)) (x1':(List Int)) (x1'':(List (Int×((List (Int×(Bool×Unit)))×Unit)))) (x2:Int):TrOk (PureRuns Proofs.Try.prog (kl121_0 Proofs.Try.prog).orc 121 as121 rs121 ((x0,()),(x1,x1',x1'',()),x2,())) (t121 x0 x1 x1' x1'' x2) :=
  Walks.ok (fun _ _ _=>PureRuns.of) (wk121 x0 x1 x1' x1'' x2) (by kernel_rfl)
theorem ok121:PureOk Proofs.Try.prog 121 p121:=qab kl121_0_ok.base (T:=fun (d:Tys.data as121)=>t121 d.1.1 d.2.1.1 d.2.1.2.1 d.2.1.2.2.1 d.2.2.1) (by kernel_rfl) (fun (d:Tys.data as121)=>ok121_t d.1.1 d.2.1.1 d.2.1.2.1 d.2.1.2.2.1 d.2.2.1)
def kf121 (P:Go.Program):Known:=(kl121_0 P).func 121 p121
theorem kf121_ok:KnownOk Proofs.Try.prog (kf121 Proofs.Try.prog):=kl121_0_ok.func ok121
abbrev sh62_0:Sh:={ n:=41,slots:=[1,2,6,7,8],pats:=[.ty (.slice (.int .i64)),.ptr 0 1 0,.ptr 1 3 0,.acc (.pair (.slice (.int .i64)) (.pair (.slice (.int .i64)) (.pair (.slice (.pair (.int .i64) (.pair (.slice (.pair (.int .i64) (.pair .bool .unit))) .unit))) .unit))),.ty (.int .i64)],boxes:=[.row [.ty (.slice (.pair (.int .i64) (.pair (.int .i64) (.pair (.slice (.pair (.int .i64) (.pair (.int .i64) (.pair .bool .unit)))) .unit))))],.row [.ty (.slice (.int .i64)),.ty (.slice (.int .i64)),.ty (.slice (.pair (.int .i64) (.pair (.slice (.pair (.int .i64) (.pair .bool .unit))) .unit)))]] }
abbrev shb62_0:Sh:={ n:=41,slots:=[7],pats:=[.acc (.pair (.slice (.int .i64)) (.pair (.slice (.int .i64)) (.pair (.slice (.pair (.int .i64) (.pair (.slice (.pair (.int .i64) (.pair .bool .unit))) .unit))) .unit)))],boxes:=[.row [.ty (.slice (.pair (.int .i64) (.pair (.int .i64) (.pair (.slice (.pair (.int .i64) (.pair (.int .i64) (.pair .bool .unit)))) .unit))))],.row [.ty (.slice (.int .i64)),.ty (.slice (.int .i64)),.ty (.slice (.pair (.int .i64) (.pair (.slice (.pair (.int .i64) (.pair .bool .unit))) .unit)))]] }
abbrev shr62_0:Sh:={ n:=41,slots:=[4,5],pats:=[.acc (.pair (.slice (.int .i64)) (.pair (.slice (.int .i64)) (.pair (.slice (.pair (.int .i64) (.pair (.slice (.pair (.int .i64) (.pair .bool .unit))) .unit))) .unit))),.ty (.int .i64)],boxes:=[.row [.ty (.slice (.pair (.int .i64) (.pair (.int .i64) (.pair (.slice (.pair (.int .i64) (.pair (.int .i64) (.pair .bool .unit)))) .unit))))],.row [.ty (.slice (.int .i64)),.ty (.slice (.int .i64)),.ty (.slice (.pair (.int .i64) (.pair (.slice (.pair (.int .i64) (.pair .bool .unit))) .unit)))]] }
def t62_0 (x0:(List Int)) (x3:(List ((List Int)×((List Int)×((List (Int×((List (Int×(Bool×Unit)))×Unit)))×Unit))))) (x4:Int) (b0_0:(List (Int×(Int×((List (Int×(Int×(Bool×Unit))))×Unit))))) (b1_0:(List Int)) (b1_1:(List Int)) (b1_2:(List (Int×((List (Int×(Bool×Unit)))×Unit)))):Tr (Out sh62_0.data shb62_0.data shr62_0.data) :=
  Tr.test ((!leF (↑(List.length x0):Int) x4:Bool))
    (Tr.test (decide ((0:Int) ≤ x4) && decide (x4 < (↑(List.length x0):Int)))
      (Tr.test (Option.isSome (f121 ((b0_0,()),((b1_0,(b1_1,(b1_2,()))),((List.getD x0 (Int.toNat x4) (0:Int):Int),())))))
        (let r0:=g121 ((b0_0,()),((b1_0,(b1_1,(b1_2,()))),((List.getD x0 (Int.toNat x4) (0:Int):Int),())));
        Tr.test ((leF (0:Int) r0.2.1:Bool))
          (Tr.fin (.ret ((x3,(r0.2.1,())),((b0_0,()),((b1_0,(b1_1,(b1_2,()))),())))))
          (Tr.test ((Nat.ble (((2:Nat) * (List.length x3 + (1:Nat)) + (192:Nat)) * (72:Nat)) (281474976710656:Nat) && Nat.ble (List.length x3 + (1:Nat)) (281474976710656:Nat):Bool))
            (Tr.fin (.again ((x0,((x3++[(r0.1.1,r0.1.2.1,r0.1.2.2.1,())]:List (List Int×List Int×List (Int×List (Int×Bool×PUnit)×PUnit)×PUnit)),((wrap64 (x4 + (1:Int)):Int),()))),((b0_0,()),((r0.1.1,(r0.1.2.1,((r0.1.2.2.1:List (Int×List (Int×Bool×PUnit)×PUnit)),()))),())))))
            (Tr.stop)))
        (Tr.stop))
      (Tr.stop))
    (Tr.fin (.brk ((x3,()),((b0_0,()),((b1_0,(b1_1,(b1_2,()))),())))))
def s62_0 (d:sh62_0.data):Option (Out sh62_0.data shb62_0.data shr62_0.data):=(t62_0 d.1.1 d.1.2.1 d.1.2.2.1 d.2.1.1 d.2.2.1.1 d.2.2.1.2.1 d.2.2.1.2.2.1).val
def l62_0 (d:sh62_0.data):Option (shb62_0.data ⊕ shr62_0.data):=itr s62_0 rounds d
def b62_0 (d:sh62_0.data):shb62_0.data:=outB shb62_0.dflt (l62_0 d)
def r62_0 (d:sh62_0.data):shr62_0.data:=outR shr62_0.dflt (l62_0 d)
def lc62_0:LoopC:=lcOf sh62_0 shb62_0 shr62_0 l62_0 b62_0 r62_0
theorem wk62_0 (x0:(List Int)) (x3:(List ((List Int)×((List Int)×((List (Int×((List (Int×(Bool×Unit)))×Unit)))×Unit))))) (x4:Int) (b0_0:(List (Int×(Int×((List (Int×(Int×(Bool×Unit))))×Unit))))) (b1_0:(List Int)) (b1_1:(List Int)) (b1_2:(List (Int×((List (Int×(Bool×Unit)))×Unit)))):Walks (qal (kf121 Proofs.Try.prog).orc Proofs.Try.prog 400 62 0 sh62_0 shb62_0 shr62_0 ((x0,x3,x4,()),(b0_0,()),(b1_0,b1_1,b1_2,()),())) (t62_0 x0 x3 x4 b0_0 b1_0 b1_1 b1_2) [(bl 4 15,[2,4,6,8]),(bl 5 23,[2,4,6,8,10]),(bl 1 0,[2])] :=
  ⟨by kernel_rfl,by kernel_rfl,by kernel_rfl,trivial⟩
theorem ok62_0_t (x0:(List Int)) (x3:(List ((List Int)×((List Int)×((List (Int×((List (Int×(Bool×Unit)))×Unit)))×Unit))))) (x4:Int) (b0_0:(List (Int×(Int×((List (Int×(Int×(Bool×Unit))))×Unit))))) (b1_0:(List Int)) (b1_1:(List Int)) (b1_2:(List (Int×((List (Int×(Bool×Unit)))×Unit)))):TrOk (BodyRuns Proofs.Try.prog (kf121 Proofs.Try.prog).orc 62 0 sh62_0 shb62_0 shr62_0 ((x0,x3,x4,()),(b0_0,()),(b1_0,b1_1,b1_2,()),())) (t62_0 x0 x3 x4 b0_0 b1_0 b1_1 b1_2) :=
  Walks.ok (fun _ _ _=>BodyRuns.of) (wk62_0 x0 x3 x4 b0_0 b1_0 b1_1 b1_2) (by kernel_rfl)
theorem ok62_0:qau Proofs.Try.prog 62 0 lc62_0:=qax (sh:=sh62_0) (shB:=shb62_0) (shR:=shr62_0) kf121_ok.base (T:=fun (d:sh62_0.data)=>t62_0 d.1.1 d.1.2.1 d.1.2.2.1 d.2.1.1 d.2.2.1.1 d.2.2.1.2.1 d.2.2.1.2.2.1) (by kernel_rfl) rfl (fun (d:sh62_0.data)=>ok62_0_t d.1.1 d.1.2.1 d.1.2.2.1 d.2.1.1 d.2.2.1.1 d.2.2.1.2.1 d.2.2.1.2.2.1) (fun _=>rfl)
def kl62_0 (P:Go.Program):Known:=(kf121 P).loop 62 0 lc62_0
theorem kl62_0_ok:KnownOk Proofs.Try.prog (kl62_0 Proofs.Try.prog):=kf121_ok.loop ok62_0
abbrev as62:List Ty:=[(.pair (.slice (.pair (.int .i64) (.pair (.int .i64) (.pair (.slice (.pair (.int .i64) (.pair (.int .i64) (.pair .bool .unit)))) .unit)))) .unit),(.slice (.int .i64))]
abbrev rs62:List Ty:=[(.slice (.pair (.slice (.int .i64)) (.pair (.slice (.int .i64)) (.pair (.slice (.pair (.int .i64) (.pair (.slice (.pair (.int .i64) (.pair .bool .unit))) .unit))) .unit)))),(.int .i64)]
def t62 (x0:(List (Int×(Int×((List (Int×(Int×(Bool×Unit))))×Unit))))) (x1:(List Int)):Tr (Tys.data rs62) :=
  Tr.test (Option.isSome (f53 ((x0,()),())))
    (let r0:=g53 ((x0,()),());
    Tr.test (Option.isSome (l62_0 ((x1,(([(r0.1.1,r0.1.2.1,r0.1.2.2.1,())]:List (List Int×List Int×List (Int×List (Int×Bool×PUnit)×PUnit)×PUnit)),((0:Int),()))),((x0,()),((r0.1.1,(r0.1.2.1,((r0.1.2.2.1:List (Int×List (Int×Bool×PUnit)×PUnit)),()))),())))))
      (Tr.test (qaY (l62_0 ((x1,(([(r0.1.1,r0.1.2.1,r0.1.2.2.1,())]:List (List Int×List Int×List (Int×List (Int×Bool×PUnit)×PUnit)×PUnit)),((0:Int),()))),((x0,()),((r0.1.1,(r0.1.2.1,((r0.1.2.2.1:List (Int×List (Int×Bool×PUnit)×PUnit)),()))),())))))
        (let r1:=r62_0 ((x1,(([(r0.1.1,r0.1.2.1,r0.1.2.2.1,())]:List (List Int×List Int×List (Int×List (Int×Bool×PUnit)×PUnit)×PUnit)),((0:Int),()))),((x0,()),((r0.1.1,(r0.1.2.1,((r0.1.2.2.1:List (Int×List (Int×Bool×PUnit)×PUnit)),()))),())));
        Tr.fin (((r1.1.1:List (List Int×List Int×List (Int×List (Int×Bool×PUnit)×PUnit)×PUnit)),(r1.1.2.1,()))))
        (let r2:=b62_0 ((x1,(([(r0.1.1,r0.1.2.1,r0.1.2.2.1,())]:List (List Int×List Int×List (Int×List (Int×Bool×PUnit)×PUnit)×PUnit)),((0:Int),()))),((x0,()),((r0.1.1,(r0.1.2.1,((r0.1.2.2.1:List (Int×List (Int×Bool×PUnit)×PUnit)),()))),())));
        Tr.fin (((r2.1.1:List (List Int×List Int×List (Int×List (Int×Bool×PUnit)×PUnit)×PUnit)),((-1:Int),())))))
      (Tr.stop))
    (Tr.stop)
def f62 (d:Tys.data as62):Option (Tys.data rs62):=(t62 d.1.1 d.2.1).val
def g62 (d:Tys.data as62):Tys.data rs62:=(f62 d).getD (Tys.dflt rs62)
def p62:PureC:=pcOf as62 rs62 f62 g62
theorem wk62 (x0:(List (Int×(Int×((List (Int×(Int×(Bool×Unit))))×Unit))))) (x1:(List Int)):Walks (runPure (kl62_0 Proofs.Try.prog).orc Proofs.Try.prog 400 62 as62 rs62 ((x0,()),x1,())) (t62 x0 x1) [(bl 3 7,[2,4,6]),(bl 3 3,[2,4,6])] :=
  ⟨by kernel_rfl,by kernel_rfl,trivial⟩
theorem ok62_t (x0:(List (Int×(Int×((List (Int×(Int×(Bool×Unit))))×Unit))))) (x1:(List Int)):TrOk (PureRuns Proofs.Try.prog (kl62_0 Proofs.Try.prog).orc 62 as62 rs62 ((x0,()),x1,())) (t62 x0 x1) :=
  Walks.ok (fun _ _ _=>PureRuns.of) (wk62 x0 x1) (by kernel_rfl)
theorem ok62:PureOk Proofs.Try.prog 62 p62:=qab kl62_0_ok.base (T:=fun (d:Tys.data as62)=>t62 d.1.1 d.2.1) (by kernel_rfl) (fun (d:Tys.data as62)=>ok62_t d.1.1 d.2.1)
def kf62 (P:Go.Program):Known:=(kl62_0 P).func 62 p62
theorem kf62_ok:KnownOk Proofs.Try.prog (kf62 Proofs.Try.prog):=kl62_0_ok.func ok62
abbrev sh64_0:Sh:={ n:=26,slots:=[0,1,5],pats:=[.ty (.slice (.int .i64)),.ty (.slice (.int .i64)),.ty (.int .i64)],boxes:=[] }
abbrev shb64_0:Sh:={ n:=26,slots:=[],pats:=[],boxes:=[] }
abbrev shr64_0:Sh:={ n:=26,slots:=[4],pats:=[.ty .bool],boxes:=[] }
def t64_0 (x0:(List Int)) (x1:(List Int)) (x2:Int):Tr (Out sh64_0.data shb64_0.data shr64_0.data) :=
  Tr.test ((!leF (↑(List.length x0):Int) x2:Bool))
    (Tr.test (decide ((0:Int) ≤ x2) && decide (x2 < (↑(List.length x0):Int)))
      (Tr.test ((decide ((0:Int) ≤ x2) && decide (x2 < (↑(List.length x1):Int)):Bool))
        (Tr.test ((!eqF (List.getD x0 (Int.toNat x2) (0:Int)) (List.getD x1 (Int.toNat x2) (0:Int)):Bool))
          (Tr.fin (.ret (((false:Bool),()),())))
          (Tr.fin (.again ((x0,(x1,((wrap64 (x2 + (1:Int)):Int),()))),()))))
        (Tr.stop))
      (Tr.stop))
    (Tr.fin (.brk ((),())))
def s64_0 (d:sh64_0.data):Option (Out sh64_0.data shb64_0.data shr64_0.data):=(t64_0 d.1.1 d.1.2.1 d.1.2.2.1).val
def l64_0 (d:sh64_0.data):Option (shb64_0.data ⊕ shr64_0.data):=itr s64_0 rounds d
def b64_0 (d:sh64_0.data):shb64_0.data:=outB shb64_0.dflt (l64_0 d)
def r64_0 (d:sh64_0.data):shr64_0.data:=outR shr64_0.dflt (l64_0 d)
def lc64_0:LoopC:=lcOf sh64_0 shb64_0 shr64_0 l64_0 b64_0 r64_0
theorem wk64_0 (x0:(List Int)) (x1:(List Int)) (x2:Int):Walks (qal (kf62 Proofs.Try.prog).orc Proofs.Try.prog 400 64 0 sh64_0 shb64_0 shr64_0 ((x0,x1,x2,()),())) (t64_0 x0 x1 x2) [(bl 4 15,[2,4,6,8]),(bl 4 7,[2,4,6,8]),(bl 1 0,[2])] :=
  ⟨by kernel_rfl,by kernel_rfl,by kernel_rfl,trivial⟩
theorem ok64_0_t (x0:(List Int)) (x1:(List Int)) (x2:Int):TrOk (BodyRuns Proofs.Try.prog (kf62 Proofs.Try.prog).orc 64 0 sh64_0 shb64_0 shr64_0 ((x0,x1,x2,()),())) (t64_0 x0 x1 x2) :=
  Walks.ok (fun _ _ _=>BodyRuns.of) (wk64_0 x0 x1 x2) (by kernel_rfl)
theorem ok64_0:qau Proofs.Try.prog 64 0 lc64_0:=qax (sh:=sh64_0) (shB:=shb64_0) (shR:=shr64_0) kf62_ok.base (T:=fun (d:sh64_0.data)=>t64_0 d.1.1 d.1.2.1 d.1.2.2.1) (by kernel_rfl) rfl (fun (d:sh64_0.data)=>ok64_0_t d.1.1 d.1.2.1 d.1.2.2.1) (fun _=>rfl)
def kl64_0 (P:Go.Program):Known:=(kf62 P).loop 64 0 lc64_0
theorem kl64_0_ok:KnownOk Proofs.Try.prog (kl64_0 Proofs.Try.prog):=kf62_ok.loop ok64_0
abbrev as64:List Ty:=[(.slice (.int .i64)),(.slice (.int .i64))]
abbrev rs64:List Ty:=[.bool]
def t64 (x0:(List Int)) (x1:(List Int)):Tr (Tys.data rs64) :=
  Tr.test ((!eqF (↑(List.length x0):Int) (↑(List.length x1):Int):Bool))
    (Tr.fin ((false,())))
    (Tr.test (Option.isSome (l64_0 ((x0,(x1,((0:Int),()))),())))
      (Tr.test (qaY (l64_0 ((x0,(x1,((0:Int),()))),())))
        (let r0:=r64_0 ((x0,(x1,((0:Int),()))),());
        Tr.fin ((r0.1.1,())))
        (Tr.fin (((true:Bool),()))))
      (Tr.stop))
def f64 (d:Tys.data as64):Option (Tys.data rs64):=(t64 d.1 d.2.1).val
def g64 (d:Tys.data as64):Tys.data rs64:=(f64 d).getD (Tys.dflt rs64)
def p64:PureC:=pcOf as64 rs64 f64 g64
theorem wk64 (x0:(List Int)) (x1:(List Int)):Walks (runPure (kl64_0 Proofs.Try.prog).orc Proofs.Try.prog 400 64 as64 rs64 (x0,x1,())) (t64 x0 x1) [(bl 1 1,[2]),(bl 3 6,[2,4,6]),(bl 3 2,[2,4,6])] :=
  ⟨by kernel_rfl,by kernel_rfl,by kernel_rfl,trivial⟩
theorem ok64_t (x0:(List Int)) (x1:(List Int)):TrOk (PureRuns Proofs.Try.prog (kl64_0 Proofs.Try.prog).orc 64 as64 rs64 (x0,x1,())) (t64 x0 x1) :=
  Walks.ok (fun _ _ _=>PureRuns.of) (wk64 x0 x1) (by kernel_rfl)
theorem ok64:PureOk Proofs.Try.prog 64 p64:=qab kl64_0_ok.base (T:=fun (d:Tys.data as64)=>t64 d.1 d.2.1) (by kernel_rfl) (fun (d:Tys.data as64)=>ok64_t d.1 d.2.1)
def kf64 (P:Go.Program):Known:=(kl64_0 P).func 64 p64
theorem kf64_ok:KnownOk Proofs.Try.prog (kf64 Proofs.Try.prog):=kl64_0_ok.func ok64
abbrev sh31_0:Sh:={ n:=38,slots:=[2,3,5],pats:=[.ptr 0 2 0,.ptr 1 2 0,.ty (.int .i64)],boxes:=[.row [.ty (.int .i64),.ty (.slice (.pair (.int .i64) (.pair .bool .unit)))],.row [.ty (.int .i64),.ty (.slice (.pair (.int .i64) (.pair .bool .unit)))]] }
abbrev shb31_0:Sh:={ n:=38,slots:=[],pats:=[],boxes:=[.row [.ty (.int .i64),.ty (.slice (.pair (.int .i64) (.pair .bool .unit)))],.row [.ty (.int .i64),.ty (.slice (.pair (.int .i64) (.pair .bool .unit)))]] }
abbrev shr31_0:Sh:={ n:=38,slots:=[4],pats:=[.ty .bool],boxes:=[.row [.ty (.int .i64),.ty (.slice (.pair (.int .i64) (.pair .bool .unit)))],.row [.ty (.int .i64),.ty (.slice (.pair (.int .i64) (.pair .bool .unit)))]] }
def t31_0 (x2:Int) (b0_0:Int) (b0_1:(List (Int×(Bool×Unit)))) (b1_0:Int) (b1_1:(List (Int×(Bool×Unit)))):Tr (Out sh31_0.data shb31_0.data shr31_0.data) :=
  Tr.test ((!leF (↑(List.length b0_1):Int) x2:Bool))
    (Tr.test (decide ((0:Int) ≤ x2) && decide (x2 < (↑(List.length b0_1):Int)))
      (Tr.test ((decide ((0:Int) ≤ x2) && decide (x2 < (↑(List.length b1_1):Int)):Bool))
        (Tr.test ((!((List.getD b0_1 (Int.toNat x2) ((0:Int),false,())).1 == (List.getD b1_1 (Int.toNat x2) ((0:Int),false,())).1 && ((List.getD b0_1 (Int.toNat x2) ((0:Int),false,())).2.1 == (List.getD b1_1 (Int.toNat x2) ((0:Int),false,())).2.1 && true)):Bool))
          (Tr.fin (.ret (((false:Bool),()),((b0_0,(b0_1,())),((b1_0,(b1_1,())),())))))
          (Tr.fin (.again (((wrap64 (x2 + (1:Int)):Int),()),((b0_0,(b0_1,())),((b1_0,(b1_1,())),()))))))
        (Tr.stop))
      (Tr.stop))
    (Tr.fin (.brk ((),((b0_0,(b0_1,())),((b1_0,(b1_1,())),())))))
def s31_0 (d:sh31_0.data):Option (Out sh31_0.data shb31_0.data shr31_0.data):=(t31_0 d.1.1 d.2.1.1 d.2.1.2.1 d.2.2.1.1 d.2.2.1.2.1).val
def l31_0 (d:sh31_0.data):Option (shb31_0.data ⊕ shr31_0.data):=itr s31_0 rounds d
def b31_0 (d:sh31_0.data):shb31_0.data:=outB shb31_0.dflt (l31_0 d)
def r31_0 (d:sh31_0.data):shr31_0.data:=outR shr31_0.dflt (l31_0 d)
def lc31_0:LoopC:=lcOf sh31_0 shb31_0 shr31_0 l31_0 b31_0 r31_0
theorem wk31_0 (x2:Int) (b0_0:Int) (b0_1:(List (Int×(Bool×Unit)))) (b1_0:Int) (b1_1:(List (Int×(Bool×Unit)))):Walks (qal (kf64 Proofs.Try.prog).orc Proofs.Try.prog 400 31 0 sh31_0 shb31_0 shr31_0 ((x2,()),(b0_0,b0_1,()),(b1_0,b1_1,()),())) (t31_0 x2 b0_0 b0_1 b1_0 b1_1) [(bl 4 15,[2,4,6,8]),(bl 4 7,[2,4,6,8]),(bl 1 0,[2])] :=
  ⟨by kernel_rfl,by kernel_rfl,by kernel_rfl,trivial⟩
theorem ok31_0_t (x2:Int) (b0_0:Int) (b0_1:(List (Int×(Bool×Unit)))) (b1_0:Int) (b1_1:(List (Int×(Bool×Unit)))):TrOk (BodyRuns Proofs.Try.prog (kf64 Proofs.Try.prog).orc 31 0 sh31_0 shb31_0 shr31_0 ((x2,()),(b0_0,b0_1,()),(b1_0,b1_1,()),())) (t31_0 x2 b0_0 b0_1 b1_0 b1_1) :=
  Walks.ok (fun _ _ _=>BodyRuns.of) (wk31_0 x2 b0_0 b0_1 b1_0 b1_1) (by kernel_rfl)
theorem ok31_0:qau Proofs.Try.prog 31 0 lc31_0:=qax (sh:=sh31_0) (shB:=shb31_0) (shR:=shr31_0) kf64_ok.base (T:=fun (d:sh31_0.data)=>t31_0 d.1.1 d.2.1.1 d.2.1.2.1 d.2.2.1.1 d.2.2.1.2.1) (by kernel_rfl) rfl (fun (d:sh31_0.data)=>ok31_0_t d.1.1 d.2.1.1 d.2.1.2.1 d.2.2.1.1 d.2.2.1.2.1) (fun _=>rfl)
def kl31_0 (P:Go.Program):Known:=(kf64 P).loop 31 0 lc31_0
theorem kl31_0_ok:KnownOk Proofs.Try.prog (kl31_0 Proofs.Try.prog):=kf64_ok.loop ok31_0
abbrev as31:List Ty:=[(.pair (.int .i64) (.pair (.slice (.pair (.int .i64) (.pair .bool .unit))) .unit)),(.pair (.int .i64) (.pair (.slice (.pair (.int .i64) (.pair .bool .unit))) .unit))]
abbrev rs31:List Ty:=[.bool]
def t31 (x0:Int) (x0':(List (Int×(Bool×Unit)))) (x1:Int) (x1':(List (Int×(Bool×Unit)))):Tr (Tys.data rs31) :=
  Tr.test ((!eqF x0 x1:Bool))
    (Tr.fin ((false,())))
    (Tr.test (!eqF (↑(List.length x0'):Int) (↑(List.length x1'):Int))
      (Tr.fin (((false:Bool),())))
      (Tr.test (Option.isSome (l31_0 (((0:Int),()),((x0,(x0',())),((x1,(x1',())),())))))
        (Tr.test (qaY (l31_0 (((0:Int),()),((x0,(x0',())),((x1,(x1',())),())))))
          (let r0:=r31_0 (((0:Int),()),((x0,(x0',())),((x1,(x1',())),())));
          Tr.fin ((r0.1.1,())))
          (Tr.fin (((true:Bool),()))))
        (Tr.stop)))
def f31 (d:Tys.data as31):Option (Tys.data rs31):=(t31 d.1.1 d.1.2.1 d.2.1.1 d.2.1.2.1).val
def g31 (d:Tys.data as31):Tys.data rs31:=(f31 d).getD (Tys.dflt rs31)
def p31:PureC:=pcOf as31 rs31 f31 g31
theorem wk31 (x0:Int) (x0':(List (Int×(Bool×Unit)))) (x1:Int) (x1':(List (Int×(Bool×Unit)))):Walks (runPure (kl31_0 Proofs.Try.prog).orc Proofs.Try.prog 400 31 as31 rs31 ((x0,x0',()),(x1,x1',()),())) (t31 x0 x0' x1 x1') [(bl 1 1,[1,2,2,2,2,2,2,2,2]),(bl 2 2,[2,4,4,4,4,4,4,4,4]),(bl 4 12,[2,4,6,8,8,8,8,8,8,8,8]),(bl 4 4,[2,4,6,8,8,8,8,8,8,8,8])] :=
  ⟨by kernel_rfl,by kernel_rfl,by kernel_rfl,by kernel_rfl,trivial⟩
theorem ok31_t (x0:Int) (x0':(List (Int×(Bool×Unit)))) (x1:Int) (x1':(List (Int×(Bool×Unit)))):TrOk (PureRuns Proofs.Try.prog (kl31_0 Proofs.Try.prog).orc 31 as31 rs31 ((x0,x0',()),(x1,x1',()),())) (t31 x0 x0' x1 x1') :=
  Walks.ok (fun _ _ _=>PureRuns.of) (wk31 x0 x0' x1 x1') (by kernel_rfl)
theorem ok31:PureOk Proofs.Try.prog 31 p31:=qab kl31_0_ok.base (T:=fun (d:Tys.data as31)=>t31 d.1.1 d.1.2.1 d.2.1.1 d.2.1.2.1) (by kernel_rfl) (fun (d:Tys.data as31)=>ok31_t d.1.1 d.1.2.1 d.2.1.1 d.2.1.2.1)
def kf31 (P:Go.Program):Known:=(kl31_0 P).func 31 p31
theorem kf31_ok:KnownOk Proofs.Try.prog (kf31 Proofs.Try.prog):=kl31_0_ok.func ok31
abbrev sh50_0:Sh:={ n:=48,slots:=[2,3,5],pats:=[.ptr 0 3 0,.ptr 1 3 0,.ty (.int .i64)],boxes:=[.row [.ty (.slice (.int .i64)),.ty (.slice (.int .i64)),.ty (.slice (.pair (.int .i64) (.pair (.slice (.pair (.int .i64) (.pair .bool .unit))) .unit)))],.row [.ty (.slice (.int .i64)),.ty (.slice (.int .i64)),.ty (.slice (.pair (.int .i64) (.pair (.slice (.pair (.int .i64) (.pair .bool .unit))) .unit)))]] }
abbrev shb50_0:Sh:={ n:=48,slots:=[],pats:=[],boxes:=[.row [.ty (.slice (.int .i64)),.ty (.slice (.int .i64)),.ty (.slice (.pair (.int .i64) (.pair (.slice (.pair (.int .i64) (.pair .bool .unit))) .unit)))],.row [.ty (.slice (.int .i64)),.ty (.slice (.int .i64)),.ty (.slice (.pair (.int .i64) (.pair (.slice (.pair (.int .i64) (.pair .bool .unit))) .unit)))]] }
abbrev shr50_0:Sh:={ n:=48,slots:=[4],pats:=[.ty .bool],boxes:=[.row [.ty (.slice (.int .i64)),.ty (.slice (.int .i64)),.ty (.slice (.pair (.int .i64) (.pair (.slice (.pair (.int .i64) (.pair .bool .unit))) .unit)))],.row [.ty (.slice (.int .i64)),.ty (.slice (.int .i64)),.ty (.slice (.pair (.int .i64) (.pair (.slice (.pair (.int .i64) (.pair .bool .unit))) .unit)))]] }
def t50_0 (x2:Int) (b0_0:(List Int)) (b0_1:(List Int)) (b0_2:(List (Int×((List (Int×(Bool×Unit)))×Unit)))) (b1_0:(List Int)) (b1_1:(List Int)) (b1_2:(List (Int×((List (Int×(Bool×Unit)))×Unit)))):Tr (Out sh50_0.data shb50_0.data shr50_0.data) :=
  Tr.test ((!leF (↑(List.length b0_2):Int) x2:Bool))
    (Tr.test (decide ((0:Int) ≤ x2) && decide (x2 < (↑(List.length b0_2):Int)))
      (Tr.test ((decide ((0:Int) ≤ x2) && decide (x2 < (↑(List.length b1_2):Int)):Bool))
        (Tr.test (Option.isSome (f31 ((((List.getD b0_2 (Int.toNat x2) ((0:Int),[],())).1:Int),(((List.getD b0_2 (Int.toNat x2) ((0:Int),[],())).2.1:List (Int×Bool×PUnit)),())),((((List.getD b1_2 (Int.toNat x2) ((0:Int),[],())).1:Int),(((List.getD b1_2 (Int.toNat x2) ((0:Int),[],())).2.1:List (Int×Bool×PUnit)),())),()))))
          (let r0:=g31 ((((List.getD b0_2 (Int.toNat x2) ((0:Int),[],())).1:Int),(((List.getD b0_2 (Int.toNat x2) ((0:Int),[],())).2.1:List (Int×Bool×PUnit)),())),((((List.getD b1_2 (Int.toNat x2) ((0:Int),[],())).1:Int),(((List.getD b1_2 (Int.toNat x2) ((0:Int),[],())).2.1:List (Int×Bool×PUnit)),())),()));
          Tr.test ((!r0.1:Bool))
            (Tr.fin (.ret (((false:Bool),()),((b0_0,(b0_1,(b0_2,()))),((b1_0,(b1_1,(b1_2,()))),())))))
            (Tr.fin (.again (((wrap64 (x2 + (1:Int)):Int),()),((b0_0,(b0_1,(b0_2,()))),((b1_0,(b1_1,(b1_2,()))),()))))))
          (Tr.stop))
        (Tr.stop))
      (Tr.stop))
    (Tr.fin (.brk ((),((b0_0,(b0_1,(b0_2,()))),((b1_0,(b1_1,(b1_2,()))),())))))
def s50_0 (d:sh50_0.data):Option (Out sh50_0.data shb50_0.data shr50_0.data):=(t50_0 d.1.1 d.2.1.1 d.2.1.2.1 d.2.1.2.2.1 d.2.2.1.1 d.2.2.1.2.1 d.2.2.1.2.2.1).val
def l50_0 (d:sh50_0.data):Option (shb50_0.data ⊕ shr50_0.data):=itr s50_0 rounds d
def b50_0 (d:sh50_0.data):shb50_0.data:=outB shb50_0.dflt (l50_0 d)
def r50_0 (d:sh50_0.data):shr50_0.data:=outR shr50_0.dflt (l50_0 d)
def lc50_0:LoopC:=lcOf sh50_0 shb50_0 shr50_0 l50_0 b50_0 r50_0
theorem wk50_0 (x2:Int) (b0_0:(List Int)) (b0_1:(List Int)) (b0_2:(List (Int×((List (Int×(Bool×Unit)))×Unit)))) (b1_0:(List Int)) (b1_1:(List Int)) (b1_2:(List (Int×((List (Int×(Bool×Unit)))×Unit)))):Walks (qal (kf31 Proofs.Try.prog).orc Proofs.Try.prog 400 50 0 sh50_0 shb50_0 shr50_0 ((x2,()),(b0_0,b0_1,b0_2,()),(b1_0,b1_1,b1_2,()),())) (t50_0 x2 b0_0 b0_1 b0_2 b1_0 b1_1 b1_2) [(bl 5 31,[2,4,6,8,10]),(bl 5 15,[2,4,6,8,10]),(bl 1 0,[2])] :=
  ⟨by kernel_rfl,by kernel_rfl,by kernel_rfl,trivial⟩
theorem ok50_0_t (x2:Int) (b0_0:(List Int)) (b0_1:(List Int)) (b0_2:(List (Int×((List (Int×(Bool×Unit)))×Unit)))) (b1_0:(List Int)) (b1_1:(List Int)) (b1_2:(List (Int×((List (Int×(Bool×Unit)))×Unit)))):TrOk (BodyRuns Proofs.Try.prog (kf31 Proofs.Try.prog).orc 50 0 sh50_0 shb50_0 shr50_0 ((x2,()),(b0_0,b0_1,b0_2,()),(b1_0,b1_1,b1_2,()),())) (t50_0 x2 b0_0 b0_1 b0_2 b1_0 b1_1 b1_2) :=
  Walks.ok (fun _ _ _=>BodyRuns.of) (wk50_0 x2 b0_0 b0_1 b0_2 b1_0 b1_1 b1_2) (by kernel_rfl)
theorem ok50_0:qau Proofs.Try.prog 50 0 lc50_0:=qax (sh:=sh50_0) (shB:=shb50_0) (shR:=shr50_0) kf31_ok.base (T:=fun (d:sh50_0.data)=>t50_0 d.1.1 d.2.1.1 d.2.1.2.1 d.2.1.2.2.1 d.2.2.1.1 d.2.2.1.2.1 d.2.2.1.2.2.1) (by kernel_rfl) rfl (fun (d:sh50_0.data)=>ok50_0_t d.1.1 d.2.1.1 d.2.1.2.1 d.2.1.2.2.1 d.2.2.1.1 d.2.2.1.2.1 d.2.2.1.2.2.1) (fun _=>rfl)
def kl50_0 (P:Go.Program):Known:=(kf31 P).loop 50 0 lc50_0
theorem kl50_0_ok:KnownOk Proofs.Try.prog (kl50_0 Proofs.Try.prog):=kf31_ok.loop ok50_0
abbrev as50:List Ty:=[(.pair (.slice (.int .i64)) (.pair (.slice (.int .i64)) (.pair (.slice (.pair (.int .i64) (.pair (.slice (.pair (.int .i64) (.pair .bool .unit))) .unit))) .unit))),(.pair (.slice (.int .i64)) (.pair (.slice (.int .i64)) (.pair (.slice (.pair (.int .i64) (.pair (.slice (.pair (.int .i64) (.pair .bool .unit))) .unit))) .unit)))]
abbrev rs50:List Ty:=[.bool]
def t50 (x0:(List Int)) (x0':(List Int)) (x0'':(List (Int×((List (Int×(Bool×Unit)))×Unit)))) (x1:(List Int)) (x1':(List Int)) (x1'':(List (Int×((List (Int×(Bool×Unit)))×Unit)))):Tr (Tys.data rs50) :=
  Tr.test (Option.isSome (f64 (x0,(x1,()))))
    (let r0:=g64 (x0,(x1,()));
    Tr.test ((!r0.1:Bool))
      (Tr.fin (((false:Bool),())))
      (Tr.test (Option.isSome (f64 (x0',(x1',()))))
        (let r1:=g64 (x0',(x1',()));
        Tr.test ((!r1.1:Bool))
          (Tr.fin (((false:Bool),())))
          (Tr.test ((!eqF (↑(List.length x0''):Int) (↑(List.length x1''):Int):Bool))
            (Tr.fin (((false:Bool),())))
            (Tr.test (Option.isSome (l50_0 (((0:Int),()),((x0,(x0',(x0'',()))),((x1,(x1',(x1'',()))),())))))
              (Tr.test (qaY (l50_0 (((0:Int),()),((x0,(x0',(x0'',()))),((x1,(x1',(x1'',()))),())))))
                (let r2:=r50_0 (((0:Int),()),((x0,(x0',(x0'',()))),((x1,(x1',(x1'',()))),())));
                Tr.fin ((r2.1.1,())))
                (Tr.fin (((true:Bool),()))))
              (Tr.stop))))
        (Tr.stop)))
    (Tr.stop)
def f50 (d:Tys.data as50):Option (Tys.data rs50):=(t50 d.1.1 d.1.2.1 d.1.2.2.1 d.2.1.1 d.2.1.2.1 d.2.1.2.2.1).val
def g50 (d:Tys.data as50):Tys.data rs50:=(f50 d).getD (Tys.dflt rs50)
def p50:PureC:=pcOf as50 rs50 f50 g50
theorem wk50 (x0:(List Int)) (x0':(List Int)) (x0'':(List (Int×((List (Int×(Bool×Unit)))×Unit)))) (x1:(List Int)) (x1':(List Int)) (x1'':(List (Int×((List (Int×(Bool×Unit)))×Unit)))):Walks (runPure (kl50_0 Proofs.Try.prog).orc Proofs.Try.prog 400 50 as50 rs50 ((x0,x0',x0'',()),(x1,x1',x1'',()),())) (t50 x0 x0' x0'' x1 x1' x1'') [(bl 2 3,[1,1,1,1,1,1,1,1,1,2,2,2,2,2,2,2,4]),(bl 4 13,[1,2,2,2,2,2,2,2,2,6,6,4,6,6,6,6,6,8]),(bl 5 21,[2,4,4,4,4,4,4,4,4,8,8,6,8,8,8,8,8,10]),(bl 7 101,[2,4,6,8,8,8,8,8,8,8,8,12,12,10,12,12,12,12,12,14]),(bl 7 37,[2,4,6,8,8,8,8,8,8,8,8,12,12,10,12,12,12,12,12,14])] :=
  ⟨by kernel_rfl,by kernel_rfl,by kernel_rfl,by kernel_rfl,by kernel_rfl,trivial⟩
theorem ok50_t (x0:(List Int)) (x0':(List Int)) (x0'':(List (Int×((List (Int×(Bool×Unit)))×Unit)))) (x1:(List Int)) (x1':(List Int)) (x1'':(List (Int×((List (Int×(Bool×Unit)))×Unit)))):TrOk (PureRuns Proofs.Try.prog (kl50_0 Proofs.Try.prog).orc 50 as50 rs50 ((x0,x0',x0'',()),(x1,x1',x1'',()),())) (t50 x0 x0' x0'' x1 x1' x1'') :=
  Walks.ok (fun _ _ _=>PureRuns.of) (wk50 x0 x0' x0'' x1 x1' x1'') (by kernel_rfl)
theorem ok50:PureOk Proofs.Try.prog 50 p50:=qab kl50_0_ok.base (T:=fun (d:Tys.data as50)=>t50 d.1.1 d.1.2.1 d.1.2.2.1 d.2.1.1 d.2.1.2.1 d.2.1.2.2.1) (by kernel_rfl) (fun (d:Tys.data as50)=>ok50_t d.1.1 d.1.2.1 d.1.2.2.1 d.2.1.1 d.2.1.2.1 d.2.1.2.2.1)
def kf50 (P:Go.Program):Known:=(kl50_0 P).func 50 p50
theorem kf50_ok:KnownOk Proofs.Try.prog (kf50 Proofs.Try.prog):=kl50_0_ok.func ok50
abbrev sh63_0:Sh:={ n:=27,slots:=[0,1,5],pats:=[.ty (.slice (.pair (.slice (.int .i64)) (.pair (.slice (.int .i64)) (.pair (.slice (.pair (.int .i64) (.pair (.slice (.pair (.int .i64) (.pair .bool .unit))) .unit))) .unit)))),.ty (.slice (.pair (.slice (.int .i64)) (.pair (.slice (.int .i64)) (.pair (.slice (.pair (.int .i64) (.pair (.slice (.pair (.int .i64) (.pair .bool .unit))) .unit))) .unit)))),.ty (.int .i64)],boxes:=[] }
abbrev shb63_0:Sh:={ n:=27,slots:=[],pats:=[],boxes:=[] }
abbrev shr63_0:Sh:={ n:=27,slots:=[4],pats:=[.ty .bool],boxes:=[] }
def t63_0 (x0:(List ((List Int)×((List Int)×((List (Int×((List (Int×(Bool×Unit)))×Unit)))×Unit))))) (x1:(List ((List Int)×((List Int)×((List (Int×((List (Int×(Bool×Unit)))×Unit)))×Unit))))) (x2:Int):Tr (Out sh63_0.data shb63_0.data shr63_0.data) :=
  Tr.test ((!leF (↑(List.length x0):Int) x2:Bool))
    (Tr.test (decide ((0:Int) ≤ x2) && decide (x2 < (↑(List.length x0):Int)))
      (Tr.test ((decide ((0:Int) ≤ x2) && decide (x2 < (↑(List.length x1):Int)):Bool))
        (Tr.test (Option.isSome (f50 ((((List.getD x0 (Int.toNat x2) ([],[],[],())).1:List Int),(((List.getD x0 (Int.toNat x2) ([],[],[],())).2.1:List Int),(((List.getD x0 (Int.toNat x2) ([],[],[],())).2.2.1:List (Int×List (Int×Bool×PUnit)×PUnit)),()))),((((List.getD x1 (Int.toNat x2) ([],[],[],())).1:List Int),(((List.getD x1 (Int.toNat x2) ([],[],[],())).2.1:List Int),(((List.getD x1 (Int.toNat x2) ([],[],[],())).2.2.1:List (Int×List (Int×Bool×PUnit)×PUnit)),()))),()))))
          (let r0:=g50 ((((List.getD x0 (Int.toNat x2) ([],[],[],())).1:List Int),(((List.getD x0 (Int.toNat x2) ([],[],[],())).2.1:List Int),(((List.getD x0 (Int.toNat x2) ([],[],[],())).2.2.1:List (Int×List (Int×Bool×PUnit)×PUnit)),()))),((((List.getD x1 (Int.toNat x2) ([],[],[],())).1:List Int),(((List.getD x1 (Int.toNat x2) ([],[],[],())).2.1:List Int),(((List.getD x1 (Int.toNat x2) ([],[],[],())).2.2.1:List (Int×List (Int×Bool×PUnit)×PUnit)),()))),()));
          Tr.test ((!r0.1:Bool))
            (Tr.fin (.ret (((false:Bool),()),())))
            (Tr.fin (.again ((x0,(x1,((wrap64 (x2 + (1:Int)):Int),()))),()))))
          (Tr.stop))
        (Tr.stop))
      (Tr.stop))
    (Tr.fin (.brk ((),())))
def s63_0 (d:sh63_0.data):Option (Out sh63_0.data shb63_0.data shr63_0.data):=(t63_0 d.1.1 d.1.2.1 d.1.2.2.1).val
def l63_0 (d:sh63_0.data):Option (shb63_0.data ⊕ shr63_0.data):=itr s63_0 rounds d
def b63_0 (d:sh63_0.data):shb63_0.data:=outB shb63_0.dflt (l63_0 d)
def r63_0 (d:sh63_0.data):shr63_0.data:=outR shr63_0.dflt (l63_0 d)
def lc63_0:LoopC:=lcOf sh63_0 shb63_0 shr63_0 l63_0 b63_0 r63_0
theorem wk63_0 (x0:(List ((List Int)×((List Int)×((List (Int×((List (Int×(Bool×Unit)))×Unit)))×Unit))))) (x1:(List ((List Int)×((List Int)×((List (Int×((List (Int×(Bool×Unit)))×Unit)))×Unit))))) (x2:Int):Walks (qal (kf50 Proofs.Try.prog).orc Proofs.Try.prog 400 63 0 sh63_0 shb63_0 shr63_0 ((x0,x1,x2,()),())) (t63_0 x0 x1 x2) [(bl 5 31,[2,4,6,8,10]),(bl 5 15,[2,4,6,8,10]),(bl 1 0,[2])] :=
  ⟨by kernel_rfl,by kernel_rfl,by kernel_rfl,trivial⟩
theorem ok63_0_t (x0:(List ((List Int)×((List Int)×((List (Int×((List (Int×(Bool×Unit)))×Unit)))×Unit))))) (x1:(List ((List Int)×((List Int)×((List (Int×((List (Int×(Bool×Unit)))×Unit)))×Unit))))) (x2:Int):TrOk (BodyRuns Proofs.Try.prog (kf50 Proofs.Try.prog).orc 63 0 sh63_0 shb63_0 shr63_0 ((x0,x1,x2,()),())) (t63_0 x0 x1 x2) :=
  Walks.ok (fun _ _ _=>BodyRuns.of) (wk63_0 x0 x1 x2) (by kernel_rfl)
theorem ok63_0:qau Proofs.Try.prog 63 0 lc63_0:=qax (sh:=sh63_0) (shB:=shb63_0) (shR:=shr63_0) kf50_ok.base (T:=fun (d:sh63_0.data)=>t63_0 d.1.1 d.1.2.1 d.1.2.2.1) (by kernel_rfl) rfl (fun (d:sh63_0.data)=>ok63_0_t d.1.1 d.1.2.1 d.1.2.2.1) (fun _=>rfl)
def kl63_0 (P:Go.Program):Known:=(kf50 P).loop 63 0 lc63_0
theorem kl63_0_ok:KnownOk Proofs.Try.prog (kl63_0 Proofs.Try.prog):=kf50_ok.loop ok63_0
abbrev as63:List Ty:=[(.slice (.pair (.slice (.int .i64)) (.pair (.slice (.int .i64)) (.pair (.slice (.pair (.int .i64) (.pair (.slice (.pair (.int .i64) (.pair .bool .unit))) .unit))) .unit)))),(.slice (.pair (.slice (.int .i64)) (.pair (.slice (.int .i64)) (.pair (.slice (.pair (.int .i64) (.pair (.slice (.pair (.int .i64) (.pair .bool .unit))) .unit))) .unit))))]
abbrev rs63:List Ty:=[.bool]
def t63 (x0:(List ((List Int)×((List Int)×((List (Int×((List (Int×(Bool×Unit)))×Unit)))×Unit))))) (x1:(List ((List Int)×((List Int)×((List (Int×((List (Int×(Bool×Unit)))×Unit)))×Unit))))):Tr (Tys.data rs63) :=
  Tr.test ((!eqF (↑(List.length x0):Int) (↑(List.length x1):Int):Bool))
    (Tr.fin ((false,())))
    (Tr.test (Option.isSome (l63_0 ((x0,(x1,((0:Int),()))),())))
      (Tr.test (qaY (l63_0 ((x0,(x1,((0:Int),()))),())))
        (let r0:=r63_0 ((x0,(x1,((0:Int),()))),());
        Tr.fin ((r0.1.1,())))
        (Tr.fin (((true:Bool),()))))
      (Tr.stop))
def f63 (d:Tys.data as63):Option (Tys.data rs63):=(t63 d.1 d.2.1).val
def g63 (d:Tys.data as63):Tys.data rs63:=(f63 d).getD (Tys.dflt rs63)
def p63:PureC:=pcOf as63 rs63 f63 g63
theorem wk63 (x0:(List ((List Int)×((List Int)×((List (Int×((List (Int×(Bool×Unit)))×Unit)))×Unit))))) (x1:(List ((List Int)×((List Int)×((List (Int×((List (Int×(Bool×Unit)))×Unit)))×Unit))))):Walks (runPure (kl63_0 Proofs.Try.prog).orc Proofs.Try.prog 400 63 as63 rs63 (x0,x1,())) (t63 x0 x1) [(bl 1 1,[2]),(bl 3 6,[2,4,6]),(bl 3 2,[2,4,6])] :=
  ⟨by kernel_rfl,by kernel_rfl,by kernel_rfl,trivial⟩
theorem ok63_t (x0:(List ((List Int)×((List Int)×((List (Int×((List (Int×(Bool×Unit)))×Unit)))×Unit))))) (x1:(List ((List Int)×((List Int)×((List (Int×((List (Int×(Bool×Unit)))×Unit)))×Unit))))):TrOk (PureRuns Proofs.Try.prog (kl63_0 Proofs.Try.prog).orc 63 as63 rs63 (x0,x1,())) (t63 x0 x1) :=
  Walks.ok (fun _ _ _=>PureRuns.of) (wk63 x0 x1) (by kernel_rfl)
theorem ok63:PureOk Proofs.Try.prog 63 p63:=qab kl63_0_ok.base (T:=fun (d:Tys.data as63)=>t63 d.1 d.2.1) (by kernel_rfl) (fun (d:Tys.data as63)=>ok63_t d.1 d.2.1)
def kf63 (P:Go.Program):Known:=(kl63_0 P).func 63 p63
theorem kf63_ok:KnownOk Proofs.Try.prog (kf63 Proofs.Try.prog):=kl63_0_ok.func ok63
abbrev sh65_2:Sh:={ n:=45,slots:=[1,5,6,7],pats:=[.ty (.slice (.pair (.slice (.int .i64)) (.pair (.slice (.int .i64)) (.pair (.slice (.pair (.int .i64) (.pair (.slice (.pair (.int .i64) (.pair .bool .unit))) .unit))) .unit)))),.sli 0 1,.ty (.int .i64),.ty (.int .i64)],boxes:=[.arr (.int .i64)] }
abbrev shb65_2:Sh:={ n:=45,slots:=[1,5,6],pats:=[.ty (.slice (.pair (.slice (.int .i64)) (.pair (.slice (.int .i64)) (.pair (.slice (.pair (.int .i64) (.pair (.slice (.pair (.int .i64) (.pair .bool .unit))) .unit))) .unit)))),.sli 0 1,.ty (.int .i64)],boxes:=[.arr (.int .i64)] }
abbrev shr65_2:Sh:={ n:=45,slots:=[],pats:=[],boxes:=[.arr (.int .i64)] }
def t65_2 (x0:(List ((List Int)×((List Int)×((List (Int×((List (Int×(Bool×Unit)))×Unit)))×Unit))))) (x1n:Nat) (x1c:Nat) (x2:Int) (x3:Int) (b0:(List Int)):Tr (Out sh65_2.data shb65_2.data shr65_2.data) :=
  Tr.test ((!leF (↑x1n:Int) x3:Bool))
    (Tr.test (decide ((0:Int) ≤ x2) && decide (x2 < (↑(List.length x0):Int)))
      (Tr.test (Option.isSome (f122 (((List.getD x0 (Int.toNat x2) ([],[],[],())).1:List Int),(x3,()))))
        (let r0:=g122 (((List.getD x0 (Int.toNat x2) ([],[],[],())).1:List Int),(x3,()));
        Tr.test (Option.isSome (f86 (r0.1,())))
          (Tr.test ((decide ((0:Int) ≤ x3) && decide (x3 < (↑x1n:Int)):Bool))
            (Tr.test ((Nat.ble ((0:Nat) + Int.toNat x3 + (1:Nat)) (List.length b0):Bool))
              (Tr.test (Option.isSome (f86 ((List.getD b0 ((0:Nat) + Int.toNat x3) (0:Int):Int),())))
                (let r1:=g86 (r0.1,());
                let r2:=g86 ((List.getD b0 ((0:Nat) + Int.toNat x3) (0:Int):Int),());
                Tr.test ((!leF r1.1 r2.1:Bool))
                  (Tr.fin (.again ((x0,((x1n,x1c),(x2,((wrap64 (x3 + (1:Int)):Int),())))),((List.set b0 ((0:Nat) + Int.toNat x3) r0.1:List Int),()))))
                  (Tr.fin (.again ((x0,((x1n,x1c),(x2,((wrap64 (x3 + (1:Int)):Int),())))),(b0,())))))
                (Tr.stop))
              (Tr.stop))
            (Tr.stop))
          (Tr.stop))
        (Tr.stop))
      (Tr.stop))
    (Tr.fin (.brk ((x0,((x1n,x1c),(x2,()))),(b0,()))))
def s65_2 (d:sh65_2.data):Option (Out sh65_2.data shb65_2.data shr65_2.data):=(t65_2 d.1.1 d.1.2.1.1 d.1.2.1.2 d.1.2.2.1 d.1.2.2.2.1 d.2.1).val
def l65_2 (d:sh65_2.data):Option (shb65_2.data ⊕ shr65_2.data):=itr s65_2 rounds d
def b65_2 (d:sh65_2.data):shb65_2.data:=outB shb65_2.dflt (l65_2 d)
def lc65_2:LoopC:=lcB sh65_2 shb65_2 shr65_2 l65_2 b65_2
theorem wk65_2 (x0:(List ((List Int)×((List Int)×((List (Int×((List (Int×(Bool×Unit)))×Unit)))×Unit))))) (x1n:Nat) (x1c:Nat) (x2:Int) (x3:Int) (b0:(List Int)):Walks (qal (kf63 Proofs.Try.prog).orc Proofs.Try.prog 400 65 2 sh65_2 shb65_2 shr65_2 ((x0,(x1n,x1c),x2,x3,()),b0,())) (t65_2 x0 x1n x1c x2 x3 b0) [(bl 8 255,[6,8,2,4,6,8,10,12,14,16]),(bl 8 127,[2,4,6,8,10,12,14,16]),(bl 1 0,[2])] :=
  ⟨by kernel_rfl,by kernel_rfl,by kernel_rfl,trivial⟩
theorem ok65_2_t (x0:(List ((List Int)×((List Int)×((List (Int×((List (Int×(Bool×Unit)))×Unit)))×Unit))))) (x1n:Nat) (x1c:Nat) (x2:Int) (x3:Int) (b0:(List Int)):TrOk (BodyRuns Proofs.Try.prog (kf63 Proofs.Try.prog).orc 65 2 sh65_2 shb65_2 shr65_2 ((x0,(x1n,x1c),x2,x3,()),b0,())) (t65_2 x0 x1n x1c x2 x3 b0) :=
  Walks.ok (fun _ _ _=>BodyRuns.of) (wk65_2 x0 x1n x1c x2 x3 b0) (by kernel_rfl)
theorem ok65_2:qau Proofs.Try.prog 65 2 lc65_2:=qay (sh:=sh65_2) (shB:=shb65_2) (shR:=shr65_2) kf63_ok.base (T:=fun (d:sh65_2.data)=>t65_2 d.1.1 d.1.2.1.1 d.1.2.1.2 d.1.2.2.1 d.1.2.2.2.1 d.2.1) (by kernel_rfl) rfl (fun (d:sh65_2.data)=>ok65_2_t d.1.1 d.1.2.1.1 d.1.2.1.2 d.1.2.2.1 d.1.2.2.2.1 d.2.1) (fun _=>rfl)
def kl65_2 (P:Go.Program):Known:=(kf63 P).loop 65 2 lc65_2
theorem kl65_2_ok:KnownOk Proofs.Try.prog (kl65_2 Proofs.Try.prog):=kf63_ok.loop ok65_2
abbrev sh65_0:Sh:={ n:=45,slots:=[1,5,6],pats:=[.ty (.slice (.pair (.slice (.int .i64)) (.pair (.slice (.int .i64)) (.pair (.slice (.pair (.int .i64) (.pair (.slice (.pair (.int .i64) (.pair .bool .unit))) .unit))) .unit)))),.sli 0 1,.ty (.int .i64)],boxes:=[.arr (.int .i64)] }
abbrev shb65_0:Sh:={ n:=45,slots:=[5],pats:=[.sli 0 1],boxes:=[.arr (.int .i64)] }
abbrev shr65_0:Sh:={ n:=45,slots:=[],pats:=[],boxes:=[.arr (.int .i64)] }
def t65_0 (x0:(List ((List Int)×((List Int)×((List (Int×((List (Int×(Bool×Unit)))×Unit)))×Unit))))) (x1n:Nat) (x1c:Nat) (x2:Int) (b0:(List Int)):Tr (Out sh65_0.data shb65_0.data shr65_0.data) :=
  Tr.test ((!leF (↑(List.length x0):Int) x2:Bool))
    (Tr.test (qbh (l65_2 ((x0,((x1n,x1c),(x2,((0:Int),())))),(b0,()))))
      (let r0:=b65_2 ((x0,((x1n,x1c),(x2,((0:Int),())))),(b0,()));
      Tr.fin (.again (((r0.1.1:List (List Int×List Int×List (Int×List (Int×Bool×PUnit)×PUnit)×PUnit)),((r0.1.2.1.1,r0.1.2.1.2),((wrap64 (r0.1.2.2.1 + (1:Int)):Int),()))),(r0.2.1,()))))
      (Tr.stop))
    (Tr.fin (.brk (((x1n,x1c),()),(b0,()))))
def s65_0 (d:sh65_0.data):Option (Out sh65_0.data shb65_0.data shr65_0.data):=(t65_0 d.1.1 d.1.2.1.1 d.1.2.1.2 d.1.2.2.1 d.2.1).val
def l65_0 (d:sh65_0.data):Option (shb65_0.data ⊕ shr65_0.data):=itr s65_0 rounds d
def b65_0 (d:sh65_0.data):shb65_0.data:=outB shb65_0.dflt (l65_0 d)
def lc65_0:LoopC:=lcB sh65_0 shb65_0 shr65_0 l65_0 b65_0
theorem wk65_0 (x0:(List ((List Int)×((List Int)×((List (Int×((List (Int×(Bool×Unit)))×Unit)))×Unit))))) (x1n:Nat) (x1c:Nat) (x2:Int) (b0:(List Int)):Walks (qal (kl65_2 Proofs.Try.prog).orc Proofs.Try.prog 400 65 0 sh65_0 shb65_0 shr65_0 ((x0,(x1n,x1c),x2,()),b0,())) (t65_0 x0 x1n x1c x2 b0) [(bl 2 3,[1,2,4]),(bl 1 0,[2])] :=
  ⟨by kernel_rfl,by kernel_rfl,trivial⟩
theorem ok65_0_t (x0:(List ((List Int)×((List Int)×((List (Int×((List (Int×(Bool×Unit)))×Unit)))×Unit))))) (x1n:Nat) (x1c:Nat) (x2:Int) (b0:(List Int)):TrOk (BodyRuns Proofs.Try.prog (kl65_2 Proofs.Try.prog).orc 65 0 sh65_0 shb65_0 shr65_0 ((x0,(x1n,x1c),x2,()),b0,())) (t65_0 x0 x1n x1c x2 b0) :=
  Walks.ok (fun _ _ _=>BodyRuns.of) (wk65_0 x0 x1n x1c x2 b0) (by kernel_rfl)
theorem ok65_0:qau Proofs.Try.prog 65 0 lc65_0:=qay (sh:=sh65_0) (shB:=shb65_0) (shR:=shr65_0) kl65_2_ok.base (T:=fun (d:sh65_0.data)=>t65_0 d.1.1 d.1.2.1.1 d.1.2.1.2 d.1.2.2.1 d.2.1) (by kernel_rfl) rfl (fun (d:sh65_0.data)=>ok65_0_t d.1.1 d.1.2.1.1 d.1.2.1.2 d.1.2.2.1 d.2.1) (fun _=>rfl)
def kl65_0 (P:Go.Program):Known:=(kl65_2 P).loop 65 0 lc65_0
theorem kl65_0_ok:KnownOk Proofs.Try.prog (kl65_0 Proofs.Try.prog):=kl65_2_ok.loop ok65_0
abbrev as65:List Ty:=[(.pair (.slice (.pair (.int .i64) (.pair (.int .i64) (.pair (.slice (.pair (.int .i64) (.pair (.int .i64) (.pair .bool .unit)))) .unit)))) .unit),(.slice (.pair (.slice (.int .i64)) (.pair (.slice (.int .i64)) (.pair (.slice (.pair (.int .i64) (.pair (.slice (.pair (.int .i64) (.pair .bool .unit))) .unit))) .unit))))]
abbrev rs65:List Ty:=[(.slice (.int .i64))]
def t65 (x0:(List (Int×(Int×((List (Int×(Int×(Bool×Unit))))×Unit))))) (x1:(List ((List Int)×((List Int)×((List (Int×((List (Int×(Bool×Unit)))×Unit)))×Unit))))):Tr (Tys.data rs65) :=
  Tr.test ((decide ((0:Int) ≤ (↑(List.length x0):Int)) && decide ((↑(List.length x0):Int) ≤ (↑(List.length x0):Int)) && decide ((8:Int) * (↑(List.length x0):Int) ≤ (281474976710656:Int)) && decide ((↑(List.length x0):Int) ≤ (281474976710656:Int)):Bool))
    (Tr.test (qbh (l65_0 ((x1,(((Int.toNat (↑(List.length x0):Int):Nat),(Int.toNat (↑(List.length x0):Int):Nat)),((0:Int),()))),((List.replicate (Int.toNat (↑(List.length x0):Int)) (0:Int):List Int),()))))
      (let r0:=b65_0 ((x1,(((Int.toNat (↑(List.length x0):Int):Nat),(Int.toNat (↑(List.length x0):Int):Nat)),((0:Int),()))),((List.replicate (Int.toNat (↑(List.length x0):Int)) (0:Int):List Int),()));
      Tr.test ((Nat.beq r0.1.1.1 (List.length r0.2.1):Bool))
        (Tr.fin ((r0.2.1,())))
        (Tr.test ((Nat.ble r0.1.1.1 (List.length r0.2.1):Bool))
          (Tr.fin (((List.take r0.1.1.1 r0.2.1:List Int),())))
          (Tr.stop)))
      (Tr.stop))
    (Tr.stop)
def f65 (d:Tys.data as65):Option (Tys.data rs65):=(t65 d.1.1 d.2.1).val
def g65 (d:Tys.data as65):Tys.data rs65:=(f65 d).getD (Tys.dflt rs65)
def p65:PureC:=pcOf as65 rs65 f65 g65
theorem wk65 (x0:(List (Int×(Int×((List (Int×(Int×(Bool×Unit))))×Unit))))) (x1:(List ((List Int)×((List Int)×((List (Int×((List (Int×(Bool×Unit)))×Unit)))×Unit))))):Walks (runPure (kl65_0 Proofs.Try.prog).orc Proofs.Try.prog 400 65 as65 rs65 ((x0,()),x1,())) (t65 x0 x1) [(bl 3 7,[2,1,4,6]),(bl 4 11,[2,4,1,6,8])] :=
  ⟨by kernel_rfl,by kernel_rfl,trivial⟩
theorem ok65_t (x0:(List (Int×(Int×((List (Int×(Int×(Bool×Unit))))×Unit))))) (x1:(List ((List Int)×((List Int)×((List (Int×((List (Int×(Bool×Unit)))×Unit)))×Unit))))):TrOk (PureRuns Proofs.Try.prog (kl65_0 Proofs.Try.prog).orc 65 as65 rs65 ((x0,()),x1,())) (t65 x0 x1) :=
  Walks.ok (fun _ _ _=>PureRuns.of) (wk65 x0 x1) (by kernel_rfl)
theorem ok65:PureOk Proofs.Try.prog 65 p65:=qab kl65_0_ok.base (T:=fun (d:Tys.data as65)=>t65 d.1.1 d.2.1) (by kernel_rfl) (fun (d:Tys.data as65)=>ok65_t d.1.1 d.2.1)
def kf65 (P:Go.Program):Known:=(kl65_0 P).func 65 p65
theorem kf65_ok:KnownOk Proofs.Try.prog (kf65 Proofs.Try.prog):=kl65_0_ok.func ok65
abbrev as8:List Ty:=[(.pair (.slice (.pair (.int .i64) (.pair (.int .i64) (.pair (.slice (.pair (.int .i64) (.pair (.int .i64) (.pair .bool .unit)))) .unit)))) .unit),(.slice (.int .i64))]
abbrev rs8:List Ty:=[.bool]
def t8 (x0:(List (Int×(Int×((List (Int×(Int×(Bool×Unit))))×Unit))))) (x1:(List Int)):Tr (Tys.data rs8) :=
  Tr.test (Option.isSome (f42 ((x0,()),())))
    (let r0:=g42 ((x0,()),());
    Tr.test ((!r0.1:Bool))
      (Tr.fin (((true:Bool),())))
      (Tr.test ((!leF (↑(List.length x1):Int) (62:Int):Bool))
        (Tr.fin (((true:Bool),())))
        (Tr.test (Option.isSome (f44 ((x0,()),())))
          (Tr.test (Option.isSome (f47 (x1,())))
            (let r1:=g44 ((x0,()),());
            let r2:=g47 (x1,());
            Tr.test (Option.isSome (f58 (((r1.1.1:List (Int×Int×List (Int×Int×Bool×PUnit)×PUnit)),()),(r2.1,()))))
              (Tr.test (Option.isSome (f59 (((r1.1.1:List (Int×Int×List (Int×Int×Bool×PUnit)×PUnit)),()),(r2.1,()))))
                (Tr.test (Option.isSome (f60 ((x0,()),())))
                  (let r5:=g60 ((x0,()),());
                  Tr.test ((eqF r5.1 0:Bool))
                    (Tr.test (Option.isSome (f61 (x1,())))
                      (let r6:=g61 (x1,());
                      Tr.test ((!eqF r6.1 0:Bool))
                        (let r3:=g58 (((r1.1.1:List (Int×Int×List (Int×Int×Bool×PUnit)×PUnit)),()),(r2.1,()));
                        Tr.test ((eqF r3.2.2.1 r6.1:Bool))
                          (let r4:=g59 (((r1.1.1:List (Int×Int×List (Int×Int×Bool×PUnit)×PUnit)),()),(r2.1,()));
                          Tr.test ((eqF r4.2.1 r6.1:Bool))
                            (Tr.test ((eqF (wrap64 ((↑(List.length r3.1):Int) + (↑(List.length r4.1):Int))) (0:Int):Bool))
                              (Tr.fin (((eqF r3.2.1 0:Bool),())))
                              (Tr.fin (((false:Bool),()))))
                            (Tr.fin (((false:Bool),()))))
                          (Tr.fin (((false:Bool),()))))
                        (Tr.test (Option.isSome (f62 ((x0,()),(x1,()))))
                          (let r3:=g58 (((r1.1.1:List (Int×Int×List (Int×Int×Bool×PUnit)×PUnit)),()),(r2.1,()));
                          Tr.test ((eqF r3.2.2.1 0:Bool))
                            (let r7:=g62 ((x0,()),(x1,()));
                            Tr.test (Option.isSome (f63 ((r3.1:List (List Int×List Int×List (Int×List (Int×Bool×PUnit)×PUnit)×PUnit)),((r7.1:List (List Int×List Int×List (Int×List (Int×Bool×PUnit)×PUnit)×PUnit)),()))))
                              (let r8:=g63 ((r3.1:List (List Int×List Int×List (Int×List (Int×Bool×PUnit)×PUnit)×PUnit)),((r7.1:List (List Int×List Int×List (Int×List (Int×Bool×PUnit)×PUnit)×PUnit)),()));
                              Tr.test (r8.1)
                                (Tr.test ((eqF r3.2.1 r7.2.1:Bool))
                                  (let r4:=g59 (((r1.1.1:List (Int×Int×List (Int×Int×Bool×PUnit)×PUnit)),()),(r2.1,()));
                                  Tr.test ((eqF r4.2.1 0:Bool))
                                    (Tr.test (Option.isSome (f65 ((x0,()),((r7.1:List (List Int×List Int×List (Int×List (Int×Bool×PUnit)×PUnit)×PUnit)),()))))
                                      (let r9:=g65 ((x0,()),((r7.1:List (List Int×List Int×List (Int×List (Int×Bool×PUnit)×PUnit)×PUnit)),()));
                                      Tr.test (Option.isSome (f64 (r4.1,(r9.1,()))))
                                        (let r10:=g64 (r4.1,(r9.1,()));
                                        Tr.fin ((r10.1,())))
                                        (Tr.stop))
                                      (Tr.stop))
                                    (Tr.fin (((false:Bool),()))))
                                  (Tr.fin (((false:Bool),()))))
                                (Tr.fin (((false:Bool),()))))
                              (Tr.stop))
                            (Tr.fin (((false:Bool),()))))
                          (Tr.stop)))
                      (Tr.stop))
                    (let r3:=g58 (((r1.1.1:List (Int×Int×List (Int×Int×Bool×PUnit)×PUnit)),()),(r2.1,()));
                    Tr.test ((eqF r3.2.2.1 r5.1:Bool))
                      (let r4:=g59 (((r1.1.1:List (Int×Int×List (Int×Int×Bool×PUnit)×PUnit)),()),(r2.1,()));
                      Tr.test ((eqF r4.2.1 r5.1:Bool))
                        (Tr.test ((eqF (wrap64 ((↑(List.length r3.1):Int) + (↑(List.length r4.1):Int))) (0:Int):Bool))
                          (Tr.fin (((eqF r3.2.1 0:Bool),())))
                          (Tr.fin (((false:Bool),()))))
                        (Tr.fin (((false:Bool),()))))
                      (Tr.fin (((false:Bool),())))))
                  (Tr.stop))
                (Tr.stop))
              (Tr.stop))
            (Tr.stop))
          (Tr.stop))))
    (Tr.stop)
def f8 (d:Tys.data as8):Option (Tys.data rs8):=(t8 d.1.1 d.2.1).val
def g8 (d:Tys.data as8):Tys.data rs8:=(f8 d).getD (Tys.dflt rs8)
def p8:PureC:=pcOf as8 rs8 f8 g8
theorem wk8 (x0:(List (Int×(Int×((List (Int×(Int×(Bool×Unit))))×Unit))))) (x1:(List Int)):Walks (runPure (kf65 Proofs.Try.prog).orc Proofs.Try.prog 400 8 as8 rs8 ((x0,()),x1,())) (t8 x0 x1) [(bl 2 3,[1,2,2,2,2,4,0,1]),(bl 3 5,[2,4,4,4,4,6,0,1]),(bl 14 16377,[2,2,2,4,4,4,4,4,4,4,6,6,6,6,8,10,12,14,16,20,22,18,20,22,24,26,26,26,26,28,0,1]),(bl 14 8185,[2,2,2,4,4,4,4,4,4,4,6,6,6,6,8,10,12,14,16,20,22,18,20,22,24,26,26,26,26,28,0,1]),(bl 13 4089,[0,0,0,2,2,2,2,2,2,2,4,4,4,4,6,8,10,12,14,18,20,16,18,20,22,24,24,24,24,26,0,1]),(bl 12 2041,[0,0,0,0,0,0,0,0,0,0,2,2,2,2,4,6,8,10,12,16,18,14,16,18,20,22,22,22,22,24,0,1]),(bl 19 523257,[6,2,6,4,6,6,6,6,8,8,8,10,10,10,10,14,12,14,14,14,16,18,20,22,24,26,30,32,28,30,32,34,36,36,36,36,38,0,1]),(bl 17 64505,[2,2,2,2,2,2,4,4,4,6,6,6,6,10,8,10,10,10,12,14,16,18,20,22,26,28,24,26,28,30,32,32,32,32,34,0,1]),(bl 16 31737,[0,0,0,0,0,0,2,2,2,4,4,4,4,8,6,8,8,8,10,12,14,16,18,20,24,26,22,24,26,28,30,30,30,30,32,0,1]),(bl 15 15353,[0,0,0,0,0,0,0,0,0,2,2,2,2,6,4,6,6,6,8,10,12,14,16,18,22,24,20,22,24,26,28,28,28,28,30,0,1]),(bl 13 3065,[0,0,0,0,0,0,0,0,0,0,0,0,0,2,2,2,2,4,6,8,10,12,14,18,20,16,18,20,22,24,24,24,24,26,0,1]),(bl 12 3833,[2,2,2,4,4,4,4,4,4,4,6,6,6,6,9,8,10,12,16,18,14,16,18,20,22,22,22,22,24,0,1]),(bl 12 1785,[2,2,2,4,4,4,4,4,4,4,6,6,6,6,9,8,10,12,16,18,14,16,18,20,22,22,22,22,24,0,1]),(bl 11 761,[0,0,0,2,2,2,2,2,2,2,4,4,4,4,7,6,8,10,14,16,12,14,16,18,20,20,20,20,22,0,1]),(bl 10 249,[0,0,0,0,0,0,0,0,0,0,2,2,2,2,5,4,6,8,12,14,10,12,14,16,18,18,18,18,20,0,1])] :=
  ⟨by kernel_rfl,by kernel_rfl,by kernel_rfl,by kernel_rfl,by kernel_rfl,by kernel_rfl,by kernel_rfl,by kernel_rfl,by kernel_rfl,by kernel_rfl,by kernel_rfl,by kernel_rfl,by kernel_rfl,by kernel_rfl,by kernel_rfl,trivial⟩
theorem ok8_t (x0:(List (Int×(Int×((List (Int×(Int×(Bool×Unit))))×Unit))))) (x1:(List Int)):TrOk (PureRuns Proofs.Try.prog (kf65 Proofs.Try.prog).orc 8 as8 rs8 ((x0,()),x1,())) (t8 x0 x1) :=
  Walks.ok (fun _ _ _=>PureRuns.of) (wk8 x0 x1) (by kernel_rfl)
theorem ok8:PureOk Proofs.Try.prog 8 p8:=qab kf65_ok.base (T:=fun (d:Tys.data as8)=>t8 d.1.1 d.2.1) (by kernel_rfl) (fun (d:Tys.data as8)=>ok8_t d.1.1 d.2.1)
end Go.Vm.Mo
