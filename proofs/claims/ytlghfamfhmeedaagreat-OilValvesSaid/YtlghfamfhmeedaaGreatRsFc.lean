import Derived.Test.YtlghfamfhmeedaaGreatA5
import Derived.KernelRfl
import Derived.Test.YtlghfamfhmeedaaGreatProg
import Derived.Test.YtlghfamfhmeedaaGreatRsFb
set_option linter.unusedVariables false
set_option linter.unusedSimpArgs false

namespace Go.Vm.Mo
open Go
set_option linter.unusedVariables false
abbrev sh167_2:Sh:={ n:=86,slots:=[2,3,4,5,6,7,8],pats:=[.ptr 0 2 0,.ptr 1 2 0,.ptr 2 2 0,.sli 3 1,.ty (.int .i64),.ty (.int .i64),.ty (.int .i64)],boxes:=[.row [.ty (.int .i64),.ty (.slice (.int .i64))],.row [.ty (.int .i64),.ty (.slice (.int .i64))],.row [.ty (.int .i64),.nil],.arr (.int .i64)] }
abbrev shb167_2:Sh:={ n:=86,slots:=[2,3,4,5,6,7],pats:=[.ptr 0 2 0,.ptr 1 2 0,.ptr 2 2 0,.sli 3 1,.ty (.int .i64),.ty (.int .i64)],boxes:=[.row [.ty (.int .i64),.ty (.slice (.int .i64))],.row [.ty (.int .i64),.ty (.slice (.int .i64))],.row [.ty (.int .i64),.nil],.arr (.int .i64)] }
abbrev shr167_2:Sh:={ n:=86,slots:=[],pats:=[],boxes:=[.row [.ty (.int .i64),.ty (.slice (.int .i64))],.row [.ty (.int .i64),.ty (.slice (.int .i64))],.row [.ty (.int .i64),.nil],.arr (.int .i64)] }
def t167_2 (x3n:Nat) (x3c:Nat) (x4:Int) (x5:Int) (x6:Int) (b0_0:Int) (b0_1:(List Int)) (b1_0:Int) (b1_1:(List Int)) (b2_0:Int) (b3:(List Int)):Tr (Out sh167_2.data shb167_2.data shr167_2.data) :=
  Tr.test ((!leF (↑(List.length b1_1):Int) x6:Bool))
    (Tr.test (decide ((0:Int) ≤ wrap64 (x4 + x6)) && decide (wrap64 (x4 + x6) < (↑x3n:Int)))
      (Tr.test ((Nat.ble ((0:Nat) + Int.toNat (wrap64 (x4 + x6)) + (1:Nat)) (List.length b3):Bool))
        (Tr.test ((decide ((0:Int) ≤ x4) && decide (x4 < (↑(List.length b0_1):Int)):Bool))
          (Tr.test ((decide ((0:Int) ≤ x6) && decide (x6 < (↑(List.length b1_1):Int)):Bool))
            (Tr.fin (.again (((x3n,x3c),(x4,((Go.IntKind.wrap Go.IntKind.i64 (Int.tdiv (wrap64 (wrap64 (List.getD b3 ((0:Nat) + Int.toNat (wrap64 (x4 + x6))) (0:Int) + wrap64 (List.getD b0_1 (Int.toNat x4) (0:Int) * List.getD b1_1 (Int.toNat x6) (0:Int))) + x5)) (1000000000:Int)):Int),((wrap64 (x6 + (1:Int)):Int),())))),((b0_0,(b0_1,())),((b1_0,(b1_1,())),((b2_0,()),((List.set b3 ((0:Nat) + Int.toNat (wrap64 (x4 + x6))) (Int.tmod (wrap64 (wrap64 (List.getD b3 ((0:Nat) + Int.toNat (wrap64 (x4 + x6))) (0:Int) + wrap64 (List.getD b0_1 (Int.toNat x4) (0:Int) * List.getD b1_1 (Int.toNat x6) (0:Int))) + x5)) (1000000000:Int)):List Int),())))))))
            (Tr.stop))
          (Tr.stop))
        (Tr.stop))
      (Tr.stop))
    (Tr.fin (.brk (((x3n,x3c),(x4,(x5,()))),((b0_0,(b0_1,())),((b1_0,(b1_1,())),((b2_0,()),(b3,())))))))
def s167_2 (d:sh167_2.data):Option (Out sh167_2.data shb167_2.data shr167_2.data):=(t167_2 d.1.1.1 d.1.1.2 d.1.2.1 d.1.2.2.1 d.1.2.2.2.1 d.2.1.1 d.2.1.2.1 d.2.2.1.1 d.2.2.1.2.1 d.2.2.2.1.1 d.2.2.2.2.1).val
def l167_2 (d:sh167_2.data):Option (shb167_2.data ⊕ shr167_2.data):=itr s167_2 rounds d
def b167_2 (d:sh167_2.data):shb167_2.data:=outB shb167_2.dflt (l167_2 d)
def lc167_2:LoopC:=lcB sh167_2 shb167_2 shr167_2 l167_2 b167_2
theorem wk167_2 (x3n:Nat) (x3c:Nat) (x4:Int) (x5:Int) (x6:Int) (b0_0:Int) (b0_1:(List Int)) (b1_0:Int) (b1_1:(List Int)) (b2_0:Int) (b3:(List Int)):Walks (qaq (kf212 Proofs.Tryz.prog).orc Proofs.Tryz.prog 400 167 2 sh167_2 shb167_2 shr167_2 (((x3n,x3c),x4,x5,x6,()),(b0_0,b0_1,()),(b1_0,b1_1,()),(b2_0,()),b3,())) (t167_2 x3n x3c x4 x5 x6 b0_0 b0_1 b1_0 b1_1 b2_0 b3) [(bl 5 31,[6,8,0,0,2,4,6,8,10]),(bl 1 0,[2])] :=
  ⟨by kernel_rfl,by kernel_rfl,trivial⟩
theorem ok167_2_t (x3n:Nat) (x3c:Nat) (x4:Int) (x5:Int) (x6:Int) (b0_0:Int) (b0_1:(List Int)) (b1_0:Int) (b1_1:(List Int)) (b2_0:Int) (b3:(List Int)):TrOk (BodyRuns Proofs.Tryz.prog (kf212 Proofs.Tryz.prog).orc 167 2 sh167_2 shb167_2 shr167_2 (((x3n,x3c),x4,x5,x6,()),(b0_0,b0_1,()),(b1_0,b1_1,()),(b2_0,()),b3,())) (t167_2 x3n x3c x4 x5 x6 b0_0 b0_1 b1_0 b1_1 b2_0 b3) :=
  Walks.ok (fun _ _ _=>BodyRuns.of) (wk167_2 x3n x3c x4 x5 x6 b0_0 b0_1 b1_0 b1_1 b2_0 b3) (by kernel_rfl)
theorem ok167_2:qat Proofs.Tryz.prog 167 2 lc167_2:=qap (sh:=sh167_2) (shB:=shb167_2) (shR:=shr167_2) kf212_ok.base (T:=fun (d:sh167_2.data)=>t167_2 d.1.1.1 d.1.1.2 d.1.2.1 d.1.2.2.1 d.1.2.2.2.1 d.2.1.1 d.2.1.2.1 d.2.2.1.1 d.2.2.1.2.1 d.2.2.2.1.1 d.2.2.2.2.1) (by kernel_rfl) rfl (fun (d:sh167_2.data)=>ok167_2_t d.1.1.1 d.1.1.2 d.1.2.1 d.1.2.2.1 d.1.2.2.2.1 d.2.1.1 d.2.1.2.1 d.2.2.1.1 d.2.2.1.2.1 d.2.2.2.1.1 d.2.2.2.2.1) (fun _=>rfl)
def kl167_2 (P:Go.Program):Known:=(kf212 P).loop 167 2 lc167_2
theorem kl167_2_ok:KnownOk Proofs.Tryz.prog (kl167_2 Proofs.Tryz.prog):=kf212_ok.loop ok167_2
abbrev sh167_0:Sh:={ n:=86,slots:=[2,3,4,5,6],pats:=[.ptr 0 2 0,.ptr 1 2 0,.ptr 2 2 0,.sli 3 1,.ty (.int .i64)],boxes:=[.row [.ty (.int .i64),.ty (.slice (.int .i64))],.row [.ty (.int .i64),.ty (.slice (.int .i64))],.row [.ty (.int .i64),.nil],.arr (.int .i64)] }
abbrev shb167_0:Sh:={ n:=86,slots:=[2,3,4,5],pats:=[.ptr 0 2 0,.ptr 1 2 0,.ptr 2 2 0,.sli 3 1],boxes:=[.row [.ty (.int .i64),.ty (.slice (.int .i64))],.row [.ty (.int .i64),.ty (.slice (.int .i64))],.row [.ty (.int .i64),.nil],.arr (.int .i64)] }
abbrev shr167_0:Sh:={ n:=86,slots:=[],pats:=[],boxes:=[.row [.ty (.int .i64),.ty (.slice (.int .i64))],.row [.ty (.int .i64),.ty (.slice (.int .i64))],.row [.ty (.int .i64),.nil],.arr (.int .i64)] }
def t167_0 (x3n:Nat) (x3c:Nat) (x4:Int) (b0_0:Int) (b0_1:(List Int)) (b1_0:Int) (b1_1:(List Int)) (b2_0:Int) (b3:(List Int)):Tr (Out sh167_0.data shb167_0.data shr167_0.data) :=
  Tr.test ((!leF (↑(List.length b0_1):Int) x4:Bool))
    (Tr.test (qaV (l167_2 (((x3n,x3c),(x4,((0:Int),((0:Int),())))),((b0_0,(b0_1,())),((b1_0,(b1_1,())),((b2_0,()),(b3,())))))))
      (let r0:=b167_2 (((x3n,x3c),(x4,((0:Int),((0:Int),())))),((b0_0,(b0_1,())),((b1_0,(b1_1,())),((b2_0,()),(b3,())))));
      Tr.test ((decide ((0:Int) ≤ wrap64 (r0.1.2.1 + (↑(List.length r0.2.2.1.2.1):Int))) && decide (wrap64 (r0.1.2.1 + (↑(List.length r0.2.2.1.2.1):Int)) < (↑r0.1.1.1:Int)):Bool))
        (Tr.test ((Nat.ble ((0:Nat) + Int.toNat (wrap64 (r0.1.2.1 + (↑(List.length r0.2.2.1.2.1):Int))) + (1:Nat)) (List.length r0.2.2.2.2.1):Bool))
          (Tr.fin (.again (((r0.1.1.1,r0.1.1.2),((wrap64 (r0.1.2.1 + (1:Int)):Int),())),((r0.2.1.1,(r0.2.1.2.1,())),((r0.2.2.1.1,(r0.2.2.1.2.1,())),((r0.2.2.2.1.1,()),((List.set r0.2.2.2.2.1 ((0:Nat) + Int.toNat (wrap64 (r0.1.2.1 + (↑(List.length r0.2.2.1.2.1):Int)))) (wrap64 (List.getD r0.2.2.2.2.1 ((0:Nat) + Int.toNat (wrap64 (r0.1.2.1 + (↑(List.length r0.2.2.1.2.1):Int)))) (0:Int) + r0.1.2.2.1)):List Int),())))))))
          (Tr.stop))
        (Tr.stop))
      (Tr.stop))
    (Tr.fin (.brk (((x3n,x3c),()),((b0_0,(b0_1,())),((b1_0,(b1_1,())),((b2_0,()),(b3,())))))))
def s167_0 (d:sh167_0.data):Option (Out sh167_0.data shb167_0.data shr167_0.data):=(t167_0 d.1.1.1 d.1.1.2 d.1.2.1 d.2.1.1 d.2.1.2.1 d.2.2.1.1 d.2.2.1.2.1 d.2.2.2.1.1 d.2.2.2.2.1).val
def l167_0 (d:sh167_0.data):Option (shb167_0.data ⊕ shr167_0.data):=itr s167_0 rounds d
def b167_0 (d:sh167_0.data):shb167_0.data:=outB shb167_0.dflt (l167_0 d)
def lc167_0:LoopC:=lcB sh167_0 shb167_0 shr167_0 l167_0 b167_0
theorem wk167_0 (x3n:Nat) (x3c:Nat) (x4:Int) (b0_0:Int) (b0_1:(List Int)) (b1_0:Int) (b1_1:(List Int)) (b2_0:Int) (b3:(List Int)):Walks (qaq (kl167_2 Proofs.Tryz.prog).orc Proofs.Tryz.prog 400 167 0 sh167_0 shb167_0 shr167_0 (((x3n,x3c),x4,()),(b0_0,b0_1,()),(b1_0,b1_1,()),(b2_0,()),b3,())) (t167_0 x3n x3c x4 b0_0 b0_1 b1_0 b1_1 b2_0 b3) [(bl 4 15,[2,4,2,4,1,6,8]),(bl 1 0,[2])] :=
  ⟨by kernel_rfl,by kernel_rfl,trivial⟩
theorem ok167_0_t (x3n:Nat) (x3c:Nat) (x4:Int) (b0_0:Int) (b0_1:(List Int)) (b1_0:Int) (b1_1:(List Int)) (b2_0:Int) (b3:(List Int)):TrOk (BodyRuns Proofs.Tryz.prog (kl167_2 Proofs.Tryz.prog).orc 167 0 sh167_0 shb167_0 shr167_0 (((x3n,x3c),x4,()),(b0_0,b0_1,()),(b1_0,b1_1,()),(b2_0,()),b3,())) (t167_0 x3n x3c x4 b0_0 b0_1 b1_0 b1_1 b2_0 b3) :=
  Walks.ok (fun _ _ _=>BodyRuns.of) (wk167_0 x3n x3c x4 b0_0 b0_1 b1_0 b1_1 b2_0 b3) (by kernel_rfl)
theorem ok167_0:qat Proofs.Tryz.prog 167 0 lc167_0:=qap (sh:=sh167_0) (shB:=shb167_0) (shR:=shr167_0) kl167_2_ok.base (T:=fun (d:sh167_0.data)=>t167_0 d.1.1.1 d.1.1.2 d.1.2.1 d.2.1.1 d.2.1.2.1 d.2.2.1.1 d.2.2.1.2.1 d.2.2.2.1.1 d.2.2.2.2.1) (by kernel_rfl) rfl (fun (d:sh167_0.data)=>ok167_0_t d.1.1.1 d.1.1.2 d.1.2.1 d.2.1.1 d.2.1.2.1 d.2.2.1.1 d.2.2.1.2.1 d.2.2.2.1.1 d.2.2.2.2.1) (fun _=>rfl)
def kl167_0 (P:Go.Program):Known:=(kl167_2 P).loop 167 0 lc167_0
theorem kl167_0_ok:KnownOk Proofs.Tryz.prog (kl167_0 Proofs.Tryz.prog):=kl167_2_ok.loop ok167_0
abbrev as167:List Ty:=[(.pair (.int .i64) (.pair (.slice (.int .i64)) .unit)),(.pair (.int .i64) (.pair (.slice (.int .i64)) .unit))]
abbrev rs167:List Ty:=[(.pair (.int .i64) (.pair (.slice (.int .i64)) .unit))]
def t167 (x0:Int) (x0':(List Int)) (x1:Int) (x1':(List Int)):Tr (Tys.data rs167) :=
  Tr.test ((decide ((0:Int) ≤ wrap64 (wrap64 ((↑(List.length x0'):Int) + (↑(List.length x1'):Int)) + (1:Int))) && decide (wrap64 (wrap64 ((↑(List.length x0'):Int) + (↑(List.length x1'):Int)) + (1:Int)) ≤ wrap64 (wrap64 ((↑(List.length x0'):Int) + (↑(List.length x1'):Int)) + (1:Int))) && decide ((8:Int) * wrap64 (wrap64 ((↑(List.length x0'):Int) + (↑(List.length x1'):Int)) + (1:Int)) ≤ (281474976710656:Int)) && decide (wrap64 (wrap64 ((↑(List.length x0'):Int) + (↑(List.length x1'):Int)) + (1:Int)) ≤ (281474976710656:Int)):Bool))
    (Tr.test (qaV (l167_0 ((((Int.toNat (wrap64 (wrap64 ((↑(List.length x0'):Int) + (↑(List.length x1'):Int)) + (1:Int))):Nat),(Int.toNat (wrap64 (wrap64 ((↑(List.length x0'):Int) + (↑(List.length x1'):Int)) + (1:Int))):Nat)),((0:Int),())),((x0,(x0',())),((x1,(x1',())),(((0:Int),()),((List.replicate (Int.toNat (wrap64 (wrap64 ((↑(List.length x0'):Int) + (↑(List.length x1'):Int)) + (1:Int)))) (0:Int):List Int),())))))))
      (let r0:=b167_0 ((((Int.toNat (wrap64 (wrap64 ((↑(List.length x0'):Int) + (↑(List.length x1'):Int)) + (1:Int))):Nat),(Int.toNat (wrap64 (wrap64 ((↑(List.length x0'):Int) + (↑(List.length x1'):Int)) + (1:Int))):Nat)),((0:Int),())),((x0,(x0',())),((x1,(x1',())),(((0:Int),()),((List.replicate (Int.toNat (wrap64 (wrap64 ((↑(List.length x0'):Int) + (↑(List.length x1'):Int)) + (1:Int)))) (0:Int):List Int),())))));
      Tr.test ((Nat.beq r0.1.1.1 (List.length r0.2.2.2.2.1):Bool))
        (Tr.test (Option.isSome (f186 ((wrap64 (r0.2.1.1 * r0.2.2.1.1):Int),(r0.2.2.2.2.1,()))))
          (let r1:=g186 ((wrap64 (r0.2.1.1 * r0.2.2.1.1):Int),(r0.2.2.2.2.1,()));
          Tr.fin (((r1.1.1,(r1.1.2.1,())),())))
          (Tr.stop))
        (Tr.test ((Nat.ble r0.1.1.1 (List.length r0.2.2.2.2.1):Bool))
          (Tr.test (Option.isSome (f186 ((wrap64 (r0.2.1.1 * r0.2.2.1.1):Int),((List.take r0.1.1.1 r0.2.2.2.2.1:List Int),()))))
            (let r2:=g186 ((wrap64 (r0.2.1.1 * r0.2.2.1.1):Int),((List.take r0.1.1.1 r0.2.2.2.2.1:List Int),()));
            Tr.fin (((r2.1.1,(r2.1.2.1,())),())))
            (Tr.stop))
          (Tr.stop /- a known call [op 6 of region 12 of F167] -/)))
      (Tr.stop))
    (Tr.stop)
def f167 (d:Tys.data as167):Option (Tys.data rs167):=(t167 d.1.1 d.1.2.1 d.2.1.1 d.2.1.2.1).val
def g167 (d:Tys.data as167):Tys.data rs167:=(f167 d).getD (Tys.dflt rs167)
def p167:PureC:=pcOf as167 rs167 f167 g167
theorem wk167 (x0:Int) (x0':(List Int)) (x1:Int) (x1':(List Int)):Walks (runPure (kl167_0 Proofs.Tryz.prog).orc Proofs.Tryz.prog 400 167 as167 rs167 ((x0,x0',()),(x1,x1',()),())) (t167 x0 x0' x1 x1') [(bl 4 15,[2,4,1,6,8]),(bl 5 27,[2,4,6,1,8,10])] :=
  ⟨by kernel_rfl,by kernel_rfl,trivial⟩
theorem ok167_t (x0:Int) (x0':(List Int)) (x1:Int) (x1':(List Int)):TrOk (PureRuns Proofs.Tryz.prog (kl167_0 Proofs.Tryz.prog).orc 167 as167 rs167 ((x0,x0',()),(x1,x1',()),())) (t167 x0 x0' x1 x1') :=
  Walks.ok (fun _ _ _=>PureRuns.of) (wk167 x0 x0' x1 x1') (by kernel_rfl)
theorem ok167:PureOk Proofs.Tryz.prog 167 p167:=qac kl167_0_ok.base (T:=fun (d:Tys.data as167)=>t167 d.1.1 d.1.2.1 d.2.1.1 d.2.1.2.1) (by kernel_rfl) (fun (d:Tys.data as167)=>ok167_t d.1.1 d.1.2.1 d.2.1.1 d.2.1.2.1)
def kf167 (P:Go.Program):Known:=(kl167_0 P).func 167 p167
theorem kf167_ok:KnownOk Proofs.Tryz.prog (kf167 Proofs.Tryz.prog):=kl167_0_ok.func ok167
abbrev sh200_0:Sh:={ n:=41,slots:=[0,1,5],pats:=[.ty (.slice (.int .i64)),.ty (.slice (.int .i64)),.ty (.int .i64)],boxes:=[] }
abbrev shb200_0:Sh:={ n:=41,slots:=[],pats:=[],boxes:=[] }
abbrev shr200_0:Sh:={ n:=41,slots:=[4],pats:=[.ty (.int .i64)],boxes:=[] }
def t200_0 (x0:(List Int)) (x1:(List Int)) (x2:Int):Tr (Out sh200_0.data shb200_0.data shr200_0.data) :=
  Tr.test ((leF (0:Int) x2:Bool))
    (Tr.test (decide ((0:Int) ≤ x2) && decide (x2 < (↑(List.length x0):Int)))
      (Tr.test ((decide ((0:Int) ≤ x2) && decide (x2 < (↑(List.length x1):Int)):Bool))
        (Tr.test ((!leF (List.getD x1 (Int.toNat x2) (0:Int)) (List.getD x0 (Int.toNat x2) (0:Int)):Bool))
          (Tr.fin (.ret (((-1:Int),()),())))
          (Tr.test ((!leF (List.getD x0 (Int.toNat x2) (0:Int)) (List.getD x1 (Int.toNat x2) (0:Int)):Bool))
            (Tr.fin (.ret (((1:Int),()),())))
            (Tr.fin (.again ((x0,(x1,((wrap64 (x2 - (1:Int)):Int),()))),())))))
        (Tr.stop))
      (Tr.stop))
    (Tr.fin (.brk ((),())))
def s200_0 (d:sh200_0.data):Option (Out sh200_0.data shb200_0.data shr200_0.data):=(t200_0 d.1.1 d.1.2.1 d.1.2.2.1).val
def l200_0 (d:sh200_0.data):Option (shb200_0.data ⊕ shr200_0.data):=itr s200_0 rounds d
def b200_0 (d:sh200_0.data):shb200_0.data:=outB shb200_0.dflt (l200_0 d)
def r200_0 (d:sh200_0.data):shr200_0.data:=outR shr200_0.dflt (l200_0 d)
def lc200_0:LoopC:=lcOf sh200_0 shb200_0 shr200_0 l200_0 b200_0 r200_0
theorem wk200_0 (x0:(List Int)) (x1:(List Int)) (x2:Int):Walks (qaq (kf167 Proofs.Tryz.prog).orc Proofs.Tryz.prog 400 200 0 sh200_0 shb200_0 shr200_0 ((x0,x1,x2,()),())) (t200_0 x0 x1 x2) [(bl 4 15,[2,4,6,8]),(bl 5 23,[2,6,8,4,6,8,10]),(bl 5 7,[2,6,8,4,6,8,10]),(bl 1 0,[2])] :=
  ⟨by kernel_rfl,by kernel_rfl,by kernel_rfl,by kernel_rfl,trivial⟩
theorem ok200_0_t (x0:(List Int)) (x1:(List Int)) (x2:Int):TrOk (BodyRuns Proofs.Tryz.prog (kf167 Proofs.Tryz.prog).orc 200 0 sh200_0 shb200_0 shr200_0 ((x0,x1,x2,()),())) (t200_0 x0 x1 x2) :=
  Walks.ok (fun _ _ _=>BodyRuns.of) (wk200_0 x0 x1 x2) (by kernel_rfl)
theorem ok200_0:qat Proofs.Tryz.prog 200 0 lc200_0:=qbC (sh:=sh200_0) (shB:=shb200_0) (shR:=shr200_0) kf167_ok.base (T:=fun (d:sh200_0.data)=>t200_0 d.1.1 d.1.2.1 d.1.2.2.1) (by kernel_rfl) rfl (fun (d:sh200_0.data)=>ok200_0_t d.1.1 d.1.2.1 d.1.2.2.1) (fun _=>rfl)
def kl200_0 (P:Go.Program):Known:=(kf167 P).loop 200 0 lc200_0
theorem kl200_0_ok:KnownOk Proofs.Tryz.prog (kl200_0 Proofs.Tryz.prog):=kf167_ok.loop ok200_0
abbrev as200:List Ty:=[(.slice (.int .i64)),(.slice (.int .i64))]
abbrev rs200:List Ty:=[(.int .i64)]
def t200 (x0:(List Int)) (x1:(List Int)):Tr (Tys.data rs200) :=
  Tr.test ((!eqF (↑(List.length x0):Int) (↑(List.length x1):Int):Bool))
    (Tr.test (!leF (↑(List.length x1):Int) (↑(List.length x0):Int))
      (Tr.fin (((-1:Int),())))
      (Tr.fin (((1:Int),()))))
    (Tr.test (Option.isSome (l200_0 ((x0,(x1,((wrap64 ((↑(List.length x0):Int) - (1:Int)):Int),()))),())))
      (Tr.test (qb5 (l200_0 ((x0,(x1,((wrap64 ((↑(List.length x0):Int) - (1:Int)):Int),()))),())))
        (let r0:=r200_0 ((x0,(x1,((wrap64 ((↑(List.length x0):Int) - (1:Int)):Int),()))),());
        Tr.fin ((r0.1.1,())))
        (Tr.fin (((0:Int),()))))
      (Tr.stop))
def f200 (d:Tys.data as200):Option (Tys.data rs200):=(t200 d.1 d.2.1).val
def g200 (d:Tys.data as200):Tys.data rs200:=(f200 d).getD (Tys.dflt rs200)
def p200:PureC:=pcOf as200 rs200 f200 g200
theorem wk200 (x0:(List Int)) (x1:(List Int)):Walks (runPure (kl200_0 Proofs.Tryz.prog).orc Proofs.Tryz.prog 400 200 as200 rs200 (x0,x1,())) (t200 x0 x1) [(bl 2 3,[2,4]),(bl 2 1,[2,4]),(bl 3 6,[2,4,6]),(bl 3 2,[2,4,6])] :=
  ⟨by kernel_rfl,by kernel_rfl,by kernel_rfl,by kernel_rfl,trivial⟩
theorem ok200_t (x0:(List Int)) (x1:(List Int)):TrOk (PureRuns Proofs.Tryz.prog (kl200_0 Proofs.Tryz.prog).orc 200 as200 rs200 (x0,x1,())) (t200 x0 x1) :=
  Walks.ok (fun _ _ _=>PureRuns.of) (wk200 x0 x1) (by kernel_rfl)
theorem ok200:PureOk Proofs.Tryz.prog 200 p200:=qac kl200_0_ok.base (T:=fun (d:Tys.data as200)=>t200 d.1 d.2.1) (by kernel_rfl) (fun (d:Tys.data as200)=>ok200_t d.1 d.2.1)
def kf200 (P:Go.Program):Known:=(kl200_0 P).func 200 p200
theorem kf200_ok:KnownOk Proofs.Tryz.prog (kf200 Proofs.Tryz.prog):=kl200_0_ok.func ok200
abbrev as211:List Ty:=[(.slice (.int .i64)),(.int .i64)]
abbrev rs211:List Ty:=[(.int .i64)]
def t211 (x0:(List Int)) (x1:Int):Tr (Tys.data rs211) :=
  Tr.test ((!leF (↑(List.length x0):Int) x1:Bool))
    (Tr.test (decide ((0:Int) ≤ x1) && decide (x1 < (↑(List.length x0):Int)))
      (Tr.fin (((List.getD x0 (Int.toNat x1) (0:Int):Int),())))
      (Tr.stop))
    (Tr.fin (((0:Int),())))
def f211 (d:Tys.data as211):Option (Tys.data rs211):=(t211 d.1 d.2.1).val
def g211 (d:Tys.data as211):Tys.data rs211:=(f211 d).getD (Tys.dflt rs211)
def p211:PureC:=pcOf as211 rs211 f211 g211
theorem wk211 (x0:(List Int)) (x1:Int):Walks (runPure (kf200 Proofs.Tryz.prog).orc Proofs.Tryz.prog 400 211 as211 rs211 (x0,x1,())) (t211 x0 x1) [(bl 2 3,[2,4]),(bl 1 0,[2])] :=
  ⟨by kernel_rfl,by kernel_rfl,trivial⟩
theorem ok211_t (x0:(List Int)) (x1:Int):TrOk (PureRuns Proofs.Tryz.prog (kf200 Proofs.Tryz.prog).orc 211 as211 rs211 (x0,x1,())) (t211 x0 x1) :=
  Walks.ok (fun _ _ _=>PureRuns.of) (wk211 x0 x1) (by kernel_rfl)
theorem ok211:PureOk Proofs.Tryz.prog 211 p211:=qac kf200_ok.base (T:=fun (d:Tys.data as211)=>t211 d.1 d.2.1) (by kernel_rfl) (fun (d:Tys.data as211)=>ok211_t d.1 d.2.1)
def kf211 (P:Go.Program):Known:=(kf200 P).func 211 p211
theorem kf211_ok:KnownOk Proofs.Tryz.prog (kf211 Proofs.Tryz.prog):=kf200_ok.func ok211
abbrev sh201_0:Sh:={ n:=35,slots:=[0,1,5,6,7],pats:=[.ty (.slice (.int .i64)),.ty (.slice (.int .i64)),.aco (.int .i64),.ty (.int .i64),.ty (.int .i64)],boxes:=[] }
abbrev shb201_0:Sh:={ n:=35,slots:=[5],pats:=[.aco (.int .i64)],boxes:=[] }
abbrev shr201_0:Sh:={ n:=35,slots:=[],pats:=[],boxes:=[] }
def t201_0 (x0:(List Int)) (x1:(List Int)) (x2:(List Int)) (x3:Int) (x4:Int):Tr (Out sh201_0.data shb201_0.data shr201_0.data) :=
  Tr.test ((!leF (↑(List.length x0):Int) x4:Bool))
    (Tr.test (decide ((0:Int) ≤ x4) && decide (x4 < (↑(List.length x0):Int)))
      (Tr.test (Option.isSome (f211 (x1,(x4,()))))
        (let r0:=g211 (x1,(x4,()));
        Tr.test ((!leF (0:Int) (wrap64 (wrap64 (List.getD x0 (Int.toNat x4) (0:Int) - r0.1) - x3)):Bool))
          (Tr.test ((Nat.ble (((2:Nat) * (List.length x2 + (1:Nat)) + (192:Nat)) * (8:Nat)) (281474976710656:Nat) && Nat.ble (List.length x2 + (1:Nat)) (281474976710656:Nat):Bool))
            (Tr.fin (.again ((x0,(x1,((x2++[wrap64 (wrap64 (wrap64 (List.getD x0 (Int.toNat x4) (0:Int) - r0.1) - x3) + (1000000000:Int))]:List Int),((1:Int),((wrap64 (x4 + (1:Int)):Int),()))))),())))
            (Tr.stop))
          (Tr.test ((Nat.ble (((2:Nat) * (List.length x2 + (1:Nat)) + (192:Nat)) * (8:Nat)) (281474976710656:Nat) && Nat.ble (List.length x2 + (1:Nat)) (281474976710656:Nat):Bool))
            (Tr.fin (.again ((x0,(x1,((x2++[wrap64 (wrap64 (List.getD x0 (Int.toNat x4) (0:Int) - r0.1) - x3)]:List Int),((0:Int),((wrap64 (x4 + (1:Int)):Int),()))))),())))
            (Tr.stop)))
        (Tr.stop))
      (Tr.stop))
    (Tr.fin (.brk ((x2,()),())))
def s201_0 (d:sh201_0.data):Option (Out sh201_0.data shb201_0.data shr201_0.data):=(t201_0 d.1.1 d.1.2.1 d.1.2.2.1 d.1.2.2.2.1 d.1.2.2.2.2.1).val
def l201_0 (d:sh201_0.data):Option (shb201_0.data ⊕ shr201_0.data):=itr s201_0 rounds d
def b201_0 (d:sh201_0.data):shb201_0.data:=outB shb201_0.dflt (l201_0 d)
def lc201_0:LoopC:=lcB sh201_0 shb201_0 shr201_0 l201_0 b201_0
theorem wk201_0 (x0:(List Int)) (x1:(List Int)) (x2:(List Int)) (x3:Int) (x4:Int):Walks (qaq (kf211 Proofs.Tryz.prog).orc Proofs.Tryz.prog 400 201 0 sh201_0 shb201_0 shr201_0 ((x0,x1,x2,x3,x4,()),())) (t201_0 x0 x1 x2 x3 x4) [(bl 5 31,[2,4,6,8,10]),(bl 5 23,[2,4,6,8,10]),(bl 1 0,[2])] :=
  ⟨by kernel_rfl,by kernel_rfl,by kernel_rfl,trivial⟩
theorem ok201_0_t (x0:(List Int)) (x1:(List Int)) (x2:(List Int)) (x3:Int) (x4:Int):TrOk (BodyRuns Proofs.Tryz.prog (kf211 Proofs.Tryz.prog).orc 201 0 sh201_0 shb201_0 shr201_0 ((x0,x1,x2,x3,x4,()),())) (t201_0 x0 x1 x2 x3 x4) :=
  Walks.ok (fun _ _ _=>BodyRuns.of) (wk201_0 x0 x1 x2 x3 x4) (by kernel_rfl)
theorem ok201_0:qat Proofs.Tryz.prog 201 0 lc201_0:=qap (sh:=sh201_0) (shB:=shb201_0) (shR:=shr201_0) kf211_ok.base (T:=fun (d:sh201_0.data)=>t201_0 d.1.1 d.1.2.1 d.1.2.2.1 d.1.2.2.2.1 d.1.2.2.2.2.1) (by kernel_rfl) rfl (fun (d:sh201_0.data)=>ok201_0_t d.1.1 d.1.2.1 d.1.2.2.1 d.1.2.2.2.1 d.1.2.2.2.2.1) (fun _=>rfl)
def kl201_0 (P:Go.Program):Known:=(kf211 P).loop 201 0 lc201_0
theorem kl201_0_ok:KnownOk Proofs.Tryz.prog (kl201_0 Proofs.Tryz.prog):=kf211_ok.loop ok201_0
abbrev as201:List Ty:=[(.slice (.int .i64)),(.slice (.int .i64))]
abbrev rs201:List Ty:=[(.slice (.int .i64))]
def t201 (x0:(List Int)) (x1:(List Int)):Tr (Tys.data rs201) :=
  Tr.test (qaV (l201_0 ((x0,(x1,(([]:List Int),((0:Int),((0:Int),()))))),())))
    (let r0:=b201_0 ((x0,(x1,(([]:List Int),((0:Int),((0:Int),()))))),());
    Tr.test (Option.isSome (f199 (r0.1.1,())))
      (let r1:=g199 (r0.1.1,());
      Tr.fin ((r1.1,())))
      (Tr.stop))
    (Tr.stop)
def f201 (d:Tys.data as201):Option (Tys.data rs201):=(t201 d.1 d.2.1).val
def g201 (d:Tys.data as201):Tys.data rs201:=(f201 d).getD (Tys.dflt rs201)
def p201:PureC:=pcOf as201 rs201 f201 g201
theorem wk201 (x0:(List Int)) (x1:(List Int)):Walks (runPure (kl201_0 Proofs.Tryz.prog).orc Proofs.Tryz.prog 400 201 as201 rs201 (x0,x1,())) (t201 x0 x1) [(bl 2 3,[2,1,4])] :=
  ⟨by kernel_rfl,trivial⟩
theorem ok201_t (x0:(List Int)) (x1:(List Int)):TrOk (PureRuns Proofs.Tryz.prog (kl201_0 Proofs.Tryz.prog).orc 201 as201 rs201 (x0,x1,())) (t201 x0 x1) :=
  Walks.ok (fun _ _ _=>PureRuns.of) (wk201 x0 x1) (by kernel_rfl)
theorem ok201:PureOk Proofs.Tryz.prog 201 p201:=qac kl201_0_ok.base (T:=fun (d:Tys.data as201)=>t201 d.1 d.2.1) (by kernel_rfl) (fun (d:Tys.data as201)=>ok201_t d.1 d.2.1)
def kf201 (P:Go.Program):Known:=(kl201_0 P).func 201 p201
theorem kf201_ok:KnownOk Proofs.Tryz.prog (kf201 Proofs.Tryz.prog):=kl201_0_ok.func ok201
abbrev sh204_0:Sh:={ n:=42,slots:=[0,1,5,6,7],pats:=[.ty (.slice (.int .i64)),.ty (.slice (.int .i64)),.aco (.int .i64),.ty (.int .i64),.ty (.int .i64)],boxes:=[] }
abbrev shb204_0:Sh:={ n:=42,slots:=[5],pats:=[.aco (.int .i64)],boxes:=[] }
abbrev shr204_0:Sh:={ n:=42,slots:=[],pats:=[],boxes:=[] }
def t204_0 (x0:(List Int)) (x1:(List Int)) (x2:(List Int)) (x3:Int) (x4:Int):Tr (Out sh204_0.data shb204_0.data shr204_0.data) :=
  Tr.test ((!leF (↑(List.length x0):Int) x4:Bool))
    (Tr.test (Option.isSome (f211 (x0,(x4,()))))
      (Tr.test (Option.isSome (f211 (x1,(x4,()))))
        (Tr.test ((Nat.ble (((2:Nat) * (List.length x2 + (1:Nat)) + (192:Nat)) * (8:Nat)) (281474976710656:Nat) && Nat.ble (List.length x2 + (1:Nat)) (281474976710656:Nat):Bool))
          (let r0:=g211 (x0,(x4,()));
          let r1:=g211 (x1,(x4,()));
          Tr.fin (.again ((x0,(x1,((x2++[Int.tmod (wrap64 (wrap64 (r0.1 + r1.1) + x3)) (1000000000:Int)]:List Int),((Go.IntKind.wrap Go.IntKind.i64 (Int.tdiv (wrap64 (wrap64 (r0.1 + r1.1) + x3)) (1000000000:Int)):Int),((wrap64 (x4 + (1:Int)):Int),()))))),())))
          (Tr.stop))
        (Tr.stop))
      (Tr.stop))
    (Tr.test (!leF (↑(List.length x1):Int) x4)
      (Tr.test (Option.isSome (f211 (x0,(x4,()))))
        (Tr.test (Option.isSome (f211 (x1,(x4,()))))
          (Tr.test ((Nat.ble (((2:Nat) * (List.length x2 + (1:Nat)) + (192:Nat)) * (8:Nat)) (281474976710656:Nat) && Nat.ble (List.length x2 + (1:Nat)) (281474976710656:Nat):Bool))
            (let r0:=g211 (x0,(x4,()));
            let r1:=g211 (x1,(x4,()));
            Tr.fin (.again ((x0,(x1,((x2++[Int.tmod (wrap64 (wrap64 (r0.1 + r1.1) + x3)) (1000000000:Int)]:List Int),((Go.IntKind.wrap Go.IntKind.i64 (Int.tdiv (wrap64 (wrap64 (r0.1 + r1.1) + x3)) (1000000000:Int)):Int),((wrap64 (x4 + (1:Int)):Int),()))))),())))
            (Tr.stop))
          (Tr.stop))
        (Tr.stop))
      (Tr.test ((!leF x3 0:Bool))
        (Tr.test (Option.isSome (f211 (x0,(x4,()))))
          (Tr.test (Option.isSome (f211 (x1,(x4,()))))
            (Tr.test ((Nat.ble (((2:Nat) * (List.length x2 + (1:Nat)) + (192:Nat)) * (8:Nat)) (281474976710656:Nat) && Nat.ble (List.length x2 + (1:Nat)) (281474976710656:Nat):Bool))
              (let r0:=g211 (x0,(x4,()));
              let r1:=g211 (x1,(x4,()));
              Tr.fin (.again ((x0,(x1,((x2++[Int.tmod (wrap64 (wrap64 (r0.1 + r1.1) + x3)) (1000000000:Int)]:List Int),((Go.IntKind.wrap Go.IntKind.i64 (Int.tdiv (wrap64 (wrap64 (r0.1 + r1.1) + x3)) (1000000000:Int)):Int),((wrap64 (x4 + (1:Int)):Int),()))))),())))
              (Tr.stop))
            (Tr.stop))
          (Tr.stop))
        (Tr.fin (.brk ((x2,()),())))))
def s204_0 (d:sh204_0.data):Option (Out sh204_0.data shb204_0.data shr204_0.data):=(t204_0 d.1.1 d.1.2.1 d.1.2.2.1 d.1.2.2.2.1 d.1.2.2.2.2.1).val
def l204_0 (d:sh204_0.data):Option (shb204_0.data ⊕ shr204_0.data):=itr s204_0 rounds d
def b204_0 (d:sh204_0.data):shb204_0.data:=outB shb204_0.dflt (l204_0 d)
def lc204_0:LoopC:=lcB sh204_0 shb204_0 shr204_0 l204_0 b204_0
theorem wk204_0 (x0:(List Int)) (x1:(List Int)) (x2:(List Int)) (x3:Int) (x4:Int):Walks (qaq (kf201 Proofs.Tryz.prog).orc Proofs.Tryz.prog 400 204 0 sh204_0 shb204_0 shr204_0 ((x0,x1,x2,x3,x4,()),())) (t204_0 x0 x1 x2 x3 x4) [(bl 4 15,[0,2,0,4,6,1,1,1,1,8,8,8,8,8]),(bl 5 30,[0,2,0,4,6,1,8,8,8,10,10,10,10,10]),(bl 6 60,[0,2,0,4,6,8,10,10,10,12,12,12,12,12]),(bl 3 0,[2,4,4,4,6,6,6,6,6])] :=
  ⟨by kernel_rfl,by kernel_rfl,by kernel_rfl,by kernel_rfl,trivial⟩
theorem ok204_0_t (x0:(List Int)) (x1:(List Int)) (x2:(List Int)) (x3:Int) (x4:Int):TrOk (BodyRuns Proofs.Tryz.prog (kf201 Proofs.Tryz.prog).orc 204 0 sh204_0 shb204_0 shr204_0 ((x0,x1,x2,x3,x4,()),())) (t204_0 x0 x1 x2 x3 x4) :=
  Walks.ok (fun _ _ _=>BodyRuns.of) (wk204_0 x0 x1 x2 x3 x4) (by kernel_rfl)
theorem ok204_0:qat Proofs.Tryz.prog 204 0 lc204_0:=qap (sh:=sh204_0) (shB:=shb204_0) (shR:=shr204_0) kf201_ok.base (T:=fun (d:sh204_0.data)=>t204_0 d.1.1 d.1.2.1 d.1.2.2.1 d.1.2.2.2.1 d.1.2.2.2.2.1) (by kernel_rfl) rfl (fun (d:sh204_0.data)=>ok204_0_t d.1.1 d.1.2.1 d.1.2.2.1 d.1.2.2.2.1 d.1.2.2.2.2.1) (fun _=>rfl)
def kl204_0 (P:Go.Program):Known:=(kf201 P).loop 204 0 lc204_0
theorem kl204_0_ok:KnownOk Proofs.Tryz.prog (kl204_0 Proofs.Tryz.prog):=kf201_ok.loop ok204_0
abbrev as204:List Ty:=[(.slice (.int .i64)),(.slice (.int .i64))]
abbrev rs204:List Ty:=[(.slice (.int .i64))]
def t204 (x0:(List Int)) (x1:(List Int)):Tr (Tys.data rs204) :=
  Tr.test (qaV (l204_0 ((x0,(x1,(([]:List Int),((0:Int),((0:Int),()))))),())))
    (let r0:=b204_0 ((x0,(x1,(([]:List Int),((0:Int),((0:Int),()))))),());
    Tr.fin ((r0.1.1,())))
    (Tr.stop)
def f204 (d:Tys.data as204):Option (Tys.data rs204):=(t204 d.1 d.2.1).val
def g204 (d:Tys.data as204):Tys.data rs204:=(f204 d).getD (Tys.dflt rs204)
def p204:PureC:=pcOf as204 rs204 f204 g204
theorem wk204 (x0:(List Int)) (x1:(List Int)):Walks (runPure (kl204_0 Proofs.Tryz.prog).orc Proofs.Tryz.prog 400 204 as204 rs204 (x0,x1,())) (t204 x0 x1) [(bl 1 1,[1,2])] :=
  ⟨by kernel_rfl,trivial⟩
theorem ok204_t (x0:(List Int)) (x1:(List Int)):TrOk (PureRuns Proofs.Tryz.prog (kl204_0 Proofs.Tryz.prog).orc 204 as204 rs204 (x0,x1,())) (t204 x0 x1) :=
  Walks.ok (fun _ _ _=>PureRuns.of) (wk204 x0 x1) (by kernel_rfl)
theorem ok204:PureOk Proofs.Tryz.prog 204 p204:=qac kl204_0_ok.base (T:=fun (d:Tys.data as204)=>t204 d.1 d.2.1) (by kernel_rfl) (fun (d:Tys.data as204)=>ok204_t d.1 d.2.1)
def kf204 (P:Go.Program):Known:=(kl204_0 P).func 204 p204
theorem kf204_ok:KnownOk Proofs.Tryz.prog (kf204 Proofs.Tryz.prog):=kl204_0_ok.func ok204
abbrev as184:List Ty:=[(.pair (.int .i64) (.pair (.slice (.int .i64)) .unit)),(.pair (.int .i64) (.pair (.slice (.int .i64)) .unit))]
abbrev rs184:List Ty:=[(.pair (.int .i64) (.pair (.slice (.int .i64)) .unit))]
def t184 (x0:Int) (x0':(List Int)) (x1:Int) (x1':(List Int)):Tr (Tys.data rs184) :=
  Tr.test ((eqF x0 0:Bool))
    (Tr.fin (((x1,(x1',())),())))
    (Tr.test (eqF x1 0)
      (Tr.fin (((x0,(x0',())),())))
      (Tr.test ((eqF x0 x1:Bool))
        (Tr.test (Option.isSome (f204 (x0',(x1',()))))
          (let r0:=g204 (x0',(x1',()));
          Tr.test (Option.isSome (f186 (x0,(r0.1,()))))
            (let r1:=g186 (x0,(r0.1,()));
            Tr.fin (((r1.1.1,(r1.1.2.1,())),())))
            (Tr.stop))
          (Tr.stop))
        (Tr.test (Option.isSome (f200 (x0',(x1',()))))
          (let r2:=g200 (x0',(x1',()));
          Tr.test ((eqF r2.1 0:Bool))
            (Tr.fin ((((0:Int),(([]:List Int),())),())))
            (Tr.test ((!leF r2.1 0:Bool))
              (Tr.test (Option.isSome (f201 (x0',(x1',()))))
                (let r3:=g201 (x0',(x1',()));
                Tr.test (Option.isSome (f186 (x0,(r3.1,()))))
                  (let r4:=g186 (x0,(r3.1,()));
                  Tr.fin (((r4.1.1,(r4.1.2.1,())),())))
                  (Tr.stop))
                (Tr.stop))
              (Tr.test (Option.isSome (f201 (x1',(x0',()))))
                (let r5:=g201 (x1',(x0',()));
                Tr.test (Option.isSome (f186 (x1,(r5.1,()))))
                  (let r6:=g186 (x1,(r5.1,()));
                  Tr.fin (((r6.1.1,(r6.1.2.1,())),())))
                  (Tr.stop))
                (Tr.stop))))
          (Tr.stop))))
def f184 (d:Tys.data as184):Option (Tys.data rs184):=(t184 d.1.1 d.1.2.1 d.2.1.1 d.2.1.2.1).val
def g184 (d:Tys.data as184):Tys.data rs184:=(f184 d).getD (Tys.dflt rs184)
def p184:PureC:=pcOf as184 rs184 f184 g184
theorem wk184 (x0:Int) (x0':(List Int)) (x1:Int) (x1':(List Int)):Walks (runPure (kf204 Proofs.Tryz.prog).orc Proofs.Tryz.prog 400 184 as184 rs184 ((x0,x0',()),(x1,x1',()),())) (t184 x0 x0' x1 x1') [(bl 1 1,[2]),(bl 2 2,[2,4]),(bl 5 28,[2,4,6,8,10]),(bl 5 24,[2,4,6,8,10]),(bl 8 232,[2,4,6,8,10,12,14,16]),(bl 8 200,[2,4,6,8,10,12,14,16])] :=
  ⟨by kernel_rfl,by kernel_rfl,by kernel_rfl,by kernel_rfl,by kernel_rfl,by kernel_rfl,trivial⟩
theorem ok184_t (x0:Int) (x0':(List Int)) (x1:Int) (x1':(List Int)):TrOk (PureRuns Proofs.Tryz.prog (kf204 Proofs.Tryz.prog).orc 184 as184 rs184 ((x0,x0',()),(x1,x1',()),())) (t184 x0 x0' x1 x1') :=
  Walks.ok (fun _ _ _=>PureRuns.of) (wk184 x0 x0' x1 x1') (by kernel_rfl)
theorem ok184:PureOk Proofs.Tryz.prog 184 p184:=qac kf204_ok.base (T:=fun (d:Tys.data as184)=>t184 d.1.1 d.1.2.1 d.2.1.1 d.2.1.2.1) (by kernel_rfl) (fun (d:Tys.data as184)=>ok184_t d.1.1 d.1.2.1 d.2.1.1 d.2.1.2.1)
def kf184 (P:Go.Program):Known:=(kf204 P).func 184 p184
theorem kf184_ok:KnownOk Proofs.Tryz.prog (kf184 Proofs.Tryz.prog):=kf204_ok.func ok184
abbrev as187:List Ty:=[(.pair (.int .i64) (.pair (.slice (.int .i64)) .unit)),(.pair (.int .i64) (.pair (.slice (.int .i64)) .unit))]
abbrev rs187:List Ty:=[(.pair (.int .i64) (.pair (.slice (.int .i64)) .unit))]
def t187 (x0:Int) (x0':(List Int)) (x1:Int) (x1':(List Int)):Tr (Tys.data rs187) :=
  Tr.test (Option.isSome (f179 ((x1,(x1',())),())))
    (let r0:=g179 ((x1,(x1',())),());
    Tr.test (Option.isSome (f184 ((x0,(x0',())),((r0.1.1,(r0.1.2.1,())),()))))
      (let r1:=g184 ((x0,(x0',())),((r0.1.1,(r0.1.2.1,())),()));
      Tr.fin (((r1.1.1,(r1.1.2.1,())),())))
      (Tr.stop))
    (Tr.stop)
def f187 (d:Tys.data as187):Option (Tys.data rs187):=(t187 d.1.1 d.1.2.1 d.2.1.1 d.2.1.2.1).val
def g187 (d:Tys.data as187):Tys.data rs187:=(f187 d).getD (Tys.dflt rs187)
def p187:PureC:=pcOf as187 rs187 f187 g187
theorem wk187 (x0:Int) (x0':(List Int)) (x1:Int) (x1':(List Int)):Walks (runPure (kf184 Proofs.Tryz.prog).orc Proofs.Tryz.prog 400 187 as187 rs187 ((x0,x0',()),(x1,x1',()),())) (t187 x0 x0' x1 x1') [(bl 2 3,[2,4])] :=
  ⟨by kernel_rfl,trivial⟩
theorem ok187_t (x0:Int) (x0':(List Int)) (x1:Int) (x1':(List Int)):TrOk (PureRuns Proofs.Tryz.prog (kf184 Proofs.Tryz.prog).orc 187 as187 rs187 ((x0,x0',()),(x1,x1',()),())) (t187 x0 x0' x1 x1') :=
  Walks.ok (fun _ _ _=>PureRuns.of) (wk187 x0 x0' x1 x1') (by kernel_rfl)
theorem ok187:PureOk Proofs.Tryz.prog 187 p187:=qac kf184_ok.base (T:=fun (d:Tys.data as187)=>t187 d.1.1 d.1.2.1 d.2.1.1 d.2.1.2.1) (by kernel_rfl) (fun (d:Tys.data as187)=>ok187_t d.1.1 d.1.2.1 d.2.1.1 d.2.1.2.1)
def kf187 (P:Go.Program):Known:=(kf184 P).func 187 p187
theorem kf187_ok:KnownOk Proofs.Tryz.prog (kf187 Proofs.Tryz.prog):=kf184_ok.func ok187
abbrev sh178_2:Sh:={ n:=88,slots:=[2,3,4,5,6,7,8,9],pats:=[.ptr 0 2 0,.ptr 1 2 0,.ptr 2 2 0,.sli 3 1,.ty (.slice (.int .i64)),.ty (.int .i64),.ty (.int .i64),.ty (.int .i64)],boxes:=[.row [.ty (.int .i64),.ty (.slice (.int .i64))],.row [.ty (.int .i64),.ty (.slice (.int .i64))],.row [.ty (.int .i64),.nil],.arr (.int .i64)] }
abbrev shb178_2:Sh:={ n:=88,slots:=[2,3,4,5,6,7,8],pats:=[.ptr 0 2 0,.ptr 1 2 0,.ptr 2 2 0,.sli 3 1,.ty (.slice (.int .i64)),.ty (.int .i64),.ty (.int .i64)],boxes:=[.row [.ty (.int .i64),.ty (.slice (.int .i64))],.row [.ty (.int .i64),.ty (.slice (.int .i64))],.row [.ty (.int .i64),.nil],.arr (.int .i64)] }
abbrev shr178_2:Sh:={ n:=88,slots:=[],pats:=[],boxes:=[.row [.ty (.int .i64),.ty (.slice (.int .i64))],.row [.ty (.int .i64),.ty (.slice (.int .i64))],.row [.ty (.int .i64),.nil],.arr (.int .i64)] }
def t178_2 (x3n:Nat) (x3c:Nat) (x4:(List Int)) (x5:Int) (x6:Int) (x7:Int) (b0_0:Int) (b0_1:(List Int)) (b1_0:Int) (b1_1:(List Int)) (b2_0:Int) (b3:(List Int)):Tr (Out sh178_2.data shb178_2.data shr178_2.data) :=
  Tr.test ((!leF x7 x6:Bool))
    (Tr.test (Option.isSome (f186 ((1:Int),(b1_1,()))))
      (Tr.test (Option.isSome (f164 ((Go.IntKind.wrap Go.IntKind.i64 (Int.tdiv (wrap64 (wrap64 (x6 + x7) + (1:Int))) (2:Int)):Int),())))
        (let r0:=g186 ((1:Int),(b1_1,()));
        let r1:=g164 ((Go.IntKind.wrap Go.IntKind.i64 (Int.tdiv (wrap64 (wrap64 (x6 + x7) + (1:Int))) (2:Int)):Int),());
        Tr.test (Option.isSome (f167 ((r0.1.1,(r0.1.2.1,())),((r1.1.1,(r1.1.2.1,())),()))))
          (let r2:=g167 ((r0.1.1,(r0.1.2.1,())),((r1.1.1,(r1.1.2.1,())),()));
          Tr.test (Option.isSome (f200 (r2.1.2.1,(x4,()))))
            (let r3:=g200 (r2.1.2.1,(x4,()));
            Tr.test ((leF r3.1 0:Bool))
              (Tr.fin (.again (((x3n,x3c),(x4,(x5,((Go.IntKind.wrap Go.IntKind.i64 (Int.tdiv (wrap64 (wrap64 (x6 + x7) + (1:Int))) (2:Int)):Int),(x7,()))))),((b0_0,(b0_1,())),((b1_0,(b1_1,())),((b2_0,()),(b3,())))))))
              (Tr.fin (.again (((x3n,x3c),(x4,(x5,(x6,((wrap64 (Go.IntKind.wrap Go.IntKind.i64 (Int.tdiv (wrap64 (wrap64 (x6 + x7) + (1:Int))) (2:Int)) - (1:Int)):Int),()))))),((b0_0,(b0_1,())),((b1_0,(b1_1,())),((b2_0,()),(b3,()))))))))
            (Tr.stop))
          (Tr.stop))
        (Tr.stop))
      (Tr.stop))
    (Tr.fin (.brk (((x3n,x3c),(x4,(x5,(x6,())))),((b0_0,(b0_1,())),((b1_0,(b1_1,())),((b2_0,()),(b3,())))))))
def s178_2 (d:sh178_2.data):Option (Out sh178_2.data shb178_2.data shr178_2.data):=(t178_2 d.1.1.1 d.1.1.2 d.1.2.1 d.1.2.2.1 d.1.2.2.2.1 d.1.2.2.2.2.1 d.2.1.1 d.2.1.2.1 d.2.2.1.1 d.2.2.1.2.1 d.2.2.2.1.1 d.2.2.2.2.1).val
def l178_2 (d:sh178_2.data):Option (shb178_2.data ⊕ shr178_2.data):=itr s178_2 rounds d
def b178_2 (d:sh178_2.data):shb178_2.data:=outB shb178_2.dflt (l178_2 d)
def lc178_2:LoopC:=lcB sh178_2 shb178_2 shr178_2 l178_2 b178_2
theorem wk178_2 (x3n:Nat) (x3c:Nat) (x4:(List Int)) (x5:Int) (x6:Int) (x7:Int) (b0_0:Int) (b0_1:(List Int)) (b1_0:Int) (b1_1:(List Int)) (b2_0:Int) (b3:(List Int)):Walks (qaq (kf187 Proofs.Tryz.prog).orc Proofs.Tryz.prog 400 178 2 sh178_2 shb178_2 shr178_2 (((x3n,x3c),x4,x5,x6,x7,()),(b0_0,b0_1,()),(b1_0,b1_1,()),(b2_0,()),b3,())) (t178_2 x3n x3c x4 x5 x6 x7 b0_0 b0_1 b1_0 b1_1 b2_0 b3) [(bl 6 63,[2,4,6,8,10,0,12]),(bl 6 31,[2,4,6,8,10,0,12]),(bl 1 0,[2])] :=
  ⟨by kernel_rfl,by kernel_rfl,by kernel_rfl,trivial⟩
theorem ok178_2_t (x3n:Nat) (x3c:Nat) (x4:(List Int)) (x5:Int) (x6:Int) (x7:Int) (b0_0:Int) (b0_1:(List Int)) (b1_0:Int) (b1_1:(List Int)) (b2_0:Int) (b3:(List Int)):TrOk (BodyRuns Proofs.Tryz.prog (kf187 Proofs.Tryz.prog).orc 178 2 sh178_2 shb178_2 shr178_2 (((x3n,x3c),x4,x5,x6,x7,()),(b0_0,b0_1,()),(b1_0,b1_1,()),(b2_0,()),b3,())) (t178_2 x3n x3c x4 x5 x6 x7 b0_0 b0_1 b1_0 b1_1 b2_0 b3) :=
  Walks.ok (fun _ _ _=>BodyRuns.of) (wk178_2 x3n x3c x4 x5 x6 x7 b0_0 b0_1 b1_0 b1_1 b2_0 b3) (by kernel_rfl)
theorem ok178_2:qat Proofs.Tryz.prog 178 2 lc178_2:=qap (sh:=sh178_2) (shB:=shb178_2) (shR:=shr178_2) kf187_ok.base (T:=fun (d:sh178_2.data)=>t178_2 d.1.1.1 d.1.1.2 d.1.2.1 d.1.2.2.1 d.1.2.2.2.1 d.1.2.2.2.2.1 d.2.1.1 d.2.1.2.1 d.2.2.1.1 d.2.2.1.2.1 d.2.2.2.1.1 d.2.2.2.2.1) (by kernel_rfl) rfl (fun (d:sh178_2.data)=>ok178_2_t d.1.1.1 d.1.1.2 d.1.2.1 d.1.2.2.1 d.1.2.2.2.1 d.1.2.2.2.2.1 d.2.1.1 d.2.1.2.1 d.2.2.1.1 d.2.2.1.2.1 d.2.2.2.1.1 d.2.2.2.2.1) (fun _=>rfl)
def kl178_2 (P:Go.Program):Known:=(kf187 P).loop 178 2 lc178_2
theorem kl178_2_ok:KnownOk Proofs.Tryz.prog (kl178_2 Proofs.Tryz.prog):=kf187_ok.loop ok178_2
abbrev sh178_0:Sh:={ n:=88,slots:=[2,3,4,5,6,7],pats:=[.ptr 0 2 0,.ptr 1 2 0,.ptr 2 2 0,.sli 3 1,.ty (.slice (.int .i64)),.ty (.int .i64)],boxes:=[.row [.ty (.int .i64),.ty (.slice (.int .i64))],.row [.ty (.int .i64),.ty (.slice (.int .i64))],.row [.ty (.int .i64),.nil],.arr (.int .i64)] }
abbrev shb178_0:Sh:={ n:=88,slots:=[2,4,5,6],pats:=[.ptr 0 2 0,.ptr 2 2 0,.sli 3 1,.ty (.slice (.int .i64))],boxes:=[.row [.ty (.int .i64),.ty (.slice (.int .i64))],.row [.ty (.int .i64),.ty (.slice (.int .i64))],.row [.ty (.int .i64),.nil],.arr (.int .i64)] }
abbrev shr178_0:Sh:={ n:=88,slots:=[],pats:=[],boxes:=[.row [.ty (.int .i64),.ty (.slice (.int .i64))],.row [.ty (.int .i64),.ty (.slice (.int .i64))],.row [.ty (.int .i64),.nil],.arr (.int .i64)] }
def t178_0 (x3n:Nat) (x3c:Nat) (x4:(List Int)) (x5:Int) (b0_0:Int) (b0_1:(List Int)) (b1_0:Int) (b1_1:(List Int)) (b2_0:Int) (b3:(List Int)):Tr (Out sh178_0.data shb178_0.data shr178_0.data) :=
  Tr.test ((leF (0:Int) x5:Bool))
    (Tr.test (decide ((0:Int) ≤ x5) && decide (x5 < (↑(List.length b0_1):Int)))
      (Tr.test ((Nat.ble (((2:Nat) * ((1:Nat) + List.length x4) + (192:Nat)) * (8:Nat)) (281474976710656:Nat) && Nat.ble ((1:Nat) + List.length x4) (281474976710656:Nat):Bool))
        (Tr.test (Option.isSome (f199 (([List.getD b0_1 (Int.toNat x5) (0:Int)]++x4:List Int),())))
          (let r0:=g199 (([List.getD b0_1 (Int.toNat x5) (0:Int)]++x4:List Int),());
          Tr.test (qaV (l178_2 (((x3n,x3c),(r0.1,(x5,((0:Int),((999999999:Int),()))))),((b0_0,(b0_1,())),((b1_0,(b1_1,())),((b2_0,()),(b3,())))))))
            (let r1:=b178_2 (((x3n,x3c),(r0.1,(x5,((0:Int),((999999999:Int),()))))),((b0_0,(b0_1,())),((b1_0,(b1_1,())),((b2_0,()),(b3,())))));
            Tr.test ((decide ((0:Int) ≤ r1.1.2.2.1) && decide (r1.1.2.2.1 < (↑r1.1.1.1:Int)):Bool))
              (Tr.test ((Nat.ble ((0:Nat) + Int.toNat r1.1.2.2.1 + (1:Nat)) (List.length r1.2.2.2.2.1):Bool))
                (Tr.test (Option.isSome (f186 ((1:Int),(r1.2.2.1.2.1,()))))
                  (Tr.test (Option.isSome (f164 (r1.1.2.2.2.1,())))
                    (let r2:=g186 ((1:Int),(r1.2.2.1.2.1,()));
                    let r3:=g164 (r1.1.2.2.2.1,());
                    Tr.test (Option.isSome (f167 ((r2.1.1,(r2.1.2.1,())),((r3.1.1,(r3.1.2.1,())),()))))
                      (let r4:=g167 ((r2.1.1,(r2.1.2.1,())),((r3.1.1,(r3.1.2.1,())),()));
                      Tr.test (Option.isSome (f201 (r1.1.2.1,(r4.1.2.1,()))))
                        (let r5:=g201 (r1.1.2.1,(r4.1.2.1,()));
                        Tr.fin (.again (((r1.1.1.1,r1.1.1.2),(r5.1,((wrap64 (r1.1.2.2.1 - (1:Int)):Int),()))),((r1.2.1.1,(r1.2.1.2.1,())),((r1.2.2.1.1,(r1.2.2.1.2.1,())),((r1.2.2.2.1.1,()),((List.set r1.2.2.2.2.1 ((0:Nat) + Int.toNat r1.1.2.2.1) r1.1.2.2.2.1:List Int),())))))))
                        (Tr.stop))
                      (Tr.stop))
                    (Tr.stop))
                  (Tr.stop))
                (Tr.stop))
              (Tr.stop))
            (Tr.stop))
          (Tr.stop))
        (Tr.stop))
      (Tr.stop))
    (Tr.fin (.brk (((x3n,x3c),(x4,())),((b0_0,(b0_1,())),((b1_0,(b1_1,())),((b2_0,()),(b3,())))))))
def s178_0 (d:sh178_0.data):Option (Out sh178_0.data shb178_0.data shr178_0.data):=(t178_0 d.1.1.1 d.1.1.2 d.1.2.1 d.1.2.2.1 d.2.1.1 d.2.1.2.1 d.2.2.1.1 d.2.2.1.2.1 d.2.2.2.1.1 d.2.2.2.2.1).val
def l178_0 (d:sh178_0.data):Option (shb178_0.data ⊕ shr178_0.data):=itr s178_0 rounds d
def b178_0 (d:sh178_0.data):shb178_0.data:=outB shb178_0.dflt (l178_0 d)
def lc178_0:LoopC:=lcB sh178_0 shb178_0 shr178_0 l178_0 b178_0
theorem wk178_0 (x3n:Nat) (x3c:Nat) (x4:(List Int)) (x5:Int) (b0_0:Int) (b0_1:(List Int)) (b1_0:Int) (b1_1:(List Int)) (b2_0:Int) (b3:(List Int)):Walks (qaq (kl178_2 Proofs.Tryz.prog).orc Proofs.Tryz.prog 400 178 0 sh178_0 shb178_0 shr178_0 (((x3n,x3c),x4,x5,()),(b0_0,b0_1,()),(b1_0,b1_1,()),(b2_0,()),b3,())) (t178_0 x3n x3c x4 x5 b0_0 b0_1 b1_0 b1_1 b2_0 b3) [(bl 11 2047,[2,4,6,8,10,12,1,14,16,18,20,22]),(bl 1 0,[2])] :=
  ⟨by kernel_rfl,by kernel_rfl,trivial⟩
theorem ok178_0_t (x3n:Nat) (x3c:Nat) (x4:(List Int)) (x5:Int) (b0_0:Int) (b0_1:(List Int)) (b1_0:Int) (b1_1:(List Int)) (b2_0:Int) (b3:(List Int)):TrOk (BodyRuns Proofs.Tryz.prog (kl178_2 Proofs.Tryz.prog).orc 178 0 sh178_0 shb178_0 shr178_0 (((x3n,x3c),x4,x5,()),(b0_0,b0_1,()),(b1_0,b1_1,()),(b2_0,()),b3,())) (t178_0 x3n x3c x4 x5 b0_0 b0_1 b1_0 b1_1 b2_0 b3) :=
  Walks.ok (fun _ _ _=>BodyRuns.of) (wk178_0 x3n x3c x4 x5 b0_0 b0_1 b1_0 b1_1 b2_0 b3) (by kernel_rfl)
theorem ok178_0:qat Proofs.Tryz.prog 178 0 lc178_0:=qap (sh:=sh178_0) (shB:=shb178_0) (shR:=shr178_0) kl178_2_ok.base (T:=fun (d:sh178_0.data)=>t178_0 d.1.1.1 d.1.1.2 d.1.2.1 d.1.2.2.1 d.2.1.1 d.2.1.2.1 d.2.2.1.1 d.2.2.1.2.1 d.2.2.2.1.1 d.2.2.2.2.1) (by kernel_rfl) rfl (fun (d:sh178_0.data)=>ok178_0_t d.1.1.1 d.1.1.2 d.1.2.1 d.1.2.2.1 d.2.1.1 d.2.1.2.1 d.2.2.1.1 d.2.2.1.2.1 d.2.2.2.1.1 d.2.2.2.2.1) (fun _=>rfl)
def kl178_0 (P:Go.Program):Known:=(kl178_2 P).loop 178 0 lc178_0
theorem kl178_0_ok:KnownOk Proofs.Tryz.prog (kl178_0 Proofs.Tryz.prog):=kl178_2_ok.loop ok178_0
abbrev as178:List Ty:=[(.pair (.int .i64) (.pair (.slice (.int .i64)) .unit)),(.pair (.int .i64) (.pair (.slice (.int .i64)) .unit))]
abbrev rs178:List Ty:=[(.pair (.int .i64) (.pair (.slice (.int .i64)) .unit))]
def t178 (x0:Int) (x0':(List Int)) (x1:Int) (x1':(List Int)):Tr (Tys.data rs178) :=
  Tr.test ((eqF x0 0:Bool))
    (Tr.fin ((((0:Int),(([]:List Int),())),())))
    (Tr.test (decide ((0:Int) ≤ (↑(List.length x0'):Int)) && decide ((↑(List.length x0'):Int) ≤ (↑(List.length x0'):Int)) && decide ((8:Int) * (↑(List.length x0'):Int) ≤ (281474976710656:Int)) && decide ((↑(List.length x0'):Int) ≤ (281474976710656:Int)))
      (Tr.test (qaV (l178_0 ((((Int.toNat (↑(List.length x0'):Int):Nat),(Int.toNat (↑(List.length x0'):Int):Nat)),(([]:List Int),((wrap64 ((↑(List.length x0'):Int) - (1:Int)):Int),()))),((x0,(x0',())),((x1,(x1',())),(((0:Int),()),((List.replicate (Int.toNat (↑(List.length x0'):Int)) (0:Int):List Int),())))))))
        (let r0:=b178_0 ((((Int.toNat (↑(List.length x0'):Int):Nat),(Int.toNat (↑(List.length x0'):Int):Nat)),(([]:List Int),((wrap64 ((↑(List.length x0'):Int) - (1:Int)):Int),()))),((x0,(x0',())),((x1,(x1',())),(((0:Int),()),((List.replicate (Int.toNat (↑(List.length x0'):Int)) (0:Int):List Int),())))));
        Tr.test ((Nat.beq r0.1.1.1 (List.length r0.2.2.2.2.1):Bool))
          (Tr.test (Option.isSome (f186 (r0.2.1.1,(r0.2.2.2.2.1,()))))
            (Tr.test ((!leF (0:Int) r0.2.1.1:Bool))
              (Tr.test ((!leF (↑(List.length r0.1.2.1):Int) (0:Int):Bool))
                (Tr.test (Option.isSome (f164 ((1:Int),())))
                  (let r1:=g186 (r0.2.1.1,(r0.2.2.2.2.1,()));
                  let r3:=g164 ((1:Int),());
                  Tr.test (Option.isSome (f187 ((r1.1.1,(r1.1.2.1,())),((r3.1.1,(r3.1.2.1,())),()))))
                    (let r4:=g187 ((r1.1.1,(r1.1.2.1,())),((r3.1.1,(r3.1.2.1,())),()));
                    Tr.fin (((r4.1.1,(r4.1.2.1,())),())))
                    (Tr.stop))
                  (Tr.stop))
                (let r1:=g186 (r0.2.1.1,(r0.2.2.2.2.1,()));
                Tr.fin (((r1.1.1,(r1.1.2.1,())),()))))
              (let r1:=g186 (r0.2.1.1,(r0.2.2.2.2.1,()));
              Tr.fin (((r1.1.1,(r1.1.2.1,())),()))))
            (Tr.stop))
          (Tr.test ((Nat.ble r0.1.1.1 (List.length r0.2.2.2.2.1):Bool))
            (Tr.test (Option.isSome (f186 (r0.2.1.1,((List.take r0.1.1.1 r0.2.2.2.2.1:List Int),()))))
              (Tr.test ((!leF (0:Int) r0.2.1.1:Bool))
                (Tr.test ((!leF (↑(List.length r0.1.2.1):Int) (0:Int):Bool))
                  (Tr.test (Option.isSome (f164 ((1:Int),())))
                    (let r2:=g186 (r0.2.1.1,((List.take r0.1.1.1 r0.2.2.2.2.1:List Int),()));
                    let r3:=g164 ((1:Int),());
                    Tr.test (Option.isSome (f187 ((r2.1.1,(r2.1.2.1,())),((r3.1.1,(r3.1.2.1,())),()))))
                      (let r5:=g187 ((r2.1.1,(r2.1.2.1,())),((r3.1.1,(r3.1.2.1,())),()));
                      Tr.fin (((r5.1.1,(r5.1.2.1,())),())))
                      (Tr.stop))
                    (Tr.stop))
                  (let r2:=g186 (r0.2.1.1,((List.take r0.1.1.1 r0.2.2.2.2.1:List Int),()));
                  Tr.fin (((r2.1.1,(r2.1.2.1,())),()))))
                (let r2:=g186 (r0.2.1.1,((List.take r0.1.1.1 r0.2.2.2.2.1:List Int),()));
                Tr.fin (((r2.1.1,(r2.1.2.1,())),()))))
              (Tr.stop))
            (Tr.stop /- a known call [op 3 of region 16 of F178] -/)))
        (Tr.stop))
      (Tr.stop))
def f178 (d:Tys.data as178):Option (Tys.data rs178):=(t178 d.1.1 d.1.2.1 d.2.1.1 d.2.1.2.1).val
def g178 (d:Tys.data as178):Tys.data rs178:=(f178 d).getD (Tys.dflt rs178)
def p178:PureC:=pcOf as178 rs178 f178 g178
theorem wk178 (x0:Int) (x0':(List Int)) (x1:Int) (x1':(List Int)):Walks (runPure (kl178_0 Proofs.Tryz.prog).orc Proofs.Tryz.prog 400 178 as178 rs178 ((x0,x0',()),(x1,x1',()),())) (t178 x0 x0' x1 x1') [(bl 1 1,[2]),(bl 9 510,[2,4,6,8,8,8,8,10,12,1,14,16,18]),(bl 7 62,[2,4,4,4,4,6,8,1,10,12,14]),(bl 6 30,[0,2,2,2,2,4,6,1,8,10,12]),(bl 10 1014,[2,4,6,8,8,8,8,10,12,14,1,16,18,20]),(bl 8 118,[2,4,4,4,4,6,8,10,1,12,14,16]),(bl 7 54,[0,2,2,2,2,4,6,8,1,10,12,14])] :=
  ⟨by kernel_rfl,by kernel_rfl,by kernel_rfl,by kernel_rfl,by kernel_rfl,by kernel_rfl,by kernel_rfl,trivial⟩
theorem ok178_t (x0:Int) (x0':(List Int)) (x1:Int) (x1':(List Int)):TrOk (PureRuns Proofs.Tryz.prog (kl178_0 Proofs.Tryz.prog).orc 178 as178 rs178 ((x0,x0',()),(x1,x1',()),())) (t178 x0 x0' x1 x1') :=
  Walks.ok (fun _ _ _=>PureRuns.of) (wk178 x0 x0' x1 x1') (by kernel_rfl)
theorem ok178:PureOk Proofs.Tryz.prog 178 p178:=qac kl178_0_ok.base (T:=fun (d:Tys.data as178)=>t178 d.1.1 d.1.2.1 d.2.1.1 d.2.1.2.1) (by kernel_rfl) (fun (d:Tys.data as178)=>ok178_t d.1.1 d.1.2.1 d.2.1.1 d.2.1.2.1)
def kf178 (P:Go.Program):Known:=(kl178_0 P).func 178 p178
theorem kf178_ok:KnownOk Proofs.Tryz.prog (kf178 Proofs.Tryz.prog):=kl178_0_ok.func ok178
abbrev sh203_0:Sh:={ n:=23,slots:=[2,3,4],pats:=[.ptr 0 2 0,.ptr 1 2 0,.ptr 2 2 0],boxes:=[.row [.ty (.int .i64),.ty (.slice (.int .i64))],.row [.ty (.int .i64),.ty (.slice (.int .i64))],.row [.ty (.int .i64),.nil]] }
abbrev shb203_0:Sh:={ n:=23,slots:=[2,4],pats:=[.ptr 0 2 0,.ptr 2 2 0],boxes:=[.row [.ty (.int .i64),.ty (.slice (.int .i64))],.row [.ty (.int .i64),.ty (.slice (.int .i64))],.row [.ty (.int .i64),.nil]] }
abbrev shr203_0:Sh:={ n:=23,slots:=[],pats:=[],boxes:=[.row [.ty (.int .i64),.ty (.slice (.int .i64))],.row [.ty (.int .i64),.ty (.slice (.int .i64))],.row [.ty (.int .i64),.nil]] }
def t203_0 (b0_0:Int) (b0_1:(List Int)) (b1_0:Int) (b1_1:(List Int)) (b2_0:Int):Tr (Out sh203_0.data shb203_0.data shr203_0.data) :=
  Tr.test (Option.isSome (f202 ((b1_0,(b1_1,())),())))
    (let r0:=g202 ((b1_0,(b1_1,())),());
    Tr.test ((!eqF r0.1 0:Bool))
      (Tr.test (Option.isSome (f178 ((b0_0,(b0_1,())),((b1_0,(b1_1,())),()))))
        (let r1:=g178 ((b0_0,(b0_1,())),((b1_0,(b1_1,())),()));
        Tr.test (Option.isSome (f167 ((r1.1.1,(r1.1.2.1,())),((b1_0,(b1_1,())),()))))
          (let r2:=g167 ((r1.1.1,(r1.1.2.1,())),((b1_0,(b1_1,())),()));
          Tr.test (Option.isSome (f187 ((b0_0,(b0_1,())),((r2.1.1,(r2.1.2.1,())),()))))
            (let r3:=g187 ((b0_0,(b0_1,())),((r2.1.1,(r2.1.2.1,())),()));
            Tr.fin (.again ((),((b1_0,(b1_1,())),((r3.1.1,(r3.1.2.1,())),((b2_0,()),()))))))
            (Tr.stop))
          (Tr.stop))
        (Tr.stop))
      (Tr.fin (.brk ((),((b0_0,(b0_1,())),((b1_0,(b1_1,())),((b2_0,()),())))))))
    (Tr.stop)
def s203_0 (d:sh203_0.data):Option (Out sh203_0.data shb203_0.data shr203_0.data):=(t203_0 d.2.1.1 d.2.1.2.1 d.2.2.1.1 d.2.2.1.2.1 d.2.2.2.1.1).val
def l203_0 (d:sh203_0.data):Option (shb203_0.data ⊕ shr203_0.data):=itr s203_0 rounds d
def b203_0 (d:sh203_0.data):shb203_0.data:=outB shb203_0.dflt (l203_0 d)
def lc203_0:LoopC:=lcB sh203_0 shb203_0 shr203_0 l203_0 b203_0
theorem wk203_0 (b0_0:Int) (b0_1:(List Int)) (b1_0:Int) (b1_1:(List Int)) (b2_0:Int):Walks (qaq (kf178 Proofs.Tryz.prog).orc Proofs.Tryz.prog 400 203 0 sh203_0 shb203_0 shr203_0 ((),(b0_0,b0_1,()),(b1_0,b1_1,()),(b2_0,()),())) (t203_0 b0_0 b0_1 b1_0 b1_1 b2_0) [(bl 5 31,[2,4,6,8,10]),(bl 2 1,[2,4])] :=
  ⟨by kernel_rfl,by kernel_rfl,trivial⟩
theorem ok203_0_t (b0_0:Int) (b0_1:(List Int)) (b1_0:Int) (b1_1:(List Int)) (b2_0:Int):TrOk (BodyRuns Proofs.Tryz.prog (kf178 Proofs.Tryz.prog).orc 203 0 sh203_0 shb203_0 shr203_0 ((),(b0_0,b0_1,()),(b1_0,b1_1,()),(b2_0,()),())) (t203_0 b0_0 b0_1 b1_0 b1_1 b2_0) :=
  Walks.ok (fun _ _ _=>BodyRuns.of) (wk203_0 b0_0 b0_1 b1_0 b1_1 b2_0) (by kernel_rfl)
theorem ok203_0:qat Proofs.Tryz.prog 203 0 lc203_0:=qap (sh:=sh203_0) (shB:=shb203_0) (shR:=shr203_0) kf178_ok.base (T:=fun (d:sh203_0.data)=>t203_0 d.2.1.1 d.2.1.2.1 d.2.2.1.1 d.2.2.1.2.1 d.2.2.2.1.1) (by kernel_rfl) rfl (fun (d:sh203_0.data)=>ok203_0_t d.2.1.1 d.2.1.2.1 d.2.2.1.1 d.2.2.1.2.1 d.2.2.2.1.1) (fun _=>rfl)
def kl203_0 (P:Go.Program):Known:=(kf178 P).loop 203 0 lc203_0
theorem kl203_0_ok:KnownOk Proofs.Tryz.prog (kl203_0 Proofs.Tryz.prog):=kf178_ok.loop ok203_0
abbrev as203:List Ty:=[(.pair (.int .i64) (.pair (.slice (.int .i64)) .unit)),(.pair (.int .i64) (.pair (.slice (.int .i64)) .unit))]
abbrev rs203:List Ty:=[(.pair (.int .i64) (.pair (.slice (.int .i64)) .unit))]
def t203 (x0:Int) (x0':(List Int)) (x1:Int) (x1':(List Int)):Tr (Tys.data rs203) :=
  Tr.test (Option.isSome (f212 ((x0,(x0',())),())))
    (Tr.test (Option.isSome (f212 ((x1,(x1',())),())))
      (let r0:=g212 ((x0,(x0',())),());
      let r1:=g212 ((x1,(x1',())),());
      Tr.test (qaV (l203_0 ((),((r0.1.1,(r0.1.2.1,())),((r1.1.1,(r1.1.2.1,())),(((0:Int),()),()))))))
        (let r2:=b203_0 ((),((r0.1.1,(r0.1.2.1,())),((r1.1.1,(r1.1.2.1,())),(((0:Int),()),()))));
        Tr.fin (((r2.2.1.1,(r2.2.1.2.1,())),())))
        (Tr.stop))
      (Tr.stop))
    (Tr.stop)
def f203 (d:Tys.data as203):Option (Tys.data rs203):=(t203 d.1.1 d.1.2.1 d.2.1.1 d.2.1.2.1).val
def g203 (d:Tys.data as203):Tys.data rs203:=(f203 d).getD (Tys.dflt rs203)
def p203:PureC:=pcOf as203 rs203 f203 g203
theorem wk203 (x0:Int) (x0':(List Int)) (x1:Int) (x1':(List Int)):Walks (runPure (kl203_0 Proofs.Tryz.prog).orc Proofs.Tryz.prog 400 203 as203 rs203 ((x0,x0',()),(x1,x1',()),())) (t203 x0 x0' x1 x1') [(bl 3 7,[1,2,4,6])] :=
  ⟨by kernel_rfl,trivial⟩
theorem ok203_t (x0:Int) (x0':(List Int)) (x1:Int) (x1':(List Int)):TrOk (PureRuns Proofs.Tryz.prog (kl203_0 Proofs.Tryz.prog).orc 203 as203 rs203 ((x0,x0',()),(x1,x1',()),())) (t203 x0 x0' x1 x1') :=
  Walks.ok (fun _ _ _=>PureRuns.of) (wk203 x0 x0' x1 x1') (by kernel_rfl)
theorem ok203:PureOk Proofs.Tryz.prog 203 p203:=qac kl203_0_ok.base (T:=fun (d:Tys.data as203)=>t203 d.1.1 d.1.2.1 d.2.1.1 d.2.1.2.1) (by kernel_rfl) (fun (d:Tys.data as203)=>ok203_t d.1.1 d.1.2.1 d.2.1.1 d.2.1.2.1)
def kf203 (P:Go.Program):Known:=(kl203_0 P).func 203 p203
theorem kf203_ok:KnownOk Proofs.Tryz.prog (kf203 Proofs.Tryz.prog):=kl203_0_ok.func ok203
abbrev as166:List Ty:=[(.pair (.int .i64) (.pair (.slice (.int .i64)) .unit)),(.pair (.int .i64) (.pair (.slice (.int .i64)) .unit))]
abbrev rs166:List Ty:=[(.int .i64)]
def t166 (x0:Int) (x0':(List Int)) (x1:Int) (x1':(List Int)):Tr (Tys.data rs166) :=
  Tr.test (Option.isSome (f187 ((x0,(x0',())),((x1,(x1',())),()))))
    (let r0:=g187 ((x0,(x0',())),((x1,(x1',())),()));
    Tr.fin ((r0.1.1,())))
    (Tr.stop)
def f166 (d:Tys.data as166):Option (Tys.data rs166):=(t166 d.1.1 d.1.2.1 d.2.1.1 d.2.1.2.1).val
def g166 (d:Tys.data as166):Tys.data rs166:=(f166 d).getD (Tys.dflt rs166)
def p166:PureC:=pcOf as166 rs166 f166 g166
theorem wk166 (x0:Int) (x0':(List Int)) (x1:Int) (x1':(List Int)):Walks (runPure (kf203 Proofs.Tryz.prog).orc Proofs.Tryz.prog 400 166 as166 rs166 ((x0,x0',()),(x1,x1',()),())) (t166 x0 x0' x1 x1') [(bl 1 1,[2])] :=
  ⟨by kernel_rfl,trivial⟩
theorem ok166_t (x0:Int) (x0':(List Int)) (x1:Int) (x1':(List Int)):TrOk (PureRuns Proofs.Tryz.prog (kf203 Proofs.Tryz.prog).orc 166 as166 rs166 ((x0,x0',()),(x1,x1',()),())) (t166 x0 x0' x1 x1') :=
  Walks.ok (fun _ _ _=>PureRuns.of) (wk166 x0 x0' x1 x1') (by kernel_rfl)
theorem ok166:PureOk Proofs.Tryz.prog 166 p166:=qac kf203_ok.base (T:=fun (d:Tys.data as166)=>t166 d.1.1 d.1.2.1 d.2.1.1 d.2.1.2.1) (by kernel_rfl) (fun (d:Tys.data as166)=>ok166_t d.1.1 d.1.2.1 d.2.1.1 d.2.1.2.1)
def kf166 (P:Go.Program):Known:=(kf203 P).func 166 p166
theorem kf166_ok:KnownOk Proofs.Tryz.prog (kf166 Proofs.Tryz.prog):=kf203_ok.func ok166
abbrev as183:List Ty:=[(.pair (.int .i64) (.pair (.slice (.int .i64)) .unit)),(.pair (.int .i64) (.pair (.slice (.int .i64)) .unit))]
abbrev rs183:List Ty:=[(.pair (.pair (.int .i64) (.pair (.slice (.int .i64)) .unit)) (.pair (.pair (.int .i64) (.pair (.slice (.int .i64)) .unit)) .unit))]
def t183 (x0:Int) (x0':(List Int)) (x1:Int) (x1':(List Int)):Tr (Tys.data rs183) :=
  Tr.test (Option.isSome (f202 ((x1,(x1',())),())))
    (let r0:=g202 ((x1,(x1',())),());
    Tr.test ((!leF (0:Int) r0.1:Bool))
      (Tr.test (Option.isSome (f179 ((x0,(x0',())),())))
        (Tr.test (Option.isSome (f179 ((x1,(x1',())),())))
          (let r1:=g179 ((x0,(x0',())),());
          let r2:=g179 ((x1,(x1',())),());
          Tr.test (Option.isSome (f203 ((r1.1.1,(r1.1.2.1,())),((r2.1.1,(r2.1.2.1,())),()))))
            (Tr.test (Option.isSome (f164 ((1:Int),())))
              (let r3:=g203 ((r1.1.1,(r1.1.2.1,())),((r2.1.1,(r2.1.2.1,())),()));
              let r4:=g164 ((1:Int),());
              Tr.test (Option.isSome (f166 ((r3.1.1,(r3.1.2.1,())),((r4.1.1,(r4.1.2.1,())),()))))
                (let r5:=g166 ((r3.1.1,(r3.1.2.1,())),((r4.1.1,(r4.1.2.1,())),()));
                Tr.test ((eqF r5.1 0:Bool))
                  (Tr.fin ((((r1.1.1,(r1.1.2.1,())),((r2.1.1,(r2.1.2.1,())),())),())))
                  (Tr.test (Option.isSome (f178 ((r1.1.1,(r1.1.2.1,())),((r3.1.1,(r3.1.2.1,())),()))))
                    (Tr.test (Option.isSome (f178 ((r2.1.1,(r2.1.2.1,())),((r3.1.1,(r3.1.2.1,())),()))))
                      (let r6:=g178 ((r1.1.1,(r1.1.2.1,())),((r3.1.1,(r3.1.2.1,())),()));
                      let r7:=g178 ((r2.1.1,(r2.1.2.1,())),((r3.1.1,(r3.1.2.1,())),()));
                      Tr.fin ((((r6.1.1,(r6.1.2.1,())),((r7.1.1,(r7.1.2.1,())),())),())))
                      (Tr.stop))
                    (Tr.stop)))
                (Tr.stop))
              (Tr.stop))
            (Tr.stop))
          (Tr.stop))
        (Tr.stop))
      (Tr.test (Option.isSome (f203 ((x0,(x0',())),((x1,(x1',())),()))))
        (Tr.test (Option.isSome (f164 ((1:Int),())))
          (let r4:=g164 ((1:Int),());
          let r8:=g203 ((x0,(x0',())),((x1,(x1',())),()));
          Tr.test (Option.isSome (f166 ((r8.1.1,(r8.1.2.1,())),((r4.1.1,(r4.1.2.1,())),()))))
            (let r9:=g166 ((r8.1.1,(r8.1.2.1,())),((r4.1.1,(r4.1.2.1,())),()));
            Tr.test ((eqF r9.1 0:Bool))
              (Tr.fin ((((x0,(x0',())),((x1,(x1',())),())),())))
              (Tr.test (Option.isSome (f178 ((x0,(x0',())),((r8.1.1,(r8.1.2.1,())),()))))
                (Tr.test (Option.isSome (f178 ((x1,(x1',())),((r8.1.1,(r8.1.2.1,())),()))))
                  (let r10:=g178 ((x0,(x0',())),((r8.1.1,(r8.1.2.1,())),()));
                  let r11:=g178 ((x1,(x1',())),((r8.1.1,(r8.1.2.1,())),()));
                  Tr.fin ((((r10.1.1,(r10.1.2.1,())),((r11.1.1,(r11.1.2.1,())),())),())))
                  (Tr.stop))
                (Tr.stop)))
            (Tr.stop))
          (Tr.stop))
        (Tr.stop)))
    (Tr.stop)
def f183 (d:Tys.data as183):Option (Tys.data rs183):=(t183 d.1.1 d.1.2.1 d.2.1.1 d.2.1.2.1).val
def g183 (d:Tys.data as183):Tys.data rs183:=(f183 d).getD (Tys.dflt rs183)
def p183:PureC:=pcOf as183 rs183 f183 g183
theorem wk183 (x0:Int) (x0':(List Int)) (x1:Int) (x1':(List Int)):Walks (runPure (kf166 Proofs.Tryz.prog).orc Proofs.Tryz.prog 400 183 as183 rs183 ((x0,x0',()),(x1,x1',()),())) (t183 x0 x0' x1 x1') [(bl 8 255,[2,4,6,8,10,12,14,16]),(bl 10 895,[2,4,6,8,10,12,14,16,18,20]),(bl 6 61,[2,4,6,8,10,12]),(bl 8 221,[2,4,6,8,10,12,14,16])] :=
  ⟨by kernel_rfl,by kernel_rfl,by kernel_rfl,by kernel_rfl,trivial⟩
theorem ok183_t (x0:Int) (x0':(List Int)) (x1:Int) (x1':(List Int)):TrOk (PureRuns Proofs.Tryz.prog (kf166 Proofs.Tryz.prog).orc 183 as183 rs183 ((x0,x0',()),(x1,x1',()),())) (t183 x0 x0' x1 x1') :=
  Walks.ok (fun _ _ _=>PureRuns.of) (wk183 x0 x0' x1 x1') (by kernel_rfl)
theorem ok183:PureOk Proofs.Tryz.prog 183 p183:=qac kf166_ok.base (T:=fun (d:Tys.data as183)=>t183 d.1.1 d.1.2.1 d.2.1.1 d.2.1.2.1) (by kernel_rfl) (fun (d:Tys.data as183)=>ok183_t d.1.1 d.1.2.1 d.2.1.1 d.2.1.2.1)
def kf183 (P:Go.Program):Known:=(kf166 P).func 183 p183
theorem kf183_ok:KnownOk Proofs.Tryz.prog (kf183 Proofs.Tryz.prog):=kf166_ok.func ok183
abbrev as163:List Ty:=[(.int .i64),(.int .i64)]
abbrev rs163:List Ty:=[(.pair (.pair (.int .i64) (.pair (.slice (.int .i64)) .unit)) (.pair (.pair (.int .i64) (.pair (.slice (.int .i64)) .unit)) .unit))]
def t163 (x0:Int) (x1:Int):Tr (Tys.data rs163) :=
  Tr.test (Option.isSome (f164 (x0,())))
    (Tr.test (Option.isSome (f164 (x1,())))
      (let r0:=g164 (x0,());
      let r1:=g164 (x1,());
      Tr.test (Option.isSome (f183 ((r0.1.1,(r0.1.2.1,())),((r1.1.1,(r1.1.2.1,())),()))))
        (let r2:=g183 ((r0.1.1,(r0.1.2.1,())),((r1.1.1,(r1.1.2.1,())),()));
        Tr.fin ((((r2.1.1.1,(r2.1.1.2.1,())),((r2.1.2.1.1,(r2.1.2.1.2.1,())),())),())))
        (Tr.stop))
      (Tr.stop))
    (Tr.stop)
def f163 (d:Tys.data as163):Option (Tys.data rs163):=(t163 d.1 d.2.1).val
def g163 (d:Tys.data as163):Tys.data rs163:=(f163 d).getD (Tys.dflt rs163)
def p163:PureC:=pcOf as163 rs163 f163 g163
theorem wk163 (x0:Int) (x1:Int):Walks (runPure (kf183 Proofs.Tryz.prog).orc Proofs.Tryz.prog 400 163 as163 rs163 (x0,x1,())) (t163 x0 x1) [(bl 3 7,[2,4,6])] :=
  ⟨by kernel_rfl,trivial⟩
theorem ok163_t (x0:Int) (x1:Int):TrOk (PureRuns Proofs.Tryz.prog (kf183 Proofs.Tryz.prog).orc 163 as163 rs163 (x0,x1,())) (t163 x0 x1) :=
  Walks.ok (fun _ _ _=>PureRuns.of) (wk163 x0 x1) (by kernel_rfl)
theorem ok163:PureOk Proofs.Tryz.prog 163 p163:=qac kf183_ok.base (T:=fun (d:Tys.data as163)=>t163 d.1 d.2.1) (by kernel_rfl) (fun (d:Tys.data as163)=>ok163_t d.1 d.2.1)
def kf163 (P:Go.Program):Known:=(kf183 P).func 163 p163
theorem kf163_ok:KnownOk Proofs.Tryz.prog (kf163 Proofs.Tryz.prog):=kf183_ok.func ok163
abbrev as162:List Ty:=[(.pair (.pair (.int .i64) (.pair (.slice (.int .i64)) .unit)) (.pair (.pair (.int .i64) (.pair (.slice (.int .i64)) .unit)) .unit)),(.pair (.pair (.int .i64) (.pair (.slice (.int .i64)) .unit)) (.pair (.pair (.int .i64) (.pair (.slice (.int .i64)) .unit)) .unit))]
abbrev rs162:List Ty:=[(.pair (.pair (.int .i64) (.pair (.slice (.int .i64)) .unit)) (.pair (.pair (.int .i64) (.pair (.slice (.int .i64)) .unit)) .unit))]
def t162 (x0_:Int) (x0_':(List Int)) (x0'_:Int) (x0'_':(List Int)) (x1_:Int) (x1_':(List Int)) (x1'_:Int) (x1'_':(List Int)):Tr (Tys.data rs162) :=
  Tr.test (Option.isSome (f167 ((x0_,(x0_',())),((x1'_,(x1'_',())),()))))
    (Tr.test (Option.isSome (f167 ((x1_,(x1_',())),((x0'_,(x0'_',())),()))))
      (let r0:=g167 ((x0_,(x0_',())),((x1'_,(x1'_',())),()));
      let r1:=g167 ((x1_,(x1_',())),((x0'_,(x0'_',())),()));
      Tr.test (Option.isSome (f184 ((r0.1.1,(r0.1.2.1,())),((r1.1.1,(r1.1.2.1,())),()))))
        (Tr.test (Option.isSome (f167 ((x0'_,(x0'_',())),((x1'_,(x1'_',())),()))))
          (let r2:=g184 ((r0.1.1,(r0.1.2.1,())),((r1.1.1,(r1.1.2.1,())),()));
          let r3:=g167 ((x0'_,(x0'_',())),((x1'_,(x1'_',())),()));
          Tr.test (Option.isSome (f183 ((r2.1.1,(r2.1.2.1,())),((r3.1.1,(r3.1.2.1,())),()))))
            (let r4:=g183 ((r2.1.1,(r2.1.2.1,())),((r3.1.1,(r3.1.2.1,())),()));
            Tr.fin ((((r4.1.1.1,(r4.1.1.2.1,())),((r4.1.2.1.1,(r4.1.2.1.2.1,())),())),())))
            (Tr.stop))
          (Tr.stop))
        (Tr.stop))
      (Tr.stop))
    (Tr.stop)
def f162 (d:Tys.data as162):Option (Tys.data rs162):=(t162 d.1.1.1 d.1.1.2.1 d.1.2.1.1 d.1.2.1.2.1 d.2.1.1.1 d.2.1.1.2.1 d.2.1.2.1.1 d.2.1.2.1.2.1).val
def g162 (d:Tys.data as162):Tys.data rs162:=(f162 d).getD (Tys.dflt rs162)
def p162:PureC:=pcOf as162 rs162 f162 g162
theorem wk162 (x0_:Int) (x0_':(List Int)) (x0'_:Int) (x0'_':(List Int)) (x1_:Int) (x1_':(List Int)) (x1'_:Int) (x1'_':(List Int)):Walks (runPure (kf163 Proofs.Tryz.prog).orc Proofs.Tryz.prog 400 162 as162 rs162 (((x0_,x0_',()),(x0'_,x0'_',()),()),((x1_,x1_',()),(x1'_,x1'_',()),()),())) (t162 x0_ x0_' x0'_ x0'_' x1_ x1_' x1'_ x1'_') [(bl 5 31,[2,4,6,8,10])] :=
  ⟨by kernel_rfl,trivial⟩
theorem ok162_t (x0_:Int) (x0_':(List Int)) (x0'_:Int) (x0'_':(List Int)) (x1_:Int) (x1_':(List Int)) (x1'_:Int) (x1'_':(List Int)):TrOk (PureRuns Proofs.Tryz.prog (kf163 Proofs.Tryz.prog).orc 162 as162 rs162 (((x0_,x0_',()),(x0'_,x0'_',()),()),((x1_,x1_',()),(x1'_,x1'_',()),()),())) (t162 x0_ x0_' x0'_ x0'_' x1_ x1_' x1'_ x1'_') :=
  Walks.ok (fun _ _ _=>PureRuns.of) (wk162 x0_ x0_' x0'_ x0'_' x1_ x1_' x1'_ x1'_') (by kernel_rfl)
theorem ok162:PureOk Proofs.Tryz.prog 162 p162:=qac kf163_ok.base (T:=fun (d:Tys.data as162)=>t162 d.1.1.1 d.1.1.2.1 d.1.2.1.1 d.1.2.1.2.1 d.2.1.1.1 d.2.1.1.2.1 d.2.1.2.1.1 d.2.1.2.1.2.1) (by kernel_rfl) (fun (d:Tys.data as162)=>ok162_t d.1.1.1 d.1.1.2.1 d.1.2.1.1 d.1.2.1.2.1 d.2.1.1.1 d.2.1.1.2.1 d.2.1.2.1.1 d.2.1.2.1.2.1)
def kf162 (P:Go.Program):Known:=(kf163 P).func 162 p162
theorem kf162_ok:KnownOk Proofs.Tryz.prog (kf162 Proofs.Tryz.prog):=kf163_ok.func ok162
abbrev as105:List Ty:=[(.int .i64),(.int .i64),(.int .i64),(.int .i64),(.int .i64)]
abbrev rs105:List Ty:=[(.pair (.pair (.int .i64) (.pair (.slice (.int .i64)) .unit)) (.pair (.pair (.int .i64) (.pair (.slice (.int .i64)) .unit)) .unit))]
def t105 (x0:Int) (x1:Int) (x2:Int) (x3:Int) (x4:Int):Tr (Tys.data rs105) :=
  Tr.test (Option.isSome (f106 (x1,())))
    (Tr.test (Option.isSome (f163 ((wrap64 (wrap64 (x3 - x1) * wrap64 (x4 - x0)):Int),((wrap64 (x2 - x0):Int),()))))
      (let r0:=g106 (x1,());
      let r1:=g163 ((wrap64 (wrap64 (x3 - x1) * wrap64 (x4 - x0)):Int),((wrap64 (x2 - x0):Int),()));
      Tr.test (Option.isSome (f162 (((r0.1.1.1,(r0.1.1.2.1,())),((r0.1.2.1.1,(r0.1.2.1.2.1,())),())),(((r1.1.1.1,(r1.1.1.2.1,())),((r1.1.2.1.1,(r1.1.2.1.2.1,())),())),()))))
        (let r2:=g162 (((r0.1.1.1,(r0.1.1.2.1,())),((r0.1.2.1.1,(r0.1.2.1.2.1,())),())),(((r1.1.1.1,(r1.1.1.2.1,())),((r1.1.2.1.1,(r1.1.2.1.2.1,())),())),()));
        Tr.fin ((((r2.1.1.1,(r2.1.1.2.1,())),((r2.1.2.1.1,(r2.1.2.1.2.1,())),())),())))
        (Tr.stop))
      (Tr.stop))
    (Tr.stop)
def f105 (d:Tys.data as105):Option (Tys.data rs105):=(t105 d.1 d.2.1 d.2.2.1 d.2.2.2.1 d.2.2.2.2.1).val
def g105 (d:Tys.data as105):Tys.data rs105:=(f105 d).getD (Tys.dflt rs105)
def p105:PureC:=pcOf as105 rs105 f105 g105
theorem wk105 (x0:Int) (x1:Int) (x2:Int) (x3:Int) (x4:Int):Walks (runPure (kf162 Proofs.Tryz.prog).orc Proofs.Tryz.prog 400 105 as105 rs105 (x0,x1,x2,x3,x4,())) (t105 x0 x1 x2 x3 x4) [(bl 3 7,[2,4,6])] :=
  ⟨by kernel_rfl,trivial⟩
theorem ok105_t (x0:Int) (x1:Int) (x2:Int) (x3:Int) (x4:Int):TrOk (PureRuns Proofs.Tryz.prog (kf162 Proofs.Tryz.prog).orc 105 as105 rs105 (x0,x1,x2,x3,x4,())) (t105 x0 x1 x2 x3 x4) :=
  Walks.ok (fun _ _ _=>PureRuns.of) (wk105 x0 x1 x2 x3 x4) (by kernel_rfl)
theorem ok105:PureOk Proofs.Tryz.prog 105 p105:=qac kf162_ok.base (T:=fun (d:Tys.data as105)=>t105 d.1 d.2.1 d.2.2.1 d.2.2.2.1 d.2.2.2.2.1) (by kernel_rfl) (fun (d:Tys.data as105)=>ok105_t d.1 d.2.1 d.2.2.1 d.2.2.2.1 d.2.2.2.2.1)
def kf105 (P:Go.Program):Known:=(kf162 P).func 105 p105
theorem kf105_ok:KnownOk Proofs.Tryz.prog (kf105 Proofs.Tryz.prog):=kf162_ok.func ok105
abbrev sh148_0:Sh:={ n:=71,slots:=[0,1,2,6,7],pats:=[.ty (.slice (.pair (.int .i64) (.pair (.int .i64) (.pair (.int .i64) .unit)))),.ty (.int .i64),.ty .bool,.ptr 0 4 0,.ty (.int .i64)],boxes:=[.row [.ty (.int .i64),.nil,.ty (.int .i64),.nil]] }
abbrev shb148_0:Sh:={ n:=71,slots:=[6],pats:=[.ptr 0 4 0],boxes:=[.row [.ty (.int .i64),.nil,.ty (.int .i64),.nil]] }
abbrev shr148_0:Sh:={ n:=71,slots:=[6],pats:=[.ptr 0 4 0],boxes:=[.row [.ty (.int .i64),.ty (.slice (.int .i64)),.ty (.int .i64),.ty (.slice (.int .i64))]] }
def t148_0 (x0:(List (Int×(Int×(Int×Unit))))) (x1:Int) (x2:Bool) (x4:Int) (b0_0:Int) (b0_2:Int):Tr (Out sh148_0.data shb148_0.data shr148_0.data) :=
  Tr.test ((!leF (↑(List.length x0):Int) x4:Bool))
    (Tr.test (decide ((0:Int) ≤ x4) && decide (x4 < (↑(List.length x0):Int)))
      (Tr.test ((leF x1 (List.getD x0 (Int.toNat x4) ((0:Int),(0:Int),(0:Int),())).1:Bool))
        (Tr.test (x2)
          (Tr.test ((decide ((0:Int) ≤ wrap64 (x4 - (1:Int))) && decide (wrap64 (x4 - (1:Int)) < (↑(List.length x0):Int)):Bool))
            (Tr.test (Option.isSome (f105 (((List.getD x0 (Int.toNat (wrap64 (x4 - (1:Int)))) ((0:Int),(0:Int),(0:Int),())).1:Int),(((List.getD x0 (Int.toNat (wrap64 (x4 - (1:Int)))) ((0:Int),(0:Int),(0:Int),())).2.2.1:Int),(((List.getD x0 (Int.toNat x4) ((0:Int),(0:Int),(0:Int),())).1:Int),(((List.getD x0 (Int.toNat x4) ((0:Int),(0:Int),(0:Int),())).2.2.1:Int),(x1,())))))))
              (let r0:=g105 (((List.getD x0 (Int.toNat (wrap64 (x4 - (1:Int)))) ((0:Int),(0:Int),(0:Int),())).1:Int),(((List.getD x0 (Int.toNat (wrap64 (x4 - (1:Int)))) ((0:Int),(0:Int),(0:Int),())).2.2.1:Int),(((List.getD x0 (Int.toNat x4) ((0:Int),(0:Int),(0:Int),())).1:Int),(((List.getD x0 (Int.toNat x4) ((0:Int),(0:Int),(0:Int),())).2.2.1:Int),(x1,())))));
              Tr.fin (.ret ((),((r0.1.1.1,(r0.1.1.2.1,(r0.1.2.1.1,(r0.1.2.1.2.1,())))),()))))
              (Tr.stop))
            (Tr.stop))
          (Tr.test ((decide ((0:Int) ≤ wrap64 (x4 - (1:Int))) && decide (wrap64 (x4 - (1:Int)) < (↑(List.length x0):Int)):Bool))
            (Tr.test (Option.isSome (f105 (((List.getD x0 (Int.toNat (wrap64 (x4 - (1:Int)))) ((0:Int),(0:Int),(0:Int),())).1:Int),(((List.getD x0 (Int.toNat (wrap64 (x4 - (1:Int)))) ((0:Int),(0:Int),(0:Int),())).2.1:Int),(((List.getD x0 (Int.toNat x4) ((0:Int),(0:Int),(0:Int),())).1:Int),(((List.getD x0 (Int.toNat x4) ((0:Int),(0:Int),(0:Int),())).2.1:Int),(x1,())))))))
              (let r1:=g105 (((List.getD x0 (Int.toNat (wrap64 (x4 - (1:Int)))) ((0:Int),(0:Int),(0:Int),())).1:Int),(((List.getD x0 (Int.toNat (wrap64 (x4 - (1:Int)))) ((0:Int),(0:Int),(0:Int),())).2.1:Int),(((List.getD x0 (Int.toNat x4) ((0:Int),(0:Int),(0:Int),())).1:Int),(((List.getD x0 (Int.toNat x4) ((0:Int),(0:Int),(0:Int),())).2.1:Int),(x1,())))));
              Tr.fin (.ret ((),((r1.1.1.1,(r1.1.1.2.1,(r1.1.2.1.1,(r1.1.2.1.2.1,())))),()))))
              (Tr.stop))
            (Tr.stop)))
        (Tr.fin (.again ((x0,(x1,(x2,((wrap64 (x4 + (1:Int)):Int),())))),((b0_0,(b0_2,())),())))))
      (Tr.stop))
    (Tr.fin (.brk ((),((b0_0,(b0_2,())),()))))
def s148_0 (d:sh148_0.data):Option (Out sh148_0.data shb148_0.data shr148_0.data):=(t148_0 d.1.1 d.1.2.1 d.1.2.2.1 d.1.2.2.2.1 d.2.1.1 d.2.1.2.1).val
def l148_0 (d:sh148_0.data):Option (shb148_0.data ⊕ shr148_0.data):=itr s148_0 rounds d
def b148_0 (d:sh148_0.data):shb148_0.data:=outB shb148_0.dflt (l148_0 d)
def r148_0 (d:sh148_0.data):shr148_0.data:=outR shr148_0.dflt (l148_0 d)
def lc148_0:LoopC:=lcOf sh148_0 shb148_0 shr148_0 l148_0 b148_0 r148_0
theorem wk148_0 (x0:(List (Int×(Int×(Int×Unit))))) (x1:Int) (x2:Bool) (x4:Int) (b0_0:Int) (b0_2:Int):Walks (qaq (kf105 Proofs.Tryz.prog).orc Proofs.Tryz.prog 400 148 0 sh148_0 shb148_0 shr148_0 ((x0,x1,x2,x4,()),(b0_0,b0_2,()),())) (t148_0 x0 x1 x2 x4 b0_0 b0_2) [(bl 6 63,[2,10,10,4,4,6,8,10,12]),(bl 6 55,[2,10,10,4,4,6,8,10,12]),(bl 3 3,[2,4,6]),(bl 1 0,[2])] :=
  ⟨by kernel_rfl,by kernel_rfl,by kernel_rfl,by kernel_rfl,trivial⟩
theorem ok148_0_t (x0:(List (Int×(Int×(Int×Unit))))) (x1:Int) (x2:Bool) (x4:Int) (b0_0:Int) (b0_2:Int):TrOk (BodyRuns Proofs.Tryz.prog (kf105 Proofs.Tryz.prog).orc 148 0 sh148_0 shb148_0 shr148_0 ((x0,x1,x2,x4,()),(b0_0,b0_2,()),())) (t148_0 x0 x1 x2 x4 b0_0 b0_2) :=
  Walks.ok (fun _ _ _=>BodyRuns.of) (wk148_0 x0 x1 x2 x4 b0_0 b0_2) (by kernel_rfl)
theorem ok148_0:qat Proofs.Tryz.prog 148 0 lc148_0:=qbC (sh:=sh148_0) (shB:=shb148_0) (shR:=shr148_0) kf105_ok.base (T:=fun (d:sh148_0.data)=>t148_0 d.1.1 d.1.2.1 d.1.2.2.1 d.1.2.2.2.1 d.2.1.1 d.2.1.2.1) (by kernel_rfl) rfl (fun (d:sh148_0.data)=>ok148_0_t d.1.1 d.1.2.1 d.1.2.2.1 d.1.2.2.2.1 d.2.1.1 d.2.1.2.1) (fun _=>rfl)
def kl148_0 (P:Go.Program):Known:=(kf105 P).loop 148 0 lc148_0
theorem kl148_0_ok:KnownOk Proofs.Tryz.prog (kl148_0 Proofs.Tryz.prog):=kf105_ok.loop ok148_0
abbrev as148:List Ty:=[(.slice (.pair (.int .i64) (.pair (.int .i64) (.pair (.int .i64) .unit)))),(.int .i64),.bool]
abbrev rs148:List Ty:=[(.pair (.pair (.int .i64) (.pair (.slice (.int .i64)) .unit)) (.pair (.pair (.int .i64) (.pair (.slice (.int .i64)) .unit)) .unit))]
def t148 (x0:(List (Int×(Int×(Int×Unit))))) (x1:Int) (x2:Bool):Tr (Tys.data rs148) :=
  Tr.test (Option.isSome (l148_0 ((x0,(x1,(x2,((1:Int),())))),(((0:Int),((0:Int),())),()))))
    (Tr.test (qb5 (l148_0 ((x0,(x1,(x2,((1:Int),())))),(((0:Int),((0:Int),())),()))))
      (let r0:=r148_0 ((x0,(x1,(x2,((1:Int),())))),(((0:Int),((0:Int),())),()));
      Tr.fin ((((r0.2.1.1,(r0.2.1.2.1,())),((r0.2.1.2.2.1,(r0.2.1.2.2.2.1,())),())),())))
      (Tr.test (Option.isSome (f106 ((0:Int),())))
        (let r2:=g106 ((0:Int),());
        Tr.fin ((((r2.1.1.1,(r2.1.1.2.1,())),((r2.1.2.1.1,(r2.1.2.1.2.1,())),())),())))
        (Tr.stop)))
    (Tr.stop)
def f148 (d:Tys.data as148):Option (Tys.data rs148):=(t148 d.1 d.2.1 d.2.2.1).val
def g148 (d:Tys.data as148):Tys.data rs148:=(f148 d).getD (Tys.dflt rs148)
def p148:PureC:=pcOf as148 rs148 f148 g148
theorem wk148 (x0:(List (Int×(Int×(Int×Unit))))) (x1:Int) (x2:Bool):Walks (runPure (kl148_0 Proofs.Tryz.prog).orc Proofs.Tryz.prog 400 148 as148 rs148 (x0,x1,x2,())) (t148 x0 x1 x2) [(bl 2 3,[2,4]),(bl 3 5,[2,4,6])] :=
  ⟨by kernel_rfl,by kernel_rfl,trivial⟩
theorem ok148_t (x0:(List (Int×(Int×(Int×Unit))))) (x1:Int) (x2:Bool):TrOk (PureRuns Proofs.Tryz.prog (kl148_0 Proofs.Tryz.prog).orc 148 as148 rs148 (x0,x1,x2,())) (t148 x0 x1 x2) :=
  Walks.ok (fun _ _ _=>PureRuns.of) (wk148 x0 x1 x2) (by kernel_rfl)
theorem ok148:PureOk Proofs.Tryz.prog 148 p148:=qac kl148_0_ok.base (T:=fun (d:Tys.data as148)=>t148 d.1 d.2.1 d.2.2.1) (by kernel_rfl) (fun (d:Tys.data as148)=>ok148_t d.1 d.2.1 d.2.2.1)
def kf148 (P:Go.Program):Known:=(kl148_0 P).func 148 p148
theorem kf148_ok:KnownOk Proofs.Tryz.prog (kf148 Proofs.Tryz.prog):=kl148_0_ok.func ok148
abbrev as147:List Ty:=[(.pair (.pair (.int .i64) (.pair (.slice (.int .i64)) .unit)) (.pair (.pair (.int .i64) (.pair (.slice (.int .i64)) .unit)) .unit))]
abbrev rs147:List Ty:=[(.pair (.int .i64) (.pair (.slice (.int .i64)) .unit))]
def t147 (x0_:Int) (x0_':(List Int)) (x0'_:Int) (x0'_':(List Int)):Tr (Tys.data rs147) :=
  Tr.test (Option.isSome (f178 ((x0_,(x0_',())),((x0'_,(x0'_',())),()))))
    (let r0:=g178 ((x0_,(x0_',())),((x0'_,(x0'_',())),()));
    Tr.fin (((r0.1.1,(r0.1.2.1,())),())))
    (Tr.stop)
def f147 (d:Tys.data as147):Option (Tys.data rs147):=(t147 d.1.1.1 d.1.1.2.1 d.1.2.1.1 d.1.2.1.2.1).val
def g147 (d:Tys.data as147):Tys.data rs147:=(f147 d).getD (Tys.dflt rs147)
def p147:PureC:=pcOf as147 rs147 f147 g147
theorem wk147 (x0_:Int) (x0_':(List Int)) (x0'_:Int) (x0'_':(List Int)):Walks (runPure (kf148 Proofs.Tryz.prog).orc Proofs.Tryz.prog 400 147 as147 rs147 (((x0_,x0_',()),(x0'_,x0'_',()),()),())) (t147 x0_ x0_' x0'_ x0'_') [(bl 1 1,[2])] :=
  ⟨by kernel_rfl,trivial⟩
theorem ok147_t (x0_:Int) (x0_':(List Int)) (x0'_:Int) (x0'_':(List Int)):TrOk (PureRuns Proofs.Tryz.prog (kf148 Proofs.Tryz.prog).orc 147 as147 rs147 (((x0_,x0_',()),(x0'_,x0'_',()),()),())) (t147 x0_ x0_' x0'_ x0'_') :=
  Walks.ok (fun _ _ _=>PureRuns.of) (wk147 x0_ x0_' x0'_ x0'_') (by kernel_rfl)
theorem ok147:PureOk Proofs.Tryz.prog 147 p147:=qac kf148_ok.base (T:=fun (d:Tys.data as147)=>t147 d.1.1.1 d.1.1.2.1 d.1.2.1.1 d.1.2.1.2.1) (by kernel_rfl) (fun (d:Tys.data as147)=>ok147_t d.1.1.1 d.1.1.2.1 d.1.2.1.1 d.1.2.1.2.1)
def kf147 (P:Go.Program):Known:=(kf148 P).func 147 p147
theorem kf147_ok:KnownOk Proofs.Tryz.prog (kf147 Proofs.Tryz.prog):=kf148_ok.func ok147
abbrev sh103_0:Sh:={ n:=30,slots:=[1,4,5],pats:=[.ptr 0 2 0,.ty (.int .i64),.ty (.int .i64)],boxes:=[.row [.ty (.int .i64),.ty (.slice (.int .i64))]] }
abbrev shb103_0:Sh:={ n:=30,slots:=[1,4],pats:=[.ptr 0 2 0,.ty (.int .i64)],boxes:=[.row [.ty (.int .i64),.ty (.slice (.int .i64))]] }
abbrev shr103_0:Sh:={ n:=30,slots:=[],pats:=[],boxes:=[.row [.ty (.int .i64),.ty (.slice (.int .i64))]] }
def t103_0 (x1:Int) (x2:Int) (b0_0:Int) (b0_1:(List Int)):Tr (Out sh103_0.data shb103_0.data shr103_0.data) :=
  Tr.test ((leF (0:Int) x2:Bool))
    (Tr.test (decide ((0:Int) ≤ x2) && decide (x2 < (↑(List.length b0_1):Int)))
      (Tr.fin (.again (((wrap64 (wrap64 (x1 * (1000000000:Int)) + List.getD b0_1 (Int.toNat x2) (0:Int)):Int),((wrap64 (x2 - (1:Int)):Int),())),((b0_0,(b0_1,())),()))))
      (Tr.stop))
    (Tr.fin (.brk ((x1,()),((b0_0,(b0_1,())),()))))
def s103_0 (d:sh103_0.data):Option (Out sh103_0.data shb103_0.data shr103_0.data):=(t103_0 d.1.1 d.1.2.1 d.2.1.1 d.2.1.2.1).val
def l103_0 (d:sh103_0.data):Option (shb103_0.data ⊕ shr103_0.data):=itr s103_0 rounds d
def b103_0 (d:sh103_0.data):shb103_0.data:=outB shb103_0.dflt (l103_0 d)
def lc103_0:LoopC:=lcB sh103_0 shb103_0 shr103_0 l103_0 b103_0
theorem wk103_0 (x1:Int) (x2:Int) (b0_0:Int) (b0_1:(List Int)):Walks (qaq (kf147 Proofs.Tryz.prog).orc Proofs.Tryz.prog 400 103 0 sh103_0 shb103_0 shr103_0 ((x1,x2,()),(b0_0,b0_1,()),())) (t103_0 x1 x2 b0_0 b0_1) [(bl 2 3,[2,4]),(bl 1 0,[2])] :=
  ⟨by kernel_rfl,by kernel_rfl,trivial⟩
theorem ok103_0_t (x1:Int) (x2:Int) (b0_0:Int) (b0_1:(List Int)):TrOk (BodyRuns Proofs.Tryz.prog (kf147 Proofs.Tryz.prog).orc 103 0 sh103_0 shb103_0 shr103_0 ((x1,x2,()),(b0_0,b0_1,()),())) (t103_0 x1 x2 b0_0 b0_1) :=
  Walks.ok (fun _ _ _=>BodyRuns.of) (wk103_0 x1 x2 b0_0 b0_1) (by kernel_rfl)
theorem ok103_0:qat Proofs.Tryz.prog 103 0 lc103_0:=qap (sh:=sh103_0) (shB:=shb103_0) (shR:=shr103_0) kf147_ok.base (T:=fun (d:sh103_0.data)=>t103_0 d.1.1 d.1.2.1 d.2.1.1 d.2.1.2.1) (by kernel_rfl) rfl (fun (d:sh103_0.data)=>ok103_0_t d.1.1 d.1.2.1 d.2.1.1 d.2.1.2.1) (fun _=>rfl)
def kl103_0 (P:Go.Program):Known:=(kf147 P).loop 103 0 lc103_0
theorem kl103_0_ok:KnownOk Proofs.Tryz.prog (kl103_0 Proofs.Tryz.prog):=kf147_ok.loop ok103_0
abbrev as103:List Ty:=[(.pair (.int .i64) (.pair (.slice (.int .i64)) .unit))]
abbrev rs103:List Ty:=[(.int .i64),.bool]
def t103 (x0:Int) (x0':(List Int)):Tr (Tys.data rs103) :=
  Tr.test ((!leF (↑(List.length x0'):Int) (2:Int):Bool))
    (Tr.fin (((0:Int),(false,()))))
    (Tr.test (qaV (l103_0 (((0:Int),((wrap64 ((↑(List.length x0'):Int) - (1:Int)):Int),())),((x0,(x0',())),()))))
      (let r0:=b103_0 (((0:Int),((wrap64 ((↑(List.length x0'):Int) - (1:Int)):Int),())),((x0,(x0',())),()));
      Tr.fin (((wrap64 (r0.2.1.1 * r0.1.1):Int),((true:Bool),()))))
      (Tr.stop))
def f103 (d:Tys.data as103):Option (Tys.data rs103):=(t103 d.1.1 d.1.2.1).val
def g103 (d:Tys.data as103):Tys.data rs103:=(f103 d).getD (Tys.dflt rs103)
def p103:PureC:=pcOf as103 rs103 f103 g103
theorem wk103 (x0:Int) (x0':(List Int)):Walks (runPure (kl103_0 Proofs.Tryz.prog).orc Proofs.Tryz.prog 400 103 as103 rs103 ((x0,x0',()),())) (t103 x0 x0') [(bl 1 1,[2]),(bl 2 2,[1,2,4])] :=
  ⟨by kernel_rfl,by kernel_rfl,trivial⟩
theorem ok103_t (x0:Int) (x0':(List Int)):TrOk (PureRuns Proofs.Tryz.prog (kl103_0 Proofs.Tryz.prog).orc 103 as103 rs103 ((x0,x0',()),())) (t103 x0 x0') :=
  Walks.ok (fun _ _ _=>PureRuns.of) (wk103 x0 x0') (by kernel_rfl)
theorem ok103:PureOk Proofs.Tryz.prog 103 p103:=qac kl103_0_ok.base (T:=fun (d:Tys.data as103)=>t103 d.1.1 d.1.2.1) (by kernel_rfl) (fun (d:Tys.data as103)=>ok103_t d.1.1 d.1.2.1)
def kf103 (P:Go.Program):Known:=(kl103_0 P).func 103 p103
theorem kf103_ok:KnownOk Proofs.Tryz.prog (kf103 Proofs.Tryz.prog):=kl103_0_ok.func ok103
abbrev as149:List Ty:=[(.pair (.pair (.int .i64) (.pair (.slice (.int .i64)) .unit)) (.pair (.pair (.int .i64) (.pair (.slice (.int .i64)) .unit)) .unit))]
abbrev rs149:List Ty:=[(.pair (.int .i64) (.pair (.slice (.int .i64)) .unit))]
def t149 (x0_:Int) (x0_':(List Int)) (x0'_:Int) (x0'_':(List Int)):Tr (Tys.data rs149) :=
  Tr.test (Option.isSome (f179 ((x0_,(x0_',())),())))
    (let r0:=g179 ((x0_,(x0_',())),());
    Tr.test (Option.isSome (f178 ((r0.1.1,(r0.1.2.1,())),((x0'_,(x0'_',())),()))))
      (let r1:=g178 ((r0.1.1,(r0.1.2.1,())),((x0'_,(x0'_',())),()));
      Tr.test (Option.isSome (f179 ((r1.1.1,(r1.1.2.1,())),())))
        (let r2:=g179 ((r1.1.1,(r1.1.2.1,())),());
        Tr.fin (((r2.1.1,(r2.1.2.1,())),())))
        (Tr.stop))
      (Tr.stop))
    (Tr.stop)
def f149 (d:Tys.data as149):Option (Tys.data rs149):=(t149 d.1.1.1 d.1.1.2.1 d.1.2.1.1 d.1.2.1.2.1).val
def g149 (d:Tys.data as149):Tys.data rs149:=(f149 d).getD (Tys.dflt rs149)
def p149:PureC:=pcOf as149 rs149 f149 g149
theorem wk149 (x0_:Int) (x0_':(List Int)) (x0'_:Int) (x0'_':(List Int)):Walks (runPure (kf103 Proofs.Tryz.prog).orc Proofs.Tryz.prog 400 149 as149 rs149 (((x0_,x0_',()),(x0'_,x0'_',()),()),())) (t149 x0_ x0_' x0'_ x0'_') [(bl 3 7,[2,4,6])] :=
  ⟨by kernel_rfl,trivial⟩
theorem ok149_t (x0_:Int) (x0_':(List Int)) (x0'_:Int) (x0'_':(List Int)):TrOk (PureRuns Proofs.Tryz.prog (kf103 Proofs.Tryz.prog).orc 149 as149 rs149 (((x0_,x0_',()),(x0'_,x0'_',()),()),())) (t149 x0_ x0_' x0'_ x0'_') :=
  Walks.ok (fun _ _ _=>PureRuns.of) (wk149 x0_ x0_' x0'_ x0'_') (by kernel_rfl)
theorem ok149:PureOk Proofs.Tryz.prog 149 p149:=qac kf103_ok.base (T:=fun (d:Tys.data as149)=>t149 d.1.1.1 d.1.1.2.1 d.1.2.1.1 d.1.2.1.2.1) (by kernel_rfl) (fun (d:Tys.data as149)=>ok149_t d.1.1.1 d.1.1.2.1 d.1.2.1.1 d.1.2.1.2.1)
def kf149 (P:Go.Program):Known:=(kf103 P).func 149 p149
theorem kf149_ok:KnownOk Proofs.Tryz.prog (kf149 Proofs.Tryz.prog):=kf103_ok.func ok149
abbrev as77:List Ty:=[(.slice (.pair (.int .i64) (.pair (.int .i64) (.pair (.int .i64) .unit)))),(.pair (.int .i64) (.pair (.int .i64) .unit))]
abbrev rs77:List Ty:=[(.pair (.int .i64) (.pair (.int .i64) .unit))]
def t77 (x0:(List (Int×(Int×(Int×Unit))))) (x1:Int) (x1':Int):Tr (Tys.data rs77) :=
  Tr.test (Option.isSome (f148 (x0,(x1,((false:Bool),())))))
    (let r0:=g148 (x0,(x1,(false,())));
    Tr.test (Option.isSome (f147 (((r0.1.1.1,(r0.1.1.2.1,())),((r0.1.2.1.1,(r0.1.2.1.2.1,())),())),())))
      (let r1:=g147 (((r0.1.1.1,(r0.1.1.2.1,())),((r0.1.2.1.1,(r0.1.2.1.2.1,())),())),());
      Tr.test (Option.isSome (f103 ((r1.1.1,(r1.1.2.1,())),())))
        (Tr.test (Option.isSome (f148 (x0,(x1',((true:Bool),())))))
          (let r3:=g148 (x0,(x1',((true:Bool),())));
          Tr.test (Option.isSome (f149 (((r3.1.1.1,(r3.1.1.2.1,())),((r3.1.2.1.1,(r3.1.2.1.2.1,())),())),())))
            (let r4:=g149 (((r3.1.1.1,(r3.1.1.2.1,())),((r3.1.2.1.1,(r3.1.2.1.2.1,())),())),());
            Tr.test (Option.isSome (f103 ((r4.1.1,(r4.1.2.1,())),())))
              (let r2:=g103 ((r1.1.1,(r1.1.2.1,())),());
              let r5:=g103 ((r4.1.1,(r4.1.2.1,())),());
              Tr.fin (((r2.1,(r5.1,())),())))
              (Tr.stop))
            (Tr.stop))
          (Tr.stop))
        (Tr.stop))
      (Tr.stop))
    (Tr.stop)
def f77 (d:Tys.data as77):Option (Tys.data rs77):=(t77 d.1 d.2.1.1 d.2.1.2.1).val
def g77 (d:Tys.data as77):Tys.data rs77:=(f77 d).getD (Tys.dflt rs77)
def p77:PureC:=pcOf as77 rs77 f77 g77
theorem wk77 (x0:(List (Int×(Int×(Int×Unit))))) (x1:Int) (x1':Int):Walks (runPure (kf149 Proofs.Tryz.prog).orc Proofs.Tryz.prog 400 77 as77 rs77 (x0,(x1,x1',()),())) (t77 x0 x1 x1') [(bl 6 63,[2,4,6,8,10,12])] :=
  ⟨by kernel_rfl,trivial⟩
theorem ok77_t (x0:(List (Int×(Int×(Int×Unit))))) (x1:Int) (x1':Int):TrOk (PureRuns Proofs.Tryz.prog (kf149 Proofs.Tryz.prog).orc 77 as77 rs77 (x0,(x1,x1',()),())) (t77 x0 x1 x1') :=
  Walks.ok (fun _ _ _=>PureRuns.of) (wk77 x0 x1 x1') (by kernel_rfl)
theorem ok77:PureOk Proofs.Tryz.prog 77 p77:=qac kf149_ok.base (T:=fun (d:Tys.data as77)=>t77 d.1 d.2.1.1 d.2.1.2.1) (by kernel_rfl) (fun (d:Tys.data as77)=>ok77_t d.1 d.2.1.1 d.2.1.2.1)
def kf77 (P:Go.Program):Known:=(kf149 P).func 77 p77
theorem kf77_ok:KnownOk Proofs.Tryz.prog (kf77 Proofs.Tryz.prog):=kf149_ok.func ok77
abbrev as108:List Ty:=[(.pair (.pair (.int .i64) (.pair (.slice (.int .i64)) .unit)) (.pair (.pair (.int .i64) (.pair (.slice (.int .i64)) .unit)) .unit)),(.pair (.pair (.int .i64) (.pair (.slice (.int .i64)) .unit)) (.pair (.pair (.int .i64) (.pair (.slice (.int .i64)) .unit)) .unit))]
abbrev rs108:List Ty:=[(.int .i64)]
def t108 (x0_:Int) (x0_':(List Int)) (x0'_:Int) (x0'_':(List Int)) (x1_:Int) (x1_':(List Int)) (x1'_:Int) (x1'_':(List Int)):Tr (Tys.data rs108) :=
  Tr.test (Option.isSome (f167 ((x0_,(x0_',())),((x1'_,(x1'_',())),()))))
    (Tr.test (Option.isSome (f167 ((x1_,(x1_',())),((x0'_,(x0'_',())),()))))
      (let r0:=g167 ((x0_,(x0_',())),((x1'_,(x1'_',())),()));
      let r1:=g167 ((x1_,(x1_',())),((x0'_,(x0'_',())),()));
      Tr.test (Option.isSome (f166 ((r0.1.1,(r0.1.2.1,())),((r1.1.1,(r1.1.2.1,())),()))))
        (let r2:=g166 ((r0.1.1,(r0.1.2.1,())),((r1.1.1,(r1.1.2.1,())),()));
        Tr.fin ((r2.1,())))
        (Tr.stop))
      (Tr.stop))
    (Tr.stop)
def f108 (d:Tys.data as108):Option (Tys.data rs108):=(t108 d.1.1.1 d.1.1.2.1 d.1.2.1.1 d.1.2.1.2.1 d.2.1.1.1 d.2.1.1.2.1 d.2.1.2.1.1 d.2.1.2.1.2.1).val
def g108 (d:Tys.data as108):Tys.data rs108:=(f108 d).getD (Tys.dflt rs108)
def p108:PureC:=pcOf as108 rs108 f108 g108
theorem wk108 (x0_:Int) (x0_':(List Int)) (x0'_:Int) (x0'_':(List Int)) (x1_:Int) (x1_':(List Int)) (x1'_:Int) (x1'_':(List Int)):Walks (runPure (kf77 Proofs.Tryz.prog).orc Proofs.Tryz.prog 400 108 as108 rs108 (((x0_,x0_',()),(x0'_,x0'_',()),()),((x1_,x1_',()),(x1'_,x1'_',()),()),())) (t108 x0_ x0_' x0'_ x0'_' x1_ x1_' x1'_ x1'_') [(bl 3 7,[2,4,6])] :=
  ⟨by kernel_rfl,trivial⟩
theorem ok108_t (x0_:Int) (x0_':(List Int)) (x0'_:Int) (x0'_':(List Int)) (x1_:Int) (x1_':(List Int)) (x1'_:Int) (x1'_':(List Int)):TrOk (PureRuns Proofs.Tryz.prog (kf77 Proofs.Tryz.prog).orc 108 as108 rs108 (((x0_,x0_',()),(x0'_,x0'_',()),()),((x1_,x1_',()),(x1'_,x1'_',()),()),())) (t108 x0_ x0_' x0'_ x0'_' x1_ x1_' x1'_ x1'_') :=
  Walks.ok (fun _ _ _=>PureRuns.of) (wk108 x0_ x0_' x0'_ x0'_' x1_ x1_' x1'_ x1'_') (by kernel_rfl)
theorem ok108:PureOk Proofs.Tryz.prog 108 p108:=qac kf77_ok.base (T:=fun (d:Tys.data as108)=>t108 d.1.1.1 d.1.1.2.1 d.1.2.1.1 d.1.2.1.2.1 d.2.1.1.1 d.2.1.1.2.1 d.2.1.2.1.1 d.2.1.2.1.2.1) (by kernel_rfl) (fun (d:Tys.data as108)=>ok108_t d.1.1.1 d.1.1.2.1 d.1.2.1.1 d.1.2.1.2.1 d.2.1.1.1 d.2.1.1.2.1 d.2.1.2.1.1 d.2.1.2.1.2.1)
def kf108 (P:Go.Program):Known:=(kf77 P).func 108 p108
theorem kf108_ok:KnownOk Proofs.Tryz.prog (kf108 Proofs.Tryz.prog):=kf77_ok.func ok108
abbrev sh78_0:Sh:={ n:=26,slots:=[0,1,6],pats:=[.ty (.slice (.pair (.int .i64) (.pair (.int .i64) (.pair (.int .i64) .unit)))),.ty (.int .i64),.ty (.int .i64)],boxes:=[] }
abbrev shb78_0:Sh:={ n:=26,slots:=[],pats:=[],boxes:=[] }
abbrev shr78_0:Sh:={ n:=26,slots:=[4,5],pats:=[.ty (.int .i64),.ty .bool],boxes:=[] }
def t78_0 (x0:(List (Int×(Int×(Int×Unit))))) (x1:Int) (x2:Int):Tr (Out sh78_0.data shb78_0.data shr78_0.data) :=
  Tr.test ((decide ((0:Int) ≤ wrap64 ((↑(List.length x0):Int) - (1:Int))) && decide (wrap64 ((↑(List.length x0):Int) - (1:Int)) < (↑(List.length x0):Int)):Bool))
    (Tr.test (leF x2 (List.getD x0 (Int.toNat (wrap64 ((↑(List.length x0):Int) - (1:Int)))) ((0:Int),(0:Int),(0:Int),())).1)
      (Tr.test (Option.isSome (f148 (x0,(x2,((false:Bool),())))))
        (Tr.test (Option.isSome (f106 (x1,())))
          (let r0:=g148 (x0,(x2,((false:Bool),())));
          let r1:=g106 (x1,());
          Tr.test (Option.isSome (f108 (((r0.1.1.1,(r0.1.1.2.1,())),((r0.1.2.1.1,(r0.1.2.1.2.1,())),())),(((r1.1.1.1,(r1.1.1.2.1,())),((r1.1.2.1.1,(r1.1.2.1.2.1,())),())),()))))
            (let r2:=g108 (((r0.1.1.1,(r0.1.1.2.1,())),((r0.1.2.1.1,(r0.1.2.1.2.1,())),())),(((r1.1.1.1,(r1.1.1.2.1,())),((r1.1.2.1.1,(r1.1.2.1.2.1,())),())),()));
            Tr.test ((leF (0:Int) r2.1:Bool))
              (Tr.fin (.ret ((x2,((true:Bool),())),())))
              (Tr.fin (.again ((x0,(x1,((wrap64 (x2 + (1:Int)):Int),()))),()))))
            (Tr.stop))
          (Tr.stop))
        (Tr.stop))
      (Tr.fin (.brk ((),()))))
    (Tr.stop)
def s78_0 (d:sh78_0.data):Option (Out sh78_0.data shb78_0.data shr78_0.data):=(t78_0 d.1.1 d.1.2.1 d.1.2.2.1).val
def l78_0 (d:sh78_0.data):Option (shb78_0.data ⊕ shr78_0.data):=itr s78_0 rounds d
def b78_0 (d:sh78_0.data):shb78_0.data:=outB shb78_0.dflt (l78_0 d)
def r78_0 (d:sh78_0.data):shr78_0.data:=outR shr78_0.dflt (l78_0 d)
def lc78_0:LoopC:=lcOf sh78_0 shb78_0 shr78_0 l78_0 b78_0 r78_0
theorem wk78_0 (x0:(List (Int×(Int×(Int×Unit))))) (x1:Int) (x2:Int):Walks (qaq (kf108 Proofs.Tryz.prog).orc Proofs.Tryz.prog 400 78 0 sh78_0 shb78_0 shr78_0 ((x0,x1,x2,()),())) (t78_0 x0 x1 x2) [(bl 6 63,[2,4,6,8,10,12]),(bl 6 31,[2,4,6,8,10,12]),(bl 2 1,[2,4])] :=
  ⟨by kernel_rfl,by kernel_rfl,by kernel_rfl,trivial⟩
theorem ok78_0_t (x0:(List (Int×(Int×(Int×Unit))))) (x1:Int) (x2:Int):TrOk (BodyRuns Proofs.Tryz.prog (kf108 Proofs.Tryz.prog).orc 78 0 sh78_0 shb78_0 shr78_0 ((x0,x1,x2,()),())) (t78_0 x0 x1 x2) :=
  Walks.ok (fun _ _ _=>BodyRuns.of) (wk78_0 x0 x1 x2) (by kernel_rfl)
theorem ok78_0:qat Proofs.Tryz.prog 78 0 lc78_0:=qbC (sh:=sh78_0) (shB:=shb78_0) (shR:=shr78_0) kf108_ok.base (T:=fun (d:sh78_0.data)=>t78_0 d.1.1 d.1.2.1 d.1.2.2.1) (by kernel_rfl) rfl (fun (d:sh78_0.data)=>ok78_0_t d.1.1 d.1.2.1 d.1.2.2.1) (fun _=>rfl)
def kl78_0 (P:Go.Program):Known:=(kf108 P).loop 78 0 lc78_0
theorem kl78_0_ok:KnownOk Proofs.Tryz.prog (kl78_0 Proofs.Tryz.prog):=kf108_ok.loop ok78_0
abbrev as78:List Ty:=[(.slice (.pair (.int .i64) (.pair (.int .i64) (.pair (.int .i64) .unit)))),(.int .i64)]
abbrev rs78:List Ty:=[(.int .i64),.bool]
def t78 (x0:(List (Int×(Int×(Int×Unit))))) (x1:Int):Tr (Tys.data rs78) :=
  Tr.test (Option.isSome (l78_0 ((x0,(x1,((0:Int),()))),())))
    (Tr.test (qb5 (l78_0 ((x0,(x1,((0:Int),()))),())))
      (let r0:=r78_0 ((x0,(x1,((0:Int),()))),());
      Tr.fin ((r0.1.1,(r0.1.2.1,()))))
      (Tr.fin (((0:Int),((false:Bool),())))))
    (Tr.stop)
def f78 (d:Tys.data as78):Option (Tys.data rs78):=(t78 d.1 d.2.1).val
def g78 (d:Tys.data as78):Tys.data rs78:=(f78 d).getD (Tys.dflt rs78)
def p78:PureC:=pcOf as78 rs78 f78 g78
theorem wk78 (x0:(List (Int×(Int×(Int×Unit))))) (x1:Int):Walks (runPure (kl78_0 Proofs.Tryz.prog).orc Proofs.Tryz.prog 400 78 as78 rs78 (x0,x1,())) (t78 x0 x1) [(bl 2 3,[2,4]),(bl 2 1,[2,4])] :=
  ⟨by kernel_rfl,by kernel_rfl,trivial⟩
theorem ok78_t (x0:(List (Int×(Int×(Int×Unit))))) (x1:Int):TrOk (PureRuns Proofs.Tryz.prog (kl78_0 Proofs.Tryz.prog).orc 78 as78 rs78 (x0,x1,())) (t78 x0 x1) :=
  Walks.ok (fun _ _ _=>PureRuns.of) (wk78 x0 x1) (by kernel_rfl)
theorem ok78:PureOk Proofs.Tryz.prog 78 p78:=qac kl78_0_ok.base (T:=fun (d:Tys.data as78)=>t78 d.1 d.2.1) (by kernel_rfl) (fun (d:Tys.data as78)=>ok78_t d.1 d.2.1)
def kf78 (P:Go.Program):Known:=(kl78_0 P).func 78 p78
theorem kf78_ok:KnownOk Proofs.Tryz.prog (kf78 Proofs.Tryz.prog):=kl78_0_ok.func ok78
abbrev as11:List Ty:=[(.slice (.pair (.int .i64) (.pair (.int .i64) (.pair (.int .i64) .unit)))),(.pair (.int .i64) (.pair (.int .i64) .unit)),(.int .i64)]
abbrev rs11:List Ty:=[.bool]
def t11 (x0:(List (Int×(Int×(Int×Unit))))) (x1:Int) (x1':Int) (x2:Int):Tr (Tys.data rs11) :=
  Tr.test ((!leF (↑(List.length x0):Int) (10:Int):Bool))
    (Tr.fin ((true,())))
    (Tr.test (Option.isSome (f72 (x0,())))
      (let r0:=g72 (x0,());
      Tr.test (Option.isSome (f71 (r0.1,())))
        (Tr.test (Option.isSome (f73 (r0.1,((x1,(x1',())),()))))
          (Tr.test (Option.isSome (f74 (r0.1,(x2,()))))
            (Tr.test (Option.isSome (f75 (x0,())))
              (let r1:=g71 (r0.1,());
              let r4:=g75 (x0,());
              Tr.test ((!eqF r1.2.1 r4.2.1:Bool))
                (Tr.fin (((false:Bool),())))
                (Tr.test ((!eqF r1.1 r4.1:Bool))
                  (Tr.fin (((false:Bool),())))
                  (Tr.test ((!eqF r4.2.1 0:Bool))
                    (let r2:=g73 (r0.1,((x1,(x1',())),()));
                    Tr.test ((eqF r2.2.1 r4.2.1:Bool))
                      (let r3:=g74 (r0.1,(x2,()));
                      Tr.test ((eqF r3.2.1 r4.2.1:Bool))
                        (Tr.test ((r2.1.1 == (0:Int) && (r2.1.2.1 == (0:Int) && true):Bool))
                          (Tr.fin (((eqF r3.1 0:Bool),())))
                          (Tr.fin (((false:Bool),()))))
                        (Tr.fin (((false:Bool),()))))
                      (Tr.fin (((false:Bool),()))))
                    (Tr.test (Option.isSome (f76 (x0,((x1,(x1',())),()))))
                      (let r5:=g76 (x0,((x1,(x1',())),()));
                      Tr.test ((!eqF r5.1 0:Bool))
                        (let r2:=g73 (r0.1,((x1,(x1',())),()));
                        Tr.test ((!eqF r2.2.1 r5.1:Bool))
                          (Tr.fin (((false:Bool),())))
                          (Tr.test ((!(r2.1.1 == (0:Int) && (r2.1.2.1 == (0:Int) && true)):Bool))
                            (Tr.fin (((false:Bool),())))
                            (Tr.test (Option.isSome (f36 (x2,())))
                              (let r8:=g36 (x2,());
                              Tr.test ((!eqF r8.1 0:Bool))
                                (let r3:=g74 (r0.1,(x2,()));
                                Tr.test ((eqF r3.2.1 r8.1:Bool))
                                  (Tr.fin (((eqF r3.1 0:Bool),())))
                                  (Tr.fin (((false:Bool),()))))
                                (Tr.test (Option.isSome (f78 (x0,(x2,()))))
                                  (let r9:=g78 (x0,(x2,()));
                                  Tr.test ((!r9.2.1:Bool))
                                    (let r3:=g74 (r0.1,(x2,()));
                                    Tr.test ((eqF r3.2.1 12:Bool))
                                      (Tr.fin (((eqF r3.1 0:Bool),())))
                                      (Tr.fin (((false:Bool),()))))
                                    (let r3:=g74 (r0.1,(x2,()));
                                    Tr.test ((!eqF r3.2.1 0:Bool))
                                      (Tr.fin (((false:Bool),())))
                                      (Tr.test ((!eqF r3.1 r9.1:Bool))
                                        (Tr.fin (((false:Bool),())))
                                        (Tr.test (Option.isSome (f73 (r0.1,((r3.1,(r3.1,())),()))))
                                          (let r10:=g73 (r0.1,((r3.1,(r3.1,())),()));
                                          Tr.test ((!eqF r10.2.1 0:Bool))
                                            (Tr.fin (((false:Bool),())))
                                            (Tr.test ((!leF x2 r10.1.1:Bool))
                                              (Tr.fin (((false:Bool),())))
                                              (Tr.test ((eqF r3.1 0:Bool))
                                                (Tr.fin (((true:Bool),())))
                                                (Tr.test (Option.isSome (f73 (r0.1,(((wrap64 (r3.1 - (1:Int)):Int),((wrap64 (r3.1 - (1:Int)):Int),())),()))))
                                                  (let r11:=g73 (r0.1,(((wrap64 (r3.1 - (1:Int)):Int),((wrap64 (r3.1 - (1:Int)):Int),())),()));
                                                  Tr.test ((eqF r11.2.1 0:Bool))
                                                    (Tr.fin (((!leF x2 r11.1.1:Bool),())))
                                                    (Tr.fin (((false:Bool),()))))
                                                  (Tr.stop)))))
                                          (Tr.stop)))))
                                  (Tr.stop)))
                              (Tr.stop))))
                        (let r2:=g73 (r0.1,((x1,(x1',())),()));
                        Tr.test ((!eqF r2.2.1 0:Bool))
                          (Tr.fin (((false:Bool),())))
                          (Tr.test (Option.isSome (f77 (x0,((x1,(x1',())),()))))
                            (let r6:=g77 (x0,((x1,(x1',())),()));
                            Tr.test ((!(r2.1.1 == r6.1.1 && (r2.1.2.1 == r6.1.2.1 && true)):Bool))
                              (Tr.fin (((false:Bool),())))
                              (Tr.test ((decide ((0:Int) ≤ wrap64 ((↑(List.length x0):Int) - (1:Int))) && decide (wrap64 ((↑(List.length x0):Int) - (1:Int)) < (↑(List.length x0):Int)):Bool))
                                (Tr.test (Option.isSome (f73 (r0.1,(((if (0:Int) < wrap64 (x1 - (1:Int)) then wrap64 (x1 - (1:Int)) else (0:Int):Int),((if wrap64 (x1' + (1:Int)) < (List.getD x0 (Int.toNat (wrap64 ((↑(List.length x0):Int) - (1:Int)))) ((0:Int),(0:Int),(0:Int),())).1 then wrap64 (x1' + (1:Int)) else (List.getD x0 (Int.toNat (wrap64 ((↑(List.length x0):Int) - (1:Int)))) ((0:Int),(0:Int),(0:Int),())).1:Int),())),()))))
                                  (let r7:=g73 (r0.1,(((if (0:Int) < wrap64 (x1 - (1:Int)) then wrap64 (x1 - (1:Int)) else (0:Int):Int),((if wrap64 (x1' + (1:Int)) < (List.getD x0 (Int.toNat (wrap64 ((↑(List.length x0):Int) - (1:Int)))) ((0:Int),(0:Int),(0:Int),())).1 then wrap64 (x1' + (1:Int)) else (List.getD x0 (Int.toNat (wrap64 ((↑(List.length x0):Int) - (1:Int)))) ((0:Int),(0:Int),(0:Int),())).1:Int),())),()));
                                  Tr.test ((!eqF r7.2.1 0:Bool))
                                    (Tr.fin (((false:Bool),())))
                                    (Tr.test ((!leF r7.1.1 r2.1.1:Bool))
                                      (Tr.fin (((false:Bool),())))
                                      (Tr.test ((!leF r2.1.2.1 r7.1.2.1:Bool))
                                        (Tr.fin (((false:Bool),())))
                                        (Tr.test (Option.isSome (f36 (x2,())))
                                          (let r8:=g36 (x2,());
                                          Tr.test ((!eqF r8.1 0:Bool))
                                            (let r3:=g74 (r0.1,(x2,()));
                                            Tr.test ((eqF r3.2.1 r8.1:Bool))
                                              (Tr.fin (((eqF r3.1 0:Bool),())))
                                              (Tr.fin (((false:Bool),()))))
                                            (Tr.test (Option.isSome (f78 (x0,(x2,()))))
                                              (let r9:=g78 (x0,(x2,()));
                                              Tr.test ((!r9.2.1:Bool))
                                                (let r3:=g74 (r0.1,(x2,()));
                                                Tr.test ((eqF r3.2.1 12:Bool))
                                                  (Tr.fin (((eqF r3.1 0:Bool),())))
                                                  (Tr.fin (((false:Bool),()))))
                                                (let r3:=g74 (r0.1,(x2,()));
                                                Tr.test ((!eqF r3.2.1 0:Bool))
                                                  (Tr.fin (((false:Bool),())))
                                                  (Tr.test ((!eqF r3.1 r9.1:Bool))
                                                    (Tr.fin (((false:Bool),())))
                                                    (Tr.test (Option.isSome (f73 (r0.1,((r3.1,(r3.1,())),()))))
                                                      (let r10:=g73 (r0.1,((r3.1,(r3.1,())),()));
                                                      Tr.test ((!eqF r10.2.1 0:Bool))
                                                        (Tr.fin (((false:Bool),())))
                                                        (Tr.test ((!leF x2 r10.1.1:Bool))
                                                          (Tr.fin (((false:Bool),())))
                                                          (Tr.test ((eqF r3.1 0:Bool))
                                                            (Tr.fin (((true:Bool),())))
                                                            (Tr.test (Option.isSome (f73 (r0.1,(((wrap64 (r3.1 - (1:Int)):Int),((wrap64 (r3.1 - (1:Int)):Int),())),()))))
                                                              (let r11:=g73 (r0.1,(((wrap64 (r3.1 - (1:Int)):Int),((wrap64 (r3.1 - (1:Int)):Int),())),()));
                                                              Tr.test ((eqF r11.2.1 0:Bool))
                                                                (Tr.fin (((!leF x2 r11.1.1:Bool),())))
                                                                (Tr.fin (((false:Bool),()))))
                                                              (Tr.stop)))))
                                                      (Tr.stop)))))
                                              (Tr.stop)))
                                          (Tr.stop)))))
                                  (Tr.stop))
                                (Tr.stop)))
                            (Tr.stop))))
                      (Tr.stop)))))
              (Tr.stop))
            (Tr.stop))
          (Tr.stop))
        (Tr.stop))
      (Tr.stop))
def f11 (d:Tys.data as11):Option (Tys.data rs11):=(t11 d.1 d.2.1.1 d.2.1.2.1 d.2.2.1).val
def g11 (d:Tys.data as11):Tys.data rs11:=(f11 d).getD (Tys.dflt rs11)
def p11:PureC:=pcOf as11 rs11 f11 g11
theorem wk11n0 (x0:(List (Int×(Int×(Int×Unit))))) (x1:Int) (x1':Int) (x2:Int):Walks (runPure (kf78 Proofs.Tryz.prog).orc Proofs.Tryz.prog 400 11 as11 rs11 (x0,(x1,x1',()),x2,())) (t11 x0 x1 x1' x2) [(bl 1 1,[2,0,1]),(bl 7 126,[1,2,2,2,2,4,6,12,8,12,10,12,14,0,1]),(bl 8 190,[2,4,4,4,4,6,8,14,10,14,12,14,16,0,1]),(bl 12 3902,[2,2,2,4,4,4,4,6,6,6,6,8,10,12,12,12,12,14,16,22,18,22,20,22,24,0,1]),(bl 12 1854,[2,2,2,4,4,4,4,6,6,6,6,8,10,12,12,12,12,14,16,22,18,22,20,22,24,0,1]),(bl 11 830,[0,0,0,2,2,2,2,4,4,4,4,6,8,10,10,10,10,12,14,20,16,20,18,20,22,0,1]),(bl 10 318,[0,0,0,0,0,0,0,2,2,2,2,4,6,8,8,8,8,10,12,18,14,18,16,18,20,0,1]),(bl 12 3646,[1,2,2,2,2,4,6,8,10,12,12,12,12,14,16,22,18,22,20,22,24,0,1]),(bl 13 5694,[2,4,4,4,4,6,8,10,12,14,14,14,14,16,18,24,20,24,22,24,26,0,1]),(bl 16 58942,[2,2,2,4,6,8,10,10,10,10,12,14,16,18,20,20,20,20,22,24,30,26,30,28,30,32,0,1]),(bl 16 26174,[2,2,2,4,6,8,10,10,10,10,12,14,16,18,20,20,20,20,22,24,30,26,30,28,30,32,0,1]),(bl 18 239166,[2,2,2,4,6,8,10,12,14,14,14,14,16,18,20,22,24,24,24,24,26,28,34,30,34,32,34,36,0,1]),(bl 18 108094,[2,2,2,4,6,8,10,12,14,14,14,14,16,18,20,22,24,24,24,24,26,28,34,30,34,32,34,36,0,1]),(bl 18 173630,[1,2,2,2,2,4,6,8,10,12,14,14,14,14,16,18,20,22,24,24,24,24,26,28,34,30,34,32,34,36,0,1]),(bl 19 304702,[2,4,4,4,4,6,8,10,12,14,16,16,16,16,18,20,22,24,26,26,26,26,28,30,36,32,36,34,36,38,0,1]),(bl 21 1615422,[1,2,2,2,2,2,4,40,6,8,8,8,8,10,12,14,16,18,20,20,20,20,22,24,26,28,30,30,30,30,32,34,40,36,40,38,40,42,0,1])] :=
  ⟨by kernel_rfl,by kernel_rfl,by kernel_rfl,by kernel_rfl,by kernel_rfl,by kernel_rfl,by kernel_rfl,by kernel_rfl,by kernel_rfl,by kernel_rfl,by kernel_rfl,by kernel_rfl,by kernel_rfl,by kernel_rfl,by kernel_rfl,by kernel_rfl,trivial⟩
theorem wk11n1 (x0:(List (Int×(Int×(Int×Unit))))) (x1:Int) (x1':Int) (x2:Int):Walks (runPure (kf78 Proofs.Tryz.prog).orc Proofs.Tryz.prog 400 11 as11 rs11 (x0,(x1,x1',()),x2,())) (t11 x0 x1 x1' x2) [(bl 22 2663998,[2,4,4,4,4,4,6,42,8,10,10,10,10,12,14,16,18,20,22,22,22,22,24,26,28,30,32,32,32,32,34,36,42,38,42,40,42,44,0,1]),(bl 23 4761150,[2,4,6,6,6,6,6,8,44,10,12,12,12,12,14,16,18,20,22,24,24,24,24,26,28,30,32,34,34,34,34,36,38,44,40,44,42,44,46,0,1]),(bl 25 25732670,[2,2,2,2,2,4,48,6,8,10,10,10,10,10,12,48,14,16,16,16,16,18,20,22,24,26,28,28,28,28,30,32,34,36,38,38,38,38,40,42,48,44,48,46,48,50,0,1]),(bl 25 8955454,[2,2,2,2,2,4,48,6,8,10,10,10,10,10,12,48,14,16,16,16,16,18,20,22,24,26,28,28,28,28,30,32,34,36,38,38,38,38,40,42,48,44,48,46,48,50,0,1]),(bl 12 2622,[1,2,2,2,2,2,2,4,6,8,10,12,12,12,12,14,16,22,18,22,20,22,24,0,1]),(bl 14 12862,[2,6,6,4,6,6,6,6,8,10,12,14,16,16,16,16,18,20,26,22,26,24,26,28,0,1]),(bl 17 119358,[1,1,1,1,1,1,1,2,2,2,2,2,2,4,6,32,8,12,12,10,12,12,12,12,14,16,18,20,22,22,22,22,24,26,32,28,32,30,32,34,0,1]),(bl 18 184894,[1,2,2,2,2,2,2,4,4,4,4,4,4,6,8,34,10,14,14,12,14,14,14,14,16,18,20,22,24,24,24,24,26,28,34,30,34,32,34,36,0,1]),(bl 19 315966,[2,4,4,4,4,4,4,6,6,6,6,6,6,8,10,36,12,16,16,14,16,16,16,16,18,20,22,24,26,26,26,26,28,30,36,32,36,34,36,38,0,1]),(bl 22 3723838,[2,2,2,4,6,8,10,10,10,10,10,10,12,12,12,12,12,12,14,16,42,18,22,22,20,22,22,22,22,24,26,28,30,32,32,32,32,34,36,42,38,42,40,42,44,0,1]),(bl 22 1626686,[2,2,2,4,6,8,10,10,10,10,10,10,12,12,12,12,12,12,14,16,42,18,22,22,20,22,22,22,22,24,26,28,30,32,32,32,32,34,36,42,38,42,40,42,44,0,1]),(bl 24 15258174,[2,2,2,4,6,8,10,12,14,14,14,14,14,14,16,16,16,16,16,16,18,20,46,22,26,26,24,26,26,26,26,28,30,32,34,36,36,36,36,38,40,46,42,46,44,46,48,0,1]),(bl 24 6869566,[2,2,2,4,6,8,10,12,14,14,14,14,14,14,16,16,16,16,16,16,18,20,46,22,26,26,24,26,26,26,26,28,30,32,34,36,36,36,36,38,40,46,42,46,44,46,48,0,1]),(bl 24 11063870,[1,2,2,2,2,4,6,8,10,12,14,14,14,14,14,14,16,16,16,16,16,16,18,20,46,22,26,26,24,26,26,26,26,28,30,32,34,36,36,36,36,38,40,46,42,46,44,46,48,0,1]),(bl 25 19452478,[2,4,4,4,4,6,8,10,12,14,16,16,16,16,16,16,18,18,18,18,18,18,20,22,48,24,28,28,26,28,28,28,28,30,32,34,36,38,38,38,38,40,42,48,44,48,46,48,50,0,1]),(bl 27 103338558,[1,2,2,2,2,2,4,52,6,8,8,8,8,10,12,14,16,18,20,20,20,20,20,20,22,22,22,22,22,22,24,26,52,28,32,32,30,32,32,32,32,34,36,38,40,42,42,42,42,44,46,52,48,52,50,52,54,0,1])] :=
  ⟨by kernel_rfl,by kernel_rfl,by kernel_rfl,by kernel_rfl,by kernel_rfl,by kernel_rfl,by kernel_rfl,by kernel_rfl,by kernel_rfl,by kernel_rfl,by kernel_rfl,by kernel_rfl,by kernel_rfl,by kernel_rfl,by kernel_rfl,by kernel_rfl,trivial⟩
theorem wk11n2 (x0:(List (Int×(Int×(Int×Unit))))) (x1:Int) (x1':Int) (x2:Int):Walks (runPure (kf78 Proofs.Tryz.prog).orc Proofs.Tryz.prog 400 11 as11 rs11 (x0,(x1,x1',()),x2,())) (t11 x0 x1 x1' x2) [(bl 28 170447422,[2,4,4,4,4,4,6,54,8,10,10,10,10,12,14,16,18,20,22,22,22,22,22,22,24,24,24,24,24,24,26,28,54,30,34,34,32,34,34,34,34,36,38,40,42,44,44,44,44,46,48,54,50,54,52,54,56,0,1]),(bl 29 304665150,[2,4,6,6,6,6,6,8,56,10,12,12,12,12,14,16,18,20,22,24,24,24,24,24,24,26,26,26,26,26,26,28,30,56,32,36,36,34,36,36,36,36,38,40,42,44,46,46,46,46,48,50,56,52,56,54,56,58,0,1]),(bl 31 1646842430,[2,2,2,2,2,4,60,6,8,10,10,10,10,10,12,60,14,16,16,16,16,18,20,22,24,26,28,28,28,28,28,28,30,30,30,30,30,30,32,34,60,36,40,40,38,40,40,40,40,42,44,46,48,50,50,50,50,52,54,60,56,60,58,60,62,0,1]),(bl 31 573100606,[2,2,2,2,2,4,60,6,8,10,10,10,10,10,12,60,14,16,16,16,16,18,20,22,24,26,28,28,28,28,28,28,30,30,30,30,30,30,32,34,60,36,40,40,38,40,40,40,40,42,44,46,48,50,50,50,50,52,54,60,56,60,58,60,62,0,1])] :=
  ⟨by kernel_rfl,by kernel_rfl,by kernel_rfl,by kernel_rfl,trivial⟩
theorem ok11_t (x0:(List (Int×(Int×(Int×Unit))))) (x1:Int) (x1':Int) (x2:Int):TrOk (PureRuns Proofs.Tryz.prog (kf78 Proofs.Tryz.prog).orc 11 as11 rs11 (x0,(x1,x1',()),x2,())) (t11 x0 x1 x1' x2) :=
  Walks.ok (fun _ _ _=>PureRuns.of) ((wk11n0 x0 x1 x1' x2).append ((wk11n1 x0 x1 x1' x2).append (wk11n2 x0 x1 x1' x2))) (by kernel_rfl)
theorem ok11:PureOk Proofs.Tryz.prog 11 p11:=qac kf78_ok.base (T:=fun (d:Tys.data as11)=>t11 d.1 d.2.1.1 d.2.1.2.1 d.2.2.1) (by kernel_rfl) (fun (d:Tys.data as11)=>ok11_t d.1 d.2.1.1 d.2.1.2.1 d.2.2.1)
end Go.Vm.Mo
