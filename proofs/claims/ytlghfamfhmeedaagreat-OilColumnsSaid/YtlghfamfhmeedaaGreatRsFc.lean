import Derived.Test.YtlghfamfhmeedaaGreatA5
import Derived.KernelRfl
import Derived.Test.YtlghfamfhmeedaaGreatProg
import Derived.Test.YtlghfamfhmeedaaGreatRsFb
set_option linter.unusedVariables false
set_option linter.unusedSimpArgs false

namespace Go.Vm.Mo
open Go
set_option linter.unusedVariables false
abbrev as184:List Ty:=[(.pair (.int .i64) (.pair (.slice (.int .i64)) .unit)),(.pair (.int .i64) (.pair (.slice (.int .i64)) .unit))]
abbrev rs184:List Ty:=[(.pair (.int .i64) (.pair (.slice (.int .i64)) .unit))]
def t184 (x0:Int) (x0':(List Int)) (x1:Int) (x1':(List Int)):Tr (Tys.data rs184) :=
  Tr.test ((eqF x0 0:Bool))
    (Tr.fin (((x1,(x1',())),())))
    (Tr.test (eqF x1 0)
      (Tr.fin (((x0,(x0',())),())))
      (Tr.test ((eqF x0 x1:Bool))
        (Tr.test (Option.isSome (f204 (x0',(x1',()))))
          (let r0:=g204 (x0',(x1',()));
          Tr.test (Option.isSome (f186 (x0,(r0.1,()))))
            (let r1:=g186 (x0,(r0.1,()));
            Tr.fin (((r1.1.1,(r1.1.2.1,())),())))
            (Tr.stop))
          (Tr.stop))
        (Tr.test (Option.isSome (f200 (x0',(x1',()))))
          (let r2:=g200 (x0',(x1',()));
          Tr.test ((eqF r2.1 0:Bool))
            (Tr.fin ((((0:Int),(([]:List Int),())),())))
            (Tr.test ((!leF r2.1 0:Bool))
              (Tr.test (Option.isSome (f201 (x0',(x1',()))))
                (let r3:=g201 (x0',(x1',()));
                Tr.test (Option.isSome (f186 (x0,(r3.1,()))))
                  (let r4:=g186 (x0,(r3.1,()));
                  Tr.fin (((r4.1.1,(r4.1.2.1,())),())))
                  (Tr.stop))
                (Tr.stop))
              (Tr.test (Option.isSome (f201 (x1',(x0',()))))
                (let r5:=g201 (x1',(x0',()));
                Tr.test (Option.isSome (f186 (x1,(r5.1,()))))
                  (let r6:=g186 (x1,(r5.1,()));
                  Tr.fin (((r6.1.1,(r6.1.2.1,())),())))
                  (Tr.stop))
                (Tr.stop))))
          (Tr.stop))))
def f184 (d:Tys.data as184):Option (Tys.data rs184):=(t184 d.1.1 d.1.2.1 d.2.1.1 d.2.1.2.1).val
def g184 (d:Tys.data as184):Tys.data rs184:=(f184 d).getD (Tys.dflt rs184)
def p184:PureC:=pcOf as184 rs184 f184 g184
theorem wk184 (x0:Int) (x0':(List Int)) (x1:Int) (x1':(List Int)):Walks (runPure (kf204 Proofs.Tryz.prog).orc Proofs.Tryz.prog 400 184 as184 rs184 ((x0,x0',()),(x1,x1',()),())) (t184 x0 x0' x1 x1') [(bl 1 1,[2]),(bl 2 2,[2,4]),(bl 5 28,[2,4,6,8,10]),(bl 5 24,[2,4,6,8,10]),(bl 8 232,[2,4,6,8,10,12,14,16]),(bl 8 200,[2,4,6,8,10,12,14,16])] :=
  ⟨by kernel_rfl,by kernel_rfl,by kernel_rfl,by kernel_rfl,by kernel_rfl,by kernel_rfl,trivial⟩
theorem ok184_t (x0:Int) (x0':(List Int)) (x1:Int) (x1':(List Int)):TrOk (PureRuns Proofs.Tryz.prog (kf204 Proofs.Tryz.prog).orc 184 as184 rs184 ((x0,x0',()),(x1,x1',()),())) (t184 x0 x0' x1 x1') :=
  Walks.ok (fun _ _ _=>PureRuns.of) (wk184 x0 x0' x1 x1') (by kernel_rfl)
theorem ok184:PureOk Proofs.Tryz.prog 184 p184:=qab kf204_ok.base (T:=fun (d:Tys.data as184)=>t184 d.1.1 d.1.2.1 d.2.1.1 d.2.1.2.1) (by kernel_rfl) (fun (d:Tys.data as184)=>ok184_t d.1.1 d.1.2.1 d.2.1.1 d.2.1.2.1)
def kf184 (P:Go.Program):Known:=(kf204 P).func 184 p184
theorem kf184_ok:KnownOk Proofs.Tryz.prog (kf184 Proofs.Tryz.prog):=kf204_ok.func ok184
abbrev as187:List Ty:=[(.pair (.int .i64) (.pair (.slice (.int .i64)) .unit)),(.pair (.int .i64) (.pair (.slice (.int .i64)) .unit))]
abbrev rs187:List Ty:=[(.pair (.int .i64) (.pair (.slice (.int .i64)) .unit))]
def t187 (x0:Int) (x0':(List Int)) (x1:Int) (x1':(List Int)):Tr (Tys.data rs187) :=
  Tr.test (Option.isSome (f179 ((x1,(x1',())),())))
    (let r0:=g179 ((x1,(x1',())),());
    Tr.test (Option.isSome (f184 ((x0,(x0',())),((r0.1.1,(r0.1.2.1,())),()))))
      (let r1:=g184 ((x0,(x0',())),((r0.1.1,(r0.1.2.1,())),()));
      Tr.fin (((r1.1.1,(r1.1.2.1,())),())))
      (Tr.stop))
    (Tr.stop)
def f187 (d:Tys.data as187):Option (Tys.data rs187):=(t187 d.1.1 d.1.2.1 d.2.1.1 d.2.1.2.1).val
def g187 (d:Tys.data as187):Tys.data rs187:=(f187 d).getD (Tys.dflt rs187)
def p187:PureC:=pcOf as187 rs187 f187 g187
theorem wk187 (x0:Int) (x0':(List Int)) (x1:Int) (x1':(List Int)):Walks (runPure (kf184 Proofs.Tryz.prog).orc Proofs.Tryz.prog 400 187 as187 rs187 ((x0,x0',()),(x1,x1',()),())) (t187 x0 x0' x1 x1') [(bl 2 3,[2,4])] :=
  ⟨by kernel_rfl,trivial⟩
theorem ok187_t (x0:Int) (x0':(List Int)) (x1:Int) (x1':(List Int)):TrOk (PureRuns Proofs.Tryz.prog (kf184 Proofs.Tryz.prog).orc 187 as187 rs187 ((x0,x0',()),(x1,x1',()),())) (t187 x0 x0' x1 x1') :=
  Walks.ok (fun _ _ _=>PureRuns.of) (wk187 x0 x0' x1 x1') (by kernel_rfl)
theorem ok187:PureOk Proofs.Tryz.prog 187 p187:=qab kf184_ok.base (T:=fun (d:Tys.data as187)=>t187 d.1.1 d.1.2.1 d.2.1.1 d.2.1.2.1) (by kernel_rfl) (fun (d:Tys.data as187)=>ok187_t d.1.1 d.1.2.1 d.2.1.1 d.2.1.2.1)
def kf187 (P:Go.Program):Known:=(kf184 P).func 187 p187
theorem kf187_ok:KnownOk Proofs.Tryz.prog (kf187 Proofs.Tryz.prog):=kf184_ok.func ok187
abbrev sh178_2:Sh:={ n:=88,slots:=[2,3,4,5,6,7,8,9],pats:=[.ptr 0 2 0,.ptr 1 2 0,.ptr 2 2 0,.sli 3 1,.ty (.slice (.int .i64)),.ty (.int .i64),.ty (.int .i64),.ty (.int .i64)],boxes:=[.row [.ty (.int .i64),.ty (.slice (.int .i64))],.row [.ty (.int .i64),.ty (.slice (.int .i64))],.row [.ty (.int .i64),.nil],.arr (.int .i64)] }
abbrev shb178_2:Sh:={ n:=88,slots:=[2,3,4,5,6,7,8],pats:=[.ptr 0 2 0,.ptr 1 2 0,.ptr 2 2 0,.sli 3 1,.ty (.slice (.int .i64)),.ty (.int .i64),.ty (.int .i64)],boxes:=[.row [.ty (.int .i64),.ty (.slice (.int .i64))],.row [.ty (.int .i64),.ty (.slice (.int .i64))],.row [.ty (.int .i64),.nil],.arr (.int .i64)] }
abbrev shr178_2:Sh:={ n:=88,slots:=[],pats:=[],boxes:=[.row [.ty (.int .i64),.ty (.slice (.int .i64))],.row [.ty (.int .i64),.ty (.slice (.int .i64))],.row [.ty (.int .i64),.nil],.arr (.int .i64)] }
def t178_2 (x3n:Nat) (x3c:Nat) (x4:(List Int)) (x5:Int) (x6:Int) (x7:Int) (b0_0:Int) (b0_1:(List Int)) (b1_0:Int) (b1_1:(List Int)) (b2_0:Int) (b3:(List Int)):Tr (Out sh178_2.data shb178_2.data shr178_2.data) :=
  Tr.test ((!leF x7 x6:Bool))
    (Tr.test (Option.isSome (f186 ((1:Int),(b1_1,()))))
      (Tr.test (Option.isSome (f164 ((Go.IntKind.wrap Go.IntKind.i64 (Int.tdiv (wrap64 (wrap64 (x6 + x7) + (1:Int))) (2:Int)):Int),())))
        (let r0:=g186 ((1:Int),(b1_1,()));
        let r1:=g164 ((Go.IntKind.wrap Go.IntKind.i64 (Int.tdiv (wrap64 (wrap64 (x6 + x7) + (1:Int))) (2:Int)):Int),());
        Tr.test (Option.isSome (f167 ((r0.1.1,(r0.1.2.1,())),((r1.1.1,(r1.1.2.1,())),()))))
          (let r2:=g167 ((r0.1.1,(r0.1.2.1,())),((r1.1.1,(r1.1.2.1,())),()));
          Tr.test (Option.isSome (f200 (r2.1.2.1,(x4,()))))
            (let r3:=g200 (r2.1.2.1,(x4,()));
            Tr.test ((leF r3.1 0:Bool))
              (Tr.fin (.again (((x3n,x3c),(x4,(x5,((Go.IntKind.wrap Go.IntKind.i64 (Int.tdiv (wrap64 (wrap64 (x6 + x7) + (1:Int))) (2:Int)):Int),(x7,()))))),((b0_0,(b0_1,())),((b1_0,(b1_1,())),((b2_0,()),(b3,())))))))
              (Tr.fin (.again (((x3n,x3c),(x4,(x5,(x6,((wrap64 (Go.IntKind.wrap Go.IntKind.i64 (Int.tdiv (wrap64 (wrap64 (x6 + x7) + (1:Int))) (2:Int)) - (1:Int)):Int),()))))),((b0_0,(b0_1,())),((b1_0,(b1_1,())),((b2_0,()),(b3,()))))))))
            (Tr.stop))
          (Tr.stop))
        (Tr.stop))
      (Tr.stop))
    (Tr.fin (.brk (((x3n,x3c),(x4,(x5,(x6,())))),((b0_0,(b0_1,())),((b1_0,(b1_1,())),((b2_0,()),(b3,())))))))
def s178_2 (d:sh178_2.data):Option (Out sh178_2.data shb178_2.data shr178_2.data):=(t178_2 d.1.1.1 d.1.1.2 d.1.2.1 d.1.2.2.1 d.1.2.2.2.1 d.1.2.2.2.2.1 d.2.1.1 d.2.1.2.1 d.2.2.1.1 d.2.2.1.2.1 d.2.2.2.1.1 d.2.2.2.2.1).val
def l178_2 (d:sh178_2.data):Option (shb178_2.data ⊕ shr178_2.data):=itr s178_2 rounds d
def b178_2 (d:sh178_2.data):shb178_2.data:=outB shb178_2.dflt (l178_2 d)
def lc178_2:LoopC:=lcB sh178_2 shb178_2 shr178_2 l178_2 b178_2
theorem wk178_2 (x3n:Nat) (x3c:Nat) (x4:(List Int)) (x5:Int) (x6:Int) (x7:Int) (b0_0:Int) (b0_1:(List Int)) (b1_0:Int) (b1_1:(List Int)) (b2_0:Int) (b3:(List Int)):Walks (qau (kf187 Proofs.Tryz.prog).orc Proofs.Tryz.prog 400 178 2 sh178_2 shb178_2 shr178_2 (((x3n,x3c),x4,x5,x6,x7,()),(b0_0,b0_1,()),(b1_0,b1_1,()),(b2_0,()),b3,())) (t178_2 x3n x3c x4 x5 x6 x7 b0_0 b0_1 b1_0 b1_1 b2_0 b3) [(bl 6 63,[2,4,6,8,10,0,12]),(bl 6 31,[2,4,6,8,10,0,12]),(bl 1 0,[2])] :=
  ⟨by kernel_rfl,by kernel_rfl,by kernel_rfl,trivial⟩
theorem ok178_2_t (x3n:Nat) (x3c:Nat) (x4:(List Int)) (x5:Int) (x6:Int) (x7:Int) (b0_0:Int) (b0_1:(List Int)) (b1_0:Int) (b1_1:(List Int)) (b2_0:Int) (b3:(List Int)):TrOk (BodyRuns Proofs.Tryz.prog (kf187 Proofs.Tryz.prog).orc 178 2 sh178_2 shb178_2 shr178_2 (((x3n,x3c),x4,x5,x6,x7,()),(b0_0,b0_1,()),(b1_0,b1_1,()),(b2_0,()),b3,())) (t178_2 x3n x3c x4 x5 x6 x7 b0_0 b0_1 b1_0 b1_1 b2_0 b3) :=
  Walks.ok (fun _ _ _=>BodyRuns.of) (wk178_2 x3n x3c x4 x5 x6 x7 b0_0 b0_1 b1_0 b1_1 b2_0 b3) (by kernel_rfl)
theorem ok178_2:qav Proofs.Tryz.prog 178 2 lc178_2:=qar (sh:=sh178_2) (shB:=shb178_2) (shR:=shr178_2) kf187_ok.base (T:=fun (d:sh178_2.data)=>t178_2 d.1.1.1 d.1.1.2 d.1.2.1 d.1.2.2.1 d.1.2.2.2.1 d.1.2.2.2.2.1 d.2.1.1 d.2.1.2.1 d.2.2.1.1 d.2.2.1.2.1 d.2.2.2.1.1 d.2.2.2.2.1) (by kernel_rfl) rfl (fun (d:sh178_2.data)=>ok178_2_t d.1.1.1 d.1.1.2 d.1.2.1 d.1.2.2.1 d.1.2.2.2.1 d.1.2.2.2.2.1 d.2.1.1 d.2.1.2.1 d.2.2.1.1 d.2.2.1.2.1 d.2.2.2.1.1 d.2.2.2.2.1) (fun _=>rfl)
def kl178_2 (P:Go.Program):Known:=(kf187 P).loop 178 2 lc178_2
theorem kl178_2_ok:KnownOk Proofs.Tryz.prog (kl178_2 Proofs.Tryz.prog):=kf187_ok.loop ok178_2
abbrev sh178_0:Sh:={ n:=88,slots:=[2,3,4,5,6,7],pats:=[.ptr 0 2 0,.ptr 1 2 0,.ptr 2 2 0,.sli 3 1,.ty (.slice (.int .i64)),.ty (.int .i64)],boxes:=[.row [.ty (.int .i64),.ty (.slice (.int .i64))],.row [.ty (.int .i64),.ty (.slice (.int .i64))],.row [.ty (.int .i64),.nil],.arr (.int .i64)] }
abbrev shb178_0:Sh:={ n:=88,slots:=[2,4,5,6],pats:=[.ptr 0 2 0,.ptr 2 2 0,.sli 3 1,.ty (.slice (.int .i64))],boxes:=[.row [.ty (.int .i64),.ty (.slice (.int .i64))],.row [.ty (.int .i64),.ty (.slice (.int .i64))],.row [.ty (.int .i64),.nil],.arr (.int .i64)] }
abbrev shr178_0:Sh:={ n:=88,slots:=[],pats:=[],boxes:=[.row [.ty (.int .i64),.ty (.slice (.int .i64))],.row [.ty (.int .i64),.ty (.slice (.int .i64))],.row [.ty (.int .i64),.nil],.arr (.int .i64)] }
def t178_0 (x3n:Nat) (x3c:Nat) (x4:(List Int)) (x5:Int) (b0_0:Int) (b0_1:(List Int)) (b1_0:Int) (b1_1:(List Int)) (b2_0:Int) (b3:(List Int)):Tr (Out sh178_0.data shb178_0.data shr178_0.data) :=
  Tr.test ((leF (0:Int) x5:Bool))
    (Tr.test (decide ((0:Int) ≤ x5) && decide (x5 < (↑(List.length b0_1):Int)))
      (Tr.test ((Nat.ble (((2:Nat) * ((1:Nat) + List.length x4) + (192:Nat)) * (8:Nat)) (281474976710656:Nat) && Nat.ble ((1:Nat) + List.length x4) (281474976710656:Nat):Bool))
        (Tr.test (Option.isSome (f199 (([List.getD b0_1 (Int.toNat x5) (0:Int)]++x4:List Int),())))
          (let r0:=g199 (([List.getD b0_1 (Int.toNat x5) (0:Int)]++x4:List Int),());
          Tr.test (qbk (l178_2 (((x3n,x3c),(r0.1,(x5,((0:Int),((999999999:Int),()))))),((b0_0,(b0_1,())),((b1_0,(b1_1,())),((b2_0,()),(b3,())))))))
            (let r1:=b178_2 (((x3n,x3c),(r0.1,(x5,((0:Int),((999999999:Int),()))))),((b0_0,(b0_1,())),((b1_0,(b1_1,())),((b2_0,()),(b3,())))));
            Tr.test ((decide ((0:Int) ≤ r1.1.2.2.1) && decide (r1.1.2.2.1 < (↑r1.1.1.1:Int)):Bool))
              (Tr.test ((Nat.ble ((0:Nat) + Int.toNat r1.1.2.2.1 + (1:Nat)) (List.length r1.2.2.2.2.1):Bool))
                (Tr.test (Option.isSome (f186 ((1:Int),(r1.2.2.1.2.1,()))))
                  (Tr.test (Option.isSome (f164 (r1.1.2.2.2.1,())))
                    (let r2:=g186 ((1:Int),(r1.2.2.1.2.1,()));
                    let r3:=g164 (r1.1.2.2.2.1,());
                    Tr.test (Option.isSome (f167 ((r2.1.1,(r2.1.2.1,())),((r3.1.1,(r3.1.2.1,())),()))))
                      (let r4:=g167 ((r2.1.1,(r2.1.2.1,())),((r3.1.1,(r3.1.2.1,())),()));
                      Tr.test (Option.isSome (f201 (r1.1.2.1,(r4.1.2.1,()))))
                        (let r5:=g201 (r1.1.2.1,(r4.1.2.1,()));
                        Tr.fin (.again (((r1.1.1.1,r1.1.1.2),(r5.1,((wrap64 (r1.1.2.2.1 - (1:Int)):Int),()))),((r1.2.1.1,(r1.2.1.2.1,())),((r1.2.2.1.1,(r1.2.2.1.2.1,())),((r1.2.2.2.1.1,()),((List.set r1.2.2.2.2.1 ((0:Nat) + Int.toNat r1.1.2.2.1) r1.1.2.2.2.1:List Int),())))))))
                        (Tr.stop))
                      (Tr.stop))
                    (Tr.stop))
                  (Tr.stop))
                (Tr.stop))
              (Tr.stop))
            (Tr.stop))
          (Tr.stop))
        (Tr.stop))
      (Tr.stop))
    (Tr.fin (.brk (((x3n,x3c),(x4,())),((b0_0,(b0_1,())),((b1_0,(b1_1,())),((b2_0,()),(b3,())))))))
def s178_0 (d:sh178_0.data):Option (Out sh178_0.data shb178_0.data shr178_0.data):=(t178_0 d.1.1.1 d.1.1.2 d.1.2.1 d.1.2.2.1 d.2.1.1 d.2.1.2.1 d.2.2.1.1 d.2.2.1.2.1 d.2.2.2.1.1 d.2.2.2.2.1).val
def l178_0 (d:sh178_0.data):Option (shb178_0.data ⊕ shr178_0.data):=itr s178_0 rounds d
def b178_0 (d:sh178_0.data):shb178_0.data:=outB shb178_0.dflt (l178_0 d)
def lc178_0:LoopC:=lcB sh178_0 shb178_0 shr178_0 l178_0 b178_0
theorem wk178_0 (x3n:Nat) (x3c:Nat) (x4:(List Int)) (x5:Int) (b0_0:Int) (b0_1:(List Int)) (b1_0:Int) (b1_1:(List Int)) (b2_0:Int) (b3:(List Int)):Walks (qau (kl178_2 Proofs.Tryz.prog).orc Proofs.Tryz.prog 400 178 0 sh178_0 shb178_0 shr178_0 (((x3n,x3c),x4,x5,()),(b0_0,b0_1,()),(b1_0,b1_1,()),(b2_0,()),b3,())) (t178_0 x3n x3c x4 x5 b0_0 b0_1 b1_0 b1_1 b2_0 b3) [(bl 11 2047,[2,4,6,8,10,12,1,14,16,18,20,22]),(bl 1 0,[2])] :=
  ⟨by kernel_rfl,by kernel_rfl,trivial⟩
theorem ok178_0_t (x3n:Nat) (x3c:Nat) (x4:(List Int)) (x5:Int) (b0_0:Int) (b0_1:(List Int)) (b1_0:Int) (b1_1:(List Int)) (b2_0:Int) (b3:(List Int)):TrOk (BodyRuns Proofs.Tryz.prog (kl178_2 Proofs.Tryz.prog).orc 178 0 sh178_0 shb178_0 shr178_0 (((x3n,x3c),x4,x5,()),(b0_0,b0_1,()),(b1_0,b1_1,()),(b2_0,()),b3,())) (t178_0 x3n x3c x4 x5 b0_0 b0_1 b1_0 b1_1 b2_0 b3) :=
  Walks.ok (fun _ _ _=>BodyRuns.of) (wk178_0 x3n x3c x4 x5 b0_0 b0_1 b1_0 b1_1 b2_0 b3) (by kernel_rfl)
theorem ok178_0:qav Proofs.Tryz.prog 178 0 lc178_0:=qar (sh:=sh178_0) (shB:=shb178_0) (shR:=shr178_0) kl178_2_ok.base (T:=fun (d:sh178_0.data)=>t178_0 d.1.1.1 d.1.1.2 d.1.2.1 d.1.2.2.1 d.2.1.1 d.2.1.2.1 d.2.2.1.1 d.2.2.1.2.1 d.2.2.2.1.1 d.2.2.2.2.1) (by kernel_rfl) rfl (fun (d:sh178_0.data)=>ok178_0_t d.1.1.1 d.1.1.2 d.1.2.1 d.1.2.2.1 d.2.1.1 d.2.1.2.1 d.2.2.1.1 d.2.2.1.2.1 d.2.2.2.1.1 d.2.2.2.2.1) (fun _=>rfl)
def kl178_0 (P:Go.Program):Known:=(kl178_2 P).loop 178 0 lc178_0
theorem kl178_0_ok:KnownOk Proofs.Tryz.prog (kl178_0 Proofs.Tryz.prog):=kl178_2_ok.loop ok178_0
abbrev as178:List Ty:=[(.pair (.int .i64) (.pair (.slice (.int .i64)) .unit)),(.pair (.int .i64) (.pair (.slice (.int .i64)) .unit))]
abbrev rs178:List Ty:=[(.pair (.int .i64) (.pair (.slice (.int .i64)) .unit))]
def t178 (x0:Int) (x0':(List Int)) (x1:Int) (x1':(List Int)):Tr (Tys.data rs178) :=
  Tr.test ((eqF x0 0:Bool))
    (Tr.fin ((((0:Int),(([]:List Int),())),())))
    (Tr.test (decide ((0:Int) ≤ (↑(List.length x0'):Int)) && decide ((↑(List.length x0'):Int) ≤ (↑(List.length x0'):Int)) && decide ((8:Int) * (↑(List.length x0'):Int) ≤ (281474976710656:Int)) && decide ((↑(List.length x0'):Int) ≤ (281474976710656:Int)))
      (Tr.test (qbk (l178_0 ((((Int.toNat (↑(List.length x0'):Int):Nat),(Int.toNat (↑(List.length x0'):Int):Nat)),(([]:List Int),((wrap64 ((↑(List.length x0'):Int) - (1:Int)):Int),()))),((x0,(x0',())),((x1,(x1',())),(((0:Int),()),((List.replicate (Int.toNat (↑(List.length x0'):Int)) (0:Int):List Int),())))))))
        (let r0:=b178_0 ((((Int.toNat (↑(List.length x0'):Int):Nat),(Int.toNat (↑(List.length x0'):Int):Nat)),(([]:List Int),((wrap64 ((↑(List.length x0'):Int) - (1:Int)):Int),()))),((x0,(x0',())),((x1,(x1',())),(((0:Int),()),((List.replicate (Int.toNat (↑(List.length x0'):Int)) (0:Int):List Int),())))));
        Tr.test ((Nat.beq r0.1.1.1 (List.length r0.2.2.2.2.1):Bool))
          (Tr.test (Option.isSome (f186 (r0.2.1.1,(r0.2.2.2.2.1,()))))
            (Tr.test ((!leF (0:Int) r0.2.1.1:Bool))
              (Tr.test ((!leF (↑(List.length r0.1.2.1):Int) (0:Int):Bool))
                (Tr.test (Option.isSome (f164 ((1:Int),())))
                  (let r1:=g186 (r0.2.1.1,(r0.2.2.2.2.1,()));
                  let r3:=g164 ((1:Int),());
                  Tr.test (Option.isSome (f187 ((r1.1.1,(r1.1.2.1,())),((r3.1.1,(r3.1.2.1,())),()))))
                    (let r4:=g187 ((r1.1.1,(r1.1.2.1,())),((r3.1.1,(r3.1.2.1,())),()));
                    Tr.fin (((r4.1.1,(r4.1.2.1,())),())))
                    (Tr.stop))
                  (Tr.stop))
                (let r1:=g186 (r0.2.1.1,(r0.2.2.2.2.1,()));
                Tr.fin (((r1.1.1,(r1.1.2.1,())),()))))
              (let r1:=g186 (r0.2.1.1,(r0.2.2.2.2.1,()));
              Tr.fin (((r1.1.1,(r1.1.2.1,())),()))))
            (Tr.stop))
          (Tr.test ((Nat.ble r0.1.1.1 (List.length r0.2.2.2.2.1):Bool))
            (Tr.test (Option.isSome (f186 (r0.2.1.1,((List.take r0.1.1.1 r0.2.2.2.2.1:List Int),()))))
              (Tr.test ((!leF (0:Int) r0.2.1.1:Bool))
                (Tr.test ((!leF (↑(List.length r0.1.2.1):Int) (0:Int):Bool))
                  (Tr.test (Option.isSome (f164 ((1:Int),())))
                    (let r2:=g186 (r0.2.1.1,((List.take r0.1.1.1 r0.2.2.2.2.1:List Int),()));
                    let r3:=g164 ((1:Int),());
                    Tr.test (Option.isSome (f187 ((r2.1.1,(r2.1.2.1,())),((r3.1.1,(r3.1.2.1,())),()))))
                      (let r5:=g187 ((r2.1.1,(r2.1.2.1,())),((r3.1.1,(r3.1.2.1,())),()));
                      Tr.fin (((r5.1.1,(r5.1.2.1,())),())))
                      (Tr.stop))
                    (Tr.stop))
                  (let r2:=g186 (r0.2.1.1,((List.take r0.1.1.1 r0.2.2.2.2.1:List Int),()));
                  Tr.fin (((r2.1.1,(r2.1.2.1,())),()))))
                (let r2:=g186 (r0.2.1.1,((List.take r0.1.1.1 r0.2.2.2.2.1:List Int),()));
                Tr.fin (((r2.1.1,(r2.1.2.1,())),()))))
              (Tr.stop))
            (Tr.stop /- a known call [op 3 of region 16 of F178] -/)))
        (Tr.stop))
      (Tr.stop))
def f178 (d:Tys.data as178):Option (Tys.data rs178):=(t178 d.1.1 d.1.2.1 d.2.1.1 d.2.1.2.1).val
def g178 (d:Tys.data as178):Tys.data rs178:=(f178 d).getD (Tys.dflt rs178)
def p178:PureC:=pcOf as178 rs178 f178 g178
theorem wk178 (x0:Int) (x0':(List Int)) (x1:Int) (x1':(List Int)):Walks (runPure (kl178_0 Proofs.Tryz.prog).orc Proofs.Tryz.prog 400 178 as178 rs178 ((x0,x0',()),(x1,x1',()),())) (t178 x0 x0' x1 x1') [(bl 1 1,[2]),(bl 9 510,[2,4,6,8,8,8,8,10,12,1,14,16,18]),(bl 7 62,[2,4,4,4,4,6,8,1,10,12,14]),(bl 6 30,[0,2,2,2,2,4,6,1,8,10,12]),(bl 10 1014,[2,4,6,8,8,8,8,10,12,14,1,16,18,20]),(bl 8 118,[2,4,4,4,4,6,8,10,1,12,14,16]),(bl 7 54,[0,2,2,2,2,4,6,8,1,10,12,14])] :=
  ⟨by kernel_rfl,by kernel_rfl,by kernel_rfl,by kernel_rfl,by kernel_rfl,by kernel_rfl,by kernel_rfl,trivial⟩
theorem ok178_t (x0:Int) (x0':(List Int)) (x1:Int) (x1':(List Int)):TrOk (PureRuns Proofs.Tryz.prog (kl178_0 Proofs.Tryz.prog).orc 178 as178 rs178 ((x0,x0',()),(x1,x1',()),())) (t178 x0 x0' x1 x1') :=
  Walks.ok (fun _ _ _=>PureRuns.of) (wk178 x0 x0' x1 x1') (by kernel_rfl)
theorem ok178:PureOk Proofs.Tryz.prog 178 p178:=qab kl178_0_ok.base (T:=fun (d:Tys.data as178)=>t178 d.1.1 d.1.2.1 d.2.1.1 d.2.1.2.1) (by kernel_rfl) (fun (d:Tys.data as178)=>ok178_t d.1.1 d.1.2.1 d.2.1.1 d.2.1.2.1)
def kf178 (P:Go.Program):Known:=(kl178_0 P).func 178 p178
theorem kf178_ok:KnownOk Proofs.Tryz.prog (kf178 Proofs.Tryz.prog):=kl178_0_ok.func ok178
abbrev sh203_0:Sh:={ n:=23,slots:=[2,3,4],pats:=[.ptr 0 2 0,.ptr 1 2 0,.ptr 2 2 0],boxes:=[.row [.ty (.int .i64),.ty (.slice (.int .i64))],.row [.ty (.int .i64),.ty (.slice (.int .i64))],.row [.ty (.int .i64),.nil]] }
abbrev shb203_0:Sh:={ n:=23,slots:=[2,4],pats:=[.ptr 0 2 0,.ptr 2 2 0],boxes:=[.row [.ty (.int .i64),.ty (.slice (.int .i64))],.row [.ty (.int .i64),.ty (.slice (.int .i64))],.row [.ty (.int .i64),.nil]] }
abbrev shr203_0:Sh:={ n:=23,slots:=[],pats:=[],boxes:=[.row [.ty (.int .i64),.ty (.slice (.int .i64))],.row [.ty (.int .i64),.ty (.slice (.int .i64))],.row [.ty (.int .i64),.nil]] }
def t203_0 (b0_0:Int) (b0_1:(List Int)) (b1_0:Int) (b1_1:(List Int)) (b2_0:Int):Tr (Out sh203_0.data shb203_0.data shr203_0.data) :=
  Tr.test (Option.isSome (f202 ((b1_0,(b1_1,())),())))
    (let r0:=g202 ((b1_0,(b1_1,())),());
    Tr.test ((!eqF r0.1 0:Bool))
      (Tr.test (Option.isSome (f178 ((b0_0,(b0_1,())),((b1_0,(b1_1,())),()))))
        (let r1:=g178 ((b0_0,(b0_1,())),((b1_0,(b1_1,())),()));
        Tr.test (Option.isSome (f167 ((r1.1.1,(r1.1.2.1,())),((b1_0,(b1_1,())),()))))
          (let r2:=g167 ((r1.1.1,(r1.1.2.1,())),((b1_0,(b1_1,())),()));
          Tr.test (Option.isSome (f187 ((b0_0,(b0_1,())),((r2.1.1,(r2.1.2.1,())),()))))
            (let r3:=g187 ((b0_0,(b0_1,())),((r2.1.1,(r2.1.2.1,())),()));
            Tr.fin (.again ((),((b1_0,(b1_1,())),((r3.1.1,(r3.1.2.1,())),((b2_0,()),()))))))
            (Tr.stop))
          (Tr.stop))
        (Tr.stop))
      (Tr.fin (.brk ((),((b0_0,(b0_1,())),((b1_0,(b1_1,())),((b2_0,()),())))))))
    (Tr.stop)
def s203_0 (d:sh203_0.data):Option (Out sh203_0.data shb203_0.data shr203_0.data):=(t203_0 d.2.1.1 d.2.1.2.1 d.2.2.1.1 d.2.2.1.2.1 d.2.2.2.1.1).val
def l203_0 (d:sh203_0.data):Option (shb203_0.data ⊕ shr203_0.data):=itr s203_0 rounds d
def b203_0 (d:sh203_0.data):shb203_0.data:=outB shb203_0.dflt (l203_0 d)
def lc203_0:LoopC:=lcB sh203_0 shb203_0 shr203_0 l203_0 b203_0
theorem wk203_0 (b0_0:Int) (b0_1:(List Int)) (b1_0:Int) (b1_1:(List Int)) (b2_0:Int):Walks (qau (kf178 Proofs.Tryz.prog).orc Proofs.Tryz.prog 400 203 0 sh203_0 shb203_0 shr203_0 ((),(b0_0,b0_1,()),(b1_0,b1_1,()),(b2_0,()),())) (t203_0 b0_0 b0_1 b1_0 b1_1 b2_0) [(bl 5 31,[2,4,6,8,10]),(bl 2 1,[2,4])] :=
  ⟨by kernel_rfl,by kernel_rfl,trivial⟩
theorem ok203_0_t (b0_0:Int) (b0_1:(List Int)) (b1_0:Int) (b1_1:(List Int)) (b2_0:Int):TrOk (BodyRuns Proofs.Tryz.prog (kf178 Proofs.Tryz.prog).orc 203 0 sh203_0 shb203_0 shr203_0 ((),(b0_0,b0_1,()),(b1_0,b1_1,()),(b2_0,()),())) (t203_0 b0_0 b0_1 b1_0 b1_1 b2_0) :=
  Walks.ok (fun _ _ _=>BodyRuns.of) (wk203_0 b0_0 b0_1 b1_0 b1_1 b2_0) (by kernel_rfl)
theorem ok203_0:qav Proofs.Tryz.prog 203 0 lc203_0:=qar (sh:=sh203_0) (shB:=shb203_0) (shR:=shr203_0) kf178_ok.base (T:=fun (d:sh203_0.data)=>t203_0 d.2.1.1 d.2.1.2.1 d.2.2.1.1 d.2.2.1.2.1 d.2.2.2.1.1) (by kernel_rfl) rfl (fun (d:sh203_0.data)=>ok203_0_t d.2.1.1 d.2.1.2.1 d.2.2.1.1 d.2.2.1.2.1 d.2.2.2.1.1) (fun _=>rfl)
def kl203_0 (P:Go.Program):Known:=(kf178 P).loop 203 0 lc203_0
theorem kl203_0_ok:KnownOk Proofs.Tryz.prog (kl203_0 Proofs.Tryz.prog):=kf178_ok.loop ok203_0
abbrev as203:List Ty:=[(.pair (.int .i64) (.pair (.slice (.int .i64)) .unit)),(.pair (.int .i64) (.pair (.slice (.int .i64)) .unit))]
abbrev rs203:List Ty:=[(.pair (.int .i64) (.pair (.slice (.int .i64)) .unit))]
def t203 (x0:Int) (x0':(List Int)) (x1:Int) (x1':(List Int)):Tr (Tys.data rs203) :=
  Tr.test (Option.isSome (f212 ((x0,(x0',())),())))
    (Tr.test (Option.isSome (f212 ((x1,(x1',())),())))
      (let r0:=g212 ((x0,(x0',())),());
      let r1:=g212 ((x1,(x1',())),());
      Tr.test (qbk (l203_0 ((),((r0.1.1,(r0.1.2.1,())),((r1.1.1,(r1.1.2.1,())),(((0:Int),()),()))))))
        (let r2:=b203_0 ((),((r0.1.1,(r0.1.2.1,())),((r1.1.1,(r1.1.2.1,())),(((0:Int),()),()))));
        Tr.fin (((r2.2.1.1,(r2.2.1.2.1,())),())))
        (Tr.stop))
      (Tr.stop))
    (Tr.stop)
def f203 (d:Tys.data as203):Option (Tys.data rs203):=(t203 d.1.1 d.1.2.1 d.2.1.1 d.2.1.2.1).val
def g203 (d:Tys.data as203):Tys.data rs203:=(f203 d).getD (Tys.dflt rs203)
def p203:PureC:=pcOf as203 rs203 f203 g203
theorem wk203 (x0:Int) (x0':(List Int)) (x1:Int) (x1':(List Int)):Walks (runPure (kl203_0 Proofs.Tryz.prog).orc Proofs.Tryz.prog 400 203 as203 rs203 ((x0,x0',()),(x1,x1',()),())) (t203 x0 x0' x1 x1') [(bl 3 7,[1,2,4,6])] :=
  ⟨by kernel_rfl,trivial⟩
theorem ok203_t (x0:Int) (x0':(List Int)) (x1:Int) (x1':(List Int)):TrOk (PureRuns Proofs.Tryz.prog (kl203_0 Proofs.Tryz.prog).orc 203 as203 rs203 ((x0,x0',()),(x1,x1',()),())) (t203 x0 x0' x1 x1') :=
  Walks.ok (fun _ _ _=>PureRuns.of) (wk203 x0 x0' x1 x1') (by kernel_rfl)
theorem ok203:PureOk Proofs.Tryz.prog 203 p203:=qab kl203_0_ok.base (T:=fun (d:Tys.data as203)=>t203 d.1.1 d.1.2.1 d.2.1.1 d.2.1.2.1) (by kernel_rfl) (fun (d:Tys.data as203)=>ok203_t d.1.1 d.1.2.1 d.2.1.1 d.2.1.2.1)
def kf203 (P:Go.Program):Known:=(kl203_0 P).func 203 p203
theorem kf203_ok:KnownOk Proofs.Tryz.prog (kf203 Proofs.Tryz.prog):=kl203_0_ok.func ok203
abbrev as166:List Ty:=[(.pair (.int .i64) (.pair (.slice (.int .i64)) .unit)),(.pair (.int .i64) (.pair (.slice (.int .i64)) .unit))]
abbrev rs166:List Ty:=[(.int .i64)]
def t166 (x0:Int) (x0':(List Int)) (x1:Int) (x1':(List Int)):Tr (Tys.data rs166) :=
  Tr.test (Option.isSome (f187 ((x0,(x0',())),((x1,(x1',())),()))))
    (let r0:=g187 ((x0,(x0',())),((x1,(x1',())),()));
    Tr.fin ((r0.1.1,())))
    (Tr.stop)
def f166 (d:Tys.data as166):Option (Tys.data rs166):=(t166 d.1.1 d.1.2.1 d.2.1.1 d.2.1.2.1).val
def g166 (d:Tys.data as166):Tys.data rs166:=(f166 d).getD (Tys.dflt rs166)
def p166:PureC:=pcOf as166 rs166 f166 g166
theorem wk166 (x0:Int) (x0':(List Int)) (x1:Int) (x1':(List Int)):Walks (runPure (kf203 Proofs.Tryz.prog).orc Proofs.Tryz.prog 400 166 as166 rs166 ((x0,x0',()),(x1,x1',()),())) (t166 x0 x0' x1 x1') [(bl 1 1,[2])] :=
  ⟨by kernel_rfl,trivial⟩
theorem ok166_t (x0:Int) (x0':(List Int)) (x1:Int) (x1':(List Int)):TrOk (PureRuns Proofs.Tryz.prog (kf203 Proofs.Tryz.prog).orc 166 as166 rs166 ((x0,x0',()),(x1,x1',()),())) (t166 x0 x0' x1 x1') :=
  Walks.ok (fun _ _ _=>PureRuns.of) (wk166 x0 x0' x1 x1') (by kernel_rfl)
theorem ok166:PureOk Proofs.Tryz.prog 166 p166:=qab kf203_ok.base (T:=fun (d:Tys.data as166)=>t166 d.1.1 d.1.2.1 d.2.1.1 d.2.1.2.1) (by kernel_rfl) (fun (d:Tys.data as166)=>ok166_t d.1.1 d.1.2.1 d.2.1.1 d.2.1.2.1)
def kf166 (P:Go.Program):Known:=(kf203 P).func 166 p166
theorem kf166_ok:KnownOk Proofs.Tryz.prog (kf166 Proofs.Tryz.prog):=kf203_ok.func ok166
abbrev as183:List Ty:=[(.pair (.int .i64) (.pair (.slice (.int .i64)) .unit)),(.pair (.int .i64) (.pair (.slice (.int .i64)) .unit))]
abbrev rs183:List Ty:=[(.pair (.pair (.int .i64) (.pair (.slice (.int .i64)) .unit)) (.pair (.pair (.int .i64) (.pair (.slice (.int .i64)) .unit)) .unit))]
def t183 (x0:Int) (x0':(List Int)) (x1:Int) (x1':(List Int)):Tr (Tys.data rs183) :=
  Tr.test (Option.isSome (f202 ((x1,(x1',())),())))
    (let r0:=g202 ((x1,(x1',())),());
    Tr.test ((!leF (0:Int) r0.1:Bool))
      (Tr.test (Option.isSome (f179 ((x0,(x0',())),())))
        (Tr.test (Option.isSome (f179 ((x1,(x1',())),())))
          (let r1:=g179 ((x0,(x0',())),());
          let r2:=g179 ((x1,(x1',())),());
          Tr.test (Option.isSome (f203 ((r1.1.1,(r1.1.2.1,())),((r2.1.1,(r2.1.2.1,())),()))))
            (Tr.test (Option.isSome (f164 ((1:Int),())))
              (let r3:=g203 ((r1.1.1,(r1.1.2.1,())),((r2.1.1,(r2.1.2.1,())),()));
              let r4:=g164 ((1:Int),());
              Tr.test (Option.isSome (f166 ((r3.1.1,(r3.1.2.1,())),((r4.1.1,(r4.1.2.1,())),()))))
                (let r5:=g166 ((r3.1.1,(r3.1.2.1,())),((r4.1.1,(r4.1.2.1,())),()));
                Tr.test ((eqF r5.1 0:Bool))
                  (Tr.fin ((((r1.1.1,(r1.1.2.1,())),((r2.1.1,(r2.1.2.1,())),())),())))
                  (Tr.test (Option.isSome (f178 ((r1.1.1,(r1.1.2.1,())),((r3.1.1,(r3.1.2.1,())),()))))
                    (Tr.test (Option.isSome (f178 ((r2.1.1,(r2.1.2.1,())),((r3.1.1,(r3.1.2.1,())),()))))
                      (let r6:=g178 ((r1.1.1,(r1.1.2.1,())),((r3.1.1,(r3.1.2.1,())),()));
                      let r7:=g178 ((r2.1.1,(r2.1.2.1,())),((r3.1.1,(r3.1.2.1,())),()));
                      Tr.fin ((((r6.1.1,(r6.1.2.1,())),((r7.1.1,(r7.1.2.1,())),())),())))
                      (Tr.stop))
                    (Tr.stop)))
                (Tr.stop))
              (Tr.stop))
            (Tr.stop))
          (Tr.stop))
        (Tr.stop))
      (Tr.test (Option.isSome (f203 ((x0,(x0',())),((x1,(x1',())),()))))
        (Tr.test (Option.isSome (f164 ((1:Int),())))
          (let r4:=g164 ((1:Int),());
          let r8:=g203 ((x0,(x0',())),((x1,(x1',())),()));
          Tr.test (Option.isSome (f166 ((r8.1.1,(r8.1.2.1,())),((r4.1.1,(r4.1.2.1,())),()))))
            (let r9:=g166 ((r8.1.1,(r8.1.2.1,())),((r4.1.1,(r4.1.2.1,())),()));
            Tr.test ((eqF r9.1 0:Bool))
              (Tr.fin ((((x0,(x0',())),((x1,(x1',())),())),())))
              (Tr.test (Option.isSome (f178 ((x0,(x0',())),((r8.1.1,(r8.1.2.1,())),()))))
                (Tr.test (Option.isSome (f178 ((x1,(x1',())),((r8.1.1,(r8.1.2.1,())),()))))
                  (let r10:=g178 ((x0,(x0',())),((r8.1.1,(r8.1.2.1,())),()));
                  let r11:=g178 ((x1,(x1',())),((r8.1.1,(r8.1.2.1,())),()));
                  Tr.fin ((((r10.1.1,(r10.1.2.1,())),((r11.1.1,(r11.1.2.1,())),())),())))
                  (Tr.stop))
                (Tr.stop)))
            (Tr.stop))
          (Tr.stop))
        (Tr.stop)))
    (Tr.stop)
def f183 (d:Tys.data as183):Option (Tys.data rs183):=(t183 d.1.1 d.1.2.1 d.2.1.1 d.2.1.2.1).val
def g183 (d:Tys.data as183):Tys.data rs183:=(f183 d).getD (Tys.dflt rs183)
def p183:PureC:=pcOf as183 rs183 f183 g183
theorem wk183 (x0:Int) (x0':(List Int)) (x1:Int) (x1':(List Int)):Walks (runPure (kf166 Proofs.Tryz.prog).orc Proofs.Tryz.prog 400 183 as183 rs183 ((x0,x0',()),(x1,x1',()),())) (t183 x0 x0' x1 x1') [(bl 8 255,[2,4,6,8,10,12,14,16]),(bl 10 895,[2,4,6,8,10,12,14,16,18,20]),(bl 6 61,[2,4,6,8,10,12]),(bl 8 221,[2,4,6,8,10,12,14,16])] :=
  ⟨by kernel_rfl,by kernel_rfl,by kernel_rfl,by kernel_rfl,trivial⟩
theorem ok183_t (x0:Int) (x0':(List Int)) (x1:Int) (x1':(List Int)):TrOk (PureRuns Proofs.Tryz.prog (kf166 Proofs.Tryz.prog).orc 183 as183 rs183 ((x0,x0',()),(x1,x1',()),())) (t183 x0 x0' x1 x1') :=
  Walks.ok (fun _ _ _=>PureRuns.of) (wk183 x0 x0' x1 x1') (by kernel_rfl)
theorem ok183:PureOk Proofs.Tryz.prog 183 p183:=qab kf166_ok.base (T:=fun (d:Tys.data as183)=>t183 d.1.1 d.1.2.1 d.2.1.1 d.2.1.2.1) (by kernel_rfl) (fun (d:Tys.data as183)=>ok183_t d.1.1 d.1.2.1 d.2.1.1 d.2.1.2.1)
def kf183 (P:Go.Program):Known:=(kf166 P).func 183 p183
theorem kf183_ok:KnownOk Proofs.Tryz.prog (kf183 Proofs.Tryz.prog):=kf166_ok.func ok183
abbrev as163:List Ty:=[(.int .i64),(.int .i64)]
abbrev rs163:List Ty:=[(.pair (.pair (.int .i64) (.pair (.slice (.int .i64)) .unit)) (.pair (.pair (.int .i64) (.pair (.slice (.int .i64)) .unit)) .unit))]
def t163 (x0:Int) (x1:Int):Tr (Tys.data rs163) :=
  Tr.test (Option.isSome (f164 (x0,())))
    (Tr.test (Option.isSome (f164 (x1,())))
      (let r0:=g164 (x0,());
      let r1:=g164 (x1,());
      Tr.test (Option.isSome (f183 ((r0.1.1,(r0.1.2.1,())),((r1.1.1,(r1.1.2.1,())),()))))
        (let r2:=g183 ((r0.1.1,(r0.1.2.1,())),((r1.1.1,(r1.1.2.1,())),()));
        Tr.fin ((((r2.1.1.1,(r2.1.1.2.1,())),((r2.1.2.1.1,(r2.1.2.1.2.1,())),())),())))
        (Tr.stop))
      (Tr.stop))
    (Tr.stop)
def f163 (d:Tys.data as163):Option (Tys.data rs163):=(t163 d.1 d.2.1).val
def g163 (d:Tys.data as163):Tys.data rs163:=(f163 d).getD (Tys.dflt rs163)
def p163:PureC:=pcOf as163 rs163 f163 g163
theorem wk163 (x0:Int) (x1:Int):Walks (runPure (kf183 Proofs.Tryz.prog).orc Proofs.Tryz.prog 400 163 as163 rs163 (x0,x1,())) (t163 x0 x1) [(bl 3 7,[2,4,6])] :=
  ⟨by kernel_rfl,trivial⟩
theorem ok163_t (x0:Int) (x1:Int):TrOk (PureRuns Proofs.Tryz.prog (kf183 Proofs.Tryz.prog).orc 163 as163 rs163 (x0,x1,())) (t163 x0 x1) :=
  Walks.ok (fun _ _ _=>PureRuns.of) (wk163 x0 x1) (by kernel_rfl)
theorem ok163:PureOk Proofs.Tryz.prog 163 p163:=qab kf183_ok.base (T:=fun (d:Tys.data as163)=>t163 d.1 d.2.1) (by kernel_rfl) (fun (d:Tys.data as163)=>ok163_t d.1 d.2.1)
def kf163 (P:Go.Program):Known:=(kf183 P).func 163 p163
theorem kf163_ok:KnownOk Proofs.Tryz.prog (kf163 Proofs.Tryz.prog):=kf183_ok.func ok163
abbrev as155:List Ty:=[(.pair (.int .i64) (.pair (.int .i64) (.pair (.int .i64) .unit))),(.int .i64)]
abbrev rs155:List Ty:=[(.pair (.pair (.int .i64) (.pair (.slice (.int .i64)) .unit)) (.pair (.pair (.int .i64) (.pair (.slice (.int .i64)) .unit)) .unit))]
def t155 (x0:Int) (x0':Int) (x0'':Int) (x1:Int):Tr (Tys.data rs155) :=
  Tr.test (Option.isSome (f163 ((wrap64 (wrap64 ((4:Int) * x0) * x0'):Int),((wrap64 (x0'' * x1):Int),()))))
    (let r0:=g163 ((wrap64 (wrap64 ((4:Int) * x0) * x0'):Int),((wrap64 (x0'' * x1):Int),()));
    Tr.fin ((((r0.1.1.1,(r0.1.1.2.1,())),((r0.1.2.1.1,(r0.1.2.1.2.1,())),())),())))
    (Tr.stop)
def f155 (d:Tys.data as155):Option (Tys.data rs155):=(t155 d.1.1 d.1.2.1 d.1.2.2.1 d.2.1).val
def g155 (d:Tys.data as155):Tys.data rs155:=(f155 d).getD (Tys.dflt rs155)
def p155:PureC:=pcOf as155 rs155 f155 g155
theorem wk155 (x0:Int) (x0':Int) (x0'':Int) (x1:Int):Walks (runPure (kf163 Proofs.Tryz.prog).orc Proofs.Tryz.prog 400 155 as155 rs155 ((x0,x0',x0'',()),x1,())) (t155 x0 x0' x0'' x1) [(bl 1 1,[2])] :=
  ⟨by kernel_rfl,trivial⟩
theorem ok155_t (x0:Int) (x0':Int) (x0'':Int) (x1:Int):TrOk (PureRuns Proofs.Tryz.prog (kf163 Proofs.Tryz.prog).orc 155 as155 rs155 ((x0,x0',x0'',()),x1,())) (t155 x0 x0' x0'' x1) :=
  Walks.ok (fun _ _ _=>PureRuns.of) (wk155 x0 x0' x0'' x1) (by kernel_rfl)
theorem ok155:PureOk Proofs.Tryz.prog 155 p155:=qab kf163_ok.base (T:=fun (d:Tys.data as155)=>t155 d.1.1 d.1.2.1 d.1.2.2.1 d.2.1) (by kernel_rfl) (fun (d:Tys.data as155)=>ok155_t d.1.1 d.1.2.1 d.1.2.2.1 d.2.1)
def kf155 (P:Go.Program):Known:=(kf163 P).func 155 p155
theorem kf155_ok:KnownOk Proofs.Tryz.prog (kf155 Proofs.Tryz.prog):=kf163_ok.func ok155
abbrev sh103_0:Sh:={ n:=30,slots:=[1,4,5],pats:=[.ptr 0 2 0,.ty (.int .i64),.ty (.int .i64)],boxes:=[.row [.ty (.int .i64),.ty (.slice (.int .i64))]] }
abbrev shb103_0:Sh:={ n:=30,slots:=[1,4],pats:=[.ptr 0 2 0,.ty (.int .i64)],boxes:=[.row [.ty (.int .i64),.ty (.slice (.int .i64))]] }
abbrev shr103_0:Sh:={ n:=30,slots:=[],pats:=[],boxes:=[.row [.ty (.int .i64),.ty (.slice (.int .i64))]] }
def t103_0 (x1:Int) (x2:Int) (b0_0:Int) (b0_1:(List Int)):Tr (Out sh103_0.data shb103_0.data shr103_0.data) :=
  Tr.test ((leF (0:Int) x2:Bool))
    (Tr.test (decide ((0:Int) ≤ x2) && decide (x2 < (↑(List.length b0_1):Int)))
      (Tr.fin (.again (((wrap64 (wrap64 (x1 * (1000000000:Int)) + List.getD b0_1 (Int.toNat x2) (0:Int)):Int),((wrap64 (x2 - (1:Int)):Int),())),((b0_0,(b0_1,())),()))))
      (Tr.stop))
    (Tr.fin (.brk ((x1,()),((b0_0,(b0_1,())),()))))
def s103_0 (d:sh103_0.data):Option (Out sh103_0.data shb103_0.data shr103_0.data):=(t103_0 d.1.1 d.1.2.1 d.2.1.1 d.2.1.2.1).val
def l103_0 (d:sh103_0.data):Option (shb103_0.data ⊕ shr103_0.data):=itr s103_0 rounds d
def b103_0 (d:sh103_0.data):shb103_0.data:=outB shb103_0.dflt (l103_0 d)
def lc103_0:LoopC:=lcB sh103_0 shb103_0 shr103_0 l103_0 b103_0
theorem wk103_0 (x1:Int) (x2:Int) (b0_0:Int) (b0_1:(List Int)):Walks (qau (kf155 Proofs.Tryz.prog).orc Proofs.Tryz.prog 400 103 0 sh103_0 shb103_0 shr103_0 ((x1,x2,()),(b0_0,b0_1,()),())) (t103_0 x1 x2 b0_0 b0_1) [(bl 2 3,[2,4]),(bl 1 0,[2])] :=
  ⟨by kernel_rfl,by kernel_rfl,trivial⟩
theorem ok103_0_t (x1:Int) (x2:Int) (b0_0:Int) (b0_1:(List Int)):TrOk (BodyRuns Proofs.Tryz.prog (kf155 Proofs.Tryz.prog).orc 103 0 sh103_0 shb103_0 shr103_0 ((x1,x2,()),(b0_0,b0_1,()),())) (t103_0 x1 x2 b0_0 b0_1) :=
  Walks.ok (fun _ _ _=>BodyRuns.of) (wk103_0 x1 x2 b0_0 b0_1) (by kernel_rfl)
theorem ok103_0:qav Proofs.Tryz.prog 103 0 lc103_0:=qar (sh:=sh103_0) (shB:=shb103_0) (shR:=shr103_0) kf155_ok.base (T:=fun (d:sh103_0.data)=>t103_0 d.1.1 d.1.2.1 d.2.1.1 d.2.1.2.1) (by kernel_rfl) rfl (fun (d:sh103_0.data)=>ok103_0_t d.1.1 d.1.2.1 d.2.1.1 d.2.1.2.1) (fun _=>rfl)
def kl103_0 (P:Go.Program):Known:=(kf155 P).loop 103 0 lc103_0
theorem kl103_0_ok:KnownOk Proofs.Tryz.prog (kl103_0 Proofs.Tryz.prog):=kf155_ok.loop ok103_0
abbrev as103:List Ty:=[(.pair (.int .i64) (.pair (.slice (.int .i64)) .unit))]
abbrev rs103:List Ty:=[(.int .i64),.bool]
def t103 (x0:Int) (x0':(List Int)):Tr (Tys.data rs103) :=
  Tr.test ((!leF (↑(List.length x0'):Int) (2:Int):Bool))
    (Tr.fin (((0:Int),(false,()))))
    (Tr.test (qbk (l103_0 (((0:Int),((wrap64 ((↑(List.length x0'):Int) - (1:Int)):Int),())),((x0,(x0',())),()))))
      (let r0:=b103_0 (((0:Int),((wrap64 ((↑(List.length x0'):Int) - (1:Int)):Int),())),((x0,(x0',())),()));
      Tr.fin (((wrap64 (r0.2.1.1 * r0.1.1):Int),((true:Bool),()))))
      (Tr.stop))
def f103 (d:Tys.data as103):Option (Tys.data rs103):=(t103 d.1.1 d.1.2.1).val
def g103 (d:Tys.data as103):Tys.data rs103:=(f103 d).getD (Tys.dflt rs103)
def p103:PureC:=pcOf as103 rs103 f103 g103
theorem wk103 (x0:Int) (x0':(List Int)):Walks (runPure (kl103_0 Proofs.Tryz.prog).orc Proofs.Tryz.prog 400 103 as103 rs103 ((x0,x0',()),())) (t103 x0 x0') [(bl 1 1,[2]),(bl 2 2,[1,2,4])] :=
  ⟨by kernel_rfl,by kernel_rfl,trivial⟩
theorem ok103_t (x0:Int) (x0':(List Int)):TrOk (PureRuns Proofs.Tryz.prog (kl103_0 Proofs.Tryz.prog).orc 103 as103 rs103 ((x0,x0',()),())) (t103 x0 x0') :=
  Walks.ok (fun _ _ _=>PureRuns.of) (wk103 x0 x0') (by kernel_rfl)
theorem ok103:PureOk Proofs.Tryz.prog 103 p103:=qab kl103_0_ok.base (T:=fun (d:Tys.data as103)=>t103 d.1.1 d.1.2.1) (by kernel_rfl) (fun (d:Tys.data as103)=>ok103_t d.1.1 d.1.2.1)
def kf103 (P:Go.Program):Known:=(kl103_0 P).func 103 p103
theorem kf103_ok:KnownOk Proofs.Tryz.prog (kf103 Proofs.Tryz.prog):=kl103_0_ok.func ok103
abbrev as104:List Ty:=[(.pair (.int .i64) (.pair (.int .i64) .unit))]
abbrev rs104:List Ty:=[.bool]
def t104 (x0:Int) (x0':Int):Tr (Tys.data rs104) :=
  Tr.test (Option.isSome (f20 (x0,((-1000000000:Int),((1000000000:Int),())))))
    (let r0:=g20 (x0,((-1000000000:Int),((1000000000:Int),())));
    Tr.test (r0.1)
      (Tr.test (Option.isSome (f20 (x0',((1:Int),((1000000000:Int),())))))
        (let r1:=g20 (x0',((1:Int),((1000000000:Int),())));
        Tr.fin ((r1.1,())))
        (Tr.stop))
      (Tr.fin (((false:Bool),()))))
    (Tr.stop)
def f104 (d:Tys.data as104):Option (Tys.data rs104):=(t104 d.1.1 d.1.2.1).val
def g104 (d:Tys.data as104):Tys.data rs104:=(f104 d).getD (Tys.dflt rs104)
def p104:PureC:=pcOf as104 rs104 f104 g104
theorem wk104 (x0:Int) (x0':Int):Walks (runPure (kf103 Proofs.Tryz.prog).orc Proofs.Tryz.prog 400 104 as104 rs104 ((x0,x0',()),())) (t104 x0 x0') [(bl 3 7,[4,2,4,4,4,6]),(bl 2 1,[2,2,2,2,4])] :=
  ⟨by kernel_rfl,by kernel_rfl,trivial⟩
theorem ok104_t (x0:Int) (x0':Int):TrOk (PureRuns Proofs.Tryz.prog (kf103 Proofs.Tryz.prog).orc 104 as104 rs104 ((x0,x0',()),())) (t104 x0 x0') :=
  Walks.ok (fun _ _ _=>PureRuns.of) (wk104 x0 x0') (by kernel_rfl)
theorem ok104:PureOk Proofs.Tryz.prog 104 p104:=qab kf103_ok.base (T:=fun (d:Tys.data as104)=>t104 d.1.1 d.1.2.1) (by kernel_rfl) (fun (d:Tys.data as104)=>ok104_t d.1.1 d.1.2.1)
def kf104 (P:Go.Program):Known:=(kf103 P).func 104 p104
theorem kf104_ok:KnownOk Proofs.Tryz.prog (kf104 Proofs.Tryz.prog):=kf103_ok.func ok104
abbrev as22:List Ty:=[(.pair (.pair (.int .i64) (.pair (.slice (.int .i64)) .unit)) (.pair (.pair (.int .i64) (.pair (.slice (.int .i64)) .unit)) .unit))]
abbrev rs22:List Ty:=[(.pair (.int .i64) (.pair (.int .i64) .unit)),.bool]
def t22 (x0_:Int) (x0_':(List Int)) (x0'_:Int) (x0'_':(List Int)):Tr (Tys.data rs22) :=
  Tr.test (Option.isSome (f103 ((x0_,(x0_',())),())))
    (Tr.test (Option.isSome (f103 ((x0'_,(x0'_',())),())))
      (let r0:=g103 ((x0_,(x0_',())),());
      Tr.test ((!r0.2.1:Bool))
        (Tr.fin ((((0:Int),((0:Int),())),((false:Bool),()))))
        (let r1:=g103 ((x0'_,(x0'_',())),());
        Tr.test ((!r1.2.1:Bool))
          (Tr.fin ((((0:Int),((0:Int),())),((false:Bool),()))))
          (Tr.test (Option.isSome (f104 ((r0.1,(r1.1,())),())))
            (let r2:=g104 ((r0.1,(r1.1,())),());
            Tr.test ((!r2.1:Bool))
              (Tr.fin ((((0:Int),((0:Int),())),((false:Bool),()))))
              (Tr.fin (((r0.1,(r1.1,())),((true:Bool),())))))
            (Tr.stop))))
      (Tr.stop))
    (Tr.stop)
def f22 (d:Tys.data as22):Option (Tys.data rs22):=(t22 d.1.1.1 d.1.1.2.1 d.1.2.1.1 d.1.2.1.2.1).val
def g22 (d:Tys.data as22):Tys.data rs22:=(f22 d).getD (Tys.dflt rs22)
def p22:PureC:=pcOf as22 rs22 f22 g22
theorem wk22 (x0_:Int) (x0_':(List Int)) (x0'_:Int) (x0'_':(List Int)):Walks (runPure (kf104 Proofs.Tryz.prog).orc Proofs.Tryz.prog 400 22 as22 rs22 (((x0_,x0_',()),(x0'_,x0'_',()),()),())) (t22 x0_ x0_' x0'_ x0'_') [(bl 3 7,[1,1,1,1,1,2,2,2,4,6]),(bl 4 11,[1,2,2,2,2,4,4,4,6,8]),(bl 6 51,[2,6,6,4,6,6,8,8,8,10,12]),(bl 6 19,[2,6,6,4,6,6,8,8,8,10,12])] :=
  ⟨by kernel_rfl,by kernel_rfl,by kernel_rfl,by kernel_rfl,trivial⟩
theorem ok22_t (x0_:Int) (x0_':(List Int)) (x0'_:Int) (x0'_':(List Int)):TrOk (PureRuns Proofs.Tryz.prog (kf104 Proofs.Tryz.prog).orc 22 as22 rs22 (((x0_,x0_',()),(x0'_,x0'_',()),()),())) (t22 x0_ x0_' x0'_ x0'_') :=
  Walks.ok (fun _ _ _=>PureRuns.of) (wk22 x0_ x0_' x0'_ x0'_') (by kernel_rfl)
theorem ok22:PureOk Proofs.Tryz.prog 22 p22:=qab kf104_ok.base (T:=fun (d:Tys.data as22)=>t22 d.1.1.1 d.1.1.2.1 d.1.2.1.1 d.1.2.1.2.1) (by kernel_rfl) (fun (d:Tys.data as22)=>ok22_t d.1.1.1 d.1.1.2.1 d.1.2.1.1 d.1.2.1.2.1)
def kf22 (P:Go.Program):Known:=(kf104 P).func 22 p22
theorem kf22_ok:KnownOk Proofs.Tryz.prog (kf22 Proofs.Tryz.prog):=kf104_ok.func ok22
abbrev as82:List Ty:=[(.pair (.int .i64) (.pair (.int .i64) (.pair (.int .i64) .unit))),(.int .i64),(.pair (.int .i64) (.pair (.int .i64) .unit)),(.int .i64)]
abbrev rs82:List Ty:=[.bool]
def t82 (x0:Int) (x0':Int) (x0'':Int) (x1:Int) (x2:Int) (x2':Int) (x3:Int):Tr (Tys.data rs82) :=
  Tr.test (Option.isSome (f154 (x1,())))
    (let r0:=g154 (x1,());
    Tr.test ((!eqF r0.1 0:Bool))
      (Tr.test ((eqF x3 r0.1:Bool))
        (Tr.fin (((x2 == (0:Int) && (x2' == (0:Int) && true):Bool),())))
        (Tr.fin (((false:Bool),()))))
      (Tr.test (Option.isSome (f155 ((x0,(x0',(x0'',()))),(x1,()))))
        (let r1:=g155 ((x0,(x0',(x0'',()))),(x1,()));
        Tr.test (Option.isSome (f22 (((r1.1.1.1,(r1.1.1.2.1,())),((r1.1.2.1.1,(r1.1.2.1.2.1,())),())),())))
          (let r2:=g22 (((r1.1.1.1,(r1.1.1.2.1,())),((r1.1.2.1.1,(r1.1.2.1.2.1,())),())),());
          Tr.test (r2.2.1)
            (Tr.test ((eqF x3 0:Bool))
              (Tr.fin (((x2 == r2.1.1 && (x2' == r2.1.2.1 && true):Bool),())))
              (Tr.fin (((false:Bool),()))))
            (Tr.fin (((false:Bool),()))))
          (Tr.stop))
        (Tr.stop)))
    (Tr.stop)
def f82 (d:Tys.data as82):Option (Tys.data rs82):=(t82 d.1.1 d.1.2.1 d.1.2.2.1 d.2.1 d.2.2.1.1 d.2.2.1.2.1 d.2.2.2.1).val
def g82 (d:Tys.data as82):Tys.data rs82:=(f82 d).getD (Tys.dflt rs82)
def p82:PureC:=pcOf as82 rs82 f82 g82
theorem wk82 (x0:Int) (x0':Int) (x0'':Int) (x1:Int) (x2:Int) (x2':Int) (x3:Int):Walks (runPure (kf22 Proofs.Tryz.prog).orc Proofs.Tryz.prog 400 82 as82 rs82 ((x0,x0',x0'',()),x1,(x2,x2',()),x3,())) (t82 x0 x0' x0'' x1 x2 x2' x3) [(bl 3 7,[2,2,2,2,4,6]),(bl 3 3,[2,2,2,2,4,6]),(bl 6 61,[2,2,2,2,4,4,4,6,8,10,12]),(bl 6 29,[2,2,2,2,4,4,4,6,8,10,12]),(bl 5 13,[0,0,0,0,2,2,2,4,6,8,10])] :=
  ⟨by kernel_rfl,by kernel_rfl,by kernel_rfl,by kernel_rfl,by kernel_rfl,trivial⟩
theorem ok82_t (x0:Int) (x0':Int) (x0'':Int) (x1:Int) (x2:Int) (x2':Int) (x3:Int):TrOk (PureRuns Proofs.Tryz.prog (kf22 Proofs.Tryz.prog).orc 82 as82 rs82 ((x0,x0',x0'',()),x1,(x2,x2',()),x3,())) (t82 x0 x0' x0'' x1 x2 x2' x3) :=
  Walks.ok (fun _ _ _=>PureRuns.of) (wk82 x0 x0' x0'' x1 x2 x2' x3) (by kernel_rfl)
theorem ok82:PureOk Proofs.Tryz.prog 82 p82:=qab kf22_ok.base (T:=fun (d:Tys.data as82)=>t82 d.1.1 d.1.2.1 d.1.2.2.1 d.2.1 d.2.2.1.1 d.2.2.1.2.1 d.2.2.2.1) (by kernel_rfl) (fun (d:Tys.data as82)=>ok82_t d.1.1 d.1.2.1 d.1.2.2.1 d.2.1 d.2.2.1.1 d.2.2.1.2.1 d.2.2.2.1)
def kf82 (P:Go.Program):Known:=(kf22 P).func 82 p82
theorem kf82_ok:KnownOk Proofs.Tryz.prog (kf82 Proofs.Tryz.prog):=kf22_ok.func ok82
abbrev as83:List Ty:=[(.pair (.int .i64) (.pair (.int .i64) .unit)),(.pair (.int .i64) (.pair (.int .i64) .unit))]
abbrev rs83:List Ty:=[(.int .i64)]
def t83 (x0:Int) (x0':Int) (x1:Int) (x1':Int):Tr (Tys.data rs83) :=
  Tr.test (Option.isSome (f154 (x0,())))
    (let r0:=g154 (x0,());
    Tr.test ((!eqF r0.1 0:Bool))
      (Tr.fin (((2:Int),())))
      (Tr.test (Option.isSome (f154 (x0',())))
        (let r1:=g154 (x0',());
        Tr.test ((!eqF r1.1 0:Bool))
          (Tr.fin (((2:Int),())))
          (Tr.test ((!leF x0 x0':Bool))
            (Tr.fin (((9:Int),())))
            (Tr.test (Option.isSome (f20 (x1,((0:Int),((1000000000:Int),())))))
              (let r2:=g20 (x1,((0:Int),((1000000000:Int),())));
              Tr.test ((!r2.1:Bool))
                (Tr.fin (((2:Int),())))
                (Tr.test (Option.isSome (f20 (x1',((0:Int),((1000000000:Int),())))))
                  (let r3:=g20 (x1',((0:Int),((1000000000:Int),())));
                  Tr.test ((!r3.1:Bool))
                    (Tr.fin (((2:Int),())))
                    (Tr.test ((!leF x1 x1':Bool))
                      (Tr.fin (((9:Int),())))
                      (Tr.fin (((0:Int),())))))
                  (Tr.stop)))
              (Tr.stop))))
        (Tr.stop)))
    (Tr.stop)
def f83 (d:Tys.data as83):Option (Tys.data rs83):=(t83 d.1.1 d.1.2.1 d.2.1.1 d.2.1.2.1).val
def g83 (d:Tys.data as83):Tys.data rs83:=(f83 d).getD (Tys.dflt rs83)
def p83:PureC:=pcOf as83 rs83 f83 g83
theorem wk83 (x0:Int) (x0':Int) (x1:Int) (x1':Int):Walks (runPure (kf82 Proofs.Tryz.prog).orc Proofs.Tryz.prog 400 83 as83 rs83 ((x0,x0',()),(x1,x1',()),())) (t83 x0 x0' x1 x1') [(bl 2 3,[1,2,2,2,2,2,4]),(bl 4 13,[2,6,6,4,6,6,6,8]),(bl 5 21,[2,4,8,8,6,8,8,8,10]),(bl 7 101,[1,2,2,2,2,2,4,6,8,12,12,10,12,12,12,14]),(bl 9 421,[2,6,6,4,6,6,6,8,10,12,16,16,14,16,16,16,18]),(bl 10 677,[2,4,8,8,6,8,8,8,10,12,14,18,18,16,18,18,18,20]),(bl 10 165,[2,4,8,8,6,8,8,8,10,12,14,18,18,16,18,18,18,20])] :=
  ⟨by kernel_rfl,by kernel_rfl,by kernel_rfl,by kernel_rfl,by kernel_rfl,by kernel_rfl,by kernel_rfl,trivial⟩
theorem ok83_t (x0:Int) (x0':Int) (x1:Int) (x1':Int):TrOk (PureRuns Proofs.Tryz.prog (kf82 Proofs.Tryz.prog).orc 83 as83 rs83 ((x0,x0',()),(x1,x1',()),())) (t83 x0 x0' x1 x1') :=
  Walks.ok (fun _ _ _=>PureRuns.of) (wk83 x0 x0' x1 x1') (by kernel_rfl)
theorem ok83:PureOk Proofs.Tryz.prog 83 p83:=qab kf82_ok.base (T:=fun (d:Tys.data as83)=>t83 d.1.1 d.1.2.1 d.2.1.1 d.2.1.2.1) (by kernel_rfl) (fun (d:Tys.data as83)=>ok83_t d.1.1 d.1.2.1 d.2.1.1 d.2.1.2.1)
def kf83 (P:Go.Program):Known:=(kf82 P).func 83 p83
theorem kf83_ok:KnownOk Proofs.Tryz.prog (kf83 Proofs.Tryz.prog):=kf82_ok.func ok83
abbrev as106:List Ty:=[(.int .i64)]
abbrev rs106:List Ty:=[(.pair (.pair (.int .i64) (.pair (.slice (.int .i64)) .unit)) (.pair (.pair (.int .i64) (.pair (.slice (.int .i64)) .unit)) .unit))]
def t106 (x0:Int):Tr (Tys.data rs106) :=
  Tr.test (Option.isSome (f164 (x0,())))
    (Tr.test (Option.isSome (f164 ((1:Int),())))
      (let r0:=g164 (x0,());
      let r1:=g164 ((1:Int),());
      Tr.fin ((((r0.1.1,(r0.1.2.1,())),((r1.1.1,(r1.1.2.1,())),())),())))
      (Tr.stop))
    (Tr.stop)
def f106 (d:Tys.data as106):Option (Tys.data rs106):=(t106 d.1).val
def g106 (d:Tys.data as106):Tys.data rs106:=(f106 d).getD (Tys.dflt rs106)
def p106:PureC:=pcOf as106 rs106 f106 g106
theorem wk106 (x0:Int):Walks (runPure (kf83 Proofs.Tryz.prog).orc Proofs.Tryz.prog 400 106 as106 rs106 (x0,())) (t106 x0) [(bl 2 3,[2,4])] :=
  ⟨by kernel_rfl,trivial⟩
theorem ok106_t (x0:Int):TrOk (PureRuns Proofs.Tryz.prog (kf83 Proofs.Tryz.prog).orc 106 as106 rs106 (x0,())) (t106 x0) :=
  Walks.ok (fun _ _ _=>PureRuns.of) (wk106 x0) (by kernel_rfl)
theorem ok106:PureOk Proofs.Tryz.prog 106 p106:=qab kf83_ok.base (T:=fun (d:Tys.data as106)=>t106 d.1) (by kernel_rfl) (fun (d:Tys.data as106)=>ok106_t d.1)
def kf106 (P:Go.Program):Known:=(kf83 P).func 106 p106
theorem kf106_ok:KnownOk Proofs.Tryz.prog (kf106 Proofs.Tryz.prog):=kf83_ok.func ok106
abbrev as108:List Ty:=[(.pair (.pair (.int .i64) (.pair (.slice (.int .i64)) .unit)) (.pair (.pair (.int .i64) (.pair (.slice (.int .i64)) .unit)) .unit)),(.pair (.pair (.int .i64) (.pair (.slice (.int .i64)) .unit)) (.pair (.pair (.int .i64) (.pair (.slice (.int .i64)) .unit)) .unit))]
abbrev rs108:List Ty:=[(.int .i64)]
def t108 (x0_:Int) (x0_':(List Int)) (x0'_:Int) (x0'_':(List Int)) (x1_:Int) (x1_':(List Int)) (x1'_:Int) (x1'_':(List Int)):Tr (Tys.data rs108) :=
  Tr.test (Option.isSome (f167 ((x0_,(x0_',())),((x1'_,(x1'_',())),()))))
    (Tr.test (Option.isSome (f167 ((x1_,(x1_',())),((x0'_,(x0'_',())),()))))
      (let r0:=g167 ((x0_,(x0_',())),((x1'_,(x1'_',())),()));
      let r1:=g167 ((x1_,(x1_',())),((x0'_,(x0'_',())),()));
      Tr.test (Option.isSome (f166 ((r0.1.1,(r0.1.2.1,())),((r1.1.1,(r1.1.2.1,())),()))))
        (let r2:=g166 ((r0.1.1,(r0.1.2.1,())),((r1.1.1,(r1.1.2.1,())),()));
        Tr.fin ((r2.1,())))
        (Tr.stop))
      (Tr.stop))
    (Tr.stop)
def f108 (d:Tys.data as108):Option (Tys.data rs108):=(t108 d.1.1.1 d.1.1.2.1 d.1.2.1.1 d.1.2.1.2.1 d.2.1.1.1 d.2.1.1.2.1 d.2.1.2.1.1 d.2.1.2.1.2.1).val
def g108 (d:Tys.data as108):Tys.data rs108:=(f108 d).getD (Tys.dflt rs108)
def p108:PureC:=pcOf as108 rs108 f108 g108
theorem wk108 (x0_:Int) (x0_':(List Int)) (x0'_:Int) (x0'_':(List Int)) (x1_:Int) (x1_':(List Int)) (x1'_:Int) (x1'_':(List Int)):Walks (runPure (kf106 Proofs.Tryz.prog).orc Proofs.Tryz.prog 400 108 as108 rs108 (((x0_,x0_',()),(x0'_,x0'_',()),()),((x1_,x1_',()),(x1'_,x1'_',()),()),())) (t108 x0_ x0_' x0'_ x0'_' x1_ x1_' x1'_ x1'_') [(bl 3 7,[2,4,6])] :=
  ⟨by kernel_rfl,trivial⟩
theorem ok108_t (x0_:Int) (x0_':(List Int)) (x0'_:Int) (x0'_':(List Int)) (x1_:Int) (x1_':(List Int)) (x1'_:Int) (x1'_':(List Int)):TrOk (PureRuns Proofs.Tryz.prog (kf106 Proofs.Tryz.prog).orc 108 as108 rs108 (((x0_,x0_',()),(x0'_,x0'_',()),()),((x1_,x1_',()),(x1'_,x1'_',()),()),())) (t108 x0_ x0_' x0'_ x0'_' x1_ x1_' x1'_ x1'_') :=
  Walks.ok (fun _ _ _=>PureRuns.of) (wk108 x0_ x0_' x0'_ x0'_' x1_ x1_' x1'_ x1'_') (by kernel_rfl)
theorem ok108:PureOk Proofs.Tryz.prog 108 p108:=qab kf106_ok.base (T:=fun (d:Tys.data as108)=>t108 d.1.1.1 d.1.1.2.1 d.1.2.1.1 d.1.2.1.2.1 d.2.1.1.1 d.2.1.1.2.1 d.2.1.2.1.1 d.2.1.2.1.2.1) (by kernel_rfl) (fun (d:Tys.data as108)=>ok108_t d.1.1.1 d.1.1.2.1 d.1.2.1.1 d.1.2.1.2.1 d.2.1.1.1 d.2.1.1.2.1 d.2.1.2.1.1 d.2.1.2.1.2.1)
def kf108 (P:Go.Program):Known:=(kf106 P).func 108 p108
theorem kf108_ok:KnownOk Proofs.Tryz.prog (kf108 Proofs.Tryz.prog):=kf106_ok.func ok108
abbrev as84:List Ty:=[(.pair (.int .i64) (.pair (.int .i64) (.pair (.int .i64) .unit))),(.pair (.int .i64) (.pair (.int .i64) .unit)),(.pair (.int .i64) (.pair (.int .i64) .unit))]
abbrev rs84:List Ty:=[(.int .i64)]
def t84 (x0:Int) (x0':Int) (x0'':Int) (x1:Int) (x1':Int) (x2:Int) (x2':Int):Tr (Tys.data rs84) :=
  Tr.test (Option.isSome (f155 ((x0,(x0',(x0'',()))),(x1',()))))
    (Tr.test (Option.isSome (f155 ((x0,(x0',(x0'',()))),(x1,()))))
      (Tr.test (Option.isSome (f106 (x2,())))
        (Tr.test (Option.isSome (f106 (x2',())))
          (let r1:=g155 ((x0,(x0',(x0'',()))),(x1,()));
          let r2:=g106 (x2,());
          Tr.test (Option.isSome (f108 (((r1.1.1.1,(r1.1.1.2.1,())),((r1.1.2.1.1,(r1.1.2.1.2.1,())),())),(((r2.1.1.1,(r2.1.1.2.1,())),((r2.1.2.1.1,(r2.1.2.1.2.1,())),())),()))))
            (let r4:=g108 (((r1.1.1.1,(r1.1.1.2.1,())),((r1.1.2.1.1,(r1.1.2.1.2.1,())),())),(((r2.1.1.1,(r2.1.1.2.1,())),((r2.1.2.1.1,(r2.1.2.1.2.1,())),())),()));
            Tr.test ((!leF (0:Int) r4.1:Bool))
              (Tr.fin (((2:Int),())))
              (let r0:=g155 ((x0,(x0',(x0'',()))),(x1',()));
              let r3:=g106 (x2',());
              Tr.test (Option.isSome (f108 (((r0.1.1.1,(r0.1.1.2.1,())),((r0.1.2.1.1,(r0.1.2.1.2.1,())),())),(((r3.1.1.1,(r3.1.1.2.1,())),((r3.1.2.1.1,(r3.1.2.1.2.1,())),())),()))))
                (let r5:=g108 (((r0.1.1.1,(r0.1.1.2.1,())),((r0.1.2.1.1,(r0.1.2.1.2.1,())),())),(((r3.1.1.1,(r3.1.1.2.1,())),((r3.1.2.1.1,(r3.1.2.1.2.1,())),())),()));
                Tr.test ((!leF r5.1 0:Bool))
                  (Tr.fin (((2:Int),())))
                  (Tr.test (Option.isSome (f108 (((r0.1.1.1,(r0.1.1.2.1,())),((r0.1.2.1.1,(r0.1.2.1.2.1,())),())),(((r2.1.1.1,(r2.1.1.2.1,())),((r2.1.2.1.1,(r2.1.2.1.2.1,())),())),()))))
                    (let r6:=g108 (((r0.1.1.1,(r0.1.1.2.1,())),((r0.1.2.1.1,(r0.1.2.1.2.1,())),())),(((r2.1.1.1,(r2.1.1.2.1,())),((r2.1.2.1.1,(r2.1.2.1.2.1,())),())),()));
                    Tr.test ((leF (0:Int) r6.1:Bool))
                      (Tr.test (Option.isSome (f108 (((r1.1.1.1,(r1.1.1.2.1,())),((r1.1.2.1.1,(r1.1.2.1.2.1,())),())),(((r3.1.1.1,(r3.1.1.2.1,())),((r3.1.2.1.1,(r3.1.2.1.2.1,())),())),()))))
                        (let r7:=g108 (((r1.1.1.1,(r1.1.1.2.1,())),((r1.1.2.1.1,(r1.1.2.1.2.1,())),())),(((r3.1.1.1,(r3.1.1.2.1,())),((r3.1.2.1.1,(r3.1.2.1.2.1,())),())),()));
                        Tr.test ((leF r7.1 0:Bool))
                          (Tr.fin (((0:Int),())))
                          (Tr.fin (((1:Int),()))))
                        (Tr.stop))
                      (Tr.fin (((1:Int),()))))
                    (Tr.stop)))
                (Tr.stop)))
            (Tr.stop))
          (Tr.stop))
        (Tr.stop))
      (Tr.stop))
    (Tr.stop)
def f84 (d:Tys.data as84):Option (Tys.data rs84):=(t84 d.1.1 d.1.2.1 d.1.2.2.1 d.2.1.1 d.2.1.2.1 d.2.2.1.1 d.2.2.1.2.1).val
def g84 (d:Tys.data as84):Tys.data rs84:=(f84 d).getD (Tys.dflt rs84)
def p84:PureC:=pcOf as84 rs84 f84 g84
theorem wk84 (x0:Int) (x0':Int) (x0'':Int) (x1:Int) (x1':Int) (x2:Int) (x2':Int):Walks (runPure (kf108 Proofs.Tryz.prog).orc Proofs.Tryz.prog 400 84 as84 rs84 ((x0,x0',x0'',()),(x1,x1',()),(x2,x2',()),())) (t84 x0 x0' x0'' x1 x1' x2 x2') [(bl 6 63,[1,2,2,2,2,2,4,6,8,10,12]),(bl 8 223,[2,6,6,4,6,6,6,8,10,12,14,16]),(bl 12 3935,[2,6,6,4,6,6,6,8,10,14,14,12,14,14,14,16,18,20,22,24]),(bl 12 1887,[2,6,6,4,6,6,6,8,10,14,14,12,14,14,14,16,18,20,22,24]),(bl 10 351,[0,2,2,2,2,2,4,6,10,10,8,10,10,10,12,14,16,18,20])] :=
  ⟨by kernel_rfl,by kernel_rfl,by kernel_rfl,by kernel_rfl,by kernel_rfl,trivial⟩
theorem ok84_t (x0:Int) (x0':Int) (x0'':Int) (x1:Int) (x1':Int) (x2:Int) (x2':Int):TrOk (PureRuns Proofs.Tryz.prog (kf108 Proofs.Tryz.prog).orc 84 as84 rs84 ((x0,x0',x0'',()),(x1,x1',()),(x2,x2',()),())) (t84 x0 x0' x0'' x1 x1' x2 x2') :=
  Walks.ok (fun _ _ _=>PureRuns.of) (wk84 x0 x0' x0'' x1 x1' x2 x2') (by kernel_rfl)
theorem ok84:PureOk Proofs.Tryz.prog 84 p84:=qab kf108_ok.base (T:=fun (d:Tys.data as84)=>t84 d.1.1 d.1.2.1 d.1.2.2.1 d.2.1.1 d.2.1.2.1 d.2.2.1.1 d.2.2.1.2.1) (by kernel_rfl) (fun (d:Tys.data as84)=>ok84_t d.1.1 d.1.2.1 d.1.2.2.1 d.2.1.1 d.2.1.2.1 d.2.2.1.1 d.2.2.1.2.1)
def kf84 (P:Go.Program):Known:=(kf108 P).func 84 p84
theorem kf84_ok:KnownOk Proofs.Tryz.prog (kf84 Proofs.Tryz.prog):=kf108_ok.func ok84
abbrev as24:List Ty:=[(.pair (.int .i64) (.pair (.int .i64) .unit)),(.pair (.int .i64) (.pair (.int .i64) .unit))]
abbrev rs24:List Ty:=[(.int .i64)]
def t24 (x0:Int) (x0':Int) (x1:Int) (x1':Int):Tr (Tys.data rs24) :=
  Tr.test ((!leF (wrap64 (x1 * x0')) (wrap64 (x0 * x1')):Bool))
    (Tr.fin (((-1:Int),())))
    (Tr.test (!leF (wrap64 (x0 * x1')) (wrap64 (x1 * x0')))
      (Tr.fin (((1:Int),())))
      (Tr.fin (((0:Int),()))))
def f24 (d:Tys.data as24):Option (Tys.data rs24):=(t24 d.1.1 d.1.2.1 d.2.1.1 d.2.1.2.1).val
def g24 (d:Tys.data as24):Tys.data rs24:=(f24 d).getD (Tys.dflt rs24)
def p24:PureC:=pcOf as24 rs24 f24 g24
theorem wk24 (x0:Int) (x0':Int) (x1:Int) (x1':Int):Walks (runPure (kf84 Proofs.Tryz.prog).orc Proofs.Tryz.prog 400 24 as24 rs24 ((x0,x0',()),(x1,x1',()),())) (t24 x0 x0' x1 x1') [(bl 1 1,[2]),(bl 2 2,[2,4]),(bl 2 0,[2,4])] :=
  ⟨by kernel_rfl,by kernel_rfl,by kernel_rfl,trivial⟩
theorem ok24_t (x0:Int) (x0':Int) (x1:Int) (x1':Int):TrOk (PureRuns Proofs.Tryz.prog (kf84 Proofs.Tryz.prog).orc 24 as24 rs24 ((x0,x0',()),(x1,x1',()),())) (t24 x0 x0' x1 x1') :=
  Walks.ok (fun _ _ _=>PureRuns.of) (wk24 x0 x0' x1 x1') (by kernel_rfl)
theorem ok24:PureOk Proofs.Tryz.prog 24 p24:=qab kf84_ok.base (T:=fun (d:Tys.data as24)=>t24 d.1.1 d.1.2.1 d.2.1.1 d.2.1.2.1) (by kernel_rfl) (fun (d:Tys.data as24)=>ok24_t d.1.1 d.1.2.1 d.2.1.1 d.2.1.2.1)
def kf24 (P:Go.Program):Known:=(kf84 P).func 24 p24
theorem kf24_ok:KnownOk Proofs.Tryz.prog (kf24 Proofs.Tryz.prog):=kf84_ok.func ok24
abbrev as27:List Ty:=[(.int .i64)]
abbrev rs27:List Ty:=[(.pair (.int .i64) (.pair (.int .i64) .unit))]
def t27 (x0:Int):Tr (Tys.data rs27) :=
  Tr.fin (((x0,((1:Int),())),()))
def f27 (d:Tys.data as27):Option (Tys.data rs27):=(t27 d.1).val
def g27 (d:Tys.data as27):Tys.data rs27:=(f27 d).getD (Tys.dflt rs27)
def p27:PureC:=pcOf as27 rs27 f27 g27
theorem wk27 (x0:Int):Walks (runPure (kf24 Proofs.Tryz.prog).orc Proofs.Tryz.prog 400 27 as27 rs27 (x0,())) (t27 x0) [(bl 0 0,[])] :=
  ⟨by kernel_rfl,trivial⟩
theorem ok27_t (x0:Int):TrOk (PureRuns Proofs.Tryz.prog (kf24 Proofs.Tryz.prog).orc 27 as27 rs27 (x0,())) (t27 x0) :=
  Walks.ok (fun _ _ _=>PureRuns.of) (wk27 x0) (by kernel_rfl)
theorem ok27:PureOk Proofs.Tryz.prog 27 p27:=qab kf24_ok.base (T:=fun (d:Tys.data as27)=>t27 d.1) (by kernel_rfl) (fun (d:Tys.data as27)=>ok27_t d.1)
def kf27 (P:Go.Program):Known:=(kf24 P).func 27 p27
theorem kf27_ok:KnownOk Proofs.Tryz.prog (kf27 Proofs.Tryz.prog):=kf24_ok.func ok27
abbrev as12:List Ty:=[(.pair (.int .i64) (.pair (.int .i64) (.pair (.int .i64) .unit))),(.pair (.int .i64) (.pair (.int .i64) .unit)),(.pair (.int .i64) (.pair (.int .i64) .unit))]
abbrev rs12:List Ty:=[.bool]
def t12 (x0:Int) (x0':Int) (x0'':Int) (x1:Int) (x1':Int) (x2:Int) (x2':Int):Tr (Tys.data rs12) :=
  Tr.test (Option.isSome (f79 ((x0,(x0',(x0'',()))),(x1,()))))
    (Tr.test (Option.isSome (f79 ((x0,(x0',(x0'',()))),(x1',()))))
      (Tr.test (Option.isSome (f80 ((x0,(x0',(x0'',()))),((x1,(x1',())),((x2,(x2',())),())))))
        (Tr.test (Option.isSome (f81 ((x0,(x0',(x0'',()))),())))
          (let r3:=g81 ((x0,(x0',(x0'',()))),());
          Tr.test ((!eqF r3.1 0:Bool))
            (let r0:=g79 ((x0,(x0',(x0'',()))),(x1,()));
            Tr.test ((eqF r0.2.1 r3.1:Bool))
              (let r1:=g79 ((x0,(x0',(x0'',()))),(x1',()));
              Tr.test ((eqF r1.2.1 r3.1:Bool))
                (let r2:=g80 ((x0,(x0',(x0'',()))),((x1,(x1',())),((x2,(x2',())),())));
                Tr.test ((eqF r2.2.1 r3.1:Bool))
                  (Tr.test ((r0.1.1 == (0:Int) && (r0.1.2.1 == (0:Int) && true):Bool))
                    (Tr.test ((r1.1.1 == (0:Int) && (r1.1.2.1 == (0:Int) && true):Bool))
                      (Tr.fin (((eqF r2.1 0:Bool),())))
                      (Tr.fin (((false:Bool),()))))
                    (Tr.fin (((false:Bool),()))))
                  (Tr.fin (((false:Bool),()))))
                (Tr.fin (((false:Bool),()))))
              (Tr.fin (((false:Bool),()))))
            (let r0:=g79 ((x0,(x0',(x0'',()))),(x1,()));
            Tr.test (Option.isSome (f82 ((x0,(x0',(x0'',()))),(x1,((r0.1.1,(r0.1.2.1,())),(r0.2.1,()))))))
              (let r4:=g82 ((x0,(x0',(x0'',()))),(x1,((r0.1.1,(r0.1.2.1,())),(r0.2.1,()))));
              Tr.test ((!r4.1:Bool))
                (Tr.fin (((false:Bool),())))
                (let r1:=g79 ((x0,(x0',(x0'',()))),(x1',()));
                Tr.test (Option.isSome (f82 ((x0,(x0',(x0'',()))),(x1',((r1.1.1,(r1.1.2.1,())),(r1.2.1,()))))))
                  (let r5:=g82 ((x0,(x0',(x0'',()))),(x1',((r1.1.1,(r1.1.2.1,())),(r1.2.1,()))));
                  Tr.test ((!r5.1:Bool))
                    (Tr.fin (((false:Bool),())))
                    (Tr.test (Option.isSome (f83 ((x1,(x1',())),((x2,(x2',())),()))))
                      (let r6:=g83 ((x1,(x1',())),((x2,(x2',())),()));
                      Tr.test ((!eqF r6.1 0:Bool))
                        (let r2:=g80 ((x0,(x0',(x0'',()))),((x1,(x1',())),((x2,(x2',())),())));
                        Tr.test ((eqF r2.2.1 r6.1:Bool))
                          (Tr.fin (((eqF r2.1 0:Bool),())))
                          (Tr.fin (((false:Bool),()))))
                        (let r2:=g80 ((x0,(x0',(x0'',()))),((x1,(x1',())),((x2,(x2',())),())));
                        Tr.test ((!eqF r2.2.1 0:Bool))
                          (Tr.fin (((false:Bool),())))
                          (Tr.test (Option.isSome (f84 ((x0,(x0',(x0'',()))),((x1,(x1',())),((x2,(x2',())),())))))
                            (let r7:=g84 ((x0,(x0',(x0'',()))),((x1,(x1',())),((x2,(x2',())),())));
                            Tr.test ((!eqF r2.1 r7.1:Bool))
                              (Tr.fin (((false:Bool),())))
                              (Tr.test (Option.isSome (f24 ((r0.1.1,(r0.1.2.1,())),((r1.1.1,(r1.1.2.1,())),()))))
                                (let r8:=g24 ((r0.1.1,(r0.1.2.1,())),((r1.1.1,(r1.1.2.1,())),()));
                                Tr.test ((!leF (0:Int) r8.1:Bool))
                                  (Tr.fin (((false:Bool),())))
                                  (Tr.test ((!leF x1' x1:Bool))
                                    (Tr.test ((eqF r8.1 0:Bool))
                                      (Tr.fin (((false:Bool),())))
                                      (Tr.test (Option.isSome (f27 (x2,())))
                                        (Tr.test (Option.isSome (f27 (x2',())))
                                          (let r9:=g27 (x2,());
                                          Tr.test (Option.isSome (f24 ((r0.1.1,(r0.1.2.1,())),((r9.1.1,(r9.1.2.1,())),()))))
                                            (let r11:=g24 ((r0.1.1,(r0.1.2.1,())),((r9.1.1,(r9.1.2.1,())),()));
                                            Tr.test ((leF (0:Int) r11.1:Bool))
                                              (let r10:=g27 (x2',());
                                              Tr.test (Option.isSome (f24 ((r0.1.1,(r0.1.2.1,())),((r10.1.1,(r10.1.2.1,())),()))))
                                                (Tr.test (Option.isSome (f24 ((r1.1.1,(r1.1.2.1,())),((r9.1.1,(r9.1.2.1,())),()))))
                                                  (let r13:=g24 ((r1.1.1,(r1.1.2.1,())),((r9.1.1,(r9.1.2.1,())),()));
                                                  Tr.test ((leF (0:Int) r13.1:Bool))
                                                    (Tr.test (Option.isSome (f24 ((r1.1.1,(r1.1.2.1,())),((r10.1.1,(r10.1.2.1,())),()))))
                                                      (Tr.test ((!eqF r2.1 2:Bool))
                                                        (Tr.test ((!eqF r2.1 0:Bool))
                                                          (Tr.fin (((true:Bool),())))
                                                          (let r12:=g24 ((r0.1.1,(r0.1.2.1,())),((r10.1.1,(r10.1.2.1,())),()));
                                                          Tr.test ((leF r12.1 0:Bool))
                                                            (let r14:=g24 ((r1.1.1,(r1.1.2.1,())),((r10.1.1,(r10.1.2.1,())),()));
                                                            Tr.fin (((leF r14.1 0:Bool),())))
                                                            (Tr.fin (((false:Bool),())))))
                                                        (let r12:=g24 ((r0.1.1,(r0.1.2.1,())),((r10.1.1,(r10.1.2.1,())),()));
                                                        Tr.test ((leF r12.1 0:Bool))
                                                          (Tr.fin (((false:Bool),())))
                                                          (let r14:=g24 ((r1.1.1,(r1.1.2.1,())),((r10.1.1,(r10.1.2.1,())),()));
                                                          Tr.test ((!leF r14.1 0:Bool))
                                                            (Tr.test ((!eqF r2.1 0:Bool))
                                                              (Tr.fin (((true:Bool),())))
                                                              (Tr.fin (((false:Bool),()))))
                                                            (Tr.fin (((false:Bool),()))))))
                                                      (Tr.stop))
                                                    (Tr.test ((!eqF r2.1 2:Bool))
                                                      (Tr.test ((!eqF r2.1 0:Bool))
                                                        (Tr.fin (((true:Bool),())))
                                                        (let r12:=g24 ((r0.1.1,(r0.1.2.1,())),((r10.1.1,(r10.1.2.1,())),()));
                                                        Tr.test ((leF r12.1 0:Bool))
                                                          (Tr.fin (((false:Bool),())))
                                                          (Tr.fin (((false:Bool),())))))
                                                      (let r12:=g24 ((r0.1.1,(r0.1.2.1,())),((r10.1.1,(r10.1.2.1,())),()));
                                                      Tr.test ((leF r12.1 0:Bool))
                                                        (Tr.fin (((false:Bool),())))
                                                        (Tr.test ((!eqF r2.1 0:Bool))
                                                          (Tr.fin (((true:Bool),())))
                                                          (Tr.fin (((false:Bool),())))))))
                                                  (Tr.stop))
                                                (Tr.stop))
                                              (Tr.test (Option.isSome (f24 ((r1.1.1,(r1.1.2.1,())),((r9.1.1,(r9.1.2.1,())),()))))
                                                (let r13:=g24 ((r1.1.1,(r1.1.2.1,())),((r9.1.1,(r9.1.2.1,())),()));
                                                Tr.test ((leF (0:Int) r13.1:Bool))
                                                  (let r10:=g27 (x2',());
                                                  Tr.test (Option.isSome (f24 ((r1.1.1,(r1.1.2.1,())),((r10.1.1,(r10.1.2.1,())),()))))
                                                    (Tr.test ((!eqF r2.1 2:Bool))
                                                      (Tr.test ((!eqF r2.1 0:Bool))
                                                        (Tr.fin (((true:Bool),())))
                                                        (Tr.fin (((false:Bool),()))))
                                                      (let r14:=g24 ((r1.1.1,(r1.1.2.1,())),((r10.1.1,(r10.1.2.1,())),()));
                                                      Tr.test ((!leF r14.1 0:Bool))
                                                        (Tr.test ((!eqF r2.1 0:Bool))
                                                          (Tr.fin (((true:Bool),())))
                                                          (Tr.fin (((false:Bool),()))))
                                                        (Tr.fin (((false:Bool),())))))
                                                    (Tr.stop))
                                                  (Tr.test ((!eqF r2.1 2:Bool))
                                                    (Tr.test ((!eqF r2.1 0:Bool))
                                                      (Tr.fin (((true:Bool),())))
                                                      (Tr.fin (((false:Bool),()))))
                                                    (Tr.test ((!eqF r2.1 0:Bool))
                                                      (Tr.fin (((true:Bool),())))
                                                      (Tr.fin (((false:Bool),()))))))
                                                (Tr.stop)))
                                            (Tr.stop))
                                          (Tr.stop))
                                        (Tr.stop)))
                                    (Tr.test (Option.isSome (f27 (x2,())))
                                      (Tr.test (Option.isSome (f27 (x2',())))
                                        (let r9:=g27 (x2,());
                                        Tr.test (Option.isSome (f24 ((r0.1.1,(r0.1.2.1,())),((r9.1.1,(r9.1.2.1,())),()))))
                                          (let r11:=g24 ((r0.1.1,(r0.1.2.1,())),((r9.1.1,(r9.1.2.1,())),()));
                                          Tr.test ((leF (0:Int) r11.1:Bool))
                                            (let r10:=g27 (x2',());
                                            Tr.test (Option.isSome (f24 ((r0.1.1,(r0.1.2.1,())),((r10.1.1,(r10.1.2.1,())),()))))
                                              (Tr.test (Option.isSome (f24 ((r1.1.1,(r1.1.2.1,())),((r9.1.1,(r9.1.2.1,())),()))))
                                                (let r13:=g24 ((r1.1.1,(r1.1.2.1,())),((r9.1.1,(r9.1.2.1,())),()));
                                                Tr.test ((leF (0:Int) r13.1:Bool))
                                                  (Tr.test (Option.isSome (f24 ((r1.1.1,(r1.1.2.1,())),((r10.1.1,(r10.1.2.1,())),()))))
                                                    (Tr.test ((!eqF r2.1 2:Bool))
                                                      (Tr.test ((!eqF r2.1 0:Bool))
                                                        (Tr.fin (((true:Bool),())))
                                                        (let r12:=g24 ((r0.1.1,(r0.1.2.1,())),((r10.1.1,(r10.1.2.1,())),()));
                                                        Tr.test ((leF r12.1 0:Bool))
                                                          (let r14:=g24 ((r1.1.1,(r1.1.2.1,())),((r10.1.1,(r10.1.2.1,())),()));
                                                          Tr.fin (((leF r14.1 0:Bool),())))
                                                          (Tr.fin (((false:Bool),())))))
                                                      (let r12:=g24 ((r0.1.1,(r0.1.2.1,())),((r10.1.1,(r10.1.2.1,())),()));
                                                      Tr.test ((leF r12.1 0:Bool))
                                                        (Tr.fin (((false:Bool),())))
                                                        (let r14:=g24 ((r1.1.1,(r1.1.2.1,())),((r10.1.1,(r10.1.2.1,())),()));
                                                        Tr.test ((!leF r14.1 0:Bool))
                                                          (Tr.test ((!eqF r2.1 0:Bool))
                                                            (Tr.fin (((true:Bool),())))
                                                            (Tr.fin (((false:Bool),()))))
                                                          (Tr.fin (((false:Bool),()))))))
                                                    (Tr.stop))
                                                  (Tr.test ((!eqF r2.1 2:Bool))
                                                    (Tr.test ((!eqF r2.1 0:Bool))
                                                      (Tr.fin (((true:Bool),())))
                                                      (let r12:=g24 ((r0.1.1,(r0.1.2.1,())),((r10.1.1,(r10.1.2.1,())),()));
                                                      Tr.test ((leF r12.1 0:Bool))
                                                        (Tr.fin (((false:Bool),())))
                                                        (Tr.fin (((false:Bool),())))))
                                                    (let r12:=g24 ((r0.1.1,(r0.1.2.1,())),((r10.1.1,(r10.1.2.1,())),()));
                                                    Tr.test ((leF r12.1 0:Bool))
                                                      (Tr.fin (((false:Bool),())))
                                                      (Tr.test ((!eqF r2.1 0:Bool))
                                                        (Tr.fin (((true:Bool),())))
                                                        (Tr.fin (((false:Bool),())))))))
                                                (Tr.stop))
                                              (Tr.stop))
                                            (Tr.test (Option.isSome (f24 ((r1.1.1,(r1.1.2.1,())),((r9.1.1,(r9.1.2.1,())),()))))
                                              (let r13:=g24 ((r1.1.1,(r1.1.2.1,())),((r9.1.1,(r9.1.2.1,())),()));
                                              Tr.test ((leF (0:Int) r13.1:Bool))
                                                (let r10:=g27 (x2',());
                                                Tr.test (Option.isSome (f24 ((r1.1.1,(r1.1.2.1,())),((r10.1.1,(r10.1.2.1,())),()))))
                                                  (Tr.test ((!eqF r2.1 2:Bool))
                                                    (Tr.test ((!eqF r2.1 0:Bool))
                                                      (Tr.fin (((true:Bool),())))
                                                      (Tr.fin (((false:Bool),()))))
                                                    (let r14:=g24 ((r1.1.1,(r1.1.2.1,())),((r10.1.1,(r10.1.2.1,())),()));
                                                    Tr.test ((!leF r14.1 0:Bool))
                                                      (Tr.test ((!eqF r2.1 0:Bool))
                                                        (Tr.fin (((true:Bool),())))
                                                        (Tr.fin (((false:Bool),()))))
                                                      (Tr.fin (((false:Bool),())))))
                                                  (Tr.stop))
                                                (Tr.test ((!eqF r2.1 2:Bool))
                                                  (Tr.test ((!eqF r2.1 0:Bool))
                                                    (Tr.fin (((true:Bool),())))
                                                    (Tr.fin (((false:Bool),()))))
                                                  (Tr.test ((!eqF r2.1 0:Bool))
                                                    (Tr.fin (((true:Bool),())))
                                                    (Tr.fin (((false:Bool),()))))))
                                              (Tr.stop)))
                                          (Tr.stop))
                                        (Tr.stop))
                                      (Tr.stop))))
                                (Tr.stop)))
                            (Tr.stop))))
                      (Tr.stop)))
                  (Tr.stop)))
              (Tr.stop)))
          (Tr.stop))
        (Tr.stop))
      (Tr.stop))
    (Tr.stop)
def f12 (d:Tys.data as12):Option (Tys.data rs12):=(t12 d.1.1 d.1.2.1 d.1.2.2.1 d.2.1.1 d.2.1.2.1 d.2.2.1.1 d.2.2.1.2.1).val
def g12 (d:Tys.data as12):Tys.data rs12:=(f12 d).getD (Tys.dflt rs12)
def p12:PureC:=pcOf as12 rs12 f12 g12
theorem wk12n0 (x0:Int) (x0':Int) (x0'':Int) (x1:Int) (x1':Int) (x2:Int) (x2':Int):Walks (runPure (kf27 Proofs.Tryz.prog).orc Proofs.Tryz.prog 400 12 as12 rs12 ((x0,x0',x0'',()),(x1,x1',()),(x2,x2',()),())) (t12 x0 x0' x0'' x1 x1' x2 x2') [(bl 10 1023,[2,2,2,4,4,4,4,6,6,6,6,8,8,8,8,10,10,10,10,12,14,16,18,20,0,1]),(bl 10 511,[2,2,2,4,4,4,4,6,6,6,6,8,8,8,8,10,10,10,10,12,14,16,18,20,0,1]),(bl 9 255,[0,0,0,2,2,2,2,4,4,4,4,6,6,6,6,8,8,8,8,10,12,14,16,18,0,1]),(bl 8 127,[0,0,0,0,0,0,0,2,2,2,2,4,4,4,4,6,6,6,6,8,10,12,14,16,0,1]),(bl 7 63,[0,0,0,0,0,0,0,0,0,0,0,2,2,2,2,4,4,4,4,6,8,10,12,14,0,1]),(bl 6 31,[0,0,0,0,0,0,0,0,0,0,0,0,0,0,0,2,2,2,2,4,6,8,10,12,0,1]),(bl 7 111,[1,2,2,2,2,2,2,2,2,4,6,8,10,12,14,0,1]),(bl 9 431,[2,6,6,4,6,6,6,6,6,6,8,10,12,14,16,18,0,1]),(bl 12 3759,[2,2,2,4,6,8,12,12,10,12,12,12,12,12,12,14,16,18,20,22,24,0,1]),(bl 12 1711,[2,2,2,4,6,8,12,12,10,12,12,12,12,12,12,14,16,18,20,22,24,0,1]),(bl 12 2735,[1,1,1,1,1,1,1,1,1,1,1,1,1,1,2,2,2,2,2,2,2,4,6,8,12,12,10,12,12,12,12,12,12,14,16,18,20,22,24,0,1]),(bl 14 12975,[1,1,1,1,1,1,1,1,1,2,2,2,2,2,6,6,4,6,6,6,6,6,8,10,12,16,16,14,16,16,16,16,16,16,18,20,22,24,26,28,0,1]),(bl 16 53935,[1,2,2,2,2,2,2,2,2,6,6,4,6,6,6,10,10,8,10,10,10,10,10,12,14,16,20,20,18,20,20,20,20,20,20,22,24,26,28,30,32,0,1]),(bl 18 217775,[2,6,4,6,4,8,4,4,4,6,6,6,6,6,6,10,10,8,10,10,10,14,14,12,14,14,14,14,14,16,18,20,24,24,22,24,24,24,24,24,24,26,28,30,32,34,36,0,1]),(bl 28 268260015,[1,2,1,2,2,2,2,1,1,1,4,4,4,4,4,4,8,8,6,8,8,8,10,14,14,12,14,14,14,16,18,20,22,26,24,26,24,28,24,24,24,26,26,26,26,26,26,30,30,28,30,30,30,34,34,32,34,34,34,34,34,36,38,40,44,44,42,44,44,44,44,44,44,46,48,50,52,54,56,0,1]),(bl 29 402477743,[1,4,1,2,4,2,1,2,4,4,1,4,1,1,1,6,6,6,6,6,6,10,10,8,10,10,10,12,16,16,14,16,16,16,18,20,22,24,28,26,28,26,30,26,26,26,28,28,28,28,28,28,32,32,30,32,32,32,36,36,34,36,36,36,36,36,38,40,42,46,46,44,46,46,46,46,46,46,48,50,52,54,56,58,0,1])] :=
  ⟨by kernel_rfl,by kernel_rfl,by kernel_rfl,by kernel_rfl,by kernel_rfl,by kernel_rfl,by kernel_rfl,by kernel_rfl,by kernel_rfl,by kernel_rfl,by kernel_rfl,by kernel_rfl,by kernel_rfl,by kernel_rfl,by kernel_rfl,by kernel_rfl,trivial⟩
theorem wk12n1 (x0:Int) (x0':Int) (x0'':Int) (x1:Int) (x1':Int) (x2:Int) (x2':Int):Walks (runPure (kf27 Proofs.Tryz.prog).orc Proofs.Tryz.prog 400 12 as12 rs12 ((x0,x0',x0'',()),(x1,x1',()),(x2,x2',()),())) (t12 x0 x0' x0'' x1 x1' x2 x2') [(bl 29 134042287,[1,4,1,2,4,2,2,4,4,1,4,1,1,1,6,6,6,6,6,6,10,10,8,10,10,10,12,16,16,14,16,16,16,18,20,22,24,28,26,28,26,30,26,26,26,28,28,28,28,28,28,32,32,30,32,32,32,36,36,34,36,36,36,36,36,38,40,42,46,46,44,46,46,46,46,46,46,48,50,52,54,56,58,0,1]),(bl 28 201151151,[0,0,0,0,0,4,3,4,3,3,3,4,4,4,1,4,8,8,6,8,8,8,10,14,14,12,14,14,14,16,18,20,22,26,24,26,24,28,24,24,24,26,26,26,26,26,26,30,30,28,30,30,30,34,34,32,34,34,34,34,34,36,38,40,44,44,42,44,44,44,44,44,44,46,48,50,52,54,56,0,1]),(bl 30 872239791,[4,2,4,2,2,2,2,4,4,4,8,7,8,7,7,1,7,8,8,8,1,8,12,12,10,12,12,12,14,18,18,16,18,18,18,20,22,24,26,30,28,30,28,32,28,28,28,30,30,30,30,30,30,34,34,32,34,34,34,38,38,36,38,38,38,38,38,40,42,44,48,48,46,48,48,48,48,48,48,50,52,54,56,58,60,0,1]),(bl 30 335368879,[4,2,4,6,2,6,6,2,2,1,2,4,4,4,8,7,8,7,7,1,7,8,8,8,1,8,12,12,10,12,12,12,14,18,18,16,18,18,18,20,22,24,26,30,28,30,28,32,28,28,28,30,30,30,30,30,30,34,34,32,34,34,34,38,38,36,38,38,38,38,38,40,42,44,48,48,46,48,48,48,48,48,48,50,52,54,56,58,60,0,1]),(bl 29 66933423,[2,2,2,2,2,6,5,6,5,5,1,5,6,6,6,1,6,10,10,8,10,10,10,12,16,16,14,16,16,16,18,20,22,24,28,26,28,26,30,26,26,26,28,28,28,28,28,28,32,32,30,32,32,32,36,36,34,36,36,36,36,36,38,40,42,46,46,44,46,46,46,46,46,46,48,50,52,54,56,58,0,1]),(bl 27 117265071,[1,2,1,2,2,2,2,1,1,1,4,4,4,4,4,4,6,6,6,6,6,8,12,12,10,12,12,12,14,16,18,20,24,22,24,22,26,22,22,22,24,24,24,24,24,24,28,28,26,28,28,28,32,32,30,32,32,32,32,32,34,36,38,42,42,40,42,42,42,42,42,42,44,46,48,50,52,54,0,1]),(bl 28 184373935,[1,4,1,2,4,2,1,2,4,4,1,4,1,1,1,6,6,6,6,6,6,8,8,8,8,8,10,14,14,12,14,14,14,16,18,20,22,26,24,26,24,28,24,24,24,26,26,26,26,26,26,30,30,28,30,30,30,34,34,32,34,34,34,34,34,36,38,40,44,44,42,44,44,44,44,44,44,46,48,50,52,54,56,0,1]),(bl 28 50156207,[1,4,1,2,4,2,2,4,4,1,4,1,1,1,6,6,6,6,6,6,8,8,8,8,8,10,14,14,12,14,14,14,16,18,20,22,26,24,26,24,28,24,24,24,26,26,26,26,26,26,30,30,28,30,30,30,34,34,32,34,34,34,34,34,36,38,40,44,44,42,44,44,44,44,44,44,46,48,50,52,54,56,0,1]),(bl 27 83710639,[0,0,0,0,0,4,3,4,3,3,3,4,4,4,1,4,6,6,6,6,6,8,12,12,10,12,12,12,14,16,18,20,24,22,24,22,26,22,22,22,24,24,24,24,24,24,28,28,26,28,28,28,32,32,30,32,32,32,32,32,34,36,38,42,42,40,42,42,42,42,42,42,44,46,48,50,52,54,0,1]),(bl 28 150819503,[1,2,1,2,2,2,2,1,1,1,6,5,6,5,5,1,5,6,6,6,1,6,8,8,8,8,8,10,14,14,12,14,14,14,16,18,20,22,26,24,26,24,28,24,24,24,26,26,26,26,26,26,30,30,28,30,30,30,34,34,32,34,34,34,34,34,36,38,40,44,44,42,44,44,44,44,44,44,46,48,50,52,54,56,0,1]),(bl 28 16601775,[1,2,1,4,2,4,4,2,2,1,2,1,1,1,6,5,6,5,5,1,5,6,6,6,1,6,8,8,8,8,8,10,14,14,12,14,14,14,16,18,20,22,26,24,26,24,28,24,24,24,26,26,26,26,26,26,30,30,28,30,30,30,34,34,32,34,34,34,34,34,36,38,40,44,44,42,44,44,44,44,44,44,46,48,50,52,54,56,0,1]),(bl 27 131945135,[1,2,1,2,2,2,2,1,1,1,4,4,4,4,4,4,8,8,6,8,8,8,10,12,12,12,12,12,14,16,18,20,24,22,24,22,26,22,22,22,24,24,24,24,24,24,28,28,26,28,28,28,32,32,30,32,32,32,32,32,34,36,38,42,42,40,42,42,42,42,42,42,44,46,48,50,52,54,0,1]),(bl 27 64836271,[1,2,1,0,2,0,0,2,2,1,2,1,1,1,4,4,4,4,4,4,8,8,6,8,8,8,10,12,12,12,12,12,14,16,18,20,24,22,24,22,26,22,22,22,24,24,24,24,24,24,28,28,26,28,28,28,32,32,30,32,32,32,32,32,34,36,38,42,42,40,42,42,42,42,42,42,44,46,48,50,52,54,0,1]),(bl 28 232608431,[4,2,4,2,2,2,2,4,4,4,6,1,6,1,1,1,1,6,6,6,1,6,10,10,8,10,10,10,12,14,14,14,14,14,16,18,20,22,26,24,26,24,28,24,24,24,26,26,26,26,26,26,30,30,28,30,30,30,34,34,32,34,34,34,34,34,36,38,40,44,44,42,44,44,44,44,44,44,46,48,50,52,54,56,0,1]),(bl 28 98390703,[4,2,4,0,2,0,0,2,2,1,2,4,4,4,6,1,6,1,1,1,1,6,6,6,1,6,10,10,8,10,10,10,12,14,14,14,14,14,16,18,20,22,26,24,26,24,28,24,24,24,26,26,26,26,26,26,30,30,28,30,30,30,34,34,32,34,34,34,34,34,36,38,40,44,44,42,44,44,44,44,44,44,46,48,50,52,54,56,0,1]),(bl 27 31281839,[2,2,2,2,2,4,1,4,1,1,1,1,4,4,4,1,4,8,8,6,8,8,8,10,12,12,12,12,12,14,16,18,20,24,22,24,22,26,22,22,22,24,24,24,24,24,24,28,28,26,28,28,28,32,32,30,32,32,32,32,32,34,36,38,42,42,40,42,42,42,42,42,42,44,46,48,50,52,54,0,1])] :=
  ⟨by kernel_rfl,by kernel_rfl,by kernel_rfl,by kernel_rfl,by kernel_rfl,by kernel_rfl,by kernel_rfl,by kernel_rfl,by kernel_rfl,by kernel_rfl,by kernel_rfl,by kernel_rfl,by kernel_rfl,by kernel_rfl,by kernel_rfl,by kernel_rfl,trivial⟩
theorem wk12n2 (x0:Int) (x0':Int) (x0'':Int) (x1:Int) (x1':Int) (x2:Int) (x2':Int):Walks (runPure (kf27 Proofs.Tryz.prog).orc Proofs.Tryz.prog 400 12 as12 rs12 ((x0,x0',x0'',()),(x1,x1',()),(x2,x2',()),())) (t12 x0 x0' x0'' x1 x1' x2 x2') [(bl 26 56447663,[1,2,1,2,2,2,2,1,1,1,4,4,4,4,4,4,6,6,6,6,6,8,10,10,10,10,10,12,14,16,18,22,20,22,20,24,20,20,20,22,22,22,22,22,22,26,26,24,26,26,26,30,30,28,30,30,30,30,30,32,34,36,40,40,38,40,40,40,40,40,40,42,44,46,48,50,52,0,1]),(bl 26 22893231,[1,2,1,0,2,0,0,2,2,1,2,1,1,1,4,4,4,4,4,4,6,6,6,6,6,8,10,10,10,10,10,12,14,16,18,22,20,22,20,24,20,20,20,22,22,22,22,22,22,26,26,24,26,26,26,30,30,28,30,30,30,30,30,32,34,36,40,40,38,40,40,40,40,40,40,42,44,46,48,50,52,0,1]),(bl 26 39670447,[1,2,1,2,2,2,2,1,1,1,4,1,4,1,1,1,1,4,4,4,1,4,6,6,6,6,6,8,10,10,10,10,10,12,14,16,18,22,20,22,20,24,20,20,20,22,22,22,22,22,22,26,26,24,26,26,26,30,30,28,30,30,30,30,30,32,34,36,40,40,38,40,40,40,40,40,40,42,44,46,48,50,52,0,1]),(bl 26 6116015,[1,2,1,0,2,0,0,2,2,1,2,1,1,1,4,1,4,1,1,1,1,4,4,4,1,4,6,6,6,6,6,8,10,10,10,10,10,12,14,16,18,22,20,22,20,24,20,20,20,22,22,22,22,22,22,26,26,24,26,26,26,30,30,28,30,30,30,30,30,32,34,36,40,40,38,40,40,40,40,40,40,42,44,46,48,50,52,0,1]),(bl 27 134107823,[1,2,1,2,2,2,2,1,1,1,4,4,4,4,4,4,8,8,6,8,8,8,10,14,14,12,14,14,14,16,18,20,0,24,22,24,22,22,22,22,24,24,24,24,24,24,28,28,26,28,28,28,32,32,30,32,32,32,32,32,34,36,38,42,42,40,42,42,42,42,42,42,44,46,48,50,52,54,0,1]),(bl 28 201216687,[1,4,1,2,4,2,1,2,4,4,1,4,1,1,1,6,6,6,6,6,6,10,10,8,10,10,10,12,16,16,14,16,16,16,18,20,22,0,26,24,26,24,24,24,24,26,26,26,26,26,26,30,30,28,30,30,30,34,34,32,34,34,34,34,34,36,38,40,44,44,42,44,44,44,44,44,44,46,48,50,52,54,56,0,1]),(bl 28 66998959,[1,4,1,2,4,2,2,4,4,1,4,1,1,1,6,6,6,6,6,6,10,10,8,10,10,10,12,16,16,14,16,16,16,18,20,22,0,26,24,26,24,24,24,24,26,26,26,26,26,26,30,30,28,30,30,30,34,34,32,34,34,34,34,34,36,38,40,44,44,42,44,44,44,44,44,44,46,48,50,52,54,56,0,1]),(bl 27 100553391,[0,0,0,0,0,4,3,4,3,3,3,4,4,4,1,4,8,8,6,8,8,8,10,14,14,12,14,14,14,16,18,20,0,24,22,24,22,22,22,22,24,24,24,24,24,24,28,28,26,28,28,28,32,32,30,32,32,32,32,32,34,36,38,42,42,40,42,42,42,42,42,42,44,46,48,50,52,54,0,1]),(bl 29 436097711,[4,2,4,2,2,2,2,4,4,4,8,7,8,7,7,1,7,8,8,8,1,8,12,12,10,12,12,12,14,18,18,16,18,18,18,20,22,24,0,28,26,28,26,26,26,26,28,28,28,28,28,28,32,32,30,32,32,32,36,36,34,36,36,36,36,36,38,40,42,46,46,44,46,46,46,46,46,46,48,50,52,54,56,58,0,1]),(bl 29 167662255,[4,2,4,6,2,6,6,2,2,1,2,4,4,4,8,7,8,7,7,1,7,8,8,8,1,8,12,12,10,12,12,12,14,18,18,16,18,18,18,20,22,24,0,28,26,28,26,26,26,26,28,28,28,28,28,28,32,32,30,32,32,32,36,36,34,36,36,36,36,36,38,40,42,46,46,44,46,46,46,46,46,46,48,50,52,54,56,58,0,1]),(bl 28 33444527,[2,2,2,2,2,6,5,6,5,5,1,5,6,6,6,1,6,10,10,8,10,10,10,12,16,16,14,16,16,16,18,20,22,0,26,24,26,24,24,24,24,26,26,26,26,26,26,30,30,28,30,30,30,34,34,32,34,34,34,34,34,36,38,40,44,44,42,44,44,44,44,44,44,46,48,50,52,54,56,0,1]),(bl 26 58610351,[1,2,1,2,2,2,2,1,1,1,4,4,4,4,4,4,6,6,6,6,6,8,12,12,10,12,12,12,14,16,18,0,22,20,22,20,20,20,20,22,22,22,22,22,22,26,26,24,26,26,26,30,30,28,30,30,30,30,30,32,34,36,40,40,38,40,40,40,40,40,40,42,44,46,48,50,52,0,1]),(bl 27 92164783,[1,4,1,2,4,2,1,2,4,4,1,4,1,1,1,6,6,6,6,6,6,8,8,8,8,8,10,14,14,12,14,14,14,16,18,20,0,24,22,24,22,22,22,22,24,24,24,24,24,24,28,28,26,28,28,28,32,32,30,32,32,32,32,32,34,36,38,42,42,40,42,42,42,42,42,42,44,46,48,50,52,54,0,1]),(bl 27 25055919,[1,4,1,2,4,2,2,4,4,1,4,1,1,1,6,6,6,6,6,6,8,8,8,8,8,10,14,14,12,14,14,14,16,18,20,0,24,22,24,22,22,22,22,24,24,24,24,24,24,28,28,26,28,28,28,32,32,30,32,32,32,32,32,34,36,38,42,42,40,42,42,42,42,42,42,44,46,48,50,52,54,0,1]),(bl 26 41833135,[0,0,0,0,0,4,3,4,3,3,3,4,4,4,1,4,6,6,6,6,6,8,12,12,10,12,12,12,14,16,18,0,22,20,22,20,20,20,20,22,22,22,22,22,22,26,26,24,26,26,26,30,30,28,30,30,30,30,30,32,34,36,40,40,38,40,40,40,40,40,40,42,44,46,48,50,52,0,1]),(bl 27 75387567,[1,2,1,2,2,2,2,1,1,1,6,5,6,5,5,1,5,6,6,6,1,6,8,8,8,8,8,10,14,14,12,14,14,14,16,18,20,0,24,22,24,22,22,22,22,24,24,24,24,24,24,28,28,26,28,28,28,32,32,30,32,32,32,32,32,34,36,38,42,42,40,42,42,42,42,42,42,44,46,48,50,52,54,0,1])] :=
  ⟨by kernel_rfl,by kernel_rfl,by kernel_rfl,by kernel_rfl,by kernel_rfl,by kernel_rfl,by kernel_rfl,by kernel_rfl,by kernel_rfl,by kernel_rfl,by kernel_rfl,by kernel_rfl,by kernel_rfl,by kernel_rfl,by kernel_rfl,by kernel_rfl,trivial⟩
theorem wk12n3 (x0:Int) (x0':Int) (x0'':Int) (x1:Int) (x1':Int) (x2:Int) (x2':Int):Walks (runPure (kf27 Proofs.Tryz.prog).orc Proofs.Tryz.prog 400 12 as12 rs12 ((x0,x0',x0'',()),(x1,x1',()),(x2,x2',()),())) (t12 x0 x0' x0'' x1 x1' x2 x2') [(bl 27 8278703,[1,2,1,4,2,4,4,2,2,1,2,1,1,1,6,5,6,5,5,1,5,6,6,6,1,6,8,8,8,8,8,10,14,14,12,14,14,14,16,18,20,0,24,22,24,22,22,22,22,24,24,24,24,24,24,28,28,26,28,28,28,32,32,30,32,32,32,32,32,34,36,38,42,42,40,42,42,42,42,42,42,44,46,48,50,52,54,0,1]),(bl 26 65950383,[1,2,1,2,2,2,2,1,1,1,4,4,4,4,4,4,8,8,6,8,8,8,10,12,12,12,12,12,14,16,18,0,22,20,22,20,20,20,20,22,22,22,22,22,22,26,26,24,26,26,26,30,30,28,30,30,30,30,30,32,34,36,40,40,38,40,40,40,40,40,40,42,44,46,48,50,52,0,1]),(bl 26 32395951,[1,2,1,0,2,0,0,2,2,1,2,1,1,1,4,4,4,4,4,4,8,8,6,8,8,8,10,12,12,12,12,12,14,16,18,0,22,20,22,20,20,20,20,22,22,22,22,22,22,26,26,24,26,26,26,30,30,28,30,30,30,30,30,32,34,36,40,40,38,40,40,40,40,40,40,42,44,46,48,50,52,0,1]),(bl 27 116282031,[4,2,4,2,2,2,2,4,4,4,6,1,6,1,1,1,1,6,6,6,1,6,10,10,8,10,10,10,12,14,14,14,14,14,16,18,20,0,24,22,24,22,22,22,22,24,24,24,24,24,24,28,28,26,28,28,28,32,32,30,32,32,32,32,32,34,36,38,42,42,40,42,42,42,42,42,42,44,46,48,50,52,54,0,1]),(bl 27 49173167,[4,2,4,0,2,0,0,2,2,1,2,4,4,4,6,1,6,1,1,1,1,6,6,6,1,6,10,10,8,10,10,10,12,14,14,14,14,14,16,18,20,0,24,22,24,22,22,22,22,24,24,24,24,24,24,28,28,26,28,28,28,32,32,30,32,32,32,32,32,34,36,38,42,42,40,42,42,42,42,42,42,44,46,48,50,52,54,0,1]),(bl 26 15618735,[2,2,2,2,2,4,1,4,1,1,1,1,4,4,4,1,4,8,8,6,8,8,8,10,12,12,12,12,12,14,16,18,0,22,20,22,20,20,20,20,22,22,22,22,22,22,26,26,24,26,26,26,30,30,28,30,30,30,30,30,32,34,36,40,40,38,40,40,40,40,40,40,42,44,46,48,50,52,0,1]),(bl 25 28201647,[1,2,1,2,2,2,2,1,1,1,4,4,4,4,4,4,6,6,6,6,6,8,10,10,10,10,10,12,14,16,0,20,18,20,18,18,18,18,20,20,20,20,20,20,24,24,22,24,24,24,28,28,26,28,28,28,28,28,30,32,34,38,38,36,38,38,38,38,38,38,40,42,44,46,48,50,0,1]),(bl 25 11424431,[1,2,1,0,2,0,0,2,2,1,2,1,1,1,4,4,4,4,4,4,6,6,6,6,6,8,10,10,10,10,10,12,14,16,0,20,18,20,18,18,18,18,20,20,20,20,20,20,24,24,22,24,24,24,28,28,26,28,28,28,28,28,30,32,34,38,38,36,38,38,38,38,38,38,40,42,44,46,48,50,0,1]),(bl 25 19813039,[1,2,1,2,2,2,2,1,1,1,4,1,4,1,1,1,1,4,4,4,1,4,6,6,6,6,6,8,10,10,10,10,10,12,14,16,0,20,18,20,18,18,18,18,20,20,20,20,20,20,24,24,22,24,24,24,28,28,26,28,28,28,28,28,30,32,34,38,38,36,38,38,38,38,38,38,40,42,44,46,48,50,0,1]),(bl 25 3035823,[1,2,1,0,2,0,0,2,2,1,2,1,1,1,4,1,4,1,1,1,1,4,4,4,1,4,6,6,6,6,6,8,10,10,10,10,10,12,14,16,0,20,18,20,18,18,18,18,20,20,20,20,20,20,24,24,22,24,24,24,28,28,26,28,28,28,28,28,30,32,34,38,38,36,38,38,38,38,38,38,40,42,44,46,48,50,0,1])] :=
  ⟨by kernel_rfl,by kernel_rfl,by kernel_rfl,by kernel_rfl,by kernel_rfl,by kernel_rfl,by kernel_rfl,by kernel_rfl,by kernel_rfl,by kernel_rfl,trivial⟩
theorem ok12_t (x0:Int) (x0':Int) (x0'':Int) (x1:Int) (x1':Int) (x2:Int) (x2':Int):TrOk (PureRuns Proofs.Tryz.prog (kf27 Proofs.Tryz.prog).orc 12 as12 rs12 ((x0,x0',x0'',()),(x1,x1',()),(x2,x2',()),())) (t12 x0 x0' x0'' x1 x1' x2 x2') :=
  Walks.ok (fun _ _ _=>PureRuns.of) ((wk12n0 x0 x0' x0'' x1 x1' x2 x2').append ((wk12n1 x0 x0' x0'' x1 x1' x2 x2').append ((wk12n2 x0 x0' x0'' x1 x1' x2 x2').append (wk12n3 x0 x0' x0'' x1 x1' x2 x2')))) (by kernel_rfl)
theorem ok12:PureOk Proofs.Tryz.prog 12 p12:=qab kf27_ok.base (T:=fun (d:Tys.data as12)=>t12 d.1.1 d.1.2.1 d.1.2.2.1 d.2.1.1 d.2.1.2.1 d.2.2.1.1 d.2.2.1.2.1) (by kernel_rfl) (fun (d:Tys.data as12)=>ok12_t d.1.1 d.1.2.1 d.1.2.2.1 d.2.1.1 d.2.1.2.1 d.2.2.1.1 d.2.2.1.2.1)
end Go.Vm.Mo
