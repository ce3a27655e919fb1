import Derived.Test.YtklljhgfniodaaaA4
import Derived.KernelRfl
import Derived.Test.YtklljhgfniodaaaProg
import Derived.Test.YtklljhgfniodaaaRsFb
set_option linter.unusedVariables false
set_option linter.unusedSimpArgs false

namespace Go.Vm.Mo
open Go
set_option linter.unusedVariables false

/-! loop 0 of ductility/ductilitybase.WideFloor -/

abbrev sh99_0:Sh:={ n:=88,slots:=[2,3,4,5,6,7],pats:=[.ptr 0 2 0,.ptr 1 2 0,.ptr 2 2 0,.sli 3 1,.ty (.slice (.int .i64)),.ty (.int .i64)],boxes:=[.row [.ty (.int .i64),.ty (.slice (.int .i64))],.row [.ty (.int .i64),.ty (.slice (.int .i64))],.row [.ty (.int .i64),.nil],.arr (.int .i64)] }
abbrev shb99_0:Sh:={ n:=88,slots:=[2,4,5,6],pats:=[.ptr 0 2 0,.ptr 2 2 0,.sli 3 1,.ty (.slice (.int .i64))],boxes:=[.row [.ty (.int .i64),.ty (.slice (.int .i64))],.row [.ty (.int .i64),.ty (.slice (.int .i64))],.row [.ty (.int .i64),.nil],.arr (.int .i64)] }
abbrev shr99_0:Sh:={ n:=88,slots:=[],pats:=[],boxes:=[.row [.ty (.int .i64),.ty (.slice (.int .i64))],.row [.ty (.int .i64),.ty (.slice (.int .i64))],.row [.ty (.int .i64),.nil],.arr (.int .i64)] }

def t99_0 (x3n:Nat) (x3c:Nat) (x4:(List Int)) (x5:Int) (b0_0:Int) (b0_1:(List Int)) (b1_0:Int) (b1_1:(List Int)) (b2_0:Int) (b3:(List Int)):Tr (Out sh99_0.data shb99_0.data shr99_0.data) :=
  Tr.test ((leF (0:Int) x5:Bool))
    (Tr.test (decide ((0:Int) ≤ x5) && decide (x5 < (↑(List.length b0_1):Int)))
      (Tr.test ((Nat.beq (List.length x4) (0:Nat):Bool))
        (Tr.test (Option.isSome (f113 (([List.getD b0_1 (Int.toNat x5) (0:Int)]:List Int),())))
          (let r0:=g113 (([List.getD b0_1 (Int.toNat x5) (0:Int)]:List Int),());
          Tr.test (isBrk (l99_2 (((x3n,x3c),(r0.1,(x5,((0:Int),((999999999:Int),()))))),((b0_0,(b0_1,())),((b1_0,(b1_1,())),((b2_0,()),(b3,())))))))
            (let r2:=b99_2 (((x3n,x3c),(r0.1,(x5,((0:Int),((999999999:Int),()))))),((b0_0,(b0_1,())),((b1_0,(b1_1,())),((b2_0,()),(b3,())))));
            Tr.test ((decide ((0:Int) ≤ r2.1.2.2.1) && decide (r2.1.2.2.1 < (↑r2.1.1.1:Int)):Bool))
              (Tr.test ((Nat.ble ((0:Nat) + Int.toNat r2.1.2.2.1 + (1:Nat)) (List.length r2.2.2.2.2.1):Bool))
                (Tr.test (Option.isSome (f95 ((1:Int),(r2.2.2.1.2.1,()))))
                  (Tr.test (Option.isSome (f61 (r2.1.2.2.2.1,())))
                    (let r3:=g95 ((1:Int),(r2.2.2.1.2.1,()));
                    let r4:=g61 (r2.1.2.2.2.1,());
                    Tr.test (Option.isSome (f64 ((r3.1.1,(r3.1.2.1,())),((r4.1.1,(r4.1.2.1,())),()))))
                      (let r5:=g64 ((r3.1.1,(r3.1.2.1,())),((r4.1.1,(r4.1.2.1,())),()));
                      Tr.test (Option.isSome (f102 (r2.1.2.1,(r5.1.2.1,()))))
                        (let r6:=g102 (r2.1.2.1,(r5.1.2.1,()));
                        Tr.fin (.again (((r2.1.1.1,r2.1.1.2),(r6.1,((wrap64 (r2.1.2.2.1 - (1:Int)):Int),()))),((r2.2.1.1,(r2.2.1.2.1,())),((r2.2.2.1.1,(r2.2.2.1.2.1,())),((r2.2.2.2.1.1,()),((List.set r2.2.2.2.2.1 ((0:Nat) + Int.toNat r2.1.2.2.1) r2.1.2.2.2.1:List Int),())))))))
                        (Tr.stop))
                      (Tr.stop))
                    (Tr.stop))
                  (Tr.stop))
                (Tr.stop))
              (Tr.stop))
            (Tr.stop))
          (Tr.stop))
        (Tr.test ((Nat.ble ((1:Nat) + List.length x4) (1:Nat):Bool))
          (Tr.stop)
          (Tr.test ((Nat.ble (((2:Nat) * ((1:Nat) + List.length x4) + (192:Nat)) * (8:Nat)) (281474976710656:Nat) && Nat.ble ((1:Nat) + List.length x4) (281474976710656:Nat):Bool))
            (Tr.test ((Nat.beq ((1:Nat) + List.length x4) (List.length ([List.getD b0_1 (Int.toNat x5) (0:Int)]++x4)):Bool))
              (Tr.test (Option.isSome (f113 (([List.getD b0_1 (Int.toNat x5) (0:Int)]++x4:List Int),())))
                (let r1:=g113 (([List.getD b0_1 (Int.toNat x5) (0:Int)]++x4:List Int),());
                Tr.test (isBrk (l99_2 (((x3n,x3c),(r1.1,(x5,((0:Int),((999999999:Int),()))))),((b0_0,(b0_1,())),((b1_0,(b1_1,())),((b2_0,()),(b3,())))))))
                  (let r7:=b99_2 (((x3n,x3c),(r1.1,(x5,((0:Int),((999999999:Int),()))))),((b0_0,(b0_1,())),((b1_0,(b1_1,())),((b2_0,()),(b3,())))));
                  Tr.test ((decide ((0:Int) ≤ r7.1.2.2.1) && decide (r7.1.2.2.1 < (↑r7.1.1.1:Int)):Bool))
                    (Tr.test ((Nat.ble ((0:Nat) + Int.toNat r7.1.2.2.1 + (1:Nat)) (List.length r7.2.2.2.2.1):Bool))
                      (Tr.test (Option.isSome (f95 ((1:Int),(r7.2.2.1.2.1,()))))
                        (Tr.test (Option.isSome (f61 (r7.1.2.2.2.1,())))
                          (let r8:=g95 ((1:Int),(r7.2.2.1.2.1,()));
                          let r9:=g61 (r7.1.2.2.2.1,());
                          Tr.test (Option.isSome (f64 ((r8.1.1,(r8.1.2.1,())),((r9.1.1,(r9.1.2.1,())),()))))
                            (let r10:=g64 ((r8.1.1,(r8.1.2.1,())),((r9.1.1,(r9.1.2.1,())),()));
                            Tr.test (Option.isSome (f102 (r7.1.2.1,(r10.1.2.1,()))))
                              (let r11:=g102 (r7.1.2.1,(r10.1.2.1,()));
                              Tr.fin (.again (((r7.1.1.1,r7.1.1.2),(r11.1,((wrap64 (r7.1.2.2.1 - (1:Int)):Int),()))),((r7.2.1.1,(r7.2.1.2.1,())),((r7.2.2.1.1,(r7.2.2.1.2.1,())),((r7.2.2.2.1.1,()),((List.set r7.2.2.2.2.1 ((0:Nat) + Int.toNat r7.1.2.2.1) r7.1.2.2.2.1:List Int),())))))))
                              (Tr.stop))
                            (Tr.stop))
                          (Tr.stop))
                        (Tr.stop))
                      (Tr.stop))
                    (Tr.stop))
                  (Tr.stop))
                (Tr.stop))
              (Tr.stop))
            (Tr.stop))))
      (Tr.stop))
    (Tr.fin (.brk (((x3n,x3c),(x4,())),((b0_0,(b0_1,())),((b1_0,(b1_1,())),((b2_0,()),(b3,())))))))

def s99_0 (d:sh99_0.data):Option (Out sh99_0.data shb99_0.data shr99_0.data):=(t99_0 d.1.1.1 d.1.1.2 d.1.2.1 d.1.2.2.1 d.2.1.1 d.2.1.2.1 d.2.2.1.1 d.2.2.1.2.1 d.2.2.2.1.1 d.2.2.2.2.1).val
def l99_0 (d:sh99_0.data):Option (shb99_0.data ⊕ shr99_0.data):=itr s99_0 rounds d
def b99_0 (d:sh99_0.data):shb99_0.data:=outB shb99_0.dflt (l99_0 d)
def lc99_0:LoopC:=lcB sh99_0 shb99_0 shr99_0 l99_0 b99_0

theorem wk99_0 (x3n:Nat) (x3c:Nat) (x4:(List Int)) (x5:Int) (b0_0:Int) (b0_1:(List Int)) (b1_0:Int) (b1_1:(List Int)) (b2_0:Int) (b3:(List Int)):Walks (runBody (kl99_2 Go.Proofs.Try.prog).orc Go.Proofs.Try.prog 400 99 0 sh99_0 shb99_0 shr99_0 (((x3n,x3c),x4,x5,()),(b0_0,b0_1,()),(b1_0,b1_1,()),(b2_0,()),b3,())) (t99_0 x3n x3c x4 x5 b0_0 b0_1 b1_0 b1_1 b2_0 b3) [([true,true,true,true,true,true,true,true,true,true,true],[2,4,6,8,10,12,1,14,16,1,18,20,22]),([true,true,false,false,true,true,true,true,true,true,true,true,true,true],[2,4,6,8,10,12,1,14,16,18,1,20,22,24,26,28]),([ff],[2])] :=
  ⟨by kernel_rfl,by kernel_rfl,by kernel_rfl,trivial⟩

theorem ok99_0_t (x3n:Nat) (x3c:Nat) (x4:(List Int)) (x5:Int) (b0_0:Int) (b0_1:(List Int)) (b1_0:Int) (b1_1:(List Int)) (b2_0:Int) (b3:(List Int)):TrOk (BodyRuns Go.Proofs.Try.prog (kl99_2 Go.Proofs.Try.prog).orc 99 0 sh99_0 shb99_0 shr99_0 (((x3n,x3c),x4,x5,()),(b0_0,b0_1,()),(b1_0,b1_1,()),(b2_0,()),b3,())) (t99_0 x3n x3c x4 x5 b0_0 b0_1 b1_0 b1_1 b2_0 b3) :=
  Walks.ok (fun _ _ _=>BodyRuns.of) (wk99_0 x3n x3c x4 x5 b0_0 b0_1 b1_0 b1_1 b2_0 b3) (by kernel_rfl)

theorem ok99_0:LoopOk Go.Proofs.Try.prog 99 0 lc99_0:=loopOk_ofB (sh:=sh99_0) (shB:=shb99_0) (shR:=shr99_0) kl99_2_ok.base (T:=fun (d:sh99_0.data)=>t99_0 d.1.1.1 d.1.1.2 d.1.2.1 d.1.2.2.1 d.2.1.1 d.2.1.2.1 d.2.2.1.1 d.2.2.1.2.1 d.2.2.2.1.1 d.2.2.2.2.1) (by kernel_rfl) rfl (fun (d:sh99_0.data)=>ok99_0_t d.1.1.1 d.1.1.2 d.1.2.1 d.1.2.2.1 d.2.1.1 d.2.1.2.1 d.2.2.1.1 d.2.2.1.2.1 d.2.2.2.1.1 d.2.2.2.2.1) (fun _=>rfl)
def kl99_0 (P:Go.Program):Known:=(kl99_2 P).loop 99 0 lc99_0
theorem kl99_0_ok:KnownOk Go.Proofs.Try.prog (kl99_0 Go.Proofs.Try.prog):=kl99_2_ok.loop ok99_0

/-! ductility/ductilitybase.WideFloor -/

abbrev as99:List Ty:=[(.pair (.int .i64) (.pair (.slice (.int .i64)) .unit)),(.pair (.int .i64) (.pair (.slice (.int .i64)) .unit))]
abbrev rs99:List Ty:=[(.pair (.int .i64) (.pair (.slice (.int .i64)) .unit))]

def t99 (x0:Int) (x0':(List Int)) (x1:Int) (x1':(List Int)):Tr (Tys.data rs99) :=
  Tr.test ((eqF x0 0:Bool))
    (Tr.fin ((((0:Int),(([]:List Int),())),())))
    (Tr.test (decide ((0:Int) ≤ (↑(List.length x0'):Int)) && decide ((↑(List.length x0'):Int) ≤ (↑(List.length x0'):Int)) && decide ((8:Int) * (↑(List.length x0'):Int) ≤ (281474976710656:Int)) && decide ((↑(List.length x0'):Int) ≤ (281474976710656:Int)))
      (Tr.test (isBrk (l99_0 ((((Int.toNat (↑(List.length x0'):Int):Nat),(Int.toNat (↑(List.length x0'):Int):Nat)),(([]:List Int),((wrap64 ((↑(List.length x0'):Int) - (1:Int)):Int),()))),((x0,(x0',())),((x1,(x1',())),(((0:Int),()),((List.replicate (Int.toNat (↑(List.length x0'):Int)) (0:Int):List Int),())))))))
        (let r0:=b99_0 ((((Int.toNat (↑(List.length x0'):Int):Nat),(Int.toNat (↑(List.length x0'):Int):Nat)),(([]:List Int),((wrap64 ((↑(List.length x0'):Int) - (1:Int)):Int),()))),((x0,(x0',())),((x1,(x1',())),(((0:Int),()),((List.replicate (Int.toNat (↑(List.length x0'):Int)) (0:Int):List Int),())))));
        Tr.test ((Nat.beq r0.1.1.1 (List.length r0.2.2.2.2.1):Bool))
          (Tr.test (Option.isSome (f95 (r0.2.1.1,(r0.2.2.2.2.1,()))))
            (Tr.test ((!leF (0:Int) r0.2.1.1:Bool))
              (Tr.test ((!leF (↑(List.length r0.1.2.1):Int) (0:Int):Bool))
                (Tr.test (Option.isSome (f61 ((1:Int),())))
                  (let r1:=g95 (r0.2.1.1,(r0.2.2.2.2.1,()));
                  let r3:=g61 ((1:Int),());
                  Tr.test (Option.isSome (f115 ((r1.1.1,(r1.1.2.1,())),((r3.1.1,(r3.1.2.1,())),()))))
                    (let r4:=g115 ((r1.1.1,(r1.1.2.1,())),((r3.1.1,(r3.1.2.1,())),()));
                    Tr.fin (((r4.1.1,(r4.1.2.1,())),())))
                    (Tr.stop))
                  (Tr.stop))
                (let r1:=g95 (r0.2.1.1,(r0.2.2.2.2.1,()));
                Tr.fin (((r1.1.1,(r1.1.2.1,())),()))))
              (let r1:=g95 (r0.2.1.1,(r0.2.2.2.2.1,()));
              Tr.fin (((r1.1.1,(r1.1.2.1,())),()))))
            (Tr.stop))
          (Tr.test ((Nat.ble r0.1.1.1 (List.length r0.2.2.2.2.1):Bool))
            (Tr.test (Option.isSome (f95 (r0.2.1.1,((List.take r0.1.1.1 r0.2.2.2.2.1:List Int),()))))
              (Tr.test ((!leF (0:Int) r0.2.1.1:Bool))
                (Tr.test ((!leF (↑(List.length r0.1.2.1):Int) (0:Int):Bool))
                  (Tr.test (Option.isSome (f61 ((1:Int),())))
                    (let r2:=g95 (r0.2.1.1,((List.take r0.1.1.1 r0.2.2.2.2.1:List Int),()));
                    let r3:=g61 ((1:Int),());
                    Tr.test (Option.isSome (f115 ((r2.1.1,(r2.1.2.1,())),((r3.1.1,(r3.1.2.1,())),()))))
                      (let r5:=g115 ((r2.1.1,(r2.1.2.1,())),((r3.1.1,(r3.1.2.1,())),()));
                      Tr.fin (((r5.1.1,(r5.1.2.1,())),())))
                      (Tr.stop))
                    (Tr.stop))
                  (let r2:=g95 (r0.2.1.1,((List.take r0.1.1.1 r0.2.2.2.2.1:List Int),()));
                  Tr.fin (((r2.1.1,(r2.1.2.1,())),()))))
                (let r2:=g95 (r0.2.1.1,((List.take r0.1.1.1 r0.2.2.2.2.1:List Int),()));
                Tr.fin (((r2.1.1,(r2.1.2.1,())),()))))
              (Tr.stop))
            (Tr.stop /- a known call [op 3 of region 16 of F99] -/)))
        (Tr.stop))
      (Tr.stop))

def f99 (d:Tys.data as99):Option (Tys.data rs99):=(t99 d.1.1 d.1.2.1 d.2.1.1 d.2.1.2.1).val
def g99 (d:Tys.data as99):Tys.data rs99:=(f99 d).getD (Tys.dflt rs99)
def p99:PureC:=pcOf as99 rs99 f99 g99

theorem wk99 (x0:Int) (x0':(List Int)) (x1:Int) (x1':(List Int)):Walks (runPure (kl99_0 Go.Proofs.Try.prog).orc Go.Proofs.Try.prog 400 99 as99 rs99 ((x0,x0',()),(x1,x1',()),())) (t99 x0 x0' x1 x1') [([tt],[2]),([false,true,true,true,true,true,true,true,true],[2,4,6,8,8,8,8,10,12,1,14,16,18]),([false,true,true,true,true,true,false],[2,4,4,4,4,6,8,1,10,12,14]),([false,true,true,true,true,false],[0,2,2,2,2,4,6,1,8,10,12]),([false,true,true,false,true,true,true,true,true,true],[2,4,6,8,8,8,8,10,12,14,1,16,18,20]),([false,true,true,false,true,true,true,false],[2,4,4,4,4,6,8,10,1,12,14,16]),([false,true,true,false,true,true,false],[0,2,2,2,2,4,6,8,1,10,12,14])] :=
  ⟨by kernel_rfl,by kernel_rfl,by kernel_rfl,by kernel_rfl,by kernel_rfl,by kernel_rfl,by kernel_rfl,trivial⟩

theorem ok99_t (x0:Int) (x0':(List Int)) (x1:Int) (x1':(List Int)):TrOk (PureRuns Go.Proofs.Try.prog (kl99_0 Go.Proofs.Try.prog).orc 99 as99 rs99 ((x0,x0',()),(x1,x1',()),())) (t99 x0 x0' x1 x1') :=
  Walks.ok (fun _ _ _=>PureRuns.of) (wk99 x0 x0' x1 x1') (by kernel_rfl)

theorem ok99:PureOk Go.Proofs.Try.prog 99 p99:=pureOk_of kl99_0_ok.base (T:=fun (d:Tys.data as99)=>t99 d.1.1 d.1.2.1 d.2.1.1 d.2.1.2.1) (by kernel_rfl) (fun (d:Tys.data as99)=>ok99_t d.1.1 d.1.2.1 d.2.1.1 d.2.1.2.1)
def kf99 (P:Go.Program):Known:=(kl99_0 P).func 99 p99
theorem kf99_ok:KnownOk Go.Proofs.Try.prog (kf99 Go.Proofs.Try.prog):=kl99_0_ok.func ok99

/-! loop 0 of ductility/ductilitybase.wideGcd -/

abbrev sh97_0:Sh:={ n:=23,slots:=[2,3,4],pats:=[.ptr 0 2 0,.ptr 1 2 0,.ptr 2 2 0],boxes:=[.row [.ty (.int .i64),.ty (.slice (.int .i64))],.row [.ty (.int .i64),.ty (.slice (.int .i64))],.row [.ty (.int .i64),.nil]] }
abbrev shb97_0:Sh:={ n:=23,slots:=[2,4],pats:=[.ptr 0 2 0,.ptr 2 2 0],boxes:=[.row [.ty (.int .i64),.ty (.slice (.int .i64))],.row [.ty (.int .i64),.ty (.slice (.int .i64))],.row [.ty (.int .i64),.nil]] }
abbrev shr97_0:Sh:={ n:=23,slots:=[],pats:=[],boxes:=[.row [.ty (.int .i64),.ty (.slice (.int .i64))],.row [.ty (.int .i64),.ty (.slice (.int .i64))],.row [.ty (.int .i64),.nil]] }

def t97_0 (b0_0:Int) (b0_1:(List Int)) (b1_0:Int) (b1_1:(List Int)) (b2_0:Int):Tr (Out sh97_0.data shb97_0.data shr97_0.data) :=
  Tr.test (Option.isSome (f65 ((b1_0,(b1_1,())),())))
    (let r0:=g65 ((b1_0,(b1_1,())),());
    Tr.test ((!eqF r0.1 0:Bool))
      (Tr.test (Option.isSome (f99 ((b0_0,(b0_1,())),((b1_0,(b1_1,())),()))))
        (let r1:=g99 ((b0_0,(b0_1,())),((b1_0,(b1_1,())),()));
        Tr.test (Option.isSome (f64 ((r1.1.1,(r1.1.2.1,())),((b1_0,(b1_1,())),()))))
          (let r2:=g64 ((r1.1.1,(r1.1.2.1,())),((b1_0,(b1_1,())),()));
          Tr.test (Option.isSome (f115 ((b0_0,(b0_1,())),((r2.1.1,(r2.1.2.1,())),()))))
            (let r3:=g115 ((b0_0,(b0_1,())),((r2.1.1,(r2.1.2.1,())),()));
            Tr.fin (.again ((),((b1_0,(b1_1,())),((r3.1.1,(r3.1.2.1,())),((b2_0,()),()))))))
            (Tr.stop))
          (Tr.stop))
        (Tr.stop))
      (Tr.fin (.brk ((),((b0_0,(b0_1,())),((b1_0,(b1_1,())),((b2_0,()),())))))))
    (Tr.stop)

def s97_0 (d:sh97_0.data):Option (Out sh97_0.data shb97_0.data shr97_0.data):=(t97_0 d.2.1.1 d.2.1.2.1 d.2.2.1.1 d.2.2.1.2.1 d.2.2.2.1.1).val
def l97_0 (d:sh97_0.data):Option (shb97_0.data ⊕ shr97_0.data):=itr s97_0 rounds d
def b97_0 (d:sh97_0.data):shb97_0.data:=outB shb97_0.dflt (l97_0 d)
def lc97_0:LoopC:=lcB sh97_0 shb97_0 shr97_0 l97_0 b97_0

theorem wk97_0 (b0_0:Int) (b0_1:(List Int)) (b1_0:Int) (b1_1:(List Int)) (b2_0:Int):Walks (runBody (kf99 Go.Proofs.Try.prog).orc Go.Proofs.Try.prog 400 97 0 sh97_0 shb97_0 shr97_0 ((),(b0_0,b0_1,()),(b1_0,b1_1,()),(b2_0,()),())) (t97_0 b0_0 b0_1 b1_0 b1_1 b2_0) [([true,true,true,true,true],[2,4,6,8,10]),([true,false],[2,4])] :=
  ⟨by kernel_rfl,by kernel_rfl,trivial⟩

theorem ok97_0_t (b0_0:Int) (b0_1:(List Int)) (b1_0:Int) (b1_1:(List Int)) (b2_0:Int):TrOk (BodyRuns Go.Proofs.Try.prog (kf99 Go.Proofs.Try.prog).orc 97 0 sh97_0 shb97_0 shr97_0 ((),(b0_0,b0_1,()),(b1_0,b1_1,()),(b2_0,()),())) (t97_0 b0_0 b0_1 b1_0 b1_1 b2_0) :=
  Walks.ok (fun _ _ _=>BodyRuns.of) (wk97_0 b0_0 b0_1 b1_0 b1_1 b2_0) (by kernel_rfl)

theorem ok97_0:LoopOk Go.Proofs.Try.prog 97 0 lc97_0:=loopOk_ofB (sh:=sh97_0) (shB:=shb97_0) (shR:=shr97_0) kf99_ok.base (T:=fun (d:sh97_0.data)=>t97_0 d.2.1.1 d.2.1.2.1 d.2.2.1.1 d.2.2.1.2.1 d.2.2.2.1.1) (by kernel_rfl) rfl (fun (d:sh97_0.data)=>ok97_0_t d.2.1.1 d.2.1.2.1 d.2.2.1.1 d.2.2.1.2.1 d.2.2.2.1.1) (fun _=>rfl)
def kl97_0 (P:Go.Program):Known:=(kf99 P).loop 97 0 lc97_0
theorem kl97_0_ok:KnownOk Go.Proofs.Try.prog (kl97_0 Go.Proofs.Try.prog):=kf99_ok.loop ok97_0

/-! ductility/ductilitybase.wideGcd -/

abbrev as97:List Ty:=[(.pair (.int .i64) (.pair (.slice (.int .i64)) .unit)),(.pair (.int .i64) (.pair (.slice (.int .i64)) .unit))]
abbrev rs97:List Ty:=[(.pair (.int .i64) (.pair (.slice (.int .i64)) .unit))]

def t97 (x0:Int) (x0':(List Int)) (x1:Int) (x1':(List Int)):Tr (Tys.data rs97) :=
  Tr.test (Option.isSome (f114 ((x0,(x0',())),())))
    (Tr.test (Option.isSome (f114 ((x1,(x1',())),())))
      (let r0:=g114 ((x0,(x0',())),());
      let r1:=g114 ((x1,(x1',())),());
      Tr.test (isBrk (l97_0 ((),((r0.1.1,(r0.1.2.1,())),((r1.1.1,(r1.1.2.1,())),(((0:Int),()),()))))))
        (let r2:=b97_0 ((),((r0.1.1,(r0.1.2.1,())),((r1.1.1,(r1.1.2.1,())),(((0:Int),()),()))));
        Tr.fin (((r2.2.1.1,(r2.2.1.2.1,())),())))
        (Tr.stop))
      (Tr.stop))
    (Tr.stop)

def f97 (d:Tys.data as97):Option (Tys.data rs97):=(t97 d.1.1 d.1.2.1 d.2.1.1 d.2.1.2.1).val
def g97 (d:Tys.data as97):Tys.data rs97:=(f97 d).getD (Tys.dflt rs97)
def p97:PureC:=pcOf as97 rs97 f97 g97

theorem wk97 (x0:Int) (x0':(List Int)) (x1:Int) (x1':(List Int)):Walks (runPure (kl97_0 Go.Proofs.Try.prog).orc Go.Proofs.Try.prog 400 97 as97 rs97 ((x0,x0',()),(x1,x1',()),())) (t97 x0 x0' x1 x1') [([true,true,true],[1,2,4,6])] :=
  ⟨by kernel_rfl,trivial⟩

theorem ok97_t (x0:Int) (x0':(List Int)) (x1:Int) (x1':(List Int)):TrOk (PureRuns Go.Proofs.Try.prog (kl97_0 Go.Proofs.Try.prog).orc 97 as97 rs97 ((x0,x0',()),(x1,x1',()),())) (t97 x0 x0' x1 x1') :=
  Walks.ok (fun _ _ _=>PureRuns.of) (wk97 x0 x0' x1 x1') (by kernel_rfl)

theorem ok97:PureOk Go.Proofs.Try.prog 97 p97:=pureOk_of kl97_0_ok.base (T:=fun (d:Tys.data as97)=>t97 d.1.1 d.1.2.1 d.2.1.1 d.2.1.2.1) (by kernel_rfl) (fun (d:Tys.data as97)=>ok97_t d.1.1 d.1.2.1 d.2.1.1 d.2.1.2.1)
def kf97 (P:Go.Program):Known:=(kl97_0 P).func 97 p97
theorem kf97_ok:KnownOk Go.Proofs.Try.prog (kf97 Go.Proofs.Try.prog):=kl97_0_ok.func ok97

/-! ductility/ductilitybase.WideCmp -/

abbrev as98:List Ty:=[(.pair (.int .i64) (.pair (.slice (.int .i64)) .unit)),(.pair (.int .i64) (.pair (.slice (.int .i64)) .unit))]
abbrev rs98:List Ty:=[(.int .i64)]

def t98 (x0:Int) (x0':(List Int)) (x1:Int) (x1':(List Int)):Tr (Tys.data rs98) :=
  Tr.test (Option.isSome (f115 ((x0,(x0',())),((x1,(x1',())),()))))
    (let r0:=g115 ((x0,(x0',())),((x1,(x1',())),()));
    Tr.fin ((r0.1.1,())))
    (Tr.stop)

def f98 (d:Tys.data as98):Option (Tys.data rs98):=(t98 d.1.1 d.1.2.1 d.2.1.1 d.2.1.2.1).val
def g98 (d:Tys.data as98):Tys.data rs98:=(f98 d).getD (Tys.dflt rs98)
def p98:PureC:=pcOf as98 rs98 f98 g98

theorem wk98 (x0:Int) (x0':(List Int)) (x1:Int) (x1':(List Int)):Walks (runPure (kf97 Go.Proofs.Try.prog).orc Go.Proofs.Try.prog 400 98 as98 rs98 ((x0,x0',()),(x1,x1',()),())) (t98 x0 x0' x1 x1') [([tt],[2])] :=
  ⟨by kernel_rfl,trivial⟩

theorem ok98_t (x0:Int) (x0':(List Int)) (x1:Int) (x1':(List Int)):TrOk (PureRuns Go.Proofs.Try.prog (kf97 Go.Proofs.Try.prog).orc 98 as98 rs98 ((x0,x0',()),(x1,x1',()),())) (t98 x0 x0' x1 x1') :=
  Walks.ok (fun _ _ _=>PureRuns.of) (wk98 x0 x0' x1 x1') (by kernel_rfl)

theorem ok98:PureOk Go.Proofs.Try.prog 98 p98:=pureOk_of kf97_ok.base (T:=fun (d:Tys.data as98)=>t98 d.1.1 d.1.2.1 d.2.1.1 d.2.1.2.1) (by kernel_rfl) (fun (d:Tys.data as98)=>ok98_t d.1.1 d.1.2.1 d.2.1.1 d.2.1.2.1)
def kf98 (P:Go.Program):Known:=(kf97 P).func 98 p98
theorem kf98_ok:KnownOk Go.Proofs.Try.prog (kf98 Go.Proofs.Try.prog):=kf97_ok.func ok98

/-! ductility/ductilitybase.RatioMake -/

abbrev as62:List Ty:=[(.pair (.int .i64) (.pair (.slice (.int .i64)) .unit)),(.pair (.int .i64) (.pair (.slice (.int .i64)) .unit))]
abbrev rs62:List Ty:=[(.pair (.pair (.int .i64) (.pair (.slice (.int .i64)) .unit)) (.pair (.pair (.int .i64) (.pair (.slice (.int .i64)) .unit)) .unit))]

def t62 (x0:Int) (x0':(List Int)) (x1:Int) (x1':(List Int)):Tr (Tys.data rs62) :=
  Tr.test (Option.isSome (f65 ((x1,(x1',())),())))
    (let r0:=g65 ((x1,(x1',())),());
    Tr.test ((!leF (0:Int) r0.1:Bool))
      (Tr.test (Option.isSome (f96 ((x0,(x0',())),())))
        (Tr.test (Option.isSome (f96 ((x1,(x1',())),())))
          (let r1:=g96 ((x0,(x0',())),());
          let r2:=g96 ((x1,(x1',())),());
          Tr.test (Option.isSome (f97 ((r1.1.1,(r1.1.2.1,())),((r2.1.1,(r2.1.2.1,())),()))))
            (Tr.test (Option.isSome (f61 ((1:Int),())))
              (let r3:=g97 ((r1.1.1,(r1.1.2.1,())),((r2.1.1,(r2.1.2.1,())),()));
              let r4:=g61 ((1:Int),());
              Tr.test (Option.isSome (f98 ((r3.1.1,(r3.1.2.1,())),((r4.1.1,(r4.1.2.1,())),()))))
                (let r5:=g98 ((r3.1.1,(r3.1.2.1,())),((r4.1.1,(r4.1.2.1,())),()));
                Tr.test ((eqF r5.1 0:Bool))
                  (Tr.fin ((((r1.1.1,(r1.1.2.1,())),((r2.1.1,(r2.1.2.1,())),())),())))
                  (Tr.test (Option.isSome (f99 ((r1.1.1,(r1.1.2.1,())),((r3.1.1,(r3.1.2.1,())),()))))
                    (Tr.test (Option.isSome (f99 ((r2.1.1,(r2.1.2.1,())),((r3.1.1,(r3.1.2.1,())),()))))
                      (let r6:=g99 ((r1.1.1,(r1.1.2.1,())),((r3.1.1,(r3.1.2.1,())),()));
                      let r7:=g99 ((r2.1.1,(r2.1.2.1,())),((r3.1.1,(r3.1.2.1,())),()));
                      Tr.fin ((((r6.1.1,(r6.1.2.1,())),((r7.1.1,(r7.1.2.1,())),())),())))
                      (Tr.stop))
                    (Tr.stop)))
                (Tr.stop))
              (Tr.stop))
            (Tr.stop))
          (Tr.stop))
        (Tr.stop))
      (Tr.test (Option.isSome (f97 ((x0,(x0',())),((x1,(x1',())),()))))
        (Tr.test (Option.isSome (f61 ((1:Int),())))
          (let r4:=g61 ((1:Int),());
          let r8:=g97 ((x0,(x0',())),((x1,(x1',())),()));
          Tr.test (Option.isSome (f98 ((r8.1.1,(r8.1.2.1,())),((r4.1.1,(r4.1.2.1,())),()))))
            (let r9:=g98 ((r8.1.1,(r8.1.2.1,())),((r4.1.1,(r4.1.2.1,())),()));
            Tr.test ((eqF r9.1 0:Bool))
              (Tr.fin ((((x0,(x0',())),((x1,(x1',())),())),())))
              (Tr.test (Option.isSome (f99 ((x0,(x0',())),((r8.1.1,(r8.1.2.1,())),()))))
                (Tr.test (Option.isSome (f99 ((x1,(x1',())),((r8.1.1,(r8.1.2.1,())),()))))
                  (let r10:=g99 ((x0,(x0',())),((r8.1.1,(r8.1.2.1,())),()));
                  let r11:=g99 ((x1,(x1',())),((r8.1.1,(r8.1.2.1,())),()));
                  Tr.fin ((((r10.1.1,(r10.1.2.1,())),((r11.1.1,(r11.1.2.1,())),())),())))
                  (Tr.stop))
                (Tr.stop)))
            (Tr.stop))
          (Tr.stop))
        (Tr.stop)))
    (Tr.stop)

def f62 (d:Tys.data as62):Option (Tys.data rs62):=(t62 d.1.1 d.1.2.1 d.2.1.1 d.2.1.2.1).val
def g62 (d:Tys.data as62):Tys.data rs62:=(f62 d).getD (Tys.dflt rs62)
def p62:PureC:=pcOf as62 rs62 f62 g62

theorem wk62 (x0:Int) (x0':(List Int)) (x1:Int) (x1':(List Int)):Walks (runPure (kf98 Go.Proofs.Try.prog).orc Go.Proofs.Try.prog 400 62 as62 rs62 ((x0,x0',()),(x1,x1',()),())) (t62 x0 x0' x1 x1') [([true,true,true,true,true,true,true,true],[2,4,6,8,10,12,14,16]),([true,true,true,true,true,true,true,false,true,true],[2,4,6,8,10,12,14,16,18,20]),([true,false,true,true,true,true],[2,4,6,8,10,12]),([true,false,true,true,true,false,true,true],[2,4,6,8,10,12,14,16])] :=
  ⟨by kernel_rfl,by kernel_rfl,by kernel_rfl,by kernel_rfl,trivial⟩

theorem ok62_t (x0:Int) (x0':(List Int)) (x1:Int) (x1':(List Int)):TrOk (PureRuns Go.Proofs.Try.prog (kf98 Go.Proofs.Try.prog).orc 62 as62 rs62 ((x0,x0',()),(x1,x1',()),())) (t62 x0 x0' x1 x1') :=
  Walks.ok (fun _ _ _=>PureRuns.of) (wk62 x0 x0' x1 x1') (by kernel_rfl)

theorem ok62:PureOk Go.Proofs.Try.prog 62 p62:=pureOk_of kf98_ok.base (T:=fun (d:Tys.data as62)=>t62 d.1.1 d.1.2.1 d.2.1.1 d.2.1.2.1) (by kernel_rfl) (fun (d:Tys.data as62)=>ok62_t d.1.1 d.1.2.1 d.2.1.1 d.2.1.2.1)
def kf62 (P:Go.Program):Known:=(kf98 P).func 62 p62
theorem kf62_ok:KnownOk Go.Proofs.Try.prog (kf62 Go.Proofs.Try.prog):=kf98_ok.func ok62

/-! ductility/ductilitybase.RatioMul -/

abbrev as27:List Ty:=[(.pair (.pair (.int .i64) (.pair (.slice (.int .i64)) .unit)) (.pair (.pair (.int .i64) (.pair (.slice (.int .i64)) .unit)) .unit)),(.pair (.pair (.int .i64) (.pair (.slice (.int .i64)) .unit)) (.pair (.pair (.int .i64) (.pair (.slice (.int .i64)) .unit)) .unit))]
abbrev rs27:List Ty:=[(.pair (.pair (.int .i64) (.pair (.slice (.int .i64)) .unit)) (.pair (.pair (.int .i64) (.pair (.slice (.int .i64)) .unit)) .unit))]

def t27 (x0_:Int) (x0_':(List Int)) (x0'_:Int) (x0'_':(List Int)) (x1_:Int) (x1_':(List Int)) (x1'_:Int) (x1'_':(List Int)):Tr (Tys.data rs27) :=
  Tr.test (Option.isSome (f64 ((x0_,(x0_',())),((x1_,(x1_',())),()))))
    (Tr.test (Option.isSome (f64 ((x0'_,(x0'_',())),((x1'_,(x1'_',())),()))))
      (let r0:=g64 ((x0_,(x0_',())),((x1_,(x1_',())),()));
      let r1:=g64 ((x0'_,(x0'_',())),((x1'_,(x1'_',())),()));
      Tr.test (Option.isSome (f62 ((r0.1.1,(r0.1.2.1,())),((r1.1.1,(r1.1.2.1,())),()))))
        (let r2:=g62 ((r0.1.1,(r0.1.2.1,())),((r1.1.1,(r1.1.2.1,())),()));
        Tr.fin ((((r2.1.1.1,(r2.1.1.2.1,())),((r2.1.2.1.1,(r2.1.2.1.2.1,())),())),())))
        (Tr.stop))
      (Tr.stop))
    (Tr.stop)

def f27 (d:Tys.data as27):Option (Tys.data rs27):=(t27 d.1.1.1 d.1.1.2.1 d.1.2.1.1 d.1.2.1.2.1 d.2.1.1.1 d.2.1.1.2.1 d.2.1.2.1.1 d.2.1.2.1.2.1).val
def g27 (d:Tys.data as27):Tys.data rs27:=(f27 d).getD (Tys.dflt rs27)
def p27:PureC:=pcOf as27 rs27 f27 g27

theorem wk27 (x0_:Int) (x0_':(List Int)) (x0'_:Int) (x0'_':(List Int)) (x1_:Int) (x1_':(List Int)) (x1'_:Int) (x1'_':(List Int)):Walks (runPure (kf62 Go.Proofs.Try.prog).orc Go.Proofs.Try.prog 400 27 as27 rs27 (((x0_,x0_',()),(x0'_,x0'_',()),()),((x1_,x1_',()),(x1'_,x1'_',()),()),())) (t27 x0_ x0_' x0'_ x0'_' x1_ x1_' x1'_ x1'_') [([true,true,true],[2,4,6])] :=
  ⟨by kernel_rfl,trivial⟩

theorem ok27_t (x0_:Int) (x0_':(List Int)) (x0'_:Int) (x0'_':(List Int)) (x1_:Int) (x1_':(List Int)) (x1'_:Int) (x1'_':(List Int)):TrOk (PureRuns Go.Proofs.Try.prog (kf62 Go.Proofs.Try.prog).orc 27 as27 rs27 (((x0_,x0_',()),(x0'_,x0'_',()),()),((x1_,x1_',()),(x1'_,x1'_',()),()),())) (t27 x0_ x0_' x0'_ x0'_' x1_ x1_' x1'_ x1'_') :=
  Walks.ok (fun _ _ _=>PureRuns.of) (wk27 x0_ x0_' x0'_ x0'_' x1_ x1_' x1'_ x1'_') (by kernel_rfl)

theorem ok27:PureOk Go.Proofs.Try.prog 27 p27:=pureOk_of kf62_ok.base (T:=fun (d:Tys.data as27)=>t27 d.1.1.1 d.1.1.2.1 d.1.2.1.1 d.1.2.1.2.1 d.2.1.1.1 d.2.1.1.2.1 d.2.1.2.1.1 d.2.1.2.1.2.1) (by kernel_rfl) (fun (d:Tys.data as27)=>ok27_t d.1.1.1 d.1.1.2.1 d.1.2.1.1 d.1.2.1.2.1 d.2.1.1.1 d.2.1.1.2.1 d.2.1.2.1.1 d.2.1.2.1.2.1)
def kf27 (P:Go.Program):Known:=(kf62 P).func 27 p27
theorem kf27_ok:KnownOk Go.Proofs.Try.prog (kf27 Go.Proofs.Try.prog):=kf62_ok.func ok27

/-! ductility/ductilitybase.RatioAdd -/

abbrev as26:List Ty:=[(.pair (.pair (.int .i64) (.pair (.slice (.int .i64)) .unit)) (.pair (.pair (.int .i64) (.pair (.slice (.int .i64)) .unit)) .unit)),(.pair (.pair (.int .i64) (.pair (.slice (.int .i64)) .unit)) (.pair (.pair (.int .i64) (.pair (.slice (.int .i64)) .unit)) .unit))]
abbrev rs26:List Ty:=[(.pair (.pair (.int .i64) (.pair (.slice (.int .i64)) .unit)) (.pair (.pair (.int .i64) (.pair (.slice (.int .i64)) .unit)) .unit))]

def t26 (x0_:Int) (x0_':(List Int)) (x0'_:Int) (x0'_':(List Int)) (x1_:Int) (x1_':(List Int)) (x1'_:Int) (x1'_':(List Int)):Tr (Tys.data rs26) :=
  Tr.test (Option.isSome (f64 ((x0_,(x0_',())),((x1'_,(x1'_',())),()))))
    (Tr.test (Option.isSome (f64 ((x1_,(x1_',())),((x0'_,(x0'_',())),()))))
      (let r0:=g64 ((x0_,(x0_',())),((x1'_,(x1'_',())),()));
      let r1:=g64 ((x1_,(x1_',())),((x0'_,(x0'_',())),()));
      Tr.test (Option.isSome (f63 ((r0.1.1,(r0.1.2.1,())),((r1.1.1,(r1.1.2.1,())),()))))
        (Tr.test (Option.isSome (f64 ((x0'_,(x0'_',())),((x1'_,(x1'_',())),()))))
          (let r2:=g63 ((r0.1.1,(r0.1.2.1,())),((r1.1.1,(r1.1.2.1,())),()));
          let r3:=g64 ((x0'_,(x0'_',())),((x1'_,(x1'_',())),()));
          Tr.test (Option.isSome (f62 ((r2.1.1,(r2.1.2.1,())),((r3.1.1,(r3.1.2.1,())),()))))
            (let r4:=g62 ((r2.1.1,(r2.1.2.1,())),((r3.1.1,(r3.1.2.1,())),()));
            Tr.fin ((((r4.1.1.1,(r4.1.1.2.1,())),((r4.1.2.1.1,(r4.1.2.1.2.1,())),())),())))
            (Tr.stop))
          (Tr.stop))
        (Tr.stop))
      (Tr.stop))
    (Tr.stop)

def f26 (d:Tys.data as26):Option (Tys.data rs26):=(t26 d.1.1.1 d.1.1.2.1 d.1.2.1.1 d.1.2.1.2.1 d.2.1.1.1 d.2.1.1.2.1 d.2.1.2.1.1 d.2.1.2.1.2.1).val
def g26 (d:Tys.data as26):Tys.data rs26:=(f26 d).getD (Tys.dflt rs26)
def p26:PureC:=pcOf as26 rs26 f26 g26

theorem wk26 (x0_:Int) (x0_':(List Int)) (x0'_:Int) (x0'_':(List Int)) (x1_:Int) (x1_':(List Int)) (x1'_:Int) (x1'_':(List Int)):Walks (runPure (kf27 Go.Proofs.Try.prog).orc Go.Proofs.Try.prog 400 26 as26 rs26 (((x0_,x0_',()),(x0'_,x0'_',()),()),((x1_,x1_',()),(x1'_,x1'_',()),()),())) (t26 x0_ x0_' x0'_ x0'_' x1_ x1_' x1'_ x1'_') [([true,true,true,true,true],[2,4,6,8,10])] :=
  ⟨by kernel_rfl,trivial⟩

theorem ok26_t (x0_:Int) (x0_':(List Int)) (x0'_:Int) (x0'_':(List Int)) (x1_:Int) (x1_':(List Int)) (x1'_:Int) (x1'_':(List Int)):TrOk (PureRuns Go.Proofs.Try.prog (kf27 Go.Proofs.Try.prog).orc 26 as26 rs26 (((x0_,x0_',()),(x0'_,x0'_',()),()),((x1_,x1_',()),(x1'_,x1'_',()),()),())) (t26 x0_ x0_' x0'_ x0'_' x1_ x1_' x1'_ x1'_') :=
  Walks.ok (fun _ _ _=>PureRuns.of) (wk26 x0_ x0_' x0'_ x0'_' x1_ x1_' x1'_ x1'_') (by kernel_rfl)

theorem ok26:PureOk Go.Proofs.Try.prog 26 p26:=pureOk_of kf27_ok.base (T:=fun (d:Tys.data as26)=>t26 d.1.1.1 d.1.1.2.1 d.1.2.1.1 d.1.2.1.2.1 d.2.1.1.1 d.2.1.1.2.1 d.2.1.2.1.1 d.2.1.2.1.2.1) (by kernel_rfl) (fun (d:Tys.data as26)=>ok26_t d.1.1.1 d.1.1.2.1 d.1.2.1.1 d.1.2.1.2.1 d.2.1.1.1 d.2.1.1.2.1 d.2.1.2.1.1 d.2.1.2.1.2.1)
def kf26 (P:Go.Program):Known:=(kf27 P).func 26 p26
theorem kf26_ok:KnownOk Go.Proofs.Try.prog (kf26 Go.Proofs.Try.prog):=kf27_ok.func ok26

/-! ductility/ductilitybase.RatioOf -/

abbrev as57:List Ty:=[(.int .i64),(.int .i64)]
abbrev rs57:List Ty:=[(.pair (.pair (.int .i64) (.pair (.slice (.int .i64)) .unit)) (.pair (.pair (.int .i64) (.pair (.slice (.int .i64)) .unit)) .unit))]

def t57 (x0:Int) (x1:Int):Tr (Tys.data rs57) :=
  Tr.test (Option.isSome (f61 (x0,())))
    (Tr.test (Option.isSome (f61 (x1,())))
      (let r0:=g61 (x0,());
      let r1:=g61 (x1,());
      Tr.test (Option.isSome (f62 ((r0.1.1,(r0.1.2.1,())),((r1.1.1,(r1.1.2.1,())),()))))
        (let r2:=g62 ((r0.1.1,(r0.1.2.1,())),((r1.1.1,(r1.1.2.1,())),()));
        Tr.fin ((((r2.1.1.1,(r2.1.1.2.1,())),((r2.1.2.1.1,(r2.1.2.1.2.1,())),())),())))
        (Tr.stop))
      (Tr.stop))
    (Tr.stop)

def f57 (d:Tys.data as57):Option (Tys.data rs57):=(t57 d.1 d.2.1).val
def g57 (d:Tys.data as57):Tys.data rs57:=(f57 d).getD (Tys.dflt rs57)
def p57:PureC:=pcOf as57 rs57 f57 g57

theorem wk57 (x0:Int) (x1:Int):Walks (runPure (kf26 Go.Proofs.Try.prog).orc Go.Proofs.Try.prog 400 57 as57 rs57 (x0,x1,())) (t57 x0 x1) [([true,true,true],[2,4,6])] :=
  ⟨by kernel_rfl,trivial⟩

theorem ok57_t (x0:Int) (x1:Int):TrOk (PureRuns Go.Proofs.Try.prog (kf26 Go.Proofs.Try.prog).orc 57 as57 rs57 (x0,x1,())) (t57 x0 x1) :=
  Walks.ok (fun _ _ _=>PureRuns.of) (wk57 x0 x1) (by kernel_rfl)

theorem ok57:PureOk Go.Proofs.Try.prog 57 p57:=pureOk_of kf26_ok.base (T:=fun (d:Tys.data as57)=>t57 d.1 d.2.1) (by kernel_rfl) (fun (d:Tys.data as57)=>ok57_t d.1 d.2.1)
def kf57 (P:Go.Program):Known:=(kf26 P).func 57 p57
theorem kf57_ok:KnownOk Go.Proofs.Try.prog (kf57 Go.Proofs.Try.prog):=kf26_ok.func ok57

/-! ductility/ductilitybase.RatioFrom -/

abbrev as17:List Ty:=[(.pair (.int .i64) (.pair (.int .i64) .unit))]
abbrev rs17:List Ty:=[(.pair (.pair (.int .i64) (.pair (.slice (.int .i64)) .unit)) (.pair (.pair (.int .i64) (.pair (.slice (.int .i64)) .unit)) .unit))]

def t17 (x0:Int) (x0':Int):Tr (Tys.data rs17) :=
  Tr.test (Option.isSome (f57 (x0,(x0',()))))
    (let r0:=g57 (x0,(x0',()));
    Tr.fin ((((r0.1.1.1,(r0.1.1.2.1,())),((r0.1.2.1.1,(r0.1.2.1.2.1,())),())),())))
    (Tr.stop)

def f17 (d:Tys.data as17):Option (Tys.data rs17):=(t17 d.1.1 d.1.2.1).val
def g17 (d:Tys.data as17):Tys.data rs17:=(f17 d).getD (Tys.dflt rs17)
def p17:PureC:=pcOf as17 rs17 f17 g17

theorem wk17 (x0:Int) (x0':Int):Walks (runPure (kf57 Go.Proofs.Try.prog).orc Go.Proofs.Try.prog 400 17 as17 rs17 ((x0,x0',()),())) (t17 x0 x0') [([tt],[2])] :=
  ⟨by kernel_rfl,trivial⟩

theorem ok17_t (x0:Int) (x0':Int):TrOk (PureRuns Go.Proofs.Try.prog (kf57 Go.Proofs.Try.prog).orc 17 as17 rs17 ((x0,x0',()),())) (t17 x0 x0') :=
  Walks.ok (fun _ _ _=>PureRuns.of) (wk17 x0 x0') (by kernel_rfl)

theorem ok17:PureOk Go.Proofs.Try.prog 17 p17:=pureOk_of kf57_ok.base (T:=fun (d:Tys.data as17)=>t17 d.1.1 d.1.2.1) (by kernel_rfl) (fun (d:Tys.data as17)=>ok17_t d.1.1 d.1.2.1)
def kf17 (P:Go.Program):Known:=(kf57 P).func 17 p17
theorem kf17_ok:KnownOk Go.Proofs.Try.prog (kf17 Go.Proofs.Try.prog):=kf57_ok.func ok17

/-! ductility/ductilitybase.RatioSign -/

abbrev as28:List Ty:=[(.pair (.pair (.int .i64) (.pair (.slice (.int .i64)) .unit)) (.pair (.pair (.int .i64) (.pair (.slice (.int .i64)) .unit)) .unit))]
abbrev rs28:List Ty:=[(.int .i64)]

def t28 (x0_:Int) (x0_':(List Int)) (x0'_:Int) (x0'_':(List Int)):Tr (Tys.data rs28) :=
  Tr.test (Option.isSome (f65 ((x0_,(x0_',())),())))
    (let r0:=g65 ((x0_,(x0_',())),());
    Tr.fin ((r0.1,())))
    (Tr.stop)

def f28 (d:Tys.data as28):Option (Tys.data rs28):=(t28 d.1.1.1 d.1.1.2.1 d.1.2.1.1 d.1.2.1.2.1).val
def g28 (d:Tys.data as28):Tys.data rs28:=(f28 d).getD (Tys.dflt rs28)
def p28:PureC:=pcOf as28 rs28 f28 g28

theorem wk28 (x0_:Int) (x0_':(List Int)) (x0'_:Int) (x0'_':(List Int)):Walks (runPure (kf17 Go.Proofs.Try.prog).orc Go.Proofs.Try.prog 400 28 as28 rs28 (((x0_,x0_',()),(x0'_,x0'_',()),()),())) (t28 x0_ x0_' x0'_ x0'_') [([tt],[2])] :=
  ⟨by kernel_rfl,trivial⟩

theorem ok28_t (x0_:Int) (x0_':(List Int)) (x0'_:Int) (x0'_':(List Int)):TrOk (PureRuns Go.Proofs.Try.prog (kf17 Go.Proofs.Try.prog).orc 28 as28 rs28 (((x0_,x0_',()),(x0'_,x0'_',()),()),())) (t28 x0_ x0_' x0'_ x0'_') :=
  Walks.ok (fun _ _ _=>PureRuns.of) (wk28 x0_ x0_' x0'_ x0'_') (by kernel_rfl)

theorem ok28:PureOk Go.Proofs.Try.prog 28 p28:=pureOk_of kf17_ok.base (T:=fun (d:Tys.data as28)=>t28 d.1.1.1 d.1.1.2.1 d.1.2.1.1 d.1.2.1.2.1) (by kernel_rfl) (fun (d:Tys.data as28)=>ok28_t d.1.1.1 d.1.1.2.1 d.1.2.1.1 d.1.2.1.2.1)
def kf28 (P:Go.Program):Known:=(kf17 P).func 28 p28
theorem kf28_ok:KnownOk Go.Proofs.Try.prog (kf28 Go.Proofs.Try.prog):=kf17_ok.func ok28

/-! ductility/ductilitybase.Whole -/

abbrev as29:List Ty:=[(.int .i64)]
abbrev rs29:List Ty:=[(.pair (.int .i64) (.pair (.int .i64) .unit))]

def t29 (x0:Int):Tr (Tys.data rs29) :=
  Tr.fin (((x0,((1:Int),())),()))

def f29 (d:Tys.data as29):Option (Tys.data rs29):=(t29 d.1).val
def g29 (d:Tys.data as29):Tys.data rs29:=(f29 d).getD (Tys.dflt rs29)
def p29:PureC:=pcOf as29 rs29 f29 g29

theorem wk29 (x0:Int):Walks (runPure (kf28 Go.Proofs.Try.prog).orc Go.Proofs.Try.prog 400 29 as29 rs29 (x0,())) (t29 x0) [([],[])] :=
  ⟨by kernel_rfl,trivial⟩

theorem ok29_t (x0:Int):TrOk (PureRuns Go.Proofs.Try.prog (kf28 Go.Proofs.Try.prog).orc 29 as29 rs29 (x0,())) (t29 x0) :=
  Walks.ok (fun _ _ _=>PureRuns.of) (wk29 x0) (by kernel_rfl)

theorem ok29:PureOk Go.Proofs.Try.prog 29 p29:=pureOk_of kf28_ok.base (T:=fun (d:Tys.data as29)=>t29 d.1) (by kernel_rfl) (fun (d:Tys.data as29)=>ok29_t d.1)
def kf29 (P:Go.Program):Known:=(kf28 P).func 29 p29
theorem kf29_ok:KnownOk Go.Proofs.Try.prog (kf29 Go.Proofs.Try.prog):=kf28_ok.func ok29

/-! ductility/ductilitybase.Floor -/

abbrev as66:List Ty:=[(.int .i64),(.int .i64)]
abbrev rs66:List Ty:=[(.int .i64)]

def t66 (x0:Int) (x1:Int):Tr (Tys.data rs66) :=
  Tr.test ((x1 == (0:Int):Bool))
    (Tr.stop)
    (Tr.test (!leF (0:Int) (Int.tmod x0 x1))
      (Tr.fin (((wrap64 (Go.IntKind.wrap Go.IntKind.i64 (Int.tdiv x0 x1) - (1:Int)):Int),())))
      (Tr.fin (((Go.IntKind.wrap Go.IntKind.i64 (Int.tdiv x0 x1):Int),()))))

def f66 (d:Tys.data as66):Option (Tys.data rs66):=(t66 d.1 d.2.1).val
def g66 (d:Tys.data as66):Tys.data rs66:=(f66 d).getD (Tys.dflt rs66)
def p66:PureC:=pcOf as66 rs66 f66 g66

theorem wk66 (x0:Int) (x1:Int):Walks (runPure (kf29 Go.Proofs.Try.prog).orc Go.Proofs.Try.prog 400 66 as66 rs66 (x0,x1,())) (t66 x0 x1) [([false,true],[2,4,4]),([false,false],[2,4,4])] :=
  ⟨by kernel_rfl,by kernel_rfl,trivial⟩

theorem ok66_t (x0:Int) (x1:Int):TrOk (PureRuns Go.Proofs.Try.prog (kf29 Go.Proofs.Try.prog).orc 66 as66 rs66 (x0,x1,())) (t66 x0 x1) :=
  Walks.ok (fun _ _ _=>PureRuns.of) (wk66 x0 x1) (by kernel_rfl)

theorem ok66:PureOk Go.Proofs.Try.prog 66 p66:=pureOk_of kf29_ok.base (T:=fun (d:Tys.data as66)=>t66 d.1 d.2.1) (by kernel_rfl) (fun (d:Tys.data as66)=>ok66_t d.1 d.2.1)
def kf66 (P:Go.Program):Known:=(kf29 P).func 66 p66
theorem kf66_ok:KnownOk Go.Proofs.Try.prog (kf66 Go.Proofs.Try.prog):=kf29_ok.func ok66

/-! loop 0 of ductility/ductilitybase.Compare -/

abbrev sh30_0:Sh:={ n:=47,slots:=[0,1,2,3],pats:=[.ty (.int .i64),.ty (.int .i64),.ty (.int .i64),.ty (.int .i64)],boxes:=[] }
abbrev shb30_0:Sh:={ n:=47,slots:=[],pats:=[],boxes:=[] }
abbrev shr30_0:Sh:={ n:=47,slots:=[8],pats:=[.ty (.int .i64)],boxes:=[] }

def t30_0 (x0:Int) (x1:Int) (x2:Int) (x3:Int):Tr (Out sh30_0.data shb30_0.data shr30_0.data) :=
  Tr.test (Option.isSome (f66 (x0,(x1,()))))
    (Tr.test (Option.isSome (f66 (x2,(x3,()))))
      (let r0:=g66 (x0,(x1,()));
      let r1:=g66 (x2,(x3,()));
      Tr.test ((!leF r1.1 r0.1:Bool))
        (Tr.fin (.ret (((-1:Int),()),())))
        (Tr.test ((!leF r0.1 r1.1:Bool))
          (Tr.fin (.ret (((1:Int),()),())))
          (Tr.test ((eqF (wrap64 (x0 - wrap64 (r0.1 * x1))) (0:Int):Bool))
            (Tr.test ((eqF (wrap64 (x2 - wrap64 (r1.1 * x3))) (0:Int):Bool))
              (Tr.fin (.ret (((0:Int),()),())))
              (Tr.fin (.ret (((-1:Int),()),()))))
            (Tr.test ((eqF (wrap64 (x2 - wrap64 (r1.1 * x3))) (0:Int):Bool))
              (Tr.fin (.ret (((1:Int),()),())))
              (Tr.fin (.again ((x3,((wrap64 (x2 - wrap64 (r1.1 * x3)):Int),(x1,((wrap64 (x0 - wrap64 (r0.1 * x1)):Int),())))),())))))))
      (Tr.stop))
    (Tr.stop)

def s30_0 (d:sh30_0.data):Option (Out sh30_0.data shb30_0.data shr30_0.data):=(t30_0 d.1.1 d.1.2.1 d.1.2.2.1 d.1.2.2.2.1).val
def l30_0 (d:sh30_0.data):Option (shb30_0.data ⊕ shr30_0.data):=itr s30_0 rounds d
def r30_0 (d:sh30_0.data):shr30_0.data:=outR shr30_0.dflt (l30_0 d)
def lc30_0:LoopC:=lcR sh30_0 shb30_0 shr30_0 l30_0 r30_0

theorem wk30_0 (x0:Int) (x1:Int) (x2:Int) (x3:Int):Walks (runBody (kf66 Go.Proofs.Try.prog).orc Go.Proofs.Try.prog 400 30 0 sh30_0 shb30_0 shr30_0 ((x0,x1,x2,x3,()),())) (t30_0 x0 x1 x2 x3) [([true,true,true],[2,4,6]),([true,true,false,true],[2,4,6,8]),([true,true,false,false,true,true],[2,4,4,4,6,8,10,12]),([true,true,false,false,true,false],[4,2,4,4,4,6,8,10,12]),([true,true,false,false,false,true],[2,4,0,4,4,4,6,8,10,12]),([true,true,false,false,false,false],[2,4,0,4,4,4,6,8,10,12])] :=
  ⟨by kernel_rfl,by kernel_rfl,by kernel_rfl,by kernel_rfl,by kernel_rfl,by kernel_rfl,trivial⟩

theorem ok30_0_t (x0:Int) (x1:Int) (x2:Int) (x3:Int):TrOk (BodyRuns Go.Proofs.Try.prog (kf66 Go.Proofs.Try.prog).orc 30 0 sh30_0 shb30_0 shr30_0 ((x0,x1,x2,x3,()),())) (t30_0 x0 x1 x2 x3) :=
  Walks.ok (fun _ _ _=>BodyRuns.of) (wk30_0 x0 x1 x2 x3) (by kernel_rfl)

theorem ok30_0:LoopOk Go.Proofs.Try.prog 30 0 lc30_0:=loopOk_ofR (sh:=sh30_0) (shB:=shb30_0) (shR:=shr30_0) kf66_ok.base (T:=fun (d:sh30_0.data)=>t30_0 d.1.1 d.1.2.1 d.1.2.2.1 d.1.2.2.2.1) (by kernel_rfl) rfl (fun (d:sh30_0.data)=>ok30_0_t d.1.1 d.1.2.1 d.1.2.2.1 d.1.2.2.2.1) (fun _=>rfl)
def kl30_0 (P:Go.Program):Known:=(kf66 P).loop 30 0 lc30_0
theorem kl30_0_ok:KnownOk Go.Proofs.Try.prog (kl30_0 Go.Proofs.Try.prog):=kf66_ok.loop ok30_0

/-! ductility/ductilitybase.Compare -/

abbrev as30:List Ty:=[(.int .i64),(.int .i64),(.int .i64),(.int .i64)]
abbrev rs30:List Ty:=[(.int .i64)]

def t30 (x0:Int) (x1:Int) (x2:Int) (x3:Int):Tr (Tys.data rs30) :=
  Tr.test (endsRet (l30_0 ((x0,(x1,(x2,(x3,())))),())))
    (let r0:=r30_0 ((x0,(x1,(x2,(x3,())))),());
    Tr.fin ((r0.1.1,())))
    (Tr.stop)

def f30 (d:Tys.data as30):Option (Tys.data rs30):=(t30 d.1 d.2.1 d.2.2.1 d.2.2.2.1).val
def g30 (d:Tys.data as30):Tys.data rs30:=(f30 d).getD (Tys.dflt rs30)
def p30:PureC:=pcOf as30 rs30 f30 g30

theorem wk30 (x0:Int) (x1:Int) (x2:Int) (x3:Int):Walks (runPure (kl30_0 Go.Proofs.Try.prog).orc Go.Proofs.Try.prog 400 30 as30 rs30 (x0,x1,x2,x3,())) (t30 x0 x1 x2 x3) [([tt],[1,2])] :=
  ⟨by kernel_rfl,trivial⟩

theorem ok30_t (x0:Int) (x1:Int) (x2:Int) (x3:Int):TrOk (PureRuns Go.Proofs.Try.prog (kl30_0 Go.Proofs.Try.prog).orc 30 as30 rs30 (x0,x1,x2,x3,())) (t30 x0 x1 x2 x3) :=
  Walks.ok (fun _ _ _=>PureRuns.of) (wk30 x0 x1 x2 x3) (by kernel_rfl)

theorem ok30:PureOk Go.Proofs.Try.prog 30 p30:=pureOk_of kl30_0_ok.base (T:=fun (d:Tys.data as30)=>t30 d.1 d.2.1 d.2.2.1 d.2.2.2.1) (by kernel_rfl) (fun (d:Tys.data as30)=>ok30_t d.1 d.2.1 d.2.2.1 d.2.2.2.1)
def kf30 (P:Go.Program):Known:=(kl30_0 P).func 30 p30
theorem kf30_ok:KnownOk Go.Proofs.Try.prog (kf30 Go.Proofs.Try.prog):=kl30_0_ok.func ok30

/-! loop 0 of ductility/ductilitylaw06.ModalSigns -/

abbrev sh4_0:Sh:={ n:=206,slots:=[3,4,5,7,9,11,13,15,16,17],pats:=[.ptr 0 2 0,.ptr 1 2 0,.ptr 2 2 0,.ty (.int .i64),.ty (.int .i64),.ty .bool,.ty (.slice (.int .i64)),.ptr 3 4 0,.ptr 4 4 0,.ty (.int .i64)],boxes:=[.row [.ty (.slice (.int .i64)),.ty (.slice (.int .i64))],.row [.ty (.int .i64),.ty (.int .i64)],.row [.ty (.int .i64),.ty (.int .i64)],.row [.ty (.int .i64),.ty (.slice (.int .i64)),.ty (.int .i64),.ty (.slice (.int .i64))],.row [.ty (.int .i64),.ty (.slice (.int .i64)),.ty (.int .i64),.ty (.slice (.int .i64))]] }
abbrev shb4_0:Sh:={ n:=206,slots:=[3,4,5,7,9,11,15],pats:=[.ptr 0 2 0,.ptr 1 2 0,.ptr 2 2 0,.ty (.int .i64),.ty (.int .i64),.ty .bool,.ptr 3 4 0],boxes:=[.row [.ty (.slice (.int .i64)),.ty (.slice (.int .i64))],.row [.ty (.int .i64),.ty (.int .i64)],.row [.ty (.int .i64),.ty (.int .i64)],.row [.ty (.int .i64),.ty (.slice (.int .i64)),.ty (.int .i64),.ty (.slice (.int .i64))],.row [.ty (.int .i64),.ty (.slice (.int .i64)),.ty (.int .i64),.ty (.slice (.int .i64))]] }
abbrev shr4_0:Sh:={ n:=206,slots:=[6],pats:=[.ty .bool],boxes:=[.row [.ty (.slice (.int .i64)),.ty (.slice (.int .i64))],.row [.ty (.int .i64),.ty (.int .i64)],.row [.ty (.int .i64),.ty (.int .i64)],.row [.ty (.int .i64),.ty (.slice (.int .i64)),.ty (.int .i64),.ty (.slice (.int .i64))],.row [.ty (.int .i64),.ty (.slice (.int .i64)),.ty (.int .i64),.ty (.slice (.int .i64))]] }

def t4_0 (x3:Int) (x4:Int) (x5:Bool) (x6:(List Int)) (x9:Int) (b0_0:(List Int)) (b0_1:(List Int)) (b1_0:Int) (b1_1:Int) (b2_0:Int) (b2_1:Int) (b3_0:Int) (b3_1:(List Int)) (b3_2:Int) (b3_3:(List Int)) (b4_0:Int) (b4_1:(List Int)) (b4_2:Int) (b4_3:(List Int)):Tr (Out sh4_0.data shb4_0.data shr4_0.data) :=
  Tr.test ((!leF (↑(List.length x6):Int) x9:Bool))
    (Tr.test (decide ((0:Int) ≤ x9) && decide (x9 < (↑(List.length x6):Int)))
      (Tr.test (Option.isSome (f21 ((List.getD x6 (Int.toNat x9) (0:Int):Int),((-1099511627776:Int),((1099511627776:Int),())))))
        (let r0:=g21 ((List.getD x6 (Int.toNat x9) (0:Int):Int),((-1099511627776:Int),((1099511627776:Int),())));
        Tr.test ((!r0.1:Bool))
          (Tr.fin (.ret (((false:Bool),()),((b0_0,(b0_1,())),((b1_0,(b1_1,())),((b2_0,(b2_1,())),((b3_0,(b3_1,(b3_2,(b3_3,())))),((b4_0,(b4_1,(b4_2,(b4_3,())))),()))))))))
          (Tr.test (Option.isSome (f25 ((List.getD x6 (Int.toNat x9) (0:Int):Int),())))
            (let r1:=g25 ((List.getD x6 (Int.toNat x9) (0:Int):Int),());
            Tr.test (Option.isSome (f27 (((r1.1.1.1,(r1.1.1.2.1,())),((r1.1.2.1.1,(r1.1.2.1.2.1,())),())),(((b4_0,(b4_1,())),((b4_2,(b4_3,())),())),()))))
              (let r2:=g27 (((r1.1.1.1,(r1.1.1.2.1,())),((r1.1.2.1.1,(r1.1.2.1.2.1,())),())),(((b4_0,(b4_1,())),((b4_2,(b4_3,())),())),()));
              Tr.test (Option.isSome (f26 (((b3_0,(b3_1,())),((b3_2,(b3_3,())),())),(((r2.1.1.1,(r2.1.1.2.1,())),((r2.1.2.1.1,(r2.1.2.1.2.1,())),())),()))))
                (Tr.test (Option.isSome (f17 ((b1_0,(b1_1,())),())))
                  (let r4:=g17 ((b1_0,(b1_1,())),());
                  Tr.test (Option.isSome (f27 (((b4_0,(b4_1,())),((b4_2,(b4_3,())),())),(((r4.1.1.1,(r4.1.1.2.1,())),((r4.1.2.1.1,(r4.1.2.1.2.1,())),())),()))))
                    (let r3:=g26 (((b3_0,(b3_1,())),((b3_2,(b3_3,())),())),(((r2.1.1.1,(r2.1.1.2.1,())),((r2.1.2.1.1,(r2.1.2.1.2.1,())),())),()));
                    let r5:=g27 (((b4_0,(b4_1,())),((b4_2,(b4_3,())),())),(((r4.1.1.1,(r4.1.1.2.1,())),((r4.1.2.1.1,(r4.1.2.1.2.1,())),())),()));
                    Tr.fin (.again ((x3,(x4,(x5,(x6,((wrap64 (x9 + (1:Int)):Int),()))))),((b0_0,(b0_1,())),((b1_0,(b1_1,())),((b2_0,(b2_1,())),((r3.1.1.1,(r3.1.1.2.1,(r3.1.2.1.1,(r3.1.2.1.2.1,())))),((r5.1.1.1,(r5.1.1.2.1,(r5.1.2.1.1,(r5.1.2.1.2.1,())))),()))))))))
                    (Tr.stop))
                  (Tr.stop))
                (Tr.stop))
              (Tr.stop))
            (Tr.stop)))
        (Tr.stop))
      (Tr.stop))
    (Tr.fin (.brk ((x3,(x4,(x5,()))),((b0_0,(b0_1,())),((b1_0,(b1_1,())),((b2_0,(b2_1,())),((b3_0,(b3_1,(b3_2,(b3_3,())))),((b4_0,(b4_1,(b4_2,(b4_3,())))),()))))))))

def s4_0 (d:sh4_0.data):Option (Out sh4_0.data shb4_0.data shr4_0.data):=(t4_0 d.1.1 d.1.2.1 d.1.2.2.1 d.1.2.2.2.1 d.1.2.2.2.2.1 d.2.1.1 d.2.1.2.1 d.2.2.1.1 d.2.2.1.2.1 d.2.2.2.1.1 d.2.2.2.1.2.1 d.2.2.2.2.1.1 d.2.2.2.2.1.2.1 d.2.2.2.2.1.2.2.1 d.2.2.2.2.1.2.2.2.1 d.2.2.2.2.2.1.1 d.2.2.2.2.2.1.2.1 d.2.2.2.2.2.1.2.2.1 d.2.2.2.2.2.1.2.2.2.1).val
def l4_0 (d:sh4_0.data):Option (shb4_0.data ⊕ shr4_0.data):=itr s4_0 rounds d
def b4_0 (d:sh4_0.data):shb4_0.data:=outB shb4_0.dflt (l4_0 d)
def r4_0 (d:sh4_0.data):shr4_0.data:=outR shr4_0.dflt (l4_0 d)
def lc4_0:LoopC:=lcOf sh4_0 shb4_0 shr4_0 l4_0 b4_0 r4_0

theorem wk4_0 (x3:Int) (x4:Int) (x5:Bool) (x6:(List Int)) (x9:Int) (b0_0:(List Int)) (b0_1:(List Int)) (b1_0:Int) (b1_1:Int) (b2_0:Int) (b2_1:Int) (b3_0:Int) (b3_1:(List Int)) (b3_2:Int) (b3_3:(List Int)) (b4_0:Int) (b4_1:(List Int)) (b4_2:Int) (b4_3:(List Int)):Walks (runBody (kf30 Go.Proofs.Try.prog).orc Go.Proofs.Try.prog 400 4 0 sh4_0 shb4_0 shr4_0 ((x3,x4,x5,x6,x9,()),(b0_0,b0_1,()),(b1_0,b1_1,()),(b2_0,b2_1,()),(b3_0,b3_1,b3_2,b3_3,()),(b4_0,b4_1,b4_2,b4_3,()),())) (t4_0 x3 x4 x5 x6 x9 b0_0 b0_1 b1_0 b1_1 b2_0 b2_1 b3_0 b3_1 b3_2 b3_3 b4_0 b4_1 b4_2 b4_3) [([true,true,true,true],[2,4,6,8]),([true,true,true,false,true,true,true,true,true],[2,4,6,8,10,16,12,14,16,18]),([ff],[2])] :=
  ⟨by kernel_rfl,by kernel_rfl,by kernel_rfl,trivial⟩

theorem ok4_0_t (x3:Int) (x4:Int) (x5:Bool) (x6:(List Int)) (x9:Int) (b0_0:(List Int)) (b0_1:(List Int)) (b1_0:Int) (b1_1:Int) (b2_0:Int) (b2_1:Int) (b3_0:Int) (b3_1:(List Int)) (b3_2:Int) (b3_3:(List Int)) (b4_0:Int) (b4_1:(List Int)) (b4_2:Int) (b4_3:(List Int)):TrOk (BodyRuns Go.Proofs.Try.prog (kf30 Go.Proofs.Try.prog).orc 4 0 sh4_0 shb4_0 shr4_0 ((x3,x4,x5,x6,x9,()),(b0_0,b0_1,()),(b1_0,b1_1,()),(b2_0,b2_1,()),(b3_0,b3_1,b3_2,b3_3,()),(b4_0,b4_1,b4_2,b4_3,()),())) (t4_0 x3 x4 x5 x6 x9 b0_0 b0_1 b1_0 b1_1 b2_0 b2_1 b3_0 b3_1 b3_2 b3_3 b4_0 b4_1 b4_2 b4_3) :=
  Walks.ok (fun _ _ _=>BodyRuns.of) (wk4_0 x3 x4 x5 x6 x9 b0_0 b0_1 b1_0 b1_1 b2_0 b2_1 b3_0 b3_1 b3_2 b3_3 b4_0 b4_1 b4_2 b4_3) (by kernel_rfl)

theorem ok4_0:LoopOk Go.Proofs.Try.prog 4 0 lc4_0:=loopOk_of (sh:=sh4_0) (shB:=shb4_0) (shR:=shr4_0) kf30_ok.base (T:=fun (d:sh4_0.data)=>t4_0 d.1.1 d.1.2.1 d.1.2.2.1 d.1.2.2.2.1 d.1.2.2.2.2.1 d.2.1.1 d.2.1.2.1 d.2.2.1.1 d.2.2.1.2.1 d.2.2.2.1.1 d.2.2.2.1.2.1 d.2.2.2.2.1.1 d.2.2.2.2.1.2.1 d.2.2.2.2.1.2.2.1 d.2.2.2.2.1.2.2.2.1 d.2.2.2.2.2.1.1 d.2.2.2.2.2.1.2.1 d.2.2.2.2.2.1.2.2.1 d.2.2.2.2.2.1.2.2.2.1) (by kernel_rfl) rfl (fun (d:sh4_0.data)=>ok4_0_t d.1.1 d.1.2.1 d.1.2.2.1 d.1.2.2.2.1 d.1.2.2.2.2.1 d.2.1.1 d.2.1.2.1 d.2.2.1.1 d.2.2.1.2.1 d.2.2.2.1.1 d.2.2.2.1.2.1 d.2.2.2.2.1.1 d.2.2.2.2.1.2.1 d.2.2.2.2.1.2.2.1 d.2.2.2.2.1.2.2.2.1 d.2.2.2.2.2.1.1 d.2.2.2.2.2.1.2.1 d.2.2.2.2.2.1.2.2.1 d.2.2.2.2.2.1.2.2.2.1) (fun _=>rfl)
def kl4_0 (P:Go.Program):Known:=(kf30 P).loop 4 0 lc4_0
theorem kl4_0_ok:KnownOk Go.Proofs.Try.prog (kl4_0 Go.Proofs.Try.prog):=kf30_ok.loop ok4_0

/-! loop 2 of ductility/ductilitylaw06.ModalSigns -/

abbrev sh4_2:Sh:={ n:=206,slots:=[3,4,5,7,9,18,19,20],pats:=[.ptr 0 2 0,.ptr 1 2 0,.ptr 2 2 0,.ty (.int .i64),.ty (.int .i64),.ty (.int .i64),.ty (.int .i64),.ty (.int .i64)],boxes:=[.row [.ty (.slice (.int .i64)),.ty (.slice (.int .i64))],.row [.ty (.int .i64),.ty (.int .i64)],.row [.ty (.int .i64),.ty (.int .i64)]] }
abbrev shb4_2:Sh:={ n:=206,slots:=[3,4,5,7,9,18,19],pats:=[.ptr 0 2 0,.ptr 1 2 0,.ptr 2 2 0,.ty (.int .i64),.ty (.int .i64),.ty (.int .i64),.ty (.int .i64)],boxes:=[.row [.ty (.slice (.int .i64)),.ty (.slice (.int .i64))],.row [.ty (.int .i64),.ty (.int .i64)],.row [.ty (.int .i64),.ty (.int .i64)]] }
abbrev shr4_2:Sh:={ n:=206,slots:=[],pats:=[],boxes:=[.row [.ty (.slice (.int .i64)),.ty (.slice (.int .i64))],.row [.ty (.int .i64),.ty (.int .i64)],.row [.ty (.int .i64),.ty (.int .i64)]] }

def t4_2 (x3:Int) (x4:Int) (x5:Int) (x6:Int) (x7:Int) (b0_0:(List Int)) (b0_1:(List Int)) (b1_0:Int) (b1_1:Int) (b2_0:Int) (b2_1:Int):Tr (Out sh4_2.data shb4_2.data shr4_2.data) :=
  Tr.test ((!leF (↑(List.length b0_0):Int) x7:Bool))
    (Tr.test (decide ((0:Int) ≤ x7) && decide (x7 < (↑(List.length b0_1):Int)))
      (Tr.test ((decide ((0:Int) ≤ x7) && decide (x7 < (↑(List.length b0_0):Int)):Bool))
        (Tr.fin (.again ((x3,(x4,((if x5 < List.getD b0_1 (Int.toNat x7) (0:Int) then List.getD b0_1 (Int.toNat x7) (0:Int) else x5:Int),((if List.getD b0_0 (Int.toNat x7) (0:Int) < x6 then List.getD b0_0 (Int.toNat x7) (0:Int) else x6:Int),((wrap64 (x7 + (1:Int)):Int),()))))),((b0_0,(b0_1,())),((b1_0,(b1_1,())),((b2_0,(b2_1,())),()))))))
        (Tr.stop))
      (Tr.stop))
    (Tr.fin (.brk ((x3,(x4,(x5,(x6,())))),((b0_0,(b0_1,())),((b1_0,(b1_1,())),((b2_0,(b2_1,())),()))))))

def s4_2 (d:sh4_2.data):Option (Out sh4_2.data shb4_2.data shr4_2.data):=(t4_2 d.1.1 d.1.2.1 d.1.2.2.1 d.1.2.2.2.1 d.1.2.2.2.2.1 d.2.1.1 d.2.1.2.1 d.2.2.1.1 d.2.2.1.2.1 d.2.2.2.1.1 d.2.2.2.1.2.1).val
def l4_2 (d:sh4_2.data):Option (shb4_2.data ⊕ shr4_2.data):=itr s4_2 rounds d
def b4_2 (d:sh4_2.data):shb4_2.data:=outB shb4_2.dflt (l4_2 d)
def lc4_2:LoopC:=lcB sh4_2 shb4_2 shr4_2 l4_2 b4_2

theorem wk4_2 (x3:Int) (x4:Int) (x5:Int) (x6:Int) (x7:Int) (b0_0:(List Int)) (b0_1:(List Int)) (b1_0:Int) (b1_1:Int) (b2_0:Int) (b2_1:Int):Walks (runBody (kl4_0 Go.Proofs.Try.prog).orc Go.Proofs.Try.prog 400 4 2 sh4_2 shb4_2 shr4_2 ((x3,x4,x5,x6,x7,()),(b0_0,b0_1,()),(b1_0,b1_1,()),(b2_0,b2_1,()),())) (t4_2 x3 x4 x5 x6 x7 b0_0 b0_1 b1_0 b1_1 b2_0 b2_1) [([true,true,true],[2,4,6]),([ff],[2])] :=
  ⟨by kernel_rfl,by kernel_rfl,trivial⟩

theorem ok4_2_t (x3:Int) (x4:Int) (x5:Int) (x6:Int) (x7:Int) (b0_0:(List Int)) (b0_1:(List Int)) (b1_0:Int) (b1_1:Int) (b2_0:Int) (b2_1:Int):TrOk (BodyRuns Go.Proofs.Try.prog (kl4_0 Go.Proofs.Try.prog).orc 4 2 sh4_2 shb4_2 shr4_2 ((x3,x4,x5,x6,x7,()),(b0_0,b0_1,()),(b1_0,b1_1,()),(b2_0,b2_1,()),())) (t4_2 x3 x4 x5 x6 x7 b0_0 b0_1 b1_0 b1_1 b2_0 b2_1) :=
  Walks.ok (fun _ _ _=>BodyRuns.of) (wk4_2 x3 x4 x5 x6 x7 b0_0 b0_1 b1_0 b1_1 b2_0 b2_1) (by kernel_rfl)

theorem ok4_2:LoopOk Go.Proofs.Try.prog 4 2 lc4_2:=loopOk_ofB (sh:=sh4_2) (shB:=shb4_2) (shR:=shr4_2) kl4_0_ok.base (T:=fun (d:sh4_2.data)=>t4_2 d.1.1 d.1.2.1 d.1.2.2.1 d.1.2.2.2.1 d.1.2.2.2.2.1 d.2.1.1 d.2.1.2.1 d.2.2.1.1 d.2.2.1.2.1 d.2.2.2.1.1 d.2.2.2.1.2.1) (by kernel_rfl) rfl (fun (d:sh4_2.data)=>ok4_2_t d.1.1 d.1.2.1 d.1.2.2.1 d.1.2.2.2.1 d.1.2.2.2.2.1 d.2.1.1 d.2.1.2.1 d.2.2.1.1 d.2.2.1.2.1 d.2.2.2.1.1 d.2.2.2.1.2.1) (fun _=>rfl)
def kl4_2 (P:Go.Program):Known:=(kl4_0 P).loop 4 2 lc4_2
theorem kl4_2_ok:KnownOk Go.Proofs.Try.prog (kl4_2 Go.Proofs.Try.prog):=kl4_0_ok.loop ok4_2

/-! ductility/ductilitylaw06.ModalSigns -/

abbrev as4:List Ty:=[(.pair (.slice (.int .i64)) (.pair (.slice (.int .i64)) .unit)),(.pair (.int .i64) (.pair (.int .i64) .unit)),(.pair (.int .i64) (.pair (.int .i64) .unit))]
abbrev rs4:List Ty:=[.bool]

def t4 (x0:(List Int)) (x0':(List Int)) (x1:Int) (x1':Int) (x2:Int) (x2':Int):Tr (Tys.data rs4) :=
  Tr.test (Option.isSome (f14 ((x0,(x0',())),())))
    (let r0:=g14 ((x0,(x0',())),());
    Tr.test ((!eqF r0.1 0:Bool))
      (Tr.fin (((true:Bool),())))
      (Tr.test (Option.isSome (f16 ((x1,(x1',())),())))
        (let r1:=g16 ((x1,(x1',())),());
        Tr.test ((!eqF r1.1 0:Bool))
          (Tr.fin (((true:Bool),())))
          (Tr.test (Option.isSome (f16 ((x2,(x2',())),())))
            (let r2:=g16 ((x2,(x2',())),());
            Tr.test ((!eqF r2.1 0:Bool))
              (Tr.fin (((true:Bool),())))
              (Tr.test (Option.isSome (f23 ((x1,(x1',())),((x2,(x2',())),()))))
                (let r3:=g23 ((x1,(x1',())),((x2,(x2',())),()));
                Tr.test ((!leF r3.1 0:Bool))
                  (Tr.test (Option.isSome (f11 ((x0,(x0',())),())))
                    (let r4:=g11 ((x0,(x0',())),());
                    Tr.test (Option.isSome (f10 ((r4.1.1,(r4.1.2.1,())),((x2,(x2',())),()))))
                      (Tr.test (Option.isSome (f10 ((r4.1.1,(r4.1.2.1,())),((x1,(x1',())),()))))
                        (Tr.test (Option.isSome (f12 ((r4.1.1,(r4.1.2.1,())),((x2,(x2',())),()))))
                          (Tr.test (Option.isSome (f24 ((r4.1.1,(r4.1.2.1,())),())))
                            (let r5:=g10 ((r4.1.1,(r4.1.2.1,())),((x2,(x2',())),()));
                            Tr.test ((!eqF r5.2.1 0:Bool))
                              (Tr.fin (((false:Bool),())))
                              (let r6:=g10 ((r4.1.1,(r4.1.2.1,())),((x1,(x1',())),()));
                              Tr.test ((!eqF r6.2.1 0:Bool))
                                (Tr.fin (((false:Bool),())))
                                (let r7:=g12 ((r4.1.1,(r4.1.2.1,())),((x2,(x2',())),()));
                                Tr.test ((!eqF r7.2.1 0:Bool))
                                  (Tr.fin (((false:Bool),())))
                                  (let r8:=g24 ((r4.1.1,(r4.1.2.1,())),());
                                  Tr.test ((!eqF r8.2.1 0:Bool))
                                    (Tr.fin (((false:Bool),())))
                                    (Tr.test ((!eqF (↑(List.length r8.1):Int) (wrap64 ((↑(List.length x0):Int) + (1:Int))):Bool))
                                      (Tr.fin (((false:Bool),())))
                                      (Tr.test (Option.isSome (f21 (r5.1,((0:Int),(r6.1,())))))
                                        (let r9:=g21 (r5.1,((0:Int),(r6.1,())));
                                        Tr.test ((!r9.1:Bool))
                                          (Tr.fin (((false:Bool),())))
                                          (Tr.test ((!leF r6.1 (↑(List.length x0):Int):Bool))
                                            (Tr.fin (((false:Bool),())))
                                            (Tr.test (Option.isSome (f25 ((0:Int),())))
                                              (Tr.test (Option.isSome (f25 ((1:Int),())))
                                                (let r10:=g25 ((0:Int),());
                                                let r11:=g25 ((1:Int),());
                                                Tr.test (Option.isSome (l4_0 ((r5.1,(r6.1,(r7.1,(r8.1,((0:Int),()))))),((x0,(x0',())),((x2,(x2',())),((x1,(x1',())),((r10.1.1.1,(r10.1.1.2.1,(r10.1.2.1.1,(r10.1.2.1.2.1,())))),((r11.1.1.1,(r11.1.1.2.1,(r11.1.2.1.1,(r11.1.2.1.2.1,())))),()))))))))
                                                  (Tr.test (isRet (l4_0 ((r5.1,(r6.1,(r7.1,(r8.1,((0:Int),()))))),((x0,(x0',())),((x2,(x2',())),((x1,(x1',())),((r10.1.1.1,(r10.1.1.2.1,(r10.1.2.1.1,(r10.1.2.1.2.1,())))),((r11.1.1.1,(r11.1.1.2.1,(r11.1.2.1.1,(r11.1.2.1.2.1,())))),()))))))))
                                                    (let r12:=r4_0 ((r5.1,(r6.1,(r7.1,(r8.1,((0:Int),()))))),((x0,(x0',())),((x2,(x2',())),((x1,(x1',())),((r10.1.1.1,(r10.1.1.2.1,(r10.1.2.1.1,(r10.1.2.1.2.1,())))),((r11.1.1.1,(r11.1.1.2.1,(r11.1.2.1.1,(r11.1.2.1.2.1,())))),()))))));
                                                    Tr.fin ((r12.1.1,())))
                                                    (let r13:=b4_0 ((r5.1,(r6.1,(r7.1,(r8.1,((0:Int),()))))),((x0,(x0',())),((x2,(x2',())),((x1,(x1',())),((r10.1.1.1,(r10.1.1.2.1,(r10.1.2.1.1,(r10.1.2.1.2.1,())))),((r11.1.1.1,(r11.1.1.2.1,(r11.1.2.1.1,(r11.1.2.1.2.1,())))),()))))));
                                                    Tr.test (Option.isSome (f28 (((r13.2.2.2.2.1.1,(r13.2.2.2.2.1.2.1,())),((r13.2.2.2.2.1.2.2.1,(r13.2.2.2.2.1.2.2.2.1,())),())),())))
                                                      (let r14:=g28 (((r13.2.2.2.2.1.1,(r13.2.2.2.2.1.2.1,())),((r13.2.2.2.2.1.2.2.1,(r13.2.2.2.2.1.2.2.2.1,())),())),());
                                                      Tr.test ((!r13.1.2.2.1 == eqF r14.1 0:Bool))
                                                        (Tr.fin (((false:Bool),())))
                                                        (Tr.test (r13.1.2.2.1)
                                                          (Tr.test ((!(r13.2.2.1.1 == r13.2.2.2.1.1 && (r13.2.2.1.2.1 == r13.2.2.2.1.2.1 && true)):Bool))
                                                            (Tr.test ((leF r13.1.2.1 r13.1.1:Bool))
                                                              (Tr.fin (((false:Bool),())))
                                                              (Tr.test ((eqF r13.1.1 (↑(List.length r13.2.1.1):Int):Bool))
                                                                (Tr.fin (((false:Bool),())))
                                                                (Tr.test ((true && decide ((0:Int) < (↑(List.length r13.2.1.1):Int)):Bool))
                                                                  (Tr.test (isBrk (l4_2 ((r13.1.1,(r13.1.2.1,((0:Int),((List.getD r13.2.1.1 (0:Nat) (0:Int):Int),((0:Int),()))))),((r13.2.1.1,(r13.2.1.2.1,())),((r13.2.2.1.1,(r13.2.2.1.2.1,())),((r13.2.2.2.1.1,(r13.2.2.2.1.2.1,())),()))))))
                                                                    (Tr.test (Option.isSome (f29 ((0:Int),())))
                                                                      (let r15:=b4_2 ((r13.1.1,(r13.1.2.1,((0:Int),((List.getD r13.2.1.1 (0:Nat) (0:Int):Int),((0:Int),()))))),((r13.2.1.1,(r13.2.1.2.1,())),((r13.2.2.1.1,(r13.2.2.1.2.1,())),((r13.2.2.2.1.1,(r13.2.2.2.1.2.1,())),()))));
                                                                      let r16:=g29 ((0:Int),());
                                                                      Tr.test (Option.isSome (f23 ((r15.2.2.1.1,(r15.2.2.1.2.1,())),((r16.1.1,(r16.1.2.1,())),()))))
                                                                        (let r17:=g23 ((r15.2.2.1.1,(r15.2.2.1.2.1,())),((r16.1.1,(r16.1.2.1,())),()));
                                                                        Tr.test ((leF r17.1 0:Bool))
                                                                          (Tr.test ((!eqF r15.1.1 0:Bool))
                                                                            (Tr.fin (((false:Bool),())))
                                                                            (Tr.test (Option.isSome (f30 (r15.2.2.2.1.1,(r15.2.2.2.1.2.1,((wrap64 ((4:Int) * r15.1.2.2.1):Int),(r15.1.2.2.2.1,()))))))
                                                                              (let r18:=g30 (r15.2.2.2.1.1,(r15.2.2.2.1.2.1,((wrap64 ((4:Int) * r15.1.2.2.1):Int),(r15.1.2.2.2.1,()))));
                                                                              Tr.test ((leF r18.1 0:Bool))
                                                                                (Tr.fin (((true:Bool),())))
                                                                                (Tr.fin (((eqF r15.1.2.1 (↑(List.length r15.2.1.1):Int):Bool),()))))
                                                                              (Tr.stop)))
                                                                          (Tr.test (Option.isSome (f30 (r15.2.2.2.1.1,(r15.2.2.2.1.2.1,((wrap64 ((4:Int) * r15.1.2.2.1):Int),(r15.1.2.2.2.1,()))))))
                                                                            (let r18:=g30 (r15.2.2.2.1.1,(r15.2.2.2.1.2.1,((wrap64 ((4:Int) * r15.1.2.2.1):Int),(r15.1.2.2.2.1,()))));
                                                                            Tr.test ((leF r18.1 0:Bool))
                                                                              (Tr.fin (((true:Bool),())))
                                                                              (Tr.fin (((eqF r15.1.2.1 (↑(List.length r15.2.1.1):Int):Bool),()))))
                                                                            (Tr.stop)))
                                                                        (Tr.stop))
                                                                      (Tr.stop))
                                                                    (Tr.stop))
                                                                  (Tr.stop))))
                                                            (Tr.test ((eqF r13.1.1 (↑(List.length r13.2.1.1):Int):Bool))
                                                              (Tr.fin (((false:Bool),())))
                                                              (Tr.test ((true && decide ((0:Int) < (↑(List.length r13.2.1.1):Int)):Bool))
                                                                (Tr.test (isBrk (l4_2 ((r13.1.1,(r13.1.2.1,((0:Int),((List.getD r13.2.1.1 (0:Nat) (0:Int):Int),((0:Int),()))))),((r13.2.1.1,(r13.2.1.2.1,())),((r13.2.2.1.1,(r13.2.2.1.2.1,())),((r13.2.2.2.1.1,(r13.2.2.2.1.2.1,())),()))))))
                                                                  (Tr.test (Option.isSome (f29 ((0:Int),())))
                                                                    (let r15:=b4_2 ((r13.1.1,(r13.1.2.1,((0:Int),((List.getD r13.2.1.1 (0:Nat) (0:Int):Int),((0:Int),()))))),((r13.2.1.1,(r13.2.1.2.1,())),((r13.2.2.1.1,(r13.2.2.1.2.1,())),((r13.2.2.2.1.1,(r13.2.2.2.1.2.1,())),()))));
                                                                    let r16:=g29 ((0:Int),());
                                                                    Tr.test (Option.isSome (f23 ((r15.2.2.1.1,(r15.2.2.1.2.1,())),((r16.1.1,(r16.1.2.1,())),()))))
                                                                      (let r17:=g23 ((r15.2.2.1.1,(r15.2.2.1.2.1,())),((r16.1.1,(r16.1.2.1,())),()));
                                                                      Tr.test ((leF r17.1 0:Bool))
                                                                        (Tr.test ((!eqF r15.1.1 0:Bool))
                                                                          (Tr.fin (((false:Bool),())))
                                                                          (Tr.test (Option.isSome (f30 (r15.2.2.2.1.1,(r15.2.2.2.1.2.1,((wrap64 ((4:Int) * r15.1.2.2.1):Int),(r15.1.2.2.2.1,()))))))
                                                                            (let r18:=g30 (r15.2.2.2.1.1,(r15.2.2.2.1.2.1,((wrap64 ((4:Int) * r15.1.2.2.1):Int),(r15.1.2.2.2.1,()))));
                                                                            Tr.test ((leF r18.1 0:Bool))
                                                                              (Tr.fin (((true:Bool),())))
                                                                              (Tr.fin (((eqF r15.1.2.1 (↑(List.length r15.2.1.1):Int):Bool),()))))
                                                                            (Tr.stop)))
                                                                        (Tr.test (Option.isSome (f30 (r15.2.2.2.1.1,(r15.2.2.2.1.2.1,((wrap64 ((4:Int) * r15.1.2.2.1):Int),(r15.1.2.2.2.1,()))))))
                                                                          (let r18:=g30 (r15.2.2.2.1.1,(r15.2.2.2.1.2.1,((wrap64 ((4:Int) * r15.1.2.2.1):Int),(r15.1.2.2.2.1,()))));
                                                                          Tr.test ((leF r18.1 0:Bool))
                                                                            (Tr.fin (((true:Bool),())))
                                                                            (Tr.fin (((eqF r15.1.2.1 (↑(List.length r15.2.1.1):Int):Bool),()))))
                                                                          (Tr.stop)))
                                                                      (Tr.stop))
                                                                    (Tr.stop))
                                                                  (Tr.stop))
                                                                (Tr.stop))))
                                                          (Tr.test ((true && decide ((0:Int) < (↑(List.length r13.2.1.1):Int)):Bool))
                                                            (Tr.test (isBrk (l4_2 ((r13.1.1,(r13.1.2.1,((0:Int),((List.getD r13.2.1.1 (0:Nat) (0:Int):Int),((0:Int),()))))),((r13.2.1.1,(r13.2.1.2.1,())),((r13.2.2.1.1,(r13.2.2.1.2.1,())),((r13.2.2.2.1.1,(r13.2.2.2.1.2.1,())),()))))))
                                                              (Tr.test (Option.isSome (f29 ((0:Int),())))
                                                                (let r15:=b4_2 ((r13.1.1,(r13.1.2.1,((0:Int),((List.getD r13.2.1.1 (0:Nat) (0:Int):Int),((0:Int),()))))),((r13.2.1.1,(r13.2.1.2.1,())),((r13.2.2.1.1,(r13.2.2.1.2.1,())),((r13.2.2.2.1.1,(r13.2.2.2.1.2.1,())),()))));
                                                                let r16:=g29 ((0:Int),());
                                                                Tr.test (Option.isSome (f23 ((r15.2.2.1.1,(r15.2.2.1.2.1,())),((r16.1.1,(r16.1.2.1,())),()))))
                                                                  (let r17:=g23 ((r15.2.2.1.1,(r15.2.2.1.2.1,())),((r16.1.1,(r16.1.2.1,())),()));
                                                                  Tr.test ((leF r17.1 0:Bool))
                                                                    (Tr.test ((!eqF r15.1.1 0:Bool))
                                                                      (Tr.fin (((false:Bool),())))
                                                                      (Tr.test (Option.isSome (f30 (r15.2.2.2.1.1,(r15.2.2.2.1.2.1,((wrap64 ((4:Int) * r15.1.2.2.1):Int),(r15.1.2.2.2.1,()))))))
                                                                        (let r18:=g30 (r15.2.2.2.1.1,(r15.2.2.2.1.2.1,((wrap64 ((4:Int) * r15.1.2.2.1):Int),(r15.1.2.2.2.1,()))));
                                                                        Tr.test ((leF r18.1 0:Bool))
                                                                          (Tr.fin (((true:Bool),())))
                                                                          (Tr.fin (((eqF r15.1.2.1 (↑(List.length r15.2.1.1):Int):Bool),()))))
                                                                        (Tr.stop)))
                                                                    (Tr.test (Option.isSome (f30 (r15.2.2.2.1.1,(r15.2.2.2.1.2.1,((wrap64 ((4:Int) * r15.1.2.2.1):Int),(r15.1.2.2.2.1,()))))))
                                                                      (let r18:=g30 (r15.2.2.2.1.1,(r15.2.2.2.1.2.1,((wrap64 ((4:Int) * r15.1.2.2.1):Int),(r15.1.2.2.2.1,()))));
                                                                      Tr.test ((leF r18.1 0:Bool))
                                                                        (Tr.fin (((true:Bool),())))
                                                                        (Tr.fin (((eqF r15.1.2.1 (↑(List.length r15.2.1.1):Int):Bool),()))))
                                                                      (Tr.stop)))
                                                                  (Tr.stop))
                                                                (Tr.stop))
                                                              (Tr.stop))
                                                            (Tr.stop))))
                                                      (Tr.stop)))
                                                  (Tr.stop))
                                                (Tr.stop))
                                              (Tr.stop))))
                                        (Tr.stop)))))))
                            (Tr.stop))
                          (Tr.stop))
                        (Tr.stop))
                      (Tr.stop))
                    (Tr.stop))
                  (Tr.test (Option.isSome (f11 ((x0,(x0',())),())))
                    (let r4:=g11 ((x0,(x0',())),());
                    Tr.test (Option.isSome (f10 ((r4.1.1,(r4.1.2.1,())),((x1,(x1',())),()))))
                      (Tr.test (Option.isSome (f10 ((r4.1.1,(r4.1.2.1,())),((x2,(x2',())),()))))
                        (Tr.test (Option.isSome (f12 ((r4.1.1,(r4.1.2.1,())),((x1,(x1',())),()))))
                          (Tr.test (Option.isSome (f24 ((r4.1.1,(r4.1.2.1,())),())))
                            (let r6:=g10 ((r4.1.1,(r4.1.2.1,())),((x1,(x1',())),()));
                            Tr.test ((!eqF r6.2.1 0:Bool))
                              (Tr.fin (((false:Bool),())))
                              (let r5:=g10 ((r4.1.1,(r4.1.2.1,())),((x2,(x2',())),()));
                              Tr.test ((!eqF r5.2.1 0:Bool))
                                (Tr.fin (((false:Bool),())))
                                (let r19:=g12 ((r4.1.1,(r4.1.2.1,())),((x1,(x1',())),()));
                                Tr.test ((!eqF r19.2.1 0:Bool))
                                  (Tr.fin (((false:Bool),())))
                                  (let r8:=g24 ((r4.1.1,(r4.1.2.1,())),());
                                  Tr.test ((!eqF r8.2.1 0:Bool))
                                    (Tr.fin (((false:Bool),())))
                                    (Tr.test ((!eqF (↑(List.length r8.1):Int) (wrap64 ((↑(List.length x0):Int) + (1:Int))):Bool))
                                      (Tr.fin (((false:Bool),())))
                                      (Tr.test (Option.isSome (f21 (r6.1,((0:Int),(r5.1,())))))
                                        (let r20:=g21 (r6.1,((0:Int),(r5.1,())));
                                        Tr.test ((!r20.1:Bool))
                                          (Tr.fin (((false:Bool),())))
                                          (Tr.test ((!leF r5.1 (↑(List.length x0):Int):Bool))
                                            (Tr.fin (((false:Bool),())))
                                            (Tr.test (Option.isSome (f25 ((0:Int),())))
                                              (Tr.test (Option.isSome (f25 ((1:Int),())))
                                                (let r10:=g25 ((0:Int),());
                                                let r11:=g25 ((1:Int),());
                                                Tr.test (Option.isSome (l4_0 ((r6.1,(r5.1,(r19.1,(r8.1,((0:Int),()))))),((x0,(x0',())),((x1,(x1',())),((x2,(x2',())),((r10.1.1.1,(r10.1.1.2.1,(r10.1.2.1.1,(r10.1.2.1.2.1,())))),((r11.1.1.1,(r11.1.1.2.1,(r11.1.2.1.1,(r11.1.2.1.2.1,())))),()))))))))
                                                  (Tr.test (isRet (l4_0 ((r6.1,(r5.1,(r19.1,(r8.1,((0:Int),()))))),((x0,(x0',())),((x1,(x1',())),((x2,(x2',())),((r10.1.1.1,(r10.1.1.2.1,(r10.1.2.1.1,(r10.1.2.1.2.1,())))),((r11.1.1.1,(r11.1.1.2.1,(r11.1.2.1.1,(r11.1.2.1.2.1,())))),()))))))))
                                                    (let r21:=r4_0 ((r6.1,(r5.1,(r19.1,(r8.1,((0:Int),()))))),((x0,(x0',())),((x1,(x1',())),((x2,(x2',())),((r10.1.1.1,(r10.1.1.2.1,(r10.1.2.1.1,(r10.1.2.1.2.1,())))),((r11.1.1.1,(r11.1.1.2.1,(r11.1.2.1.1,(r11.1.2.1.2.1,())))),()))))));
                                                    Tr.fin ((r21.1.1,())))
                                                    (let r22:=b4_0 ((r6.1,(r5.1,(r19.1,(r8.1,((0:Int),()))))),((x0,(x0',())),((x1,(x1',())),((x2,(x2',())),((r10.1.1.1,(r10.1.1.2.1,(r10.1.2.1.1,(r10.1.2.1.2.1,())))),((r11.1.1.1,(r11.1.1.2.1,(r11.1.2.1.1,(r11.1.2.1.2.1,())))),()))))));
                                                    Tr.test (Option.isSome (f28 (((r22.2.2.2.2.1.1,(r22.2.2.2.2.1.2.1,())),((r22.2.2.2.2.1.2.2.1,(r22.2.2.2.2.1.2.2.2.1,())),())),())))
                                                      (let r23:=g28 (((r22.2.2.2.2.1.1,(r22.2.2.2.2.1.2.1,())),((r22.2.2.2.2.1.2.2.1,(r22.2.2.2.2.1.2.2.2.1,())),())),());
                                                      Tr.test ((!r22.1.2.2.1 == eqF r23.1 0:Bool))
                                                        (Tr.fin (((false:Bool),())))
                                                        (Tr.test (r22.1.2.2.1)
                                                          (Tr.test ((!(r22.2.2.1.1 == r22.2.2.2.1.1 && (r22.2.2.1.2.1 == r22.2.2.2.1.2.1 && true)):Bool))
                                                            (Tr.test ((leF r22.1.2.1 r22.1.1:Bool))
                                                              (Tr.fin (((false:Bool),())))
                                                              (Tr.test ((eqF r22.1.1 (↑(List.length r22.2.1.1):Int):Bool))
                                                                (Tr.fin (((false:Bool),())))
                                                                (Tr.test ((true && decide ((0:Int) < (↑(List.length r22.2.1.1):Int)):Bool))
                                                                  (Tr.test (isBrk (l4_2 ((r22.1.1,(r22.1.2.1,((0:Int),((List.getD r22.2.1.1 (0:Nat) (0:Int):Int),((0:Int),()))))),((r22.2.1.1,(r22.2.1.2.1,())),((r22.2.2.1.1,(r22.2.2.1.2.1,())),((r22.2.2.2.1.1,(r22.2.2.2.1.2.1,())),()))))))
                                                                    (Tr.test (Option.isSome (f29 ((0:Int),())))
                                                                      (let r16:=g29 ((0:Int),());
                                                                      let r24:=b4_2 ((r22.1.1,(r22.1.2.1,((0:Int),((List.getD r22.2.1.1 (0:Nat) (0:Int):Int),((0:Int),()))))),((r22.2.1.1,(r22.2.1.2.1,())),((r22.2.2.1.1,(r22.2.2.1.2.1,())),((r22.2.2.2.1.1,(r22.2.2.2.1.2.1,())),()))));
                                                                      Tr.test (Option.isSome (f23 ((r24.2.2.1.1,(r24.2.2.1.2.1,())),((r16.1.1,(r16.1.2.1,())),()))))
                                                                        (let r25:=g23 ((r24.2.2.1.1,(r24.2.2.1.2.1,())),((r16.1.1,(r16.1.2.1,())),()));
                                                                        Tr.test ((leF r25.1 0:Bool))
                                                                          (Tr.test ((!eqF r24.1.1 0:Bool))
                                                                            (Tr.fin (((false:Bool),())))
                                                                            (Tr.test (Option.isSome (f30 (r24.2.2.2.1.1,(r24.2.2.2.1.2.1,((wrap64 ((4:Int) * r24.1.2.2.1):Int),(r24.1.2.2.2.1,()))))))
                                                                              (let r26:=g30 (r24.2.2.2.1.1,(r24.2.2.2.1.2.1,((wrap64 ((4:Int) * r24.1.2.2.1):Int),(r24.1.2.2.2.1,()))));
                                                                              Tr.test ((leF r26.1 0:Bool))
                                                                                (Tr.fin (((true:Bool),())))
                                                                                (Tr.fin (((eqF r24.1.2.1 (↑(List.length r24.2.1.1):Int):Bool),()))))
                                                                              (Tr.stop)))
                                                                          (Tr.test (Option.isSome (f30 (r24.2.2.2.1.1,(r24.2.2.2.1.2.1,((wrap64 ((4:Int) * r24.1.2.2.1):Int),(r24.1.2.2.2.1,()))))))
                                                                            (let r26:=g30 (r24.2.2.2.1.1,(r24.2.2.2.1.2.1,((wrap64 ((4:Int) * r24.1.2.2.1):Int),(r24.1.2.2.2.1,()))));
                                                                            Tr.test ((leF r26.1 0:Bool))
                                                                              (Tr.fin (((true:Bool),())))
                                                                              (Tr.fin (((eqF r24.1.2.1 (↑(List.length r24.2.1.1):Int):Bool),()))))
                                                                            (Tr.stop)))
                                                                        (Tr.stop))
                                                                      (Tr.stop))
                                                                    (Tr.stop))
                                                                  (Tr.stop))))
                                                            (Tr.test ((eqF r22.1.1 (↑(List.length r22.2.1.1):Int):Bool))
                                                              (Tr.fin (((false:Bool),())))
                                                              (Tr.test ((true && decide ((0:Int) < (↑(List.length r22.2.1.1):Int)):Bool))
                                                                (Tr.test (isBrk (l4_2 ((r22.1.1,(r22.1.2.1,((0:Int),((List.getD r22.2.1.1 (0:Nat) (0:Int):Int),((0:Int),()))))),((r22.2.1.1,(r22.2.1.2.1,())),((r22.2.2.1.1,(r22.2.2.1.2.1,())),((r22.2.2.2.1.1,(r22.2.2.2.1.2.1,())),()))))))
                                                                  (Tr.test (Option.isSome (f29 ((0:Int),())))
                                                                    (let r16:=g29 ((0:Int),());
                                                                    let r24:=b4_2 ((r22.1.1,(r22.1.2.1,((0:Int),((List.getD r22.2.1.1 (0:Nat) (0:Int):Int),((0:Int),()))))),((r22.2.1.1,(r22.2.1.2.1,())),((r22.2.2.1.1,(r22.2.2.1.2.1,())),((r22.2.2.2.1.1,(r22.2.2.2.1.2.1,())),()))));
                                                                    Tr.test (Option.isSome (f23 ((r24.2.2.1.1,(r24.2.2.1.2.1,())),((r16.1.1,(r16.1.2.1,())),()))))
                                                                      (let r25:=g23 ((r24.2.2.1.1,(r24.2.2.1.2.1,())),((r16.1.1,(r16.1.2.1,())),()));
                                                                      Tr.test ((leF r25.1 0:Bool))
                                                                        (Tr.test ((!eqF r24.1.1 0:Bool))
                                                                          (Tr.fin (((false:Bool),())))
                                                                          (Tr.test (Option.isSome (f30 (r24.2.2.2.1.1,(r24.2.2.2.1.2.1,((wrap64 ((4:Int) * r24.1.2.2.1):Int),(r24.1.2.2.2.1,()))))))
                                                                            (let r26:=g30 (r24.2.2.2.1.1,(r24.2.2.2.1.2.1,((wrap64 ((4:Int) * r24.1.2.2.1):Int),(r24.1.2.2.2.1,()))));
                                                                            Tr.test ((leF r26.1 0:Bool))
                                                                              (Tr.fin (((true:Bool),())))
                                                                              (Tr.fin (((eqF r24.1.2.1 (↑(List.length r24.2.1.1):Int):Bool),()))))
                                                                            (Tr.stop)))
                                                                        (Tr.test (Option.isSome (f30 (r24.2.2.2.1.1,(r24.2.2.2.1.2.1,((wrap64 ((4:Int) * r24.1.2.2.1):Int),(r24.1.2.2.2.1,()))))))
                                                                          (let r26:=g30 (r24.2.2.2.1.1,(r24.2.2.2.1.2.1,((wrap64 ((4:Int) * r24.1.2.2.1):Int),(r24.1.2.2.2.1,()))));
                                                                          Tr.test ((leF r26.1 0:Bool))
                                                                            (Tr.fin (((true:Bool),())))
                                                                            (Tr.fin (((eqF r24.1.2.1 (↑(List.length r24.2.1.1):Int):Bool),()))))
                                                                          (Tr.stop)))
                                                                      (Tr.stop))
                                                                    (Tr.stop))
                                                                  (Tr.stop))
                                                                (Tr.stop))))
                                                          (Tr.test ((true && decide ((0:Int) < (↑(List.length r22.2.1.1):Int)):Bool))
                                                            (Tr.test (isBrk (l4_2 ((r22.1.1,(r22.1.2.1,((0:Int),((List.getD r22.2.1.1 (0:Nat) (0:Int):Int),((0:Int),()))))),((r22.2.1.1,(r22.2.1.2.1,())),((r22.2.2.1.1,(r22.2.2.1.2.1,())),((r22.2.2.2.1.1,(r22.2.2.2.1.2.1,())),()))))))
                                                              (Tr.test (Option.isSome (f29 ((0:Int),())))
                                                                (let r16:=g29 ((0:Int),());
                                                                let r24:=b4_2 ((r22.1.1,(r22.1.2.1,((0:Int),((List.getD r22.2.1.1 (0:Nat) (0:Int):Int),((0:Int),()))))),((r22.2.1.1,(r22.2.1.2.1,())),((r22.2.2.1.1,(r22.2.2.1.2.1,())),((r22.2.2.2.1.1,(r22.2.2.2.1.2.1,())),()))));
                                                                Tr.test (Option.isSome (f23 ((r24.2.2.1.1,(r24.2.2.1.2.1,())),((r16.1.1,(r16.1.2.1,())),()))))
                                                                  (let r25:=g23 ((r24.2.2.1.1,(r24.2.2.1.2.1,())),((r16.1.1,(r16.1.2.1,())),()));
                                                                  Tr.test ((leF r25.1 0:Bool))
                                                                    (Tr.test ((!eqF r24.1.1 0:Bool))
                                                                      (Tr.fin (((false:Bool),())))
                                                                      (Tr.test (Option.isSome (f30 (r24.2.2.2.1.1,(r24.2.2.2.1.2.1,((wrap64 ((4:Int) * r24.1.2.2.1):Int),(r24.1.2.2.2.1,()))))))
                                                                        (let r26:=g30 (r24.2.2.2.1.1,(r24.2.2.2.1.2.1,((wrap64 ((4:Int) * r24.1.2.2.1):Int),(r24.1.2.2.2.1,()))));
                                                                        Tr.test ((leF r26.1 0:Bool))
                                                                          (Tr.fin (((true:Bool),())))
                                                                          (Tr.fin (((eqF r24.1.2.1 (↑(List.length r24.2.1.1):Int):Bool),()))))
                                                                        (Tr.stop)))
                                                                    (Tr.test (Option.isSome (f30 (r24.2.2.2.1.1,(r24.2.2.2.1.2.1,((wrap64 ((4:Int) * r24.1.2.2.1):Int),(r24.1.2.2.2.1,()))))))
                                                                      (let r26:=g30 (r24.2.2.2.1.1,(r24.2.2.2.1.2.1,((wrap64 ((4:Int) * r24.1.2.2.1):Int),(r24.1.2.2.2.1,()))));
                                                                      Tr.test ((leF r26.1 0:Bool))
                                                                        (Tr.fin (((true:Bool),())))
                                                                        (Tr.fin (((eqF r24.1.2.1 (↑(List.length r24.2.1.1):Int):Bool),()))))
                                                                      (Tr.stop)))
                                                                  (Tr.stop))
                                                                (Tr.stop))
                                                              (Tr.stop))
                                                            (Tr.stop))))
                                                      (Tr.stop)))
                                                  (Tr.stop))
                                                (Tr.stop))
                                              (Tr.stop))))
                                        (Tr.stop)))))))
                            (Tr.stop))
                          (Tr.stop))
                        (Tr.stop))
                      (Tr.stop))
                    (Tr.stop)))
                (Tr.stop)))
            (Tr.stop)))
        (Tr.stop)))
    (Tr.stop)

def f4 (d:Tys.data as4):Option (Tys.data rs4):=(t4 d.1.1 d.1.2.1 d.2.1.1 d.2.1.2.1 d.2.2.1.1 d.2.2.1.2.1).val
def g4 (d:Tys.data as4):Tys.data rs4:=(f4 d).getD (Tys.dflt rs4)
def p4:PureC:=pcOf as4 rs4 f4 g4

theorem wk4 (x0:(List Int)) (x0':(List Int)) (x1:Int) (x1':Int) (x2:Int) (x2':Int):Walks (runPure (kl4_2 Go.Proofs.Try.prog).orc Go.Proofs.Try.prog 400 4 as4 rs4 ((x0,x0',()),(x1,x1',()),(x2,x2',()),())) (t4 x0 x0' x1 x1' x2 x2') [([true,true],[1,1,1,1,1,2,2,2,2,4,0,1]),([true,false,true,true],[1,2,2,2,2,6,6,4,6,6,8,0,1]),([true,false,true,false,true,true],[2,6,6,4,6,6,10,10,8,10,10,12,0,1]),([true,false,true,false,true,false,true,true,true,true,true,true,true,true],[1,1,1,1,1,1,1,1,1,1,1,1,1,1,1,1,1,1,1,1,1,1,1,1,1,1,2,2,2,4,12,6,12,8,12,10,12,14,16,18,22,22,20,22,22,26,26,24,26,26,28,0,1]),([true,false,true,false,true,false,true,true,true,true,true,true,true,false,true],[1,1,1,1,1,1,1,1,1,1,1,1,1,1,1,1,1,1,1,1,1,1,1,2,2,2,4,4,4,6,14,8,14,10,14,12,14,16,18,20,24,24,22,24,24,28,28,26,28,28,30,0,1]),([true,false,true,false,true,false,true,true,true,true,true,true,true,false,false,true],[1,1,1,1,1,1,1,1,1,1,1,1,1,1,1,1,1,1,1,1,2,2,2,4,4,4,6,6,6,8,16,10,16,12,16,14,16,18,20,22,26,26,24,26,26,30,30,28,30,30,32,0,1]),([true,false,true,false,true,false,true,true,true,true,true,true,true,false,false,false,true],[1,1,1,1,1,1,1,1,1,1,1,1,2,2,2,2,2,2,2,2,4,4,4,6,6,6,8,8,8,10,18,12,18,14,18,16,18,20,22,24,28,28,26,28,28,32,32,30,32,32,34,0,1]),([true,false,true,false,true,false,true,true,true,true,true,true,true,false,false,false,false,true],[1,1,1,1,1,1,1,2,2,2,2,2,4,4,4,4,4,4,4,4,6,6,6,8,8,8,10,10,10,12,20,14,20,16,20,18,20,22,24,26,30,30,28,30,30,34,34,32,34,34,36,0,1]),([true,false,true,false,true,false,true,true,true,true,true,true,true,false,false,false,false,false,true,true],[1,2,2,2,2,2,2,6,6,4,6,6,6,8,8,8,8,8,8,8,8,10,10,10,12,12,12,14,14,14,16,24,18,24,20,24,22,24,26,28,30,34,34,32,34,34,38,38,36,38,38,40,0,1]),([true,false,true,false,true,false,true,true,true,true,true,true,true,false,false,false,false,false,true,false,true],[2,4,4,4,4,4,4,8,8,6,8,8,8,10,10,10,10,10,10,10,10,12,12,12,14,14,14,16,16,16,18,26,20,26,22,26,24,26,28,30,32,36,36,34,36,36,40,40,38,40,40,42,0,1]),([true,false,true,false,true,false,true,true,true,true,true,true,true,false,false,false,false,false,true,false,false,true,true,true,true],[2,4,6,8,10,12,12,12,12,12,12,16,16,14,16,16,16,18,18,18,18,18,18,18,18,20,20,20,22,22,22,24,24,24,26,34,28,34,30,34,32,34,36,38,40,44,44,42,44,44,48,48,46,48,48,50,0,1]),([true,false,true,false,true,false,true,true,true,true,true,true,true,false,false,false,false,false,true,false,false,true,true,true,false,true,true],[1,2,2,2,2,4,6,8,10,12,14,16,16,16,16,16,16,20,20,18,20,20,20,22,22,22,22,22,22,22,22,24,24,24,26,26,26,28,28,28,30,38,32,38,34,38,36,38,40,42,44,48,48,46,48,48,52,52,50,52,52,54,0,1]),([true,false,true,false,true,false,true,true,true,true,true,true,true,false,false,false,false,false,true,false,false,true,true,true,false,true,false,true,true,true],[1,8,6,8,2,6,2,2,2,2,2,6,4,6,4,4,4,6,6,6,6,8,8,10,12,14,16,18,20,22,22,22,22,22,22,26,26,24,26,26,26,28,28,28,28,28,28,28,28,30,30,30,32,32,32,34,34,34,36,44,38,44,40,44,42,44,46,48,50,54,54,52,54,54,58,58,56,58,58,60,0,1]),([true,false,true,false,true,false,true,true,true,true,true,true,true,false,false,false,false,false,true,false,false,true,true,true,false,true,false,true,true,false,true],[2,10,8,10,4,8,4,4,4,4,4,8,6,8,6,6,6,8,8,8,8,10,10,12,14,16,18,20,22,24,24,24,24,24,24,28,28,26,28,28,28,30,30,30,30,30,30,30,30,32,32,32,34,34,34,36,36,36,38,46,40,46,42,46,44,46,48,50,52,56,56,54,56,56,60,60,58,60,60,62,0,1]),([true,false,true,false,true,false,true,true,true,true,true,true,true,false,false,false,false,false,true,false,false,true,true,true,false,true,false,true,true,false,false,true,true,true,true,true,true],[2,4,4,4,6,8,1,10,12,14,22,20,22,16,20,16,16,16,16,16,20,18,20,18,18,18,20,20,20,20,22,22,24,26,28,30,32,34,36,36,36,36,36,36,40,40,38,40,40,40,42,42,42,42,42,42,42,42,44,44,44,46,46,46,48,48,48,50,58,52,58,54,58,56,58,60,62,64,68,68,66,68,68,72,72,70,72,72,74,0,1]),([true,false,true,false,true,false,true,true,true,true,true,true,true,false,false,false,false,false,true,false,false,true,true,true,false,true,false,true,true,false,false,true,true,true,true,true,false,true,true],[2,2,2,2,2,2,4,6,8,8,8,10,12,1,14,16,18,26,24,26,20,24,20,20,20,20,20,24,22,24,22,22,22,24,24,24,24,26,26,28,30,32,34,36,38,40,40,40,40,40,40,44,44,42,44,44,44,46,46,46,46,46,46,46,46,48,48,48,50,50,50,52,52,52,54,62,56,62,58,62,60,62,64,66,68,72,72,70,72,72,76,76,74,76,76,78,0,1]),([true,false,true,false,true,false,true,true,true,true,true,true,true,false,false,false,false,false,true,false,false,true,true,true,false,true,false,true,true,false,false,true,true,true,true,true,false,true,false],[2,2,2,2,2,2,4,6,8,8,8,10,12,1,14,16,18,26,24,26,20,24,20,20,20,20,20,24,22,24,22,22,22,24,24,24,24,26,26,28,30,32,34,36,38,40,40,40,40,40,40,44,44,42,44,44,44,46,46,46,46,46,46,46,46,48,48,48,50,50,50,52,52,52,54,62,56,62,58,62,60,62,64,66,68,72,72,70,72,72,76,76,74,76,76,78,0,1]),([true,false,true,false,true,false,true,true,true,true,true,true,true,false,false,false,false,false,true,false,false,true,true,true,false,true,false,true,true,false,false,true,true,true,true,false,true,true],[2,2,2,2,2,2,4,0,6,6,6,8,10,1,12,14,16,24,22,24,18,22,18,18,18,18,18,22,20,22,20,20,20,22,22,22,22,24,24,26,28,30,32,34,36,38,38,38,38,38,38,42,42,40,42,42,42,44,44,44,44,44,44,44,44,46,46,46,48,48,48,50,50,50,52,60,54,60,56,60,58,60,62,64,66,70,70,68,70,70,74,74,72,74,74,76,0,1]),([true,false,true,false,true,false,true,true,true,true,true,true,true,false,false,false,false,false,true,false,false,true,true,true,false,true,false,true,true,false,false,true,true,true,true,false,true,false],[2,2,2,2,2,2,4,0,6,6,6,8,10,1,12,14,16,24,22,24,18,22,18,18,18,18,18,22,20,22,20,20,20,22,22,22,22,24,24,26,28,30,32,34,36,38,38,38,38,38,38,42,42,40,42,42,42,44,44,44,44,44,44,44,44,46,46,46,48,48,48,50,50,50,52,60,54,60,56,60,58,60,62,64,66,70,70,68,70,70,74,74,72,74,74,76,0,1]),([true,false,true,false,true,false,true,true,true,true,true,true,true,false,false,false,false,false,true,false,false,true,true,true,false,true,false,true,false,true],[2,8,6,8,0,6,0,0,0,0,0,6,4,6,4,4,4,6,6,6,6,8,8,10,12,14,16,18,20,22,22,22,22,22,22,26,26,24,26,26,26,28,28,28,28,28,28,28,28,30,30,30,32,32,32,34,34,34,36,44,38,44,40,44,42,44,46,48,50,54,54,52,54,54,58,58,56,58,58,60,0,1]),([true,false,true,false,true,false,true,true,true,true,true,true,true,false,false,false,false,false,true,false,false,true,true,true,false,true,false,true,false,false,true,true,true,true,true,true],[2,4,4,4,6,8,1,10,12,14,20,18,20,0,18,0,0,0,0,0,18,16,18,16,16,16,18,18,18,18,20,20,22,24,26,28,30,32,34,34,34,34,34,34,38,38,36,38,38,38,40,40,40,40,40,40,40,40,42,42,42,44,44,44,46,46,46,48,56,50,56,52,56,54,56,58,60,62,66,66,64,66,66,70,70,68,70,70,72,0,1]),([true,false,true,false,true,false,true,true,true,true,true,true,true,false,false,false,false,false,true,false,false,true,true,true,false,true,false,true,false,false,true,true,true,true,true,false,true,true],[2,2,2,2,2,2,4,6,8,8,8,10,12,1,14,16,18,24,22,24,0,22,0,0,0,0,0,22,20,22,20,20,20,22,22,22,22,24,24,26,28,30,32,34,36,38,38,38,38,38,38,42,42,40,42,42,42,44,44,44,44,44,44,44,44,46,46,46,48,48,48,50,50,50,52,60,54,60,56,60,58,60,62,64,66,70,70,68,70,70,74,74,72,74,74,76,0,1]),([true,false,true,false,true,false,true,true,true,true,true,true,true,false,false,false,false,false,true,false,false,true,true,true,false,true,false,true,false,false,true,true,true,true,true,false,true,false],[2,2,2,2,2,2,4,6,8,8,8,10,12,1,14,16,18,24,22,24,0,22,0,0,0,0,0,22,20,22,20,20,20,22,22,22,22,24,24,26,28,30,32,34,36,38,38,38,38,38,38,42,42,40,42,42,42,44,44,44,44,44,44,44,44,46,46,46,48,48,48,50,50,50,52,60,54,60,56,60,58,60,62,64,66,70,70,68,70,70,74,74,72,74,74,76,0,1]),([true,false,true,false,true,false,true,true,true,true,true,true,true,false,false,false,false,false,true,false,false,true,true,true,false,true,false,true,false,false,true,true,true,true,false,true,true],[2,2,2,2,2,2,4,0,6,6,6,8,10,1,12,14,16,22,20,22,0,20,0,0,0,0,0,20,18,20,18,18,18,20,20,20,20,22,22,24,26,28,30,32,34,36,36,36,36,36,36,40,40,38,40,40,40,42,42,42,42,42,42,42,42,44,44,44,46,46,46,48,48,48,50,58,52,58,54,58,56,58,60,62,64,68,68,66,68,68,72,72,70,72,72,74,0,1]),([true,false,true,false,true,false,true,true,true,true,true,true,true,false,false,false,false,false,true,false,false,true,true,true,false,true,false,true,false,false,true,true,true,true,false,true,false],[2,2,2,2,2,2,4,0,6,6,6,8,10,1,12,14,16,22,20,22,0,20,0,0,0,0,0,20,18,20,18,18,18,20,20,20,20,22,22,24,26,28,30,32,34,36,36,36,36,36,36,40,40,38,40,40,40,42,42,42,42,42,42,42,42,44,44,44,46,46,46,48,48,48,50,58,52,58,54,58,56,58,60,62,64,68,68,66,68,68,72,72,70,72,72,74,0,1]),([true,false,true,false,true,false,true,true,true,true,true,true,true,false,false,false,false,false,true,false,false,true,true,true,false,true,false,false,true,true,true,true,true,true],[2,4,4,4,6,8,1,10,12,0,16,14,16,14,14,14,14,14,14,14,16,16,18,20,22,24,26,28,30,30,30,30,30,30,34,34,32,34,34,34,36,36,36,36,36,36,36,36,38,38,38,40,40,40,42,42,42,44,52,46,52,48,52,50,52,54,56,58,62,62,60,62,62,66,66,64,66,66,68,0,1]),([true,false,true,false,true,false,true,true,true,true,true,true,true,false,false,false,false,false,true,false,false,true,true,true,false,true,false,false,true,true,true,true,true,false,true,true],[2,2,2,2,2,2,4,6,8,8,8,10,12,1,14,16,0,20,18,20,18,18,18,18,18,18,18,20,20,22,24,26,28,30,32,34,34,34,34,34,34,38,38,36,38,38,38,40,40,40,40,40,40,40,40,42,42,42,44,44,44,46,46,46,48,56,50,56,52,56,54,56,58,60,62,66,66,64,66,66,70,70,68,70,70,72,0,1]),([true,false,true,false,true,false,true,true,true,true,true,true,true,false,false,false,false,false,true,false,false,true,true,true,false,true,false,false,true,true,true,true,true,false,true,false],[2,2,2,2,2,2,4,6,8,8,8,10,12,1,14,16,0,20,18,20,18,18,18,18,18,18,18,20,20,22,24,26,28,30,32,34,34,34,34,34,34,38,38,36,38,38,38,40,40,40,40,40,40,40,40,42,42,42,44,44,44,46,46,46,48,56,50,56,52,56,54,56,58,60,62,66,66,64,66,66,70,70,68,70,70,72,0,1]),([true,false,true,false,true,false,true,true,true,true,true,true,true,false,false,false,false,false,true,false,false,true,true,true,false,true,false,false,true,true,true,true,false,true,true],[2,2,2,2,2,2,4,0,6,6,6,8,10,1,12,14,0,18,16,18,16,16,16,16,16,16,16,18,18,20,22,24,26,28,30,32,32,32,32,32,32,36,36,34,36,36,36,38,38,38,38,38,38,38,38,40,40,40,42,42,42,44,44,44,46,54,48,54,50,54,52,54,56,58,60,64,64,62,64,64,68,68,66,68,68,70,0,1]),([true,false,true,false,true,false,true,true,true,true,true,true,true,false,false,false,false,false,true,false,false,true,true,true,false,true,false,false,true,true,true,true,false,true,false],[2,2,2,2,2,2,4,0,6,6,6,8,10,1,12,14,0,18,16,18,16,16,16,16,16,16,16,18,18,20,22,24,26,28,30,32,32,32,32,32,32,36,36,34,36,36,36,38,38,38,38,38,38,38,38,40,40,40,42,42,42,44,44,44,46,54,48,54,50,54,52,54,56,58,60,64,64,62,64,64,68,68,66,68,68,70,0,1]),([true,false,true,false,true,false,true,false,true,true,true,true,true,true],[1,1,1,1,1,1,1,1,1,1,1,1,1,1,1,1,1,1,1,1,1,1,1,1,1,1,2,2,2,4,12,6,12,8,12,10,12,14,16,18,22,22,20,22,22,26,26,24,26,26,28,0,1]),([true,false,true,false,true,false,true,false,true,true,true,true,true,false,true],[1,1,1,1,1,1,1,1,1,1,1,1,1,1,1,1,1,1,1,1,1,1,1,2,2,2,4,4,4,6,14,8,14,10,14,12,14,16,18,20,24,24,22,24,24,28,28,26,28,28,30,0,1]),([true,false,true,false,true,false,true,false,true,true,true,true,true,false,false,true],[1,1,1,1,1,1,1,1,1,1,1,1,1,1,1,1,1,1,1,1,2,2,2,4,4,4,6,6,6,8,16,10,16,12,16,14,16,18,20,22,26,26,24,26,26,30,30,28,30,30,32,0,1]),([true,false,true,false,true,false,true,false,true,true,true,true,true,false,false,false,true],[1,1,1,1,1,1,1,1,1,1,1,1,2,2,2,2,2,2,2,2,4,4,4,6,6,6,8,8,8,10,18,12,18,14,18,16,18,20,22,24,28,28,26,28,28,32,32,30,32,32,34,0,1]),([true,false,true,false,true,false,true,false,true,true,true,true,true,false,false,false,false,true],[1,1,1,1,1,1,1,2,2,2,2,2,4,4,4,4,4,4,4,4,6,6,6,8,8,8,10,10,10,12,20,14,20,16,20,18,20,22,24,26,30,30,28,30,30,34,34,32,34,34,36,0,1]),([true,false,true,false,true,false,true,false,true,true,true,true,true,false,false,false,false,false,true,true],[1,2,2,2,2,2,2,6,6,4,6,6,6,8,8,8,8,8,8,8,8,10,10,10,12,12,12,14,14,14,16,24,18,24,20,24,22,24,26,28,30,34,34,32,34,34,38,38,36,38,38,40,0,1]),([true,false,true,false,true,false,true,false,true,true,true,true,true,false,false,false,false,false,true,false,true],[2,4,4,4,4,4,4,8,8,6,8,8,8,10,10,10,10,10,10,10,10,12,12,12,14,14,14,16,16,16,18,26,20,26,22,26,24,26,28,30,32,36,36,34,36,36,40,40,38,40,40,42,0,1]),([true,false,true,false,true,false,true,false,true,true,true,true,true,false,false,false,false,false,true,false,false,true,true,true,true],[2,4,6,8,10,12,12,12,12,12,12,16,16,14,16,16,16,18,18,18,18,18,18,18,18,20,20,20,22,22,22,24,24,24,26,34,28,34,30,34,32,34,36,38,40,44,44,42,44,44,48,48,46,48,48,50,0,1]),([true,false,true,false,true,false,true,false,true,true,true,true,true,false,false,false,false,false,true,false,false,true,true,true,false,true,true],[1,2,2,2,2,4,6,8,10,12,14,16,16,16,16,16,16,20,20,18,20,20,20,22,22,22,22,22,22,22,22,24,24,24,26,26,26,28,28,28,30,38,32,38,34,38,36,38,40,42,44,48,48,46,48,48,52,52,50,52,52,54,0,1]),([true,false,true,false,true,false,true,false,true,true,true,true,true,false,false,false,false,false,true,false,false,true,true,true,false,true,false,true,true,true],[1,8,6,8,2,6,2,2,2,2,2,6,4,6,4,4,4,6,6,6,6,8,8,10,12,14,16,18,20,22,22,22,22,22,22,26,26,24,26,26,26,28,28,28,28,28,28,28,28,30,30,30,32,32,32,34,34,34,36,44,38,44,40,44,42,44,46,48,50,54,54,52,54,54,58,58,56,58,58,60,0,1]),([true,false,true,false,true,false,true,false,true,true,true,true,true,false,false,false,false,false,true,false,false,true,true,true,false,true,false,true,true,false,true],[2,10,8,10,4,8,4,4,4,4,4,8,6,8,6,6,6,8,8,8,8,10,10,12,14,16,18,20,22,24,24,24,24,24,24,28,28,26,28,28,28,30,30,30,30,30,30,30,30,32,32,32,34,34,34,36,36,36,38,46,40,46,42,46,44,46,48,50,52,56,56,54,56,56,60,60,58,60,60,62,0,1]),([true,false,true,false,true,false,true,false,true,true,true,true,true,false,false,false,false,false,true,false,false,true,true,true,false,true,false,true,true,false,false,true,true,true,true,true,true],[2,4,4,4,6,8,1,10,12,14,22,20,22,16,20,16,16,16,16,16,20,18,20,18,18,18,20,20,20,20,22,22,24,26,28,30,32,34,36,36,36,36,36,36,40,40,38,40,40,40,42,42,42,42,42,42,42,42,44,44,44,46,46,46,48,48,48,50,58,52,58,54,58,56,58,60,62,64,68,68,66,68,68,72,72,70,72,72,74,0,1]),([true,false,true,false,true,false,true,false,true,true,true,true,true,false,false,false,false,false,true,false,false,true,true,true,false,true,false,true,true,false,false,true,true,true,true,true,false,true,true],[2,2,2,2,2,2,4,6,8,8,8,10,12,1,14,16,18,26,24,26,20,24,20,20,20,20,20,24,22,24,22,22,22,24,24,24,24,26,26,28,30,32,34,36,38,40,40,40,40,40,40,44,44,42,44,44,44,46,46,46,46,46,46,46,46,48,48,48,50,50,50,52,52,52,54,62,56,62,58,62,60,62,64,66,68,72,72,70,72,72,76,76,74,76,76,78,0,1]),([true,false,true,false,true,false,true,false,true,true,true,true,true,false,false,false,false,false,true,false,false,true,true,true,false,true,false,true,true,false,false,true,true,true,true,true,false,true,false],[2,2,2,2,2,2,4,6,8,8,8,10,12,1,14,16,18,26,24,26,20,24,20,20,20,20,20,24,22,24,22,22,22,24,24,24,24,26,26,28,30,32,34,36,38,40,40,40,40,40,40,44,44,42,44,44,44,46,46,46,46,46,46,46,46,48,48,48,50,50,50,52,52,52,54,62,56,62,58,62,60,62,64,66,68,72,72,70,72,72,76,76,74,76,76,78,0,1]),([true,false,true,false,true,false,true,false,true,true,true,true,true,false,false,false,false,false,true,false,false,true,true,true,false,true,false,true,true,false,false,true,true,true,true,false,true,true],[2,2,2,2,2,2,4,0,6,6,6,8,10,1,12,14,16,24,22,24,18,22,18,18,18,18,18,22,20,22,20,20,20,22,22,22,22,24,24,26,28,30,32,34,36,38,38,38,38,38,38,42,42,40,42,42,42,44,44,44,44,44,44,44,44,46,46,46,48,48,48,50,50,50,52,60,54,60,56,60,58,60,62,64,66,70,70,68,70,70,74,74,72,74,74,76,0,1]),([true,false,true,false,true,false,true,false,true,true,true,true,true,false,false,false,false,false,true,false,false,true,true,true,false,true,false,true,true,false,false,true,true,true,true,false,true,false],[2,2,2,2,2,2,4,0,6,6,6,8,10,1,12,14,16,24,22,24,18,22,18,18,18,18,18,22,20,22,20,20,20,22,22,22,22,24,24,26,28,30,32,34,36,38,38,38,38,38,38,42,42,40,42,42,42,44,44,44,44,44,44,44,44,46,46,46,48,48,48,50,50,50,52,60,54,60,56,60,58,60,62,64,66,70,70,68,70,70,74,74,72,74,74,76,0,1]),([true,false,true,false,true,false,true,false,true,true,true,true,true,false,false,false,false,false,true,false,false,true,true,true,false,true,false,true,false,true],[2,8,6,8,0,6,0,0,0,0,0,6,4,6,4,4,4,6,6,6,6,8,8,10,12,14,16,18,20,22,22,22,22,22,22,26,26,24,26,26,26,28,28,28,28,28,28,28,28,30,30,30,32,32,32,34,34,34,36,44,38,44,40,44,42,44,46,48,50,54,54,52,54,54,58,58,56,58,58,60,0,1]),([true,false,true,false,true,false,true,false,true,true,true,true,true,false,false,false,false,false,true,false,false,true,true,true,false,true,false,true,false,false,true,true,true,true,true,true],[2,4,4,4,6,8,1,10,12,14,20,18,20,0,18,0,0,0,0,0,18,16,18,16,16,16,18,18,18,18,20,20,22,24,26,28,30,32,34,34,34,34,34,34,38,38,36,38,38,38,40,40,40,40,40,40,40,40,42,42,42,44,44,44,46,46,46,48,56,50,56,52,56,54,56,58,60,62,66,66,64,66,66,70,70,68,70,70,72,0,1]),([true,false,true,false,true,false,true,false,true,true,true,true,true,false,false,false,false,false,true,false,false,true,true,true,false,true,false,true,false,false,true,true,true,true,true,false,true,true],[2,2,2,2,2,2,4,6,8,8,8,10,12,1,14,16,18,24,22,24,0,22,0,0,0,0,0,22,20,22,20,20,20,22,22,22,22,24,24,26,28,30,32,34,36,38,38,38,38,38,38,42,42,40,42,42,42,44,44,44,44,44,44,44,44,46,46,46,48,48,48,50,50,50,52,60,54,60,56,60,58,60,62,64,66,70,70,68,70,70,74,74,72,74,74,76,0,1]),([true,false,true,false,true,false,true,false,true,true,true,true,true,false,false,false,false,false,true,false,false,true,true,true,false,true,false,true,false,false,true,true,true,true,true,false,true,false],[2,2,2,2,2,2,4,6,8,8,8,10,12,1,14,16,18,24,22,24,0,22,0,0,0,0,0,22,20,22,20,20,20,22,22,22,22,24,24,26,28,30,32,34,36,38,38,38,38,38,38,42,42,40,42,42,42,44,44,44,44,44,44,44,44,46,46,46,48,48,48,50,50,50,52,60,54,60,56,60,58,60,62,64,66,70,70,68,70,70,74,74,72,74,74,76,0,1]),([true,false,true,false,true,false,true,false,true,true,true,true,true,false,false,false,false,false,true,false,false,true,true,true,false,true,false,true,false,false,true,true,true,true,false,true,true],[2,2,2,2,2,2,4,0,6,6,6,8,10,1,12,14,16,22,20,22,0,20,0,0,0,0,0,20,18,20,18,18,18,20,20,20,20,22,22,24,26,28,30,32,34,36,36,36,36,36,36,40,40,38,40,40,40,42,42,42,42,42,42,42,42,44,44,44,46,46,46,48,48,48,50,58,52,58,54,58,56,58,60,62,64,68,68,66,68,68,72,72,70,72,72,74,0,1]),([true,false,true,false,true,false,true,false,true,true,true,true,true,false,false,false,false,false,true,false,false,true,true,true,false,true,false,true,false,false,true,true,true,true,false,true,false],[2,2,2,2,2,2,4,0,6,6,6,8,10,1,12,14,16,22,20,22,0,20,0,0,0,0,0,20,18,20,18,18,18,20,20,20,20,22,22,24,26,28,30,32,34,36,36,36,36,36,36,40,40,38,40,40,40,42,42,42,42,42,42,42,42,44,44,44,46,46,46,48,48,48,50,58,52,58,54,58,56,58,60,62,64,68,68,66,68,68,72,72,70,72,72,74,0,1]),([true,false,true,false,true,false,true,false,true,true,true,true,true,false,false,false,false,false,true,false,false,true,true,true,false,true,false,false,true,true,true,true,true,true],[2,4,4,4,6,8,1,10,12,0,16,14,16,14,14,14,14,14,14,14,16,16,18,20,22,24,26,28,30,30,30,30,30,30,34,34,32,34,34,34,36,36,36,36,36,36,36,36,38,38,38,40,40,40,42,42,42,44,52,46,52,48,52,50,52,54,56,58,62,62,60,62,62,66,66,64,66,66,68,0,1]),([true,false,true,false,true,false,true,false,true,true,true,true,true,false,false,false,false,false,true,false,false,true,true,true,false,true,false,false,true,true,true,true,true,false,true,true],[2,2,2,2,2,2,4,6,8,8,8,10,12,1,14,16,0,20,18,20,18,18,18,18,18,18,18,20,20,22,24,26,28,30,32,34,34,34,34,34,34,38,38,36,38,38,38,40,40,40,40,40,40,40,40,42,42,42,44,44,44,46,46,46,48,56,50,56,52,56,54,56,58,60,62,66,66,64,66,66,70,70,68,70,70,72,0,1]),([true,false,true,false,true,false,true,false,true,true,true,true,true,false,false,false,false,false,true,false,false,true,true,true,false,true,false,false,true,true,true,true,true,false,true,false],[2,2,2,2,2,2,4,6,8,8,8,10,12,1,14,16,0,20,18,20,18,18,18,18,18,18,18,20,20,22,24,26,28,30,32,34,34,34,34,34,34,38,38,36,38,38,38,40,40,40,40,40,40,40,40,42,42,42,44,44,44,46,46,46,48,56,50,56,52,56,54,56,58,60,62,66,66,64,66,66,70,70,68,70,70,72,0,1]),([true,false,true,false,true,false,true,false,true,true,true,true,true,false,false,false,false,false,true,false,false,true,true,true,false,true,false,false,true,true,true,true,false,true,true],[2,2,2,2,2,2,4,0,6,6,6,8,10,1,12,14,0,18,16,18,16,16,16,16,16,16,16,18,18,20,22,24,26,28,30,32,32,32,32,32,32,36,36,34,36,36,36,38,38,38,38,38,38,38,38,40,40,40,42,42,42,44,44,44,46,54,48,54,50,54,52,54,56,58,60,64,64,62,64,64,68,68,66,68,68,70,0,1]),([true,false,true,false,true,false,true,false,true,true,true,true,true,false,false,false,false,false,true,false,false,true,true,true,false,true,false,false,true,true,true,true,false,true,false],[2,2,2,2,2,2,4,0,6,6,6,8,10,1,12,14,0,18,16,18,16,16,16,16,16,16,16,18,18,20,22,24,26,28,30,32,32,32,32,32,32,36,36,34,36,36,36,38,38,38,38,38,38,38,38,40,40,40,42,42,42,44,44,44,46,54,48,54,50,54,52,54,56,58,60,64,64,62,64,64,68,68,66,68,68,70,0,1])] :=
  ⟨by kernel_rfl,by kernel_rfl,by kernel_rfl,by kernel_rfl,by kernel_rfl,by kernel_rfl,by kernel_rfl,by kernel_rfl,by kernel_rfl,by kernel_rfl,by kernel_rfl,by kernel_rfl,by kernel_rfl,by kernel_rfl,by kernel_rfl,by kernel_rfl,by kernel_rfl,by kernel_rfl,by kernel_rfl,by kernel_rfl,by kernel_rfl,by kernel_rfl,by kernel_rfl,by kernel_rfl,by kernel_rfl,by kernel_rfl,by kernel_rfl,by kernel_rfl,by kernel_rfl,by kernel_rfl,by kernel_rfl,by kernel_rfl,by kernel_rfl,by kernel_rfl,by kernel_rfl,by kernel_rfl,by kernel_rfl,by kernel_rfl,by kernel_rfl,by kernel_rfl,by kernel_rfl,by kernel_rfl,by kernel_rfl,by kernel_rfl,by kernel_rfl,by kernel_rfl,by kernel_rfl,by kernel_rfl,by kernel_rfl,by kernel_rfl,by kernel_rfl,by kernel_rfl,by kernel_rfl,by kernel_rfl,by kernel_rfl,by kernel_rfl,by kernel_rfl,trivial⟩

theorem ok4_t (x0:(List Int)) (x0':(List Int)) (x1:Int) (x1':Int) (x2:Int) (x2':Int):TrOk (PureRuns Go.Proofs.Try.prog (kl4_2 Go.Proofs.Try.prog).orc 4 as4 rs4 ((x0,x0',()),(x1,x1',()),(x2,x2',()),())) (t4 x0 x0' x1 x1' x2 x2') :=
  Walks.ok (fun _ _ _=>PureRuns.of) (wk4 x0 x0' x1 x1' x2 x2') (by kernel_rfl)

theorem ok4:PureOk Go.Proofs.Try.prog 4 p4:=pureOk_of kl4_2_ok.base (T:=fun (d:Tys.data as4)=>t4 d.1.1 d.1.2.1 d.2.1.1 d.2.1.2.1 d.2.2.1.1 d.2.2.1.2.1) (by kernel_rfl) (fun (d:Tys.data as4)=>ok4_t d.1.1 d.1.2.1 d.2.1.1 d.2.1.2.1 d.2.2.1.1 d.2.2.1.2.1)

end Go.Vm.Mo
