import Derived.Test.YtaodpefmlgalfaaA4
import Derived.KernelRfl
import Derived.Test.YtaodpefmlgalfaaProg
import Derived.Test.YtaodpefmlgalfaaRsFc
set_option linter.unusedVariables false
set_option linter.unusedSimpArgs false

namespace Go.Vm.Mo
open Go
set_option linter.unusedVariables false

/-! loop 2 of ductility/modal.SwayOf -/

abbrev sh31_2:Sh:={ n:=78,slots:=[1,4,8,9,12,13,50,51,52],pats:=[.ty (.slice (.int .i64)),.ptr 0 2 0,.ty (.int .i64),.ty (.int .i64),.acc (.int .i64),.ty (.int .i64),.ty (.slice (.int .i64)),.ty (.int .i64),.ty (.int .i64)],boxes:=[.row [.ty (.int .i64),.nil]] }
abbrev shb31_2:Sh:={ n:=78,slots:=[4,9,12],pats:=[.ptr 0 2 0,.ty (.int .i64),.acc (.int .i64)],boxes:=[.row [.ty (.int .i64),.nil]] }
abbrev shr31_2:Sh:={ n:=78,slots:=[],pats:=[],boxes:=[.row [.ty (.int .i64),.nil]] }

def t31_2 (x0:(List Int)) (x2:Int) (x3:Int) (x4:(List Int)) (x5:Int) (x6:(List Int)) (x7:Int) (x8:Int) (b0_0:Int):Tr (Out sh31_2.data shb31_2.data shr31_2.data) :=
  Tr.test ((!leF x7 x8:Bool))
    (Tr.test (decide ((0:Int) ≤ x8) && decide (x8 < (↑(List.length x6):Int)))
      (Tr.test ((List.getD x6 (Int.toNat x8) (0:Int) == (0:Int):Bool))
        (Tr.stop)
        (Tr.test ((decide ((0:Int) ≤ x8) && decide (x8 < (↑(List.length x0):Int)):Bool))
          (Tr.test ((Nat.ble (((2:Nat) * (List.length x4 + (1:Nat)) + (192:Nat)) * (8:Nat)) (281474976710656:Nat) && Nat.ble (List.length x4 + (1:Nat)) (281474976710656:Nat):Bool))
            (Tr.fin (.again ((x0,((wrap64 (x2 - List.getD x0 (Int.toNat x8) (0:Int)):Int),(x3,((x4++[wrap64 (x5 + wrap64 (x2 * Go.IntKind.wrap Go.IntKind.i64 (Int.tdiv x3 (List.getD x6 (Int.toNat x8) (0:Int)))))]:List Int),((wrap64 (x5 + wrap64 (x2 * Go.IntKind.wrap Go.IntKind.i64 (Int.tdiv x3 (List.getD x6 (Int.toNat x8) (0:Int))))):Int),(x6,(x7,((wrap64 (x8 + (1:Int)):Int),())))))))),((b0_0,()),()))))
            (Tr.stop))
          (Tr.stop)))
      (Tr.stop))
    (Tr.fin (.brk ((x3,(x4,())),((b0_0,()),()))))

def s31_2 (d:sh31_2.data):Option (Out sh31_2.data shb31_2.data shr31_2.data):=(t31_2 d.1.1 d.1.2.1 d.1.2.2.1 d.1.2.2.2.1 d.1.2.2.2.2.1 d.1.2.2.2.2.2.1 d.1.2.2.2.2.2.2.1 d.1.2.2.2.2.2.2.2.1 d.2.1.1).val
def l31_2 (d:sh31_2.data):Option (shb31_2.data ⊕ shr31_2.data):=itr s31_2 rounds d
def b31_2 (d:sh31_2.data):shb31_2.data:=outB shb31_2.dflt (l31_2 d)
def lc31_2:LoopC:=lcB sh31_2 shb31_2 shr31_2 l31_2 b31_2

theorem wk31_2 (x0:(List Int)) (x2:Int) (x3:Int) (x4:(List Int)) (x5:Int) (x6:(List Int)) (x7:Int) (x8:Int) (b0_0:Int):Walks (runBody (kl31_0 Go.Proofs.Try.prog).orc Go.Proofs.Try.prog 400 31 2 sh31_2 shb31_2 shr31_2 ((x0,x2,x3,x4,x5,x6,x7,x8,()),(b0_0,()),())) (t31_2 x0 x2 x3 x4 x5 x6 x7 x8 b0_0) [([true,true,false,true,true],[1,2,0,4,6,8,10]),([ff],[2])] :=
  ⟨by kernel_rfl,by kernel_rfl,trivial⟩

theorem ok31_2_t (x0:(List Int)) (x2:Int) (x3:Int) (x4:(List Int)) (x5:Int) (x6:(List Int)) (x7:Int) (x8:Int) (b0_0:Int):TrOk (BodyRuns Go.Proofs.Try.prog (kl31_0 Go.Proofs.Try.prog).orc 31 2 sh31_2 shb31_2 shr31_2 ((x0,x2,x3,x4,x5,x6,x7,x8,()),(b0_0,()),())) (t31_2 x0 x2 x3 x4 x5 x6 x7 x8 b0_0) :=
  Walks.ok (fun _ _ _=>BodyRuns.of) (wk31_2 x0 x2 x3 x4 x5 x6 x7 x8 b0_0) (by kernel_rfl)

theorem ok31_2:LoopOk Go.Proofs.Try.prog 31 2 lc31_2:=loopOk_ofB (sh:=sh31_2) (shB:=shb31_2) (shR:=shr31_2) kl31_0_ok.base (T:=fun (d:sh31_2.data)=>t31_2 d.1.1 d.1.2.1 d.1.2.2.1 d.1.2.2.2.1 d.1.2.2.2.2.1 d.1.2.2.2.2.2.1 d.1.2.2.2.2.2.2.1 d.1.2.2.2.2.2.2.2.1 d.2.1.1) (by kernel_rfl) rfl (fun (d:sh31_2.data)=>ok31_2_t d.1.1 d.1.2.1 d.1.2.2.1 d.1.2.2.2.1 d.1.2.2.2.2.1 d.1.2.2.2.2.2.1 d.1.2.2.2.2.2.2.1 d.1.2.2.2.2.2.2.2.1 d.2.1.1) (fun _=>rfl)
def kl31_2 (P:Go.Program):Known:=(kl31_0 P).loop 31 2 lc31_2
theorem kl31_2_ok:KnownOk Go.Proofs.Try.prog (kl31_2 Go.Proofs.Try.prog):=kl31_0_ok.loop ok31_2

/-! ductility/modal.SwayOf -/

abbrev as31:List Ty:=[(.pair (.slice (.int .i64)) (.pair (.slice (.int .i64)) .unit)),(.slice (.int .i64))]
abbrev rs31:List Ty:=[(.pair (.int .i64) (.pair (.slice (.int .i64)) .unit)),(.int .i64)]

def t31 (x0:(List Int)) (x0':(List Int)) (x1:(List Int)):Tr (Tys.data rs31) :=
  Tr.test (Option.isSome (f67 (x1,((↑(List.length x0):Int),()))))
    (Tr.test (Option.isSome (f9 ((x0,(x0',())),())))
      (let r0:=g67 (x1,((↑(List.length x0):Int),()));
      Tr.test (Option.isSome (f44 (([r0.1]:List Int),())))
        (let r1:=g9 ((x0,(x0',())),());
        let r2:=g44 (([r0.1]:List Int),());
        Tr.test (Option.isSome (f44 (([r1.2.1,r2.1]:List Int),())))
          (let r3:=g44 (([r1.2.1,r2.1]:List Int),());
          Tr.test ((!eqF r3.1 0:Bool))
            (Tr.fin ((((0:Int),(([]:List Int),())),(r3.1,()))))
            (Tr.test (isBrk (l31_0 ((x1,((0:Int),((1:Int),(x0',((↑(List.length x0'):Int),((0:Int),())))))),((x0,(x0',())),(((0:Int),()),())))))
              (let r4:=b31_0 ((x1,((0:Int),((1:Int),(x0',((↑(List.length x0'):Int),((0:Int),())))))),((x0,(x0',())),(((0:Int),()),())));
              Tr.test (isBrk (l31_2 ((r4.1.1,(r4.1.2.1,(r4.1.2.2.1,(([]:List Int),((0:Int),(r4.2.1.2.1,((↑(List.length r4.2.1.2.1):Int),((0:Int),())))))))),((r4.2.2.1.1,()),()))))
                (let r5:=b31_2 ((r4.1.1,(r4.1.2.1,(r4.1.2.2.1,(([]:List Int),((0:Int),(r4.2.1.2.1,((↑(List.length r4.2.1.2.1):Int),((0:Int),())))))))),((r4.2.2.1.1,()),()));
                Tr.test (Option.isSome (f64 (r5.1.1,(r5.1.2.1,()))))
                  (let r6:=g64 (r5.1.1,(r5.1.2.1,()));
                  Tr.fin (((r6.1.1,(r6.1.2.1,())),((0:Int),()))))
                  (Tr.stop))
                (Tr.stop))
              (Tr.stop)))
          (Tr.stop))
        (Tr.stop))
      (Tr.stop))
    (Tr.stop)

def f31 (d:Tys.data as31):Option (Tys.data rs31):=(t31 d.1.1 d.1.2.1 d.2.1).val
def g31 (d:Tys.data as31):Tys.data rs31:=(f31 d).getD (Tys.dflt rs31)
def p31:PureC:=pcOf as31 rs31 f31 g31

theorem wk31 (x0:(List Int)) (x0':(List Int)) (x1:(List Int)):Walks (runPure (kl31_2 Go.Proofs.Try.prog).orc Go.Proofs.Try.prog 400 31 as31 rs31 ((x0,x0',()),x1,())) (t31 x0 x0' x1) [([true,true,true,true,true],[2,2,4,1,6,1,8,10]),([true,true,true,true,false,true,true,true],[2,1,4,1,6,0,8,10,1,12,1,14,16])] :=
  ⟨by kernel_rfl,by kernel_rfl,trivial⟩

theorem ok31_t (x0:(List Int)) (x0':(List Int)) (x1:(List Int)):TrOk (PureRuns Go.Proofs.Try.prog (kl31_2 Go.Proofs.Try.prog).orc 31 as31 rs31 ((x0,x0',()),x1,())) (t31 x0 x0' x1) :=
  Walks.ok (fun _ _ _=>PureRuns.of) (wk31 x0 x0' x1) (by kernel_rfl)

theorem ok31:PureOk Go.Proofs.Try.prog 31 p31:=pureOk_of kl31_2_ok.base (T:=fun (d:Tys.data as31)=>t31 d.1.1 d.1.2.1 d.2.1) (by kernel_rfl) (fun (d:Tys.data as31)=>ok31_t d.1.1 d.1.2.1 d.2.1)
def kf31 (P:Go.Program):Known:=(kl31_2 P).func 31 p31
theorem kf31_ok:KnownOk Go.Proofs.Try.prog (kf31 Go.Proofs.Try.prog):=kl31_2_ok.func ok31

/-! loop 0 of ductility/ductilitylaw06.isShape -/

abbrev sh32_0:Sh:={ n:=29,slots:=[1,2,5],pats:=[.ty (.int .i64),.ptr 0 2 0,.ty (.int .i64)],boxes:=[.row [.ty (.int .i64),.ty (.slice (.int .i64))]] }
abbrev shb32_0:Sh:={ n:=29,slots:=[],pats:=[],boxes:=[.row [.ty (.int .i64),.ty (.slice (.int .i64))]] }
abbrev shr32_0:Sh:={ n:=29,slots:=[4],pats:=[.ty .bool],boxes:=[.row [.ty (.int .i64),.ty (.slice (.int .i64))]] }

def t32_0 (x0:Int) (x2:Int) (b0_0:Int) (b0_1:(List Int)):Tr (Out sh32_0.data shb32_0.data shr32_0.data) :=
  Tr.test ((!leF x0 x2:Bool))
    (Tr.test (decide ((0:Int) ≤ x2) && decide (x2 < (↑(List.length b0_1):Int)))
      (Tr.test (Option.isSome (f18 ((List.getD b0_1 (Int.toNat x2) (0:Int):Int),((-1125899906842624:Int),((1125899906842624:Int),())))))
        (let r0:=g18 ((List.getD b0_1 (Int.toNat x2) (0:Int):Int),((-1125899906842624:Int),((1125899906842624:Int),())));
        Tr.test ((!r0.1:Bool))
          (Tr.fin (.ret (((false:Bool),()),((b0_0,(b0_1,())),()))))
          (Tr.fin (.again ((x0,((wrap64 (x2 + (1:Int)):Int),())),((b0_0,(b0_1,())),())))))
        (Tr.stop))
      (Tr.stop))
    (Tr.fin (.brk ((),((b0_0,(b0_1,())),()))))

def s32_0 (d:sh32_0.data):Option (Out sh32_0.data shb32_0.data shr32_0.data):=(t32_0 d.1.1 d.1.2.1 d.2.1.1 d.2.1.2.1).val
def l32_0 (d:sh32_0.data):Option (shb32_0.data ⊕ shr32_0.data):=itr s32_0 rounds d
def b32_0 (d:sh32_0.data):shb32_0.data:=outB shb32_0.dflt (l32_0 d)
def r32_0 (d:sh32_0.data):shr32_0.data:=outR shr32_0.dflt (l32_0 d)
def lc32_0:LoopC:=lcOf sh32_0 shb32_0 shr32_0 l32_0 b32_0 r32_0

theorem wk32_0 (x0:Int) (x2:Int) (b0_0:Int) (b0_1:(List Int)):Walks (runBody (kf31 Go.Proofs.Try.prog).orc Go.Proofs.Try.prog 400 32 0 sh32_0 shb32_0 shr32_0 ((x0,x2,()),(b0_0,b0_1,()),())) (t32_0 x0 x2 b0_0 b0_1) [([true,true,true,true],[2,4,6,8]),([true,true,true,false],[2,4,6,8]),([ff],[2])] :=
  ⟨by kernel_rfl,by kernel_rfl,by kernel_rfl,trivial⟩

theorem ok32_0_t (x0:Int) (x2:Int) (b0_0:Int) (b0_1:(List Int)):TrOk (BodyRuns Go.Proofs.Try.prog (kf31 Go.Proofs.Try.prog).orc 32 0 sh32_0 shb32_0 shr32_0 ((x0,x2,()),(b0_0,b0_1,()),())) (t32_0 x0 x2 b0_0 b0_1) :=
  Walks.ok (fun _ _ _=>BodyRuns.of) (wk32_0 x0 x2 b0_0 b0_1) (by kernel_rfl)

theorem ok32_0:LoopOk Go.Proofs.Try.prog 32 0 lc32_0:=loopOk_of (sh:=sh32_0) (shB:=shb32_0) (shR:=shr32_0) kf31_ok.base (T:=fun (d:sh32_0.data)=>t32_0 d.1.1 d.1.2.1 d.2.1.1 d.2.1.2.1) (by kernel_rfl) rfl (fun (d:sh32_0.data)=>ok32_0_t d.1.1 d.1.2.1 d.2.1.1 d.2.1.2.1) (fun _=>rfl)
def kl32_0 (P:Go.Program):Known:=(kf31 P).loop 32 0 lc32_0
theorem kl32_0_ok:KnownOk Go.Proofs.Try.prog (kl32_0 Go.Proofs.Try.prog):=kf31_ok.loop ok32_0

/-! ductility/ductilitylaw06.isShape -/

abbrev as32:List Ty:=[(.pair (.int .i64) (.pair (.slice (.int .i64)) .unit)),(.int .i64)]
abbrev rs32:List Ty:=[.bool]

def t32 (x0:Int) (x0':(List Int)) (x1:Int):Tr (Tys.data rs32) :=
  Tr.test (Option.isSome (f18 (x0,((1:Int),((1099511627776:Int),())))))
    (let r0:=g18 (x0,((1:Int),((1099511627776:Int),())));
    Tr.test ((!r0.1:Bool))
      (Tr.fin (((false:Bool),())))
      (Tr.test ((!eqF (↑(List.length x0'):Int) x1:Bool))
        (Tr.fin (((false:Bool),())))
        (Tr.test (Option.isSome (l32_0 ((x1,((0:Int),())),((x0,(x0',())),()))))
          (Tr.test (isRet (l32_0 ((x1,((0:Int),())),((x0,(x0',())),()))))
            (let r1:=r32_0 ((x1,((0:Int),())),((x0,(x0',())),()));
            Tr.fin ((r1.1.1,())))
            (Tr.fin (((true:Bool),()))))
          (Tr.stop))))
    (Tr.stop)

def f32 (d:Tys.data as32):Option (Tys.data rs32):=(t32 d.1.1 d.1.2.1 d.2.1).val
def g32 (d:Tys.data as32):Tys.data rs32:=(f32 d).getD (Tys.dflt rs32)
def p32:PureC:=pcOf as32 rs32 f32 g32

theorem wk32 (x0:Int) (x0':(List Int)) (x1:Int):Walks (runPure (kl32_0 Go.Proofs.Try.prog).orc Go.Proofs.Try.prog 400 32 as32 rs32 ((x0,x0',()),x1,())) (t32 x0 x0' x1) [([true,true],[1,2,2,2,2,2,2,4]),([true,false,true],[2,4,4,4,4,4,4,6]),([true,false,false,true,true],[2,4,6,8,8,8,8,8,8,10]),([true,false,false,true,false],[2,4,6,8,8,8,8,8,8,10])] :=
  ⟨by kernel_rfl,by kernel_rfl,by kernel_rfl,by kernel_rfl,trivial⟩

theorem ok32_t (x0:Int) (x0':(List Int)) (x1:Int):TrOk (PureRuns Go.Proofs.Try.prog (kl32_0 Go.Proofs.Try.prog).orc 32 as32 rs32 ((x0,x0',()),x1,())) (t32 x0 x0' x1) :=
  Walks.ok (fun _ _ _=>PureRuns.of) (wk32 x0 x0' x1) (by kernel_rfl)

theorem ok32:PureOk Go.Proofs.Try.prog 32 p32:=pureOk_of kl32_0_ok.base (T:=fun (d:Tys.data as32)=>t32 d.1.1 d.1.2.1 d.2.1) (by kernel_rfl) (fun (d:Tys.data as32)=>ok32_t d.1.1 d.1.2.1 d.2.1)
def kf32 (P:Go.Program):Known:=(kl32_0 P).func 32 p32
theorem kf32_ok:KnownOk Go.Proofs.Try.prog (kf32 Go.Proofs.Try.prog):=kl32_0_ok.func ok32

/-! loop 0 of ductility/ductilitybase.trimmed -/

abbrev sh104_0:Sh:={ n:=21,slots:=[0,3],pats:=[.ty (.slice (.int .i64)),.ty (.int .i64)],boxes:=[] }
abbrev shb104_0:Sh:={ n:=21,slots:=[0,3],pats:=[.ty (.slice (.int .i64)),.ty (.int .i64)],boxes:=[] }
abbrev shr104_0:Sh:={ n:=21,slots:=[],pats:=[],boxes:=[] }

def t104_0 (x0:(List Int)) (x1:Int):Tr (Out sh104_0.data shb104_0.data shr104_0.data) :=
  Tr.test ((!leF x1 0:Bool))
    (Tr.test (decide ((0:Int) ≤ wrap64 (x1 - (1:Int))) && decide (wrap64 (x1 - (1:Int)) < (↑(List.length x0):Int)))
      (Tr.test ((eqF (List.getD x0 (Int.toNat (wrap64 (x1 - (1:Int)))) (0:Int)) (0:Int):Bool))
        (Tr.fin (.again ((x0,((wrap64 (x1 - (1:Int)):Int),())),())))
        (Tr.fin (.brk ((x0,(x1,())),()))))
      (Tr.stop))
    (Tr.fin (.brk ((x0,(x1,())),())))

def s104_0 (d:sh104_0.data):Option (Out sh104_0.data shb104_0.data shr104_0.data):=(t104_0 d.1.1 d.1.2.1).val
def l104_0 (d:sh104_0.data):Option (shb104_0.data ⊕ shr104_0.data):=itr s104_0 rounds d
def b104_0 (d:sh104_0.data):shb104_0.data:=outB shb104_0.dflt (l104_0 d)
def lc104_0:LoopC:=lcB sh104_0 shb104_0 shr104_0 l104_0 b104_0

theorem wk104_0 (x0:(List Int)) (x1:Int):Walks (runBody (kf32 Go.Proofs.Try.prog).orc Go.Proofs.Try.prog 400 104 0 sh104_0 shb104_0 shr104_0 ((x0,x1,()),())) (t104_0 x0 x1) [([true,true,true],[2,6,6,6,4,6,6,6,6]),([true,true,false],[2,6,6,6,4,6,6,6,6]),([ff],[0,2,2,2,2,2,2,2])] :=
  ⟨by kernel_rfl,by kernel_rfl,by kernel_rfl,trivial⟩

theorem ok104_0_t (x0:(List Int)) (x1:Int):TrOk (BodyRuns Go.Proofs.Try.prog (kf32 Go.Proofs.Try.prog).orc 104 0 sh104_0 shb104_0 shr104_0 ((x0,x1,()),())) (t104_0 x0 x1) :=
  Walks.ok (fun _ _ _=>BodyRuns.of) (wk104_0 x0 x1) (by kernel_rfl)

theorem ok104_0:LoopOk Go.Proofs.Try.prog 104 0 lc104_0:=loopOk_ofB (sh:=sh104_0) (shB:=shb104_0) (shR:=shr104_0) kf32_ok.base (T:=fun (d:sh104_0.data)=>t104_0 d.1.1 d.1.2.1) (by kernel_rfl) rfl (fun (d:sh104_0.data)=>ok104_0_t d.1.1 d.1.2.1) (fun _=>rfl)
def kl104_0 (P:Go.Program):Known:=(kf32 P).loop 104 0 lc104_0
theorem kl104_0_ok:KnownOk Go.Proofs.Try.prog (kl104_0 Go.Proofs.Try.prog):=kf32_ok.loop ok104_0

/-! ductility/ductilitybase.trimmed -/

abbrev as104:List Ty:=[(.slice (.int .i64))]
abbrev rs104:List Ty:=[(.slice (.int .i64))]

def t104 (x0:(List Int)):Tr (Tys.data rs104) :=
  Tr.test (isBrk (l104_0 ((x0,((↑(List.length x0):Int),())),())))
    (let r0:=b104_0 ((x0,((↑(List.length x0):Int),())),());
    Tr.test ((decide ((0:Int) ≤ r0.1.2.1) && decide (r0.1.2.1 ≤ (↑(List.length r0.1.1):Int)):Bool))
      (Tr.fin (((List.take (Int.toNat r0.1.2.1) r0.1.1:List Int),())))
      (Tr.stop))
    (Tr.stop)

def f104 (d:Tys.data as104):Option (Tys.data rs104):=(t104 d.1).val
def g104 (d:Tys.data as104):Tys.data rs104:=(f104 d).getD (Tys.dflt rs104)
def p104:PureC:=pcOf as104 rs104 f104 g104

theorem wk104 (x0:(List Int)):Walks (runPure (kl104_0 Go.Proofs.Try.prog).orc Go.Proofs.Try.prog 400 104 as104 rs104 (x0,())) (t104 x0) [([true,true],[2,1,4])] :=
  ⟨by kernel_rfl,trivial⟩

theorem ok104_t (x0:(List Int)):TrOk (PureRuns Go.Proofs.Try.prog (kl104_0 Go.Proofs.Try.prog).orc 104 as104 rs104 (x0,())) (t104 x0) :=
  Walks.ok (fun _ _ _=>PureRuns.of) (wk104 x0) (by kernel_rfl)

theorem ok104:PureOk Go.Proofs.Try.prog 104 p104:=pureOk_of kl104_0_ok.base (T:=fun (d:Tys.data as104)=>t104 d.1) (by kernel_rfl) (fun (d:Tys.data as104)=>ok104_t d.1)
def kf104 (P:Go.Program):Known:=(kl104_0 P).func 104 p104
theorem kf104_ok:KnownOk Go.Proofs.Try.prog (kf104 Go.Proofs.Try.prog):=kl104_0_ok.func ok104

/-! ductility/ductilitybase.wideOf -/

abbrev as90:List Ty:=[(.int .i64),(.slice (.int .i64))]
abbrev rs90:List Ty:=[(.pair (.int .i64) (.pair (.slice (.int .i64)) .unit))]

def t90 (x0:Int) (x1:(List Int)):Tr (Tys.data rs90) :=
  Tr.test (Option.isSome (f104 (x1,())))
    (let r0:=g104 (x1,());
    Tr.test ((eqF (↑(List.length r0.1):Int) (0:Int):Bool))
      (Tr.fin ((((0:Int),(r0.1,())),())))
      (Tr.fin (((x0,(r0.1,())),()))))
    (Tr.stop)

def f90 (d:Tys.data as90):Option (Tys.data rs90):=(t90 d.1 d.2.1).val
def g90 (d:Tys.data as90):Tys.data rs90:=(f90 d).getD (Tys.dflt rs90)
def p90:PureC:=pcOf as90 rs90 f90 g90

theorem wk90 (x0:Int) (x1:(List Int)):Walks (runPure (kf104 Go.Proofs.Try.prog).orc Go.Proofs.Try.prog 400 90 as90 rs90 (x0,x1,())) (t90 x0 x1) [([true,true],[2,4]),([true,false],[2,4])] :=
  ⟨by kernel_rfl,by kernel_rfl,trivial⟩

theorem ok90_t (x0:Int) (x1:(List Int)):TrOk (PureRuns Go.Proofs.Try.prog (kf104 Go.Proofs.Try.prog).orc 90 as90 rs90 (x0,x1,())) (t90 x0 x1) :=
  Walks.ok (fun _ _ _=>PureRuns.of) (wk90 x0 x1) (by kernel_rfl)

theorem ok90:PureOk Go.Proofs.Try.prog 90 p90:=pureOk_of kf104_ok.base (T:=fun (d:Tys.data as90)=>t90 d.1 d.2.1) (by kernel_rfl) (fun (d:Tys.data as90)=>ok90_t d.1 d.2.1)
def kf90 (P:Go.Program):Known:=(kf104 P).func 90 p90
theorem kf90_ok:KnownOk Go.Proofs.Try.prog (kf90 Go.Proofs.Try.prog):=kf104_ok.func ok90

/-! loop 0 of ductility/ductilitybase.WideOf -/

abbrev sh68_0:Sh:={ n:=20,slots:=[0,2,3,4],pats:=[.ty (.int .i64),.ptr 0 2 0,.ty (.int .i64),.acc (.int .i64)],boxes:=[.row [.ty (.int .i64),.nil]] }
abbrev shb68_0:Sh:={ n:=20,slots:=[2,3,4],pats:=[.ptr 0 2 0,.ty (.int .i64),.acc (.int .i64)],boxes:=[.row [.ty (.int .i64),.nil]] }
abbrev shr68_0:Sh:={ n:=20,slots:=[],pats:=[],boxes:=[.row [.ty (.int .i64),.nil]] }

def t68_0 (x0:Int) (x2:Int) (x3:(List Int)) (b0_0:Int):Tr (Out sh68_0.data shb68_0.data shr68_0.data) :=
  Tr.test ((!eqF x0 0:Bool))
    (Tr.test (Option.isSome (f86 ((Int.tmod x0 (1000000000:Int):Int),())))
      (Tr.test ((Nat.ble (((2:Nat) * (List.length x3 + (1:Nat)) + (192:Nat)) * (8:Nat)) (281474976710656:Nat) && Nat.ble (List.length x3 + (1:Nat)) (281474976710656:Nat):Bool))
        (let r0:=g86 ((Int.tmod x0 (1000000000:Int):Int),());
        Tr.fin (.again (((Go.IntKind.wrap Go.IntKind.i64 (Int.tdiv x0 (1000000000:Int)):Int),(x2,((x3++[r0.1]:List Int),()))),((b0_0,()),()))))
        (Tr.stop))
      (Tr.stop))
    (Tr.fin (.brk ((x2,(x3,())),((b0_0,()),()))))

def s68_0 (d:sh68_0.data):Option (Out sh68_0.data shb68_0.data shr68_0.data):=(t68_0 d.1.1 d.1.2.1 d.1.2.2.1 d.2.1.1).val
def l68_0 (d:sh68_0.data):Option (shb68_0.data ⊕ shr68_0.data):=itr s68_0 rounds d
def b68_0 (d:sh68_0.data):shb68_0.data:=outB shb68_0.dflt (l68_0 d)
def lc68_0:LoopC:=lcB sh68_0 shb68_0 shr68_0 l68_0 b68_0

theorem wk68_0 (x0:Int) (x2:Int) (x3:(List Int)) (b0_0:Int):Walks (runBody (kf90 Go.Proofs.Try.prog).orc Go.Proofs.Try.prog 400 68 0 sh68_0 shb68_0 shr68_0 ((x0,x2,x3,()),(b0_0,()),())) (t68_0 x0 x2 x3 b0_0) [([true,true,true],[0,1,2,0,4,0,6]),([ff],[2])] :=
  ⟨by kernel_rfl,by kernel_rfl,trivial⟩

theorem ok68_0_t (x0:Int) (x2:Int) (x3:(List Int)) (b0_0:Int):TrOk (BodyRuns Go.Proofs.Try.prog (kf90 Go.Proofs.Try.prog).orc 68 0 sh68_0 shb68_0 shr68_0 ((x0,x2,x3,()),(b0_0,()),())) (t68_0 x0 x2 x3 b0_0) :=
  Walks.ok (fun _ _ _=>BodyRuns.of) (wk68_0 x0 x2 x3 b0_0) (by kernel_rfl)

theorem ok68_0:LoopOk Go.Proofs.Try.prog 68 0 lc68_0:=loopOk_ofB (sh:=sh68_0) (shB:=shb68_0) (shR:=shr68_0) kf90_ok.base (T:=fun (d:sh68_0.data)=>t68_0 d.1.1 d.1.2.1 d.1.2.2.1 d.2.1.1) (by kernel_rfl) rfl (fun (d:sh68_0.data)=>ok68_0_t d.1.1 d.1.2.1 d.1.2.2.1 d.2.1.1) (fun _=>rfl)
def kl68_0 (P:Go.Program):Known:=(kf90 P).loop 68 0 lc68_0
theorem kl68_0_ok:KnownOk Go.Proofs.Try.prog (kl68_0 Go.Proofs.Try.prog):=kf90_ok.loop ok68_0

/-! ductility/ductilitybase.WideOf -/

abbrev as68:List Ty:=[(.int .i64)]
abbrev rs68:List Ty:=[(.pair (.int .i64) (.pair (.slice (.int .i64)) .unit))]

def t68 (x0:Int):Tr (Tys.data rs68) :=
  Tr.test ((!leF (0:Int) x0:Bool))
    (Tr.test (isBrk (l68_0 ((x0,((-1:Int),(([]:List Int),()))),(((0:Int),()),()))))
      (let r0:=b68_0 ((x0,((-1:Int),(([]:List Int),()))),(((0:Int),()),()));
      Tr.test (Option.isSome (f90 (r0.1.1,(r0.1.2.1,()))))
        (let r1:=g90 (r0.1.1,(r0.1.2.1,()));
        Tr.fin (((r1.1.1,(r1.1.2.1,())),())))
        (Tr.stop))
      (Tr.stop))
    (Tr.test (isBrk (l68_0 ((x0,((1:Int),(([]:List Int),()))),(((0:Int),()),()))))
      (let r2:=b68_0 ((x0,((1:Int),(([]:List Int),()))),(((0:Int),()),()));
      Tr.test (Option.isSome (f90 (r2.1.1,(r2.1.2.1,()))))
        (let r3:=g90 (r2.1.1,(r2.1.2.1,()));
        Tr.fin (((r3.1.1,(r3.1.2.1,())),())))
        (Tr.stop))
      (Tr.stop))

def f68 (d:Tys.data as68):Option (Tys.data rs68):=(t68 d.1).val
def g68 (d:Tys.data as68):Tys.data rs68:=(f68 d).getD (Tys.dflt rs68)
def p68:PureC:=pcOf as68 rs68 f68 g68

theorem wk68 (x0:Int):Walks (runPure (kl68_0 Go.Proofs.Try.prog).orc Go.Proofs.Try.prog 400 68 as68 rs68 (x0,())) (t68 x0) [([true,true,true],[2,1,4,6]),([false,true,true],[2,1,4,6])] :=
  ⟨by kernel_rfl,by kernel_rfl,trivial⟩

theorem ok68_t (x0:Int):TrOk (PureRuns Go.Proofs.Try.prog (kl68_0 Go.Proofs.Try.prog).orc 68 as68 rs68 (x0,())) (t68 x0) :=
  Walks.ok (fun _ _ _=>PureRuns.of) (wk68 x0) (by kernel_rfl)

theorem ok68:PureOk Go.Proofs.Try.prog 68 p68:=pureOk_of kl68_0_ok.base (T:=fun (d:Tys.data as68)=>t68 d.1) (by kernel_rfl) (fun (d:Tys.data as68)=>ok68_t d.1)
def kf68 (P:Go.Program):Known:=(kl68_0 P).func 68 p68
theorem kf68_ok:KnownOk Go.Proofs.Try.prog (kf68 Go.Proofs.Try.prog):=kl68_0_ok.func ok68

/-! ductility/ductilitybase.RatioInt -/

abbrev as33:List Ty:=[(.int .i64)]
abbrev rs33:List Ty:=[(.pair (.pair (.int .i64) (.pair (.slice (.int .i64)) .unit)) (.pair (.pair (.int .i64) (.pair (.slice (.int .i64)) .unit)) .unit))]

def t33 (x0:Int):Tr (Tys.data rs33) :=
  Tr.test (Option.isSome (f68 (x0,())))
    (Tr.test (Option.isSome (f68 ((1:Int),())))
      (let r0:=g68 (x0,());
      let r1:=g68 ((1:Int),());
      Tr.fin ((((r0.1.1,(r0.1.2.1,())),((r1.1.1,(r1.1.2.1,())),())),())))
      (Tr.stop))
    (Tr.stop)

def f33 (d:Tys.data as33):Option (Tys.data rs33):=(t33 d.1).val
def g33 (d:Tys.data as33):Tys.data rs33:=(f33 d).getD (Tys.dflt rs33)
def p33:PureC:=pcOf as33 rs33 f33 g33

theorem wk33 (x0:Int):Walks (runPure (kf68 Go.Proofs.Try.prog).orc Go.Proofs.Try.prog 400 33 as33 rs33 (x0,())) (t33 x0) [([true,true],[2,4])] :=
  ⟨by kernel_rfl,trivial⟩

theorem ok33_t (x0:Int):TrOk (PureRuns Go.Proofs.Try.prog (kf68 Go.Proofs.Try.prog).orc 33 as33 rs33 (x0,())) (t33 x0) :=
  Walks.ok (fun _ _ _=>PureRuns.of) (wk33 x0) (by kernel_rfl)

theorem ok33:PureOk Go.Proofs.Try.prog 33 p33:=pureOk_of kf68_ok.base (T:=fun (d:Tys.data as33)=>t33 d.1) (by kernel_rfl) (fun (d:Tys.data as33)=>ok33_t d.1)
def kf33 (P:Go.Program):Known:=(kf68 P).func 33 p33
theorem kf33_ok:KnownOk Go.Proofs.Try.prog (kf33 Go.Proofs.Try.prog):=kf68_ok.func ok33

/-! ductility/ductilitybase.WideSign -/

abbrev as91:List Ty:=[(.pair (.int .i64) (.pair (.slice (.int .i64)) .unit))]
abbrev rs91:List Ty:=[(.int .i64)]

def t91 (x0:Int) (x0':(List Int)):Tr (Tys.data rs91) :=
  Tr.fin ((x0,()))

def f91 (d:Tys.data as91):Option (Tys.data rs91):=(t91 d.1.1 d.1.2.1).val
def g91 (d:Tys.data as91):Tys.data rs91:=(f91 d).getD (Tys.dflt rs91)
def p91:PureC:=pcOf as91 rs91 f91 g91

theorem wk91 (x0:Int) (x0':(List Int)):Walks (runPure (kf33 Go.Proofs.Try.prog).orc Go.Proofs.Try.prog 400 91 as91 rs91 ((x0,x0',()),())) (t91 x0 x0') [([],[])] :=
  ⟨by kernel_rfl,trivial⟩

theorem ok91_t (x0:Int) (x0':(List Int)):TrOk (PureRuns Go.Proofs.Try.prog (kf33 Go.Proofs.Try.prog).orc 91 as91 rs91 ((x0,x0',()),())) (t91 x0 x0') :=
  Walks.ok (fun _ _ _=>PureRuns.of) (wk91 x0 x0') (by kernel_rfl)

theorem ok91:PureOk Go.Proofs.Try.prog 91 p91:=pureOk_of kf33_ok.base (T:=fun (d:Tys.data as91)=>t91 d.1.1 d.1.2.1) (by kernel_rfl) (fun (d:Tys.data as91)=>ok91_t d.1.1 d.1.2.1)
def kf91 (P:Go.Program):Known:=(kf33 P).func 91 p91
theorem kf91_ok:KnownOk Go.Proofs.Try.prog (kf91 Go.Proofs.Try.prog):=kf33_ok.func ok91

/-! ductility/ductilitybase.WideNeg -/

abbrev as92:List Ty:=[(.pair (.int .i64) (.pair (.slice (.int .i64)) .unit))]
abbrev rs92:List Ty:=[(.pair (.int .i64) (.pair (.slice (.int .i64)) .unit))]

def t92 (x0:Int) (x0':(List Int)):Tr (Tys.data rs92) :=
  Tr.fin ((((Go.IntKind.wrap Go.IntKind.i64 ((0:Int) - x0):Int),(x0',())),()))

def f92 (d:Tys.data as92):Option (Tys.data rs92):=(t92 d.1.1 d.1.2.1).val
def g92 (d:Tys.data as92):Tys.data rs92:=(f92 d).getD (Tys.dflt rs92)
def p92:PureC:=pcOf as92 rs92 f92 g92

theorem wk92 (x0:Int) (x0':(List Int)):Walks (runPure (kf91 Go.Proofs.Try.prog).orc Go.Proofs.Try.prog 400 92 as92 rs92 ((x0,x0',()),())) (t92 x0 x0') [([],[])] :=
  ⟨by kernel_rfl,trivial⟩

theorem ok92_t (x0:Int) (x0':(List Int)):TrOk (PureRuns Go.Proofs.Try.prog (kf91 Go.Proofs.Try.prog).orc 92 as92 rs92 ((x0,x0',()),())) (t92 x0 x0') :=
  Walks.ok (fun _ _ _=>PureRuns.of) (wk92 x0 x0') (by kernel_rfl)

theorem ok92:PureOk Go.Proofs.Try.prog 92 p92:=pureOk_of kf91_ok.base (T:=fun (d:Tys.data as92)=>t92 d.1.1 d.1.2.1) (by kernel_rfl) (fun (d:Tys.data as92)=>ok92_t d.1.1 d.1.2.1)
def kf92 (P:Go.Program):Known:=(kf91 P).func 92 p92
theorem kf92_ok:KnownOk Go.Proofs.Try.prog (kf92 Go.Proofs.Try.prog):=kf91_ok.func ok92

/-! ductility/ductilitybase.wideSize -/

abbrev as105:List Ty:=[(.pair (.int .i64) (.pair (.slice (.int .i64)) .unit))]
abbrev rs105:List Ty:=[(.pair (.int .i64) (.pair (.slice (.int .i64)) .unit))]

def t105 (x0:Int) (x0':(List Int)):Tr (Tys.data rs105) :=
  Tr.test ((!leF (0:Int) x0:Bool))
    (Tr.test (Option.isSome (f92 ((x0,(x0',())),())))
      (let r0:=g92 ((x0,(x0',())),());
      Tr.fin (((r0.1.1,(r0.1.2.1,())),())))
      (Tr.stop))
    (Tr.fin (((x0,(x0',())),())))

def f105 (d:Tys.data as105):Option (Tys.data rs105):=(t105 d.1.1 d.1.2.1).val
def g105 (d:Tys.data as105):Tys.data rs105:=(f105 d).getD (Tys.dflt rs105)
def p105:PureC:=pcOf as105 rs105 f105 g105

theorem wk105 (x0:Int) (x0':(List Int)):Walks (runPure (kf92 Go.Proofs.Try.prog).orc Go.Proofs.Try.prog 400 105 as105 rs105 ((x0,x0',()),())) (t105 x0 x0') [([true,true],[2,4]),([ff],[2])] :=
  ⟨by kernel_rfl,by kernel_rfl,trivial⟩

theorem ok105_t (x0:Int) (x0':(List Int)):TrOk (PureRuns Go.Proofs.Try.prog (kf92 Go.Proofs.Try.prog).orc 105 as105 rs105 ((x0,x0',()),())) (t105 x0 x0') :=
  Walks.ok (fun _ _ _=>PureRuns.of) (wk105 x0 x0') (by kernel_rfl)

theorem ok105:PureOk Go.Proofs.Try.prog 105 p105:=pureOk_of kf92_ok.base (T:=fun (d:Tys.data as105)=>t105 d.1.1 d.1.2.1) (by kernel_rfl) (fun (d:Tys.data as105)=>ok105_t d.1.1 d.1.2.1)
def kf105 (P:Go.Program):Known:=(kf92 P).func 105 p105
theorem kf105_ok:KnownOk Go.Proofs.Try.prog (kf105 Go.Proofs.Try.prog):=kf92_ok.func ok105

/-! loop 2 of ductility/ductilitybase.WideMul -/

abbrev sh71_2:Sh:={ n:=86,slots:=[2,3,4,5,6,7,8],pats:=[.ptr 0 2 0,.ptr 1 2 0,.ptr 2 2 0,.sli 3 1,.ty (.int .i64),.ty (.int .i64),.ty (.int .i64)],boxes:=[.row [.ty (.int .i64),.ty (.slice (.int .i64))],.row [.ty (.int .i64),.ty (.slice (.int .i64))],.row [.ty (.int .i64),.nil],.arr (.int .i64)] }
abbrev shb71_2:Sh:={ n:=86,slots:=[2,3,4,5,6,7],pats:=[.ptr 0 2 0,.ptr 1 2 0,.ptr 2 2 0,.sli 3 1,.ty (.int .i64),.ty (.int .i64)],boxes:=[.row [.ty (.int .i64),.ty (.slice (.int .i64))],.row [.ty (.int .i64),.ty (.slice (.int .i64))],.row [.ty (.int .i64),.nil],.arr (.int .i64)] }
abbrev shr71_2:Sh:={ n:=86,slots:=[],pats:=[],boxes:=[.row [.ty (.int .i64),.ty (.slice (.int .i64))],.row [.ty (.int .i64),.ty (.slice (.int .i64))],.row [.ty (.int .i64),.nil],.arr (.int .i64)] }

def t71_2 (x3n:Nat) (x3c:Nat) (x4:Int) (x5:Int) (x6:Int) (b0_0:Int) (b0_1:(List Int)) (b1_0:Int) (b1_1:(List Int)) (b2_0:Int) (b3:(List Int)):Tr (Out sh71_2.data shb71_2.data shr71_2.data) :=
  Tr.test ((!leF (↑(List.length b1_1):Int) x6:Bool))
    (Tr.test (decide ((0:Int) ≤ wrap64 (x4 + x6)) && decide (wrap64 (x4 + x6) < (↑x3n:Int)))
      (Tr.test ((Nat.ble ((0:Nat) + Int.toNat (wrap64 (x4 + x6)) + (1:Nat)) (List.length b3):Bool))
        (Tr.test ((decide ((0:Int) ≤ x4) && decide (x4 < (↑(List.length b0_1):Int)):Bool))
          (Tr.test ((decide ((0:Int) ≤ x6) && decide (x6 < (↑(List.length b1_1):Int)):Bool))
            (Tr.fin (.again (((x3n,x3c),(x4,((Go.IntKind.wrap Go.IntKind.i64 (Int.tdiv (wrap64 (wrap64 (List.getD b3 ((0:Nat) + Int.toNat (wrap64 (x4 + x6))) (0:Int) + wrap64 (List.getD b0_1 (Int.toNat x4) (0:Int) * List.getD b1_1 (Int.toNat x6) (0:Int))) + x5)) (1000000000:Int)):Int),((wrap64 (x6 + (1:Int)):Int),())))),((b0_0,(b0_1,())),((b1_0,(b1_1,())),((b2_0,()),((List.set b3 ((0:Nat) + Int.toNat (wrap64 (x4 + x6))) (Int.tmod (wrap64 (wrap64 (List.getD b3 ((0:Nat) + Int.toNat (wrap64 (x4 + x6))) (0:Int) + wrap64 (List.getD b0_1 (Int.toNat x4) (0:Int) * List.getD b1_1 (Int.toNat x6) (0:Int))) + x5)) (1000000000:Int)):List Int),())))))))
            (Tr.stop))
          (Tr.stop))
        (Tr.stop))
      (Tr.stop))
    (Tr.fin (.brk (((x3n,x3c),(x4,(x5,()))),((b0_0,(b0_1,())),((b1_0,(b1_1,())),((b2_0,()),(b3,())))))))

def s71_2 (d:sh71_2.data):Option (Out sh71_2.data shb71_2.data shr71_2.data):=(t71_2 d.1.1.1 d.1.1.2 d.1.2.1 d.1.2.2.1 d.1.2.2.2.1 d.2.1.1 d.2.1.2.1 d.2.2.1.1 d.2.2.1.2.1 d.2.2.2.1.1 d.2.2.2.2.1).val
def l71_2 (d:sh71_2.data):Option (shb71_2.data ⊕ shr71_2.data):=itr s71_2 rounds d
def b71_2 (d:sh71_2.data):shb71_2.data:=outB shb71_2.dflt (l71_2 d)
def lc71_2:LoopC:=lcB sh71_2 shb71_2 shr71_2 l71_2 b71_2

theorem wk71_2 (x3n:Nat) (x3c:Nat) (x4:Int) (x5:Int) (x6:Int) (b0_0:Int) (b0_1:(List Int)) (b1_0:Int) (b1_1:(List Int)) (b2_0:Int) (b3:(List Int)):Walks (runBody (kf105 Go.Proofs.Try.prog).orc Go.Proofs.Try.prog 400 71 2 sh71_2 shb71_2 shr71_2 (((x3n,x3c),x4,x5,x6,()),(b0_0,b0_1,()),(b1_0,b1_1,()),(b2_0,()),b3,())) (t71_2 x3n x3c x4 x5 x6 b0_0 b0_1 b1_0 b1_1 b2_0 b3) [([true,true,true,true,true],[6,8,0,0,2,4,6,8,10]),([ff],[2])] :=
  ⟨by kernel_rfl,by kernel_rfl,trivial⟩

theorem ok71_2_t (x3n:Nat) (x3c:Nat) (x4:Int) (x5:Int) (x6:Int) (b0_0:Int) (b0_1:(List Int)) (b1_0:Int) (b1_1:(List Int)) (b2_0:Int) (b3:(List Int)):TrOk (BodyRuns Go.Proofs.Try.prog (kf105 Go.Proofs.Try.prog).orc 71 2 sh71_2 shb71_2 shr71_2 (((x3n,x3c),x4,x5,x6,()),(b0_0,b0_1,()),(b1_0,b1_1,()),(b2_0,()),b3,())) (t71_2 x3n x3c x4 x5 x6 b0_0 b0_1 b1_0 b1_1 b2_0 b3) :=
  Walks.ok (fun _ _ _=>BodyRuns.of) (wk71_2 x3n x3c x4 x5 x6 b0_0 b0_1 b1_0 b1_1 b2_0 b3) (by kernel_rfl)

theorem ok71_2:LoopOk Go.Proofs.Try.prog 71 2 lc71_2:=loopOk_ofB (sh:=sh71_2) (shB:=shb71_2) (shR:=shr71_2) kf105_ok.base (T:=fun (d:sh71_2.data)=>t71_2 d.1.1.1 d.1.1.2 d.1.2.1 d.1.2.2.1 d.1.2.2.2.1 d.2.1.1 d.2.1.2.1 d.2.2.1.1 d.2.2.1.2.1 d.2.2.2.1.1 d.2.2.2.2.1) (by kernel_rfl) rfl (fun (d:sh71_2.data)=>ok71_2_t d.1.1.1 d.1.1.2 d.1.2.1 d.1.2.2.1 d.1.2.2.2.1 d.2.1.1 d.2.1.2.1 d.2.2.1.1 d.2.2.1.2.1 d.2.2.2.1.1 d.2.2.2.2.1) (fun _=>rfl)
def kl71_2 (P:Go.Program):Known:=(kf105 P).loop 71 2 lc71_2
theorem kl71_2_ok:KnownOk Go.Proofs.Try.prog (kl71_2 Go.Proofs.Try.prog):=kf105_ok.loop ok71_2

/-! loop 0 of ductility/ductilitybase.WideMul -/

abbrev sh71_0:Sh:={ n:=86,slots:=[2,3,4,5,6],pats:=[.ptr 0 2 0,.ptr 1 2 0,.ptr 2 2 0,.sli 3 1,.ty (.int .i64)],boxes:=[.row [.ty (.int .i64),.ty (.slice (.int .i64))],.row [.ty (.int .i64),.ty (.slice (.int .i64))],.row [.ty (.int .i64),.nil],.arr (.int .i64)] }
abbrev shb71_0:Sh:={ n:=86,slots:=[2,3,4,5],pats:=[.ptr 0 2 0,.ptr 1 2 0,.ptr 2 2 0,.sli 3 1],boxes:=[.row [.ty (.int .i64),.ty (.slice (.int .i64))],.row [.ty (.int .i64),.ty (.slice (.int .i64))],.row [.ty (.int .i64),.nil],.arr (.int .i64)] }
abbrev shr71_0:Sh:={ n:=86,slots:=[],pats:=[],boxes:=[.row [.ty (.int .i64),.ty (.slice (.int .i64))],.row [.ty (.int .i64),.ty (.slice (.int .i64))],.row [.ty (.int .i64),.nil],.arr (.int .i64)] }

def t71_0 (x3n:Nat) (x3c:Nat) (x4:Int) (b0_0:Int) (b0_1:(List Int)) (b1_0:Int) (b1_1:(List Int)) (b2_0:Int) (b3:(List Int)):Tr (Out sh71_0.data shb71_0.data shr71_0.data) :=
  Tr.test ((!leF (↑(List.length b0_1):Int) x4:Bool))
    (Tr.test (isBrk (l71_2 (((x3n,x3c),(x4,((0:Int),((0:Int),())))),((b0_0,(b0_1,())),((b1_0,(b1_1,())),((b2_0,()),(b3,())))))))
      (let r0:=b71_2 (((x3n,x3c),(x4,((0:Int),((0:Int),())))),((b0_0,(b0_1,())),((b1_0,(b1_1,())),((b2_0,()),(b3,())))));
      Tr.test ((decide ((0:Int) ≤ wrap64 (r0.1.2.1 + (↑(List.length r0.2.2.1.2.1):Int))) && decide (wrap64 (r0.1.2.1 + (↑(List.length r0.2.2.1.2.1):Int)) < (↑r0.1.1.1:Int)):Bool))
        (Tr.test ((Nat.ble ((0:Nat) + Int.toNat (wrap64 (r0.1.2.1 + (↑(List.length r0.2.2.1.2.1):Int))) + (1:Nat)) (List.length r0.2.2.2.2.1):Bool))
          (Tr.fin (.again (((r0.1.1.1,r0.1.1.2),((wrap64 (r0.1.2.1 + (1:Int)):Int),())),((r0.2.1.1,(r0.2.1.2.1,())),((r0.2.2.1.1,(r0.2.2.1.2.1,())),((r0.2.2.2.1.1,()),((List.set r0.2.2.2.2.1 ((0:Nat) + Int.toNat (wrap64 (r0.1.2.1 + (↑(List.length r0.2.2.1.2.1):Int)))) (wrap64 (List.getD r0.2.2.2.2.1 ((0:Nat) + Int.toNat (wrap64 (r0.1.2.1 + (↑(List.length r0.2.2.1.2.1):Int)))) (0:Int) + r0.1.2.2.1)):List Int),())))))))
          (Tr.stop))
        (Tr.stop))
      (Tr.stop))
    (Tr.fin (.brk (((x3n,x3c),()),((b0_0,(b0_1,())),((b1_0,(b1_1,())),((b2_0,()),(b3,())))))))

def s71_0 (d:sh71_0.data):Option (Out sh71_0.data shb71_0.data shr71_0.data):=(t71_0 d.1.1.1 d.1.1.2 d.1.2.1 d.2.1.1 d.2.1.2.1 d.2.2.1.1 d.2.2.1.2.1 d.2.2.2.1.1 d.2.2.2.2.1).val
def l71_0 (d:sh71_0.data):Option (shb71_0.data ⊕ shr71_0.data):=itr s71_0 rounds d
def b71_0 (d:sh71_0.data):shb71_0.data:=outB shb71_0.dflt (l71_0 d)
def lc71_0:LoopC:=lcB sh71_0 shb71_0 shr71_0 l71_0 b71_0

theorem wk71_0 (x3n:Nat) (x3c:Nat) (x4:Int) (b0_0:Int) (b0_1:(List Int)) (b1_0:Int) (b1_1:(List Int)) (b2_0:Int) (b3:(List Int)):Walks (runBody (kl71_2 Go.Proofs.Try.prog).orc Go.Proofs.Try.prog 400 71 0 sh71_0 shb71_0 shr71_0 (((x3n,x3c),x4,()),(b0_0,b0_1,()),(b1_0,b1_1,()),(b2_0,()),b3,())) (t71_0 x3n x3c x4 b0_0 b0_1 b1_0 b1_1 b2_0 b3) [([true,true,true,true],[2,4,2,4,1,6,8]),([ff],[2])] :=
  ⟨by kernel_rfl,by kernel_rfl,trivial⟩

theorem ok71_0_t (x3n:Nat) (x3c:Nat) (x4:Int) (b0_0:Int) (b0_1:(List Int)) (b1_0:Int) (b1_1:(List Int)) (b2_0:Int) (b3:(List Int)):TrOk (BodyRuns Go.Proofs.Try.prog (kl71_2 Go.Proofs.Try.prog).orc 71 0 sh71_0 shb71_0 shr71_0 (((x3n,x3c),x4,()),(b0_0,b0_1,()),(b1_0,b1_1,()),(b2_0,()),b3,())) (t71_0 x3n x3c x4 b0_0 b0_1 b1_0 b1_1 b2_0 b3) :=
  Walks.ok (fun _ _ _=>BodyRuns.of) (wk71_0 x3n x3c x4 b0_0 b0_1 b1_0 b1_1 b2_0 b3) (by kernel_rfl)

theorem ok71_0:LoopOk Go.Proofs.Try.prog 71 0 lc71_0:=loopOk_ofB (sh:=sh71_0) (shB:=shb71_0) (shR:=shr71_0) kl71_2_ok.base (T:=fun (d:sh71_0.data)=>t71_0 d.1.1.1 d.1.1.2 d.1.2.1 d.2.1.1 d.2.1.2.1 d.2.2.1.1 d.2.2.1.2.1 d.2.2.2.1.1 d.2.2.2.2.1) (by kernel_rfl) rfl (fun (d:sh71_0.data)=>ok71_0_t d.1.1.1 d.1.1.2 d.1.2.1 d.2.1.1 d.2.1.2.1 d.2.2.1.1 d.2.2.1.2.1 d.2.2.2.1.1 d.2.2.2.2.1) (fun _=>rfl)
def kl71_0 (P:Go.Program):Known:=(kl71_2 P).loop 71 0 lc71_0
theorem kl71_0_ok:KnownOk Go.Proofs.Try.prog (kl71_0 Go.Proofs.Try.prog):=kl71_2_ok.loop ok71_0

/-! ductility/ductilitybase.WideMul -/

abbrev as71:List Ty:=[(.pair (.int .i64) (.pair (.slice (.int .i64)) .unit)),(.pair (.int .i64) (.pair (.slice (.int .i64)) .unit))]
abbrev rs71:List Ty:=[(.pair (.int .i64) (.pair (.slice (.int .i64)) .unit))]

def t71 (x0:Int) (x0':(List Int)) (x1:Int) (x1':(List Int)):Tr (Tys.data rs71) :=
  Tr.test ((decide ((0:Int) ≤ wrap64 (wrap64 ((↑(List.length x0'):Int) + (↑(List.length x1'):Int)) + (1:Int))) && decide (wrap64 (wrap64 ((↑(List.length x0'):Int) + (↑(List.length x1'):Int)) + (1:Int)) ≤ wrap64 (wrap64 ((↑(List.length x0'):Int) + (↑(List.length x1'):Int)) + (1:Int))) && decide ((8:Int) * wrap64 (wrap64 ((↑(List.length x0'):Int) + (↑(List.length x1'):Int)) + (1:Int)) ≤ (281474976710656:Int)) && decide (wrap64 (wrap64 ((↑(List.length x0'):Int) + (↑(List.length x1'):Int)) + (1:Int)) ≤ (281474976710656:Int)):Bool))
    (Tr.test (isBrk (l71_0 ((((Int.toNat (wrap64 (wrap64 ((↑(List.length x0'):Int) + (↑(List.length x1'):Int)) + (1:Int))):Nat),(Int.toNat (wrap64 (wrap64 ((↑(List.length x0'):Int) + (↑(List.length x1'):Int)) + (1:Int))):Nat)),((0:Int),())),((x0,(x0',())),((x1,(x1',())),(((0:Int),()),((List.replicate (Int.toNat (wrap64 (wrap64 ((↑(List.length x0'):Int) + (↑(List.length x1'):Int)) + (1:Int)))) (0:Int):List Int),())))))))
      (let r0:=b71_0 ((((Int.toNat (wrap64 (wrap64 ((↑(List.length x0'):Int) + (↑(List.length x1'):Int)) + (1:Int))):Nat),(Int.toNat (wrap64 (wrap64 ((↑(List.length x0'):Int) + (↑(List.length x1'):Int)) + (1:Int))):Nat)),((0:Int),())),((x0,(x0',())),((x1,(x1',())),(((0:Int),()),((List.replicate (Int.toNat (wrap64 (wrap64 ((↑(List.length x0'):Int) + (↑(List.length x1'):Int)) + (1:Int)))) (0:Int):List Int),())))));
      Tr.test ((Nat.beq r0.1.1.1 (List.length r0.2.2.2.2.1):Bool))
        (Tr.test (Option.isSome (f90 ((wrap64 (r0.2.1.1 * r0.2.2.1.1):Int),(r0.2.2.2.2.1,()))))
          (let r1:=g90 ((wrap64 (r0.2.1.1 * r0.2.2.1.1):Int),(r0.2.2.2.2.1,()));
          Tr.fin (((r1.1.1,(r1.1.2.1,())),())))
          (Tr.stop))
        (Tr.test ((Nat.ble r0.1.1.1 (List.length r0.2.2.2.2.1):Bool))
          (Tr.test (Option.isSome (f90 ((wrap64 (r0.2.1.1 * r0.2.2.1.1):Int),((List.take r0.1.1.1 r0.2.2.2.2.1:List Int),()))))
            (let r2:=g90 ((wrap64 (r0.2.1.1 * r0.2.2.1.1):Int),((List.take r0.1.1.1 r0.2.2.2.2.1:List Int),()));
            Tr.fin (((r2.1.1,(r2.1.2.1,())),())))
            (Tr.stop))
          (Tr.stop /- a known call [op 6 of region 12 of F71] -/)))
      (Tr.stop))
    (Tr.stop)

def f71 (d:Tys.data as71):Option (Tys.data rs71):=(t71 d.1.1 d.1.2.1 d.2.1.1 d.2.1.2.1).val
def g71 (d:Tys.data as71):Tys.data rs71:=(f71 d).getD (Tys.dflt rs71)
def p71:PureC:=pcOf as71 rs71 f71 g71

theorem wk71 (x0:Int) (x0':(List Int)) (x1:Int) (x1':(List Int)):Walks (runPure (kl71_0 Go.Proofs.Try.prog).orc Go.Proofs.Try.prog 400 71 as71 rs71 ((x0,x0',()),(x1,x1',()),())) (t71 x0 x0' x1 x1') [([true,true,true,true],[2,4,1,6,8]),([true,true,false,true,true],[2,4,6,1,8,10])] :=
  ⟨by kernel_rfl,by kernel_rfl,trivial⟩

theorem ok71_t (x0:Int) (x0':(List Int)) (x1:Int) (x1':(List Int)):TrOk (PureRuns Go.Proofs.Try.prog (kl71_0 Go.Proofs.Try.prog).orc 71 as71 rs71 ((x0,x0',()),(x1,x1',()),())) (t71 x0 x0' x1 x1') :=
  Walks.ok (fun _ _ _=>PureRuns.of) (wk71 x0 x0' x1 x1') (by kernel_rfl)

theorem ok71:PureOk Go.Proofs.Try.prog 71 p71:=pureOk_of kl71_0_ok.base (T:=fun (d:Tys.data as71)=>t71 d.1.1 d.1.2.1 d.2.1.1 d.2.1.2.1) (by kernel_rfl) (fun (d:Tys.data as71)=>ok71_t d.1.1 d.1.2.1 d.2.1.1 d.2.1.2.1)
def kf71 (P:Go.Program):Known:=(kl71_0 P).func 71 p71
theorem kf71_ok:KnownOk Go.Proofs.Try.prog (kf71 Go.Proofs.Try.prog):=kl71_0_ok.func ok71

/-! loop 0 of ductility/ductilitybase.cmpDigits -/

abbrev sh97_0:Sh:={ n:=41,slots:=[0,1,5],pats:=[.ty (.slice (.int .i64)),.ty (.slice (.int .i64)),.ty (.int .i64)],boxes:=[] }
abbrev shb97_0:Sh:={ n:=41,slots:=[],pats:=[],boxes:=[] }
abbrev shr97_0:Sh:={ n:=41,slots:=[4],pats:=[.ty (.int .i64)],boxes:=[] }

def t97_0 (x0:(List Int)) (x1:(List Int)) (x2:Int):Tr (Out sh97_0.data shb97_0.data shr97_0.data) :=
  Tr.test ((leF (0:Int) x2:Bool))
    (Tr.test (decide ((0:Int) ≤ x2) && decide (x2 < (↑(List.length x0):Int)))
      (Tr.test ((decide ((0:Int) ≤ x2) && decide (x2 < (↑(List.length x1):Int)):Bool))
        (Tr.test ((!leF (List.getD x1 (Int.toNat x2) (0:Int)) (List.getD x0 (Int.toNat x2) (0:Int)):Bool))
          (Tr.fin (.ret (((-1:Int),()),())))
          (Tr.test ((!leF (List.getD x0 (Int.toNat x2) (0:Int)) (List.getD x1 (Int.toNat x2) (0:Int)):Bool))
            (Tr.fin (.ret (((1:Int),()),())))
            (Tr.fin (.again ((x0,(x1,((wrap64 (x2 - (1:Int)):Int),()))),())))))
        (Tr.stop))
      (Tr.stop))
    (Tr.fin (.brk ((),())))

def s97_0 (d:sh97_0.data):Option (Out sh97_0.data shb97_0.data shr97_0.data):=(t97_0 d.1.1 d.1.2.1 d.1.2.2.1).val
def l97_0 (d:sh97_0.data):Option (shb97_0.data ⊕ shr97_0.data):=itr s97_0 rounds d
def b97_0 (d:sh97_0.data):shb97_0.data:=outB shb97_0.dflt (l97_0 d)
def r97_0 (d:sh97_0.data):shr97_0.data:=outR shr97_0.dflt (l97_0 d)
def lc97_0:LoopC:=lcOf sh97_0 shb97_0 shr97_0 l97_0 b97_0 r97_0

theorem wk97_0 (x0:(List Int)) (x1:(List Int)) (x2:Int):Walks (runBody (kf71 Go.Proofs.Try.prog).orc Go.Proofs.Try.prog 400 97 0 sh97_0 shb97_0 shr97_0 ((x0,x1,x2,()),())) (t97_0 x0 x1 x2) [([true,true,true,true],[2,4,6,8]),([true,true,true,false,true],[2,6,8,4,6,8,10]),([true,true,true,false,false],[2,6,8,4,6,8,10]),([ff],[2])] :=
  ⟨by kernel_rfl,by kernel_rfl,by kernel_rfl,by kernel_rfl,trivial⟩

theorem ok97_0_t (x0:(List Int)) (x1:(List Int)) (x2:Int):TrOk (BodyRuns Go.Proofs.Try.prog (kf71 Go.Proofs.Try.prog).orc 97 0 sh97_0 shb97_0 shr97_0 ((x0,x1,x2,()),())) (t97_0 x0 x1 x2) :=
  Walks.ok (fun _ _ _=>BodyRuns.of) (wk97_0 x0 x1 x2) (by kernel_rfl)

theorem ok97_0:LoopOk Go.Proofs.Try.prog 97 0 lc97_0:=loopOk_of (sh:=sh97_0) (shB:=shb97_0) (shR:=shr97_0) kf71_ok.base (T:=fun (d:sh97_0.data)=>t97_0 d.1.1 d.1.2.1 d.1.2.2.1) (by kernel_rfl) rfl (fun (d:sh97_0.data)=>ok97_0_t d.1.1 d.1.2.1 d.1.2.2.1) (fun _=>rfl)
def kl97_0 (P:Go.Program):Known:=(kf71 P).loop 97 0 lc97_0
theorem kl97_0_ok:KnownOk Go.Proofs.Try.prog (kl97_0 Go.Proofs.Try.prog):=kf71_ok.loop ok97_0

/-! ductility/ductilitybase.cmpDigits -/

abbrev as97:List Ty:=[(.slice (.int .i64)),(.slice (.int .i64))]
abbrev rs97:List Ty:=[(.int .i64)]

def t97 (x0:(List Int)) (x1:(List Int)):Tr (Tys.data rs97) :=
  Tr.test ((!eqF (↑(List.length x0):Int) (↑(List.length x1):Int):Bool))
    (Tr.test (!leF (↑(List.length x1):Int) (↑(List.length x0):Int))
      (Tr.fin (((-1:Int),())))
      (Tr.fin (((1:Int),()))))
    (Tr.test (Option.isSome (l97_0 ((x0,(x1,((wrap64 ((↑(List.length x0):Int) - (1:Int)):Int),()))),())))
      (Tr.test (isRet (l97_0 ((x0,(x1,((wrap64 ((↑(List.length x0):Int) - (1:Int)):Int),()))),())))
        (let r0:=r97_0 ((x0,(x1,((wrap64 ((↑(List.length x0):Int) - (1:Int)):Int),()))),());
        Tr.fin ((r0.1.1,())))
        (Tr.fin (((0:Int),()))))
      (Tr.stop))

def f97 (d:Tys.data as97):Option (Tys.data rs97):=(t97 d.1 d.2.1).val
def g97 (d:Tys.data as97):Tys.data rs97:=(f97 d).getD (Tys.dflt rs97)
def p97:PureC:=pcOf as97 rs97 f97 g97

theorem wk97 (x0:(List Int)) (x1:(List Int)):Walks (runPure (kl97_0 Go.Proofs.Try.prog).orc Go.Proofs.Try.prog 400 97 as97 rs97 (x0,x1,())) (t97 x0 x1) [([true,true],[2,4]),([true,false],[2,4]),([false,true,true],[2,4,6]),([false,true,false],[2,4,6])] :=
  ⟨by kernel_rfl,by kernel_rfl,by kernel_rfl,by kernel_rfl,trivial⟩

theorem ok97_t (x0:(List Int)) (x1:(List Int)):TrOk (PureRuns Go.Proofs.Try.prog (kl97_0 Go.Proofs.Try.prog).orc 97 as97 rs97 (x0,x1,())) (t97 x0 x1) :=
  Walks.ok (fun _ _ _=>PureRuns.of) (wk97 x0 x1) (by kernel_rfl)

theorem ok97:PureOk Go.Proofs.Try.prog 97 p97:=pureOk_of kl97_0_ok.base (T:=fun (d:Tys.data as97)=>t97 d.1 d.2.1) (by kernel_rfl) (fun (d:Tys.data as97)=>ok97_t d.1 d.2.1)
def kf97 (P:Go.Program):Known:=(kl97_0 P).func 97 p97
theorem kf97_ok:KnownOk Go.Proofs.Try.prog (kf97 Go.Proofs.Try.prog):=kl97_0_ok.func ok97

/-! ductility/ductilitybase.digit -/

abbrev as106:List Ty:=[(.slice (.int .i64)),(.int .i64)]
abbrev rs106:List Ty:=[(.int .i64)]

def t106 (x0:(List Int)) (x1:Int):Tr (Tys.data rs106) :=
  Tr.test ((!leF (↑(List.length x0):Int) x1:Bool))
    (Tr.test (decide ((0:Int) ≤ x1) && decide (x1 < (↑(List.length x0):Int)))
      (Tr.fin (((List.getD x0 (Int.toNat x1) (0:Int):Int),())))
      (Tr.stop))
    (Tr.fin (((0:Int),())))

def f106 (d:Tys.data as106):Option (Tys.data rs106):=(t106 d.1 d.2.1).val
def g106 (d:Tys.data as106):Tys.data rs106:=(f106 d).getD (Tys.dflt rs106)
def p106:PureC:=pcOf as106 rs106 f106 g106

theorem wk106 (x0:(List Int)) (x1:Int):Walks (runPure (kf97 Go.Proofs.Try.prog).orc Go.Proofs.Try.prog 400 106 as106 rs106 (x0,x1,())) (t106 x0 x1) [([true,true],[2,4]),([ff],[2])] :=
  ⟨by kernel_rfl,by kernel_rfl,trivial⟩

theorem ok106_t (x0:(List Int)) (x1:Int):TrOk (PureRuns Go.Proofs.Try.prog (kf97 Go.Proofs.Try.prog).orc 106 as106 rs106 (x0,x1,())) (t106 x0 x1) :=
  Walks.ok (fun _ _ _=>PureRuns.of) (wk106 x0 x1) (by kernel_rfl)

theorem ok106:PureOk Go.Proofs.Try.prog 106 p106:=pureOk_of kf97_ok.base (T:=fun (d:Tys.data as106)=>t106 d.1 d.2.1) (by kernel_rfl) (fun (d:Tys.data as106)=>ok106_t d.1 d.2.1)
def kf106 (P:Go.Program):Known:=(kf97 P).func 106 p106
theorem kf106_ok:KnownOk Go.Proofs.Try.prog (kf106 Go.Proofs.Try.prog):=kf97_ok.func ok106

/-! loop 0 of ductility/ductilitybase.subDigits -/

abbrev sh98_0:Sh:={ n:=35,slots:=[0,1,5,6,7],pats:=[.ty (.slice (.int .i64)),.ty (.slice (.int .i64)),.acc (.int .i64),.ty (.int .i64),.ty (.int .i64)],boxes:=[] }
abbrev shb98_0:Sh:={ n:=35,slots:=[5],pats:=[.acc (.int .i64)],boxes:=[] }
abbrev shr98_0:Sh:={ n:=35,slots:=[],pats:=[],boxes:=[] }

def t98_0 (x0:(List Int)) (x1:(List Int)) (x2:(List Int)) (x3:Int) (x4:Int):Tr (Out sh98_0.data shb98_0.data shr98_0.data) :=
  Tr.test ((!leF (↑(List.length x0):Int) x4:Bool))
    (Tr.test (decide ((0:Int) ≤ x4) && decide (x4 < (↑(List.length x0):Int)))
      (Tr.test (Option.isSome (f106 (x1,(x4,()))))
        (let r0:=g106 (x1,(x4,()));
        Tr.test ((!leF (0:Int) (wrap64 (wrap64 (List.getD x0 (Int.toNat x4) (0:Int) - r0.1) - x3)):Bool))
          (Tr.test ((Nat.ble (((2:Nat) * (List.length x2 + (1:Nat)) + (192:Nat)) * (8:Nat)) (281474976710656:Nat) && Nat.ble (List.length x2 + (1:Nat)) (281474976710656:Nat):Bool))
            (Tr.fin (.again ((x0,(x1,((x2++[wrap64 (wrap64 (wrap64 (List.getD x0 (Int.toNat x4) (0:Int) - r0.1) - x3) + (1000000000:Int))]:List Int),((1:Int),((wrap64 (x4 + (1:Int)):Int),()))))),())))
            (Tr.stop))
          (Tr.test ((Nat.ble (((2:Nat) * (List.length x2 + (1:Nat)) + (192:Nat)) * (8:Nat)) (281474976710656:Nat) && Nat.ble (List.length x2 + (1:Nat)) (281474976710656:Nat):Bool))
            (Tr.fin (.again ((x0,(x1,((x2++[wrap64 (wrap64 (List.getD x0 (Int.toNat x4) (0:Int) - r0.1) - x3)]:List Int),((0:Int),((wrap64 (x4 + (1:Int)):Int),()))))),())))
            (Tr.stop)))
        (Tr.stop))
      (Tr.stop))
    (Tr.fin (.brk ((x2,()),())))

def s98_0 (d:sh98_0.data):Option (Out sh98_0.data shb98_0.data shr98_0.data):=(t98_0 d.1.1 d.1.2.1 d.1.2.2.1 d.1.2.2.2.1 d.1.2.2.2.2.1).val
def l98_0 (d:sh98_0.data):Option (shb98_0.data ⊕ shr98_0.data):=itr s98_0 rounds d
def b98_0 (d:sh98_0.data):shb98_0.data:=outB shb98_0.dflt (l98_0 d)
def lc98_0:LoopC:=lcB sh98_0 shb98_0 shr98_0 l98_0 b98_0

theorem wk98_0 (x0:(List Int)) (x1:(List Int)) (x2:(List Int)) (x3:Int) (x4:Int):Walks (runBody (kf106 Go.Proofs.Try.prog).orc Go.Proofs.Try.prog 400 98 0 sh98_0 shb98_0 shr98_0 ((x0,x1,x2,x3,x4,()),())) (t98_0 x0 x1 x2 x3 x4) [([true,true,true,true,true],[1,2,0,4,6,8,10]),([true,true,true,false,true],[1,2,0,4,6,8,10]),([ff],[2])] :=
  ⟨by kernel_rfl,by kernel_rfl,by kernel_rfl,trivial⟩

theorem ok98_0_t (x0:(List Int)) (x1:(List Int)) (x2:(List Int)) (x3:Int) (x4:Int):TrOk (BodyRuns Go.Proofs.Try.prog (kf106 Go.Proofs.Try.prog).orc 98 0 sh98_0 shb98_0 shr98_0 ((x0,x1,x2,x3,x4,()),())) (t98_0 x0 x1 x2 x3 x4) :=
  Walks.ok (fun _ _ _=>BodyRuns.of) (wk98_0 x0 x1 x2 x3 x4) (by kernel_rfl)

theorem ok98_0:LoopOk Go.Proofs.Try.prog 98 0 lc98_0:=loopOk_ofB (sh:=sh98_0) (shB:=shb98_0) (shR:=shr98_0) kf106_ok.base (T:=fun (d:sh98_0.data)=>t98_0 d.1.1 d.1.2.1 d.1.2.2.1 d.1.2.2.2.1 d.1.2.2.2.2.1) (by kernel_rfl) rfl (fun (d:sh98_0.data)=>ok98_0_t d.1.1 d.1.2.1 d.1.2.2.1 d.1.2.2.2.1 d.1.2.2.2.2.1) (fun _=>rfl)
def kl98_0 (P:Go.Program):Known:=(kf106 P).loop 98 0 lc98_0
theorem kl98_0_ok:KnownOk Go.Proofs.Try.prog (kl98_0 Go.Proofs.Try.prog):=kf106_ok.loop ok98_0

/-! ductility/ductilitybase.subDigits -/

abbrev as98:List Ty:=[(.slice (.int .i64)),(.slice (.int .i64))]
abbrev rs98:List Ty:=[(.slice (.int .i64))]

def t98 (x0:(List Int)) (x1:(List Int)):Tr (Tys.data rs98) :=
  Tr.test (isBrk (l98_0 ((x0,(x1,(([]:List Int),((0:Int),((0:Int),()))))),())))
    (let r0:=b98_0 ((x0,(x1,(([]:List Int),((0:Int),((0:Int),()))))),());
    Tr.test (Option.isSome (f104 (r0.1.1,())))
      (let r1:=g104 (r0.1.1,());
      Tr.fin ((r1.1,())))
      (Tr.stop))
    (Tr.stop)

def f98 (d:Tys.data as98):Option (Tys.data rs98):=(t98 d.1 d.2.1).val
def g98 (d:Tys.data as98):Tys.data rs98:=(f98 d).getD (Tys.dflt rs98)
def p98:PureC:=pcOf as98 rs98 f98 g98

theorem wk98 (x0:(List Int)) (x1:(List Int)):Walks (runPure (kl98_0 Go.Proofs.Try.prog).orc Go.Proofs.Try.prog 400 98 as98 rs98 (x0,x1,())) (t98 x0 x1) [([true,true],[2,1,4])] :=
  ⟨by kernel_rfl,trivial⟩

theorem ok98_t (x0:(List Int)) (x1:(List Int)):TrOk (PureRuns Go.Proofs.Try.prog (kl98_0 Go.Proofs.Try.prog).orc 98 as98 rs98 (x0,x1,())) (t98 x0 x1) :=
  Walks.ok (fun _ _ _=>PureRuns.of) (wk98 x0 x1) (by kernel_rfl)

theorem ok98:PureOk Go.Proofs.Try.prog 98 p98:=pureOk_of kl98_0_ok.base (T:=fun (d:Tys.data as98)=>t98 d.1 d.2.1) (by kernel_rfl) (fun (d:Tys.data as98)=>ok98_t d.1 d.2.1)
def kf98 (P:Go.Program):Known:=(kl98_0 P).func 98 p98
theorem kf98_ok:KnownOk Go.Proofs.Try.prog (kf98 Go.Proofs.Try.prog):=kl98_0_ok.func ok98

/-! loop 0 of ductility/ductilitybase.addDigits -/

abbrev sh96_0:Sh:={ n:=42,slots:=[0,1,5,6,7],pats:=[.ty (.slice (.int .i64)),.ty (.slice (.int .i64)),.acc (.int .i64),.ty (.int .i64),.ty (.int .i64)],boxes:=[] }
abbrev shb96_0:Sh:={ n:=42,slots:=[5],pats:=[.acc (.int .i64)],boxes:=[] }
abbrev shr96_0:Sh:={ n:=42,slots:=[],pats:=[],boxes:=[] }

def t96_0 (x0:(List Int)) (x1:(List Int)) (x2:(List Int)) (x3:Int) (x4:Int):Tr (Out sh96_0.data shb96_0.data shr96_0.data) :=
  Tr.test ((!leF (↑(List.length x0):Int) x4:Bool))
    (Tr.test (Option.isSome (f106 (x0,(x4,()))))
      (Tr.test (Option.isSome (f106 (x1,(x4,()))))
        (Tr.test ((Nat.ble (((2:Nat) * (List.length x2 + (1:Nat)) + (192:Nat)) * (8:Nat)) (281474976710656:Nat) && Nat.ble (List.length x2 + (1:Nat)) (281474976710656:Nat):Bool))
          (let r0:=g106 (x0,(x4,()));
          let r1:=g106 (x1,(x4,()));
          Tr.fin (.again ((x0,(x1,((x2++[Int.tmod (wrap64 (wrap64 (r0.1 + r1.1) + x3)) (1000000000:Int)]:List Int),((Go.IntKind.wrap Go.IntKind.i64 (Int.tdiv (wrap64 (wrap64 (r0.1 + r1.1) + x3)) (1000000000:Int)):Int),((wrap64 (x4 + (1:Int)):Int),()))))),())))
          (Tr.stop))
        (Tr.stop))
      (Tr.stop))
    (Tr.test (!leF (↑(List.length x1):Int) x4)
      (Tr.test (Option.isSome (f106 (x0,(x4,()))))
        (Tr.test (Option.isSome (f106 (x1,(x4,()))))
          (Tr.test ((Nat.ble (((2:Nat) * (List.length x2 + (1:Nat)) + (192:Nat)) * (8:Nat)) (281474976710656:Nat) && Nat.ble (List.length x2 + (1:Nat)) (281474976710656:Nat):Bool))
            (let r0:=g106 (x0,(x4,()));
            let r1:=g106 (x1,(x4,()));
            Tr.fin (.again ((x0,(x1,((x2++[Int.tmod (wrap64 (wrap64 (r0.1 + r1.1) + x3)) (1000000000:Int)]:List Int),((Go.IntKind.wrap Go.IntKind.i64 (Int.tdiv (wrap64 (wrap64 (r0.1 + r1.1) + x3)) (1000000000:Int)):Int),((wrap64 (x4 + (1:Int)):Int),()))))),())))
            (Tr.stop))
          (Tr.stop))
        (Tr.stop))
      (Tr.test ((!leF x3 0:Bool))
        (Tr.test (Option.isSome (f106 (x0,(x4,()))))
          (Tr.test (Option.isSome (f106 (x1,(x4,()))))
            (Tr.test ((Nat.ble (((2:Nat) * (List.length x2 + (1:Nat)) + (192:Nat)) * (8:Nat)) (281474976710656:Nat) && Nat.ble (List.length x2 + (1:Nat)) (281474976710656:Nat):Bool))
              (let r0:=g106 (x0,(x4,()));
              let r1:=g106 (x1,(x4,()));
              Tr.fin (.again ((x0,(x1,((x2++[Int.tmod (wrap64 (wrap64 (r0.1 + r1.1) + x3)) (1000000000:Int)]:List Int),((Go.IntKind.wrap Go.IntKind.i64 (Int.tdiv (wrap64 (wrap64 (r0.1 + r1.1) + x3)) (1000000000:Int)):Int),((wrap64 (x4 + (1:Int)):Int),()))))),())))
              (Tr.stop))
            (Tr.stop))
          (Tr.stop))
        (Tr.fin (.brk ((x2,()),())))))

def s96_0 (d:sh96_0.data):Option (Out sh96_0.data shb96_0.data shr96_0.data):=(t96_0 d.1.1 d.1.2.1 d.1.2.2.1 d.1.2.2.2.1 d.1.2.2.2.2.1).val
def l96_0 (d:sh96_0.data):Option (shb96_0.data ⊕ shr96_0.data):=itr s96_0 rounds d
def b96_0 (d:sh96_0.data):shb96_0.data:=outB shb96_0.dflt (l96_0 d)
def lc96_0:LoopC:=lcB sh96_0 shb96_0 shr96_0 l96_0 b96_0

theorem wk96_0 (x0:(List Int)) (x1:(List Int)) (x2:(List Int)) (x3:Int) (x4:Int):Walks (runBody (kf98 Go.Proofs.Try.prog).orc Go.Proofs.Try.prog 400 96 0 sh96_0 shb96_0 shr96_0 ((x0,x1,x2,x3,x4,()),())) (t96_0 x0 x1 x2 x3 x4) [([true,true,true,true],[0,1,2,0,0,4,6,1,1,1,1,8,8,8,8,8]),([false,true,true,true,true],[0,1,2,0,0,4,6,1,8,8,8,10,10,10,10,10]),([false,false,true,true,true,true],[0,1,2,0,0,4,6,8,10,10,10,12,12,12,12,12]),([false,false,false],[2,4,4,4,6,6,6,6,6])] :=
  ⟨by kernel_rfl,by kernel_rfl,by kernel_rfl,by kernel_rfl,trivial⟩

theorem ok96_0_t (x0:(List Int)) (x1:(List Int)) (x2:(List Int)) (x3:Int) (x4:Int):TrOk (BodyRuns Go.Proofs.Try.prog (kf98 Go.Proofs.Try.prog).orc 96 0 sh96_0 shb96_0 shr96_0 ((x0,x1,x2,x3,x4,()),())) (t96_0 x0 x1 x2 x3 x4) :=
  Walks.ok (fun _ _ _=>BodyRuns.of) (wk96_0 x0 x1 x2 x3 x4) (by kernel_rfl)

theorem ok96_0:LoopOk Go.Proofs.Try.prog 96 0 lc96_0:=loopOk_ofB (sh:=sh96_0) (shB:=shb96_0) (shR:=shr96_0) kf98_ok.base (T:=fun (d:sh96_0.data)=>t96_0 d.1.1 d.1.2.1 d.1.2.2.1 d.1.2.2.2.1 d.1.2.2.2.2.1) (by kernel_rfl) rfl (fun (d:sh96_0.data)=>ok96_0_t d.1.1 d.1.2.1 d.1.2.2.1 d.1.2.2.2.1 d.1.2.2.2.2.1) (fun _=>rfl)
def kl96_0 (P:Go.Program):Known:=(kf98 P).loop 96 0 lc96_0
theorem kl96_0_ok:KnownOk Go.Proofs.Try.prog (kl96_0 Go.Proofs.Try.prog):=kf98_ok.loop ok96_0

/-! ductility/ductilitybase.addDigits -/

abbrev as96:List Ty:=[(.slice (.int .i64)),(.slice (.int .i64))]
abbrev rs96:List Ty:=[(.slice (.int .i64))]

def t96 (x0:(List Int)) (x1:(List Int)):Tr (Tys.data rs96) :=
  Tr.test (isBrk (l96_0 ((x0,(x1,(([]:List Int),((0:Int),((0:Int),()))))),())))
    (let r0:=b96_0 ((x0,(x1,(([]:List Int),((0:Int),((0:Int),()))))),());
    Tr.fin ((r0.1.1,())))
    (Tr.stop)

def f96 (d:Tys.data as96):Option (Tys.data rs96):=(t96 d.1 d.2.1).val
def g96 (d:Tys.data as96):Tys.data rs96:=(f96 d).getD (Tys.dflt rs96)
def p96:PureC:=pcOf as96 rs96 f96 g96

theorem wk96 (x0:(List Int)) (x1:(List Int)):Walks (runPure (kl96_0 Go.Proofs.Try.prog).orc Go.Proofs.Try.prog 400 96 as96 rs96 (x0,x1,())) (t96 x0 x1) [([tt],[1,2])] :=
  ⟨by kernel_rfl,trivial⟩

theorem ok96_t (x0:(List Int)) (x1:(List Int)):TrOk (PureRuns Go.Proofs.Try.prog (kl96_0 Go.Proofs.Try.prog).orc 96 as96 rs96 (x0,x1,())) (t96 x0 x1) :=
  Walks.ok (fun _ _ _=>PureRuns.of) (wk96 x0 x1) (by kernel_rfl)

theorem ok96:PureOk Go.Proofs.Try.prog 96 p96:=pureOk_of kl96_0_ok.base (T:=fun (d:Tys.data as96)=>t96 d.1 d.2.1) (by kernel_rfl) (fun (d:Tys.data as96)=>ok96_t d.1 d.2.1)
def kf96 (P:Go.Program):Known:=(kl96_0 P).func 96 p96
theorem kf96_ok:KnownOk Go.Proofs.Try.prog (kf96 Go.Proofs.Try.prog):=kl96_0_ok.func ok96

/-! ductility/ductilitybase.WideAdd -/

abbrev as72:List Ty:=[(.pair (.int .i64) (.pair (.slice (.int .i64)) .unit)),(.pair (.int .i64) (.pair (.slice (.int .i64)) .unit))]
abbrev rs72:List Ty:=[(.pair (.int .i64) (.pair (.slice (.int .i64)) .unit))]

def t72 (x0:Int) (x0':(List Int)) (x1:Int) (x1':(List Int)):Tr (Tys.data rs72) :=
  Tr.test ((eqF x0 0:Bool))
    (Tr.fin (((x1,(x1',())),())))
    (Tr.test (eqF x1 0)
      (Tr.fin (((x0,(x0',())),())))
      (Tr.test ((eqF x0 x1:Bool))
        (Tr.test (Option.isSome (f96 (x0',(x1',()))))
          (let r0:=g96 (x0',(x1',()));
          Tr.test (Option.isSome (f90 (x0,(r0.1,()))))
            (let r1:=g90 (x0,(r0.1,()));
            Tr.fin (((r1.1.1,(r1.1.2.1,())),())))
            (Tr.stop))
          (Tr.stop))
        (Tr.test (Option.isSome (f97 (x0',(x1',()))))
          (let r2:=g97 (x0',(x1',()));
          Tr.test ((eqF r2.1 0:Bool))
            (Tr.fin ((((0:Int),(([]:List Int),())),())))
            (Tr.test ((!leF r2.1 0:Bool))
              (Tr.test (Option.isSome (f98 (x0',(x1',()))))
                (let r3:=g98 (x0',(x1',()));
                Tr.test (Option.isSome (f90 (x0,(r3.1,()))))
                  (let r4:=g90 (x0,(r3.1,()));
                  Tr.fin (((r4.1.1,(r4.1.2.1,())),())))
                  (Tr.stop))
                (Tr.stop))
              (Tr.test (Option.isSome (f98 (x1',(x0',()))))
                (let r5:=g98 (x1',(x0',()));
                Tr.test (Option.isSome (f90 (x1,(r5.1,()))))
                  (let r6:=g90 (x1,(r5.1,()));
                  Tr.fin (((r6.1.1,(r6.1.2.1,())),())))
                  (Tr.stop))
                (Tr.stop))))
          (Tr.stop))))

def f72 (d:Tys.data as72):Option (Tys.data rs72):=(t72 d.1.1 d.1.2.1 d.2.1.1 d.2.1.2.1).val
def g72 (d:Tys.data as72):Tys.data rs72:=(f72 d).getD (Tys.dflt rs72)
def p72:PureC:=pcOf as72 rs72 f72 g72

theorem wk72 (x0:Int) (x0':(List Int)) (x1:Int) (x1':(List Int)):Walks (runPure (kf96 Go.Proofs.Try.prog).orc Go.Proofs.Try.prog 400 72 as72 rs72 ((x0,x0',()),(x1,x1',()),())) (t72 x0 x0' x1 x1') [([tt],[2]),([false,true],[2,4]),([false,false,true,true,true],[2,4,6,8,10]),([false,false,false,true,true],[2,4,6,8,10]),([false,false,false,true,false,true,true,true],[2,4,6,8,10,12,14,16]),([false,false,false,true,false,false,true,true],[2,4,6,8,10,12,14,16])] :=
  ⟨by kernel_rfl,by kernel_rfl,by kernel_rfl,by kernel_rfl,by kernel_rfl,by kernel_rfl,trivial⟩

theorem ok72_t (x0:Int) (x0':(List Int)) (x1:Int) (x1':(List Int)):TrOk (PureRuns Go.Proofs.Try.prog (kf96 Go.Proofs.Try.prog).orc 72 as72 rs72 ((x0,x0',()),(x1,x1',()),())) (t72 x0 x0' x1 x1') :=
  Walks.ok (fun _ _ _=>PureRuns.of) (wk72 x0 x0' x1 x1') (by kernel_rfl)

theorem ok72:PureOk Go.Proofs.Try.prog 72 p72:=pureOk_of kf96_ok.base (T:=fun (d:Tys.data as72)=>t72 d.1.1 d.1.2.1 d.2.1.1 d.2.1.2.1) (by kernel_rfl) (fun (d:Tys.data as72)=>ok72_t d.1.1 d.1.2.1 d.2.1.1 d.2.1.2.1)
def kf72 (P:Go.Program):Known:=(kf96 P).func 72 p72
theorem kf72_ok:KnownOk Go.Proofs.Try.prog (kf72 Go.Proofs.Try.prog):=kf96_ok.func ok72

/-! ductility/ductilitybase.WideSub -/

abbrev as95:List Ty:=[(.pair (.int .i64) (.pair (.slice (.int .i64)) .unit)),(.pair (.int .i64) (.pair (.slice (.int .i64)) .unit))]
abbrev rs95:List Ty:=[(.pair (.int .i64) (.pair (.slice (.int .i64)) .unit))]

def t95 (x0:Int) (x0':(List Int)) (x1:Int) (x1':(List Int)):Tr (Tys.data rs95) :=
  Tr.test (Option.isSome (f92 ((x1,(x1',())),())))
    (let r0:=g92 ((x1,(x1',())),());
    Tr.test (Option.isSome (f72 ((x0,(x0',())),((r0.1.1,(r0.1.2.1,())),()))))
      (let r1:=g72 ((x0,(x0',())),((r0.1.1,(r0.1.2.1,())),()));
      Tr.fin (((r1.1.1,(r1.1.2.1,())),())))
      (Tr.stop))
    (Tr.stop)

def f95 (d:Tys.data as95):Option (Tys.data rs95):=(t95 d.1.1 d.1.2.1 d.2.1.1 d.2.1.2.1).val
def g95 (d:Tys.data as95):Tys.data rs95:=(f95 d).getD (Tys.dflt rs95)
def p95:PureC:=pcOf as95 rs95 f95 g95

theorem wk95 (x0:Int) (x0':(List Int)) (x1:Int) (x1':(List Int)):Walks (runPure (kf72 Go.Proofs.Try.prog).orc Go.Proofs.Try.prog 400 95 as95 rs95 ((x0,x0',()),(x1,x1',()),())) (t95 x0 x0' x1 x1') [([true,true],[2,4])] :=
  ⟨by kernel_rfl,trivial⟩

theorem ok95_t (x0:Int) (x0':(List Int)) (x1:Int) (x1':(List Int)):TrOk (PureRuns Go.Proofs.Try.prog (kf72 Go.Proofs.Try.prog).orc 95 as95 rs95 ((x0,x0',()),(x1,x1',()),())) (t95 x0 x0' x1 x1') :=
  Walks.ok (fun _ _ _=>PureRuns.of) (wk95 x0 x0' x1 x1') (by kernel_rfl)

theorem ok95:PureOk Go.Proofs.Try.prog 95 p95:=pureOk_of kf72_ok.base (T:=fun (d:Tys.data as95)=>t95 d.1.1 d.1.2.1 d.2.1.1 d.2.1.2.1) (by kernel_rfl) (fun (d:Tys.data as95)=>ok95_t d.1.1 d.1.2.1 d.2.1.1 d.2.1.2.1)
def kf95 (P:Go.Program):Known:=(kf72 P).func 95 p95
theorem kf95_ok:KnownOk Go.Proofs.Try.prog (kf95 Go.Proofs.Try.prog):=kf72_ok.func ok95

/-! loop 2 of ductility/ductilitybase.WideFloor -/

abbrev sh94_2:Sh:={ n:=88,slots:=[2,3,4,5,6,7,8,9],pats:=[.ptr 0 2 0,.ptr 1 2 0,.ptr 2 2 0,.sli 3 1,.ty (.slice (.int .i64)),.ty (.int .i64),.ty (.int .i64),.ty (.int .i64)],boxes:=[.row [.ty (.int .i64),.ty (.slice (.int .i64))],.row [.ty (.int .i64),.ty (.slice (.int .i64))],.row [.ty (.int .i64),.nil],.arr (.int .i64)] }
abbrev shb94_2:Sh:={ n:=88,slots:=[2,3,4,5,6,7,8],pats:=[.ptr 0 2 0,.ptr 1 2 0,.ptr 2 2 0,.sli 3 1,.ty (.slice (.int .i64)),.ty (.int .i64),.ty (.int .i64)],boxes:=[.row [.ty (.int .i64),.ty (.slice (.int .i64))],.row [.ty (.int .i64),.ty (.slice (.int .i64))],.row [.ty (.int .i64),.nil],.arr (.int .i64)] }
abbrev shr94_2:Sh:={ n:=88,slots:=[],pats:=[],boxes:=[.row [.ty (.int .i64),.ty (.slice (.int .i64))],.row [.ty (.int .i64),.ty (.slice (.int .i64))],.row [.ty (.int .i64),.nil],.arr (.int .i64)] }

def t94_2 (x3n:Nat) (x3c:Nat) (x4:(List Int)) (x5:Int) (x6:Int) (x7:Int) (b0_0:Int) (b0_1:(List Int)) (b1_0:Int) (b1_1:(List Int)) (b2_0:Int) (b3:(List Int)):Tr (Out sh94_2.data shb94_2.data shr94_2.data) :=
  Tr.test ((!leF x7 x6:Bool))
    (Tr.test (Option.isSome (f90 ((1:Int),(b1_1,()))))
      (Tr.test (Option.isSome (f68 ((Go.IntKind.wrap Go.IntKind.i64 (Int.tdiv (wrap64 (wrap64 (x6 + x7) + (1:Int))) (2:Int)):Int),())))
        (let r0:=g90 ((1:Int),(b1_1,()));
        let r1:=g68 ((Go.IntKind.wrap Go.IntKind.i64 (Int.tdiv (wrap64 (wrap64 (x6 + x7) + (1:Int))) (2:Int)):Int),());
        Tr.test (Option.isSome (f71 ((r0.1.1,(r0.1.2.1,())),((r1.1.1,(r1.1.2.1,())),()))))
          (let r2:=g71 ((r0.1.1,(r0.1.2.1,())),((r1.1.1,(r1.1.2.1,())),()));
          Tr.test (Option.isSome (f97 (r2.1.2.1,(x4,()))))
            (let r3:=g97 (r2.1.2.1,(x4,()));
            Tr.test ((leF r3.1 0:Bool))
              (Tr.fin (.again (((x3n,x3c),(x4,(x5,((Go.IntKind.wrap Go.IntKind.i64 (Int.tdiv (wrap64 (wrap64 (x6 + x7) + (1:Int))) (2:Int)):Int),(x7,()))))),((b0_0,(b0_1,())),((b1_0,(b1_1,())),((b2_0,()),(b3,())))))))
              (Tr.fin (.again (((x3n,x3c),(x4,(x5,(x6,((wrap64 (Go.IntKind.wrap Go.IntKind.i64 (Int.tdiv (wrap64 (wrap64 (x6 + x7) + (1:Int))) (2:Int)) - (1:Int)):Int),()))))),((b0_0,(b0_1,())),((b1_0,(b1_1,())),((b2_0,()),(b3,()))))))))
            (Tr.stop))
          (Tr.stop))
        (Tr.stop))
      (Tr.stop))
    (Tr.fin (.brk (((x3n,x3c),(x4,(x5,(x6,())))),((b0_0,(b0_1,())),((b1_0,(b1_1,())),((b2_0,()),(b3,())))))))

def s94_2 (d:sh94_2.data):Option (Out sh94_2.data shb94_2.data shr94_2.data):=(t94_2 d.1.1.1 d.1.1.2 d.1.2.1 d.1.2.2.1 d.1.2.2.2.1 d.1.2.2.2.2.1 d.2.1.1 d.2.1.2.1 d.2.2.1.1 d.2.2.1.2.1 d.2.2.2.1.1 d.2.2.2.2.1).val
def l94_2 (d:sh94_2.data):Option (shb94_2.data ⊕ shr94_2.data):=itr s94_2 rounds d
def b94_2 (d:sh94_2.data):shb94_2.data:=outB shb94_2.dflt (l94_2 d)
def lc94_2:LoopC:=lcB sh94_2 shb94_2 shr94_2 l94_2 b94_2

theorem wk94_2 (x3n:Nat) (x3c:Nat) (x4:(List Int)) (x5:Int) (x6:Int) (x7:Int) (b0_0:Int) (b0_1:(List Int)) (b1_0:Int) (b1_1:(List Int)) (b2_0:Int) (b3:(List Int)):Walks (runBody (kf95 Go.Proofs.Try.prog).orc Go.Proofs.Try.prog 400 94 2 sh94_2 shb94_2 shr94_2 (((x3n,x3c),x4,x5,x6,x7,()),(b0_0,b0_1,()),(b1_0,b1_1,()),(b2_0,()),b3,())) (t94_2 x3n x3c x4 x5 x6 x7 b0_0 b0_1 b1_0 b1_1 b2_0 b3) [([true,true,true,true,true,true],[2,4,6,8,10,0,12]),([true,true,true,true,true,false],[2,4,6,8,10,0,12]),([ff],[2])] :=
  ⟨by kernel_rfl,by kernel_rfl,by kernel_rfl,trivial⟩

theorem ok94_2_t (x3n:Nat) (x3c:Nat) (x4:(List Int)) (x5:Int) (x6:Int) (x7:Int) (b0_0:Int) (b0_1:(List Int)) (b1_0:Int) (b1_1:(List Int)) (b2_0:Int) (b3:(List Int)):TrOk (BodyRuns Go.Proofs.Try.prog (kf95 Go.Proofs.Try.prog).orc 94 2 sh94_2 shb94_2 shr94_2 (((x3n,x3c),x4,x5,x6,x7,()),(b0_0,b0_1,()),(b1_0,b1_1,()),(b2_0,()),b3,())) (t94_2 x3n x3c x4 x5 x6 x7 b0_0 b0_1 b1_0 b1_1 b2_0 b3) :=
  Walks.ok (fun _ _ _=>BodyRuns.of) (wk94_2 x3n x3c x4 x5 x6 x7 b0_0 b0_1 b1_0 b1_1 b2_0 b3) (by kernel_rfl)

theorem ok94_2:LoopOk Go.Proofs.Try.prog 94 2 lc94_2:=loopOk_ofB (sh:=sh94_2) (shB:=shb94_2) (shR:=shr94_2) kf95_ok.base (T:=fun (d:sh94_2.data)=>t94_2 d.1.1.1 d.1.1.2 d.1.2.1 d.1.2.2.1 d.1.2.2.2.1 d.1.2.2.2.2.1 d.2.1.1 d.2.1.2.1 d.2.2.1.1 d.2.2.1.2.1 d.2.2.2.1.1 d.2.2.2.2.1) (by kernel_rfl) rfl (fun (d:sh94_2.data)=>ok94_2_t d.1.1.1 d.1.1.2 d.1.2.1 d.1.2.2.1 d.1.2.2.2.1 d.1.2.2.2.2.1 d.2.1.1 d.2.1.2.1 d.2.2.1.1 d.2.2.1.2.1 d.2.2.2.1.1 d.2.2.2.2.1) (fun _=>rfl)
def kl94_2 (P:Go.Program):Known:=(kf95 P).loop 94 2 lc94_2
theorem kl94_2_ok:KnownOk Go.Proofs.Try.prog (kl94_2 Go.Proofs.Try.prog):=kf95_ok.loop ok94_2

/-! loop 0 of ductility/ductilitybase.WideFloor -/

abbrev sh94_0:Sh:={ n:=88,slots:=[2,3,4,5,6,7],pats:=[.ptr 0 2 0,.ptr 1 2 0,.ptr 2 2 0,.sli 3 1,.ty (.slice (.int .i64)),.ty (.int .i64)],boxes:=[.row [.ty (.int .i64),.ty (.slice (.int .i64))],.row [.ty (.int .i64),.ty (.slice (.int .i64))],.row [.ty (.int .i64),.nil],.arr (.int .i64)] }
abbrev shb94_0:Sh:={ n:=88,slots:=[2,4,5,6],pats:=[.ptr 0 2 0,.ptr 2 2 0,.sli 3 1,.ty (.slice (.int .i64))],boxes:=[.row [.ty (.int .i64),.ty (.slice (.int .i64))],.row [.ty (.int .i64),.ty (.slice (.int .i64))],.row [.ty (.int .i64),.nil],.arr (.int .i64)] }
abbrev shr94_0:Sh:={ n:=88,slots:=[],pats:=[],boxes:=[.row [.ty (.int .i64),.ty (.slice (.int .i64))],.row [.ty (.int .i64),.ty (.slice (.int .i64))],.row [.ty (.int .i64),.nil],.arr (.int .i64)] }

def t94_0 (x3n:Nat) (x3c:Nat) (x4:(List Int)) (x5:Int) (b0_0:Int) (b0_1:(List Int)) (b1_0:Int) (b1_1:(List Int)) (b2_0:Int) (b3:(List Int)):Tr (Out sh94_0.data shb94_0.data shr94_0.data) :=
  Tr.test ((leF (0:Int) x5:Bool))
    (Tr.test (decide ((0:Int) ≤ x5) && decide (x5 < (↑(List.length b0_1):Int)))
      (Tr.test ((Nat.beq (List.length x4) (0:Nat):Bool))
        (Tr.test (Option.isSome (f104 (([List.getD b0_1 (Int.toNat x5) (0:Int)]:List Int),())))
          (let r0:=g104 (([List.getD b0_1 (Int.toNat x5) (0:Int)]:List Int),());
          Tr.test (isBrk (l94_2 (((x3n,x3c),(r0.1,(x5,((0:Int),((999999999:Int),()))))),((b0_0,(b0_1,())),((b1_0,(b1_1,())),((b2_0,()),(b3,())))))))
            (let r2:=b94_2 (((x3n,x3c),(r0.1,(x5,((0:Int),((999999999:Int),()))))),((b0_0,(b0_1,())),((b1_0,(b1_1,())),((b2_0,()),(b3,())))));
            Tr.test ((decide ((0:Int) ≤ r2.1.2.2.1) && decide (r2.1.2.2.1 < (↑r2.1.1.1:Int)):Bool))
              (Tr.test ((Nat.ble ((0:Nat) + Int.toNat r2.1.2.2.1 + (1:Nat)) (List.length r2.2.2.2.2.1):Bool))
                (Tr.test (Option.isSome (f90 ((1:Int),(r2.2.2.1.2.1,()))))
                  (Tr.test (Option.isSome (f68 (r2.1.2.2.2.1,())))
                    (let r3:=g90 ((1:Int),(r2.2.2.1.2.1,()));
                    let r4:=g68 (r2.1.2.2.2.1,());
                    Tr.test (Option.isSome (f71 ((r3.1.1,(r3.1.2.1,())),((r4.1.1,(r4.1.2.1,())),()))))
                      (let r5:=g71 ((r3.1.1,(r3.1.2.1,())),((r4.1.1,(r4.1.2.1,())),()));
                      Tr.test (Option.isSome (f98 (r2.1.2.1,(r5.1.2.1,()))))
                        (let r6:=g98 (r2.1.2.1,(r5.1.2.1,()));
                        Tr.fin (.again (((r2.1.1.1,r2.1.1.2),(r6.1,((wrap64 (r2.1.2.2.1 - (1:Int)):Int),()))),((r2.2.1.1,(r2.2.1.2.1,())),((r2.2.2.1.1,(r2.2.2.1.2.1,())),((r2.2.2.2.1.1,()),((List.set r2.2.2.2.2.1 ((0:Nat) + Int.toNat r2.1.2.2.1) r2.1.2.2.2.1:List Int),())))))))
                        (Tr.stop))
                      (Tr.stop))
                    (Tr.stop))
                  (Tr.stop))
                (Tr.stop))
              (Tr.stop))
            (Tr.stop))
          (Tr.stop))
        (Tr.test ((Nat.ble ((1:Nat) + List.length x4) (1:Nat):Bool))
          (Tr.stop)
          (Tr.test ((Nat.ble (((2:Nat) * ((1:Nat) + List.length x4) + (192:Nat)) * (8:Nat)) (281474976710656:Nat) && Nat.ble ((1:Nat) + List.length x4) (281474976710656:Nat):Bool))
            (Tr.test ((Nat.beq ((1:Nat) + List.length x4) (List.length ([List.getD b0_1 (Int.toNat x5) (0:Int)]++x4)):Bool))
              (Tr.test (Option.isSome (f104 (([List.getD b0_1 (Int.toNat x5) (0:Int)]++x4:List Int),())))
                (let r1:=g104 (([List.getD b0_1 (Int.toNat x5) (0:Int)]++x4:List Int),());
                Tr.test (isBrk (l94_2 (((x3n,x3c),(r1.1,(x5,((0:Int),((999999999:Int),()))))),((b0_0,(b0_1,())),((b1_0,(b1_1,())),((b2_0,()),(b3,())))))))
                  (let r7:=b94_2 (((x3n,x3c),(r1.1,(x5,((0:Int),((999999999:Int),()))))),((b0_0,(b0_1,())),((b1_0,(b1_1,())),((b2_0,()),(b3,())))));
                  Tr.test ((decide ((0:Int) ≤ r7.1.2.2.1) && decide (r7.1.2.2.1 < (↑r7.1.1.1:Int)):Bool))
                    (Tr.test ((Nat.ble ((0:Nat) + Int.toNat r7.1.2.2.1 + (1:Nat)) (List.length r7.2.2.2.2.1):Bool))
                      (Tr.test (Option.isSome (f90 ((1:Int),(r7.2.2.1.2.1,()))))
                        (Tr.test (Option.isSome (f68 (r7.1.2.2.2.1,())))
                          (let r8:=g90 ((1:Int),(r7.2.2.1.2.1,()));
                          let r9:=g68 (r7.1.2.2.2.1,());
                          Tr.test (Option.isSome (f71 ((r8.1.1,(r8.1.2.1,())),((r9.1.1,(r9.1.2.1,())),()))))
                            (let r10:=g71 ((r8.1.1,(r8.1.2.1,())),((r9.1.1,(r9.1.2.1,())),()));
                            Tr.test (Option.isSome (f98 (r7.1.2.1,(r10.1.2.1,()))))
                              (let r11:=g98 (r7.1.2.1,(r10.1.2.1,()));
                              Tr.fin (.again (((r7.1.1.1,r7.1.1.2),(r11.1,((wrap64 (r7.1.2.2.1 - (1:Int)):Int),()))),((r7.2.1.1,(r7.2.1.2.1,())),((r7.2.2.1.1,(r7.2.2.1.2.1,())),((r7.2.2.2.1.1,()),((List.set r7.2.2.2.2.1 ((0:Nat) + Int.toNat r7.1.2.2.1) r7.1.2.2.2.1:List Int),())))))))
                              (Tr.stop))
                            (Tr.stop))
                          (Tr.stop))
                        (Tr.stop))
                      (Tr.stop))
                    (Tr.stop))
                  (Tr.stop))
                (Tr.stop))
              (Tr.stop))
            (Tr.stop))))
      (Tr.stop))
    (Tr.fin (.brk (((x3n,x3c),(x4,())),((b0_0,(b0_1,())),((b1_0,(b1_1,())),((b2_0,()),(b3,())))))))

def s94_0 (d:sh94_0.data):Option (Out sh94_0.data shb94_0.data shr94_0.data):=(t94_0 d.1.1.1 d.1.1.2 d.1.2.1 d.1.2.2.1 d.2.1.1 d.2.1.2.1 d.2.2.1.1 d.2.2.1.2.1 d.2.2.2.1.1 d.2.2.2.2.1).val
def l94_0 (d:sh94_0.data):Option (shb94_0.data ⊕ shr94_0.data):=itr s94_0 rounds d
def b94_0 (d:sh94_0.data):shb94_0.data:=outB shb94_0.dflt (l94_0 d)
def lc94_0:LoopC:=lcB sh94_0 shb94_0 shr94_0 l94_0 b94_0

theorem wk94_0 (x3n:Nat) (x3c:Nat) (x4:(List Int)) (x5:Int) (b0_0:Int) (b0_1:(List Int)) (b1_0:Int) (b1_1:(List Int)) (b2_0:Int) (b3:(List Int)):Walks (runBody (kl94_2 Go.Proofs.Try.prog).orc Go.Proofs.Try.prog 400 94 0 sh94_0 shb94_0 shr94_0 (((x3n,x3c),x4,x5,()),(b0_0,b0_1,()),(b1_0,b1_1,()),(b2_0,()),b3,())) (t94_0 x3n x3c x4 x5 b0_0 b0_1 b1_0 b1_1 b2_0 b3) [([true,true,true,true,true,true,true,true,true,true,true],[2,4,6,8,10,12,1,14,16,1,18,20,22]),([true,true,false,false,true,true,true,true,true,true,true,true,true,true],[2,4,6,8,10,12,1,14,16,18,1,20,22,24,26,28]),([ff],[2])] :=
  ⟨by kernel_rfl,by kernel_rfl,by kernel_rfl,trivial⟩

theorem ok94_0_t (x3n:Nat) (x3c:Nat) (x4:(List Int)) (x5:Int) (b0_0:Int) (b0_1:(List Int)) (b1_0:Int) (b1_1:(List Int)) (b2_0:Int) (b3:(List Int)):TrOk (BodyRuns Go.Proofs.Try.prog (kl94_2 Go.Proofs.Try.prog).orc 94 0 sh94_0 shb94_0 shr94_0 (((x3n,x3c),x4,x5,()),(b0_0,b0_1,()),(b1_0,b1_1,()),(b2_0,()),b3,())) (t94_0 x3n x3c x4 x5 b0_0 b0_1 b1_0 b1_1 b2_0 b3) :=
  Walks.ok (fun _ _ _=>BodyRuns.of) (wk94_0 x3n x3c x4 x5 b0_0 b0_1 b1_0 b1_1 b2_0 b3) (by kernel_rfl)

theorem ok94_0:LoopOk Go.Proofs.Try.prog 94 0 lc94_0:=loopOk_ofB (sh:=sh94_0) (shB:=shb94_0) (shR:=shr94_0) kl94_2_ok.base (T:=fun (d:sh94_0.data)=>t94_0 d.1.1.1 d.1.1.2 d.1.2.1 d.1.2.2.1 d.2.1.1 d.2.1.2.1 d.2.2.1.1 d.2.2.1.2.1 d.2.2.2.1.1 d.2.2.2.2.1) (by kernel_rfl) rfl (fun (d:sh94_0.data)=>ok94_0_t d.1.1.1 d.1.1.2 d.1.2.1 d.1.2.2.1 d.2.1.1 d.2.1.2.1 d.2.2.1.1 d.2.2.1.2.1 d.2.2.2.1.1 d.2.2.2.2.1) (fun _=>rfl)
def kl94_0 (P:Go.Program):Known:=(kl94_2 P).loop 94 0 lc94_0
theorem kl94_0_ok:KnownOk Go.Proofs.Try.prog (kl94_0 Go.Proofs.Try.prog):=kl94_2_ok.loop ok94_0

end Go.Vm.Mo
