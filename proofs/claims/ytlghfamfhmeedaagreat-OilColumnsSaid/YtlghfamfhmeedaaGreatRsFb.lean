import Derived.Test.YtlghfamfhmeedaaGreatA5
import Derived.KernelRfl
import Derived.Test.YtlghfamfhmeedaaGreatProg
import Derived.Test.YtlghfamfhmeedaaGreatRsFa
set_option linter.unusedVariables false
set_option linter.unusedSimpArgs false

namespace Go.Vm.Mo
open Go
set_option linter.unusedVariables false
abbrev sh129_2:Sh:={ n:=20,slots:=[1,2,4,9],pats:=[.map 0,.ptr 1 10 0,.ty .bool,.ptr 2 1 0],boxes:=[.mapd (.pair (.int .i64) (.pair .bool .unit)) .bool,.row [.ty (.slice (.pair (.int .i64) (.pair (.int .i64) .unit))),.ty (.int .i64),.ty (.int .i64),.ty (.int .i64),.ty (.slice (.pair (.int .i64) (.pair (.int .i64) .unit))),.ty (.int .i64),.ty (.int .i64),.ty (.int .i64),.ty (.int .i64),.ty (.int .i64)],.mit 0] }
abbrev shb129_2:Sh:={ n:=20,slots:=[1,2,4],pats:=[.map 0,.ptr 1 10 0,.ty .bool],boxes:=[.mapd (.pair (.int .i64) (.pair .bool .unit)) .bool,.row [.ty (.slice (.pair (.int .i64) (.pair (.int .i64) .unit))),.ty (.int .i64),.ty (.int .i64),.ty (.int .i64),.ty (.slice (.pair (.int .i64) (.pair (.int .i64) .unit))),.ty (.int .i64),.ty (.int .i64),.ty (.int .i64),.ty (.int .i64),.ty (.int .i64)],.mitx] }
abbrev shr129_2:Sh:={ n:=20,slots:=[],pats:=[],boxes:=[.mapd (.pair (.int .i64) (.pair .bool .unit)) .bool,.row [.ty (.slice (.pair (.int .i64) (.pair (.int .i64) .unit))),.ty (.int .i64),.ty (.int .i64),.ty (.int .i64),.ty (.slice (.pair (.int .i64) (.pair (.int .i64) .unit))),.ty (.int .i64),.ty (.int .i64),.ty (.int .i64),.ty (.int .i64),.ty (.int .i64)],.mit 0] }
def te129_2 (x2:Bool) (b0:(List (Nat×((Int×(Bool×Unit))×Bool)))) (b0c:Nat) (b1_0:(List (Int×(Int×Unit)))) (b1_1:Int) (b1_2:Int) (b1_3:Int) (b1_4:(List (Int×(Int×Unit)))) (b1_5:Int) (b1_6:Int) (b1_7:Int) (b1_8:Int) (b1_9:Int) (b2s:Nat) (b2n:(List Nat)):Tr (Out sh129_2.data shb129_2.data shr129_2.data) :=
  Tr.test ((Nat.beq b0c b2s:Bool))
    (Tr.fin (.brk ((x2,()),((b0,b0c),((b1_0,(b1_1,(b1_2,(b1_3,(b1_4,(b1_5,(b1_6,(b1_7,(b1_8,(b1_9,())))))))))),())))))
    (Tr.stop)
def t129_2 (x2:Bool) (b0:(List (Nat×((Int×(Bool×Unit))×Bool)))) (b0c:Nat) (b1_0:(List (Int×(Int×Unit)))) (b1_1:Int) (b1_2:Int) (b1_3:Int) (b1_4:(List (Int×(Int×Unit)))) (b1_5:Int) (b1_6:Int) (b1_7:Int) (b1_8:Int) (b1_9:Int) (b2s:Nat) (b2n:(List Nat)) (ci:Nat):Tr (Out sh129_2.data shb129_2.data shr129_2.data) :=
  Tr.test ((Nat.beq b0c b2s:Bool))
    (Tr.test (hasE b0 ci)
      (Tr.test (Option.isSome (l135_0 ((b1_7,()),((b0,b0c),((b1_0,(b1_1,(b1_2,(b1_3,(b1_4,(b1_5,(b1_6,(b1_7,(b1_8,(b1_9,())))))))))),((((entE (k:=MK) (v:=MV) b0 ci).1.1:Int),(((entE (k:=MK) (v:=MV) b0 ci).1.2.1:Bool),())),()))))))
        (Tr.test (qe6 (l135_0 ((b1_7,()),((b0,b0c),((b1_0,(b1_1,(b1_2,(b1_3,(b1_4,(b1_5,(b1_6,(b1_7,(b1_8,(b1_9,())))))))))),((((entE (k:=MK) (v:=MV) b0 ci).1.1:Int),(((entE (k:=MK) (v:=MV) b0 ci).1.2.1:Bool),())),()))))))
          (let r0:=r135_0 ((b1_7,()),((b0,b0c),((b1_0,(b1_1,(b1_2,(b1_3,(b1_4,(b1_5,(b1_6,(b1_7,(b1_8,(b1_9,())))))))))),((((entE (k:=MK) (v:=MV) b0 ci).1.1:Int),(((entE (k:=MK) (v:=MV) b0 ci).1.2.1:Bool),())),()))));
          Tr.test (r0.1.1)
            (Tr.fin (.again (((false:Bool),()),(((ddel (k:=MK) (v:=MV) ((entE (k:=MK) (v:=MV) b0 ci).1.1,(entE (k:=MK) (v:=MV) b0 ci).1.2.1,()) r0.2.1.1:List (Nat×Ty.data (Ty.pair (Ty.int Go.IntKind.i64) (Ty.pair Ty.bool Ty.unit))×Ty.data Ty.bool)),r0.2.1.2),((b1_0,(b1_1,(b1_2,(b1_3,(b1_4,(b1_5,(b1_6,(b1_7,(b1_8,(b1_9,())))))))))),((b2s,(ci :: b2n:List Nat)),()))))))
            (Tr.fin (.again ((x2,()),(((r0.2.1.1:List (Nat×(Int×Bool×PUnit)×Bool)),r0.2.1.2),((b1_0,(b1_1,(b1_2,(b1_3,(b1_4,(b1_5,(b1_6,(b1_7,(b1_8,(b1_9,())))))))))),((b2s,(ci :: b2n:List Nat)),())))))))
          (let r1:=b135_0 ((b1_7,()),((b0,b0c),((b1_0,(b1_1,(b1_2,(b1_3,(b1_4,(b1_5,(b1_6,(b1_7,(b1_8,(b1_9,())))))))))),((((entE (k:=MK) (v:=MV) b0 ci).1.1:Int),(((entE (k:=MK) (v:=MV) b0 ci).1.2.1:Bool),())),()))));
          Tr.fin (.again ((x2,()),(((r1.2.1.1:List (Nat×(Int×Bool×PUnit)×Bool)),r1.2.1.2),((b1_0,(b1_1,(b1_2,(b1_3,(b1_4,(b1_5,(b1_6,(b1_7,(b1_8,(b1_9,())))))))))),((b2s,(ci :: b2n:List Nat)),())))))))
        (Tr.stop))
      (Tr.stop))
    (Tr.stop)
def tp129_2 (pk:Option Nat) (d:sh129_2.data):Tr (Out sh129_2.data shb129_2.data shr129_2.data):=match pk with
  | none=>te129_2 d.1.1 d.2.1.1 d.2.1.2 d.2.2.1.1 d.2.2.1.2.1 d.2.2.1.2.2.1 d.2.2.1.2.2.2.1 d.2.2.1.2.2.2.2.1 d.2.2.1.2.2.2.2.2.1 d.2.2.1.2.2.2.2.2.2.1 d.2.2.1.2.2.2.2.2.2.2.1 d.2.2.1.2.2.2.2.2.2.2.2.1 d.2.2.1.2.2.2.2.2.2.2.2.2.1 d.2.2.2.1.1 d.2.2.2.1.2
  | some ci=>t129_2 d.1.1 d.2.1.1 d.2.1.2 d.2.2.1.1 d.2.2.1.2.1 d.2.2.1.2.2.1 d.2.2.1.2.2.2.1 d.2.2.1.2.2.2.2.1 d.2.2.1.2.2.2.2.2.1 d.2.2.1.2.2.2.2.2.2.1 d.2.2.1.2.2.2.2.2.2.2.1 d.2.2.1.2.2.2.2.2.2.2.2.1 d.2.2.1.2.2.2.2.2.2.2.2.2.1 d.2.2.2.1.1 d.2.2.2.1.2 ci
def s129_2 (pk:Option Nat) (d:sh129_2.data):Option (Out sh129_2.data shb129_2.data shr129_2.data):=(tp129_2 pk d).val
def left129_2_ (x2:Bool) (b0:(List (Nat×((Int×(Bool×Unit))×Bool)))) (b0c:Nat) (b1_0:(List (Int×(Int×Unit)))) (b1_1:Int) (b1_2:Int) (b1_3:Int) (b1_4:(List (Int×(Int×Unit)))) (b1_5:Int) (b1_6:Int) (b1_7:Int) (b1_8:Int) (b1_9:Int) (b2s:Nat) (b2n:(List Nat)):List Nat:=leftD ((x2,()),(b0,b0c),(b1_0,b1_1,b1_2,b1_3,b1_4,b1_5,b1_6,b1_7,b1_8,b1_9,()),(b2s,b2n),()).2.2.2.1.2 ((x2,()),(b0,b0c),(b1_0,b1_1,b1_2,b1_3,b1_4,b1_5,b1_6,b1_7,b1_8,b1_9,()),(b2s,b2n),()).2.1.1
def left129_2 (d:sh129_2.data):List Nat:=left129_2_ d.1.1 d.2.1.1 d.2.1.2 d.2.2.1.1 d.2.2.1.2.1 d.2.2.1.2.2.1 d.2.2.1.2.2.2.1 d.2.2.1.2.2.2.2.1 d.2.2.1.2.2.2.2.2.1 d.2.2.1.2.2.2.2.2.2.1 d.2.2.1.2.2.2.2.2.2.2.1 d.2.2.1.2.2.2.2.2.2.2.2.1 d.2.2.1.2.2.2.2.2.2.2.2.2.1 d.2.2.2.1.1 d.2.2.2.1.2
abbrev Pt129:=Int×Int×Unit
abbrev W129:=List Pt129×Int×Int×Int×List Pt129×Int×Int×Int×Int×Int×Unit
abbrev M129:=List (Nat×((Int×Bool×Unit)×Bool))×Nat
abbrev DB129:=(Bool×Unit)×M129×W129×Unit
instance iPt129:DecidableEq Pt129:=inferInstance
instance iLp129:DecidableEq (List Pt129):=inferInstance
instance iKv129:DecidableEq ((Int×Bool×Unit)×Bool):=inferInstance
instance iNk129:DecidableEq (Nat×((Int×Bool×Unit)×Bool)):=inferInstance
instance iLm129:DecidableEq (List (Nat×((Int×Bool×Unit)×Bool))):=inferInstance
instance iM129:DecidableEq M129:=inferInstanceAs (DecidableEq (List (Nat×((Int×Bool×Unit)×Bool))×Nat))
instance iW4129:DecidableEq (Int×Int×Int×Int×Int×Unit):=inferInstance
instance iW5129:DecidableEq (List Pt129×Int×Int×Int×Int×Int×Unit):=inferInstance
instance iW8129:DecidableEq (Int×Int×Int×List Pt129×Int×Int×Int×Int×Int×Unit):=inferInstance
instance iW129:DecidableEq W129:=inferInstanceAs (DecidableEq (List Pt129×Int×Int×Int×List Pt129×Int×Int×Int×Int×Int×Unit))
instance iDB129:DecidableEq DB129:=inferInstanceAs (DecidableEq ((Bool×Unit)×M129×W129×Unit))
def same129 (x y:DB129):Bool:=decide (x = y)
def eq129 (x y:shb129_2.data ⊕ shr129_2.data):Bool :=
  match x,y with
  | .inl a,.inl b=>same129 a b
  | _,_=>false
theorem eq129_eq (x y:shb129_2.data ⊕ shr129_2.data) (h:eq129 x y = true):x = y:=by
  cases x with
  | inl a=>cases y with
    | inl b=>exact congrArg Sum.inl (of_decide_eq_true h:(a:DB129) = b)
    | inr b=>cases h
  | inr a=>cases h
abbrev D129:=(Bool×Unit)×M129×W129×(Nat×List Nat)×Unit
instance iS129:DecidableEq (Nat×List Nat):=inferInstance
instance iT129:DecidableEq (W129×(Nat×List Nat)×Unit):=inferInstanceAs (DecidableEq (W129×(Nat×List Nat)×Unit))
instance iU129:DecidableEq (M129×W129×(Nat×List Nat)×Unit):=inferInstanceAs (DecidableEq (M129×W129×(Nat×List Nat)×Unit))
instance iD129:DecidableEq D129:=inferInstanceAs (DecidableEq ((Bool×Unit)×M129×W129×(Nat×List Nat)×Unit))
def seen129 (d:sh129_2.data):List Nat:=d.2.2.2.1.2
def fill129 (l:List Nat) (d:sh129_2.data):sh129_2.data:=(d.1,d.2.1,d.2.2.1,(d.2.2.2.1.1,l),d.2.2.2.2)
def eqD129 (a b:D129):Bool:=decide (a = b)
def same129_2 (a b:sh129_2.data):Bool:=decide (seen129 a = seen129 b) && eqD129 a b
def cn129 (d:sh129_2.data):sh129_2.data:=fill129 (qgs (seen129 d)) d
theorem same129_eq (a b:sh129_2.data) (h:same129_2 a b = true):a = b:=by
  unfold same129_2 at h
  rw [Bool.and_eq_true] at h
  exact (of_decide_eq_true h.2:(a:D129) = b)
def fillO129 (l:List Nat):Out sh129_2.data shb129_2.data shr129_2.data → Out sh129_2.data shb129_2.data shr129_2.data
  | .again d=>.again (fill129 l d)
  | .brk b=>.brk b
  | .ret c=>.ret c
theorem s129_some (d:sh129_2.data) (n:List Nat) (i:Nat):s129_2 (some i) (fill129 n d) = (s129_2 (some i) (fill129 [] d)).map (fillO129 (i :: n)):=by
  unfold s129_2
  rw [← Tr.map_val]
  rfl
theorem s129_none (d:sh129_2.data) (n:List Nat):s129_2 none (fill129 n d) = s129_2 none (fill129 [] d):=rfl
theorem left129_fill (d:sh129_2.data) (n:List Nat):left129_2 (fill129 n d) = leftD n d.2.1.1:=rfl
theorem leftD_same {α:Type} {n n':List Nat} (h:∀ k,k ∈ n ↔ k ∈ n') (l:List (Nat×α)):leftD n l = leftD n' l:=by
  unfold leftD
  apply List.filter_congr
  intro k _
  by_cases hk:k ∈ n
  · simp [hk,(h k).1 hk]
  · have:k ∉ n':=fun e=>hk ((h k).2 e)
    simp [hk,this]
theorem ends129_fill {r:shb129_2.data ⊕ shr129_2.data}:∀ (m:Nat) (d:sh129_2.data) (n n':List Nat),(∀ k,k ∈ n ↔ k ∈ n') → EndsN s129_2 left129_2 m (fill129 n d) r → EndsN s129_2 left129_2 m (fill129 n' d) r
  | 0,_,_,_,_,h=>h.elim
  | m + 1,d,n,n',he,h=>by
    intro pk hp
    rw [left129_fill,← leftD_same he] at hp
    have h1:=h pk hp
    cases pk with
    | none =>
      rw [s129_none] at h1 ⊢
      exact h1
    | some i =>
      rw [s129_some] at h1 ⊢
      cases hs:s129_2 (some i) (fill129 [] d) with
      | none=>rw [hs] at h1; exact h1.elim
      | some o =>
        rw [hs] at h1
        cases o with
        | again e =>
          exact ends129_fill m e (i :: n) (i :: n') (fun k=>by rw [List.mem_cons,List.mem_cons,he k]) h1
        | brk b=>exact h1
        | ret c=>exact h1
def l129_2 (d:sh129_2.data):Option (shb129_2.data ⊕ shr129_2.data):=qrc s129_2 left129_2 cn129 same129_2 eq129 12 d
theorem ends129_2:∀ d r,l129_2 d = some r → EndsN s129_2 left129_2 rounds d r:=fun d r h =>
  qmG eq129_eq same129_eq (fun m d r hh=>ends129_fill m d (qgs (seen129 d)) (seen129 d) (fun k=>qgo k _) hh) (by unfold rounds; omega) h
def b129_2 (d:sh129_2.data):shb129_2.data:=outB shb129_2.dflt (l129_2 d)
def lc129_2:LoopC:=lcB sh129_2 shb129_2 shr129_2 l129_2 b129_2
theorem e129_2_0 (x2:Bool) (b0:(List (Nat×((Int×(Bool×Unit))×Bool)))) (b0c:Nat) (b1_0:(List (Int×(Int×Unit)))) (b1_1:Int) (b1_2:Int) (b1_3:Int) (b1_4:(List (Int×(Int×Unit)))) (b1_5:Int) (b1_6:Int) (b1_7:Int) (b1_8:Int) (b1_9:Int) (b2s:Nat) (b2n:(List Nat)):qeB (kl135_0 Proofs.Tryz.prog).orc Proofs.Tryz.prog 400 129 2 sh129_2 shb129_2 shr129_2 none ((x2,()),(b0,b0c),(b1_0,b1_1,b1_2,b1_3,b1_4,b1_5,b1_6,b1_7,b1_8,b1_9,()),(b2s,b2n),()) [tt,ff] =
    (some (.brk ((x2,()),((b0,b0c),((b1_0,(b1_1,(b1_2,(b1_3,(b1_4,(b1_5,(b1_6,(b1_7,(b1_8,(b1_9,())))))))))),()))),[(false,false),(Nat.beq b0c b2s,true)])):=by kernel_rfl
theorem e129_2_2 (x2:Bool) (b0:(List (Nat×((Int×(Bool×Unit))×Bool)))) (b0c:Nat) (b1_0:(List (Int×(Int×Unit)))) (b1_1:Int) (b1_2:Int) (b1_3:Int) (b1_4:(List (Int×(Int×Unit)))) (b1_5:Int) (b1_6:Int) (b1_7:Int) (b1_8:Int) (b1_9:Int) (b2s:Nat) (b2n:(List Nat)) (ci:Nat):qeB (kl135_0 Proofs.Tryz.prog).orc Proofs.Tryz.prog 400 129 2 sh129_2 shb129_2 shr129_2 (some ci) ((x2,()),(b0,b0c),(b1_0,b1_1,b1_2,b1_3,b1_4,b1_5,b1_6,b1_7,b1_8,b1_9,()),(b2s,b2n),()) [tt,tt,tt,tt,tt,tt,tt] =
    (let r0:=r135_0 ((b1_7,()),((b0,b0c),((b1_0,(b1_1,(b1_2,(b1_3,(b1_4,(b1_5,(b1_6,(b1_7,(b1_8,(b1_9,())))))))))),((((entE (k:=MK) (v:=MV) b0 ci).1.1:Int),((entE (k:=MK) (v:=MV) b0 ci).1.2.1,())),())))); some (.again ((false,()),(((ddel (k:=MK) (v:=MV) ((entE (k:=MK) (v:=MV) b0 ci).1.1,(entE (k:=MK) (v:=MV) b0 ci).1.2.1,()) r0.2.1.1:List (Nat×Ty.data (Ty.pair (Ty.int Go.IntKind.i64) (Ty.pair Ty.bool Ty.unit))×Ty.data Ty.bool)),r0.2.1.2),((b1_0,(b1_1,(b1_2,(b1_3,(b1_4,(b1_5,(b1_6,(b1_7,(b1_8,(b1_9,())))))))))),((b2s,(ci :: b2n:List Nat)),())))),[(r0.1.1,true),(qe6 (l135_0 ((b1_7,()),((b0,b0c),((b1_0,(b1_1,(b1_2,(b1_3,(b1_4,(b1_5,(b1_6,(b1_7,(b1_8,(b1_9,())))))))))),((((entE (k:=MK) (v:=MV) b0 ci).1.1:Int),((entE (k:=MK) (v:=MV) b0 ci).1.2.1,())),()))))),true),(Option.isSome (l135_0 ((b1_7,()),((b0,b0c),((b1_0,(b1_1,(b1_2,(b1_3,(b1_4,(b1_5,(b1_6,(b1_7,(b1_8,(b1_9,())))))))))),((((entE (k:=MK) (v:=MV) b0 ci).1.1:Int),((entE (k:=MK) (v:=MV) b0 ci).1.2.1,())),()))))),true),(hasE b0 ci,true),(Nat.beq b0c b2s,true),(true,true),(Nat.beq b0c b2s,true)])):=by kernel_rfl
theorem e129_2_3 (x2:Bool) (b0:(List (Nat×((Int×(Bool×Unit))×Bool)))) (b0c:Nat) (b1_0:(List (Int×(Int×Unit)))) (b1_1:Int) (b1_2:Int) (b1_3:Int) (b1_4:(List (Int×(Int×Unit)))) (b1_5:Int) (b1_6:Int) (b1_7:Int) (b1_8:Int) (b1_9:Int) (b2s:Nat) (b2n:(List Nat)) (ci:Nat):qeB (kl135_0 Proofs.Tryz.prog).orc Proofs.Tryz.prog 400 129 2 sh129_2 shb129_2 shr129_2 (some ci) ((x2,()),(b0,b0c),(b1_0,b1_1,b1_2,b1_3,b1_4,b1_5,b1_6,b1_7,b1_8,b1_9,()),(b2s,b2n),()) [tt,tt,tt,tt,tt,tt,ff] =
    (let r0:=r135_0 ((b1_7,()),((b0,b0c),((b1_0,(b1_1,(b1_2,(b1_3,(b1_4,(b1_5,(b1_6,(b1_7,(b1_8,(b1_9,())))))))))),((((entE (k:=MK) (v:=MV) b0 ci).1.1:Int),((entE (k:=MK) (v:=MV) b0 ci).1.2.1,())),())))); some (.again ((x2,()),(((r0.2.1.1:List (Nat×(Int×Bool×PUnit)×Bool)),r0.2.1.2),((b1_0,(b1_1,(b1_2,(b1_3,(b1_4,(b1_5,(b1_6,(b1_7,(b1_8,(b1_9,())))))))))),((b2s,(ci :: b2n:List Nat)),())))),[(r0.1.1,false),(qe6 (l135_0 ((b1_7,()),((b0,b0c),((b1_0,(b1_1,(b1_2,(b1_3,(b1_4,(b1_5,(b1_6,(b1_7,(b1_8,(b1_9,())))))))))),((((entE (k:=MK) (v:=MV) b0 ci).1.1:Int),((entE (k:=MK) (v:=MV) b0 ci).1.2.1,())),()))))),true),(Option.isSome (l135_0 ((b1_7,()),((b0,b0c),((b1_0,(b1_1,(b1_2,(b1_3,(b1_4,(b1_5,(b1_6,(b1_7,(b1_8,(b1_9,())))))))))),((((entE (k:=MK) (v:=MV) b0 ci).1.1:Int),((entE (k:=MK) (v:=MV) b0 ci).1.2.1,())),()))))),true),(hasE b0 ci,true),(Nat.beq b0c b2s,true),(true,true),(Nat.beq b0c b2s,true)])):=by kernel_rfl
theorem e129_2_4 (x2:Bool) (b0:(List (Nat×((Int×(Bool×Unit))×Bool)))) (b0c:Nat) (b1_0:(List (Int×(Int×Unit)))) (b1_1:Int) (b1_2:Int) (b1_3:Int) (b1_4:(List (Int×(Int×Unit)))) (b1_5:Int) (b1_6:Int) (b1_7:Int) (b1_8:Int) (b1_9:Int) (b2s:Nat) (b2n:(List Nat)) (ci:Nat):qeB (kl135_0 Proofs.Tryz.prog).orc Proofs.Tryz.prog 400 129 2 sh129_2 shb129_2 shr129_2 (some ci) ((x2,()),(b0,b0c),(b1_0,b1_1,b1_2,b1_3,b1_4,b1_5,b1_6,b1_7,b1_8,b1_9,()),(b2s,b2n),()) [tt,tt,tt,tt,tt,ff,ff] =
    (let r1:=b135_0 ((b1_7,()),((b0,b0c),((b1_0,(b1_1,(b1_2,(b1_3,(b1_4,(b1_5,(b1_6,(b1_7,(b1_8,(b1_9,())))))))))),((((entE (k:=MK) (v:=MV) b0 ci).1.1:Int),((entE (k:=MK) (v:=MV) b0 ci).1.2.1,())),())))); some (.again ((x2,()),(((r1.2.1.1:List (Nat×(Int×Bool×PUnit)×Bool)),r1.2.1.2),((b1_0,(b1_1,(b1_2,(b1_3,(b1_4,(b1_5,(b1_6,(b1_7,(b1_8,(b1_9,())))))))))),((b2s,(ci :: b2n:List Nat)),())))),[(false,false),(qe6 (l135_0 ((b1_7,()),((b0,b0c),((b1_0,(b1_1,(b1_2,(b1_3,(b1_4,(b1_5,(b1_6,(b1_7,(b1_8,(b1_9,())))))))))),((((entE (k:=MK) (v:=MV) b0 ci).1.1:Int),((entE (k:=MK) (v:=MV) b0 ci).1.2.1,())),()))))),false),(Option.isSome (l135_0 ((b1_7,()),((b0,b0c),((b1_0,(b1_1,(b1_2,(b1_3,(b1_4,(b1_5,(b1_6,(b1_7,(b1_8,(b1_9,())))))))))),((((entE (k:=MK) (v:=MV) b0 ci).1.1:Int),((entE (k:=MK) (v:=MV) b0 ci).1.2.1,())),()))))),true),(hasE b0 ci,true),(Nat.beq b0c b2s,true),(true,true),(Nat.beq b0c b2s,true)])):=by kernel_rfl
theorem ok129_2_te (x2:Bool) (b0:(List (Nat×((Int×(Bool×Unit))×Bool)))) (b0c:Nat) (b1_0:(List (Int×(Int×Unit)))) (b1_1:Int) (b1_2:Int) (b1_3:Int) (b1_4:(List (Int×(Int×Unit)))) (b1_5:Int) (b1_6:Int) (b1_7:Int) (b1_8:Int) (b1_9:Int) (b2s:Nat) (b2n:(List Nat)):TrOk (PickRuns Proofs.Tryz.prog (kl135_0 Proofs.Tryz.prog).orc 129 2 sh129_2 shb129_2 shr129_2 none ((x2,()),(b0,b0c),(b1_0,b1_1,b1_2,b1_3,b1_4,b1_5,b1_6,b1_7,b1_8,b1_9,()),(b2s,b2n),())) (te129_2 x2 b0 b0c b1_0 b1_1 b1_2 b1_3 b1_4 b1_5 b1_6 b1_7 b1_8 b1_9 b2s b2n) :=
  TrOk.ofTest (fun h0=>TrOk.ofFin (PickRuns.of (e129_2_0 x2 b0 b0c b1_0 b1_1 b1_2 b1_3 b1_4 b1_5 b1_6 b1_7 b1_8 b1_9 b2s b2n) (ac rfl (ac h0 All.nil)))) (fun h0=>TrOk.ofStop)
theorem ok129_2_t (x2:Bool) (b0:(List (Nat×((Int×(Bool×Unit))×Bool)))) (b0c:Nat) (b1_0:(List (Int×(Int×Unit)))) (b1_1:Int) (b1_2:Int) (b1_3:Int) (b1_4:(List (Int×(Int×Unit)))) (b1_5:Int) (b1_6:Int) (b1_7:Int) (b1_8:Int) (b1_9:Int) (b2s:Nat) (b2n:(List Nat)) (ci:Nat):TrOk (PickRuns Proofs.Tryz.prog (kl135_0 Proofs.Tryz.prog).orc 129 2 sh129_2 shb129_2 shr129_2 (some ci) ((x2,()),(b0,b0c),(b1_0,b1_1,b1_2,b1_3,b1_4,b1_5,b1_6,b1_7,b1_8,b1_9,()),(b2s,b2n),())) (t129_2 x2 b0 b0c b1_0 b1_1 b1_2 b1_3 b1_4 b1_5 b1_6 b1_7 b1_8 b1_9 b2s b2n ci) :=
  TrOk.ofTest (fun h0=>TrOk.ofTest (fun h3=>TrOk.ofTest (fun h4=>TrOk.ofTest (fun h5=>TrOk.ofTest (fun h6=>TrOk.ofFin (PickRuns.of (e129_2_2 x2 b0 b0c b1_0 b1_1 b1_2 b1_3 b1_4 b1_5 b1_6 b1_7 b1_8 b1_9 b2s b2n ci) (ac h6 (ac h5 (ac h4 (ac h3 (ac h0 (ac rfl (ac h0 All.nil))))))))) (fun h6=>TrOk.ofFin (PickRuns.of (e129_2_3 x2 b0 b0c b1_0 b1_1 b1_2 b1_3 b1_4 b1_5 b1_6 b1_7 b1_8 b1_9 b2s b2n ci) (ac h6 (ac h5 (ac h4 (ac h3 (ac h0 (ac rfl (ac h0 All.nil)))))))))) (fun h5=>TrOk.ofFin (PickRuns.of (e129_2_4 x2 b0 b0c b1_0 b1_1 b1_2 b1_3 b1_4 b1_5 b1_6 b1_7 b1_8 b1_9 b2s b2n ci) (ac rfl (ac h5 (ac h4 (ac h3 (ac h0 (ac rfl (ac h0 All.nil)))))))))) (fun h4=>TrOk.ofStop)) (fun h3=>TrOk.ofStop)) (fun h0=>TrOk.ofStop)
theorem ok129_2:qav Proofs.Tryz.prog 129 2 lc129_2:=qlm (sh:=sh129_2) (shB:=shb129_2) (shR:=shr129_2) (left:=left129_2) kl135_0_ok.base (by kernel_rfl) rfl (T:=tp129_2) (fun pk (d:sh129_2.data)=>match pk with
  | none=>ok129_2_te d.1.1 d.2.1.1 d.2.1.2 d.2.2.1.1 d.2.2.1.2.1 d.2.2.1.2.2.1 d.2.2.1.2.2.2.1 d.2.2.1.2.2.2.2.1 d.2.2.1.2.2.2.2.2.1 d.2.2.1.2.2.2.2.2.2.1 d.2.2.1.2.2.2.2.2.2.2.1 d.2.2.1.2.2.2.2.2.2.2.2.1 d.2.2.1.2.2.2.2.2.2.2.2.2.1 d.2.2.2.1.1 d.2.2.2.1.2
  | some ci=>ok129_2_t d.1.1 d.2.1.1 d.2.1.2 d.2.2.1.1 d.2.2.1.2.1 d.2.2.1.2.2.1 d.2.2.1.2.2.2.1 d.2.2.1.2.2.2.2.1 d.2.2.1.2.2.2.2.2.1 d.2.2.1.2.2.2.2.2.2.1 d.2.2.1.2.2.2.2.2.2.2.1 d.2.2.1.2.2.2.2.2.2.2.2.1 d.2.2.1.2.2.2.2.2.2.2.2.2.1 d.2.2.2.1.1 d.2.2.2.1.2 ci) (fun _=>by kernel_rfl) ends129_2
def kl129_2 (P:Go.Program):Known:=(kl135_0 P).loop 129 2 lc129_2
theorem kl129_2_ok:KnownOk Proofs.Tryz.prog (kl129_2 Proofs.Tryz.prog):=kl135_0_ok.loop ok129_2
abbrev sh129_0:Sh:={ n:=20,slots:=[1,2,4],pats:=[.map 0,.ptr 1 10 0,.ty .bool],boxes:=[.mapd (.pair (.int .i64) (.pair .bool .unit)) .bool,.row [.ty (.slice (.pair (.int .i64) (.pair (.int .i64) .unit))),.ty (.int .i64),.ty (.int .i64),.ty (.int .i64),.ty (.slice (.pair (.int .i64) (.pair (.int .i64) .unit))),.ty (.int .i64),.ty (.int .i64),.ty (.int .i64),.ty (.int .i64),.ty (.int .i64)]] }
abbrev shb129_0:Sh:={ n:=20,slots:=[],pats:=[],boxes:=[.mapd (.pair (.int .i64) (.pair .bool .unit)) .bool,.row [.ty (.slice (.pair (.int .i64) (.pair (.int .i64) .unit))),.ty (.int .i64),.ty (.int .i64),.ty (.int .i64),.ty (.slice (.pair (.int .i64) (.pair (.int .i64) .unit))),.ty (.int .i64),.ty (.int .i64),.ty (.int .i64),.ty (.int .i64),.ty (.int .i64)]] }
abbrev shr129_0:Sh:={ n:=20,slots:=[],pats:=[],boxes:=[.mapd (.pair (.int .i64) (.pair .bool .unit)) .bool,.row [.ty (.slice (.pair (.int .i64) (.pair (.int .i64) .unit))),.ty (.int .i64),.ty (.int .i64),.ty (.int .i64),.ty (.slice (.pair (.int .i64) (.pair (.int .i64) .unit))),.ty (.int .i64),.ty (.int .i64),.ty (.int .i64),.ty (.int .i64),.ty (.int .i64)]] }
def t129_0 (x2:Bool) (b0:(List (Nat×((Int×(Bool×Unit))×Bool)))) (b0c:Nat) (b1_0:(List (Int×(Int×Unit)))) (b1_1:Int) (b1_2:Int) (b1_3:Int) (b1_4:(List (Int×(Int×Unit)))) (b1_5:Int) (b1_6:Int) (b1_7:Int) (b1_8:Int) (b1_9:Int):Tr (Out sh129_0.data shb129_0.data shr129_0.data) :=
  Tr.test ((!x2:Bool))
    (Tr.test (qbk (l129_2 ((true,()),((b0,b0c),((b1_0,(b1_1,(b1_2,(b1_3,(b1_4,(b1_5,(b1_6,(b1_7,(b1_8,(b1_9,())))))))))),((b0c,([]:List Nat)),()))))))
      (let r0:=b129_2 (((true:Bool),()),((b0,b0c),((b1_0,(b1_1,(b1_2,(b1_3,(b1_4,(b1_5,(b1_6,(b1_7,(b1_8,(b1_9,())))))))))),((b0c,([]:List Nat)),()))));
      Tr.fin (.again ((r0.1.1,()),(((r0.2.1.1:List (Nat×(Int×Bool×PUnit)×Bool)),r0.2.1.2),((r0.2.2.1.1,(r0.2.2.1.2.1,(r0.2.2.1.2.2.1,(r0.2.2.1.2.2.2.1,(r0.2.2.1.2.2.2.2.1,(r0.2.2.1.2.2.2.2.2.1,(r0.2.2.1.2.2.2.2.2.2.1,(r0.2.2.1.2.2.2.2.2.2.2.1,(r0.2.2.1.2.2.2.2.2.2.2.2.1,(r0.2.2.1.2.2.2.2.2.2.2.2.2.1,())))))))))),())))))
      (Tr.stop))
    (Tr.fin (.brk ((),((b0,b0c),((b1_0,(b1_1,(b1_2,(b1_3,(b1_4,(b1_5,(b1_6,(b1_7,(b1_8,(b1_9,())))))))))),())))))
def s129_0 (d:sh129_0.data):Option (Out sh129_0.data shb129_0.data shr129_0.data):=(t129_0 d.1.1 d.2.1.1 d.2.1.2 d.2.2.1.1 d.2.2.1.2.1 d.2.2.1.2.2.1 d.2.2.1.2.2.2.1 d.2.2.1.2.2.2.2.1 d.2.2.1.2.2.2.2.2.1 d.2.2.1.2.2.2.2.2.2.1 d.2.2.1.2.2.2.2.2.2.2.1 d.2.2.1.2.2.2.2.2.2.2.2.1 d.2.2.1.2.2.2.2.2.2.2.2.2.1).val
def l129_0 (d:sh129_0.data):Option (shb129_0.data ⊕ shr129_0.data):=itr s129_0 rounds d
def b129_0 (d:sh129_0.data):shb129_0.data:=outB shb129_0.dflt (l129_0 d)
def lc129_0:LoopC:=lcB sh129_0 shb129_0 shr129_0 l129_0 b129_0
theorem e129_0_0 (x2:Bool) (b0:(List (Nat×((Int×(Bool×Unit))×Bool)))) (b0c:Nat) (b1_0:(List (Int×(Int×Unit)))) (b1_1:Int) (b1_2:Int) (b1_3:Int) (b1_4:(List (Int×(Int×Unit)))) (b1_5:Int) (b1_6:Int) (b1_7:Int) (b1_8:Int) (b1_9:Int):qau (kl129_2 Proofs.Tryz.prog).orc Proofs.Tryz.prog 400 129 0 sh129_0 shb129_0 shr129_0 ((x2,()),(b0,b0c),(b1_0,b1_1,b1_2,b1_3,b1_4,b1_5,b1_6,b1_7,b1_8,b1_9,()),()) [tt,tt,tt] =
    (let r0:=b129_2 ((true,()),((b0,b0c),((b1_0,(b1_1,(b1_2,(b1_3,(b1_4,(b1_5,(b1_6,(b1_7,(b1_8,(b1_9,())))))))))),((b0c,([]:List Nat)),())))); some (.again ((r0.1.1,()),(((r0.2.1.1:List (Nat×(Int×Bool×PUnit)×Bool)),r0.2.1.2),((r0.2.2.1.1,(r0.2.2.1.2.1,(r0.2.2.1.2.2.1,(r0.2.2.1.2.2.2.1,(r0.2.2.1.2.2.2.2.1,(r0.2.2.1.2.2.2.2.2.1,(r0.2.2.1.2.2.2.2.2.2.1,(r0.2.2.1.2.2.2.2.2.2.2.1,(r0.2.2.1.2.2.2.2.2.2.2.2.1,(r0.2.2.1.2.2.2.2.2.2.2.2.2.1,())))))))))),()))),[(true,true),(qbk (l129_2 ((true,()),((b0,b0c),((b1_0,(b1_1,(b1_2,(b1_3,(b1_4,(b1_5,(b1_6,(b1_7,(b1_8,(b1_9,())))))))))),((b0c,([]:List Nat)),()))))),true),(!x2,true)])):=by kernel_rfl
theorem e129_0_1 (x2:Bool) (b0:(List (Nat×((Int×(Bool×Unit))×Bool)))) (b0c:Nat) (b1_0:(List (Int×(Int×Unit)))) (b1_1:Int) (b1_2:Int) (b1_3:Int) (b1_4:(List (Int×(Int×Unit)))) (b1_5:Int) (b1_6:Int) (b1_7:Int) (b1_8:Int) (b1_9:Int):qau (kl129_2 Proofs.Tryz.prog).orc Proofs.Tryz.prog 400 129 0 sh129_0 shb129_0 shr129_0 ((x2,()),(b0,b0c),(b1_0,b1_1,b1_2,b1_3,b1_4,b1_5,b1_6,b1_7,b1_8,b1_9,()),()) [ff] =
    (some (.brk ((),((b0,b0c),((b1_0,(b1_1,(b1_2,(b1_3,(b1_4,(b1_5,(b1_6,(b1_7,(b1_8,(b1_9,())))))))))),()))),[(!x2,false)])):=by kernel_rfl
theorem ok129_0_t (x2:Bool) (b0:(List (Nat×((Int×(Bool×Unit))×Bool)))) (b0c:Nat) (b1_0:(List (Int×(Int×Unit)))) (b1_1:Int) (b1_2:Int) (b1_3:Int) (b1_4:(List (Int×(Int×Unit)))) (b1_5:Int) (b1_6:Int) (b1_7:Int) (b1_8:Int) (b1_9:Int):TrOk (BodyRuns Proofs.Tryz.prog (kl129_2 Proofs.Tryz.prog).orc 129 0 sh129_0 shb129_0 shr129_0 ((x2,()),(b0,b0c),(b1_0,b1_1,b1_2,b1_3,b1_4,b1_5,b1_6,b1_7,b1_8,b1_9,()),())) (t129_0 x2 b0 b0c b1_0 b1_1 b1_2 b1_3 b1_4 b1_5 b1_6 b1_7 b1_8 b1_9) :=
  TrOk.ofTest (fun h0=>TrOk.ofTest (fun h1=>TrOk.ofFin (BodyRuns.of (e129_0_0 x2 b0 b0c b1_0 b1_1 b1_2 b1_3 b1_4 b1_5 b1_6 b1_7 b1_8 b1_9) (ac rfl (ac h1 (ac h0 All.nil))))) (fun h1=>TrOk.ofStop)) (fun h0=>TrOk.ofFin (BodyRuns.of (e129_0_1 x2 b0 b0c b1_0 b1_1 b1_2 b1_3 b1_4 b1_5 b1_6 b1_7 b1_8 b1_9) (ac h0 All.nil)))
theorem ok129_0:qav Proofs.Tryz.prog 129 0 lc129_0:=qar (sh:=sh129_0) (shB:=shb129_0) (shR:=shr129_0) kl129_2_ok.base (T:=fun (d:sh129_0.data)=>t129_0 d.1.1 d.2.1.1 d.2.1.2 d.2.2.1.1 d.2.2.1.2.1 d.2.2.1.2.2.1 d.2.2.1.2.2.2.1 d.2.2.1.2.2.2.2.1 d.2.2.1.2.2.2.2.2.1 d.2.2.1.2.2.2.2.2.2.1 d.2.2.1.2.2.2.2.2.2.2.1 d.2.2.1.2.2.2.2.2.2.2.2.1 d.2.2.1.2.2.2.2.2.2.2.2.2.1) (by kernel_rfl) rfl (fun (d:sh129_0.data)=>ok129_0_t d.1.1 d.2.1.1 d.2.1.2 d.2.2.1.1 d.2.2.1.2.1 d.2.2.1.2.2.1 d.2.2.1.2.2.2.1 d.2.2.1.2.2.2.2.1 d.2.2.1.2.2.2.2.2.1 d.2.2.1.2.2.2.2.2.2.1 d.2.2.1.2.2.2.2.2.2.2.1 d.2.2.1.2.2.2.2.2.2.2.2.1 d.2.2.1.2.2.2.2.2.2.2.2.2.1) (fun _=>rfl)
def kl129_0 (P:Go.Program):Known:=(kl129_2 P).loop 129 0 lc129_0
theorem kl129_0_ok:KnownOk Proofs.Tryz.prog (kl129_0 Proofs.Tryz.prog):=kl129_2_ok.loop ok129_0
abbrev as13:List Ty:=[]
abbrev rs13:List Ty:=[.bool]
def f13 (_:Tys.data as13):Option (Tys.data rs13):=some (true,())
def g13 (_:Tys.data as13):Tys.data rs13:=(true,())
def p13:PureC:=pcOf as13 rs13 f13 g13
theorem e13:qjs (kl129_0 Proofs.Tryz.prog).orc Proofs.Tryz.prog 400 13 as13 rs13 () none = some ((true,()),[]):=by kernel_rfl
theorem ok13:PureOk Proofs.Tryz.prog 13 p13:=qij kl129_0_ok.base (by kernel_rfl) e13 All.nil
def kf13 (P:Go.Program):Known:=(kl129_0 P).func 13 p13
theorem kf13_ok:KnownOk Proofs.Tryz.prog (kf13 Proofs.Tryz.prog):=kl129_0_ok.func ok13
abbrev as150:List Ty:=[(.pair (.int .i64) (.pair (.int .i64) (.pair (.int .i64) .unit)))]
abbrev rs150:List Ty:=[(.int .i64)]
def t150 (x0:Int) (x0':Int) (x0'':Int):Tr (Tys.data rs150) :=
  Tr.test (Option.isSome (f93 ((1:Int),((10000:Int),(([x0,x0',x0'']:List Int),())))))
    (let r0:=g93 ((1:Int),((10000:Int),(([x0,x0',x0'']:List Int),())));
    Tr.test (Option.isSome (f95 ((!r0.1:Bool),((2:Int),()))))
      (let r1:=g95 ((!r0.1:Bool),((2:Int),()));
      Tr.fin ((r1.1,())))
      (Tr.stop))
    (Tr.stop)
def f150 (d:Tys.data as150):Option (Tys.data rs150):=(t150 d.1.1 d.1.2.1 d.1.2.2.1).val
def g150 (d:Tys.data as150):Tys.data rs150:=(f150 d).getD (Tys.dflt rs150)
def p150:PureC:=pcOf as150 rs150 f150 g150
theorem wk150 (x0:Int) (x0':Int) (x0'':Int):Walks (runPure (kf13 Proofs.Tryz.prog).orc Proofs.Tryz.prog 400 150 as150 rs150 ((x0,x0',x0'',()),())) (t150 x0 x0' x0'') [(bl 2 3,[2,4])] :=
  ⟨by kernel_rfl,trivial⟩
theorem ok150_t (x0:Int) (x0':Int) (x0'':Int):TrOk (PureRuns Proofs.Tryz.prog (kf13 Proofs.Tryz.prog).orc 150 as150 rs150 ((x0,x0',x0'',()),())) (t150 x0 x0' x0'') :=
  Walks.ok (fun _ _ _=>PureRuns.of) (wk150 x0 x0' x0'') (by kernel_rfl)
theorem ok150:PureOk Proofs.Tryz.prog 150 p150:=qab kf13_ok.base (T:=fun (d:Tys.data as150)=>t150 d.1.1 d.1.2.1 d.1.2.2.1) (by kernel_rfl) (fun (d:Tys.data as150)=>ok150_t d.1.1 d.1.2.1 d.1.2.2.1)
def kf150 (P:Go.Program):Known:=(kf13 P).func 150 p150
theorem kf150_ok:KnownOk Proofs.Tryz.prog (kf150 Proofs.Tryz.prog):=kf13_ok.func ok150
abbrev as151:List Ty:=[(.pair (.int .i64) (.pair (.int .i64) (.pair (.int .i64) .unit))),(.int .i64)]
abbrev rs151:List Ty:=[(.pair (.int .i64) (.pair (.int .i64) .unit))]
def t151 (x0:Int) (x0':Int) (x0'':Int) (x1:Int):Tr (Tys.data rs151) :=
  Tr.test (Option.isSome (f156 ((wrap64 (wrap64 ((4:Int) * x0) * x0'):Int),((wrap64 (x0'' * x1):Int),()))))
    (let r0:=g156 ((wrap64 (wrap64 ((4:Int) * x0) * x0'):Int),((wrap64 (x0'' * x1):Int),()));
    Tr.fin (((r0.1.1,(r0.1.2.1,())),())))
    (Tr.stop)
def f151 (d:Tys.data as151):Option (Tys.data rs151):=(t151 d.1.1 d.1.2.1 d.1.2.2.1 d.2.1).val
def g151 (d:Tys.data as151):Tys.data rs151:=(f151 d).getD (Tys.dflt rs151)
def p151:PureC:=pcOf as151 rs151 f151 g151
theorem wk151 (x0:Int) (x0':Int) (x0'':Int) (x1:Int):Walks (runPure (kf150 Proofs.Tryz.prog).orc Proofs.Tryz.prog 400 151 as151 rs151 ((x0,x0',x0'',()),x1,())) (t151 x0 x0' x0'' x1) [(bl 1 1,[2])] :=
  ⟨by kernel_rfl,trivial⟩
theorem ok151_t (x0:Int) (x0':Int) (x0'':Int) (x1:Int):TrOk (PureRuns Proofs.Tryz.prog (kf150 Proofs.Tryz.prog).orc 151 as151 rs151 ((x0,x0',x0'',()),x1,())) (t151 x0 x0' x0'' x1) :=
  Walks.ok (fun _ _ _=>PureRuns.of) (wk151 x0 x0' x0'' x1) (by kernel_rfl)
theorem ok151:PureOk Proofs.Tryz.prog 151 p151:=qab kf150_ok.base (T:=fun (d:Tys.data as151)=>t151 d.1.1 d.1.2.1 d.1.2.2.1 d.2.1) (by kernel_rfl) (fun (d:Tys.data as151)=>ok151_t d.1.1 d.1.2.1 d.1.2.2.1 d.2.1)
def kf151 (P:Go.Program):Known:=(kf150 P).func 151 p151
theorem kf151_ok:KnownOk Proofs.Tryz.prog (kf151 Proofs.Tryz.prog):=kf150_ok.func ok151
abbrev as79:List Ty:=[(.pair (.int .i64) (.pair (.int .i64) (.pair (.int .i64) .unit))),(.int .i64)]
abbrev rs79:List Ty:=[(.pair (.int .i64) (.pair (.int .i64) .unit)),(.int .i64)]
def t79 (x0:Int) (x0':Int) (x0'':Int) (x1:Int):Tr (Tys.data rs79) :=
  Tr.test (Option.isSome (f150 ((x0,(x0',(x0'',()))),())))
    (Tr.test (Option.isSome (f93 ((1:Int),((10000:Int),(([x1]:List Int),())))))
      (let r1:=g93 ((1:Int),((10000:Int),(([x1]:List Int),())));
      Tr.test (Option.isSome (f95 ((!r1.1:Bool),((2:Int),()))))
        (let r0:=g150 ((x0,(x0',(x0'',()))),());
        let r2:=g95 ((!r1.1:Bool),((2:Int),()));
        Tr.test (Option.isSome (f94 (([r0.1,r2.1]:List Int),())))
          (let r3:=g94 (([r0.1,r2.1]:List Int),());
          Tr.test ((!eqF r3.1 0:Bool))
            (Tr.fin ((((0:Int),((0:Int),())),(r3.1,()))))
            (Tr.test (Option.isSome (f151 ((x0,(x0',(x0'',()))),(x1,()))))
              (let r4:=g151 ((x0,(x0',(x0'',()))),(x1,()));
              Tr.fin (((r4.1.1,(r4.1.2.1,())),((0:Int),()))))
              (Tr.stop)))
          (Tr.stop))
        (Tr.stop))
      (Tr.stop))
    (Tr.stop)
def f79 (d:Tys.data as79):Option (Tys.data rs79):=(t79 d.1.1 d.1.2.1 d.1.2.2.1 d.2.1).val
def g79 (d:Tys.data as79):Tys.data rs79:=(f79 d).getD (Tys.dflt rs79)
def p79:PureC:=pcOf as79 rs79 f79 g79
theorem wk79 (x0:Int) (x0':Int) (x0'':Int) (x1:Int):Walks (runPure (kf151 Proofs.Tryz.prog).orc Proofs.Tryz.prog 400 79 as79 rs79 ((x0,x0',x0'',()),x1,())) (t79 x0 x0' x0'' x1) [(bl 5 31,[2,4,6,8,10]),(bl 6 47,[2,4,6,8,10,12])] :=
  ⟨by kernel_rfl,by kernel_rfl,trivial⟩
theorem ok79_t (x0:Int) (x0':Int) (x0'':Int) (x1:Int):TrOk (PureRuns Proofs.Tryz.prog (kf151 Proofs.Tryz.prog).orc 79 as79 rs79 ((x0,x0',x0'',()),x1,())) (t79 x0 x0' x0'' x1) :=
  Walks.ok (fun _ _ _=>PureRuns.of) (wk79 x0 x0' x0'' x1) (by kernel_rfl)
theorem ok79:PureOk Proofs.Tryz.prog 79 p79:=qab kf151_ok.base (T:=fun (d:Tys.data as79)=>t79 d.1.1 d.1.2.1 d.1.2.2.1 d.2.1) (by kernel_rfl) (fun (d:Tys.data as79)=>ok79_t d.1.1 d.1.2.1 d.1.2.2.1 d.2.1)
def kf79 (P:Go.Program):Known:=(kf151 P).func 79 p79
theorem kf79_ok:KnownOk Proofs.Tryz.prog (kf79 Proofs.Tryz.prog):=kf151_ok.func ok79
abbrev as80:List Ty:=[(.pair (.int .i64) (.pair (.int .i64) (.pair (.int .i64) .unit))),(.pair (.int .i64) (.pair (.int .i64) .unit)),(.pair (.int .i64) (.pair (.int .i64) .unit))]
abbrev rs80:List Ty:=[(.int .i64),(.int .i64)]
def t80 (x0:Int) (x0':Int) (x0'':Int) (x1:Int) (x1':Int) (x2:Int) (x2':Int):Tr (Tys.data rs80) :=
  Tr.test (Option.isSome (f150 ((x0,(x0',(x0'',()))),())))
    (Tr.test (Option.isSome (f142 ((1:Int),((10000:Int),((x1,(x1',())),())))))
      (Tr.test (Option.isSome (f142 ((0:Int),((1000000000:Int),((x2,(x2',())),())))))
        (let r0:=g150 ((x0,(x0',(x0'',()))),());
        let r1:=g142 ((1:Int),((10000:Int),((x1,(x1',())),())));
        let r2:=g142 ((0:Int),((1000000000:Int),((x2,(x2',())),())));
        Tr.test (Option.isSome (f94 (([r0.1,r1.1,r2.1]:List Int),())))
          (let r3:=g94 (([r0.1,r1.1,r2.1]:List Int),());
          Tr.test ((!eqF r3.1 0:Bool))
            (Tr.fin (((0:Int),(r3.1,()))))
            (Tr.test (Option.isSome (f151 ((x0,(x0',(x0'',()))),(x1',()))))
              (Tr.test (Option.isSome (f151 ((x0,(x0',(x0'',()))),(x1,()))))
                (let r5:=g151 ((x0,(x0',(x0'',()))),(x1,()));
                Tr.test (Option.isSome (f152 ((r5.1.1,(r5.1.2.1,())),(x2,()))))
                  (let r6:=g152 ((r5.1.1,(r5.1.2.1,())),(x2,()));
                  Tr.test (r6.1)
                    (Tr.fin (((2:Int),((0:Int),()))))
                    (let r4:=g151 ((x0,(x0',(x0'',()))),(x1',()));
                    Tr.test (Option.isSome (f153 ((r4.1.1,(r4.1.2.1,())),(x2',()))))
                      (let r7:=g153 ((r4.1.1,(r4.1.2.1,())),(x2',()));
                      Tr.test (r7.1)
                        (Tr.fin (((2:Int),((0:Int),()))))
                        (Tr.test (Option.isSome (f152 ((r4.1.1,(r4.1.2.1,())),(x2,()))))
                          (let r8:=g152 ((r4.1.1,(r4.1.2.1,())),(x2,()));
                          Tr.test (r8.1)
                            (Tr.fin (((1:Int),((0:Int),()))))
                            (Tr.test (Option.isSome (f153 ((r5.1.1,(r5.1.2.1,())),(x2',()))))
                              (let r9:=g153 ((r5.1.1,(r5.1.2.1,())),(x2',()));
                              Tr.test (r9.1)
                                (Tr.fin (((1:Int),((0:Int),()))))
                                (Tr.fin (((0:Int),((0:Int),())))))
                              (Tr.stop)))
                          (Tr.stop)))
                      (Tr.stop)))
                  (Tr.stop))
                (Tr.stop))
              (Tr.stop)))
          (Tr.stop))
        (Tr.stop))
      (Tr.stop))
    (Tr.stop)
def f80 (d:Tys.data as80):Option (Tys.data rs80):=(t80 d.1.1 d.1.2.1 d.1.2.2.1 d.2.1.1 d.2.1.2.1 d.2.2.1.1 d.2.2.1.2.1).val
def g80 (d:Tys.data as80):Tys.data rs80:=(f80 d).getD (Tys.dflt rs80)
def p80:PureC:=pcOf as80 rs80 f80 g80
theorem wk80 (x0:Int) (x0':Int) (x0'':Int) (x1:Int) (x1':Int) (x2:Int) (x2':Int):Walks (runPure (kf79 Proofs.Tryz.prog).orc Proofs.Tryz.prog 400 80 as80 rs80 ((x0,x0',x0'',()),(x1,x1',()),(x2,x2',()),())) (t80 x0 x0' x0'' x1 x1' x2 x2') [(bl 5 31,[2,4,6,8,10]),(bl 9 495,[1,2,2,2,2,2,4,6,8,10,12,14,16,18]),(bl 11 1775,[2,6,4,6,6,6,6,8,10,12,14,16,18,20,22]),(bl 13 6895,[1,2,2,2,2,2,4,6,10,8,10,10,10,10,12,14,16,18,20,22,24,26]),(bl 15 27375,[2,6,4,6,6,6,6,8,10,14,12,14,14,14,14,16,18,20,22,24,26,28,30]),(bl 15 10991,[2,6,4,6,6,6,6,8,10,14,12,14,14,14,14,16,18,20,22,24,26,28,30])] :=
  ⟨by kernel_rfl,by kernel_rfl,by kernel_rfl,by kernel_rfl,by kernel_rfl,by kernel_rfl,trivial⟩
theorem ok80_t (x0:Int) (x0':Int) (x0'':Int) (x1:Int) (x1':Int) (x2:Int) (x2':Int):TrOk (PureRuns Proofs.Tryz.prog (kf79 Proofs.Tryz.prog).orc 80 as80 rs80 ((x0,x0',x0'',()),(x1,x1',()),(x2,x2',()),())) (t80 x0 x0' x0'' x1 x1' x2 x2') :=
  Walks.ok (fun _ _ _=>PureRuns.of) (wk80 x0 x0' x0'' x1 x1' x2 x2') (by kernel_rfl)
theorem ok80:PureOk Proofs.Tryz.prog 80 p80:=qab kf79_ok.base (T:=fun (d:Tys.data as80)=>t80 d.1.1 d.1.2.1 d.1.2.2.1 d.2.1.1 d.2.1.2.1 d.2.2.1.1 d.2.2.1.2.1) (by kernel_rfl) (fun (d:Tys.data as80)=>ok80_t d.1.1 d.1.2.1 d.1.2.2.1 d.2.1.1 d.2.1.2.1 d.2.2.1.1 d.2.2.1.2.1)
def kf80 (P:Go.Program):Known:=(kf79 P).func 80 p80
theorem kf80_ok:KnownOk Proofs.Tryz.prog (kf80 Proofs.Tryz.prog):=kf79_ok.func ok80
abbrev as20:List Ty:=[(.int .i64),(.int .i64),(.int .i64)]
abbrev rs20:List Ty:=[.bool]
def t20 (x0:Int) (x1:Int) (x2:Int):Tr (Tys.data rs20) :=
  Tr.test ((leF x1 x0:Bool))
    (Tr.fin ((leF x0 x2,())))
    (Tr.fin ((false,())))
def f20 (d:Tys.data as20):Option (Tys.data rs20):=(t20 d.1 d.2.1 d.2.2.1).val
def g20 (d:Tys.data as20):Tys.data rs20:=(f20 d).getD (Tys.dflt rs20)
def p20:PureC:=pcOf as20 rs20 f20 g20
theorem wk20 (x0:Int) (x1:Int) (x2:Int):Walks (runPure (kf80 Proofs.Tryz.prog).orc Proofs.Tryz.prog 400 20 as20 rs20 (x0,x1,x2,())) (t20 x0 x1 x2) [(bl 1 1,[2,2,2,2]),(bl 1 0,[2,2,2,2])] :=
  ⟨by kernel_rfl,by kernel_rfl,trivial⟩
theorem ok20_t (x0:Int) (x1:Int) (x2:Int):TrOk (PureRuns Proofs.Tryz.prog (kf80 Proofs.Tryz.prog).orc 20 as20 rs20 (x0,x1,x2,())) (t20 x0 x1 x2) :=
  Walks.ok (fun _ _ _=>PureRuns.of) (wk20 x0 x1 x2) (by kernel_rfl)
theorem ok20:PureOk Proofs.Tryz.prog 20 p20:=qab kf80_ok.base (T:=fun (d:Tys.data as20)=>t20 d.1 d.2.1 d.2.2.1) (by kernel_rfl) (fun (d:Tys.data as20)=>ok20_t d.1 d.2.1 d.2.2.1)
def kf20 (P:Go.Program):Known:=(kf80 P).func 20 p20
theorem kf20_ok:KnownOk Proofs.Tryz.prog (kf20 Proofs.Tryz.prog):=kf80_ok.func ok20
abbrev as154:List Ty:=[(.int .i64)]
abbrev rs154:List Ty:=[(.int .i64)]
def t154 (x0:Int):Tr (Tys.data rs154) :=
  Tr.test (Option.isSome (f20 (x0,((1:Int),((10000:Int),())))))
    (let r0:=g20 (x0,((1:Int),((10000:Int),())));
    Tr.test ((!r0.1:Bool))
      (Tr.fin (((2:Int),())))
      (Tr.fin (((0:Int),()))))
    (Tr.stop)
def f154 (d:Tys.data as154):Option (Tys.data rs154):=(t154 d.1).val
def g154 (d:Tys.data as154):Tys.data rs154:=(f154 d).getD (Tys.dflt rs154)
def p154:PureC:=pcOf as154 rs154 f154 g154
theorem wk154 (x0:Int):Walks (runPure (kf20 Proofs.Tryz.prog).orc Proofs.Tryz.prog 400 154 as154 rs154 (x0,())) (t154 x0) [(bl 2 3,[2,4]),(bl 2 1,[2,4])] :=
  ⟨by kernel_rfl,by kernel_rfl,trivial⟩
theorem ok154_t (x0:Int):TrOk (PureRuns Proofs.Tryz.prog (kf20 Proofs.Tryz.prog).orc 154 as154 rs154 (x0,())) (t154 x0) :=
  Walks.ok (fun _ _ _=>PureRuns.of) (wk154 x0) (by kernel_rfl)
theorem ok154:PureOk Proofs.Tryz.prog 154 p154:=qab kf20_ok.base (T:=fun (d:Tys.data as154)=>t154 d.1) (by kernel_rfl) (fun (d:Tys.data as154)=>ok154_t d.1)
def kf154 (P:Go.Program):Known:=(kf20 P).func 154 p154
theorem kf154_ok:KnownOk Proofs.Tryz.prog (kf154 Proofs.Tryz.prog):=kf20_ok.func ok154
abbrev as81:List Ty:=[(.pair (.int .i64) (.pair (.int .i64) (.pair (.int .i64) .unit)))]
abbrev rs81:List Ty:=[(.int .i64)]
def t81 (x0:Int) (x0':Int) (x0'':Int):Tr (Tys.data rs81) :=
  Tr.test (Option.isSome (f154 (x0,())))
    (let r0:=g154 (x0,());
    Tr.test ((!eqF r0.1 0:Bool))
      (Tr.fin (((2:Int),())))
      (Tr.test (Option.isSome (f154 (x0',())))
        (let r1:=g154 (x0',());
        Tr.test ((!eqF r1.1 0:Bool))
          (Tr.fin (((2:Int),())))
          (Tr.test (Option.isSome (f154 (x0'',())))
            (let r2:=g154 (x0'',());
            Tr.test ((!eqF r2.1 0:Bool))
              (Tr.fin (((2:Int),())))
              (Tr.fin (((0:Int),()))))
            (Tr.stop)))
        (Tr.stop)))
    (Tr.stop)
def f81 (d:Tys.data as81):Option (Tys.data rs81):=(t81 d.1.1 d.1.2.1 d.1.2.2.1).val
def g81 (d:Tys.data as81):Tys.data rs81:=(f81 d).getD (Tys.dflt rs81)
def p81:PureC:=pcOf as81 rs81 f81 g81
theorem wk81 (x0:Int) (x0':Int) (x0'':Int):Walks (runPure (kf154 Proofs.Tryz.prog).orc Proofs.Tryz.prog 400 81 as81 rs81 ((x0,x0',x0'',()),())) (t81 x0 x0' x0'') [(bl 2 3,[1,1,1,1,1,1,2,2,2,2,2,4]),(bl 4 13,[1,2,2,2,2,2,6,6,4,6,6,6,8]),(bl 6 53,[2,6,6,4,6,6,6,10,10,8,10,10,10,12]),(bl 6 21,[2,6,6,4,6,6,6,10,10,8,10,10,10,12])] :=
  ⟨by kernel_rfl,by kernel_rfl,by kernel_rfl,by kernel_rfl,trivial⟩
theorem ok81_t (x0:Int) (x0':Int) (x0'':Int):TrOk (PureRuns Proofs.Tryz.prog (kf154 Proofs.Tryz.prog).orc 81 as81 rs81 ((x0,x0',x0'',()),())) (t81 x0 x0' x0'') :=
  Walks.ok (fun _ _ _=>PureRuns.of) (wk81 x0 x0' x0'') (by kernel_rfl)
theorem ok81:PureOk Proofs.Tryz.prog 81 p81:=qab kf154_ok.base (T:=fun (d:Tys.data as81)=>t81 d.1.1 d.1.2.1 d.1.2.2.1) (by kernel_rfl) (fun (d:Tys.data as81)=>ok81_t d.1.1 d.1.2.1 d.1.2.2.1)
def kf81 (P:Go.Program):Known:=(kf154 P).func 81 p81
theorem kf81_ok:KnownOk Proofs.Tryz.prog (kf81 Proofs.Tryz.prog):=kf154_ok.func ok81
abbrev as185:List Ty:=[(.int .i64)]
abbrev rs185:List Ty:=[(.int .i64)]
def t185 (x0:Int):Tr (Tys.data rs185) :=
  Tr.fin (((if x0 < Go.IntKind.wrap Go.IntKind.i64 ((0:Int) - x0) then Go.IntKind.wrap Go.IntKind.i64 ((0:Int) - x0) else x0:Int),()))
def f185 (d:Tys.data as185):Option (Tys.data rs185):=(t185 d.1).val
def g185 (d:Tys.data as185):Tys.data rs185:=(f185 d).getD (Tys.dflt rs185)
def p185:PureC:=pcOf as185 rs185 f185 g185
theorem wk185 (x0:Int):Walks (runPure (kf81 Proofs.Tryz.prog).orc Proofs.Tryz.prog 400 185 as185 rs185 (x0,())) (t185 x0) [(bl 0 0,[])] :=
  ⟨by kernel_rfl,trivial⟩
theorem ok185_t (x0:Int):TrOk (PureRuns Proofs.Tryz.prog (kf81 Proofs.Tryz.prog).orc 185 as185 rs185 (x0,())) (t185 x0) :=
  Walks.ok (fun _ _ _=>PureRuns.of) (wk185 x0) (by kernel_rfl)
theorem ok185:PureOk Proofs.Tryz.prog 185 p185:=qab kf81_ok.base (T:=fun (d:Tys.data as185)=>t185 d.1) (by kernel_rfl) (fun (d:Tys.data as185)=>ok185_t d.1)
def kf185 (P:Go.Program):Known:=(kf81 P).func 185 p185
theorem kf185_ok:KnownOk Proofs.Tryz.prog (kf185 Proofs.Tryz.prog):=kf81_ok.func ok185
abbrev sh199_0:Sh:={ n:=21,slots:=[0,3],pats:=[.ty (.slice (.int .i64)),.ty (.int .i64)],boxes:=[] }
abbrev shb199_0:Sh:={ n:=21,slots:=[0,3],pats:=[.ty (.slice (.int .i64)),.ty (.int .i64)],boxes:=[] }
abbrev shr199_0:Sh:={ n:=21,slots:=[],pats:=[],boxes:=[] }
def t199_0 (x0:(List Int)) (x1:Int):Tr (Out sh199_0.data shb199_0.data shr199_0.data) :=
  Tr.test ((!leF x1 0:Bool))
    (Tr.test (decide ((0:Int) ≤ wrap64 (x1 - (1:Int))) && decide (wrap64 (x1 - (1:Int)) < (↑(List.length x0):Int)))
      (Tr.test ((eqF (List.getD x0 (Int.toNat (wrap64 (x1 - (1:Int)))) (0:Int)) (0:Int):Bool))
        (Tr.fin (.again ((x0,((wrap64 (x1 - (1:Int)):Int),())),())))
        (Tr.fin (.brk ((x0,(x1,())),()))))
      (Tr.stop))
    (Tr.fin (.brk ((x0,(x1,())),())))
def s199_0 (d:sh199_0.data):Option (Out sh199_0.data shb199_0.data shr199_0.data):=(t199_0 d.1.1 d.1.2.1).val
def l199_0 (d:sh199_0.data):Option (shb199_0.data ⊕ shr199_0.data):=itr s199_0 rounds d
def b199_0 (d:sh199_0.data):shb199_0.data:=outB shb199_0.dflt (l199_0 d)
def lc199_0:LoopC:=lcB sh199_0 shb199_0 shr199_0 l199_0 b199_0
theorem wk199_0 (x0:(List Int)) (x1:Int):Walks (qau (kf185 Proofs.Tryz.prog).orc Proofs.Tryz.prog 400 199 0 sh199_0 shb199_0 shr199_0 ((x0,x1,()),())) (t199_0 x0 x1) [(bl 3 7,[2,6,6,6,4,6,6,6,6]),(bl 3 3,[2,6,6,6,4,6,6,6,6]),(bl 1 0,[0,2,2,2,2,2,2,2])] :=
  ⟨by kernel_rfl,by kernel_rfl,by kernel_rfl,trivial⟩
theorem ok199_0_t (x0:(List Int)) (x1:Int):TrOk (BodyRuns Proofs.Tryz.prog (kf185 Proofs.Tryz.prog).orc 199 0 sh199_0 shb199_0 shr199_0 ((x0,x1,()),())) (t199_0 x0 x1) :=
  Walks.ok (fun _ _ _=>BodyRuns.of) (wk199_0 x0 x1) (by kernel_rfl)
theorem ok199_0:qav Proofs.Tryz.prog 199 0 lc199_0:=qar (sh:=sh199_0) (shB:=shb199_0) (shR:=shr199_0) kf185_ok.base (T:=fun (d:sh199_0.data)=>t199_0 d.1.1 d.1.2.1) (by kernel_rfl) rfl (fun (d:sh199_0.data)=>ok199_0_t d.1.1 d.1.2.1) (fun _=>rfl)
def kl199_0 (P:Go.Program):Known:=(kf185 P).loop 199 0 lc199_0
theorem kl199_0_ok:KnownOk Proofs.Tryz.prog (kl199_0 Proofs.Tryz.prog):=kf185_ok.loop ok199_0
abbrev as199:List Ty:=[(.slice (.int .i64))]
abbrev rs199:List Ty:=[(.slice (.int .i64))]
def t199 (x0:(List Int)):Tr (Tys.data rs199) :=
  Tr.test (qbk (l199_0 ((x0,((↑(List.length x0):Int),())),())))
    (let r0:=b199_0 ((x0,((↑(List.length x0):Int),())),());
    Tr.test ((decide ((0:Int) ≤ r0.1.2.1) && decide (r0.1.2.1 ≤ (↑(List.length r0.1.1):Int)):Bool))
      (Tr.fin (((List.take (Int.toNat r0.1.2.1) r0.1.1:List Int),())))
      (Tr.stop))
    (Tr.stop)
def f199 (d:Tys.data as199):Option (Tys.data rs199):=(t199 d.1).val
def g199 (d:Tys.data as199):Tys.data rs199:=(f199 d).getD (Tys.dflt rs199)
def p199:PureC:=pcOf as199 rs199 f199 g199
theorem wk199 (x0:(List Int)):Walks (runPure (kl199_0 Proofs.Tryz.prog).orc Proofs.Tryz.prog 400 199 as199 rs199 (x0,())) (t199 x0) [(bl 2 3,[2,1,4])] :=
  ⟨by kernel_rfl,trivial⟩
theorem ok199_t (x0:(List Int)):TrOk (PureRuns Proofs.Tryz.prog (kl199_0 Proofs.Tryz.prog).orc 199 as199 rs199 (x0,())) (t199 x0) :=
  Walks.ok (fun _ _ _=>PureRuns.of) (wk199 x0) (by kernel_rfl)
theorem ok199:PureOk Proofs.Tryz.prog 199 p199:=qab kl199_0_ok.base (T:=fun (d:Tys.data as199)=>t199 d.1) (by kernel_rfl) (fun (d:Tys.data as199)=>ok199_t d.1)
def kf199 (P:Go.Program):Known:=(kl199_0 P).func 199 p199
theorem kf199_ok:KnownOk Proofs.Tryz.prog (kf199 Proofs.Tryz.prog):=kl199_0_ok.func ok199
abbrev as186:List Ty:=[(.int .i64),(.slice (.int .i64))]
abbrev rs186:List Ty:=[(.pair (.int .i64) (.pair (.slice (.int .i64)) .unit))]
def t186 (x0:Int) (x1:(List Int)):Tr (Tys.data rs186) :=
  Tr.test (Option.isSome (f199 (x1,())))
    (let r0:=g199 (x1,());
    Tr.test ((eqF (↑(List.length r0.1):Int) (0:Int):Bool))
      (Tr.fin ((((0:Int),(r0.1,())),())))
      (Tr.fin (((x0,(r0.1,())),()))))
    (Tr.stop)
def f186 (d:Tys.data as186):Option (Tys.data rs186):=(t186 d.1 d.2.1).val
def g186 (d:Tys.data as186):Tys.data rs186:=(f186 d).getD (Tys.dflt rs186)
def p186:PureC:=pcOf as186 rs186 f186 g186
theorem wk186 (x0:Int) (x1:(List Int)):Walks (runPure (kf199 Proofs.Tryz.prog).orc Proofs.Tryz.prog 400 186 as186 rs186 (x0,x1,())) (t186 x0 x1) [(bl 2 3,[2,4]),(bl 2 1,[2,4])] :=
  ⟨by kernel_rfl,by kernel_rfl,trivial⟩
theorem ok186_t (x0:Int) (x1:(List Int)):TrOk (PureRuns Proofs.Tryz.prog (kf199 Proofs.Tryz.prog).orc 186 as186 rs186 (x0,x1,())) (t186 x0 x1) :=
  Walks.ok (fun _ _ _=>PureRuns.of) (wk186 x0 x1) (by kernel_rfl)
theorem ok186:PureOk Proofs.Tryz.prog 186 p186:=qab kf199_ok.base (T:=fun (d:Tys.data as186)=>t186 d.1 d.2.1) (by kernel_rfl) (fun (d:Tys.data as186)=>ok186_t d.1 d.2.1)
def kf186 (P:Go.Program):Known:=(kf199 P).func 186 p186
theorem kf186_ok:KnownOk Proofs.Tryz.prog (kf186 Proofs.Tryz.prog):=kf199_ok.func ok186
abbrev sh164_0:Sh:={ n:=20,slots:=[0,2,3,4],pats:=[.ty (.int .i64),.ptr 0 2 0,.ty (.int .i64),.aco (.int .i64)],boxes:=[.row [.ty (.int .i64),.nil]] }
abbrev shb164_0:Sh:={ n:=20,slots:=[2,3,4],pats:=[.ptr 0 2 0,.ty (.int .i64),.aco (.int .i64)],boxes:=[.row [.ty (.int .i64),.nil]] }
abbrev shr164_0:Sh:={ n:=20,slots:=[],pats:=[],boxes:=[.row [.ty (.int .i64),.nil]] }
def t164_0 (x0:Int) (x2:Int) (x3:(List Int)) (b0_0:Int):Tr (Out sh164_0.data shb164_0.data shr164_0.data) :=
  Tr.test ((!eqF x0 0:Bool))
    (Tr.test (Option.isSome (f185 ((Int.tmod x0 (1000000000:Int):Int),())))
      (Tr.test ((Nat.ble (((2:Nat) * (List.length x3 + (1:Nat)) + (192:Nat)) * (8:Nat)) (281474976710656:Nat) && Nat.ble (List.length x3 + (1:Nat)) (281474976710656:Nat):Bool))
        (let r0:=g185 ((Int.tmod x0 (1000000000:Int):Int),());
        Tr.fin (.again (((Go.IntKind.wrap Go.IntKind.i64 (Int.tdiv x0 (1000000000:Int)):Int),(x2,((x3++[r0.1]:List Int),()))),((b0_0,()),()))))
        (Tr.stop))
      (Tr.stop))
    (Tr.fin (.brk ((x2,(x3,())),((b0_0,()),()))))
def s164_0 (d:sh164_0.data):Option (Out sh164_0.data shb164_0.data shr164_0.data):=(t164_0 d.1.1 d.1.2.1 d.1.2.2.1 d.2.1.1).val
def l164_0 (d:sh164_0.data):Option (shb164_0.data ⊕ shr164_0.data):=itr s164_0 rounds d
def b164_0 (d:sh164_0.data):shb164_0.data:=outB shb164_0.dflt (l164_0 d)
def lc164_0:LoopC:=lcB sh164_0 shb164_0 shr164_0 l164_0 b164_0
theorem wk164_0 (x0:Int) (x2:Int) (x3:(List Int)) (b0_0:Int):Walks (qau (kf186 Proofs.Tryz.prog).orc Proofs.Tryz.prog 400 164 0 sh164_0 shb164_0 shr164_0 ((x0,x2,x3,()),(b0_0,()),())) (t164_0 x0 x2 x3 b0_0) [(bl 3 7,[0,2,4,0,6]),(bl 1 0,[2])] :=
  ⟨by kernel_rfl,by kernel_rfl,trivial⟩
theorem ok164_0_t (x0:Int) (x2:Int) (x3:(List Int)) (b0_0:Int):TrOk (BodyRuns Proofs.Tryz.prog (kf186 Proofs.Tryz.prog).orc 164 0 sh164_0 shb164_0 shr164_0 ((x0,x2,x3,()),(b0_0,()),())) (t164_0 x0 x2 x3 b0_0) :=
  Walks.ok (fun _ _ _=>BodyRuns.of) (wk164_0 x0 x2 x3 b0_0) (by kernel_rfl)
theorem ok164_0:qav Proofs.Tryz.prog 164 0 lc164_0:=qar (sh:=sh164_0) (shB:=shb164_0) (shR:=shr164_0) kf186_ok.base (T:=fun (d:sh164_0.data)=>t164_0 d.1.1 d.1.2.1 d.1.2.2.1 d.2.1.1) (by kernel_rfl) rfl (fun (d:sh164_0.data)=>ok164_0_t d.1.1 d.1.2.1 d.1.2.2.1 d.2.1.1) (fun _=>rfl)
def kl164_0 (P:Go.Program):Known:=(kf186 P).loop 164 0 lc164_0
theorem kl164_0_ok:KnownOk Proofs.Tryz.prog (kl164_0 Proofs.Tryz.prog):=kf186_ok.loop ok164_0
abbrev as164:List Ty:=[(.int .i64)]
abbrev rs164:List Ty:=[(.pair (.int .i64) (.pair (.slice (.int .i64)) .unit))]
def t164 (x0:Int):Tr (Tys.data rs164) :=
  Tr.test ((!leF (0:Int) x0:Bool))
    (Tr.test (qbk (l164_0 ((x0,((-1:Int),(([]:List Int),()))),(((0:Int),()),()))))
      (let r0:=b164_0 ((x0,((-1:Int),(([]:List Int),()))),(((0:Int),()),()));
      Tr.test (Option.isSome (f186 (r0.1.1,(r0.1.2.1,()))))
        (let r1:=g186 (r0.1.1,(r0.1.2.1,()));
        Tr.fin (((r1.1.1,(r1.1.2.1,())),())))
        (Tr.stop))
      (Tr.stop))
    (Tr.test (qbk (l164_0 ((x0,((1:Int),(([]:List Int),()))),(((0:Int),()),()))))
      (let r2:=b164_0 ((x0,((1:Int),(([]:List Int),()))),(((0:Int),()),()));
      Tr.test (Option.isSome (f186 (r2.1.1,(r2.1.2.1,()))))
        (let r3:=g186 (r2.1.1,(r2.1.2.1,()));
        Tr.fin (((r3.1.1,(r3.1.2.1,())),())))
        (Tr.stop))
      (Tr.stop))
def f164 (d:Tys.data as164):Option (Tys.data rs164):=(t164 d.1).val
def g164 (d:Tys.data as164):Tys.data rs164:=(f164 d).getD (Tys.dflt rs164)
def p164:PureC:=pcOf as164 rs164 f164 g164
theorem wk164 (x0:Int):Walks (runPure (kl164_0 Proofs.Tryz.prog).orc Proofs.Tryz.prog 400 164 as164 rs164 (x0,())) (t164 x0) [(bl 3 7,[2,1,4,6]),(bl 3 6,[2,1,4,6])] :=
  ⟨by kernel_rfl,by kernel_rfl,trivial⟩
theorem ok164_t (x0:Int):TrOk (PureRuns Proofs.Tryz.prog (kl164_0 Proofs.Tryz.prog).orc 164 as164 rs164 (x0,())) (t164 x0) :=
  Walks.ok (fun _ _ _=>PureRuns.of) (wk164 x0) (by kernel_rfl)
theorem ok164:PureOk Proofs.Tryz.prog 164 p164:=qab kl164_0_ok.base (T:=fun (d:Tys.data as164)=>t164 d.1) (by kernel_rfl) (fun (d:Tys.data as164)=>ok164_t d.1)
def kf164 (P:Go.Program):Known:=(kl164_0 P).func 164 p164
theorem kf164_ok:KnownOk Proofs.Tryz.prog (kf164 Proofs.Tryz.prog):=kl164_0_ok.func ok164
abbrev as202:List Ty:=[(.pair (.int .i64) (.pair (.slice (.int .i64)) .unit))]
abbrev rs202:List Ty:=[(.int .i64)]
def t202 (x0:Int) (x0':(List Int)):Tr (Tys.data rs202) :=
  Tr.fin ((x0,()))
def f202 (d:Tys.data as202):Option (Tys.data rs202):=(t202 d.1.1 d.1.2.1).val
def g202 (d:Tys.data as202):Tys.data rs202:=(f202 d).getD (Tys.dflt rs202)
def p202:PureC:=pcOf as202 rs202 f202 g202
theorem wk202 (x0:Int) (x0':(List Int)):Walks (runPure (kf164 Proofs.Tryz.prog).orc Proofs.Tryz.prog 400 202 as202 rs202 ((x0,x0',()),())) (t202 x0 x0') [(bl 0 0,[])] :=
  ⟨by kernel_rfl,trivial⟩
theorem ok202_t (x0:Int) (x0':(List Int)):TrOk (PureRuns Proofs.Tryz.prog (kf164 Proofs.Tryz.prog).orc 202 as202 rs202 ((x0,x0',()),())) (t202 x0 x0') :=
  Walks.ok (fun _ _ _=>PureRuns.of) (wk202 x0 x0') (by kernel_rfl)
theorem ok202:PureOk Proofs.Tryz.prog 202 p202:=qab kf164_ok.base (T:=fun (d:Tys.data as202)=>t202 d.1.1 d.1.2.1) (by kernel_rfl) (fun (d:Tys.data as202)=>ok202_t d.1.1 d.1.2.1)
def kf202 (P:Go.Program):Known:=(kf164 P).func 202 p202
theorem kf202_ok:KnownOk Proofs.Tryz.prog (kf202 Proofs.Tryz.prog):=kf164_ok.func ok202
abbrev as179:List Ty:=[(.pair (.int .i64) (.pair (.slice (.int .i64)) .unit))]
abbrev rs179:List Ty:=[(.pair (.int .i64) (.pair (.slice (.int .i64)) .unit))]
def t179 (x0:Int) (x0':(List Int)):Tr (Tys.data rs179) :=
  Tr.fin ((((Go.IntKind.wrap Go.IntKind.i64 ((0:Int) - x0):Int),(x0',())),()))
def f179 (d:Tys.data as179):Option (Tys.data rs179):=(t179 d.1.1 d.1.2.1).val
def g179 (d:Tys.data as179):Tys.data rs179:=(f179 d).getD (Tys.dflt rs179)
def p179:PureC:=pcOf as179 rs179 f179 g179
theorem wk179 (x0:Int) (x0':(List Int)):Walks (runPure (kf202 Proofs.Tryz.prog).orc Proofs.Tryz.prog 400 179 as179 rs179 ((x0,x0',()),())) (t179 x0 x0') [(bl 0 0,[])] :=
  ⟨by kernel_rfl,trivial⟩
theorem ok179_t (x0:Int) (x0':(List Int)):TrOk (PureRuns Proofs.Tryz.prog (kf202 Proofs.Tryz.prog).orc 179 as179 rs179 ((x0,x0',()),())) (t179 x0 x0') :=
  Walks.ok (fun _ _ _=>PureRuns.of) (wk179 x0 x0') (by kernel_rfl)
theorem ok179:PureOk Proofs.Tryz.prog 179 p179:=qab kf202_ok.base (T:=fun (d:Tys.data as179)=>t179 d.1.1 d.1.2.1) (by kernel_rfl) (fun (d:Tys.data as179)=>ok179_t d.1.1 d.1.2.1)
def kf179 (P:Go.Program):Known:=(kf202 P).func 179 p179
theorem kf179_ok:KnownOk Proofs.Tryz.prog (kf179 Proofs.Tryz.prog):=kf202_ok.func ok179
abbrev as212:List Ty:=[(.pair (.int .i64) (.pair (.slice (.int .i64)) .unit))]
abbrev rs212:List Ty:=[(.pair (.int .i64) (.pair (.slice (.int .i64)) .unit))]
def t212 (x0:Int) (x0':(List Int)):Tr (Tys.data rs212) :=
  Tr.test ((!leF (0:Int) x0:Bool))
    (Tr.test (Option.isSome (f179 ((x0,(x0',())),())))
      (let r0:=g179 ((x0,(x0',())),());
      Tr.fin (((r0.1.1,(r0.1.2.1,())),())))
      (Tr.stop))
    (Tr.fin (((x0,(x0',())),())))
def f212 (d:Tys.data as212):Option (Tys.data rs212):=(t212 d.1.1 d.1.2.1).val
def g212 (d:Tys.data as212):Tys.data rs212:=(f212 d).getD (Tys.dflt rs212)
def p212:PureC:=pcOf as212 rs212 f212 g212
theorem wk212 (x0:Int) (x0':(List Int)):Walks (runPure (kf179 Proofs.Tryz.prog).orc Proofs.Tryz.prog 400 212 as212 rs212 ((x0,x0',()),())) (t212 x0 x0') [(bl 2 3,[2,4]),(bl 1 0,[2])] :=
  ⟨by kernel_rfl,by kernel_rfl,trivial⟩
theorem ok212_t (x0:Int) (x0':(List Int)):TrOk (PureRuns Proofs.Tryz.prog (kf179 Proofs.Tryz.prog).orc 212 as212 rs212 ((x0,x0',()),())) (t212 x0 x0') :=
  Walks.ok (fun _ _ _=>PureRuns.of) (wk212 x0 x0') (by kernel_rfl)
theorem ok212:PureOk Proofs.Tryz.prog 212 p212:=qab kf179_ok.base (T:=fun (d:Tys.data as212)=>t212 d.1.1 d.1.2.1) (by kernel_rfl) (fun (d:Tys.data as212)=>ok212_t d.1.1 d.1.2.1)
def kf212 (P:Go.Program):Known:=(kf179 P).func 212 p212
theorem kf212_ok:KnownOk Proofs.Tryz.prog (kf212 Proofs.Tryz.prog):=kf179_ok.func ok212
abbrev sh167_2:Sh:={ n:=86,slots:=[2,3,4,5,6,7,8],pats:=[.ptr 0 2 0,.ptr 1 2 0,.ptr 2 2 0,.sli 3 1,.ty (.int .i64),.ty (.int .i64),.ty (.int .i64)],boxes:=[.row [.ty (.int .i64),.ty (.slice (.int .i64))],.row [.ty (.int .i64),.ty (.slice (.int .i64))],.row [.ty (.int .i64),.nil],.arr (.int .i64)] }
abbrev shb167_2:Sh:={ n:=86,slots:=[2,3,4,5,6,7],pats:=[.ptr 0 2 0,.ptr 1 2 0,.ptr 2 2 0,.sli 3 1,.ty (.int .i64),.ty (.int .i64)],boxes:=[.row [.ty (.int .i64),.ty (.slice (.int .i64))],.row [.ty (.int .i64),.ty (.slice (.int .i64))],.row [.ty (.int .i64),.nil],.arr (.int .i64)] }
abbrev shr167_2:Sh:={ n:=86,slots:=[],pats:=[],boxes:=[.row [.ty (.int .i64),.ty (.slice (.int .i64))],.row [.ty (.int .i64),.ty (.slice (.int .i64))],.row [.ty (.int .i64),.nil],.arr (.int .i64)] }
def t167_2 (x3n:Nat) (x3c:Nat) (x4:Int) (x5:Int) (x6:Int) (b0_0:Int) (b0_1:(List Int)) (b1_0:Int) (b1_1:(List Int)) (b2_0:Int) (b3:(List Int)):Tr (Out sh167_2.data shb167_2.data shr167_2.data) :=
  Tr.test ((!leF (↑(List.length b1_1):Int) x6:Bool))
    (Tr.test (decide ((0:Int) ≤ wrap64 (x4 + x6)) && decide (wrap64 (x4 + x6) < (↑x3n:Int)))
      (Tr.test ((Nat.ble ((0:Nat) + Int.toNat (wrap64 (x4 + x6)) + (1:Nat)) (List.length b3):Bool))
        (Tr.test ((decide ((0:Int) ≤ x4) && decide (x4 < (↑(List.length b0_1):Int)):Bool))
          (Tr.test ((decide ((0:Int) ≤ x6) && decide (x6 < (↑(List.length b1_1):Int)):Bool))
            (Tr.fin (.again (((x3n,x3c),(x4,((Go.IntKind.wrap Go.IntKind.i64 (Int.tdiv (wrap64 (wrap64 (List.getD b3 ((0:Nat) + Int.toNat (wrap64 (x4 + x6))) (0:Int) + wrap64 (List.getD b0_1 (Int.toNat x4) (0:Int) * List.getD b1_1 (Int.toNat x6) (0:Int))) + x5)) (1000000000:Int)):Int),((wrap64 (x6 + (1:Int)):Int),())))),((b0_0,(b0_1,())),((b1_0,(b1_1,())),((b2_0,()),((List.set b3 ((0:Nat) + Int.toNat (wrap64 (x4 + x6))) (Int.tmod (wrap64 (wrap64 (List.getD b3 ((0:Nat) + Int.toNat (wrap64 (x4 + x6))) (0:Int) + wrap64 (List.getD b0_1 (Int.toNat x4) (0:Int) * List.getD b1_1 (Int.toNat x6) (0:Int))) + x5)) (1000000000:Int)):List Int),())))))))
            (Tr.stop))
          (Tr.stop))
        (Tr.stop))
      (Tr.stop))
    (Tr.fin (.brk (((x3n,x3c),(x4,(x5,()))),((b0_0,(b0_1,())),((b1_0,(b1_1,())),((b2_0,()),(b3,())))))))
def s167_2 (d:sh167_2.data):Option (Out sh167_2.data shb167_2.data shr167_2.data):=(t167_2 d.1.1.1 d.1.1.2 d.1.2.1 d.1.2.2.1 d.1.2.2.2.1 d.2.1.1 d.2.1.2.1 d.2.2.1.1 d.2.2.1.2.1 d.2.2.2.1.1 d.2.2.2.2.1).val
def l167_2 (d:sh167_2.data):Option (shb167_2.data ⊕ shr167_2.data):=itr s167_2 rounds d
def b167_2 (d:sh167_2.data):shb167_2.data:=outB shb167_2.dflt (l167_2 d)
def lc167_2:LoopC:=lcB sh167_2 shb167_2 shr167_2 l167_2 b167_2
theorem wk167_2 (x3n:Nat) (x3c:Nat) (x4:Int) (x5:Int) (x6:Int) (b0_0:Int) (b0_1:(List Int)) (b1_0:Int) (b1_1:(List Int)) (b2_0:Int) (b3:(List Int)):Walks (qau (kf212 Proofs.Tryz.prog).orc Proofs.Tryz.prog 400 167 2 sh167_2 shb167_2 shr167_2 (((x3n,x3c),x4,x5,x6,()),(b0_0,b0_1,()),(b1_0,b1_1,()),(b2_0,()),b3,())) (t167_2 x3n x3c x4 x5 x6 b0_0 b0_1 b1_0 b1_1 b2_0 b3) [(bl 5 31,[6,8,0,0,2,4,6,8,10]),(bl 1 0,[2])] :=
  ⟨by kernel_rfl,by kernel_rfl,trivial⟩
theorem ok167_2_t (x3n:Nat) (x3c:Nat) (x4:Int) (x5:Int) (x6:Int) (b0_0:Int) (b0_1:(List Int)) (b1_0:Int) (b1_1:(List Int)) (b2_0:Int) (b3:(List Int)):TrOk (BodyRuns Proofs.Tryz.prog (kf212 Proofs.Tryz.prog).orc 167 2 sh167_2 shb167_2 shr167_2 (((x3n,x3c),x4,x5,x6,()),(b0_0,b0_1,()),(b1_0,b1_1,()),(b2_0,()),b3,())) (t167_2 x3n x3c x4 x5 x6 b0_0 b0_1 b1_0 b1_1 b2_0 b3) :=
  Walks.ok (fun _ _ _=>BodyRuns.of) (wk167_2 x3n x3c x4 x5 x6 b0_0 b0_1 b1_0 b1_1 b2_0 b3) (by kernel_rfl)
theorem ok167_2:qav Proofs.Tryz.prog 167 2 lc167_2:=qar (sh:=sh167_2) (shB:=shb167_2) (shR:=shr167_2) kf212_ok.base (T:=fun (d:sh167_2.data)=>t167_2 d.1.1.1 d.1.1.2 d.1.2.1 d.1.2.2.1 d.1.2.2.2.1 d.2.1.1 d.2.1.2.1 d.2.2.1.1 d.2.2.1.2.1 d.2.2.2.1.1 d.2.2.2.2.1) (by kernel_rfl) rfl (fun (d:sh167_2.data)=>ok167_2_t d.1.1.1 d.1.1.2 d.1.2.1 d.1.2.2.1 d.1.2.2.2.1 d.2.1.1 d.2.1.2.1 d.2.2.1.1 d.2.2.1.2.1 d.2.2.2.1.1 d.2.2.2.2.1) (fun _=>rfl)
def kl167_2 (P:Go.Program):Known:=(kf212 P).loop 167 2 lc167_2
theorem kl167_2_ok:KnownOk Proofs.Tryz.prog (kl167_2 Proofs.Tryz.prog):=kf212_ok.loop ok167_2
abbrev sh167_0:Sh:={ n:=86,slots:=[2,3,4,5,6],pats:=[.ptr 0 2 0,.ptr 1 2 0,.ptr 2 2 0,.sli 3 1,.ty (.int .i64)],boxes:=[.row [.ty (.int .i64),.ty (.slice (.int .i64))],.row [.ty (.int .i64),.ty (.slice (.int .i64))],.row [.ty (.int .i64),.nil],.arr (.int .i64)] }
abbrev shb167_0:Sh:={ n:=86,slots:=[2,3,4,5],pats:=[.ptr 0 2 0,.ptr 1 2 0,.ptr 2 2 0,.sli 3 1],boxes:=[.row [.ty (.int .i64),.ty (.slice (.int .i64))],.row [.ty (.int .i64),.ty (.slice (.int .i64))],.row [.ty (.int .i64),.nil],.arr (.int .i64)] }
abbrev shr167_0:Sh:={ n:=86,slots:=[],pats:=[],boxes:=[.row [.ty (.int .i64),.ty (.slice (.int .i64))],.row [.ty (.int .i64),.ty (.slice (.int .i64))],.row [.ty (.int .i64),.nil],.arr (.int .i64)] }
def t167_0 (x3n:Nat) (x3c:Nat) (x4:Int) (b0_0:Int) (b0_1:(List Int)) (b1_0:Int) (b1_1:(List Int)) (b2_0:Int) (b3:(List Int)):Tr (Out sh167_0.data shb167_0.data shr167_0.data) :=
  Tr.test ((!leF (↑(List.length b0_1):Int) x4:Bool))
    (Tr.test (qbk (l167_2 (((x3n,x3c),(x4,((0:Int),((0:Int),())))),((b0_0,(b0_1,())),((b1_0,(b1_1,())),((b2_0,()),(b3,())))))))
      (let r0:=b167_2 (((x3n,x3c),(x4,((0:Int),((0:Int),())))),((b0_0,(b0_1,())),((b1_0,(b1_1,())),((b2_0,()),(b3,())))));
      Tr.test ((decide ((0:Int) ≤ wrap64 (r0.1.2.1 + (↑(List.length r0.2.2.1.2.1):Int))) && decide (wrap64 (r0.1.2.1 + (↑(List.length r0.2.2.1.2.1):Int)) < (↑r0.1.1.1:Int)):Bool))
        (Tr.test ((Nat.ble ((0:Nat) + Int.toNat (wrap64 (r0.1.2.1 + (↑(List.length r0.2.2.1.2.1):Int))) + (1:Nat)) (List.length r0.2.2.2.2.1):Bool))
          (Tr.fin (.again (((r0.1.1.1,r0.1.1.2),((wrap64 (r0.1.2.1 + (1:Int)):Int),())),((r0.2.1.1,(r0.2.1.2.1,())),((r0.2.2.1.1,(r0.2.2.1.2.1,())),((r0.2.2.2.1.1,()),((List.set r0.2.2.2.2.1 ((0:Nat) + Int.toNat (wrap64 (r0.1.2.1 + (↑(List.length r0.2.2.1.2.1):Int)))) (wrap64 (List.getD r0.2.2.2.2.1 ((0:Nat) + Int.toNat (wrap64 (r0.1.2.1 + (↑(List.length r0.2.2.1.2.1):Int)))) (0:Int) + r0.1.2.2.1)):List Int),())))))))
          (Tr.stop))
        (Tr.stop))
      (Tr.stop))
    (Tr.fin (.brk (((x3n,x3c),()),((b0_0,(b0_1,())),((b1_0,(b1_1,())),((b2_0,()),(b3,())))))))
def s167_0 (d:sh167_0.data):Option (Out sh167_0.data shb167_0.data shr167_0.data):=(t167_0 d.1.1.1 d.1.1.2 d.1.2.1 d.2.1.1 d.2.1.2.1 d.2.2.1.1 d.2.2.1.2.1 d.2.2.2.1.1 d.2.2.2.2.1).val
def l167_0 (d:sh167_0.data):Option (shb167_0.data ⊕ shr167_0.data):=itr s167_0 rounds d
def b167_0 (d:sh167_0.data):shb167_0.data:=outB shb167_0.dflt (l167_0 d)
def lc167_0:LoopC:=lcB sh167_0 shb167_0 shr167_0 l167_0 b167_0
theorem wk167_0 (x3n:Nat) (x3c:Nat) (x4:Int) (b0_0:Int) (b0_1:(List Int)) (b1_0:Int) (b1_1:(List Int)) (b2_0:Int) (b3:(List Int)):Walks (qau (kl167_2 Proofs.Tryz.prog).orc Proofs.Tryz.prog 400 167 0 sh167_0 shb167_0 shr167_0 (((x3n,x3c),x4,()),(b0_0,b0_1,()),(b1_0,b1_1,()),(b2_0,()),b3,())) (t167_0 x3n x3c x4 b0_0 b0_1 b1_0 b1_1 b2_0 b3) [(bl 4 15,[2,4,2,4,1,6,8]),(bl 1 0,[2])] :=
  ⟨by kernel_rfl,by kernel_rfl,trivial⟩
theorem ok167_0_t (x3n:Nat) (x3c:Nat) (x4:Int) (b0_0:Int) (b0_1:(List Int)) (b1_0:Int) (b1_1:(List Int)) (b2_0:Int) (b3:(List Int)):TrOk (BodyRuns Proofs.Tryz.prog (kl167_2 Proofs.Tryz.prog).orc 167 0 sh167_0 shb167_0 shr167_0 (((x3n,x3c),x4,()),(b0_0,b0_1,()),(b1_0,b1_1,()),(b2_0,()),b3,())) (t167_0 x3n x3c x4 b0_0 b0_1 b1_0 b1_1 b2_0 b3) :=
  Walks.ok (fun _ _ _=>BodyRuns.of) (wk167_0 x3n x3c x4 b0_0 b0_1 b1_0 b1_1 b2_0 b3) (by kernel_rfl)
theorem ok167_0:qav Proofs.Tryz.prog 167 0 lc167_0:=qar (sh:=sh167_0) (shB:=shb167_0) (shR:=shr167_0) kl167_2_ok.base (T:=fun (d:sh167_0.data)=>t167_0 d.1.1.1 d.1.1.2 d.1.2.1 d.2.1.1 d.2.1.2.1 d.2.2.1.1 d.2.2.1.2.1 d.2.2.2.1.1 d.2.2.2.2.1) (by kernel_rfl) rfl (fun (d:sh167_0.data)=>ok167_0_t d.1.1.1 d.1.1.2 d.1.2.1 d.2.1.1 d.2.1.2.1 d.2.2.1.1 d.2.2.1.2.1 d.2.2.2.1.1 d.2.2.2.2.1) (fun _=>rfl)
def kl167_0 (P:Go.Program):Known:=(kl167_2 P).loop 167 0 lc167_0
theorem kl167_0_ok:KnownOk Proofs.Tryz.prog (kl167_0 Proofs.Tryz.prog):=kl167_2_ok.loop ok167_0
abbrev as167:List Ty:=[(.pair (.int .i64) (.pair (.slice (.int .i64)) .unit)),(.pair (.int .i64) (.pair (.slice (.int .i64)) .unit))]
abbrev rs167:List Ty:=[(.pair (.int .i64) (.pair (.slice (.int .i64)) .unit))]
def t167 (x0:Int) (x0':(List Int)) (x1:Int) (x1':(List Int)):Tr (Tys.data rs167) :=
  Tr.test ((decide ((0:Int) ≤ wrap64 (wrap64 ((↑(List.length x0'):Int) + (↑(List.length x1'):Int)) + (1:Int))) && decide (wrap64 (wrap64 ((↑(List.length x0'):Int) + (↑(List.length x1'):Int)) + (1:Int)) ≤ wrap64 (wrap64 ((↑(List.length x0'):Int) + (↑(List.length x1'):Int)) + (1:Int))) && decide ((8:Int) * wrap64 (wrap64 ((↑(List.length x0'):Int) + (↑(List.length x1'):Int)) + (1:Int)) ≤ (281474976710656:Int)) && decide (wrap64 (wrap64 ((↑(List.length x0'):Int) + (↑(List.length x1'):Int)) + (1:Int)) ≤ (281474976710656:Int)):Bool))
    (Tr.test (qbk (l167_0 ((((Int.toNat (wrap64 (wrap64 ((↑(List.length x0'):Int) + (↑(List.length x1'):Int)) + (1:Int))):Nat),(Int.toNat (wrap64 (wrap64 ((↑(List.length x0'):Int) + (↑(List.length x1'):Int)) + (1:Int))):Nat)),((0:Int),())),((x0,(x0',())),((x1,(x1',())),(((0:Int),()),((List.replicate (Int.toNat (wrap64 (wrap64 ((↑(List.length x0'):Int) + (↑(List.length x1'):Int)) + (1:Int)))) (0:Int):List Int),())))))))
      (let r0:=b167_0 ((((Int.toNat (wrap64 (wrap64 ((↑(List.length x0'):Int) + (↑(List.length x1'):Int)) + (1:Int))):Nat),(Int.toNat (wrap64 (wrap64 ((↑(List.length x0'):Int) + (↑(List.length x1'):Int)) + (1:Int))):Nat)),((0:Int),())),((x0,(x0',())),((x1,(x1',())),(((0:Int),()),((List.replicate (Int.toNat (wrap64 (wrap64 ((↑(List.length x0'):Int) + (↑(List.length x1'):Int)) + (1:Int)))) (0:Int):List Int),())))));
      Tr.test ((Nat.beq r0.1.1.1 (List.length r0.2.2.2.2.1):Bool))
        (Tr.test (Option.isSome (f186 ((wrap64 (r0.2.1.1 * r0.2.2.1.1):Int),(r0.2.2.2.2.1,()))))
          (let r1:=g186 ((wrap64 (r0.2.1.1 * r0.2.2.1.1):Int),(r0.2.2.2.2.1,()));
          Tr.fin (((r1.1.1,(r1.1.2.1,())),())))
          (Tr.stop))
        (Tr.test ((Nat.ble r0.1.1.1 (List.length r0.2.2.2.2.1):Bool))
          (Tr.test (Option.isSome (f186 ((wrap64 (r0.2.1.1 * r0.2.2.1.1):Int),((List.take r0.1.1.1 r0.2.2.2.2.1:List Int),()))))
            (let r2:=g186 ((wrap64 (r0.2.1.1 * r0.2.2.1.1):Int),((List.take r0.1.1.1 r0.2.2.2.2.1:List Int),()));
            Tr.fin (((r2.1.1,(r2.1.2.1,())),())))
            (Tr.stop))
          (Tr.stop /- a known call [op 6 of region 12 of F167] -/)))
      (Tr.stop))
    (Tr.stop)
def f167 (d:Tys.data as167):Option (Tys.data rs167):=(t167 d.1.1 d.1.2.1 d.2.1.1 d.2.1.2.1).val
def g167 (d:Tys.data as167):Tys.data rs167:=(f167 d).getD (Tys.dflt rs167)
def p167:PureC:=pcOf as167 rs167 f167 g167
theorem wk167 (x0:Int) (x0':(List Int)) (x1:Int) (x1':(List Int)):Walks (runPure (kl167_0 Proofs.Tryz.prog).orc Proofs.Tryz.prog 400 167 as167 rs167 ((x0,x0',()),(x1,x1',()),())) (t167 x0 x0' x1 x1') [(bl 4 15,[2,4,1,6,8]),(bl 5 27,[2,4,6,1,8,10])] :=
  ⟨by kernel_rfl,by kernel_rfl,trivial⟩
theorem ok167_t (x0:Int) (x0':(List Int)) (x1:Int) (x1':(List Int)):TrOk (PureRuns Proofs.Tryz.prog (kl167_0 Proofs.Tryz.prog).orc 167 as167 rs167 ((x0,x0',()),(x1,x1',()),())) (t167 x0 x0' x1 x1') :=
  Walks.ok (fun _ _ _=>PureRuns.of) (wk167 x0 x0' x1 x1') (by kernel_rfl)
theorem ok167:PureOk Proofs.Tryz.prog 167 p167:=qab kl167_0_ok.base (T:=fun (d:Tys.data as167)=>t167 d.1.1 d.1.2.1 d.2.1.1 d.2.1.2.1) (by kernel_rfl) (fun (d:Tys.data as167)=>ok167_t d.1.1 d.1.2.1 d.2.1.1 d.2.1.2.1)
def kf167 (P:Go.Program):Known:=(kl167_0 P).func 167 p167
theorem kf167_ok:KnownOk Proofs.Tryz.prog (kf167 Proofs.Tryz.prog):=kl167_0_ok.func ok167
abbrev sh200_0:Sh:={ n:=41,slots:=[0,1,5],pats:=[.ty (.slice (.int .i64)),.ty (.slice (.int .i64)),.ty (.int .i64)],boxes:=[] }
abbrev shb200_0:Sh:={ n:=41,slots:=[],pats:=[],boxes:=[] }
abbrev shr200_0:Sh:={ n:=41,slots:=[4],pats:=[.ty (.int .i64)],boxes:=[] }
def t200_0 (x0:(List Int)) (x1:(List Int)) (x2:Int):Tr (Out sh200_0.data shb200_0.data shr200_0.data) :=
  Tr.test ((leF (0:Int) x2:Bool))
    (Tr.test (decide ((0:Int) ≤ x2) && decide (x2 < (↑(List.length x0):Int)))
      (Tr.test ((decide ((0:Int) ≤ x2) && decide (x2 < (↑(List.length x1):Int)):Bool))
        (Tr.test ((!leF (List.getD x1 (Int.toNat x2) (0:Int)) (List.getD x0 (Int.toNat x2) (0:Int)):Bool))
          (Tr.fin (.ret (((-1:Int),()),())))
          (Tr.test ((!leF (List.getD x0 (Int.toNat x2) (0:Int)) (List.getD x1 (Int.toNat x2) (0:Int)):Bool))
            (Tr.fin (.ret (((1:Int),()),())))
            (Tr.fin (.again ((x0,(x1,((wrap64 (x2 - (1:Int)):Int),()))),())))))
        (Tr.stop))
      (Tr.stop))
    (Tr.fin (.brk ((),())))
def s200_0 (d:sh200_0.data):Option (Out sh200_0.data shb200_0.data shr200_0.data):=(t200_0 d.1.1 d.1.2.1 d.1.2.2.1).val
def l200_0 (d:sh200_0.data):Option (shb200_0.data ⊕ shr200_0.data):=itr s200_0 rounds d
def b200_0 (d:sh200_0.data):shb200_0.data:=outB shb200_0.dflt (l200_0 d)
def r200_0 (d:sh200_0.data):shr200_0.data:=outR shr200_0.dflt (l200_0 d)
def lc200_0:LoopC:=lcOf sh200_0 shb200_0 shr200_0 l200_0 b200_0 r200_0
theorem wk200_0 (x0:(List Int)) (x1:(List Int)) (x2:Int):Walks (qau (kf167 Proofs.Tryz.prog).orc Proofs.Tryz.prog 400 200 0 sh200_0 shb200_0 shr200_0 ((x0,x1,x2,()),())) (t200_0 x0 x1 x2) [(bl 4 15,[2,4,6,8]),(bl 5 23,[2,6,8,4,6,8,10]),(bl 5 7,[2,6,8,4,6,8,10]),(bl 1 0,[2])] :=
  ⟨by kernel_rfl,by kernel_rfl,by kernel_rfl,by kernel_rfl,trivial⟩
theorem ok200_0_t (x0:(List Int)) (x1:(List Int)) (x2:Int):TrOk (BodyRuns Proofs.Tryz.prog (kf167 Proofs.Tryz.prog).orc 200 0 sh200_0 shb200_0 shr200_0 ((x0,x1,x2,()),())) (t200_0 x0 x1 x2) :=
  Walks.ok (fun _ _ _=>BodyRuns.of) (wk200_0 x0 x1 x2) (by kernel_rfl)
theorem ok200_0:qav Proofs.Tryz.prog 200 0 lc200_0:=qdT (sh:=sh200_0) (shB:=shb200_0) (shR:=shr200_0) kf167_ok.base (T:=fun (d:sh200_0.data)=>t200_0 d.1.1 d.1.2.1 d.1.2.2.1) (by kernel_rfl) rfl (fun (d:sh200_0.data)=>ok200_0_t d.1.1 d.1.2.1 d.1.2.2.1) (fun _=>rfl)
def kl200_0 (P:Go.Program):Known:=(kf167 P).loop 200 0 lc200_0
theorem kl200_0_ok:KnownOk Proofs.Tryz.prog (kl200_0 Proofs.Tryz.prog):=kf167_ok.loop ok200_0
abbrev as200:List Ty:=[(.slice (.int .i64)),(.slice (.int .i64))]
abbrev rs200:List Ty:=[(.int .i64)]
def t200 (x0:(List Int)) (x1:(List Int)):Tr (Tys.data rs200) :=
  Tr.test ((!eqF (↑(List.length x0):Int) (↑(List.length x1):Int):Bool))
    (Tr.test (!leF (↑(List.length x1):Int) (↑(List.length x0):Int))
      (Tr.fin (((-1:Int),())))
      (Tr.fin (((1:Int),()))))
    (Tr.test (Option.isSome (l200_0 ((x0,(x1,((wrap64 ((↑(List.length x0):Int) - (1:Int)):Int),()))),())))
      (Tr.test (qe6 (l200_0 ((x0,(x1,((wrap64 ((↑(List.length x0):Int) - (1:Int)):Int),()))),())))
        (let r0:=r200_0 ((x0,(x1,((wrap64 ((↑(List.length x0):Int) - (1:Int)):Int),()))),());
        Tr.fin ((r0.1.1,())))
        (Tr.fin (((0:Int),()))))
      (Tr.stop))
def f200 (d:Tys.data as200):Option (Tys.data rs200):=(t200 d.1 d.2.1).val
def g200 (d:Tys.data as200):Tys.data rs200:=(f200 d).getD (Tys.dflt rs200)
def p200:PureC:=pcOf as200 rs200 f200 g200
theorem wk200 (x0:(List Int)) (x1:(List Int)):Walks (runPure (kl200_0 Proofs.Tryz.prog).orc Proofs.Tryz.prog 400 200 as200 rs200 (x0,x1,())) (t200 x0 x1) [(bl 2 3,[2,4]),(bl 2 1,[2,4]),(bl 3 6,[2,4,6]),(bl 3 2,[2,4,6])] :=
  ⟨by kernel_rfl,by kernel_rfl,by kernel_rfl,by kernel_rfl,trivial⟩
theorem ok200_t (x0:(List Int)) (x1:(List Int)):TrOk (PureRuns Proofs.Tryz.prog (kl200_0 Proofs.Tryz.prog).orc 200 as200 rs200 (x0,x1,())) (t200 x0 x1) :=
  Walks.ok (fun _ _ _=>PureRuns.of) (wk200 x0 x1) (by kernel_rfl)
theorem ok200:PureOk Proofs.Tryz.prog 200 p200:=qab kl200_0_ok.base (T:=fun (d:Tys.data as200)=>t200 d.1 d.2.1) (by kernel_rfl) (fun (d:Tys.data as200)=>ok200_t d.1 d.2.1)
def kf200 (P:Go.Program):Known:=(kl200_0 P).func 200 p200
theorem kf200_ok:KnownOk Proofs.Tryz.prog (kf200 Proofs.Tryz.prog):=kl200_0_ok.func ok200
abbrev as211:List Ty:=[(.slice (.int .i64)),(.int .i64)]
abbrev rs211:List Ty:=[(.int .i64)]
def t211 (x0:(List Int)) (x1:Int):Tr (Tys.data rs211) :=
  Tr.test ((!leF (↑(List.length x0):Int) x1:Bool))
    (Tr.test (decide ((0:Int) ≤ x1) && decide (x1 < (↑(List.length x0):Int)))
      (Tr.fin (((List.getD x0 (Int.toNat x1) (0:Int):Int),())))
      (Tr.stop))
    (Tr.fin (((0:Int),())))
def f211 (d:Tys.data as211):Option (Tys.data rs211):=(t211 d.1 d.2.1).val
def g211 (d:Tys.data as211):Tys.data rs211:=(f211 d).getD (Tys.dflt rs211)
def p211:PureC:=pcOf as211 rs211 f211 g211
theorem wk211 (x0:(List Int)) (x1:Int):Walks (runPure (kf200 Proofs.Tryz.prog).orc Proofs.Tryz.prog 400 211 as211 rs211 (x0,x1,())) (t211 x0 x1) [(bl 2 3,[2,4]),(bl 1 0,[2])] :=
  ⟨by kernel_rfl,by kernel_rfl,trivial⟩
theorem ok211_t (x0:(List Int)) (x1:Int):TrOk (PureRuns Proofs.Tryz.prog (kf200 Proofs.Tryz.prog).orc 211 as211 rs211 (x0,x1,())) (t211 x0 x1) :=
  Walks.ok (fun _ _ _=>PureRuns.of) (wk211 x0 x1) (by kernel_rfl)
theorem ok211:PureOk Proofs.Tryz.prog 211 p211:=qab kf200_ok.base (T:=fun (d:Tys.data as211)=>t211 d.1 d.2.1) (by kernel_rfl) (fun (d:Tys.data as211)=>ok211_t d.1 d.2.1)
def kf211 (P:Go.Program):Known:=(kf200 P).func 211 p211
theorem kf211_ok:KnownOk Proofs.Tryz.prog (kf211 Proofs.Tryz.prog):=kf200_ok.func ok211
abbrev sh201_0:Sh:={ n:=35,slots:=[0,1,5,6,7],pats:=[.ty (.slice (.int .i64)),.ty (.slice (.int .i64)),.aco (.int .i64),.ty (.int .i64),.ty (.int .i64)],boxes:=[] }
abbrev shb201_0:Sh:={ n:=35,slots:=[5],pats:=[.aco (.int .i64)],boxes:=[] }
abbrev shr201_0:Sh:={ n:=35,slots:=[],pats:=[],boxes:=[] }
def t201_0 (x0:(List Int)) (x1:(List Int)) (x2:(List Int)) (x3:Int) (x4:Int):Tr (Out sh201_0.data shb201_0.data shr201_0.data) :=
  Tr.test ((!leF (↑(List.length x0):Int) x4:Bool))
    (Tr.test (decide ((0:Int) ≤ x4) && decide (x4 < (↑(List.length x0):Int)))
      (Tr.test (Option.isSome (f211 (x1,(x4,()))))
        (let r0:=g211 (x1,(x4,()));
        Tr.test ((!leF (0:Int) (wrap64 (wrap64 (List.getD x0 (Int.toNat x4) (0:Int) - r0.1) - x3)):Bool))
          (Tr.test ((Nat.ble (((2:Nat) * (List.length x2 + (1:Nat)) + (192:Nat)) * (8:Nat)) (281474976710656:Nat) && Nat.ble (List.length x2 + (1:Nat)) (281474976710656:Nat):Bool))
            (Tr.fin (.again ((x0,(x1,((x2++[wrap64 (wrap64 (wrap64 (List.getD x0 (Int.toNat x4) (0:Int) - r0.1) - x3) + (1000000000:Int))]:List Int),((1:Int),((wrap64 (x4 + (1:Int)):Int),()))))),())))
            (Tr.stop))
          (Tr.test ((Nat.ble (((2:Nat) * (List.length x2 + (1:Nat)) + (192:Nat)) * (8:Nat)) (281474976710656:Nat) && Nat.ble (List.length x2 + (1:Nat)) (281474976710656:Nat):Bool))
            (Tr.fin (.again ((x0,(x1,((x2++[wrap64 (wrap64 (List.getD x0 (Int.toNat x4) (0:Int) - r0.1) - x3)]:List Int),((0:Int),((wrap64 (x4 + (1:Int)):Int),()))))),())))
            (Tr.stop)))
        (Tr.stop))
      (Tr.stop))
    (Tr.fin (.brk ((x2,()),())))
def s201_0 (d:sh201_0.data):Option (Out sh201_0.data shb201_0.data shr201_0.data):=(t201_0 d.1.1 d.1.2.1 d.1.2.2.1 d.1.2.2.2.1 d.1.2.2.2.2.1).val
def l201_0 (d:sh201_0.data):Option (shb201_0.data ⊕ shr201_0.data):=itr s201_0 rounds d
def b201_0 (d:sh201_0.data):shb201_0.data:=outB shb201_0.dflt (l201_0 d)
def lc201_0:LoopC:=lcB sh201_0 shb201_0 shr201_0 l201_0 b201_0
theorem wk201_0 (x0:(List Int)) (x1:(List Int)) (x2:(List Int)) (x3:Int) (x4:Int):Walks (qau (kf211 Proofs.Tryz.prog).orc Proofs.Tryz.prog 400 201 0 sh201_0 shb201_0 shr201_0 ((x0,x1,x2,x3,x4,()),())) (t201_0 x0 x1 x2 x3 x4) [(bl 5 31,[2,4,6,8,10]),(bl 5 23,[2,4,6,8,10]),(bl 1 0,[2])] :=
  ⟨by kernel_rfl,by kernel_rfl,by kernel_rfl,trivial⟩
theorem ok201_0_t (x0:(List Int)) (x1:(List Int)) (x2:(List Int)) (x3:Int) (x4:Int):TrOk (BodyRuns Proofs.Tryz.prog (kf211 Proofs.Tryz.prog).orc 201 0 sh201_0 shb201_0 shr201_0 ((x0,x1,x2,x3,x4,()),())) (t201_0 x0 x1 x2 x3 x4) :=
  Walks.ok (fun _ _ _=>BodyRuns.of) (wk201_0 x0 x1 x2 x3 x4) (by kernel_rfl)
theorem ok201_0:qav Proofs.Tryz.prog 201 0 lc201_0:=qar (sh:=sh201_0) (shB:=shb201_0) (shR:=shr201_0) kf211_ok.base (T:=fun (d:sh201_0.data)=>t201_0 d.1.1 d.1.2.1 d.1.2.2.1 d.1.2.2.2.1 d.1.2.2.2.2.1) (by kernel_rfl) rfl (fun (d:sh201_0.data)=>ok201_0_t d.1.1 d.1.2.1 d.1.2.2.1 d.1.2.2.2.1 d.1.2.2.2.2.1) (fun _=>rfl)
def kl201_0 (P:Go.Program):Known:=(kf211 P).loop 201 0 lc201_0
theorem kl201_0_ok:KnownOk Proofs.Tryz.prog (kl201_0 Proofs.Tryz.prog):=kf211_ok.loop ok201_0
abbrev as201:List Ty:=[(.slice (.int .i64)),(.slice (.int .i64))]
abbrev rs201:List Ty:=[(.slice (.int .i64))]
def t201 (x0:(List Int)) (x1:(List Int)):Tr (Tys.data rs201) :=
  Tr.test (qbk (l201_0 ((x0,(x1,(([]:List Int),((0:Int),((0:Int),()))))),())))
    (let r0:=b201_0 ((x0,(x1,(([]:List Int),((0:Int),((0:Int),()))))),());
    Tr.test (Option.isSome (f199 (r0.1.1,())))
      (let r1:=g199 (r0.1.1,());
      Tr.fin ((r1.1,())))
      (Tr.stop))
    (Tr.stop)
def f201 (d:Tys.data as201):Option (Tys.data rs201):=(t201 d.1 d.2.1).val
def g201 (d:Tys.data as201):Tys.data rs201:=(f201 d).getD (Tys.dflt rs201)
def p201:PureC:=pcOf as201 rs201 f201 g201
theorem wk201 (x0:(List Int)) (x1:(List Int)):Walks (runPure (kl201_0 Proofs.Tryz.prog).orc Proofs.Tryz.prog 400 201 as201 rs201 (x0,x1,())) (t201 x0 x1) [(bl 2 3,[2,1,4])] :=
  ⟨by kernel_rfl,trivial⟩
theorem ok201_t (x0:(List Int)) (x1:(List Int)):TrOk (PureRuns Proofs.Tryz.prog (kl201_0 Proofs.Tryz.prog).orc 201 as201 rs201 (x0,x1,())) (t201 x0 x1) :=
  Walks.ok (fun _ _ _=>PureRuns.of) (wk201 x0 x1) (by kernel_rfl)
theorem ok201:PureOk Proofs.Tryz.prog 201 p201:=qab kl201_0_ok.base (T:=fun (d:Tys.data as201)=>t201 d.1 d.2.1) (by kernel_rfl) (fun (d:Tys.data as201)=>ok201_t d.1 d.2.1)
def kf201 (P:Go.Program):Known:=(kl201_0 P).func 201 p201
theorem kf201_ok:KnownOk Proofs.Tryz.prog (kf201 Proofs.Tryz.prog):=kl201_0_ok.func ok201
abbrev sh204_0:Sh:={ n:=42,slots:=[0,1,5,6,7],pats:=[.ty (.slice (.int .i64)),.ty (.slice (.int .i64)),.aco (.int .i64),.ty (.int .i64),.ty (.int .i64)],boxes:=[] }
abbrev shb204_0:Sh:={ n:=42,slots:=[5],pats:=[.aco (.int .i64)],boxes:=[] }
abbrev shr204_0:Sh:={ n:=42,slots:=[],pats:=[],boxes:=[] }
def t204_0 (x0:(List Int)) (x1:(List Int)) (x2:(List Int)) (x3:Int) (x4:Int):Tr (Out sh204_0.data shb204_0.data shr204_0.data) :=
  Tr.test ((!leF (↑(List.length x0):Int) x4:Bool))
    (Tr.test (Option.isSome (f211 (x0,(x4,()))))
      (Tr.test (Option.isSome (f211 (x1,(x4,()))))
        (Tr.test ((Nat.ble (((2:Nat) * (List.length x2 + (1:Nat)) + (192:Nat)) * (8:Nat)) (281474976710656:Nat) && Nat.ble (List.length x2 + (1:Nat)) (281474976710656:Nat):Bool))
          (let r0:=g211 (x0,(x4,()));
          let r1:=g211 (x1,(x4,()));
          Tr.fin (.again ((x0,(x1,((x2++[Int.tmod (wrap64 (wrap64 (r0.1 + r1.1) + x3)) (1000000000:Int)]:List Int),((Go.IntKind.wrap Go.IntKind.i64 (Int.tdiv (wrap64 (wrap64 (r0.1 + r1.1) + x3)) (1000000000:Int)):Int),((wrap64 (x4 + (1:Int)):Int),()))))),())))
          (Tr.stop))
        (Tr.stop))
      (Tr.stop))
    (Tr.test (!leF (↑(List.length x1):Int) x4)
      (Tr.test (Option.isSome (f211 (x0,(x4,()))))
        (Tr.test (Option.isSome (f211 (x1,(x4,()))))
          (Tr.test ((Nat.ble (((2:Nat) * (List.length x2 + (1:Nat)) + (192:Nat)) * (8:Nat)) (281474976710656:Nat) && Nat.ble (List.length x2 + (1:Nat)) (281474976710656:Nat):Bool))
            (let r0:=g211 (x0,(x4,()));
            let r1:=g211 (x1,(x4,()));
            Tr.fin (.again ((x0,(x1,((x2++[Int.tmod (wrap64 (wrap64 (r0.1 + r1.1) + x3)) (1000000000:Int)]:List Int),((Go.IntKind.wrap Go.IntKind.i64 (Int.tdiv (wrap64 (wrap64 (r0.1 + r1.1) + x3)) (1000000000:Int)):Int),((wrap64 (x4 + (1:Int)):Int),()))))),())))
            (Tr.stop))
          (Tr.stop))
        (Tr.stop))
      (Tr.test ((!leF x3 0:Bool))
        (Tr.test (Option.isSome (f211 (x0,(x4,()))))
          (Tr.test (Option.isSome (f211 (x1,(x4,()))))
            (Tr.test ((Nat.ble (((2:Nat) * (List.length x2 + (1:Nat)) + (192:Nat)) * (8:Nat)) (281474976710656:Nat) && Nat.ble (List.length x2 + (1:Nat)) (281474976710656:Nat):Bool))
              (let r0:=g211 (x0,(x4,()));
              let r1:=g211 (x1,(x4,()));
              Tr.fin (.again ((x0,(x1,((x2++[Int.tmod (wrap64 (wrap64 (r0.1 + r1.1) + x3)) (1000000000:Int)]:List Int),((Go.IntKind.wrap Go.IntKind.i64 (Int.tdiv (wrap64 (wrap64 (r0.1 + r1.1) + x3)) (1000000000:Int)):Int),((wrap64 (x4 + (1:Int)):Int),()))))),())))
              (Tr.stop))
            (Tr.stop))
          (Tr.stop))
        (Tr.fin (.brk ((x2,()),())))))
def s204_0 (d:sh204_0.data):Option (Out sh204_0.data shb204_0.data shr204_0.data):=(t204_0 d.1.1 d.1.2.1 d.1.2.2.1 d.1.2.2.2.1 d.1.2.2.2.2.1).val
def l204_0 (d:sh204_0.data):Option (shb204_0.data ⊕ shr204_0.data):=itr s204_0 rounds d
def b204_0 (d:sh204_0.data):shb204_0.data:=outB shb204_0.dflt (l204_0 d)
def lc204_0:LoopC:=lcB sh204_0 shb204_0 shr204_0 l204_0 b204_0
theorem wk204_0 (x0:(List Int)) (x1:(List Int)) (x2:(List Int)) (x3:Int) (x4:Int):Walks (qau (kf201 Proofs.Tryz.prog).orc Proofs.Tryz.prog 400 204 0 sh204_0 shb204_0 shr204_0 ((x0,x1,x2,x3,x4,()),())) (t204_0 x0 x1 x2 x3 x4) [(bl 4 15,[0,2,0,4,6,1,1,1,1,8,8,8,8,8]),(bl 5 30,[0,2,0,4,6,1,8,8,8,10,10,10,10,10]),(bl 6 60,[0,2,0,4,6,8,10,10,10,12,12,12,12,12]),(bl 3 0,[2,4,4,4,6,6,6,6,6])] :=
  ⟨by kernel_rfl,by kernel_rfl,by kernel_rfl,by kernel_rfl,trivial⟩
theorem ok204_0_t (x0:(List Int)) (x1:(List Int)) (x2:(List Int)) (x3:Int) (x4:Int):TrOk (BodyRuns Proofs.Tryz.prog (kf201 Proofs.Tryz.prog).orc 204 0 sh204_0 shb204_0 shr204_0 ((x0,x1,x2,x3,x4,()),())) (t204_0 x0 x1 x2 x3 x4) :=
  Walks.ok (fun _ _ _=>BodyRuns.of) (wk204_0 x0 x1 x2 x3 x4) (by kernel_rfl)
theorem ok204_0:qav Proofs.Tryz.prog 204 0 lc204_0:=qar (sh:=sh204_0) (shB:=shb204_0) (shR:=shr204_0) kf201_ok.base (T:=fun (d:sh204_0.data)=>t204_0 d.1.1 d.1.2.1 d.1.2.2.1 d.1.2.2.2.1 d.1.2.2.2.2.1) (by kernel_rfl) rfl (fun (d:sh204_0.data)=>ok204_0_t d.1.1 d.1.2.1 d.1.2.2.1 d.1.2.2.2.1 d.1.2.2.2.2.1) (fun _=>rfl)
def kl204_0 (P:Go.Program):Known:=(kf201 P).loop 204 0 lc204_0
theorem kl204_0_ok:KnownOk Proofs.Tryz.prog (kl204_0 Proofs.Tryz.prog):=kf201_ok.loop ok204_0
abbrev as204:List Ty:=[(.slice (.int .i64)),(.slice (.int .i64))]
abbrev rs204:List Ty:=[(.slice (.int .i64))]
def t204 (x0:(List Int)) (x1:(List Int)):Tr (Tys.data rs204) :=
  Tr.test (qbk (l204_0 ((x0,(x1,(([]:List Int),((0:Int),((0:Int),()))))),())))
    (let r0:=b204_0 ((x0,(x1,(([]:List Int),((0:Int),((0:Int),()))))),());
    Tr.fin ((r0.1.1,())))
    (Tr.stop)
def f204 (d:Tys.data as204):Option (Tys.data rs204):=(t204 d.1 d.2.1).val
def g204 (d:Tys.data as204):Tys.data rs204:=(f204 d).getD (Tys.dflt rs204)
def p204:PureC:=pcOf as204 rs204 f204 g204
theorem wk204 (x0:(List Int)) (x1:(List Int)):Walks (runPure (kl204_0 Proofs.Tryz.prog).orc Proofs.Tryz.prog 400 204 as204 rs204 (x0,x1,())) (t204 x0 x1) [(bl 1 1,[1,2])] :=
  ⟨by kernel_rfl,trivial⟩
theorem ok204_t (x0:(List Int)) (x1:(List Int)):TrOk (PureRuns Proofs.Tryz.prog (kl204_0 Proofs.Tryz.prog).orc 204 as204 rs204 (x0,x1,())) (t204 x0 x1) :=
  Walks.ok (fun _ _ _=>PureRuns.of) (wk204 x0 x1) (by kernel_rfl)
theorem ok204:PureOk Proofs.Tryz.prog 204 p204:=qab kl204_0_ok.base (T:=fun (d:Tys.data as204)=>t204 d.1 d.2.1) (by kernel_rfl) (fun (d:Tys.data as204)=>ok204_t d.1 d.2.1)
def kf204 (P:Go.Program):Known:=(kl204_0 P).func 204 p204
theorem kf204_ok:KnownOk Proofs.Tryz.prog (kf204 Proofs.Tryz.prog):=kl204_0_ok.func ok204
end Go.Vm.Mo
