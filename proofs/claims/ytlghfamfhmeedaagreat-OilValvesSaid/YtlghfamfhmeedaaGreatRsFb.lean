import Derived.Test.YtlghfamfhmeedaaGreatA5
import Derived.KernelRfl
import Derived.Test.YtlghfamfhmeedaaGreatProg
import Derived.Test.YtlghfamfhmeedaaGreatRsFa
set_option linter.unusedVariables false
set_option linter.unusedSimpArgs false

namespace Go.Vm.Mo
open Go
set_option linter.unusedVariables false
abbrev sh129_2:Sh:={ n:=20,slots:=[1,2,4,9],pats:=[.map 0,.ptr 1 10 0,.ty .bool,.ptr 2 1 0],boxes:=[.mapd (.pair (.int .i64) (.pair .bool .unit)) .bool,.row [.ty (.slice (.pair (.int .i64) (.pair (.int .i64) .unit))),.ty (.int .i64),.ty (.int .i64),.ty (.int .i64),.ty (.slice (.pair (.int .i64) (.pair (.int .i64) .unit))),.ty (.int .i64),.ty (.int .i64),.ty (.int .i64),.ty (.int .i64),.ty (.int .i64)],.mit 0] }
abbrev shb129_2:Sh:={ n:=20,slots:=[1,2,4],pats:=[.map 0,.ptr 1 10 0,.ty .bool],boxes:=[.mapd (.pair (.int .i64) (.pair .bool .unit)) .bool,.row [.ty (.slice (.pair (.int .i64) (.pair (.int .i64) .unit))),.ty (.int .i64),.ty (.int .i64),.ty (.int .i64),.ty (.slice (.pair (.int .i64) (.pair (.int .i64) .unit))),.ty (.int .i64),.ty (.int .i64),.ty (.int .i64),.ty (.int .i64),.ty (.int .i64)],.mitx] }
abbrev shr129_2:Sh:={ n:=20,slots:=[],pats:=[],boxes:=[.mapd (.pair (.int .i64) (.pair .bool .unit)) .bool,.row [.ty (.slice (.pair (.int .i64) (.pair (.int .i64) .unit))),.ty (.int .i64),.ty (.int .i64),.ty (.int .i64),.ty (.slice (.pair (.int .i64) (.pair (.int .i64) .unit))),.ty (.int .i64),.ty (.int .i64),.ty (.int .i64),.ty (.int .i64),.ty (.int .i64)],.mit 0] }
def te129_2 (x2:Bool) (b0:(List (Nat×((Int×(Bool×Unit))×Bool)))) (b0c:Nat) (b1_0:(List (Int×(Int×Unit)))) (b1_1:Int) (b1_2:Int) (b1_3:Int) (b1_4:(List (Int×(Int×Unit)))) (b1_5:Int) (b1_6:Int) (b1_7:Int) (b1_8:Int) (b1_9:Int) (b2s:Nat) (b2n:(List Nat)):Tr (Out sh129_2.data shb129_2.data shr129_2.data) :=
  Tr.test ((Nat.beq b0c b2s:Bool))
    (Tr.fin (.brk ((x2,()),((b0,b0c),((b1_0,(b1_1,(b1_2,(b1_3,(b1_4,(b1_5,(b1_6,(b1_7,(b1_8,(b1_9,())))))))))),())))))
    (Tr.stop)
def t129_2 (x2:Bool) (b0:(List (Nat×((Int×(Bool×Unit))×Bool)))) (b0c:Nat) (b1_0:(List (Int×(Int×Unit)))) (b1_1:Int) (b1_2:Int) (b1_3:Int) (b1_4:(List (Int×(Int×Unit)))) (b1_5:Int) (b1_6:Int) (b1_7:Int) (b1_8:Int) (b1_9:Int) (b2s:Nat) (b2n:(List Nat)) (ci:Nat):Tr (Out sh129_2.data shb129_2.data shr129_2.data) :=
  Tr.test ((Nat.beq b0c b2s:Bool))
    (Tr.test (hasE b0 ci)
      (Tr.test (Option.isSome (l135_0 ((b1_7,()),((b0,b0c),((b1_0,(b1_1,(b1_2,(b1_3,(b1_4,(b1_5,(b1_6,(b1_7,(b1_8,(b1_9,())))))))))),((((entE (k:=MK) (v:=MV) b0 ci).1.1:Int),(((entE (k:=MK) (v:=MV) b0 ci).1.2.1:Bool),())),()))))))
        (Tr.test (qb5 (l135_0 ((b1_7,()),((b0,b0c),((b1_0,(b1_1,(b1_2,(b1_3,(b1_4,(b1_5,(b1_6,(b1_7,(b1_8,(b1_9,())))))))))),((((entE (k:=MK) (v:=MV) b0 ci).1.1:Int),(((entE (k:=MK) (v:=MV) b0 ci).1.2.1:Bool),())),()))))))
          (let r0:=r135_0 ((b1_7,()),((b0,b0c),((b1_0,(b1_1,(b1_2,(b1_3,(b1_4,(b1_5,(b1_6,(b1_7,(b1_8,(b1_9,())))))))))),((((entE (k:=MK) (v:=MV) b0 ci).1.1:Int),(((entE (k:=MK) (v:=MV) b0 ci).1.2.1:Bool),())),()))));
          Tr.test (r0.1.1)
            (Tr.fin (.again (((false:Bool),()),(((ddel (k:=MK) (v:=MV) ((entE (k:=MK) (v:=MV) b0 ci).1.1,(entE (k:=MK) (v:=MV) b0 ci).1.2.1,()) r0.2.1.1:List (Nat×Ty.data (Ty.pair (Ty.int Go.IntKind.i64) (Ty.pair Ty.bool Ty.unit))×Ty.data Ty.bool)),r0.2.1.2),((b1_0,(b1_1,(b1_2,(b1_3,(b1_4,(b1_5,(b1_6,(b1_7,(b1_8,(b1_9,())))))))))),((b2s,(ci :: b2n:List Nat)),()))))))
            (Tr.fin (.again ((x2,()),(((r0.2.1.1:List (Nat×(Int×Bool×PUnit)×Bool)),r0.2.1.2),((b1_0,(b1_1,(b1_2,(b1_3,(b1_4,(b1_5,(b1_6,(b1_7,(b1_8,(b1_9,())))))))))),((b2s,(ci :: b2n:List Nat)),())))))))
          (let r1:=b135_0 ((b1_7,()),((b0,b0c),((b1_0,(b1_1,(b1_2,(b1_3,(b1_4,(b1_5,(b1_6,(b1_7,(b1_8,(b1_9,())))))))))),((((entE (k:=MK) (v:=MV) b0 ci).1.1:Int),(((entE (k:=MK) (v:=MV) b0 ci).1.2.1:Bool),())),()))));
          Tr.fin (.again ((x2,()),(((r1.2.1.1:List (Nat×(Int×Bool×PUnit)×Bool)),r1.2.1.2),((b1_0,(b1_1,(b1_2,(b1_3,(b1_4,(b1_5,(b1_6,(b1_7,(b1_8,(b1_9,())))))))))),((b2s,(ci :: b2n:List Nat)),())))))))
        (Tr.stop))
      (Tr.stop))
    (Tr.stop)
def tp129_2 (pk:Option Nat) (d:sh129_2.data):Tr (Out sh129_2.data shb129_2.data shr129_2.data):=match pk with
  | none=>te129_2 d.1.1 d.2.1.1 d.2.1.2 d.2.2.1.1 d.2.2.1.2.1 d.2.2.1.2.2.1 d.2.2.1.2.2.2.1 d.2.2.1.2.2.2.2.1 d.2.2.1.2.2.2.2.2.1 d.2.2.1.2.2.2.2.2.2.1 d.2.2.1.2.2.2.2.2.2.2.1 d.2.2.1.2.2.2.2.2.2.2.2.1 d.2.2.1.2.2.2.2.2.2.2.2.2.1 d.2.2.2.1.1 d.2.2.2.1.2
  | some ci=>t129_2 d.1.1 d.2.1.1 d.2.1.2 d.2.2.1.1 d.2.2.1.2.1 d.2.2.1.2.2.1 d.2.2.1.2.2.2.1 d.2.2.1.2.2.2.2.1 d.2.2.1.2.2.2.2.2.1 d.2.2.1.2.2.2.2.2.2.1 d.2.2.1.2.2.2.2.2.2.2.1 d.2.2.1.2.2.2.2.2.2.2.2.1 d.2.2.1.2.2.2.2.2.2.2.2.2.1 d.2.2.2.1.1 d.2.2.2.1.2 ci
def s129_2 (pk:Option Nat) (d:sh129_2.data):Option (Out sh129_2.data shb129_2.data shr129_2.data):=(tp129_2 pk d).val
def left129_2_ (x2:Bool) (b0:(List (Nat×((Int×(Bool×Unit))×Bool)))) (b0c:Nat) (b1_0:(List (Int×(Int×Unit)))) (b1_1:Int) (b1_2:Int) (b1_3:Int) (b1_4:(List (Int×(Int×Unit)))) (b1_5:Int) (b1_6:Int) (b1_7:Int) (b1_8:Int) (b1_9:Int) (b2s:Nat) (b2n:(List Nat)):List Nat:=leftD ((x2,()),(b0,b0c),(b1_0,b1_1,b1_2,b1_3,b1_4,b1_5,b1_6,b1_7,b1_8,b1_9,()),(b2s,b2n),()).2.2.2.1.2 ((x2,()),(b0,b0c),(b1_0,b1_1,b1_2,b1_3,b1_4,b1_5,b1_6,b1_7,b1_8,b1_9,()),(b2s,b2n),()).2.1.1
def left129_2 (d:sh129_2.data):List Nat:=left129_2_ d.1.1 d.2.1.1 d.2.1.2 d.2.2.1.1 d.2.2.1.2.1 d.2.2.1.2.2.1 d.2.2.1.2.2.2.1 d.2.2.1.2.2.2.2.1 d.2.2.1.2.2.2.2.2.1 d.2.2.1.2.2.2.2.2.2.1 d.2.2.1.2.2.2.2.2.2.2.1 d.2.2.1.2.2.2.2.2.2.2.2.1 d.2.2.1.2.2.2.2.2.2.2.2.2.1 d.2.2.2.1.1 d.2.2.2.1.2
abbrev Pt129:=Int×Int×Unit
abbrev W129:=List Pt129×Int×Int×Int×List Pt129×Int×Int×Int×Int×Int×Unit
abbrev M129:=List (Nat×((Int×Bool×Unit)×Bool))×Nat
abbrev DB129:=(Bool×Unit)×M129×W129×Unit
instance iPt129:DecidableEq Pt129:=inferInstance
instance iLp129:DecidableEq (List Pt129):=inferInstance
instance iKv129:DecidableEq ((Int×Bool×Unit)×Bool):=inferInstance
instance iNk129:DecidableEq (Nat×((Int×Bool×Unit)×Bool)):=inferInstance
instance iLm129:DecidableEq (List (Nat×((Int×Bool×Unit)×Bool))):=inferInstance
instance iM129:DecidableEq M129:=inferInstanceAs (DecidableEq (List (Nat×((Int×Bool×Unit)×Bool))×Nat))
instance iW4129:DecidableEq (Int×Int×Int×Int×Int×Unit):=inferInstance
instance iW5129:DecidableEq (List Pt129×Int×Int×Int×Int×Int×Unit):=inferInstance
instance iW8129:DecidableEq (Int×Int×Int×List Pt129×Int×Int×Int×Int×Int×Unit):=inferInstance
instance iW129:DecidableEq W129:=inferInstanceAs (DecidableEq (List Pt129×Int×Int×Int×List Pt129×Int×Int×Int×Int×Int×Unit))
instance iDB129:DecidableEq DB129:=inferInstanceAs (DecidableEq ((Bool×Unit)×M129×W129×Unit))
def same129 (x y:DB129):Bool:=decide (x = y)
def eq129 (x y:shb129_2.data ⊕ shr129_2.data):Bool :=
  match x,y with
  | .inl a,.inl b=>same129 a b
  | _,_=>false
theorem eq129_eq (x y:shb129_2.data ⊕ shr129_2.data) (h:eq129 x y = true):x = y:=by
  cases x with
  | inl a=>cases y with
    | inl b=>exact congrArg Sum.inl (of_decide_eq_true h:(a:DB129) = b)
    | inr b=>cases h
  | inr a=>cases h
abbrev D129:=(Bool×Unit)×M129×W129×(Nat×List Nat)×Unit
instance iS129:DecidableEq (Nat×List Nat):=inferInstance
instance iT129:DecidableEq (W129×(Nat×List Nat)×Unit):=inferInstanceAs (DecidableEq (W129×(Nat×List Nat)×Unit))
instance iU129:DecidableEq (M129×W129×(Nat×List Nat)×Unit):=inferInstanceAs (DecidableEq (M129×W129×(Nat×List Nat)×Unit))
instance iD129:DecidableEq D129:=inferInstanceAs (DecidableEq ((Bool×Unit)×M129×W129×(Nat×List Nat)×Unit))
def seen129 (d:sh129_2.data):List Nat:=d.2.2.2.1.2
def fill129 (l:List Nat) (d:sh129_2.data):sh129_2.data:=(d.1,d.2.1,d.2.2.1,(d.2.2.2.1.1,l),d.2.2.2.2)
def eqD129 (a b:D129):Bool:=decide (a = b)
def same129_2 (a b:sh129_2.data):Bool:=decide (seen129 a = seen129 b) && eqD129 a b
def cn129 (d:sh129_2.data):sh129_2.data:=fill129 (qgt (seen129 d)) d
theorem same129_eq (a b:sh129_2.data) (h:same129_2 a b = true):a = b:=by
  unfold same129_2 at h
  rw [Bool.and_eq_true] at h
  exact (of_decide_eq_true h.2:(a:D129) = b)
def fillO129 (l:List Nat):Out sh129_2.data shb129_2.data shr129_2.data → Out sh129_2.data shb129_2.data shr129_2.data
  | .again d=>.again (fill129 l d)
  | .brk b=>.brk b
  | .ret c=>.ret c
theorem s129_some (d:sh129_2.data) (n:List Nat) (i:Nat):s129_2 (some i) (fill129 n d) = (s129_2 (some i) (fill129 [] d)).map (fillO129 (i :: n)):=by
  unfold s129_2
  rw [← Tr.map_val]
  rfl
theorem s129_none (d:sh129_2.data) (n:List Nat):s129_2 none (fill129 n d) = s129_2 none (fill129 [] d):=rfl
theorem left129_fill (d:sh129_2.data) (n:List Nat):left129_2 (fill129 n d) = leftD n d.2.1.1:=rfl
theorem leftD_same {α:Type} {n n':List Nat} (h:∀ k,k ∈ n ↔ k ∈ n') (l:List (Nat×α)):leftD n l = leftD n' l:=by
  unfold leftD
  apply List.filter_congr
  intro k _
  by_cases hk:k ∈ n
  · simp [hk,(h k).1 hk]
  · have:k ∉ n':=fun e=>hk ((h k).2 e)
    simp [hk,this]
theorem ends129_fill {r:shb129_2.data ⊕ shr129_2.data}:∀ (m:Nat) (d:sh129_2.data) (n n':List Nat),(∀ k,k ∈ n ↔ k ∈ n') → EndsN s129_2 left129_2 m (fill129 n d) r → EndsN s129_2 left129_2 m (fill129 n' d) r
  | 0,_,_,_,_,h=>h.elim
  | m + 1,d,n,n',he,h=>by
    intro pk hp
    rw [left129_fill,← leftD_same he] at hp
    have h1:=h pk hp
    cases pk with
    | none =>
      rw [s129_none] at h1 ⊢
      exact h1
    | some i =>
      rw [s129_some] at h1 ⊢
      cases hs:s129_2 (some i) (fill129 [] d) with
      | none=>rw [hs] at h1; exact h1.elim
      | some o =>
        rw [hs] at h1
        cases o with
        | again e =>
          exact ends129_fill m e (i :: n) (i :: n') (fun k=>by rw [List.mem_cons,List.mem_cons,he k]) h1
        | brk b=>exact h1
        | ret c=>exact h1
def l129_2 (d:sh129_2.data):Option (shb129_2.data ⊕ shr129_2.data):=qqO s129_2 left129_2 cn129 same129_2 eq129 12 d
theorem ends129_2:∀ d r,l129_2 d = some r → EndsN s129_2 left129_2 rounds d r:=fun d r h =>
  qmh eq129_eq same129_eq (fun m d r hh=>ends129_fill m d (qgt (seen129 d)) (seen129 d) (fun k=>qgc k _) hh) (by unfold rounds; omega) h
def b129_2 (d:sh129_2.data):shb129_2.data:=outB shb129_2.dflt (l129_2 d)
def lc129_2:LoopC:=lcB sh129_2 shb129_2 shr129_2 l129_2 b129_2
theorem e129_2_0 (x2:Bool) (b0:(List (Nat×((Int×(Bool×Unit))×Bool)))) (b0c:Nat) (b1_0:(List (Int×(Int×Unit)))) (b1_1:Int) (b1_2:Int) (b1_3:Int) (b1_4:(List (Int×(Int×Unit)))) (b1_5:Int) (b1_6:Int) (b1_7:Int) (b1_8:Int) (b1_9:Int) (b2s:Nat) (b2n:(List Nat)):qez (kl135_0 Proofs.Tryz.prog).orc Proofs.Tryz.prog 400 129 2 sh129_2 shb129_2 shr129_2 none ((x2,()),(b0,b0c),(b1_0,b1_1,b1_2,b1_3,b1_4,b1_5,b1_6,b1_7,b1_8,b1_9,()),(b2s,b2n),()) [tt,ff] =
    (some (.brk ((x2,()),((b0,b0c),((b1_0,(b1_1,(b1_2,(b1_3,(b1_4,(b1_5,(b1_6,(b1_7,(b1_8,(b1_9,())))))))))),()))),[(false,false),(Nat.beq b0c b2s,true)])):=by kernel_rfl
theorem e129_2_2 (x2:Bool) (b0:(List (Nat×((Int×(Bool×Unit))×Bool)))) (b0c:Nat) (b1_0:(List (Int×(Int×Unit)))) (b1_1:Int) (b1_2:Int) (b1_3:Int) (b1_4:(List (Int×(Int×Unit)))) (b1_5:Int) (b1_6:Int) (b1_7:Int) (b1_8:Int) (b1_9:Int) (b2s:Nat) (b2n:(List Nat)) (ci:Nat):qez (kl135_0 Proofs.Tryz.prog).orc Proofs.Tryz.prog 400 129 2 sh129_2 shb129_2 shr129_2 (some ci) ((x2,()),(b0,b0c),(b1_0,b1_1,b1_2,b1_3,b1_4,b1_5,b1_6,b1_7,b1_8,b1_9,()),(b2s,b2n),()) [tt,tt,tt,tt,tt,tt,tt] =
    (let r0:=r135_0 ((b1_7,()),((b0,b0c),((b1_0,(b1_1,(b1_2,(b1_3,(b1_4,(b1_5,(b1_6,(b1_7,(b1_8,(b1_9,())))))))))),((((entE (k:=MK) (v:=MV) b0 ci).1.1:Int),((entE (k:=MK) (v:=MV) b0 ci).1.2.1,())),())))); some (.again ((false,()),(((ddel (k:=MK) (v:=MV) ((entE (k:=MK) (v:=MV) b0 ci).1.1,(entE (k:=MK) (v:=MV) b0 ci).1.2.1,()) r0.2.1.1:List (Nat×Ty.data (Ty.pair (Ty.int Go.IntKind.i64) (Ty.pair Ty.bool Ty.unit))×Ty.data Ty.bool)),r0.2.1.2),((b1_0,(b1_1,(b1_2,(b1_3,(b1_4,(b1_5,(b1_6,(b1_7,(b1_8,(b1_9,())))))))))),((b2s,(ci :: b2n:List Nat)),())))),[(r0.1.1,true),(qb5 (l135_0 ((b1_7,()),((b0,b0c),((b1_0,(b1_1,(b1_2,(b1_3,(b1_4,(b1_5,(b1_6,(b1_7,(b1_8,(b1_9,())))))))))),((((entE (k:=MK) (v:=MV) b0 ci).1.1:Int),((entE (k:=MK) (v:=MV) b0 ci).1.2.1,())),()))))),true),(Option.isSome (l135_0 ((b1_7,()),((b0,b0c),((b1_0,(b1_1,(b1_2,(b1_3,(b1_4,(b1_5,(b1_6,(b1_7,(b1_8,(b1_9,())))))))))),((((entE (k:=MK) (v:=MV) b0 ci).1.1:Int),((entE (k:=MK) (v:=MV) b0 ci).1.2.1,())),()))))),true),(hasE b0 ci,true),(Nat.beq b0c b2s,true),(true,true),(Nat.beq b0c b2s,true)])):=by kernel_rfl
theorem e129_2_3 (x2:Bool) (b0:(List (Nat×((Int×(Bool×Unit))×Bool)))) (b0c:Nat) (b1_0:(List (Int×(Int×Unit)))) (b1_1:Int) (b1_2:Int) (b1_3:Int) (b1_4:(List (Int×(Int×Unit)))) (b1_5:Int) (b1_6:Int) (b1_7:Int) (b1_8:Int) (b1_9:Int) (b2s:Nat) (b2n:(List Nat)) (ci:Nat):qez (kl135_0 Proofs.Tryz.prog).orc Proofs.Tryz.prog 400 129 2 sh129_2 shb129_2 shr129_2 (some ci) ((x2,()),(b0,b0c),(b1_0,b1_1,b1_2,b1_3,b1_4,b1_5,b1_6,b1_7,b1_8,b1_9,()),(b2s,b2n),()) [tt,tt,tt,tt,tt,tt,ff] =
    (let r0:=r135_0 ((b1_7,()),((b0,b0c),((b1_0,(b1_1,(b1_2,(b1_3,(b1_4,(b1_5,(b1_6,(b1_7,(b1_8,(b1_9,())))))))))),((((entE (k:=MK) (v:=MV) b0 ci).1.1:Int),((entE (k:=MK) (v:=MV) b0 ci).1.2.1,())),())))); some (.again ((x2,()),(((r0.2.1.1:List (Nat×(Int×Bool×PUnit)×Bool)),r0.2.1.2),((b1_0,(b1_1,(b1_2,(b1_3,(b1_4,(b1_5,(b1_6,(b1_7,(b1_8,(b1_9,())))))))))),((b2s,(ci :: b2n:List Nat)),())))),[(r0.1.1,false),(qb5 (l135_0 ((b1_7,()),((b0,b0c),((b1_0,(b1_1,(b1_2,(b1_3,(b1_4,(b1_5,(b1_6,(b1_7,(b1_8,(b1_9,())))))))))),((((entE (k:=MK) (v:=MV) b0 ci).1.1:Int),((entE (k:=MK) (v:=MV) b0 ci).1.2.1,())),()))))),true),(Option.isSome (l135_0 ((b1_7,()),((b0,b0c),((b1_0,(b1_1,(b1_2,(b1_3,(b1_4,(b1_5,(b1_6,(b1_7,(b1_8,(b1_9,())))))))))),((((entE (k:=MK) (v:=MV) b0 ci).1.1:Int),((entE (k:=MK) (v:=MV) b0 ci).1.2.1,())),()))))),true),(hasE b0 ci,true),(Nat.beq b0c b2s,true),(true,true),(Nat.beq b0c b2s,true)])):=by kernel_rfl
theorem e129_2_4 (x2:Bool) (b0:(List (Nat×((Int×(Bool×Unit))×Bool)))) (b0c:Nat) (b1_0:(List (Int×(Int×Unit)))) (b1_1:Int) (b1_2:Int) (b1_3:Int) (b1_4:(List (Int×(Int×Unit)))) (b1_5:Int) (b1_6:Int) (b1_7:Int) (b1_8:Int) (b1_9:Int) (b2s:Nat) (b2n:(List Nat)) (ci:Nat):qez (kl135_0 Proofs.Tryz.prog).orc Proofs.Tryz.prog 400 129 2 sh129_2 shb129_2 shr129_2 (some ci) ((x2,()),(b0,b0c),(b1_0,b1_1,b1_2,b1_3,b1_4,b1_5,b1_6,b1_7,b1_8,b1_9,()),(b2s,b2n),()) [tt,tt,tt,tt,tt,ff,ff] =
    (let r1:=b135_0 ((b1_7,()),((b0,b0c),((b1_0,(b1_1,(b1_2,(b1_3,(b1_4,(b1_5,(b1_6,(b1_7,(b1_8,(b1_9,())))))))))),((((entE (k:=MK) (v:=MV) b0 ci).1.1:Int),((entE (k:=MK) (v:=MV) b0 ci).1.2.1,())),())))); some (.again ((x2,()),(((r1.2.1.1:List (Nat×(Int×Bool×PUnit)×Bool)),r1.2.1.2),((b1_0,(b1_1,(b1_2,(b1_3,(b1_4,(b1_5,(b1_6,(b1_7,(b1_8,(b1_9,())))))))))),((b2s,(ci :: b2n:List Nat)),())))),[(false,false),(qb5 (l135_0 ((b1_7,()),((b0,b0c),((b1_0,(b1_1,(b1_2,(b1_3,(b1_4,(b1_5,(b1_6,(b1_7,(b1_8,(b1_9,())))))))))),((((entE (k:=MK) (v:=MV) b0 ci).1.1:Int),((entE (k:=MK) (v:=MV) b0 ci).1.2.1,())),()))))),false),(Option.isSome (l135_0 ((b1_7,()),((b0,b0c),((b1_0,(b1_1,(b1_2,(b1_3,(b1_4,(b1_5,(b1_6,(b1_7,(b1_8,(b1_9,())))))))))),((((entE (k:=MK) (v:=MV) b0 ci).1.1:Int),((entE (k:=MK) (v:=MV) b0 ci).1.2.1,())),()))))),true),(hasE b0 ci,true),(Nat.beq b0c b2s,true),(true,true),(Nat.beq b0c b2s,true)])):=by kernel_rfl
theorem ok129_2_te (x2:Bool) (b0:(List (Nat×((Int×(Bool×Unit))×Bool)))) (b0c:Nat) (b1_0:(List (Int×(Int×Unit)))) (b1_1:Int) (b1_2:Int) (b1_3:Int) (b1_4:(List (Int×(Int×Unit)))) (b1_5:Int) (b1_6:Int) (b1_7:Int) (b1_8:Int) (b1_9:Int) (b2s:Nat) (b2n:(List Nat)):TrOk (PickRuns Proofs.Tryz.prog (kl135_0 Proofs.Tryz.prog).orc 129 2 sh129_2 shb129_2 shr129_2 none ((x2,()),(b0,b0c),(b1_0,b1_1,b1_2,b1_3,b1_4,b1_5,b1_6,b1_7,b1_8,b1_9,()),(b2s,b2n),())) (te129_2 x2 b0 b0c b1_0 b1_1 b1_2 b1_3 b1_4 b1_5 b1_6 b1_7 b1_8 b1_9 b2s b2n) :=
  TrOk.ofTest (fun h0=>TrOk.ofFin (PickRuns.of (e129_2_0 x2 b0 b0c b1_0 b1_1 b1_2 b1_3 b1_4 b1_5 b1_6 b1_7 b1_8 b1_9 b2s b2n) (ac rfl (ac h0 All.nil)))) (fun h0=>TrOk.ofStop)
theorem ok129_2_t (x2:Bool) (b0:(List (Nat×((Int×(Bool×Unit))×Bool)))) (b0c:Nat) (b1_0:(List (Int×(Int×Unit)))) (b1_1:Int) (b1_2:Int) (b1_3:Int) (b1_4:(List (Int×(Int×Unit)))) (b1_5:Int) (b1_6:Int) (b1_7:Int) (b1_8:Int) (b1_9:Int) (b2s:Nat) (b2n:(List Nat)) (ci:Nat):TrOk (PickRuns Proofs.Tryz.prog (kl135_0 Proofs.Tryz.prog).orc 129 2 sh129_2 shb129_2 shr129_2 (some ci) ((x2,()),(b0,b0c),(b1_0,b1_1,b1_2,b1_3,b1_4,b1_5,b1_6,b1_7,b1_8,b1_9,()),(b2s,b2n),())) (t129_2 x2 b0 b0c b1_0 b1_1 b1_2 b1_3 b1_4 b1_5 b1_6 b1_7 b1_8 b1_9 b2s b2n ci) :=
  TrOk.ofTest (fun h0=>TrOk.ofTest (fun h3=>TrOk.ofTest (fun h4=>TrOk.ofTest (fun h5=>TrOk.ofTest (fun h6=>TrOk.ofFin (PickRuns.of (e129_2_2 x2 b0 b0c b1_0 b1_1 b1_2 b1_3 b1_4 b1_5 b1_6 b1_7 b1_8 b1_9 b2s b2n ci) (ac h6 (ac h5 (ac h4 (ac h3 (ac h0 (ac rfl (ac h0 All.nil))))))))) (fun h6=>TrOk.ofFin (PickRuns.of (e129_2_3 x2 b0 b0c b1_0 b1_1 b1_2 b1_3 b1_4 b1_5 b1_6 b1_7 b1_8 b1_9 b2s b2n ci) (ac h6 (ac h5 (ac h4 (ac h3 (ac h0 (ac rfl (ac h0 All.nil)))))))))) (fun h5=>TrOk.ofFin (PickRuns.of (e129_2_4 x2 b0 b0c b1_0 b1_1 b1_2 b1_3 b1_4 b1_5 b1_6 b1_7 b1_8 b1_9 b2s b2n ci) (ac rfl (ac h5 (ac h4 (ac h3 (ac h0 (ac rfl (ac h0 All.nil)))))))))) (fun h4=>TrOk.ofStop)) (fun h3=>TrOk.ofStop)) (fun h0=>TrOk.ofStop)
theorem ok129_2:qat Proofs.Tryz.prog 129 2 lc129_2:=qkq (sh:=sh129_2) (shB:=shb129_2) (shR:=shr129_2) (left:=left129_2) kl135_0_ok.base (by kernel_rfl) rfl (T:=tp129_2) (fun pk (d:sh129_2.data)=>match pk with
  | none=>ok129_2_te d.1.1 d.2.1.1 d.2.1.2 d.2.2.1.1 d.2.2.1.2.1 d.2.2.1.2.2.1 d.2.2.1.2.2.2.1 d.2.2.1.2.2.2.2.1 d.2.2.1.2.2.2.2.2.1 d.2.2.1.2.2.2.2.2.2.1 d.2.2.1.2.2.2.2.2.2.2.1 d.2.2.1.2.2.2.2.2.2.2.2.1 d.2.2.1.2.2.2.2.2.2.2.2.2.1 d.2.2.2.1.1 d.2.2.2.1.2
  | some ci=>ok129_2_t d.1.1 d.2.1.1 d.2.1.2 d.2.2.1.1 d.2.2.1.2.1 d.2.2.1.2.2.1 d.2.2.1.2.2.2.1 d.2.2.1.2.2.2.2.1 d.2.2.1.2.2.2.2.2.1 d.2.2.1.2.2.2.2.2.2.1 d.2.2.1.2.2.2.2.2.2.2.1 d.2.2.1.2.2.2.2.2.2.2.2.1 d.2.2.1.2.2.2.2.2.2.2.2.2.1 d.2.2.2.1.1 d.2.2.2.1.2 ci) (fun _=>by kernel_rfl) ends129_2
def kl129_2 (P:Go.Program):Known:=(kl135_0 P).loop 129 2 lc129_2
theorem kl129_2_ok:KnownOk Proofs.Tryz.prog (kl129_2 Proofs.Tryz.prog):=kl135_0_ok.loop ok129_2
abbrev sh129_0:Sh:={ n:=20,slots:=[1,2,4],pats:=[.map 0,.ptr 1 10 0,.ty .bool],boxes:=[.mapd (.pair (.int .i64) (.pair .bool .unit)) .bool,.row [.ty (.slice (.pair (.int .i64) (.pair (.int .i64) .unit))),.ty (.int .i64),.ty (.int .i64),.ty (.int .i64),.ty (.slice (.pair (.int .i64) (.pair (.int .i64) .unit))),.ty (.int .i64),.ty (.int .i64),.ty (.int .i64),.ty (.int .i64),.ty (.int .i64)]] }
abbrev shb129_0:Sh:={ n:=20,slots:=[],pats:=[],boxes:=[.mapd (.pair (.int .i64) (.pair .bool .unit)) .bool,.row [.ty (.slice (.pair (.int .i64) (.pair (.int .i64) .unit))),.ty (.int .i64),.ty (.int .i64),.ty (.int .i64),.ty (.slice (.pair (.int .i64) (.pair (.int .i64) .unit))),.ty (.int .i64),.ty (.int .i64),.ty (.int .i64),.ty (.int .i64),.ty (.int .i64)]] }
abbrev shr129_0:Sh:={ n:=20,slots:=[],pats:=[],boxes:=[.mapd (.pair (.int .i64) (.pair .bool .unit)) .bool,.row [.ty (.slice (.pair (.int .i64) (.pair (.int .i64) .unit))),.ty (.int .i64),.ty (.int .i64),.ty (.int .i64),.ty (.slice (.pair (.int .i64) (.pair (.int .i64) .unit))),.ty (.int .i64),.ty (.int .i64),.ty (.int .i64),.ty (.int .i64),.ty (.int .i64)]] }
def t129_0 (x2:Bool) (b0:(List (Nat×((Int×(Bool×Unit))×Bool)))) (b0c:Nat) (b1_0:(List (Int×(Int×Unit)))) (b1_1:Int) (b1_2:Int) (b1_3:Int) (b1_4:(List (Int×(Int×Unit)))) (b1_5:Int) (b1_6:Int) (b1_7:Int) (b1_8:Int) (b1_9:Int):Tr (Out sh129_0.data shb129_0.data shr129_0.data) :=
  Tr.test ((!x2:Bool))
    (Tr.test (qaV (l129_2 ((true,()),((b0,b0c),((b1_0,(b1_1,(b1_2,(b1_3,(b1_4,(b1_5,(b1_6,(b1_7,(b1_8,(b1_9,())))))))))),((b0c,([]:List Nat)),()))))))
      (let r0:=b129_2 (((true:Bool),()),((b0,b0c),((b1_0,(b1_1,(b1_2,(b1_3,(b1_4,(b1_5,(b1_6,(b1_7,(b1_8,(b1_9,())))))))))),((b0c,([]:List Nat)),()))));
      Tr.fin (.again ((r0.1.1,()),(((r0.2.1.1:List (Nat×(Int×Bool×PUnit)×Bool)),r0.2.1.2),((r0.2.2.1.1,(r0.2.2.1.2.1,(r0.2.2.1.2.2.1,(r0.2.2.1.2.2.2.1,(r0.2.2.1.2.2.2.2.1,(r0.2.2.1.2.2.2.2.2.1,(r0.2.2.1.2.2.2.2.2.2.1,(r0.2.2.1.2.2.2.2.2.2.2.1,(r0.2.2.1.2.2.2.2.2.2.2.2.1,(r0.2.2.1.2.2.2.2.2.2.2.2.2.1,())))))))))),())))))
      (Tr.stop))
    (Tr.fin (.brk ((),((b0,b0c),((b1_0,(b1_1,(b1_2,(b1_3,(b1_4,(b1_5,(b1_6,(b1_7,(b1_8,(b1_9,())))))))))),())))))
def s129_0 (d:sh129_0.data):Option (Out sh129_0.data shb129_0.data shr129_0.data):=(t129_0 d.1.1 d.2.1.1 d.2.1.2 d.2.2.1.1 d.2.2.1.2.1 d.2.2.1.2.2.1 d.2.2.1.2.2.2.1 d.2.2.1.2.2.2.2.1 d.2.2.1.2.2.2.2.2.1 d.2.2.1.2.2.2.2.2.2.1 d.2.2.1.2.2.2.2.2.2.2.1 d.2.2.1.2.2.2.2.2.2.2.2.1 d.2.2.1.2.2.2.2.2.2.2.2.2.1).val
def l129_0 (d:sh129_0.data):Option (shb129_0.data ⊕ shr129_0.data):=itr s129_0 rounds d
def b129_0 (d:sh129_0.data):shb129_0.data:=outB shb129_0.dflt (l129_0 d)
def lc129_0:LoopC:=lcB sh129_0 shb129_0 shr129_0 l129_0 b129_0
theorem e129_0_0 (x2:Bool) (b0:(List (Nat×((Int×(Bool×Unit))×Bool)))) (b0c:Nat) (b1_0:(List (Int×(Int×Unit)))) (b1_1:Int) (b1_2:Int) (b1_3:Int) (b1_4:(List (Int×(Int×Unit)))) (b1_5:Int) (b1_6:Int) (b1_7:Int) (b1_8:Int) (b1_9:Int):qaq (kl129_2 Proofs.Tryz.prog).orc Proofs.Tryz.prog 400 129 0 sh129_0 shb129_0 shr129_0 ((x2,()),(b0,b0c),(b1_0,b1_1,b1_2,b1_3,b1_4,b1_5,b1_6,b1_7,b1_8,b1_9,()),()) [tt,tt,tt] =
    (let r0:=b129_2 ((true,()),((b0,b0c),((b1_0,(b1_1,(b1_2,(b1_3,(b1_4,(b1_5,(b1_6,(b1_7,(b1_8,(b1_9,())))))))))),((b0c,([]:List Nat)),())))); some (.again ((r0.1.1,()),(((r0.2.1.1:List (Nat×(Int×Bool×PUnit)×Bool)),r0.2.1.2),((r0.2.2.1.1,(r0.2.2.1.2.1,(r0.2.2.1.2.2.1,(r0.2.2.1.2.2.2.1,(r0.2.2.1.2.2.2.2.1,(r0.2.2.1.2.2.2.2.2.1,(r0.2.2.1.2.2.2.2.2.2.1,(r0.2.2.1.2.2.2.2.2.2.2.1,(r0.2.2.1.2.2.2.2.2.2.2.2.1,(r0.2.2.1.2.2.2.2.2.2.2.2.2.1,())))))))))),()))),[(true,true),(qaV (l129_2 ((true,()),((b0,b0c),((b1_0,(b1_1,(b1_2,(b1_3,(b1_4,(b1_5,(b1_6,(b1_7,(b1_8,(b1_9,())))))))))),((b0c,([]:List Nat)),()))))),true),(!x2,true)])):=by kernel_rfl
theorem e129_0_1 (x2:Bool) (b0:(List (Nat×((Int×(Bool×Unit))×Bool)))) (b0c:Nat) (b1_0:(List (Int×(Int×Unit)))) (b1_1:Int) (b1_2:Int) (b1_3:Int) (b1_4:(List (Int×(Int×Unit)))) (b1_5:Int) (b1_6:Int) (b1_7:Int) (b1_8:Int) (b1_9:Int):qaq (kl129_2 Proofs.Tryz.prog).orc Proofs.Tryz.prog 400 129 0 sh129_0 shb129_0 shr129_0 ((x2,()),(b0,b0c),(b1_0,b1_1,b1_2,b1_3,b1_4,b1_5,b1_6,b1_7,b1_8,b1_9,()),()) [ff] =
    (some (.brk ((),((b0,b0c),((b1_0,(b1_1,(b1_2,(b1_3,(b1_4,(b1_5,(b1_6,(b1_7,(b1_8,(b1_9,())))))))))),()))),[(!x2,false)])):=by kernel_rfl
theorem ok129_0_t (x2:Bool) (b0:(List (Nat×((Int×(Bool×Unit))×Bool)))) (b0c:Nat) (b1_0:(List (Int×(Int×Unit)))) (b1_1:Int) (b1_2:Int) (b1_3:Int) (b1_4:(List (Int×(Int×Unit)))) (b1_5:Int) (b1_6:Int) (b1_7:Int) (b1_8:Int) (b1_9:Int):TrOk (BodyRuns Proofs.Tryz.prog (kl129_2 Proofs.Tryz.prog).orc 129 0 sh129_0 shb129_0 shr129_0 ((x2,()),(b0,b0c),(b1_0,b1_1,b1_2,b1_3,b1_4,b1_5,b1_6,b1_7,b1_8,b1_9,()),())) (t129_0 x2 b0 b0c b1_0 b1_1 b1_2 b1_3 b1_4 b1_5 b1_6 b1_7 b1_8 b1_9) :=
  TrOk.ofTest (fun h0=>TrOk.ofTest (fun h1=>TrOk.ofFin (BodyRuns.of (e129_0_0 x2 b0 b0c b1_0 b1_1 b1_2 b1_3 b1_4 b1_5 b1_6 b1_7 b1_8 b1_9) (ac rfl (ac h1 (ac h0 All.nil))))) (fun h1=>TrOk.ofStop)) (fun h0=>TrOk.ofFin (BodyRuns.of (e129_0_1 x2 b0 b0c b1_0 b1_1 b1_2 b1_3 b1_4 b1_5 b1_6 b1_7 b1_8 b1_9) (ac h0 All.nil)))
theorem ok129_0:qat Proofs.Tryz.prog 129 0 lc129_0:=qap (sh:=sh129_0) (shB:=shb129_0) (shR:=shr129_0) kl129_2_ok.base (T:=fun (d:sh129_0.data)=>t129_0 d.1.1 d.2.1.1 d.2.1.2 d.2.2.1.1 d.2.2.1.2.1 d.2.2.1.2.2.1 d.2.2.1.2.2.2.1 d.2.2.1.2.2.2.2.1 d.2.2.1.2.2.2.2.2.1 d.2.2.1.2.2.2.2.2.2.1 d.2.2.1.2.2.2.2.2.2.2.1 d.2.2.1.2.2.2.2.2.2.2.2.1 d.2.2.1.2.2.2.2.2.2.2.2.2.1) (by kernel_rfl) rfl (fun (d:sh129_0.data)=>ok129_0_t d.1.1 d.2.1.1 d.2.1.2 d.2.2.1.1 d.2.2.1.2.1 d.2.2.1.2.2.1 d.2.2.1.2.2.2.1 d.2.2.1.2.2.2.2.1 d.2.2.1.2.2.2.2.2.1 d.2.2.1.2.2.2.2.2.2.1 d.2.2.1.2.2.2.2.2.2.2.1 d.2.2.1.2.2.2.2.2.2.2.2.1 d.2.2.1.2.2.2.2.2.2.2.2.2.1) (fun _=>rfl)
def kl129_0 (P:Go.Program):Known:=(kl129_2 P).loop 129 0 lc129_0
theorem kl129_0_ok:KnownOk Proofs.Tryz.prog (kl129_0 Proofs.Tryz.prog):=kl129_2_ok.loop ok129_0
abbrev as13:List Ty:=[]
abbrev rs13:List Ty:=[.bool]
def f13 (_:Tys.data as13):Option (Tys.data rs13):=some (true,())
def g13 (_:Tys.data as13):Tys.data rs13:=(true,())
def p13:PureC:=pcOf as13 rs13 f13 g13
theorem e13:qjI (kl129_0 Proofs.Tryz.prog).orc Proofs.Tryz.prog 400 13 as13 rs13 () none = some ((true,()),[]):=by kernel_rfl
theorem ok13:PureOk Proofs.Tryz.prog 13 p13:=qim kl129_0_ok.base (by kernel_rfl) e13 All.nil
def kf13 (P:Go.Program):Known:=(kl129_0 P).func 13 p13
theorem kf13_ok:KnownOk Proofs.Tryz.prog (kf13 Proofs.Tryz.prog):=kl129_0_ok.func ok13
abbrev as72:List Ty:=[(.slice (.pair (.int .i64) (.pair (.int .i64) (.pair (.int .i64) .unit))))]
abbrev rs72:List Ty:=[(.slice (.pair (.int .i64) (.pair (.int .i64) (.pair (.int .i64) .unit))))]
def t72 (x0:(List (Int×(Int×(Int×Unit))))):Tr (Tys.data rs72) :=
  Tr.test ((Nat.ble (((2:Nat) * ((0:Nat) + List.length x0) + (192:Nat)) * (24:Nat)) (281474976710656:Nat) && Nat.ble ((0:Nat) + List.length x0) (281474976710656:Nat):Bool))
    (Tr.test (Nat.beq ((0:Nat) + List.length x0) (List.length ([]++x0)))
      (Tr.fin ((([]++x0:List (Int×Int×Int×PUnit)),())))
      (Tr.stop))
    (Tr.test (Nat.ble ((0:Nat) + List.length x0) (0:Nat))
      (Tr.stop)
      (Tr.stop))
def f72 (d:Tys.data as72):Option (Tys.data rs72):=(t72 d.1).val
def g72 (d:Tys.data as72):Tys.data rs72:=(f72 d).getD (Tys.dflt rs72)
def p72:PureC:=pcOf as72 rs72 f72 g72
theorem wk72 (x0:(List (Int×(Int×(Int×Unit))))):Walks (runPure (kf13 Proofs.Tryz.prog).orc Proofs.Tryz.prog 400 72 as72 rs72 (x0,())) (t72 x0) [(bl 2 3,[2,1,4])] :=
  ⟨by kernel_rfl,trivial⟩
theorem ok72_t (x0:(List (Int×(Int×(Int×Unit))))):TrOk (PureRuns Proofs.Tryz.prog (kf13 Proofs.Tryz.prog).orc 72 as72 rs72 (x0,())) (t72 x0) :=
  Walks.ok (fun _ _ _=>PureRuns.of) (wk72 x0) (by kernel_rfl)
theorem ok72:PureOk Proofs.Tryz.prog 72 p72:=qac kf13_ok.base (T:=fun (d:Tys.data as72)=>t72 d.1) (by kernel_rfl) (fun (d:Tys.data as72)=>ok72_t d.1)
def kf72 (P:Go.Program):Known:=(kf13 P).func 72 p72
theorem kf72_ok:KnownOk Proofs.Tryz.prog (kf72 Proofs.Tryz.prog):=kf13_ok.func ok72
abbrev as140:List Ty:=[(.slice (.pair (.int .i64) (.pair (.int .i64) (.pair (.int .i64) .unit)))),(.int .i64)]
abbrev rs140:List Ty:=[.bool]
def t140 (x0:(List (Int×(Int×(Int×Unit))))) (x1:Int):Tr (Tys.data rs140) :=
  Tr.test ((eqF x1 0:Bool))
    (Tr.test (decide ((0:Int) ≤ x1) && decide (x1 < (↑(List.length x0):Int)))
      (Tr.fin (((eqF (List.getD x0 (Int.toNat x1) ((0:Int),(0:Int),(0:Int),())).1 (0:Int):Bool),())))
      (Tr.stop))
    (Tr.test (decide ((0:Int) ≤ x1) && decide (x1 < (↑(List.length x0):Int)))
      (Tr.test ((decide ((0:Int) ≤ wrap64 (x1 - (1:Int))) && decide (wrap64 (x1 - (1:Int)) < (↑(List.length x0):Int)):Bool))
        (Tr.test ((!leF (List.getD x0 (Int.toNat x1) ((0:Int),(0:Int),(0:Int),())).1 (List.getD x0 (Int.toNat (wrap64 (x1 - (1:Int)))) ((0:Int),(0:Int),(0:Int),())).1:Bool))
          (Tr.test ((leF (List.getD x0 (Int.toNat (wrap64 (x1 - (1:Int)))) ((0:Int),(0:Int),(0:Int),())).2.1 (List.getD x0 (Int.toNat x1) ((0:Int),(0:Int),(0:Int),())).2.1:Bool))
            (Tr.fin (((leF (List.getD x0 (Int.toNat (wrap64 (x1 - (1:Int)))) ((0:Int),(0:Int),(0:Int),())).2.2.1 (List.getD x0 (Int.toNat x1) ((0:Int),(0:Int),(0:Int),())).2.2.1:Bool),())))
            (Tr.fin (((false:Bool),()))))
          (Tr.fin (((false:Bool),()))))
        (Tr.stop))
      (Tr.stop))
def f140 (d:Tys.data as140):Option (Tys.data rs140):=(t140 d.1 d.2.1).val
def g140 (d:Tys.data as140):Tys.data rs140:=(f140 d).getD (Tys.dflt rs140)
def p140:PureC:=pcOf as140 rs140 f140 g140
theorem wk140 (x0:(List (Int×(Int×(Int×Unit))))) (x1:Int):Walks (runPure (kf72 Proofs.Tryz.prog).orc Proofs.Tryz.prog 400 140 as140 rs140 (x0,x1,())) (t140 x0 x1) [(bl 2 3,[2,4]),(bl 5 30,[2,2,2,2,6,2,2,2,2,2,2,8,2,2,2,4,4,4,4,6,4,4,4,4,4,4,8,4,4,4,6,8,10]),(bl 5 14,[2,2,2,2,2,2,2,2,2,2,2,2,2,4,4,4,4,6,4,4,4,4,4,4,8,4,4,4,6,8,10]),(bl 4 6,[0,0,0,0,0,0,0,0,0,0,0,0,0,2,2,2,2,2,2,2,2,2,2,2,2,2,4,6,8])] :=
  ⟨by kernel_rfl,by kernel_rfl,by kernel_rfl,by kernel_rfl,trivial⟩
theorem ok140_t (x0:(List (Int×(Int×(Int×Unit))))) (x1:Int):TrOk (PureRuns Proofs.Tryz.prog (kf72 Proofs.Tryz.prog).orc 140 as140 rs140 (x0,x1,())) (t140 x0 x1) :=
  Walks.ok (fun _ _ _=>PureRuns.of) (wk140 x0 x1) (by kernel_rfl)
theorem ok140:PureOk Proofs.Tryz.prog 140 p140:=qac kf72_ok.base (T:=fun (d:Tys.data as140)=>t140 d.1 d.2.1) (by kernel_rfl) (fun (d:Tys.data as140)=>ok140_t d.1 d.2.1)
def kf140 (P:Go.Program):Known:=(kf72 P).func 140 p140
theorem kf140_ok:KnownOk Proofs.Tryz.prog (kf140 Proofs.Tryz.prog):=kf72_ok.func ok140
abbrev sh138_0:Sh:={ n:=25,slots:=[1,9,10,11],pats:=[.fn 139 [(0,1)],.ty (.slice (.pair (.int .i64) (.pair (.int .i64) (.pair (.int .i64) .unit)))),.ty (.int .i64),.ty (.int .i64)],boxes:=[.row [.ty (.slice (.pair (.int .i64) (.pair (.int .i64) (.pair (.int .i64) .unit))))]] }
abbrev shb138_0:Sh:={ n:=25,slots:=[],pats:=[],boxes:=[.row [.ty (.slice (.pair (.int .i64) (.pair (.int .i64) (.pair (.int .i64) .unit))))]] }
abbrev shr138_0:Sh:={ n:=25,slots:=[4,5],pats:=[.ty (.int .i64),.ty (.int .i64)],boxes:=[.row [.ty (.slice (.pair (.int .i64) (.pair (.int .i64) (.pair (.int .i64) .unit))))]] }
def t138_0 (x1:(List (Int×(Int×(Int×Unit))))) (x2:Int) (x3:Int) (b0_0:(List (Int×(Int×(Int×Unit))))):Tr (Out sh138_0.data shb138_0.data shr138_0.data) :=
  Tr.test ((!leF x2 x3:Bool))
    (Tr.test (decide ((0:Int) ≤ x3) && decide (x3 < (↑(List.length x1):Int)))
      (Tr.test (Option.isSome (f93 ((0:Int),((1000:Int),(([(List.getD x1 (Int.toNat x3) ((0:Int),(0:Int),(0:Int),())).1]:List Int),())))))
        (let r0:=g93 ((0:Int),((1000:Int),(([(List.getD x1 (Int.toNat x3) ((0:Int),(0:Int),(0:Int),())).1]:List Int),())));
        Tr.test ((!r0.1:Bool))
          (Tr.test (Option.isSome (f95 ((true:Bool),((2:Int),()))))
            (Tr.test ((!leF (List.getD x1 (Int.toNat x3) ((0:Int),(0:Int),(0:Int),())).2.1 (List.getD x1 (Int.toNat x3) ((0:Int),(0:Int),(0:Int),())).2.2.1:Bool))
              (Tr.test (Option.isSome (f95 ((true:Bool),((9:Int),()))))
                (let r1:=g95 ((true:Bool),((2:Int),()));
                let r2:=g95 ((true:Bool),((9:Int),()));
                Tr.test (Option.isSome (f94 (([r1.1,r2.1]:List Int),())))
                  (let r7:=g94 (([r1.1,r2.1]:List Int),());
                  Tr.test ((!eqF r7.1 0:Bool))
                    (Tr.fin (.ret ((x3,(r7.1,())),((b0_0,()),()))))
                    (Tr.fin (.again ((x1,(x2,((wrap64 (x3 + (1:Int)):Int),()))),((b0_0,()),())))))
                  (Tr.stop))
                (Tr.stop))
              (Tr.test (Option.isSome (f140 (b0_0,(x3,()))))
                (let r3:=g140 (b0_0,(x3,()));
                Tr.test (Option.isSome (f95 ((!r3.1:Bool),((9:Int),()))))
                  (let r1:=g95 ((true:Bool),((2:Int),()));
                  let r4:=g95 ((!r3.1:Bool),((9:Int),()));
                  Tr.test (Option.isSome (f94 (([r1.1,r4.1]:List Int),())))
                    (let r8:=g94 (([r1.1,r4.1]:List Int),());
                    Tr.test ((!eqF r8.1 0:Bool))
                      (Tr.fin (.ret ((x3,(r8.1,())),((b0_0,()),()))))
                      (Tr.fin (.again ((x1,(x2,((wrap64 (x3 + (1:Int)):Int),()))),((b0_0,()),())))))
                    (Tr.stop))
                  (Tr.stop))
                (Tr.stop)))
            (Tr.stop))
          (Tr.test (Option.isSome (f93 ((0:Int),((50:Int),(([(List.getD x1 (Int.toNat x3) ((0:Int),(0:Int),(0:Int),())).2.1,(List.getD x1 (Int.toNat x3) ((0:Int),(0:Int),(0:Int),())).2.2.1]:List Int),())))))
            (let r5:=g93 ((0:Int),((50:Int),(([(List.getD x1 (Int.toNat x3) ((0:Int),(0:Int),(0:Int),())).2.1,(List.getD x1 (Int.toNat x3) ((0:Int),(0:Int),(0:Int),())).2.2.1]:List Int),())));
            Tr.test (Option.isSome (f95 ((!r5.1:Bool),((2:Int),()))))
              (Tr.test ((!leF (List.getD x1 (Int.toNat x3) ((0:Int),(0:Int),(0:Int),())).2.1 (List.getD x1 (Int.toNat x3) ((0:Int),(0:Int),(0:Int),())).2.2.1:Bool))
                (Tr.test (Option.isSome (f95 ((true:Bool),((9:Int),()))))
                  (let r2:=g95 ((true:Bool),((9:Int),()));
                  let r6:=g95 ((!r5.1:Bool),((2:Int),()));
                  Tr.test (Option.isSome (f94 (([r6.1,r2.1]:List Int),())))
                    (let r9:=g94 (([r6.1,r2.1]:List Int),());
                    Tr.test ((!eqF r9.1 0:Bool))
                      (Tr.fin (.ret ((x3,(r9.1,())),((b0_0,()),()))))
                      (Tr.fin (.again ((x1,(x2,((wrap64 (x3 + (1:Int)):Int),()))),((b0_0,()),())))))
                    (Tr.stop))
                  (Tr.stop))
                (Tr.test (Option.isSome (f140 (b0_0,(x3,()))))
                  (let r3:=g140 (b0_0,(x3,()));
                  Tr.test (Option.isSome (f95 ((!r3.1:Bool),((9:Int),()))))
                    (let r4:=g95 ((!r3.1:Bool),((9:Int),()));
                    let r6:=g95 ((!r5.1:Bool),((2:Int),()));
                    Tr.test (Option.isSome (f94 (([r6.1,r4.1]:List Int),())))
                      (let r10:=g94 (([r6.1,r4.1]:List Int),());
                      Tr.test ((!eqF r10.1 0:Bool))
                        (Tr.fin (.ret ((x3,(r10.1,())),((b0_0,()),()))))
                        (Tr.fin (.again ((x1,(x2,((wrap64 (x3 + (1:Int)):Int),()))),((b0_0,()),())))))
                      (Tr.stop))
                    (Tr.stop))
                  (Tr.stop)))
              (Tr.stop))
            (Tr.stop)))
        (Tr.stop))
      (Tr.stop))
    (Tr.fin (.brk ((),((b0_0,()),()))))
def s138_0 (d:sh138_0.data):Option (Out sh138_0.data shb138_0.data shr138_0.data):=(t138_0 d.1.1 d.1.2.1 d.1.2.2.1 d.2.1.1).val
def l138_0 (d:sh138_0.data):Option (shb138_0.data ⊕ shr138_0.data):=itr s138_0 rounds d
def b138_0 (d:sh138_0.data):shb138_0.data:=outB shb138_0.dflt (l138_0 d)
def r138_0 (d:sh138_0.data):shr138_0.data:=outR shr138_0.dflt (l138_0 d)
def lc138_0:LoopC:=lcOf sh138_0 shb138_0 shr138_0 l138_0 b138_0 r138_0
theorem wk138_0 (x1:(List (Int×(Int×(Int×Unit))))) (x2:Int) (x3:Int) (b0_0:(List (Int×(Int×(Int×Unit))))):Walks (qaq (kf140 Proofs.Tryz.prog).orc Proofs.Tryz.prog 400 138 0 sh138_0 shb138_0 shr138_0 ((x1,x2,x3,()),(b0_0,()),())) (t138_0 x1 x2 x3 b0_0) [(bl 9 511,[2,4,6,8,8,8,8,8,10,12,12,12,12,12,12,12,12,14,16,18]),(bl 9 255,[2,4,6,8,8,8,8,8,10,12,12,12,12,12,12,12,12,14,16,18]),(bl 10 991,[2,4,6,10,10,8,10,10,10,12,14,14,14,14,14,14,14,14,16,18,20]),(bl 10 479,[2,4,6,10,10,8,10,10,10,12,14,14,14,14,14,14,14,14,16,18,20]),(bl 10 1015,[2,4,6,8,8,8,8,8,10,14,14,12,14,14,14,14,14,14,16,18,20]),(bl 10 503,[2,4,6,8,8,8,8,8,10,14,14,12,14,14,14,14,14,14,16,18,20]),(bl 11 1975,[2,4,6,10,10,8,10,10,10,12,16,16,14,16,16,16,16,16,16,18,20,22]),(bl 11 951,[2,4,6,10,10,8,10,10,10,12,16,16,14,16,16,16,16,16,16,18,20,22]),(bl 1 0,[2])] :=
  ⟨by kernel_rfl,by kernel_rfl,by kernel_rfl,by kernel_rfl,by kernel_rfl,by kernel_rfl,by kernel_rfl,by kernel_rfl,by kernel_rfl,trivial⟩
theorem ok138_0_t (x1:(List (Int×(Int×(Int×Unit))))) (x2:Int) (x3:Int) (b0_0:(List (Int×(Int×(Int×Unit))))):TrOk (BodyRuns Proofs.Tryz.prog (kf140 Proofs.Tryz.prog).orc 138 0 sh138_0 shb138_0 shr138_0 ((x1,x2,x3,()),(b0_0,()),())) (t138_0 x1 x2 x3 b0_0) :=
  Walks.ok (fun _ _ _=>BodyRuns.of) (wk138_0 x1 x2 x3 b0_0) (by kernel_rfl)
theorem ok138_0:qat Proofs.Tryz.prog 138 0 lc138_0:=qbC (sh:=sh138_0) (shB:=shb138_0) (shR:=shr138_0) kf140_ok.base (T:=fun (d:sh138_0.data)=>t138_0 d.1.1 d.1.2.1 d.1.2.2.1 d.2.1.1) (by kernel_rfl) rfl (fun (d:sh138_0.data)=>ok138_0_t d.1.1 d.1.2.1 d.1.2.2.1 d.2.1.1) (fun _=>rfl)
def kl138_0 (P:Go.Program):Known:=(kf140 P).loop 138 0 lc138_0
theorem kl138_0_ok:KnownOk Proofs.Tryz.prog (kl138_0 Proofs.Tryz.prog):=kf140_ok.loop ok138_0
abbrev as71:List Ty:=[(.slice (.pair (.int .i64) (.pair (.int .i64) (.pair (.int .i64) .unit))))]
abbrev rs71:List Ty:=[(.int .i64),(.int .i64)]
def t71 (x0:(List (Int×(Int×(Int×Unit))))):Tr (Tys.data rs71) :=
  Tr.test (Option.isSome (f90 ((↑(List.length x0):Int),())))
    (let r0:=g90 ((↑(List.length x0):Int),());
    Tr.test ((!eqF r0.1 0:Bool))
      (Tr.fin (((0:Int),(r0.1,()))))
      (Tr.test (Option.isSome (l138_0 ((x0,((↑(List.length x0):Int),((0:Int),()))),((x0,()),()))))
        (Tr.test (qb5 (l138_0 ((x0,((↑(List.length x0):Int),((0:Int),()))),((x0,()),()))))
          (let r1:=r138_0 ((x0,((↑(List.length x0):Int),((0:Int),()))),((x0,()),()));
          Tr.fin ((r1.1.1,(r1.1.2.1,()))))
          (Tr.fin (((0:Int),((0:Int),())))))
        (Tr.stop)))
    (Tr.stop)
def f71 (d:Tys.data as71):Option (Tys.data rs71):=(t71 d.1).val
def g71 (d:Tys.data as71):Tys.data rs71:=(f71 d).getD (Tys.dflt rs71)
def p71:PureC:=pcOf as71 rs71 f71 g71
theorem wk71 (x0:(List (Int×(Int×(Int×Unit))))):Walks (runPure (kl138_0 Proofs.Tryz.prog).orc Proofs.Tryz.prog 400 71 as71 rs71 (x0,())) (t71 x0) [(bl 2 3,[2,4]),(bl 4 13,[2,4,6,8]),(bl 4 5,[2,4,6,8])] :=
  ⟨by kernel_rfl,by kernel_rfl,by kernel_rfl,trivial⟩
theorem ok71_t (x0:(List (Int×(Int×(Int×Unit))))):TrOk (PureRuns Proofs.Tryz.prog (kl138_0 Proofs.Tryz.prog).orc 71 as71 rs71 (x0,())) (t71 x0) :=
  Walks.ok (fun _ _ _=>PureRuns.of) (wk71 x0) (by kernel_rfl)
theorem ok71:PureOk Proofs.Tryz.prog 71 p71:=qac kl138_0_ok.base (T:=fun (d:Tys.data as71)=>t71 d.1) (by kernel_rfl) (fun (d:Tys.data as71)=>ok71_t d.1)
def kf71 (P:Go.Program):Known:=(kl138_0 P).func 71 p71
theorem kf71_ok:KnownOk Proofs.Tryz.prog (kf71 Proofs.Tryz.prog):=kl138_0_ok.func ok71
abbrev as176:List Ty:=[(.pair (.int .i64) (.pair (.int .i64) (.pair (.int .i64) .unit)))]
abbrev rs176:List Ty:=[(.pair (.int .i64) (.pair (.int .i64) .unit))]
def t176 (x0:Int) (x0':Int) (x0'':Int):Tr (Tys.data rs176) :=
  Tr.fin (((x0,(x0',())),()))
def f176 (d:Tys.data as176):Option (Tys.data rs176):=(t176 d.1.1 d.1.2.1 d.1.2.2.1).val
def g176 (d:Tys.data as176):Tys.data rs176:=(f176 d).getD (Tys.dflt rs176)
def p176:PureC:=pcOf as176 rs176 f176 g176
theorem wk176 (x0:Int) (x0':Int) (x0'':Int):Walks (runPure (kf71 Proofs.Tryz.prog).orc Proofs.Tryz.prog 400 176 as176 rs176 ((x0,x0',x0'',()),())) (t176 x0 x0' x0'') [(bl 0 0,[])] :=
  ⟨by kernel_rfl,trivial⟩
theorem ok176_t (x0:Int) (x0':Int) (x0'':Int):TrOk (PureRuns Proofs.Tryz.prog (kf71 Proofs.Tryz.prog).orc 176 as176 rs176 ((x0,x0',x0'',()),())) (t176 x0 x0' x0'') :=
  Walks.ok (fun _ _ _=>PureRuns.of) (wk176 x0 x0' x0'') (by kernel_rfl)
theorem ok176:PureOk Proofs.Tryz.prog 176 p176:=qac kf71_ok.base (T:=fun (d:Tys.data as176)=>t176 d.1.1 d.1.2.1 d.1.2.2.1) (by kernel_rfl) (fun (d:Tys.data as176)=>ok176_t d.1.1 d.1.2.1 d.1.2.2.1)
def kf176 (P:Go.Program):Known:=(kf71 P).func 176 p176
theorem kf176_ok:KnownOk Proofs.Tryz.prog (kf176 Proofs.Tryz.prog):=kf71_ok.func ok176
abbrev as177:List Ty:=[(.pair (.int .i64) (.pair (.int .i64) (.pair (.int .i64) .unit)))]
abbrev rs177:List Ty:=[(.pair (.int .i64) (.pair (.int .i64) .unit))]
def t177 (x0:Int) (x0':Int) (x0'':Int):Tr (Tys.data rs177) :=
  Tr.fin (((x0,(x0'',())),()))
def f177 (d:Tys.data as177):Option (Tys.data rs177):=(t177 d.1.1 d.1.2.1 d.1.2.2.1).val
def g177 (d:Tys.data as177):Tys.data rs177:=(f177 d).getD (Tys.dflt rs177)
def p177:PureC:=pcOf as177 rs177 f177 g177
theorem wk177 (x0:Int) (x0':Int) (x0'':Int):Walks (runPure (kf176 Proofs.Tryz.prog).orc Proofs.Tryz.prog 400 177 as177 rs177 ((x0,x0',x0'',()),())) (t177 x0 x0' x0'') [(bl 0 0,[])] :=
  ⟨by kernel_rfl,trivial⟩
theorem ok177_t (x0:Int) (x0':Int) (x0'':Int):TrOk (PureRuns Proofs.Tryz.prog (kf176 Proofs.Tryz.prog).orc 177 as177 rs177 ((x0,x0',x0'',()),())) (t177 x0 x0' x0'') :=
  Walks.ok (fun _ _ _=>PureRuns.of) (wk177 x0 x0' x0'') (by kernel_rfl)
theorem ok177:PureOk Proofs.Tryz.prog 177 p177:=qac kf176_ok.base (T:=fun (d:Tys.data as177)=>t177 d.1.1 d.1.2.1 d.1.2.2.1) (by kernel_rfl) (fun (d:Tys.data as177)=>ok177_t d.1.1 d.1.2.1 d.1.2.2.1)
def kf177 (P:Go.Program):Known:=(kf176 P).func 177 p177
theorem kf177_ok:KnownOk Proofs.Tryz.prog (kf177 Proofs.Tryz.prog):=kf176_ok.func ok177
abbrev sh175_0:Sh:={ n:=22,slots:=[1,5,8,9,10],pats:=[.fn 176 [],.aco (.pair (.int .i64) (.pair (.int .i64) .unit)),.ty (.slice (.pair (.int .i64) (.pair (.int .i64) (.pair (.int .i64) .unit)))),.ty (.int .i64),.ty (.int .i64)],boxes:=[] }
abbrev shb175_0:Sh:={ n:=22,slots:=[5],pats:=[.aco (.pair (.int .i64) (.pair (.int .i64) .unit))],boxes:=[] }
abbrev shr175_0:Sh:={ n:=22,slots:=[],pats:=[],boxes:=[] }
def t175_0 (x1:(List (Int×(Int×Unit)))) (x2:(List (Int×(Int×(Int×Unit))))) (x3:Int) (x4:Int):Tr (Out sh175_0.data shb175_0.data shr175_0.data) :=
  Tr.test ((!leF x3 x4:Bool))
    (Tr.test (decide ((0:Int) ≤ x4) && decide (x4 < (↑(List.length x2):Int)))
      (Tr.test (Option.isSome (f176 ((((List.getD x2 (Int.toNat x4) ((0:Int),(0:Int),(0:Int),())).1:Int),(((List.getD x2 (Int.toNat x4) ((0:Int),(0:Int),(0:Int),())).2.1:Int),(((List.getD x2 (Int.toNat x4) ((0:Int),(0:Int),(0:Int),())).2.2.1:Int),()))),())))
        (Tr.test ((Nat.ble (((2:Nat) * (List.length x1 + (1:Nat)) + (192:Nat)) * (16:Nat)) (281474976710656:Nat) && Nat.ble (List.length x1 + (1:Nat)) (281474976710656:Nat):Bool))
          (let r0:=g176 ((((List.getD x2 (Int.toNat x4) ((0:Int),(0:Int),(0:Int),())).1:Int),(((List.getD x2 (Int.toNat x4) ((0:Int),(0:Int),(0:Int),())).2.1:Int),(((List.getD x2 (Int.toNat x4) ((0:Int),(0:Int),(0:Int),())).2.2.1:Int),()))),());
          Tr.fin (.again (((x1++[(r0.1.1,r0.1.2.1,())]:List (Int×Int×PUnit)),(x2,(x3,((wrap64 (x4 + (1:Int)):Int),())))),())))
          (Tr.stop))
        (Tr.stop))
      (Tr.stop))
    (Tr.fin (.brk ((x1,()),())))
def s175_0 (d:sh175_0.data):Option (Out sh175_0.data shb175_0.data shr175_0.data):=(t175_0 d.1.1 d.1.2.1 d.1.2.2.1 d.1.2.2.2.1).val
def l175_0 (d:sh175_0.data):Option (shb175_0.data ⊕ shr175_0.data):=itr s175_0 rounds d
def b175_0 (d:sh175_0.data):shb175_0.data:=outB shb175_0.dflt (l175_0 d)
def lc175_0:LoopC:=lcB sh175_0 shb175_0 shr175_0 l175_0 b175_0
theorem wk175_0 (x1:(List (Int×(Int×Unit)))) (x2:(List (Int×(Int×(Int×Unit))))) (x3:Int) (x4:Int):Walks (qaq (kf177 Proofs.Tryz.prog).orc Proofs.Tryz.prog 400 175 0 sh175_0 shb175_0 shr175_0 ((x1,x2,x3,x4,()),())) (t175_0 x1 x2 x3 x4) [(bl 4 15,[2,4,6,8]),(bl 1 0,[2])] :=
  ⟨by kernel_rfl,by kernel_rfl,trivial⟩
theorem ok175_0_t (x1:(List (Int×(Int×Unit)))) (x2:(List (Int×(Int×(Int×Unit))))) (x3:Int) (x4:Int):TrOk (BodyRuns Proofs.Tryz.prog (kf177 Proofs.Tryz.prog).orc 175 0 sh175_0 shb175_0 shr175_0 ((x1,x2,x3,x4,()),())) (t175_0 x1 x2 x3 x4) :=
  Walks.ok (fun _ _ _=>BodyRuns.of) (wk175_0 x1 x2 x3 x4) (by kernel_rfl)
theorem ok175_0:qat Proofs.Tryz.prog 175 0 lc175_0:=qap (sh:=sh175_0) (shB:=shb175_0) (shR:=shr175_0) kf177_ok.base (T:=fun (d:sh175_0.data)=>t175_0 d.1.1 d.1.2.1 d.1.2.2.1 d.1.2.2.2.1) (by kernel_rfl) rfl (fun (d:sh175_0.data)=>ok175_0_t d.1.1 d.1.2.1 d.1.2.2.1 d.1.2.2.2.1) (fun _=>rfl)
def kl175_0 (P:Go.Program):Known:=(kf177 P).loop 175 0 lc175_0
theorem kl175_0_ok:KnownOk Proofs.Tryz.prog (kl175_0 Proofs.Tryz.prog):=kf177_ok.loop ok175_0
abbrev sh175_0_1:Sh:={ n:=22,slots:=[1,5,8,9,10],pats:=[.fn 177 [],.aco (.pair (.int .i64) (.pair (.int .i64) .unit)),.ty (.slice (.pair (.int .i64) (.pair (.int .i64) (.pair (.int .i64) .unit)))),.ty (.int .i64),.ty (.int .i64)],boxes:=[] }
abbrev shb175_0_1:Sh:={ n:=22,slots:=[5],pats:=[.aco (.pair (.int .i64) (.pair (.int .i64) .unit))],boxes:=[] }
abbrev shr175_0_1:Sh:={ n:=22,slots:=[],pats:=[],boxes:=[] }
def t175_0_1 (x1:(List (Int×(Int×Unit)))) (x2:(List (Int×(Int×(Int×Unit))))) (x3:Int) (x4:Int):Tr (Out sh175_0_1.data shb175_0_1.data shr175_0_1.data) :=
  Tr.test ((!leF x3 x4:Bool))
    (Tr.test (decide ((0:Int) ≤ x4) && decide (x4 < (↑(List.length x2):Int)))
      (Tr.test (Option.isSome (f177 ((((List.getD x2 (Int.toNat x4) ((0:Int),(0:Int),(0:Int),())).1:Int),(((List.getD x2 (Int.toNat x4) ((0:Int),(0:Int),(0:Int),())).2.1:Int),(((List.getD x2 (Int.toNat x4) ((0:Int),(0:Int),(0:Int),())).2.2.1:Int),()))),())))
        (Tr.test ((Nat.ble (((2:Nat) * (List.length x1 + (1:Nat)) + (192:Nat)) * (16:Nat)) (281474976710656:Nat) && Nat.ble (List.length x1 + (1:Nat)) (281474976710656:Nat):Bool))
          (let r0:=g177 ((((List.getD x2 (Int.toNat x4) ((0:Int),(0:Int),(0:Int),())).1:Int),(((List.getD x2 (Int.toNat x4) ((0:Int),(0:Int),(0:Int),())).2.1:Int),(((List.getD x2 (Int.toNat x4) ((0:Int),(0:Int),(0:Int),())).2.2.1:Int),()))),());
          Tr.fin (.again (((x1++[(r0.1.1,r0.1.2.1,())]:List (Int×Int×PUnit)),(x2,(x3,((wrap64 (x4 + (1:Int)):Int),())))),())))
          (Tr.stop))
        (Tr.stop))
      (Tr.stop))
    (Tr.fin (.brk ((x1,()),())))
def s175_0_1 (d:sh175_0_1.data):Option (Out sh175_0_1.data shb175_0_1.data shr175_0_1.data):=(t175_0_1 d.1.1 d.1.2.1 d.1.2.2.1 d.1.2.2.2.1).val
def l175_0_1 (d:sh175_0_1.data):Option (shb175_0_1.data ⊕ shr175_0_1.data):=itr s175_0_1 rounds d
def b175_0_1 (d:sh175_0_1.data):shb175_0_1.data:=outB shb175_0_1.dflt (l175_0_1 d)
def lc175_0_1:LoopC:=lcB sh175_0_1 shb175_0_1 shr175_0_1 l175_0_1 b175_0_1
theorem wk175_0_1 (x1:(List (Int×(Int×Unit)))) (x2:(List (Int×(Int×(Int×Unit))))) (x3:Int) (x4:Int):Walks (qaq (kl175_0 Proofs.Tryz.prog).orc Proofs.Tryz.prog 400 175 0 sh175_0_1 shb175_0_1 shr175_0_1 ((x1,x2,x3,x4,()),())) (t175_0_1 x1 x2 x3 x4) [(bl 4 15,[2,4,6,8]),(bl 1 0,[2])] :=
  ⟨by kernel_rfl,by kernel_rfl,trivial⟩
theorem ok175_0_1_t (x1:(List (Int×(Int×Unit)))) (x2:(List (Int×(Int×(Int×Unit))))) (x3:Int) (x4:Int):TrOk (BodyRuns Proofs.Tryz.prog (kl175_0 Proofs.Tryz.prog).orc 175 0 sh175_0_1 shb175_0_1 shr175_0_1 ((x1,x2,x3,x4,()),())) (t175_0_1 x1 x2 x3 x4) :=
  Walks.ok (fun _ _ _=>BodyRuns.of) (wk175_0_1 x1 x2 x3 x4) (by kernel_rfl)
theorem ok175_0_1:qat Proofs.Tryz.prog 175 0 lc175_0_1:=qap (sh:=sh175_0_1) (shB:=shb175_0_1) (shR:=shr175_0_1) kl175_0_ok.base (T:=fun (d:sh175_0_1.data)=>t175_0_1 d.1.1 d.1.2.1 d.1.2.2.1 d.1.2.2.2.1) (by kernel_rfl) rfl (fun (d:sh175_0_1.data)=>ok175_0_1_t d.1.1 d.1.2.1 d.1.2.2.1 d.1.2.2.2.1) (fun _=>rfl)
def kl175_0_1 (P:Go.Program):Known:=(kl175_0 P).loop 175 0 lc175_0_1
theorem kl175_0_1_ok:KnownOk Proofs.Tryz.prog (kl175_0_1 Proofs.Tryz.prog):=kl175_0_ok.loop ok175_0_1
abbrev as141:List Ty:=[(.slice (.pair (.int .i64) (.pair (.int .i64) (.pair (.int .i64) .unit))))]
abbrev rs141:List Ty:=[(.pair (.slice (.pair (.int .i64) (.pair (.int .i64) .unit))) (.pair (.slice (.pair (.int .i64) (.pair (.int .i64) .unit))) .unit)),(.int .i64)]
def t141 (x0:(List (Int×(Int×(Int×Unit))))):Tr (Tys.data rs141) :=
  Tr.test (Option.isSome (f71 (x0,())))
    (let r0:=g71 (x0,());
    Tr.test ((!eqF r0.2.1 0:Bool))
      (Tr.fin (((([]:List (Int×Int×PUnit)),(([]:List (Int×Int×PUnit)),())),(r0.2.1,()))))
      (Tr.test (qaV (l175_0 ((([]:List (Int×Int×PUnit)),(x0,((↑(List.length x0):Int),((0:Int),())))),())))
        (Tr.test (qaV (l175_0_1 ((([]:List (Int×Int×PUnit)),(x0,((↑(List.length x0):Int),((0:Int),())))),())))
          (let r1:=b175_0 ((([]:List (Int×Int×PUnit)),(x0,((↑(List.length x0):Int),((0:Int),())))),());
          let r2:=b175_0_1 ((([]:List (Int×Int×PUnit)),(x0,((↑(List.length x0):Int),((0:Int),())))),());
          Tr.fin (((r1.1.1,(r2.1.1,())),((0:Int),()))))
          (Tr.stop))
        (Tr.stop)))
    (Tr.stop)
def f141 (d:Tys.data as141):Option (Tys.data rs141):=(t141 d.1).val
def g141 (d:Tys.data as141):Tys.data rs141:=(f141 d).getD (Tys.dflt rs141)
def p141:PureC:=pcOf as141 rs141 f141 g141
theorem wk141 (x0:(List (Int×(Int×(Int×Unit))))):Walks (runPure (kl175_0_1 Proofs.Tryz.prog).orc Proofs.Tryz.prog 400 141 as141 rs141 (x0,())) (t141 x0) [(bl 2 3,[2,4]),(bl 4 13,[1,2,1,4,6,8])] :=
  ⟨by kernel_rfl,by kernel_rfl,trivial⟩
theorem ok141_t (x0:(List (Int×(Int×(Int×Unit))))):TrOk (PureRuns Proofs.Tryz.prog (kl175_0_1 Proofs.Tryz.prog).orc 141 as141 rs141 (x0,())) (t141 x0) :=
  Walks.ok (fun _ _ _=>PureRuns.of) (wk141 x0) (by kernel_rfl)
theorem ok141:PureOk Proofs.Tryz.prog 141 p141:=qac kl175_0_1_ok.base (T:=fun (d:Tys.data as141)=>t141 d.1) (by kernel_rfl) (fun (d:Tys.data as141)=>ok141_t d.1)
def kf141 (P:Go.Program):Known:=(kl175_0_1 P).func 141 p141
theorem kf141_ok:KnownOk Proofs.Tryz.prog (kf141 Proofs.Tryz.prog):=kl175_0_1_ok.func ok141
abbrev as144:List Ty:=[(.pair (.int .i64) (.pair (.int .i64) .unit))]
abbrev rs144:List Ty:=[(.int .i64)]
def t144 (x0:Int) (x0':Int):Tr (Tys.data rs144) :=
  Tr.test ((x0' == (0:Int):Bool))
    (Tr.stop)
    (Tr.fin (((Go.IntKind.wrap Go.IntKind.i64 (Int.tdiv x0 x0'):Int),())))
def f144 (d:Tys.data as144):Option (Tys.data rs144):=(t144 d.1.1 d.1.2.1).val
def g144 (d:Tys.data as144):Tys.data rs144:=(f144 d).getD (Tys.dflt rs144)
def p144:PureC:=pcOf as144 rs144 f144 g144
theorem wk144 (x0:Int) (x0':Int):Walks (runPure (kf141 Proofs.Tryz.prog).orc Proofs.Tryz.prog 400 144 as144 rs144 ((x0,x0',()),())) (t144 x0 x0') [(bl 1 0,[2])] :=
  ⟨by kernel_rfl,trivial⟩
theorem ok144_t (x0:Int) (x0':Int):TrOk (PureRuns Proofs.Tryz.prog (kf141 Proofs.Tryz.prog).orc 144 as144 rs144 ((x0,x0',()),())) (t144 x0 x0') :=
  Walks.ok (fun _ _ _=>PureRuns.of) (wk144 x0 x0') (by kernel_rfl)
theorem ok144:PureOk Proofs.Tryz.prog 144 p144:=qac kf141_ok.base (T:=fun (d:Tys.data as144)=>t144 d.1.1 d.1.2.1) (by kernel_rfl) (fun (d:Tys.data as144)=>ok144_t d.1.1 d.1.2.1)
def kf144 (P:Go.Program):Known:=(kf141 P).func 144 p144
theorem kf144_ok:KnownOk Proofs.Tryz.prog (kf144 Proofs.Tryz.prog):=kf141_ok.func ok144
abbrev as145:List Ty:=[(.pair (.int .i64) (.pair (.int .i64) .unit))]
abbrev rs145:List Ty:=[(.int .i64)]
def t145 (x0:Int) (x0':Int):Tr (Tys.data rs145) :=
  Tr.test ((x0' == (0:Int):Bool))
    (Tr.stop)
    (Tr.fin (((Go.IntKind.wrap Go.IntKind.i64 (Int.tdiv (wrap64 (wrap64 (x0 + x0') - (1:Int))) x0'):Int),())))
def f145 (d:Tys.data as145):Option (Tys.data rs145):=(t145 d.1.1 d.1.2.1).val
def g145 (d:Tys.data as145):Tys.data rs145:=(f145 d).getD (Tys.dflt rs145)
def p145:PureC:=pcOf as145 rs145 f145 g145
theorem wk145 (x0:Int) (x0':Int):Walks (runPure (kf144 Proofs.Tryz.prog).orc Proofs.Tryz.prog 400 145 as145 rs145 ((x0,x0',()),())) (t145 x0 x0') [(bl 1 0,[2])] :=
  ⟨by kernel_rfl,trivial⟩
theorem ok145_t (x0:Int) (x0':Int):TrOk (PureRuns Proofs.Tryz.prog (kf144 Proofs.Tryz.prog).orc 145 as145 rs145 ((x0,x0',()),())) (t145 x0 x0') :=
  Walks.ok (fun _ _ _=>PureRuns.of) (wk145 x0 x0') (by kernel_rfl)
theorem ok145:PureOk Proofs.Tryz.prog 145 p145:=qac kf144_ok.base (T:=fun (d:Tys.data as145)=>t145 d.1.1 d.1.2.1) (by kernel_rfl) (fun (d:Tys.data as145)=>ok145_t d.1.1 d.1.2.1)
def kf145 (P:Go.Program):Known:=(kf144 P).func 145 p145
theorem kf145_ok:KnownOk Proofs.Tryz.prog (kf145 Proofs.Tryz.prog):=kf144_ok.func ok145
abbrev as73:List Ty:=[(.slice (.pair (.int .i64) (.pair (.int .i64) (.pair (.int .i64) .unit)))),(.pair (.int .i64) (.pair (.int .i64) .unit))]
abbrev rs73:List Ty:=[(.pair (.int .i64) (.pair (.int .i64) .unit)),(.int .i64)]
def t73 (x0:(List (Int×(Int×(Int×Unit))))) (x1:Int) (x1':Int):Tr (Tys.data rs73) :=
  Tr.test (Option.isSome (f141 (x0,())))
    (let r0:=g141 (x0,());
    Tr.test ((!eqF r0.2.1 0:Bool))
      (Tr.fin ((((0:Int),((0:Int),())),(r0.2.1,()))))
      (Tr.test (Option.isSome (f143 (r0.1.1,())))
        (let r1:=g143 (r0.1.1,());
        Tr.test (Option.isSome (f142 ((0:Int),(r1.1,((x1,(x1',())),())))))
          (let r2:=g142 ((0:Int),(r1.1,((x1,(x1',())),())));
          Tr.test ((!eqF r2.1 0:Bool))
            (Tr.fin ((((0:Int),((0:Int),())),(r2.1,()))))
            (Tr.test (Option.isSome (f98 (r0.1.1,(x1,()))))
              (let r3:=g98 (r0.1.1,(x1,()));
              Tr.test (Option.isSome (f144 ((r3.1.1,(r3.1.2.1,())),())))
                (Tr.test (Option.isSome (f98 (r0.1.2.1,(x1',()))))
                  (let r5:=g98 (r0.1.2.1,(x1',()));
                  Tr.test (Option.isSome (f145 ((r5.1.1,(r5.1.2.1,())),())))
                    (let r4:=g144 ((r3.1.1,(r3.1.2.1,())),());
                    let r6:=g145 ((r5.1.1,(r5.1.2.1,())),());
                    Tr.fin (((r4.1,(r6.1,())),((0:Int),()))))
                    (Tr.stop))
                  (Tr.stop))
                (Tr.stop))
              (Tr.stop)))
          (Tr.stop))
        (Tr.stop)))
    (Tr.stop)
def f73 (d:Tys.data as73):Option (Tys.data rs73):=(t73 d.1 d.2.1.1 d.2.1.2.1).val
def g73 (d:Tys.data as73):Tys.data rs73:=(f73 d).getD (Tys.dflt rs73)
def p73:PureC:=pcOf as73 rs73 f73 g73
theorem wk73 (x0:(List (Int×(Int×(Int×Unit))))) (x1:Int) (x1':Int):Walks (runPure (kf145 Proofs.Tryz.prog).orc Proofs.Tryz.prog 400 73 as73 rs73 (x0,(x1,x1',()),())) (t73 x0 x1 x1') [(bl 2 3,[2,4]),(bl 5 29,[2,4,6,8,10]),(bl 9 493,[2,4,6,8,10,12,14,16,18])] :=
  ⟨by kernel_rfl,by kernel_rfl,by kernel_rfl,trivial⟩
theorem ok73_t (x0:(List (Int×(Int×(Int×Unit))))) (x1:Int) (x1':Int):TrOk (PureRuns Proofs.Tryz.prog (kf145 Proofs.Tryz.prog).orc 73 as73 rs73 (x0,(x1,x1',()),())) (t73 x0 x1 x1') :=
  Walks.ok (fun _ _ _=>PureRuns.of) (wk73 x0 x1 x1') (by kernel_rfl)
theorem ok73:PureOk Proofs.Tryz.prog 73 p73:=qac kf145_ok.base (T:=fun (d:Tys.data as73)=>t73 d.1 d.2.1.1 d.2.1.2.1) (by kernel_rfl) (fun (d:Tys.data as73)=>ok73_t d.1 d.2.1.1 d.2.1.2.1)
def kf73 (P:Go.Program):Known:=(kf145 P).func 73 p73
theorem kf73_ok:KnownOk Proofs.Tryz.prog (kf73 Proofs.Tryz.prog):=kf145_ok.func ok73
abbrev as146:List Ty:=[(.int .i64)]
abbrev rs146:List Ty:=[(.int .i64)]
def t146 (x0:Int):Tr (Tys.data rs146) :=
  Tr.test (Option.isSome (f93 ((0:Int),((50:Int),(([x0]:List Int),())))))
    (let r0:=g93 ((0:Int),((50:Int),(([x0]:List Int),())));
    Tr.test (Option.isSome (f95 ((!r0.1:Bool),((2:Int),()))))
      (let r1:=g95 ((!r0.1:Bool),((2:Int),()));
      Tr.fin ((r1.1,())))
      (Tr.stop))
    (Tr.stop)
def f146 (d:Tys.data as146):Option (Tys.data rs146):=(t146 d.1).val
def g146 (d:Tys.data as146):Tys.data rs146:=(f146 d).getD (Tys.dflt rs146)
def p146:PureC:=pcOf as146 rs146 f146 g146
theorem wk146 (x0:Int):Walks (runPure (kf73 Proofs.Tryz.prog).orc Proofs.Tryz.prog 400 146 as146 rs146 (x0,())) (t146 x0) [(bl 2 3,[2,4])] :=
  ⟨by kernel_rfl,trivial⟩
theorem ok146_t (x0:Int):TrOk (PureRuns Proofs.Tryz.prog (kf73 Proofs.Tryz.prog).orc 146 as146 rs146 (x0,())) (t146 x0) :=
  Walks.ok (fun _ _ _=>PureRuns.of) (wk146 x0) (by kernel_rfl)
theorem ok146:PureOk Proofs.Tryz.prog 146 p146:=qac kf73_ok.base (T:=fun (d:Tys.data as146)=>t146 d.1) (by kernel_rfl) (fun (d:Tys.data as146)=>ok146_t d.1)
def kf146 (P:Go.Program):Known:=(kf73 P).func 146 p146
theorem kf146_ok:KnownOk Proofs.Tryz.prog (kf146 Proofs.Tryz.prog):=kf73_ok.func ok146
abbrev as74:List Ty:=[(.slice (.pair (.int .i64) (.pair (.int .i64) (.pair (.int .i64) .unit)))),(.int .i64)]
abbrev rs74:List Ty:=[(.int .i64),(.int .i64)]
def t74 (x0:(List (Int×(Int×(Int×Unit))))) (x1:Int):Tr (Tys.data rs74) :=
  Tr.test (Option.isSome (f141 (x0,())))
    (Tr.test (Option.isSome (f146 (x1,())))
      (let r0:=g141 (x0,());
      let r1:=g146 (x1,());
      Tr.test (Option.isSome (f94 (([r0.2.1,r1.1]:List Int),())))
        (let r2:=g94 (([r0.2.1,r1.1]:List Int),());
        Tr.test ((!eqF r2.1 0:Bool))
          (Tr.fin (((0:Int),(r2.1,()))))
          (Tr.test (Option.isSome (f101 (r0.1.1,(x1,()))))
            (Tr.test (Option.isSome (f143 (r0.1.1,())))
              (let r3:=g101 (r0.1.1,(x1,()));
              let r4:=g143 (r0.1.1,());
              Tr.test ((!leF r3.1 r4.1:Bool))
                (Tr.fin (((0:Int),((12:Int),()))))
                (Tr.fin ((r3.1,((0:Int),())))))
              (Tr.stop))
            (Tr.stop)))
        (Tr.stop))
      (Tr.stop))
    (Tr.stop)
def f74 (d:Tys.data as74):Option (Tys.data rs74):=(t74 d.1 d.2.1).val
def g74 (d:Tys.data as74):Tys.data rs74:=(f74 d).getD (Tys.dflt rs74)
def p74:PureC:=pcOf as74 rs74 f74 g74
theorem wk74 (x0:(List (Int×(Int×(Int×Unit))))) (x1:Int):Walks (runPure (kf146 Proofs.Tryz.prog).orc Proofs.Tryz.prog 400 74 as74 rs74 (x0,x1,())) (t74 x0 x1) [(bl 4 15,[2,4,6,8]),(bl 7 119,[2,4,6,8,10,12,14]),(bl 7 55,[2,4,6,8,10,12,14])] :=
  ⟨by kernel_rfl,by kernel_rfl,by kernel_rfl,trivial⟩
theorem ok74_t (x0:(List (Int×(Int×(Int×Unit))))) (x1:Int):TrOk (PureRuns Proofs.Tryz.prog (kf146 Proofs.Tryz.prog).orc 74 as74 rs74 (x0,x1,())) (t74 x0 x1) :=
  Walks.ok (fun _ _ _=>PureRuns.of) (wk74 x0 x1) (by kernel_rfl)
theorem ok74:PureOk Proofs.Tryz.prog 74 p74:=qac kf146_ok.base (T:=fun (d:Tys.data as74)=>t74 d.1 d.2.1) (by kernel_rfl) (fun (d:Tys.data as74)=>ok74_t d.1 d.2.1)
def kf74 (P:Go.Program):Known:=(kf146 P).func 74 p74
theorem kf74_ok:KnownOk Proofs.Tryz.prog (kf74 Proofs.Tryz.prog):=kf146_ok.func ok74
abbrev as20:List Ty:=[(.int .i64),(.int .i64),(.int .i64)]
abbrev rs20:List Ty:=[.bool]
def t20 (x0:Int) (x1:Int) (x2:Int):Tr (Tys.data rs20) :=
  Tr.test ((leF x1 x0:Bool))
    (Tr.fin ((leF x0 x2,())))
    (Tr.fin ((false,())))
def f20 (d:Tys.data as20):Option (Tys.data rs20):=(t20 d.1 d.2.1 d.2.2.1).val
def g20 (d:Tys.data as20):Tys.data rs20:=(f20 d).getD (Tys.dflt rs20)
def p20:PureC:=pcOf as20 rs20 f20 g20
theorem wk20 (x0:Int) (x1:Int) (x2:Int):Walks (runPure (kf74 Proofs.Tryz.prog).orc Proofs.Tryz.prog 400 20 as20 rs20 (x0,x1,x2,())) (t20 x0 x1 x2) [(bl 1 1,[2,2,2,2]),(bl 1 0,[2,2,2,2])] :=
  ⟨by kernel_rfl,by kernel_rfl,trivial⟩
theorem ok20_t (x0:Int) (x1:Int) (x2:Int):TrOk (PureRuns Proofs.Tryz.prog (kf74 Proofs.Tryz.prog).orc 20 as20 rs20 (x0,x1,x2,())) (t20 x0 x1 x2) :=
  Walks.ok (fun _ _ _=>PureRuns.of) (wk20 x0 x1 x2) (by kernel_rfl)
theorem ok20:PureOk Proofs.Tryz.prog 20 p20:=qac kf74_ok.base (T:=fun (d:Tys.data as20)=>t20 d.1 d.2.1 d.2.2.1) (by kernel_rfl) (fun (d:Tys.data as20)=>ok20_t d.1 d.2.1 d.2.2.1)
def kf20 (P:Go.Program):Known:=(kf74 P).func 20 p20
theorem kf20_ok:KnownOk Proofs.Tryz.prog (kf20 Proofs.Tryz.prog):=kf74_ok.func ok20
abbrev as36:List Ty:=[(.int .i64)]
abbrev rs36:List Ty:=[(.int .i64)]
def t36 (x0:Int):Tr (Tys.data rs36) :=
  Tr.test (Option.isSome (f20 (x0,((0:Int),((50:Int),())))))
    (let r0:=g20 (x0,((0:Int),((50:Int),())));
    Tr.test ((!r0.1:Bool))
      (Tr.fin (((2:Int),())))
      (Tr.fin (((0:Int),()))))
    (Tr.stop)
def f36 (d:Tys.data as36):Option (Tys.data rs36):=(t36 d.1).val
def g36 (d:Tys.data as36):Tys.data rs36:=(f36 d).getD (Tys.dflt rs36)
def p36:PureC:=pcOf as36 rs36 f36 g36
theorem wk36 (x0:Int):Walks (runPure (kf20 Proofs.Tryz.prog).orc Proofs.Tryz.prog 400 36 as36 rs36 (x0,())) (t36 x0) [(bl 2 3,[2,4]),(bl 2 1,[2,4])] :=
  ⟨by kernel_rfl,by kernel_rfl,trivial⟩
theorem ok36_t (x0:Int):TrOk (PureRuns Proofs.Tryz.prog (kf20 Proofs.Tryz.prog).orc 36 as36 rs36 (x0,())) (t36 x0) :=
  Walks.ok (fun _ _ _=>PureRuns.of) (wk36 x0) (by kernel_rfl)
theorem ok36:PureOk Proofs.Tryz.prog 36 p36:=qac kf20_ok.base (T:=fun (d:Tys.data as36)=>t36 d.1) (by kernel_rfl) (fun (d:Tys.data as36)=>ok36_t d.1)
def kf36 (P:Go.Program):Known:=(kf20 P).func 36 p36
theorem kf36_ok:KnownOk Proofs.Tryz.prog (kf36 Proofs.Tryz.prog):=kf20_ok.func ok36
abbrev sh75_0:Sh:={ n:=113,slots:=[0,4],pats:=[.ty (.slice (.pair (.int .i64) (.pair (.int .i64) (.pair (.int .i64) .unit)))),.ty (.int .i64)],boxes:=[] }
abbrev shb75_0:Sh:={ n:=113,slots:=[],pats:=[],boxes:=[] }
abbrev shr75_0:Sh:={ n:=113,slots:=[2,3],pats:=[.ty (.int .i64),.ty (.int .i64)],boxes:=[] }
def t75_0 (x0:(List (Int×(Int×(Int×Unit))))) (x1:Int):Tr (Out sh75_0.data shb75_0.data shr75_0.data) :=
  Tr.test ((!leF (↑(List.length x0):Int) x1:Bool))
    (Tr.test (decide ((0:Int) ≤ x1) && decide (x1 < (↑(List.length x0):Int)))
      (Tr.test (Option.isSome (f20 (((List.getD x0 (Int.toNat x1) ((0:Int),(0:Int),(0:Int),())).1:Int),((0:Int),((1000:Int),())))))
        (let r0:=g20 (((List.getD x0 (Int.toNat x1) ((0:Int),(0:Int),(0:Int),())).1:Int),((0:Int),((1000:Int),())));
        Tr.test ((!r0.1:Bool))
          (Tr.fin (.ret ((x1,((2:Int),())),())))
          (Tr.test (Option.isSome (f36 (((List.getD x0 (Int.toNat x1) ((0:Int),(0:Int),(0:Int),())).2.1:Int),())))
            (let r1:=g36 (((List.getD x0 (Int.toNat x1) ((0:Int),(0:Int),(0:Int),())).2.1:Int),());
            Tr.test ((!eqF r1.1 0:Bool))
              (Tr.fin (.ret ((x1,((2:Int),())),())))
              (Tr.test (Option.isSome (f36 (((List.getD x0 (Int.toNat x1) ((0:Int),(0:Int),(0:Int),())).2.2.1:Int),())))
                (let r2:=g36 (((List.getD x0 (Int.toNat x1) ((0:Int),(0:Int),(0:Int),())).2.2.1:Int),());
                Tr.test ((!eqF r2.1 0:Bool))
                  (Tr.fin (.ret ((x1,((2:Int),())),())))
                  (Tr.test ((!leF (List.getD x0 (Int.toNat x1) ((0:Int),(0:Int),(0:Int),())).2.1 (List.getD x0 (Int.toNat x1) ((0:Int),(0:Int),(0:Int),())).2.2.1:Bool))
                    (Tr.fin (.ret ((x1,((9:Int),())),())))
                    (Tr.test ((eqF x1 0:Bool))
                      (Tr.test ((!eqF (List.getD x0 (Int.toNat x1) ((0:Int),(0:Int),(0:Int),())).1 (0:Int):Bool))
                        (Tr.fin (.ret ((x1,((9:Int),())),())))
                        (Tr.test ((!leF x1 0:Bool))
                          (Tr.test ((decide ((0:Int) ≤ wrap64 (x1 - (1:Int))) && decide (wrap64 (x1 - (1:Int)) < (↑(List.length x0):Int)):Bool))
                            (Tr.test ((leF (List.getD x0 (Int.toNat x1) ((0:Int),(0:Int),(0:Int),())).1 (List.getD x0 (Int.toNat (wrap64 (x1 - (1:Int)))) ((0:Int),(0:Int),(0:Int),())).1:Bool))
                              (Tr.fin (.ret ((x1,((9:Int),())),())))
                              (Tr.test ((!leF (List.getD x0 (Int.toNat (wrap64 (x1 - (1:Int)))) ((0:Int),(0:Int),(0:Int),())).2.1 (List.getD x0 (Int.toNat x1) ((0:Int),(0:Int),(0:Int),())).2.1:Bool))
                                (Tr.fin (.ret ((x1,((9:Int),())),())))
                                (Tr.test ((!leF (List.getD x0 (Int.toNat (wrap64 (x1 - (1:Int)))) ((0:Int),(0:Int),(0:Int),())).2.2.1 (List.getD x0 (Int.toNat x1) ((0:Int),(0:Int),(0:Int),())).2.2.1:Bool))
                                  (Tr.fin (.ret ((x1,((9:Int),())),())))
                                  (Tr.fin (.again ((x0,((wrap64 (x1 + (1:Int)):Int),())),()))))))
                            (Tr.stop))
                          (Tr.fin (.again ((x0,((wrap64 (x1 + (1:Int)):Int),())),())))))
                      (Tr.test ((!leF x1 0:Bool))
                        (Tr.test ((decide ((0:Int) ≤ wrap64 (x1 - (1:Int))) && decide (wrap64 (x1 - (1:Int)) < (↑(List.length x0):Int)):Bool))
                          (Tr.test ((leF (List.getD x0 (Int.toNat x1) ((0:Int),(0:Int),(0:Int),())).1 (List.getD x0 (Int.toNat (wrap64 (x1 - (1:Int)))) ((0:Int),(0:Int),(0:Int),())).1:Bool))
                            (Tr.fin (.ret ((x1,((9:Int),())),())))
                            (Tr.test ((!leF (List.getD x0 (Int.toNat (wrap64 (x1 - (1:Int)))) ((0:Int),(0:Int),(0:Int),())).2.1 (List.getD x0 (Int.toNat x1) ((0:Int),(0:Int),(0:Int),())).2.1:Bool))
                              (Tr.fin (.ret ((x1,((9:Int),())),())))
                              (Tr.test ((!leF (List.getD x0 (Int.toNat (wrap64 (x1 - (1:Int)))) ((0:Int),(0:Int),(0:Int),())).2.2.1 (List.getD x0 (Int.toNat x1) ((0:Int),(0:Int),(0:Int),())).2.2.1:Bool))
                                (Tr.fin (.ret ((x1,((9:Int),())),())))
                                (Tr.fin (.again ((x0,((wrap64 (x1 + (1:Int)):Int),())),()))))))
                          (Tr.stop))
                        (Tr.fin (.again ((x0,((wrap64 (x1 + (1:Int)):Int),())),())))))))
                (Tr.stop)))
            (Tr.stop)))
        (Tr.stop))
      (Tr.stop))
    (Tr.fin (.brk ((),())))
def s75_0 (d:sh75_0.data):Option (Out sh75_0.data shb75_0.data shr75_0.data):=(t75_0 d.1.1 d.1.2.1).val
def l75_0 (d:sh75_0.data):Option (shb75_0.data ⊕ shr75_0.data):=itr s75_0 rounds d
def b75_0 (d:sh75_0.data):shb75_0.data:=outB shb75_0.dflt (l75_0 d)
def r75_0 (d:sh75_0.data):shr75_0.data:=outR shr75_0.dflt (l75_0 d)
def lc75_0:LoopC:=lcOf sh75_0 shb75_0 shr75_0 l75_0 b75_0 r75_0
theorem wk75_0 (x0:(List (Int×(Int×(Int×Unit))))) (x1:Int):Walks (qaq (kf36 Proofs.Tryz.prog).orc Proofs.Tryz.prog 400 75 0 sh75_0 shb75_0 shr75_0 ((x0,x1,()),())) (t75_0 x0 x1) [(bl 4 15,[1,1,1,1,1,1,1,1,1,2,2,2,2,2,2,2,2,4,6,8]),(bl 6 55,[1,2,2,2,2,2,2,2,2,6,6,4,6,6,6,10,6,6,6,8,10,12]),(bl 8 215,[2,6,6,4,6,6,6,14,6,6,6,10,10,8,10,10,10,14,10,10,10,12,14,16]),(bl 9 343,[1,1,1,1,1,1,2,2,2,2,2,16,16,4,8,8,6,8,8,8,16,8,8,8,12,12,10,12,12,12,16,12,12,12,14,16,18]),(bl 11 1623,[1,2,2,2,2,2,6,4,6,4,4,4,20,4,4,4,6,6,6,20,20,8,12,12,10,12,12,12,20,12,12,12,16,16,14,16,16,16,20,16,16,16,18,20,22]),(bl 14 14935,[1,8,6,8,1,6,1,1,1,1,1,1,1,1,1,1,1,1,6,2,6,2,2,2,2,2,2,2,2,2,2,2,2,6,6,6,6,4,6,6,6,6,6,6,26,6,6,6,8,8,8,12,10,12,10,10,10,26,10,10,10,12,12,12,26,26,14,18,18,16,18,18,18,26,18,18,18,22,22,20,22,22,22,26,22,22,22,24,26,28]),(bl 15 23127,[1,10,8,10,2,8,2,2,2,2,2,2,2,2,2,2,2,2,8,4,8,4,4,4,6,4,4,4,4,4,4,28,4,4,4,8,8,8,8,6,8,8,8,8,8,8,28,8,8,8,10,10,10,14,12,14,12,12,12,28,12,12,12,14,14,14,28,28,16,20,20,18,20,20,20,28,20,20,20,24,24,22,24,24,24,28,24,24,24,26,28,30]),(bl 16 39511,[2,12,10,12,4,10,4,4,4,8,4,4,4,4,4,4,30,4,4,4,10,6,10,6,6,6,8,6,6,6,6,6,6,30,6,6,6,10,10,10,10,8,10,10,10,10,10,10,30,10,10,10,12,12,12,16,14,16,14,14,14,30,14,14,14,16,16,16,30,30,18,22,22,20,22,22,22,30,22,22,22,26,26,24,26,26,26,30,26,26,26,28,30,32]),(bl 16 6743,[2,12,10,12,4,10,4,4,4,8,4,4,4,4,4,4,30,4,4,4,10,6,10,6,6,6,8,6,6,6,6,6,6,30,6,6,6,10,10,10,10,8,10,10,10,10,10,10,30,10,10,10,12,12,12,16,14,16,14,14,14,30,14,14,14,16,16,16,30,30,18,22,22,20,22,22,22,30,22,22,22,26,26,24,26,26,26,30,26,26,26,28,30,32]),(bl 12 599,[0,4,2,4,2,2,2,2,2,2,2,2,2,2,2,2,2,2,2,2,4,4,4,8,6,8,6,6,6,22,6,6,6,8,8,8,22,22,10,14,14,12,14,14,14,22,14,14,14,18,18,16,18,18,18,22,18,18,18,20,22,24]),(bl 13 7255,[1,0,6,0,1,6,1,1,1,1,1,1,1,1,1,1,1,1,6,2,6,2,2,2,2,2,2,2,2,2,2,2,2,6,6,6,6,4,6,6,6,6,6,6,24,6,6,6,0,0,0,10,8,10,8,8,8,8,8,8,10,10,10,24,24,12,16,16,14,16,16,16,24,16,16,16,20,20,18,20,20,20,24,20,20,20,22,24,26]),(bl 14 11351,[1,0,8,0,2,8,2,2,2,2,2,2,2,2,2,2,2,2,8,4,8,4,4,4,6,4,4,4,4,4,4,26,4,4,4,8,8,8,8,6,8,8,8,8,8,8,26,8,8,8,0,0,0,12,10,12,10,10,10,10,10,10,12,12,12,26,26,14,18,18,16,18,18,18,26,18,18,18,22,22,20,22,22,22,26,22,22,22,24,26,28]),(bl 15 19543,[2,0,10,0,4,10,4,4,4,8,4,4,4,4,4,4,28,4,4,4,10,6,10,6,6,6,8,6,6,6,6,6,6,28,6,6,6,10,10,10,10,8,10,10,10,10,10,10,28,10,10,10,0,0,0,14,12,14,12,12,12,12,12,12,14,14,14,28,28,16,20,20,18,20,20,20,28,20,20,20,24,24,22,24,24,24,28,24,24,24,26,28,30]),(bl 15 3159,[2,0,10,0,4,10,4,4,4,8,4,4,4,4,4,4,28,4,4,4,10,6,10,6,6,6,8,6,6,6,6,6,6,28,6,6,6,10,10,10,10,8,10,10,10,10,10,10,28,10,10,10,0,0,0,14,12,14,12,12,12,12,12,12,14,14,14,28,28,16,20,20,18,20,20,20,28,20,20,20,24,24,22,24,24,24,28,24,24,24,26,28,30]),(bl 11 87,[0,0,2,0,2,2,2,2,2,2,2,2,2,2,2,2,2,2,2,2,0,0,0,6,4,6,4,4,4,4,4,4,6,6,6,20,20,8,12,12,10,12,12,12,20,12,12,12,16,16,14,16,16,16,20,16,16,16,18,20,22]),(bl 1 0,[2])] :=
  ⟨by kernel_rfl,by kernel_rfl,by kernel_rfl,by kernel_rfl,by kernel_rfl,by kernel_rfl,by kernel_rfl,by kernel_rfl,by kernel_rfl,by kernel_rfl,by kernel_rfl,by kernel_rfl,by kernel_rfl,by kernel_rfl,by kernel_rfl,by kernel_rfl,trivial⟩
theorem ok75_0_t (x0:(List (Int×(Int×(Int×Unit))))) (x1:Int):TrOk (BodyRuns Proofs.Tryz.prog (kf36 Proofs.Tryz.prog).orc 75 0 sh75_0 shb75_0 shr75_0 ((x0,x1,()),())) (t75_0 x0 x1) :=
  Walks.ok (fun _ _ _=>BodyRuns.of) (wk75_0 x0 x1) (by kernel_rfl)
theorem ok75_0:qat Proofs.Tryz.prog 75 0 lc75_0:=qbC (sh:=sh75_0) (shB:=shb75_0) (shR:=shr75_0) kf36_ok.base (T:=fun (d:sh75_0.data)=>t75_0 d.1.1 d.1.2.1) (by kernel_rfl) rfl (fun (d:sh75_0.data)=>ok75_0_t d.1.1 d.1.2.1) (fun _=>rfl)
def kl75_0 (P:Go.Program):Known:=(kf36 P).loop 75 0 lc75_0
theorem kl75_0_ok:KnownOk Proofs.Tryz.prog (kl75_0 Proofs.Tryz.prog):=kf36_ok.loop ok75_0
abbrev as75:List Ty:=[(.slice (.pair (.int .i64) (.pair (.int .i64) (.pair (.int .i64) .unit))))]
abbrev rs75:List Ty:=[(.int .i64),(.int .i64)]
def t75 (x0:(List (Int×(Int×(Int×Unit))))):Tr (Tys.data rs75) :=
  Tr.test ((!leF (2:Int) (↑(List.length x0):Int):Bool))
    (Tr.fin (((0:Int),((10:Int),()))))
    (Tr.test (!leF (↑(List.length x0):Int) (8:Int))
      (Tr.fin (((0:Int),((8:Int),()))))
      (Tr.test (Option.isSome (l75_0 ((x0,((0:Int),())),())))
        (Tr.test (qb5 (l75_0 ((x0,((0:Int),())),())))
          (let r0:=r75_0 ((x0,((0:Int),())),());
          Tr.fin ((r0.1.1,(r0.1.2.1,()))))
          (Tr.fin (((0:Int),((0:Int),())))))
        (Tr.stop)))
def f75 (d:Tys.data as75):Option (Tys.data rs75):=(t75 d.1).val
def g75 (d:Tys.data as75):Tys.data rs75:=(f75 d).getD (Tys.dflt rs75)
def p75:PureC:=pcOf as75 rs75 f75 g75
theorem wk75 (x0:(List (Int×(Int×(Int×Unit))))):Walks (runPure (kl75_0 Proofs.Tryz.prog).orc Proofs.Tryz.prog 400 75 as75 rs75 (x0,())) (t75 x0) [(bl 1 1,[2]),(bl 2 2,[2,4]),(bl 4 12,[2,4,6,8]),(bl 4 4,[2,4,6,8])] :=
  ⟨by kernel_rfl,by kernel_rfl,by kernel_rfl,by kernel_rfl,trivial⟩
theorem ok75_t (x0:(List (Int×(Int×(Int×Unit))))):TrOk (PureRuns Proofs.Tryz.prog (kl75_0 Proofs.Tryz.prog).orc 75 as75 rs75 (x0,())) (t75 x0) :=
  Walks.ok (fun _ _ _=>PureRuns.of) (wk75 x0) (by kernel_rfl)
theorem ok75:PureOk Proofs.Tryz.prog 75 p75:=qac kl75_0_ok.base (T:=fun (d:Tys.data as75)=>t75 d.1) (by kernel_rfl) (fun (d:Tys.data as75)=>ok75_t d.1)
def kf75 (P:Go.Program):Known:=(kl75_0 P).func 75 p75
theorem kf75_ok:KnownOk Proofs.Tryz.prog (kf75 Proofs.Tryz.prog):=kl75_0_ok.func ok75
abbrev as76:List Ty:=[(.slice (.pair (.int .i64) (.pair (.int .i64) (.pair (.int .i64) .unit)))),(.pair (.int .i64) (.pair (.int .i64) .unit))]
abbrev rs76:List Ty:=[(.int .i64)]
def t76 (x0:(List (Int×(Int×(Int×Unit))))) (x1:Int) (x1':Int):Tr (Tys.data rs76) :=
  Tr.test ((decide ((0:Int) ≤ wrap64 ((↑(List.length x0):Int) - (1:Int))) && decide (wrap64 ((↑(List.length x0):Int) - (1:Int)) < (↑(List.length x0):Int)):Bool))
    (Tr.test (Option.isSome (f20 (x1,((0:Int),(((List.getD x0 (Int.toNat (wrap64 ((↑(List.length x0):Int) - (1:Int)))) ((0:Int),(0:Int),(0:Int),())).1:Int),())))))
      (let r0:=g20 (x1,((0:Int),(((List.getD x0 (Int.toNat (wrap64 ((↑(List.length x0):Int) - (1:Int)))) ((0:Int),(0:Int),(0:Int),())).1:Int),())));
      Tr.test ((!r0.1:Bool))
        (Tr.fin (((2:Int),())))
        (Tr.test (Option.isSome (f20 (x1',((0:Int),(((List.getD x0 (Int.toNat (wrap64 ((↑(List.length x0):Int) - (1:Int)))) ((0:Int),(0:Int),(0:Int),())).1:Int),())))))
          (let r1:=g20 (x1',((0:Int),(((List.getD x0 (Int.toNat (wrap64 ((↑(List.length x0):Int) - (1:Int)))) ((0:Int),(0:Int),(0:Int),())).1:Int),())));
          Tr.test ((!r1.1:Bool))
            (Tr.fin (((2:Int),())))
            (Tr.test ((!leF x1 x1':Bool))
              (Tr.fin (((9:Int),())))
              (Tr.fin (((0:Int),())))))
          (Tr.stop)))
      (Tr.stop))
    (Tr.stop)
def f76 (d:Tys.data as76):Option (Tys.data rs76):=(t76 d.1 d.2.1.1 d.2.1.2.1).val
def g76 (d:Tys.data as76):Tys.data rs76:=(f76 d).getD (Tys.dflt rs76)
def p76:PureC:=pcOf as76 rs76 f76 g76
theorem wk76 (x0:(List (Int×(Int×(Int×Unit))))) (x1:Int) (x1':Int):Walks (runPure (kf75 Proofs.Tryz.prog).orc Proofs.Tryz.prog 400 76 as76 rs76 (x0,(x1,x1',()),())) (t76 x0 x1 x1') [(bl 3 7,[1,2,2,2,2,2,2,4,6]),(bl 5 27,[2,6,6,4,6,6,6,6,8,10]),(bl 6 43,[2,4,8,8,6,8,8,8,8,10,12]),(bl 6 11,[2,4,8,8,6,8,8,8,8,10,12])] :=
  ⟨by kernel_rfl,by kernel_rfl,by kernel_rfl,by kernel_rfl,trivial⟩
theorem ok76_t (x0:(List (Int×(Int×(Int×Unit))))) (x1:Int) (x1':Int):TrOk (PureRuns Proofs.Tryz.prog (kf75 Proofs.Tryz.prog).orc 76 as76 rs76 (x0,(x1,x1',()),())) (t76 x0 x1 x1') :=
  Walks.ok (fun _ _ _=>PureRuns.of) (wk76 x0 x1 x1') (by kernel_rfl)
theorem ok76:PureOk Proofs.Tryz.prog 76 p76:=qac kf75_ok.base (T:=fun (d:Tys.data as76)=>t76 d.1 d.2.1.1 d.2.1.2.1) (by kernel_rfl) (fun (d:Tys.data as76)=>ok76_t d.1 d.2.1.1 d.2.1.2.1)
def kf76 (P:Go.Program):Known:=(kf75 P).func 76 p76
theorem kf76_ok:KnownOk Proofs.Tryz.prog (kf76 Proofs.Tryz.prog):=kf75_ok.func ok76
abbrev as185:List Ty:=[(.int .i64)]
abbrev rs185:List Ty:=[(.int .i64)]
def t185 (x0:Int):Tr (Tys.data rs185) :=
  Tr.fin (((if x0 < Go.IntKind.wrap Go.IntKind.i64 ((0:Int) - x0) then Go.IntKind.wrap Go.IntKind.i64 ((0:Int) - x0) else x0:Int),()))
def f185 (d:Tys.data as185):Option (Tys.data rs185):=(t185 d.1).val
def g185 (d:Tys.data as185):Tys.data rs185:=(f185 d).getD (Tys.dflt rs185)
def p185:PureC:=pcOf as185 rs185 f185 g185
theorem wk185 (x0:Int):Walks (runPure (kf76 Proofs.Tryz.prog).orc Proofs.Tryz.prog 400 185 as185 rs185 (x0,())) (t185 x0) [(bl 0 0,[])] :=
  ⟨by kernel_rfl,trivial⟩
theorem ok185_t (x0:Int):TrOk (PureRuns Proofs.Tryz.prog (kf76 Proofs.Tryz.prog).orc 185 as185 rs185 (x0,())) (t185 x0) :=
  Walks.ok (fun _ _ _=>PureRuns.of) (wk185 x0) (by kernel_rfl)
theorem ok185:PureOk Proofs.Tryz.prog 185 p185:=qac kf76_ok.base (T:=fun (d:Tys.data as185)=>t185 d.1) (by kernel_rfl) (fun (d:Tys.data as185)=>ok185_t d.1)
def kf185 (P:Go.Program):Known:=(kf76 P).func 185 p185
theorem kf185_ok:KnownOk Proofs.Tryz.prog (kf185 Proofs.Tryz.prog):=kf76_ok.func ok185
abbrev sh199_0:Sh:={ n:=21,slots:=[0,3],pats:=[.ty (.slice (.int .i64)),.ty (.int .i64)],boxes:=[] }
abbrev shb199_0:Sh:={ n:=21,slots:=[0,3],pats:=[.ty (.slice (.int .i64)),.ty (.int .i64)],boxes:=[] }
abbrev shr199_0:Sh:={ n:=21,slots:=[],pats:=[],boxes:=[] }
def t199_0 (x0:(List Int)) (x1:Int):Tr (Out sh199_0.data shb199_0.data shr199_0.data) :=
  Tr.test ((!leF x1 0:Bool))
    (Tr.test (decide ((0:Int) ≤ wrap64 (x1 - (1:Int))) && decide (wrap64 (x1 - (1:Int)) < (↑(List.length x0):Int)))
      (Tr.test ((eqF (List.getD x0 (Int.toNat (wrap64 (x1 - (1:Int)))) (0:Int)) (0:Int):Bool))
        (Tr.fin (.again ((x0,((wrap64 (x1 - (1:Int)):Int),())),())))
        (Tr.fin (.brk ((x0,(x1,())),()))))
      (Tr.stop))
    (Tr.fin (.brk ((x0,(x1,())),())))
def s199_0 (d:sh199_0.data):Option (Out sh199_0.data shb199_0.data shr199_0.data):=(t199_0 d.1.1 d.1.2.1).val
def l199_0 (d:sh199_0.data):Option (shb199_0.data ⊕ shr199_0.data):=itr s199_0 rounds d
def b199_0 (d:sh199_0.data):shb199_0.data:=outB shb199_0.dflt (l199_0 d)
def lc199_0:LoopC:=lcB sh199_0 shb199_0 shr199_0 l199_0 b199_0
theorem wk199_0 (x0:(List Int)) (x1:Int):Walks (qaq (kf185 Proofs.Tryz.prog).orc Proofs.Tryz.prog 400 199 0 sh199_0 shb199_0 shr199_0 ((x0,x1,()),())) (t199_0 x0 x1) [(bl 3 7,[2,6,6,6,4,6,6,6,6]),(bl 3 3,[2,6,6,6,4,6,6,6,6]),(bl 1 0,[0,2,2,2,2,2,2,2])] :=
  ⟨by kernel_rfl,by kernel_rfl,by kernel_rfl,trivial⟩
theorem ok199_0_t (x0:(List Int)) (x1:Int):TrOk (BodyRuns Proofs.Tryz.prog (kf185 Proofs.Tryz.prog).orc 199 0 sh199_0 shb199_0 shr199_0 ((x0,x1,()),())) (t199_0 x0 x1) :=
  Walks.ok (fun _ _ _=>BodyRuns.of) (wk199_0 x0 x1) (by kernel_rfl)
theorem ok199_0:qat Proofs.Tryz.prog 199 0 lc199_0:=qap (sh:=sh199_0) (shB:=shb199_0) (shR:=shr199_0) kf185_ok.base (T:=fun (d:sh199_0.data)=>t199_0 d.1.1 d.1.2.1) (by kernel_rfl) rfl (fun (d:sh199_0.data)=>ok199_0_t d.1.1 d.1.2.1) (fun _=>rfl)
def kl199_0 (P:Go.Program):Known:=(kf185 P).loop 199 0 lc199_0
theorem kl199_0_ok:KnownOk Proofs.Tryz.prog (kl199_0 Proofs.Tryz.prog):=kf185_ok.loop ok199_0
abbrev as199:List Ty:=[(.slice (.int .i64))]
abbrev rs199:List Ty:=[(.slice (.int .i64))]
def t199 (x0:(List Int)):Tr (Tys.data rs199) :=
  Tr.test (qaV (l199_0 ((x0,((↑(List.length x0):Int),())),())))
    (let r0:=b199_0 ((x0,((↑(List.length x0):Int),())),());
    Tr.test ((decide ((0:Int) ≤ r0.1.2.1) && decide (r0.1.2.1 ≤ (↑(List.length r0.1.1):Int)):Bool))
      (Tr.fin (((List.take (Int.toNat r0.1.2.1) r0.1.1:List Int),())))
      (Tr.stop))
    (Tr.stop)
def f199 (d:Tys.data as199):Option (Tys.data rs199):=(t199 d.1).val
def g199 (d:Tys.data as199):Tys.data rs199:=(f199 d).getD (Tys.dflt rs199)
def p199:PureC:=pcOf as199 rs199 f199 g199
theorem wk199 (x0:(List Int)):Walks (runPure (kl199_0 Proofs.Tryz.prog).orc Proofs.Tryz.prog 400 199 as199 rs199 (x0,())) (t199 x0) [(bl 2 3,[2,1,4])] :=
  ⟨by kernel_rfl,trivial⟩
theorem ok199_t (x0:(List Int)):TrOk (PureRuns Proofs.Tryz.prog (kl199_0 Proofs.Tryz.prog).orc 199 as199 rs199 (x0,())) (t199 x0) :=
  Walks.ok (fun _ _ _=>PureRuns.of) (wk199 x0) (by kernel_rfl)
theorem ok199:PureOk Proofs.Tryz.prog 199 p199:=qac kl199_0_ok.base (T:=fun (d:Tys.data as199)=>t199 d.1) (by kernel_rfl) (fun (d:Tys.data as199)=>ok199_t d.1)
def kf199 (P:Go.Program):Known:=(kl199_0 P).func 199 p199
theorem kf199_ok:KnownOk Proofs.Tryz.prog (kf199 Proofs.Tryz.prog):=kl199_0_ok.func ok199
abbrev as186:List Ty:=[(.int .i64),(.slice (.int .i64))]
abbrev rs186:List Ty:=[(.pair (.int .i64) (.pair (.slice (.int .i64)) .unit))]
def t186 (x0:Int) (x1:(List Int)):Tr (Tys.data rs186) :=
  Tr.test (Option.isSome (f199 (x1,())))
    (let r0:=g199 (x1,());
    Tr.test ((eqF (↑(List.length r0.1):Int) (0:Int):Bool))
      (Tr.fin ((((0:Int),(r0.1,())),())))
      (Tr.fin (((x0,(r0.1,())),()))))
    (Tr.stop)
def f186 (d:Tys.data as186):Option (Tys.data rs186):=(t186 d.1 d.2.1).val
def g186 (d:Tys.data as186):Tys.data rs186:=(f186 d).getD (Tys.dflt rs186)
def p186:PureC:=pcOf as186 rs186 f186 g186
theorem wk186 (x0:Int) (x1:(List Int)):Walks (runPure (kf199 Proofs.Tryz.prog).orc Proofs.Tryz.prog 400 186 as186 rs186 (x0,x1,())) (t186 x0 x1) [(bl 2 3,[2,4]),(bl 2 1,[2,4])] :=
  ⟨by kernel_rfl,by kernel_rfl,trivial⟩
theorem ok186_t (x0:Int) (x1:(List Int)):TrOk (PureRuns Proofs.Tryz.prog (kf199 Proofs.Tryz.prog).orc 186 as186 rs186 (x0,x1,())) (t186 x0 x1) :=
  Walks.ok (fun _ _ _=>PureRuns.of) (wk186 x0 x1) (by kernel_rfl)
theorem ok186:PureOk Proofs.Tryz.prog 186 p186:=qac kf199_ok.base (T:=fun (d:Tys.data as186)=>t186 d.1 d.2.1) (by kernel_rfl) (fun (d:Tys.data as186)=>ok186_t d.1 d.2.1)
def kf186 (P:Go.Program):Known:=(kf199 P).func 186 p186
theorem kf186_ok:KnownOk Proofs.Tryz.prog (kf186 Proofs.Tryz.prog):=kf199_ok.func ok186
abbrev sh164_0:Sh:={ n:=20,slots:=[0,2,3,4],pats:=[.ty (.int .i64),.ptr 0 2 0,.ty (.int .i64),.aco (.int .i64)],boxes:=[.row [.ty (.int .i64),.nil]] }
abbrev shb164_0:Sh:={ n:=20,slots:=[2,3,4],pats:=[.ptr 0 2 0,.ty (.int .i64),.aco (.int .i64)],boxes:=[.row [.ty (.int .i64),.nil]] }
abbrev shr164_0:Sh:={ n:=20,slots:=[],pats:=[],boxes:=[.row [.ty (.int .i64),.nil]] }
def t164_0 (x0:Int) (x2:Int) (x3:(List Int)) (b0_0:Int):Tr (Out sh164_0.data shb164_0.data shr164_0.data) :=
  Tr.test ((!eqF x0 0:Bool))
    (Tr.test (Option.isSome (f185 ((Int.tmod x0 (1000000000:Int):Int),())))
      (Tr.test ((Nat.ble (((2:Nat) * (List.length x3 + (1:Nat)) + (192:Nat)) * (8:Nat)) (281474976710656:Nat) && Nat.ble (List.length x3 + (1:Nat)) (281474976710656:Nat):Bool))
        (let r0:=g185 ((Int.tmod x0 (1000000000:Int):Int),());
        Tr.fin (.again (((Go.IntKind.wrap Go.IntKind.i64 (Int.tdiv x0 (1000000000:Int)):Int),(x2,((x3++[r0.1]:List Int),()))),((b0_0,()),()))))
        (Tr.stop))
      (Tr.stop))
    (Tr.fin (.brk ((x2,(x3,())),((b0_0,()),()))))
def s164_0 (d:sh164_0.data):Option (Out sh164_0.data shb164_0.data shr164_0.data):=(t164_0 d.1.1 d.1.2.1 d.1.2.2.1 d.2.1.1).val
def l164_0 (d:sh164_0.data):Option (shb164_0.data ⊕ shr164_0.data):=itr s164_0 rounds d
def b164_0 (d:sh164_0.data):shb164_0.data:=outB shb164_0.dflt (l164_0 d)
def lc164_0:LoopC:=lcB sh164_0 shb164_0 shr164_0 l164_0 b164_0
theorem wk164_0 (x0:Int) (x2:Int) (x3:(List Int)) (b0_0:Int):Walks (qaq (kf186 Proofs.Tryz.prog).orc Proofs.Tryz.prog 400 164 0 sh164_0 shb164_0 shr164_0 ((x0,x2,x3,()),(b0_0,()),())) (t164_0 x0 x2 x3 b0_0) [(bl 3 7,[0,2,4,0,6]),(bl 1 0,[2])] :=
  ⟨by kernel_rfl,by kernel_rfl,trivial⟩
theorem ok164_0_t (x0:Int) (x2:Int) (x3:(List Int)) (b0_0:Int):TrOk (BodyRuns Proofs.Tryz.prog (kf186 Proofs.Tryz.prog).orc 164 0 sh164_0 shb164_0 shr164_0 ((x0,x2,x3,()),(b0_0,()),())) (t164_0 x0 x2 x3 b0_0) :=
  Walks.ok (fun _ _ _=>BodyRuns.of) (wk164_0 x0 x2 x3 b0_0) (by kernel_rfl)
theorem ok164_0:qat Proofs.Tryz.prog 164 0 lc164_0:=qap (sh:=sh164_0) (shB:=shb164_0) (shR:=shr164_0) kf186_ok.base (T:=fun (d:sh164_0.data)=>t164_0 d.1.1 d.1.2.1 d.1.2.2.1 d.2.1.1) (by kernel_rfl) rfl (fun (d:sh164_0.data)=>ok164_0_t d.1.1 d.1.2.1 d.1.2.2.1 d.2.1.1) (fun _=>rfl)
def kl164_0 (P:Go.Program):Known:=(kf186 P).loop 164 0 lc164_0
theorem kl164_0_ok:KnownOk Proofs.Tryz.prog (kl164_0 Proofs.Tryz.prog):=kf186_ok.loop ok164_0
abbrev as164:List Ty:=[(.int .i64)]
abbrev rs164:List Ty:=[(.pair (.int .i64) (.pair (.slice (.int .i64)) .unit))]
def t164 (x0:Int):Tr (Tys.data rs164) :=
  Tr.test ((!leF (0:Int) x0:Bool))
    (Tr.test (qaV (l164_0 ((x0,((-1:Int),(([]:List Int),()))),(((0:Int),()),()))))
      (let r0:=b164_0 ((x0,((-1:Int),(([]:List Int),()))),(((0:Int),()),()));
      Tr.test (Option.isSome (f186 (r0.1.1,(r0.1.2.1,()))))
        (let r1:=g186 (r0.1.1,(r0.1.2.1,()));
        Tr.fin (((r1.1.1,(r1.1.2.1,())),())))
        (Tr.stop))
      (Tr.stop))
    (Tr.test (qaV (l164_0 ((x0,((1:Int),(([]:List Int),()))),(((0:Int),()),()))))
      (let r2:=b164_0 ((x0,((1:Int),(([]:List Int),()))),(((0:Int),()),()));
      Tr.test (Option.isSome (f186 (r2.1.1,(r2.1.2.1,()))))
        (let r3:=g186 (r2.1.1,(r2.1.2.1,()));
        Tr.fin (((r3.1.1,(r3.1.2.1,())),())))
        (Tr.stop))
      (Tr.stop))
def f164 (d:Tys.data as164):Option (Tys.data rs164):=(t164 d.1).val
def g164 (d:Tys.data as164):Tys.data rs164:=(f164 d).getD (Tys.dflt rs164)
def p164:PureC:=pcOf as164 rs164 f164 g164
theorem wk164 (x0:Int):Walks (runPure (kl164_0 Proofs.Tryz.prog).orc Proofs.Tryz.prog 400 164 as164 rs164 (x0,())) (t164 x0) [(bl 3 7,[2,1,4,6]),(bl 3 6,[2,1,4,6])] :=
  ⟨by kernel_rfl,by kernel_rfl,trivial⟩
theorem ok164_t (x0:Int):TrOk (PureRuns Proofs.Tryz.prog (kl164_0 Proofs.Tryz.prog).orc 164 as164 rs164 (x0,())) (t164 x0) :=
  Walks.ok (fun _ _ _=>PureRuns.of) (wk164 x0) (by kernel_rfl)
theorem ok164:PureOk Proofs.Tryz.prog 164 p164:=qac kl164_0_ok.base (T:=fun (d:Tys.data as164)=>t164 d.1) (by kernel_rfl) (fun (d:Tys.data as164)=>ok164_t d.1)
def kf164 (P:Go.Program):Known:=(kl164_0 P).func 164 p164
theorem kf164_ok:KnownOk Proofs.Tryz.prog (kf164 Proofs.Tryz.prog):=kl164_0_ok.func ok164
abbrev as106:List Ty:=[(.int .i64)]
abbrev rs106:List Ty:=[(.pair (.pair (.int .i64) (.pair (.slice (.int .i64)) .unit)) (.pair (.pair (.int .i64) (.pair (.slice (.int .i64)) .unit)) .unit))]
def t106 (x0:Int):Tr (Tys.data rs106) :=
  Tr.test (Option.isSome (f164 (x0,())))
    (Tr.test (Option.isSome (f164 ((1:Int),())))
      (let r0:=g164 (x0,());
      let r1:=g164 ((1:Int),());
      Tr.fin ((((r0.1.1,(r0.1.2.1,())),((r1.1.1,(r1.1.2.1,())),())),())))
      (Tr.stop))
    (Tr.stop)
def f106 (d:Tys.data as106):Option (Tys.data rs106):=(t106 d.1).val
def g106 (d:Tys.data as106):Tys.data rs106:=(f106 d).getD (Tys.dflt rs106)
def p106:PureC:=pcOf as106 rs106 f106 g106
theorem wk106 (x0:Int):Walks (runPure (kf164 Proofs.Tryz.prog).orc Proofs.Tryz.prog 400 106 as106 rs106 (x0,())) (t106 x0) [(bl 2 3,[2,4])] :=
  ⟨by kernel_rfl,trivial⟩
theorem ok106_t (x0:Int):TrOk (PureRuns Proofs.Tryz.prog (kf164 Proofs.Tryz.prog).orc 106 as106 rs106 (x0,())) (t106 x0) :=
  Walks.ok (fun _ _ _=>PureRuns.of) (wk106 x0) (by kernel_rfl)
theorem ok106:PureOk Proofs.Tryz.prog 106 p106:=qac kf164_ok.base (T:=fun (d:Tys.data as106)=>t106 d.1) (by kernel_rfl) (fun (d:Tys.data as106)=>ok106_t d.1)
def kf106 (P:Go.Program):Known:=(kf164 P).func 106 p106
theorem kf106_ok:KnownOk Proofs.Tryz.prog (kf106 Proofs.Tryz.prog):=kf164_ok.func ok106
abbrev as202:List Ty:=[(.pair (.int .i64) (.pair (.slice (.int .i64)) .unit))]
abbrev rs202:List Ty:=[(.int .i64)]
def t202 (x0:Int) (x0':(List Int)):Tr (Tys.data rs202) :=
  Tr.fin ((x0,()))
def f202 (d:Tys.data as202):Option (Tys.data rs202):=(t202 d.1.1 d.1.2.1).val
def g202 (d:Tys.data as202):Tys.data rs202:=(f202 d).getD (Tys.dflt rs202)
def p202:PureC:=pcOf as202 rs202 f202 g202
theorem wk202 (x0:Int) (x0':(List Int)):Walks (runPure (kf106 Proofs.Tryz.prog).orc Proofs.Tryz.prog 400 202 as202 rs202 ((x0,x0',()),())) (t202 x0 x0') [(bl 0 0,[])] :=
  ⟨by kernel_rfl,trivial⟩
theorem ok202_t (x0:Int) (x0':(List Int)):TrOk (PureRuns Proofs.Tryz.prog (kf106 Proofs.Tryz.prog).orc 202 as202 rs202 ((x0,x0',()),())) (t202 x0 x0') :=
  Walks.ok (fun _ _ _=>PureRuns.of) (wk202 x0 x0') (by kernel_rfl)
theorem ok202:PureOk Proofs.Tryz.prog 202 p202:=qac kf106_ok.base (T:=fun (d:Tys.data as202)=>t202 d.1.1 d.1.2.1) (by kernel_rfl) (fun (d:Tys.data as202)=>ok202_t d.1.1 d.1.2.1)
def kf202 (P:Go.Program):Known:=(kf106 P).func 202 p202
theorem kf202_ok:KnownOk Proofs.Tryz.prog (kf202 Proofs.Tryz.prog):=kf106_ok.func ok202
abbrev as179:List Ty:=[(.pair (.int .i64) (.pair (.slice (.int .i64)) .unit))]
abbrev rs179:List Ty:=[(.pair (.int .i64) (.pair (.slice (.int .i64)) .unit))]
def t179 (x0:Int) (x0':(List Int)):Tr (Tys.data rs179) :=
  Tr.fin ((((Go.IntKind.wrap Go.IntKind.i64 ((0:Int) - x0):Int),(x0',())),()))
def f179 (d:Tys.data as179):Option (Tys.data rs179):=(t179 d.1.1 d.1.2.1).val
def g179 (d:Tys.data as179):Tys.data rs179:=(f179 d).getD (Tys.dflt rs179)
def p179:PureC:=pcOf as179 rs179 f179 g179
theorem wk179 (x0:Int) (x0':(List Int)):Walks (runPure (kf202 Proofs.Tryz.prog).orc Proofs.Tryz.prog 400 179 as179 rs179 ((x0,x0',()),())) (t179 x0 x0') [(bl 0 0,[])] :=
  ⟨by kernel_rfl,trivial⟩
theorem ok179_t (x0:Int) (x0':(List Int)):TrOk (PureRuns Proofs.Tryz.prog (kf202 Proofs.Tryz.prog).orc 179 as179 rs179 ((x0,x0',()),())) (t179 x0 x0') :=
  Walks.ok (fun _ _ _=>PureRuns.of) (wk179 x0 x0') (by kernel_rfl)
theorem ok179:PureOk Proofs.Tryz.prog 179 p179:=qac kf202_ok.base (T:=fun (d:Tys.data as179)=>t179 d.1.1 d.1.2.1) (by kernel_rfl) (fun (d:Tys.data as179)=>ok179_t d.1.1 d.1.2.1)
def kf179 (P:Go.Program):Known:=(kf202 P).func 179 p179
theorem kf179_ok:KnownOk Proofs.Tryz.prog (kf179 Proofs.Tryz.prog):=kf202_ok.func ok179
abbrev as212:List Ty:=[(.pair (.int .i64) (.pair (.slice (.int .i64)) .unit))]
abbrev rs212:List Ty:=[(.pair (.int .i64) (.pair (.slice (.int .i64)) .unit))]
def t212 (x0:Int) (x0':(List Int)):Tr (Tys.data rs212) :=
  Tr.test ((!leF (0:Int) x0:Bool))
    (Tr.test (Option.isSome (f179 ((x0,(x0',())),())))
      (let r0:=g179 ((x0,(x0',())),());
      Tr.fin (((r0.1.1,(r0.1.2.1,())),())))
      (Tr.stop))
    (Tr.fin (((x0,(x0',())),())))
def f212 (d:Tys.data as212):Option (Tys.data rs212):=(t212 d.1.1 d.1.2.1).val
def g212 (d:Tys.data as212):Tys.data rs212:=(f212 d).getD (Tys.dflt rs212)
def p212:PureC:=pcOf as212 rs212 f212 g212
theorem wk212 (x0:Int) (x0':(List Int)):Walks (runPure (kf179 Proofs.Tryz.prog).orc Proofs.Tryz.prog 400 212 as212 rs212 ((x0,x0',()),())) (t212 x0 x0') [(bl 2 3,[2,4]),(bl 1 0,[2])] :=
  ⟨by kernel_rfl,by kernel_rfl,trivial⟩
theorem ok212_t (x0:Int) (x0':(List Int)):TrOk (PureRuns Proofs.Tryz.prog (kf179 Proofs.Tryz.prog).orc 212 as212 rs212 ((x0,x0',()),())) (t212 x0 x0') :=
  Walks.ok (fun _ _ _=>PureRuns.of) (wk212 x0 x0') (by kernel_rfl)
theorem ok212:PureOk Proofs.Tryz.prog 212 p212:=qac kf179_ok.base (T:=fun (d:Tys.data as212)=>t212 d.1.1 d.1.2.1) (by kernel_rfl) (fun (d:Tys.data as212)=>ok212_t d.1.1 d.1.2.1)
def kf212 (P:Go.Program):Known:=(kf179 P).func 212 p212
theorem kf212_ok:KnownOk Proofs.Tryz.prog (kf212 Proofs.Tryz.prog):=kf179_ok.func ok212
end Go.Vm.Mo
