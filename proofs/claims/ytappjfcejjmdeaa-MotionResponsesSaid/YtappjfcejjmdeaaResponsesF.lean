import Derived.Test.YtappjfcejjmdeaaA3
import Derived.KernelRfl
import Derived.Test.YtappjfcejjmdeaaProg
set_option linter.unusedVariables false
set_option linter.unusedSimpArgs false

namespace Go.Vm.Mo
open Go
set_option linter.unusedVariables false

def kn0 : Known := ⟨[], []⟩

theorem plainP : Plain Go.Proofs.Try.prog := by
  have h : (Go.Proofs.Try.prog.funcs.toList.all fun fn => !(fn.body.isSome && fn.name == "runtime.NumGoroutine")) = true := by kernel_rfl
  intro f fn hf hb
  have hm : fn ∈ Go.Proofs.Try.prog.funcs.toList := by
    have := Array.getElem?_eq_some_iff.1 hf
    obtain ⟨hlt, rfl⟩ := this
    simp
  have := List.all_eq_true.1 h fn hm
  rw [hb] at this
  simpa using this

theorem kn0_ok : KnownOk Go.Proofs.Try.prog kn0 := ⟨plainP, by kernel_rfl, (fun _ h => by cases h), (fun _ h => by cases h)⟩

/-! ductility/ductilitylaw02.awake -/

abbrev as15 : List Ty := []
abbrev rs15 : List Ty := [.bool]
def f15 (_ : Tys.data as15) : Option (Tys.data rs15) := some (true, ())
def g15 (_ : Tys.data as15) : Tys.data rs15 := (true, ())
def p15 : PureC := pcOf as15 rs15 f15 g15

theorem e15 : runAsk kn0.orc Go.Proofs.Try.prog 400 15 as15 rs15 () none = some ((true, ()), []) := by kernel_rfl
theorem ok15 : PureOk Go.Proofs.Try.prog 15 p15 := pureOk_closed kn0_ok.base (by kernel_rfl) e15 All.nil
def kf15 : Known := kn0.func 15 p15
theorem kf15_ok : KnownOk Go.Proofs.Try.prog kf15 := kn0_ok.func ok15

/-! ductility/ductilitylaw02.few -/

abbrev as16 : List Ty := [(.pair (.int .i64) (.pair (.slice (.int .i64)) .unit))]
abbrev rs16 : List Ty := [.bool]

def t16 (x0 : Int) (x0' : (List Int)) : Tr (Tys.data rs16) :=
  Tr.fin (((leF (↑(List.length x0') : Int) (26 : Int) : Bool), ()))

def f16 (d : Tys.data as16) : Option (Tys.data rs16) := (t16 d.1.1 d.1.2.1).val
def g16 (d : Tys.data as16) : Tys.data rs16 := (f16 d).getD (Tys.dflt rs16)
def p16 : PureC := pcOf as16 rs16 f16 g16

theorem e16_0 (x0 : Int) (x0' : (List Int)) : runPure kf15.orc Go.Proofs.Try.prog 400 16 as16 rs16 ((x0, x0', ()), ()) [] =
    (some (((leF (↑(List.length x0') : Int) (26 : Int) : Bool), ()), [])) := by kernel_rfl

theorem ok16_t (x0 : Int) (x0' : (List Int)) : TrOk (PureRuns Go.Proofs.Try.prog kf15.orc 16 as16 rs16 ((x0, x0', ()), ())) (t16 x0 x0') :=
  TrOk.ofFin (PureRuns.of (e16_0 x0 x0') (All.nil))

theorem ok16 : PureOk Go.Proofs.Try.prog 16 p16 := pureOk_of kf15_ok.base (T := fun (d : Tys.data as16) => t16 d.1.1 d.1.2.1) (by kernel_rfl) (fun (d : Tys.data as16) => ok16_t d.1.1 d.1.2.1)
def kf16 : Known := kf15.func 16 p16
theorem kf16_ok : KnownOk Go.Proofs.Try.prog kf16 := kf15_ok.func ok16

/-! ductility/ductilitybase.CopyInts -/

abbrev as70 : List Ty := [(.slice (.int .i64))]
abbrev rs70 : List Ty := [(.slice (.int .i64))]

def t70 (x0 : (List Int)) : Tr (Tys.data rs70) :=
  Tr.test ((Nat.beq (List.length x0) (0 : Nat) : Bool))
    (Tr.fin ((([] : List Int), ())))
    (Tr.test ((Nat.ble ((0 : Nat) + List.length x0) (0 : Nat) : Bool))
      (Tr.stop /- none [op 2 of region 1 of F70] -/)
      (Tr.test ((Nat.ble (((2 : Nat) * ((0 : Nat) + List.length x0) + (192 : Nat)) * (8 : Nat)) (281474976710656 : Nat) && Nat.ble ((0 : Nat) + List.length x0) (281474976710656 : Nat) : Bool))
        (Tr.test ((Nat.beq ((0 : Nat) + List.length x0) (List.length ([] ++ x0)) : Bool))
          (Tr.fin ((([] ++ x0 : List Int), ())))
          (Tr.stop))
        (Tr.stop /- none [op 2 of region 1 of F70] -/)))

def f70 (d : Tys.data as70) : Option (Tys.data rs70) := (t70 d.1).val
def g70 (d : Tys.data as70) : Tys.data rs70 := (f70 d).getD (Tys.dflt rs70)
def p70 : PureC := pcOf as70 rs70 f70 g70

theorem e70_0 (x0 : (List Int)) : runPure kf16.orc Go.Proofs.Try.prog 400 70 as70 rs70 (x0, ()) [true, true] =
    (some ((([] : List Int), ()), [((true : Bool), true), ((Nat.beq (List.length x0) (0 : Nat) : Bool), true)])) := by kernel_rfl
theorem e70_2 (x0 : (List Int)) : runPure kf16.orc Go.Proofs.Try.prog 400 70 as70 rs70 (x0, ()) [false, false, true, true, true] =
    (some ((([] ++ x0 : List Int), ()), [((Nat.beq ((0 : Nat) + List.length x0) (List.length ([] ++ x0)) : Bool), true), ((true : Bool), true), ((Nat.ble (((2 : Nat) * ((0 : Nat) + List.length x0) + (192 : Nat)) * (8 : Nat)) (281474976710656 : Nat) && Nat.ble ((0 : Nat) + List.length x0) (281474976710656 : Nat) : Bool), true), ((Nat.ble ((0 : Nat) + List.length x0) (0 : Nat) : Bool), false), ((Nat.beq (List.length x0) (0 : Nat) : Bool), false)])) := by kernel_rfl

theorem ok70_t (x0 : (List Int)) : TrOk (PureRuns Go.Proofs.Try.prog kf16.orc 70 as70 rs70 (x0, ())) (t70 x0) :=
  TrOk.ofTest (fun h0 => TrOk.ofFin (PureRuns.of (e70_0 x0) (All.cons rfl (All.cons h0 (All.nil))))) (fun h0 => TrOk.ofTest (fun h1 => TrOk.ofStop) (fun h1 => TrOk.ofTest (fun h2 => TrOk.ofTest (fun h4 => TrOk.ofFin (PureRuns.of (e70_2 x0) (All.cons h4 (All.cons rfl (All.cons h2 (All.cons h1 (All.cons h0 (All.nil)))))))) (fun h4 => TrOk.ofStop)) (fun h2 => TrOk.ofStop)))

theorem ok70 : PureOk Go.Proofs.Try.prog 70 p70 := pureOk_of kf16_ok.base (T := fun (d : Tys.data as70) => t70 d.1) (by kernel_rfl) (fun (d : Tys.data as70) => ok70_t d.1)
def kf70 : Known := kf16.func 70 p70
theorem kf70_ok : KnownOk Go.Proofs.Try.prog kf70 := kf16_ok.func ok70

/-! ductility/ductilityref02.Copy -/

abbrev as18 : List Ty := [(.pair (.int .i64) (.pair (.slice (.int .i64)) .unit))]
abbrev rs18 : List Ty := [(.pair (.int .i64) (.pair (.slice (.int .i64)) .unit))]

def t18 (x0 : Int) (x0' : (List Int)) : Tr (Tys.data rs18) :=
  Tr.test (Option.isSome (f70 (x0', ())))
    (let r0 : List Int × PUnit := g70 (x0', ());
    Tr.fin (((x0, ((r0.fst : List Int), ())), ())))
    (Tr.stop)

def f18 (d : Tys.data as18) : Option (Tys.data rs18) := (t18 d.1.1 d.1.2.1).val
def g18 (d : Tys.data as18) : Tys.data rs18 := (f18 d).getD (Tys.dflt rs18)
def p18 : PureC := pcOf as18 rs18 f18 g18

theorem e18_0 (x0 : Int) (x0' : (List Int)) : runPure kf70.orc Go.Proofs.Try.prog 400 18 as18 rs18 ((x0, x0', ()), ()) [true] =
    (let r0 : List Int × PUnit := g70 (x0', ()); some (((x0, ((r0.fst : List Int), ())), ()), [(Option.isSome (f70 (x0', ())), true)])) := by kernel_rfl

theorem ok18_t (x0 : Int) (x0' : (List Int)) : TrOk (PureRuns Go.Proofs.Try.prog kf70.orc 18 as18 rs18 ((x0, x0', ()), ())) (t18 x0 x0') :=
  TrOk.ofTest (fun h0 => TrOk.ofFin (PureRuns.of (e18_0 x0 x0') (All.cons h0 (All.nil)))) (fun h0 => TrOk.ofStop)

theorem ok18 : PureOk Go.Proofs.Try.prog 18 p18 := pureOk_of kf70_ok.base (T := fun (d : Tys.data as18) => t18 d.1.1 d.1.2.1) (by kernel_rfl) (fun (d : Tys.data as18) => ok18_t d.1.1 d.1.2.1)
def kf18 : Known := kf70.func 18 p18
theorem kf18_ok : KnownOk Go.Proofs.Try.prog kf18 := kf70_ok.func ok18

/-! ductility/motion.when -/

abbrev as86 : List Ty := [.bool, (.int .i64)]
abbrev rs86 : List Ty := [(.int .i64)]

def t86 (x0 : Bool) (x1 : Int) : Tr (Tys.data rs86) :=
  Tr.test (x0)
    (Tr.fin ((x1, ())))
    (Tr.fin (((0 : Int), ())))

def f86 (d : Tys.data as86) : Option (Tys.data rs86) := (t86 d.1 d.2.1).val
def g86 (d : Tys.data as86) : Tys.data rs86 := (f86 d).getD (Tys.dflt rs86)
def p86 : PureC := pcOf as86 rs86 f86 g86

theorem e86_0 (x0 : Bool) (x1 : Int) : runPure kf18.orc Go.Proofs.Try.prog 400 86 as86 rs86 (x0, x1, ()) [true] =
    (some ((x1, ()), [(x0, true)])) := by kernel_rfl
theorem e86_1 (x0 : Bool) (x1 : Int) : runPure kf18.orc Go.Proofs.Try.prog 400 86 as86 rs86 (x0, x1, ()) [false] =
    (some (((0 : Int), ()), [(x0, false)])) := by kernel_rfl

theorem ok86_t (x0 : Bool) (x1 : Int) : TrOk (PureRuns Go.Proofs.Try.prog kf18.orc 86 as86 rs86 (x0, x1, ())) (t86 x0 x1) :=
  TrOk.ofTest (fun h0 => TrOk.ofFin (PureRuns.of (e86_0 x0 x1) (All.cons h0 (All.nil)))) (fun h0 => TrOk.ofFin (PureRuns.of (e86_1 x0 x1) (All.cons h0 (All.nil))))

theorem ok86 : PureOk Go.Proofs.Try.prog 86 p86 := pureOk_of kf18_ok.base (T := fun (d : Tys.data as86) => t86 d.1 d.2.1) (by kernel_rfl) (fun (d : Tys.data as86) => ok86_t d.1 d.2.1)
def kf86 : Known := kf18.func 86 p86
theorem kf86_ok : KnownOk Go.Proofs.Try.prog kf86 := kf18_ok.func ok86

/-! loop 0 of ductility/motion.firstOf -/

abbrev sh85_0 : Sh := { n := 15, slots := [5, 6, 7], pats := [.ty (.slice (.int .i64)), .ty (.int .i64), .ty (.int .i64)], boxes := [] }
abbrev shb85_0 : Sh := { n := 15, slots := [], pats := [], boxes := [] }
abbrev shr85_0 : Sh := { n := 15, slots := [2], pats := [.ty (.int .i64)], boxes := [] }

def t85_0 (x0 : (List Int)) (x1 : Int) (x2 : Int) : Tr (Out sh85_0.data shb85_0.data shr85_0.data) :=
  Tr.test ((!leF x1 x2 : Bool))
    (Tr.test ((decide ((0 : Int) ≤ x2) && decide (x2 < (↑(List.length x0) : Int)) : Bool))
      (Tr.test ((!eqF (List.getD x0 (Int.toNat x2) (0 : Int)) (0 : Int) : Bool))
        (Tr.fin (.ret (((List.getD x0 (Int.toNat x2) (0 : Int) : Int), ()), ())))
        (Tr.fin (.again ((x0, (x1, ((wrap64 (x2 + (1 : Int)) : Int), ()))), ()))))
      (Tr.stop /- none [op 0 of region 3 of F85] -/))
    (Tr.fin (.brk ((), ())))

def s85_0 (d : sh85_0.data) : Option (Out sh85_0.data shb85_0.data shr85_0.data) := (t85_0 d.1.1 d.1.2.1 d.1.2.2.1).val
def l85_0 (d : sh85_0.data) : Option (shb85_0.data ⊕ shr85_0.data) := itr s85_0 rounds d
def b85_0 (d : sh85_0.data) : shb85_0.data := outB shb85_0.dflt (l85_0 d)
def r85_0 (d : sh85_0.data) : shr85_0.data := outR shr85_0.dflt (l85_0 d)
def lc85_0 : LoopC := lcOf sh85_0 shb85_0 shr85_0 l85_0 b85_0 r85_0

theorem e85_0_0 (x0 : (List Int)) (x1 : Int) (x2 : Int) : runBody kf86.orc Go.Proofs.Try.prog 400 85 0 sh85_0 shb85_0 shr85_0 ((x0, x1, x2, ()), ()) [true, true, true] =
    (some (.ret (((List.getD x0 (Int.toNat x2) (0 : Int) : Int), ()), ()), [((!eqF (List.getD x0 (Int.toNat x2) (0 : Int)) (0 : Int) : Bool), true), ((decide ((0 : Int) ≤ x2) && decide (x2 < (↑(List.length x0) : Int)) : Bool), true), ((!leF x1 x2 : Bool), true)])) := by kernel_rfl
theorem e85_0_1 (x0 : (List Int)) (x1 : Int) (x2 : Int) : runBody kf86.orc Go.Proofs.Try.prog 400 85 0 sh85_0 shb85_0 shr85_0 ((x0, x1, x2, ()), ()) [true, true, false] =
    (some (.again ((x0, (x1, ((wrap64 (x2 + (1 : Int)) : Int), ()))), ()), [((!eqF (List.getD x0 (Int.toNat x2) (0 : Int)) (0 : Int) : Bool), false), ((decide ((0 : Int) ≤ x2) && decide (x2 < (↑(List.length x0) : Int)) : Bool), true), ((!leF x1 x2 : Bool), true)])) := by kernel_rfl
theorem e85_0_3 (x0 : (List Int)) (x1 : Int) (x2 : Int) : runBody kf86.orc Go.Proofs.Try.prog 400 85 0 sh85_0 shb85_0 shr85_0 ((x0, x1, x2, ()), ()) [false] =
    (some (.brk ((), ()), [((!leF x1 x2 : Bool), false)])) := by kernel_rfl

theorem ok85_0_t (x0 : (List Int)) (x1 : Int) (x2 : Int) : TrOk (BodyRuns Go.Proofs.Try.prog kf86.orc 85 0 sh85_0 shb85_0 shr85_0 ((x0, x1, x2, ()), ())) (t85_0 x0 x1 x2) :=
  TrOk.ofTest (fun h0 => TrOk.ofTest (fun h1 => TrOk.ofTest (fun h2 => TrOk.ofFin (BodyRuns.of (e85_0_0 x0 x1 x2) (All.cons h2 (All.cons h1 (All.cons h0 (All.nil)))))) (fun h2 => TrOk.ofFin (BodyRuns.of (e85_0_1 x0 x1 x2) (All.cons h2 (All.cons h1 (All.cons h0 (All.nil))))))) (fun h1 => TrOk.ofStop)) (fun h0 => TrOk.ofFin (BodyRuns.of (e85_0_3 x0 x1 x2) (All.cons h0 (All.nil))))

theorem ok85_0 : LoopOk Go.Proofs.Try.prog 85 0 lc85_0 := loopOk_of kf86_ok.base (T := fun (d : sh85_0.data) => t85_0 d.1.1 d.1.2.1 d.1.2.2.1) (by kernel_rfl) rfl (fun (d : sh85_0.data) => ok85_0_t d.1.1 d.1.2.1 d.1.2.2.1) (fun _ => rfl)
def kl85_0 : Known := kf86.loop 85 0 lc85_0
theorem kl85_0_ok : KnownOk Go.Proofs.Try.prog kl85_0 := kf86_ok.loop ok85_0

/-! ductility/motion.firstOf -/

abbrev as85 : List Ty := [(.slice (.int .i64))]
abbrev rs85 : List Ty := [(.int .i64)]

def t85 (x0 : (List Int)) : Tr (Tys.data rs85) :=
  Tr.test (Option.isSome (l85_0 ((x0, ((↑(List.length x0) : Int), ((0 : Int), ()))), ())))
    (Tr.test (isRet (l85_0 ((x0, ((↑(List.length x0) : Int), ((0 : Int), ()))), ())))
      (let r0 : (Int × PUnit) × PUnit := r85_0 ((x0, ((↑(List.length x0) : Int), ((0 : Int), ()))), ());
      Tr.fin (((r0.fst.fst : Int), ())))
      (Tr.fin (((0 : Int), ()))))
    (Tr.stop)

def f85 (d : Tys.data as85) : Option (Tys.data rs85) := (t85 d.1).val
def g85 (d : Tys.data as85) : Tys.data rs85 := (f85 d).getD (Tys.dflt rs85)
def p85 : PureC := pcOf as85 rs85 f85 g85

theorem e85_0 (x0 : (List Int)) : runPure kl85_0.orc Go.Proofs.Try.prog 400 85 as85 rs85 (x0, ()) [true, true] =
    (let r0 : (Int × PUnit) × PUnit := r85_0 ((x0, ((↑(List.length x0) : Int), ((0 : Int), ()))), ()); some (((r0.fst.fst : Int), ()), [(isRet (l85_0 ((x0, ((↑(List.length x0) : Int), ((0 : Int), ()))), ())), true), (Option.isSome (l85_0 ((x0, ((↑(List.length x0) : Int), ((0 : Int), ()))), ())), true)])) := by kernel_rfl
theorem e85_1 (x0 : (List Int)) : runPure kl85_0.orc Go.Proofs.Try.prog 400 85 as85 rs85 (x0, ()) [true, false] =
    (some (((0 : Int), ()), [(isRet (l85_0 ((x0, ((↑(List.length x0) : Int), ((0 : Int), ()))), ())), false), (Option.isSome (l85_0 ((x0, ((↑(List.length x0) : Int), ((0 : Int), ()))), ())), true)])) := by kernel_rfl

theorem ok85_t (x0 : (List Int)) : TrOk (PureRuns Go.Proofs.Try.prog kl85_0.orc 85 as85 rs85 (x0, ())) (t85 x0) :=
  TrOk.ofTest (fun h0 => TrOk.ofTest (fun h1 => TrOk.ofFin (PureRuns.of (e85_0 x0) (All.cons h1 (All.cons h0 (All.nil))))) (fun h1 => TrOk.ofFin (PureRuns.of (e85_1 x0) (All.cons h1 (All.cons h0 (All.nil)))))) (fun h0 => TrOk.ofStop)

theorem ok85 : PureOk Go.Proofs.Try.prog 85 p85 := pureOk_of kl85_0_ok.base (T := fun (d : Tys.data as85) => t85 d.1) (by kernel_rfl) (fun (d : Tys.data as85) => ok85_t d.1)
def kf85 : Known := kl85_0.func 85 p85
theorem kf85_ok : KnownOk Go.Proofs.Try.prog kf85 := kl85_0_ok.func ok85

/-! loop 0 of ductility/motion.areWithin -/

abbrev sh94_0 : Sh := { n := 24, slots := [0, 1, 9, 10, 11], pats := [.ty (.int .i64), .ty (.int .i64), .ty (.slice (.int .i64)), .ty (.int .i64), .ty (.int .i64)], boxes := [] }
abbrev shb94_0 : Sh := { n := 24, slots := [], pats := [], boxes := [] }
abbrev shr94_0 : Sh := { n := 24, slots := [6], pats := [.ty .bool], boxes := [] }

def t94_0 (x0 : Int) (x1 : Int) (x2 : (List Int)) (x3 : Int) (x4 : Int) : Tr (Out sh94_0.data shb94_0.data shr94_0.data) :=
  Tr.test ((!leF x3 x4 : Bool))
    (Tr.test ((decide ((0 : Int) ≤ x4) && decide (x4 < (↑(List.length x2) : Int)) : Bool))
      (Tr.test ((!leF x0 (List.getD x2 (Int.toNat x4) (0 : Int)) : Bool))
        (Tr.fin (.ret (((false : Bool), ()), ())))
        (Tr.test ((!leF (List.getD x2 (Int.toNat x4) (0 : Int)) x1 : Bool))
          (Tr.fin (.ret (((false : Bool), ()), ())))
          (Tr.fin (.again ((x0, (x1, (x2, (x3, ((wrap64 (x4 + (1 : Int)) : Int), ()))))), ())))))
      (Tr.stop /- none [op 0 of region 3 of F94] -/))
    (Tr.fin (.brk ((), ())))

def s94_0 (d : sh94_0.data) : Option (Out sh94_0.data shb94_0.data shr94_0.data) := (t94_0 d.1.1 d.1.2.1 d.1.2.2.1 d.1.2.2.2.1 d.1.2.2.2.2.1).val
def l94_0 (d : sh94_0.data) : Option (shb94_0.data ⊕ shr94_0.data) := itr s94_0 rounds d
def b94_0 (d : sh94_0.data) : shb94_0.data := outB shb94_0.dflt (l94_0 d)
def r94_0 (d : sh94_0.data) : shr94_0.data := outR shr94_0.dflt (l94_0 d)
def lc94_0 : LoopC := lcOf sh94_0 shb94_0 shr94_0 l94_0 b94_0 r94_0

theorem e94_0_0 (x0 : Int) (x1 : Int) (x2 : (List Int)) (x3 : Int) (x4 : Int) : runBody kf85.orc Go.Proofs.Try.prog 400 94 0 sh94_0 shb94_0 shr94_0 ((x0, x1, x2, x3, x4, ()), ()) [true, true, true, true, true, true, true] =
    (some (.ret (((false : Bool), ()), ()), [((true : Bool), true), ((!leF x0 (List.getD x2 (Int.toNat x4) (0 : Int)) : Bool), true), ((!leF x0 (List.getD x2 (Int.toNat x4) (0 : Int)) : Bool), true), ((!leF x0 (List.getD x2 (Int.toNat x4) (0 : Int)) : Bool), true), ((!leF x0 (List.getD x2 (Int.toNat x4) (0 : Int)) : Bool), true), ((decide ((0 : Int) ≤ x4) && decide (x4 < (↑(List.length x2) : Int)) : Bool), true), ((!leF x3 x4 : Bool), true)])) := by kernel_rfl
theorem e94_0_1 (x0 : Int) (x1 : Int) (x2 : (List Int)) (x3 : Int) (x4 : Int) : runBody kf85.orc Go.Proofs.Try.prog 400 94 0 sh94_0 shb94_0 shr94_0 ((x0, x1, x2, x3, x4, ()), ()) [true, true, false, false, false, false, true] =
    (some (.ret (((false : Bool), ()), ()), [((!leF (List.getD x2 (Int.toNat x4) (0 : Int)) x1 : Bool), true), ((!leF x0 (List.getD x2 (Int.toNat x4) (0 : Int)) : Bool), false), ((!leF x0 (List.getD x2 (Int.toNat x4) (0 : Int)) : Bool), false), ((!leF x0 (List.getD x2 (Int.toNat x4) (0 : Int)) : Bool), false), ((!leF x0 (List.getD x2 (Int.toNat x4) (0 : Int)) : Bool), false), ((decide ((0 : Int) ≤ x4) && decide (x4 < (↑(List.length x2) : Int)) : Bool), true), ((!leF x3 x4 : Bool), true)])) := by kernel_rfl
theorem e94_0_2 (x0 : Int) (x1 : Int) (x2 : (List Int)) (x3 : Int) (x4 : Int) : runBody kf85.orc Go.Proofs.Try.prog 400 94 0 sh94_0 shb94_0 shr94_0 ((x0, x1, x2, x3, x4, ()), ()) [true, true, false, false, false, false, false] =
    (some (.again ((x0, (x1, (x2, (x3, ((wrap64 (x4 + (1 : Int)) : Int), ()))))), ()), [((!leF (List.getD x2 (Int.toNat x4) (0 : Int)) x1 : Bool), false), ((!leF x0 (List.getD x2 (Int.toNat x4) (0 : Int)) : Bool), false), ((!leF x0 (List.getD x2 (Int.toNat x4) (0 : Int)) : Bool), false), ((!leF x0 (List.getD x2 (Int.toNat x4) (0 : Int)) : Bool), false), ((!leF x0 (List.getD x2 (Int.toNat x4) (0 : Int)) : Bool), false), ((decide ((0 : Int) ≤ x4) && decide (x4 < (↑(List.length x2) : Int)) : Bool), true), ((!leF x3 x4 : Bool), true)])) := by kernel_rfl
theorem e94_0_4 (x0 : Int) (x1 : Int) (x2 : (List Int)) (x3 : Int) (x4 : Int) : runBody kf85.orc Go.Proofs.Try.prog 400 94 0 sh94_0 shb94_0 shr94_0 ((x0, x1, x2, x3, x4, ()), ()) [false] =
    (some (.brk ((), ()), [((!leF x3 x4 : Bool), false)])) := by kernel_rfl

theorem ok94_0_t (x0 : Int) (x1 : Int) (x2 : (List Int)) (x3 : Int) (x4 : Int) : TrOk (BodyRuns Go.Proofs.Try.prog kf85.orc 94 0 sh94_0 shb94_0 shr94_0 ((x0, x1, x2, x3, x4, ()), ())) (t94_0 x0 x1 x2 x3 x4) :=
  TrOk.ofTest (fun h0 => TrOk.ofTest (fun h1 => TrOk.ofTest (fun h2 => TrOk.ofFin (BodyRuns.of (e94_0_0 x0 x1 x2 x3 x4) (All.cons rfl (All.cons (not_of (of_not (h2))) (All.cons (not_of (of_not (h2))) (All.cons (not_of (of_not (h2))) (All.cons h2 (All.cons h1 (All.cons h0 (All.nil)))))))))) (fun h2 => TrOk.ofTest (fun h6 => TrOk.ofFin (BodyRuns.of (e94_0_1 x0 x1 x2 x3 x4) (All.cons h6 (All.cons (not_of (of_not (h2))) (All.cons (not_of (of_not (h2))) (All.cons (not_of (of_not (h2))) (All.cons h2 (All.cons h1 (All.cons h0 (All.nil)))))))))) (fun h6 => TrOk.ofFin (BodyRuns.of (e94_0_2 x0 x1 x2 x3 x4) (All.cons h6 (All.cons (not_of (of_not (h2))) (All.cons (not_of (of_not (h2))) (All.cons (not_of (of_not (h2))) (All.cons h2 (All.cons h1 (All.cons h0 (All.nil)))))))))))) (fun h1 => TrOk.ofStop)) (fun h0 => TrOk.ofFin (BodyRuns.of (e94_0_4 x0 x1 x2 x3 x4) (All.cons h0 (All.nil))))

theorem ok94_0 : LoopOk Go.Proofs.Try.prog 94 0 lc94_0 := loopOk_of kf85_ok.base (T := fun (d : sh94_0.data) => t94_0 d.1.1 d.1.2.1 d.1.2.2.1 d.1.2.2.2.1 d.1.2.2.2.2.1) (by kernel_rfl) rfl (fun (d : sh94_0.data) => ok94_0_t d.1.1 d.1.2.1 d.1.2.2.1 d.1.2.2.2.1 d.1.2.2.2.2.1) (fun _ => rfl)
def kl94_0 : Known := kf85.loop 94 0 lc94_0
theorem kl94_0_ok : KnownOk Go.Proofs.Try.prog kl94_0 := kf85_ok.loop ok94_0

/-! ductility/motion.areWithin -/

abbrev as94 : List Ty := [(.int .i64), (.int .i64), (.slice (.int .i64))]
abbrev rs94 : List Ty := [.bool]

def t94 (x0 : Int) (x1 : Int) (x2 : (List Int)) : Tr (Tys.data rs94) :=
  Tr.test (Option.isSome (l94_0 ((x0, (x1, (x2, ((↑(List.length x2) : Int), ((0 : Int), ()))))), ())))
    (Tr.test (isRet (l94_0 ((x0, (x1, (x2, ((↑(List.length x2) : Int), ((0 : Int), ()))))), ())))
      (let r0 : (Bool × PUnit) × PUnit := r94_0 ((x0, (x1, (x2, ((↑(List.length x2) : Int), ((0 : Int), ()))))), ());
      Tr.fin (((r0.fst.fst : Bool), ())))
      (Tr.fin (((true : Bool), ()))))
    (Tr.stop)

def f94 (d : Tys.data as94) : Option (Tys.data rs94) := (t94 d.1 d.2.1 d.2.2.1).val
def g94 (d : Tys.data as94) : Tys.data rs94 := (f94 d).getD (Tys.dflt rs94)
def p94 : PureC := pcOf as94 rs94 f94 g94

theorem e94_0 (x0 : Int) (x1 : Int) (x2 : (List Int)) : runPure kl94_0.orc Go.Proofs.Try.prog 400 94 as94 rs94 (x0, x1, x2, ()) [true, true] =
    (let r0 : (Bool × PUnit) × PUnit := r94_0 ((x0, (x1, (x2, ((↑(List.length x2) : Int), ((0 : Int), ()))))), ()); some (((r0.fst.fst : Bool), ()), [(isRet (l94_0 ((x0, (x1, (x2, ((↑(List.length x2) : Int), ((0 : Int), ()))))), ())), true), (Option.isSome (l94_0 ((x0, (x1, (x2, ((↑(List.length x2) : Int), ((0 : Int), ()))))), ())), true)])) := by kernel_rfl
theorem e94_1 (x0 : Int) (x1 : Int) (x2 : (List Int)) : runPure kl94_0.orc Go.Proofs.Try.prog 400 94 as94 rs94 (x0, x1, x2, ()) [true, false] =
    (some (((true : Bool), ()), [(isRet (l94_0 ((x0, (x1, (x2, ((↑(List.length x2) : Int), ((0 : Int), ()))))), ())), false), (Option.isSome (l94_0 ((x0, (x1, (x2, ((↑(List.length x2) : Int), ((0 : Int), ()))))), ())), true)])) := by kernel_rfl

theorem ok94_t (x0 : Int) (x1 : Int) (x2 : (List Int)) : TrOk (PureRuns Go.Proofs.Try.prog kl94_0.orc 94 as94 rs94 (x0, x1, x2, ())) (t94 x0 x1 x2) :=
  TrOk.ofTest (fun h0 => TrOk.ofTest (fun h1 => TrOk.ofFin (PureRuns.of (e94_0 x0 x1 x2) (All.cons h1 (All.cons h0 (All.nil))))) (fun h1 => TrOk.ofFin (PureRuns.of (e94_1 x0 x1 x2) (All.cons h1 (All.cons h0 (All.nil)))))) (fun h0 => TrOk.ofStop)

theorem ok94 : PureOk Go.Proofs.Try.prog 94 p94 := pureOk_of kl94_0_ok.base (T := fun (d : Tys.data as94) => t94 d.1 d.2.1 d.2.2.1) (by kernel_rfl) (fun (d : Tys.data as94) => ok94_t d.1 d.2.1 d.2.2.1)
def kf94 : Known := kl94_0.func 94 p94
theorem kf94_ok : KnownOk Go.Proofs.Try.prog kf94 := kl94_0_ok.func ok94

/-! ductility/motion.isBeyond -/

abbrev as141 : List Ty := [(.int .i64), (.slice (.int .i64))]
abbrev rs141 : List Ty := [.bool]

def t141 (x0 : Int) (x1 : (List Int)) : Tr (Tys.data rs141) :=
  Tr.test (Option.isSome (f94 ((Go.IntKind.wrap Go.IntKind.i64 ((0 : Int) - x0) : Int), (x0, (x1, ())))))
    (let r0 : Bool × PUnit := g94 ((Go.IntKind.wrap Go.IntKind.i64 ((0 : Int) - x0) : Int), (x0, (x1, ())));
    Tr.fin (((!r0.fst : Bool), ())))
    (Tr.stop)

def f141 (d : Tys.data as141) : Option (Tys.data rs141) := (t141 d.1 d.2.1).val
def g141 (d : Tys.data as141) : Tys.data rs141 := (f141 d).getD (Tys.dflt rs141)
def p141 : PureC := pcOf as141 rs141 f141 g141

theorem e141_0 (x0 : Int) (x1 : (List Int)) : runPure kf94.orc Go.Proofs.Try.prog 400 141 as141 rs141 (x0, x1, ()) [true] =
    (let r0 : Bool × PUnit := g94 ((Go.IntKind.wrap Go.IntKind.i64 ((0 : Int) - x0) : Int), (x0, (x1, ()))); some (((!r0.fst : Bool), ()), [(Option.isSome (f94 ((Go.IntKind.wrap Go.IntKind.i64 ((0 : Int) - x0) : Int), (x0, (x1, ())))), true)])) := by kernel_rfl

theorem ok141_t (x0 : Int) (x1 : (List Int)) : TrOk (PureRuns Go.Proofs.Try.prog kf94.orc 141 as141 rs141 (x0, x1, ())) (t141 x0 x1) :=
  TrOk.ofTest (fun h0 => TrOk.ofFin (PureRuns.of (e141_0 x0 x1) (All.cons h0 (All.nil)))) (fun h0 => TrOk.ofStop)

theorem ok141 : PureOk Go.Proofs.Try.prog 141 p141 := pureOk_of kf94_ok.base (T := fun (d : Tys.data as141) => t141 d.1 d.2.1) (by kernel_rfl) (fun (d : Tys.data as141) => ok141_t d.1 d.2.1)
def kf141 : Known := kf94.func 141 p141
theorem kf141_ok : KnownOk Go.Proofs.Try.prog kf141 := kf94_ok.func ok141

/-! ductility/motion.checkSamples$1 -/

abbrev as140 : List Ty := [(.int .i64), (.int .i64)]
abbrev rs140 : List Ty := [(.int .i64)]

def t140 (x0 : Int) (x1 : Int) : Tr (Tys.data rs140) :=
  Tr.test (Option.isSome (f141 ((1000 : Int), (([x1] : List Int), ()))))
    (let r0 : Bool × PUnit := g141 ((1000 : Int), (([x1] : List Int), ()));
    Tr.test (Option.isSome (f86 ((r0.fst : Bool), ((2 : Int), ()))))
      (let r1 : Int × PUnit := g86 ((r0.fst : Bool), ((2 : Int), ()));
      Tr.fin (((r1.fst : Int), ())))
      (Tr.stop))
    (Tr.stop)

def f140 (d : Tys.data as140) : Option (Tys.data rs140) := (t140 d.1 d.2.1).val
def g140 (d : Tys.data as140) : Tys.data rs140 := (f140 d).getD (Tys.dflt rs140)
def p140 : PureC := pcOf as140 rs140 f140 g140

theorem e140_0 (x0 : Int) (x1 : Int) : runPure kf141.orc Go.Proofs.Try.prog 400 140 as140 rs140 (x0, x1, ()) [true, true, true] =
    (let r0 : Bool × PUnit := g141 ((1000 : Int), (([x1] : List Int), ())); let r1 : Int × PUnit := g86 ((r0.fst : Bool), ((2 : Int), ())); some (((r1.fst : Int), ()), [(Option.isSome (f86 ((r0.fst : Bool), ((2 : Int), ()))), true), (Option.isSome (f141 ((1000 : Int), (([x1] : List Int), ()))), true), ((true : Bool), true)])) := by kernel_rfl

theorem ok140_t (x0 : Int) (x1 : Int) : TrOk (PureRuns Go.Proofs.Try.prog kf141.orc 140 as140 rs140 (x0, x1, ())) (t140 x0 x1) :=
  TrOk.ofTest (fun h1 => TrOk.ofTest (fun h2 => TrOk.ofFin (PureRuns.of (e140_0 x0 x1) (All.cons h2 (All.cons h1 (All.cons rfl (All.nil)))))) (fun h2 => TrOk.ofStop)) (fun h1 => TrOk.ofStop)

theorem ok140 : PureOk Go.Proofs.Try.prog 140 p140 := pureOk_of kf141_ok.base (T := fun (d : Tys.data as140) => t140 d.1 d.2.1) (by kernel_rfl) (fun (d : Tys.data as140) => ok140_t d.1 d.2.1)
def kf140 : Known := kf141.func 140 p140
theorem kf140_ok : KnownOk Go.Proofs.Try.prog kf140 := kf141_ok.func ok140

/-! loop 0 of ductility/motion.checkItems[int] -/

abbrev sh106_0 : Sh := { n := 25, slots := [1, 9, 10, 11], pats := [.fn 140 [], .ty (.slice (.int .i64)), .ty (.int .i64), .ty (.int .i64)], boxes := [] }
abbrev shb106_0 : Sh := { n := 25, slots := [], pats := [], boxes := [] }
abbrev shr106_0 : Sh := { n := 25, slots := [4, 5], pats := [.ty (.int .i64), .ty (.int .i64)], boxes := [] }

def t106_0 (x1 : (List Int)) (x2 : Int) (x3 : Int) : Tr (Out sh106_0.data shb106_0.data shr106_0.data) :=
  Tr.test ((!leF x2 x3 : Bool))
    (Tr.test ((decide ((0 : Int) ≤ x3) && decide (x3 < (↑(List.length x1) : Int)) : Bool))
      (Tr.test (Option.isSome (f140 (x3, ((List.getD x1 (Int.toNat x3) (0 : Int) : Int), ()))))
        (let r0 : Int × PUnit := g140 (x3, ((List.getD x1 (Int.toNat x3) (0 : Int) : Int), ()));
        Tr.test ((!eqF r0.fst (0 : Int) : Bool))
          (Tr.fin (.ret ((x3, ((r0.fst : Int), ())), ())))
          (Tr.fin (.again ((x1, (x2, ((wrap64 (x3 + (1 : Int)) : Int), ()))), ()))))
        (Tr.stop))
      (Tr.stop /- none [op 1 of region 3 of F106] -/))
    (Tr.fin (.brk ((), ())))

def s106_0 (d : sh106_0.data) : Option (Out sh106_0.data shb106_0.data shr106_0.data) := (t106_0 d.1.1 d.1.2.1 d.1.2.2.1).val
def l106_0 (d : sh106_0.data) : Option (shb106_0.data ⊕ shr106_0.data) := itr s106_0 rounds d
def b106_0 (d : sh106_0.data) : shb106_0.data := outB shb106_0.dflt (l106_0 d)
def r106_0 (d : sh106_0.data) : shr106_0.data := outR shr106_0.dflt (l106_0 d)
def lc106_0 : LoopC := lcOf sh106_0 shb106_0 shr106_0 l106_0 b106_0 r106_0

theorem e106_0_0 (x1 : (List Int)) (x2 : Int) (x3 : Int) : runBody kf140.orc Go.Proofs.Try.prog 400 106 0 sh106_0 shb106_0 shr106_0 ((x1, x2, x3, ()), ()) [true, true, true, true] =
    (let r0 : Int × PUnit := g140 (x3, ((List.getD x1 (Int.toNat x3) (0 : Int) : Int), ())); some (.ret ((x3, ((r0.fst : Int), ())), ()), [((!eqF r0.fst (0 : Int) : Bool), true), (Option.isSome (f140 (x3, ((List.getD x1 (Int.toNat x3) (0 : Int) : Int), ()))), true), ((decide ((0 : Int) ≤ x3) && decide (x3 < (↑(List.length x1) : Int)) : Bool), true), ((!leF x2 x3 : Bool), true)])) := by kernel_rfl
theorem e106_0_1 (x1 : (List Int)) (x2 : Int) (x3 : Int) : runBody kf140.orc Go.Proofs.Try.prog 400 106 0 sh106_0 shb106_0 shr106_0 ((x1, x2, x3, ()), ()) [true, true, true, false] =
    (let r0 : Int × PUnit := g140 (x3, ((List.getD x1 (Int.toNat x3) (0 : Int) : Int), ())); some (.again ((x1, (x2, ((wrap64 (x3 + (1 : Int)) : Int), ()))), ()), [((!eqF r0.fst (0 : Int) : Bool), false), (Option.isSome (f140 (x3, ((List.getD x1 (Int.toNat x3) (0 : Int) : Int), ()))), true), ((decide ((0 : Int) ≤ x3) && decide (x3 < (↑(List.length x1) : Int)) : Bool), true), ((!leF x2 x3 : Bool), true)])) := by kernel_rfl
theorem e106_0_3 (x1 : (List Int)) (x2 : Int) (x3 : Int) : runBody kf140.orc Go.Proofs.Try.prog 400 106 0 sh106_0 shb106_0 shr106_0 ((x1, x2, x3, ()), ()) [false] =
    (some (.brk ((), ()), [((!leF x2 x3 : Bool), false)])) := by kernel_rfl

theorem ok106_0_t (x1 : (List Int)) (x2 : Int) (x3 : Int) : TrOk (BodyRuns Go.Proofs.Try.prog kf140.orc 106 0 sh106_0 shb106_0 shr106_0 ((x1, x2, x3, ()), ())) (t106_0 x1 x2 x3) :=
  TrOk.ofTest (fun h0 => TrOk.ofTest (fun h1 => TrOk.ofTest (fun h2 => TrOk.ofTest (fun h3 => TrOk.ofFin (BodyRuns.of (e106_0_0 x1 x2 x3) (All.cons h3 (All.cons h2 (All.cons h1 (All.cons h0 (All.nil))))))) (fun h3 => TrOk.ofFin (BodyRuns.of (e106_0_1 x1 x2 x3) (All.cons h3 (All.cons h2 (All.cons h1 (All.cons h0 (All.nil)))))))) (fun h2 => TrOk.ofStop)) (fun h1 => TrOk.ofStop)) (fun h0 => TrOk.ofFin (BodyRuns.of (e106_0_3 x1 x2 x3) (All.cons h0 (All.nil))))

theorem ok106_0 : LoopOk Go.Proofs.Try.prog 106 0 lc106_0 := loopOk_of kf140_ok.base (T := fun (d : sh106_0.data) => t106_0 d.1.1 d.1.2.1 d.1.2.2.1) (by kernel_rfl) rfl (fun (d : sh106_0.data) => ok106_0_t d.1.1 d.1.2.1 d.1.2.2.1) (fun _ => rfl)
def kl106_0 : Known := kf140.loop 106 0 lc106_0
theorem kl106_0_ok : KnownOk Go.Proofs.Try.prog kl106_0 := kf140_ok.loop ok106_0

/-! ductility/motion.checkSamples -/

abbrev as87 : List Ty := [(.slice (.int .i64))]
abbrev rs87 : List Ty := [(.int .i64), (.int .i64)]

def t87 (x0 : (List Int)) : Tr (Tys.data rs87) :=
  Tr.test (Option.isSome (l106_0 ((x0, ((↑(List.length x0) : Int), ((0 : Int), ()))), ())))
    (Tr.test (isRet (l106_0 ((x0, ((↑(List.length x0) : Int), ((0 : Int), ()))), ())))
      (let r0 : (Int × Int × PUnit) × PUnit := r106_0 ((x0, ((↑(List.length x0) : Int), ((0 : Int), ()))), ());
      Tr.fin (((r0.fst.fst : Int), ((r0.fst.snd.fst : Int), ()))))
      (Tr.fin (((0 : Int), ((0 : Int), ())))))
    (Tr.stop)

def f87 (d : Tys.data as87) : Option (Tys.data rs87) := (t87 d.1).val
def g87 (d : Tys.data as87) : Tys.data rs87 := (f87 d).getD (Tys.dflt rs87)
def p87 : PureC := pcOf as87 rs87 f87 g87

theorem e87_0 (x0 : (List Int)) : runPure kl106_0.orc Go.Proofs.Try.prog 400 87 as87 rs87 (x0, ()) [true, true] =
    (let r0 : (Int × Int × PUnit) × PUnit := r106_0 ((x0, ((↑(List.length x0) : Int), ((0 : Int), ()))), ()); some (((r0.fst.fst : Int), ((r0.fst.snd.fst : Int), ())), [(isRet (l106_0 ((x0, ((↑(List.length x0) : Int), ((0 : Int), ()))), ())), true), (Option.isSome (l106_0 ((x0, ((↑(List.length x0) : Int), ((0 : Int), ()))), ())), true)])) := by kernel_rfl
theorem e87_1 (x0 : (List Int)) : runPure kl106_0.orc Go.Proofs.Try.prog 400 87 as87 rs87 (x0, ()) [true, false] =
    (some (((0 : Int), ((0 : Int), ())), [(isRet (l106_0 ((x0, ((↑(List.length x0) : Int), ((0 : Int), ()))), ())), false), (Option.isSome (l106_0 ((x0, ((↑(List.length x0) : Int), ((0 : Int), ()))), ())), true)])) := by kernel_rfl

theorem ok87_t (x0 : (List Int)) : TrOk (PureRuns Go.Proofs.Try.prog kl106_0.orc 87 as87 rs87 (x0, ())) (t87 x0) :=
  TrOk.ofTest (fun h0 => TrOk.ofTest (fun h1 => TrOk.ofFin (PureRuns.of (e87_0 x0) (All.cons h1 (All.cons h0 (All.nil))))) (fun h1 => TrOk.ofFin (PureRuns.of (e87_1 x0) (All.cons h1 (All.cons h0 (All.nil)))))) (fun h0 => TrOk.ofStop)

theorem ok87 : PureOk Go.Proofs.Try.prog 87 p87 := pureOk_of kl106_0_ok.base (T := fun (d : Tys.data as87) => t87 d.1) (by kernel_rfl) (fun (d : Tys.data as87) => ok87_t d.1)
def kf87 : Known := kl106_0.func 87 p87
theorem kf87_ok : KnownOk Go.Proofs.Try.prog kf87 := kl106_0_ok.func ok87

/-! ductility/motion.CheckRecord -/

abbrev as17 : List Ty := [(.pair (.int .i64) (.pair (.slice (.int .i64)) .unit))]
abbrev rs17 : List Ty := [(.int .i64), (.int .i64)]

def t17 (x0 : Int) (x0' : (List Int)) : Tr (Tys.data rs17) :=
  Tr.test ((!leF (1 : Int) x0 : Bool))
    (Tr.test (Option.isSome (f86 ((true : Bool), ((2 : Int), ()))))
      (Tr.test (Option.isSome (f86 ((!leF (2 : Int) (↑(List.length x0') : Int) : Bool), ((10 : Int), ()))))
        (Tr.test (Option.isSome (f86 ((!leF (↑(List.length x0') : Int) (24 : Int) : Bool), ((8 : Int), ()))))
          (let r0 : Int × PUnit := g86 ((true : Bool), ((2 : Int), ()));
          let r2 : Int × PUnit := g86 ((!leF (2 : Int) (↑(List.length x0') : Int) : Bool), ((10 : Int), ()));
          let r3 : Int × PUnit := g86 ((!leF (↑(List.length x0') : Int) (24 : Int) : Bool), ((8 : Int), ()));
          Tr.test (Option.isSome (f85 (([r0.fst, r2.fst, r3.fst] : List Int), ())))
            (let r4 : Int × PUnit := g85 (([r0.fst, r2.fst, r3.fst] : List Int), ());
            Tr.test ((!eqF r4.fst (0 : Int) : Bool))
              (Tr.fin (((0 : Int), ((r4.fst : Int), ()))))
              (Tr.test (Option.isSome (f87 (x0', ())))
                (let r6 : Int × Int × PUnit := g87 (x0', ());
                Tr.fin (((r6.fst : Int), ((r6.snd.fst : Int), ()))))
                (Tr.stop)))
            (Tr.stop))
          (Tr.stop))
        (Tr.stop))
      (Tr.stop))
    (Tr.test (Option.isSome (f86 ((!leF x0 (1000000 : Int) : Bool), ((2 : Int), ()))))
      (Tr.test (Option.isSome (f86 ((!leF (2 : Int) (↑(List.length x0') : Int) : Bool), ((10 : Int), ()))))
        (Tr.test (Option.isSome (f86 ((!leF (↑(List.length x0') : Int) (24 : Int) : Bool), ((8 : Int), ()))))
          (let r1 : Int × PUnit := g86 ((!leF x0 (1000000 : Int) : Bool), ((2 : Int), ()));
          let r2 : Int × PUnit := g86 ((!leF (2 : Int) (↑(List.length x0') : Int) : Bool), ((10 : Int), ()));
          let r3 : Int × PUnit := g86 ((!leF (↑(List.length x0') : Int) (24 : Int) : Bool), ((8 : Int), ()));
          Tr.test (Option.isSome (f85 (([r1.fst, r2.fst, r3.fst] : List Int), ())))
            (let r5 : Int × PUnit := g85 (([r1.fst, r2.fst, r3.fst] : List Int), ());
            Tr.test ((!eqF r5.fst (0 : Int) : Bool))
              (Tr.fin (((0 : Int), ((r5.fst : Int), ()))))
              (Tr.test (Option.isSome (f87 (x0', ())))
                (let r6 : Int × Int × PUnit := g87 (x0', ());
                Tr.fin (((r6.fst : Int), ((r6.snd.fst : Int), ()))))
                (Tr.stop)))
            (Tr.stop))
          (Tr.stop))
        (Tr.stop))
      (Tr.stop))

def f17 (d : Tys.data as17) : Option (Tys.data rs17) := (t17 d.1.1 d.1.2.1).val
def g17 (d : Tys.data as17) : Tys.data rs17 := (f17 d).getD (Tys.dflt rs17)
def p17 : PureC := pcOf as17 rs17 f17 g17

theorem e17_0 (x0 : Int) (x0' : (List Int)) : runPure kf87.orc Go.Proofs.Try.prog 400 17 as17 rs17 ((x0, x0', ()), ()) [true, true, true, true, true, true, true, true, true, true] =
    (let r0 : Int × PUnit := g86 ((true : Bool), ((2 : Int), ())); let r2 : Int × PUnit := g86 ((!leF (2 : Int) (↑(List.length x0') : Int) : Bool), ((10 : Int), ())); let r3 : Int × PUnit := g86 ((!leF (↑(List.length x0') : Int) (24 : Int) : Bool), ((8 : Int), ())); let r4 : Int × PUnit := g85 (([r0.fst, r2.fst, r3.fst] : List Int), ()); some (((0 : Int), ((r4.fst : Int), ())), [((!eqF r4.fst (0 : Int) : Bool), true), (Option.isSome (f85 (([r0.fst, r2.fst, r3.fst] : List Int), ())), true), ((true : Bool), true), (Option.isSome (f86 ((!leF (↑(List.length x0') : Int) (24 : Int) : Bool), ((8 : Int), ()))), true), (Option.isSome (f86 ((!leF (2 : Int) (↑(List.length x0') : Int) : Bool), ((10 : Int), ()))), true), (Option.isSome (f86 ((true : Bool), ((2 : Int), ()))), true), ((!leF (1 : Int) x0 : Bool), true), ((!leF (1 : Int) x0 : Bool), true), ((!leF (1 : Int) x0 : Bool), true), ((!leF (1 : Int) x0 : Bool), true)])) := by kernel_rfl
theorem e17_1 (x0 : Int) (x0' : (List Int)) : runPure kf87.orc Go.Proofs.Try.prog 400 17 as17 rs17 ((x0, x0', ()), ()) [true, true, true, true, true, true, true, true, true, false, true] =
    (let r0 : Int × PUnit := g86 ((true : Bool), ((2 : Int), ())); let r2 : Int × PUnit := g86 ((!leF (2 : Int) (↑(List.length x0') : Int) : Bool), ((10 : Int), ())); let r3 : Int × PUnit := g86 ((!leF (↑(List.length x0') : Int) (24 : Int) : Bool), ((8 : Int), ())); let r4 : Int × PUnit := g85 (([r0.fst, r2.fst, r3.fst] : List Int), ()); let r6 : Int × Int × PUnit := g87 (x0', ()); some (((r6.fst : Int), ((r6.snd.fst : Int), ())), [(Option.isSome (f87 (x0', ())), true), ((!eqF r4.fst (0 : Int) : Bool), false), (Option.isSome (f85 (([r0.fst, r2.fst, r3.fst] : List Int), ())), true), ((true : Bool), true), (Option.isSome (f86 ((!leF (↑(List.length x0') : Int) (24 : Int) : Bool), ((8 : Int), ()))), true), (Option.isSome (f86 ((!leF (2 : Int) (↑(List.length x0') : Int) : Bool), ((10 : Int), ()))), true), (Option.isSome (f86 ((true : Bool), ((2 : Int), ()))), true), ((!leF (1 : Int) x0 : Bool), true), ((!leF (1 : Int) x0 : Bool), true), ((!leF (1 : Int) x0 : Bool), true), ((!leF (1 : Int) x0 : Bool), true)])) := by kernel_rfl
theorem e17_2 (x0 : Int) (x0' : (List Int)) : runPure kf87.orc Go.Proofs.Try.prog 400 17 as17 rs17 ((x0, x0', ()), ()) [false, false, false, false, true, true, true, true, true, true] =
    (let r1 : Int × PUnit := g86 ((!leF x0 (1000000 : Int) : Bool), ((2 : Int), ())); let r2 : Int × PUnit := g86 ((!leF (2 : Int) (↑(List.length x0') : Int) : Bool), ((10 : Int), ())); let r3 : Int × PUnit := g86 ((!leF (↑(List.length x0') : Int) (24 : Int) : Bool), ((8 : Int), ())); let r5 : Int × PUnit := g85 (([r1.fst, r2.fst, r3.fst] : List Int), ()); some (((0 : Int), ((r5.fst : Int), ())), [((!eqF r5.fst (0 : Int) : Bool), true), (Option.isSome (f85 (([r1.fst, r2.fst, r3.fst] : List Int), ())), true), ((true : Bool), true), (Option.isSome (f86 ((!leF (↑(List.length x0') : Int) (24 : Int) : Bool), ((8 : Int), ()))), true), (Option.isSome (f86 ((!leF (2 : Int) (↑(List.length x0') : Int) : Bool), ((10 : Int), ()))), true), (Option.isSome (f86 ((!leF x0 (1000000 : Int) : Bool), ((2 : Int), ()))), true), ((!leF (1 : Int) x0 : Bool), false), ((!leF (1 : Int) x0 : Bool), false), ((!leF (1 : Int) x0 : Bool), false), ((!leF (1 : Int) x0 : Bool), false)])) := by kernel_rfl
theorem e17_3 (x0 : Int) (x0' : (List Int)) : runPure kf87.orc Go.Proofs.Try.prog 400 17 as17 rs17 ((x0, x0', ()), ()) [false, false, false, false, true, true, true, true, true, false, true] =
    (let r1 : Int × PUnit := g86 ((!leF x0 (1000000 : Int) : Bool), ((2 : Int), ())); let r2 : Int × PUnit := g86 ((!leF (2 : Int) (↑(List.length x0') : Int) : Bool), ((10 : Int), ())); let r3 : Int × PUnit := g86 ((!leF (↑(List.length x0') : Int) (24 : Int) : Bool), ((8 : Int), ())); let r5 : Int × PUnit := g85 (([r1.fst, r2.fst, r3.fst] : List Int), ()); let r6 : Int × Int × PUnit := g87 (x0', ()); some (((r6.fst : Int), ((r6.snd.fst : Int), ())), [(Option.isSome (f87 (x0', ())), true), ((!eqF r5.fst (0 : Int) : Bool), false), (Option.isSome (f85 (([r1.fst, r2.fst, r3.fst] : List Int), ())), true), ((true : Bool), true), (Option.isSome (f86 ((!leF (↑(List.length x0') : Int) (24 : Int) : Bool), ((8 : Int), ()))), true), (Option.isSome (f86 ((!leF (2 : Int) (↑(List.length x0') : Int) : Bool), ((10 : Int), ()))), true), (Option.isSome (f86 ((!leF x0 (1000000 : Int) : Bool), ((2 : Int), ()))), true), ((!leF (1 : Int) x0 : Bool), false), ((!leF (1 : Int) x0 : Bool), false), ((!leF (1 : Int) x0 : Bool), false), ((!leF (1 : Int) x0 : Bool), false)])) := by kernel_rfl

theorem ok17_t (x0 : Int) (x0' : (List Int)) : TrOk (PureRuns Go.Proofs.Try.prog kf87.orc 17 as17 rs17 ((x0, x0', ()), ())) (t17 x0 x0') :=
  TrOk.ofTest (fun h0 => TrOk.ofTest (fun h4 => TrOk.ofTest (fun h5 => TrOk.ofTest (fun h6 => TrOk.ofTest (fun h8 => TrOk.ofTest (fun h9 => TrOk.ofFin (PureRuns.of (e17_0 x0 x0') (All.cons h9 (All.cons h8 (All.cons rfl (All.cons h6 (All.cons h5 (All.cons h4 (All.cons (not_of (of_not (h0))) (All.cons (not_of (of_not (h0))) (All.cons (not_of (of_not (h0))) (All.cons h0 (All.nil))))))))))))) (fun h9 => TrOk.ofTest (fun h10 => TrOk.ofFin (PureRuns.of (e17_1 x0 x0') (All.cons h10 (All.cons h9 (All.cons h8 (All.cons rfl (All.cons h6 (All.cons h5 (All.cons h4 (All.cons (not_of (of_not (h0))) (All.cons (not_of (of_not (h0))) (All.cons (not_of (of_not (h0))) (All.cons h0 (All.nil)))))))))))))) (fun h10 => TrOk.ofStop))) (fun h8 => TrOk.ofStop)) (fun h6 => TrOk.ofStop)) (fun h5 => TrOk.ofStop)) (fun h4 => TrOk.ofStop)) (fun h0 => TrOk.ofTest (fun h4 => TrOk.ofTest (fun h5 => TrOk.ofTest (fun h6 => TrOk.ofTest (fun h8 => TrOk.ofTest (fun h9 => TrOk.ofFin (PureRuns.of (e17_2 x0 x0') (All.cons h9 (All.cons h8 (All.cons rfl (All.cons h6 (All.cons h5 (All.cons h4 (All.cons (not_of (of_not (h0))) (All.cons (not_of (of_not (h0))) (All.cons (not_of (of_not (h0))) (All.cons h0 (All.nil))))))))))))) (fun h9 => TrOk.ofTest (fun h10 => TrOk.ofFin (PureRuns.of (e17_3 x0 x0') (All.cons h10 (All.cons h9 (All.cons h8 (All.cons rfl (All.cons h6 (All.cons h5 (All.cons h4 (All.cons (not_of (of_not (h0))) (All.cons (not_of (of_not (h0))) (All.cons (not_of (of_not (h0))) (All.cons h0 (All.nil)))))))))))))) (fun h10 => TrOk.ofStop))) (fun h8 => TrOk.ofStop)) (fun h6 => TrOk.ofStop)) (fun h5 => TrOk.ofStop)) (fun h4 => TrOk.ofStop))

theorem ok17 : PureOk Go.Proofs.Try.prog 17 p17 := pureOk_of kf87_ok.base (T := fun (d : Tys.data as17) => t17 d.1.1 d.1.2.1) (by kernel_rfl) (fun (d : Tys.data as17) => ok17_t d.1.1 d.1.2.1)
def kf17 : Known := kf87.func 17 p17
theorem kf17_ok : KnownOk Go.Proofs.Try.prog kf17 := kf87_ok.func ok17

/-! ductility/motion.recordError -/

abbrev as88 : List Ty := [(.pair (.int .i64) (.pair (.slice (.int .i64)) .unit))]
abbrev rs88 : List Ty := [(.int .i64)]

def t88 (x0 : Int) (x0' : (List Int)) : Tr (Tys.data rs88) :=
  Tr.test (Option.isSome (f17 ((x0, (x0', ())), ())))
    (let r0 : Int × Int × PUnit := g17 ((x0, (x0', ())), ());
    Tr.fin (((r0.snd.fst : Int), ())))
    (Tr.stop)

def f88 (d : Tys.data as88) : Option (Tys.data rs88) := (t88 d.1.1 d.1.2.1).val
def g88 (d : Tys.data as88) : Tys.data rs88 := (f88 d).getD (Tys.dflt rs88)
def p88 : PureC := pcOf as88 rs88 f88 g88

theorem e88_0 (x0 : Int) (x0' : (List Int)) : runPure kf17.orc Go.Proofs.Try.prog 400 88 as88 rs88 ((x0, x0', ()), ()) [true] =
    (let r0 : Int × Int × PUnit := g17 ((x0, (x0', ())), ()); some (((r0.snd.fst : Int), ()), [(Option.isSome (f17 ((x0, (x0', ())), ())), true)])) := by kernel_rfl

theorem ok88_t (x0 : Int) (x0' : (List Int)) : TrOk (PureRuns Go.Proofs.Try.prog kf17.orc 88 as88 rs88 ((x0, x0', ()), ())) (t88 x0 x0') :=
  TrOk.ofTest (fun h0 => TrOk.ofFin (PureRuns.of (e88_0 x0 x0') (All.cons h0 (All.nil)))) (fun h0 => TrOk.ofStop)

theorem ok88 : PureOk Go.Proofs.Try.prog 88 p88 := pureOk_of kf17_ok.base (T := fun (d : Tys.data as88) => t88 d.1.1 d.1.2.1) (by kernel_rfl) (fun (d : Tys.data as88) => ok88_t d.1.1 d.1.2.1)
def kf88 : Known := kf17.func 88 p88
theorem kf88_ok : KnownOk Go.Proofs.Try.prog kf88 := kf17_ok.func ok88

/-! ductility/motion.oscillatorError -/

abbrev as119 : List Ty := [(.pair (.int .i64) (.pair (.int .i64) .unit))]
abbrev rs119 : List Ty := [(.int .i64)]

def t119 (x0 : Int) (x0' : Int) : Tr (Tys.data rs119) :=
  Tr.test (Option.isSome (f94 ((0 : Int), ((3000 : Int), (([x0] : List Int), ())))))
    (let r0 : Bool × PUnit := g94 ((0 : Int), ((3000 : Int), (([x0] : List Int), ())));
    Tr.test (Option.isSome (f86 ((!r0.fst : Bool), ((2 : Int), ()))))
      (Tr.test (Option.isSome (f94 ((0 : Int), ((500 : Int), (([x0'] : List Int), ())))))
        (let r2 : Bool × PUnit := g94 ((0 : Int), ((500 : Int), (([x0'] : List Int), ())));
        Tr.test (Option.isSome (f86 ((!r2.fst : Bool), ((2 : Int), ()))))
          (let r1 : Int × PUnit := g86 ((!r0.fst : Bool), ((2 : Int), ()));
          let r3 : Int × PUnit := g86 ((!r2.fst : Bool), ((2 : Int), ()));
          Tr.test (Option.isSome (f85 (([r1.fst, r3.fst] : List Int), ())))
            (let r4 : Int × PUnit := g85 (([r1.fst, r3.fst] : List Int), ());
            Tr.fin (((r4.fst : Int), ())))
            (Tr.stop))
          (Tr.stop))
        (Tr.stop))
      (Tr.stop))
    (Tr.stop)

def f119 (d : Tys.data as119) : Option (Tys.data rs119) := (t119 d.1.1 d.1.2.1).val
def g119 (d : Tys.data as119) : Tys.data rs119 := (f119 d).getD (Tys.dflt rs119)
def p119 : PureC := pcOf as119 rs119 f119 g119

theorem e119_0 (x0 : Int) (x0' : Int) : runPure kf88.orc Go.Proofs.Try.prog 400 119 as119 rs119 ((x0, x0', ()), ()) [true, true, true, true, true, true, true, true] =
    (let r0 : Bool × PUnit := g94 ((0 : Int), ((3000 : Int), (([x0] : List Int), ()))); let r2 : Bool × PUnit := g94 ((0 : Int), ((500 : Int), (([x0'] : List Int), ()))); let r1 : Int × PUnit := g86 ((!r0.fst : Bool), ((2 : Int), ())); let r3 : Int × PUnit := g86 ((!r2.fst : Bool), ((2 : Int), ())); let r4 : Int × PUnit := g85 (([r1.fst, r3.fst] : List Int), ()); some (((r4.fst : Int), ()), [(Option.isSome (f85 (([r1.fst, r3.fst] : List Int), ())), true), ((true : Bool), true), (Option.isSome (f86 ((!r2.fst : Bool), ((2 : Int), ()))), true), (Option.isSome (f94 ((0 : Int), ((500 : Int), (([x0'] : List Int), ())))), true), ((true : Bool), true), (Option.isSome (f86 ((!r0.fst : Bool), ((2 : Int), ()))), true), (Option.isSome (f94 ((0 : Int), ((3000 : Int), (([x0] : List Int), ())))), true), ((true : Bool), true)])) := by kernel_rfl

theorem ok119_t (x0 : Int) (x0' : Int) : TrOk (PureRuns Go.Proofs.Try.prog kf88.orc 119 as119 rs119 ((x0, x0', ()), ())) (t119 x0 x0') :=
  TrOk.ofTest (fun h1 => TrOk.ofTest (fun h2 => TrOk.ofTest (fun h4 => TrOk.ofTest (fun h5 => TrOk.ofTest (fun h7 => TrOk.ofFin (PureRuns.of (e119_0 x0 x0') (All.cons h7 (All.cons rfl (All.cons h5 (All.cons h4 (All.cons rfl (All.cons h2 (All.cons h1 (All.cons rfl (All.nil))))))))))) (fun h7 => TrOk.ofStop)) (fun h5 => TrOk.ofStop)) (fun h4 => TrOk.ofStop)) (fun h2 => TrOk.ofStop)) (fun h1 => TrOk.ofStop)

theorem ok119 : PureOk Go.Proofs.Try.prog 119 p119 := pureOk_of kf88_ok.base (T := fun (d : Tys.data as119) => t119 d.1.1 d.1.2.1) (by kernel_rfl) (fun (d : Tys.data as119) => ok119_t d.1.1 d.1.2.1)
def kf119 : Known := kf88.func 119 p119
theorem kf119_ok : KnownOk Go.Proofs.Try.prog kf119 := kf88_ok.func ok119

/-! loop 0 of ductility/motion.responseOf -/

abbrev sh120_0 : Sh := { n := 44, slots := [3, 5, 6, 7, 11, 12, 13], pats := [.ptr 0 2 0, .acc (.int .i64), .ty (.int .i64), .ty (.int .i64), .ty (.slice (.int .i64)), .ty (.int .i64), .ty (.int .i64)], boxes := [.row [.ty (.int .i64), .ty (.int .i64)]] }
abbrev shb120_0 : Sh := { n := 44, slots := [5], pats := [.acc (.int .i64)], boxes := [.row [.ty (.int .i64), .ty (.int .i64)]] }
abbrev shr120_0 : Sh := { n := 44, slots := [], pats := [], boxes := [.row [.ty (.int .i64), .ty (.int .i64)]] }

def t120_0 (x1 : (List Int)) (x2 : Int) (x3 : Int) (x4 : (List Int)) (x5 : Int) (x6 : Int) (b0_0 : Int) (b0_1 : Int) : Tr (Out sh120_0.data shb120_0.data shr120_0.data) :=
  Tr.test ((!leF x5 x6 : Bool))
    (Tr.test ((decide ((0 : Int) ≤ x6) && decide (x6 < (↑(List.length x4) : Int)) : Bool))
      (Tr.test ((Nat.ble (((2 : Nat) * (List.length x1 + (1 : Nat)) + (192 : Nat)) * (8 : Nat)) (281474976710656 : Nat) && Nat.ble (List.length x1 + (1 : Nat)) (281474976710656 : Nat) : Bool))
        (Tr.fin (.again (((x1 ++ [wrap64 (wrap64 (wrap64 (wrap64 ((2 : Int) * x2) - x3) - Go.IntKind.wrap Go.IntKind.i64 (Int.tdiv (wrap64 (wrap64 (b0_0 * x2) + wrap64 (b0_1 * wrap64 (x2 - x3)))) (1000 : Int))) - List.getD x4 (Int.toNat x6) (0 : Int))] : List Int), ((wrap64 (wrap64 (wrap64 (wrap64 ((2 : Int) * x2) - x3) - Go.IntKind.wrap Go.IntKind.i64 (Int.tdiv (wrap64 (wrap64 (b0_0 * x2) + wrap64 (b0_1 * wrap64 (x2 - x3)))) (1000 : Int))) - List.getD x4 (Int.toNat x6) (0 : Int)) : Int), (x2, (x4, (x5, ((wrap64 (x6 + (1 : Int)) : Int), ())))))), ((b0_0, (b0_1, ())), ()))))
        (Tr.stop /- none [op 3 of region 8 of F120] -/))
      (Tr.stop /- none [op 0 of region 5 of F120] -/))
    (Tr.fin (.brk ((x1, ()), ((b0_0, (b0_1, ())), ()))))

def s120_0 (d : sh120_0.data) : Option (Out sh120_0.data shb120_0.data shr120_0.data) := (t120_0 d.1.1 d.1.2.1 d.1.2.2.1 d.1.2.2.2.1 d.1.2.2.2.2.1 d.1.2.2.2.2.2.1 d.2.1.1 d.2.1.2.1).val
def l120_0 (d : sh120_0.data) : Option (shb120_0.data ⊕ shr120_0.data) := itr s120_0 rounds d
def b120_0 (d : sh120_0.data) : shb120_0.data := outB shb120_0.dflt (l120_0 d)
def r120_0 (d : sh120_0.data) : shr120_0.data := outR shr120_0.dflt (l120_0 d)
def lc120_0 : LoopC := lcB sh120_0 shb120_0 shr120_0 l120_0 b120_0

theorem e120_0_0 (x1 : (List Int)) (x2 : Int) (x3 : Int) (x4 : (List Int)) (x5 : Int) (x6 : Int) (b0_0 : Int) (b0_1 : Int) : runBody kf119.orc Go.Proofs.Try.prog 400 120 0 sh120_0 shb120_0 shr120_0 ((x1, x2, x3, x4, x5, x6, ()), (b0_0, b0_1, ()), ()) [true, true, false, false, true, true] =
    (some (.again (((x1 ++ [wrap64 (wrap64 (wrap64 (wrap64 ((2 : Int) * x2) - x3) - Go.IntKind.wrap Go.IntKind.i64 (Int.tdiv (wrap64 (wrap64 (b0_0 * x2) + wrap64 (b0_1 * wrap64 (x2 - x3)))) (1000 : Int))) - List.getD x4 (Int.toNat x6) (0 : Int))] : List Int), ((wrap64 (wrap64 (wrap64 (wrap64 ((2 : Int) * x2) - x3) - Go.IntKind.wrap Go.IntKind.i64 (Int.tdiv (wrap64 (wrap64 (b0_0 * x2) + wrap64 (b0_1 * wrap64 (x2 - x3)))) (1000 : Int))) - List.getD x4 (Int.toNat x6) (0 : Int)) : Int), (x2, (x4, (x5, ((wrap64 (x6 + (1 : Int)) : Int), ())))))), ((b0_0, (b0_1, ())), ())), [((true : Bool), true), ((Nat.ble (((2 : Nat) * (List.length x1 + (1 : Nat)) + (192 : Nat)) * (8 : Nat)) (281474976710656 : Nat) && Nat.ble (List.length x1 + (1 : Nat)) (281474976710656 : Nat) : Bool), true), ((false : Bool), false), ((false : Bool), false), ((decide ((0 : Int) ≤ x6) && decide (x6 < (↑(List.length x4) : Int)) : Bool), true), ((!leF x5 x6 : Bool), true)])) := by kernel_rfl
theorem e120_0_3 (x1 : (List Int)) (x2 : Int) (x3 : Int) (x4 : (List Int)) (x5 : Int) (x6 : Int) (b0_0 : Int) (b0_1 : Int) : runBody kf119.orc Go.Proofs.Try.prog 400 120 0 sh120_0 shb120_0 shr120_0 ((x1, x2, x3, x4, x5, x6, ()), (b0_0, b0_1, ()), ()) [false] =
    (some (.brk ((x1, ()), ((b0_0, (b0_1, ())), ())), [((!leF x5 x6 : Bool), false)])) := by kernel_rfl

theorem ok120_0_t (x1 : (List Int)) (x2 : Int) (x3 : Int) (x4 : (List Int)) (x5 : Int) (x6 : Int) (b0_0 : Int) (b0_1 : Int) : TrOk (BodyRuns Go.Proofs.Try.prog kf119.orc 120 0 sh120_0 shb120_0 shr120_0 ((x1, x2, x3, x4, x5, x6, ()), (b0_0, b0_1, ()), ())) (t120_0 x1 x2 x3 x4 x5 x6 b0_0 b0_1) :=
  TrOk.ofTest (fun h0 => TrOk.ofTest (fun h1 => TrOk.ofTest (fun h4 => TrOk.ofFin (BodyRuns.of (e120_0_0 x1 x2 x3 x4 x5 x6 b0_0 b0_1) (All.cons rfl (All.cons h4 (All.cons rfl (All.cons rfl (All.cons h1 (All.cons h0 (All.nil))))))))) (fun h4 => TrOk.ofStop)) (fun h1 => TrOk.ofStop)) (fun h0 => TrOk.ofFin (BodyRuns.of (e120_0_3 x1 x2 x3 x4 x5 x6 b0_0 b0_1) (All.cons h0 (All.nil))))

theorem ok120_0 : LoopOk Go.Proofs.Try.prog 120 0 lc120_0 := loopOk_ofB kf119_ok.base (T := fun (d : sh120_0.data) => t120_0 d.1.1 d.1.2.1 d.1.2.2.1 d.1.2.2.2.1 d.1.2.2.2.2.1 d.1.2.2.2.2.2.1 d.2.1.1 d.2.1.2.1) (by kernel_rfl) rfl (fun (d : sh120_0.data) => ok120_0_t d.1.1 d.1.2.1 d.1.2.2.1 d.1.2.2.2.1 d.1.2.2.2.2.1 d.1.2.2.2.2.2.1 d.2.1.1 d.2.1.2.1) (fun _ => rfl)
def kl120_0 : Known := kf119.loop 120 0 lc120_0
theorem kl120_0_ok : KnownOk Go.Proofs.Try.prog kl120_0 := kf119_ok.loop ok120_0

/-! ductility/motion.responseOf -/

abbrev as120 : List Ty := [(.slice (.int .i64)), (.pair (.int .i64) (.pair (.int .i64) .unit))]
abbrev rs120 : List Ty := [(.slice (.int .i64))]

def t120 (x0 : (List Int)) (x1 : Int) (x1' : Int) : Tr (Tys.data rs120) :=
  Tr.test (isBrk (l120_0 ((([] : List Int), ((0 : Int), ((0 : Int), (x0, ((↑(List.length x0) : Int), ((0 : Int), ())))))), ((x1, (x1', ())), ()))))
    (let r0 : (List Int × PUnit) × (Int × Int × PUnit) × PUnit := b120_0 ((([] : List Int), ((0 : Int), ((0 : Int), (x0, ((↑(List.length x0) : Int), ((0 : Int), ())))))), ((x1, (x1', ())), ()));
    Tr.fin (((r0.fst.fst : List Int), ())))
    (Tr.stop)

def f120 (d : Tys.data as120) : Option (Tys.data rs120) := (t120 d.1 d.2.1.1 d.2.1.2.1).val
def g120 (d : Tys.data as120) : Tys.data rs120 := (f120 d).getD (Tys.dflt rs120)
def p120 : PureC := pcOf as120 rs120 f120 g120

theorem e120_0 (x0 : (List Int)) (x1 : Int) (x1' : Int) : runPure kl120_0.orc Go.Proofs.Try.prog 400 120 as120 rs120 (x0, (x1, x1', ()), ()) [true, true] =
    (let r0 : (List Int × PUnit) × (Int × Int × PUnit) × PUnit := b120_0 ((([] : List Int), ((0 : Int), ((0 : Int), (x0, ((↑(List.length x0) : Int), ((0 : Int), ())))))), ((x1, (x1', ())), ())); some (((r0.fst.fst : List Int), ()), [((true : Bool), true), (isBrk (l120_0 ((([] : List Int), ((0 : Int), ((0 : Int), (x0, ((↑(List.length x0) : Int), ((0 : Int), ())))))), ((x1, (x1', ())), ()))), true)])) := by kernel_rfl

theorem ok120_t (x0 : (List Int)) (x1 : Int) (x1' : Int) : TrOk (PureRuns Go.Proofs.Try.prog kl120_0.orc 120 as120 rs120 (x0, (x1, x1', ()), ())) (t120 x0 x1 x1') :=
  TrOk.ofTest (fun h0 => TrOk.ofFin (PureRuns.of (e120_0 x0 x1 x1') (All.cons rfl (All.cons h0 (All.nil))))) (fun h0 => TrOk.ofStop)

theorem ok120 : PureOk Go.Proofs.Try.prog 120 p120 := pureOk_of kl120_0_ok.base (T := fun (d : Tys.data as120) => t120 d.1 d.2.1.1 d.2.1.2.1) (by kernel_rfl) (fun (d : Tys.data as120) => ok120_t d.1 d.2.1.1 d.2.1.2.1)
def kf120 : Known := kl120_0.func 120 p120
theorem kf120_ok : KnownOk Go.Proofs.Try.prog kf120 := kl120_0_ok.func ok120

/-! ductility/motion.ResponseOf -/

abbrev as56 : List Ty := [(.pair (.int .i64) (.pair (.slice (.int .i64)) .unit)), (.pair (.int .i64) (.pair (.int .i64) .unit))]
abbrev rs56 : List Ty := [(.slice (.int .i64)), (.int .i64)]

def t56 (x0 : Int) (x0' : (List Int)) (x1 : Int) (x1' : Int) : Tr (Tys.data rs56) :=
  Tr.test (Option.isSome (f88 ((x0, (x0', ())), ())))
    (Tr.test (Option.isSome (f119 ((x1, (x1', ())), ())))
      (let r0 : Int × PUnit := g88 ((x0, (x0', ())), ());
      let r1 : Int × PUnit := g119 ((x1, (x1', ())), ());
      Tr.test (Option.isSome (f85 (([r0.fst, r1.fst] : List Int), ())))
        (let r2 : Int × PUnit := g85 (([r0.fst, r1.fst] : List Int), ());
        Tr.test ((!eqF r2.fst (0 : Int) : Bool))
          (Tr.fin ((([] : List Int), ((r2.fst : Int), ()))))
          (Tr.test (Option.isSome (f120 (x0', ((x1, (x1', ())), ()))))
            (let r3 : List Int × PUnit := g120 (x0', ((x1, (x1', ())), ()));
            Tr.fin (((r3.fst : List Int), ((0 : Int), ()))))
            (Tr.stop)))
        (Tr.stop))
      (Tr.stop))
    (Tr.stop)

def f56 (d : Tys.data as56) : Option (Tys.data rs56) := (t56 d.1.1 d.1.2.1 d.2.1.1 d.2.1.2.1).val
def g56 (d : Tys.data as56) : Tys.data rs56 := (f56 d).getD (Tys.dflt rs56)
def p56 : PureC := pcOf as56 rs56 f56 g56

theorem e56_0 (x0 : Int) (x0' : (List Int)) (x1 : Int) (x1' : Int) : runPure kf120.orc Go.Proofs.Try.prog 400 56 as56 rs56 ((x0, x0', ()), (x1, x1', ()), ()) [true, true, true, true, true] =
    (let r0 : Int × PUnit := g88 ((x0, (x0', ())), ()); let r1 : Int × PUnit := g119 ((x1, (x1', ())), ()); let r2 : Int × PUnit := g85 (([r0.fst, r1.fst] : List Int), ()); some ((([] : List Int), ((r2.fst : Int), ())), [((!eqF r2.fst (0 : Int) : Bool), true), (Option.isSome (f85 (([r0.fst, r1.fst] : List Int), ())), true), ((true : Bool), true), (Option.isSome (f119 ((x1, (x1', ())), ())), true), (Option.isSome (f88 ((x0, (x0', ())), ())), true)])) := by kernel_rfl
theorem e56_1 (x0 : Int) (x0' : (List Int)) (x1 : Int) (x1' : Int) : runPure kf120.orc Go.Proofs.Try.prog 400 56 as56 rs56 ((x0, x0', ()), (x1, x1', ()), ()) [true, true, true, true, false, true] =
    (let r0 : Int × PUnit := g88 ((x0, (x0', ())), ()); let r1 : Int × PUnit := g119 ((x1, (x1', ())), ()); let r2 : Int × PUnit := g85 (([r0.fst, r1.fst] : List Int), ()); let r3 : List Int × PUnit := g120 (x0', ((x1, (x1', ())), ())); some (((r3.fst : List Int), ((0 : Int), ())), [(Option.isSome (f120 (x0', ((x1, (x1', ())), ()))), true), ((!eqF r2.fst (0 : Int) : Bool), false), (Option.isSome (f85 (([r0.fst, r1.fst] : List Int), ())), true), ((true : Bool), true), (Option.isSome (f119 ((x1, (x1', ())), ())), true), (Option.isSome (f88 ((x0, (x0', ())), ())), true)])) := by kernel_rfl

theorem ok56_t (x0 : Int) (x0' : (List Int)) (x1 : Int) (x1' : Int) : TrOk (PureRuns Go.Proofs.Try.prog kf120.orc 56 as56 rs56 ((x0, x0', ()), (x1, x1', ()), ())) (t56 x0 x0' x1 x1') :=
  TrOk.ofTest (fun h0 => TrOk.ofTest (fun h1 => TrOk.ofTest (fun h3 => TrOk.ofTest (fun h4 => TrOk.ofFin (PureRuns.of (e56_0 x0 x0' x1 x1') (All.cons h4 (All.cons h3 (All.cons rfl (All.cons h1 (All.cons h0 (All.nil)))))))) (fun h4 => TrOk.ofTest (fun h5 => TrOk.ofFin (PureRuns.of (e56_1 x0 x0' x1 x1') (All.cons h5 (All.cons h4 (All.cons h3 (All.cons rfl (All.cons h1 (All.cons h0 (All.nil))))))))) (fun h5 => TrOk.ofStop))) (fun h3 => TrOk.ofStop)) (fun h1 => TrOk.ofStop)) (fun h0 => TrOk.ofStop)

theorem ok56 : PureOk Go.Proofs.Try.prog 56 p56 := pureOk_of kf120_ok.base (T := fun (d : Tys.data as56) => t56 d.1.1 d.1.2.1 d.2.1.1 d.2.1.2.1) (by kernel_rfl) (fun (d : Tys.data as56) => ok56_t d.1.1 d.1.2.1 d.2.1.1 d.2.1.2.1)
def kf56 : Known := kf120.func 56 p56
theorem kf56_ok : KnownOk Go.Proofs.Try.prog kf56 := kf120_ok.func ok56

/-! ductility/motion.oscillatorsError$1 -/

abbrev as159 : List Ty := [(.int .i64), (.pair (.int .i64) (.pair (.int .i64) .unit))]
abbrev rs159 : List Ty := [(.int .i64)]

def t159 (x0 : Int) (x1 : Int) (x1' : Int) : Tr (Tys.data rs159) :=
  Tr.test (Option.isSome (f119 ((x1, (x1', ())), ())))
    (let r0 : Int × PUnit := g119 ((x1, (x1', ())), ());
    Tr.fin (((r0.fst : Int), ())))
    (Tr.stop)

def f159 (d : Tys.data as159) : Option (Tys.data rs159) := (t159 d.1 d.2.1.1 d.2.1.2.1).val
def g159 (d : Tys.data as159) : Tys.data rs159 := (f159 d).getD (Tys.dflt rs159)
def p159 : PureC := pcOf as159 rs159 f159 g159

theorem e159_0 (x0 : Int) (x1 : Int) (x1' : Int) : runPure kf56.orc Go.Proofs.Try.prog 400 159 as159 rs159 (x0, (x1, x1', ()), ()) [true] =
    (let r0 : Int × PUnit := g119 ((x1, (x1', ())), ()); some (((r0.fst : Int), ()), [(Option.isSome (f119 ((x1, (x1', ())), ())), true)])) := by kernel_rfl

theorem ok159_t (x0 : Int) (x1 : Int) (x1' : Int) : TrOk (PureRuns Go.Proofs.Try.prog kf56.orc 159 as159 rs159 (x0, (x1, x1', ()), ())) (t159 x0 x1 x1') :=
  TrOk.ofTest (fun h0 => TrOk.ofFin (PureRuns.of (e159_0 x0 x1 x1') (All.cons h0 (All.nil)))) (fun h0 => TrOk.ofStop)

theorem ok159 : PureOk Go.Proofs.Try.prog 159 p159 := pureOk_of kf56_ok.base (T := fun (d : Tys.data as159) => t159 d.1 d.2.1.1 d.2.1.2.1) (by kernel_rfl) (fun (d : Tys.data as159) => ok159_t d.1 d.2.1.1 d.2.1.2.1)
def kf159 : Known := kf56.func 159 p159
theorem kf159_ok : KnownOk Go.Proofs.Try.prog kf159 := kf56_ok.func ok159

/-! loop 0 of ductility/motion.checkItems[ductility/api.MotionOscillator] -/

abbrev sh158_0 : Sh := { n := 25, slots := [1, 9, 10, 11], pats := [.fn 159 [], .ty (.slice (.pair (.int .i64) (.pair (.int .i64) .unit))), .ty (.int .i64), .ty (.int .i64)], boxes := [] }
abbrev shb158_0 : Sh := { n := 25, slots := [], pats := [], boxes := [] }
abbrev shr158_0 : Sh := { n := 25, slots := [4, 5], pats := [.ty (.int .i64), .ty (.int .i64)], boxes := [] }

def t158_0 (x1 : (List (Int × (Int × Unit)))) (x2 : Int) (x3 : Int) : Tr (Out sh158_0.data shb158_0.data shr158_0.data) :=
  Tr.test ((!leF x2 x3 : Bool))
    (Tr.test ((decide ((0 : Int) ≤ x3) && decide (x3 < (↑(List.length x1) : Int)) : Bool))
      (Tr.test (Option.isSome (f159 (x3, ((((List.getD x1 (Int.toNat x3) ((0 : Int), (0 : Int), ())).fst : Int), (((List.getD x1 (Int.toNat x3) ((0 : Int), (0 : Int), ())).snd.fst : Int), ())), ()))))
        (let r0 : Int × PUnit := g159 (x3, ((((List.getD x1 (Int.toNat x3) ((0 : Int), (0 : Int), ())).fst : Int), (((List.getD x1 (Int.toNat x3) ((0 : Int), (0 : Int), ())).snd.fst : Int), ())), ()));
        Tr.test ((!eqF r0.fst (0 : Int) : Bool))
          (Tr.fin (.ret ((x3, ((r0.fst : Int), ())), ())))
          (Tr.fin (.again ((x1, (x2, ((wrap64 (x3 + (1 : Int)) : Int), ()))), ()))))
        (Tr.stop))
      (Tr.stop /- none [op 1 of region 3 of F158] -/))
    (Tr.fin (.brk ((), ())))

def s158_0 (d : sh158_0.data) : Option (Out sh158_0.data shb158_0.data shr158_0.data) := (t158_0 d.1.1 d.1.2.1 d.1.2.2.1).val
def l158_0 (d : sh158_0.data) : Option (shb158_0.data ⊕ shr158_0.data) := itr s158_0 rounds d
def b158_0 (d : sh158_0.data) : shb158_0.data := outB shb158_0.dflt (l158_0 d)
def r158_0 (d : sh158_0.data) : shr158_0.data := outR shr158_0.dflt (l158_0 d)
def lc158_0 : LoopC := lcOf sh158_0 shb158_0 shr158_0 l158_0 b158_0 r158_0

theorem e158_0_0 (x1 : (List (Int × (Int × Unit)))) (x2 : Int) (x3 : Int) : runBody kf159.orc Go.Proofs.Try.prog 400 158 0 sh158_0 shb158_0 shr158_0 ((x1, x2, x3, ()), ()) [true, true, true, true] =
    (let r0 : Int × PUnit := g159 (x3, ((((List.getD x1 (Int.toNat x3) ((0 : Int), (0 : Int), ())).fst : Int), (((List.getD x1 (Int.toNat x3) ((0 : Int), (0 : Int), ())).snd.fst : Int), ())), ())); some (.ret ((x3, ((r0.fst : Int), ())), ()), [((!eqF r0.fst (0 : Int) : Bool), true), (Option.isSome (f159 (x3, ((((List.getD x1 (Int.toNat x3) ((0 : Int), (0 : Int), ())).fst : Int), (((List.getD x1 (Int.toNat x3) ((0 : Int), (0 : Int), ())).snd.fst : Int), ())), ()))), true), ((decide ((0 : Int) ≤ x3) && decide (x3 < (↑(List.length x1) : Int)) : Bool), true), ((!leF x2 x3 : Bool), true)])) := by kernel_rfl
theorem e158_0_1 (x1 : (List (Int × (Int × Unit)))) (x2 : Int) (x3 : Int) : runBody kf159.orc Go.Proofs.Try.prog 400 158 0 sh158_0 shb158_0 shr158_0 ((x1, x2, x3, ()), ()) [true, true, true, false] =
    (let r0 : Int × PUnit := g159 (x3, ((((List.getD x1 (Int.toNat x3) ((0 : Int), (0 : Int), ())).fst : Int), (((List.getD x1 (Int.toNat x3) ((0 : Int), (0 : Int), ())).snd.fst : Int), ())), ())); some (.again ((x1, (x2, ((wrap64 (x3 + (1 : Int)) : Int), ()))), ()), [((!eqF r0.fst (0 : Int) : Bool), false), (Option.isSome (f159 (x3, ((((List.getD x1 (Int.toNat x3) ((0 : Int), (0 : Int), ())).fst : Int), (((List.getD x1 (Int.toNat x3) ((0 : Int), (0 : Int), ())).snd.fst : Int), ())), ()))), true), ((decide ((0 : Int) ≤ x3) && decide (x3 < (↑(List.length x1) : Int)) : Bool), true), ((!leF x2 x3 : Bool), true)])) := by kernel_rfl
theorem e158_0_3 (x1 : (List (Int × (Int × Unit)))) (x2 : Int) (x3 : Int) : runBody kf159.orc Go.Proofs.Try.prog 400 158 0 sh158_0 shb158_0 shr158_0 ((x1, x2, x3, ()), ()) [false] =
    (some (.brk ((), ()), [((!leF x2 x3 : Bool), false)])) := by kernel_rfl

theorem ok158_0_t (x1 : (List (Int × (Int × Unit)))) (x2 : Int) (x3 : Int) : TrOk (BodyRuns Go.Proofs.Try.prog kf159.orc 158 0 sh158_0 shb158_0 shr158_0 ((x1, x2, x3, ()), ())) (t158_0 x1 x2 x3) :=
  TrOk.ofTest (fun h0 => TrOk.ofTest (fun h1 => TrOk.ofTest (fun h2 => TrOk.ofTest (fun h3 => TrOk.ofFin (BodyRuns.of (e158_0_0 x1 x2 x3) (All.cons h3 (All.cons h2 (All.cons h1 (All.cons h0 (All.nil))))))) (fun h3 => TrOk.ofFin (BodyRuns.of (e158_0_1 x1 x2 x3) (All.cons h3 (All.cons h2 (All.cons h1 (All.cons h0 (All.nil)))))))) (fun h2 => TrOk.ofStop)) (fun h1 => TrOk.ofStop)) (fun h0 => TrOk.ofFin (BodyRuns.of (e158_0_3 x1 x2 x3) (All.cons h0 (All.nil))))

theorem ok158_0 : LoopOk Go.Proofs.Try.prog 158 0 lc158_0 := loopOk_of kf159_ok.base (T := fun (d : sh158_0.data) => t158_0 d.1.1 d.1.2.1 d.1.2.2.1) (by kernel_rfl) rfl (fun (d : sh158_0.data) => ok158_0_t d.1.1 d.1.2.1 d.1.2.2.1) (fun _ => rfl)
def kl158_0 : Known := kf159.loop 158 0 lc158_0
theorem kl158_0_ok : KnownOk Go.Proofs.Try.prog kl158_0 := kf159_ok.loop ok158_0

/-! ductility/motion.oscillatorsError -/

abbrev as121 : List Ty := [(.slice (.pair (.int .i64) (.pair (.int .i64) .unit)))]
abbrev rs121 : List Ty := [(.int .i64)]

def t121 (x0 : (List (Int × (Int × Unit)))) : Tr (Tys.data rs121) :=
  Tr.test ((!leF (↑(List.length x0) : Int) (6 : Int) : Bool))
    (Tr.fin (((8 : Int), ())))
    (Tr.test (Option.isSome (l158_0 ((x0, ((↑(List.length x0) : Int), ((0 : Int), ()))), ())))
      (Tr.test (isRet (l158_0 ((x0, ((↑(List.length x0) : Int), ((0 : Int), ()))), ())))
        (let r0 : (Int × Int × PUnit) × PUnit := r158_0 ((x0, ((↑(List.length x0) : Int), ((0 : Int), ()))), ());
        Tr.fin (((r0.fst.snd.fst : Int), ())))
        (Tr.fin (((0 : Int), ()))))
      (Tr.stop))

def f121 (d : Tys.data as121) : Option (Tys.data rs121) := (t121 d.1).val
def g121 (d : Tys.data as121) : Tys.data rs121 := (f121 d).getD (Tys.dflt rs121)
def p121 : PureC := pcOf as121 rs121 f121 g121

theorem e121_0 (x0 : (List (Int × (Int × Unit)))) : runPure kl158_0.orc Go.Proofs.Try.prog 400 121 as121 rs121 (x0, ()) [true] =
    (some (((8 : Int), ()), [((!leF (↑(List.length x0) : Int) (6 : Int) : Bool), true)])) := by kernel_rfl
theorem e121_1 (x0 : (List (Int × (Int × Unit)))) : runPure kl158_0.orc Go.Proofs.Try.prog 400 121 as121 rs121 (x0, ()) [false, true, true] =
    (let r0 : (Int × Int × PUnit) × PUnit := r158_0 ((x0, ((↑(List.length x0) : Int), ((0 : Int), ()))), ()); some (((r0.fst.snd.fst : Int), ()), [(isRet (l158_0 ((x0, ((↑(List.length x0) : Int), ((0 : Int), ()))), ())), true), (Option.isSome (l158_0 ((x0, ((↑(List.length x0) : Int), ((0 : Int), ()))), ())), true), ((!leF (↑(List.length x0) : Int) (6 : Int) : Bool), false)])) := by kernel_rfl
theorem e121_2 (x0 : (List (Int × (Int × Unit)))) : runPure kl158_0.orc Go.Proofs.Try.prog 400 121 as121 rs121 (x0, ()) [false, true, false] =
    (some (((0 : Int), ()), [(isRet (l158_0 ((x0, ((↑(List.length x0) : Int), ((0 : Int), ()))), ())), false), (Option.isSome (l158_0 ((x0, ((↑(List.length x0) : Int), ((0 : Int), ()))), ())), true), ((!leF (↑(List.length x0) : Int) (6 : Int) : Bool), false)])) := by kernel_rfl

theorem ok121_t (x0 : (List (Int × (Int × Unit)))) : TrOk (PureRuns Go.Proofs.Try.prog kl158_0.orc 121 as121 rs121 (x0, ())) (t121 x0) :=
  TrOk.ofTest (fun h0 => TrOk.ofFin (PureRuns.of (e121_0 x0) (All.cons h0 (All.nil)))) (fun h0 => TrOk.ofTest (fun h1 => TrOk.ofTest (fun h2 => TrOk.ofFin (PureRuns.of (e121_1 x0) (All.cons h2 (All.cons h1 (All.cons h0 (All.nil)))))) (fun h2 => TrOk.ofFin (PureRuns.of (e121_2 x0) (All.cons h2 (All.cons h1 (All.cons h0 (All.nil))))))) (fun h1 => TrOk.ofStop))

theorem ok121 : PureOk Go.Proofs.Try.prog 121 p121 := pureOk_of kl158_0_ok.base (T := fun (d : Tys.data as121) => t121 d.1) (by kernel_rfl) (fun (d : Tys.data as121) => ok121_t d.1)
def kf121 : Known := kl158_0.func 121 p121
theorem kf121_ok : KnownOk Go.Proofs.Try.prog kf121 := kl158_0_ok.func ok121

/-! loop 0 of ductility/motion.peakOf -/

abbrev sh122_0 : Sh := { n := 19, slots := [3, 6, 7, 8], pats := [.ty (.int .i64), .ty (.slice (.int .i64)), .ty (.int .i64), .ty (.int .i64)], boxes := [] }
abbrev shb122_0 : Sh := { n := 19, slots := [3], pats := [.ty (.int .i64)], boxes := [] }
abbrev shr122_0 : Sh := { n := 19, slots := [], pats := [], boxes := [] }

def t122_0 (x0 : Int) (x1 : (List Int)) (x2 : Int) (x3 : Int) : Tr (Out sh122_0.data shb122_0.data shr122_0.data) :=
  Tr.test ((!leF x2 x3 : Bool))
    (Tr.test ((decide ((0 : Int) ≤ x3) && decide (x3 < (↑(List.length x1) : Int)) : Bool))
      (Tr.fin (.again (((if (if x0 < List.getD x1 (Int.toNat x3) (0 : Int) then List.getD x1 (Int.toNat x3) (0 : Int) else x0) < Go.IntKind.wrap Go.IntKind.i64 ((0 : Int) - List.getD x1 (Int.toNat x3) (0 : Int)) then Go.IntKind.wrap Go.IntKind.i64 ((0 : Int) - List.getD x1 (Int.toNat x3) (0 : Int)) else if x0 < List.getD x1 (Int.toNat x3) (0 : Int) then List.getD x1 (Int.toNat x3) (0 : Int) else x0 : Int), (x1, (x2, ((wrap64 (x3 + (1 : Int)) : Int), ())))), ())))
      (Tr.stop /- none [op 0 of region 4 of F122] -/))
    (Tr.fin (.brk ((x0, ()), ())))

def s122_0 (d : sh122_0.data) : Option (Out sh122_0.data shb122_0.data shr122_0.data) := (t122_0 d.1.1 d.1.2.1 d.1.2.2.1 d.1.2.2.2.1).val
def l122_0 (d : sh122_0.data) : Option (shb122_0.data ⊕ shr122_0.data) := itr s122_0 rounds d
def b122_0 (d : sh122_0.data) : shb122_0.data := outB shb122_0.dflt (l122_0 d)
def r122_0 (d : sh122_0.data) : shr122_0.data := outR shr122_0.dflt (l122_0 d)
def lc122_0 : LoopC := lcB sh122_0 shb122_0 shr122_0 l122_0 b122_0

theorem e122_0_0 (x0 : Int) (x1 : (List Int)) (x2 : Int) (x3 : Int) : runBody kf121.orc Go.Proofs.Try.prog 400 122 0 sh122_0 shb122_0 shr122_0 ((x0, x1, x2, x3, ()), ()) [true, true] =
    (some (.again (((if (if x0 < List.getD x1 (Int.toNat x3) (0 : Int) then List.getD x1 (Int.toNat x3) (0 : Int) else x0) < Go.IntKind.wrap Go.IntKind.i64 ((0 : Int) - List.getD x1 (Int.toNat x3) (0 : Int)) then Go.IntKind.wrap Go.IntKind.i64 ((0 : Int) - List.getD x1 (Int.toNat x3) (0 : Int)) else if x0 < List.getD x1 (Int.toNat x3) (0 : Int) then List.getD x1 (Int.toNat x3) (0 : Int) else x0 : Int), (x1, (x2, ((wrap64 (x3 + (1 : Int)) : Int), ())))), ()), [((decide ((0 : Int) ≤ x3) && decide (x3 < (↑(List.length x1) : Int)) : Bool), true), ((!leF x2 x3 : Bool), true)])) := by kernel_rfl
theorem e122_0_2 (x0 : Int) (x1 : (List Int)) (x2 : Int) (x3 : Int) : runBody kf121.orc Go.Proofs.Try.prog 400 122 0 sh122_0 shb122_0 shr122_0 ((x0, x1, x2, x3, ()), ()) [false] =
    (some (.brk ((x0, ()), ()), [((!leF x2 x3 : Bool), false)])) := by kernel_rfl

theorem ok122_0_t (x0 : Int) (x1 : (List Int)) (x2 : Int) (x3 : Int) : TrOk (BodyRuns Go.Proofs.Try.prog kf121.orc 122 0 sh122_0 shb122_0 shr122_0 ((x0, x1, x2, x3, ()), ())) (t122_0 x0 x1 x2 x3) :=
  TrOk.ofTest (fun h0 => TrOk.ofTest (fun h1 => TrOk.ofFin (BodyRuns.of (e122_0_0 x0 x1 x2 x3) (All.cons h1 (All.cons h0 (All.nil))))) (fun h1 => TrOk.ofStop)) (fun h0 => TrOk.ofFin (BodyRuns.of (e122_0_2 x0 x1 x2 x3) (All.cons h0 (All.nil))))

theorem ok122_0 : LoopOk Go.Proofs.Try.prog 122 0 lc122_0 := loopOk_ofB kf121_ok.base (T := fun (d : sh122_0.data) => t122_0 d.1.1 d.1.2.1 d.1.2.2.1 d.1.2.2.2.1) (by kernel_rfl) rfl (fun (d : sh122_0.data) => ok122_0_t d.1.1 d.1.2.1 d.1.2.2.1 d.1.2.2.2.1) (fun _ => rfl)
def kl122_0 : Known := kf121.loop 122 0 lc122_0
theorem kl122_0_ok : KnownOk Go.Proofs.Try.prog kl122_0 := kf121_ok.loop ok122_0

/-! ductility/motion.peakOf -/

abbrev as122 : List Ty := [(.slice (.int .i64))]
abbrev rs122 : List Ty := [(.int .i64)]

def t122 (x0 : (List Int)) : Tr (Tys.data rs122) :=
  Tr.test (isBrk (l122_0 (((0 : Int), (x0, ((↑(List.length x0) : Int), ((0 : Int), ())))), ())))
    (let r0 : (Int × PUnit) × PUnit := b122_0 (((0 : Int), (x0, ((↑(List.length x0) : Int), ((0 : Int), ())))), ());
    Tr.fin (((r0.fst.fst : Int), ())))
    (Tr.stop)

def f122 (d : Tys.data as122) : Option (Tys.data rs122) := (t122 d.1).val
def g122 (d : Tys.data as122) : Tys.data rs122 := (f122 d).getD (Tys.dflt rs122)
def p122 : PureC := pcOf as122 rs122 f122 g122

theorem e122_0 (x0 : (List Int)) : runPure kl122_0.orc Go.Proofs.Try.prog 400 122 as122 rs122 (x0, ()) [true, true] =
    (let r0 : (Int × PUnit) × PUnit := b122_0 (((0 : Int), (x0, ((↑(List.length x0) : Int), ((0 : Int), ())))), ()); some (((r0.fst.fst : Int), ()), [((true : Bool), true), (isBrk (l122_0 (((0 : Int), (x0, ((↑(List.length x0) : Int), ((0 : Int), ())))), ())), true)])) := by kernel_rfl

theorem ok122_t (x0 : (List Int)) : TrOk (PureRuns Go.Proofs.Try.prog kl122_0.orc 122 as122 rs122 (x0, ())) (t122 x0) :=
  TrOk.ofTest (fun h0 => TrOk.ofFin (PureRuns.of (e122_0 x0) (All.cons rfl (All.cons h0 (All.nil))))) (fun h0 => TrOk.ofStop)

theorem ok122 : PureOk Go.Proofs.Try.prog 122 p122 := pureOk_of kl122_0_ok.base (T := fun (d : Tys.data as122) => t122 d.1) (by kernel_rfl) (fun (d : Tys.data as122) => ok122_t d.1)
def kf122 : Known := kl122_0.func 122 p122
theorem kf122_ok : KnownOk Go.Proofs.Try.prog kf122 := kl122_0_ok.func ok122

/-! loop 0 of ductility/motion.SpectrumOf -/

abbrev sh57_0 : Sh := { n := 35, slots := [2, 7, 19, 20, 21], pats := [.ptr 0 2 0, .acc (.int .i64), .ty (.slice (.pair (.int .i64) (.pair (.int .i64) .unit))), .ty (.int .i64), .ty (.int .i64)], boxes := [.row [.ty (.int .i64), .ty (.slice (.int .i64))]] }
abbrev shb57_0 : Sh := { n := 35, slots := [7], pats := [.acc (.int .i64)], boxes := [.row [.ty (.int .i64), .ty (.slice (.int .i64))]] }
abbrev shr57_0 : Sh := { n := 35, slots := [], pats := [], boxes := [.row [.ty (.int .i64), .ty (.slice (.int .i64))]] }

def t57_0 (x1 : (List Int)) (x2 : (List (Int × (Int × Unit)))) (x3 : Int) (x4 : Int) (b0_0 : Int) (b0_1 : (List Int)) : Tr (Out sh57_0.data shb57_0.data shr57_0.data) :=
  Tr.test ((!leF x3 x4 : Bool))
    (Tr.test ((decide ((0 : Int) ≤ x4) && decide (x4 < (↑(List.length x2) : Int)) : Bool))
      (Tr.test (Option.isSome (f120 (b0_1, ((((List.getD x2 (Int.toNat x4) ((0 : Int), (0 : Int), ())).fst : Int), (((List.getD x2 (Int.toNat x4) ((0 : Int), (0 : Int), ())).snd.fst : Int), ())), ()))))
        (let r0 : List Int × PUnit := g120 (b0_1, ((((List.getD x2 (Int.toNat x4) ((0 : Int), (0 : Int), ())).fst : Int), (((List.getD x2 (Int.toNat x4) ((0 : Int), (0 : Int), ())).snd.fst : Int), ())), ()));
        Tr.test (Option.isSome (f122 ((r0.fst : List Int), ())))
          (Tr.test ((Nat.ble (((2 : Nat) * (List.length x1 + (1 : Nat)) + (192 : Nat)) * (8 : Nat)) (281474976710656 : Nat) && Nat.ble (List.length x1 + (1 : Nat)) (281474976710656 : Nat) : Bool))
            (let r1 : Int × PUnit := g122 ((r0.fst : List Int), ());
            Tr.fin (.again (((x1 ++ [r1.fst] : List Int), (x2, (x3, ((wrap64 (x4 + (1 : Int)) : Int), ())))), ((b0_0, (b0_1, ())), ()))))
            (Tr.stop /- none [op 7 of region 8 of F57] -/))
          (Tr.stop))
        (Tr.stop))
      (Tr.stop /- none [op 0 of region 7 of F57] -/))
    (Tr.fin (.brk ((x1, ()), ((b0_0, (b0_1, ())), ()))))

def s57_0 (d : sh57_0.data) : Option (Out sh57_0.data shb57_0.data shr57_0.data) := (t57_0 d.1.1 d.1.2.1 d.1.2.2.1 d.1.2.2.2.1 d.2.1.1 d.2.1.2.1).val
def l57_0 (d : sh57_0.data) : Option (shb57_0.data ⊕ shr57_0.data) := itr s57_0 rounds d
def b57_0 (d : sh57_0.data) : shb57_0.data := outB shb57_0.dflt (l57_0 d)
def r57_0 (d : sh57_0.data) : shr57_0.data := outR shr57_0.dflt (l57_0 d)
def lc57_0 : LoopC := lcB sh57_0 shb57_0 shr57_0 l57_0 b57_0

theorem e57_0_0 (x1 : (List Int)) (x2 : (List (Int × (Int × Unit)))) (x3 : Int) (x4 : Int) (b0_0 : Int) (b0_1 : (List Int)) : runBody kf122.orc Go.Proofs.Try.prog 400 57 0 sh57_0 shb57_0 shr57_0 ((x1, x2, x3, x4, ()), (b0_0, b0_1, ()), ()) [true, true, true, true, false, true, true] =
    (let r0 : List Int × PUnit := g120 (b0_1, ((((List.getD x2 (Int.toNat x4) ((0 : Int), (0 : Int), ())).fst : Int), (((List.getD x2 (Int.toNat x4) ((0 : Int), (0 : Int), ())).snd.fst : Int), ())), ())); let r1 : Int × PUnit := g122 ((r0.fst : List Int), ()); some (.again (((x1 ++ [r1.fst] : List Int), (x2, (x3, ((wrap64 (x4 + (1 : Int)) : Int), ())))), ((b0_0, (b0_1, ())), ())), [((true : Bool), true), ((Nat.ble (((2 : Nat) * (List.length x1 + (1 : Nat)) + (192 : Nat)) * (8 : Nat)) (281474976710656 : Nat) && Nat.ble (List.length x1 + (1 : Nat)) (281474976710656 : Nat) : Bool), true), ((false : Bool), false), (Option.isSome (f122 ((r0.fst : List Int), ())), true), (Option.isSome (f120 (b0_1, ((((List.getD x2 (Int.toNat x4) ((0 : Int), (0 : Int), ())).fst : Int), (((List.getD x2 (Int.toNat x4) ((0 : Int), (0 : Int), ())).snd.fst : Int), ())), ()))), true), ((decide ((0 : Int) ≤ x4) && decide (x4 < (↑(List.length x2) : Int)) : Bool), true), ((!leF x3 x4 : Bool), true)])) := by kernel_rfl
theorem e57_0_3 (x1 : (List Int)) (x2 : (List (Int × (Int × Unit)))) (x3 : Int) (x4 : Int) (b0_0 : Int) (b0_1 : (List Int)) : runBody kf122.orc Go.Proofs.Try.prog 400 57 0 sh57_0 shb57_0 shr57_0 ((x1, x2, x3, x4, ()), (b0_0, b0_1, ()), ()) [false] =
    (some (.brk ((x1, ()), ((b0_0, (b0_1, ())), ())), [((!leF x3 x4 : Bool), false)])) := by kernel_rfl

theorem ok57_0_t (x1 : (List Int)) (x2 : (List (Int × (Int × Unit)))) (x3 : Int) (x4 : Int) (b0_0 : Int) (b0_1 : (List Int)) : TrOk (BodyRuns Go.Proofs.Try.prog kf122.orc 57 0 sh57_0 shb57_0 shr57_0 ((x1, x2, x3, x4, ()), (b0_0, b0_1, ()), ())) (t57_0 x1 x2 x3 x4 b0_0 b0_1) :=
  TrOk.ofTest (fun h0 => TrOk.ofTest (fun h1 => TrOk.ofTest (fun h2 => TrOk.ofTest (fun h3 => TrOk.ofTest (fun h5 => TrOk.ofFin (BodyRuns.of (e57_0_0 x1 x2 x3 x4 b0_0 b0_1) (All.cons rfl (All.cons h5 (All.cons rfl (All.cons h3 (All.cons h2 (All.cons h1 (All.cons h0 (All.nil)))))))))) (fun h5 => TrOk.ofStop)) (fun h3 => TrOk.ofStop)) (fun h2 => TrOk.ofStop)) (fun h1 => TrOk.ofStop)) (fun h0 => TrOk.ofFin (BodyRuns.of (e57_0_3 x1 x2 x3 x4 b0_0 b0_1) (All.cons h0 (All.nil))))

theorem ok57_0 : LoopOk Go.Proofs.Try.prog 57 0 lc57_0 := loopOk_ofB kf122_ok.base (T := fun (d : sh57_0.data) => t57_0 d.1.1 d.1.2.1 d.1.2.2.1 d.1.2.2.2.1 d.2.1.1 d.2.1.2.1) (by kernel_rfl) rfl (fun (d : sh57_0.data) => ok57_0_t d.1.1 d.1.2.1 d.1.2.2.1 d.1.2.2.2.1 d.2.1.1 d.2.1.2.1) (fun _ => rfl)
def kl57_0 : Known := kf122.loop 57 0 lc57_0
theorem kl57_0_ok : KnownOk Go.Proofs.Try.prog kl57_0 := kf122_ok.loop ok57_0

/-! ductility/motion.SpectrumOf -/

abbrev as57 : List Ty := [(.pair (.int .i64) (.pair (.slice (.int .i64)) .unit)), (.slice (.pair (.int .i64) (.pair (.int .i64) .unit)))]
abbrev rs57 : List Ty := [(.slice (.int .i64)), (.int .i64)]

def t57 (x0 : Int) (x0' : (List Int)) (x1 : (List (Int × (Int × Unit)))) : Tr (Tys.data rs57) :=
  Tr.test (Option.isSome (f88 ((x0, (x0', ())), ())))
    (Tr.test (Option.isSome (f121 (x1, ())))
      (let r0 : Int × PUnit := g88 ((x0, (x0', ())), ());
      let r1 : Int × PUnit := g121 (x1, ());
      Tr.test (Option.isSome (f85 (([r0.fst, r1.fst] : List Int), ())))
        (let r2 : Int × PUnit := g85 (([r0.fst, r1.fst] : List Int), ());
        Tr.test ((!eqF r2.fst (0 : Int) : Bool))
          (Tr.fin ((([] : List Int), ((r2.fst : Int), ()))))
          (Tr.test (isBrk (l57_0 ((([] : List Int), (x1, ((↑(List.length x1) : Int), ((0 : Int), ())))), ((x0, (x0', ())), ()))))
            (let r3 : (List Int × PUnit) × (Int × List Int × PUnit) × PUnit := b57_0 ((([] : List Int), (x1, ((↑(List.length x1) : Int), ((0 : Int), ())))), ((x0, (x0', ())), ()));
            Tr.fin (((r3.fst.fst : List Int), ((0 : Int), ()))))
            (Tr.stop)))
        (Tr.stop))
      (Tr.stop))
    (Tr.stop)

def f57 (d : Tys.data as57) : Option (Tys.data rs57) := (t57 d.1.1 d.1.2.1 d.2.1).val
def g57 (d : Tys.data as57) : Tys.data rs57 := (f57 d).getD (Tys.dflt rs57)
def p57 : PureC := pcOf as57 rs57 f57 g57

theorem e57_0 (x0 : Int) (x0' : (List Int)) (x1 : (List (Int × (Int × Unit)))) : runPure kl57_0.orc Go.Proofs.Try.prog 400 57 as57 rs57 ((x0, x0', ()), x1, ()) [true, true, true, true, true] =
    (let r0 : Int × PUnit := g88 ((x0, (x0', ())), ()); let r1 : Int × PUnit := g121 (x1, ()); let r2 : Int × PUnit := g85 (([r0.fst, r1.fst] : List Int), ()); some ((([] : List Int), ((r2.fst : Int), ())), [((!eqF r2.fst (0 : Int) : Bool), true), (Option.isSome (f85 (([r0.fst, r1.fst] : List Int), ())), true), ((true : Bool), true), (Option.isSome (f121 (x1, ())), true), (Option.isSome (f88 ((x0, (x0', ())), ())), true)])) := by kernel_rfl
theorem e57_1 (x0 : Int) (x0' : (List Int)) (x1 : (List (Int × (Int × Unit)))) : runPure kl57_0.orc Go.Proofs.Try.prog 400 57 as57 rs57 ((x0, x0', ()), x1, ()) [true, true, true, true, false, true, true] =
    (let r0 : Int × PUnit := g88 ((x0, (x0', ())), ()); let r1 : Int × PUnit := g121 (x1, ()); let r2 : Int × PUnit := g85 (([r0.fst, r1.fst] : List Int), ()); let r3 : (List Int × PUnit) × (Int × List Int × PUnit) × PUnit := b57_0 ((([] : List Int), (x1, ((↑(List.length x1) : Int), ((0 : Int), ())))), ((x0, (x0', ())), ())); some (((r3.fst.fst : List Int), ((0 : Int), ())), [((true : Bool), true), (isBrk (l57_0 ((([] : List Int), (x1, ((↑(List.length x1) : Int), ((0 : Int), ())))), ((x0, (x0', ())), ()))), true), ((!eqF r2.fst (0 : Int) : Bool), false), (Option.isSome (f85 (([r0.fst, r1.fst] : List Int), ())), true), ((true : Bool), true), (Option.isSome (f121 (x1, ())), true), (Option.isSome (f88 ((x0, (x0', ())), ())), true)])) := by kernel_rfl

theorem ok57_t (x0 : Int) (x0' : (List Int)) (x1 : (List (Int × (Int × Unit)))) : TrOk (PureRuns Go.Proofs.Try.prog kl57_0.orc 57 as57 rs57 ((x0, x0', ()), x1, ())) (t57 x0 x0' x1) :=
  TrOk.ofTest (fun h0 => TrOk.ofTest (fun h1 => TrOk.ofTest (fun h3 => TrOk.ofTest (fun h4 => TrOk.ofFin (PureRuns.of (e57_0 x0 x0' x1) (All.cons h4 (All.cons h3 (All.cons rfl (All.cons h1 (All.cons h0 (All.nil)))))))) (fun h4 => TrOk.ofTest (fun h5 => TrOk.ofFin (PureRuns.of (e57_1 x0 x0' x1) (All.cons rfl (All.cons h5 (All.cons h4 (All.cons h3 (All.cons rfl (All.cons h1 (All.cons h0 (All.nil)))))))))) (fun h5 => TrOk.ofStop))) (fun h3 => TrOk.ofStop)) (fun h1 => TrOk.ofStop)) (fun h0 => TrOk.ofStop)

theorem ok57 : PureOk Go.Proofs.Try.prog 57 p57 := pureOk_of kl57_0_ok.base (T := fun (d : Tys.data as57) => t57 d.1.1 d.1.2.1 d.2.1) (by kernel_rfl) (fun (d : Tys.data as57) => ok57_t d.1.1 d.1.2.1 d.2.1)
def kf57 : Known := kl57_0.func 57 p57
theorem kf57_ok : KnownOk Go.Proofs.Try.prog kf57 := kl57_0_ok.func ok57

/-! ductility/ductilitybase.Within -/

abbrev as47 : List Ty := [(.int .i64), (.int .i64), (.int .i64)]
abbrev rs47 : List Ty := [.bool]

def t47 (x0 : Int) (x1 : Int) (x2 : Int) : Tr (Tys.data rs47) :=
  Tr.test ((leF x1 x0 : Bool))
    (Tr.fin (((leF x0 x2 : Bool), ())))
    (Tr.fin (((false : Bool), ())))

def f47 (d : Tys.data as47) : Option (Tys.data rs47) := (t47 d.1 d.2.1 d.2.2.1).val
def g47 (d : Tys.data as47) : Tys.data rs47 := (f47 d).getD (Tys.dflt rs47)
def p47 : PureC := pcOf as47 rs47 f47 g47

theorem e47_0 (x0 : Int) (x1 : Int) (x2 : Int) : runPure kf57.orc Go.Proofs.Try.prog 400 47 as47 rs47 (x0, x1, x2, ()) [true, true, true, true] =
    (some (((leF x0 x2 : Bool), ()), [((leF x1 x0 : Bool), true), ((leF x1 x0 : Bool), true), ((leF x1 x0 : Bool), true), ((leF x1 x0 : Bool), true)])) := by kernel_rfl
theorem e47_1 (x0 : Int) (x1 : Int) (x2 : Int) : runPure kf57.orc Go.Proofs.Try.prog 400 47 as47 rs47 (x0, x1, x2, ()) [false, false, false, false] =
    (some (((false : Bool), ()), [((leF x1 x0 : Bool), false), ((leF x1 x0 : Bool), false), ((leF x1 x0 : Bool), false), ((leF x1 x0 : Bool), false)])) := by kernel_rfl

theorem ok47_t (x0 : Int) (x1 : Int) (x2 : Int) : TrOk (PureRuns Go.Proofs.Try.prog kf57.orc 47 as47 rs47 (x0, x1, x2, ())) (t47 x0 x1 x2) :=
  TrOk.ofTest (fun h0 => TrOk.ofFin (PureRuns.of (e47_0 x0 x1 x2) (All.cons (h0) (All.cons (h0) (All.cons (h0) (All.cons h0 (All.nil))))))) (fun h0 => TrOk.ofFin (PureRuns.of (e47_1 x0 x1 x2) (All.cons (h0) (All.cons (h0) (All.cons (h0) (All.cons h0 (All.nil)))))))

theorem ok47 : PureOk Go.Proofs.Try.prog 47 p47 := pureOk_of kf57_ok.base (T := fun (d : Tys.data as47) => t47 d.1 d.2.1 d.2.2.1) (by kernel_rfl) (fun (d : Tys.data as47) => ok47_t d.1 d.2.1 d.2.2.1)
def kf47 : Known := kf57.func 47 p47
theorem kf47_ok : KnownOk Go.Proofs.Try.prog kf47 := kf57_ok.func ok47

/-! ductility/ductilityref02.IsSample -/

abbrev as54 : List Ty := [(.int .i64)]
abbrev rs54 : List Ty := [.bool]

def t54 (x0 : Int) : Tr (Tys.data rs54) :=
  Tr.test (Option.isSome (f47 (x0, ((-1000 : Int), ((1000 : Int), ())))))
    (let r0 : Bool × PUnit := g47 (x0, ((-1000 : Int), ((1000 : Int), ())));
    Tr.fin (((r0.fst : Bool), ())))
    (Tr.stop)

def f54 (d : Tys.data as54) : Option (Tys.data rs54) := (t54 d.1).val
def g54 (d : Tys.data as54) : Tys.data rs54 := (f54 d).getD (Tys.dflt rs54)
def p54 : PureC := pcOf as54 rs54 f54 g54

theorem e54_0 (x0 : Int) : runPure kf47.orc Go.Proofs.Try.prog 400 54 as54 rs54 (x0, ()) [true] =
    (let r0 : Bool × PUnit := g47 (x0, ((-1000 : Int), ((1000 : Int), ()))); some (((r0.fst : Bool), ()), [(Option.isSome (f47 (x0, ((-1000 : Int), ((1000 : Int), ())))), true)])) := by kernel_rfl

theorem ok54_t (x0 : Int) : TrOk (PureRuns Go.Proofs.Try.prog kf47.orc 54 as54 rs54 (x0, ())) (t54 x0) :=
  TrOk.ofTest (fun h0 => TrOk.ofFin (PureRuns.of (e54_0 x0) (All.cons h0 (All.nil)))) (fun h0 => TrOk.ofStop)

theorem ok54 : PureOk Go.Proofs.Try.prog 54 p54 := pureOk_of kf47_ok.base (T := fun (d : Tys.data as54) => t54 d.1) (by kernel_rfl) (fun (d : Tys.data as54) => ok54_t d.1)
def kf54 : Known := kf47.func 54 p54
theorem kf54_ok : KnownOk Go.Proofs.Try.prog kf54 := kf47_ok.func ok54

/-! loop 0 of ductility/ductilityref02.CheckRecord -/

abbrev sh22_0 : Sh := { n := 32, slots := [1, 4], pats := [.ptr 0 2 0, .ty (.int .i64)], boxes := [.row [.ty (.int .i64), .ty (.slice (.int .i64))]] }
abbrev shb22_0 : Sh := { n := 32, slots := [], pats := [], boxes := [.row [.ty (.int .i64), .ty (.slice (.int .i64))]] }
abbrev shr22_0 : Sh := { n := 32, slots := [2, 3], pats := [.ty (.int .i64), .ty (.int .i64)], boxes := [.row [.ty (.int .i64), .ty (.slice (.int .i64))]] }

def t22_0 (x1 : Int) (b0_0 : Int) (b0_1 : (List Int)) : Tr (Out sh22_0.data shb22_0.data shr22_0.data) :=
  Tr.test ((!leF (↑(List.length b0_1) : Int) x1 : Bool))
    (Tr.test ((decide ((0 : Int) ≤ x1) && decide (x1 < (↑(List.length b0_1) : Int)) : Bool))
      (Tr.test (Option.isSome (f54 ((List.getD b0_1 (Int.toNat x1) (0 : Int) : Int), ())))
        (let r0 : Bool × PUnit := g54 ((List.getD b0_1 (Int.toNat x1) (0 : Int) : Int), ());
        Tr.test ((!r0.fst : Bool))
          (Tr.fin (.ret ((x1, ((2 : Int), ())), ((b0_0, (b0_1, ())), ()))))
          (Tr.fin (.again (((wrap64 (x1 + (1 : Int)) : Int), ()), ((b0_0, (b0_1, ())), ())))))
        (Tr.stop))
      (Tr.stop /- none [op 3 of region 10 of F22] -/))
    (Tr.fin (.brk ((), ((b0_0, (b0_1, ())), ()))))

def s22_0 (d : sh22_0.data) : Option (Out sh22_0.data shb22_0.data shr22_0.data) := (t22_0 d.1.1 d.2.1.1 d.2.1.2.1).val
def l22_0 (d : sh22_0.data) : Option (shb22_0.data ⊕ shr22_0.data) := itr s22_0 rounds d
def b22_0 (d : sh22_0.data) : shb22_0.data := outB shb22_0.dflt (l22_0 d)
def r22_0 (d : sh22_0.data) : shr22_0.data := outR shr22_0.dflt (l22_0 d)
def lc22_0 : LoopC := lcOf sh22_0 shb22_0 shr22_0 l22_0 b22_0 r22_0

theorem e22_0_0 (x1 : Int) (b0_0 : Int) (b0_1 : (List Int)) : runBody kf54.orc Go.Proofs.Try.prog 400 22 0 sh22_0 shb22_0 shr22_0 ((x1, ()), (b0_0, b0_1, ()), ()) [true, true, true, true] =
    (let r0 : Bool × PUnit := g54 ((List.getD b0_1 (Int.toNat x1) (0 : Int) : Int), ()); some (.ret ((x1, ((2 : Int), ())), ((b0_0, (b0_1, ())), ())), [((!r0.fst : Bool), true), (Option.isSome (f54 ((List.getD b0_1 (Int.toNat x1) (0 : Int) : Int), ())), true), ((decide ((0 : Int) ≤ x1) && decide (x1 < (↑(List.length b0_1) : Int)) : Bool), true), ((!leF (↑(List.length b0_1) : Int) x1 : Bool), true)])) := by kernel_rfl
theorem e22_0_1 (x1 : Int) (b0_0 : Int) (b0_1 : (List Int)) : runBody kf54.orc Go.Proofs.Try.prog 400 22 0 sh22_0 shb22_0 shr22_0 ((x1, ()), (b0_0, b0_1, ()), ()) [true, true, true, false] =
    (let r0 : Bool × PUnit := g54 ((List.getD b0_1 (Int.toNat x1) (0 : Int) : Int), ()); some (.again (((wrap64 (x1 + (1 : Int)) : Int), ()), ((b0_0, (b0_1, ())), ())), [((!r0.fst : Bool), false), (Option.isSome (f54 ((List.getD b0_1 (Int.toNat x1) (0 : Int) : Int), ())), true), ((decide ((0 : Int) ≤ x1) && decide (x1 < (↑(List.length b0_1) : Int)) : Bool), true), ((!leF (↑(List.length b0_1) : Int) x1 : Bool), true)])) := by kernel_rfl
theorem e22_0_3 (x1 : Int) (b0_0 : Int) (b0_1 : (List Int)) : runBody kf54.orc Go.Proofs.Try.prog 400 22 0 sh22_0 shb22_0 shr22_0 ((x1, ()), (b0_0, b0_1, ()), ()) [false] =
    (some (.brk ((), ((b0_0, (b0_1, ())), ())), [((!leF (↑(List.length b0_1) : Int) x1 : Bool), false)])) := by kernel_rfl

theorem ok22_0_t (x1 : Int) (b0_0 : Int) (b0_1 : (List Int)) : TrOk (BodyRuns Go.Proofs.Try.prog kf54.orc 22 0 sh22_0 shb22_0 shr22_0 ((x1, ()), (b0_0, b0_1, ()), ())) (t22_0 x1 b0_0 b0_1) :=
  TrOk.ofTest (fun h0 => TrOk.ofTest (fun h1 => TrOk.ofTest (fun h2 => TrOk.ofTest (fun h3 => TrOk.ofFin (BodyRuns.of (e22_0_0 x1 b0_0 b0_1) (All.cons h3 (All.cons h2 (All.cons h1 (All.cons h0 (All.nil))))))) (fun h3 => TrOk.ofFin (BodyRuns.of (e22_0_1 x1 b0_0 b0_1) (All.cons h3 (All.cons h2 (All.cons h1 (All.cons h0 (All.nil)))))))) (fun h2 => TrOk.ofStop)) (fun h1 => TrOk.ofStop)) (fun h0 => TrOk.ofFin (BodyRuns.of (e22_0_3 x1 b0_0 b0_1) (All.cons h0 (All.nil))))

theorem ok22_0 : LoopOk Go.Proofs.Try.prog 22 0 lc22_0 := loopOk_of kf54_ok.base (T := fun (d : sh22_0.data) => t22_0 d.1.1 d.2.1.1 d.2.1.2.1) (by kernel_rfl) rfl (fun (d : sh22_0.data) => ok22_0_t d.1.1 d.2.1.1 d.2.1.2.1) (fun _ => rfl)
def kl22_0 : Known := kf54.loop 22 0 lc22_0
theorem kl22_0_ok : KnownOk Go.Proofs.Try.prog kl22_0 := kf54_ok.loop ok22_0

/-! ductility/ductilityref02.CheckRecord -/

abbrev as22 : List Ty := [(.pair (.int .i64) (.pair (.slice (.int .i64)) .unit))]
abbrev rs22 : List Ty := [(.int .i64), (.int .i64)]

def t22 (x0 : Int) (x0' : (List Int)) : Tr (Tys.data rs22) :=
  Tr.test (Option.isSome (f47 (x0, ((1 : Int), ((1000000 : Int), ())))))
    (let r0 : Bool × PUnit := g47 (x0, ((1 : Int), ((1000000 : Int), ())));
    Tr.test ((!r0.fst : Bool))
      (Tr.fin (((0 : Int), ((2 : Int), ()))))
      (Tr.test ((!leF (2 : Int) (↑(List.length x0') : Int) : Bool))
        (Tr.fin (((0 : Int), ((10 : Int), ()))))
        (Tr.test ((!leF (↑(List.length x0') : Int) (24 : Int) : Bool))
          (Tr.fin (((0 : Int), ((8 : Int), ()))))
          (Tr.test (Option.isSome (l22_0 (((0 : Int), ()), ((x0, (x0', ())), ()))))
            (Tr.test (isRet (l22_0 (((0 : Int), ()), ((x0, (x0', ())), ()))))
              (let r1 : (Int × Int × PUnit) × (Int × List Int × PUnit) × PUnit := r22_0 (((0 : Int), ()), ((x0, (x0', ())), ()));
              Tr.fin (((r1.fst.fst : Int), ((r1.fst.snd.fst : Int), ()))))
              (Tr.fin (((0 : Int), ((0 : Int), ())))))
            (Tr.stop)))))
    (Tr.stop)

def f22 (d : Tys.data as22) : Option (Tys.data rs22) := (t22 d.1.1 d.1.2.1).val
def g22 (d : Tys.data as22) : Tys.data rs22 := (f22 d).getD (Tys.dflt rs22)
def p22 : PureC := pcOf as22 rs22 f22 g22

theorem e22_0 (x0 : Int) (x0' : (List Int)) : runPure kl22_0.orc Go.Proofs.Try.prog 400 22 as22 rs22 ((x0, x0', ()), ()) [true, true] =
    (let r0 : Bool × PUnit := g47 (x0, ((1 : Int), ((1000000 : Int), ()))); some (((0 : Int), ((2 : Int), ())), [((!r0.fst : Bool), true), (Option.isSome (f47 (x0, ((1 : Int), ((1000000 : Int), ())))), true)])) := by kernel_rfl
theorem e22_1 (x0 : Int) (x0' : (List Int)) : runPure kl22_0.orc Go.Proofs.Try.prog 400 22 as22 rs22 ((x0, x0', ()), ()) [true, false, true] =
    (let r0 : Bool × PUnit := g47 (x0, ((1 : Int), ((1000000 : Int), ()))); some (((0 : Int), ((10 : Int), ())), [((!leF (2 : Int) (↑(List.length x0') : Int) : Bool), true), ((!r0.fst : Bool), false), (Option.isSome (f47 (x0, ((1 : Int), ((1000000 : Int), ())))), true)])) := by kernel_rfl
theorem e22_2 (x0 : Int) (x0' : (List Int)) : runPure kl22_0.orc Go.Proofs.Try.prog 400 22 as22 rs22 ((x0, x0', ()), ()) [true, false, false, true] =
    (let r0 : Bool × PUnit := g47 (x0, ((1 : Int), ((1000000 : Int), ()))); some (((0 : Int), ((8 : Int), ())), [((!leF (↑(List.length x0') : Int) (24 : Int) : Bool), true), ((!leF (2 : Int) (↑(List.length x0') : Int) : Bool), false), ((!r0.fst : Bool), false), (Option.isSome (f47 (x0, ((1 : Int), ((1000000 : Int), ())))), true)])) := by kernel_rfl
theorem e22_3 (x0 : Int) (x0' : (List Int)) : runPure kl22_0.orc Go.Proofs.Try.prog 400 22 as22 rs22 ((x0, x0', ()), ()) [true, false, false, false, true, true] =
    (let r0 : Bool × PUnit := g47 (x0, ((1 : Int), ((1000000 : Int), ()))); let r1 : (Int × Int × PUnit) × (Int × List Int × PUnit) × PUnit := r22_0 (((0 : Int), ()), ((x0, (x0', ())), ())); some (((r1.fst.fst : Int), ((r1.fst.snd.fst : Int), ())), [(isRet (l22_0 (((0 : Int), ()), ((x0, (x0', ())), ()))), true), (Option.isSome (l22_0 (((0 : Int), ()), ((x0, (x0', ())), ()))), true), ((!leF (↑(List.length x0') : Int) (24 : Int) : Bool), false), ((!leF (2 : Int) (↑(List.length x0') : Int) : Bool), false), ((!r0.fst : Bool), false), (Option.isSome (f47 (x0, ((1 : Int), ((1000000 : Int), ())))), true)])) := by kernel_rfl
theorem e22_4 (x0 : Int) (x0' : (List Int)) : runPure kl22_0.orc Go.Proofs.Try.prog 400 22 as22 rs22 ((x0, x0', ()), ()) [true, false, false, false, true, false] =
    (let r0 : Bool × PUnit := g47 (x0, ((1 : Int), ((1000000 : Int), ()))); some (((0 : Int), ((0 : Int), ())), [(isRet (l22_0 (((0 : Int), ()), ((x0, (x0', ())), ()))), false), (Option.isSome (l22_0 (((0 : Int), ()), ((x0, (x0', ())), ()))), true), ((!leF (↑(List.length x0') : Int) (24 : Int) : Bool), false), ((!leF (2 : Int) (↑(List.length x0') : Int) : Bool), false), ((!r0.fst : Bool), false), (Option.isSome (f47 (x0, ((1 : Int), ((1000000 : Int), ())))), true)])) := by kernel_rfl

theorem ok22_t (x0 : Int) (x0' : (List Int)) : TrOk (PureRuns Go.Proofs.Try.prog kl22_0.orc 22 as22 rs22 ((x0, x0', ()), ())) (t22 x0 x0') :=
  TrOk.ofTest (fun h0 => TrOk.ofTest (fun h1 => TrOk.ofFin (PureRuns.of (e22_0 x0 x0') (All.cons h1 (All.cons h0 (All.nil))))) (fun h1 => TrOk.ofTest (fun h2 => TrOk.ofFin (PureRuns.of (e22_1 x0 x0') (All.cons h2 (All.cons h1 (All.cons h0 (All.nil)))))) (fun h2 => TrOk.ofTest (fun h3 => TrOk.ofFin (PureRuns.of (e22_2 x0 x0') (All.cons h3 (All.cons h2 (All.cons h1 (All.cons h0 (All.nil))))))) (fun h3 => TrOk.ofTest (fun h4 => TrOk.ofTest (fun h5 => TrOk.ofFin (PureRuns.of (e22_3 x0 x0') (All.cons h5 (All.cons h4 (All.cons h3 (All.cons h2 (All.cons h1 (All.cons h0 (All.nil))))))))) (fun h5 => TrOk.ofFin (PureRuns.of (e22_4 x0 x0') (All.cons h5 (All.cons h4 (All.cons h3 (All.cons h2 (All.cons h1 (All.cons h0 (All.nil)))))))))) (fun h4 => TrOk.ofStop))))) (fun h0 => TrOk.ofStop)

theorem ok22 : PureOk Go.Proofs.Try.prog 22 p22 := pureOk_of kl22_0_ok.base (T := fun (d : Tys.data as22) => t22 d.1.1 d.1.2.1) (by kernel_rfl) (fun (d : Tys.data as22) => ok22_t d.1.1 d.1.2.1)
def kf22 : Known := kl22_0.func 22 p22
theorem kf22_ok : KnownOk Go.Proofs.Try.prog kf22 := kl22_0_ok.func ok22

/-! ductility/ductilityref02.RecordErr -/

abbrev as29 : List Ty := [(.pair (.int .i64) (.pair (.slice (.int .i64)) .unit))]
abbrev rs29 : List Ty := [(.int .i64)]

def t29 (x0 : Int) (x0' : (List Int)) : Tr (Tys.data rs29) :=
  Tr.test (Option.isSome (f22 ((x0, (x0', ())), ())))
    (let r0 : Int × Int × PUnit := g22 ((x0, (x0', ())), ());
    Tr.fin (((r0.snd.fst : Int), ())))
    (Tr.stop)

def f29 (d : Tys.data as29) : Option (Tys.data rs29) := (t29 d.1.1 d.1.2.1).val
def g29 (d : Tys.data as29) : Tys.data rs29 := (f29 d).getD (Tys.dflt rs29)
def p29 : PureC := pcOf as29 rs29 f29 g29

theorem e29_0 (x0 : Int) (x0' : (List Int)) : runPure kf22.orc Go.Proofs.Try.prog 400 29 as29 rs29 ((x0, x0', ()), ()) [true] =
    (let r0 : Int × Int × PUnit := g22 ((x0, (x0', ())), ()); some (((r0.snd.fst : Int), ()), [(Option.isSome (f22 ((x0, (x0', ())), ())), true)])) := by kernel_rfl

theorem ok29_t (x0 : Int) (x0' : (List Int)) : TrOk (PureRuns Go.Proofs.Try.prog kf22.orc 29 as29 rs29 ((x0, x0', ()), ())) (t29 x0 x0') :=
  TrOk.ofTest (fun h0 => TrOk.ofFin (PureRuns.of (e29_0 x0 x0') (All.cons h0 (All.nil)))) (fun h0 => TrOk.ofStop)

theorem ok29 : PureOk Go.Proofs.Try.prog 29 p29 := pureOk_of kf22_ok.base (T := fun (d : Tys.data as29) => t29 d.1.1 d.1.2.1) (by kernel_rfl) (fun (d : Tys.data as29) => ok29_t d.1.1 d.1.2.1)
def kf29 : Known := kf22.func 29 p29
theorem kf29_ok : KnownOk Go.Proofs.Try.prog kf29 := kf22_ok.func ok29

/-! ductility/ductilityref02.OscillatorErr -/

abbrev as58 : List Ty := [(.pair (.int .i64) (.pair (.int .i64) .unit))]
abbrev rs58 : List Ty := [(.int .i64)]

def t58 (x0 : Int) (x0' : Int) : Tr (Tys.data rs58) :=
  Tr.test (Option.isSome (f47 (x0, ((0 : Int), ((3000 : Int), ())))))
    (let r0 : Bool × PUnit := g47 (x0, ((0 : Int), ((3000 : Int), ())));
    Tr.test ((!r0.fst : Bool))
      (Tr.fin (((2 : Int), ())))
      (Tr.test (Option.isSome (f47 (x0', ((0 : Int), ((500 : Int), ())))))
        (let r1 : Bool × PUnit := g47 (x0', ((0 : Int), ((500 : Int), ())));
        Tr.test ((!r1.fst : Bool))
          (Tr.fin (((2 : Int), ())))
          (Tr.fin (((0 : Int), ()))))
        (Tr.stop)))
    (Tr.stop)

def f58 (d : Tys.data as58) : Option (Tys.data rs58) := (t58 d.1.1 d.1.2.1).val
def g58 (d : Tys.data as58) : Tys.data rs58 := (f58 d).getD (Tys.dflt rs58)
def p58 : PureC := pcOf as58 rs58 f58 g58

theorem e58_0 (x0 : Int) (x0' : Int) : runPure kf29.orc Go.Proofs.Try.prog 400 58 as58 rs58 ((x0, x0', ()), ()) [true, true, true, true, true, true, true] =
    (let r0 : Bool × PUnit := g47 (x0, ((0 : Int), ((3000 : Int), ()))); some (((2 : Int), ()), [((true : Bool), true), ((!r0.fst : Bool), true), ((!r0.fst : Bool), true), ((!r0.fst : Bool), true), ((!r0.fst : Bool), true), ((!r0.fst : Bool), true), (Option.isSome (f47 (x0, ((0 : Int), ((3000 : Int), ())))), true)])) := by kernel_rfl
theorem e58_1 (x0 : Int) (x0' : Int) : runPure kf29.orc Go.Proofs.Try.prog 400 58 as58 rs58 ((x0, x0', ()), ()) [true, false, false, false, true, false, false, true] =
    (let r0 : Bool × PUnit := g47 (x0, ((0 : Int), ((3000 : Int), ()))); let r1 : Bool × PUnit := g47 (x0', ((0 : Int), ((500 : Int), ()))); some (((2 : Int), ()), [((!r1.fst : Bool), true), ((!r0.fst : Bool), false), ((!r0.fst : Bool), false), (Option.isSome (f47 (x0', ((0 : Int), ((500 : Int), ())))), true), ((!r0.fst : Bool), false), ((!r0.fst : Bool), false), ((!r0.fst : Bool), false), (Option.isSome (f47 (x0, ((0 : Int), ((3000 : Int), ())))), true)])) := by kernel_rfl
theorem e58_2 (x0 : Int) (x0' : Int) : runPure kf29.orc Go.Proofs.Try.prog 400 58 as58 rs58 ((x0, x0', ()), ()) [true, false, false, false, true, false, false, false] =
    (let r0 : Bool × PUnit := g47 (x0, ((0 : Int), ((3000 : Int), ()))); let r1 : Bool × PUnit := g47 (x0', ((0 : Int), ((500 : Int), ()))); some (((0 : Int), ()), [((!r1.fst : Bool), false), ((!r0.fst : Bool), false), ((!r0.fst : Bool), false), (Option.isSome (f47 (x0', ((0 : Int), ((500 : Int), ())))), true), ((!r0.fst : Bool), false), ((!r0.fst : Bool), false), ((!r0.fst : Bool), false), (Option.isSome (f47 (x0, ((0 : Int), ((3000 : Int), ())))), true)])) := by kernel_rfl

theorem ok58_t (x0 : Int) (x0' : Int) : TrOk (PureRuns Go.Proofs.Try.prog kf29.orc 58 as58 rs58 ((x0, x0', ()), ())) (t58 x0 x0') :=
  TrOk.ofTest (fun h0 => TrOk.ofTest (fun h1 => TrOk.ofFin (PureRuns.of (e58_0 x0 x0') (All.cons rfl (All.cons (not_of (of_not (h1))) (All.cons (not_of (of_not (h1))) (All.cons (not_of (of_not (h1))) (All.cons (not_of (of_not (h1))) (All.cons h1 (All.cons h0 (All.nil)))))))))) (fun h1 => TrOk.ofTest (fun h4 => TrOk.ofTest (fun h7 => TrOk.ofFin (PureRuns.of (e58_1 x0 x0') (All.cons h7 (All.cons (not_of (of_not (h1))) (All.cons (not_of (of_not (h1))) (All.cons h4 (All.cons (not_of (of_not (h1))) (All.cons (not_of (of_not (h1))) (All.cons h1 (All.cons h0 (All.nil))))))))))) (fun h7 => TrOk.ofFin (PureRuns.of (e58_2 x0 x0') (All.cons h7 (All.cons (not_of (of_not (h1))) (All.cons (not_of (of_not (h1))) (All.cons h4 (All.cons (not_of (of_not (h1))) (All.cons (not_of (of_not (h1))) (All.cons h1 (All.cons h0 (All.nil)))))))))))) (fun h4 => TrOk.ofStop))) (fun h0 => TrOk.ofStop)

theorem ok58 : PureOk Go.Proofs.Try.prog 58 p58 := pureOk_of kf29_ok.base (T := fun (d : Tys.data as58) => t58 d.1.1 d.1.2.1) (by kernel_rfl) (fun (d : Tys.data as58) => ok58_t d.1.1 d.1.2.1)
def kf58 : Known := kf29.func 58 p58
theorem kf58_ok : KnownOk Go.Proofs.Try.prog kf58 := kf29_ok.func ok58

/-! loop 0 of ductility/ductilityref02.SpectrumErr -/

abbrev sh59_0 : Sh := { n := 22, slots := [0, 3], pats := [.ty (.slice (.pair (.int .i64) (.pair (.int .i64) .unit))), .ty (.int .i64)], boxes := [] }
abbrev shb59_0 : Sh := { n := 22, slots := [], pats := [], boxes := [] }
abbrev shr59_0 : Sh := { n := 22, slots := [2], pats := [.ty (.int .i64)], boxes := [] }

def t59_0 (x0 : (List (Int × (Int × Unit)))) (x1 : Int) : Tr (Out sh59_0.data shb59_0.data shr59_0.data) :=
  Tr.test ((!leF (↑(List.length x0) : Int) x1 : Bool))
    (Tr.test ((decide ((0 : Int) ≤ x1) && decide (x1 < (↑(List.length x0) : Int)) : Bool))
      (Tr.test (Option.isSome (f58 ((((List.getD x0 (Int.toNat x1) ((0 : Int), (0 : Int), ())).fst : Int), (((List.getD x0 (Int.toNat x1) ((0 : Int), (0 : Int), ())).snd.fst : Int), ())), ())))
        (let r0 : Int × PUnit := g58 ((((List.getD x0 (Int.toNat x1) ((0 : Int), (0 : Int), ())).fst : Int), (((List.getD x0 (Int.toNat x1) ((0 : Int), (0 : Int), ())).snd.fst : Int), ())), ());
        Tr.test ((!eqF r0.fst (0 : Int) : Bool))
          (Tr.fin (.ret (((r0.fst : Int), ()), ())))
          (Tr.fin (.again ((x0, ((wrap64 (x1 + (1 : Int)) : Int), ())), ()))))
        (Tr.stop))
      (Tr.stop /- none [op 2 of region 6 of F59] -/))
    (Tr.fin (.brk ((), ())))

def s59_0 (d : sh59_0.data) : Option (Out sh59_0.data shb59_0.data shr59_0.data) := (t59_0 d.1.1 d.1.2.1).val
def l59_0 (d : sh59_0.data) : Option (shb59_0.data ⊕ shr59_0.data) := itr s59_0 rounds d
def b59_0 (d : sh59_0.data) : shb59_0.data := outB shb59_0.dflt (l59_0 d)
def r59_0 (d : sh59_0.data) : shr59_0.data := outR shr59_0.dflt (l59_0 d)
def lc59_0 : LoopC := lcOf sh59_0 shb59_0 shr59_0 l59_0 b59_0 r59_0

theorem e59_0_0 (x0 : (List (Int × (Int × Unit)))) (x1 : Int) : runBody kf58.orc Go.Proofs.Try.prog 400 59 0 sh59_0 shb59_0 shr59_0 ((x0, x1, ()), ()) [true, true, true, true] =
    (let r0 : Int × PUnit := g58 ((((List.getD x0 (Int.toNat x1) ((0 : Int), (0 : Int), ())).fst : Int), (((List.getD x0 (Int.toNat x1) ((0 : Int), (0 : Int), ())).snd.fst : Int), ())), ()); some (.ret (((r0.fst : Int), ()), ()), [((!eqF r0.fst (0 : Int) : Bool), true), (Option.isSome (f58 ((((List.getD x0 (Int.toNat x1) ((0 : Int), (0 : Int), ())).fst : Int), (((List.getD x0 (Int.toNat x1) ((0 : Int), (0 : Int), ())).snd.fst : Int), ())), ())), true), ((decide ((0 : Int) ≤ x1) && decide (x1 < (↑(List.length x0) : Int)) : Bool), true), ((!leF (↑(List.length x0) : Int) x1 : Bool), true)])) := by kernel_rfl
theorem e59_0_1 (x0 : (List (Int × (Int × Unit)))) (x1 : Int) : runBody kf58.orc Go.Proofs.Try.prog 400 59 0 sh59_0 shb59_0 shr59_0 ((x0, x1, ()), ()) [true, true, true, false] =
    (let r0 : Int × PUnit := g58 ((((List.getD x0 (Int.toNat x1) ((0 : Int), (0 : Int), ())).fst : Int), (((List.getD x0 (Int.toNat x1) ((0 : Int), (0 : Int), ())).snd.fst : Int), ())), ()); some (.again ((x0, ((wrap64 (x1 + (1 : Int)) : Int), ())), ()), [((!eqF r0.fst (0 : Int) : Bool), false), (Option.isSome (f58 ((((List.getD x0 (Int.toNat x1) ((0 : Int), (0 : Int), ())).fst : Int), (((List.getD x0 (Int.toNat x1) ((0 : Int), (0 : Int), ())).snd.fst : Int), ())), ())), true), ((decide ((0 : Int) ≤ x1) && decide (x1 < (↑(List.length x0) : Int)) : Bool), true), ((!leF (↑(List.length x0) : Int) x1 : Bool), true)])) := by kernel_rfl
theorem e59_0_3 (x0 : (List (Int × (Int × Unit)))) (x1 : Int) : runBody kf58.orc Go.Proofs.Try.prog 400 59 0 sh59_0 shb59_0 shr59_0 ((x0, x1, ()), ()) [false] =
    (some (.brk ((), ()), [((!leF (↑(List.length x0) : Int) x1 : Bool), false)])) := by kernel_rfl

theorem ok59_0_t (x0 : (List (Int × (Int × Unit)))) (x1 : Int) : TrOk (BodyRuns Go.Proofs.Try.prog kf58.orc 59 0 sh59_0 shb59_0 shr59_0 ((x0, x1, ()), ())) (t59_0 x0 x1) :=
  TrOk.ofTest (fun h0 => TrOk.ofTest (fun h1 => TrOk.ofTest (fun h2 => TrOk.ofTest (fun h3 => TrOk.ofFin (BodyRuns.of (e59_0_0 x0 x1) (All.cons h3 (All.cons h2 (All.cons h1 (All.cons h0 (All.nil))))))) (fun h3 => TrOk.ofFin (BodyRuns.of (e59_0_1 x0 x1) (All.cons h3 (All.cons h2 (All.cons h1 (All.cons h0 (All.nil)))))))) (fun h2 => TrOk.ofStop)) (fun h1 => TrOk.ofStop)) (fun h0 => TrOk.ofFin (BodyRuns.of (e59_0_3 x0 x1) (All.cons h0 (All.nil))))

theorem ok59_0 : LoopOk Go.Proofs.Try.prog 59 0 lc59_0 := loopOk_of kf58_ok.base (T := fun (d : sh59_0.data) => t59_0 d.1.1 d.1.2.1) (by kernel_rfl) rfl (fun (d : sh59_0.data) => ok59_0_t d.1.1 d.1.2.1) (fun _ => rfl)
def kl59_0 : Known := kf58.loop 59 0 lc59_0
theorem kl59_0_ok : KnownOk Go.Proofs.Try.prog kl59_0 := kf58_ok.loop ok59_0

/-! ductility/ductilityref02.SpectrumErr -/

abbrev as59 : List Ty := [(.slice (.pair (.int .i64) (.pair (.int .i64) .unit)))]
abbrev rs59 : List Ty := [(.int .i64)]

def t59 (x0 : (List (Int × (Int × Unit)))) : Tr (Tys.data rs59) :=
  Tr.test ((!leF (↑(List.length x0) : Int) (6 : Int) : Bool))
    (Tr.fin (((8 : Int), ())))
    (Tr.test (Option.isSome (l59_0 ((x0, ((0 : Int), ())), ())))
      (Tr.test (isRet (l59_0 ((x0, ((0 : Int), ())), ())))
        (let r0 : (Int × PUnit) × PUnit := r59_0 ((x0, ((0 : Int), ())), ());
        Tr.fin (((r0.fst.fst : Int), ())))
        (Tr.fin (((0 : Int), ()))))
      (Tr.stop))

def f59 (d : Tys.data as59) : Option (Tys.data rs59) := (t59 d.1).val
def g59 (d : Tys.data as59) : Tys.data rs59 := (f59 d).getD (Tys.dflt rs59)
def p59 : PureC := pcOf as59 rs59 f59 g59

theorem e59_0 (x0 : (List (Int × (Int × Unit)))) : runPure kl59_0.orc Go.Proofs.Try.prog 400 59 as59 rs59 (x0, ()) [true] =
    (some (((8 : Int), ()), [((!leF (↑(List.length x0) : Int) (6 : Int) : Bool), true)])) := by kernel_rfl
theorem e59_1 (x0 : (List (Int × (Int × Unit)))) : runPure kl59_0.orc Go.Proofs.Try.prog 400 59 as59 rs59 (x0, ()) [false, true, true] =
    (let r0 : (Int × PUnit) × PUnit := r59_0 ((x0, ((0 : Int), ())), ()); some (((r0.fst.fst : Int), ()), [(isRet (l59_0 ((x0, ((0 : Int), ())), ())), true), (Option.isSome (l59_0 ((x0, ((0 : Int), ())), ())), true), ((!leF (↑(List.length x0) : Int) (6 : Int) : Bool), false)])) := by kernel_rfl
theorem e59_2 (x0 : (List (Int × (Int × Unit)))) : runPure kl59_0.orc Go.Proofs.Try.prog 400 59 as59 rs59 (x0, ()) [false, true, false] =
    (some (((0 : Int), ()), [(isRet (l59_0 ((x0, ((0 : Int), ())), ())), false), (Option.isSome (l59_0 ((x0, ((0 : Int), ())), ())), true), ((!leF (↑(List.length x0) : Int) (6 : Int) : Bool), false)])) := by kernel_rfl

theorem ok59_t (x0 : (List (Int × (Int × Unit)))) : TrOk (PureRuns Go.Proofs.Try.prog kl59_0.orc 59 as59 rs59 (x0, ())) (t59 x0) :=
  TrOk.ofTest (fun h0 => TrOk.ofFin (PureRuns.of (e59_0 x0) (All.cons h0 (All.nil)))) (fun h0 => TrOk.ofTest (fun h1 => TrOk.ofTest (fun h2 => TrOk.ofFin (PureRuns.of (e59_1 x0) (All.cons h2 (All.cons h1 (All.cons h0 (All.nil)))))) (fun h2 => TrOk.ofFin (PureRuns.of (e59_2 x0) (All.cons h2 (All.cons h1 (All.cons h0 (All.nil))))))) (fun h1 => TrOk.ofStop))

theorem ok59 : PureOk Go.Proofs.Try.prog 59 p59 := pureOk_of kl59_0_ok.base (T := fun (d : Tys.data as59) => t59 d.1) (by kernel_rfl) (fun (d : Tys.data as59) => ok59_t d.1)
def kf59 : Known := kl59_0.func 59 p59
theorem kf59_ok : KnownOk Go.Proofs.Try.prog kf59 := kl59_0_ok.func ok59

/-! ductility/ductilitybase.Floor -/

abbrev as160 : List Ty := [(.int .i64), (.int .i64)]
abbrev rs160 : List Ty := [(.int .i64)]

def t160 (x0 : Int) (x1 : Int) : Tr (Tys.data rs160) :=
  Tr.test ((x1 == (0 : Int) : Bool))
    (Tr.stop /- none [op 2 of region 1 of F160] -/)
    (Tr.test ((!leF (0 : Int) (Int.tmod x0 x1) : Bool))
      (Tr.fin (((wrap64 (Go.IntKind.wrap Go.IntKind.i64 (Int.tdiv x0 x1) - (1 : Int)) : Int), ())))
      (Tr.fin (((Go.IntKind.wrap Go.IntKind.i64 (Int.tdiv x0 x1) : Int), ()))))

def f160 (d : Tys.data as160) : Option (Tys.data rs160) := (t160 d.1 d.2.1).val
def g160 (d : Tys.data as160) : Tys.data rs160 := (f160 d).getD (Tys.dflt rs160)
def p160 : PureC := pcOf as160 rs160 f160 g160

theorem e160_1 (x0 : Int) (x1 : Int) : runPure kf59.orc Go.Proofs.Try.prog 400 160 as160 rs160 (x0, x1, ()) [false, false, true] =
    (some (((wrap64 (Go.IntKind.wrap Go.IntKind.i64 (Int.tdiv x0 x1) - (1 : Int)) : Int), ()), [((!leF (0 : Int) (Int.tmod x0 x1) : Bool), true), ((x1 == (0 : Int) : Bool), false), ((x1 == (0 : Int) : Bool), false)])) := by kernel_rfl
theorem e160_2 (x0 : Int) (x1 : Int) : runPure kf59.orc Go.Proofs.Try.prog 400 160 as160 rs160 (x0, x1, ()) [false, false, false] =
    (some (((Go.IntKind.wrap Go.IntKind.i64 (Int.tdiv x0 x1) : Int), ()), [((!leF (0 : Int) (Int.tmod x0 x1) : Bool), false), ((x1 == (0 : Int) : Bool), false), ((x1 == (0 : Int) : Bool), false)])) := by kernel_rfl

theorem ok160_t (x0 : Int) (x1 : Int) : TrOk (PureRuns Go.Proofs.Try.prog kf59.orc 160 as160 rs160 (x0, x1, ())) (t160 x0 x1) :=
  TrOk.ofTest (fun h0 => TrOk.ofStop) (fun h0 => TrOk.ofTest (fun h2 => TrOk.ofFin (PureRuns.of (e160_1 x0 x1) (All.cons h2 (All.cons (h0) (All.cons h0 (All.nil)))))) (fun h2 => TrOk.ofFin (PureRuns.of (e160_2 x0 x1) (All.cons h2 (All.cons (h0) (All.cons h0 (All.nil)))))))

theorem ok160 : PureOk Go.Proofs.Try.prog 160 p160 := pureOk_of kf59_ok.base (T := fun (d : Tys.data as160) => t160 d.1 d.2.1) (by kernel_rfl) (fun (d : Tys.data as160) => ok160_t d.1 d.2.1)
def kf160 : Known := kf59.func 160 p160
theorem kf160_ok : KnownOk Go.Proofs.Try.prog kf160 := kf59_ok.func ok160

/-! ductility/ductilityref02.toZero -/

abbrev as123 : List Ty := [(.int .i64), (.int .i64)]
abbrev rs123 : List Ty := [(.int .i64)]

def t123 (x0 : Int) (x1 : Int) : Tr (Tys.data rs123) :=
  Tr.test ((!leF (0 : Int) x0 : Bool))
    (Tr.test (Option.isSome (f160 ((Go.IntKind.wrap Go.IntKind.i64 ((0 : Int) - x0) : Int), (x1, ()))))
      (let r0 : Int × PUnit := g160 ((Go.IntKind.wrap Go.IntKind.i64 ((0 : Int) - x0) : Int), (x1, ()));
      Tr.fin (((Go.IntKind.wrap Go.IntKind.i64 ((0 : Int) - r0.fst) : Int), ())))
      (Tr.stop))
    (Tr.test (Option.isSome (f160 (x0, (x1, ()))))
      (let r1 : Int × PUnit := g160 (x0, (x1, ()));
      Tr.fin (((r1.fst : Int), ())))
      (Tr.stop))

def f123 (d : Tys.data as123) : Option (Tys.data rs123) := (t123 d.1 d.2.1).val
def g123 (d : Tys.data as123) : Tys.data rs123 := (f123 d).getD (Tys.dflt rs123)
def p123 : PureC := pcOf as123 rs123 f123 g123

theorem e123_0 (x0 : Int) (x1 : Int) : runPure kf160.orc Go.Proofs.Try.prog 400 123 as123 rs123 (x0, x1, ()) [true, true] =
    (let r0 : Int × PUnit := g160 ((Go.IntKind.wrap Go.IntKind.i64 ((0 : Int) - x0) : Int), (x1, ())); some (((Go.IntKind.wrap Go.IntKind.i64 ((0 : Int) - r0.fst) : Int), ()), [(Option.isSome (f160 ((Go.IntKind.wrap Go.IntKind.i64 ((0 : Int) - x0) : Int), (x1, ()))), true), ((!leF (0 : Int) x0 : Bool), true)])) := by kernel_rfl
theorem e123_1 (x0 : Int) (x1 : Int) : runPure kf160.orc Go.Proofs.Try.prog 400 123 as123 rs123 (x0, x1, ()) [false, true] =
    (let r1 : Int × PUnit := g160 (x0, (x1, ())); some (((r1.fst : Int), ()), [(Option.isSome (f160 (x0, (x1, ()))), true), ((!leF (0 : Int) x0 : Bool), false)])) := by kernel_rfl

theorem ok123_t (x0 : Int) (x1 : Int) : TrOk (PureRuns Go.Proofs.Try.prog kf160.orc 123 as123 rs123 (x0, x1, ())) (t123 x0 x1) :=
  TrOk.ofTest (fun h0 => TrOk.ofTest (fun h1 => TrOk.ofFin (PureRuns.of (e123_0 x0 x1) (All.cons h1 (All.cons h0 (All.nil))))) (fun h1 => TrOk.ofStop)) (fun h0 => TrOk.ofTest (fun h1 => TrOk.ofFin (PureRuns.of (e123_1 x0 x1) (All.cons h1 (All.cons h0 (All.nil))))) (fun h1 => TrOk.ofStop))

theorem ok123 : PureOk Go.Proofs.Try.prog 123 p123 := pureOk_of kf160_ok.base (T := fun (d : Tys.data as123) => t123 d.1 d.2.1) (by kernel_rfl) (fun (d : Tys.data as123) => ok123_t d.1 d.2.1)
def kf123 : Known := kf160.func 123 p123
theorem kf123_ok : KnownOk Go.Proofs.Try.prog kf123 := kf160_ok.func ok123

/-! loop 0 of ductility/ductilityref02.Response -/

abbrev sh60_0 : Sh := { n := 47, slots := [0, 3, 5, 6, 7, 8], pats := [.ty (.slice (.int .i64)), .ptr 0 2 0, .acc (.int .i64), .ty (.int .i64), .ty (.int .i64), .ty (.int .i64)], boxes := [.row [.ty (.int .i64), .ty (.int .i64)]] }
abbrev shb60_0 : Sh := { n := 47, slots := [5], pats := [.acc (.int .i64)], boxes := [.row [.ty (.int .i64), .ty (.int .i64)]] }
abbrev shr60_0 : Sh := { n := 47, slots := [], pats := [], boxes := [.row [.ty (.int .i64), .ty (.int .i64)]] }

def t60_0 (x0 : (List Int)) (x2 : (List Int)) (x3 : Int) (x4 : Int) (x5 : Int) (b0_0 : Int) (b0_1 : Int) : Tr (Out sh60_0.data shb60_0.data shr60_0.data) :=
  Tr.test ((!leF (↑(List.length x0) : Int) x5 : Bool))
    (Tr.test (Option.isSome (f123 ((wrap64 (wrap64 (b0_0 * x3) + wrap64 (b0_1 * wrap64 (x3 - x4))) : Int), ((1000 : Int), ()))))
      (Tr.test ((decide ((0 : Int) ≤ x5) && decide (x5 < (↑(List.length x0) : Int)) : Bool))
        (Tr.test ((Nat.ble (((2 : Nat) * (List.length x2 + (1 : Nat)) + (192 : Nat)) * (8 : Nat)) (281474976710656 : Nat) && Nat.ble (List.length x2 + (1 : Nat)) (281474976710656 : Nat) : Bool))
          (let r0 : Int × PUnit := g123 ((wrap64 (wrap64 (b0_0 * x3) + wrap64 (b0_1 * wrap64 (x3 - x4))) : Int), ((1000 : Int), ()));
          Tr.fin (.again ((x0, ((x2 ++ [wrap64 (wrap64 (wrap64 (wrap64 ((2 : Int) * x3) - x4) - r0.fst) - List.getD x0 (Int.toNat x5) (0 : Int))] : List Int), ((wrap64 (wrap64 (wrap64 (wrap64 ((2 : Int) * x3) - x4) - r0.fst) - List.getD x0 (Int.toNat x5) (0 : Int)) : Int), (x3, ((wrap64 (x5 + (1 : Int)) : Int), ()))))), ((b0_0, (b0_1, ())), ()))))
          (Tr.stop /- none [op 3 of region 8 of F60] -/))
        (Tr.stop /- none [op 8 of region 7 of F60] -/))
      (Tr.stop))
    (Tr.fin (.brk ((x2, ()), ((b0_0, (b0_1, ())), ()))))

def s60_0 (d : sh60_0.data) : Option (Out sh60_0.data shb60_0.data shr60_0.data) := (t60_0 d.1.1 d.1.2.1 d.1.2.2.1 d.1.2.2.2.1 d.1.2.2.2.2.1 d.2.1.1 d.2.1.2.1).val
def l60_0 (d : sh60_0.data) : Option (shb60_0.data ⊕ shr60_0.data) := itr s60_0 rounds d
def b60_0 (d : sh60_0.data) : shb60_0.data := outB shb60_0.dflt (l60_0 d)
def r60_0 (d : sh60_0.data) : shr60_0.data := outR shr60_0.dflt (l60_0 d)
def lc60_0 : LoopC := lcB sh60_0 shb60_0 shr60_0 l60_0 b60_0

theorem e60_0_0 (x0 : (List Int)) (x2 : (List Int)) (x3 : Int) (x4 : Int) (x5 : Int) (b0_0 : Int) (b0_1 : Int) : runBody kf123.orc Go.Proofs.Try.prog 400 60 0 sh60_0 shb60_0 shr60_0 ((x0, x2, x3, x4, x5, ()), (b0_0, b0_1, ()), ()) [true, true, true, false, true, true] =
    (let r0 : Int × PUnit := g123 ((wrap64 (wrap64 (b0_0 * x3) + wrap64 (b0_1 * wrap64 (x3 - x4))) : Int), ((1000 : Int), ())); some (.again ((x0, ((x2 ++ [wrap64 (wrap64 (wrap64 (wrap64 ((2 : Int) * x3) - x4) - r0.fst) - List.getD x0 (Int.toNat x5) (0 : Int))] : List Int), ((wrap64 (wrap64 (wrap64 (wrap64 ((2 : Int) * x3) - x4) - r0.fst) - List.getD x0 (Int.toNat x5) (0 : Int)) : Int), (x3, ((wrap64 (x5 + (1 : Int)) : Int), ()))))), ((b0_0, (b0_1, ())), ())), [((true : Bool), true), ((Nat.ble (((2 : Nat) * (List.length x2 + (1 : Nat)) + (192 : Nat)) * (8 : Nat)) (281474976710656 : Nat) && Nat.ble (List.length x2 + (1 : Nat)) (281474976710656 : Nat) : Bool), true), ((false : Bool), false), ((decide ((0 : Int) ≤ x5) && decide (x5 < (↑(List.length x0) : Int)) : Bool), true), (Option.isSome (f123 ((wrap64 (wrap64 (b0_0 * x3) + wrap64 (b0_1 * wrap64 (x3 - x4))) : Int), ((1000 : Int), ()))), true), ((!leF (↑(List.length x0) : Int) x5 : Bool), true)])) := by kernel_rfl
theorem e60_0_3 (x0 : (List Int)) (x2 : (List Int)) (x3 : Int) (x4 : Int) (x5 : Int) (b0_0 : Int) (b0_1 : Int) : runBody kf123.orc Go.Proofs.Try.prog 400 60 0 sh60_0 shb60_0 shr60_0 ((x0, x2, x3, x4, x5, ()), (b0_0, b0_1, ()), ()) [false] =
    (some (.brk ((x2, ()), ((b0_0, (b0_1, ())), ())), [((!leF (↑(List.length x0) : Int) x5 : Bool), false)])) := by kernel_rfl

theorem ok60_0_t (x0 : (List Int)) (x2 : (List Int)) (x3 : Int) (x4 : Int) (x5 : Int) (b0_0 : Int) (b0_1 : Int) : TrOk (BodyRuns Go.Proofs.Try.prog kf123.orc 60 0 sh60_0 shb60_0 shr60_0 ((x0, x2, x3, x4, x5, ()), (b0_0, b0_1, ()), ())) (t60_0 x0 x2 x3 x4 x5 b0_0 b0_1) :=
  TrOk.ofTest (fun h0 => TrOk.ofTest (fun h1 => TrOk.ofTest (fun h2 => TrOk.ofTest (fun h4 => TrOk.ofFin (BodyRuns.of (e60_0_0 x0 x2 x3 x4 x5 b0_0 b0_1) (All.cons rfl (All.cons h4 (All.cons rfl (All.cons h2 (All.cons h1 (All.cons h0 (All.nil))))))))) (fun h4 => TrOk.ofStop)) (fun h2 => TrOk.ofStop)) (fun h1 => TrOk.ofStop)) (fun h0 => TrOk.ofFin (BodyRuns.of (e60_0_3 x0 x2 x3 x4 x5 b0_0 b0_1) (All.cons h0 (All.nil))))

theorem ok60_0 : LoopOk Go.Proofs.Try.prog 60 0 lc60_0 := loopOk_ofB kf123_ok.base (T := fun (d : sh60_0.data) => t60_0 d.1.1 d.1.2.1 d.1.2.2.1 d.1.2.2.2.1 d.1.2.2.2.2.1 d.2.1.1 d.2.1.2.1) (by kernel_rfl) rfl (fun (d : sh60_0.data) => ok60_0_t d.1.1 d.1.2.1 d.1.2.2.1 d.1.2.2.2.1 d.1.2.2.2.2.1 d.2.1.1 d.2.1.2.1) (fun _ => rfl)
def kl60_0 : Known := kf123.loop 60 0 lc60_0
theorem kl60_0_ok : KnownOk Go.Proofs.Try.prog kl60_0 := kf123_ok.loop ok60_0

/-! ductility/ductilityref02.Response -/

abbrev as60 : List Ty := [(.slice (.int .i64)), (.pair (.int .i64) (.pair (.int .i64) .unit))]
abbrev rs60 : List Ty := [(.slice (.int .i64))]

def t60 (x0 : (List Int)) (x1 : Int) (x1' : Int) : Tr (Tys.data rs60) :=
  Tr.test (isBrk (l60_0 ((x0, (([] : List Int), ((0 : Int), ((0 : Int), ((0 : Int), ()))))), ((x1, (x1', ())), ()))))
    (let r0 : (List Int × PUnit) × (Int × Int × PUnit) × PUnit := b60_0 ((x0, (([] : List Int), ((0 : Int), ((0 : Int), ((0 : Int), ()))))), ((x1, (x1', ())), ()));
    Tr.fin (((r0.fst.fst : List Int), ())))
    (Tr.stop)

def f60 (d : Tys.data as60) : Option (Tys.data rs60) := (t60 d.1 d.2.1.1 d.2.1.2.1).val
def g60 (d : Tys.data as60) : Tys.data rs60 := (f60 d).getD (Tys.dflt rs60)
def p60 : PureC := pcOf as60 rs60 f60 g60

theorem e60_0 (x0 : (List Int)) (x1 : Int) (x1' : Int) : runPure kl60_0.orc Go.Proofs.Try.prog 400 60 as60 rs60 (x0, (x1, x1', ()), ()) [true, true] =
    (let r0 : (List Int × PUnit) × (Int × Int × PUnit) × PUnit := b60_0 ((x0, (([] : List Int), ((0 : Int), ((0 : Int), ((0 : Int), ()))))), ((x1, (x1', ())), ())); some (((r0.fst.fst : List Int), ()), [((true : Bool), true), (isBrk (l60_0 ((x0, (([] : List Int), ((0 : Int), ((0 : Int), ((0 : Int), ()))))), ((x1, (x1', ())), ()))), true)])) := by kernel_rfl

theorem ok60_t (x0 : (List Int)) (x1 : Int) (x1' : Int) : TrOk (PureRuns Go.Proofs.Try.prog kl60_0.orc 60 as60 rs60 (x0, (x1, x1', ()), ())) (t60 x0 x1 x1') :=
  TrOk.ofTest (fun h0 => TrOk.ofFin (PureRuns.of (e60_0 x0 x1 x1') (All.cons rfl (All.cons h0 (All.nil))))) (fun h0 => TrOk.ofStop)

theorem ok60 : PureOk Go.Proofs.Try.prog 60 p60 := pureOk_of kl60_0_ok.base (T := fun (d : Tys.data as60) => t60 d.1 d.2.1.1 d.2.1.2.1) (by kernel_rfl) (fun (d : Tys.data as60) => ok60_t d.1 d.2.1.1 d.2.1.2.1)
def kf60 : Known := kl60_0.func 60 p60
theorem kf60_ok : KnownOk Go.Proofs.Try.prog kf60 := kl60_0_ok.func ok60

/-! loop 0 of ductility/ductilitybase.Ints -/

abbrev sh23_0 : Sh := { n := 26, slots := [0, 1, 5], pats := [.ty (.slice (.int .i64)), .ty (.slice (.int .i64)), .ty (.int .i64)], boxes := [] }
abbrev shb23_0 : Sh := { n := 26, slots := [], pats := [], boxes := [] }
abbrev shr23_0 : Sh := { n := 26, slots := [4], pats := [.ty .bool], boxes := [] }

def t23_0 (x0 : (List Int)) (x1 : (List Int)) (x2 : Int) : Tr (Out sh23_0.data shb23_0.data shr23_0.data) :=
  Tr.test ((!leF (↑(List.length x0) : Int) x2 : Bool))
    (Tr.test ((decide ((0 : Int) ≤ x2) && decide (x2 < (↑(List.length x0) : Int)) : Bool))
      (Tr.test ((decide ((0 : Int) ≤ x2) && decide (x2 < (↑(List.length x1) : Int)) : Bool))
        (Tr.test ((!eqF (List.getD x0 (Int.toNat x2) (0 : Int)) (List.getD x1 (Int.toNat x2) (0 : Int)) : Bool))
          (Tr.fin (.ret (((false : Bool), ()), ())))
          (Tr.fin (.again ((x0, (x1, ((wrap64 (x2 + (1 : Int)) : Int), ()))), ()))))
        (Tr.stop /- none [op 6 of region 6 of F23] -/))
      (Tr.stop /- none [op 2 of region 6 of F23] -/))
    (Tr.fin (.brk ((), ())))

def s23_0 (d : sh23_0.data) : Option (Out sh23_0.data shb23_0.data shr23_0.data) := (t23_0 d.1.1 d.1.2.1 d.1.2.2.1).val
def l23_0 (d : sh23_0.data) : Option (shb23_0.data ⊕ shr23_0.data) := itr s23_0 rounds d
def b23_0 (d : sh23_0.data) : shb23_0.data := outB shb23_0.dflt (l23_0 d)
def r23_0 (d : sh23_0.data) : shr23_0.data := outR shr23_0.dflt (l23_0 d)
def lc23_0 : LoopC := lcOf sh23_0 shb23_0 shr23_0 l23_0 b23_0 r23_0

theorem e23_0_0 (x0 : (List Int)) (x1 : (List Int)) (x2 : Int) : runBody kf60.orc Go.Proofs.Try.prog 400 23 0 sh23_0 shb23_0 shr23_0 ((x0, x1, x2, ()), ()) [true, true, true, true] =
    (some (.ret (((false : Bool), ()), ()), [((!eqF (List.getD x0 (Int.toNat x2) (0 : Int)) (List.getD x1 (Int.toNat x2) (0 : Int)) : Bool), true), ((decide ((0 : Int) ≤ x2) && decide (x2 < (↑(List.length x1) : Int)) : Bool), true), ((decide ((0 : Int) ≤ x2) && decide (x2 < (↑(List.length x0) : Int)) : Bool), true), ((!leF (↑(List.length x0) : Int) x2 : Bool), true)])) := by kernel_rfl
theorem e23_0_1 (x0 : (List Int)) (x1 : (List Int)) (x2 : Int) : runBody kf60.orc Go.Proofs.Try.prog 400 23 0 sh23_0 shb23_0 shr23_0 ((x0, x1, x2, ()), ()) [true, true, true, false] =
    (some (.again ((x0, (x1, ((wrap64 (x2 + (1 : Int)) : Int), ()))), ()), [((!eqF (List.getD x0 (Int.toNat x2) (0 : Int)) (List.getD x1 (Int.toNat x2) (0 : Int)) : Bool), false), ((decide ((0 : Int) ≤ x2) && decide (x2 < (↑(List.length x1) : Int)) : Bool), true), ((decide ((0 : Int) ≤ x2) && decide (x2 < (↑(List.length x0) : Int)) : Bool), true), ((!leF (↑(List.length x0) : Int) x2 : Bool), true)])) := by kernel_rfl
theorem e23_0_4 (x0 : (List Int)) (x1 : (List Int)) (x2 : Int) : runBody kf60.orc Go.Proofs.Try.prog 400 23 0 sh23_0 shb23_0 shr23_0 ((x0, x1, x2, ()), ()) [false] =
    (some (.brk ((), ()), [((!leF (↑(List.length x0) : Int) x2 : Bool), false)])) := by kernel_rfl

theorem ok23_0_t (x0 : (List Int)) (x1 : (List Int)) (x2 : Int) : TrOk (BodyRuns Go.Proofs.Try.prog kf60.orc 23 0 sh23_0 shb23_0 shr23_0 ((x0, x1, x2, ()), ())) (t23_0 x0 x1 x2) :=
  TrOk.ofTest (fun h0 => TrOk.ofTest (fun h1 => TrOk.ofTest (fun h2 => TrOk.ofTest (fun h3 => TrOk.ofFin (BodyRuns.of (e23_0_0 x0 x1 x2) (All.cons h3 (All.cons h2 (All.cons h1 (All.cons h0 (All.nil))))))) (fun h3 => TrOk.ofFin (BodyRuns.of (e23_0_1 x0 x1 x2) (All.cons h3 (All.cons h2 (All.cons h1 (All.cons h0 (All.nil)))))))) (fun h2 => TrOk.ofStop)) (fun h1 => TrOk.ofStop)) (fun h0 => TrOk.ofFin (BodyRuns.of (e23_0_4 x0 x1 x2) (All.cons h0 (All.nil))))

theorem ok23_0 : LoopOk Go.Proofs.Try.prog 23 0 lc23_0 := loopOk_of kf60_ok.base (T := fun (d : sh23_0.data) => t23_0 d.1.1 d.1.2.1 d.1.2.2.1) (by kernel_rfl) rfl (fun (d : sh23_0.data) => ok23_0_t d.1.1 d.1.2.1 d.1.2.2.1) (fun _ => rfl)
def kl23_0 : Known := kf60.loop 23 0 lc23_0
theorem kl23_0_ok : KnownOk Go.Proofs.Try.prog kl23_0 := kf60_ok.loop ok23_0

/-! ductility/ductilitybase.Ints -/

abbrev as23 : List Ty := [(.slice (.int .i64)), (.slice (.int .i64))]
abbrev rs23 : List Ty := [.bool]

def t23 (x0 : (List Int)) (x1 : (List Int)) : Tr (Tys.data rs23) :=
  Tr.test ((!eqF (↑(List.length x0) : Int) (↑(List.length x1) : Int) : Bool))
    (Tr.fin (((false : Bool), ())))
    (Tr.test (Option.isSome (l23_0 ((x0, (x1, ((0 : Int), ()))), ())))
      (Tr.test (isRet (l23_0 ((x0, (x1, ((0 : Int), ()))), ())))
        (let r0 : (Bool × PUnit) × PUnit := r23_0 ((x0, (x1, ((0 : Int), ()))), ());
        Tr.fin (((r0.fst.fst : Bool), ())))
        (Tr.fin (((true : Bool), ()))))
      (Tr.stop))

def f23 (d : Tys.data as23) : Option (Tys.data rs23) := (t23 d.1 d.2.1).val
def g23 (d : Tys.data as23) : Tys.data rs23 := (f23 d).getD (Tys.dflt rs23)
def p23 : PureC := pcOf as23 rs23 f23 g23

theorem e23_0 (x0 : (List Int)) (x1 : (List Int)) : runPure kl23_0.orc Go.Proofs.Try.prog 400 23 as23 rs23 (x0, x1, ()) [true] =
    (some (((false : Bool), ()), [((!eqF (↑(List.length x0) : Int) (↑(List.length x1) : Int) : Bool), true)])) := by kernel_rfl
theorem e23_1 (x0 : (List Int)) (x1 : (List Int)) : runPure kl23_0.orc Go.Proofs.Try.prog 400 23 as23 rs23 (x0, x1, ()) [false, true, true] =
    (let r0 : (Bool × PUnit) × PUnit := r23_0 ((x0, (x1, ((0 : Int), ()))), ()); some (((r0.fst.fst : Bool), ()), [(isRet (l23_0 ((x0, (x1, ((0 : Int), ()))), ())), true), (Option.isSome (l23_0 ((x0, (x1, ((0 : Int), ()))), ())), true), ((!eqF (↑(List.length x0) : Int) (↑(List.length x1) : Int) : Bool), false)])) := by kernel_rfl
theorem e23_2 (x0 : (List Int)) (x1 : (List Int)) : runPure kl23_0.orc Go.Proofs.Try.prog 400 23 as23 rs23 (x0, x1, ()) [false, true, false] =
    (some (((true : Bool), ()), [(isRet (l23_0 ((x0, (x1, ((0 : Int), ()))), ())), false), (Option.isSome (l23_0 ((x0, (x1, ((0 : Int), ()))), ())), true), ((!eqF (↑(List.length x0) : Int) (↑(List.length x1) : Int) : Bool), false)])) := by kernel_rfl

theorem ok23_t (x0 : (List Int)) (x1 : (List Int)) : TrOk (PureRuns Go.Proofs.Try.prog kl23_0.orc 23 as23 rs23 (x0, x1, ())) (t23 x0 x1) :=
  TrOk.ofTest (fun h0 => TrOk.ofFin (PureRuns.of (e23_0 x0 x1) (All.cons h0 (All.nil)))) (fun h0 => TrOk.ofTest (fun h1 => TrOk.ofTest (fun h2 => TrOk.ofFin (PureRuns.of (e23_1 x0 x1) (All.cons h2 (All.cons h1 (All.cons h0 (All.nil)))))) (fun h2 => TrOk.ofFin (PureRuns.of (e23_2 x0 x1) (All.cons h2 (All.cons h1 (All.cons h0 (All.nil))))))) (fun h1 => TrOk.ofStop))

theorem ok23 : PureOk Go.Proofs.Try.prog 23 p23 := pureOk_of kl23_0_ok.base (T := fun (d : Tys.data as23) => t23 d.1 d.2.1) (by kernel_rfl) (fun (d : Tys.data as23) => ok23_t d.1 d.2.1)
def kf23 : Known := kl23_0.func 23 p23
theorem kf23_ok : KnownOk Go.Proofs.Try.prog kf23 := kl23_0_ok.func ok23

/-! ductility/ductilitybase.Size -/

abbrev as131 : List Ty := [(.int .i64)]
abbrev rs131 : List Ty := [(.int .i64)]

def t131 (x0 : Int) : Tr (Tys.data rs131) :=
  Tr.fin (((if x0 < Go.IntKind.wrap Go.IntKind.i64 ((0 : Int) - x0) then Go.IntKind.wrap Go.IntKind.i64 ((0 : Int) - x0) else x0 : Int), ()))

def f131 (d : Tys.data as131) : Option (Tys.data rs131) := (t131 d.1).val
def g131 (d : Tys.data as131) : Tys.data rs131 := (f131 d).getD (Tys.dflt rs131)
def p131 : PureC := pcOf as131 rs131 f131 g131

theorem e131_0 (x0 : Int) : runPure kf23.orc Go.Proofs.Try.prog 400 131 as131 rs131 (x0, ()) [] =
    (some (((if x0 < Go.IntKind.wrap Go.IntKind.i64 ((0 : Int) - x0) then Go.IntKind.wrap Go.IntKind.i64 ((0 : Int) - x0) else x0 : Int), ()), [])) := by kernel_rfl

theorem ok131_t (x0 : Int) : TrOk (PureRuns Go.Proofs.Try.prog kf23.orc 131 as131 rs131 (x0, ())) (t131 x0) :=
  TrOk.ofFin (PureRuns.of (e131_0 x0) (All.nil))

theorem ok131 : PureOk Go.Proofs.Try.prog 131 p131 := pureOk_of kf23_ok.base (T := fun (d : Tys.data as131) => t131 d.1) (by kernel_rfl) (fun (d : Tys.data as131) => ok131_t d.1)
def kf131 : Known := kf23.func 131 p131
theorem kf131_ok : KnownOk Go.Proofs.Try.prog kf131 := kf23_ok.func ok131

/-! loop 0 of ductility/ductilityref02.Greatest -/

abbrev sh96_0 : Sh := { n := 19, slots := [0, 3, 4], pats := [.ty (.slice (.int .i64)), .ty (.int .i64), .ty (.int .i64)], boxes := [] }
abbrev shb96_0 : Sh := { n := 19, slots := [3], pats := [.ty (.int .i64)], boxes := [] }
abbrev shr96_0 : Sh := { n := 19, slots := [], pats := [], boxes := [] }

def t96_0 (x0 : (List Int)) (x1 : Int) (x2 : Int) : Tr (Out sh96_0.data shb96_0.data shr96_0.data) :=
  Tr.test ((!leF (↑(List.length x0) : Int) x2 : Bool))
    (Tr.test ((decide ((0 : Int) ≤ x2) && decide (x2 < (↑(List.length x0) : Int)) : Bool))
      (Tr.test (Option.isSome (f131 ((List.getD x0 (Int.toNat x2) (0 : Int) : Int), ())))
        (let r0 : Int × PUnit := g131 ((List.getD x0 (Int.toNat x2) (0 : Int) : Int), ());
        Tr.fin (.again ((x0, ((if x1 < r0.fst then r0.fst else x1 : Int), ((wrap64 (x2 + (1 : Int)) : Int), ()))), ())))
        (Tr.stop))
      (Tr.stop /- none [op 3 of region 5 of F96] -/))
    (Tr.fin (.brk ((x1, ()), ())))

def s96_0 (d : sh96_0.data) : Option (Out sh96_0.data shb96_0.data shr96_0.data) := (t96_0 d.1.1 d.1.2.1 d.1.2.2.1).val
def l96_0 (d : sh96_0.data) : Option (shb96_0.data ⊕ shr96_0.data) := itr s96_0 rounds d
def b96_0 (d : sh96_0.data) : shb96_0.data := outB shb96_0.dflt (l96_0 d)
def r96_0 (d : sh96_0.data) : shr96_0.data := outR shr96_0.dflt (l96_0 d)
def lc96_0 : LoopC := lcB sh96_0 shb96_0 shr96_0 l96_0 b96_0

theorem e96_0_0 (x0 : (List Int)) (x1 : Int) (x2 : Int) : runBody kf131.orc Go.Proofs.Try.prog 400 96 0 sh96_0 shb96_0 shr96_0 ((x0, x1, x2, ()), ()) [true, true, true] =
    (let r0 : Int × PUnit := g131 ((List.getD x0 (Int.toNat x2) (0 : Int) : Int), ()); some (.again ((x0, ((if x1 < r0.fst then r0.fst else x1 : Int), ((wrap64 (x2 + (1 : Int)) : Int), ()))), ()), [(Option.isSome (f131 ((List.getD x0 (Int.toNat x2) (0 : Int) : Int), ())), true), ((decide ((0 : Int) ≤ x2) && decide (x2 < (↑(List.length x0) : Int)) : Bool), true), ((!leF (↑(List.length x0) : Int) x2 : Bool), true)])) := by kernel_rfl
theorem e96_0_2 (x0 : (List Int)) (x1 : Int) (x2 : Int) : runBody kf131.orc Go.Proofs.Try.prog 400 96 0 sh96_0 shb96_0 shr96_0 ((x0, x1, x2, ()), ()) [false] =
    (some (.brk ((x1, ()), ()), [((!leF (↑(List.length x0) : Int) x2 : Bool), false)])) := by kernel_rfl

theorem ok96_0_t (x0 : (List Int)) (x1 : Int) (x2 : Int) : TrOk (BodyRuns Go.Proofs.Try.prog kf131.orc 96 0 sh96_0 shb96_0 shr96_0 ((x0, x1, x2, ()), ())) (t96_0 x0 x1 x2) :=
  TrOk.ofTest (fun h0 => TrOk.ofTest (fun h1 => TrOk.ofTest (fun h2 => TrOk.ofFin (BodyRuns.of (e96_0_0 x0 x1 x2) (All.cons h2 (All.cons h1 (All.cons h0 (All.nil)))))) (fun h2 => TrOk.ofStop)) (fun h1 => TrOk.ofStop)) (fun h0 => TrOk.ofFin (BodyRuns.of (e96_0_2 x0 x1 x2) (All.cons h0 (All.nil))))

theorem ok96_0 : LoopOk Go.Proofs.Try.prog 96 0 lc96_0 := loopOk_ofB kf131_ok.base (T := fun (d : sh96_0.data) => t96_0 d.1.1 d.1.2.1 d.1.2.2.1) (by kernel_rfl) rfl (fun (d : sh96_0.data) => ok96_0_t d.1.1 d.1.2.1 d.1.2.2.1) (fun _ => rfl)
def kl96_0 : Known := kf131.loop 96 0 lc96_0
theorem kl96_0_ok : KnownOk Go.Proofs.Try.prog kl96_0 := kf131_ok.loop ok96_0

/-! ductility/ductilityref02.Greatest -/

abbrev as96 : List Ty := [(.slice (.int .i64))]
abbrev rs96 : List Ty := [(.int .i64)]

def t96 (x0 : (List Int)) : Tr (Tys.data rs96) :=
  Tr.test (isBrk (l96_0 ((x0, ((0 : Int), ((0 : Int), ()))), ())))
    (let r0 : (Int × PUnit) × PUnit := b96_0 ((x0, ((0 : Int), ((0 : Int), ()))), ());
    Tr.fin (((r0.fst.fst : Int), ())))
    (Tr.stop)

def f96 (d : Tys.data as96) : Option (Tys.data rs96) := (t96 d.1).val
def g96 (d : Tys.data as96) : Tys.data rs96 := (f96 d).getD (Tys.dflt rs96)
def p96 : PureC := pcOf as96 rs96 f96 g96

theorem e96_0 (x0 : (List Int)) : runPure kl96_0.orc Go.Proofs.Try.prog 400 96 as96 rs96 (x0, ()) [true, true] =
    (let r0 : (Int × PUnit) × PUnit := b96_0 ((x0, ((0 : Int), ((0 : Int), ()))), ()); some (((r0.fst.fst : Int), ()), [((true : Bool), true), (isBrk (l96_0 ((x0, ((0 : Int), ((0 : Int), ()))), ())), true)])) := by kernel_rfl

theorem ok96_t (x0 : (List Int)) : TrOk (PureRuns Go.Proofs.Try.prog kl96_0.orc 96 as96 rs96 (x0, ())) (t96 x0) :=
  TrOk.ofTest (fun h0 => TrOk.ofFin (PureRuns.of (e96_0 x0) (All.cons rfl (All.cons h0 (All.nil))))) (fun h0 => TrOk.ofStop)

theorem ok96 : PureOk Go.Proofs.Try.prog 96 p96 := pureOk_of kl96_0_ok.base (T := fun (d : Tys.data as96) => t96 d.1) (by kernel_rfl) (fun (d : Tys.data as96) => ok96_t d.1)
def kf96 : Known := kl96_0.func 96 p96
theorem kf96_ok : KnownOk Go.Proofs.Try.prog kf96 := kl96_0_ok.func ok96

/-! loop 0 of ductility/ductilityref02.Spectrum -/

abbrev sh61_0 : Sh := { n := 24, slots := [0, 1, 5, 6], pats := [.ty (.slice (.int .i64)), .ty (.slice (.pair (.int .i64) (.pair (.int .i64) .unit))), .acc (.int .i64), .ty (.int .i64)], boxes := [] }
abbrev shb61_0 : Sh := { n := 24, slots := [5], pats := [.acc (.int .i64)], boxes := [] }
abbrev shr61_0 : Sh := { n := 24, slots := [], pats := [], boxes := [] }

def t61_0 (x0 : (List Int)) (x1 : (List (Int × (Int × Unit)))) (x2 : (List Int)) (x3 : Int) : Tr (Out sh61_0.data shb61_0.data shr61_0.data) :=
  Tr.test ((!leF (↑(List.length x1) : Int) x3 : Bool))
    (Tr.test ((decide ((0 : Int) ≤ x3) && decide (x3 < (↑(List.length x1) : Int)) : Bool))
      (Tr.test (Option.isSome (f60 (x0, ((((List.getD x1 (Int.toNat x3) ((0 : Int), (0 : Int), ())).fst : Int), (((List.getD x1 (Int.toNat x3) ((0 : Int), (0 : Int), ())).snd.fst : Int), ())), ()))))
        (let r0 : List Int × PUnit := g60 (x0, ((((List.getD x1 (Int.toNat x3) ((0 : Int), (0 : Int), ())).fst : Int), (((List.getD x1 (Int.toNat x3) ((0 : Int), (0 : Int), ())).snd.fst : Int), ())), ()));
        Tr.test (Option.isSome (f96 ((r0.fst : List Int), ())))
          (Tr.test ((Nat.ble (((2 : Nat) * (List.length x2 + (1 : Nat)) + (192 : Nat)) * (8 : Nat)) (281474976710656 : Nat) && Nat.ble (List.length x2 + (1 : Nat)) (281474976710656 : Nat) : Bool))
            (let r1 : Int × PUnit := g96 ((r0.fst : List Int), ());
            Tr.fin (.again ((x0, (x1, ((x2 ++ [r1.fst] : List Int), ((wrap64 (x3 + (1 : Int)) : Int), ())))), ())))
            (Tr.stop /- none [op 9 of region 5 of F61] -/))
          (Tr.stop))
        (Tr.stop))
      (Tr.stop /- none [op 4 of region 5 of F61] -/))
    (Tr.fin (.brk ((x2, ()), ())))

def s61_0 (d : sh61_0.data) : Option (Out sh61_0.data shb61_0.data shr61_0.data) := (t61_0 d.1.1 d.1.2.1 d.1.2.2.1 d.1.2.2.2.1).val
def l61_0 (d : sh61_0.data) : Option (shb61_0.data ⊕ shr61_0.data) := itr s61_0 rounds d
def b61_0 (d : sh61_0.data) : shb61_0.data := outB shb61_0.dflt (l61_0 d)
def r61_0 (d : sh61_0.data) : shr61_0.data := outR shr61_0.dflt (l61_0 d)
def lc61_0 : LoopC := lcB sh61_0 shb61_0 shr61_0 l61_0 b61_0

theorem e61_0_0 (x0 : (List Int)) (x1 : (List (Int × (Int × Unit)))) (x2 : (List Int)) (x3 : Int) : runBody kf96.orc Go.Proofs.Try.prog 400 61 0 sh61_0 shb61_0 shr61_0 ((x0, x1, x2, x3, ()), ()) [true, true, true, true, false, true, true] =
    (let r0 : List Int × PUnit := g60 (x0, ((((List.getD x1 (Int.toNat x3) ((0 : Int), (0 : Int), ())).fst : Int), (((List.getD x1 (Int.toNat x3) ((0 : Int), (0 : Int), ())).snd.fst : Int), ())), ())); let r1 : Int × PUnit := g96 ((r0.fst : List Int), ()); some (.again ((x0, (x1, ((x2 ++ [r1.fst] : List Int), ((wrap64 (x3 + (1 : Int)) : Int), ())))), ()), [((true : Bool), true), ((Nat.ble (((2 : Nat) * (List.length x2 + (1 : Nat)) + (192 : Nat)) * (8 : Nat)) (281474976710656 : Nat) && Nat.ble (List.length x2 + (1 : Nat)) (281474976710656 : Nat) : Bool), true), ((false : Bool), false), (Option.isSome (f96 ((r0.fst : List Int), ())), true), (Option.isSome (f60 (x0, ((((List.getD x1 (Int.toNat x3) ((0 : Int), (0 : Int), ())).fst : Int), (((List.getD x1 (Int.toNat x3) ((0 : Int), (0 : Int), ())).snd.fst : Int), ())), ()))), true), ((decide ((0 : Int) ≤ x3) && decide (x3 < (↑(List.length x1) : Int)) : Bool), true), ((!leF (↑(List.length x1) : Int) x3 : Bool), true)])) := by kernel_rfl
theorem e61_0_3 (x0 : (List Int)) (x1 : (List (Int × (Int × Unit)))) (x2 : (List Int)) (x3 : Int) : runBody kf96.orc Go.Proofs.Try.prog 400 61 0 sh61_0 shb61_0 shr61_0 ((x0, x1, x2, x3, ()), ()) [false] =
    (some (.brk ((x2, ()), ()), [((!leF (↑(List.length x1) : Int) x3 : Bool), false)])) := by kernel_rfl

theorem ok61_0_t (x0 : (List Int)) (x1 : (List (Int × (Int × Unit)))) (x2 : (List Int)) (x3 : Int) : TrOk (BodyRuns Go.Proofs.Try.prog kf96.orc 61 0 sh61_0 shb61_0 shr61_0 ((x0, x1, x2, x3, ()), ())) (t61_0 x0 x1 x2 x3) :=
  TrOk.ofTest (fun h0 => TrOk.ofTest (fun h1 => TrOk.ofTest (fun h2 => TrOk.ofTest (fun h3 => TrOk.ofTest (fun h5 => TrOk.ofFin (BodyRuns.of (e61_0_0 x0 x1 x2 x3) (All.cons rfl (All.cons h5 (All.cons rfl (All.cons h3 (All.cons h2 (All.cons h1 (All.cons h0 (All.nil)))))))))) (fun h5 => TrOk.ofStop)) (fun h3 => TrOk.ofStop)) (fun h2 => TrOk.ofStop)) (fun h1 => TrOk.ofStop)) (fun h0 => TrOk.ofFin (BodyRuns.of (e61_0_3 x0 x1 x2 x3) (All.cons h0 (All.nil))))

theorem ok61_0 : LoopOk Go.Proofs.Try.prog 61 0 lc61_0 := loopOk_ofB kf96_ok.base (T := fun (d : sh61_0.data) => t61_0 d.1.1 d.1.2.1 d.1.2.2.1 d.1.2.2.2.1) (by kernel_rfl) rfl (fun (d : sh61_0.data) => ok61_0_t d.1.1 d.1.2.1 d.1.2.2.1 d.1.2.2.2.1) (fun _ => rfl)
def kl61_0 : Known := kf96.loop 61 0 lc61_0
theorem kl61_0_ok : KnownOk Go.Proofs.Try.prog kl61_0 := kf96_ok.loop ok61_0

/-! ductility/ductilityref02.Spectrum -/

abbrev as61 : List Ty := [(.slice (.int .i64)), (.slice (.pair (.int .i64) (.pair (.int .i64) .unit)))]
abbrev rs61 : List Ty := [(.slice (.int .i64))]

def t61 (x0 : (List Int)) (x1 : (List (Int × (Int × Unit)))) : Tr (Tys.data rs61) :=
  Tr.test (isBrk (l61_0 ((x0, (x1, (([] : List Int), ((0 : Int), ())))), ())))
    (let r0 : (List Int × PUnit) × PUnit := b61_0 ((x0, (x1, (([] : List Int), ((0 : Int), ())))), ());
    Tr.fin (((r0.fst.fst : List Int), ())))
    (Tr.stop)

def f61 (d : Tys.data as61) : Option (Tys.data rs61) := (t61 d.1 d.2.1).val
def g61 (d : Tys.data as61) : Tys.data rs61 := (f61 d).getD (Tys.dflt rs61)
def p61 : PureC := pcOf as61 rs61 f61 g61

theorem e61_0 (x0 : (List Int)) (x1 : (List (Int × (Int × Unit)))) : runPure kl61_0.orc Go.Proofs.Try.prog 400 61 as61 rs61 (x0, x1, ()) [true, true] =
    (let r0 : (List Int × PUnit) × PUnit := b61_0 ((x0, (x1, (([] : List Int), ((0 : Int), ())))), ()); some (((r0.fst.fst : List Int), ()), [((true : Bool), true), (isBrk (l61_0 ((x0, (x1, (([] : List Int), ((0 : Int), ())))), ())), true)])) := by kernel_rfl

theorem ok61_t (x0 : (List Int)) (x1 : (List (Int × (Int × Unit)))) : TrOk (PureRuns Go.Proofs.Try.prog kl61_0.orc 61 as61 rs61 (x0, x1, ())) (t61 x0 x1) :=
  TrOk.ofTest (fun h0 => TrOk.ofFin (PureRuns.of (e61_0 x0 x1) (All.cons rfl (All.cons h0 (All.nil))))) (fun h0 => TrOk.ofStop)

theorem ok61 : PureOk Go.Proofs.Try.prog 61 p61 := pureOk_of kl61_0_ok.base (T := fun (d : Tys.data as61) => t61 d.1 d.2.1) (by kernel_rfl) (fun (d : Tys.data as61) => ok61_t d.1 d.2.1)
def kf61 : Known := kl61_0.func 61 p61
theorem kf61_ok : KnownOk Go.Proofs.Try.prog kf61 := kl61_0_ok.func ok61

/-! ductility/ductilitylaw02.MotionResponses -/

abbrev as8 : List Ty := [(.pair (.int .i64) (.pair (.slice (.int .i64)) .unit)), (.pair (.int .i64) (.pair (.int .i64) .unit)), (.slice (.pair (.int .i64) (.pair (.int .i64) .unit)))]
abbrev rs8 : List Ty := [.bool]

def t8 (x0 : Int) (x0' : (List Int)) (x1 : Int) (x1' : Int) (x2 : (List (Int × (Int × Unit)))) : Tr (Tys.data rs8) :=
  Tr.test (Option.isSome (f16 ((x0, (x0', ())), ())))
    (let r0 : Bool × PUnit := g16 ((x0, (x0', ())), ());
    Tr.test ((!r0.fst : Bool))
      (Tr.fin (((true : Bool), ())))
      (Tr.test ((!leF (↑(List.length x2) : Int) (8 : Int) : Bool))
        (Tr.fin (((true : Bool), ())))
        (Tr.test (Option.isSome (f18 ((x0, (x0', ())), ())))
          (let r1 : (Int × List Int × PUnit) × PUnit := g18 ((x0, (x0', ())), ());
          Tr.test (Option.isSome (f56 (((r1.fst.fst : Int), ((r1.fst.snd.fst : List Int), ())), ((x1, (x1', ())), ()))))
            (Tr.test ((Nat.beq (List.length x2) (0 : Nat) : Bool))
              (Tr.test (Option.isSome (f57 (((r1.fst.fst : Int), ((r1.fst.snd.fst : List Int), ())), (([] : List (Int × Int × PUnit)), ()))))
                (Tr.test (Option.isSome (f29 ((x0, (x0', ())), ())))
                  (let r5 : Int × PUnit := g29 ((x0, (x0', ())), ());
                  Tr.test ((eqF r5.fst (0 : Int) : Bool))
                    (Tr.test (Option.isSome (f58 ((x1, (x1', ())), ())))
                      (Tr.test (Option.isSome (f59 (x2, ())))
                        (let r6 : Int × PUnit := g58 ((x1, (x1', ())), ());
                        Tr.test ((!eqF r6.fst (0 : Int) : Bool))
                          (let r2 : List Int × Int × PUnit := g56 (((r1.fst.fst : Int), ((r1.fst.snd.fst : List Int), ())), ((x1, (x1', ())), ()));
                          Tr.test ((!eqF r2.snd.fst r6.fst : Bool))
                            (Tr.fin (((false : Bool), ())))
                            (Tr.test ((!eqF (↑(List.length r2.fst) : Int) (0 : Int) : Bool))
                              (Tr.fin (((false : Bool), ())))
                              (let r7 : Int × PUnit := g59 (x2, ());
                              Tr.test ((!eqF r7.fst (0 : Int) : Bool))
                                (let r3 : List Int × Int × PUnit := g57 (((r1.fst.fst : Int), ((r1.fst.snd.fst : List Int), ())), (([] : List (Int × Int × PUnit)), ()));
                                Tr.test ((eqF r3.snd.fst r7.fst : Bool))
                                  (Tr.fin (((eqF (↑(List.length r3.fst) : Int) (0 : Int) : Bool), ())))
                                  (Tr.fin (((false : Bool), ()))))
                                (let r3 : List Int × Int × PUnit := g57 (((r1.fst.fst : Int), ((r1.fst.snd.fst : List Int), ())), (([] : List (Int × Int × PUnit)), ()));
                                Tr.test ((eqF r3.snd.fst (0 : Int) : Bool))
                                  (Tr.test (Option.isSome (f61 (x0', (x2, ()))))
                                    (let r10 : List Int × PUnit := g61 (x0', (x2, ()));
                                    Tr.test (Option.isSome (f23 ((r3.fst : List Int), ((r10.fst : List Int), ()))))
                                      (let r11 : Bool × PUnit := g23 ((r3.fst : List Int), ((r10.fst : List Int), ()));
                                      Tr.fin (((r11.fst : Bool), ())))
                                      (Tr.stop))
                                    (Tr.stop))
                                  (Tr.fin (((false : Bool), ())))))))
                          (let r2 : List Int × Int × PUnit := g56 (((r1.fst.fst : Int), ((r1.fst.snd.fst : List Int), ())), ((x1, (x1', ())), ()));
                          Tr.test ((!eqF r2.snd.fst (0 : Int) : Bool))
                            (Tr.fin (((false : Bool), ())))
                            (Tr.test (Option.isSome (f60 (x0', ((x1, (x1', ())), ()))))
                              (let r8 : List Int × PUnit := g60 (x0', ((x1, (x1', ())), ()));
                              Tr.test (Option.isSome (f23 ((r2.fst : List Int), ((r8.fst : List Int), ()))))
                                (let r9 : Bool × PUnit := g23 ((r2.fst : List Int), ((r8.fst : List Int), ()));
                                Tr.test ((!r9.fst : Bool))
                                  (Tr.fin (((false : Bool), ())))
                                  (let r7 : Int × PUnit := g59 (x2, ());
                                  Tr.test ((!eqF r7.fst (0 : Int) : Bool))
                                    (let r3 : List Int × Int × PUnit := g57 (((r1.fst.fst : Int), ((r1.fst.snd.fst : List Int), ())), (([] : List (Int × Int × PUnit)), ()));
                                    Tr.test ((eqF r3.snd.fst r7.fst : Bool))
                                      (Tr.fin (((eqF (↑(List.length r3.fst) : Int) (0 : Int) : Bool), ())))
                                      (Tr.fin (((false : Bool), ()))))
                                    (let r3 : List Int × Int × PUnit := g57 (((r1.fst.fst : Int), ((r1.fst.snd.fst : List Int), ())), (([] : List (Int × Int × PUnit)), ()));
                                    Tr.test ((eqF r3.snd.fst (0 : Int) : Bool))
                                      (Tr.test (Option.isSome (f61 (x0', (x2, ()))))
                                        (let r10 : List Int × PUnit := g61 (x0', (x2, ()));
                                        Tr.test (Option.isSome (f23 ((r3.fst : List Int), ((r10.fst : List Int), ()))))
                                          (let r11 : Bool × PUnit := g23 ((r3.fst : List Int), ((r10.fst : List Int), ()));
                                          Tr.fin (((r11.fst : Bool), ())))
                                          (Tr.stop))
                                        (Tr.stop))
                                      (Tr.fin (((false : Bool), ()))))))
                                (Tr.stop))
                              (Tr.stop))))
                        (Tr.stop))
                      (Tr.stop))
                    (let r2 : List Int × Int × PUnit := g56 (((r1.fst.fst : Int), ((r1.fst.snd.fst : List Int), ())), ((x1, (x1', ())), ()));
                    Tr.test ((!eqF r2.snd.fst r5.fst : Bool))
                      (Tr.fin (((false : Bool), ())))
                      (Tr.test ((!eqF (↑(List.length r2.fst) : Int) (0 : Int) : Bool))
                        (Tr.fin (((false : Bool), ())))
                        (let r3 : List Int × Int × PUnit := g57 (((r1.fst.fst : Int), ((r1.fst.snd.fst : List Int), ())), (([] : List (Int × Int × PUnit)), ()));
                        Tr.test ((eqF r3.snd.fst r5.fst : Bool))
                          (Tr.fin (((eqF (↑(List.length r3.fst) : Int) (0 : Int) : Bool), ())))
                          (Tr.fin (((false : Bool), ())))))))
                  (Tr.stop))
                (Tr.stop))
              (Tr.test ((Nat.ble ((0 : Nat) + List.length x2) (0 : Nat) : Bool))
                (Tr.stop /- none [op 4 of region 6 of F8] -/)
                (Tr.test ((Nat.ble (((2 : Nat) * ((0 : Nat) + List.length x2) + (192 : Nat)) * (16 : Nat)) (281474976710656 : Nat) && Nat.ble ((0 : Nat) + List.length x2) (281474976710656 : Nat) : Bool))
                  (Tr.test ((Nat.beq ((0 : Nat) + List.length x2) (List.length ([] ++ x2)) : Bool))
                    (Tr.test (Option.isSome (f57 (((r1.fst.fst : Int), ((r1.fst.snd.fst : List Int), ())), (([] ++ x2 : List (Int × Int × PUnit)), ()))))
                      (Tr.test (Option.isSome (f29 ((x0, (x0', ())), ())))
                        (let r5 : Int × PUnit := g29 ((x0, (x0', ())), ());
                        Tr.test ((eqF r5.fst (0 : Int) : Bool))
                          (Tr.test (Option.isSome (f58 ((x1, (x1', ())), ())))
                            (Tr.test (Option.isSome (f59 (x2, ())))
                              (let r6 : Int × PUnit := g58 ((x1, (x1', ())), ());
                              Tr.test ((!eqF r6.fst (0 : Int) : Bool))
                                (let r2 : List Int × Int × PUnit := g56 (((r1.fst.fst : Int), ((r1.fst.snd.fst : List Int), ())), ((x1, (x1', ())), ()));
                                Tr.test ((!eqF r2.snd.fst r6.fst : Bool))
                                  (Tr.fin (((false : Bool), ())))
                                  (Tr.test ((!eqF (↑(List.length r2.fst) : Int) (0 : Int) : Bool))
                                    (Tr.fin (((false : Bool), ())))
                                    (let r7 : Int × PUnit := g59 (x2, ());
                                    Tr.test ((!eqF r7.fst (0 : Int) : Bool))
                                      (let r4 : List Int × Int × PUnit := g57 (((r1.fst.fst : Int), ((r1.fst.snd.fst : List Int), ())), (([] ++ x2 : List (Int × Int × PUnit)), ()));
                                      Tr.test ((eqF r4.snd.fst r7.fst : Bool))
                                        (Tr.fin (((eqF (↑(List.length r4.fst) : Int) (0 : Int) : Bool), ())))
                                        (Tr.fin (((false : Bool), ()))))
                                      (let r4 : List Int × Int × PUnit := g57 (((r1.fst.fst : Int), ((r1.fst.snd.fst : List Int), ())), (([] ++ x2 : List (Int × Int × PUnit)), ()));
                                      Tr.test ((eqF r4.snd.fst (0 : Int) : Bool))
                                        (Tr.test (Option.isSome (f61 (x0', (x2, ()))))
                                          (let r10 : List Int × PUnit := g61 (x0', (x2, ()));
                                          Tr.test (Option.isSome (f23 ((r4.fst : List Int), ((r10.fst : List Int), ()))))
                                            (let r12 : Bool × PUnit := g23 ((r4.fst : List Int), ((r10.fst : List Int), ()));
                                            Tr.fin (((r12.fst : Bool), ())))
                                            (Tr.stop))
                                          (Tr.stop))
                                        (Tr.fin (((false : Bool), ())))))))
                                (let r2 : List Int × Int × PUnit := g56 (((r1.fst.fst : Int), ((r1.fst.snd.fst : List Int), ())), ((x1, (x1', ())), ()));
                                Tr.test ((!eqF r2.snd.fst (0 : Int) : Bool))
                                  (Tr.fin (((false : Bool), ())))
                                  (Tr.test (Option.isSome (f60 (x0', ((x1, (x1', ())), ()))))
                                    (let r8 : List Int × PUnit := g60 (x0', ((x1, (x1', ())), ()));
                                    Tr.test (Option.isSome (f23 ((r2.fst : List Int), ((r8.fst : List Int), ()))))
                                      (let r9 : Bool × PUnit := g23 ((r2.fst : List Int), ((r8.fst : List Int), ()));
                                      Tr.test ((!r9.fst : Bool))
                                        (Tr.fin (((false : Bool), ())))
                                        (let r7 : Int × PUnit := g59 (x2, ());
                                        Tr.test ((!eqF r7.fst (0 : Int) : Bool))
                                          (let r4 : List Int × Int × PUnit := g57 (((r1.fst.fst : Int), ((r1.fst.snd.fst : List Int), ())), (([] ++ x2 : List (Int × Int × PUnit)), ()));
                                          Tr.test ((eqF r4.snd.fst r7.fst : Bool))
                                            (Tr.fin (((eqF (↑(List.length r4.fst) : Int) (0 : Int) : Bool), ())))
                                            (Tr.fin (((false : Bool), ()))))
                                          (let r4 : List Int × Int × PUnit := g57 (((r1.fst.fst : Int), ((r1.fst.snd.fst : List Int), ())), (([] ++ x2 : List (Int × Int × PUnit)), ()));
                                          Tr.test ((eqF r4.snd.fst (0 : Int) : Bool))
                                            (Tr.test (Option.isSome (f61 (x0', (x2, ()))))
                                              (let r10 : List Int × PUnit := g61 (x0', (x2, ()));
                                              Tr.test (Option.isSome (f23 ((r4.fst : List Int), ((r10.fst : List Int), ()))))
                                                (let r12 : Bool × PUnit := g23 ((r4.fst : List Int), ((r10.fst : List Int), ()));
                                                Tr.fin (((r12.fst : Bool), ())))
                                                (Tr.stop))
                                              (Tr.stop))
                                            (Tr.fin (((false : Bool), ()))))))
                                      (Tr.stop))
                                    (Tr.stop))))
                              (Tr.stop))
                            (Tr.stop))
                          (let r2 : List Int × Int × PUnit := g56 (((r1.fst.fst : Int), ((r1.fst.snd.fst : List Int), ())), ((x1, (x1', ())), ()));
                          Tr.test ((!eqF r2.snd.fst r5.fst : Bool))
                            (Tr.fin (((false : Bool), ())))
                            (Tr.test ((!eqF (↑(List.length r2.fst) : Int) (0 : Int) : Bool))
                              (Tr.fin (((false : Bool), ())))
                              (let r4 : List Int × Int × PUnit := g57 (((r1.fst.fst : Int), ((r1.fst.snd.fst : List Int), ())), (([] ++ x2 : List (Int × Int × PUnit)), ()));
                              Tr.test ((eqF r4.snd.fst r5.fst : Bool))
                                (Tr.fin (((eqF (↑(List.length r4.fst) : Int) (0 : Int) : Bool), ())))
                                (Tr.fin (((false : Bool), ())))))))
                        (Tr.stop))
                      (Tr.stop))
                    (Tr.stop))
                  (Tr.stop /- none [op 4 of region 6 of F8] -/))))
            (Tr.stop))
          (Tr.stop))))
    (Tr.stop)

def f8 (d : Tys.data as8) : Option (Tys.data rs8) := (t8 d.1.1 d.1.2.1 d.2.1.1 d.2.1.2.1 d.2.2.1).val
def g8 (d : Tys.data as8) : Tys.data rs8 := (f8 d).getD (Tys.dflt rs8)
def p8 : PureC := pcOf as8 rs8 f8 g8

theorem e8_0 (x0 : Int) (x0' : (List Int)) (x1 : Int) (x1' : Int) (x2 : (List (Int × (Int × Unit)))) : runPure kf61.orc Go.Proofs.Try.prog 400 8 as8 rs8 ((x0, x0', ()), (x1, x1', ()), x2, ()) [true, false, true, true, true, true, true, true] =
    (let r0 : Bool × PUnit := g16 ((x0, (x0', ())), ()); some (((true : Bool), ()), [((true : Bool), true), ((!r0.fst : Bool), true), ((!r0.fst : Bool), true), ((!r0.fst : Bool), true), ((!r0.fst : Bool), true), (Option.isSome (f16 ((x0, (x0', ())), ())), true), ((false : Bool), false), ((true : Bool), true)])) := by kernel_rfl
theorem e8_1 (x0 : Int) (x0' : (List Int)) (x1 : Int) (x1' : Int) (x2 : (List (Int × (Int × Unit)))) : runPure kf61.orc Go.Proofs.Try.prog 400 8 as8 rs8 ((x0, x0', ()), (x1, x1', ()), x2, ()) [true, false, true, false, false, false, false, true] =
    (let r0 : Bool × PUnit := g16 ((x0, (x0', ())), ()); some (((true : Bool), ()), [((!leF (↑(List.length x2) : Int) (8 : Int) : Bool), true), ((!r0.fst : Bool), false), ((!r0.fst : Bool), false), ((!r0.fst : Bool), false), ((!r0.fst : Bool), false), (Option.isSome (f16 ((x0, (x0', ())), ())), true), ((false : Bool), false), ((true : Bool), true)])) := by kernel_rfl
theorem e8_2 (x0 : Int) (x0' : (List Int)) (x1 : Int) (x1' : Int) (x2 : (List (Int × (Int × Unit)))) : runPure kf61.orc Go.Proofs.Try.prog 400 8 as8 rs8 ((x0, x0', ()), (x1, x1', ()), x2, ()) [true, false, true, false, false, false, false, false, true, true, true, true, true, true, true, true, true, true, true, true, true, true, true, true, true, true, true, true, true, true, true, true, true, true, true] =
    (let r0 : Bool × PUnit := g16 ((x0, (x0', ())), ()); let r1 : (Int × List Int × PUnit) × PUnit := g18 ((x0, (x0', ())), ()); let r5 : Int × PUnit := g29 ((x0, (x0', ())), ()); let r6 : Int × PUnit := g58 ((x1, (x1', ())), ()); let r2 : List Int × Int × PUnit := g56 (((r1.fst.fst : Int), ((r1.fst.snd.fst : List Int), ())), ((x1, (x1', ())), ())); some (((false : Bool), ()), [((true : Bool), true), ((true : Bool), true), ((true : Bool), true), ((true : Bool), true), ((true : Bool), true), ((true : Bool), true), ((!eqF r6.fst (0 : Int) : Bool), true), ((!eqF r2.snd.fst r6.fst : Bool), true), ((!eqF r6.fst (0 : Int) : Bool), true), ((!eqF r2.snd.fst r6.fst : Bool), true), ((!eqF r2.snd.fst r6.fst : Bool), true), ((!eqF r2.snd.fst r6.fst : Bool), true), ((!eqF r6.fst (0 : Int) : Bool), true), ((!eqF r6.fst (0 : Int) : Bool), true), ((!eqF r6.fst (0 : Int) : Bool), true), ((!eqF r6.fst (0 : Int) : Bool), true), (Option.isSome (f59 (x2, ())), true), (Option.isSome (f58 ((x1, (x1', ())), ())), true), ((eqF r5.fst (0 : Int) : Bool), true), (Option.isSome (f29 ((x0, (x0', ())), ())), true), (Option.isSome (f29 ((x0, (x0', ())), ())), true), (Option.isSome (f57 (((r1.fst.fst : Int), ((r1.fst.snd.fst : List Int), ())), (([] : List (Int × Int × PUnit)), ()))), true), ((true : Bool), true), ((Nat.beq (List.length x2) (0 : Nat) : Bool), true), (Option.isSome (f18 ((x0, (x0', ())), ())), true), (Option.isSome (f56 (((r1.fst.fst : Int), ((r1.fst.snd.fst : List Int), ())), ((x1, (x1', ())), ()))), true), (Option.isSome (f18 ((x0, (x0', ())), ())), true), ((!leF (↑(List.length x2) : Int) (8 : Int) : Bool), false), ((!r0.fst : Bool), false), ((!r0.fst : Bool), false), ((!r0.fst : Bool), false), ((!r0.fst : Bool), false), (Option.isSome (f16 ((x0, (x0', ())), ())), true), ((false : Bool), false), ((true : Bool), true)])) := by kernel_rfl
theorem e8_3 (x0 : Int) (x0' : (List Int)) (x1 : Int) (x1' : Int) (x2 : (List (Int × (Int × Unit)))) : runPure kf61.orc Go.Proofs.Try.prog 400 8 as8 rs8 ((x0, x0', ()), (x1, x1', ()), x2, ()) [true, false, true, false, false, false, false, false, true, true, true, true, true, true, true, true, true, true, true, true, true, true, true, false, false, false, true, false, true, true, true, true, true, true, true] =
    (let r0 : Bool × PUnit := g16 ((x0, (x0', ())), ()); let r1 : (Int × List Int × PUnit) × PUnit := g18 ((x0, (x0', ())), ()); let r5 : Int × PUnit := g29 ((x0, (x0', ())), ()); let r6 : Int × PUnit := g58 ((x1, (x1', ())), ()); let r2 : List Int × Int × PUnit := g56 (((r1.fst.fst : Int), ((r1.fst.snd.fst : List Int), ())), ((x1, (x1', ())), ())); some (((false : Bool), ()), [((true : Bool), true), ((!eqF (↑(List.length r2.fst) : Int) (0 : Int) : Bool), true), ((!eqF (↑(List.length r2.fst) : Int) (0 : Int) : Bool), true), ((!eqF (↑(List.length r2.fst) : Int) (0 : Int) : Bool), true), ((!eqF (↑(List.length r2.fst) : Int) (0 : Int) : Bool), true), ((!eqF (↑(List.length r2.fst) : Int) (0 : Int) : Bool), true), ((!eqF r6.fst (0 : Int) : Bool), true), ((!eqF r2.snd.fst r6.fst : Bool), false), ((!eqF r6.fst (0 : Int) : Bool), true), ((!eqF r2.snd.fst r6.fst : Bool), false), ((!eqF r2.snd.fst r6.fst : Bool), false), ((!eqF r2.snd.fst r6.fst : Bool), false), ((!eqF r6.fst (0 : Int) : Bool), true), ((!eqF r6.fst (0 : Int) : Bool), true), ((!eqF r6.fst (0 : Int) : Bool), true), ((!eqF r6.fst (0 : Int) : Bool), true), (Option.isSome (f59 (x2, ())), true), (Option.isSome (f58 ((x1, (x1', ())), ())), true), ((eqF r5.fst (0 : Int) : Bool), true), (Option.isSome (f29 ((x0, (x0', ())), ())), true), (Option.isSome (f29 ((x0, (x0', ())), ())), true), (Option.isSome (f57 (((r1.fst.fst : Int), ((r1.fst.snd.fst : List Int), ())), (([] : List (Int × Int × PUnit)), ()))), true), ((true : Bool), true), ((Nat.beq (List.length x2) (0 : Nat) : Bool), true), (Option.isSome (f18 ((x0, (x0', ())), ())), true), (Option.isSome (f56 (((r1.fst.fst : Int), ((r1.fst.snd.fst : List Int), ())), ((x1, (x1', ())), ()))), true), (Option.isSome (f18 ((x0, (x0', ())), ())), true), ((!leF (↑(List.length x2) : Int) (8 : Int) : Bool), false), ((!r0.fst : Bool), false), ((!r0.fst : Bool), false), ((!r0.fst : Bool), false), ((!r0.fst : Bool), false), (Option.isSome (f16 ((x0, (x0', ())), ())), true), ((false : Bool), false), ((true : Bool), true)])) := by kernel_rfl
theorem e8_4 (x0 : Int) (x0' : (List Int)) (x1 : Int) (x1' : Int) (x2 : (List (Int × (Int × Unit)))) : runPure kf61.orc Go.Proofs.Try.prog 400 8 as8 rs8 ((x0, x0', ()), (x1, x1', ()), x2, ()) [true, false, true, false, false, false, false, false, true, true, true, true, true, true, true, true, true, true, true, true, true, true, true, false, false, false, true, false, true, false, false, false, false, false, false, false, false, false, false, false, true, true, true, true, true] =
    (let r0 : Bool × PUnit := g16 ((x0, (x0', ())), ()); let r1 : (Int × List Int × PUnit) × PUnit := g18 ((x0, (x0', ())), ()); let r5 : Int × PUnit := g29 ((x0, (x0', ())), ()); let r6 : Int × PUnit := g58 ((x1, (x1', ())), ()); let r2 : List Int × Int × PUnit := g56 (((r1.fst.fst : Int), ((r1.fst.snd.fst : List Int), ())), ((x1, (x1', ())), ())); let r7 : Int × PUnit := g59 (x2, ()); let r3 : List Int × Int × PUnit := g57 (((r1.fst.fst : Int), ((r1.fst.snd.fst : List Int), ())), (([] : List (Int × Int × PUnit)), ())); some (((eqF (↑(List.length r3.fst) : Int) (0 : Int) : Bool), ()), [((eqF r3.snd.fst r7.fst : Bool), true), ((eqF r3.snd.fst r7.fst : Bool), true), ((eqF r3.snd.fst r7.fst : Bool), true), ((eqF r3.snd.fst r7.fst : Bool), true), ((!eqF r7.fst (0 : Int) : Bool), true), ((false : Bool), false), ((!eqF (↑(List.length r2.fst) : Int) (0 : Int) : Bool), false), ((eqF r6.fst (0 : Int) : Bool), false), ((!eqF (↑(List.length r2.fst) : Int) (0 : Int) : Bool), false), ((eqF r6.fst (0 : Int) : Bool), false), ((eqF r6.fst (0 : Int) : Bool), false), ((eqF r6.fst (0 : Int) : Bool), false), ((eqF r6.fst (0 : Int) : Bool), false), ((!eqF (↑(List.length r2.fst) : Int) (0 : Int) : Bool), false), ((!eqF (↑(List.length r2.fst) : Int) (0 : Int) : Bool), false), ((!eqF (↑(List.length r2.fst) : Int) (0 : Int) : Bool), false), ((!eqF r6.fst (0 : Int) : Bool), true), ((!eqF r2.snd.fst r6.fst : Bool), false), ((!eqF r6.fst (0 : Int) : Bool), true), ((!eqF r2.snd.fst r6.fst : Bool), false), ((!eqF r2.snd.fst r6.fst : Bool), false), ((!eqF r2.snd.fst r6.fst : Bool), false), ((!eqF r6.fst (0 : Int) : Bool), true), ((!eqF r6.fst (0 : Int) : Bool), true), ((!eqF r6.fst (0 : Int) : Bool), true), ((!eqF r6.fst (0 : Int) : Bool), true), (Option.isSome (f59 (x2, ())), true), (Option.isSome (f58 ((x1, (x1', ())), ())), true), ((eqF r5.fst (0 : Int) : Bool), true), (Option.isSome (f29 ((x0, (x0', ())), ())), true), (Option.isSome (f29 ((x0, (x0', ())), ())), true), (Option.isSome (f57 (((r1.fst.fst : Int), ((r1.fst.snd.fst : List Int), ())), (([] : List (Int × Int × PUnit)), ()))), true), ((true : Bool), true), ((Nat.beq (List.length x2) (0 : Nat) : Bool), true), (Option.isSome (f18 ((x0, (x0', ())), ())), true), (Option.isSome (f56 (((r1.fst.fst : Int), ((r1.fst.snd.fst : List Int), ())), ((x1, (x1', ())), ()))), true), (Option.isSome (f18 ((x0, (x0', ())), ())), true), ((!leF (↑(List.length x2) : Int) (8 : Int) : Bool), false), ((!r0.fst : Bool), false), ((!r0.fst : Bool), false), ((!r0.fst : Bool), false), ((!r0.fst : Bool), false), (Option.isSome (f16 ((x0, (x0', ())), ())), true), ((false : Bool), false), ((true : Bool), true)])) := by kernel_rfl
theorem e8_5 (x0 : Int) (x0' : (List Int)) (x1 : Int) (x1' : Int) (x2 : (List (Int × (Int × Unit)))) : runPure kf61.orc Go.Proofs.Try.prog 400 8 as8 rs8 ((x0, x0', ()), (x1, x1', ()), x2, ()) [true, false, true, false, false, false, false, false, true, true, true, true, true, true, true, true, true, true, true, true, true, true, true, false, false, false, true, false, true, false, false, false, false, false, false, false, false, false, false, false, true, false, false, false, false] =
    (let r0 : Bool × PUnit := g16 ((x0, (x0', ())), ()); let r1 : (Int × List Int × PUnit) × PUnit := g18 ((x0, (x0', ())), ()); let r5 : Int × PUnit := g29 ((x0, (x0', ())), ()); let r6 : Int × PUnit := g58 ((x1, (x1', ())), ()); let r2 : List Int × Int × PUnit := g56 (((r1.fst.fst : Int), ((r1.fst.snd.fst : List Int), ())), ((x1, (x1', ())), ())); let r7 : Int × PUnit := g59 (x2, ()); let r3 : List Int × Int × PUnit := g57 (((r1.fst.fst : Int), ((r1.fst.snd.fst : List Int), ())), (([] : List (Int × Int × PUnit)), ())); some (((false : Bool), ()), [((eqF r3.snd.fst r7.fst : Bool), false), ((eqF r3.snd.fst r7.fst : Bool), false), ((eqF r3.snd.fst r7.fst : Bool), false), ((eqF r3.snd.fst r7.fst : Bool), false), ((!eqF r7.fst (0 : Int) : Bool), true), ((false : Bool), false), ((!eqF (↑(List.length r2.fst) : Int) (0 : Int) : Bool), false), ((eqF r6.fst (0 : Int) : Bool), false), ((!eqF (↑(List.length r2.fst) : Int) (0 : Int) : Bool), false), ((eqF r6.fst (0 : Int) : Bool), false), ((eqF r6.fst (0 : Int) : Bool), false), ((eqF r6.fst (0 : Int) : Bool), false), ((eqF r6.fst (0 : Int) : Bool), false), ((!eqF (↑(List.length r2.fst) : Int) (0 : Int) : Bool), false), ((!eqF (↑(List.length r2.fst) : Int) (0 : Int) : Bool), false), ((!eqF (↑(List.length r2.fst) : Int) (0 : Int) : Bool), false), ((!eqF r6.fst (0 : Int) : Bool), true), ((!eqF r2.snd.fst r6.fst : Bool), false), ((!eqF r6.fst (0 : Int) : Bool), true), ((!eqF r2.snd.fst r6.fst : Bool), false), ((!eqF r2.snd.fst r6.fst : Bool), false), ((!eqF r2.snd.fst r6.fst : Bool), false), ((!eqF r6.fst (0 : Int) : Bool), true), ((!eqF r6.fst (0 : Int) : Bool), true), ((!eqF r6.fst (0 : Int) : Bool), true), ((!eqF r6.fst (0 : Int) : Bool), true), (Option.isSome (f59 (x2, ())), true), (Option.isSome (f58 ((x1, (x1', ())), ())), true), ((eqF r5.fst (0 : Int) : Bool), true), (Option.isSome (f29 ((x0, (x0', ())), ())), true), (Option.isSome (f29 ((x0, (x0', ())), ())), true), (Option.isSome (f57 (((r1.fst.fst : Int), ((r1.fst.snd.fst : List Int), ())), (([] : List (Int × Int × PUnit)), ()))), true), ((true : Bool), true), ((Nat.beq (List.length x2) (0 : Nat) : Bool), true), (Option.isSome (f18 ((x0, (x0', ())), ())), true), (Option.isSome (f56 (((r1.fst.fst : Int), ((r1.fst.snd.fst : List Int), ())), ((x1, (x1', ())), ()))), true), (Option.isSome (f18 ((x0, (x0', ())), ())), true), ((!leF (↑(List.length x2) : Int) (8 : Int) : Bool), false), ((!r0.fst : Bool), false), ((!r0.fst : Bool), false), ((!r0.fst : Bool), false), ((!r0.fst : Bool), false), (Option.isSome (f16 ((x0, (x0', ())), ())), true), ((false : Bool), false), ((true : Bool), true)])) := by kernel_rfl
theorem e8_6 (x0 : Int) (x0' : (List Int)) (x1 : Int) (x1' : Int) (x2 : (List (Int × (Int × Unit)))) : runPure kf61.orc Go.Proofs.Try.prog 400 8 as8 rs8 ((x0, x0', ()), (x1, x1', ()), x2, ()) [true, false, true, false, false, false, false, false, true, true, true, true, true, true, true, true, true, true, true, true, true, true, true, false, false, false, true, false, true, false, false, false, false, false, false, false, false, false, false, false, false, true, true, true, true, true, true, true, true, true] =
    (let r0 : Bool × PUnit := g16 ((x0, (x0', ())), ()); let r1 : (Int × List Int × PUnit) × PUnit := g18 ((x0, (x0', ())), ()); let r5 : Int × PUnit := g29 ((x0, (x0', ())), ()); let r6 : Int × PUnit := g58 ((x1, (x1', ())), ()); let r2 : List Int × Int × PUnit := g56 (((r1.fst.fst : Int), ((r1.fst.snd.fst : List Int), ())), ((x1, (x1', ())), ())); let r7 : Int × PUnit := g59 (x2, ()); let r3 : List Int × Int × PUnit := g57 (((r1.fst.fst : Int), ((r1.fst.snd.fst : List Int), ())), (([] : List (Int × Int × PUnit)), ())); let r10 : List Int × PUnit := g61 (x0', (x2, ())); let r11 : Bool × PUnit := g23 ((r3.fst : List Int), ((r10.fst : List Int), ())); some (((r11.fst : Bool), ()), [((eqF r3.snd.fst (0 : Int) : Bool), true), (Option.isSome (f23 ((r3.fst : List Int), ((r10.fst : List Int), ()))), true), ((eqF r3.snd.fst (0 : Int) : Bool), true), (Option.isSome (f61 (x0', (x2, ()))), true), ((eqF r3.snd.fst (0 : Int) : Bool), true), ((eqF r3.snd.fst (0 : Int) : Bool), true), ((eqF r3.snd.fst (0 : Int) : Bool), true), ((eqF r3.snd.fst (0 : Int) : Bool), true), ((eqF r3.snd.fst (0 : Int) : Bool), true), ((!eqF r7.fst (0 : Int) : Bool), false), ((false : Bool), false), ((!eqF (↑(List.length r2.fst) : Int) (0 : Int) : Bool), false), ((eqF r6.fst (0 : Int) : Bool), false), ((!eqF (↑(List.length r2.fst) : Int) (0 : Int) : Bool), false), ((eqF r6.fst (0 : Int) : Bool), false), ((eqF r6.fst (0 : Int) : Bool), false), ((eqF r6.fst (0 : Int) : Bool), false), ((eqF r6.fst (0 : Int) : Bool), false), ((!eqF (↑(List.length r2.fst) : Int) (0 : Int) : Bool), false), ((!eqF (↑(List.length r2.fst) : Int) (0 : Int) : Bool), false), ((!eqF (↑(List.length r2.fst) : Int) (0 : Int) : Bool), false), ((!eqF r6.fst (0 : Int) : Bool), true), ((!eqF r2.snd.fst r6.fst : Bool), false), ((!eqF r6.fst (0 : Int) : Bool), true), ((!eqF r2.snd.fst r6.fst : Bool), false), ((!eqF r2.snd.fst r6.fst : Bool), false), ((!eqF r2.snd.fst r6.fst : Bool), false), ((!eqF r6.fst (0 : Int) : Bool), true), ((!eqF r6.fst (0 : Int) : Bool), true), ((!eqF r6.fst (0 : Int) : Bool), true), ((!eqF r6.fst (0 : Int) : Bool), true), (Option.isSome (f59 (x2, ())), true), (Option.isSome (f58 ((x1, (x1', ())), ())), true), ((eqF r5.fst (0 : Int) : Bool), true), (Option.isSome (f29 ((x0, (x0', ())), ())), true), (Option.isSome (f29 ((x0, (x0', ())), ())), true), (Option.isSome (f57 (((r1.fst.fst : Int), ((r1.fst.snd.fst : List Int), ())), (([] : List (Int × Int × PUnit)), ()))), true), ((true : Bool), true), ((Nat.beq (List.length x2) (0 : Nat) : Bool), true), (Option.isSome (f18 ((x0, (x0', ())), ())), true), (Option.isSome (f56 (((r1.fst.fst : Int), ((r1.fst.snd.fst : List Int), ())), ((x1, (x1', ())), ()))), true), (Option.isSome (f18 ((x0, (x0', ())), ())), true), ((!leF (↑(List.length x2) : Int) (8 : Int) : Bool), false), ((!r0.fst : Bool), false), ((!r0.fst : Bool), false), ((!r0.fst : Bool), false), ((!r0.fst : Bool), false), (Option.isSome (f16 ((x0, (x0', ())), ())), true), ((false : Bool), false), ((true : Bool), true)])) := by kernel_rfl
theorem e8_7 (x0 : Int) (x0' : (List Int)) (x1 : Int) (x1' : Int) (x2 : (List (Int × (Int × Unit)))) : runPure kf61.orc Go.Proofs.Try.prog 400 8 as8 rs8 ((x0, x0', ()), (x1, x1', ()), x2, ()) [true, false, true, false, false, false, false, false, true, true, true, true, true, true, true, true, true, true, true, true, true, true, true, false, false, false, true, false, true, false, false, false, false, false, false, false, false, false, false, false, false, false, false, false, false, false, false, false] =
    (let r0 : Bool × PUnit := g16 ((x0, (x0', ())), ()); let r1 : (Int × List Int × PUnit) × PUnit := g18 ((x0, (x0', ())), ()); let r5 : Int × PUnit := g29 ((x0, (x0', ())), ()); let r6 : Int × PUnit := g58 ((x1, (x1', ())), ()); let r2 : List Int × Int × PUnit := g56 (((r1.fst.fst : Int), ((r1.fst.snd.fst : List Int), ())), ((x1, (x1', ())), ())); let r7 : Int × PUnit := g59 (x2, ()); let r3 : List Int × Int × PUnit := g57 (((r1.fst.fst : Int), ((r1.fst.snd.fst : List Int), ())), (([] : List (Int × Int × PUnit)), ())); some (((false : Bool), ()), [((eqF r3.snd.fst (0 : Int) : Bool), false), ((eqF r3.snd.fst (0 : Int) : Bool), false), ((eqF r3.snd.fst (0 : Int) : Bool), false), ((eqF r3.snd.fst (0 : Int) : Bool), false), ((eqF r3.snd.fst (0 : Int) : Bool), false), ((eqF r3.snd.fst (0 : Int) : Bool), false), ((eqF r3.snd.fst (0 : Int) : Bool), false), ((!eqF r7.fst (0 : Int) : Bool), false), ((false : Bool), false), ((!eqF (↑(List.length r2.fst) : Int) (0 : Int) : Bool), false), ((eqF r6.fst (0 : Int) : Bool), false), ((!eqF (↑(List.length r2.fst) : Int) (0 : Int) : Bool), false), ((eqF r6.fst (0 : Int) : Bool), false), ((eqF r6.fst (0 : Int) : Bool), false), ((eqF r6.fst (0 : Int) : Bool), false), ((eqF r6.fst (0 : Int) : Bool), false), ((!eqF (↑(List.length r2.fst) : Int) (0 : Int) : Bool), false), ((!eqF (↑(List.length r2.fst) : Int) (0 : Int) : Bool), false), ((!eqF (↑(List.length r2.fst) : Int) (0 : Int) : Bool), false), ((!eqF r6.fst (0 : Int) : Bool), true), ((!eqF r2.snd.fst r6.fst : Bool), false), ((!eqF r6.fst (0 : Int) : Bool), true), ((!eqF r2.snd.fst r6.fst : Bool), false), ((!eqF r2.snd.fst r6.fst : Bool), false), ((!eqF r2.snd.fst r6.fst : Bool), false), ((!eqF r6.fst (0 : Int) : Bool), true), ((!eqF r6.fst (0 : Int) : Bool), true), ((!eqF r6.fst (0 : Int) : Bool), true), ((!eqF r6.fst (0 : Int) : Bool), true), (Option.isSome (f59 (x2, ())), true), (Option.isSome (f58 ((x1, (x1', ())), ())), true), ((eqF r5.fst (0 : Int) : Bool), true), (Option.isSome (f29 ((x0, (x0', ())), ())), true), (Option.isSome (f29 ((x0, (x0', ())), ())), true), (Option.isSome (f57 (((r1.fst.fst : Int), ((r1.fst.snd.fst : List Int), ())), (([] : List (Int × Int × PUnit)), ()))), true), ((true : Bool), true), ((Nat.beq (List.length x2) (0 : Nat) : Bool), true), (Option.isSome (f18 ((x0, (x0', ())), ())), true), (Option.isSome (f56 (((r1.fst.fst : Int), ((r1.fst.snd.fst : List Int), ())), ((x1, (x1', ())), ()))), true), (Option.isSome (f18 ((x0, (x0', ())), ())), true), ((!leF (↑(List.length x2) : Int) (8 : Int) : Bool), false), ((!r0.fst : Bool), false), ((!r0.fst : Bool), false), ((!r0.fst : Bool), false), ((!r0.fst : Bool), false), (Option.isSome (f16 ((x0, (x0', ())), ())), true), ((false : Bool), false), ((true : Bool), true)])) := by kernel_rfl
theorem e8_8 (x0 : Int) (x0' : (List Int)) (x1 : Int) (x1' : Int) (x2 : (List (Int × (Int × Unit)))) : runPure kf61.orc Go.Proofs.Try.prog 400 8 as8 rs8 ((x0, x0', ()), (x1, x1', ()), x2, ()) [true, false, true, false, false, false, false, false, true, true, true, true, true, true, true, true, true, true, true, false, false, false, false, false, false, false, false, false, true, true, true, true, true, true, true, true, true, true, true, true, false, true, false, true] =
    (let r0 : Bool × PUnit := g16 ((x0, (x0', ())), ()); let r1 : (Int × List Int × PUnit) × PUnit := g18 ((x0, (x0', ())), ()); let r5 : Int × PUnit := g29 ((x0, (x0', ())), ()); let r6 : Int × PUnit := g58 ((x1, (x1', ())), ()); let r2 : List Int × Int × PUnit := g56 (((r1.fst.fst : Int), ((r1.fst.snd.fst : List Int), ())), ((x1, (x1', ())), ())); some (((false : Bool), ()), [((true : Bool), true), ((false : Bool), false), ((eqF r6.fst (0 : Int) : Bool), true), ((false : Bool), false), ((!eqF r2.snd.fst (0 : Int) : Bool), true), ((eqF r6.fst (0 : Int) : Bool), true), ((!eqF r2.snd.fst (0 : Int) : Bool), true), ((!eqF r2.snd.fst (0 : Int) : Bool), true), ((!eqF r2.snd.fst (0 : Int) : Bool), true), ((!eqF r2.snd.fst (0 : Int) : Bool), true), ((!eqF r2.snd.fst (0 : Int) : Bool), true), ((!eqF r2.snd.fst (0 : Int) : Bool), true), ((!eqF r2.snd.fst (0 : Int) : Bool), true), ((eqF r6.fst (0 : Int) : Bool), true), ((eqF r6.fst (0 : Int) : Bool), true), ((eqF r6.fst (0 : Int) : Bool), true), ((false : Bool), false), ((false : Bool), false), ((false : Bool), false), ((!eqF r6.fst (0 : Int) : Bool), false), ((!eqF r6.fst (0 : Int) : Bool), false), ((!eqF r6.fst (0 : Int) : Bool), false), ((!eqF r6.fst (0 : Int) : Bool), false), ((!eqF r6.fst (0 : Int) : Bool), false), ((!eqF r6.fst (0 : Int) : Bool), false), (Option.isSome (f59 (x2, ())), true), (Option.isSome (f58 ((x1, (x1', ())), ())), true), ((eqF r5.fst (0 : Int) : Bool), true), (Option.isSome (f29 ((x0, (x0', ())), ())), true), (Option.isSome (f29 ((x0, (x0', ())), ())), true), (Option.isSome (f57 (((r1.fst.fst : Int), ((r1.fst.snd.fst : List Int), ())), (([] : List (Int × Int × PUnit)), ()))), true), ((true : Bool), true), ((Nat.beq (List.length x2) (0 : Nat) : Bool), true), (Option.isSome (f18 ((x0, (x0', ())), ())), true), (Option.isSome (f56 (((r1.fst.fst : Int), ((r1.fst.snd.fst : List Int), ())), ((x1, (x1', ())), ()))), true), (Option.isSome (f18 ((x0, (x0', ())), ())), true), ((!leF (↑(List.length x2) : Int) (8 : Int) : Bool), false), ((!r0.fst : Bool), false), ((!r0.fst : Bool), false), ((!r0.fst : Bool), false), ((!r0.fst : Bool), false), (Option.isSome (f16 ((x0, (x0', ())), ())), true), ((false : Bool), false), ((true : Bool), true)])) := by kernel_rfl
theorem e8_9 (x0 : Int) (x0' : (List Int)) (x1 : Int) (x1' : Int) (x2 : (List (Int × (Int × Unit)))) : runPure kf61.orc Go.Proofs.Try.prog 400 8 as8 rs8 ((x0, x0', ()), (x1, x1', ()), x2, ()) [true, false, true, false, false, false, false, false, true, true, true, true, true, true, true, true, true, true, true, false, false, false, false, false, false, false, false, false, true, true, true, false, false, false, false, false, true, false, true, false, true, false, false, true, false, true] =
    (let r0 : Bool × PUnit := g16 ((x0, (x0', ())), ()); let r1 : (Int × List Int × PUnit) × PUnit := g18 ((x0, (x0', ())), ()); let r5 : Int × PUnit := g29 ((x0, (x0', ())), ()); let r6 : Int × PUnit := g58 ((x1, (x1', ())), ()); let r2 : List Int × Int × PUnit := g56 (((r1.fst.fst : Int), ((r1.fst.snd.fst : List Int), ())), ((x1, (x1', ())), ())); let r8 : List Int × PUnit := g60 (x0', ((x1, (x1', ())), ())); let r9 : Bool × PUnit := g23 ((r2.fst : List Int), ((r8.fst : List Int), ())); some (((false : Bool), ()), [((!r9.fst : Bool), true), ((false : Bool), false), ((eqF r6.fst (0 : Int) : Bool), true), ((false : Bool), false), ((!eqF r2.snd.fst (0 : Int) : Bool), false), ((eqF r6.fst (0 : Int) : Bool), true), ((!eqF r2.snd.fst (0 : Int) : Bool), false), (Option.isSome (f23 ((r2.fst : List Int), ((r8.fst : List Int), ()))), true), ((!eqF r2.snd.fst (0 : Int) : Bool), false), (Option.isSome (f60 (x0', ((x1, (x1', ())), ()))), true), ((!eqF r2.snd.fst (0 : Int) : Bool), false), ((!eqF r2.snd.fst (0 : Int) : Bool), false), ((!eqF r2.snd.fst (0 : Int) : Bool), false), ((!eqF r2.snd.fst (0 : Int) : Bool), false), ((!eqF r2.snd.fst (0 : Int) : Bool), false), ((eqF r6.fst (0 : Int) : Bool), true), ((eqF r6.fst (0 : Int) : Bool), true), ((eqF r6.fst (0 : Int) : Bool), true), ((false : Bool), false), ((false : Bool), false), ((false : Bool), false), ((!eqF r6.fst (0 : Int) : Bool), false), ((!eqF r6.fst (0 : Int) : Bool), false), ((!eqF r6.fst (0 : Int) : Bool), false), ((!eqF r6.fst (0 : Int) : Bool), false), ((!eqF r6.fst (0 : Int) : Bool), false), ((!eqF r6.fst (0 : Int) : Bool), false), (Option.isSome (f59 (x2, ())), true), (Option.isSome (f58 ((x1, (x1', ())), ())), true), ((eqF r5.fst (0 : Int) : Bool), true), (Option.isSome (f29 ((x0, (x0', ())), ())), true), (Option.isSome (f29 ((x0, (x0', ())), ())), true), (Option.isSome (f57 (((r1.fst.fst : Int), ((r1.fst.snd.fst : List Int), ())), (([] : List (Int × Int × PUnit)), ()))), true), ((true : Bool), true), ((Nat.beq (List.length x2) (0 : Nat) : Bool), true), (Option.isSome (f18 ((x0, (x0', ())), ())), true), (Option.isSome (f56 (((r1.fst.fst : Int), ((r1.fst.snd.fst : List Int), ())), ((x1, (x1', ())), ()))), true), (Option.isSome (f18 ((x0, (x0', ())), ())), true), ((!leF (↑(List.length x2) : Int) (8 : Int) : Bool), false), ((!r0.fst : Bool), false), ((!r0.fst : Bool), false), ((!r0.fst : Bool), false), ((!r0.fst : Bool), false), (Option.isSome (f16 ((x0, (x0', ())), ())), true), ((false : Bool), false), ((true : Bool), true)])) := by kernel_rfl
theorem e8_10 (x0 : Int) (x0' : (List Int)) (x1 : Int) (x1' : Int) (x2 : (List (Int × (Int × Unit)))) : runPure kf61.orc Go.Proofs.Try.prog 400 8 as8 rs8 ((x0, x0', ()), (x1, x1', ()), x2, ()) [true, false, true, false, false, false, false, false, true, true, true, true, true, true, true, true, true, true, true, false, false, false, false, false, false, false, false, false, true, true, true, false, false, false, false, false, true, false, true, false, true, false, false, true, false, false, true, true, true, true, true] =
    (let r0 : Bool × PUnit := g16 ((x0, (x0', ())), ()); let r1 : (Int × List Int × PUnit) × PUnit := g18 ((x0, (x0', ())), ()); let r5 : Int × PUnit := g29 ((x0, (x0', ())), ()); let r6 : Int × PUnit := g58 ((x1, (x1', ())), ()); let r2 : List Int × Int × PUnit := g56 (((r1.fst.fst : Int), ((r1.fst.snd.fst : List Int), ())), ((x1, (x1', ())), ())); let r8 : List Int × PUnit := g60 (x0', ((x1, (x1', ())), ())); let r9 : Bool × PUnit := g23 ((r2.fst : List Int), ((r8.fst : List Int), ())); let r7 : Int × PUnit := g59 (x2, ()); let r3 : List Int × Int × PUnit := g57 (((r1.fst.fst : Int), ((r1.fst.snd.fst : List Int), ())), (([] : List (Int × Int × PUnit)), ())); some (((eqF (↑(List.length r3.fst) : Int) (0 : Int) : Bool), ()), [((eqF r3.snd.fst r7.fst : Bool), true), ((eqF r3.snd.fst r7.fst : Bool), true), ((eqF r3.snd.fst r7.fst : Bool), true), ((eqF r3.snd.fst r7.fst : Bool), true), ((!eqF r7.fst (0 : Int) : Bool), true), ((!r9.fst : Bool), false), ((false : Bool), false), ((eqF r6.fst (0 : Int) : Bool), true), ((false : Bool), false), ((!eqF r2.snd.fst (0 : Int) : Bool), false), ((eqF r6.fst (0 : Int) : Bool), true), ((!eqF r2.snd.fst (0 : Int) : Bool), false), (Option.isSome (f23 ((r2.fst : List Int), ((r8.fst : List Int), ()))), true), ((!eqF r2.snd.fst (0 : Int) : Bool), false), (Option.isSome (f60 (x0', ((x1, (x1', ())), ()))), true), ((!eqF r2.snd.fst (0 : Int) : Bool), false), ((!eqF r2.snd.fst (0 : Int) : Bool), false), ((!eqF r2.snd.fst (0 : Int) : Bool), false), ((!eqF r2.snd.fst (0 : Int) : Bool), false), ((!eqF r2.snd.fst (0 : Int) : Bool), false), ((eqF r6.fst (0 : Int) : Bool), true), ((eqF r6.fst (0 : Int) : Bool), true), ((eqF r6.fst (0 : Int) : Bool), true), ((false : Bool), false), ((false : Bool), false), ((false : Bool), false), ((!eqF r6.fst (0 : Int) : Bool), false), ((!eqF r6.fst (0 : Int) : Bool), false), ((!eqF r6.fst (0 : Int) : Bool), false), ((!eqF r6.fst (0 : Int) : Bool), false), ((!eqF r6.fst (0 : Int) : Bool), false), ((!eqF r6.fst (0 : Int) : Bool), false), (Option.isSome (f59 (x2, ())), true), (Option.isSome (f58 ((x1, (x1', ())), ())), true), ((eqF r5.fst (0 : Int) : Bool), true), (Option.isSome (f29 ((x0, (x0', ())), ())), true), (Option.isSome (f29 ((x0, (x0', ())), ())), true), (Option.isSome (f57 (((r1.fst.fst : Int), ((r1.fst.snd.fst : List Int), ())), (([] : List (Int × Int × PUnit)), ()))), true), ((true : Bool), true), ((Nat.beq (List.length x2) (0 : Nat) : Bool), true), (Option.isSome (f18 ((x0, (x0', ())), ())), true), (Option.isSome (f56 (((r1.fst.fst : Int), ((r1.fst.snd.fst : List Int), ())), ((x1, (x1', ())), ()))), true), (Option.isSome (f18 ((x0, (x0', ())), ())), true), ((!leF (↑(List.length x2) : Int) (8 : Int) : Bool), false), ((!r0.fst : Bool), false), ((!r0.fst : Bool), false), ((!r0.fst : Bool), false), ((!r0.fst : Bool), false), (Option.isSome (f16 ((x0, (x0', ())), ())), true), ((false : Bool), false), ((true : Bool), true)])) := by kernel_rfl
theorem e8_11 (x0 : Int) (x0' : (List Int)) (x1 : Int) (x1' : Int) (x2 : (List (Int × (Int × Unit)))) : runPure kf61.orc Go.Proofs.Try.prog 400 8 as8 rs8 ((x0, x0', ()), (x1, x1', ()), x2, ()) [true, false, true, false, false, false, false, false, true, true, true, true, true, true, true, true, true, true, true, false, false, false, false, false, false, false, false, false, true, true, true, false, false, false, false, false, true, false, true, false, true, false, false, true, false, false, true, false, false, false, false] =
    (let r0 : Bool × PUnit := g16 ((x0, (x0', ())), ()); let r1 : (Int × List Int × PUnit) × PUnit := g18 ((x0, (x0', ())), ()); let r5 : Int × PUnit := g29 ((x0, (x0', ())), ()); let r6 : Int × PUnit := g58 ((x1, (x1', ())), ()); let r2 : List Int × Int × PUnit := g56 (((r1.fst.fst : Int), ((r1.fst.snd.fst : List Int), ())), ((x1, (x1', ())), ())); let r8 : List Int × PUnit := g60 (x0', ((x1, (x1', ())), ())); let r9 : Bool × PUnit := g23 ((r2.fst : List Int), ((r8.fst : List Int), ())); let r7 : Int × PUnit := g59 (x2, ()); let r3 : List Int × Int × PUnit := g57 (((r1.fst.fst : Int), ((r1.fst.snd.fst : List Int), ())), (([] : List (Int × Int × PUnit)), ())); some (((false : Bool), ()), [((eqF r3.snd.fst r7.fst : Bool), false), ((eqF r3.snd.fst r7.fst : Bool), false), ((eqF r3.snd.fst r7.fst : Bool), false), ((eqF r3.snd.fst r7.fst : Bool), false), ((!eqF r7.fst (0 : Int) : Bool), true), ((!r9.fst : Bool), false), ((false : Bool), false), ((eqF r6.fst (0 : Int) : Bool), true), ((false : Bool), false), ((!eqF r2.snd.fst (0 : Int) : Bool), false), ((eqF r6.fst (0 : Int) : Bool), true), ((!eqF r2.snd.fst (0 : Int) : Bool), false), (Option.isSome (f23 ((r2.fst : List Int), ((r8.fst : List Int), ()))), true), ((!eqF r2.snd.fst (0 : Int) : Bool), false), (Option.isSome (f60 (x0', ((x1, (x1', ())), ()))), true), ((!eqF r2.snd.fst (0 : Int) : Bool), false), ((!eqF r2.snd.fst (0 : Int) : Bool), false), ((!eqF r2.snd.fst (0 : Int) : Bool), false), ((!eqF r2.snd.fst (0 : Int) : Bool), false), ((!eqF r2.snd.fst (0 : Int) : Bool), false), ((eqF r6.fst (0 : Int) : Bool), true), ((eqF r6.fst (0 : Int) : Bool), true), ((eqF r6.fst (0 : Int) : Bool), true), ((false : Bool), false), ((false : Bool), false), ((false : Bool), false), ((!eqF r6.fst (0 : Int) : Bool), false), ((!eqF r6.fst (0 : Int) : Bool), false), ((!eqF r6.fst (0 : Int) : Bool), false), ((!eqF r6.fst (0 : Int) : Bool), false), ((!eqF r6.fst (0 : Int) : Bool), false), ((!eqF r6.fst (0 : Int) : Bool), false), (Option.isSome (f59 (x2, ())), true), (Option.isSome (f58 ((x1, (x1', ())), ())), true), ((eqF r5.fst (0 : Int) : Bool), true), (Option.isSome (f29 ((x0, (x0', ())), ())), true), (Option.isSome (f29 ((x0, (x0', ())), ())), true), (Option.isSome (f57 (((r1.fst.fst : Int), ((r1.fst.snd.fst : List Int), ())), (([] : List (Int × Int × PUnit)), ()))), true), ((true : Bool), true), ((Nat.beq (List.length x2) (0 : Nat) : Bool), true), (Option.isSome (f18 ((x0, (x0', ())), ())), true), (Option.isSome (f56 (((r1.fst.fst : Int), ((r1.fst.snd.fst : List Int), ())), ((x1, (x1', ())), ()))), true), (Option.isSome (f18 ((x0, (x0', ())), ())), true), ((!leF (↑(List.length x2) : Int) (8 : Int) : Bool), false), ((!r0.fst : Bool), false), ((!r0.fst : Bool), false), ((!r0.fst : Bool), false), ((!r0.fst : Bool), false), (Option.isSome (f16 ((x0, (x0', ())), ())), true), ((false : Bool), false), ((true : Bool), true)])) := by kernel_rfl
theorem e8_12 (x0 : Int) (x0' : (List Int)) (x1 : Int) (x1' : Int) (x2 : (List (Int × (Int × Unit)))) : runPure kf61.orc Go.Proofs.Try.prog 400 8 as8 rs8 ((x0, x0', ()), (x1, x1', ()), x2, ()) [true, false, true, false, false, false, false, false, true, true, true, true, true, true, true, true, true, true, true, false, false, false, false, false, false, false, false, false, true, true, true, false, false, false, false, false, true, false, true, false, true, false, false, true, false, false, false, true, true, true, true, true, true, true, true, true] =
    (let r0 : Bool × PUnit := g16 ((x0, (x0', ())), ()); let r1 : (Int × List Int × PUnit) × PUnit := g18 ((x0, (x0', ())), ()); let r5 : Int × PUnit := g29 ((x0, (x0', ())), ()); let r6 : Int × PUnit := g58 ((x1, (x1', ())), ()); let r2 : List Int × Int × PUnit := g56 (((r1.fst.fst : Int), ((r1.fst.snd.fst : List Int), ())), ((x1, (x1', ())), ())); let r8 : List Int × PUnit := g60 (x0', ((x1, (x1', ())), ())); let r9 : Bool × PUnit := g23 ((r2.fst : List Int), ((r8.fst : List Int), ())); let r7 : Int × PUnit := g59 (x2, ()); let r3 : List Int × Int × PUnit := g57 (((r1.fst.fst : Int), ((r1.fst.snd.fst : List Int), ())), (([] : List (Int × Int × PUnit)), ())); let r10 : List Int × PUnit := g61 (x0', (x2, ())); let r11 : Bool × PUnit := g23 ((r3.fst : List Int), ((r10.fst : List Int), ())); some (((r11.fst : Bool), ()), [((eqF r3.snd.fst (0 : Int) : Bool), true), (Option.isSome (f23 ((r3.fst : List Int), ((r10.fst : List Int), ()))), true), ((eqF r3.snd.fst (0 : Int) : Bool), true), (Option.isSome (f61 (x0', (x2, ()))), true), ((eqF r3.snd.fst (0 : Int) : Bool), true), ((eqF r3.snd.fst (0 : Int) : Bool), true), ((eqF r3.snd.fst (0 : Int) : Bool), true), ((eqF r3.snd.fst (0 : Int) : Bool), true), ((eqF r3.snd.fst (0 : Int) : Bool), true), ((!eqF r7.fst (0 : Int) : Bool), false), ((!r9.fst : Bool), false), ((false : Bool), false), ((eqF r6.fst (0 : Int) : Bool), true), ((false : Bool), false), ((!eqF r2.snd.fst (0 : Int) : Bool), false), ((eqF r6.fst (0 : Int) : Bool), true), ((!eqF r2.snd.fst (0 : Int) : Bool), false), (Option.isSome (f23 ((r2.fst : List Int), ((r8.fst : List Int), ()))), true), ((!eqF r2.snd.fst (0 : Int) : Bool), false), (Option.isSome (f60 (x0', ((x1, (x1', ())), ()))), true), ((!eqF r2.snd.fst (0 : Int) : Bool), false), ((!eqF r2.snd.fst (0 : Int) : Bool), false), ((!eqF r2.snd.fst (0 : Int) : Bool), false), ((!eqF r2.snd.fst (0 : Int) : Bool), false), ((!eqF r2.snd.fst (0 : Int) : Bool), false), ((eqF r6.fst (0 : Int) : Bool), true), ((eqF r6.fst (0 : Int) : Bool), true), ((eqF r6.fst (0 : Int) : Bool), true), ((false : Bool), false), ((false : Bool), false), ((false : Bool), false), ((!eqF r6.fst (0 : Int) : Bool), false), ((!eqF r6.fst (0 : Int) : Bool), false), ((!eqF r6.fst (0 : Int) : Bool), false), ((!eqF r6.fst (0 : Int) : Bool), false), ((!eqF r6.fst (0 : Int) : Bool), false), ((!eqF r6.fst (0 : Int) : Bool), false), (Option.isSome (f59 (x2, ())), true), (Option.isSome (f58 ((x1, (x1', ())), ())), true), ((eqF r5.fst (0 : Int) : Bool), true), (Option.isSome (f29 ((x0, (x0', ())), ())), true), (Option.isSome (f29 ((x0, (x0', ())), ())), true), (Option.isSome (f57 (((r1.fst.fst : Int), ((r1.fst.snd.fst : List Int), ())), (([] : List (Int × Int × PUnit)), ()))), true), ((true : Bool), true), ((Nat.beq (List.length x2) (0 : Nat) : Bool), true), (Option.isSome (f18 ((x0, (x0', ())), ())), true), (Option.isSome (f56 (((r1.fst.fst : Int), ((r1.fst.snd.fst : List Int), ())), ((x1, (x1', ())), ()))), true), (Option.isSome (f18 ((x0, (x0', ())), ())), true), ((!leF (↑(List.length x2) : Int) (8 : Int) : Bool), false), ((!r0.fst : Bool), false), ((!r0.fst : Bool), false), ((!r0.fst : Bool), false), ((!r0.fst : Bool), false), (Option.isSome (f16 ((x0, (x0', ())), ())), true), ((false : Bool), false), ((true : Bool), true)])) := by kernel_rfl
theorem e8_13 (x0 : Int) (x0' : (List Int)) (x1 : Int) (x1' : Int) (x2 : (List (Int × (Int × Unit)))) : runPure kf61.orc Go.Proofs.Try.prog 400 8 as8 rs8 ((x0, x0', ()), (x1, x1', ()), x2, ()) [true, false, true, false, false, false, false, false, true, true, true, true, true, true, true, true, true, true, true, false, false, false, false, false, false, false, false, false, true, true, true, false, false, false, false, false, true, false, true, false, true, false, false, true, false, false, false, false, false, false, false, false, false, false] =
    (let r0 : Bool × PUnit := g16 ((x0, (x0', ())), ()); let r1 : (Int × List Int × PUnit) × PUnit := g18 ((x0, (x0', ())), ()); let r5 : Int × PUnit := g29 ((x0, (x0', ())), ()); let r6 : Int × PUnit := g58 ((x1, (x1', ())), ()); let r2 : List Int × Int × PUnit := g56 (((r1.fst.fst : Int), ((r1.fst.snd.fst : List Int), ())), ((x1, (x1', ())), ())); let r8 : List Int × PUnit := g60 (x0', ((x1, (x1', ())), ())); let r9 : Bool × PUnit := g23 ((r2.fst : List Int), ((r8.fst : List Int), ())); let r7 : Int × PUnit := g59 (x2, ()); let r3 : List Int × Int × PUnit := g57 (((r1.fst.fst : Int), ((r1.fst.snd.fst : List Int), ())), (([] : List (Int × Int × PUnit)), ())); some (((false : Bool), ()), [((eqF r3.snd.fst (0 : Int) : Bool), false), ((eqF r3.snd.fst (0 : Int) : Bool), false), ((eqF r3.snd.fst (0 : Int) : Bool), false), ((eqF r3.snd.fst (0 : Int) : Bool), false), ((eqF r3.snd.fst (0 : Int) : Bool), false), ((eqF r3.snd.fst (0 : Int) : Bool), false), ((eqF r3.snd.fst (0 : Int) : Bool), false), ((!eqF r7.fst (0 : Int) : Bool), false), ((!r9.fst : Bool), false), ((false : Bool), false), ((eqF r6.fst (0 : Int) : Bool), true), ((false : Bool), false), ((!eqF r2.snd.fst (0 : Int) : Bool), false), ((eqF r6.fst (0 : Int) : Bool), true), ((!eqF r2.snd.fst (0 : Int) : Bool), false), (Option.isSome (f23 ((r2.fst : List Int), ((r8.fst : List Int), ()))), true), ((!eqF r2.snd.fst (0 : Int) : Bool), false), (Option.isSome (f60 (x0', ((x1, (x1', ())), ()))), true), ((!eqF r2.snd.fst (0 : Int) : Bool), false), ((!eqF r2.snd.fst (0 : Int) : Bool), false), ((!eqF r2.snd.fst (0 : Int) : Bool), false), ((!eqF r2.snd.fst (0 : Int) : Bool), false), ((!eqF r2.snd.fst (0 : Int) : Bool), false), ((eqF r6.fst (0 : Int) : Bool), true), ((eqF r6.fst (0 : Int) : Bool), true), ((eqF r6.fst (0 : Int) : Bool), true), ((false : Bool), false), ((false : Bool), false), ((false : Bool), false), ((!eqF r6.fst (0 : Int) : Bool), false), ((!eqF r6.fst (0 : Int) : Bool), false), ((!eqF r6.fst (0 : Int) : Bool), false), ((!eqF r6.fst (0 : Int) : Bool), false), ((!eqF r6.fst (0 : Int) : Bool), false), ((!eqF r6.fst (0 : Int) : Bool), false), (Option.isSome (f59 (x2, ())), true), (Option.isSome (f58 ((x1, (x1', ())), ())), true), ((eqF r5.fst (0 : Int) : Bool), true), (Option.isSome (f29 ((x0, (x0', ())), ())), true), (Option.isSome (f29 ((x0, (x0', ())), ())), true), (Option.isSome (f57 (((r1.fst.fst : Int), ((r1.fst.snd.fst : List Int), ())), (([] : List (Int × Int × PUnit)), ()))), true), ((true : Bool), true), ((Nat.beq (List.length x2) (0 : Nat) : Bool), true), (Option.isSome (f18 ((x0, (x0', ())), ())), true), (Option.isSome (f56 (((r1.fst.fst : Int), ((r1.fst.snd.fst : List Int), ())), ((x1, (x1', ())), ()))), true), (Option.isSome (f18 ((x0, (x0', ())), ())), true), ((!leF (↑(List.length x2) : Int) (8 : Int) : Bool), false), ((!r0.fst : Bool), false), ((!r0.fst : Bool), false), ((!r0.fst : Bool), false), ((!r0.fst : Bool), false), (Option.isSome (f16 ((x0, (x0', ())), ())), true), ((false : Bool), false), ((true : Bool), true)])) := by kernel_rfl
theorem e8_14 (x0 : Int) (x0' : (List Int)) (x1 : Int) (x1' : Int) (x2 : (List (Int × (Int × Unit)))) : runPure kf61.orc Go.Proofs.Try.prog 400 8 as8 rs8 ((x0, x0', ()), (x1, x1', ()), x2, ()) [true, false, true, false, false, false, false, false, true, true, true, true, true, true, true, true, false, true, true, true, true, true, true, true, true, true, true, true, true, true, true, true, true] =
    (let r0 : Bool × PUnit := g16 ((x0, (x0', ())), ()); let r1 : (Int × List Int × PUnit) × PUnit := g18 ((x0, (x0', ())), ()); let r5 : Int × PUnit := g29 ((x0, (x0', ())), ()); let r2 : List Int × Int × PUnit := g56 (((r1.fst.fst : Int), ((r1.fst.snd.fst : List Int), ())), ((x1, (x1', ())), ())); some (((false : Bool), ()), [((true : Bool), true), ((true : Bool), true), ((true : Bool), true), ((true : Bool), true), ((true : Bool), true), ((true : Bool), true), ((!eqF r5.fst (0 : Int) : Bool), true), ((!eqF r2.snd.fst r5.fst : Bool), true), ((!eqF r5.fst (0 : Int) : Bool), true), ((!eqF r2.snd.fst r5.fst : Bool), true), ((!eqF r2.snd.fst r5.fst : Bool), true), ((!eqF r2.snd.fst r5.fst : Bool), true), ((!eqF r5.fst (0 : Int) : Bool), true), ((!eqF r5.fst (0 : Int) : Bool), true), ((!eqF r5.fst (0 : Int) : Bool), true), ((!eqF r5.fst (0 : Int) : Bool), true), ((eqF r5.fst (0 : Int) : Bool), false), (Option.isSome (f29 ((x0, (x0', ())), ())), true), (Option.isSome (f29 ((x0, (x0', ())), ())), true), (Option.isSome (f57 (((r1.fst.fst : Int), ((r1.fst.snd.fst : List Int), ())), (([] : List (Int × Int × PUnit)), ()))), true), ((true : Bool), true), ((Nat.beq (List.length x2) (0 : Nat) : Bool), true), (Option.isSome (f18 ((x0, (x0', ())), ())), true), (Option.isSome (f56 (((r1.fst.fst : Int), ((r1.fst.snd.fst : List Int), ())), ((x1, (x1', ())), ()))), true), (Option.isSome (f18 ((x0, (x0', ())), ())), true), ((!leF (↑(List.length x2) : Int) (8 : Int) : Bool), false), ((!r0.fst : Bool), false), ((!r0.fst : Bool), false), ((!r0.fst : Bool), false), ((!r0.fst : Bool), false), (Option.isSome (f16 ((x0, (x0', ())), ())), true), ((false : Bool), false), ((true : Bool), true)])) := by kernel_rfl
theorem e8_15 (x0 : Int) (x0' : (List Int)) (x1 : Int) (x1' : Int) (x2 : (List (Int × (Int × Unit)))) : runPure kf61.orc Go.Proofs.Try.prog 400 8 as8 rs8 ((x0, x0', ()), (x1, x1', ()), x2, ()) [true, false, true, false, false, false, false, false, true, true, true, true, true, true, true, true, false, true, true, true, true, false, false, false, true, false, true, true, true, true, true, true, true] =
    (let r0 : Bool × PUnit := g16 ((x0, (x0', ())), ()); let r1 : (Int × List Int × PUnit) × PUnit := g18 ((x0, (x0', ())), ()); let r5 : Int × PUnit := g29 ((x0, (x0', ())), ()); let r2 : List Int × Int × PUnit := g56 (((r1.fst.fst : Int), ((r1.fst.snd.fst : List Int), ())), ((x1, (x1', ())), ())); some (((false : Bool), ()), [((true : Bool), true), ((!eqF (↑(List.length r2.fst) : Int) (0 : Int) : Bool), true), ((!eqF (↑(List.length r2.fst) : Int) (0 : Int) : Bool), true), ((!eqF (↑(List.length r2.fst) : Int) (0 : Int) : Bool), true), ((!eqF (↑(List.length r2.fst) : Int) (0 : Int) : Bool), true), ((!eqF (↑(List.length r2.fst) : Int) (0 : Int) : Bool), true), ((!eqF r5.fst (0 : Int) : Bool), true), ((!eqF r2.snd.fst r5.fst : Bool), false), ((!eqF r5.fst (0 : Int) : Bool), true), ((!eqF r2.snd.fst r5.fst : Bool), false), ((!eqF r2.snd.fst r5.fst : Bool), false), ((!eqF r2.snd.fst r5.fst : Bool), false), ((!eqF r5.fst (0 : Int) : Bool), true), ((!eqF r5.fst (0 : Int) : Bool), true), ((!eqF r5.fst (0 : Int) : Bool), true), ((!eqF r5.fst (0 : Int) : Bool), true), ((eqF r5.fst (0 : Int) : Bool), false), (Option.isSome (f29 ((x0, (x0', ())), ())), true), (Option.isSome (f29 ((x0, (x0', ())), ())), true), (Option.isSome (f57 (((r1.fst.fst : Int), ((r1.fst.snd.fst : List Int), ())), (([] : List (Int × Int × PUnit)), ()))), true), ((true : Bool), true), ((Nat.beq (List.length x2) (0 : Nat) : Bool), true), (Option.isSome (f18 ((x0, (x0', ())), ())), true), (Option.isSome (f56 (((r1.fst.fst : Int), ((r1.fst.snd.fst : List Int), ())), ((x1, (x1', ())), ()))), true), (Option.isSome (f18 ((x0, (x0', ())), ())), true), ((!leF (↑(List.length x2) : Int) (8 : Int) : Bool), false), ((!r0.fst : Bool), false), ((!r0.fst : Bool), false), ((!r0.fst : Bool), false), ((!r0.fst : Bool), false), (Option.isSome (f16 ((x0, (x0', ())), ())), true), ((false : Bool), false), ((true : Bool), true)])) := by kernel_rfl
theorem e8_16 (x0 : Int) (x0' : (List Int)) (x1 : Int) (x1' : Int) (x2 : (List (Int × (Int × Unit)))) : runPure kf61.orc Go.Proofs.Try.prog 400 8 as8 rs8 ((x0, x0', ()), (x1, x1', ()), x2, ()) [true, false, true, false, false, false, false, false, true, true, true, true, true, true, true, true, false, true, true, true, true, false, false, false, true, false, true, false, false, false, false, false, false, false, false, false, false, false, true, true, true, true, true] =
    (let r0 : Bool × PUnit := g16 ((x0, (x0', ())), ()); let r1 : (Int × List Int × PUnit) × PUnit := g18 ((x0, (x0', ())), ()); let r5 : Int × PUnit := g29 ((x0, (x0', ())), ()); let r2 : List Int × Int × PUnit := g56 (((r1.fst.fst : Int), ((r1.fst.snd.fst : List Int), ())), ((x1, (x1', ())), ())); let r3 : List Int × Int × PUnit := g57 (((r1.fst.fst : Int), ((r1.fst.snd.fst : List Int), ())), (([] : List (Int × Int × PUnit)), ())); some (((eqF (↑(List.length r3.fst) : Int) (0 : Int) : Bool), ()), [((eqF r3.snd.fst r5.fst : Bool), true), ((eqF r3.snd.fst r5.fst : Bool), true), ((eqF r3.snd.fst r5.fst : Bool), true), ((eqF r3.snd.fst r5.fst : Bool), true), ((!eqF r5.fst (0 : Int) : Bool), true), ((false : Bool), false), ((!eqF (↑(List.length r2.fst) : Int) (0 : Int) : Bool), false), ((eqF r5.fst (0 : Int) : Bool), false), ((!eqF (↑(List.length r2.fst) : Int) (0 : Int) : Bool), false), ((eqF r5.fst (0 : Int) : Bool), false), ((eqF r5.fst (0 : Int) : Bool), false), ((eqF r5.fst (0 : Int) : Bool), false), ((eqF r5.fst (0 : Int) : Bool), false), ((!eqF (↑(List.length r2.fst) : Int) (0 : Int) : Bool), false), ((!eqF (↑(List.length r2.fst) : Int) (0 : Int) : Bool), false), ((!eqF (↑(List.length r2.fst) : Int) (0 : Int) : Bool), false), ((!eqF r5.fst (0 : Int) : Bool), true), ((!eqF r2.snd.fst r5.fst : Bool), false), ((!eqF r5.fst (0 : Int) : Bool), true), ((!eqF r2.snd.fst r5.fst : Bool), false), ((!eqF r2.snd.fst r5.fst : Bool), false), ((!eqF r2.snd.fst r5.fst : Bool), false), ((!eqF r5.fst (0 : Int) : Bool), true), ((!eqF r5.fst (0 : Int) : Bool), true), ((!eqF r5.fst (0 : Int) : Bool), true), ((!eqF r5.fst (0 : Int) : Bool), true), ((eqF r5.fst (0 : Int) : Bool), false), (Option.isSome (f29 ((x0, (x0', ())), ())), true), (Option.isSome (f29 ((x0, (x0', ())), ())), true), (Option.isSome (f57 (((r1.fst.fst : Int), ((r1.fst.snd.fst : List Int), ())), (([] : List (Int × Int × PUnit)), ()))), true), ((true : Bool), true), ((Nat.beq (List.length x2) (0 : Nat) : Bool), true), (Option.isSome (f18 ((x0, (x0', ())), ())), true), (Option.isSome (f56 (((r1.fst.fst : Int), ((r1.fst.snd.fst : List Int), ())), ((x1, (x1', ())), ()))), true), (Option.isSome (f18 ((x0, (x0', ())), ())), true), ((!leF (↑(List.length x2) : Int) (8 : Int) : Bool), false), ((!r0.fst : Bool), false), ((!r0.fst : Bool), false), ((!r0.fst : Bool), false), ((!r0.fst : Bool), false), (Option.isSome (f16 ((x0, (x0', ())), ())), true), ((false : Bool), false), ((true : Bool), true)])) := by kernel_rfl
theorem e8_17 (x0 : Int) (x0' : (List Int)) (x1 : Int) (x1' : Int) (x2 : (List (Int × (Int × Unit)))) : runPure kf61.orc Go.Proofs.Try.prog 400 8 as8 rs8 ((x0, x0', ()), (x1, x1', ()), x2, ()) [true, false, true, false, false, false, false, false, true, true, true, true, true, true, true, true, false, true, true, true, true, false, false, false, true, false, true, false, false, false, false, false, false, false, false, false, false, false, true, false, false, false, false] =
    (let r0 : Bool × PUnit := g16 ((x0, (x0', ())), ()); let r1 : (Int × List Int × PUnit) × PUnit := g18 ((x0, (x0', ())), ()); let r5 : Int × PUnit := g29 ((x0, (x0', ())), ()); let r2 : List Int × Int × PUnit := g56 (((r1.fst.fst : Int), ((r1.fst.snd.fst : List Int), ())), ((x1, (x1', ())), ())); let r3 : List Int × Int × PUnit := g57 (((r1.fst.fst : Int), ((r1.fst.snd.fst : List Int), ())), (([] : List (Int × Int × PUnit)), ())); some (((false : Bool), ()), [((eqF r3.snd.fst r5.fst : Bool), false), ((eqF r3.snd.fst r5.fst : Bool), false), ((eqF r3.snd.fst r5.fst : Bool), false), ((eqF r3.snd.fst r5.fst : Bool), false), ((!eqF r5.fst (0 : Int) : Bool), true), ((false : Bool), false), ((!eqF (↑(List.length r2.fst) : Int) (0 : Int) : Bool), false), ((eqF r5.fst (0 : Int) : Bool), false), ((!eqF (↑(List.length r2.fst) : Int) (0 : Int) : Bool), false), ((eqF r5.fst (0 : Int) : Bool), false), ((eqF r5.fst (0 : Int) : Bool), false), ((eqF r5.fst (0 : Int) : Bool), false), ((eqF r5.fst (0 : Int) : Bool), false), ((!eqF (↑(List.length r2.fst) : Int) (0 : Int) : Bool), false), ((!eqF (↑(List.length r2.fst) : Int) (0 : Int) : Bool), false), ((!eqF (↑(List.length r2.fst) : Int) (0 : Int) : Bool), false), ((!eqF r5.fst (0 : Int) : Bool), true), ((!eqF r2.snd.fst r5.fst : Bool), false), ((!eqF r5.fst (0 : Int) : Bool), true), ((!eqF r2.snd.fst r5.fst : Bool), false), ((!eqF r2.snd.fst r5.fst : Bool), false), ((!eqF r2.snd.fst r5.fst : Bool), false), ((!eqF r5.fst (0 : Int) : Bool), true), ((!eqF r5.fst (0 : Int) : Bool), true), ((!eqF r5.fst (0 : Int) : Bool), true), ((!eqF r5.fst (0 : Int) : Bool), true), ((eqF r5.fst (0 : Int) : Bool), false), (Option.isSome (f29 ((x0, (x0', ())), ())), true), (Option.isSome (f29 ((x0, (x0', ())), ())), true), (Option.isSome (f57 (((r1.fst.fst : Int), ((r1.fst.snd.fst : List Int), ())), (([] : List (Int × Int × PUnit)), ()))), true), ((true : Bool), true), ((Nat.beq (List.length x2) (0 : Nat) : Bool), true), (Option.isSome (f18 ((x0, (x0', ())), ())), true), (Option.isSome (f56 (((r1.fst.fst : Int), ((r1.fst.snd.fst : List Int), ())), ((x1, (x1', ())), ()))), true), (Option.isSome (f18 ((x0, (x0', ())), ())), true), ((!leF (↑(List.length x2) : Int) (8 : Int) : Bool), false), ((!r0.fst : Bool), false), ((!r0.fst : Bool), false), ((!r0.fst : Bool), false), ((!r0.fst : Bool), false), (Option.isSome (f16 ((x0, (x0', ())), ())), true), ((false : Bool), false), ((true : Bool), true)])) := by kernel_rfl
theorem e8_19 (x0 : Int) (x0' : (List Int)) (x1 : Int) (x1' : Int) (x2 : (List (Int × (Int × Unit)))) : runPure kf61.orc Go.Proofs.Try.prog 400 8 as8 rs8 ((x0, x0', ()), (x1, x1', ()), x2, ()) [true, false, true, false, false, false, false, false, true, true, true, false, false, true, true, true, true, true, true, true, true, true, true, true, true, true, true, true, true, true, true, true, true, true, true, true, true, true] =
    (let r0 : Bool × PUnit := g16 ((x0, (x0', ())), ()); let r1 : (Int × List Int × PUnit) × PUnit := g18 ((x0, (x0', ())), ()); let r5 : Int × PUnit := g29 ((x0, (x0', ())), ()); let r6 : Int × PUnit := g58 ((x1, (x1', ())), ()); let r2 : List Int × Int × PUnit := g56 (((r1.fst.fst : Int), ((r1.fst.snd.fst : List Int), ())), ((x1, (x1', ())), ())); some (((false : Bool), ()), [((true : Bool), true), ((true : Bool), true), ((true : Bool), true), ((true : Bool), true), ((true : Bool), true), ((true : Bool), true), ((!eqF r6.fst (0 : Int) : Bool), true), ((!eqF r2.snd.fst r6.fst : Bool), true), ((!eqF r6.fst (0 : Int) : Bool), true), ((!eqF r2.snd.fst r6.fst : Bool), true), ((!eqF r2.snd.fst r6.fst : Bool), true), ((!eqF r2.snd.fst r6.fst : Bool), true), ((!eqF r6.fst (0 : Int) : Bool), true), ((!eqF r6.fst (0 : Int) : Bool), true), ((!eqF r6.fst (0 : Int) : Bool), true), ((!eqF r6.fst (0 : Int) : Bool), true), (Option.isSome (f59 (x2, ())), true), (Option.isSome (f58 ((x1, (x1', ())), ())), true), ((eqF r5.fst (0 : Int) : Bool), true), (Option.isSome (f29 ((x0, (x0', ())), ())), true), (Option.isSome (f29 ((x0, (x0', ())), ())), true), (Option.isSome (f57 (((r1.fst.fst : Int), ((r1.fst.snd.fst : List Int), ())), (([] ++ x2 : List (Int × Int × PUnit)), ()))), true), ((Nat.beq ((0 : Nat) + List.length x2) (List.length ([] ++ x2)) : Bool), true), ((true : Bool), true), ((Nat.ble (((2 : Nat) * ((0 : Nat) + List.length x2) + (192 : Nat)) * (16 : Nat)) (281474976710656 : Nat) && Nat.ble ((0 : Nat) + List.length x2) (281474976710656 : Nat) : Bool), true), ((Nat.ble ((0 : Nat) + List.length x2) (0 : Nat) : Bool), false), ((Nat.beq (List.length x2) (0 : Nat) : Bool), false), (Option.isSome (f18 ((x0, (x0', ())), ())), true), (Option.isSome (f56 (((r1.fst.fst : Int), ((r1.fst.snd.fst : List Int), ())), ((x1, (x1', ())), ()))), true), (Option.isSome (f18 ((x0, (x0', ())), ())), true), ((!leF (↑(List.length x2) : Int) (8 : Int) : Bool), false), ((!r0.fst : Bool), false), ((!r0.fst : Bool), false), ((!r0.fst : Bool), false), ((!r0.fst : Bool), false), (Option.isSome (f16 ((x0, (x0', ())), ())), true), ((false : Bool), false), ((true : Bool), true)])) := by kernel_rfl
theorem e8_20 (x0 : Int) (x0' : (List Int)) (x1 : Int) (x1' : Int) (x2 : (List (Int × (Int × Unit)))) : runPure kf61.orc Go.Proofs.Try.prog 400 8 as8 rs8 ((x0, x0', ()), (x1, x1', ()), x2, ()) [true, false, true, false, false, false, false, false, true, true, true, false, false, true, true, true, true, true, true, true, true, true, true, true, true, true, false, false, false, true, false, true, true, true, true, true, true, true] =
    (let r0 : Bool × PUnit := g16 ((x0, (x0', ())), ()); let r1 : (Int × List Int × PUnit) × PUnit := g18 ((x0, (x0', ())), ()); let r5 : Int × PUnit := g29 ((x0, (x0', ())), ()); let r6 : Int × PUnit := g58 ((x1, (x1', ())), ()); let r2 : List Int × Int × PUnit := g56 (((r1.fst.fst : Int), ((r1.fst.snd.fst : List Int), ())), ((x1, (x1', ())), ())); some (((false : Bool), ()), [((true : Bool), true), ((!eqF (↑(List.length r2.fst) : Int) (0 : Int) : Bool), true), ((!eqF (↑(List.length r2.fst) : Int) (0 : Int) : Bool), true), ((!eqF (↑(List.length r2.fst) : Int) (0 : Int) : Bool), true), ((!eqF (↑(List.length r2.fst) : Int) (0 : Int) : Bool), true), ((!eqF (↑(List.length r2.fst) : Int) (0 : Int) : Bool), true), ((!eqF r6.fst (0 : Int) : Bool), true), ((!eqF r2.snd.fst r6.fst : Bool), false), ((!eqF r6.fst (0 : Int) : Bool), true), ((!eqF r2.snd.fst r6.fst : Bool), false), ((!eqF r2.snd.fst r6.fst : Bool), false), ((!eqF r2.snd.fst r6.fst : Bool), false), ((!eqF r6.fst (0 : Int) : Bool), true), ((!eqF r6.fst (0 : Int) : Bool), true), ((!eqF r6.fst (0 : Int) : Bool), true), ((!eqF r6.fst (0 : Int) : Bool), true), (Option.isSome (f59 (x2, ())), true), (Option.isSome (f58 ((x1, (x1', ())), ())), true), ((eqF r5.fst (0 : Int) : Bool), true), (Option.isSome (f29 ((x0, (x0', ())), ())), true), (Option.isSome (f29 ((x0, (x0', ())), ())), true), (Option.isSome (f57 (((r1.fst.fst : Int), ((r1.fst.snd.fst : List Int), ())), (([] ++ x2 : List (Int × Int × PUnit)), ()))), true), ((Nat.beq ((0 : Nat) + List.length x2) (List.length ([] ++ x2)) : Bool), true), ((true : Bool), true), ((Nat.ble (((2 : Nat) * ((0 : Nat) + List.length x2) + (192 : Nat)) * (16 : Nat)) (281474976710656 : Nat) && Nat.ble ((0 : Nat) + List.length x2) (281474976710656 : Nat) : Bool), true), ((Nat.ble ((0 : Nat) + List.length x2) (0 : Nat) : Bool), false), ((Nat.beq (List.length x2) (0 : Nat) : Bool), false), (Option.isSome (f18 ((x0, (x0', ())), ())), true), (Option.isSome (f56 (((r1.fst.fst : Int), ((r1.fst.snd.fst : List Int), ())), ((x1, (x1', ())), ()))), true), (Option.isSome (f18 ((x0, (x0', ())), ())), true), ((!leF (↑(List.length x2) : Int) (8 : Int) : Bool), false), ((!r0.fst : Bool), false), ((!r0.fst : Bool), false), ((!r0.fst : Bool), false), ((!r0.fst : Bool), false), (Option.isSome (f16 ((x0, (x0', ())), ())), true), ((false : Bool), false), ((true : Bool), true)])) := by kernel_rfl
theorem e8_21 (x0 : Int) (x0' : (List Int)) (x1 : Int) (x1' : Int) (x2 : (List (Int × (Int × Unit)))) : runPure kf61.orc Go.Proofs.Try.prog 400 8 as8 rs8 ((x0, x0', ()), (x1, x1', ()), x2, ()) [true, false, true, false, false, false, false, false, true, true, true, false, false, true, true, true, true, true, true, true, true, true, true, true, true, true, false, false, false, true, false, true, false, false, false, false, false, false, false, false, false, false, false, true, true, true, true, true] =
    (let r0 : Bool × PUnit := g16 ((x0, (x0', ())), ()); let r1 : (Int × List Int × PUnit) × PUnit := g18 ((x0, (x0', ())), ()); let r5 : Int × PUnit := g29 ((x0, (x0', ())), ()); let r6 : Int × PUnit := g58 ((x1, (x1', ())), ()); let r2 : List Int × Int × PUnit := g56 (((r1.fst.fst : Int), ((r1.fst.snd.fst : List Int), ())), ((x1, (x1', ())), ())); let r7 : Int × PUnit := g59 (x2, ()); let r4 : List Int × Int × PUnit := g57 (((r1.fst.fst : Int), ((r1.fst.snd.fst : List Int), ())), (([] ++ x2 : List (Int × Int × PUnit)), ())); some (((eqF (↑(List.length r4.fst) : Int) (0 : Int) : Bool), ()), [((eqF r4.snd.fst r7.fst : Bool), true), ((eqF r4.snd.fst r7.fst : Bool), true), ((eqF r4.snd.fst r7.fst : Bool), true), ((eqF r4.snd.fst r7.fst : Bool), true), ((!eqF r7.fst (0 : Int) : Bool), true), ((false : Bool), false), ((!eqF (↑(List.length r2.fst) : Int) (0 : Int) : Bool), false), ((eqF r6.fst (0 : Int) : Bool), false), ((!eqF (↑(List.length r2.fst) : Int) (0 : Int) : Bool), false), ((eqF r6.fst (0 : Int) : Bool), false), ((eqF r6.fst (0 : Int) : Bool), false), ((eqF r6.fst (0 : Int) : Bool), false), ((eqF r6.fst (0 : Int) : Bool), false), ((!eqF (↑(List.length r2.fst) : Int) (0 : Int) : Bool), false), ((!eqF (↑(List.length r2.fst) : Int) (0 : Int) : Bool), false), ((!eqF (↑(List.length r2.fst) : Int) (0 : Int) : Bool), false), ((!eqF r6.fst (0 : Int) : Bool), true), ((!eqF r2.snd.fst r6.fst : Bool), false), ((!eqF r6.fst (0 : Int) : Bool), true), ((!eqF r2.snd.fst r6.fst : Bool), false), ((!eqF r2.snd.fst r6.fst : Bool), false), ((!eqF r2.snd.fst r6.fst : Bool), false), ((!eqF r6.fst (0 : Int) : Bool), true), ((!eqF r6.fst (0 : Int) : Bool), true), ((!eqF r6.fst (0 : Int) : Bool), true), ((!eqF r6.fst (0 : Int) : Bool), true), (Option.isSome (f59 (x2, ())), true), (Option.isSome (f58 ((x1, (x1', ())), ())), true), ((eqF r5.fst (0 : Int) : Bool), true), (Option.isSome (f29 ((x0, (x0', ())), ())), true), (Option.isSome (f29 ((x0, (x0', ())), ())), true), (Option.isSome (f57 (((r1.fst.fst : Int), ((r1.fst.snd.fst : List Int), ())), (([] ++ x2 : List (Int × Int × PUnit)), ()))), true), ((Nat.beq ((0 : Nat) + List.length x2) (List.length ([] ++ x2)) : Bool), true), ((true : Bool), true), ((Nat.ble (((2 : Nat) * ((0 : Nat) + List.length x2) + (192 : Nat)) * (16 : Nat)) (281474976710656 : Nat) && Nat.ble ((0 : Nat) + List.length x2) (281474976710656 : Nat) : Bool), true), ((Nat.ble ((0 : Nat) + List.length x2) (0 : Nat) : Bool), false), ((Nat.beq (List.length x2) (0 : Nat) : Bool), false), (Option.isSome (f18 ((x0, (x0', ())), ())), true), (Option.isSome (f56 (((r1.fst.fst : Int), ((r1.fst.snd.fst : List Int), ())), ((x1, (x1', ())), ()))), true), (Option.isSome (f18 ((x0, (x0', ())), ())), true), ((!leF (↑(List.length x2) : Int) (8 : Int) : Bool), false), ((!r0.fst : Bool), false), ((!r0.fst : Bool), false), ((!r0.fst : Bool), false), ((!r0.fst : Bool), false), (Option.isSome (f16 ((x0, (x0', ())), ())), true), ((false : Bool), false), ((true : Bool), true)])) := by kernel_rfl
theorem e8_22 (x0 : Int) (x0' : (List Int)) (x1 : Int) (x1' : Int) (x2 : (List (Int × (Int × Unit)))) : runPure kf61.orc Go.Proofs.Try.prog 400 8 as8 rs8 ((x0, x0', ()), (x1, x1', ()), x2, ()) [true, false, true, false, false, false, false, false, true, true, true, false, false, true, true, true, true, true, true, true, true, true, true, true, true, true, false, false, false, true, false, true, false, false, false, false, false, false, false, false, false, false, false, true, false, false, false, false] =
    (let r0 : Bool × PUnit := g16 ((x0, (x0', ())), ()); let r1 : (Int × List Int × PUnit) × PUnit := g18 ((x0, (x0', ())), ()); let r5 : Int × PUnit := g29 ((x0, (x0', ())), ()); let r6 : Int × PUnit := g58 ((x1, (x1', ())), ()); let r2 : List Int × Int × PUnit := g56 (((r1.fst.fst : Int), ((r1.fst.snd.fst : List Int), ())), ((x1, (x1', ())), ())); let r7 : Int × PUnit := g59 (x2, ()); let r4 : List Int × Int × PUnit := g57 (((r1.fst.fst : Int), ((r1.fst.snd.fst : List Int), ())), (([] ++ x2 : List (Int × Int × PUnit)), ())); some (((false : Bool), ()), [((eqF r4.snd.fst r7.fst : Bool), false), ((eqF r4.snd.fst r7.fst : Bool), false), ((eqF r4.snd.fst r7.fst : Bool), false), ((eqF r4.snd.fst r7.fst : Bool), false), ((!eqF r7.fst (0 : Int) : Bool), true), ((false : Bool), false), ((!eqF (↑(List.length r2.fst) : Int) (0 : Int) : Bool), false), ((eqF r6.fst (0 : Int) : Bool), false), ((!eqF (↑(List.length r2.fst) : Int) (0 : Int) : Bool), false), ((eqF r6.fst (0 : Int) : Bool), false), ((eqF r6.fst (0 : Int) : Bool), false), ((eqF r6.fst (0 : Int) : Bool), false), ((eqF r6.fst (0 : Int) : Bool), false), ((!eqF (↑(List.length r2.fst) : Int) (0 : Int) : Bool), false), ((!eqF (↑(List.length r2.fst) : Int) (0 : Int) : Bool), false), ((!eqF (↑(List.length r2.fst) : Int) (0 : Int) : Bool), false), ((!eqF r6.fst (0 : Int) : Bool), true), ((!eqF r2.snd.fst r6.fst : Bool), false), ((!eqF r6.fst (0 : Int) : Bool), true), ((!eqF r2.snd.fst r6.fst : Bool), false), ((!eqF r2.snd.fst r6.fst : Bool), false), ((!eqF r2.snd.fst r6.fst : Bool), false), ((!eqF r6.fst (0 : Int) : Bool), true), ((!eqF r6.fst (0 : Int) : Bool), true), ((!eqF r6.fst (0 : Int) : Bool), true), ((!eqF r6.fst (0 : Int) : Bool), true), (Option.isSome (f59 (x2, ())), true), (Option.isSome (f58 ((x1, (x1', ())), ())), true), ((eqF r5.fst (0 : Int) : Bool), true), (Option.isSome (f29 ((x0, (x0', ())), ())), true), (Option.isSome (f29 ((x0, (x0', ())), ())), true), (Option.isSome (f57 (((r1.fst.fst : Int), ((r1.fst.snd.fst : List Int), ())), (([] ++ x2 : List (Int × Int × PUnit)), ()))), true), ((Nat.beq ((0 : Nat) + List.length x2) (List.length ([] ++ x2)) : Bool), true), ((true : Bool), true), ((Nat.ble (((2 : Nat) * ((0 : Nat) + List.length x2) + (192 : Nat)) * (16 : Nat)) (281474976710656 : Nat) && Nat.ble ((0 : Nat) + List.length x2) (281474976710656 : Nat) : Bool), true), ((Nat.ble ((0 : Nat) + List.length x2) (0 : Nat) : Bool), false), ((Nat.beq (List.length x2) (0 : Nat) : Bool), false), (Option.isSome (f18 ((x0, (x0', ())), ())), true), (Option.isSome (f56 (((r1.fst.fst : Int), ((r1.fst.snd.fst : List Int), ())), ((x1, (x1', ())), ()))), true), (Option.isSome (f18 ((x0, (x0', ())), ())), true), ((!leF (↑(List.length x2) : Int) (8 : Int) : Bool), false), ((!r0.fst : Bool), false), ((!r0.fst : Bool), false), ((!r0.fst : Bool), false), ((!r0.fst : Bool), false), (Option.isSome (f16 ((x0, (x0', ())), ())), true), ((false : Bool), false), ((true : Bool), true)])) := by kernel_rfl
theorem e8_23 (x0 : Int) (x0' : (List Int)) (x1 : Int) (x1' : Int) (x2 : (List (Int × (Int × Unit)))) : runPure kf61.orc Go.Proofs.Try.prog 400 8 as8 rs8 ((x0, x0', ()), (x1, x1', ()), x2, ()) [true, false, true, false, false, false, false, false, true, true, true, false, false, true, true, true, true, true, true, true, true, true, true, true, true, true, false, false, false, true, false, true, false, false, false, false, false, false, false, false, false, false, false, false, true, true, true, true, true, true, true, true, true] =
    (let r0 : Bool × PUnit := g16 ((x0, (x0', ())), ()); let r1 : (Int × List Int × PUnit) × PUnit := g18 ((x0, (x0', ())), ()); let r5 : Int × PUnit := g29 ((x0, (x0', ())), ()); let r6 : Int × PUnit := g58 ((x1, (x1', ())), ()); let r2 : List Int × Int × PUnit := g56 (((r1.fst.fst : Int), ((r1.fst.snd.fst : List Int), ())), ((x1, (x1', ())), ())); let r7 : Int × PUnit := g59 (x2, ()); let r4 : List Int × Int × PUnit := g57 (((r1.fst.fst : Int), ((r1.fst.snd.fst : List Int), ())), (([] ++ x2 : List (Int × Int × PUnit)), ())); let r10 : List Int × PUnit := g61 (x0', (x2, ())); let r12 : Bool × PUnit := g23 ((r4.fst : List Int), ((r10.fst : List Int), ())); some (((r12.fst : Bool), ()), [((eqF r4.snd.fst (0 : Int) : Bool), true), (Option.isSome (f23 ((r4.fst : List Int), ((r10.fst : List Int), ()))), true), ((eqF r4.snd.fst (0 : Int) : Bool), true), (Option.isSome (f61 (x0', (x2, ()))), true), ((eqF r4.snd.fst (0 : Int) : Bool), true), ((eqF r4.snd.fst (0 : Int) : Bool), true), ((eqF r4.snd.fst (0 : Int) : Bool), true), ((eqF r4.snd.fst (0 : Int) : Bool), true), ((eqF r4.snd.fst (0 : Int) : Bool), true), ((!eqF r7.fst (0 : Int) : Bool), false), ((false : Bool), false), ((!eqF (↑(List.length r2.fst) : Int) (0 : Int) : Bool), false), ((eqF r6.fst (0 : Int) : Bool), false), ((!eqF (↑(List.length r2.fst) : Int) (0 : Int) : Bool), false), ((eqF r6.fst (0 : Int) : Bool), false), ((eqF r6.fst (0 : Int) : Bool), false), ((eqF r6.fst (0 : Int) : Bool), false), ((eqF r6.fst (0 : Int) : Bool), false), ((!eqF (↑(List.length r2.fst) : Int) (0 : Int) : Bool), false), ((!eqF (↑(List.length r2.fst) : Int) (0 : Int) : Bool), false), ((!eqF (↑(List.length r2.fst) : Int) (0 : Int) : Bool), false), ((!eqF r6.fst (0 : Int) : Bool), true), ((!eqF r2.snd.fst r6.fst : Bool), false), ((!eqF r6.fst (0 : Int) : Bool), true), ((!eqF r2.snd.fst r6.fst : Bool), false), ((!eqF r2.snd.fst r6.fst : Bool), false), ((!eqF r2.snd.fst r6.fst : Bool), false), ((!eqF r6.fst (0 : Int) : Bool), true), ((!eqF r6.fst (0 : Int) : Bool), true), ((!eqF r6.fst (0 : Int) : Bool), true), ((!eqF r6.fst (0 : Int) : Bool), true), (Option.isSome (f59 (x2, ())), true), (Option.isSome (f58 ((x1, (x1', ())), ())), true), ((eqF r5.fst (0 : Int) : Bool), true), (Option.isSome (f29 ((x0, (x0', ())), ())), true), (Option.isSome (f29 ((x0, (x0', ())), ())), true), (Option.isSome (f57 (((r1.fst.fst : Int), ((r1.fst.snd.fst : List Int), ())), (([] ++ x2 : List (Int × Int × PUnit)), ()))), true), ((Nat.beq ((0 : Nat) + List.length x2) (List.length ([] ++ x2)) : Bool), true), ((true : Bool), true), ((Nat.ble (((2 : Nat) * ((0 : Nat) + List.length x2) + (192 : Nat)) * (16 : Nat)) (281474976710656 : Nat) && Nat.ble ((0 : Nat) + List.length x2) (281474976710656 : Nat) : Bool), true), ((Nat.ble ((0 : Nat) + List.length x2) (0 : Nat) : Bool), false), ((Nat.beq (List.length x2) (0 : Nat) : Bool), false), (Option.isSome (f18 ((x0, (x0', ())), ())), true), (Option.isSome (f56 (((r1.fst.fst : Int), ((r1.fst.snd.fst : List Int), ())), ((x1, (x1', ())), ()))), true), (Option.isSome (f18 ((x0, (x0', ())), ())), true), ((!leF (↑(List.length x2) : Int) (8 : Int) : Bool), false), ((!r0.fst : Bool), false), ((!r0.fst : Bool), false), ((!r0.fst : Bool), false), ((!r0.fst : Bool), false), (Option.isSome (f16 ((x0, (x0', ())), ())), true), ((false : Bool), false), ((true : Bool), true)])) := by kernel_rfl
theorem e8_24 (x0 : Int) (x0' : (List Int)) (x1 : Int) (x1' : Int) (x2 : (List (Int × (Int × Unit)))) : runPure kf61.orc Go.Proofs.Try.prog 400 8 as8 rs8 ((x0, x0', ()), (x1, x1', ()), x2, ()) [true, false, true, false, false, false, false, false, true, true, true, false, false, true, true, true, true, true, true, true, true, true, true, true, true, true, false, false, false, true, false, true, false, false, false, false, false, false, false, false, false, false, false, false, false, false, false, false, false, false, false] =
    (let r0 : Bool × PUnit := g16 ((x0, (x0', ())), ()); let r1 : (Int × List Int × PUnit) × PUnit := g18 ((x0, (x0', ())), ()); let r5 : Int × PUnit := g29 ((x0, (x0', ())), ()); let r6 : Int × PUnit := g58 ((x1, (x1', ())), ()); let r2 : List Int × Int × PUnit := g56 (((r1.fst.fst : Int), ((r1.fst.snd.fst : List Int), ())), ((x1, (x1', ())), ())); let r7 : Int × PUnit := g59 (x2, ()); let r4 : List Int × Int × PUnit := g57 (((r1.fst.fst : Int), ((r1.fst.snd.fst : List Int), ())), (([] ++ x2 : List (Int × Int × PUnit)), ())); some (((false : Bool), ()), [((eqF r4.snd.fst (0 : Int) : Bool), false), ((eqF r4.snd.fst (0 : Int) : Bool), false), ((eqF r4.snd.fst (0 : Int) : Bool), false), ((eqF r4.snd.fst (0 : Int) : Bool), false), ((eqF r4.snd.fst (0 : Int) : Bool), false), ((eqF r4.snd.fst (0 : Int) : Bool), false), ((eqF r4.snd.fst (0 : Int) : Bool), false), ((!eqF r7.fst (0 : Int) : Bool), false), ((false : Bool), false), ((!eqF (↑(List.length r2.fst) : Int) (0 : Int) : Bool), false), ((eqF r6.fst (0 : Int) : Bool), false), ((!eqF (↑(List.length r2.fst) : Int) (0 : Int) : Bool), false), ((eqF r6.fst (0 : Int) : Bool), false), ((eqF r6.fst (0 : Int) : Bool), false), ((eqF r6.fst (0 : Int) : Bool), false), ((eqF r6.fst (0 : Int) : Bool), false), ((!eqF (↑(List.length r2.fst) : Int) (0 : Int) : Bool), false), ((!eqF (↑(List.length r2.fst) : Int) (0 : Int) : Bool), false), ((!eqF (↑(List.length r2.fst) : Int) (0 : Int) : Bool), false), ((!eqF r6.fst (0 : Int) : Bool), true), ((!eqF r2.snd.fst r6.fst : Bool), false), ((!eqF r6.fst (0 : Int) : Bool), true), ((!eqF r2.snd.fst r6.fst : Bool), false), ((!eqF r2.snd.fst r6.fst : Bool), false), ((!eqF r2.snd.fst r6.fst : Bool), false), ((!eqF r6.fst (0 : Int) : Bool), true), ((!eqF r6.fst (0 : Int) : Bool), true), ((!eqF r6.fst (0 : Int) : Bool), true), ((!eqF r6.fst (0 : Int) : Bool), true), (Option.isSome (f59 (x2, ())), true), (Option.isSome (f58 ((x1, (x1', ())), ())), true), ((eqF r5.fst (0 : Int) : Bool), true), (Option.isSome (f29 ((x0, (x0', ())), ())), true), (Option.isSome (f29 ((x0, (x0', ())), ())), true), (Option.isSome (f57 (((r1.fst.fst : Int), ((r1.fst.snd.fst : List Int), ())), (([] ++ x2 : List (Int × Int × PUnit)), ()))), true), ((Nat.beq ((0 : Nat) + List.length x2) (List.length ([] ++ x2)) : Bool), true), ((true : Bool), true), ((Nat.ble (((2 : Nat) * ((0 : Nat) + List.length x2) + (192 : Nat)) * (16 : Nat)) (281474976710656 : Nat) && Nat.ble ((0 : Nat) + List.length x2) (281474976710656 : Nat) : Bool), true), ((Nat.ble ((0 : Nat) + List.length x2) (0 : Nat) : Bool), false), ((Nat.beq (List.length x2) (0 : Nat) : Bool), false), (Option.isSome (f18 ((x0, (x0', ())), ())), true), (Option.isSome (f56 (((r1.fst.fst : Int), ((r1.fst.snd.fst : List Int), ())), ((x1, (x1', ())), ()))), true), (Option.isSome (f18 ((x0, (x0', ())), ())), true), ((!leF (↑(List.length x2) : Int) (8 : Int) : Bool), false), ((!r0.fst : Bool), false), ((!r0.fst : Bool), false), ((!r0.fst : Bool), false), ((!r0.fst : Bool), false), (Option.isSome (f16 ((x0, (x0', ())), ())), true), ((false : Bool), false), ((true : Bool), true)])) := by kernel_rfl
theorem e8_25 (x0 : Int) (x0' : (List Int)) (x1 : Int) (x1' : Int) (x2 : (List (Int × (Int × Unit)))) : runPure kf61.orc Go.Proofs.Try.prog 400 8 as8 rs8 ((x0, x0', ()), (x1, x1', ()), x2, ()) [true, false, true, false, false, false, false, false, true, true, true, false, false, true, true, true, true, true, true, true, true, true, false, false, false, false, false, false, false, false, false, true, true, true, true, true, true, true, true, true, true, true, true, false, true, false, true] =
    (let r0 : Bool × PUnit := g16 ((x0, (x0', ())), ()); let r1 : (Int × List Int × PUnit) × PUnit := g18 ((x0, (x0', ())), ()); let r5 : Int × PUnit := g29 ((x0, (x0', ())), ()); let r6 : Int × PUnit := g58 ((x1, (x1', ())), ()); let r2 : List Int × Int × PUnit := g56 (((r1.fst.fst : Int), ((r1.fst.snd.fst : List Int), ())), ((x1, (x1', ())), ())); some (((false : Bool), ()), [((true : Bool), true), ((false : Bool), false), ((eqF r6.fst (0 : Int) : Bool), true), ((false : Bool), false), ((!eqF r2.snd.fst (0 : Int) : Bool), true), ((eqF r6.fst (0 : Int) : Bool), true), ((!eqF r2.snd.fst (0 : Int) : Bool), true), ((!eqF r2.snd.fst (0 : Int) : Bool), true), ((!eqF r2.snd.fst (0 : Int) : Bool), true), ((!eqF r2.snd.fst (0 : Int) : Bool), true), ((!eqF r2.snd.fst (0 : Int) : Bool), true), ((!eqF r2.snd.fst (0 : Int) : Bool), true), ((!eqF r2.snd.fst (0 : Int) : Bool), true), ((eqF r6.fst (0 : Int) : Bool), true), ((eqF r6.fst (0 : Int) : Bool), true), ((eqF r6.fst (0 : Int) : Bool), true), ((false : Bool), false), ((false : Bool), false), ((false : Bool), false), ((!eqF r6.fst (0 : Int) : Bool), false), ((!eqF r6.fst (0 : Int) : Bool), false), ((!eqF r6.fst (0 : Int) : Bool), false), ((!eqF r6.fst (0 : Int) : Bool), false), ((!eqF r6.fst (0 : Int) : Bool), false), ((!eqF r6.fst (0 : Int) : Bool), false), (Option.isSome (f59 (x2, ())), true), (Option.isSome (f58 ((x1, (x1', ())), ())), true), ((eqF r5.fst (0 : Int) : Bool), true), (Option.isSome (f29 ((x0, (x0', ())), ())), true), (Option.isSome (f29 ((x0, (x0', ())), ())), true), (Option.isSome (f57 (((r1.fst.fst : Int), ((r1.fst.snd.fst : List Int), ())), (([] ++ x2 : List (Int × Int × PUnit)), ()))), true), ((Nat.beq ((0 : Nat) + List.length x2) (List.length ([] ++ x2)) : Bool), true), ((true : Bool), true), ((Nat.ble (((2 : Nat) * ((0 : Nat) + List.length x2) + (192 : Nat)) * (16 : Nat)) (281474976710656 : Nat) && Nat.ble ((0 : Nat) + List.length x2) (281474976710656 : Nat) : Bool), true), ((Nat.ble ((0 : Nat) + List.length x2) (0 : Nat) : Bool), false), ((Nat.beq (List.length x2) (0 : Nat) : Bool), false), (Option.isSome (f18 ((x0, (x0', ())), ())), true), (Option.isSome (f56 (((r1.fst.fst : Int), ((r1.fst.snd.fst : List Int), ())), ((x1, (x1', ())), ()))), true), (Option.isSome (f18 ((x0, (x0', ())), ())), true), ((!leF (↑(List.length x2) : Int) (8 : Int) : Bool), false), ((!r0.fst : Bool), false), ((!r0.fst : Bool), false), ((!r0.fst : Bool), false), ((!r0.fst : Bool), false), (Option.isSome (f16 ((x0, (x0', ())), ())), true), ((false : Bool), false), ((true : Bool), true)])) := by kernel_rfl
theorem e8_26 (x0 : Int) (x0' : (List Int)) (x1 : Int) (x1' : Int) (x2 : (List (Int × (Int × Unit)))) : runPure kf61.orc Go.Proofs.Try.prog 400 8 as8 rs8 ((x0, x0', ()), (x1, x1', ()), x2, ()) [true, false, true, false, false, false, false, false, true, true, true, false, false, true, true, true, true, true, true, true, true, true, false, false, false, false, false, false, false, false, false, true, true, true, false, false, false, false, false, true, false, true, false, true, false, false, true, false, true] =
    (let r0 : Bool × PUnit := g16 ((x0, (x0', ())), ()); let r1 : (Int × List Int × PUnit) × PUnit := g18 ((x0, (x0', ())), ()); let r5 : Int × PUnit := g29 ((x0, (x0', ())), ()); let r6 : Int × PUnit := g58 ((x1, (x1', ())), ()); let r2 : List Int × Int × PUnit := g56 (((r1.fst.fst : Int), ((r1.fst.snd.fst : List Int), ())), ((x1, (x1', ())), ())); let r8 : List Int × PUnit := g60 (x0', ((x1, (x1', ())), ())); let r9 : Bool × PUnit := g23 ((r2.fst : List Int), ((r8.fst : List Int), ())); some (((false : Bool), ()), [((!r9.fst : Bool), true), ((false : Bool), false), ((eqF r6.fst (0 : Int) : Bool), true), ((false : Bool), false), ((!eqF r2.snd.fst (0 : Int) : Bool), false), ((eqF r6.fst (0 : Int) : Bool), true), ((!eqF r2.snd.fst (0 : Int) : Bool), false), (Option.isSome (f23 ((r2.fst : List Int), ((r8.fst : List Int), ()))), true), ((!eqF r2.snd.fst (0 : Int) : Bool), false), (Option.isSome (f60 (x0', ((x1, (x1', ())), ()))), true), ((!eqF r2.snd.fst (0 : Int) : Bool), false), ((!eqF r2.snd.fst (0 : Int) : Bool), false), ((!eqF r2.snd.fst (0 : Int) : Bool), false), ((!eqF r2.snd.fst (0 : Int) : Bool), false), ((!eqF r2.snd.fst (0 : Int) : Bool), false), ((eqF r6.fst (0 : Int) : Bool), true), ((eqF r6.fst (0 : Int) : Bool), true), ((eqF r6.fst (0 : Int) : Bool), true), ((false : Bool), false), ((false : Bool), false), ((false : Bool), false), ((!eqF r6.fst (0 : Int) : Bool), false), ((!eqF r6.fst (0 : Int) : Bool), false), ((!eqF r6.fst (0 : Int) : Bool), false), ((!eqF r6.fst (0 : Int) : Bool), false), ((!eqF r6.fst (0 : Int) : Bool), false), ((!eqF r6.fst (0 : Int) : Bool), false), (Option.isSome (f59 (x2, ())), true), (Option.isSome (f58 ((x1, (x1', ())), ())), true), ((eqF r5.fst (0 : Int) : Bool), true), (Option.isSome (f29 ((x0, (x0', ())), ())), true), (Option.isSome (f29 ((x0, (x0', ())), ())), true), (Option.isSome (f57 (((r1.fst.fst : Int), ((r1.fst.snd.fst : List Int), ())), (([] ++ x2 : List (Int × Int × PUnit)), ()))), true), ((Nat.beq ((0 : Nat) + List.length x2) (List.length ([] ++ x2)) : Bool), true), ((true : Bool), true), ((Nat.ble (((2 : Nat) * ((0 : Nat) + List.length x2) + (192 : Nat)) * (16 : Nat)) (281474976710656 : Nat) && Nat.ble ((0 : Nat) + List.length x2) (281474976710656 : Nat) : Bool), true), ((Nat.ble ((0 : Nat) + List.length x2) (0 : Nat) : Bool), false), ((Nat.beq (List.length x2) (0 : Nat) : Bool), false), (Option.isSome (f18 ((x0, (x0', ())), ())), true), (Option.isSome (f56 (((r1.fst.fst : Int), ((r1.fst.snd.fst : List Int), ())), ((x1, (x1', ())), ()))), true), (Option.isSome (f18 ((x0, (x0', ())), ())), true), ((!leF (↑(List.length x2) : Int) (8 : Int) : Bool), false), ((!r0.fst : Bool), false), ((!r0.fst : Bool), false), ((!r0.fst : Bool), false), ((!r0.fst : Bool), false), (Option.isSome (f16 ((x0, (x0', ())), ())), true), ((false : Bool), false), ((true : Bool), true)])) := by kernel_rfl
theorem e8_27 (x0 : Int) (x0' : (List Int)) (x1 : Int) (x1' : Int) (x2 : (List (Int × (Int × Unit)))) : runPure kf61.orc Go.Proofs.Try.prog 400 8 as8 rs8 ((x0, x0', ()), (x1, x1', ()), x2, ()) [true, false, true, false, false, false, false, false, true, true, true, false, false, true, true, true, true, true, true, true, true, true, false, false, false, false, false, false, false, false, false, true, true, true, false, false, false, false, false, true, false, true, false, true, false, false, true, false, false, true, true, true, true, true] =
    (let r0 : Bool × PUnit := g16 ((x0, (x0', ())), ()); let r1 : (Int × List Int × PUnit) × PUnit := g18 ((x0, (x0', ())), ()); let r5 : Int × PUnit := g29 ((x0, (x0', ())), ()); let r6 : Int × PUnit := g58 ((x1, (x1', ())), ()); let r2 : List Int × Int × PUnit := g56 (((r1.fst.fst : Int), ((r1.fst.snd.fst : List Int), ())), ((x1, (x1', ())), ())); let r8 : List Int × PUnit := g60 (x0', ((x1, (x1', ())), ())); let r9 : Bool × PUnit := g23 ((r2.fst : List Int), ((r8.fst : List Int), ())); let r7 : Int × PUnit := g59 (x2, ()); let r4 : List Int × Int × PUnit := g57 (((r1.fst.fst : Int), ((r1.fst.snd.fst : List Int), ())), (([] ++ x2 : List (Int × Int × PUnit)), ())); some (((eqF (↑(List.length r4.fst) : Int) (0 : Int) : Bool), ()), [((eqF r4.snd.fst r7.fst : Bool), true), ((eqF r4.snd.fst r7.fst : Bool), true), ((eqF r4.snd.fst r7.fst : Bool), true), ((eqF r4.snd.fst r7.fst : Bool), true), ((!eqF r7.fst (0 : Int) : Bool), true), ((!r9.fst : Bool), false), ((false : Bool), false), ((eqF r6.fst (0 : Int) : Bool), true), ((false : Bool), false), ((!eqF r2.snd.fst (0 : Int) : Bool), false), ((eqF r6.fst (0 : Int) : Bool), true), ((!eqF r2.snd.fst (0 : Int) : Bool), false), (Option.isSome (f23 ((r2.fst : List Int), ((r8.fst : List Int), ()))), true), ((!eqF r2.snd.fst (0 : Int) : Bool), false), (Option.isSome (f60 (x0', ((x1, (x1', ())), ()))), true), ((!eqF r2.snd.fst (0 : Int) : Bool), false), ((!eqF r2.snd.fst (0 : Int) : Bool), false), ((!eqF r2.snd.fst (0 : Int) : Bool), false), ((!eqF r2.snd.fst (0 : Int) : Bool), false), ((!eqF r2.snd.fst (0 : Int) : Bool), false), ((eqF r6.fst (0 : Int) : Bool), true), ((eqF r6.fst (0 : Int) : Bool), true), ((eqF r6.fst (0 : Int) : Bool), true), ((false : Bool), false), ((false : Bool), false), ((false : Bool), false), ((!eqF r6.fst (0 : Int) : Bool), false), ((!eqF r6.fst (0 : Int) : Bool), false), ((!eqF r6.fst (0 : Int) : Bool), false), ((!eqF r6.fst (0 : Int) : Bool), false), ((!eqF r6.fst (0 : Int) : Bool), false), ((!eqF r6.fst (0 : Int) : Bool), false), (Option.isSome (f59 (x2, ())), true), (Option.isSome (f58 ((x1, (x1', ())), ())), true), ((eqF r5.fst (0 : Int) : Bool), true), (Option.isSome (f29 ((x0, (x0', ())), ())), true), (Option.isSome (f29 ((x0, (x0', ())), ())), true), (Option.isSome (f57 (((r1.fst.fst : Int), ((r1.fst.snd.fst : List Int), ())), (([] ++ x2 : List (Int × Int × PUnit)), ()))), true), ((Nat.beq ((0 : Nat) + List.length x2) (List.length ([] ++ x2)) : Bool), true), ((true : Bool), true), ((Nat.ble (((2 : Nat) * ((0 : Nat) + List.length x2) + (192 : Nat)) * (16 : Nat)) (281474976710656 : Nat) && Nat.ble ((0 : Nat) + List.length x2) (281474976710656 : Nat) : Bool), true), ((Nat.ble ((0 : Nat) + List.length x2) (0 : Nat) : Bool), false), ((Nat.beq (List.length x2) (0 : Nat) : Bool), false), (Option.isSome (f18 ((x0, (x0', ())), ())), true), (Option.isSome (f56 (((r1.fst.fst : Int), ((r1.fst.snd.fst : List Int), ())), ((x1, (x1', ())), ()))), true), (Option.isSome (f18 ((x0, (x0', ())), ())), true), ((!leF (↑(List.length x2) : Int) (8 : Int) : Bool), false), ((!r0.fst : Bool), false), ((!r0.fst : Bool), false), ((!r0.fst : Bool), false), ((!r0.fst : Bool), false), (Option.isSome (f16 ((x0, (x0', ())), ())), true), ((false : Bool), false), ((true : Bool), true)])) := by kernel_rfl
theorem e8_28 (x0 : Int) (x0' : (List Int)) (x1 : Int) (x1' : Int) (x2 : (List (Int × (Int × Unit)))) : runPure kf61.orc Go.Proofs.Try.prog 400 8 as8 rs8 ((x0, x0', ()), (x1, x1', ()), x2, ()) [true, false, true, false, false, false, false, false, true, true, true, false, false, true, true, true, true, true, true, true, true, true, false, false, false, false, false, false, false, false, false, true, true, true, false, false, false, false, false, true, false, true, false, true, false, false, true, false, false, true, false, false, false, false] =
    (let r0 : Bool × PUnit := g16 ((x0, (x0', ())), ()); let r1 : (Int × List Int × PUnit) × PUnit := g18 ((x0, (x0', ())), ()); let r5 : Int × PUnit := g29 ((x0, (x0', ())), ()); let r6 : Int × PUnit := g58 ((x1, (x1', ())), ()); let r2 : List Int × Int × PUnit := g56 (((r1.fst.fst : Int), ((r1.fst.snd.fst : List Int), ())), ((x1, (x1', ())), ())); let r8 : List Int × PUnit := g60 (x0', ((x1, (x1', ())), ())); let r9 : Bool × PUnit := g23 ((r2.fst : List Int), ((r8.fst : List Int), ())); let r7 : Int × PUnit := g59 (x2, ()); let r4 : List Int × Int × PUnit := g57 (((r1.fst.fst : Int), ((r1.fst.snd.fst : List Int), ())), (([] ++ x2 : List (Int × Int × PUnit)), ())); some (((false : Bool), ()), [((eqF r4.snd.fst r7.fst : Bool), false), ((eqF r4.snd.fst r7.fst : Bool), false), ((eqF r4.snd.fst r7.fst : Bool), false), ((eqF r4.snd.fst r7.fst : Bool), false), ((!eqF r7.fst (0 : Int) : Bool), true), ((!r9.fst : Bool), false), ((false : Bool), false), ((eqF r6.fst (0 : Int) : Bool), true), ((false : Bool), false), ((!eqF r2.snd.fst (0 : Int) : Bool), false), ((eqF r6.fst (0 : Int) : Bool), true), ((!eqF r2.snd.fst (0 : Int) : Bool), false), (Option.isSome (f23 ((r2.fst : List Int), ((r8.fst : List Int), ()))), true), ((!eqF r2.snd.fst (0 : Int) : Bool), false), (Option.isSome (f60 (x0', ((x1, (x1', ())), ()))), true), ((!eqF r2.snd.fst (0 : Int) : Bool), false), ((!eqF r2.snd.fst (0 : Int) : Bool), false), ((!eqF r2.snd.fst (0 : Int) : Bool), false), ((!eqF r2.snd.fst (0 : Int) : Bool), false), ((!eqF r2.snd.fst (0 : Int) : Bool), false), ((eqF r6.fst (0 : Int) : Bool), true), ((eqF r6.fst (0 : Int) : Bool), true), ((eqF r6.fst (0 : Int) : Bool), true), ((false : Bool), false), ((false : Bool), false), ((false : Bool), false), ((!eqF r6.fst (0 : Int) : Bool), false), ((!eqF r6.fst (0 : Int) : Bool), false), ((!eqF r6.fst (0 : Int) : Bool), false), ((!eqF r6.fst (0 : Int) : Bool), false), ((!eqF r6.fst (0 : Int) : Bool), false), ((!eqF r6.fst (0 : Int) : Bool), false), (Option.isSome (f59 (x2, ())), true), (Option.isSome (f58 ((x1, (x1', ())), ())), true), ((eqF r5.fst (0 : Int) : Bool), true), (Option.isSome (f29 ((x0, (x0', ())), ())), true), (Option.isSome (f29 ((x0, (x0', ())), ())), true), (Option.isSome (f57 (((r1.fst.fst : Int), ((r1.fst.snd.fst : List Int), ())), (([] ++ x2 : List (Int × Int × PUnit)), ()))), true), ((Nat.beq ((0 : Nat) + List.length x2) (List.length ([] ++ x2)) : Bool), true), ((true : Bool), true), ((Nat.ble (((2 : Nat) * ((0 : Nat) + List.length x2) + (192 : Nat)) * (16 : Nat)) (281474976710656 : Nat) && Nat.ble ((0 : Nat) + List.length x2) (281474976710656 : Nat) : Bool), true), ((Nat.ble ((0 : Nat) + List.length x2) (0 : Nat) : Bool), false), ((Nat.beq (List.length x2) (0 : Nat) : Bool), false), (Option.isSome (f18 ((x0, (x0', ())), ())), true), (Option.isSome (f56 (((r1.fst.fst : Int), ((r1.fst.snd.fst : List Int), ())), ((x1, (x1', ())), ()))), true), (Option.isSome (f18 ((x0, (x0', ())), ())), true), ((!leF (↑(List.length x2) : Int) (8 : Int) : Bool), false), ((!r0.fst : Bool), false), ((!r0.fst : Bool), false), ((!r0.fst : Bool), false), ((!r0.fst : Bool), false), (Option.isSome (f16 ((x0, (x0', ())), ())), true), ((false : Bool), false), ((true : Bool), true)])) := by kernel_rfl
theorem e8_29 (x0 : Int) (x0' : (List Int)) (x1 : Int) (x1' : Int) (x2 : (List (Int × (Int × Unit)))) : runPure kf61.orc Go.Proofs.Try.prog 400 8 as8 rs8 ((x0, x0', ()), (x1, x1', ()), x2, ()) [true, false, true, false, false, false, false, false, true, true, true, false, false, true, true, true, true, true, true, true, true, true, false, false, false, false, false, false, false, false, false, true, true, true, false, false, false, false, false, true, false, true, false, true, false, false, true, false, false, false, true, true, true, true, true, true, true, true, true] =
    (let r0 : Bool × PUnit := g16 ((x0, (x0', ())), ()); let r1 : (Int × List Int × PUnit) × PUnit := g18 ((x0, (x0', ())), ()); let r5 : Int × PUnit := g29 ((x0, (x0', ())), ()); let r6 : Int × PUnit := g58 ((x1, (x1', ())), ()); let r2 : List Int × Int × PUnit := g56 (((r1.fst.fst : Int), ((r1.fst.snd.fst : List Int), ())), ((x1, (x1', ())), ())); let r8 : List Int × PUnit := g60 (x0', ((x1, (x1', ())), ())); let r9 : Bool × PUnit := g23 ((r2.fst : List Int), ((r8.fst : List Int), ())); let r7 : Int × PUnit := g59 (x2, ()); let r4 : List Int × Int × PUnit := g57 (((r1.fst.fst : Int), ((r1.fst.snd.fst : List Int), ())), (([] ++ x2 : List (Int × Int × PUnit)), ())); let r10 : List Int × PUnit := g61 (x0', (x2, ())); let r12 : Bool × PUnit := g23 ((r4.fst : List Int), ((r10.fst : List Int), ())); some (((r12.fst : Bool), ()), [((eqF r4.snd.fst (0 : Int) : Bool), true), (Option.isSome (f23 ((r4.fst : List Int), ((r10.fst : List Int), ()))), true), ((eqF r4.snd.fst (0 : Int) : Bool), true), (Option.isSome (f61 (x0', (x2, ()))), true), ((eqF r4.snd.fst (0 : Int) : Bool), true), ((eqF r4.snd.fst (0 : Int) : Bool), true), ((eqF r4.snd.fst (0 : Int) : Bool), true), ((eqF r4.snd.fst (0 : Int) : Bool), true), ((eqF r4.snd.fst (0 : Int) : Bool), true), ((!eqF r7.fst (0 : Int) : Bool), false), ((!r9.fst : Bool), false), ((false : Bool), false), ((eqF r6.fst (0 : Int) : Bool), true), ((false : Bool), false), ((!eqF r2.snd.fst (0 : Int) : Bool), false), ((eqF r6.fst (0 : Int) : Bool), true), ((!eqF r2.snd.fst (0 : Int) : Bool), false), (Option.isSome (f23 ((r2.fst : List Int), ((r8.fst : List Int), ()))), true), ((!eqF r2.snd.fst (0 : Int) : Bool), false), (Option.isSome (f60 (x0', ((x1, (x1', ())), ()))), true), ((!eqF r2.snd.fst (0 : Int) : Bool), false), ((!eqF r2.snd.fst (0 : Int) : Bool), false), ((!eqF r2.snd.fst (0 : Int) : Bool), false), ((!eqF r2.snd.fst (0 : Int) : Bool), false), ((!eqF r2.snd.fst (0 : Int) : Bool), false), ((eqF r6.fst (0 : Int) : Bool), true), ((eqF r6.fst (0 : Int) : Bool), true), ((eqF r6.fst (0 : Int) : Bool), true), ((false : Bool), false), ((false : Bool), false), ((false : Bool), false), ((!eqF r6.fst (0 : Int) : Bool), false), ((!eqF r6.fst (0 : Int) : Bool), false), ((!eqF r6.fst (0 : Int) : Bool), false), ((!eqF r6.fst (0 : Int) : Bool), false), ((!eqF r6.fst (0 : Int) : Bool), false), ((!eqF r6.fst (0 : Int) : Bool), false), (Option.isSome (f59 (x2, ())), true), (Option.isSome (f58 ((x1, (x1', ())), ())), true), ((eqF r5.fst (0 : Int) : Bool), true), (Option.isSome (f29 ((x0, (x0', ())), ())), true), (Option.isSome (f29 ((x0, (x0', ())), ())), true), (Option.isSome (f57 (((r1.fst.fst : Int), ((r1.fst.snd.fst : List Int), ())), (([] ++ x2 : List (Int × Int × PUnit)), ()))), true), ((Nat.beq ((0 : Nat) + List.length x2) (List.length ([] ++ x2)) : Bool), true), ((true : Bool), true), ((Nat.ble (((2 : Nat) * ((0 : Nat) + List.length x2) + (192 : Nat)) * (16 : Nat)) (281474976710656 : Nat) && Nat.ble ((0 : Nat) + List.length x2) (281474976710656 : Nat) : Bool), true), ((Nat.ble ((0 : Nat) + List.length x2) (0 : Nat) : Bool), false), ((Nat.beq (List.length x2) (0 : Nat) : Bool), false), (Option.isSome (f18 ((x0, (x0', ())), ())), true), (Option.isSome (f56 (((r1.fst.fst : Int), ((r1.fst.snd.fst : List Int), ())), ((x1, (x1', ())), ()))), true), (Option.isSome (f18 ((x0, (x0', ())), ())), true), ((!leF (↑(List.length x2) : Int) (8 : Int) : Bool), false), ((!r0.fst : Bool), false), ((!r0.fst : Bool), false), ((!r0.fst : Bool), false), ((!r0.fst : Bool), false), (Option.isSome (f16 ((x0, (x0', ())), ())), true), ((false : Bool), false), ((true : Bool), true)])) := by kernel_rfl
theorem e8_30 (x0 : Int) (x0' : (List Int)) (x1 : Int) (x1' : Int) (x2 : (List (Int × (Int × Unit)))) : runPure kf61.orc Go.Proofs.Try.prog 400 8 as8 rs8 ((x0, x0', ()), (x1, x1', ()), x2, ()) [true, false, true, false, false, false, false, false, true, true, true, false, false, true, true, true, true, true, true, true, true, true, false, false, false, false, false, false, false, false, false, true, true, true, false, false, false, false, false, true, false, true, false, true, false, false, true, false, false, false, false, false, false, false, false, false, false] =
    (let r0 : Bool × PUnit := g16 ((x0, (x0', ())), ()); let r1 : (Int × List Int × PUnit) × PUnit := g18 ((x0, (x0', ())), ()); let r5 : Int × PUnit := g29 ((x0, (x0', ())), ()); let r6 : Int × PUnit := g58 ((x1, (x1', ())), ()); let r2 : List Int × Int × PUnit := g56 (((r1.fst.fst : Int), ((r1.fst.snd.fst : List Int), ())), ((x1, (x1', ())), ())); let r8 : List Int × PUnit := g60 (x0', ((x1, (x1', ())), ())); let r9 : Bool × PUnit := g23 ((r2.fst : List Int), ((r8.fst : List Int), ())); let r7 : Int × PUnit := g59 (x2, ()); let r4 : List Int × Int × PUnit := g57 (((r1.fst.fst : Int), ((r1.fst.snd.fst : List Int), ())), (([] ++ x2 : List (Int × Int × PUnit)), ())); some (((false : Bool), ()), [((eqF r4.snd.fst (0 : Int) : Bool), false), ((eqF r4.snd.fst (0 : Int) : Bool), false), ((eqF r4.snd.fst (0 : Int) : Bool), false), ((eqF r4.snd.fst (0 : Int) : Bool), false), ((eqF r4.snd.fst (0 : Int) : Bool), false), ((eqF r4.snd.fst (0 : Int) : Bool), false), ((eqF r4.snd.fst (0 : Int) : Bool), false), ((!eqF r7.fst (0 : Int) : Bool), false), ((!r9.fst : Bool), false), ((false : Bool), false), ((eqF r6.fst (0 : Int) : Bool), true), ((false : Bool), false), ((!eqF r2.snd.fst (0 : Int) : Bool), false), ((eqF r6.fst (0 : Int) : Bool), true), ((!eqF r2.snd.fst (0 : Int) : Bool), false), (Option.isSome (f23 ((r2.fst : List Int), ((r8.fst : List Int), ()))), true), ((!eqF r2.snd.fst (0 : Int) : Bool), false), (Option.isSome (f60 (x0', ((x1, (x1', ())), ()))), true), ((!eqF r2.snd.fst (0 : Int) : Bool), false), ((!eqF r2.snd.fst (0 : Int) : Bool), false), ((!eqF r2.snd.fst (0 : Int) : Bool), false), ((!eqF r2.snd.fst (0 : Int) : Bool), false), ((!eqF r2.snd.fst (0 : Int) : Bool), false), ((eqF r6.fst (0 : Int) : Bool), true), ((eqF r6.fst (0 : Int) : Bool), true), ((eqF r6.fst (0 : Int) : Bool), true), ((false : Bool), false), ((false : Bool), false), ((false : Bool), false), ((!eqF r6.fst (0 : Int) : Bool), false), ((!eqF r6.fst (0 : Int) : Bool), false), ((!eqF r6.fst (0 : Int) : Bool), false), ((!eqF r6.fst (0 : Int) : Bool), false), ((!eqF r6.fst (0 : Int) : Bool), false), ((!eqF r6.fst (0 : Int) : Bool), false), (Option.isSome (f59 (x2, ())), true), (Option.isSome (f58 ((x1, (x1', ())), ())), true), ((eqF r5.fst (0 : Int) : Bool), true), (Option.isSome (f29 ((x0, (x0', ())), ())), true), (Option.isSome (f29 ((x0, (x0', ())), ())), true), (Option.isSome (f57 (((r1.fst.fst : Int), ((r1.fst.snd.fst : List Int), ())), (([] ++ x2 : List (Int × Int × PUnit)), ()))), true), ((Nat.beq ((0 : Nat) + List.length x2) (List.length ([] ++ x2)) : Bool), true), ((true : Bool), true), ((Nat.ble (((2 : Nat) * ((0 : Nat) + List.length x2) + (192 : Nat)) * (16 : Nat)) (281474976710656 : Nat) && Nat.ble ((0 : Nat) + List.length x2) (281474976710656 : Nat) : Bool), true), ((Nat.ble ((0 : Nat) + List.length x2) (0 : Nat) : Bool), false), ((Nat.beq (List.length x2) (0 : Nat) : Bool), false), (Option.isSome (f18 ((x0, (x0', ())), ())), true), (Option.isSome (f56 (((r1.fst.fst : Int), ((r1.fst.snd.fst : List Int), ())), ((x1, (x1', ())), ()))), true), (Option.isSome (f18 ((x0, (x0', ())), ())), true), ((!leF (↑(List.length x2) : Int) (8 : Int) : Bool), false), ((!r0.fst : Bool), false), ((!r0.fst : Bool), false), ((!r0.fst : Bool), false), ((!r0.fst : Bool), false), (Option.isSome (f16 ((x0, (x0', ())), ())), true), ((false : Bool), false), ((true : Bool), true)])) := by kernel_rfl
theorem e8_31 (x0 : Int) (x0' : (List Int)) (x1 : Int) (x1' : Int) (x2 : (List (Int × (Int × Unit)))) : runPure kf61.orc Go.Proofs.Try.prog 400 8 as8 rs8 ((x0, x0', ()), (x1, x1', ()), x2, ()) [true, false, true, false, false, false, false, false, true, true, true, false, false, true, true, true, true, true, true, false, true, true, true, true, true, true, true, true, true, true, true, true, true, true, true, true] =
    (let r0 : Bool × PUnit := g16 ((x0, (x0', ())), ()); let r1 : (Int × List Int × PUnit) × PUnit := g18 ((x0, (x0', ())), ()); let r5 : Int × PUnit := g29 ((x0, (x0', ())), ()); let r2 : List Int × Int × PUnit := g56 (((r1.fst.fst : Int), ((r1.fst.snd.fst : List Int), ())), ((x1, (x1', ())), ())); some (((false : Bool), ()), [((true : Bool), true), ((true : Bool), true), ((true : Bool), true), ((true : Bool), true), ((true : Bool), true), ((true : Bool), true), ((!eqF r5.fst (0 : Int) : Bool), true), ((!eqF r2.snd.fst r5.fst : Bool), true), ((!eqF r5.fst (0 : Int) : Bool), true), ((!eqF r2.snd.fst r5.fst : Bool), true), ((!eqF r2.snd.fst r5.fst : Bool), true), ((!eqF r2.snd.fst r5.fst : Bool), true), ((!eqF r5.fst (0 : Int) : Bool), true), ((!eqF r5.fst (0 : Int) : Bool), true), ((!eqF r5.fst (0 : Int) : Bool), true), ((!eqF r5.fst (0 : Int) : Bool), true), ((eqF r5.fst (0 : Int) : Bool), false), (Option.isSome (f29 ((x0, (x0', ())), ())), true), (Option.isSome (f29 ((x0, (x0', ())), ())), true), (Option.isSome (f57 (((r1.fst.fst : Int), ((r1.fst.snd.fst : List Int), ())), (([] ++ x2 : List (Int × Int × PUnit)), ()))), true), ((Nat.beq ((0 : Nat) + List.length x2) (List.length ([] ++ x2)) : Bool), true), ((true : Bool), true), ((Nat.ble (((2 : Nat) * ((0 : Nat) + List.length x2) + (192 : Nat)) * (16 : Nat)) (281474976710656 : Nat) && Nat.ble ((0 : Nat) + List.length x2) (281474976710656 : Nat) : Bool), true), ((Nat.ble ((0 : Nat) + List.length x2) (0 : Nat) : Bool), false), ((Nat.beq (List.length x2) (0 : Nat) : Bool), false), (Option.isSome (f18 ((x0, (x0', ())), ())), true), (Option.isSome (f56 (((r1.fst.fst : Int), ((r1.fst.snd.fst : List Int), ())), ((x1, (x1', ())), ()))), true), (Option.isSome (f18 ((x0, (x0', ())), ())), true), ((!leF (↑(List.length x2) : Int) (8 : Int) : Bool), false), ((!r0.fst : Bool), false), ((!r0.fst : Bool), false), ((!r0.fst : Bool), false), ((!r0.fst : Bool), false), (Option.isSome (f16 ((x0, (x0', ())), ())), true), ((false : Bool), false), ((true : Bool), true)])) := by kernel_rfl
theorem e8_32 (x0 : Int) (x0' : (List Int)) (x1 : Int) (x1' : Int) (x2 : (List (Int × (Int × Unit)))) : runPure kf61.orc Go.Proofs.Try.prog 400 8 as8 rs8 ((x0, x0', ()), (x1, x1', ()), x2, ()) [true, false, true, false, false, false, false, false, true, true, true, false, false, true, true, true, true, true, true, false, true, true, true, true, false, false, false, true, false, true, true, true, true, true, true, true] =
    (let r0 : Bool × PUnit := g16 ((x0, (x0', ())), ()); let r1 : (Int × List Int × PUnit) × PUnit := g18 ((x0, (x0', ())), ()); let r5 : Int × PUnit := g29 ((x0, (x0', ())), ()); let r2 : List Int × Int × PUnit := g56 (((r1.fst.fst : Int), ((r1.fst.snd.fst : List Int), ())), ((x1, (x1', ())), ())); some (((false : Bool), ()), [((true : Bool), true), ((!eqF (↑(List.length r2.fst) : Int) (0 : Int) : Bool), true), ((!eqF (↑(List.length r2.fst) : Int) (0 : Int) : Bool), true), ((!eqF (↑(List.length r2.fst) : Int) (0 : Int) : Bool), true), ((!eqF (↑(List.length r2.fst) : Int) (0 : Int) : Bool), true), ((!eqF (↑(List.length r2.fst) : Int) (0 : Int) : Bool), true), ((!eqF r5.fst (0 : Int) : Bool), true), ((!eqF r2.snd.fst r5.fst : Bool), false), ((!eqF r5.fst (0 : Int) : Bool), true), ((!eqF r2.snd.fst r5.fst : Bool), false), ((!eqF r2.snd.fst r5.fst : Bool), false), ((!eqF r2.snd.fst r5.fst : Bool), false), ((!eqF r5.fst (0 : Int) : Bool), true), ((!eqF r5.fst (0 : Int) : Bool), true), ((!eqF r5.fst (0 : Int) : Bool), true), ((!eqF r5.fst (0 : Int) : Bool), true), ((eqF r5.fst (0 : Int) : Bool), false), (Option.isSome (f29 ((x0, (x0', ())), ())), true), (Option.isSome (f29 ((x0, (x0', ())), ())), true), (Option.isSome (f57 (((r1.fst.fst : Int), ((r1.fst.snd.fst : List Int), ())), (([] ++ x2 : List (Int × Int × PUnit)), ()))), true), ((Nat.beq ((0 : Nat) + List.length x2) (List.length ([] ++ x2)) : Bool), true), ((true : Bool), true), ((Nat.ble (((2 : Nat) * ((0 : Nat) + List.length x2) + (192 : Nat)) * (16 : Nat)) (281474976710656 : Nat) && Nat.ble ((0 : Nat) + List.length x2) (281474976710656 : Nat) : Bool), true), ((Nat.ble ((0 : Nat) + List.length x2) (0 : Nat) : Bool), false), ((Nat.beq (List.length x2) (0 : Nat) : Bool), false), (Option.isSome (f18 ((x0, (x0', ())), ())), true), (Option.isSome (f56 (((r1.fst.fst : Int), ((r1.fst.snd.fst : List Int), ())), ((x1, (x1', ())), ()))), true), (Option.isSome (f18 ((x0, (x0', ())), ())), true), ((!leF (↑(List.length x2) : Int) (8 : Int) : Bool), false), ((!r0.fst : Bool), false), ((!r0.fst : Bool), false), ((!r0.fst : Bool), false), ((!r0.fst : Bool), false), (Option.isSome (f16 ((x0, (x0', ())), ())), true), ((false : Bool), false), ((true : Bool), true)])) := by kernel_rfl
theorem e8_33 (x0 : Int) (x0' : (List Int)) (x1 : Int) (x1' : Int) (x2 : (List (Int × (Int × Unit)))) : runPure kf61.orc Go.Proofs.Try.prog 400 8 as8 rs8 ((x0, x0', ()), (x1, x1', ()), x2, ()) [true, false, true, false, false, false, false, false, true, true, true, false, false, true, true, true, true, true, true, false, true, true, true, true, false, false, false, true, false, true, false, false, false, false, false, false, false, false, false, false, false, true, true, true, true, true] =
    (let r0 : Bool × PUnit := g16 ((x0, (x0', ())), ()); let r1 : (Int × List Int × PUnit) × PUnit := g18 ((x0, (x0', ())), ()); let r5 : Int × PUnit := g29 ((x0, (x0', ())), ()); let r2 : List Int × Int × PUnit := g56 (((r1.fst.fst : Int), ((r1.fst.snd.fst : List Int), ())), ((x1, (x1', ())), ())); let r4 : List Int × Int × PUnit := g57 (((r1.fst.fst : Int), ((r1.fst.snd.fst : List Int), ())), (([] ++ x2 : List (Int × Int × PUnit)), ())); some (((eqF (↑(List.length r4.fst) : Int) (0 : Int) : Bool), ()), [((eqF r4.snd.fst r5.fst : Bool), true), ((eqF r4.snd.fst r5.fst : Bool), true), ((eqF r4.snd.fst r5.fst : Bool), true), ((eqF r4.snd.fst r5.fst : Bool), true), ((!eqF r5.fst (0 : Int) : Bool), true), ((false : Bool), false), ((!eqF (↑(List.length r2.fst) : Int) (0 : Int) : Bool), false), ((eqF r5.fst (0 : Int) : Bool), false), ((!eqF (↑(List.length r2.fst) : Int) (0 : Int) : Bool), false), ((eqF r5.fst (0 : Int) : Bool), false), ((eqF r5.fst (0 : Int) : Bool), false), ((eqF r5.fst (0 : Int) : Bool), false), ((eqF r5.fst (0 : Int) : Bool), false), ((!eqF (↑(List.length r2.fst) : Int) (0 : Int) : Bool), false), ((!eqF (↑(List.length r2.fst) : Int) (0 : Int) : Bool), false), ((!eqF (↑(List.length r2.fst) : Int) (0 : Int) : Bool), false), ((!eqF r5.fst (0 : Int) : Bool), true), ((!eqF r2.snd.fst r5.fst : Bool), false), ((!eqF r5.fst (0 : Int) : Bool), true), ((!eqF r2.snd.fst r5.fst : Bool), false), ((!eqF r2.snd.fst r5.fst : Bool), false), ((!eqF r2.snd.fst r5.fst : Bool), false), ((!eqF r5.fst (0 : Int) : Bool), true), ((!eqF r5.fst (0 : Int) : Bool), true), ((!eqF r5.fst (0 : Int) : Bool), true), ((!eqF r5.fst (0 : Int) : Bool), true), ((eqF r5.fst (0 : Int) : Bool), false), (Option.isSome (f29 ((x0, (x0', ())), ())), true), (Option.isSome (f29 ((x0, (x0', ())), ())), true), (Option.isSome (f57 (((r1.fst.fst : Int), ((r1.fst.snd.fst : List Int), ())), (([] ++ x2 : List (Int × Int × PUnit)), ()))), true), ((Nat.beq ((0 : Nat) + List.length x2) (List.length ([] ++ x2)) : Bool), true), ((true : Bool), true), ((Nat.ble (((2 : Nat) * ((0 : Nat) + List.length x2) + (192 : Nat)) * (16 : Nat)) (281474976710656 : Nat) && Nat.ble ((0 : Nat) + List.length x2) (281474976710656 : Nat) : Bool), true), ((Nat.ble ((0 : Nat) + List.length x2) (0 : Nat) : Bool), false), ((Nat.beq (List.length x2) (0 : Nat) : Bool), false), (Option.isSome (f18 ((x0, (x0', ())), ())), true), (Option.isSome (f56 (((r1.fst.fst : Int), ((r1.fst.snd.fst : List Int), ())), ((x1, (x1', ())), ()))), true), (Option.isSome (f18 ((x0, (x0', ())), ())), true), ((!leF (↑(List.length x2) : Int) (8 : Int) : Bool), false), ((!r0.fst : Bool), false), ((!r0.fst : Bool), false), ((!r0.fst : Bool), false), ((!r0.fst : Bool), false), (Option.isSome (f16 ((x0, (x0', ())), ())), true), ((false : Bool), false), ((true : Bool), true)])) := by kernel_rfl
theorem e8_34 (x0 : Int) (x0' : (List Int)) (x1 : Int) (x1' : Int) (x2 : (List (Int × (Int × Unit)))) : runPure kf61.orc Go.Proofs.Try.prog 400 8 as8 rs8 ((x0, x0', ()), (x1, x1', ()), x2, ()) [true, false, true, false, false, false, false, false, true, true, true, false, false, true, true, true, true, true, true, false, true, true, true, true, false, false, false, true, false, true, false, false, false, false, false, false, false, false, false, false, false, true, false, false, false, false] =
    (let r0 : Bool × PUnit := g16 ((x0, (x0', ())), ()); let r1 : (Int × List Int × PUnit) × PUnit := g18 ((x0, (x0', ())), ()); let r5 : Int × PUnit := g29 ((x0, (x0', ())), ()); let r2 : List Int × Int × PUnit := g56 (((r1.fst.fst : Int), ((r1.fst.snd.fst : List Int), ())), ((x1, (x1', ())), ())); let r4 : List Int × Int × PUnit := g57 (((r1.fst.fst : Int), ((r1.fst.snd.fst : List Int), ())), (([] ++ x2 : List (Int × Int × PUnit)), ())); some (((false : Bool), ()), [((eqF r4.snd.fst r5.fst : Bool), false), ((eqF r4.snd.fst r5.fst : Bool), false), ((eqF r4.snd.fst r5.fst : Bool), false), ((eqF r4.snd.fst r5.fst : Bool), false), ((!eqF r5.fst (0 : Int) : Bool), true), ((false : Bool), false), ((!eqF (↑(List.length r2.fst) : Int) (0 : Int) : Bool), false), ((eqF r5.fst (0 : Int) : Bool), false), ((!eqF (↑(List.length r2.fst) : Int) (0 : Int) : Bool), false), ((eqF r5.fst (0 : Int) : Bool), false), ((eqF r5.fst (0 : Int) : Bool), false), ((eqF r5.fst (0 : Int) : Bool), false), ((eqF r5.fst (0 : Int) : Bool), false), ((!eqF (↑(List.length r2.fst) : Int) (0 : Int) : Bool), false), ((!eqF (↑(List.length r2.fst) : Int) (0 : Int) : Bool), false), ((!eqF (↑(List.length r2.fst) : Int) (0 : Int) : Bool), false), ((!eqF r5.fst (0 : Int) : Bool), true), ((!eqF r2.snd.fst r5.fst : Bool), false), ((!eqF r5.fst (0 : Int) : Bool), true), ((!eqF r2.snd.fst r5.fst : Bool), false), ((!eqF r2.snd.fst r5.fst : Bool), false), ((!eqF r2.snd.fst r5.fst : Bool), false), ((!eqF r5.fst (0 : Int) : Bool), true), ((!eqF r5.fst (0 : Int) : Bool), true), ((!eqF r5.fst (0 : Int) : Bool), true), ((!eqF r5.fst (0 : Int) : Bool), true), ((eqF r5.fst (0 : Int) : Bool), false), (Option.isSome (f29 ((x0, (x0', ())), ())), true), (Option.isSome (f29 ((x0, (x0', ())), ())), true), (Option.isSome (f57 (((r1.fst.fst : Int), ((r1.fst.snd.fst : List Int), ())), (([] ++ x2 : List (Int × Int × PUnit)), ()))), true), ((Nat.beq ((0 : Nat) + List.length x2) (List.length ([] ++ x2)) : Bool), true), ((true : Bool), true), ((Nat.ble (((2 : Nat) * ((0 : Nat) + List.length x2) + (192 : Nat)) * (16 : Nat)) (281474976710656 : Nat) && Nat.ble ((0 : Nat) + List.length x2) (281474976710656 : Nat) : Bool), true), ((Nat.ble ((0 : Nat) + List.length x2) (0 : Nat) : Bool), false), ((Nat.beq (List.length x2) (0 : Nat) : Bool), false), (Option.isSome (f18 ((x0, (x0', ())), ())), true), (Option.isSome (f56 (((r1.fst.fst : Int), ((r1.fst.snd.fst : List Int), ())), ((x1, (x1', ())), ()))), true), (Option.isSome (f18 ((x0, (x0', ())), ())), true), ((!leF (↑(List.length x2) : Int) (8 : Int) : Bool), false), ((!r0.fst : Bool), false), ((!r0.fst : Bool), false), ((!r0.fst : Bool), false), ((!r0.fst : Bool), false), (Option.isSome (f16 ((x0, (x0', ())), ())), true), ((false : Bool), false), ((true : Bool), true)])) := by kernel_rfl

theorem ok8_t (x0 : Int) (x0' : (List Int)) (x1 : Int) (x1' : Int) (x2 : (List (Int × (Int × Unit)))) : TrOk (PureRuns Go.Proofs.Try.prog kf61.orc 8 as8 rs8 ((x0, x0', ()), (x1, x1', ()), x2, ())) (t8 x0 x0' x1 x1' x2) :=
  TrOk.ofTest (fun h2 => TrOk.ofTest (fun h3 => TrOk.ofFin (PureRuns.of (e8_0 x0 x0' x1 x1' x2) (All.cons rfl (All.cons (not_of (of_not (h3))) (All.cons (not_of (of_not (h3))) (All.cons (not_of (of_not (h3))) (All.cons h3 (All.cons h2 (All.cons rfl (All.cons rfl (All.nil))))))))))) (fun h3 => TrOk.ofTest (fun h7 => TrOk.ofFin (PureRuns.of (e8_1 x0 x0' x1 x1' x2) (All.cons h7 (All.cons (not_of (of_not (h3))) (All.cons (not_of (of_not (h3))) (All.cons (not_of (of_not (h3))) (All.cons h3 (All.cons h2 (All.cons rfl (All.cons rfl (All.nil))))))))))) (fun h7 => TrOk.ofTest (fun h8 => TrOk.ofTest (fun h9 => TrOk.ofTest (fun h11 => TrOk.ofTest (fun h13 => TrOk.ofTest (fun h14 => TrOk.ofTest (fun h16 => TrOk.ofTest (fun h17 => TrOk.ofTest (fun h18 => TrOk.ofTest (fun h19 => TrOk.ofTest (fun h23 => TrOk.ofFin (PureRuns.of (e8_2 x0 x0' x1 x1' x2) (All.cons rfl (All.cons rfl (All.cons rfl (All.cons rfl (All.cons rfl (All.cons rfl (All.cons (not_of (of_not (h19))) (All.cons (not_of (of_not (h23))) (All.cons (not_of (of_not (h19))) (All.cons (not_of (of_not (h23))) (All.cons (not_of (of_not (h23))) (All.cons h23 (All.cons (not_of (of_not (h19))) (All.cons (not_of (of_not (h19))) (All.cons (not_of (of_not (h19))) (All.cons h19 (All.cons h18 (All.cons h17 (All.cons h16 (All.cons (h14) (All.cons h14 (All.cons h13 (All.cons rfl (All.cons h11 (All.cons (h8) (All.cons h9 (All.cons h8 (All.cons h7 (All.cons (not_of (of_not (h3))) (All.cons (not_of (of_not (h3))) (All.cons (not_of (of_not (h3))) (All.cons h3 (All.cons h2 (All.cons rfl (All.cons rfl (All.nil)))))))))))))))))))))))))))))))))))))) (fun h23 => TrOk.ofTest (fun h29 => TrOk.ofFin (PureRuns.of (e8_3 x0 x0' x1 x1' x2) (All.cons rfl (All.cons (not_of (of_not (h29))) (All.cons (not_of (of_not (h29))) (All.cons (not_of (of_not (h29))) (All.cons (not_of (of_not (h29))) (All.cons h29 (All.cons (not_of (of_not (h19))) (All.cons (not_of (of_not (h23))) (All.cons (not_of (of_not (h19))) (All.cons (not_of (of_not (h23))) (All.cons (not_of (of_not (h23))) (All.cons h23 (All.cons (not_of (of_not (h19))) (All.cons (not_of (of_not (h19))) (All.cons (not_of (of_not (h19))) (All.cons h19 (All.cons h18 (All.cons h17 (All.cons h16 (All.cons (h14) (All.cons h14 (All.cons h13 (All.cons rfl (All.cons h11 (All.cons (h8) (All.cons h9 (All.cons h8 (All.cons h7 (All.cons (not_of (of_not (h3))) (All.cons (not_of (of_not (h3))) (All.cons (not_of (of_not (h3))) (All.cons h3 (All.cons h2 (All.cons rfl (All.cons rfl (All.nil)))))))))))))))))))))))))))))))))))))) (fun h29 => TrOk.ofTest (fun h40 => TrOk.ofTest (fun h41 => TrOk.ofFin (PureRuns.of (e8_4 x0 x0' x1 x1' x2) (All.cons (h41) (All.cons (h41) (All.cons (h41) (All.cons h41 (All.cons h40 (All.cons rfl (All.cons (not_of (of_not (h29))) (All.cons (of_not (h19)) (All.cons (not_of (of_not (h29))) (All.cons (of_not (h19)) (All.cons (of_not (h19)) (All.cons (of_not (h19)) (All.cons (of_not (h19)) (All.cons (not_of (of_not (h29))) (All.cons (not_of (of_not (h29))) (All.cons h29 (All.cons (not_of (of_not (h19))) (All.cons (not_of (of_not (h23))) (All.cons (not_of (of_not (h19))) (All.cons (not_of (of_not (h23))) (All.cons (not_of (of_not (h23))) (All.cons h23 (All.cons (not_of (of_not (h19))) (All.cons (not_of (of_not (h19))) (All.cons (not_of (of_not (h19))) (All.cons h19 (All.cons h18 (All.cons h17 (All.cons h16 (All.cons (h14) (All.cons h14 (All.cons h13 (All.cons rfl (All.cons h11 (All.cons (h8) (All.cons h9 (All.cons h8 (All.cons h7 (All.cons (not_of (of_not (h3))) (All.cons (not_of (of_not (h3))) (All.cons (not_of (of_not (h3))) (All.cons h3 (All.cons h2 (All.cons rfl (All.cons rfl (All.nil)))))))))))))))))))))))))))))))))))))))))))))))) (fun h41 => TrOk.ofFin (PureRuns.of (e8_5 x0 x0' x1 x1' x2) (All.cons (h41) (All.cons (h41) (All.cons (h41) (All.cons h41 (All.cons h40 (All.cons rfl (All.cons (not_of (of_not (h29))) (All.cons (of_not (h19)) (All.cons (not_of (of_not (h29))) (All.cons (of_not (h19)) (All.cons (of_not (h19)) (All.cons (of_not (h19)) (All.cons (of_not (h19)) (All.cons (not_of (of_not (h29))) (All.cons (not_of (of_not (h29))) (All.cons h29 (All.cons (not_of (of_not (h19))) (All.cons (not_of (of_not (h23))) (All.cons (not_of (of_not (h19))) (All.cons (not_of (of_not (h23))) (All.cons (not_of (of_not (h23))) (All.cons h23 (All.cons (not_of (of_not (h19))) (All.cons (not_of (of_not (h19))) (All.cons (not_of (of_not (h19))) (All.cons h19 (All.cons h18 (All.cons h17 (All.cons h16 (All.cons (h14) (All.cons h14 (All.cons h13 (All.cons rfl (All.cons h11 (All.cons (h8) (All.cons h9 (All.cons h8 (All.cons h7 (All.cons (not_of (of_not (h3))) (All.cons (not_of (of_not (h3))) (All.cons (not_of (of_not (h3))) (All.cons h3 (All.cons h2 (All.cons rfl (All.cons rfl (All.nil))))))))))))))))))))))))))))))))))))))))))))))))) (fun h40 => TrOk.ofTest (fun h41 => TrOk.ofTest (fun h46 => TrOk.ofTest (fun h48 => TrOk.ofFin (PureRuns.of (e8_6 x0 x0' x1 x1' x2) (All.cons (h41) (All.cons h48 (All.cons (h41) (All.cons h46 (All.cons (h41) (All.cons (h41) (All.cons (h41) (All.cons (h41) (All.cons h41 (All.cons h40 (All.cons rfl (All.cons (not_of (of_not (h29))) (All.cons (of_not (h19)) (All.cons (not_of (of_not (h29))) (All.cons (of_not (h19)) (All.cons (of_not (h19)) (All.cons (of_not (h19)) (All.cons (of_not (h19)) (All.cons (not_of (of_not (h29))) (All.cons (not_of (of_not (h29))) (All.cons h29 (All.cons (not_of (of_not (h19))) (All.cons (not_of (of_not (h23))) (All.cons (not_of (of_not (h19))) (All.cons (not_of (of_not (h23))) (All.cons (not_of (of_not (h23))) (All.cons h23 (All.cons (not_of (of_not (h19))) (All.cons (not_of (of_not (h19))) (All.cons (not_of (of_not (h19))) (All.cons h19 (All.cons h18 (All.cons h17 (All.cons h16 (All.cons (h14) (All.cons h14 (All.cons h13 (All.cons rfl (All.cons h11 (All.cons (h8) (All.cons h9 (All.cons h8 (All.cons h7 (All.cons (not_of (of_not (h3))) (All.cons (not_of (of_not (h3))) (All.cons (not_of (of_not (h3))) (All.cons h3 (All.cons h2 (All.cons rfl (All.cons rfl (All.nil))))))))))))))))))))))))))))))))))))))))))))))))))))) (fun h48 => TrOk.ofStop)) (fun h46 => TrOk.ofStop)) (fun h41 => TrOk.ofFin (PureRuns.of (e8_7 x0 x0' x1 x1' x2) (All.cons (h41) (All.cons (h41) (All.cons (h41) (All.cons (h41) (All.cons (h41) (All.cons (h41) (All.cons h41 (All.cons h40 (All.cons rfl (All.cons (not_of (of_not (h29))) (All.cons (of_not (h19)) (All.cons (not_of (of_not (h29))) (All.cons (of_not (h19)) (All.cons (of_not (h19)) (All.cons (of_not (h19)) (All.cons (of_not (h19)) (All.cons (not_of (of_not (h29))) (All.cons (not_of (of_not (h29))) (All.cons h29 (All.cons (not_of (of_not (h19))) (All.cons (not_of (of_not (h23))) (All.cons (not_of (of_not (h19))) (All.cons (not_of (of_not (h23))) (All.cons (not_of (of_not (h23))) (All.cons h23 (All.cons (not_of (of_not (h19))) (All.cons (not_of (of_not (h19))) (All.cons (not_of (of_not (h19))) (All.cons h19 (All.cons h18 (All.cons h17 (All.cons h16 (All.cons (h14) (All.cons h14 (All.cons h13 (All.cons rfl (All.cons h11 (All.cons (h8) (All.cons h9 (All.cons h8 (All.cons h7 (All.cons (not_of (of_not (h3))) (All.cons (not_of (of_not (h3))) (All.cons (not_of (of_not (h3))) (All.cons h3 (All.cons h2 (All.cons rfl (All.cons rfl (All.nil))))))))))))))))))))))))))))))))))))))))))))))))))))))) (fun h19 => TrOk.ofTest (fun h31 => TrOk.ofFin (PureRuns.of (e8_8 x0 x0' x1 x1' x2) (All.cons rfl (All.cons rfl (All.cons (of_not (h19)) (All.cons rfl (All.cons (not_of (of_not (h31))) (All.cons (of_not (h19)) (All.cons (not_of (of_not (h31))) (All.cons (not_of (of_not (h31))) (All.cons (not_of (of_not (h31))) (All.cons (not_of (of_not (h31))) (All.cons (not_of (of_not (h31))) (All.cons (not_of (of_not (h31))) (All.cons h31 (All.cons (of_not (h19)) (All.cons (of_not (h19)) (All.cons (of_not (h19)) (All.cons rfl (All.cons rfl (All.cons rfl (All.cons (not_of (of_not (h19))) (All.cons (not_of (of_not (h19))) (All.cons (not_of (of_not (h19))) (All.cons (not_of (of_not (h19))) (All.cons (not_of (of_not (h19))) (All.cons h19 (All.cons h18 (All.cons h17 (All.cons h16 (All.cons (h14) (All.cons h14 (All.cons h13 (All.cons rfl (All.cons h11 (All.cons (h8) (All.cons h9 (All.cons h8 (All.cons h7 (All.cons (not_of (of_not (h3))) (All.cons (not_of (of_not (h3))) (All.cons (not_of (of_not (h3))) (All.cons h3 (All.cons h2 (All.cons rfl (All.cons rfl (All.nil))))))))))))))))))))))))))))))))))))))))))))))) (fun h31 => TrOk.ofTest (fun h36 => TrOk.ofTest (fun h38 => TrOk.ofTest (fun h45 => TrOk.ofFin (PureRuns.of (e8_9 x0 x0' x1 x1' x2) (All.cons h45 (All.cons rfl (All.cons (of_not (h19)) (All.cons rfl (All.cons (not_of (of_not (h31))) (All.cons (of_not (h19)) (All.cons (not_of (of_not (h31))) (All.cons h38 (All.cons (not_of (of_not (h31))) (All.cons h36 (All.cons (not_of (of_not (h31))) (All.cons (not_of (of_not (h31))) (All.cons (not_of (of_not (h31))) (All.cons (not_of (of_not (h31))) (All.cons h31 (All.cons (of_not (h19)) (All.cons (of_not (h19)) (All.cons (of_not (h19)) (All.cons rfl (All.cons rfl (All.cons rfl (All.cons (not_of (of_not (h19))) (All.cons (not_of (of_not (h19))) (All.cons (not_of (of_not (h19))) (All.cons (not_of (of_not (h19))) (All.cons (not_of (of_not (h19))) (All.cons h19 (All.cons h18 (All.cons h17 (All.cons h16 (All.cons (h14) (All.cons h14 (All.cons h13 (All.cons rfl (All.cons h11 (All.cons (h8) (All.cons h9 (All.cons h8 (All.cons h7 (All.cons (not_of (of_not (h3))) (All.cons (not_of (of_not (h3))) (All.cons (not_of (of_not (h3))) (All.cons h3 (All.cons h2 (All.cons rfl (All.cons rfl (All.nil))))))))))))))))))))))))))))))))))))))))))))))))) (fun h45 => TrOk.ofTest (fun h46 => TrOk.ofTest (fun h47 => TrOk.ofFin (PureRuns.of (e8_10 x0 x0' x1 x1' x2) (All.cons (h47) (All.cons (h47) (All.cons (h47) (All.cons h47 (All.cons h46 (All.cons h45 (All.cons rfl (All.cons (of_not (h19)) (All.cons rfl (All.cons (not_of (of_not (h31))) (All.cons (of_not (h19)) (All.cons (not_of (of_not (h31))) (All.cons h38 (All.cons (not_of (of_not (h31))) (All.cons h36 (All.cons (not_of (of_not (h31))) (All.cons (not_of (of_not (h31))) (All.cons (not_of (of_not (h31))) (All.cons (not_of (of_not (h31))) (All.cons h31 (All.cons (of_not (h19)) (All.cons (of_not (h19)) (All.cons (of_not (h19)) (All.cons rfl (All.cons rfl (All.cons rfl (All.cons (not_of (of_not (h19))) (All.cons (not_of (of_not (h19))) (All.cons (not_of (of_not (h19))) (All.cons (not_of (of_not (h19))) (All.cons (not_of (of_not (h19))) (All.cons h19 (All.cons h18 (All.cons h17 (All.cons h16 (All.cons (h14) (All.cons h14 (All.cons h13 (All.cons rfl (All.cons h11 (All.cons (h8) (All.cons h9 (All.cons h8 (All.cons h7 (All.cons (not_of (of_not (h3))) (All.cons (not_of (of_not (h3))) (All.cons (not_of (of_not (h3))) (All.cons h3 (All.cons h2 (All.cons rfl (All.cons rfl (All.nil)))))))))))))))))))))))))))))))))))))))))))))))))))))) (fun h47 => TrOk.ofFin (PureRuns.of (e8_11 x0 x0' x1 x1' x2) (All.cons (h47) (All.cons (h47) (All.cons (h47) (All.cons h47 (All.cons h46 (All.cons h45 (All.cons rfl (All.cons (of_not (h19)) (All.cons rfl (All.cons (not_of (of_not (h31))) (All.cons (of_not (h19)) (All.cons (not_of (of_not (h31))) (All.cons h38 (All.cons (not_of (of_not (h31))) (All.cons h36 (All.cons (not_of (of_not (h31))) (All.cons (not_of (of_not (h31))) (All.cons (not_of (of_not (h31))) (All.cons (not_of (of_not (h31))) (All.cons h31 (All.cons (of_not (h19)) (All.cons (of_not (h19)) (All.cons (of_not (h19)) (All.cons rfl (All.cons rfl (All.cons rfl (All.cons (not_of (of_not (h19))) (All.cons (not_of (of_not (h19))) (All.cons (not_of (of_not (h19))) (All.cons (not_of (of_not (h19))) (All.cons (not_of (of_not (h19))) (All.cons h19 (All.cons h18 (All.cons h17 (All.cons h16 (All.cons (h14) (All.cons h14 (All.cons h13 (All.cons rfl (All.cons h11 (All.cons (h8) (All.cons h9 (All.cons h8 (All.cons h7 (All.cons (not_of (of_not (h3))) (All.cons (not_of (of_not (h3))) (All.cons (not_of (of_not (h3))) (All.cons h3 (All.cons h2 (All.cons rfl (All.cons rfl (All.nil))))))))))))))))))))))))))))))))))))))))))))))))))))))) (fun h46 => TrOk.ofTest (fun h47 => TrOk.ofTest (fun h52 => TrOk.ofTest (fun h54 => TrOk.ofFin (PureRuns.of (e8_12 x0 x0' x1 x1' x2) (All.cons (h47) (All.cons h54 (All.cons (h47) (All.cons h52 (All.cons (h47) (All.cons (h47) (All.cons (h47) (All.cons (h47) (All.cons h47 (All.cons h46 (All.cons h45 (All.cons rfl (All.cons (of_not (h19)) (All.cons rfl (All.cons (not_of (of_not (h31))) (All.cons (of_not (h19)) (All.cons (not_of (of_not (h31))) (All.cons h38 (All.cons (not_of (of_not (h31))) (All.cons h36 (All.cons (not_of (of_not (h31))) (All.cons (not_of (of_not (h31))) (All.cons (not_of (of_not (h31))) (All.cons (not_of (of_not (h31))) (All.cons h31 (All.cons (of_not (h19)) (All.cons (of_not (h19)) (All.cons (of_not (h19)) (All.cons rfl (All.cons rfl (All.cons rfl (All.cons (not_of (of_not (h19))) (All.cons (not_of (of_not (h19))) (All.cons (not_of (of_not (h19))) (All.cons (not_of (of_not (h19))) (All.cons (not_of (of_not (h19))) (All.cons h19 (All.cons h18 (All.cons h17 (All.cons h16 (All.cons (h14) (All.cons h14 (All.cons h13 (All.cons rfl (All.cons h11 (All.cons (h8) (All.cons h9 (All.cons h8 (All.cons h7 (All.cons (not_of (of_not (h3))) (All.cons (not_of (of_not (h3))) (All.cons (not_of (of_not (h3))) (All.cons h3 (All.cons h2 (All.cons rfl (All.cons rfl (All.nil))))))))))))))))))))))))))))))))))))))))))))))))))))))))))) (fun h54 => TrOk.ofStop)) (fun h52 => TrOk.ofStop)) (fun h47 => TrOk.ofFin (PureRuns.of (e8_13 x0 x0' x1 x1' x2) (All.cons (h47) (All.cons (h47) (All.cons (h47) (All.cons (h47) (All.cons (h47) (All.cons (h47) (All.cons h47 (All.cons h46 (All.cons h45 (All.cons rfl (All.cons (of_not (h19)) (All.cons rfl (All.cons (not_of (of_not (h31))) (All.cons (of_not (h19)) (All.cons (not_of (of_not (h31))) (All.cons h38 (All.cons (not_of (of_not (h31))) (All.cons h36 (All.cons (not_of (of_not (h31))) (All.cons (not_of (of_not (h31))) (All.cons (not_of (of_not (h31))) (All.cons (not_of (of_not (h31))) (All.cons h31 (All.cons (of_not (h19)) (All.cons (of_not (h19)) (All.cons (of_not (h19)) (All.cons rfl (All.cons rfl (All.cons rfl (All.cons (not_of (of_not (h19))) (All.cons (not_of (of_not (h19))) (All.cons (not_of (of_not (h19))) (All.cons (not_of (of_not (h19))) (All.cons (not_of (of_not (h19))) (All.cons h19 (All.cons h18 (All.cons h17 (All.cons h16 (All.cons (h14) (All.cons h14 (All.cons h13 (All.cons rfl (All.cons h11 (All.cons (h8) (All.cons h9 (All.cons h8 (All.cons h7 (All.cons (not_of (of_not (h3))) (All.cons (not_of (of_not (h3))) (All.cons (not_of (of_not (h3))) (All.cons h3 (All.cons h2 (All.cons rfl (All.cons rfl (All.nil)))))))))))))))))))))))))))))))))))))))))))))))))))))))))))) (fun h38 => TrOk.ofStop)) (fun h36 => TrOk.ofStop)))) (fun h18 => TrOk.ofStop)) (fun h17 => TrOk.ofStop)) (fun h16 => TrOk.ofTest (fun h21 => TrOk.ofFin (PureRuns.of (e8_14 x0 x0' x1 x1' x2) (All.cons rfl (All.cons rfl (All.cons rfl (All.cons rfl (All.cons rfl (All.cons rfl (All.cons (not_of (h16)) (All.cons (not_of (of_not (h21))) (All.cons (not_of (h16)) (All.cons (not_of (of_not (h21))) (All.cons (not_of (of_not (h21))) (All.cons h21 (All.cons (not_of (h16)) (All.cons (not_of (h16)) (All.cons (not_of (h16)) (All.cons (not_of (h16)) (All.cons h16 (All.cons (h14) (All.cons h14 (All.cons h13 (All.cons rfl (All.cons h11 (All.cons (h8) (All.cons h9 (All.cons h8 (All.cons h7 (All.cons (not_of (of_not (h3))) (All.cons (not_of (of_not (h3))) (All.cons (not_of (of_not (h3))) (All.cons h3 (All.cons h2 (All.cons rfl (All.cons rfl (All.nil)))))))))))))))))))))))))))))))))))) (fun h21 => TrOk.ofTest (fun h27 => TrOk.ofFin (PureRuns.of (e8_15 x0 x0' x1 x1' x2) (All.cons rfl (All.cons (not_of (of_not (h27))) (All.cons (not_of (of_not (h27))) (All.cons (not_of (of_not (h27))) (All.cons (not_of (of_not (h27))) (All.cons h27 (All.cons (not_of (h16)) (All.cons (not_of (of_not (h21))) (All.cons (not_of (h16)) (All.cons (not_of (of_not (h21))) (All.cons (not_of (of_not (h21))) (All.cons h21 (All.cons (not_of (h16)) (All.cons (not_of (h16)) (All.cons (not_of (h16)) (All.cons (not_of (h16)) (All.cons h16 (All.cons (h14) (All.cons h14 (All.cons h13 (All.cons rfl (All.cons h11 (All.cons (h8) (All.cons h9 (All.cons h8 (All.cons h7 (All.cons (not_of (of_not (h3))) (All.cons (not_of (of_not (h3))) (All.cons (not_of (of_not (h3))) (All.cons h3 (All.cons h2 (All.cons rfl (All.cons rfl (All.nil)))))))))))))))))))))))))))))))))))) (fun h27 => TrOk.ofTest (fun h39 => TrOk.ofFin (PureRuns.of (e8_16 x0 x0' x1 x1' x2) (All.cons (h39) (All.cons (h39) (All.cons (h39) (All.cons h39 (All.cons (not_of (h16)) (All.cons rfl (All.cons (not_of (of_not (h27))) (All.cons (h16) (All.cons (not_of (of_not (h27))) (All.cons (h16) (All.cons (h16) (All.cons (h16) (All.cons (h16) (All.cons (not_of (of_not (h27))) (All.cons (not_of (of_not (h27))) (All.cons h27 (All.cons (not_of (h16)) (All.cons (not_of (of_not (h21))) (All.cons (not_of (h16)) (All.cons (not_of (of_not (h21))) (All.cons (not_of (of_not (h21))) (All.cons h21 (All.cons (not_of (h16)) (All.cons (not_of (h16)) (All.cons (not_of (h16)) (All.cons (not_of (h16)) (All.cons h16 (All.cons (h14) (All.cons h14 (All.cons h13 (All.cons rfl (All.cons h11 (All.cons (h8) (All.cons h9 (All.cons h8 (All.cons h7 (All.cons (not_of (of_not (h3))) (All.cons (not_of (of_not (h3))) (All.cons (not_of (of_not (h3))) (All.cons h3 (All.cons h2 (All.cons rfl (All.cons rfl (All.nil)))))))))))))))))))))))))))))))))))))))))))))) (fun h39 => TrOk.ofFin (PureRuns.of (e8_17 x0 x0' x1 x1' x2) (All.cons (h39) (All.cons (h39) (All.cons (h39) (All.cons h39 (All.cons (not_of (h16)) (All.cons rfl (All.cons (not_of (of_not (h27))) (All.cons (h16) (All.cons (not_of (of_not (h27))) (All.cons (h16) (All.cons (h16) (All.cons (h16) (All.cons (h16) (All.cons (not_of (of_not (h27))) (All.cons (not_of (of_not (h27))) (All.cons h27 (All.cons (not_of (h16)) (All.cons (not_of (of_not (h21))) (All.cons (not_of (h16)) (All.cons (not_of (of_not (h21))) (All.cons (not_of (of_not (h21))) (All.cons h21 (All.cons (not_of (h16)) (All.cons (not_of (h16)) (All.cons (not_of (h16)) (All.cons (not_of (h16)) (All.cons h16 (All.cons (h14) (All.cons h14 (All.cons h13 (All.cons rfl (All.cons h11 (All.cons (h8) (All.cons h9 (All.cons h8 (All.cons h7 (All.cons (not_of (of_not (h3))) (All.cons (not_of (of_not (h3))) (All.cons (not_of (of_not (h3))) (All.cons h3 (All.cons h2 (All.cons rfl (All.cons rfl (All.nil)))))))))))))))))))))))))))))))))))))))))))))))))) (fun h14 => TrOk.ofStop)) (fun h13 => TrOk.ofStop)) (fun h11 => TrOk.ofTest (fun h12 => TrOk.ofStop) (fun h12 => TrOk.ofTest (fun h13 => TrOk.ofTest (fun h15 => TrOk.ofTest (fun h16 => TrOk.ofTest (fun h17 => TrOk.ofTest (fun h19 => TrOk.ofTest (fun h20 => TrOk.ofTest (fun h21 => TrOk.ofTest (fun h22 => TrOk.ofTest (fun h26 => TrOk.ofFin (PureRuns.of (e8_19 x0 x0' x1 x1' x2) (All.cons rfl (All.cons rfl (All.cons rfl (All.cons rfl (All.cons rfl (All.cons rfl (All.cons (not_of (of_not (h22))) (All.cons (not_of (of_not (h26))) (All.cons (not_of (of_not (h22))) (All.cons (not_of (of_not (h26))) (All.cons (not_of (of_not (h26))) (All.cons h26 (All.cons (not_of (of_not (h22))) (All.cons (not_of (of_not (h22))) (All.cons (not_of (of_not (h22))) (All.cons h22 (All.cons h21 (All.cons h20 (All.cons h19 (All.cons (h17) (All.cons h17 (All.cons h16 (All.cons h15 (All.cons rfl (All.cons h13 (All.cons h12 (All.cons h11 (All.cons (h8) (All.cons h9 (All.cons h8 (All.cons h7 (All.cons (not_of (of_not (h3))) (All.cons (not_of (of_not (h3))) (All.cons (not_of (of_not (h3))) (All.cons h3 (All.cons h2 (All.cons rfl (All.cons rfl (All.nil))))))))))))))))))))))))))))))))))))))))) (fun h26 => TrOk.ofTest (fun h32 => TrOk.ofFin (PureRuns.of (e8_20 x0 x0' x1 x1' x2) (All.cons rfl (All.cons (not_of (of_not (h32))) (All.cons (not_of (of_not (h32))) (All.cons (not_of (of_not (h32))) (All.cons (not_of (of_not (h32))) (All.cons h32 (All.cons (not_of (of_not (h22))) (All.cons (not_of (of_not (h26))) (All.cons (not_of (of_not (h22))) (All.cons (not_of (of_not (h26))) (All.cons (not_of (of_not (h26))) (All.cons h26 (All.cons (not_of (of_not (h22))) (All.cons (not_of (of_not (h22))) (All.cons (not_of (of_not (h22))) (All.cons h22 (All.cons h21 (All.cons h20 (All.cons h19 (All.cons (h17) (All.cons h17 (All.cons h16 (All.cons h15 (All.cons rfl (All.cons h13 (All.cons h12 (All.cons h11 (All.cons (h8) (All.cons h9 (All.cons h8 (All.cons h7 (All.cons (not_of (of_not (h3))) (All.cons (not_of (of_not (h3))) (All.cons (not_of (of_not (h3))) (All.cons h3 (All.cons h2 (All.cons rfl (All.cons rfl (All.nil))))))))))))))))))))))))))))))))))))))))) (fun h32 => TrOk.ofTest (fun h43 => TrOk.ofTest (fun h44 => TrOk.ofFin (PureRuns.of (e8_21 x0 x0' x1 x1' x2) (All.cons (h44) (All.cons (h44) (All.cons (h44) (All.cons h44 (All.cons h43 (All.cons rfl (All.cons (not_of (of_not (h32))) (All.cons (of_not (h22)) (All.cons (not_of (of_not (h32))) (All.cons (of_not (h22)) (All.cons (of_not (h22)) (All.cons (of_not (h22)) (All.cons (of_not (h22)) (All.cons (not_of (of_not (h32))) (All.cons (not_of (of_not (h32))) (All.cons h32 (All.cons (not_of (of_not (h22))) (All.cons (not_of (of_not (h26))) (All.cons (not_of (of_not (h22))) (All.cons (not_of (of_not (h26))) (All.cons (not_of (of_not (h26))) (All.cons h26 (All.cons (not_of (of_not (h22))) (All.cons (not_of (of_not (h22))) (All.cons (not_of (of_not (h22))) (All.cons h22 (All.cons h21 (All.cons h20 (All.cons h19 (All.cons (h17) (All.cons h17 (All.cons h16 (All.cons h15 (All.cons rfl (All.cons h13 (All.cons h12 (All.cons h11 (All.cons (h8) (All.cons h9 (All.cons h8 (All.cons h7 (All.cons (not_of (of_not (h3))) (All.cons (not_of (of_not (h3))) (All.cons (not_of (of_not (h3))) (All.cons h3 (All.cons h2 (All.cons rfl (All.cons rfl (All.nil))))))))))))))))))))))))))))))))))))))))))))))))))) (fun h44 => TrOk.ofFin (PureRuns.of (e8_22 x0 x0' x1 x1' x2) (All.cons (h44) (All.cons (h44) (All.cons (h44) (All.cons h44 (All.cons h43 (All.cons rfl (All.cons (not_of (of_not (h32))) (All.cons (of_not (h22)) (All.cons (not_of (of_not (h32))) (All.cons (of_not (h22)) (All.cons (of_not (h22)) (All.cons (of_not (h22)) (All.cons (of_not (h22)) (All.cons (not_of (of_not (h32))) (All.cons (not_of (of_not (h32))) (All.cons h32 (All.cons (not_of (of_not (h22))) (All.cons (not_of (of_not (h26))) (All.cons (not_of (of_not (h22))) (All.cons (not_of (of_not (h26))) (All.cons (not_of (of_not (h26))) (All.cons h26 (All.cons (not_of (of_not (h22))) (All.cons (not_of (of_not (h22))) (All.cons (not_of (of_not (h22))) (All.cons h22 (All.cons h21 (All.cons h20 (All.cons h19 (All.cons (h17) (All.cons h17 (All.cons h16 (All.cons h15 (All.cons rfl (All.cons h13 (All.cons h12 (All.cons h11 (All.cons (h8) (All.cons h9 (All.cons h8 (All.cons h7 (All.cons (not_of (of_not (h3))) (All.cons (not_of (of_not (h3))) (All.cons (not_of (of_not (h3))) (All.cons h3 (All.cons h2 (All.cons rfl (All.cons rfl (All.nil)))))))))))))))))))))))))))))))))))))))))))))))))))) (fun h43 => TrOk.ofTest (fun h44 => TrOk.ofTest (fun h49 => TrOk.ofTest (fun h51 => TrOk.ofFin (PureRuns.of (e8_23 x0 x0' x1 x1' x2) (All.cons (h44) (All.cons h51 (All.cons (h44) (All.cons h49 (All.cons (h44) (All.cons (h44) (All.cons (h44) (All.cons (h44) (All.cons h44 (All.cons h43 (All.cons rfl (All.cons (not_of (of_not (h32))) (All.cons (of_not (h22)) (All.cons (not_of (of_not (h32))) (All.cons (of_not (h22)) (All.cons (of_not (h22)) (All.cons (of_not (h22)) (All.cons (of_not (h22)) (All.cons (not_of (of_not (h32))) (All.cons (not_of (of_not (h32))) (All.cons h32 (All.cons (not_of (of_not (h22))) (All.cons (not_of (of_not (h26))) (All.cons (not_of (of_not (h22))) (All.cons (not_of (of_not (h26))) (All.cons (not_of (of_not (h26))) (All.cons h26 (All.cons (not_of (of_not (h22))) (All.cons (not_of (of_not (h22))) (All.cons (not_of (of_not (h22))) (All.cons h22 (All.cons h21 (All.cons h20 (All.cons h19 (All.cons (h17) (All.cons h17 (All.cons h16 (All.cons h15 (All.cons rfl (All.cons h13 (All.cons h12 (All.cons h11 (All.cons (h8) (All.cons h9 (All.cons h8 (All.cons h7 (All.cons (not_of (of_not (h3))) (All.cons (not_of (of_not (h3))) (All.cons (not_of (of_not (h3))) (All.cons h3 (All.cons h2 (All.cons rfl (All.cons rfl (All.nil)))))))))))))))))))))))))))))))))))))))))))))))))))))))) (fun h51 => TrOk.ofStop)) (fun h49 => TrOk.ofStop)) (fun h44 => TrOk.ofFin (PureRuns.of (e8_24 x0 x0' x1 x1' x2) (All.cons (h44) (All.cons (h44) (All.cons (h44) (All.cons (h44) (All.cons (h44) (All.cons (h44) (All.cons h44 (All.cons h43 (All.cons rfl (All.cons (not_of (of_not (h32))) (All.cons (of_not (h22)) (All.cons (not_of (of_not (h32))) (All.cons (of_not (h22)) (All.cons (of_not (h22)) (All.cons (of_not (h22)) (All.cons (of_not (h22)) (All.cons (not_of (of_not (h32))) (All.cons (not_of (of_not (h32))) (All.cons h32 (All.cons (not_of (of_not (h22))) (All.cons (not_of (of_not (h26))) (All.cons (not_of (of_not (h22))) (All.cons (not_of (of_not (h26))) (All.cons (not_of (of_not (h26))) (All.cons h26 (All.cons (not_of (of_not (h22))) (All.cons (not_of (of_not (h22))) (All.cons (not_of (of_not (h22))) (All.cons h22 (All.cons h21 (All.cons h20 (All.cons h19 (All.cons (h17) (All.cons h17 (All.cons h16 (All.cons h15 (All.cons rfl (All.cons h13 (All.cons h12 (All.cons h11 (All.cons (h8) (All.cons h9 (All.cons h8 (All.cons h7 (All.cons (not_of (of_not (h3))) (All.cons (not_of (of_not (h3))) (All.cons (not_of (of_not (h3))) (All.cons h3 (All.cons h2 (All.cons rfl (All.cons rfl (All.nil)))))))))))))))))))))))))))))))))))))))))))))))))))))))))) (fun h22 => TrOk.ofTest (fun h34 => TrOk.ofFin (PureRuns.of (e8_25 x0 x0' x1 x1' x2) (All.cons rfl (All.cons rfl (All.cons (of_not (h22)) (All.cons rfl (All.cons (not_of (of_not (h34))) (All.cons (of_not (h22)) (All.cons (not_of (of_not (h34))) (All.cons (not_of (of_not (h34))) (All.cons (not_of (of_not (h34))) (All.cons (not_of (of_not (h34))) (All.cons (not_of (of_not (h34))) (All.cons (not_of (of_not (h34))) (All.cons h34 (All.cons (of_not (h22)) (All.cons (of_not (h22)) (All.cons (of_not (h22)) (All.cons rfl (All.cons rfl (All.cons rfl (All.cons (not_of (of_not (h22))) (All.cons (not_of (of_not (h22))) (All.cons (not_of (of_not (h22))) (All.cons (not_of (of_not (h22))) (All.cons (not_of (of_not (h22))) (All.cons h22 (All.cons h21 (All.cons h20 (All.cons h19 (All.cons (h17) (All.cons h17 (All.cons h16 (All.cons h15 (All.cons rfl (All.cons h13 (All.cons h12 (All.cons h11 (All.cons (h8) (All.cons h9 (All.cons h8 (All.cons h7 (All.cons (not_of (of_not (h3))) (All.cons (not_of (of_not (h3))) (All.cons (not_of (of_not (h3))) (All.cons h3 (All.cons h2 (All.cons rfl (All.cons rfl (All.nil)))))))))))))))))))))))))))))))))))))))))))))))))) (fun h34 => TrOk.ofTest (fun h39 => TrOk.ofTest (fun h41 => TrOk.ofTest (fun h48 => TrOk.ofFin (PureRuns.of (e8_26 x0 x0' x1 x1' x2) (All.cons h48 (All.cons rfl (All.cons (of_not (h22)) (All.cons rfl (All.cons (not_of (of_not (h34))) (All.cons (of_not (h22)) (All.cons (not_of (of_not (h34))) (All.cons h41 (All.cons (not_of (of_not (h34))) (All.cons h39 (All.cons (not_of (of_not (h34))) (All.cons (not_of (of_not (h34))) (All.cons (not_of (of_not (h34))) (All.cons (not_of (of_not (h34))) (All.cons h34 (All.cons (of_not (h22)) (All.cons (of_not (h22)) (All.cons (of_not (h22)) (All.cons rfl (All.cons rfl (All.cons rfl (All.cons (not_of (of_not (h22))) (All.cons (not_of (of_not (h22))) (All.cons (not_of (of_not (h22))) (All.cons (not_of (of_not (h22))) (All.cons (not_of (of_not (h22))) (All.cons h22 (All.cons h21 (All.cons h20 (All.cons h19 (All.cons (h17) (All.cons h17 (All.cons h16 (All.cons h15 (All.cons rfl (All.cons h13 (All.cons h12 (All.cons h11 (All.cons (h8) (All.cons h9 (All.cons h8 (All.cons h7 (All.cons (not_of (of_not (h3))) (All.cons (not_of (of_not (h3))) (All.cons (not_of (of_not (h3))) (All.cons h3 (All.cons h2 (All.cons rfl (All.cons rfl (All.nil)))))))))))))))))))))))))))))))))))))))))))))))))))) (fun h48 => TrOk.ofTest (fun h49 => TrOk.ofTest (fun h50 => TrOk.ofFin (PureRuns.of (e8_27 x0 x0' x1 x1' x2) (All.cons (h50) (All.cons (h50) (All.cons (h50) (All.cons h50 (All.cons h49 (All.cons h48 (All.cons rfl (All.cons (of_not (h22)) (All.cons rfl (All.cons (not_of (of_not (h34))) (All.cons (of_not (h22)) (All.cons (not_of (of_not (h34))) (All.cons h41 (All.cons (not_of (of_not (h34))) (All.cons h39 (All.cons (not_of (of_not (h34))) (All.cons (not_of (of_not (h34))) (All.cons (not_of (of_not (h34))) (All.cons (not_of (of_not (h34))) (All.cons h34 (All.cons (of_not (h22)) (All.cons (of_not (h22)) (All.cons (of_not (h22)) (All.cons rfl (All.cons rfl (All.cons rfl (All.cons (not_of (of_not (h22))) (All.cons (not_of (of_not (h22))) (All.cons (not_of (of_not (h22))) (All.cons (not_of (of_not (h22))) (All.cons (not_of (of_not (h22))) (All.cons h22 (All.cons h21 (All.cons h20 (All.cons h19 (All.cons (h17) (All.cons h17 (All.cons h16 (All.cons h15 (All.cons rfl (All.cons h13 (All.cons h12 (All.cons h11 (All.cons (h8) (All.cons h9 (All.cons h8 (All.cons h7 (All.cons (not_of (of_not (h3))) (All.cons (not_of (of_not (h3))) (All.cons (not_of (of_not (h3))) (All.cons h3 (All.cons h2 (All.cons rfl (All.cons rfl (All.nil))))))))))))))))))))))))))))))))))))))))))))))))))))))))) (fun h50 => TrOk.ofFin (PureRuns.of (e8_28 x0 x0' x1 x1' x2) (All.cons (h50) (All.cons (h50) (All.cons (h50) (All.cons h50 (All.cons h49 (All.cons h48 (All.cons rfl (All.cons (of_not (h22)) (All.cons rfl (All.cons (not_of (of_not (h34))) (All.cons (of_not (h22)) (All.cons (not_of (of_not (h34))) (All.cons h41 (All.cons (not_of (of_not (h34))) (All.cons h39 (All.cons (not_of (of_not (h34))) (All.cons (not_of (of_not (h34))) (All.cons (not_of (of_not (h34))) (All.cons (not_of (of_not (h34))) (All.cons h34 (All.cons (of_not (h22)) (All.cons (of_not (h22)) (All.cons (of_not (h22)) (All.cons rfl (All.cons rfl (All.cons rfl (All.cons (not_of (of_not (h22))) (All.cons (not_of (of_not (h22))) (All.cons (not_of (of_not (h22))) (All.cons (not_of (of_not (h22))) (All.cons (not_of (of_not (h22))) (All.cons h22 (All.cons h21 (All.cons h20 (All.cons h19 (All.cons (h17) (All.cons h17 (All.cons h16 (All.cons h15 (All.cons rfl (All.cons h13 (All.cons h12 (All.cons h11 (All.cons (h8) (All.cons h9 (All.cons h8 (All.cons h7 (All.cons (not_of (of_not (h3))) (All.cons (not_of (of_not (h3))) (All.cons (not_of (of_not (h3))) (All.cons h3 (All.cons h2 (All.cons rfl (All.cons rfl (All.nil)))))))))))))))))))))))))))))))))))))))))))))))))))))))))) (fun h49 => TrOk.ofTest (fun h50 => TrOk.ofTest (fun h55 => TrOk.ofTest (fun h57 => TrOk.ofFin (PureRuns.of (e8_29 x0 x0' x1 x1' x2) (All.cons (h50) (All.cons h57 (All.cons (h50) (All.cons h55 (All.cons (h50) (All.cons (h50) (All.cons (h50) (All.cons (h50) (All.cons h50 (All.cons h49 (All.cons h48 (All.cons rfl (All.cons (of_not (h22)) (All.cons rfl (All.cons (not_of (of_not (h34))) (All.cons (of_not (h22)) (All.cons (not_of (of_not (h34))) (All.cons h41 (All.cons (not_of (of_not (h34))) (All.cons h39 (All.cons (not_of (of_not (h34))) (All.cons (not_of (of_not (h34))) (All.cons (not_of (of_not (h34))) (All.cons (not_of (of_not (h34))) (All.cons h34 (All.cons (of_not (h22)) (All.cons (of_not (h22)) (All.cons (of_not (h22)) (All.cons rfl (All.cons rfl (All.cons rfl (All.cons (not_of (of_not (h22))) (All.cons (not_of (of_not (h22))) (All.cons (not_of (of_not (h22))) (All.cons (not_of (of_not (h22))) (All.cons (not_of (of_not (h22))) (All.cons h22 (All.cons h21 (All.cons h20 (All.cons h19 (All.cons (h17) (All.cons h17 (All.cons h16 (All.cons h15 (All.cons rfl (All.cons h13 (All.cons h12 (All.cons h11 (All.cons (h8) (All.cons h9 (All.cons h8 (All.cons h7 (All.cons (not_of (of_not (h3))) (All.cons (not_of (of_not (h3))) (All.cons (not_of (of_not (h3))) (All.cons h3 (All.cons h2 (All.cons rfl (All.cons rfl (All.nil)))))))))))))))))))))))))))))))))))))))))))))))))))))))))))))) (fun h57 => TrOk.ofStop)) (fun h55 => TrOk.ofStop)) (fun h50 => TrOk.ofFin (PureRuns.of (e8_30 x0 x0' x1 x1' x2) (All.cons (h50) (All.cons (h50) (All.cons (h50) (All.cons (h50) (All.cons (h50) (All.cons (h50) (All.cons h50 (All.cons h49 (All.cons h48 (All.cons rfl (All.cons (of_not (h22)) (All.cons rfl (All.cons (not_of (of_not (h34))) (All.cons (of_not (h22)) (All.cons (not_of (of_not (h34))) (All.cons h41 (All.cons (not_of (of_not (h34))) (All.cons h39 (All.cons (not_of (of_not (h34))) (All.cons (not_of (of_not (h34))) (All.cons (not_of (of_not (h34))) (All.cons (not_of (of_not (h34))) (All.cons h34 (All.cons (of_not (h22)) (All.cons (of_not (h22)) (All.cons (of_not (h22)) (All.cons rfl (All.cons rfl (All.cons rfl (All.cons (not_of (of_not (h22))) (All.cons (not_of (of_not (h22))) (All.cons (not_of (of_not (h22))) (All.cons (not_of (of_not (h22))) (All.cons (not_of (of_not (h22))) (All.cons h22 (All.cons h21 (All.cons h20 (All.cons h19 (All.cons (h17) (All.cons h17 (All.cons h16 (All.cons h15 (All.cons rfl (All.cons h13 (All.cons h12 (All.cons h11 (All.cons (h8) (All.cons h9 (All.cons h8 (All.cons h7 (All.cons (not_of (of_not (h3))) (All.cons (not_of (of_not (h3))) (All.cons (not_of (of_not (h3))) (All.cons h3 (All.cons h2 (All.cons rfl (All.cons rfl (All.nil))))))))))))))))))))))))))))))))))))))))))))))))))))))))))))))) (fun h41 => TrOk.ofStop)) (fun h39 => TrOk.ofStop)))) (fun h21 => TrOk.ofStop)) (fun h20 => TrOk.ofStop)) (fun h19 => TrOk.ofTest (fun h24 => TrOk.ofFin (PureRuns.of (e8_31 x0 x0' x1 x1' x2) (All.cons rfl (All.cons rfl (All.cons rfl (All.cons rfl (All.cons rfl (All.cons rfl (All.cons (not_of (h19)) (All.cons (not_of (of_not (h24))) (All.cons (not_of (h19)) (All.cons (not_of (of_not (h24))) (All.cons (not_of (of_not (h24))) (All.cons h24 (All.cons (not_of (h19)) (All.cons (not_of (h19)) (All.cons (not_of (h19)) (All.cons (not_of (h19)) (All.cons h19 (All.cons (h17) (All.cons h17 (All.cons h16 (All.cons h15 (All.cons rfl (All.cons h13 (All.cons h12 (All.cons h11 (All.cons (h8) (All.cons h9 (All.cons h8 (All.cons h7 (All.cons (not_of (of_not (h3))) (All.cons (not_of (of_not (h3))) (All.cons (not_of (of_not (h3))) (All.cons h3 (All.cons h2 (All.cons rfl (All.cons rfl (All.nil))))))))))))))))))))))))))))))))))))))) (fun h24 => TrOk.ofTest (fun h30 => TrOk.ofFin (PureRuns.of (e8_32 x0 x0' x1 x1' x2) (All.cons rfl (All.cons (not_of (of_not (h30))) (All.cons (not_of (of_not (h30))) (All.cons (not_of (of_not (h30))) (All.cons (not_of (of_not (h30))) (All.cons h30 (All.cons (not_of (h19)) (All.cons (not_of (of_not (h24))) (All.cons (not_of (h19)) (All.cons (not_of (of_not (h24))) (All.cons (not_of (of_not (h24))) (All.cons h24 (All.cons (not_of (h19)) (All.cons (not_of (h19)) (All.cons (not_of (h19)) (All.cons (not_of (h19)) (All.cons h19 (All.cons (h17) (All.cons h17 (All.cons h16 (All.cons h15 (All.cons rfl (All.cons h13 (All.cons h12 (All.cons h11 (All.cons (h8) (All.cons h9 (All.cons h8 (All.cons h7 (All.cons (not_of (of_not (h3))) (All.cons (not_of (of_not (h3))) (All.cons (not_of (of_not (h3))) (All.cons h3 (All.cons h2 (All.cons rfl (All.cons rfl (All.nil))))))))))))))))))))))))))))))))))))))) (fun h30 => TrOk.ofTest (fun h42 => TrOk.ofFin (PureRuns.of (e8_33 x0 x0' x1 x1' x2) (All.cons (h42) (All.cons (h42) (All.cons (h42) (All.cons h42 (All.cons (not_of (h19)) (All.cons rfl (All.cons (not_of (of_not (h30))) (All.cons (h19) (All.cons (not_of (of_not (h30))) (All.cons (h19) (All.cons (h19) (All.cons (h19) (All.cons (h19) (All.cons (not_of (of_not (h30))) (All.cons (not_of (of_not (h30))) (All.cons h30 (All.cons (not_of (h19)) (All.cons (not_of (of_not (h24))) (All.cons (not_of (h19)) (All.cons (not_of (of_not (h24))) (All.cons (not_of (of_not (h24))) (All.cons h24 (All.cons (not_of (h19)) (All.cons (not_of (h19)) (All.cons (not_of (h19)) (All.cons (not_of (h19)) (All.cons h19 (All.cons (h17) (All.cons h17 (All.cons h16 (All.cons h15 (All.cons rfl (All.cons h13 (All.cons h12 (All.cons h11 (All.cons (h8) (All.cons h9 (All.cons h8 (All.cons h7 (All.cons (not_of (of_not (h3))) (All.cons (not_of (of_not (h3))) (All.cons (not_of (of_not (h3))) (All.cons h3 (All.cons h2 (All.cons rfl (All.cons rfl (All.nil))))))))))))))))))))))))))))))))))))))))))))))))) (fun h42 => TrOk.ofFin (PureRuns.of (e8_34 x0 x0' x1 x1' x2) (All.cons (h42) (All.cons (h42) (All.cons (h42) (All.cons h42 (All.cons (not_of (h19)) (All.cons rfl (All.cons (not_of (of_not (h30))) (All.cons (h19) (All.cons (not_of (of_not (h30))) (All.cons (h19) (All.cons (h19) (All.cons (h19) (All.cons (h19) (All.cons (not_of (of_not (h30))) (All.cons (not_of (of_not (h30))) (All.cons h30 (All.cons (not_of (h19)) (All.cons (not_of (of_not (h24))) (All.cons (not_of (h19)) (All.cons (not_of (of_not (h24))) (All.cons (not_of (of_not (h24))) (All.cons h24 (All.cons (not_of (h19)) (All.cons (not_of (h19)) (All.cons (not_of (h19)) (All.cons (not_of (h19)) (All.cons h19 (All.cons (h17) (All.cons h17 (All.cons h16 (All.cons h15 (All.cons rfl (All.cons h13 (All.cons h12 (All.cons h11 (All.cons (h8) (All.cons h9 (All.cons h8 (All.cons h7 (All.cons (not_of (of_not (h3))) (All.cons (not_of (of_not (h3))) (All.cons (not_of (of_not (h3))) (All.cons h3 (All.cons h2 (All.cons rfl (All.cons rfl (All.nil))))))))))))))))))))))))))))))))))))))))))))))))))))) (fun h17 => TrOk.ofStop)) (fun h16 => TrOk.ofStop)) (fun h15 => TrOk.ofStop)) (fun h13 => TrOk.ofStop)))) (fun h9 => TrOk.ofStop)) (fun h8 => TrOk.ofStop)))) (fun h2 => TrOk.ofStop)

theorem ok8 : PureOk Go.Proofs.Try.prog 8 p8 := pureOk_of kf61_ok.base (T := fun (d : Tys.data as8) => t8 d.1.1 d.1.2.1 d.2.1.1 d.2.1.2.1 d.2.2.1) (by kernel_rfl) (fun (d : Tys.data as8) => ok8_t d.1.1 d.1.2.1 d.2.1.1 d.2.1.2.1 d.2.2.1)
def kf8 : Known := kf61.func 8 p8
theorem kf8_ok : KnownOk Go.Proofs.Try.prog kf8 := kf61_ok.func ok8

end Go.Vm.Mo
