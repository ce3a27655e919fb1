import Derived.Test.YtappjfcejjmdeaaA3
import Derived.KernelRfl
import Derived.Test.YtappjfcejjmdeaaProg
set_option linter.unusedVariables false
set_option linter.unusedSimpArgs false

namespace Go.Vm.Mo
open Go
set_option linter.unusedVariables false

def kn0 : Known := ⟨[], []⟩

theorem plainP : Plain Go.Proofs.Try.prog := by
  have h : (Go.Proofs.Try.prog.funcs.toList.all fun fn => !(fn.body.isSome && fn.name == "runtime.NumGoroutine")) = true := by kernel_rfl
  intro f fn hf hb
  have hm : fn ∈ Go.Proofs.Try.prog.funcs.toList := by
    have := Array.getElem?_eq_some_iff.1 hf
    obtain ⟨hlt, rfl⟩ := this
    simp
  have := List.all_eq_true.1 h fn hm
  rw [hb] at this
  simpa using this

theorem kn0_ok : KnownOk Go.Proofs.Try.prog kn0 := ⟨plainP, by kernel_rfl, (fun _ h => by cases h), (fun _ h => by cases h)⟩

/-! ductility/ductilitylaw02.awake -/

abbrev as15 : List Ty := []
abbrev rs15 : List Ty := [.bool]
def f15 (_ : Tys.data as15) : Option (Tys.data rs15) := some (true, ())
def g15 (_ : Tys.data as15) : Tys.data rs15 := (true, ())
def p15 : PureC := pcOf as15 rs15 f15 g15

theorem e15 : runAsk kn0.orc Go.Proofs.Try.prog 400 15 as15 rs15 () none = some ((true, ()), []) := by kernel_rfl
theorem ok15 : PureOk Go.Proofs.Try.prog 15 p15 := pureOk_closed kn0_ok.base (by kernel_rfl) e15 All.nil
def kf15 : Known := kn0.func 15 p15
theorem kf15_ok : KnownOk Go.Proofs.Try.prog kf15 := kn0_ok.func ok15

/-! ductility/ductilitylaw02.few -/

abbrev as16 : List Ty := [(.pair (.int .i64) (.pair (.slice (.int .i64)) .unit))]
abbrev rs16 : List Ty := [.bool]

def t16 (x0 : Int) (x0' : (List Int)) : Tr (Tys.data rs16) :=
  Tr.fin (((leF (↑(List.length x0') : Int) (26 : Int) : Bool), ()))

def f16 (d : Tys.data as16) : Option (Tys.data rs16) := (t16 d.1.1 d.1.2.1).val
def g16 (d : Tys.data as16) : Tys.data rs16 := (f16 d).getD (Tys.dflt rs16)
def p16 : PureC := pcOf as16 rs16 f16 g16

theorem e16_0 (x0 : Int) (x0' : (List Int)) : runPure kf15.orc Go.Proofs.Try.prog 400 16 as16 rs16 ((x0, x0', ()), ()) [] =
    (some (((leF (↑(List.length x0') : Int) (26 : Int) : Bool), ()), [])) := by kernel_rfl

theorem ok16_t (x0 : Int) (x0' : (List Int)) : TrOk (PureRuns Go.Proofs.Try.prog kf15.orc 16 as16 rs16 ((x0, x0', ()), ())) (t16 x0 x0') :=
  TrOk.ofFin (PureRuns.of (e16_0 x0 x0') (All.nil))

theorem ok16 : PureOk Go.Proofs.Try.prog 16 p16 := pureOk_of kf15_ok.base (T := fun (d : Tys.data as16) => t16 d.1.1 d.1.2.1) (by kernel_rfl) (fun (d : Tys.data as16) => ok16_t d.1.1 d.1.2.1)
def kf16 : Known := kf15.func 16 p16
theorem kf16_ok : KnownOk Go.Proofs.Try.prog kf16 := kf15_ok.func ok16

/-! ductility/ductilitybase.CopyInts -/

abbrev as70 : List Ty := [(.slice (.int .i64))]
abbrev rs70 : List Ty := [(.slice (.int .i64))]

def t70 (x0 : (List Int)) : Tr (Tys.data rs70) :=
  Tr.test ((Nat.beq (List.length x0) (0 : Nat) : Bool))
    (Tr.fin ((([] : List Int), ())))
    (Tr.test ((Nat.ble ((0 : Nat) + List.length x0) (0 : Nat) : Bool))
      (Tr.stop /- none [op 2 of region 1 of F70] -/)
      (Tr.test ((Nat.ble (((2 : Nat) * ((0 : Nat) + List.length x0) + (192 : Nat)) * (8 : Nat)) (281474976710656 : Nat) && Nat.ble ((0 : Nat) + List.length x0) (281474976710656 : Nat) : Bool))
        (Tr.test ((Nat.beq ((0 : Nat) + List.length x0) (List.length ([] ++ x0)) : Bool))
          (Tr.fin ((([] ++ x0 : List Int), ())))
          (Tr.stop))
        (Tr.stop /- none [op 2 of region 1 of F70] -/)))

def f70 (d : Tys.data as70) : Option (Tys.data rs70) := (t70 d.1).val
def g70 (d : Tys.data as70) : Tys.data rs70 := (f70 d).getD (Tys.dflt rs70)
def p70 : PureC := pcOf as70 rs70 f70 g70

theorem e70_0 (x0 : (List Int)) : runPure kf16.orc Go.Proofs.Try.prog 400 70 as70 rs70 (x0, ()) [true, true] =
    (some ((([] : List Int), ()), [((true : Bool), true), ((Nat.beq (List.length x0) (0 : Nat) : Bool), true)])) := by kernel_rfl
theorem e70_2 (x0 : (List Int)) : runPure kf16.orc Go.Proofs.Try.prog 400 70 as70 rs70 (x0, ()) [false, false, true, true, true] =
    (some ((([] ++ x0 : List Int), ()), [((Nat.beq ((0 : Nat) + List.length x0) (List.length ([] ++ x0)) : Bool), true), ((true : Bool), true), ((Nat.ble (((2 : Nat) * ((0 : Nat) + List.length x0) + (192 : Nat)) * (8 : Nat)) (281474976710656 : Nat) && Nat.ble ((0 : Nat) + List.length x0) (281474976710656 : Nat) : Bool), true), ((Nat.ble ((0 : Nat) + List.length x0) (0 : Nat) : Bool), false), ((Nat.beq (List.length x0) (0 : Nat) : Bool), false)])) := by kernel_rfl

theorem ok70_t (x0 : (List Int)) : TrOk (PureRuns Go.Proofs.Try.prog kf16.orc 70 as70 rs70 (x0, ())) (t70 x0) :=
  TrOk.ofTest (fun h0 => TrOk.ofFin (PureRuns.of (e70_0 x0) (All.cons rfl (All.cons h0 (All.nil))))) (fun h0 => TrOk.ofTest (fun h1 => TrOk.ofStop) (fun h1 => TrOk.ofTest (fun h2 => TrOk.ofTest (fun h4 => TrOk.ofFin (PureRuns.of (e70_2 x0) (All.cons h4 (All.cons rfl (All.cons h2 (All.cons h1 (All.cons h0 (All.nil)))))))) (fun h4 => TrOk.ofStop)) (fun h2 => TrOk.ofStop)))

theorem ok70 : PureOk Go.Proofs.Try.prog 70 p70 := pureOk_of kf16_ok.base (T := fun (d : Tys.data as70) => t70 d.1) (by kernel_rfl) (fun (d : Tys.data as70) => ok70_t d.1)
def kf70 : Known := kf16.func 70 p70
theorem kf70_ok : KnownOk Go.Proofs.Try.prog kf70 := kf16_ok.func ok70

/-! ductility/ductilityref02.Copy -/

abbrev as18 : List Ty := [(.pair (.int .i64) (.pair (.slice (.int .i64)) .unit))]
abbrev rs18 : List Ty := [(.pair (.int .i64) (.pair (.slice (.int .i64)) .unit))]

def t18 (x0 : Int) (x0' : (List Int)) : Tr (Tys.data rs18) :=
  Tr.test (Option.isSome (f70 (x0', ())))
    (let r0 : List Int × PUnit := g70 (x0', ());
    Tr.fin (((x0, ((r0.fst : List Int), ())), ())))
    (Tr.stop)

def f18 (d : Tys.data as18) : Option (Tys.data rs18) := (t18 d.1.1 d.1.2.1).val
def g18 (d : Tys.data as18) : Tys.data rs18 := (f18 d).getD (Tys.dflt rs18)
def p18 : PureC := pcOf as18 rs18 f18 g18

theorem e18_0 (x0 : Int) (x0' : (List Int)) : runPure kf70.orc Go.Proofs.Try.prog 400 18 as18 rs18 ((x0, x0', ()), ()) [true] =
    (let r0 : List Int × PUnit := g70 (x0', ()); some (((x0, ((r0.fst : List Int), ())), ()), [(Option.isSome (f70 (x0', ())), true)])) := by kernel_rfl

theorem ok18_t (x0 : Int) (x0' : (List Int)) : TrOk (PureRuns Go.Proofs.Try.prog kf70.orc 18 as18 rs18 ((x0, x0', ()), ())) (t18 x0 x0') :=
  TrOk.ofTest (fun h0 => TrOk.ofFin (PureRuns.of (e18_0 x0 x0') (All.cons h0 (All.nil)))) (fun h0 => TrOk.ofStop)

theorem ok18 : PureOk Go.Proofs.Try.prog 18 p18 := pureOk_of kf70_ok.base (T := fun (d : Tys.data as18) => t18 d.1.1 d.1.2.1) (by kernel_rfl) (fun (d : Tys.data as18) => ok18_t d.1.1 d.1.2.1)
def kf18 : Known := kf70.func 18 p18
theorem kf18_ok : KnownOk Go.Proofs.Try.prog kf18 := kf70_ok.func ok18

/-! ductility/ductilityref02.CopyBand -/

abbrev as63 : List Ty := [(.slice (.pair (.pair (.int .i64) (.pair (.int .i64) .unit)) (.pair (.pair (.int .i64) (.pair (.int .i64) .unit)) .unit)))]
abbrev rs63 : List Ty := [(.slice (.pair (.pair (.int .i64) (.pair (.int .i64) .unit)) (.pair (.pair (.int .i64) (.pair (.int .i64) .unit)) .unit)))]

def t63 (x0 : (List ((Int × (Int × Unit)) × ((Int × (Int × Unit)) × Unit)))) : Tr (Tys.data rs63) :=
  Tr.test ((Nat.beq (List.length x0) (0 : Nat) : Bool))
    (Tr.fin ((([] : List ((Int × Int × PUnit) × (Int × Int × PUnit) × PUnit)), ())))
    (Tr.test ((Nat.ble ((0 : Nat) + List.length x0) (0 : Nat) : Bool))
      (Tr.stop /- none [op 2 of region 1 of F63] -/)
      (Tr.test ((Nat.ble (((2 : Nat) * ((0 : Nat) + List.length x0) + (192 : Nat)) * (32 : Nat)) (281474976710656 : Nat) && Nat.ble ((0 : Nat) + List.length x0) (281474976710656 : Nat) : Bool))
        (Tr.test ((Nat.beq ((0 : Nat) + List.length x0) (List.length ([] ++ x0)) : Bool))
          (Tr.fin ((([] ++ x0 : List ((Int × Int × PUnit) × (Int × Int × PUnit) × PUnit)), ())))
          (Tr.stop))
        (Tr.stop /- none [op 2 of region 1 of F63] -/)))

def f63 (d : Tys.data as63) : Option (Tys.data rs63) := (t63 d.1).val
def g63 (d : Tys.data as63) : Tys.data rs63 := (f63 d).getD (Tys.dflt rs63)
def p63 : PureC := { pcOf as63 rs63 f63 g63 with quiet := true }

theorem e63_0 (x0 : (List ((Int × (Int × Unit)) × ((Int × (Int × Unit)) × Unit)))) : runPure kf18.orc Go.Proofs.Try.prog 400 63 as63 rs63 (x0, ()) [true, true] =
    (some ((([] : List ((Int × Int × PUnit) × (Int × Int × PUnit) × PUnit)), ()), [((true : Bool), true), ((Nat.beq (List.length x0) (0 : Nat) : Bool), true)])) := by kernel_rfl
theorem e63_2 (x0 : (List ((Int × (Int × Unit)) × ((Int × (Int × Unit)) × Unit)))) : runPure kf18.orc Go.Proofs.Try.prog 400 63 as63 rs63 (x0, ()) [false, false, true, true, true] =
    (some ((([] ++ x0 : List ((Int × Int × PUnit) × (Int × Int × PUnit) × PUnit)), ()), [((Nat.beq ((0 : Nat) + List.length x0) (List.length ([] ++ x0)) : Bool), true), ((true : Bool), true), ((Nat.ble (((2 : Nat) * ((0 : Nat) + List.length x0) + (192 : Nat)) * (32 : Nat)) (281474976710656 : Nat) && Nat.ble ((0 : Nat) + List.length x0) (281474976710656 : Nat) : Bool), true), ((Nat.ble ((0 : Nat) + List.length x0) (0 : Nat) : Bool), false), ((Nat.beq (List.length x0) (0 : Nat) : Bool), false)])) := by kernel_rfl

theorem ok63_t (x0 : (List ((Int × (Int × Unit)) × ((Int × (Int × Unit)) × Unit)))) : TrOk (PureRuns Go.Proofs.Try.prog kf18.orc 63 as63 rs63 (x0, ())) (t63 x0) :=
  TrOk.ofTest (fun h0 => TrOk.ofFin (PureRuns.of (e63_0 x0) (All.cons rfl (All.cons h0 (All.nil))))) (fun h0 => TrOk.ofTest (fun h1 => TrOk.ofStop) (fun h1 => TrOk.ofTest (fun h2 => TrOk.ofTest (fun h4 => TrOk.ofFin (PureRuns.of (e63_2 x0) (All.cons h4 (All.cons rfl (All.cons h2 (All.cons h1 (All.cons h0 (All.nil)))))))) (fun h4 => TrOk.ofStop)) (fun h2 => TrOk.ofStop)))

theorem ok63 : PureOk Go.Proofs.Try.prog 63 p63 := PureOk.quiet (pureOk_of kf18_ok.base (T := fun (d : Tys.data as63) => t63 d.1) (by kernel_rfl) (fun (d : Tys.data as63) => ok63_t d.1))
def kf63 : Known := kf18.func 63 p63
theorem kf63_ok : KnownOk Go.Proofs.Try.prog kf63 := kf18_ok.func ok63

/-! ductility/motion.when -/

abbrev as86 : List Ty := [.bool, (.int .i64)]
abbrev rs86 : List Ty := [(.int .i64)]

def t86 (x0 : Bool) (x1 : Int) : Tr (Tys.data rs86) :=
  Tr.test (x0)
    (Tr.fin ((x1, ())))
    (Tr.fin (((0 : Int), ())))

def f86 (d : Tys.data as86) : Option (Tys.data rs86) := (t86 d.1 d.2.1).val
def g86 (d : Tys.data as86) : Tys.data rs86 := (f86 d).getD (Tys.dflt rs86)
def p86 : PureC := pcOf as86 rs86 f86 g86

theorem e86_0 (x0 : Bool) (x1 : Int) : runPure kf63.orc Go.Proofs.Try.prog 400 86 as86 rs86 (x0, x1, ()) [true] =
    (some ((x1, ()), [(x0, true)])) := by kernel_rfl
theorem e86_1 (x0 : Bool) (x1 : Int) : runPure kf63.orc Go.Proofs.Try.prog 400 86 as86 rs86 (x0, x1, ()) [false] =
    (some (((0 : Int), ()), [(x0, false)])) := by kernel_rfl

theorem ok86_t (x0 : Bool) (x1 : Int) : TrOk (PureRuns Go.Proofs.Try.prog kf63.orc 86 as86 rs86 (x0, x1, ())) (t86 x0 x1) :=
  TrOk.ofTest (fun h0 => TrOk.ofFin (PureRuns.of (e86_0 x0 x1) (All.cons h0 (All.nil)))) (fun h0 => TrOk.ofFin (PureRuns.of (e86_1 x0 x1) (All.cons h0 (All.nil))))

theorem ok86 : PureOk Go.Proofs.Try.prog 86 p86 := pureOk_of kf63_ok.base (T := fun (d : Tys.data as86) => t86 d.1 d.2.1) (by kernel_rfl) (fun (d : Tys.data as86) => ok86_t d.1 d.2.1)
def kf86 : Known := kf63.func 86 p86
theorem kf86_ok : KnownOk Go.Proofs.Try.prog kf86 := kf63_ok.func ok86

/-! loop 0 of ductility/motion.firstOf -/

abbrev sh85_0 : Sh := { n := 15, slots := [5, 6, 7], pats := [.ty (.slice (.int .i64)), .ty (.int .i64), .ty (.int .i64)], boxes := [] }
abbrev shb85_0 : Sh := { n := 15, slots := [], pats := [], boxes := [] }
abbrev shr85_0 : Sh := { n := 15, slots := [2], pats := [.ty (.int .i64)], boxes := [] }

def t85_0 (x0 : (List Int)) (x1 : Int) (x2 : Int) : Tr (Out sh85_0.data shb85_0.data shr85_0.data) :=
  Tr.test ((!leF x1 x2 : Bool))
    (Tr.test ((decide ((0 : Int) ≤ x2) && decide (x2 < (↑(List.length x0) : Int)) : Bool))
      (Tr.test ((!eqF (List.getD x0 (Int.toNat x2) (0 : Int)) (0 : Int) : Bool))
        (Tr.fin (.ret (((List.getD x0 (Int.toNat x2) (0 : Int) : Int), ()), ())))
        (Tr.fin (.again ((x0, (x1, ((wrap64 (x2 + (1 : Int)) : Int), ()))), ()))))
      (Tr.stop /- none [op 0 of region 3 of F85] -/))
    (Tr.fin (.brk ((), ())))

def s85_0 (d : sh85_0.data) : Option (Out sh85_0.data shb85_0.data shr85_0.data) := (t85_0 d.1.1 d.1.2.1 d.1.2.2.1).val
def l85_0 (d : sh85_0.data) : Option (shb85_0.data ⊕ shr85_0.data) := itr s85_0 rounds d
def b85_0 (d : sh85_0.data) : shb85_0.data := outB shb85_0.dflt (l85_0 d)
def r85_0 (d : sh85_0.data) : shr85_0.data := outR shr85_0.dflt (l85_0 d)
def lc85_0 : LoopC := lcOf sh85_0 shb85_0 shr85_0 l85_0 b85_0 r85_0

theorem e85_0_0 (x0 : (List Int)) (x1 : Int) (x2 : Int) : runBody kf86.orc Go.Proofs.Try.prog 400 85 0 sh85_0 shb85_0 shr85_0 ((x0, x1, x2, ()), ()) [true, true, true] =
    (some (.ret (((List.getD x0 (Int.toNat x2) (0 : Int) : Int), ()), ()), [((!eqF (List.getD x0 (Int.toNat x2) (0 : Int)) (0 : Int) : Bool), true), ((decide ((0 : Int) ≤ x2) && decide (x2 < (↑(List.length x0) : Int)) : Bool), true), ((!leF x1 x2 : Bool), true)])) := by kernel_rfl
theorem e85_0_1 (x0 : (List Int)) (x1 : Int) (x2 : Int) : runBody kf86.orc Go.Proofs.Try.prog 400 85 0 sh85_0 shb85_0 shr85_0 ((x0, x1, x2, ()), ()) [true, true, false] =
    (some (.again ((x0, (x1, ((wrap64 (x2 + (1 : Int)) : Int), ()))), ()), [((!eqF (List.getD x0 (Int.toNat x2) (0 : Int)) (0 : Int) : Bool), false), ((decide ((0 : Int) ≤ x2) && decide (x2 < (↑(List.length x0) : Int)) : Bool), true), ((!leF x1 x2 : Bool), true)])) := by kernel_rfl
theorem e85_0_3 (x0 : (List Int)) (x1 : Int) (x2 : Int) : runBody kf86.orc Go.Proofs.Try.prog 400 85 0 sh85_0 shb85_0 shr85_0 ((x0, x1, x2, ()), ()) [false] =
    (some (.brk ((), ()), [((!leF x1 x2 : Bool), false)])) := by kernel_rfl

theorem ok85_0_t (x0 : (List Int)) (x1 : Int) (x2 : Int) : TrOk (BodyRuns Go.Proofs.Try.prog kf86.orc 85 0 sh85_0 shb85_0 shr85_0 ((x0, x1, x2, ()), ())) (t85_0 x0 x1 x2) :=
  TrOk.ofTest (fun h0 => TrOk.ofTest (fun h1 => TrOk.ofTest (fun h2 => TrOk.ofFin (BodyRuns.of (e85_0_0 x0 x1 x2) (All.cons h2 (All.cons h1 (All.cons h0 (All.nil)))))) (fun h2 => TrOk.ofFin (BodyRuns.of (e85_0_1 x0 x1 x2) (All.cons h2 (All.cons h1 (All.cons h0 (All.nil))))))) (fun h1 => TrOk.ofStop)) (fun h0 => TrOk.ofFin (BodyRuns.of (e85_0_3 x0 x1 x2) (All.cons h0 (All.nil))))

theorem ok85_0 : LoopOk Go.Proofs.Try.prog 85 0 lc85_0 := loopOk_of kf86_ok.base (T := fun (d : sh85_0.data) => t85_0 d.1.1 d.1.2.1 d.1.2.2.1) (by kernel_rfl) rfl (fun (d : sh85_0.data) => ok85_0_t d.1.1 d.1.2.1 d.1.2.2.1) (fun _ => rfl)
def kl85_0 : Known := kf86.loop 85 0 lc85_0
theorem kl85_0_ok : KnownOk Go.Proofs.Try.prog kl85_0 := kf86_ok.loop ok85_0

/-! ductility/motion.firstOf -/

abbrev as85 : List Ty := [(.slice (.int .i64))]
abbrev rs85 : List Ty := [(.int .i64)]

def t85 (x0 : (List Int)) : Tr (Tys.data rs85) :=
  Tr.test (Option.isSome (l85_0 ((x0, ((↑(List.length x0) : Int), ((0 : Int), ()))), ())))
    (Tr.test (isRet (l85_0 ((x0, ((↑(List.length x0) : Int), ((0 : Int), ()))), ())))
      (let r0 : (Int × PUnit) × PUnit := r85_0 ((x0, ((↑(List.length x0) : Int), ((0 : Int), ()))), ());
      Tr.fin (((r0.fst.fst : Int), ())))
      (Tr.fin (((0 : Int), ()))))
    (Tr.stop)

def f85 (d : Tys.data as85) : Option (Tys.data rs85) := (t85 d.1).val
def g85 (d : Tys.data as85) : Tys.data rs85 := (f85 d).getD (Tys.dflt rs85)
def p85 : PureC := pcOf as85 rs85 f85 g85

theorem e85_0 (x0 : (List Int)) : runPure kl85_0.orc Go.Proofs.Try.prog 400 85 as85 rs85 (x0, ()) [true, true] =
    (let r0 : (Int × PUnit) × PUnit := r85_0 ((x0, ((↑(List.length x0) : Int), ((0 : Int), ()))), ()); some (((r0.fst.fst : Int), ()), [(isRet (l85_0 ((x0, ((↑(List.length x0) : Int), ((0 : Int), ()))), ())), true), (Option.isSome (l85_0 ((x0, ((↑(List.length x0) : Int), ((0 : Int), ()))), ())), true)])) := by kernel_rfl
theorem e85_1 (x0 : (List Int)) : runPure kl85_0.orc Go.Proofs.Try.prog 400 85 as85 rs85 (x0, ()) [true, false] =
    (some (((0 : Int), ()), [(isRet (l85_0 ((x0, ((↑(List.length x0) : Int), ((0 : Int), ()))), ())), false), (Option.isSome (l85_0 ((x0, ((↑(List.length x0) : Int), ((0 : Int), ()))), ())), true)])) := by kernel_rfl

theorem ok85_t (x0 : (List Int)) : TrOk (PureRuns Go.Proofs.Try.prog kl85_0.orc 85 as85 rs85 (x0, ())) (t85 x0) :=
  TrOk.ofTest (fun h0 => TrOk.ofTest (fun h1 => TrOk.ofFin (PureRuns.of (e85_0 x0) (All.cons h1 (All.cons h0 (All.nil))))) (fun h1 => TrOk.ofFin (PureRuns.of (e85_1 x0) (All.cons h1 (All.cons h0 (All.nil)))))) (fun h0 => TrOk.ofStop)

theorem ok85 : PureOk Go.Proofs.Try.prog 85 p85 := pureOk_of kl85_0_ok.base (T := fun (d : Tys.data as85) => t85 d.1) (by kernel_rfl) (fun (d : Tys.data as85) => ok85_t d.1)
def kf85 : Known := kl85_0.func 85 p85
theorem kf85_ok : KnownOk Go.Proofs.Try.prog kf85 := kl85_0_ok.func ok85

/-! loop 0 of ductility/motion.areWithin -/

abbrev sh94_0 : Sh := { n := 24, slots := [0, 1, 9, 10, 11], pats := [.ty (.int .i64), .ty (.int .i64), .ty (.slice (.int .i64)), .ty (.int .i64), .ty (.int .i64)], boxes := [] }
abbrev shb94_0 : Sh := { n := 24, slots := [], pats := [], boxes := [] }
abbrev shr94_0 : Sh := { n := 24, slots := [6], pats := [.ty .bool], boxes := [] }

def t94_0 (x0 : Int) (x1 : Int) (x2 : (List Int)) (x3 : Int) (x4 : Int) : Tr (Out sh94_0.data shb94_0.data shr94_0.data) :=
  Tr.test ((!leF x3 x4 : Bool))
    (Tr.test ((decide ((0 : Int) ≤ x4) && decide (x4 < (↑(List.length x2) : Int)) : Bool))
      (Tr.test ((!leF x0 (List.getD x2 (Int.toNat x4) (0 : Int)) : Bool))
        (Tr.fin (.ret (((false : Bool), ()), ())))
        (Tr.test ((!leF (List.getD x2 (Int.toNat x4) (0 : Int)) x1 : Bool))
          (Tr.fin (.ret (((false : Bool), ()), ())))
          (Tr.fin (.again ((x0, (x1, (x2, (x3, ((wrap64 (x4 + (1 : Int)) : Int), ()))))), ())))))
      (Tr.stop /- none [op 0 of region 3 of F94] -/))
    (Tr.fin (.brk ((), ())))

def s94_0 (d : sh94_0.data) : Option (Out sh94_0.data shb94_0.data shr94_0.data) := (t94_0 d.1.1 d.1.2.1 d.1.2.2.1 d.1.2.2.2.1 d.1.2.2.2.2.1).val
def l94_0 (d : sh94_0.data) : Option (shb94_0.data ⊕ shr94_0.data) := itr s94_0 rounds d
def b94_0 (d : sh94_0.data) : shb94_0.data := outB shb94_0.dflt (l94_0 d)
def r94_0 (d : sh94_0.data) : shr94_0.data := outR shr94_0.dflt (l94_0 d)
def lc94_0 : LoopC := lcOf sh94_0 shb94_0 shr94_0 l94_0 b94_0 r94_0

theorem e94_0_0 (x0 : Int) (x1 : Int) (x2 : (List Int)) (x3 : Int) (x4 : Int) : runBody kf85.orc Go.Proofs.Try.prog 400 94 0 sh94_0 shb94_0 shr94_0 ((x0, x1, x2, x3, x4, ()), ()) [true, true, true, true, true, true, true] =
    (some (.ret (((false : Bool), ()), ()), [((true : Bool), true), ((!leF x0 (List.getD x2 (Int.toNat x4) (0 : Int)) : Bool), true), ((!leF x0 (List.getD x2 (Int.toNat x4) (0 : Int)) : Bool), true), ((!leF x0 (List.getD x2 (Int.toNat x4) (0 : Int)) : Bool), true), ((!leF x0 (List.getD x2 (Int.toNat x4) (0 : Int)) : Bool), true), ((decide ((0 : Int) ≤ x4) && decide (x4 < (↑(List.length x2) : Int)) : Bool), true), ((!leF x3 x4 : Bool), true)])) := by kernel_rfl
theorem e94_0_1 (x0 : Int) (x1 : Int) (x2 : (List Int)) (x3 : Int) (x4 : Int) : runBody kf85.orc Go.Proofs.Try.prog 400 94 0 sh94_0 shb94_0 shr94_0 ((x0, x1, x2, x3, x4, ()), ()) [true, true, false, false, false, false, true] =
    (some (.ret (((false : Bool), ()), ()), [((!leF (List.getD x2 (Int.toNat x4) (0 : Int)) x1 : Bool), true), ((!leF x0 (List.getD x2 (Int.toNat x4) (0 : Int)) : Bool), false), ((!leF x0 (List.getD x2 (Int.toNat x4) (0 : Int)) : Bool), false), ((!leF x0 (List.getD x2 (Int.toNat x4) (0 : Int)) : Bool), false), ((!leF x0 (List.getD x2 (Int.toNat x4) (0 : Int)) : Bool), false), ((decide ((0 : Int) ≤ x4) && decide (x4 < (↑(List.length x2) : Int)) : Bool), true), ((!leF x3 x4 : Bool), true)])) := by kernel_rfl
theorem e94_0_2 (x0 : Int) (x1 : Int) (x2 : (List Int)) (x3 : Int) (x4 : Int) : runBody kf85.orc Go.Proofs.Try.prog 400 94 0 sh94_0 shb94_0 shr94_0 ((x0, x1, x2, x3, x4, ()), ()) [true, true, false, false, false, false, false] =
    (some (.again ((x0, (x1, (x2, (x3, ((wrap64 (x4 + (1 : Int)) : Int), ()))))), ()), [((!leF (List.getD x2 (Int.toNat x4) (0 : Int)) x1 : Bool), false), ((!leF x0 (List.getD x2 (Int.toNat x4) (0 : Int)) : Bool), false), ((!leF x0 (List.getD x2 (Int.toNat x4) (0 : Int)) : Bool), false), ((!leF x0 (List.getD x2 (Int.toNat x4) (0 : Int)) : Bool), false), ((!leF x0 (List.getD x2 (Int.toNat x4) (0 : Int)) : Bool), false), ((decide ((0 : Int) ≤ x4) && decide (x4 < (↑(List.length x2) : Int)) : Bool), true), ((!leF x3 x4 : Bool), true)])) := by kernel_rfl
theorem e94_0_4 (x0 : Int) (x1 : Int) (x2 : (List Int)) (x3 : Int) (x4 : Int) : runBody kf85.orc Go.Proofs.Try.prog 400 94 0 sh94_0 shb94_0 shr94_0 ((x0, x1, x2, x3, x4, ()), ()) [false] =
    (some (.brk ((), ()), [((!leF x3 x4 : Bool), false)])) := by kernel_rfl

theorem ok94_0_t (x0 : Int) (x1 : Int) (x2 : (List Int)) (x3 : Int) (x4 : Int) : TrOk (BodyRuns Go.Proofs.Try.prog kf85.orc 94 0 sh94_0 shb94_0 shr94_0 ((x0, x1, x2, x3, x4, ()), ())) (t94_0 x0 x1 x2 x3 x4) :=
  TrOk.ofTest (fun h0 => TrOk.ofTest (fun h1 => TrOk.ofTest (fun h2 => TrOk.ofFin (BodyRuns.of (e94_0_0 x0 x1 x2 x3 x4) (All.cons rfl (All.cons (not_of (of_not (h2))) (All.cons (not_of (of_not (h2))) (All.cons (not_of (of_not (h2))) (All.cons h2 (All.cons h1 (All.cons h0 (All.nil)))))))))) (fun h2 => TrOk.ofTest (fun h6 => TrOk.ofFin (BodyRuns.of (e94_0_1 x0 x1 x2 x3 x4) (All.cons h6 (All.cons (not_of (of_not (h2))) (All.cons (not_of (of_not (h2))) (All.cons (not_of (of_not (h2))) (All.cons h2 (All.cons h1 (All.cons h0 (All.nil)))))))))) (fun h6 => TrOk.ofFin (BodyRuns.of (e94_0_2 x0 x1 x2 x3 x4) (All.cons h6 (All.cons (not_of (of_not (h2))) (All.cons (not_of (of_not (h2))) (All.cons (not_of (of_not (h2))) (All.cons h2 (All.cons h1 (All.cons h0 (All.nil)))))))))))) (fun h1 => TrOk.ofStop)) (fun h0 => TrOk.ofFin (BodyRuns.of (e94_0_4 x0 x1 x2 x3 x4) (All.cons h0 (All.nil))))

theorem ok94_0 : LoopOk Go.Proofs.Try.prog 94 0 lc94_0 := loopOk_of kf85_ok.base (T := fun (d : sh94_0.data) => t94_0 d.1.1 d.1.2.1 d.1.2.2.1 d.1.2.2.2.1 d.1.2.2.2.2.1) (by kernel_rfl) rfl (fun (d : sh94_0.data) => ok94_0_t d.1.1 d.1.2.1 d.1.2.2.1 d.1.2.2.2.1 d.1.2.2.2.2.1) (fun _ => rfl)
def kl94_0 : Known := kf85.loop 94 0 lc94_0
theorem kl94_0_ok : KnownOk Go.Proofs.Try.prog kl94_0 := kf85_ok.loop ok94_0

/-! ductility/motion.areWithin -/

abbrev as94 : List Ty := [(.int .i64), (.int .i64), (.slice (.int .i64))]
abbrev rs94 : List Ty := [.bool]

def t94 (x0 : Int) (x1 : Int) (x2 : (List Int)) : Tr (Tys.data rs94) :=
  Tr.test (Option.isSome (l94_0 ((x0, (x1, (x2, ((↑(List.length x2) : Int), ((0 : Int), ()))))), ())))
    (Tr.test (isRet (l94_0 ((x0, (x1, (x2, ((↑(List.length x2) : Int), ((0 : Int), ()))))), ())))
      (let r0 : (Bool × PUnit) × PUnit := r94_0 ((x0, (x1, (x2, ((↑(List.length x2) : Int), ((0 : Int), ()))))), ());
      Tr.fin (((r0.fst.fst : Bool), ())))
      (Tr.fin (((true : Bool), ()))))
    (Tr.stop)

def f94 (d : Tys.data as94) : Option (Tys.data rs94) := (t94 d.1 d.2.1 d.2.2.1).val
def g94 (d : Tys.data as94) : Tys.data rs94 := (f94 d).getD (Tys.dflt rs94)
def p94 : PureC := pcOf as94 rs94 f94 g94

theorem e94_0 (x0 : Int) (x1 : Int) (x2 : (List Int)) : runPure kl94_0.orc Go.Proofs.Try.prog 400 94 as94 rs94 (x0, x1, x2, ()) [true, true] =
    (let r0 : (Bool × PUnit) × PUnit := r94_0 ((x0, (x1, (x2, ((↑(List.length x2) : Int), ((0 : Int), ()))))), ()); some (((r0.fst.fst : Bool), ()), [(isRet (l94_0 ((x0, (x1, (x2, ((↑(List.length x2) : Int), ((0 : Int), ()))))), ())), true), (Option.isSome (l94_0 ((x0, (x1, (x2, ((↑(List.length x2) : Int), ((0 : Int), ()))))), ())), true)])) := by kernel_rfl
theorem e94_1 (x0 : Int) (x1 : Int) (x2 : (List Int)) : runPure kl94_0.orc Go.Proofs.Try.prog 400 94 as94 rs94 (x0, x1, x2, ()) [true, false] =
    (some (((true : Bool), ()), [(isRet (l94_0 ((x0, (x1, (x2, ((↑(List.length x2) : Int), ((0 : Int), ()))))), ())), false), (Option.isSome (l94_0 ((x0, (x1, (x2, ((↑(List.length x2) : Int), ((0 : Int), ()))))), ())), true)])) := by kernel_rfl

theorem ok94_t (x0 : Int) (x1 : Int) (x2 : (List Int)) : TrOk (PureRuns Go.Proofs.Try.prog kl94_0.orc 94 as94 rs94 (x0, x1, x2, ())) (t94 x0 x1 x2) :=
  TrOk.ofTest (fun h0 => TrOk.ofTest (fun h1 => TrOk.ofFin (PureRuns.of (e94_0 x0 x1 x2) (All.cons h1 (All.cons h0 (All.nil))))) (fun h1 => TrOk.ofFin (PureRuns.of (e94_1 x0 x1 x2) (All.cons h1 (All.cons h0 (All.nil)))))) (fun h0 => TrOk.ofStop)

theorem ok94 : PureOk Go.Proofs.Try.prog 94 p94 := pureOk_of kl94_0_ok.base (T := fun (d : Tys.data as94) => t94 d.1 d.2.1 d.2.2.1) (by kernel_rfl) (fun (d : Tys.data as94) => ok94_t d.1 d.2.1 d.2.2.1)
def kf94 : Known := kl94_0.func 94 p94
theorem kf94_ok : KnownOk Go.Proofs.Try.prog kf94 := kl94_0_ok.func ok94

/-! ductility/motion.isBeyond -/

abbrev as141 : List Ty := [(.int .i64), (.slice (.int .i64))]
abbrev rs141 : List Ty := [.bool]

def t141 (x0 : Int) (x1 : (List Int)) : Tr (Tys.data rs141) :=
  Tr.test (Option.isSome (f94 ((Go.IntKind.wrap Go.IntKind.i64 ((0 : Int) - x0) : Int), (x0, (x1, ())))))
    (let r0 : Bool × PUnit := g94 ((Go.IntKind.wrap Go.IntKind.i64 ((0 : Int) - x0) : Int), (x0, (x1, ())));
    Tr.fin (((!r0.fst : Bool), ())))
    (Tr.stop)

def f141 (d : Tys.data as141) : Option (Tys.data rs141) := (t141 d.1 d.2.1).val
def g141 (d : Tys.data as141) : Tys.data rs141 := (f141 d).getD (Tys.dflt rs141)
def p141 : PureC := pcOf as141 rs141 f141 g141

theorem e141_0 (x0 : Int) (x1 : (List Int)) : runPure kf94.orc Go.Proofs.Try.prog 400 141 as141 rs141 (x0, x1, ()) [true] =
    (let r0 : Bool × PUnit := g94 ((Go.IntKind.wrap Go.IntKind.i64 ((0 : Int) - x0) : Int), (x0, (x1, ()))); some (((!r0.fst : Bool), ()), [(Option.isSome (f94 ((Go.IntKind.wrap Go.IntKind.i64 ((0 : Int) - x0) : Int), (x0, (x1, ())))), true)])) := by kernel_rfl

theorem ok141_t (x0 : Int) (x1 : (List Int)) : TrOk (PureRuns Go.Proofs.Try.prog kf94.orc 141 as141 rs141 (x0, x1, ())) (t141 x0 x1) :=
  TrOk.ofTest (fun h0 => TrOk.ofFin (PureRuns.of (e141_0 x0 x1) (All.cons h0 (All.nil)))) (fun h0 => TrOk.ofStop)

theorem ok141 : PureOk Go.Proofs.Try.prog 141 p141 := pureOk_of kf94_ok.base (T := fun (d : Tys.data as141) => t141 d.1 d.2.1) (by kernel_rfl) (fun (d : Tys.data as141) => ok141_t d.1 d.2.1)
def kf141 : Known := kf94.func 141 p141
theorem kf141_ok : KnownOk Go.Proofs.Try.prog kf141 := kf94_ok.func ok141

/-! ductility/motion.checkSamples$1 -/

abbrev as140 : List Ty := [(.int .i64), (.int .i64)]
abbrev rs140 : List Ty := [(.int .i64)]

def t140 (x0 : Int) (x1 : Int) : Tr (Tys.data rs140) :=
  Tr.test (Option.isSome (f141 ((1000 : Int), (([x1] : List Int), ()))))
    (let r0 : Bool × PUnit := g141 ((1000 : Int), (([x1] : List Int), ()));
    Tr.test (Option.isSome (f86 ((r0.fst : Bool), ((2 : Int), ()))))
      (let r1 : Int × PUnit := g86 ((r0.fst : Bool), ((2 : Int), ()));
      Tr.fin (((r1.fst : Int), ())))
      (Tr.stop))
    (Tr.stop)

def f140 (d : Tys.data as140) : Option (Tys.data rs140) := (t140 d.1 d.2.1).val
def g140 (d : Tys.data as140) : Tys.data rs140 := (f140 d).getD (Tys.dflt rs140)
def p140 : PureC := pcOf as140 rs140 f140 g140

theorem e140_0 (x0 : Int) (x1 : Int) : runPure kf141.orc Go.Proofs.Try.prog 400 140 as140 rs140 (x0, x1, ()) [true, true, true] =
    (let r0 : Bool × PUnit := g141 ((1000 : Int), (([x1] : List Int), ())); let r1 : Int × PUnit := g86 ((r0.fst : Bool), ((2 : Int), ())); some (((r1.fst : Int), ()), [(Option.isSome (f86 ((r0.fst : Bool), ((2 : Int), ()))), true), (Option.isSome (f141 ((1000 : Int), (([x1] : List Int), ()))), true), ((true : Bool), true)])) := by kernel_rfl

theorem ok140_t (x0 : Int) (x1 : Int) : TrOk (PureRuns Go.Proofs.Try.prog kf141.orc 140 as140 rs140 (x0, x1, ())) (t140 x0 x1) :=
  TrOk.ofTest (fun h1 => TrOk.ofTest (fun h2 => TrOk.ofFin (PureRuns.of (e140_0 x0 x1) (All.cons h2 (All.cons h1 (All.cons rfl (All.nil)))))) (fun h2 => TrOk.ofStop)) (fun h1 => TrOk.ofStop)

theorem ok140 : PureOk Go.Proofs.Try.prog 140 p140 := pureOk_of kf141_ok.base (T := fun (d : Tys.data as140) => t140 d.1 d.2.1) (by kernel_rfl) (fun (d : Tys.data as140) => ok140_t d.1 d.2.1)
def kf140 : Known := kf141.func 140 p140
theorem kf140_ok : KnownOk Go.Proofs.Try.prog kf140 := kf141_ok.func ok140

/-! loop 0 of ductility/motion.checkItems[int] -/

abbrev sh106_0 : Sh := { n := 25, slots := [1, 9, 10, 11], pats := [.fn 140 [], .ty (.slice (.int .i64)), .ty (.int .i64), .ty (.int .i64)], boxes := [] }
abbrev shb106_0 : Sh := { n := 25, slots := [], pats := [], boxes := [] }
abbrev shr106_0 : Sh := { n := 25, slots := [4, 5], pats := [.ty (.int .i64), .ty (.int .i64)], boxes := [] }

def t106_0 (x1 : (List Int)) (x2 : Int) (x3 : Int) : Tr (Out sh106_0.data shb106_0.data shr106_0.data) :=
  Tr.test ((!leF x2 x3 : Bool))
    (Tr.test ((decide ((0 : Int) ≤ x3) && decide (x3 < (↑(List.length x1) : Int)) : Bool))
      (Tr.test (Option.isSome (f140 (x3, ((List.getD x1 (Int.toNat x3) (0 : Int) : Int), ()))))
        (let r0 : Int × PUnit := g140 (x3, ((List.getD x1 (Int.toNat x3) (0 : Int) : Int), ()));
        Tr.test ((!eqF r0.fst (0 : Int) : Bool))
          (Tr.fin (.ret ((x3, ((r0.fst : Int), ())), ())))
          (Tr.fin (.again ((x1, (x2, ((wrap64 (x3 + (1 : Int)) : Int), ()))), ()))))
        (Tr.stop))
      (Tr.stop /- none [op 1 of region 3 of F106] -/))
    (Tr.fin (.brk ((), ())))

def s106_0 (d : sh106_0.data) : Option (Out sh106_0.data shb106_0.data shr106_0.data) := (t106_0 d.1.1 d.1.2.1 d.1.2.2.1).val
def l106_0 (d : sh106_0.data) : Option (shb106_0.data ⊕ shr106_0.data) := itr s106_0 rounds d
def b106_0 (d : sh106_0.data) : shb106_0.data := outB shb106_0.dflt (l106_0 d)
def r106_0 (d : sh106_0.data) : shr106_0.data := outR shr106_0.dflt (l106_0 d)
def lc106_0 : LoopC := lcOf sh106_0 shb106_0 shr106_0 l106_0 b106_0 r106_0

theorem e106_0_0 (x1 : (List Int)) (x2 : Int) (x3 : Int) : runBody kf140.orc Go.Proofs.Try.prog 400 106 0 sh106_0 shb106_0 shr106_0 ((x1, x2, x3, ()), ()) [true, true, true, true] =
    (let r0 : Int × PUnit := g140 (x3, ((List.getD x1 (Int.toNat x3) (0 : Int) : Int), ())); some (.ret ((x3, ((r0.fst : Int), ())), ()), [((!eqF r0.fst (0 : Int) : Bool), true), (Option.isSome (f140 (x3, ((List.getD x1 (Int.toNat x3) (0 : Int) : Int), ()))), true), ((decide ((0 : Int) ≤ x3) && decide (x3 < (↑(List.length x1) : Int)) : Bool), true), ((!leF x2 x3 : Bool), true)])) := by kernel_rfl
theorem e106_0_1 (x1 : (List Int)) (x2 : Int) (x3 : Int) : runBody kf140.orc Go.Proofs.Try.prog 400 106 0 sh106_0 shb106_0 shr106_0 ((x1, x2, x3, ()), ()) [true, true, true, false] =
    (let r0 : Int × PUnit := g140 (x3, ((List.getD x1 (Int.toNat x3) (0 : Int) : Int), ())); some (.again ((x1, (x2, ((wrap64 (x3 + (1 : Int)) : Int), ()))), ()), [((!eqF r0.fst (0 : Int) : Bool), false), (Option.isSome (f140 (x3, ((List.getD x1 (Int.toNat x3) (0 : Int) : Int), ()))), true), ((decide ((0 : Int) ≤ x3) && decide (x3 < (↑(List.length x1) : Int)) : Bool), true), ((!leF x2 x3 : Bool), true)])) := by kernel_rfl
theorem e106_0_3 (x1 : (List Int)) (x2 : Int) (x3 : Int) : runBody kf140.orc Go.Proofs.Try.prog 400 106 0 sh106_0 shb106_0 shr106_0 ((x1, x2, x3, ()), ()) [false] =
    (some (.brk ((), ()), [((!leF x2 x3 : Bool), false)])) := by kernel_rfl

theorem ok106_0_t (x1 : (List Int)) (x2 : Int) (x3 : Int) : TrOk (BodyRuns Go.Proofs.Try.prog kf140.orc 106 0 sh106_0 shb106_0 shr106_0 ((x1, x2, x3, ()), ())) (t106_0 x1 x2 x3) :=
  TrOk.ofTest (fun h0 => TrOk.ofTest (fun h1 => TrOk.ofTest (fun h2 => TrOk.ofTest (fun h3 => TrOk.ofFin (BodyRuns.of (e106_0_0 x1 x2 x3) (All.cons h3 (All.cons h2 (All.cons h1 (All.cons h0 (All.nil))))))) (fun h3 => TrOk.ofFin (BodyRuns.of (e106_0_1 x1 x2 x3) (All.cons h3 (All.cons h2 (All.cons h1 (All.cons h0 (All.nil)))))))) (fun h2 => TrOk.ofStop)) (fun h1 => TrOk.ofStop)) (fun h0 => TrOk.ofFin (BodyRuns.of (e106_0_3 x1 x2 x3) (All.cons h0 (All.nil))))

theorem ok106_0 : LoopOk Go.Proofs.Try.prog 106 0 lc106_0 := loopOk_of kf140_ok.base (T := fun (d : sh106_0.data) => t106_0 d.1.1 d.1.2.1 d.1.2.2.1) (by kernel_rfl) rfl (fun (d : sh106_0.data) => ok106_0_t d.1.1 d.1.2.1 d.1.2.2.1) (fun _ => rfl)
def kl106_0 : Known := kf140.loop 106 0 lc106_0
theorem kl106_0_ok : KnownOk Go.Proofs.Try.prog kl106_0 := kf140_ok.loop ok106_0

/-! ductility/motion.checkSamples -/

abbrev as87 : List Ty := [(.slice (.int .i64))]
abbrev rs87 : List Ty := [(.int .i64), (.int .i64)]

def t87 (x0 : (List Int)) : Tr (Tys.data rs87) :=
  Tr.test (Option.isSome (l106_0 ((x0, ((↑(List.length x0) : Int), ((0 : Int), ()))), ())))
    (Tr.test (isRet (l106_0 ((x0, ((↑(List.length x0) : Int), ((0 : Int), ()))), ())))
      (let r0 : (Int × Int × PUnit) × PUnit := r106_0 ((x0, ((↑(List.length x0) : Int), ((0 : Int), ()))), ());
      Tr.fin (((r0.fst.fst : Int), ((r0.fst.snd.fst : Int), ()))))
      (Tr.fin (((0 : Int), ((0 : Int), ())))))
    (Tr.stop)

def f87 (d : Tys.data as87) : Option (Tys.data rs87) := (t87 d.1).val
def g87 (d : Tys.data as87) : Tys.data rs87 := (f87 d).getD (Tys.dflt rs87)
def p87 : PureC := pcOf as87 rs87 f87 g87

theorem e87_0 (x0 : (List Int)) : runPure kl106_0.orc Go.Proofs.Try.prog 400 87 as87 rs87 (x0, ()) [true, true] =
    (let r0 : (Int × Int × PUnit) × PUnit := r106_0 ((x0, ((↑(List.length x0) : Int), ((0 : Int), ()))), ()); some (((r0.fst.fst : Int), ((r0.fst.snd.fst : Int), ())), [(isRet (l106_0 ((x0, ((↑(List.length x0) : Int), ((0 : Int), ()))), ())), true), (Option.isSome (l106_0 ((x0, ((↑(List.length x0) : Int), ((0 : Int), ()))), ())), true)])) := by kernel_rfl
theorem e87_1 (x0 : (List Int)) : runPure kl106_0.orc Go.Proofs.Try.prog 400 87 as87 rs87 (x0, ()) [true, false] =
    (some (((0 : Int), ((0 : Int), ())), [(isRet (l106_0 ((x0, ((↑(List.length x0) : Int), ((0 : Int), ()))), ())), false), (Option.isSome (l106_0 ((x0, ((↑(List.length x0) : Int), ((0 : Int), ()))), ())), true)])) := by kernel_rfl

theorem ok87_t (x0 : (List Int)) : TrOk (PureRuns Go.Proofs.Try.prog kl106_0.orc 87 as87 rs87 (x0, ())) (t87 x0) :=
  TrOk.ofTest (fun h0 => TrOk.ofTest (fun h1 => TrOk.ofFin (PureRuns.of (e87_0 x0) (All.cons h1 (All.cons h0 (All.nil))))) (fun h1 => TrOk.ofFin (PureRuns.of (e87_1 x0) (All.cons h1 (All.cons h0 (All.nil)))))) (fun h0 => TrOk.ofStop)

theorem ok87 : PureOk Go.Proofs.Try.prog 87 p87 := pureOk_of kl106_0_ok.base (T := fun (d : Tys.data as87) => t87 d.1) (by kernel_rfl) (fun (d : Tys.data as87) => ok87_t d.1)
def kf87 : Known := kl106_0.func 87 p87
theorem kf87_ok : KnownOk Go.Proofs.Try.prog kf87 := kl106_0_ok.func ok87

/-! ductility/motion.CheckRecord -/

abbrev as17 : List Ty := [(.pair (.int .i64) (.pair (.slice (.int .i64)) .unit))]
abbrev rs17 : List Ty := [(.int .i64), (.int .i64)]

def t17 (x0 : Int) (x0' : (List Int)) : Tr (Tys.data rs17) :=
  Tr.test ((!leF (1 : Int) x0 : Bool))
    (Tr.test (Option.isSome (f86 ((true : Bool), ((2 : Int), ()))))
      (Tr.test (Option.isSome (f86 ((!leF (2 : Int) (↑(List.length x0') : Int) : Bool), ((10 : Int), ()))))
        (Tr.test (Option.isSome (f86 ((!leF (↑(List.length x0') : Int) (24 : Int) : Bool), ((8 : Int), ()))))
          (let r0 : Int × PUnit := g86 ((true : Bool), ((2 : Int), ()));
          let r2 : Int × PUnit := g86 ((!leF (2 : Int) (↑(List.length x0') : Int) : Bool), ((10 : Int), ()));
          let r3 : Int × PUnit := g86 ((!leF (↑(List.length x0') : Int) (24 : Int) : Bool), ((8 : Int), ()));
          Tr.test (Option.isSome (f85 (([r0.fst, r2.fst, r3.fst] : List Int), ())))
            (let r4 : Int × PUnit := g85 (([r0.fst, r2.fst, r3.fst] : List Int), ());
            Tr.test ((!eqF r4.fst (0 : Int) : Bool))
              (Tr.fin (((0 : Int), ((r4.fst : Int), ()))))
              (Tr.test (Option.isSome (f87 (x0', ())))
                (let r6 : Int × Int × PUnit := g87 (x0', ());
                Tr.fin (((r6.fst : Int), ((r6.snd.fst : Int), ()))))
                (Tr.stop)))
            (Tr.stop))
          (Tr.stop))
        (Tr.stop))
      (Tr.stop))
    (Tr.test (Option.isSome (f86 ((!leF x0 (1000000 : Int) : Bool), ((2 : Int), ()))))
      (Tr.test (Option.isSome (f86 ((!leF (2 : Int) (↑(List.length x0') : Int) : Bool), ((10 : Int), ()))))
        (Tr.test (Option.isSome (f86 ((!leF (↑(List.length x0') : Int) (24 : Int) : Bool), ((8 : Int), ()))))
          (let r1 : Int × PUnit := g86 ((!leF x0 (1000000 : Int) : Bool), ((2 : Int), ()));
          let r2 : Int × PUnit := g86 ((!leF (2 : Int) (↑(List.length x0') : Int) : Bool), ((10 : Int), ()));
          let r3 : Int × PUnit := g86 ((!leF (↑(List.length x0') : Int) (24 : Int) : Bool), ((8 : Int), ()));
          Tr.test (Option.isSome (f85 (([r1.fst, r2.fst, r3.fst] : List Int), ())))
            (let r5 : Int × PUnit := g85 (([r1.fst, r2.fst, r3.fst] : List Int), ());
            Tr.test ((!eqF r5.fst (0 : Int) : Bool))
              (Tr.fin (((0 : Int), ((r5.fst : Int), ()))))
              (Tr.test (Option.isSome (f87 (x0', ())))
                (let r6 : Int × Int × PUnit := g87 (x0', ());
                Tr.fin (((r6.fst : Int), ((r6.snd.fst : Int), ()))))
                (Tr.stop)))
            (Tr.stop))
          (Tr.stop))
        (Tr.stop))
      (Tr.stop))

def f17 (d : Tys.data as17) : Option (Tys.data rs17) := (t17 d.1.1 d.1.2.1).val
def g17 (d : Tys.data as17) : Tys.data rs17 := (f17 d).getD (Tys.dflt rs17)
def p17 : PureC := pcOf as17 rs17 f17 g17

theorem e17_0 (x0 : Int) (x0' : (List Int)) : runPure kf87.orc Go.Proofs.Try.prog 400 17 as17 rs17 ((x0, x0', ()), ()) [true, true, true, true, true, true, true, true, true, true] =
    (let r0 : Int × PUnit := g86 ((true : Bool), ((2 : Int), ())); let r2 : Int × PUnit := g86 ((!leF (2 : Int) (↑(List.length x0') : Int) : Bool), ((10 : Int), ())); let r3 : Int × PUnit := g86 ((!leF (↑(List.length x0') : Int) (24 : Int) : Bool), ((8 : Int), ())); let r4 : Int × PUnit := g85 (([r0.fst, r2.fst, r3.fst] : List Int), ()); some (((0 : Int), ((r4.fst : Int), ())), [((!eqF r4.fst (0 : Int) : Bool), true), (Option.isSome (f85 (([r0.fst, r2.fst, r3.fst] : List Int), ())), true), ((true : Bool), true), (Option.isSome (f86 ((!leF (↑(List.length x0') : Int) (24 : Int) : Bool), ((8 : Int), ()))), true), (Option.isSome (f86 ((!leF (2 : Int) (↑(List.length x0') : Int) : Bool), ((10 : Int), ()))), true), (Option.isSome (f86 ((true : Bool), ((2 : Int), ()))), true), ((!leF (1 : Int) x0 : Bool), true), ((!leF (1 : Int) x0 : Bool), true), ((!leF (1 : Int) x0 : Bool), true), ((!leF (1 : Int) x0 : Bool), true)])) := by kernel_rfl
theorem e17_1 (x0 : Int) (x0' : (List Int)) : runPure kf87.orc Go.Proofs.Try.prog 400 17 as17 rs17 ((x0, x0', ()), ()) [true, true, true, true, true, true, true, true, true, false, true] =
    (let r0 : Int × PUnit := g86 ((true : Bool), ((2 : Int), ())); let r2 : Int × PUnit := g86 ((!leF (2 : Int) (↑(List.length x0') : Int) : Bool), ((10 : Int), ())); let r3 : Int × PUnit := g86 ((!leF (↑(List.length x0') : Int) (24 : Int) : Bool), ((8 : Int), ())); let r4 : Int × PUnit := g85 (([r0.fst, r2.fst, r3.fst] : List Int), ()); let r6 : Int × Int × PUnit := g87 (x0', ()); some (((r6.fst : Int), ((r6.snd.fst : Int), ())), [(Option.isSome (f87 (x0', ())), true), ((!eqF r4.fst (0 : Int) : Bool), false), (Option.isSome (f85 (([r0.fst, r2.fst, r3.fst] : List Int), ())), true), ((true : Bool), true), (Option.isSome (f86 ((!leF (↑(List.length x0') : Int) (24 : Int) : Bool), ((8 : Int), ()))), true), (Option.isSome (f86 ((!leF (2 : Int) (↑(List.length x0') : Int) : Bool), ((10 : Int), ()))), true), (Option.isSome (f86 ((true : Bool), ((2 : Int), ()))), true), ((!leF (1 : Int) x0 : Bool), true), ((!leF (1 : Int) x0 : Bool), true), ((!leF (1 : Int) x0 : Bool), true), ((!leF (1 : Int) x0 : Bool), true)])) := by kernel_rfl
theorem e17_2 (x0 : Int) (x0' : (List Int)) : runPure kf87.orc Go.Proofs.Try.prog 400 17 as17 rs17 ((x0, x0', ()), ()) [false, false, false, false, true, true, true, true, true, true] =
    (let r1 : Int × PUnit := g86 ((!leF x0 (1000000 : Int) : Bool), ((2 : Int), ())); let r2 : Int × PUnit := g86 ((!leF (2 : Int) (↑(List.length x0') : Int) : Bool), ((10 : Int), ())); let r3 : Int × PUnit := g86 ((!leF (↑(List.length x0') : Int) (24 : Int) : Bool), ((8 : Int), ())); let r5 : Int × PUnit := g85 (([r1.fst, r2.fst, r3.fst] : List Int), ()); some (((0 : Int), ((r5.fst : Int), ())), [((!eqF r5.fst (0 : Int) : Bool), true), (Option.isSome (f85 (([r1.fst, r2.fst, r3.fst] : List Int), ())), true), ((true : Bool), true), (Option.isSome (f86 ((!leF (↑(List.length x0') : Int) (24 : Int) : Bool), ((8 : Int), ()))), true), (Option.isSome (f86 ((!leF (2 : Int) (↑(List.length x0') : Int) : Bool), ((10 : Int), ()))), true), (Option.isSome (f86 ((!leF x0 (1000000 : Int) : Bool), ((2 : Int), ()))), true), ((!leF (1 : Int) x0 : Bool), false), ((!leF (1 : Int) x0 : Bool), false), ((!leF (1 : Int) x0 : Bool), false), ((!leF (1 : Int) x0 : Bool), false)])) := by kernel_rfl
theorem e17_3 (x0 : Int) (x0' : (List Int)) : runPure kf87.orc Go.Proofs.Try.prog 400 17 as17 rs17 ((x0, x0', ()), ()) [false, false, false, false, true, true, true, true, true, false, true] =
    (let r1 : Int × PUnit := g86 ((!leF x0 (1000000 : Int) : Bool), ((2 : Int), ())); let r2 : Int × PUnit := g86 ((!leF (2 : Int) (↑(List.length x0') : Int) : Bool), ((10 : Int), ())); let r3 : Int × PUnit := g86 ((!leF (↑(List.length x0') : Int) (24 : Int) : Bool), ((8 : Int), ())); let r5 : Int × PUnit := g85 (([r1.fst, r2.fst, r3.fst] : List Int), ()); let r6 : Int × Int × PUnit := g87 (x0', ()); some (((r6.fst : Int), ((r6.snd.fst : Int), ())), [(Option.isSome (f87 (x0', ())), true), ((!eqF r5.fst (0 : Int) : Bool), false), (Option.isSome (f85 (([r1.fst, r2.fst, r3.fst] : List Int), ())), true), ((true : Bool), true), (Option.isSome (f86 ((!leF (↑(List.length x0') : Int) (24 : Int) : Bool), ((8 : Int), ()))), true), (Option.isSome (f86 ((!leF (2 : Int) (↑(List.length x0') : Int) : Bool), ((10 : Int), ()))), true), (Option.isSome (f86 ((!leF x0 (1000000 : Int) : Bool), ((2 : Int), ()))), true), ((!leF (1 : Int) x0 : Bool), false), ((!leF (1 : Int) x0 : Bool), false), ((!leF (1 : Int) x0 : Bool), false), ((!leF (1 : Int) x0 : Bool), false)])) := by kernel_rfl

theorem ok17_t (x0 : Int) (x0' : (List Int)) : TrOk (PureRuns Go.Proofs.Try.prog kf87.orc 17 as17 rs17 ((x0, x0', ()), ())) (t17 x0 x0') :=
  TrOk.ofTest (fun h0 => TrOk.ofTest (fun h4 => TrOk.ofTest (fun h5 => TrOk.ofTest (fun h6 => TrOk.ofTest (fun h8 => TrOk.ofTest (fun h9 => TrOk.ofFin (PureRuns.of (e17_0 x0 x0') (All.cons h9 (All.cons h8 (All.cons rfl (All.cons h6 (All.cons h5 (All.cons h4 (All.cons (not_of (of_not (h0))) (All.cons (not_of (of_not (h0))) (All.cons (not_of (of_not (h0))) (All.cons h0 (All.nil))))))))))))) (fun h9 => TrOk.ofTest (fun h10 => TrOk.ofFin (PureRuns.of (e17_1 x0 x0') (All.cons h10 (All.cons h9 (All.cons h8 (All.cons rfl (All.cons h6 (All.cons h5 (All.cons h4 (All.cons (not_of (of_not (h0))) (All.cons (not_of (of_not (h0))) (All.cons (not_of (of_not (h0))) (All.cons h0 (All.nil)))))))))))))) (fun h10 => TrOk.ofStop))) (fun h8 => TrOk.ofStop)) (fun h6 => TrOk.ofStop)) (fun h5 => TrOk.ofStop)) (fun h4 => TrOk.ofStop)) (fun h0 => TrOk.ofTest (fun h4 => TrOk.ofTest (fun h5 => TrOk.ofTest (fun h6 => TrOk.ofTest (fun h8 => TrOk.ofTest (fun h9 => TrOk.ofFin (PureRuns.of (e17_2 x0 x0') (All.cons h9 (All.cons h8 (All.cons rfl (All.cons h6 (All.cons h5 (All.cons h4 (All.cons (not_of (of_not (h0))) (All.cons (not_of (of_not (h0))) (All.cons (not_of (of_not (h0))) (All.cons h0 (All.nil))))))))))))) (fun h9 => TrOk.ofTest (fun h10 => TrOk.ofFin (PureRuns.of (e17_3 x0 x0') (All.cons h10 (All.cons h9 (All.cons h8 (All.cons rfl (All.cons h6 (All.cons h5 (All.cons h4 (All.cons (not_of (of_not (h0))) (All.cons (not_of (of_not (h0))) (All.cons (not_of (of_not (h0))) (All.cons h0 (All.nil)))))))))))))) (fun h10 => TrOk.ofStop))) (fun h8 => TrOk.ofStop)) (fun h6 => TrOk.ofStop)) (fun h5 => TrOk.ofStop)) (fun h4 => TrOk.ofStop))

theorem ok17 : PureOk Go.Proofs.Try.prog 17 p17 := pureOk_of kf87_ok.base (T := fun (d : Tys.data as17) => t17 d.1.1 d.1.2.1) (by kernel_rfl) (fun (d : Tys.data as17) => ok17_t d.1.1 d.1.2.1)
def kf17 : Known := kf87.func 17 p17
theorem kf17_ok : KnownOk Go.Proofs.Try.prog kf17 := kf87_ok.func ok17

/-! ductility/motion.recordError -/

abbrev as88 : List Ty := [(.pair (.int .i64) (.pair (.slice (.int .i64)) .unit))]
abbrev rs88 : List Ty := [(.int .i64)]

def t88 (x0 : Int) (x0' : (List Int)) : Tr (Tys.data rs88) :=
  Tr.test (Option.isSome (f17 ((x0, (x0', ())), ())))
    (let r0 : Int × Int × PUnit := g17 ((x0, (x0', ())), ());
    Tr.fin (((r0.snd.fst : Int), ())))
    (Tr.stop)

def f88 (d : Tys.data as88) : Option (Tys.data rs88) := (t88 d.1.1 d.1.2.1).val
def g88 (d : Tys.data as88) : Tys.data rs88 := (f88 d).getD (Tys.dflt rs88)
def p88 : PureC := pcOf as88 rs88 f88 g88

theorem e88_0 (x0 : Int) (x0' : (List Int)) : runPure kf17.orc Go.Proofs.Try.prog 400 88 as88 rs88 ((x0, x0', ()), ()) [true] =
    (let r0 : Int × Int × PUnit := g17 ((x0, (x0', ())), ()); some (((r0.snd.fst : Int), ()), [(Option.isSome (f17 ((x0, (x0', ())), ())), true)])) := by kernel_rfl

theorem ok88_t (x0 : Int) (x0' : (List Int)) : TrOk (PureRuns Go.Proofs.Try.prog kf17.orc 88 as88 rs88 ((x0, x0', ()), ())) (t88 x0 x0') :=
  TrOk.ofTest (fun h0 => TrOk.ofFin (PureRuns.of (e88_0 x0 x0') (All.cons h0 (All.nil)))) (fun h0 => TrOk.ofStop)

theorem ok88 : PureOk Go.Proofs.Try.prog 88 p88 := pureOk_of kf17_ok.base (T := fun (d : Tys.data as88) => t88 d.1.1 d.1.2.1) (by kernel_rfl) (fun (d : Tys.data as88) => ok88_t d.1.1 d.1.2.1)
def kf88 : Known := kf17.func 88 p88
theorem kf88_ok : KnownOk Go.Proofs.Try.prog kf88 := kf17_ok.func ok88

/-! ductility/motion.oscillatorError -/

abbrev as119 : List Ty := [(.pair (.int .i64) (.pair (.int .i64) .unit))]
abbrev rs119 : List Ty := [(.int .i64)]

def t119 (x0 : Int) (x0' : Int) : Tr (Tys.data rs119) :=
  Tr.test (Option.isSome (f94 ((0 : Int), ((3000 : Int), (([x0] : List Int), ())))))
    (let r0 : Bool × PUnit := g94 ((0 : Int), ((3000 : Int), (([x0] : List Int), ())));
    Tr.test (Option.isSome (f86 ((!r0.fst : Bool), ((2 : Int), ()))))
      (Tr.test (Option.isSome (f94 ((0 : Int), ((500 : Int), (([x0'] : List Int), ())))))
        (let r2 : Bool × PUnit := g94 ((0 : Int), ((500 : Int), (([x0'] : List Int), ())));
        Tr.test (Option.isSome (f86 ((!r2.fst : Bool), ((2 : Int), ()))))
          (let r1 : Int × PUnit := g86 ((!r0.fst : Bool), ((2 : Int), ()));
          let r3 : Int × PUnit := g86 ((!r2.fst : Bool), ((2 : Int), ()));
          Tr.test (Option.isSome (f85 (([r1.fst, r3.fst] : List Int), ())))
            (let r4 : Int × PUnit := g85 (([r1.fst, r3.fst] : List Int), ());
            Tr.fin (((r4.fst : Int), ())))
            (Tr.stop))
          (Tr.stop))
        (Tr.stop))
      (Tr.stop))
    (Tr.stop)

def f119 (d : Tys.data as119) : Option (Tys.data rs119) := (t119 d.1.1 d.1.2.1).val
def g119 (d : Tys.data as119) : Tys.data rs119 := (f119 d).getD (Tys.dflt rs119)
def p119 : PureC := pcOf as119 rs119 f119 g119

theorem e119_0 (x0 : Int) (x0' : Int) : runPure kf88.orc Go.Proofs.Try.prog 400 119 as119 rs119 ((x0, x0', ()), ()) [true, true, true, true, true, true, true, true] =
    (let r0 : Bool × PUnit := g94 ((0 : Int), ((3000 : Int), (([x0] : List Int), ()))); let r2 : Bool × PUnit := g94 ((0 : Int), ((500 : Int), (([x0'] : List Int), ()))); let r1 : Int × PUnit := g86 ((!r0.fst : Bool), ((2 : Int), ())); let r3 : Int × PUnit := g86 ((!r2.fst : Bool), ((2 : Int), ())); let r4 : Int × PUnit := g85 (([r1.fst, r3.fst] : List Int), ()); some (((r4.fst : Int), ()), [(Option.isSome (f85 (([r1.fst, r3.fst] : List Int), ())), true), ((true : Bool), true), (Option.isSome (f86 ((!r2.fst : Bool), ((2 : Int), ()))), true), (Option.isSome (f94 ((0 : Int), ((500 : Int), (([x0'] : List Int), ())))), true), ((true : Bool), true), (Option.isSome (f86 ((!r0.fst : Bool), ((2 : Int), ()))), true), (Option.isSome (f94 ((0 : Int), ((3000 : Int), (([x0] : List Int), ())))), true), ((true : Bool), true)])) := by kernel_rfl

theorem ok119_t (x0 : Int) (x0' : Int) : TrOk (PureRuns Go.Proofs.Try.prog kf88.orc 119 as119 rs119 ((x0, x0', ()), ())) (t119 x0 x0') :=
  TrOk.ofTest (fun h1 => TrOk.ofTest (fun h2 => TrOk.ofTest (fun h4 => TrOk.ofTest (fun h5 => TrOk.ofTest (fun h7 => TrOk.ofFin (PureRuns.of (e119_0 x0 x0') (All.cons h7 (All.cons rfl (All.cons h5 (All.cons h4 (All.cons rfl (All.cons h2 (All.cons h1 (All.cons rfl (All.nil))))))))))) (fun h7 => TrOk.ofStop)) (fun h5 => TrOk.ofStop)) (fun h4 => TrOk.ofStop)) (fun h2 => TrOk.ofStop)) (fun h1 => TrOk.ofStop)

theorem ok119 : PureOk Go.Proofs.Try.prog 119 p119 := pureOk_of kf88_ok.base (T := fun (d : Tys.data as119) => t119 d.1.1 d.1.2.1) (by kernel_rfl) (fun (d : Tys.data as119) => ok119_t d.1.1 d.1.2.1)
def kf119 : Known := kf88.func 119 p119
theorem kf119_ok : KnownOk Go.Proofs.Try.prog kf119 := kf88_ok.func ok119

/-! ductility/motion.bandError$1 -/

abbrev as162 : List Ty := [(.int .i64), (.pair (.pair (.int .i64) (.pair (.int .i64) .unit)) (.pair (.pair (.int .i64) (.pair (.int .i64) .unit)) .unit))]
abbrev rs162 : List Ty := [(.int .i64)]

def t162 (x0 : Int) (x1_ : Int) (x1_' : Int) (x1'_ : Int) (x1'_' : Int) : Tr (Tys.data rs162) :=
  Tr.test (Option.isSome (f119 ((x1_, (x1_', ())), ())))
    (Tr.test (Option.isSome (f94 ((0 : Int), ((1000000 : Int), (([x1'_, x1'_'] : List Int), ())))))
      (let r1 : Bool × PUnit := g94 ((0 : Int), ((1000000 : Int), (([x1'_, x1'_'] : List Int), ())));
      Tr.test (Option.isSome (f86 ((!r1.fst : Bool), ((2 : Int), ()))))
        (Tr.test (Option.isSome (f86 ((!leF x1'_ x1'_' : Bool), ((9 : Int), ()))))
          (let r0 : Int × PUnit := g119 ((x1_, (x1_', ())), ());
          let r2 : Int × PUnit := g86 ((!r1.fst : Bool), ((2 : Int), ()));
          let r3 : Int × PUnit := g86 ((!leF x1'_ x1'_' : Bool), ((9 : Int), ()));
          Tr.test (Option.isSome (f85 (([r0.fst, r2.fst, r3.fst] : List Int), ())))
            (let r4 : Int × PUnit := g85 (([r0.fst, r2.fst, r3.fst] : List Int), ());
            Tr.fin (((r4.fst : Int), ())))
            (Tr.stop))
          (Tr.stop))
        (Tr.stop))
      (Tr.stop))
    (Tr.stop)

def f162 (d : Tys.data as162) : Option (Tys.data rs162) := (t162 d.1 d.2.1.1.1 d.2.1.1.2.1 d.2.1.2.1.1 d.2.1.2.1.2.1).val
def g162 (d : Tys.data as162) : Tys.data rs162 := (f162 d).getD (Tys.dflt rs162)
def p162 : PureC := pcOf as162 rs162 f162 g162

theorem e162_0 (x0 : Int) (x1_ : Int) (x1_' : Int) (x1'_ : Int) (x1'_' : Int) : runPure kf119.orc Go.Proofs.Try.prog 400 162 as162 rs162 (x0, ((x1_, x1_', ()), (x1'_, x1'_', ()), ()), ()) [true, true, true, true, true, true, true] =
    (let r1 : Bool × PUnit := g94 ((0 : Int), ((1000000 : Int), (([x1'_, x1'_'] : List Int), ()))); let r0 : Int × PUnit := g119 ((x1_, (x1_', ())), ()); let r2 : Int × PUnit := g86 ((!r1.fst : Bool), ((2 : Int), ())); let r3 : Int × PUnit := g86 ((!leF x1'_ x1'_' : Bool), ((9 : Int), ())); let r4 : Int × PUnit := g85 (([r0.fst, r2.fst, r3.fst] : List Int), ()); some (((r4.fst : Int), ()), [(Option.isSome (f85 (([r0.fst, r2.fst, r3.fst] : List Int), ())), true), ((true : Bool), true), (Option.isSome (f86 ((!leF x1'_ x1'_' : Bool), ((9 : Int), ()))), true), (Option.isSome (f86 ((!r1.fst : Bool), ((2 : Int), ()))), true), (Option.isSome (f94 ((0 : Int), ((1000000 : Int), (([x1'_, x1'_'] : List Int), ())))), true), ((true : Bool), true), (Option.isSome (f119 ((x1_, (x1_', ())), ())), true)])) := by kernel_rfl

theorem ok162_t (x0 : Int) (x1_ : Int) (x1_' : Int) (x1'_ : Int) (x1'_' : Int) : TrOk (PureRuns Go.Proofs.Try.prog kf119.orc 162 as162 rs162 (x0, ((x1_, x1_', ()), (x1'_, x1'_', ()), ()), ())) (t162 x0 x1_ x1_' x1'_ x1'_') :=
  TrOk.ofTest (fun h0 => TrOk.ofTest (fun h2 => TrOk.ofTest (fun h3 => TrOk.ofTest (fun h4 => TrOk.ofTest (fun h6 => TrOk.ofFin (PureRuns.of (e162_0 x0 x1_ x1_' x1'_ x1'_') (All.cons h6 (All.cons rfl (All.cons h4 (All.cons h3 (All.cons h2 (All.cons rfl (All.cons h0 (All.nil)))))))))) (fun h6 => TrOk.ofStop)) (fun h4 => TrOk.ofStop)) (fun h3 => TrOk.ofStop)) (fun h2 => TrOk.ofStop)) (fun h0 => TrOk.ofStop)

theorem ok162 : PureOk Go.Proofs.Try.prog 162 p162 := pureOk_of kf119_ok.base (T := fun (d : Tys.data as162) => t162 d.1 d.2.1.1.1 d.2.1.1.2.1 d.2.1.2.1.1 d.2.1.2.1.2.1) (by kernel_rfl) (fun (d : Tys.data as162) => ok162_t d.1 d.2.1.1.1 d.2.1.1.2.1 d.2.1.2.1.1 d.2.1.2.1.2.1)
def kf162 : Known := kf119.func 162 p162
theorem kf162_ok : KnownOk Go.Proofs.Try.prog kf162 := kf119_ok.func ok162

/-! loop 0 of ductility/motion.checkItems[ductility/api.MotionBand] -/

abbrev sh161_0 : Sh := { n := 25, slots := [1, 9, 10, 11], pats := [.fn 162 [], .ty (.slice (.pair (.pair (.int .i64) (.pair (.int .i64) .unit)) (.pair (.pair (.int .i64) (.pair (.int .i64) .unit)) .unit))), .ty (.int .i64), .ty (.int .i64)], boxes := [] }
abbrev shb161_0 : Sh := { n := 25, slots := [], pats := [], boxes := [] }
abbrev shr161_0 : Sh := { n := 25, slots := [4, 5], pats := [.ty (.int .i64), .ty (.int .i64)], boxes := [] }

def t161_0 (x1 : (List ((Int × (Int × Unit)) × ((Int × (Int × Unit)) × Unit)))) (x2 : Int) (x3 : Int) : Tr (Out sh161_0.data shb161_0.data shr161_0.data) :=
  Tr.test ((!leF x2 x3 : Bool))
    (Tr.test ((decide ((0 : Int) ≤ x3) && decide (x3 < (↑(List.length x1) : Int)) : Bool))
      (Tr.test (Option.isSome (f162 (x3, (((((List.getD x1 (Int.toNat x3) (((0 : Int), (0 : Int), ()), ((0 : Int), (0 : Int), ()), ())).fst.fst : Int), (((List.getD x1 (Int.toNat x3) (((0 : Int), (0 : Int), ()), ((0 : Int), (0 : Int), ()), ())).fst.snd.fst : Int), ())), ((((List.getD x1 (Int.toNat x3) (((0 : Int), (0 : Int), ()), ((0 : Int), (0 : Int), ()), ())).snd.fst.fst : Int), (((List.getD x1 (Int.toNat x3) (((0 : Int), (0 : Int), ()), ((0 : Int), (0 : Int), ()), ())).snd.fst.snd.fst : Int), ())), ())), ()))))
        (let r0 : Int × PUnit := g162 (x3, (((((List.getD x1 (Int.toNat x3) (((0 : Int), (0 : Int), ()), ((0 : Int), (0 : Int), ()), ())).fst.fst : Int), (((List.getD x1 (Int.toNat x3) (((0 : Int), (0 : Int), ()), ((0 : Int), (0 : Int), ()), ())).fst.snd.fst : Int), ())), ((((List.getD x1 (Int.toNat x3) (((0 : Int), (0 : Int), ()), ((0 : Int), (0 : Int), ()), ())).snd.fst.fst : Int), (((List.getD x1 (Int.toNat x3) (((0 : Int), (0 : Int), ()), ((0 : Int), (0 : Int), ()), ())).snd.fst.snd.fst : Int), ())), ())), ()));
        Tr.test ((!eqF r0.fst (0 : Int) : Bool))
          (Tr.fin (.ret ((x3, ((r0.fst : Int), ())), ())))
          (Tr.fin (.again ((x1, (x2, ((wrap64 (x3 + (1 : Int)) : Int), ()))), ()))))
        (Tr.stop))
      (Tr.stop /- none [op 1 of region 3 of F161] -/))
    (Tr.fin (.brk ((), ())))

def s161_0 (d : sh161_0.data) : Option (Out sh161_0.data shb161_0.data shr161_0.data) := (t161_0 d.1.1 d.1.2.1 d.1.2.2.1).val
def l161_0 (d : sh161_0.data) : Option (shb161_0.data ⊕ shr161_0.data) := itr s161_0 rounds d
def b161_0 (d : sh161_0.data) : shb161_0.data := outB shb161_0.dflt (l161_0 d)
def r161_0 (d : sh161_0.data) : shr161_0.data := outR shr161_0.dflt (l161_0 d)
def lc161_0 : LoopC := lcOf sh161_0 shb161_0 shr161_0 l161_0 b161_0 r161_0

theorem e161_0_0 (x1 : (List ((Int × (Int × Unit)) × ((Int × (Int × Unit)) × Unit)))) (x2 : Int) (x3 : Int) : runBody kf162.orc Go.Proofs.Try.prog 400 161 0 sh161_0 shb161_0 shr161_0 ((x1, x2, x3, ()), ()) [true, true, true, true] =
    (let r0 : Int × PUnit := g162 (x3, (((((List.getD x1 (Int.toNat x3) (((0 : Int), (0 : Int), ()), ((0 : Int), (0 : Int), ()), ())).fst.fst : Int), (((List.getD x1 (Int.toNat x3) (((0 : Int), (0 : Int), ()), ((0 : Int), (0 : Int), ()), ())).fst.snd.fst : Int), ())), ((((List.getD x1 (Int.toNat x3) (((0 : Int), (0 : Int), ()), ((0 : Int), (0 : Int), ()), ())).snd.fst.fst : Int), (((List.getD x1 (Int.toNat x3) (((0 : Int), (0 : Int), ()), ((0 : Int), (0 : Int), ()), ())).snd.fst.snd.fst : Int), ())), ())), ())); some (.ret ((x3, ((r0.fst : Int), ())), ()), [((!eqF r0.fst (0 : Int) : Bool), true), (Option.isSome (f162 (x3, (((((List.getD x1 (Int.toNat x3) (((0 : Int), (0 : Int), ()), ((0 : Int), (0 : Int), ()), ())).fst.fst : Int), (((List.getD x1 (Int.toNat x3) (((0 : Int), (0 : Int), ()), ((0 : Int), (0 : Int), ()), ())).fst.snd.fst : Int), ())), ((((List.getD x1 (Int.toNat x3) (((0 : Int), (0 : Int), ()), ((0 : Int), (0 : Int), ()), ())).snd.fst.fst : Int), (((List.getD x1 (Int.toNat x3) (((0 : Int), (0 : Int), ()), ((0 : Int), (0 : Int), ()), ())).snd.fst.snd.fst : Int), ())), ())), ()))), true), ((decide ((0 : Int) ≤ x3) && decide (x3 < (↑(List.length x1) : Int)) : Bool), true), ((!leF x2 x3 : Bool), true)])) := by kernel_rfl
theorem e161_0_1 (x1 : (List ((Int × (Int × Unit)) × ((Int × (Int × Unit)) × Unit)))) (x2 : Int) (x3 : Int) : runBody kf162.orc Go.Proofs.Try.prog 400 161 0 sh161_0 shb161_0 shr161_0 ((x1, x2, x3, ()), ()) [true, true, true, false] =
    (let r0 : Int × PUnit := g162 (x3, (((((List.getD x1 (Int.toNat x3) (((0 : Int), (0 : Int), ()), ((0 : Int), (0 : Int), ()), ())).fst.fst : Int), (((List.getD x1 (Int.toNat x3) (((0 : Int), (0 : Int), ()), ((0 : Int), (0 : Int), ()), ())).fst.snd.fst : Int), ())), ((((List.getD x1 (Int.toNat x3) (((0 : Int), (0 : Int), ()), ((0 : Int), (0 : Int), ()), ())).snd.fst.fst : Int), (((List.getD x1 (Int.toNat x3) (((0 : Int), (0 : Int), ()), ((0 : Int), (0 : Int), ()), ())).snd.fst.snd.fst : Int), ())), ())), ())); some (.again ((x1, (x2, ((wrap64 (x3 + (1 : Int)) : Int), ()))), ()), [((!eqF r0.fst (0 : Int) : Bool), false), (Option.isSome (f162 (x3, (((((List.getD x1 (Int.toNat x3) (((0 : Int), (0 : Int), ()), ((0 : Int), (0 : Int), ()), ())).fst.fst : Int), (((List.getD x1 (Int.toNat x3) (((0 : Int), (0 : Int), ()), ((0 : Int), (0 : Int), ()), ())).fst.snd.fst : Int), ())), ((((List.getD x1 (Int.toNat x3) (((0 : Int), (0 : Int), ()), ((0 : Int), (0 : Int), ()), ())).snd.fst.fst : Int), (((List.getD x1 (Int.toNat x3) (((0 : Int), (0 : Int), ()), ((0 : Int), (0 : Int), ()), ())).snd.fst.snd.fst : Int), ())), ())), ()))), true), ((decide ((0 : Int) ≤ x3) && decide (x3 < (↑(List.length x1) : Int)) : Bool), true), ((!leF x2 x3 : Bool), true)])) := by kernel_rfl
theorem e161_0_3 (x1 : (List ((Int × (Int × Unit)) × ((Int × (Int × Unit)) × Unit)))) (x2 : Int) (x3 : Int) : runBody kf162.orc Go.Proofs.Try.prog 400 161 0 sh161_0 shb161_0 shr161_0 ((x1, x2, x3, ()), ()) [false] =
    (some (.brk ((), ()), [((!leF x2 x3 : Bool), false)])) := by kernel_rfl

theorem ok161_0_t (x1 : (List ((Int × (Int × Unit)) × ((Int × (Int × Unit)) × Unit)))) (x2 : Int) (x3 : Int) : TrOk (BodyRuns Go.Proofs.Try.prog kf162.orc 161 0 sh161_0 shb161_0 shr161_0 ((x1, x2, x3, ()), ())) (t161_0 x1 x2 x3) :=
  TrOk.ofTest (fun h0 => TrOk.ofTest (fun h1 => TrOk.ofTest (fun h2 => TrOk.ofTest (fun h3 => TrOk.ofFin (BodyRuns.of (e161_0_0 x1 x2 x3) (All.cons h3 (All.cons h2 (All.cons h1 (All.cons h0 (All.nil))))))) (fun h3 => TrOk.ofFin (BodyRuns.of (e161_0_1 x1 x2 x3) (All.cons h3 (All.cons h2 (All.cons h1 (All.cons h0 (All.nil)))))))) (fun h2 => TrOk.ofStop)) (fun h1 => TrOk.ofStop)) (fun h0 => TrOk.ofFin (BodyRuns.of (e161_0_3 x1 x2 x3) (All.cons h0 (All.nil))))

theorem ok161_0 : LoopOk Go.Proofs.Try.prog 161 0 lc161_0 := loopOk_of kf162_ok.base (T := fun (d : sh161_0.data) => t161_0 d.1.1 d.1.2.1 d.1.2.2.1) (by kernel_rfl) rfl (fun (d : sh161_0.data) => ok161_0_t d.1.1 d.1.2.1 d.1.2.2.1) (fun _ => rfl)
def kl161_0 : Known := kf162.loop 161 0 lc161_0
theorem kl161_0_ok : KnownOk Go.Proofs.Try.prog kl161_0 := kf162_ok.loop ok161_0

/-! ductility/motion.bandError -/

abbrev as124 : List Ty := [(.slice (.pair (.pair (.int .i64) (.pair (.int .i64) .unit)) (.pair (.pair (.int .i64) (.pair (.int .i64) .unit)) .unit)))]
abbrev rs124 : List Ty := [(.int .i64)]

def t124 (x0 : (List ((Int × (Int × Unit)) × ((Int × (Int × Unit)) × Unit)))) : Tr (Tys.data rs124) :=
  Tr.test (Option.isSome (f86 ((eqF (↑(List.length x0) : Int) (0 : Int) : Bool), ((10 : Int), ()))))
    (Tr.test (Option.isSome (f86 ((!leF (↑(List.length x0) : Int) (6 : Int) : Bool), ((8 : Int), ()))))
      (let r0 : Int × PUnit := g86 ((eqF (↑(List.length x0) : Int) (0 : Int) : Bool), ((10 : Int), ()));
      let r1 : Int × PUnit := g86 ((!leF (↑(List.length x0) : Int) (6 : Int) : Bool), ((8 : Int), ()));
      Tr.test (Option.isSome (f85 (([r0.fst, r1.fst] : List Int), ())))
        (let r2 : Int × PUnit := g85 (([r0.fst, r1.fst] : List Int), ());
        Tr.test ((!eqF r2.fst (0 : Int) : Bool))
          (Tr.fin (((r2.fst : Int), ())))
          (Tr.test (Option.isSome (l161_0 ((x0, ((↑(List.length x0) : Int), ((0 : Int), ()))), ())))
            (Tr.test (isRet (l161_0 ((x0, ((↑(List.length x0) : Int), ((0 : Int), ()))), ())))
              (let r3 : (Int × Int × PUnit) × PUnit := r161_0 ((x0, ((↑(List.length x0) : Int), ((0 : Int), ()))), ());
              Tr.fin (((r3.fst.snd.fst : Int), ())))
              (Tr.fin (((0 : Int), ()))))
            (Tr.stop)))
        (Tr.stop))
      (Tr.stop))
    (Tr.stop)

def f124 (d : Tys.data as124) : Option (Tys.data rs124) := (t124 d.1).val
def g124 (d : Tys.data as124) : Tys.data rs124 := (f124 d).getD (Tys.dflt rs124)
def p124 : PureC := pcOf as124 rs124 f124 g124

theorem e124_0 (x0 : (List ((Int × (Int × Unit)) × ((Int × (Int × Unit)) × Unit)))) : runPure kl161_0.orc Go.Proofs.Try.prog 400 124 as124 rs124 (x0, ()) [true, true, true, true, true] =
    (let r0 : Int × PUnit := g86 ((eqF (↑(List.length x0) : Int) (0 : Int) : Bool), ((10 : Int), ())); let r1 : Int × PUnit := g86 ((!leF (↑(List.length x0) : Int) (6 : Int) : Bool), ((8 : Int), ())); let r2 : Int × PUnit := g85 (([r0.fst, r1.fst] : List Int), ()); some (((r2.fst : Int), ()), [((!eqF r2.fst (0 : Int) : Bool), true), (Option.isSome (f85 (([r0.fst, r1.fst] : List Int), ())), true), ((true : Bool), true), (Option.isSome (f86 ((!leF (↑(List.length x0) : Int) (6 : Int) : Bool), ((8 : Int), ()))), true), (Option.isSome (f86 ((eqF (↑(List.length x0) : Int) (0 : Int) : Bool), ((10 : Int), ()))), true)])) := by kernel_rfl
theorem e124_1 (x0 : (List ((Int × (Int × Unit)) × ((Int × (Int × Unit)) × Unit)))) : runPure kl161_0.orc Go.Proofs.Try.prog 400 124 as124 rs124 (x0, ()) [true, true, true, true, false, true, true] =
    (let r0 : Int × PUnit := g86 ((eqF (↑(List.length x0) : Int) (0 : Int) : Bool), ((10 : Int), ())); let r1 : Int × PUnit := g86 ((!leF (↑(List.length x0) : Int) (6 : Int) : Bool), ((8 : Int), ())); let r2 : Int × PUnit := g85 (([r0.fst, r1.fst] : List Int), ()); let r3 : (Int × Int × PUnit) × PUnit := r161_0 ((x0, ((↑(List.length x0) : Int), ((0 : Int), ()))), ()); some (((r3.fst.snd.fst : Int), ()), [(isRet (l161_0 ((x0, ((↑(List.length x0) : Int), ((0 : Int), ()))), ())), true), (Option.isSome (l161_0 ((x0, ((↑(List.length x0) : Int), ((0 : Int), ()))), ())), true), ((!eqF r2.fst (0 : Int) : Bool), false), (Option.isSome (f85 (([r0.fst, r1.fst] : List Int), ())), true), ((true : Bool), true), (Option.isSome (f86 ((!leF (↑(List.length x0) : Int) (6 : Int) : Bool), ((8 : Int), ()))), true), (Option.isSome (f86 ((eqF (↑(List.length x0) : Int) (0 : Int) : Bool), ((10 : Int), ()))), true)])) := by kernel_rfl
theorem e124_2 (x0 : (List ((Int × (Int × Unit)) × ((Int × (Int × Unit)) × Unit)))) : runPure kl161_0.orc Go.Proofs.Try.prog 400 124 as124 rs124 (x0, ()) [true, true, true, true, false, true, false] =
    (let r0 : Int × PUnit := g86 ((eqF (↑(List.length x0) : Int) (0 : Int) : Bool), ((10 : Int), ())); let r1 : Int × PUnit := g86 ((!leF (↑(List.length x0) : Int) (6 : Int) : Bool), ((8 : Int), ())); let r2 : Int × PUnit := g85 (([r0.fst, r1.fst] : List Int), ()); some (((0 : Int), ()), [(isRet (l161_0 ((x0, ((↑(List.length x0) : Int), ((0 : Int), ()))), ())), false), (Option.isSome (l161_0 ((x0, ((↑(List.length x0) : Int), ((0 : Int), ()))), ())), true), ((!eqF r2.fst (0 : Int) : Bool), false), (Option.isSome (f85 (([r0.fst, r1.fst] : List Int), ())), true), ((true : Bool), true), (Option.isSome (f86 ((!leF (↑(List.length x0) : Int) (6 : Int) : Bool), ((8 : Int), ()))), true), (Option.isSome (f86 ((eqF (↑(List.length x0) : Int) (0 : Int) : Bool), ((10 : Int), ()))), true)])) := by kernel_rfl

theorem ok124_t (x0 : (List ((Int × (Int × Unit)) × ((Int × (Int × Unit)) × Unit)))) : TrOk (PureRuns Go.Proofs.Try.prog kl161_0.orc 124 as124 rs124 (x0, ())) (t124 x0) :=
  TrOk.ofTest (fun h0 => TrOk.ofTest (fun h1 => TrOk.ofTest (fun h3 => TrOk.ofTest (fun h4 => TrOk.ofFin (PureRuns.of (e124_0 x0) (All.cons h4 (All.cons h3 (All.cons rfl (All.cons h1 (All.cons h0 (All.nil)))))))) (fun h4 => TrOk.ofTest (fun h5 => TrOk.ofTest (fun h6 => TrOk.ofFin (PureRuns.of (e124_1 x0) (All.cons h6 (All.cons h5 (All.cons h4 (All.cons h3 (All.cons rfl (All.cons h1 (All.cons h0 (All.nil)))))))))) (fun h6 => TrOk.ofFin (PureRuns.of (e124_2 x0) (All.cons h6 (All.cons h5 (All.cons h4 (All.cons h3 (All.cons rfl (All.cons h1 (All.cons h0 (All.nil))))))))))) (fun h5 => TrOk.ofStop))) (fun h3 => TrOk.ofStop)) (fun h1 => TrOk.ofStop)) (fun h0 => TrOk.ofStop)

theorem ok124 : PureOk Go.Proofs.Try.prog 124 p124 := pureOk_of kl161_0_ok.base (T := fun (d : Tys.data as124) => t124 d.1) (by kernel_rfl) (fun (d : Tys.data as124) => ok124_t d.1)
def kf124 : Known := kl161_0.func 124 p124
theorem kf124_ok : KnownOk Go.Proofs.Try.prog kf124 := kl161_0_ok.func ok124

/-! loop 0 of ductility/motion.responseOf -/

abbrev sh120_0 : Sh := { n := 44, slots := [3, 5, 6, 7, 11, 12, 13], pats := [.ptr 0 2 0, .acc (.int .i64), .ty (.int .i64), .ty (.int .i64), .ty (.slice (.int .i64)), .ty (.int .i64), .ty (.int .i64)], boxes := [.row [.ty (.int .i64), .ty (.int .i64)]] }
abbrev shb120_0 : Sh := { n := 44, slots := [5], pats := [.acc (.int .i64)], boxes := [.row [.ty (.int .i64), .ty (.int .i64)]] }
abbrev shr120_0 : Sh := { n := 44, slots := [], pats := [], boxes := [.row [.ty (.int .i64), .ty (.int .i64)]] }

def t120_0 (x1 : (List Int)) (x2 : Int) (x3 : Int) (x4 : (List Int)) (x5 : Int) (x6 : Int) (b0_0 : Int) (b0_1 : Int) : Tr (Out sh120_0.data shb120_0.data shr120_0.data) :=
  Tr.test ((!leF x5 x6 : Bool))
    (Tr.test ((decide ((0 : Int) ≤ x6) && decide (x6 < (↑(List.length x4) : Int)) : Bool))
      (Tr.test ((Nat.ble (((2 : Nat) * (List.length x1 + (1 : Nat)) + (192 : Nat)) * (8 : Nat)) (281474976710656 : Nat) && Nat.ble (List.length x1 + (1 : Nat)) (281474976710656 : Nat) : Bool))
        (Tr.fin (.again (((x1 ++ [wrap64 (wrap64 (wrap64 (wrap64 ((2 : Int) * x2) - x3) - Go.IntKind.wrap Go.IntKind.i64 (Int.tdiv (wrap64 (wrap64 (b0_0 * x2) + wrap64 (b0_1 * wrap64 (x2 - x3)))) (1000 : Int))) - List.getD x4 (Int.toNat x6) (0 : Int))] : List Int), ((wrap64 (wrap64 (wrap64 (wrap64 ((2 : Int) * x2) - x3) - Go.IntKind.wrap Go.IntKind.i64 (Int.tdiv (wrap64 (wrap64 (b0_0 * x2) + wrap64 (b0_1 * wrap64 (x2 - x3)))) (1000 : Int))) - List.getD x4 (Int.toNat x6) (0 : Int)) : Int), (x2, (x4, (x5, ((wrap64 (x6 + (1 : Int)) : Int), ())))))), ((b0_0, (b0_1, ())), ()))))
        (Tr.stop /- none [op 3 of region 8 of F120] -/))
      (Tr.stop /- none [op 0 of region 5 of F120] -/))
    (Tr.fin (.brk ((x1, ()), ((b0_0, (b0_1, ())), ()))))

def s120_0 (d : sh120_0.data) : Option (Out sh120_0.data shb120_0.data shr120_0.data) := (t120_0 d.1.1 d.1.2.1 d.1.2.2.1 d.1.2.2.2.1 d.1.2.2.2.2.1 d.1.2.2.2.2.2.1 d.2.1.1 d.2.1.2.1).val
def l120_0 (d : sh120_0.data) : Option (shb120_0.data ⊕ shr120_0.data) := itr s120_0 rounds d
def b120_0 (d : sh120_0.data) : shb120_0.data := outB shb120_0.dflt (l120_0 d)
def r120_0 (d : sh120_0.data) : shr120_0.data := outR shr120_0.dflt (l120_0 d)
def lc120_0 : LoopC := lcB sh120_0 shb120_0 shr120_0 l120_0 b120_0

theorem e120_0_0 (x1 : (List Int)) (x2 : Int) (x3 : Int) (x4 : (List Int)) (x5 : Int) (x6 : Int) (b0_0 : Int) (b0_1 : Int) : runBody kf124.orc Go.Proofs.Try.prog 400 120 0 sh120_0 shb120_0 shr120_0 ((x1, x2, x3, x4, x5, x6, ()), (b0_0, b0_1, ()), ()) [true, true, false, false, true, true] =
    (some (.again (((x1 ++ [wrap64 (wrap64 (wrap64 (wrap64 ((2 : Int) * x2) - x3) - Go.IntKind.wrap Go.IntKind.i64 (Int.tdiv (wrap64 (wrap64 (b0_0 * x2) + wrap64 (b0_1 * wrap64 (x2 - x3)))) (1000 : Int))) - List.getD x4 (Int.toNat x6) (0 : Int))] : List Int), ((wrap64 (wrap64 (wrap64 (wrap64 ((2 : Int) * x2) - x3) - Go.IntKind.wrap Go.IntKind.i64 (Int.tdiv (wrap64 (wrap64 (b0_0 * x2) + wrap64 (b0_1 * wrap64 (x2 - x3)))) (1000 : Int))) - List.getD x4 (Int.toNat x6) (0 : Int)) : Int), (x2, (x4, (x5, ((wrap64 (x6 + (1 : Int)) : Int), ())))))), ((b0_0, (b0_1, ())), ())), [((true : Bool), true), ((Nat.ble (((2 : Nat) * (List.length x1 + (1 : Nat)) + (192 : Nat)) * (8 : Nat)) (281474976710656 : Nat) && Nat.ble (List.length x1 + (1 : Nat)) (281474976710656 : Nat) : Bool), true), ((false : Bool), false), ((false : Bool), false), ((decide ((0 : Int) ≤ x6) && decide (x6 < (↑(List.length x4) : Int)) : Bool), true), ((!leF x5 x6 : Bool), true)])) := by kernel_rfl
theorem e120_0_3 (x1 : (List Int)) (x2 : Int) (x3 : Int) (x4 : (List Int)) (x5 : Int) (x6 : Int) (b0_0 : Int) (b0_1 : Int) : runBody kf124.orc Go.Proofs.Try.prog 400 120 0 sh120_0 shb120_0 shr120_0 ((x1, x2, x3, x4, x5, x6, ()), (b0_0, b0_1, ()), ()) [false] =
    (some (.brk ((x1, ()), ((b0_0, (b0_1, ())), ())), [((!leF x5 x6 : Bool), false)])) := by kernel_rfl

theorem ok120_0_t (x1 : (List Int)) (x2 : Int) (x3 : Int) (x4 : (List Int)) (x5 : Int) (x6 : Int) (b0_0 : Int) (b0_1 : Int) : TrOk (BodyRuns Go.Proofs.Try.prog kf124.orc 120 0 sh120_0 shb120_0 shr120_0 ((x1, x2, x3, x4, x5, x6, ()), (b0_0, b0_1, ()), ())) (t120_0 x1 x2 x3 x4 x5 x6 b0_0 b0_1) :=
  TrOk.ofTest (fun h0 => TrOk.ofTest (fun h1 => TrOk.ofTest (fun h4 => TrOk.ofFin (BodyRuns.of (e120_0_0 x1 x2 x3 x4 x5 x6 b0_0 b0_1) (All.cons rfl (All.cons h4 (All.cons rfl (All.cons rfl (All.cons h1 (All.cons h0 (All.nil))))))))) (fun h4 => TrOk.ofStop)) (fun h1 => TrOk.ofStop)) (fun h0 => TrOk.ofFin (BodyRuns.of (e120_0_3 x1 x2 x3 x4 x5 x6 b0_0 b0_1) (All.cons h0 (All.nil))))

theorem ok120_0 : LoopOk Go.Proofs.Try.prog 120 0 lc120_0 := loopOk_ofB kf124_ok.base (T := fun (d : sh120_0.data) => t120_0 d.1.1 d.1.2.1 d.1.2.2.1 d.1.2.2.2.1 d.1.2.2.2.2.1 d.1.2.2.2.2.2.1 d.2.1.1 d.2.1.2.1) (by kernel_rfl) rfl (fun (d : sh120_0.data) => ok120_0_t d.1.1 d.1.2.1 d.1.2.2.1 d.1.2.2.2.1 d.1.2.2.2.2.1 d.1.2.2.2.2.2.1 d.2.1.1 d.2.1.2.1) (fun _ => rfl)
def kl120_0 : Known := kf124.loop 120 0 lc120_0
theorem kl120_0_ok : KnownOk Go.Proofs.Try.prog kl120_0 := kf124_ok.loop ok120_0

/-! ductility/motion.responseOf -/

abbrev as120 : List Ty := [(.slice (.int .i64)), (.pair (.int .i64) (.pair (.int .i64) .unit))]
abbrev rs120 : List Ty := [(.slice (.int .i64))]

def t120 (x0 : (List Int)) (x1 : Int) (x1' : Int) : Tr (Tys.data rs120) :=
  Tr.test (isBrk (l120_0 ((([] : List Int), ((0 : Int), ((0 : Int), (x0, ((↑(List.length x0) : Int), ((0 : Int), ())))))), ((x1, (x1', ())), ()))))
    (let r0 : (List Int × PUnit) × (Int × Int × PUnit) × PUnit := b120_0 ((([] : List Int), ((0 : Int), ((0 : Int), (x0, ((↑(List.length x0) : Int), ((0 : Int), ())))))), ((x1, (x1', ())), ()));
    Tr.fin (((r0.fst.fst : List Int), ())))
    (Tr.stop)

def f120 (d : Tys.data as120) : Option (Tys.data rs120) := (t120 d.1 d.2.1.1 d.2.1.2.1).val
def g120 (d : Tys.data as120) : Tys.data rs120 := (f120 d).getD (Tys.dflt rs120)
def p120 : PureC := pcOf as120 rs120 f120 g120

theorem e120_0 (x0 : (List Int)) (x1 : Int) (x1' : Int) : runPure kl120_0.orc Go.Proofs.Try.prog 400 120 as120 rs120 (x0, (x1, x1', ()), ()) [true, true] =
    (let r0 : (List Int × PUnit) × (Int × Int × PUnit) × PUnit := b120_0 ((([] : List Int), ((0 : Int), ((0 : Int), (x0, ((↑(List.length x0) : Int), ((0 : Int), ())))))), ((x1, (x1', ())), ())); some (((r0.fst.fst : List Int), ()), [((true : Bool), true), (isBrk (l120_0 ((([] : List Int), ((0 : Int), ((0 : Int), (x0, ((↑(List.length x0) : Int), ((0 : Int), ())))))), ((x1, (x1', ())), ()))), true)])) := by kernel_rfl

theorem ok120_t (x0 : (List Int)) (x1 : Int) (x1' : Int) : TrOk (PureRuns Go.Proofs.Try.prog kl120_0.orc 120 as120 rs120 (x0, (x1, x1', ()), ())) (t120 x0 x1 x1') :=
  TrOk.ofTest (fun h0 => TrOk.ofFin (PureRuns.of (e120_0 x0 x1 x1') (All.cons rfl (All.cons h0 (All.nil))))) (fun h0 => TrOk.ofStop)

theorem ok120 : PureOk Go.Proofs.Try.prog 120 p120 := pureOk_of kl120_0_ok.base (T := fun (d : Tys.data as120) => t120 d.1 d.2.1.1 d.2.1.2.1) (by kernel_rfl) (fun (d : Tys.data as120) => ok120_t d.1 d.2.1.1 d.2.1.2.1)
def kf120 : Known := kl120_0.func 120 p120
theorem kf120_ok : KnownOk Go.Proofs.Try.prog kf120 := kl120_0_ok.func ok120

/-! loop 0 of ductility/motion.peakOf -/

abbrev sh122_0 : Sh := { n := 19, slots := [3, 6, 7, 8], pats := [.ty (.int .i64), .ty (.slice (.int .i64)), .ty (.int .i64), .ty (.int .i64)], boxes := [] }
abbrev shb122_0 : Sh := { n := 19, slots := [3], pats := [.ty (.int .i64)], boxes := [] }
abbrev shr122_0 : Sh := { n := 19, slots := [], pats := [], boxes := [] }

def t122_0 (x0 : Int) (x1 : (List Int)) (x2 : Int) (x3 : Int) : Tr (Out sh122_0.data shb122_0.data shr122_0.data) :=
  Tr.test ((!leF x2 x3 : Bool))
    (Tr.test ((decide ((0 : Int) ≤ x3) && decide (x3 < (↑(List.length x1) : Int)) : Bool))
      (Tr.fin (.again (((if (if x0 < List.getD x1 (Int.toNat x3) (0 : Int) then List.getD x1 (Int.toNat x3) (0 : Int) else x0) < Go.IntKind.wrap Go.IntKind.i64 ((0 : Int) - List.getD x1 (Int.toNat x3) (0 : Int)) then Go.IntKind.wrap Go.IntKind.i64 ((0 : Int) - List.getD x1 (Int.toNat x3) (0 : Int)) else if x0 < List.getD x1 (Int.toNat x3) (0 : Int) then List.getD x1 (Int.toNat x3) (0 : Int) else x0 : Int), (x1, (x2, ((wrap64 (x3 + (1 : Int)) : Int), ())))), ())))
      (Tr.stop /- none [op 0 of region 4 of F122] -/))
    (Tr.fin (.brk ((x0, ()), ())))

def s122_0 (d : sh122_0.data) : Option (Out sh122_0.data shb122_0.data shr122_0.data) := (t122_0 d.1.1 d.1.2.1 d.1.2.2.1 d.1.2.2.2.1).val
def l122_0 (d : sh122_0.data) : Option (shb122_0.data ⊕ shr122_0.data) := itr s122_0 rounds d
def b122_0 (d : sh122_0.data) : shb122_0.data := outB shb122_0.dflt (l122_0 d)
def r122_0 (d : sh122_0.data) : shr122_0.data := outR shr122_0.dflt (l122_0 d)
def lc122_0 : LoopC := lcB sh122_0 shb122_0 shr122_0 l122_0 b122_0

theorem e122_0_0 (x0 : Int) (x1 : (List Int)) (x2 : Int) (x3 : Int) : runBody kf120.orc Go.Proofs.Try.prog 400 122 0 sh122_0 shb122_0 shr122_0 ((x0, x1, x2, x3, ()), ()) [true, true] =
    (some (.again (((if (if x0 < List.getD x1 (Int.toNat x3) (0 : Int) then List.getD x1 (Int.toNat x3) (0 : Int) else x0) < Go.IntKind.wrap Go.IntKind.i64 ((0 : Int) - List.getD x1 (Int.toNat x3) (0 : Int)) then Go.IntKind.wrap Go.IntKind.i64 ((0 : Int) - List.getD x1 (Int.toNat x3) (0 : Int)) else if x0 < List.getD x1 (Int.toNat x3) (0 : Int) then List.getD x1 (Int.toNat x3) (0 : Int) else x0 : Int), (x1, (x2, ((wrap64 (x3 + (1 : Int)) : Int), ())))), ()), [((decide ((0 : Int) ≤ x3) && decide (x3 < (↑(List.length x1) : Int)) : Bool), true), ((!leF x2 x3 : Bool), true)])) := by kernel_rfl
theorem e122_0_2 (x0 : Int) (x1 : (List Int)) (x2 : Int) (x3 : Int) : runBody kf120.orc Go.Proofs.Try.prog 400 122 0 sh122_0 shb122_0 shr122_0 ((x0, x1, x2, x3, ()), ()) [false] =
    (some (.brk ((x0, ()), ()), [((!leF x2 x3 : Bool), false)])) := by kernel_rfl

theorem ok122_0_t (x0 : Int) (x1 : (List Int)) (x2 : Int) (x3 : Int) : TrOk (BodyRuns Go.Proofs.Try.prog kf120.orc 122 0 sh122_0 shb122_0 shr122_0 ((x0, x1, x2, x3, ()), ())) (t122_0 x0 x1 x2 x3) :=
  TrOk.ofTest (fun h0 => TrOk.ofTest (fun h1 => TrOk.ofFin (BodyRuns.of (e122_0_0 x0 x1 x2 x3) (All.cons h1 (All.cons h0 (All.nil))))) (fun h1 => TrOk.ofStop)) (fun h0 => TrOk.ofFin (BodyRuns.of (e122_0_2 x0 x1 x2 x3) (All.cons h0 (All.nil))))

theorem ok122_0 : LoopOk Go.Proofs.Try.prog 122 0 lc122_0 := loopOk_ofB kf120_ok.base (T := fun (d : sh122_0.data) => t122_0 d.1.1 d.1.2.1 d.1.2.2.1 d.1.2.2.2.1) (by kernel_rfl) rfl (fun (d : sh122_0.data) => ok122_0_t d.1.1 d.1.2.1 d.1.2.2.1 d.1.2.2.2.1) (fun _ => rfl)
def kl122_0 : Known := kf120.loop 122 0 lc122_0
theorem kl122_0_ok : KnownOk Go.Proofs.Try.prog kl122_0 := kf120_ok.loop ok122_0

/-! ductility/motion.peakOf -/

abbrev as122 : List Ty := [(.slice (.int .i64))]
abbrev rs122 : List Ty := [(.int .i64)]

def t122 (x0 : (List Int)) : Tr (Tys.data rs122) :=
  Tr.test (isBrk (l122_0 (((0 : Int), (x0, ((↑(List.length x0) : Int), ((0 : Int), ())))), ())))
    (let r0 : (Int × PUnit) × PUnit := b122_0 (((0 : Int), (x0, ((↑(List.length x0) : Int), ((0 : Int), ())))), ());
    Tr.fin (((r0.fst.fst : Int), ())))
    (Tr.stop)

def f122 (d : Tys.data as122) : Option (Tys.data rs122) := (t122 d.1).val
def g122 (d : Tys.data as122) : Tys.data rs122 := (f122 d).getD (Tys.dflt rs122)
def p122 : PureC := pcOf as122 rs122 f122 g122

theorem e122_0 (x0 : (List Int)) : runPure kl122_0.orc Go.Proofs.Try.prog 400 122 as122 rs122 (x0, ()) [true, true] =
    (let r0 : (Int × PUnit) × PUnit := b122_0 (((0 : Int), (x0, ((↑(List.length x0) : Int), ((0 : Int), ())))), ()); some (((r0.fst.fst : Int), ()), [((true : Bool), true), (isBrk (l122_0 (((0 : Int), (x0, ((↑(List.length x0) : Int), ((0 : Int), ())))), ())), true)])) := by kernel_rfl

theorem ok122_t (x0 : (List Int)) : TrOk (PureRuns Go.Proofs.Try.prog kl122_0.orc 122 as122 rs122 (x0, ())) (t122 x0) :=
  TrOk.ofTest (fun h0 => TrOk.ofFin (PureRuns.of (e122_0 x0) (All.cons rfl (All.cons h0 (All.nil))))) (fun h0 => TrOk.ofStop)

theorem ok122 : PureOk Go.Proofs.Try.prog 122 p122 := pureOk_of kl122_0_ok.base (T := fun (d : Tys.data as122) => t122 d.1) (by kernel_rfl) (fun (d : Tys.data as122) => ok122_t d.1)
def kf122 : Known := kl122_0.func 122 p122
theorem kf122_ok : KnownOk Go.Proofs.Try.prog kf122 := kl122_0_ok.func ok122

/-! loop 0 of ductility/motion.outsideOf -/

abbrev sh125_0 : Sh := { n := 35, slots := [0, 5, 8, 9, 10], pats := [.ty (.slice (.int .i64)), .acc (.int .i64), .ty (.slice (.pair (.pair (.int .i64) (.pair (.int .i64) .unit)) (.pair (.pair (.int .i64) (.pair (.int .i64) .unit)) .unit))), .ty (.int .i64), .ty (.int .i64)], boxes := [] }
abbrev shb125_0 : Sh := { n := 35, slots := [5], pats := [.acc (.int .i64)], boxes := [] }
abbrev shr125_0 : Sh := { n := 35, slots := [], pats := [], boxes := [] }

def t125_0 (x0 : (List Int)) (x1 : (List Int)) (x2 : (List ((Int × (Int × Unit)) × ((Int × (Int × Unit)) × Unit)))) (x3 : Int) (x4 : Int) : Tr (Out sh125_0.data shb125_0.data shr125_0.data) :=
  Tr.test ((!leF x3 x4 : Bool))
    (Tr.test ((decide ((0 : Int) ≤ x4) && decide (x4 < (↑(List.length x2) : Int)) : Bool))
      (Tr.test (Option.isSome (f120 (x0, ((((List.getD x2 (Int.toNat x4) (((0 : Int), (0 : Int), ()), ((0 : Int), (0 : Int), ()), ())).fst.fst : Int), (((List.getD x2 (Int.toNat x4) (((0 : Int), (0 : Int), ()), ((0 : Int), (0 : Int), ()), ())).fst.snd.fst : Int), ())), ()))))
        (let r0 : List Int × PUnit := g120 (x0, ((((List.getD x2 (Int.toNat x4) (((0 : Int), (0 : Int), ()), ((0 : Int), (0 : Int), ()), ())).fst.fst : Int), (((List.getD x2 (Int.toNat x4) (((0 : Int), (0 : Int), ()), ((0 : Int), (0 : Int), ()), ())).fst.snd.fst : Int), ())), ()));
        Tr.test (Option.isSome (f122 ((r0.fst : List Int), ())))
          (let r1 : Int × PUnit := g122 ((r0.fst : List Int), ());
          Tr.test (Option.isSome (f94 (((List.getD x2 (Int.toNat x4) (((0 : Int), (0 : Int), ()), ((0 : Int), (0 : Int), ()), ())).snd.fst.fst : Int), (((List.getD x2 (Int.toNat x4) (((0 : Int), (0 : Int), ()), ((0 : Int), (0 : Int), ()), ())).snd.fst.snd.fst : Int), (([r1.fst] : List Int), ())))))
            (let r2 : Bool × PUnit := g94 (((List.getD x2 (Int.toNat x4) (((0 : Int), (0 : Int), ()), ((0 : Int), (0 : Int), ()), ())).snd.fst.fst : Int), (((List.getD x2 (Int.toNat x4) (((0 : Int), (0 : Int), ()), ((0 : Int), (0 : Int), ()), ())).snd.fst.snd.fst : Int), (([r1.fst] : List Int), ())));
            Tr.test ((!r2.fst : Bool))
              (Tr.test ((Nat.ble (((2 : Nat) * (List.length x1 + (1 : Nat)) + (192 : Nat)) * (8 : Nat)) (281474976710656 : Nat) && Nat.ble (List.length x1 + (1 : Nat)) (281474976710656 : Nat) : Bool))
                (Tr.fin (.again ((x0, ((x1 ++ [x4] : List Int), (x2, (x3, ((wrap64 (x4 + (1 : Int)) : Int), ()))))), ())))
                (Tr.stop /- none [op 3 of region 6 of F125] -/))
              (Tr.fin (.again ((x0, (x1, (x2, (x3, ((wrap64 (x4 + (1 : Int)) : Int), ()))))), ()))))
            (Tr.stop))
          (Tr.stop))
        (Tr.stop))
      (Tr.stop /- none [op 1 of region 4 of F125] -/))
    (Tr.fin (.brk ((x1, ()), ())))

def s125_0 (d : sh125_0.data) : Option (Out sh125_0.data shb125_0.data shr125_0.data) := (t125_0 d.1.1 d.1.2.1 d.1.2.2.1 d.1.2.2.2.1 d.1.2.2.2.2.1).val
def l125_0 (d : sh125_0.data) : Option (shb125_0.data ⊕ shr125_0.data) := itr s125_0 rounds d
def b125_0 (d : sh125_0.data) : shb125_0.data := outB shb125_0.dflt (l125_0 d)
def r125_0 (d : sh125_0.data) : shr125_0.data := outR shr125_0.dflt (l125_0 d)
def lc125_0 : LoopC := lcB sh125_0 shb125_0 shr125_0 l125_0 b125_0

theorem e125_0_0 (x0 : (List Int)) (x1 : (List Int)) (x2 : (List ((Int × (Int × Unit)) × ((Int × (Int × Unit)) × Unit)))) (x3 : Int) (x4 : Int) : runBody kf122.orc Go.Proofs.Try.prog 400 125 0 sh125_0 shb125_0 shr125_0 ((x0, x1, x2, x3, x4, ()), ()) [true, true, true, true, true, true, true, false, true, true] =
    (let r0 : List Int × PUnit := g120 (x0, ((((List.getD x2 (Int.toNat x4) (((0 : Int), (0 : Int), ()), ((0 : Int), (0 : Int), ()), ())).fst.fst : Int), (((List.getD x2 (Int.toNat x4) (((0 : Int), (0 : Int), ()), ((0 : Int), (0 : Int), ()), ())).fst.snd.fst : Int), ())), ())); let r1 : Int × PUnit := g122 ((r0.fst : List Int), ()); let r2 : Bool × PUnit := g94 (((List.getD x2 (Int.toNat x4) (((0 : Int), (0 : Int), ()), ((0 : Int), (0 : Int), ()), ())).snd.fst.fst : Int), (((List.getD x2 (Int.toNat x4) (((0 : Int), (0 : Int), ()), ((0 : Int), (0 : Int), ()), ())).snd.fst.snd.fst : Int), (([r1.fst] : List Int), ()))); some (.again ((x0, ((x1 ++ [x4] : List Int), (x2, (x3, ((wrap64 (x4 + (1 : Int)) : Int), ()))))), ()), [((true : Bool), true), ((Nat.ble (((2 : Nat) * (List.length x1 + (1 : Nat)) + (192 : Nat)) * (8 : Nat)) (281474976710656 : Nat) && Nat.ble (List.length x1 + (1 : Nat)) (281474976710656 : Nat) : Bool), true), ((false : Bool), false), ((!r2.fst : Bool), true), (Option.isSome (f94 (((List.getD x2 (Int.toNat x4) (((0 : Int), (0 : Int), ()), ((0 : Int), (0 : Int), ()), ())).snd.fst.fst : Int), (((List.getD x2 (Int.toNat x4) (((0 : Int), (0 : Int), ()), ((0 : Int), (0 : Int), ()), ())).snd.fst.snd.fst : Int), (([r1.fst] : List Int), ())))), true), ((true : Bool), true), (Option.isSome (f122 ((r0.fst : List Int), ())), true), (Option.isSome (f120 (x0, ((((List.getD x2 (Int.toNat x4) (((0 : Int), (0 : Int), ()), ((0 : Int), (0 : Int), ()), ())).fst.fst : Int), (((List.getD x2 (Int.toNat x4) (((0 : Int), (0 : Int), ()), ((0 : Int), (0 : Int), ()), ())).fst.snd.fst : Int), ())), ()))), true), ((decide ((0 : Int) ≤ x4) && decide (x4 < (↑(List.length x2) : Int)) : Bool), true), ((!leF x3 x4 : Bool), true)])) := by kernel_rfl
theorem e125_0_2 (x0 : (List Int)) (x1 : (List Int)) (x2 : (List ((Int × (Int × Unit)) × ((Int × (Int × Unit)) × Unit)))) (x3 : Int) (x4 : Int) : runBody kf122.orc Go.Proofs.Try.prog 400 125 0 sh125_0 shb125_0 shr125_0 ((x0, x1, x2, x3, x4, ()), ()) [true, true, true, true, true, true, false] =
    (let r0 : List Int × PUnit := g120 (x0, ((((List.getD x2 (Int.toNat x4) (((0 : Int), (0 : Int), ()), ((0 : Int), (0 : Int), ()), ())).fst.fst : Int), (((List.getD x2 (Int.toNat x4) (((0 : Int), (0 : Int), ()), ((0 : Int), (0 : Int), ()), ())).fst.snd.fst : Int), ())), ())); let r1 : Int × PUnit := g122 ((r0.fst : List Int), ()); let r2 : Bool × PUnit := g94 (((List.getD x2 (Int.toNat x4) (((0 : Int), (0 : Int), ()), ((0 : Int), (0 : Int), ()), ())).snd.fst.fst : Int), (((List.getD x2 (Int.toNat x4) (((0 : Int), (0 : Int), ()), ((0 : Int), (0 : Int), ()), ())).snd.fst.snd.fst : Int), (([r1.fst] : List Int), ()))); some (.again ((x0, (x1, (x2, (x3, ((wrap64 (x4 + (1 : Int)) : Int), ()))))), ()), [((!r2.fst : Bool), false), (Option.isSome (f94 (((List.getD x2 (Int.toNat x4) (((0 : Int), (0 : Int), ()), ((0 : Int), (0 : Int), ()), ())).snd.fst.fst : Int), (((List.getD x2 (Int.toNat x4) (((0 : Int), (0 : Int), ()), ((0 : Int), (0 : Int), ()), ())).snd.fst.snd.fst : Int), (([r1.fst] : List Int), ())))), true), ((true : Bool), true), (Option.isSome (f122 ((r0.fst : List Int), ())), true), (Option.isSome (f120 (x0, ((((List.getD x2 (Int.toNat x4) (((0 : Int), (0 : Int), ()), ((0 : Int), (0 : Int), ()), ())).fst.fst : Int), (((List.getD x2 (Int.toNat x4) (((0 : Int), (0 : Int), ()), ((0 : Int), (0 : Int), ()), ())).fst.snd.fst : Int), ())), ()))), true), ((decide ((0 : Int) ≤ x4) && decide (x4 < (↑(List.length x2) : Int)) : Bool), true), ((!leF x3 x4 : Bool), true)])) := by kernel_rfl
theorem e125_0_4 (x0 : (List Int)) (x1 : (List Int)) (x2 : (List ((Int × (Int × Unit)) × ((Int × (Int × Unit)) × Unit)))) (x3 : Int) (x4 : Int) : runBody kf122.orc Go.Proofs.Try.prog 400 125 0 sh125_0 shb125_0 shr125_0 ((x0, x1, x2, x3, x4, ()), ()) [false] =
    (some (.brk ((x1, ()), ()), [((!leF x3 x4 : Bool), false)])) := by kernel_rfl

theorem ok125_0_t (x0 : (List Int)) (x1 : (List Int)) (x2 : (List ((Int × (Int × Unit)) × ((Int × (Int × Unit)) × Unit)))) (x3 : Int) (x4 : Int) : TrOk (BodyRuns Go.Proofs.Try.prog kf122.orc 125 0 sh125_0 shb125_0 shr125_0 ((x0, x1, x2, x3, x4, ()), ())) (t125_0 x0 x1 x2 x3 x4) :=
  TrOk.ofTest (fun h0 => TrOk.ofTest (fun h1 => TrOk.ofTest (fun h2 => TrOk.ofTest (fun h3 => TrOk.ofTest (fun h5 => TrOk.ofTest (fun h6 => TrOk.ofTest (fun h8 => TrOk.ofFin (BodyRuns.of (e125_0_0 x0 x1 x2 x3 x4) (All.cons rfl (All.cons h8 (All.cons rfl (All.cons h6 (All.cons h5 (All.cons rfl (All.cons h3 (All.cons h2 (All.cons h1 (All.cons h0 (All.nil))))))))))))) (fun h8 => TrOk.ofStop)) (fun h6 => TrOk.ofFin (BodyRuns.of (e125_0_2 x0 x1 x2 x3 x4) (All.cons h6 (All.cons h5 (All.cons rfl (All.cons h3 (All.cons h2 (All.cons h1 (All.cons h0 (All.nil))))))))))) (fun h5 => TrOk.ofStop)) (fun h3 => TrOk.ofStop)) (fun h2 => TrOk.ofStop)) (fun h1 => TrOk.ofStop)) (fun h0 => TrOk.ofFin (BodyRuns.of (e125_0_4 x0 x1 x2 x3 x4) (All.cons h0 (All.nil))))

theorem ok125_0 : LoopOk Go.Proofs.Try.prog 125 0 lc125_0 := loopOk_ofB kf122_ok.base (T := fun (d : sh125_0.data) => t125_0 d.1.1 d.1.2.1 d.1.2.2.1 d.1.2.2.2.1 d.1.2.2.2.2.1) (by kernel_rfl) rfl (fun (d : sh125_0.data) => ok125_0_t d.1.1 d.1.2.1 d.1.2.2.1 d.1.2.2.2.1 d.1.2.2.2.2.1) (fun _ => rfl)
def kl125_0 : Known := kf122.loop 125 0 lc125_0
theorem kl125_0_ok : KnownOk Go.Proofs.Try.prog kl125_0 := kf122_ok.loop ok125_0

/-! ductility/motion.outsideOf -/

abbrev as125 : List Ty := [(.slice (.int .i64)), (.slice (.pair (.pair (.int .i64) (.pair (.int .i64) .unit)) (.pair (.pair (.int .i64) (.pair (.int .i64) .unit)) .unit)))]
abbrev rs125 : List Ty := [(.slice (.int .i64))]

def t125 (x0 : (List Int)) (x1 : (List ((Int × (Int × Unit)) × ((Int × (Int × Unit)) × Unit)))) : Tr (Tys.data rs125) :=
  Tr.test (isBrk (l125_0 ((x0, (([] : List Int), (x1, ((↑(List.length x1) : Int), ((0 : Int), ()))))), ())))
    (let r0 : (List Int × PUnit) × PUnit := b125_0 ((x0, (([] : List Int), (x1, ((↑(List.length x1) : Int), ((0 : Int), ()))))), ());
    Tr.fin (((r0.fst.fst : List Int), ())))
    (Tr.stop)

def f125 (d : Tys.data as125) : Option (Tys.data rs125) := (t125 d.1 d.2.1).val
def g125 (d : Tys.data as125) : Tys.data rs125 := (f125 d).getD (Tys.dflt rs125)
def p125 : PureC := pcOf as125 rs125 f125 g125

theorem e125_0 (x0 : (List Int)) (x1 : (List ((Int × (Int × Unit)) × ((Int × (Int × Unit)) × Unit)))) : runPure kl125_0.orc Go.Proofs.Try.prog 400 125 as125 rs125 (x0, x1, ()) [true, true] =
    (let r0 : (List Int × PUnit) × PUnit := b125_0 ((x0, (([] : List Int), (x1, ((↑(List.length x1) : Int), ((0 : Int), ()))))), ()); some (((r0.fst.fst : List Int), ()), [((true : Bool), true), (isBrk (l125_0 ((x0, (([] : List Int), (x1, ((↑(List.length x1) : Int), ((0 : Int), ()))))), ())), true)])) := by kernel_rfl

theorem ok125_t (x0 : (List Int)) (x1 : (List ((Int × (Int × Unit)) × ((Int × (Int × Unit)) × Unit)))) : TrOk (PureRuns Go.Proofs.Try.prog kl125_0.orc 125 as125 rs125 (x0, x1, ())) (t125 x0 x1) :=
  TrOk.ofTest (fun h0 => TrOk.ofFin (PureRuns.of (e125_0 x0 x1) (All.cons rfl (All.cons h0 (All.nil))))) (fun h0 => TrOk.ofStop)

theorem ok125 : PureOk Go.Proofs.Try.prog 125 p125 := pureOk_of kl125_0_ok.base (T := fun (d : Tys.data as125) => t125 d.1 d.2.1) (by kernel_rfl) (fun (d : Tys.data as125) => ok125_t d.1 d.2.1)
def kf125 : Known := kl125_0.func 125 p125
theorem kf125_ok : KnownOk Go.Proofs.Try.prog kf125 := kl125_0_ok.func ok125

/-! ductility/motion.OutsideOf -/

abbrev as62 : List Ty := [(.pair (.int .i64) (.pair (.slice (.int .i64)) .unit)), (.slice (.pair (.pair (.int .i64) (.pair (.int .i64) .unit)) (.pair (.pair (.int .i64) (.pair (.int .i64) .unit)) .unit)))]
abbrev rs62 : List Ty := [(.slice (.int .i64)), (.int .i64)]

def t62 (x0 : Int) (x0' : (List Int)) (x1 : (List ((Int × (Int × Unit)) × ((Int × (Int × Unit)) × Unit)))) : Tr (Tys.data rs62) :=
  Tr.test (Option.isSome (f88 ((x0, (x0', ())), ())))
    (Tr.test (Option.isSome (f124 (x1, ())))
      (let r0 : Int × PUnit := g88 ((x0, (x0', ())), ());
      let r1 : Int × PUnit := g124 (x1, ());
      Tr.test (Option.isSome (f85 (([r0.fst, r1.fst] : List Int), ())))
        (let r2 : Int × PUnit := g85 (([r0.fst, r1.fst] : List Int), ());
        Tr.test ((!eqF r2.fst (0 : Int) : Bool))
          (Tr.fin ((([] : List Int), ((r2.fst : Int), ()))))
          (Tr.test (Option.isSome (f125 (x0', (x1, ()))))
            (let r3 : List Int × PUnit := g125 (x0', (x1, ()));
            Tr.fin (((r3.fst : List Int), ((0 : Int), ()))))
            (Tr.stop)))
        (Tr.stop))
      (Tr.stop))
    (Tr.stop)

def f62 (d : Tys.data as62) : Option (Tys.data rs62) := (t62 d.1.1 d.1.2.1 d.2.1).val
def g62 (d : Tys.data as62) : Tys.data rs62 := (f62 d).getD (Tys.dflt rs62)
def p62 : PureC := pcOf as62 rs62 f62 g62

theorem e62_0 (x0 : Int) (x0' : (List Int)) (x1 : (List ((Int × (Int × Unit)) × ((Int × (Int × Unit)) × Unit)))) : runPure kf125.orc Go.Proofs.Try.prog 400 62 as62 rs62 ((x0, x0', ()), x1, ()) [true, true, true, true, true] =
    (let r0 : Int × PUnit := g88 ((x0, (x0', ())), ()); let r1 : Int × PUnit := g124 (x1, ()); let r2 : Int × PUnit := g85 (([r0.fst, r1.fst] : List Int), ()); some ((([] : List Int), ((r2.fst : Int), ())), [((!eqF r2.fst (0 : Int) : Bool), true), (Option.isSome (f85 (([r0.fst, r1.fst] : List Int), ())), true), ((true : Bool), true), (Option.isSome (f124 (x1, ())), true), (Option.isSome (f88 ((x0, (x0', ())), ())), true)])) := by kernel_rfl
theorem e62_1 (x0 : Int) (x0' : (List Int)) (x1 : (List ((Int × (Int × Unit)) × ((Int × (Int × Unit)) × Unit)))) : runPure kf125.orc Go.Proofs.Try.prog 400 62 as62 rs62 ((x0, x0', ()), x1, ()) [true, true, true, true, false, true] =
    (let r0 : Int × PUnit := g88 ((x0, (x0', ())), ()); let r1 : Int × PUnit := g124 (x1, ()); let r2 : Int × PUnit := g85 (([r0.fst, r1.fst] : List Int), ()); let r3 : List Int × PUnit := g125 (x0', (x1, ())); some (((r3.fst : List Int), ((0 : Int), ())), [(Option.isSome (f125 (x0', (x1, ()))), true), ((!eqF r2.fst (0 : Int) : Bool), false), (Option.isSome (f85 (([r0.fst, r1.fst] : List Int), ())), true), ((true : Bool), true), (Option.isSome (f124 (x1, ())), true), (Option.isSome (f88 ((x0, (x0', ())), ())), true)])) := by kernel_rfl

theorem ok62_t (x0 : Int) (x0' : (List Int)) (x1 : (List ((Int × (Int × Unit)) × ((Int × (Int × Unit)) × Unit)))) : TrOk (PureRuns Go.Proofs.Try.prog kf125.orc 62 as62 rs62 ((x0, x0', ()), x1, ())) (t62 x0 x0' x1) :=
  TrOk.ofTest (fun h0 => TrOk.ofTest (fun h1 => TrOk.ofTest (fun h3 => TrOk.ofTest (fun h4 => TrOk.ofFin (PureRuns.of (e62_0 x0 x0' x1) (All.cons h4 (All.cons h3 (All.cons rfl (All.cons h1 (All.cons h0 (All.nil)))))))) (fun h4 => TrOk.ofTest (fun h5 => TrOk.ofFin (PureRuns.of (e62_1 x0 x0' x1) (All.cons h5 (All.cons h4 (All.cons h3 (All.cons rfl (All.cons h1 (All.cons h0 (All.nil))))))))) (fun h5 => TrOk.ofStop))) (fun h3 => TrOk.ofStop)) (fun h1 => TrOk.ofStop)) (fun h0 => TrOk.ofStop)

theorem ok62 : PureOk Go.Proofs.Try.prog 62 p62 := pureOk_of kf125_ok.base (T := fun (d : Tys.data as62) => t62 d.1.1 d.1.2.1 d.2.1) (by kernel_rfl) (fun (d : Tys.data as62) => ok62_t d.1.1 d.1.2.1 d.2.1)
def kf62 : Known := kf125.func 62 p62
theorem kf62_ok : KnownOk Go.Proofs.Try.prog kf62 := kf125_ok.func ok62

/-! ductility/ductilitybase.Within -/

abbrev as47 : List Ty := [(.int .i64), (.int .i64), (.int .i64)]
abbrev rs47 : List Ty := [.bool]

def t47 (x0 : Int) (x1 : Int) (x2 : Int) : Tr (Tys.data rs47) :=
  Tr.test ((leF x1 x0 : Bool))
    (Tr.fin (((leF x0 x2 : Bool), ())))
    (Tr.fin (((false : Bool), ())))

def f47 (d : Tys.data as47) : Option (Tys.data rs47) := (t47 d.1 d.2.1 d.2.2.1).val
def g47 (d : Tys.data as47) : Tys.data rs47 := (f47 d).getD (Tys.dflt rs47)
def p47 : PureC := pcOf as47 rs47 f47 g47

theorem e47_0 (x0 : Int) (x1 : Int) (x2 : Int) : runPure kf62.orc Go.Proofs.Try.prog 400 47 as47 rs47 (x0, x1, x2, ()) [true, true, true, true] =
    (some (((leF x0 x2 : Bool), ()), [((leF x1 x0 : Bool), true), ((leF x1 x0 : Bool), true), ((leF x1 x0 : Bool), true), ((leF x1 x0 : Bool), true)])) := by kernel_rfl
theorem e47_1 (x0 : Int) (x1 : Int) (x2 : Int) : runPure kf62.orc Go.Proofs.Try.prog 400 47 as47 rs47 (x0, x1, x2, ()) [false, false, false, false] =
    (some (((false : Bool), ()), [((leF x1 x0 : Bool), false), ((leF x1 x0 : Bool), false), ((leF x1 x0 : Bool), false), ((leF x1 x0 : Bool), false)])) := by kernel_rfl

theorem ok47_t (x0 : Int) (x1 : Int) (x2 : Int) : TrOk (PureRuns Go.Proofs.Try.prog kf62.orc 47 as47 rs47 (x0, x1, x2, ())) (t47 x0 x1 x2) :=
  TrOk.ofTest (fun h0 => TrOk.ofFin (PureRuns.of (e47_0 x0 x1 x2) (All.cons (h0) (All.cons (h0) (All.cons (h0) (All.cons h0 (All.nil))))))) (fun h0 => TrOk.ofFin (PureRuns.of (e47_1 x0 x1 x2) (All.cons (h0) (All.cons (h0) (All.cons (h0) (All.cons h0 (All.nil)))))))

theorem ok47 : PureOk Go.Proofs.Try.prog 47 p47 := pureOk_of kf62_ok.base (T := fun (d : Tys.data as47) => t47 d.1 d.2.1 d.2.2.1) (by kernel_rfl) (fun (d : Tys.data as47) => ok47_t d.1 d.2.1 d.2.2.1)
def kf47 : Known := kf62.func 47 p47
theorem kf47_ok : KnownOk Go.Proofs.Try.prog kf47 := kf62_ok.func ok47

/-! ductility/ductilityref02.IsSample -/

abbrev as54 : List Ty := [(.int .i64)]
abbrev rs54 : List Ty := [.bool]

def t54 (x0 : Int) : Tr (Tys.data rs54) :=
  Tr.test (Option.isSome (f47 (x0, ((-1000 : Int), ((1000 : Int), ())))))
    (let r0 : Bool × PUnit := g47 (x0, ((-1000 : Int), ((1000 : Int), ())));
    Tr.fin (((r0.fst : Bool), ())))
    (Tr.stop)

def f54 (d : Tys.data as54) : Option (Tys.data rs54) := (t54 d.1).val
def g54 (d : Tys.data as54) : Tys.data rs54 := (f54 d).getD (Tys.dflt rs54)
def p54 : PureC := pcOf as54 rs54 f54 g54

theorem e54_0 (x0 : Int) : runPure kf47.orc Go.Proofs.Try.prog 400 54 as54 rs54 (x0, ()) [true] =
    (let r0 : Bool × PUnit := g47 (x0, ((-1000 : Int), ((1000 : Int), ()))); some (((r0.fst : Bool), ()), [(Option.isSome (f47 (x0, ((-1000 : Int), ((1000 : Int), ())))), true)])) := by kernel_rfl

theorem ok54_t (x0 : Int) : TrOk (PureRuns Go.Proofs.Try.prog kf47.orc 54 as54 rs54 (x0, ())) (t54 x0) :=
  TrOk.ofTest (fun h0 => TrOk.ofFin (PureRuns.of (e54_0 x0) (All.cons h0 (All.nil)))) (fun h0 => TrOk.ofStop)

theorem ok54 : PureOk Go.Proofs.Try.prog 54 p54 := pureOk_of kf47_ok.base (T := fun (d : Tys.data as54) => t54 d.1) (by kernel_rfl) (fun (d : Tys.data as54) => ok54_t d.1)
def kf54 : Known := kf47.func 54 p54
theorem kf54_ok : KnownOk Go.Proofs.Try.prog kf54 := kf47_ok.func ok54

/-! loop 0 of ductility/ductilityref02.CheckRecord -/

abbrev sh22_0 : Sh := { n := 32, slots := [1, 4], pats := [.ptr 0 2 0, .ty (.int .i64)], boxes := [.row [.ty (.int .i64), .ty (.slice (.int .i64))]] }
abbrev shb22_0 : Sh := { n := 32, slots := [], pats := [], boxes := [.row [.ty (.int .i64), .ty (.slice (.int .i64))]] }
abbrev shr22_0 : Sh := { n := 32, slots := [2, 3], pats := [.ty (.int .i64), .ty (.int .i64)], boxes := [.row [.ty (.int .i64), .ty (.slice (.int .i64))]] }

def t22_0 (x1 : Int) (b0_0 : Int) (b0_1 : (List Int)) : Tr (Out sh22_0.data shb22_0.data shr22_0.data) :=
  Tr.test ((!leF (↑(List.length b0_1) : Int) x1 : Bool))
    (Tr.test ((decide ((0 : Int) ≤ x1) && decide (x1 < (↑(List.length b0_1) : Int)) : Bool))
      (Tr.test (Option.isSome (f54 ((List.getD b0_1 (Int.toNat x1) (0 : Int) : Int), ())))
        (let r0 : Bool × PUnit := g54 ((List.getD b0_1 (Int.toNat x1) (0 : Int) : Int), ());
        Tr.test ((!r0.fst : Bool))
          (Tr.fin (.ret ((x1, ((2 : Int), ())), ((b0_0, (b0_1, ())), ()))))
          (Tr.fin (.again (((wrap64 (x1 + (1 : Int)) : Int), ()), ((b0_0, (b0_1, ())), ())))))
        (Tr.stop))
      (Tr.stop /- none [op 3 of region 10 of F22] -/))
    (Tr.fin (.brk ((), ((b0_0, (b0_1, ())), ()))))

def s22_0 (d : sh22_0.data) : Option (Out sh22_0.data shb22_0.data shr22_0.data) := (t22_0 d.1.1 d.2.1.1 d.2.1.2.1).val
def l22_0 (d : sh22_0.data) : Option (shb22_0.data ⊕ shr22_0.data) := itr s22_0 rounds d
def b22_0 (d : sh22_0.data) : shb22_0.data := outB shb22_0.dflt (l22_0 d)
def r22_0 (d : sh22_0.data) : shr22_0.data := outR shr22_0.dflt (l22_0 d)
def lc22_0 : LoopC := lcOf sh22_0 shb22_0 shr22_0 l22_0 b22_0 r22_0

theorem e22_0_0 (x1 : Int) (b0_0 : Int) (b0_1 : (List Int)) : runBody kf54.orc Go.Proofs.Try.prog 400 22 0 sh22_0 shb22_0 shr22_0 ((x1, ()), (b0_0, b0_1, ()), ()) [true, true, true, true] =
    (let r0 : Bool × PUnit := g54 ((List.getD b0_1 (Int.toNat x1) (0 : Int) : Int), ()); some (.ret ((x1, ((2 : Int), ())), ((b0_0, (b0_1, ())), ())), [((!r0.fst : Bool), true), (Option.isSome (f54 ((List.getD b0_1 (Int.toNat x1) (0 : Int) : Int), ())), true), ((decide ((0 : Int) ≤ x1) && decide (x1 < (↑(List.length b0_1) : Int)) : Bool), true), ((!leF (↑(List.length b0_1) : Int) x1 : Bool), true)])) := by kernel_rfl
theorem e22_0_1 (x1 : Int) (b0_0 : Int) (b0_1 : (List Int)) : runBody kf54.orc Go.Proofs.Try.prog 400 22 0 sh22_0 shb22_0 shr22_0 ((x1, ()), (b0_0, b0_1, ()), ()) [true, true, true, false] =
    (let r0 : Bool × PUnit := g54 ((List.getD b0_1 (Int.toNat x1) (0 : Int) : Int), ()); some (.again (((wrap64 (x1 + (1 : Int)) : Int), ()), ((b0_0, (b0_1, ())), ())), [((!r0.fst : Bool), false), (Option.isSome (f54 ((List.getD b0_1 (Int.toNat x1) (0 : Int) : Int), ())), true), ((decide ((0 : Int) ≤ x1) && decide (x1 < (↑(List.length b0_1) : Int)) : Bool), true), ((!leF (↑(List.length b0_1) : Int) x1 : Bool), true)])) := by kernel_rfl
theorem e22_0_3 (x1 : Int) (b0_0 : Int) (b0_1 : (List Int)) : runBody kf54.orc Go.Proofs.Try.prog 400 22 0 sh22_0 shb22_0 shr22_0 ((x1, ()), (b0_0, b0_1, ()), ()) [false] =
    (some (.brk ((), ((b0_0, (b0_1, ())), ())), [((!leF (↑(List.length b0_1) : Int) x1 : Bool), false)])) := by kernel_rfl

theorem ok22_0_t (x1 : Int) (b0_0 : Int) (b0_1 : (List Int)) : TrOk (BodyRuns Go.Proofs.Try.prog kf54.orc 22 0 sh22_0 shb22_0 shr22_0 ((x1, ()), (b0_0, b0_1, ()), ())) (t22_0 x1 b0_0 b0_1) :=
  TrOk.ofTest (fun h0 => TrOk.ofTest (fun h1 => TrOk.ofTest (fun h2 => TrOk.ofTest (fun h3 => TrOk.ofFin (BodyRuns.of (e22_0_0 x1 b0_0 b0_1) (All.cons h3 (All.cons h2 (All.cons h1 (All.cons h0 (All.nil))))))) (fun h3 => TrOk.ofFin (BodyRuns.of (e22_0_1 x1 b0_0 b0_1) (All.cons h3 (All.cons h2 (All.cons h1 (All.cons h0 (All.nil)))))))) (fun h2 => TrOk.ofStop)) (fun h1 => TrOk.ofStop)) (fun h0 => TrOk.ofFin (BodyRuns.of (e22_0_3 x1 b0_0 b0_1) (All.cons h0 (All.nil))))

theorem ok22_0 : LoopOk Go.Proofs.Try.prog 22 0 lc22_0 := loopOk_of kf54_ok.base (T := fun (d : sh22_0.data) => t22_0 d.1.1 d.2.1.1 d.2.1.2.1) (by kernel_rfl) rfl (fun (d : sh22_0.data) => ok22_0_t d.1.1 d.2.1.1 d.2.1.2.1) (fun _ => rfl)
def kl22_0 : Known := kf54.loop 22 0 lc22_0
theorem kl22_0_ok : KnownOk Go.Proofs.Try.prog kl22_0 := kf54_ok.loop ok22_0

/-! ductility/ductilityref02.CheckRecord -/

abbrev as22 : List Ty := [(.pair (.int .i64) (.pair (.slice (.int .i64)) .unit))]
abbrev rs22 : List Ty := [(.int .i64), (.int .i64)]

def t22 (x0 : Int) (x0' : (List Int)) : Tr (Tys.data rs22) :=
  Tr.test (Option.isSome (f47 (x0, ((1 : Int), ((1000000 : Int), ())))))
    (let r0 : Bool × PUnit := g47 (x0, ((1 : Int), ((1000000 : Int), ())));
    Tr.test ((!r0.fst : Bool))
      (Tr.fin (((0 : Int), ((2 : Int), ()))))
      (Tr.test ((!leF (2 : Int) (↑(List.length x0') : Int) : Bool))
        (Tr.fin (((0 : Int), ((10 : Int), ()))))
        (Tr.test ((!leF (↑(List.length x0') : Int) (24 : Int) : Bool))
          (Tr.fin (((0 : Int), ((8 : Int), ()))))
          (Tr.test (Option.isSome (l22_0 (((0 : Int), ()), ((x0, (x0', ())), ()))))
            (Tr.test (isRet (l22_0 (((0 : Int), ()), ((x0, (x0', ())), ()))))
              (let r1 : (Int × Int × PUnit) × (Int × List Int × PUnit) × PUnit := r22_0 (((0 : Int), ()), ((x0, (x0', ())), ()));
              Tr.fin (((r1.fst.fst : Int), ((r1.fst.snd.fst : Int), ()))))
              (Tr.fin (((0 : Int), ((0 : Int), ())))))
            (Tr.stop)))))
    (Tr.stop)

def f22 (d : Tys.data as22) : Option (Tys.data rs22) := (t22 d.1.1 d.1.2.1).val
def g22 (d : Tys.data as22) : Tys.data rs22 := (f22 d).getD (Tys.dflt rs22)
def p22 : PureC := pcOf as22 rs22 f22 g22

theorem e22_0 (x0 : Int) (x0' : (List Int)) : runPure kl22_0.orc Go.Proofs.Try.prog 400 22 as22 rs22 ((x0, x0', ()), ()) [true, true] =
    (let r0 : Bool × PUnit := g47 (x0, ((1 : Int), ((1000000 : Int), ()))); some (((0 : Int), ((2 : Int), ())), [((!r0.fst : Bool), true), (Option.isSome (f47 (x0, ((1 : Int), ((1000000 : Int), ())))), true)])) := by kernel_rfl
theorem e22_1 (x0 : Int) (x0' : (List Int)) : runPure kl22_0.orc Go.Proofs.Try.prog 400 22 as22 rs22 ((x0, x0', ()), ()) [true, false, true] =
    (let r0 : Bool × PUnit := g47 (x0, ((1 : Int), ((1000000 : Int), ()))); some (((0 : Int), ((10 : Int), ())), [((!leF (2 : Int) (↑(List.length x0') : Int) : Bool), true), ((!r0.fst : Bool), false), (Option.isSome (f47 (x0, ((1 : Int), ((1000000 : Int), ())))), true)])) := by kernel_rfl
theorem e22_2 (x0 : Int) (x0' : (List Int)) : runPure kl22_0.orc Go.Proofs.Try.prog 400 22 as22 rs22 ((x0, x0', ()), ()) [true, false, false, true] =
    (let r0 : Bool × PUnit := g47 (x0, ((1 : Int), ((1000000 : Int), ()))); some (((0 : Int), ((8 : Int), ())), [((!leF (↑(List.length x0') : Int) (24 : Int) : Bool), true), ((!leF (2 : Int) (↑(List.length x0') : Int) : Bool), false), ((!r0.fst : Bool), false), (Option.isSome (f47 (x0, ((1 : Int), ((1000000 : Int), ())))), true)])) := by kernel_rfl
theorem e22_3 (x0 : Int) (x0' : (List Int)) : runPure kl22_0.orc Go.Proofs.Try.prog 400 22 as22 rs22 ((x0, x0', ()), ()) [true, false, false, false, true, true] =
    (let r0 : Bool × PUnit := g47 (x0, ((1 : Int), ((1000000 : Int), ()))); let r1 : (Int × Int × PUnit) × (Int × List Int × PUnit) × PUnit := r22_0 (((0 : Int), ()), ((x0, (x0', ())), ())); some (((r1.fst.fst : Int), ((r1.fst.snd.fst : Int), ())), [(isRet (l22_0 (((0 : Int), ()), ((x0, (x0', ())), ()))), true), (Option.isSome (l22_0 (((0 : Int), ()), ((x0, (x0', ())), ()))), true), ((!leF (↑(List.length x0') : Int) (24 : Int) : Bool), false), ((!leF (2 : Int) (↑(List.length x0') : Int) : Bool), false), ((!r0.fst : Bool), false), (Option.isSome (f47 (x0, ((1 : Int), ((1000000 : Int), ())))), true)])) := by kernel_rfl
theorem e22_4 (x0 : Int) (x0' : (List Int)) : runPure kl22_0.orc Go.Proofs.Try.prog 400 22 as22 rs22 ((x0, x0', ()), ()) [true, false, false, false, true, false] =
    (let r0 : Bool × PUnit := g47 (x0, ((1 : Int), ((1000000 : Int), ()))); some (((0 : Int), ((0 : Int), ())), [(isRet (l22_0 (((0 : Int), ()), ((x0, (x0', ())), ()))), false), (Option.isSome (l22_0 (((0 : Int), ()), ((x0, (x0', ())), ()))), true), ((!leF (↑(List.length x0') : Int) (24 : Int) : Bool), false), ((!leF (2 : Int) (↑(List.length x0') : Int) : Bool), false), ((!r0.fst : Bool), false), (Option.isSome (f47 (x0, ((1 : Int), ((1000000 : Int), ())))), true)])) := by kernel_rfl

theorem ok22_t (x0 : Int) (x0' : (List Int)) : TrOk (PureRuns Go.Proofs.Try.prog kl22_0.orc 22 as22 rs22 ((x0, x0', ()), ())) (t22 x0 x0') :=
  TrOk.ofTest (fun h0 => TrOk.ofTest (fun h1 => TrOk.ofFin (PureRuns.of (e22_0 x0 x0') (All.cons h1 (All.cons h0 (All.nil))))) (fun h1 => TrOk.ofTest (fun h2 => TrOk.ofFin (PureRuns.of (e22_1 x0 x0') (All.cons h2 (All.cons h1 (All.cons h0 (All.nil)))))) (fun h2 => TrOk.ofTest (fun h3 => TrOk.ofFin (PureRuns.of (e22_2 x0 x0') (All.cons h3 (All.cons h2 (All.cons h1 (All.cons h0 (All.nil))))))) (fun h3 => TrOk.ofTest (fun h4 => TrOk.ofTest (fun h5 => TrOk.ofFin (PureRuns.of (e22_3 x0 x0') (All.cons h5 (All.cons h4 (All.cons h3 (All.cons h2 (All.cons h1 (All.cons h0 (All.nil))))))))) (fun h5 => TrOk.ofFin (PureRuns.of (e22_4 x0 x0') (All.cons h5 (All.cons h4 (All.cons h3 (All.cons h2 (All.cons h1 (All.cons h0 (All.nil)))))))))) (fun h4 => TrOk.ofStop))))) (fun h0 => TrOk.ofStop)

theorem ok22 : PureOk Go.Proofs.Try.prog 22 p22 := pureOk_of kl22_0_ok.base (T := fun (d : Tys.data as22) => t22 d.1.1 d.1.2.1) (by kernel_rfl) (fun (d : Tys.data as22) => ok22_t d.1.1 d.1.2.1)
def kf22 : Known := kl22_0.func 22 p22
theorem kf22_ok : KnownOk Go.Proofs.Try.prog kf22 := kl22_0_ok.func ok22

/-! ductility/ductilityref02.RecordErr -/

abbrev as29 : List Ty := [(.pair (.int .i64) (.pair (.slice (.int .i64)) .unit))]
abbrev rs29 : List Ty := [(.int .i64)]

def t29 (x0 : Int) (x0' : (List Int)) : Tr (Tys.data rs29) :=
  Tr.test (Option.isSome (f22 ((x0, (x0', ())), ())))
    (let r0 : Int × Int × PUnit := g22 ((x0, (x0', ())), ());
    Tr.fin (((r0.snd.fst : Int), ())))
    (Tr.stop)

def f29 (d : Tys.data as29) : Option (Tys.data rs29) := (t29 d.1.1 d.1.2.1).val
def g29 (d : Tys.data as29) : Tys.data rs29 := (f29 d).getD (Tys.dflt rs29)
def p29 : PureC := pcOf as29 rs29 f29 g29

theorem e29_0 (x0 : Int) (x0' : (List Int)) : runPure kf22.orc Go.Proofs.Try.prog 400 29 as29 rs29 ((x0, x0', ()), ()) [true] =
    (let r0 : Int × Int × PUnit := g22 ((x0, (x0', ())), ()); some (((r0.snd.fst : Int), ()), [(Option.isSome (f22 ((x0, (x0', ())), ())), true)])) := by kernel_rfl

theorem ok29_t (x0 : Int) (x0' : (List Int)) : TrOk (PureRuns Go.Proofs.Try.prog kf22.orc 29 as29 rs29 ((x0, x0', ()), ())) (t29 x0 x0') :=
  TrOk.ofTest (fun h0 => TrOk.ofFin (PureRuns.of (e29_0 x0 x0') (All.cons h0 (All.nil)))) (fun h0 => TrOk.ofStop)

theorem ok29 : PureOk Go.Proofs.Try.prog 29 p29 := pureOk_of kf22_ok.base (T := fun (d : Tys.data as29) => t29 d.1.1 d.1.2.1) (by kernel_rfl) (fun (d : Tys.data as29) => ok29_t d.1.1 d.1.2.1)
def kf29 : Known := kf22.func 29 p29
theorem kf29_ok : KnownOk Go.Proofs.Try.prog kf29 := kf22_ok.func ok29

/-! ductility/ductilityref02.OscillatorErr -/

abbrev as58 : List Ty := [(.pair (.int .i64) (.pair (.int .i64) .unit))]
abbrev rs58 : List Ty := [(.int .i64)]

def t58 (x0 : Int) (x0' : Int) : Tr (Tys.data rs58) :=
  Tr.test (Option.isSome (f47 (x0, ((0 : Int), ((3000 : Int), ())))))
    (let r0 : Bool × PUnit := g47 (x0, ((0 : Int), ((3000 : Int), ())));
    Tr.test ((!r0.fst : Bool))
      (Tr.fin (((2 : Int), ())))
      (Tr.test (Option.isSome (f47 (x0', ((0 : Int), ((500 : Int), ())))))
        (let r1 : Bool × PUnit := g47 (x0', ((0 : Int), ((500 : Int), ())));
        Tr.test ((!r1.fst : Bool))
          (Tr.fin (((2 : Int), ())))
          (Tr.fin (((0 : Int), ()))))
        (Tr.stop)))
    (Tr.stop)

def f58 (d : Tys.data as58) : Option (Tys.data rs58) := (t58 d.1.1 d.1.2.1).val
def g58 (d : Tys.data as58) : Tys.data rs58 := (f58 d).getD (Tys.dflt rs58)
def p58 : PureC := pcOf as58 rs58 f58 g58

theorem e58_0 (x0 : Int) (x0' : Int) : runPure kf29.orc Go.Proofs.Try.prog 400 58 as58 rs58 ((x0, x0', ()), ()) [true, true, true, true, true, true, true] =
    (let r0 : Bool × PUnit := g47 (x0, ((0 : Int), ((3000 : Int), ()))); some (((2 : Int), ()), [((true : Bool), true), ((!r0.fst : Bool), true), ((!r0.fst : Bool), true), ((!r0.fst : Bool), true), ((!r0.fst : Bool), true), ((!r0.fst : Bool), true), (Option.isSome (f47 (x0, ((0 : Int), ((3000 : Int), ())))), true)])) := by kernel_rfl
theorem e58_1 (x0 : Int) (x0' : Int) : runPure kf29.orc Go.Proofs.Try.prog 400 58 as58 rs58 ((x0, x0', ()), ()) [true, false, false, false, true, false, false, true] =
    (let r0 : Bool × PUnit := g47 (x0, ((0 : Int), ((3000 : Int), ()))); let r1 : Bool × PUnit := g47 (x0', ((0 : Int), ((500 : Int), ()))); some (((2 : Int), ()), [((!r1.fst : Bool), true), ((!r0.fst : Bool), false), ((!r0.fst : Bool), false), (Option.isSome (f47 (x0', ((0 : Int), ((500 : Int), ())))), true), ((!r0.fst : Bool), false), ((!r0.fst : Bool), false), ((!r0.fst : Bool), false), (Option.isSome (f47 (x0, ((0 : Int), ((3000 : Int), ())))), true)])) := by kernel_rfl
theorem e58_2 (x0 : Int) (x0' : Int) : runPure kf29.orc Go.Proofs.Try.prog 400 58 as58 rs58 ((x0, x0', ()), ()) [true, false, false, false, true, false, false, false] =
    (let r0 : Bool × PUnit := g47 (x0, ((0 : Int), ((3000 : Int), ()))); let r1 : Bool × PUnit := g47 (x0', ((0 : Int), ((500 : Int), ()))); some (((0 : Int), ()), [((!r1.fst : Bool), false), ((!r0.fst : Bool), false), ((!r0.fst : Bool), false), (Option.isSome (f47 (x0', ((0 : Int), ((500 : Int), ())))), true), ((!r0.fst : Bool), false), ((!r0.fst : Bool), false), ((!r0.fst : Bool), false), (Option.isSome (f47 (x0, ((0 : Int), ((3000 : Int), ())))), true)])) := by kernel_rfl

theorem ok58_t (x0 : Int) (x0' : Int) : TrOk (PureRuns Go.Proofs.Try.prog kf29.orc 58 as58 rs58 ((x0, x0', ()), ())) (t58 x0 x0') :=
  TrOk.ofTest (fun h0 => TrOk.ofTest (fun h1 => TrOk.ofFin (PureRuns.of (e58_0 x0 x0') (All.cons rfl (All.cons (not_of (of_not (h1))) (All.cons (not_of (of_not (h1))) (All.cons (not_of (of_not (h1))) (All.cons (not_of (of_not (h1))) (All.cons h1 (All.cons h0 (All.nil)))))))))) (fun h1 => TrOk.ofTest (fun h4 => TrOk.ofTest (fun h7 => TrOk.ofFin (PureRuns.of (e58_1 x0 x0') (All.cons h7 (All.cons (not_of (of_not (h1))) (All.cons (not_of (of_not (h1))) (All.cons h4 (All.cons (not_of (of_not (h1))) (All.cons (not_of (of_not (h1))) (All.cons h1 (All.cons h0 (All.nil))))))))))) (fun h7 => TrOk.ofFin (PureRuns.of (e58_2 x0 x0') (All.cons h7 (All.cons (not_of (of_not (h1))) (All.cons (not_of (of_not (h1))) (All.cons h4 (All.cons (not_of (of_not (h1))) (All.cons (not_of (of_not (h1))) (All.cons h1 (All.cons h0 (All.nil)))))))))))) (fun h4 => TrOk.ofStop))) (fun h0 => TrOk.ofStop)

theorem ok58 : PureOk Go.Proofs.Try.prog 58 p58 := pureOk_of kf29_ok.base (T := fun (d : Tys.data as58) => t58 d.1.1 d.1.2.1) (by kernel_rfl) (fun (d : Tys.data as58) => ok58_t d.1.1 d.1.2.1)
def kf58 : Known := kf29.func 58 p58
theorem kf58_ok : KnownOk Go.Proofs.Try.prog kf58 := kf29_ok.func ok58

/-! loop 0 of ductility/ductilityref02.BandErr -/

abbrev sh64_0 : Sh := { n := 47, slots := [0, 3], pats := [.ty (.slice (.pair (.pair (.int .i64) (.pair (.int .i64) .unit)) (.pair (.pair (.int .i64) (.pair (.int .i64) .unit)) .unit))), .ty (.int .i64)], boxes := [] }
abbrev shb64_0 : Sh := { n := 47, slots := [], pats := [], boxes := [] }
abbrev shr64_0 : Sh := { n := 47, slots := [2], pats := [.ty (.int .i64)], boxes := [] }

def t64_0 (x0 : (List ((Int × (Int × Unit)) × ((Int × (Int × Unit)) × Unit)))) (x1 : Int) : Tr (Out sh64_0.data shb64_0.data shr64_0.data) :=
  Tr.test ((!leF (↑(List.length x0) : Int) x1 : Bool))
    (Tr.test ((decide ((0 : Int) ≤ x1) && decide (x1 < (↑(List.length x0) : Int)) : Bool))
      (Tr.test (Option.isSome (f58 ((((List.getD x0 (Int.toNat x1) (((0 : Int), (0 : Int), ()), ((0 : Int), (0 : Int), ()), ())).fst.fst : Int), (((List.getD x0 (Int.toNat x1) (((0 : Int), (0 : Int), ()), ((0 : Int), (0 : Int), ()), ())).fst.snd.fst : Int), ())), ())))
        (let r0 : Int × PUnit := g58 ((((List.getD x0 (Int.toNat x1) (((0 : Int), (0 : Int), ()), ((0 : Int), (0 : Int), ()), ())).fst.fst : Int), (((List.getD x0 (Int.toNat x1) (((0 : Int), (0 : Int), ()), ((0 : Int), (0 : Int), ()), ())).fst.snd.fst : Int), ())), ());
        Tr.test ((!eqF r0.fst (0 : Int) : Bool))
          (Tr.fin (.ret (((r0.fst : Int), ()), ())))
          (Tr.test (Option.isSome (f47 (((List.getD x0 (Int.toNat x1) (((0 : Int), (0 : Int), ()), ((0 : Int), (0 : Int), ()), ())).snd.fst.fst : Int), ((0 : Int), ((1000000 : Int), ())))))
            (let r1 : Bool × PUnit := g47 (((List.getD x0 (Int.toNat x1) (((0 : Int), (0 : Int), ()), ((0 : Int), (0 : Int), ()), ())).snd.fst.fst : Int), ((0 : Int), ((1000000 : Int), ())));
            Tr.test ((!r1.fst : Bool))
              (Tr.fin (.ret (((2 : Int), ()), ())))
              (Tr.test (Option.isSome (f47 (((List.getD x0 (Int.toNat x1) (((0 : Int), (0 : Int), ()), ((0 : Int), (0 : Int), ()), ())).snd.fst.snd.fst : Int), ((0 : Int), ((1000000 : Int), ())))))
                (let r2 : Bool × PUnit := g47 (((List.getD x0 (Int.toNat x1) (((0 : Int), (0 : Int), ()), ((0 : Int), (0 : Int), ()), ())).snd.fst.snd.fst : Int), ((0 : Int), ((1000000 : Int), ())));
                Tr.test ((!r2.fst : Bool))
                  (Tr.fin (.ret (((2 : Int), ()), ())))
                  (Tr.test ((!leF (List.getD x0 (Int.toNat x1) (((0 : Int), (0 : Int), ()), ((0 : Int), (0 : Int), ()), ())).snd.fst.fst (List.getD x0 (Int.toNat x1) (((0 : Int), (0 : Int), ()), ((0 : Int), (0 : Int), ()), ())).snd.fst.snd.fst : Bool))
                    (Tr.fin (.ret (((9 : Int), ()), ())))
                    (Tr.fin (.again ((x0, ((wrap64 (x1 + (1 : Int)) : Int), ())), ())))))
                (Tr.stop)))
            (Tr.stop)))
        (Tr.stop))
      (Tr.stop /- none [op 2 of region 8 of F64] -/))
    (Tr.fin (.brk ((), ())))

def s64_0 (d : sh64_0.data) : Option (Out sh64_0.data shb64_0.data shr64_0.data) := (t64_0 d.1.1 d.1.2.1).val
def l64_0 (d : sh64_0.data) : Option (shb64_0.data ⊕ shr64_0.data) := itr s64_0 rounds d
def b64_0 (d : sh64_0.data) : shb64_0.data := outB shb64_0.dflt (l64_0 d)
def r64_0 (d : sh64_0.data) : shr64_0.data := outR shr64_0.dflt (l64_0 d)
def lc64_0 : LoopC := lcOf sh64_0 shb64_0 shr64_0 l64_0 b64_0 r64_0

theorem e64_0_0 (x0 : (List ((Int × (Int × Unit)) × ((Int × (Int × Unit)) × Unit)))) (x1 : Int) : runBody kf58.orc Go.Proofs.Try.prog 400 64 0 sh64_0 shb64_0 shr64_0 ((x0, x1, ()), ()) [true, true, true, true] =
    (let r0 : Int × PUnit := g58 ((((List.getD x0 (Int.toNat x1) (((0 : Int), (0 : Int), ()), ((0 : Int), (0 : Int), ()), ())).fst.fst : Int), (((List.getD x0 (Int.toNat x1) (((0 : Int), (0 : Int), ()), ((0 : Int), (0 : Int), ()), ())).fst.snd.fst : Int), ())), ()); some (.ret (((r0.fst : Int), ()), ()), [((!eqF r0.fst (0 : Int) : Bool), true), (Option.isSome (f58 ((((List.getD x0 (Int.toNat x1) (((0 : Int), (0 : Int), ()), ((0 : Int), (0 : Int), ()), ())).fst.fst : Int), (((List.getD x0 (Int.toNat x1) (((0 : Int), (0 : Int), ()), ((0 : Int), (0 : Int), ()), ())).fst.snd.fst : Int), ())), ())), true), ((decide ((0 : Int) ≤ x1) && decide (x1 < (↑(List.length x0) : Int)) : Bool), true), ((!leF (↑(List.length x0) : Int) x1 : Bool), true)])) := by kernel_rfl
theorem e64_0_1 (x0 : (List ((Int × (Int × Unit)) × ((Int × (Int × Unit)) × Unit)))) (x1 : Int) : runBody kf58.orc Go.Proofs.Try.prog 400 64 0 sh64_0 shb64_0 shr64_0 ((x0, x1, ()), ()) [true, true, true, false, true, true, true, true, true, true, true, true] =
    (let r0 : Int × PUnit := g58 ((((List.getD x0 (Int.toNat x1) (((0 : Int), (0 : Int), ()), ((0 : Int), (0 : Int), ()), ())).fst.fst : Int), (((List.getD x0 (Int.toNat x1) (((0 : Int), (0 : Int), ()), ((0 : Int), (0 : Int), ()), ())).fst.snd.fst : Int), ())), ()); let r1 : Bool × PUnit := g47 (((List.getD x0 (Int.toNat x1) (((0 : Int), (0 : Int), ()), ((0 : Int), (0 : Int), ()), ())).snd.fst.fst : Int), ((0 : Int), ((1000000 : Int), ()))); some (.ret (((2 : Int), ()), ()), [((true : Bool), true), ((!r1.fst : Bool), true), ((!r1.fst : Bool), true), ((!r1.fst : Bool), true), ((!r1.fst : Bool), true), ((!r1.fst : Bool), true), (Option.isSome (f47 (((List.getD x0 (Int.toNat x1) (((0 : Int), (0 : Int), ()), ((0 : Int), (0 : Int), ()), ())).snd.fst.fst : Int), ((0 : Int), ((1000000 : Int), ())))), true), ((decide ((0 : Int) ≤ x1) && decide (x1 < (↑(List.length x0) : Int)) : Bool), true), ((!eqF r0.fst (0 : Int) : Bool), false), (Option.isSome (f58 ((((List.getD x0 (Int.toNat x1) (((0 : Int), (0 : Int), ()), ((0 : Int), (0 : Int), ()), ())).fst.fst : Int), (((List.getD x0 (Int.toNat x1) (((0 : Int), (0 : Int), ()), ((0 : Int), (0 : Int), ()), ())).fst.snd.fst : Int), ())), ())), true), ((decide ((0 : Int) ≤ x1) && decide (x1 < (↑(List.length x0) : Int)) : Bool), true), ((!leF (↑(List.length x0) : Int) x1 : Bool), true)])) := by kernel_rfl
theorem e64_0_2 (x0 : (List ((Int × (Int × Unit)) × ((Int × (Int × Unit)) × Unit)))) (x1 : Int) : runBody kf58.orc Go.Proofs.Try.prog 400 64 0 sh64_0 shb64_0 shr64_0 ((x0, x1, ()), ()) [true, true, true, false, true, true, false, false, false, true, false, false, true] =
    (let r0 : Int × PUnit := g58 ((((List.getD x0 (Int.toNat x1) (((0 : Int), (0 : Int), ()), ((0 : Int), (0 : Int), ()), ())).fst.fst : Int), (((List.getD x0 (Int.toNat x1) (((0 : Int), (0 : Int), ()), ((0 : Int), (0 : Int), ()), ())).fst.snd.fst : Int), ())), ()); let r1 : Bool × PUnit := g47 (((List.getD x0 (Int.toNat x1) (((0 : Int), (0 : Int), ()), ((0 : Int), (0 : Int), ()), ())).snd.fst.fst : Int), ((0 : Int), ((1000000 : Int), ()))); let r2 : Bool × PUnit := g47 (((List.getD x0 (Int.toNat x1) (((0 : Int), (0 : Int), ()), ((0 : Int), (0 : Int), ()), ())).snd.fst.snd.fst : Int), ((0 : Int), ((1000000 : Int), ()))); some (.ret (((2 : Int), ()), ()), [((!r2.fst : Bool), true), ((!r1.fst : Bool), false), ((!r1.fst : Bool), false), (Option.isSome (f47 (((List.getD x0 (Int.toNat x1) (((0 : Int), (0 : Int), ()), ((0 : Int), (0 : Int), ()), ())).snd.fst.snd.fst : Int), ((0 : Int), ((1000000 : Int), ())))), true), ((!r1.fst : Bool), false), ((!r1.fst : Bool), false), ((!r1.fst : Bool), false), (Option.isSome (f47 (((List.getD x0 (Int.toNat x1) (((0 : Int), (0 : Int), ()), ((0 : Int), (0 : Int), ()), ())).snd.fst.fst : Int), ((0 : Int), ((1000000 : Int), ())))), true), ((decide ((0 : Int) ≤ x1) && decide (x1 < (↑(List.length x0) : Int)) : Bool), true), ((!eqF r0.fst (0 : Int) : Bool), false), (Option.isSome (f58 ((((List.getD x0 (Int.toNat x1) (((0 : Int), (0 : Int), ()), ((0 : Int), (0 : Int), ()), ())).fst.fst : Int), (((List.getD x0 (Int.toNat x1) (((0 : Int), (0 : Int), ()), ((0 : Int), (0 : Int), ()), ())).fst.snd.fst : Int), ())), ())), true), ((decide ((0 : Int) ≤ x1) && decide (x1 < (↑(List.length x0) : Int)) : Bool), true), ((!leF (↑(List.length x0) : Int) x1 : Bool), true)])) := by kernel_rfl
theorem e64_0_3 (x0 : (List ((Int × (Int × Unit)) × ((Int × (Int × Unit)) × Unit)))) (x1 : Int) : runBody kf58.orc Go.Proofs.Try.prog 400 64 0 sh64_0 shb64_0 shr64_0 ((x0, x1, ()), ()) [true, true, true, false, true, true, false, false, false, true, false, false, false, true] =
    (let r0 : Int × PUnit := g58 ((((List.getD x0 (Int.toNat x1) (((0 : Int), (0 : Int), ()), ((0 : Int), (0 : Int), ()), ())).fst.fst : Int), (((List.getD x0 (Int.toNat x1) (((0 : Int), (0 : Int), ()), ((0 : Int), (0 : Int), ()), ())).fst.snd.fst : Int), ())), ()); let r1 : Bool × PUnit := g47 (((List.getD x0 (Int.toNat x1) (((0 : Int), (0 : Int), ()), ((0 : Int), (0 : Int), ()), ())).snd.fst.fst : Int), ((0 : Int), ((1000000 : Int), ()))); let r2 : Bool × PUnit := g47 (((List.getD x0 (Int.toNat x1) (((0 : Int), (0 : Int), ()), ((0 : Int), (0 : Int), ()), ())).snd.fst.snd.fst : Int), ((0 : Int), ((1000000 : Int), ()))); some (.ret (((9 : Int), ()), ()), [((!leF (List.getD x0 (Int.toNat x1) (((0 : Int), (0 : Int), ()), ((0 : Int), (0 : Int), ()), ())).snd.fst.fst (List.getD x0 (Int.toNat x1) (((0 : Int), (0 : Int), ()), ((0 : Int), (0 : Int), ()), ())).snd.fst.snd.fst : Bool), true), ((!r2.fst : Bool), false), ((!r1.fst : Bool), false), ((!r1.fst : Bool), false), (Option.isSome (f47 (((List.getD x0 (Int.toNat x1) (((0 : Int), (0 : Int), ()), ((0 : Int), (0 : Int), ()), ())).snd.fst.snd.fst : Int), ((0 : Int), ((1000000 : Int), ())))), true), ((!r1.fst : Bool), false), ((!r1.fst : Bool), false), ((!r1.fst : Bool), false), (Option.isSome (f47 (((List.getD x0 (Int.toNat x1) (((0 : Int), (0 : Int), ()), ((0 : Int), (0 : Int), ()), ())).snd.fst.fst : Int), ((0 : Int), ((1000000 : Int), ())))), true), ((decide ((0 : Int) ≤ x1) && decide (x1 < (↑(List.length x0) : Int)) : Bool), true), ((!eqF r0.fst (0 : Int) : Bool), false), (Option.isSome (f58 ((((List.getD x0 (Int.toNat x1) (((0 : Int), (0 : Int), ()), ((0 : Int), (0 : Int), ()), ())).fst.fst : Int), (((List.getD x0 (Int.toNat x1) (((0 : Int), (0 : Int), ()), ((0 : Int), (0 : Int), ()), ())).fst.snd.fst : Int), ())), ())), true), ((decide ((0 : Int) ≤ x1) && decide (x1 < (↑(List.length x0) : Int)) : Bool), true), ((!leF (↑(List.length x0) : Int) x1 : Bool), true)])) := by kernel_rfl
theorem e64_0_4 (x0 : (List ((Int × (Int × Unit)) × ((Int × (Int × Unit)) × Unit)))) (x1 : Int) : runBody kf58.orc Go.Proofs.Try.prog 400 64 0 sh64_0 shb64_0 shr64_0 ((x0, x1, ()), ()) [true, true, true, false, true, true, false, false, false, true, false, false, false, false] =
    (let r0 : Int × PUnit := g58 ((((List.getD x0 (Int.toNat x1) (((0 : Int), (0 : Int), ()), ((0 : Int), (0 : Int), ()), ())).fst.fst : Int), (((List.getD x0 (Int.toNat x1) (((0 : Int), (0 : Int), ()), ((0 : Int), (0 : Int), ()), ())).fst.snd.fst : Int), ())), ()); let r1 : Bool × PUnit := g47 (((List.getD x0 (Int.toNat x1) (((0 : Int), (0 : Int), ()), ((0 : Int), (0 : Int), ()), ())).snd.fst.fst : Int), ((0 : Int), ((1000000 : Int), ()))); let r2 : Bool × PUnit := g47 (((List.getD x0 (Int.toNat x1) (((0 : Int), (0 : Int), ()), ((0 : Int), (0 : Int), ()), ())).snd.fst.snd.fst : Int), ((0 : Int), ((1000000 : Int), ()))); some (.again ((x0, ((wrap64 (x1 + (1 : Int)) : Int), ())), ()), [((!leF (List.getD x0 (Int.toNat x1) (((0 : Int), (0 : Int), ()), ((0 : Int), (0 : Int), ()), ())).snd.fst.fst (List.getD x0 (Int.toNat x1) (((0 : Int), (0 : Int), ()), ((0 : Int), (0 : Int), ()), ())).snd.fst.snd.fst : Bool), false), ((!r2.fst : Bool), false), ((!r1.fst : Bool), false), ((!r1.fst : Bool), false), (Option.isSome (f47 (((List.getD x0 (Int.toNat x1) (((0 : Int), (0 : Int), ()), ((0 : Int), (0 : Int), ()), ())).snd.fst.snd.fst : Int), ((0 : Int), ((1000000 : Int), ())))), true), ((!r1.fst : Bool), false), ((!r1.fst : Bool), false), ((!r1.fst : Bool), false), (Option.isSome (f47 (((List.getD x0 (Int.toNat x1) (((0 : Int), (0 : Int), ()), ((0 : Int), (0 : Int), ()), ())).snd.fst.fst : Int), ((0 : Int), ((1000000 : Int), ())))), true), ((decide ((0 : Int) ≤ x1) && decide (x1 < (↑(List.length x0) : Int)) : Bool), true), ((!eqF r0.fst (0 : Int) : Bool), false), (Option.isSome (f58 ((((List.getD x0 (Int.toNat x1) (((0 : Int), (0 : Int), ()), ((0 : Int), (0 : Int), ()), ())).fst.fst : Int), (((List.getD x0 (Int.toNat x1) (((0 : Int), (0 : Int), ()), ((0 : Int), (0 : Int), ()), ())).fst.snd.fst : Int), ())), ())), true), ((decide ((0 : Int) ≤ x1) && decide (x1 < (↑(List.length x0) : Int)) : Bool), true), ((!leF (↑(List.length x0) : Int) x1 : Bool), true)])) := by kernel_rfl
theorem e64_0_6 (x0 : (List ((Int × (Int × Unit)) × ((Int × (Int × Unit)) × Unit)))) (x1 : Int) : runBody kf58.orc Go.Proofs.Try.prog 400 64 0 sh64_0 shb64_0 shr64_0 ((x0, x1, ()), ()) [false] =
    (some (.brk ((), ()), [((!leF (↑(List.length x0) : Int) x1 : Bool), false)])) := by kernel_rfl

theorem ok64_0_t (x0 : (List ((Int × (Int × Unit)) × ((Int × (Int × Unit)) × Unit)))) (x1 : Int) : TrOk (BodyRuns Go.Proofs.Try.prog kf58.orc 64 0 sh64_0 shb64_0 shr64_0 ((x0, x1, ()), ())) (t64_0 x0 x1) :=
  TrOk.ofTest (fun h0 => TrOk.ofTest (fun h1 => TrOk.ofTest (fun h2 => TrOk.ofTest (fun h3 => TrOk.ofFin (BodyRuns.of (e64_0_0 x0 x1) (All.cons h3 (All.cons h2 (All.cons h1 (All.cons h0 (All.nil))))))) (fun h3 => TrOk.ofTest (fun h5 => TrOk.ofTest (fun h6 => TrOk.ofFin (BodyRuns.of (e64_0_1 x0 x1) (All.cons rfl (All.cons (not_of (of_not (h6))) (All.cons (not_of (of_not (h6))) (All.cons (not_of (of_not (h6))) (All.cons (not_of (of_not (h6))) (All.cons h6 (All.cons h5 (All.cons (h1) (All.cons h3 (All.cons h2 (All.cons h1 (All.cons h0 (All.nil))))))))))))))) (fun h6 => TrOk.ofTest (fun h9 => TrOk.ofTest (fun h12 => TrOk.ofFin (BodyRuns.of (e64_0_2 x0 x1) (All.cons h12 (All.cons (not_of (of_not (h6))) (All.cons (not_of (of_not (h6))) (All.cons h9 (All.cons (not_of (of_not (h6))) (All.cons (not_of (of_not (h6))) (All.cons h6 (All.cons h5 (All.cons (h1) (All.cons h3 (All.cons h2 (All.cons h1 (All.cons h0 (All.nil)))))))))))))))) (fun h12 => TrOk.ofTest (fun h13 => TrOk.ofFin (BodyRuns.of (e64_0_3 x0 x1) (All.cons h13 (All.cons h12 (All.cons (not_of (of_not (h6))) (All.cons (not_of (of_not (h6))) (All.cons h9 (All.cons (not_of (of_not (h6))) (All.cons (not_of (of_not (h6))) (All.cons h6 (All.cons h5 (All.cons (h1) (All.cons h3 (All.cons h2 (All.cons h1 (All.cons h0 (All.nil))))))))))))))))) (fun h13 => TrOk.ofFin (BodyRuns.of (e64_0_4 x0 x1) (All.cons h13 (All.cons h12 (All.cons (not_of (of_not (h6))) (All.cons (not_of (of_not (h6))) (All.cons h9 (All.cons (not_of (of_not (h6))) (All.cons (not_of (of_not (h6))) (All.cons h6 (All.cons h5 (All.cons (h1) (All.cons h3 (All.cons h2 (All.cons h1 (All.cons h0 (All.nil))))))))))))))))))) (fun h9 => TrOk.ofStop))) (fun h5 => TrOk.ofStop))) (fun h2 => TrOk.ofStop)) (fun h1 => TrOk.ofStop)) (fun h0 => TrOk.ofFin (BodyRuns.of (e64_0_6 x0 x1) (All.cons h0 (All.nil))))

theorem ok64_0 : LoopOk Go.Proofs.Try.prog 64 0 lc64_0 := loopOk_of kf58_ok.base (T := fun (d : sh64_0.data) => t64_0 d.1.1 d.1.2.1) (by kernel_rfl) rfl (fun (d : sh64_0.data) => ok64_0_t d.1.1 d.1.2.1) (fun _ => rfl)
def kl64_0 : Known := kf58.loop 64 0 lc64_0
theorem kl64_0_ok : KnownOk Go.Proofs.Try.prog kl64_0 := kf58_ok.loop ok64_0

/-! ductility/ductilityref02.BandErr -/

abbrev as64 : List Ty := [(.slice (.pair (.pair (.int .i64) (.pair (.int .i64) .unit)) (.pair (.pair (.int .i64) (.pair (.int .i64) .unit)) .unit)))]
abbrev rs64 : List Ty := [(.int .i64)]

def t64 (x0 : (List ((Int × (Int × Unit)) × ((Int × (Int × Unit)) × Unit)))) : Tr (Tys.data rs64) :=
  Tr.test ((eqF (↑(List.length x0) : Int) (0 : Int) : Bool))
    (Tr.fin (((10 : Int), ())))
    (Tr.test ((!leF (↑(List.length x0) : Int) (6 : Int) : Bool))
      (Tr.fin (((8 : Int), ())))
      (Tr.test (Option.isSome (l64_0 ((x0, ((0 : Int), ())), ())))
        (Tr.test (isRet (l64_0 ((x0, ((0 : Int), ())), ())))
          (let r0 : (Int × PUnit) × PUnit := r64_0 ((x0, ((0 : Int), ())), ());
          Tr.fin (((r0.fst.fst : Int), ())))
          (Tr.fin (((0 : Int), ()))))
        (Tr.stop)))

def f64 (d : Tys.data as64) : Option (Tys.data rs64) := (t64 d.1).val
def g64 (d : Tys.data as64) : Tys.data rs64 := (f64 d).getD (Tys.dflt rs64)
def p64 : PureC := pcOf as64 rs64 f64 g64

theorem e64_0 (x0 : (List ((Int × (Int × Unit)) × ((Int × (Int × Unit)) × Unit)))) : runPure kl64_0.orc Go.Proofs.Try.prog 400 64 as64 rs64 (x0, ()) [true] =
    (some (((10 : Int), ()), [((eqF (↑(List.length x0) : Int) (0 : Int) : Bool), true)])) := by kernel_rfl
theorem e64_1 (x0 : (List ((Int × (Int × Unit)) × ((Int × (Int × Unit)) × Unit)))) : runPure kl64_0.orc Go.Proofs.Try.prog 400 64 as64 rs64 (x0, ()) [false, true] =
    (some (((8 : Int), ()), [((!leF (↑(List.length x0) : Int) (6 : Int) : Bool), true), ((eqF (↑(List.length x0) : Int) (0 : Int) : Bool), false)])) := by kernel_rfl
theorem e64_2 (x0 : (List ((Int × (Int × Unit)) × ((Int × (Int × Unit)) × Unit)))) : runPure kl64_0.orc Go.Proofs.Try.prog 400 64 as64 rs64 (x0, ()) [false, false, true, true] =
    (let r0 : (Int × PUnit) × PUnit := r64_0 ((x0, ((0 : Int), ())), ()); some (((r0.fst.fst : Int), ()), [(isRet (l64_0 ((x0, ((0 : Int), ())), ())), true), (Option.isSome (l64_0 ((x0, ((0 : Int), ())), ())), true), ((!leF (↑(List.length x0) : Int) (6 : Int) : Bool), false), ((eqF (↑(List.length x0) : Int) (0 : Int) : Bool), false)])) := by kernel_rfl
theorem e64_3 (x0 : (List ((Int × (Int × Unit)) × ((Int × (Int × Unit)) × Unit)))) : runPure kl64_0.orc Go.Proofs.Try.prog 400 64 as64 rs64 (x0, ()) [false, false, true, false] =
    (some (((0 : Int), ()), [(isRet (l64_0 ((x0, ((0 : Int), ())), ())), false), (Option.isSome (l64_0 ((x0, ((0 : Int), ())), ())), true), ((!leF (↑(List.length x0) : Int) (6 : Int) : Bool), false), ((eqF (↑(List.length x0) : Int) (0 : Int) : Bool), false)])) := by kernel_rfl

theorem ok64_t (x0 : (List ((Int × (Int × Unit)) × ((Int × (Int × Unit)) × Unit)))) : TrOk (PureRuns Go.Proofs.Try.prog kl64_0.orc 64 as64 rs64 (x0, ())) (t64 x0) :=
  TrOk.ofTest (fun h0 => TrOk.ofFin (PureRuns.of (e64_0 x0) (All.cons h0 (All.nil)))) (fun h0 => TrOk.ofTest (fun h1 => TrOk.ofFin (PureRuns.of (e64_1 x0) (All.cons h1 (All.cons h0 (All.nil))))) (fun h1 => TrOk.ofTest (fun h2 => TrOk.ofTest (fun h3 => TrOk.ofFin (PureRuns.of (e64_2 x0) (All.cons h3 (All.cons h2 (All.cons h1 (All.cons h0 (All.nil))))))) (fun h3 => TrOk.ofFin (PureRuns.of (e64_3 x0) (All.cons h3 (All.cons h2 (All.cons h1 (All.cons h0 (All.nil)))))))) (fun h2 => TrOk.ofStop)))

theorem ok64 : PureOk Go.Proofs.Try.prog 64 p64 := pureOk_of kl64_0_ok.base (T := fun (d : Tys.data as64) => t64 d.1) (by kernel_rfl) (fun (d : Tys.data as64) => ok64_t d.1)
def kf64 : Known := kl64_0.func 64 p64
theorem kf64_ok : KnownOk Go.Proofs.Try.prog kf64 := kl64_0_ok.func ok64

/-! ductility/ductilitybase.Floor -/

abbrev as160 : List Ty := [(.int .i64), (.int .i64)]
abbrev rs160 : List Ty := [(.int .i64)]

def t160 (x0 : Int) (x1 : Int) : Tr (Tys.data rs160) :=
  Tr.test ((x1 == (0 : Int) : Bool))
    (Tr.stop /- none [op 2 of region 1 of F160] -/)
    (Tr.test ((!leF (0 : Int) (Int.tmod x0 x1) : Bool))
      (Tr.fin (((wrap64 (Go.IntKind.wrap Go.IntKind.i64 (Int.tdiv x0 x1) - (1 : Int)) : Int), ())))
      (Tr.fin (((Go.IntKind.wrap Go.IntKind.i64 (Int.tdiv x0 x1) : Int), ()))))

def f160 (d : Tys.data as160) : Option (Tys.data rs160) := (t160 d.1 d.2.1).val
def g160 (d : Tys.data as160) : Tys.data rs160 := (f160 d).getD (Tys.dflt rs160)
def p160 : PureC := pcOf as160 rs160 f160 g160

theorem e160_1 (x0 : Int) (x1 : Int) : runPure kf64.orc Go.Proofs.Try.prog 400 160 as160 rs160 (x0, x1, ()) [false, false, true] =
    (some (((wrap64 (Go.IntKind.wrap Go.IntKind.i64 (Int.tdiv x0 x1) - (1 : Int)) : Int), ()), [((!leF (0 : Int) (Int.tmod x0 x1) : Bool), true), ((x1 == (0 : Int) : Bool), false), ((x1 == (0 : Int) : Bool), false)])) := by kernel_rfl
theorem e160_2 (x0 : Int) (x1 : Int) : runPure kf64.orc Go.Proofs.Try.prog 400 160 as160 rs160 (x0, x1, ()) [false, false, false] =
    (some (((Go.IntKind.wrap Go.IntKind.i64 (Int.tdiv x0 x1) : Int), ()), [((!leF (0 : Int) (Int.tmod x0 x1) : Bool), false), ((x1 == (0 : Int) : Bool), false), ((x1 == (0 : Int) : Bool), false)])) := by kernel_rfl

theorem ok160_t (x0 : Int) (x1 : Int) : TrOk (PureRuns Go.Proofs.Try.prog kf64.orc 160 as160 rs160 (x0, x1, ())) (t160 x0 x1) :=
  TrOk.ofTest (fun h0 => TrOk.ofStop) (fun h0 => TrOk.ofTest (fun h2 => TrOk.ofFin (PureRuns.of (e160_1 x0 x1) (All.cons h2 (All.cons (h0) (All.cons h0 (All.nil)))))) (fun h2 => TrOk.ofFin (PureRuns.of (e160_2 x0 x1) (All.cons h2 (All.cons (h0) (All.cons h0 (All.nil)))))))

theorem ok160 : PureOk Go.Proofs.Try.prog 160 p160 := pureOk_of kf64_ok.base (T := fun (d : Tys.data as160) => t160 d.1 d.2.1) (by kernel_rfl) (fun (d : Tys.data as160) => ok160_t d.1 d.2.1)
def kf160 : Known := kf64.func 160 p160
theorem kf160_ok : KnownOk Go.Proofs.Try.prog kf160 := kf64_ok.func ok160

/-! ductility/ductilityref02.toZero -/

abbrev as123 : List Ty := [(.int .i64), (.int .i64)]
abbrev rs123 : List Ty := [(.int .i64)]

def t123 (x0 : Int) (x1 : Int) : Tr (Tys.data rs123) :=
  Tr.test ((!leF (0 : Int) x0 : Bool))
    (Tr.test (Option.isSome (f160 ((Go.IntKind.wrap Go.IntKind.i64 ((0 : Int) - x0) : Int), (x1, ()))))
      (let r0 : Int × PUnit := g160 ((Go.IntKind.wrap Go.IntKind.i64 ((0 : Int) - x0) : Int), (x1, ()));
      Tr.fin (((Go.IntKind.wrap Go.IntKind.i64 ((0 : Int) - r0.fst) : Int), ())))
      (Tr.stop))
    (Tr.test (Option.isSome (f160 (x0, (x1, ()))))
      (let r1 : Int × PUnit := g160 (x0, (x1, ()));
      Tr.fin (((r1.fst : Int), ())))
      (Tr.stop))

def f123 (d : Tys.data as123) : Option (Tys.data rs123) := (t123 d.1 d.2.1).val
def g123 (d : Tys.data as123) : Tys.data rs123 := (f123 d).getD (Tys.dflt rs123)
def p123 : PureC := pcOf as123 rs123 f123 g123

theorem e123_0 (x0 : Int) (x1 : Int) : runPure kf160.orc Go.Proofs.Try.prog 400 123 as123 rs123 (x0, x1, ()) [true, true] =
    (let r0 : Int × PUnit := g160 ((Go.IntKind.wrap Go.IntKind.i64 ((0 : Int) - x0) : Int), (x1, ())); some (((Go.IntKind.wrap Go.IntKind.i64 ((0 : Int) - r0.fst) : Int), ()), [(Option.isSome (f160 ((Go.IntKind.wrap Go.IntKind.i64 ((0 : Int) - x0) : Int), (x1, ()))), true), ((!leF (0 : Int) x0 : Bool), true)])) := by kernel_rfl
theorem e123_1 (x0 : Int) (x1 : Int) : runPure kf160.orc Go.Proofs.Try.prog 400 123 as123 rs123 (x0, x1, ()) [false, true] =
    (let r1 : Int × PUnit := g160 (x0, (x1, ())); some (((r1.fst : Int), ()), [(Option.isSome (f160 (x0, (x1, ()))), true), ((!leF (0 : Int) x0 : Bool), false)])) := by kernel_rfl

theorem ok123_t (x0 : Int) (x1 : Int) : TrOk (PureRuns Go.Proofs.Try.prog kf160.orc 123 as123 rs123 (x0, x1, ())) (t123 x0 x1) :=
  TrOk.ofTest (fun h0 => TrOk.ofTest (fun h1 => TrOk.ofFin (PureRuns.of (e123_0 x0 x1) (All.cons h1 (All.cons h0 (All.nil))))) (fun h1 => TrOk.ofStop)) (fun h0 => TrOk.ofTest (fun h1 => TrOk.ofFin (PureRuns.of (e123_1 x0 x1) (All.cons h1 (All.cons h0 (All.nil))))) (fun h1 => TrOk.ofStop))

theorem ok123 : PureOk Go.Proofs.Try.prog 123 p123 := pureOk_of kf160_ok.base (T := fun (d : Tys.data as123) => t123 d.1 d.2.1) (by kernel_rfl) (fun (d : Tys.data as123) => ok123_t d.1 d.2.1)
def kf123 : Known := kf160.func 123 p123
theorem kf123_ok : KnownOk Go.Proofs.Try.prog kf123 := kf160_ok.func ok123

/-! loop 0 of ductility/ductilityref02.Response -/

abbrev sh60_0 : Sh := { n := 47, slots := [0, 3, 5, 6, 7, 8], pats := [.ty (.slice (.int .i64)), .ptr 0 2 0, .acc (.int .i64), .ty (.int .i64), .ty (.int .i64), .ty (.int .i64)], boxes := [.row [.ty (.int .i64), .ty (.int .i64)]] }
abbrev shb60_0 : Sh := { n := 47, slots := [5], pats := [.acc (.int .i64)], boxes := [.row [.ty (.int .i64), .ty (.int .i64)]] }
abbrev shr60_0 : Sh := { n := 47, slots := [], pats := [], boxes := [.row [.ty (.int .i64), .ty (.int .i64)]] }

def t60_0 (x0 : (List Int)) (x2 : (List Int)) (x3 : Int) (x4 : Int) (x5 : Int) (b0_0 : Int) (b0_1 : Int) : Tr (Out sh60_0.data shb60_0.data shr60_0.data) :=
  Tr.test ((!leF (↑(List.length x0) : Int) x5 : Bool))
    (Tr.test (Option.isSome (f123 ((wrap64 (wrap64 (b0_0 * x3) + wrap64 (b0_1 * wrap64 (x3 - x4))) : Int), ((1000 : Int), ()))))
      (Tr.test ((decide ((0 : Int) ≤ x5) && decide (x5 < (↑(List.length x0) : Int)) : Bool))
        (Tr.test ((Nat.ble (((2 : Nat) * (List.length x2 + (1 : Nat)) + (192 : Nat)) * (8 : Nat)) (281474976710656 : Nat) && Nat.ble (List.length x2 + (1 : Nat)) (281474976710656 : Nat) : Bool))
          (let r0 : Int × PUnit := g123 ((wrap64 (wrap64 (b0_0 * x3) + wrap64 (b0_1 * wrap64 (x3 - x4))) : Int), ((1000 : Int), ()));
          Tr.fin (.again ((x0, ((x2 ++ [wrap64 (wrap64 (wrap64 (wrap64 ((2 : Int) * x3) - x4) - r0.fst) - List.getD x0 (Int.toNat x5) (0 : Int))] : List Int), ((wrap64 (wrap64 (wrap64 (wrap64 ((2 : Int) * x3) - x4) - r0.fst) - List.getD x0 (Int.toNat x5) (0 : Int)) : Int), (x3, ((wrap64 (x5 + (1 : Int)) : Int), ()))))), ((b0_0, (b0_1, ())), ()))))
          (Tr.stop /- none [op 3 of region 8 of F60] -/))
        (Tr.stop /- none [op 8 of region 7 of F60] -/))
      (Tr.stop))
    (Tr.fin (.brk ((x2, ()), ((b0_0, (b0_1, ())), ()))))

def s60_0 (d : sh60_0.data) : Option (Out sh60_0.data shb60_0.data shr60_0.data) := (t60_0 d.1.1 d.1.2.1 d.1.2.2.1 d.1.2.2.2.1 d.1.2.2.2.2.1 d.2.1.1 d.2.1.2.1).val
def l60_0 (d : sh60_0.data) : Option (shb60_0.data ⊕ shr60_0.data) := itr s60_0 rounds d
def b60_0 (d : sh60_0.data) : shb60_0.data := outB shb60_0.dflt (l60_0 d)
def r60_0 (d : sh60_0.data) : shr60_0.data := outR shr60_0.dflt (l60_0 d)
def lc60_0 : LoopC := lcB sh60_0 shb60_0 shr60_0 l60_0 b60_0

theorem e60_0_0 (x0 : (List Int)) (x2 : (List Int)) (x3 : Int) (x4 : Int) (x5 : Int) (b0_0 : Int) (b0_1 : Int) : runBody kf123.orc Go.Proofs.Try.prog 400 60 0 sh60_0 shb60_0 shr60_0 ((x0, x2, x3, x4, x5, ()), (b0_0, b0_1, ()), ()) [true, true, true, false, true, true] =
    (let r0 : Int × PUnit := g123 ((wrap64 (wrap64 (b0_0 * x3) + wrap64 (b0_1 * wrap64 (x3 - x4))) : Int), ((1000 : Int), ())); some (.again ((x0, ((x2 ++ [wrap64 (wrap64 (wrap64 (wrap64 ((2 : Int) * x3) - x4) - r0.fst) - List.getD x0 (Int.toNat x5) (0 : Int))] : List Int), ((wrap64 (wrap64 (wrap64 (wrap64 ((2 : Int) * x3) - x4) - r0.fst) - List.getD x0 (Int.toNat x5) (0 : Int)) : Int), (x3, ((wrap64 (x5 + (1 : Int)) : Int), ()))))), ((b0_0, (b0_1, ())), ())), [((true : Bool), true), ((Nat.ble (((2 : Nat) * (List.length x2 + (1 : Nat)) + (192 : Nat)) * (8 : Nat)) (281474976710656 : Nat) && Nat.ble (List.length x2 + (1 : Nat)) (281474976710656 : Nat) : Bool), true), ((false : Bool), false), ((decide ((0 : Int) ≤ x5) && decide (x5 < (↑(List.length x0) : Int)) : Bool), true), (Option.isSome (f123 ((wrap64 (wrap64 (b0_0 * x3) + wrap64 (b0_1 * wrap64 (x3 - x4))) : Int), ((1000 : Int), ()))), true), ((!leF (↑(List.length x0) : Int) x5 : Bool), true)])) := by kernel_rfl
theorem e60_0_3 (x0 : (List Int)) (x2 : (List Int)) (x3 : Int) (x4 : Int) (x5 : Int) (b0_0 : Int) (b0_1 : Int) : runBody kf123.orc Go.Proofs.Try.prog 400 60 0 sh60_0 shb60_0 shr60_0 ((x0, x2, x3, x4, x5, ()), (b0_0, b0_1, ()), ()) [false] =
    (some (.brk ((x2, ()), ((b0_0, (b0_1, ())), ())), [((!leF (↑(List.length x0) : Int) x5 : Bool), false)])) := by kernel_rfl

theorem ok60_0_t (x0 : (List Int)) (x2 : (List Int)) (x3 : Int) (x4 : Int) (x5 : Int) (b0_0 : Int) (b0_1 : Int) : TrOk (BodyRuns Go.Proofs.Try.prog kf123.orc 60 0 sh60_0 shb60_0 shr60_0 ((x0, x2, x3, x4, x5, ()), (b0_0, b0_1, ()), ())) (t60_0 x0 x2 x3 x4 x5 b0_0 b0_1) :=
  TrOk.ofTest (fun h0 => TrOk.ofTest (fun h1 => TrOk.ofTest (fun h2 => TrOk.ofTest (fun h4 => TrOk.ofFin (BodyRuns.of (e60_0_0 x0 x2 x3 x4 x5 b0_0 b0_1) (All.cons rfl (All.cons h4 (All.cons rfl (All.cons h2 (All.cons h1 (All.cons h0 (All.nil))))))))) (fun h4 => TrOk.ofStop)) (fun h2 => TrOk.ofStop)) (fun h1 => TrOk.ofStop)) (fun h0 => TrOk.ofFin (BodyRuns.of (e60_0_3 x0 x2 x3 x4 x5 b0_0 b0_1) (All.cons h0 (All.nil))))

theorem ok60_0 : LoopOk Go.Proofs.Try.prog 60 0 lc60_0 := loopOk_ofB kf123_ok.base (T := fun (d : sh60_0.data) => t60_0 d.1.1 d.1.2.1 d.1.2.2.1 d.1.2.2.2.1 d.1.2.2.2.2.1 d.2.1.1 d.2.1.2.1) (by kernel_rfl) rfl (fun (d : sh60_0.data) => ok60_0_t d.1.1 d.1.2.1 d.1.2.2.1 d.1.2.2.2.1 d.1.2.2.2.2.1 d.2.1.1 d.2.1.2.1) (fun _ => rfl)
def kl60_0 : Known := kf123.loop 60 0 lc60_0
theorem kl60_0_ok : KnownOk Go.Proofs.Try.prog kl60_0 := kf123_ok.loop ok60_0

/-! ductility/ductilityref02.Response -/

abbrev as60 : List Ty := [(.slice (.int .i64)), (.pair (.int .i64) (.pair (.int .i64) .unit))]
abbrev rs60 : List Ty := [(.slice (.int .i64))]

def t60 (x0 : (List Int)) (x1 : Int) (x1' : Int) : Tr (Tys.data rs60) :=
  Tr.test (isBrk (l60_0 ((x0, (([] : List Int), ((0 : Int), ((0 : Int), ((0 : Int), ()))))), ((x1, (x1', ())), ()))))
    (let r0 : (List Int × PUnit) × (Int × Int × PUnit) × PUnit := b60_0 ((x0, (([] : List Int), ((0 : Int), ((0 : Int), ((0 : Int), ()))))), ((x1, (x1', ())), ()));
    Tr.fin (((r0.fst.fst : List Int), ())))
    (Tr.stop)

def f60 (d : Tys.data as60) : Option (Tys.data rs60) := (t60 d.1 d.2.1.1 d.2.1.2.1).val
def g60 (d : Tys.data as60) : Tys.data rs60 := (f60 d).getD (Tys.dflt rs60)
def p60 : PureC := pcOf as60 rs60 f60 g60

theorem e60_0 (x0 : (List Int)) (x1 : Int) (x1' : Int) : runPure kl60_0.orc Go.Proofs.Try.prog 400 60 as60 rs60 (x0, (x1, x1', ()), ()) [true, true] =
    (let r0 : (List Int × PUnit) × (Int × Int × PUnit) × PUnit := b60_0 ((x0, (([] : List Int), ((0 : Int), ((0 : Int), ((0 : Int), ()))))), ((x1, (x1', ())), ())); some (((r0.fst.fst : List Int), ()), [((true : Bool), true), (isBrk (l60_0 ((x0, (([] : List Int), ((0 : Int), ((0 : Int), ((0 : Int), ()))))), ((x1, (x1', ())), ()))), true)])) := by kernel_rfl

theorem ok60_t (x0 : (List Int)) (x1 : Int) (x1' : Int) : TrOk (PureRuns Go.Proofs.Try.prog kl60_0.orc 60 as60 rs60 (x0, (x1, x1', ()), ())) (t60 x0 x1 x1') :=
  TrOk.ofTest (fun h0 => TrOk.ofFin (PureRuns.of (e60_0 x0 x1 x1') (All.cons rfl (All.cons h0 (All.nil))))) (fun h0 => TrOk.ofStop)

theorem ok60 : PureOk Go.Proofs.Try.prog 60 p60 := pureOk_of kl60_0_ok.base (T := fun (d : Tys.data as60) => t60 d.1 d.2.1.1 d.2.1.2.1) (by kernel_rfl) (fun (d : Tys.data as60) => ok60_t d.1 d.2.1.1 d.2.1.2.1)
def kf60 : Known := kl60_0.func 60 p60
theorem kf60_ok : KnownOk Go.Proofs.Try.prog kf60 := kl60_0_ok.func ok60

/-! ductility/ductilitybase.Size -/

abbrev as131 : List Ty := [(.int .i64)]
abbrev rs131 : List Ty := [(.int .i64)]

def t131 (x0 : Int) : Tr (Tys.data rs131) :=
  Tr.fin (((if x0 < Go.IntKind.wrap Go.IntKind.i64 ((0 : Int) - x0) then Go.IntKind.wrap Go.IntKind.i64 ((0 : Int) - x0) else x0 : Int), ()))

def f131 (d : Tys.data as131) : Option (Tys.data rs131) := (t131 d.1).val
def g131 (d : Tys.data as131) : Tys.data rs131 := (f131 d).getD (Tys.dflt rs131)
def p131 : PureC := pcOf as131 rs131 f131 g131

theorem e131_0 (x0 : Int) : runPure kf60.orc Go.Proofs.Try.prog 400 131 as131 rs131 (x0, ()) [] =
    (some (((if x0 < Go.IntKind.wrap Go.IntKind.i64 ((0 : Int) - x0) then Go.IntKind.wrap Go.IntKind.i64 ((0 : Int) - x0) else x0 : Int), ()), [])) := by kernel_rfl

theorem ok131_t (x0 : Int) : TrOk (PureRuns Go.Proofs.Try.prog kf60.orc 131 as131 rs131 (x0, ())) (t131 x0) :=
  TrOk.ofFin (PureRuns.of (e131_0 x0) (All.nil))

theorem ok131 : PureOk Go.Proofs.Try.prog 131 p131 := pureOk_of kf60_ok.base (T := fun (d : Tys.data as131) => t131 d.1) (by kernel_rfl) (fun (d : Tys.data as131) => ok131_t d.1)
def kf131 : Known := kf60.func 131 p131
theorem kf131_ok : KnownOk Go.Proofs.Try.prog kf131 := kf60_ok.func ok131

/-! loop 0 of ductility/ductilityref02.Greatest -/

abbrev sh96_0 : Sh := { n := 19, slots := [0, 3, 4], pats := [.ty (.slice (.int .i64)), .ty (.int .i64), .ty (.int .i64)], boxes := [] }
abbrev shb96_0 : Sh := { n := 19, slots := [3], pats := [.ty (.int .i64)], boxes := [] }
abbrev shr96_0 : Sh := { n := 19, slots := [], pats := [], boxes := [] }

def t96_0 (x0 : (List Int)) (x1 : Int) (x2 : Int) : Tr (Out sh96_0.data shb96_0.data shr96_0.data) :=
  Tr.test ((!leF (↑(List.length x0) : Int) x2 : Bool))
    (Tr.test ((decide ((0 : Int) ≤ x2) && decide (x2 < (↑(List.length x0) : Int)) : Bool))
      (Tr.test (Option.isSome (f131 ((List.getD x0 (Int.toNat x2) (0 : Int) : Int), ())))
        (let r0 : Int × PUnit := g131 ((List.getD x0 (Int.toNat x2) (0 : Int) : Int), ());
        Tr.fin (.again ((x0, ((if x1 < r0.fst then r0.fst else x1 : Int), ((wrap64 (x2 + (1 : Int)) : Int), ()))), ())))
        (Tr.stop))
      (Tr.stop /- none [op 3 of region 5 of F96] -/))
    (Tr.fin (.brk ((x1, ()), ())))

def s96_0 (d : sh96_0.data) : Option (Out sh96_0.data shb96_0.data shr96_0.data) := (t96_0 d.1.1 d.1.2.1 d.1.2.2.1).val
def l96_0 (d : sh96_0.data) : Option (shb96_0.data ⊕ shr96_0.data) := itr s96_0 rounds d
def b96_0 (d : sh96_0.data) : shb96_0.data := outB shb96_0.dflt (l96_0 d)
def r96_0 (d : sh96_0.data) : shr96_0.data := outR shr96_0.dflt (l96_0 d)
def lc96_0 : LoopC := lcB sh96_0 shb96_0 shr96_0 l96_0 b96_0

theorem e96_0_0 (x0 : (List Int)) (x1 : Int) (x2 : Int) : runBody kf131.orc Go.Proofs.Try.prog 400 96 0 sh96_0 shb96_0 shr96_0 ((x0, x1, x2, ()), ()) [true, true, true] =
    (let r0 : Int × PUnit := g131 ((List.getD x0 (Int.toNat x2) (0 : Int) : Int), ()); some (.again ((x0, ((if x1 < r0.fst then r0.fst else x1 : Int), ((wrap64 (x2 + (1 : Int)) : Int), ()))), ()), [(Option.isSome (f131 ((List.getD x0 (Int.toNat x2) (0 : Int) : Int), ())), true), ((decide ((0 : Int) ≤ x2) && decide (x2 < (↑(List.length x0) : Int)) : Bool), true), ((!leF (↑(List.length x0) : Int) x2 : Bool), true)])) := by kernel_rfl
theorem e96_0_2 (x0 : (List Int)) (x1 : Int) (x2 : Int) : runBody kf131.orc Go.Proofs.Try.prog 400 96 0 sh96_0 shb96_0 shr96_0 ((x0, x1, x2, ()), ()) [false] =
    (some (.brk ((x1, ()), ()), [((!leF (↑(List.length x0) : Int) x2 : Bool), false)])) := by kernel_rfl

theorem ok96_0_t (x0 : (List Int)) (x1 : Int) (x2 : Int) : TrOk (BodyRuns Go.Proofs.Try.prog kf131.orc 96 0 sh96_0 shb96_0 shr96_0 ((x0, x1, x2, ()), ())) (t96_0 x0 x1 x2) :=
  TrOk.ofTest (fun h0 => TrOk.ofTest (fun h1 => TrOk.ofTest (fun h2 => TrOk.ofFin (BodyRuns.of (e96_0_0 x0 x1 x2) (All.cons h2 (All.cons h1 (All.cons h0 (All.nil)))))) (fun h2 => TrOk.ofStop)) (fun h1 => TrOk.ofStop)) (fun h0 => TrOk.ofFin (BodyRuns.of (e96_0_2 x0 x1 x2) (All.cons h0 (All.nil))))

theorem ok96_0 : LoopOk Go.Proofs.Try.prog 96 0 lc96_0 := loopOk_ofB kf131_ok.base (T := fun (d : sh96_0.data) => t96_0 d.1.1 d.1.2.1 d.1.2.2.1) (by kernel_rfl) rfl (fun (d : sh96_0.data) => ok96_0_t d.1.1 d.1.2.1 d.1.2.2.1) (fun _ => rfl)
def kl96_0 : Known := kf131.loop 96 0 lc96_0
theorem kl96_0_ok : KnownOk Go.Proofs.Try.prog kl96_0 := kf131_ok.loop ok96_0

/-! ductility/ductilityref02.Greatest -/

abbrev as96 : List Ty := [(.slice (.int .i64))]
abbrev rs96 : List Ty := [(.int .i64)]

def t96 (x0 : (List Int)) : Tr (Tys.data rs96) :=
  Tr.test (isBrk (l96_0 ((x0, ((0 : Int), ((0 : Int), ()))), ())))
    (let r0 : (Int × PUnit) × PUnit := b96_0 ((x0, ((0 : Int), ((0 : Int), ()))), ());
    Tr.fin (((r0.fst.fst : Int), ())))
    (Tr.stop)

def f96 (d : Tys.data as96) : Option (Tys.data rs96) := (t96 d.1).val
def g96 (d : Tys.data as96) : Tys.data rs96 := (f96 d).getD (Tys.dflt rs96)
def p96 : PureC := pcOf as96 rs96 f96 g96

theorem e96_0 (x0 : (List Int)) : runPure kl96_0.orc Go.Proofs.Try.prog 400 96 as96 rs96 (x0, ()) [true, true] =
    (let r0 : (Int × PUnit) × PUnit := b96_0 ((x0, ((0 : Int), ((0 : Int), ()))), ()); some (((r0.fst.fst : Int), ()), [((true : Bool), true), (isBrk (l96_0 ((x0, ((0 : Int), ((0 : Int), ()))), ())), true)])) := by kernel_rfl

theorem ok96_t (x0 : (List Int)) : TrOk (PureRuns Go.Proofs.Try.prog kl96_0.orc 96 as96 rs96 (x0, ())) (t96 x0) :=
  TrOk.ofTest (fun h0 => TrOk.ofFin (PureRuns.of (e96_0 x0) (All.cons rfl (All.cons h0 (All.nil))))) (fun h0 => TrOk.ofStop)

theorem ok96 : PureOk Go.Proofs.Try.prog 96 p96 := pureOk_of kl96_0_ok.base (T := fun (d : Tys.data as96) => t96 d.1) (by kernel_rfl) (fun (d : Tys.data as96) => ok96_t d.1)
def kf96 : Known := kl96_0.func 96 p96
theorem kf96_ok : KnownOk Go.Proofs.Try.prog kf96 := kl96_0_ok.func ok96

/-! loop 0 of ductility/ductilityref02.Outside -/

abbrev sh65_0 : Sh := { n := 42, slots := [0, 1, 5, 6], pats := [.ty (.slice (.int .i64)), .ty (.slice (.pair (.pair (.int .i64) (.pair (.int .i64) .unit)) (.pair (.pair (.int .i64) (.pair (.int .i64) .unit)) .unit))), .acc (.int .i64), .ty (.int .i64)], boxes := [] }
abbrev shb65_0 : Sh := { n := 42, slots := [5], pats := [.acc (.int .i64)], boxes := [] }
abbrev shr65_0 : Sh := { n := 42, slots := [], pats := [], boxes := [] }

def t65_0 (x0 : (List Int)) (x1 : (List ((Int × (Int × Unit)) × ((Int × (Int × Unit)) × Unit)))) (x2 : (List Int)) (x3 : Int) : Tr (Out sh65_0.data shb65_0.data shr65_0.data) :=
  Tr.test ((!leF (↑(List.length x1) : Int) x3 : Bool))
    (Tr.test ((decide ((0 : Int) ≤ x3) && decide (x3 < (↑(List.length x1) : Int)) : Bool))
      (Tr.test (Option.isSome (f60 (x0, ((((List.getD x1 (Int.toNat x3) (((0 : Int), (0 : Int), ()), ((0 : Int), (0 : Int), ()), ())).fst.fst : Int), (((List.getD x1 (Int.toNat x3) (((0 : Int), (0 : Int), ()), ((0 : Int), (0 : Int), ()), ())).fst.snd.fst : Int), ())), ()))))
        (let r0 : List Int × PUnit := g60 (x0, ((((List.getD x1 (Int.toNat x3) (((0 : Int), (0 : Int), ()), ((0 : Int), (0 : Int), ()), ())).fst.fst : Int), (((List.getD x1 (Int.toNat x3) (((0 : Int), (0 : Int), ()), ((0 : Int), (0 : Int), ()), ())).fst.snd.fst : Int), ())), ()));
        Tr.test (Option.isSome (f96 ((r0.fst : List Int), ())))
          (let r1 : Int × PUnit := g96 ((r0.fst : List Int), ());
          Tr.test (Option.isSome (f47 ((r1.fst : Int), (((List.getD x1 (Int.toNat x3) (((0 : Int), (0 : Int), ()), ((0 : Int), (0 : Int), ()), ())).snd.fst.fst : Int), (((List.getD x1 (Int.toNat x3) (((0 : Int), (0 : Int), ()), ((0 : Int), (0 : Int), ()), ())).snd.fst.snd.fst : Int), ())))))
            (let r2 : Bool × PUnit := g47 ((r1.fst : Int), (((List.getD x1 (Int.toNat x3) (((0 : Int), (0 : Int), ()), ((0 : Int), (0 : Int), ()), ())).snd.fst.fst : Int), (((List.getD x1 (Int.toNat x3) (((0 : Int), (0 : Int), ()), ((0 : Int), (0 : Int), ()), ())).snd.fst.snd.fst : Int), ())));
            Tr.test ((!r2.fst : Bool))
              (Tr.test ((Nat.ble (((2 : Nat) * (List.length x2 + (1 : Nat)) + (192 : Nat)) * (8 : Nat)) (281474976710656 : Nat) && Nat.ble (List.length x2 + (1 : Nat)) (281474976710656 : Nat) : Bool))
                (Tr.fin (.again ((x0, (x1, ((x2 ++ [x3] : List Int), ((wrap64 (x3 + (1 : Int)) : Int), ())))), ())))
                (Tr.stop /- none [op 3 of region 7 of F65] -/))
              (Tr.fin (.again ((x0, (x1, (x2, ((wrap64 (x3 + (1 : Int)) : Int), ())))), ()))))
            (Tr.stop))
          (Tr.stop))
        (Tr.stop))
      (Tr.stop /- none [op 3 of region 5 of F65] -/))
    (Tr.fin (.brk ((x2, ()), ())))

def s65_0 (d : sh65_0.data) : Option (Out sh65_0.data shb65_0.data shr65_0.data) := (t65_0 d.1.1 d.1.2.1 d.1.2.2.1 d.1.2.2.2.1).val
def l65_0 (d : sh65_0.data) : Option (shb65_0.data ⊕ shr65_0.data) := itr s65_0 rounds d
def b65_0 (d : sh65_0.data) : shb65_0.data := outB shb65_0.dflt (l65_0 d)
def r65_0 (d : sh65_0.data) : shr65_0.data := outR shr65_0.dflt (l65_0 d)
def lc65_0 : LoopC := lcB sh65_0 shb65_0 shr65_0 l65_0 b65_0

theorem e65_0_0 (x0 : (List Int)) (x1 : (List ((Int × (Int × Unit)) × ((Int × (Int × Unit)) × Unit)))) (x2 : (List Int)) (x3 : Int) : runBody kf96.orc Go.Proofs.Try.prog 400 65 0 sh65_0 shb65_0 shr65_0 ((x0, x1, x2, x3, ()), ()) [true, true, true, true, true, true, true, true, false, true, true] =
    (let r0 : List Int × PUnit := g60 (x0, ((((List.getD x1 (Int.toNat x3) (((0 : Int), (0 : Int), ()), ((0 : Int), (0 : Int), ()), ())).fst.fst : Int), (((List.getD x1 (Int.toNat x3) (((0 : Int), (0 : Int), ()), ((0 : Int), (0 : Int), ()), ())).fst.snd.fst : Int), ())), ())); let r1 : Int × PUnit := g96 ((r0.fst : List Int), ()); let r2 : Bool × PUnit := g47 ((r1.fst : Int), (((List.getD x1 (Int.toNat x3) (((0 : Int), (0 : Int), ()), ((0 : Int), (0 : Int), ()), ())).snd.fst.fst : Int), (((List.getD x1 (Int.toNat x3) (((0 : Int), (0 : Int), ()), ((0 : Int), (0 : Int), ()), ())).snd.fst.snd.fst : Int), ()))); some (.again ((x0, (x1, ((x2 ++ [x3] : List Int), ((wrap64 (x3 + (1 : Int)) : Int), ())))), ()), [((true : Bool), true), ((Nat.ble (((2 : Nat) * (List.length x2 + (1 : Nat)) + (192 : Nat)) * (8 : Nat)) (281474976710656 : Nat) && Nat.ble (List.length x2 + (1 : Nat)) (281474976710656 : Nat) : Bool), true), ((false : Bool), false), ((!r2.fst : Bool), true), (Option.isSome (f47 ((r1.fst : Int), (((List.getD x1 (Int.toNat x3) (((0 : Int), (0 : Int), ()), ((0 : Int), (0 : Int), ()), ())).snd.fst.fst : Int), (((List.getD x1 (Int.toNat x3) (((0 : Int), (0 : Int), ()), ((0 : Int), (0 : Int), ()), ())).snd.fst.snd.fst : Int), ())))), true), ((decide ((0 : Int) ≤ x3) && decide (x3 < (↑(List.length x1) : Int)) : Bool), true), ((decide ((0 : Int) ≤ x3) && decide (x3 < (↑(List.length x1) : Int)) : Bool), true), (Option.isSome (f96 ((r0.fst : List Int), ())), true), (Option.isSome (f60 (x0, ((((List.getD x1 (Int.toNat x3) (((0 : Int), (0 : Int), ()), ((0 : Int), (0 : Int), ()), ())).fst.fst : Int), (((List.getD x1 (Int.toNat x3) (((0 : Int), (0 : Int), ()), ((0 : Int), (0 : Int), ()), ())).fst.snd.fst : Int), ())), ()))), true), ((decide ((0 : Int) ≤ x3) && decide (x3 < (↑(List.length x1) : Int)) : Bool), true), ((!leF (↑(List.length x1) : Int) x3 : Bool), true)])) := by kernel_rfl
theorem e65_0_2 (x0 : (List Int)) (x1 : (List ((Int × (Int × Unit)) × ((Int × (Int × Unit)) × Unit)))) (x2 : (List Int)) (x3 : Int) : runBody kf96.orc Go.Proofs.Try.prog 400 65 0 sh65_0 shb65_0 shr65_0 ((x0, x1, x2, x3, ()), ()) [true, true, true, true, true, true, true, false] =
    (let r0 : List Int × PUnit := g60 (x0, ((((List.getD x1 (Int.toNat x3) (((0 : Int), (0 : Int), ()), ((0 : Int), (0 : Int), ()), ())).fst.fst : Int), (((List.getD x1 (Int.toNat x3) (((0 : Int), (0 : Int), ()), ((0 : Int), (0 : Int), ()), ())).fst.snd.fst : Int), ())), ())); let r1 : Int × PUnit := g96 ((r0.fst : List Int), ()); let r2 : Bool × PUnit := g47 ((r1.fst : Int), (((List.getD x1 (Int.toNat x3) (((0 : Int), (0 : Int), ()), ((0 : Int), (0 : Int), ()), ())).snd.fst.fst : Int), (((List.getD x1 (Int.toNat x3) (((0 : Int), (0 : Int), ()), ((0 : Int), (0 : Int), ()), ())).snd.fst.snd.fst : Int), ()))); some (.again ((x0, (x1, (x2, ((wrap64 (x3 + (1 : Int)) : Int), ())))), ()), [((!r2.fst : Bool), false), (Option.isSome (f47 ((r1.fst : Int), (((List.getD x1 (Int.toNat x3) (((0 : Int), (0 : Int), ()), ((0 : Int), (0 : Int), ()), ())).snd.fst.fst : Int), (((List.getD x1 (Int.toNat x3) (((0 : Int), (0 : Int), ()), ((0 : Int), (0 : Int), ()), ())).snd.fst.snd.fst : Int), ())))), true), ((decide ((0 : Int) ≤ x3) && decide (x3 < (↑(List.length x1) : Int)) : Bool), true), ((decide ((0 : Int) ≤ x3) && decide (x3 < (↑(List.length x1) : Int)) : Bool), true), (Option.isSome (f96 ((r0.fst : List Int), ())), true), (Option.isSome (f60 (x0, ((((List.getD x1 (Int.toNat x3) (((0 : Int), (0 : Int), ()), ((0 : Int), (0 : Int), ()), ())).fst.fst : Int), (((List.getD x1 (Int.toNat x3) (((0 : Int), (0 : Int), ()), ((0 : Int), (0 : Int), ()), ())).fst.snd.fst : Int), ())), ()))), true), ((decide ((0 : Int) ≤ x3) && decide (x3 < (↑(List.length x1) : Int)) : Bool), true), ((!leF (↑(List.length x1) : Int) x3 : Bool), true)])) := by kernel_rfl
theorem e65_0_4 (x0 : (List Int)) (x1 : (List ((Int × (Int × Unit)) × ((Int × (Int × Unit)) × Unit)))) (x2 : (List Int)) (x3 : Int) : runBody kf96.orc Go.Proofs.Try.prog 400 65 0 sh65_0 shb65_0 shr65_0 ((x0, x1, x2, x3, ()), ()) [false] =
    (some (.brk ((x2, ()), ()), [((!leF (↑(List.length x1) : Int) x3 : Bool), false)])) := by kernel_rfl

theorem ok65_0_t (x0 : (List Int)) (x1 : (List ((Int × (Int × Unit)) × ((Int × (Int × Unit)) × Unit)))) (x2 : (List Int)) (x3 : Int) : TrOk (BodyRuns Go.Proofs.Try.prog kf96.orc 65 0 sh65_0 shb65_0 shr65_0 ((x0, x1, x2, x3, ()), ())) (t65_0 x0 x1 x2 x3) :=
  TrOk.ofTest (fun h0 => TrOk.ofTest (fun h1 => TrOk.ofTest (fun h2 => TrOk.ofTest (fun h3 => TrOk.ofTest (fun h6 => TrOk.ofTest (fun h7 => TrOk.ofTest (fun h9 => TrOk.ofFin (BodyRuns.of (e65_0_0 x0 x1 x2 x3) (All.cons rfl (All.cons h9 (All.cons rfl (All.cons h7 (All.cons h6 (All.cons (h1) (All.cons (h1) (All.cons h3 (All.cons h2 (All.cons h1 (All.cons h0 (All.nil)))))))))))))) (fun h9 => TrOk.ofStop)) (fun h7 => TrOk.ofFin (BodyRuns.of (e65_0_2 x0 x1 x2 x3) (All.cons h7 (All.cons h6 (All.cons (h1) (All.cons (h1) (All.cons h3 (All.cons h2 (All.cons h1 (All.cons h0 (All.nil)))))))))))) (fun h6 => TrOk.ofStop)) (fun h3 => TrOk.ofStop)) (fun h2 => TrOk.ofStop)) (fun h1 => TrOk.ofStop)) (fun h0 => TrOk.ofFin (BodyRuns.of (e65_0_4 x0 x1 x2 x3) (All.cons h0 (All.nil))))

theorem ok65_0 : LoopOk Go.Proofs.Try.prog 65 0 lc65_0 := loopOk_ofB kf96_ok.base (T := fun (d : sh65_0.data) => t65_0 d.1.1 d.1.2.1 d.1.2.2.1 d.1.2.2.2.1) (by kernel_rfl) rfl (fun (d : sh65_0.data) => ok65_0_t d.1.1 d.1.2.1 d.1.2.2.1 d.1.2.2.2.1) (fun _ => rfl)
def kl65_0 : Known := kf96.loop 65 0 lc65_0
theorem kl65_0_ok : KnownOk Go.Proofs.Try.prog kl65_0 := kf96_ok.loop ok65_0

/-! ductility/ductilityref02.Outside -/

abbrev as65 : List Ty := [(.slice (.int .i64)), (.slice (.pair (.pair (.int .i64) (.pair (.int .i64) .unit)) (.pair (.pair (.int .i64) (.pair (.int .i64) .unit)) .unit)))]
abbrev rs65 : List Ty := [(.slice (.int .i64))]

def t65 (x0 : (List Int)) (x1 : (List ((Int × (Int × Unit)) × ((Int × (Int × Unit)) × Unit)))) : Tr (Tys.data rs65) :=
  Tr.test (isBrk (l65_0 ((x0, (x1, (([] : List Int), ((0 : Int), ())))), ())))
    (let r0 : (List Int × PUnit) × PUnit := b65_0 ((x0, (x1, (([] : List Int), ((0 : Int), ())))), ());
    Tr.fin (((r0.fst.fst : List Int), ())))
    (Tr.stop)

def f65 (d : Tys.data as65) : Option (Tys.data rs65) := (t65 d.1 d.2.1).val
def g65 (d : Tys.data as65) : Tys.data rs65 := (f65 d).getD (Tys.dflt rs65)
def p65 : PureC := pcOf as65 rs65 f65 g65

theorem e65_0 (x0 : (List Int)) (x1 : (List ((Int × (Int × Unit)) × ((Int × (Int × Unit)) × Unit)))) : runPure kl65_0.orc Go.Proofs.Try.prog 400 65 as65 rs65 (x0, x1, ()) [true, true] =
    (let r0 : (List Int × PUnit) × PUnit := b65_0 ((x0, (x1, (([] : List Int), ((0 : Int), ())))), ()); some (((r0.fst.fst : List Int), ()), [((true : Bool), true), (isBrk (l65_0 ((x0, (x1, (([] : List Int), ((0 : Int), ())))), ())), true)])) := by kernel_rfl

theorem ok65_t (x0 : (List Int)) (x1 : (List ((Int × (Int × Unit)) × ((Int × (Int × Unit)) × Unit)))) : TrOk (PureRuns Go.Proofs.Try.prog kl65_0.orc 65 as65 rs65 (x0, x1, ())) (t65 x0 x1) :=
  TrOk.ofTest (fun h0 => TrOk.ofFin (PureRuns.of (e65_0 x0 x1) (All.cons rfl (All.cons h0 (All.nil))))) (fun h0 => TrOk.ofStop)

theorem ok65 : PureOk Go.Proofs.Try.prog 65 p65 := pureOk_of kl65_0_ok.base (T := fun (d : Tys.data as65) => t65 d.1 d.2.1) (by kernel_rfl) (fun (d : Tys.data as65) => ok65_t d.1 d.2.1)
def kf65 : Known := kl65_0.func 65 p65
theorem kf65_ok : KnownOk Go.Proofs.Try.prog kf65 := kl65_0_ok.func ok65

/-! loop 0 of ductility/ductilitybase.Ints -/

abbrev sh23_0 : Sh := { n := 26, slots := [0, 1, 5], pats := [.ty (.slice (.int .i64)), .ty (.slice (.int .i64)), .ty (.int .i64)], boxes := [] }
abbrev shb23_0 : Sh := { n := 26, slots := [], pats := [], boxes := [] }
abbrev shr23_0 : Sh := { n := 26, slots := [4], pats := [.ty .bool], boxes := [] }

def t23_0 (x0 : (List Int)) (x1 : (List Int)) (x2 : Int) : Tr (Out sh23_0.data shb23_0.data shr23_0.data) :=
  Tr.test ((!leF (↑(List.length x0) : Int) x2 : Bool))
    (Tr.test ((decide ((0 : Int) ≤ x2) && decide (x2 < (↑(List.length x0) : Int)) : Bool))
      (Tr.test ((decide ((0 : Int) ≤ x2) && decide (x2 < (↑(List.length x1) : Int)) : Bool))
        (Tr.test ((!eqF (List.getD x0 (Int.toNat x2) (0 : Int)) (List.getD x1 (Int.toNat x2) (0 : Int)) : Bool))
          (Tr.fin (.ret (((false : Bool), ()), ())))
          (Tr.fin (.again ((x0, (x1, ((wrap64 (x2 + (1 : Int)) : Int), ()))), ()))))
        (Tr.stop /- none [op 6 of region 6 of F23] -/))
      (Tr.stop /- none [op 2 of region 6 of F23] -/))
    (Tr.fin (.brk ((), ())))

def s23_0 (d : sh23_0.data) : Option (Out sh23_0.data shb23_0.data shr23_0.data) := (t23_0 d.1.1 d.1.2.1 d.1.2.2.1).val
def l23_0 (d : sh23_0.data) : Option (shb23_0.data ⊕ shr23_0.data) := itr s23_0 rounds d
def b23_0 (d : sh23_0.data) : shb23_0.data := outB shb23_0.dflt (l23_0 d)
def r23_0 (d : sh23_0.data) : shr23_0.data := outR shr23_0.dflt (l23_0 d)
def lc23_0 : LoopC := lcOf sh23_0 shb23_0 shr23_0 l23_0 b23_0 r23_0

theorem e23_0_0 (x0 : (List Int)) (x1 : (List Int)) (x2 : Int) : runBody kf65.orc Go.Proofs.Try.prog 400 23 0 sh23_0 shb23_0 shr23_0 ((x0, x1, x2, ()), ()) [true, true, true, true] =
    (some (.ret (((false : Bool), ()), ()), [((!eqF (List.getD x0 (Int.toNat x2) (0 : Int)) (List.getD x1 (Int.toNat x2) (0 : Int)) : Bool), true), ((decide ((0 : Int) ≤ x2) && decide (x2 < (↑(List.length x1) : Int)) : Bool), true), ((decide ((0 : Int) ≤ x2) && decide (x2 < (↑(List.length x0) : Int)) : Bool), true), ((!leF (↑(List.length x0) : Int) x2 : Bool), true)])) := by kernel_rfl
theorem e23_0_1 (x0 : (List Int)) (x1 : (List Int)) (x2 : Int) : runBody kf65.orc Go.Proofs.Try.prog 400 23 0 sh23_0 shb23_0 shr23_0 ((x0, x1, x2, ()), ()) [true, true, true, false] =
    (some (.again ((x0, (x1, ((wrap64 (x2 + (1 : Int)) : Int), ()))), ()), [((!eqF (List.getD x0 (Int.toNat x2) (0 : Int)) (List.getD x1 (Int.toNat x2) (0 : Int)) : Bool), false), ((decide ((0 : Int) ≤ x2) && decide (x2 < (↑(List.length x1) : Int)) : Bool), true), ((decide ((0 : Int) ≤ x2) && decide (x2 < (↑(List.length x0) : Int)) : Bool), true), ((!leF (↑(List.length x0) : Int) x2 : Bool), true)])) := by kernel_rfl
theorem e23_0_4 (x0 : (List Int)) (x1 : (List Int)) (x2 : Int) : runBody kf65.orc Go.Proofs.Try.prog 400 23 0 sh23_0 shb23_0 shr23_0 ((x0, x1, x2, ()), ()) [false] =
    (some (.brk ((), ()), [((!leF (↑(List.length x0) : Int) x2 : Bool), false)])) := by kernel_rfl

theorem ok23_0_t (x0 : (List Int)) (x1 : (List Int)) (x2 : Int) : TrOk (BodyRuns Go.Proofs.Try.prog kf65.orc 23 0 sh23_0 shb23_0 shr23_0 ((x0, x1, x2, ()), ())) (t23_0 x0 x1 x2) :=
  TrOk.ofTest (fun h0 => TrOk.ofTest (fun h1 => TrOk.ofTest (fun h2 => TrOk.ofTest (fun h3 => TrOk.ofFin (BodyRuns.of (e23_0_0 x0 x1 x2) (All.cons h3 (All.cons h2 (All.cons h1 (All.cons h0 (All.nil))))))) (fun h3 => TrOk.ofFin (BodyRuns.of (e23_0_1 x0 x1 x2) (All.cons h3 (All.cons h2 (All.cons h1 (All.cons h0 (All.nil)))))))) (fun h2 => TrOk.ofStop)) (fun h1 => TrOk.ofStop)) (fun h0 => TrOk.ofFin (BodyRuns.of (e23_0_4 x0 x1 x2) (All.cons h0 (All.nil))))

theorem ok23_0 : LoopOk Go.Proofs.Try.prog 23 0 lc23_0 := loopOk_of kf65_ok.base (T := fun (d : sh23_0.data) => t23_0 d.1.1 d.1.2.1 d.1.2.2.1) (by kernel_rfl) rfl (fun (d : sh23_0.data) => ok23_0_t d.1.1 d.1.2.1 d.1.2.2.1) (fun _ => rfl)
def kl23_0 : Known := kf65.loop 23 0 lc23_0
theorem kl23_0_ok : KnownOk Go.Proofs.Try.prog kl23_0 := kf65_ok.loop ok23_0

/-! ductility/ductilitybase.Ints -/

abbrev as23 : List Ty := [(.slice (.int .i64)), (.slice (.int .i64))]
abbrev rs23 : List Ty := [.bool]

def t23 (x0 : (List Int)) (x1 : (List Int)) : Tr (Tys.data rs23) :=
  Tr.test ((!eqF (↑(List.length x0) : Int) (↑(List.length x1) : Int) : Bool))
    (Tr.fin (((false : Bool), ())))
    (Tr.test (Option.isSome (l23_0 ((x0, (x1, ((0 : Int), ()))), ())))
      (Tr.test (isRet (l23_0 ((x0, (x1, ((0 : Int), ()))), ())))
        (let r0 : (Bool × PUnit) × PUnit := r23_0 ((x0, (x1, ((0 : Int), ()))), ());
        Tr.fin (((r0.fst.fst : Bool), ())))
        (Tr.fin (((true : Bool), ()))))
      (Tr.stop))

def f23 (d : Tys.data as23) : Option (Tys.data rs23) := (t23 d.1 d.2.1).val
def g23 (d : Tys.data as23) : Tys.data rs23 := (f23 d).getD (Tys.dflt rs23)
def p23 : PureC := pcOf as23 rs23 f23 g23

theorem e23_0 (x0 : (List Int)) (x1 : (List Int)) : runPure kl23_0.orc Go.Proofs.Try.prog 400 23 as23 rs23 (x0, x1, ()) [true] =
    (some (((false : Bool), ()), [((!eqF (↑(List.length x0) : Int) (↑(List.length x1) : Int) : Bool), true)])) := by kernel_rfl
theorem e23_1 (x0 : (List Int)) (x1 : (List Int)) : runPure kl23_0.orc Go.Proofs.Try.prog 400 23 as23 rs23 (x0, x1, ()) [false, true, true] =
    (let r0 : (Bool × PUnit) × PUnit := r23_0 ((x0, (x1, ((0 : Int), ()))), ()); some (((r0.fst.fst : Bool), ()), [(isRet (l23_0 ((x0, (x1, ((0 : Int), ()))), ())), true), (Option.isSome (l23_0 ((x0, (x1, ((0 : Int), ()))), ())), true), ((!eqF (↑(List.length x0) : Int) (↑(List.length x1) : Int) : Bool), false)])) := by kernel_rfl
theorem e23_2 (x0 : (List Int)) (x1 : (List Int)) : runPure kl23_0.orc Go.Proofs.Try.prog 400 23 as23 rs23 (x0, x1, ()) [false, true, false] =
    (some (((true : Bool), ()), [(isRet (l23_0 ((x0, (x1, ((0 : Int), ()))), ())), false), (Option.isSome (l23_0 ((x0, (x1, ((0 : Int), ()))), ())), true), ((!eqF (↑(List.length x0) : Int) (↑(List.length x1) : Int) : Bool), false)])) := by kernel_rfl

theorem ok23_t (x0 : (List Int)) (x1 : (List Int)) : TrOk (PureRuns Go.Proofs.Try.prog kl23_0.orc 23 as23 rs23 (x0, x1, ())) (t23 x0 x1) :=
  TrOk.ofTest (fun h0 => TrOk.ofFin (PureRuns.of (e23_0 x0 x1) (All.cons h0 (All.nil)))) (fun h0 => TrOk.ofTest (fun h1 => TrOk.ofTest (fun h2 => TrOk.ofFin (PureRuns.of (e23_1 x0 x1) (All.cons h2 (All.cons h1 (All.cons h0 (All.nil)))))) (fun h2 => TrOk.ofFin (PureRuns.of (e23_2 x0 x1) (All.cons h2 (All.cons h1 (All.cons h0 (All.nil))))))) (fun h1 => TrOk.ofStop))

theorem ok23 : PureOk Go.Proofs.Try.prog 23 p23 := pureOk_of kl23_0_ok.base (T := fun (d : Tys.data as23) => t23 d.1 d.2.1) (by kernel_rfl) (fun (d : Tys.data as23) => ok23_t d.1 d.2.1)
def kf23 : Known := kl23_0.func 23 p23
theorem kf23_ok : KnownOk Go.Proofs.Try.prog kf23 := kl23_0_ok.func ok23

/-! loop 0 of ductility/ductilitybase.Has -/

abbrev sh66_0 : Sh := { n := 18, slots := [0, 1, 5], pats := [.ty (.slice (.int .i64)), .ty (.int .i64), .ty (.int .i64)], boxes := [] }
abbrev shb66_0 : Sh := { n := 18, slots := [], pats := [], boxes := [] }
abbrev shr66_0 : Sh := { n := 18, slots := [4], pats := [.ty .bool], boxes := [] }

def t66_0 (x0 : (List Int)) (x1 : Int) (x2 : Int) : Tr (Out sh66_0.data shb66_0.data shr66_0.data) :=
  Tr.test ((!leF (↑(List.length x0) : Int) x2 : Bool))
    (Tr.test ((decide ((0 : Int) ≤ x2) && decide (x2 < (↑(List.length x0) : Int)) : Bool))
      (Tr.test ((eqF (List.getD x0 (Int.toNat x2) (0 : Int)) x1 : Bool))
        (Tr.fin (.ret (((true : Bool), ()), ())))
        (Tr.fin (.again ((x0, (x1, ((wrap64 (x2 + (1 : Int)) : Int), ()))), ()))))
      (Tr.stop /- none [op 2 of region 4 of F66] -/))
    (Tr.fin (.brk ((), ())))

def s66_0 (d : sh66_0.data) : Option (Out sh66_0.data shb66_0.data shr66_0.data) := (t66_0 d.1.1 d.1.2.1 d.1.2.2.1).val
def l66_0 (d : sh66_0.data) : Option (shb66_0.data ⊕ shr66_0.data) := itr s66_0 rounds d
def b66_0 (d : sh66_0.data) : shb66_0.data := outB shb66_0.dflt (l66_0 d)
def r66_0 (d : sh66_0.data) : shr66_0.data := outR shr66_0.dflt (l66_0 d)
def lc66_0 : LoopC := lcOf sh66_0 shb66_0 shr66_0 l66_0 b66_0 r66_0

theorem e66_0_0 (x0 : (List Int)) (x1 : Int) (x2 : Int) : runBody kf23.orc Go.Proofs.Try.prog 400 66 0 sh66_0 shb66_0 shr66_0 ((x0, x1, x2, ()), ()) [true, true, true] =
    (some (.ret (((true : Bool), ()), ()), [((eqF (List.getD x0 (Int.toNat x2) (0 : Int)) x1 : Bool), true), ((decide ((0 : Int) ≤ x2) && decide (x2 < (↑(List.length x0) : Int)) : Bool), true), ((!leF (↑(List.length x0) : Int) x2 : Bool), true)])) := by kernel_rfl
theorem e66_0_1 (x0 : (List Int)) (x1 : Int) (x2 : Int) : runBody kf23.orc Go.Proofs.Try.prog 400 66 0 sh66_0 shb66_0 shr66_0 ((x0, x1, x2, ()), ()) [true, true, false] =
    (some (.again ((x0, (x1, ((wrap64 (x2 + (1 : Int)) : Int), ()))), ()), [((eqF (List.getD x0 (Int.toNat x2) (0 : Int)) x1 : Bool), false), ((decide ((0 : Int) ≤ x2) && decide (x2 < (↑(List.length x0) : Int)) : Bool), true), ((!leF (↑(List.length x0) : Int) x2 : Bool), true)])) := by kernel_rfl
theorem e66_0_3 (x0 : (List Int)) (x1 : Int) (x2 : Int) : runBody kf23.orc Go.Proofs.Try.prog 400 66 0 sh66_0 shb66_0 shr66_0 ((x0, x1, x2, ()), ()) [false] =
    (some (.brk ((), ()), [((!leF (↑(List.length x0) : Int) x2 : Bool), false)])) := by kernel_rfl

theorem ok66_0_t (x0 : (List Int)) (x1 : Int) (x2 : Int) : TrOk (BodyRuns Go.Proofs.Try.prog kf23.orc 66 0 sh66_0 shb66_0 shr66_0 ((x0, x1, x2, ()), ())) (t66_0 x0 x1 x2) :=
  TrOk.ofTest (fun h0 => TrOk.ofTest (fun h1 => TrOk.ofTest (fun h2 => TrOk.ofFin (BodyRuns.of (e66_0_0 x0 x1 x2) (All.cons h2 (All.cons h1 (All.cons h0 (All.nil)))))) (fun h2 => TrOk.ofFin (BodyRuns.of (e66_0_1 x0 x1 x2) (All.cons h2 (All.cons h1 (All.cons h0 (All.nil))))))) (fun h1 => TrOk.ofStop)) (fun h0 => TrOk.ofFin (BodyRuns.of (e66_0_3 x0 x1 x2) (All.cons h0 (All.nil))))

theorem ok66_0 : LoopOk Go.Proofs.Try.prog 66 0 lc66_0 := loopOk_of kf23_ok.base (T := fun (d : sh66_0.data) => t66_0 d.1.1 d.1.2.1 d.1.2.2.1) (by kernel_rfl) rfl (fun (d : sh66_0.data) => ok66_0_t d.1.1 d.1.2.1 d.1.2.2.1) (fun _ => rfl)
def kl66_0 : Known := kf23.loop 66 0 lc66_0
theorem kl66_0_ok : KnownOk Go.Proofs.Try.prog kl66_0 := kf23_ok.loop ok66_0

/-! ductility/ductilitybase.Has -/

abbrev as66 : List Ty := [(.slice (.int .i64)), (.int .i64)]
abbrev rs66 : List Ty := [.bool]

def t66 (x0 : (List Int)) (x1 : Int) : Tr (Tys.data rs66) :=
  Tr.test (Option.isSome (l66_0 ((x0, (x1, ((0 : Int), ()))), ())))
    (Tr.test (isRet (l66_0 ((x0, (x1, ((0 : Int), ()))), ())))
      (let r0 : (Bool × PUnit) × PUnit := r66_0 ((x0, (x1, ((0 : Int), ()))), ());
      Tr.fin (((r0.fst.fst : Bool), ())))
      (Tr.fin (((false : Bool), ()))))
    (Tr.stop)

def f66 (d : Tys.data as66) : Option (Tys.data rs66) := (t66 d.1 d.2.1).val
def g66 (d : Tys.data as66) : Tys.data rs66 := (f66 d).getD (Tys.dflt rs66)
def p66 : PureC := pcOf as66 rs66 f66 g66

theorem e66_0 (x0 : (List Int)) (x1 : Int) : runPure kl66_0.orc Go.Proofs.Try.prog 400 66 as66 rs66 (x0, x1, ()) [true, true] =
    (let r0 : (Bool × PUnit) × PUnit := r66_0 ((x0, (x1, ((0 : Int), ()))), ()); some (((r0.fst.fst : Bool), ()), [(isRet (l66_0 ((x0, (x1, ((0 : Int), ()))), ())), true), (Option.isSome (l66_0 ((x0, (x1, ((0 : Int), ()))), ())), true)])) := by kernel_rfl
theorem e66_1 (x0 : (List Int)) (x1 : Int) : runPure kl66_0.orc Go.Proofs.Try.prog 400 66 as66 rs66 (x0, x1, ()) [true, false] =
    (some (((false : Bool), ()), [(isRet (l66_0 ((x0, (x1, ((0 : Int), ()))), ())), false), (Option.isSome (l66_0 ((x0, (x1, ((0 : Int), ()))), ())), true)])) := by kernel_rfl

theorem ok66_t (x0 : (List Int)) (x1 : Int) : TrOk (PureRuns Go.Proofs.Try.prog kl66_0.orc 66 as66 rs66 (x0, x1, ())) (t66 x0 x1) :=
  TrOk.ofTest (fun h0 => TrOk.ofTest (fun h1 => TrOk.ofFin (PureRuns.of (e66_0 x0 x1) (All.cons h1 (All.cons h0 (All.nil))))) (fun h1 => TrOk.ofFin (PureRuns.of (e66_1 x0 x1) (All.cons h1 (All.cons h0 (All.nil)))))) (fun h0 => TrOk.ofStop)

theorem ok66 : PureOk Go.Proofs.Try.prog 66 p66 := pureOk_of kl66_0_ok.base (T := fun (d : Tys.data as66) => t66 d.1 d.2.1) (by kernel_rfl) (fun (d : Tys.data as66) => ok66_t d.1 d.2.1)
def kf66 : Known := kl66_0.func 66 p66
theorem kf66_ok : KnownOk Go.Proofs.Try.prog kf66 := kl66_0_ok.func ok66

/-! loop 0 of ductility/ductilitylaw02.MotionBands -/

abbrev sh10_0 : Sh := { n := 116, slots := [2, 3, 7, 10, 11], pats := [.ty (.int .i64), .ptr 0 2 0, .ty (.slice (.int .i64)), .slu 1 4, .ty (.int .i64)], boxes := [.row [.ty (.int .i64), .ty (.slice (.int .i64))], .arr (.pair (.pair (.int .i64) (.pair (.int .i64) .unit)) (.pair (.pair (.int .i64) (.pair (.int .i64) .unit)) .unit))] }
abbrev shb10_0 : Sh := { n := 116, slots := [3, 7, 10], pats := [.ptr 0 2 0, .ty (.slice (.int .i64)), .slu 1 4], boxes := [.row [.ty (.int .i64), .ty (.slice (.int .i64))], .arr (.pair (.pair (.int .i64) (.pair (.int .i64) .unit)) (.pair (.pair (.int .i64) (.pair (.int .i64) .unit)) .unit))] }
abbrev shr10_0 : Sh := { n := 116, slots := [], pats := [], boxes := [.row [.ty (.int .i64), .ty (.slice (.int .i64))], .arr (.pair (.pair (.int .i64) (.pair (.int .i64) .unit)) (.pair (.pair (.int .i64) (.pair (.int .i64) .unit)) .unit))] }

def t10_0 (x0 : Int) (x2 : (List Int)) (x3n : Nat) (x4 : Int) (b0_0 : Int) (b0_1 : (List Int)) (b1 : (List ((Int × (Int × Unit)) × ((Int × (Int × Unit)) × Unit)))) : Tr (Out sh10_0.data shb10_0.data shr10_0.data) :=
  Tr.test ((!leF (↑x3n : Int) x4 : Bool))
    (Tr.test ((decide ((0 : Int) ≤ x4) && decide (x4 < (↑x3n : Int)) : Bool))
      (Tr.test ((Nat.ble ((0 : Nat) + Int.toNat x4 + (1 : Nat)) (List.length b1) : Bool))
        (Tr.fin (.again ((x0, (x2, (x3n, ((wrap64 (x4 + (1 : Int)) : Int), ())))), ((b0_0, (b0_1, ())), ((List.set b1 ((0 : Nat) + Int.toNat x4) (((List.getD b1 ((0 : Nat) + Int.toNat x4) (((0 : Int), (0 : Int), ()), ((0 : Int), (0 : Int), ()), ())).fst.fst, (List.getD b1 ((0 : Nat) + Int.toNat x4) (((0 : Int), (0 : Int), ()), ((0 : Int), (0 : Int), ()), ())).fst.snd.fst, ()), (if (0 : Int) < wrap64 ((List.getD b1 ((0 : Nat) + Int.toNat x4) (((0 : Int), (0 : Int), ()), ((0 : Int), (0 : Int), ()), ())).snd.fst.fst - x0) then wrap64 ((List.getD b1 ((0 : Nat) + Int.toNat x4) (((0 : Int), (0 : Int), ()), ((0 : Int), (0 : Int), ()), ())).snd.fst.fst - x0) else (0 : Int), if wrap64 ((List.getD b1 ((0 : Nat) + Int.toNat x4) (((0 : Int), (0 : Int), ()), ((0 : Int), (0 : Int), ()), ())).snd.fst.snd.fst + x0) < (1000000 : Int) then wrap64 ((List.getD b1 ((0 : Nat) + Int.toNat x4) (((0 : Int), (0 : Int), ()), ((0 : Int), (0 : Int), ()), ())).snd.fst.snd.fst + x0) else (1000000 : Int), ()), ()) : List ((Int × Int × PUnit) × (Int × Int × PUnit) × PUnit)), ())))))
        (Tr.stop /- none [op 7 of region 19 of F10] -/))
      (Tr.stop /- none [op 4 of region 19 of F10] -/))
    (Tr.fin (.brk ((x2, (x3n, ())), ((b0_0, (b0_1, ())), (b1, ())))))

def s10_0 (d : sh10_0.data) : Option (Out sh10_0.data shb10_0.data shr10_0.data) := (t10_0 d.1.1 d.1.2.1 d.1.2.2.1 d.1.2.2.2.1 d.2.1.1 d.2.1.2.1 d.2.2.1).val
def l10_0 (d : sh10_0.data) : Option (shb10_0.data ⊕ shr10_0.data) := itr s10_0 rounds d
def b10_0 (d : sh10_0.data) : shb10_0.data := outB shb10_0.dflt (l10_0 d)
def r10_0 (d : sh10_0.data) : shr10_0.data := outR shr10_0.dflt (l10_0 d)
def lc10_0 : LoopC := lcB sh10_0 shb10_0 shr10_0 l10_0 b10_0

theorem e10_0_0 (x0 : Int) (x2 : (List Int)) (x3n : Nat) (x4 : Int) (b0_0 : Int) (b0_1 : (List Int)) (b1 : (List ((Int × (Int × Unit)) × ((Int × (Int × Unit)) × Unit)))) : runBody kf66.orc Go.Proofs.Try.prog 400 10 0 sh10_0 shb10_0 shr10_0 ((x0, x2, x3n, x4, ()), (b0_0, b0_1, ()), b1, ()) [true, true, true, true, true, true, true] =
    (some (.again ((x0, (x2, (x3n, ((wrap64 (x4 + (1 : Int)) : Int), ())))), ((b0_0, (b0_1, ())), ((List.set b1 ((0 : Nat) + Int.toNat x4) (((List.getD b1 ((0 : Nat) + Int.toNat x4) (((0 : Int), (0 : Int), ()), ((0 : Int), (0 : Int), ()), ())).fst.fst, (List.getD b1 ((0 : Nat) + Int.toNat x4) (((0 : Int), (0 : Int), ()), ((0 : Int), (0 : Int), ()), ())).fst.snd.fst, ()), (if (0 : Int) < wrap64 ((List.getD b1 ((0 : Nat) + Int.toNat x4) (((0 : Int), (0 : Int), ()), ((0 : Int), (0 : Int), ()), ())).snd.fst.fst - x0) then wrap64 ((List.getD b1 ((0 : Nat) + Int.toNat x4) (((0 : Int), (0 : Int), ()), ((0 : Int), (0 : Int), ()), ())).snd.fst.fst - x0) else (0 : Int), if wrap64 ((List.getD b1 ((0 : Nat) + Int.toNat x4) (((0 : Int), (0 : Int), ()), ((0 : Int), (0 : Int), ()), ())).snd.fst.snd.fst + x0) < (1000000 : Int) then wrap64 ((List.getD b1 ((0 : Nat) + Int.toNat x4) (((0 : Int), (0 : Int), ()), ((0 : Int), (0 : Int), ()), ())).snd.fst.snd.fst + x0) else (1000000 : Int), ()), ()) : List ((Int × Int × PUnit) × (Int × Int × PUnit) × PUnit)), ()))), [((Nat.ble ((0 : Nat) + Int.toNat x4 + (1 : Nat)) (List.length b1) : Bool), true), ((decide ((0 : Int) ≤ x4) && decide (x4 < (↑x3n : Int)) : Bool), true), ((Nat.ble ((0 : Nat) + Int.toNat x4 + (1 : Nat)) (List.length b1) : Bool), true), ((decide ((0 : Int) ≤ x4) && decide (x4 < (↑x3n : Int)) : Bool), true), ((Nat.ble ((0 : Nat) + Int.toNat x4 + (1 : Nat)) (List.length b1) : Bool), true), ((decide ((0 : Int) ≤ x4) && decide (x4 < (↑x3n : Int)) : Bool), true), ((!leF (↑x3n : Int) x4 : Bool), true)])) := by kernel_rfl
theorem e10_0_3 (x0 : Int) (x2 : (List Int)) (x3n : Nat) (x4 : Int) (b0_0 : Int) (b0_1 : (List Int)) (b1 : (List ((Int × (Int × Unit)) × ((Int × (Int × Unit)) × Unit)))) : runBody kf66.orc Go.Proofs.Try.prog 400 10 0 sh10_0 shb10_0 shr10_0 ((x0, x2, x3n, x4, ()), (b0_0, b0_1, ()), b1, ()) [false] =
    (some (.brk ((x2, (x3n, ())), ((b0_0, (b0_1, ())), (b1, ()))), [((!leF (↑x3n : Int) x4 : Bool), false)])) := by kernel_rfl

theorem ok10_0_t (x0 : Int) (x2 : (List Int)) (x3n : Nat) (x4 : Int) (b0_0 : Int) (b0_1 : (List Int)) (b1 : (List ((Int × (Int × Unit)) × ((Int × (Int × Unit)) × Unit)))) : TrOk (BodyRuns Go.Proofs.Try.prog kf66.orc 10 0 sh10_0 shb10_0 shr10_0 ((x0, x2, x3n, x4, ()), (b0_0, b0_1, ()), b1, ())) (t10_0 x0 x2 x3n x4 b0_0 b0_1 b1) :=
  TrOk.ofTest (fun h0 => TrOk.ofTest (fun h1 => TrOk.ofTest (fun h2 => TrOk.ofFin (BodyRuns.of (e10_0_0 x0 x2 x3n x4 b0_0 b0_1 b1) (All.cons (h2) (All.cons (h1) (All.cons (h2) (All.cons (h1) (All.cons h2 (All.cons h1 (All.cons h0 (All.nil)))))))))) (fun h2 => TrOk.ofStop)) (fun h1 => TrOk.ofStop)) (fun h0 => TrOk.ofFin (BodyRuns.of (e10_0_3 x0 x2 x3n x4 b0_0 b0_1 b1) (All.cons h0 (All.nil))))

theorem ok10_0 : LoopOk Go.Proofs.Try.prog 10 0 lc10_0 := loopOk_ofB kf66_ok.base (T := fun (d : sh10_0.data) => t10_0 d.1.1 d.1.2.1 d.1.2.2.1 d.1.2.2.2.1 d.2.1.1 d.2.1.2.1 d.2.2.1) (by kernel_rfl) rfl (fun (d : sh10_0.data) => ok10_0_t d.1.1 d.1.2.1 d.1.2.2.1 d.1.2.2.2.1 d.2.1.1 d.2.1.2.1 d.2.2.1) (fun _ => rfl)
def kl10_0 : Known := kf66.loop 10 0 lc10_0
theorem kl10_0_ok : KnownOk Go.Proofs.Try.prog kl10_0 := kf66_ok.loop ok10_0

/-! loop 2 of ductility/ductilitylaw02.MotionBands -/

abbrev sh10_2 : Sh := { n := 116, slots := [7, 12, 14], pats := [.ty (.slice (.int .i64)), .ty (.slice (.int .i64)), .ty (.int .i64)], boxes := [] }
abbrev shb10_2 : Sh := { n := 116, slots := [], pats := [], boxes := [] }
abbrev shr10_2 : Sh := { n := 116, slots := [6], pats := [.ty .bool], boxes := [] }

def t10_2 (x0 : (List Int)) (x1 : (List Int)) (x2 : Int) : Tr (Out sh10_2.data shb10_2.data shr10_2.data) :=
  Tr.test ((!leF (↑(List.length x1) : Int) x2 : Bool))
    (Tr.test ((decide ((0 : Int) ≤ x2) && decide (x2 < (↑(List.length x1) : Int)) : Bool))
      (Tr.test (Option.isSome (f66 (x0, ((List.getD x1 (Int.toNat x2) (0 : Int) : Int), ()))))
        (let r0 : Bool × PUnit := g66 (x0, ((List.getD x1 (Int.toNat x2) (0 : Int) : Int), ()));
        Tr.test ((!r0.fst : Bool))
          (Tr.fin (.ret (((false : Bool), ()), ())))
          (Tr.fin (.again ((x0, (x1, ((wrap64 (x2 + (1 : Int)) : Int), ()))), ()))))
        (Tr.stop))
      (Tr.stop /- none [op 3 of region 26 of F10] -/))
    (Tr.fin (.brk ((), ())))

def s10_2 (d : sh10_2.data) : Option (Out sh10_2.data shb10_2.data shr10_2.data) := (t10_2 d.1.1 d.1.2.1 d.1.2.2.1).val
def l10_2 (d : sh10_2.data) : Option (shb10_2.data ⊕ shr10_2.data) := itr s10_2 rounds d
def b10_2 (d : sh10_2.data) : shb10_2.data := outB shb10_2.dflt (l10_2 d)
def r10_2 (d : sh10_2.data) : shr10_2.data := outR shr10_2.dflt (l10_2 d)
def lc10_2 : LoopC := lcOf sh10_2 shb10_2 shr10_2 l10_2 b10_2 r10_2

theorem e10_2_0 (x0 : (List Int)) (x1 : (List Int)) (x2 : Int) : runBody kl10_0.orc Go.Proofs.Try.prog 400 10 2 sh10_2 shb10_2 shr10_2 ((x0, x1, x2, ()), ()) [true, true, true, true] =
    (let r0 : Bool × PUnit := g66 (x0, ((List.getD x1 (Int.toNat x2) (0 : Int) : Int), ())); some (.ret (((false : Bool), ()), ()), [((!r0.fst : Bool), true), (Option.isSome (f66 (x0, ((List.getD x1 (Int.toNat x2) (0 : Int) : Int), ()))), true), ((decide ((0 : Int) ≤ x2) && decide (x2 < (↑(List.length x1) : Int)) : Bool), true), ((!leF (↑(List.length x1) : Int) x2 : Bool), true)])) := by kernel_rfl
theorem e10_2_1 (x0 : (List Int)) (x1 : (List Int)) (x2 : Int) : runBody kl10_0.orc Go.Proofs.Try.prog 400 10 2 sh10_2 shb10_2 shr10_2 ((x0, x1, x2, ()), ()) [true, true, true, false] =
    (let r0 : Bool × PUnit := g66 (x0, ((List.getD x1 (Int.toNat x2) (0 : Int) : Int), ())); some (.again ((x0, (x1, ((wrap64 (x2 + (1 : Int)) : Int), ()))), ()), [((!r0.fst : Bool), false), (Option.isSome (f66 (x0, ((List.getD x1 (Int.toNat x2) (0 : Int) : Int), ()))), true), ((decide ((0 : Int) ≤ x2) && decide (x2 < (↑(List.length x1) : Int)) : Bool), true), ((!leF (↑(List.length x1) : Int) x2 : Bool), true)])) := by kernel_rfl
theorem e10_2_3 (x0 : (List Int)) (x1 : (List Int)) (x2 : Int) : runBody kl10_0.orc Go.Proofs.Try.prog 400 10 2 sh10_2 shb10_2 shr10_2 ((x0, x1, x2, ()), ()) [false] =
    (some (.brk ((), ()), [((!leF (↑(List.length x1) : Int) x2 : Bool), false)])) := by kernel_rfl

theorem ok10_2_t (x0 : (List Int)) (x1 : (List Int)) (x2 : Int) : TrOk (BodyRuns Go.Proofs.Try.prog kl10_0.orc 10 2 sh10_2 shb10_2 shr10_2 ((x0, x1, x2, ()), ())) (t10_2 x0 x1 x2) :=
  TrOk.ofTest (fun h0 => TrOk.ofTest (fun h1 => TrOk.ofTest (fun h2 => TrOk.ofTest (fun h3 => TrOk.ofFin (BodyRuns.of (e10_2_0 x0 x1 x2) (All.cons h3 (All.cons h2 (All.cons h1 (All.cons h0 (All.nil))))))) (fun h3 => TrOk.ofFin (BodyRuns.of (e10_2_1 x0 x1 x2) (All.cons h3 (All.cons h2 (All.cons h1 (All.cons h0 (All.nil)))))))) (fun h2 => TrOk.ofStop)) (fun h1 => TrOk.ofStop)) (fun h0 => TrOk.ofFin (BodyRuns.of (e10_2_3 x0 x1 x2) (All.cons h0 (All.nil))))

theorem ok10_2 : LoopOk Go.Proofs.Try.prog 10 2 lc10_2 := loopOk_of kl10_0_ok.base (T := fun (d : sh10_2.data) => t10_2 d.1.1 d.1.2.1 d.1.2.2.1) (by kernel_rfl) rfl (fun (d : sh10_2.data) => ok10_2_t d.1.1 d.1.2.1 d.1.2.2.1) (fun _ => rfl)
def kl10_2 : Known := kl10_0.loop 10 2 lc10_2
theorem kl10_2_ok : KnownOk Go.Proofs.Try.prog kl10_2 := kl10_0_ok.loop ok10_2

/-! ductility/ductilitylaw02.MotionBands -/

abbrev as10 : List Ty := [(.pair (.int .i64) (.pair (.slice (.int .i64)) .unit)), (.slice (.pair (.pair (.int .i64) (.pair (.int .i64) .unit)) (.pair (.pair (.int .i64) (.pair (.int .i64) .unit)) .unit))), (.int .i64)]
abbrev rs10 : List Ty := [.bool]

def t10 (x0 : Int) (x0' : (List Int)) (x1 : (List ((Int × (Int × Unit)) × ((Int × (Int × Unit)) × Unit)))) (x2 : Int) : Tr (Tys.data rs10) :=
  Tr.test (Option.isSome (f16 ((x0, (x0', ())), ())))
    (let r0 : Bool × PUnit := g16 ((x0, (x0', ())), ());
    Tr.test ((!r0.fst : Bool))
      (Tr.fin (((true : Bool), ())))
      (Tr.test ((!leF (↑(List.length x1) : Int) (8 : Int) : Bool))
        (Tr.fin (((true : Bool), ())))
        (Tr.test (Option.isSome (f18 ((x0, (x0', ())), ())))
          (Tr.test ((Nat.beq (List.length x1) (0 : Nat) : Bool))
            (let r1 : (Int × List Int × PUnit) × PUnit := g18 ((x0, (x0', ())), ());
            Tr.test (Option.isSome (f62 (((r1.fst.fst : Int), ((r1.fst.snd.fst : List Int), ())), (([] : List ((Int × Int × PUnit) × (Int × Int × PUnit) × PUnit)), ()))))
              (Tr.test (Option.isSome (f29 ((x0, (x0', ())), ())))
                (let r4 : Int × PUnit := g29 ((x0, (x0', ())), ());
                Tr.test ((eqF r4.fst (0 : Int) : Bool))
                  (Tr.test (Option.isSome (f64 (x1, ())))
                    (let r5 : Int × PUnit := g64 (x1, ());
                    Tr.test ((!eqF r5.fst (0 : Int) : Bool))
                      (let r2 : List Int × Int × PUnit := g62 (((r1.fst.fst : Int), ((r1.fst.snd.fst : List Int), ())), (([] : List ((Int × Int × PUnit) × (Int × Int × PUnit) × PUnit)), ()));
                      Tr.test ((eqF r2.snd.fst r5.fst : Bool))
                        (Tr.fin (((eqF (↑(List.length r2.fst) : Int) (0 : Int) : Bool), ())))
                        (Tr.fin (((false : Bool), ()))))
                      (let r2 : List Int × Int × PUnit := g62 (((r1.fst.fst : Int), ((r1.fst.snd.fst : List Int), ())), (([] : List ((Int × Int × PUnit) × (Int × Int × PUnit) × PUnit)), ()));
                      Tr.test ((!eqF r2.snd.fst (0 : Int) : Bool))
                        (Tr.fin (((false : Bool), ())))
                        (Tr.test (Option.isSome (f65 (x0', (x1, ()))))
                          (let r6 : List Int × PUnit := g65 (x0', (x1, ()));
                          Tr.test (Option.isSome (f23 ((r2.fst : List Int), ((r6.fst : List Int), ()))))
                            (let r7 : Bool × PUnit := g23 ((r2.fst : List Int), ((r6.fst : List Int), ()));
                            Tr.test ((!r7.fst : Bool))
                              (Tr.fin (((false : Bool), ())))
                              (Tr.test (Option.isSome (f47 (x2, ((0 : Int), ((100 : Int), ())))))
                                (let r8 : Bool × PUnit := g47 (x2, ((0 : Int), ((100 : Int), ())));
                                Tr.test ((!r8.fst : Bool))
                                  (Tr.fin (((true : Bool), ())))
                                  (Tr.stop /- loop: loop 10_0: no rows [{ n := 116, slots := [2, 3, 7, 10, 11],  -/))
                                (Tr.stop)))
                            (Tr.stop))
                          (Tr.stop))))
                    (Tr.stop))
                  (let r2 : List Int × Int × PUnit := g62 (((r1.fst.fst : Int), ((r1.fst.snd.fst : List Int), ())), (([] : List ((Int × Int × PUnit) × (Int × Int × PUnit) × PUnit)), ()));
                  Tr.test ((eqF r2.snd.fst r4.fst : Bool))
                    (Tr.fin (((eqF (↑(List.length r2.fst) : Int) (0 : Int) : Bool), ())))
                    (Tr.fin (((false : Bool), ())))))
                (Tr.stop))
              (Tr.stop))
            (Tr.test ((Nat.ble ((0 : Nat) + List.length x1) (0 : Nat) : Bool))
              (Tr.stop /- none [op 3 of region 5 of F10] -/)
              (Tr.test ((Nat.ble (((2 : Nat) * ((0 : Nat) + List.length x1) + (192 : Nat)) * (32 : Nat)) (281474976710656 : Nat) && Nat.ble ((0 : Nat) + List.length x1) (281474976710656 : Nat) : Bool))
                (Tr.test ((Nat.beq ((0 : Nat) + List.length x1) (List.length ([] ++ x1)) : Bool))
                  (let r1 : (Int × List Int × PUnit) × PUnit := g18 ((x0, (x0', ())), ());
                  Tr.test (Option.isSome (f62 (((r1.fst.fst : Int), ((r1.fst.snd.fst : List Int), ())), (([] ++ x1 : List ((Int × Int × PUnit) × (Int × Int × PUnit) × PUnit)), ()))))
                    (Tr.test (Option.isSome (f29 ((x0, (x0', ())), ())))
                      (let r4 : Int × PUnit := g29 ((x0, (x0', ())), ());
                      Tr.test ((eqF r4.fst (0 : Int) : Bool))
                        (Tr.test (Option.isSome (f64 (x1, ())))
                          (let r5 : Int × PUnit := g64 (x1, ());
                          Tr.test ((!eqF r5.fst (0 : Int) : Bool))
                            (let r3 : List Int × Int × PUnit := g62 (((r1.fst.fst : Int), ((r1.fst.snd.fst : List Int), ())), (([] ++ x1 : List ((Int × Int × PUnit) × (Int × Int × PUnit) × PUnit)), ()));
                            Tr.test ((eqF r3.snd.fst r5.fst : Bool))
                              (Tr.fin (((eqF (↑(List.length r3.fst) : Int) (0 : Int) : Bool), ())))
                              (Tr.fin (((false : Bool), ()))))
                            (let r3 : List Int × Int × PUnit := g62 (((r1.fst.fst : Int), ((r1.fst.snd.fst : List Int), ())), (([] ++ x1 : List ((Int × Int × PUnit) × (Int × Int × PUnit) × PUnit)), ()));
                            Tr.test ((!eqF r3.snd.fst (0 : Int) : Bool))
                              (Tr.fin (((false : Bool), ())))
                              (Tr.test (Option.isSome (f65 (x0', (x1, ()))))
                                (let r6 : List Int × PUnit := g65 (x0', (x1, ()));
                                Tr.test (Option.isSome (f23 ((r3.fst : List Int), ((r6.fst : List Int), ()))))
                                  (let r9 : Bool × PUnit := g23 ((r3.fst : List Int), ((r6.fst : List Int), ()));
                                  Tr.test ((!r9.fst : Bool))
                                    (Tr.fin (((false : Bool), ())))
                                    (Tr.test (Option.isSome (f47 (x2, ((0 : Int), ((100 : Int), ())))))
                                      (let r8 : Bool × PUnit := g47 (x2, ((0 : Int), ((100 : Int), ())));
                                      Tr.test ((!r8.fst : Bool))
                                        (Tr.fin (((true : Bool), ())))
                                        (Tr.test (isBrk (l10_0 ((x2, ((r3.fst : List Int), (((0 : Nat) + List.length x1 : Nat), ((0 : Int), ())))), ((x0, (x0', ())), (([] ++ x1 : List ((Int × Int × PUnit) × (Int × Int × PUnit) × PUnit)), ())))))
                                          (let r10 : (List Int × Nat × PUnit) × (Int × List Int × PUnit) × List ((Int × Int × PUnit) × (Int × Int × PUnit) × PUnit) × PUnit := b10_0 ((x2, ((r3.fst : List Int), (((0 : Nat) + List.length x1 : Nat), ((0 : Int), ())))), ((x0, (x0', ())), (([] ++ x1 : List ((Int × Int × PUnit) × (Int × Int × PUnit) × PUnit)), ())));
                                          Tr.test (Option.isSome (f18 (((r10.snd.fst.fst : Int), ((r10.snd.fst.snd.fst : List Int), ())), ())))
                                            (Tr.test ((Nat.beq r10.fst.snd.fst (List.length r10.snd.snd.fst) : Bool))
                                              (let r11 : (Int × List Int × PUnit) × PUnit := g18 (((r10.snd.fst.fst : Int), ((r10.snd.fst.snd.fst : List Int), ())), ());
                                              Tr.test (Option.isSome (f62 (((r11.fst.fst : Int), ((r11.fst.snd.fst : List Int), ())), ((r10.snd.snd.fst : List ((Int × Int × PUnit) × (Int × Int × PUnit) × PUnit)), ()))))
                                                (let r12 : List Int × Int × PUnit := g62 (((r11.fst.fst : Int), ((r11.fst.snd.fst : List Int), ())), ((r10.snd.snd.fst : List ((Int × Int × PUnit) × (Int × Int × PUnit) × PUnit)), ()));
                                                Tr.test ((!eqF r12.snd.fst (0 : Int) : Bool))
                                                  (Tr.fin (((false : Bool), ())))
                                                  (Tr.test (Option.isSome (l10_2 (((r10.fst.fst : List Int), ((r12.fst : List Int), ((0 : Int), ()))), ())))
                                                    (Tr.test (isRet (l10_2 (((r10.fst.fst : List Int), ((r12.fst : List Int), ((0 : Int), ()))), ())))
                                                      (let r14 : (Bool × PUnit) × PUnit := r10_2 (((r10.fst.fst : List Int), ((r12.fst : List Int), ((0 : Int), ()))), ());
                                                      Tr.fin (((r14.fst.fst : Bool), ())))
                                                      (Tr.fin (((true : Bool), ()))))
                                                    (Tr.stop)))
                                                (Tr.stop))
                                              (Tr.test ((Nat.ble r10.fst.snd.fst (List.length r10.snd.snd.fst) : Bool))
                                                (let r11 : (Int × List Int × PUnit) × PUnit := g18 (((r10.snd.fst.fst : Int), ((r10.snd.fst.snd.fst : List Int), ())), ());
                                                Tr.test (Option.isSome (f62 (((r11.fst.fst : Int), ((r11.fst.snd.fst : List Int), ())), ((List.take r10.fst.snd.fst r10.snd.snd.fst : List ((Int × Int × PUnit) × (Int × Int × PUnit) × PUnit)), ()))))
                                                  (let r13 : List Int × Int × PUnit := g62 (((r11.fst.fst : Int), ((r11.fst.snd.fst : List Int), ())), ((List.take r10.fst.snd.fst r10.snd.snd.fst : List ((Int × Int × PUnit) × (Int × Int × PUnit) × PUnit)), ()));
                                                  Tr.test ((!eqF r13.snd.fst (0 : Int) : Bool))
                                                    (Tr.fin (((false : Bool), ())))
                                                    (Tr.test (Option.isSome (l10_2 (((r10.fst.fst : List Int), ((r13.fst : List Int), ((0 : Int), ()))), ())))
                                                      (Tr.test (isRet (l10_2 (((r10.fst.fst : List Int), ((r13.fst : List Int), ((0 : Int), ()))), ())))
                                                        (let r15 : (Bool × PUnit) × PUnit := r10_2 (((r10.fst.fst : List Int), ((r13.fst : List Int), ((0 : Int), ()))), ());
                                                        Tr.fin (((r15.fst.fst : Bool), ())))
                                                        (Tr.fin (((true : Bool), ()))))
                                                      (Tr.stop)))
                                                  (Tr.stop))
                                                (Tr.stop /- a known call [op 3 of region 20 of F10] -/)))
                                            (Tr.stop))
                                          (Tr.stop)))
                                      (Tr.stop)))
                                  (Tr.stop))
                                (Tr.stop))))
                          (Tr.stop))
                        (let r3 : List Int × Int × PUnit := g62 (((r1.fst.fst : Int), ((r1.fst.snd.fst : List Int), ())), (([] ++ x1 : List ((Int × Int × PUnit) × (Int × Int × PUnit) × PUnit)), ()));
                        Tr.test ((eqF r3.snd.fst r4.fst : Bool))
                          (Tr.fin (((eqF (↑(List.length r3.fst) : Int) (0 : Int) : Bool), ())))
                          (Tr.fin (((false : Bool), ())))))
                      (Tr.stop))
                    (Tr.stop))
                  (Tr.stop))
                (Tr.stop /- none [op 3 of region 5 of F10] -/))))
          (Tr.stop))))
    (Tr.stop)

def f10 (d : Tys.data as10) : Option (Tys.data rs10) := (t10 d.1.1 d.1.2.1 d.2.1 d.2.2.1).val
def g10 (d : Tys.data as10) : Tys.data rs10 := (f10 d).getD (Tys.dflt rs10)
def p10 : PureC := pcOf as10 rs10 f10 g10

theorem e10_0 (x0 : Int) (x0' : (List Int)) (x1 : (List ((Int × (Int × Unit)) × ((Int × (Int × Unit)) × Unit)))) (x2 : Int) : runPure kl10_2.orc Go.Proofs.Try.prog 400 10 as10 rs10 ((x0, x0', ()), x1, x2, ()) [true, false, true, true, true, true, true, true] =
    (let r0 : Bool × PUnit := g16 ((x0, (x0', ())), ()); some (((true : Bool), ()), [((true : Bool), true), ((!r0.fst : Bool), true), ((!r0.fst : Bool), true), ((!r0.fst : Bool), true), ((!r0.fst : Bool), true), (Option.isSome (f16 ((x0, (x0', ())), ())), true), ((false : Bool), false), ((true : Bool), true)])) := by kernel_rfl
theorem e10_1 (x0 : Int) (x0' : (List Int)) (x1 : (List ((Int × (Int × Unit)) × ((Int × (Int × Unit)) × Unit)))) (x2 : Int) : runPure kl10_2.orc Go.Proofs.Try.prog 400 10 as10 rs10 ((x0, x0', ()), x1, x2, ()) [true, false, true, false, false, false, false, true] =
    (let r0 : Bool × PUnit := g16 ((x0, (x0', ())), ()); some (((true : Bool), ()), [((!leF (↑(List.length x1) : Int) (8 : Int) : Bool), true), ((!r0.fst : Bool), false), ((!r0.fst : Bool), false), ((!r0.fst : Bool), false), ((!r0.fst : Bool), false), (Option.isSome (f16 ((x0, (x0', ())), ())), true), ((false : Bool), false), ((true : Bool), true)])) := by kernel_rfl
theorem e10_2 (x0 : Int) (x0' : (List Int)) (x1 : (List ((Int × (Int × Unit)) × ((Int × (Int × Unit)) × Unit)))) (x2 : Int) : runPure kl10_2.orc Go.Proofs.Try.prog 400 10 as10 rs10 ((x0, x0', ()), x1, x2, ()) [true, false, true, false, false, false, false, false, true, true, true, true, true, true, true, true, true, true, true, true] =
    (let r0 : Bool × PUnit := g16 ((x0, (x0', ())), ()); let r1 : (Int × List Int × PUnit) × PUnit := g18 ((x0, (x0', ())), ()); let r4 : Int × PUnit := g29 ((x0, (x0', ())), ()); let r5 : Int × PUnit := g64 (x1, ()); let r2 : List Int × Int × PUnit := g62 (((r1.fst.fst : Int), ((r1.fst.snd.fst : List Int), ())), (([] : List ((Int × Int × PUnit) × (Int × Int × PUnit) × PUnit)), ())); some (((eqF (↑(List.length r2.fst) : Int) (0 : Int) : Bool), ()), [((eqF r2.snd.fst r5.fst : Bool), true), ((eqF r2.snd.fst r5.fst : Bool), true), ((eqF r2.snd.fst r5.fst : Bool), true), ((eqF r2.snd.fst r5.fst : Bool), true), ((!eqF r5.fst (0 : Int) : Bool), true), (Option.isSome (f64 (x1, ())), true), ((eqF r4.fst (0 : Int) : Bool), true), (Option.isSome (f29 ((x0, (x0', ())), ())), true), (Option.isSome (f62 (((r1.fst.fst : Int), ((r1.fst.snd.fst : List Int), ())), (([] : List ((Int × Int × PUnit) × (Int × Int × PUnit) × PUnit)), ()))), true), ((true : Bool), true), ((Nat.beq (List.length x1) (0 : Nat) : Bool), true), (Option.isSome (f18 ((x0, (x0', ())), ())), true), ((!leF (↑(List.length x1) : Int) (8 : Int) : Bool), false), ((!r0.fst : Bool), false), ((!r0.fst : Bool), false), ((!r0.fst : Bool), false), ((!r0.fst : Bool), false), (Option.isSome (f16 ((x0, (x0', ())), ())), true), ((false : Bool), false), ((true : Bool), true)])) := by kernel_rfl
theorem e10_3 (x0 : Int) (x0' : (List Int)) (x1 : (List ((Int × (Int × Unit)) × ((Int × (Int × Unit)) × Unit)))) (x2 : Int) : runPure kl10_2.orc Go.Proofs.Try.prog 400 10 as10 rs10 ((x0, x0', ()), x1, x2, ()) [true, false, true, false, false, false, false, false, true, true, true, true, true, true, true, true, false, false, false, false] =
    (let r0 : Bool × PUnit := g16 ((x0, (x0', ())), ()); let r1 : (Int × List Int × PUnit) × PUnit := g18 ((x0, (x0', ())), ()); let r4 : Int × PUnit := g29 ((x0, (x0', ())), ()); let r5 : Int × PUnit := g64 (x1, ()); let r2 : List Int × Int × PUnit := g62 (((r1.fst.fst : Int), ((r1.fst.snd.fst : List Int), ())), (([] : List ((Int × Int × PUnit) × (Int × Int × PUnit) × PUnit)), ())); some (((false : Bool), ()), [((eqF r2.snd.fst r5.fst : Bool), false), ((eqF r2.snd.fst r5.fst : Bool), false), ((eqF r2.snd.fst r5.fst : Bool), false), ((eqF r2.snd.fst r5.fst : Bool), false), ((!eqF r5.fst (0 : Int) : Bool), true), (Option.isSome (f64 (x1, ())), true), ((eqF r4.fst (0 : Int) : Bool), true), (Option.isSome (f29 ((x0, (x0', ())), ())), true), (Option.isSome (f62 (((r1.fst.fst : Int), ((r1.fst.snd.fst : List Int), ())), (([] : List ((Int × Int × PUnit) × (Int × Int × PUnit) × PUnit)), ()))), true), ((true : Bool), true), ((Nat.beq (List.length x1) (0 : Nat) : Bool), true), (Option.isSome (f18 ((x0, (x0', ())), ())), true), ((!leF (↑(List.length x1) : Int) (8 : Int) : Bool), false), ((!r0.fst : Bool), false), ((!r0.fst : Bool), false), ((!r0.fst : Bool), false), ((!r0.fst : Bool), false), (Option.isSome (f16 ((x0, (x0', ())), ())), true), ((false : Bool), false), ((true : Bool), true)])) := by kernel_rfl
theorem e10_4 (x0 : Int) (x0' : (List Int)) (x1 : (List ((Int × (Int × Unit)) × ((Int × (Int × Unit)) × Unit)))) (x2 : Int) : runPure kl10_2.orc Go.Proofs.Try.prog 400 10 as10 rs10 ((x0, x0', ()), x1, x2, ()) [true, false, true, false, false, false, false, false, true, true, true, true, true, true, true, false, true, true, true, true, true, true, true, true, true] =
    (let r0 : Bool × PUnit := g16 ((x0, (x0', ())), ()); let r1 : (Int × List Int × PUnit) × PUnit := g18 ((x0, (x0', ())), ()); let r4 : Int × PUnit := g29 ((x0, (x0', ())), ()); let r5 : Int × PUnit := g64 (x1, ()); let r2 : List Int × Int × PUnit := g62 (((r1.fst.fst : Int), ((r1.fst.snd.fst : List Int), ())), (([] : List ((Int × Int × PUnit) × (Int × Int × PUnit) × PUnit)), ())); some (((false : Bool), ()), [((true : Bool), true), ((!eqF r2.snd.fst (0 : Int) : Bool), true), ((!eqF r2.snd.fst (0 : Int) : Bool), true), ((!eqF r2.snd.fst (0 : Int) : Bool), true), ((!eqF r2.snd.fst (0 : Int) : Bool), true), ((!eqF r2.snd.fst (0 : Int) : Bool), true), ((!eqF r2.snd.fst (0 : Int) : Bool), true), ((!eqF r2.snd.fst (0 : Int) : Bool), true), ((!eqF r2.snd.fst (0 : Int) : Bool), true), ((!eqF r5.fst (0 : Int) : Bool), false), (Option.isSome (f64 (x1, ())), true), ((eqF r4.fst (0 : Int) : Bool), true), (Option.isSome (f29 ((x0, (x0', ())), ())), true), (Option.isSome (f62 (((r1.fst.fst : Int), ((r1.fst.snd.fst : List Int), ())), (([] : List ((Int × Int × PUnit) × (Int × Int × PUnit) × PUnit)), ()))), true), ((true : Bool), true), ((Nat.beq (List.length x1) (0 : Nat) : Bool), true), (Option.isSome (f18 ((x0, (x0', ())), ())), true), ((!leF (↑(List.length x1) : Int) (8 : Int) : Bool), false), ((!r0.fst : Bool), false), ((!r0.fst : Bool), false), ((!r0.fst : Bool), false), ((!r0.fst : Bool), false), (Option.isSome (f16 ((x0, (x0', ())), ())), true), ((false : Bool), false), ((true : Bool), true)])) := by kernel_rfl
theorem e10_5 (x0 : Int) (x0' : (List Int)) (x1 : (List ((Int × (Int × Unit)) × ((Int × (Int × Unit)) × Unit)))) (x2 : Int) : runPure kl10_2.orc Go.Proofs.Try.prog 400 10 as10 rs10 ((x0, x0', ()), x1, x2, ()) [true, false, true, false, false, false, false, false, true, true, true, true, true, true, true, false, false, false, false, false, false, true, false, true, false, false, true] =
    (let r0 : Bool × PUnit := g16 ((x0, (x0', ())), ()); let r1 : (Int × List Int × PUnit) × PUnit := g18 ((x0, (x0', ())), ()); let r4 : Int × PUnit := g29 ((x0, (x0', ())), ()); let r5 : Int × PUnit := g64 (x1, ()); let r2 : List Int × Int × PUnit := g62 (((r1.fst.fst : Int), ((r1.fst.snd.fst : List Int), ())), (([] : List ((Int × Int × PUnit) × (Int × Int × PUnit) × PUnit)), ())); let r6 : List Int × PUnit := g65 (x0', (x1, ())); let r7 : Bool × PUnit := g23 ((r2.fst : List Int), ((r6.fst : List Int), ())); some (((false : Bool), ()), [((!r7.fst : Bool), true), ((!eqF r2.snd.fst (0 : Int) : Bool), false), ((!eqF r2.snd.fst (0 : Int) : Bool), false), (Option.isSome (f23 ((r2.fst : List Int), ((r6.fst : List Int), ()))), true), ((!eqF r2.snd.fst (0 : Int) : Bool), false), (Option.isSome (f65 (x0', (x1, ()))), true), ((!eqF r2.snd.fst (0 : Int) : Bool), false), ((!eqF r2.snd.fst (0 : Int) : Bool), false), ((!eqF r2.snd.fst (0 : Int) : Bool), false), ((!eqF r2.snd.fst (0 : Int) : Bool), false), ((!eqF r2.snd.fst (0 : Int) : Bool), false), ((!eqF r5.fst (0 : Int) : Bool), false), (Option.isSome (f64 (x1, ())), true), ((eqF r4.fst (0 : Int) : Bool), true), (Option.isSome (f29 ((x0, (x0', ())), ())), true), (Option.isSome (f62 (((r1.fst.fst : Int), ((r1.fst.snd.fst : List Int), ())), (([] : List ((Int × Int × PUnit) × (Int × Int × PUnit) × PUnit)), ()))), true), ((true : Bool), true), ((Nat.beq (List.length x1) (0 : Nat) : Bool), true), (Option.isSome (f18 ((x0, (x0', ())), ())), true), ((!leF (↑(List.length x1) : Int) (8 : Int) : Bool), false), ((!r0.fst : Bool), false), ((!r0.fst : Bool), false), ((!r0.fst : Bool), false), ((!r0.fst : Bool), false), (Option.isSome (f16 ((x0, (x0', ())), ())), true), ((false : Bool), false), ((true : Bool), true)])) := by kernel_rfl
theorem e10_6 (x0 : Int) (x0' : (List Int)) (x1 : (List ((Int × (Int × Unit)) × ((Int × (Int × Unit)) × Unit)))) (x2 : Int) : runPure kl10_2.orc Go.Proofs.Try.prog 400 10 as10 rs10 ((x0, x0', ()), x1, x2, ()) [true, false, true, false, false, false, false, false, true, true, true, true, true, true, true, false, false, false, false, false, false, true, false, true, false, false, false, true, true] =
    (let r0 : Bool × PUnit := g16 ((x0, (x0', ())), ()); let r1 : (Int × List Int × PUnit) × PUnit := g18 ((x0, (x0', ())), ()); let r4 : Int × PUnit := g29 ((x0, (x0', ())), ()); let r5 : Int × PUnit := g64 (x1, ()); let r2 : List Int × Int × PUnit := g62 (((r1.fst.fst : Int), ((r1.fst.snd.fst : List Int), ())), (([] : List ((Int × Int × PUnit) × (Int × Int × PUnit) × PUnit)), ())); let r6 : List Int × PUnit := g65 (x0', (x1, ())); let r7 : Bool × PUnit := g23 ((r2.fst : List Int), ((r6.fst : List Int), ())); let r8 : Bool × PUnit := g47 (x2, ((0 : Int), ((100 : Int), ()))); some (((true : Bool), ()), [((!r8.fst : Bool), true), (Option.isSome (f47 (x2, ((0 : Int), ((100 : Int), ())))), true), ((!r7.fst : Bool), false), ((!eqF r2.snd.fst (0 : Int) : Bool), false), ((!eqF r2.snd.fst (0 : Int) : Bool), false), (Option.isSome (f23 ((r2.fst : List Int), ((r6.fst : List Int), ()))), true), ((!eqF r2.snd.fst (0 : Int) : Bool), false), (Option.isSome (f65 (x0', (x1, ()))), true), ((!eqF r2.snd.fst (0 : Int) : Bool), false), ((!eqF r2.snd.fst (0 : Int) : Bool), false), ((!eqF r2.snd.fst (0 : Int) : Bool), false), ((!eqF r2.snd.fst (0 : Int) : Bool), false), ((!eqF r2.snd.fst (0 : Int) : Bool), false), ((!eqF r5.fst (0 : Int) : Bool), false), (Option.isSome (f64 (x1, ())), true), ((eqF r4.fst (0 : Int) : Bool), true), (Option.isSome (f29 ((x0, (x0', ())), ())), true), (Option.isSome (f62 (((r1.fst.fst : Int), ((r1.fst.snd.fst : List Int), ())), (([] : List ((Int × Int × PUnit) × (Int × Int × PUnit) × PUnit)), ()))), true), ((true : Bool), true), ((Nat.beq (List.length x1) (0 : Nat) : Bool), true), (Option.isSome (f18 ((x0, (x0', ())), ())), true), ((!leF (↑(List.length x1) : Int) (8 : Int) : Bool), false), ((!r0.fst : Bool), false), ((!r0.fst : Bool), false), ((!r0.fst : Bool), false), ((!r0.fst : Bool), false), (Option.isSome (f16 ((x0, (x0', ())), ())), true), ((false : Bool), false), ((true : Bool), true)])) := by kernel_rfl
theorem e10_8 (x0 : Int) (x0' : (List Int)) (x1 : (List ((Int × (Int × Unit)) × ((Int × (Int × Unit)) × Unit)))) (x2 : Int) : runPure kl10_2.orc Go.Proofs.Try.prog 400 10 as10 rs10 ((x0, x0', ()), x1, x2, ()) [true, false, true, false, false, false, false, false, true, true, true, true, true, false, true, true, true, true, true] =
    (let r0 : Bool × PUnit := g16 ((x0, (x0', ())), ()); let r1 : (Int × List Int × PUnit) × PUnit := g18 ((x0, (x0', ())), ()); let r4 : Int × PUnit := g29 ((x0, (x0', ())), ()); let r2 : List Int × Int × PUnit := g62 (((r1.fst.fst : Int), ((r1.fst.snd.fst : List Int), ())), (([] : List ((Int × Int × PUnit) × (Int × Int × PUnit) × PUnit)), ())); some (((eqF (↑(List.length r2.fst) : Int) (0 : Int) : Bool), ()), [((eqF r2.snd.fst r4.fst : Bool), true), ((eqF r2.snd.fst r4.fst : Bool), true), ((eqF r2.snd.fst r4.fst : Bool), true), ((eqF r2.snd.fst r4.fst : Bool), true), ((!eqF r4.fst (0 : Int) : Bool), true), ((eqF r4.fst (0 : Int) : Bool), false), (Option.isSome (f29 ((x0, (x0', ())), ())), true), (Option.isSome (f62 (((r1.fst.fst : Int), ((r1.fst.snd.fst : List Int), ())), (([] : List ((Int × Int × PUnit) × (Int × Int × PUnit) × PUnit)), ()))), true), ((true : Bool), true), ((Nat.beq (List.length x1) (0 : Nat) : Bool), true), (Option.isSome (f18 ((x0, (x0', ())), ())), true), ((!leF (↑(List.length x1) : Int) (8 : Int) : Bool), false), ((!r0.fst : Bool), false), ((!r0.fst : Bool), false), ((!r0.fst : Bool), false), ((!r0.fst : Bool), false), (Option.isSome (f16 ((x0, (x0', ())), ())), true), ((false : Bool), false), ((true : Bool), true)])) := by kernel_rfl
theorem e10_9 (x0 : Int) (x0' : (List Int)) (x1 : (List ((Int × (Int × Unit)) × ((Int × (Int × Unit)) × Unit)))) (x2 : Int) : runPure kl10_2.orc Go.Proofs.Try.prog 400 10 as10 rs10 ((x0, x0', ()), x1, x2, ()) [true, false, true, false, false, false, false, false, true, true, true, true, true, false, true, false, false, false, false] =
    (let r0 : Bool × PUnit := g16 ((x0, (x0', ())), ()); let r1 : (Int × List Int × PUnit) × PUnit := g18 ((x0, (x0', ())), ()); let r4 : Int × PUnit := g29 ((x0, (x0', ())), ()); let r2 : List Int × Int × PUnit := g62 (((r1.fst.fst : Int), ((r1.fst.snd.fst : List Int), ())), (([] : List ((Int × Int × PUnit) × (Int × Int × PUnit) × PUnit)), ())); some (((false : Bool), ()), [((eqF r2.snd.fst r4.fst : Bool), false), ((eqF r2.snd.fst r4.fst : Bool), false), ((eqF r2.snd.fst r4.fst : Bool), false), ((eqF r2.snd.fst r4.fst : Bool), false), ((!eqF r4.fst (0 : Int) : Bool), true), ((eqF r4.fst (0 : Int) : Bool), false), (Option.isSome (f29 ((x0, (x0', ())), ())), true), (Option.isSome (f62 (((r1.fst.fst : Int), ((r1.fst.snd.fst : List Int), ())), (([] : List ((Int × Int × PUnit) × (Int × Int × PUnit) × PUnit)), ()))), true), ((true : Bool), true), ((Nat.beq (List.length x1) (0 : Nat) : Bool), true), (Option.isSome (f18 ((x0, (x0', ())), ())), true), ((!leF (↑(List.length x1) : Int) (8 : Int) : Bool), false), ((!r0.fst : Bool), false), ((!r0.fst : Bool), false), ((!r0.fst : Bool), false), ((!r0.fst : Bool), false), (Option.isSome (f16 ((x0, (x0', ())), ())), true), ((false : Bool), false), ((true : Bool), true)])) := by kernel_rfl
theorem e10_11 (x0 : Int) (x0' : (List Int)) (x1 : (List ((Int × (Int × Unit)) × ((Int × (Int × Unit)) × Unit)))) (x2 : Int) : runPure kl10_2.orc Go.Proofs.Try.prog 400 10 as10 rs10 ((x0, x0', ()), x1, x2, ()) [true, false, true, false, false, false, false, false, true, false, false, true, true, true, true, true, true, true, true, true, true, true, true] =
    (let r0 : Bool × PUnit := g16 ((x0, (x0', ())), ()); let r1 : (Int × List Int × PUnit) × PUnit := g18 ((x0, (x0', ())), ()); let r4 : Int × PUnit := g29 ((x0, (x0', ())), ()); let r5 : Int × PUnit := g64 (x1, ()); let r3 : List Int × Int × PUnit := g62 (((r1.fst.fst : Int), ((r1.fst.snd.fst : List Int), ())), (([] ++ x1 : List ((Int × Int × PUnit) × (Int × Int × PUnit) × PUnit)), ())); some (((eqF (↑(List.length r3.fst) : Int) (0 : Int) : Bool), ()), [((eqF r3.snd.fst r5.fst : Bool), true), ((eqF r3.snd.fst r5.fst : Bool), true), ((eqF r3.snd.fst r5.fst : Bool), true), ((eqF r3.snd.fst r5.fst : Bool), true), ((!eqF r5.fst (0 : Int) : Bool), true), (Option.isSome (f64 (x1, ())), true), ((eqF r4.fst (0 : Int) : Bool), true), (Option.isSome (f29 ((x0, (x0', ())), ())), true), (Option.isSome (f62 (((r1.fst.fst : Int), ((r1.fst.snd.fst : List Int), ())), (([] ++ x1 : List ((Int × Int × PUnit) × (Int × Int × PUnit) × PUnit)), ()))), true), ((Nat.beq ((0 : Nat) + List.length x1) (List.length ([] ++ x1)) : Bool), true), ((true : Bool), true), ((Nat.ble (((2 : Nat) * ((0 : Nat) + List.length x1) + (192 : Nat)) * (32 : Nat)) (281474976710656 : Nat) && Nat.ble ((0 : Nat) + List.length x1) (281474976710656 : Nat) : Bool), true), ((Nat.ble ((0 : Nat) + List.length x1) (0 : Nat) : Bool), false), ((Nat.beq (List.length x1) (0 : Nat) : Bool), false), (Option.isSome (f18 ((x0, (x0', ())), ())), true), ((!leF (↑(List.length x1) : Int) (8 : Int) : Bool), false), ((!r0.fst : Bool), false), ((!r0.fst : Bool), false), ((!r0.fst : Bool), false), ((!r0.fst : Bool), false), (Option.isSome (f16 ((x0, (x0', ())), ())), true), ((false : Bool), false), ((true : Bool), true)])) := by kernel_rfl
theorem e10_12 (x0 : Int) (x0' : (List Int)) (x1 : (List ((Int × (Int × Unit)) × ((Int × (Int × Unit)) × Unit)))) (x2 : Int) : runPure kl10_2.orc Go.Proofs.Try.prog 400 10 as10 rs10 ((x0, x0', ()), x1, x2, ()) [true, false, true, false, false, false, false, false, true, false, false, true, true, true, true, true, true, true, true, false, false, false, false] =
    (let r0 : Bool × PUnit := g16 ((x0, (x0', ())), ()); let r1 : (Int × List Int × PUnit) × PUnit := g18 ((x0, (x0', ())), ()); let r4 : Int × PUnit := g29 ((x0, (x0', ())), ()); let r5 : Int × PUnit := g64 (x1, ()); let r3 : List Int × Int × PUnit := g62 (((r1.fst.fst : Int), ((r1.fst.snd.fst : List Int), ())), (([] ++ x1 : List ((Int × Int × PUnit) × (Int × Int × PUnit) × PUnit)), ())); some (((false : Bool), ()), [((eqF r3.snd.fst r5.fst : Bool), false), ((eqF r3.snd.fst r5.fst : Bool), false), ((eqF r3.snd.fst r5.fst : Bool), false), ((eqF r3.snd.fst r5.fst : Bool), false), ((!eqF r5.fst (0 : Int) : Bool), true), (Option.isSome (f64 (x1, ())), true), ((eqF r4.fst (0 : Int) : Bool), true), (Option.isSome (f29 ((x0, (x0', ())), ())), true), (Option.isSome (f62 (((r1.fst.fst : Int), ((r1.fst.snd.fst : List Int), ())), (([] ++ x1 : List ((Int × Int × PUnit) × (Int × Int × PUnit) × PUnit)), ()))), true), ((Nat.beq ((0 : Nat) + List.length x1) (List.length ([] ++ x1)) : Bool), true), ((true : Bool), true), ((Nat.ble (((2 : Nat) * ((0 : Nat) + List.length x1) + (192 : Nat)) * (32 : Nat)) (281474976710656 : Nat) && Nat.ble ((0 : Nat) + List.length x1) (281474976710656 : Nat) : Bool), true), ((Nat.ble ((0 : Nat) + List.length x1) (0 : Nat) : Bool), false), ((Nat.beq (List.length x1) (0 : Nat) : Bool), false), (Option.isSome (f18 ((x0, (x0', ())), ())), true), ((!leF (↑(List.length x1) : Int) (8 : Int) : Bool), false), ((!r0.fst : Bool), false), ((!r0.fst : Bool), false), ((!r0.fst : Bool), false), ((!r0.fst : Bool), false), (Option.isSome (f16 ((x0, (x0', ())), ())), true), ((false : Bool), false), ((true : Bool), true)])) := by kernel_rfl
theorem e10_13 (x0 : Int) (x0' : (List Int)) (x1 : (List ((Int × (Int × Unit)) × ((Int × (Int × Unit)) × Unit)))) (x2 : Int) : runPure kl10_2.orc Go.Proofs.Try.prog 400 10 as10 rs10 ((x0, x0', ()), x1, x2, ()) [true, false, true, false, false, false, false, false, true, false, false, true, true, true, true, true, true, true, false, true, true, true, true, true, true, true, true, true] =
    (let r0 : Bool × PUnit := g16 ((x0, (x0', ())), ()); let r1 : (Int × List Int × PUnit) × PUnit := g18 ((x0, (x0', ())), ()); let r4 : Int × PUnit := g29 ((x0, (x0', ())), ()); let r5 : Int × PUnit := g64 (x1, ()); let r3 : List Int × Int × PUnit := g62 (((r1.fst.fst : Int), ((r1.fst.snd.fst : List Int), ())), (([] ++ x1 : List ((Int × Int × PUnit) × (Int × Int × PUnit) × PUnit)), ())); some (((false : Bool), ()), [((true : Bool), true), ((!eqF r3.snd.fst (0 : Int) : Bool), true), ((!eqF r3.snd.fst (0 : Int) : Bool), true), ((!eqF r3.snd.fst (0 : Int) : Bool), true), ((!eqF r3.snd.fst (0 : Int) : Bool), true), ((!eqF r3.snd.fst (0 : Int) : Bool), true), ((!eqF r3.snd.fst (0 : Int) : Bool), true), ((!eqF r3.snd.fst (0 : Int) : Bool), true), ((!eqF r3.snd.fst (0 : Int) : Bool), true), ((!eqF r5.fst (0 : Int) : Bool), false), (Option.isSome (f64 (x1, ())), true), ((eqF r4.fst (0 : Int) : Bool), true), (Option.isSome (f29 ((x0, (x0', ())), ())), true), (Option.isSome (f62 (((r1.fst.fst : Int), ((r1.fst.snd.fst : List Int), ())), (([] ++ x1 : List ((Int × Int × PUnit) × (Int × Int × PUnit) × PUnit)), ()))), true), ((Nat.beq ((0 : Nat) + List.length x1) (List.length ([] ++ x1)) : Bool), true), ((true : Bool), true), ((Nat.ble (((2 : Nat) * ((0 : Nat) + List.length x1) + (192 : Nat)) * (32 : Nat)) (281474976710656 : Nat) && Nat.ble ((0 : Nat) + List.length x1) (281474976710656 : Nat) : Bool), true), ((Nat.ble ((0 : Nat) + List.length x1) (0 : Nat) : Bool), false), ((Nat.beq (List.length x1) (0 : Nat) : Bool), false), (Option.isSome (f18 ((x0, (x0', ())), ())), true), ((!leF (↑(List.length x1) : Int) (8 : Int) : Bool), false), ((!r0.fst : Bool), false), ((!r0.fst : Bool), false), ((!r0.fst : Bool), false), ((!r0.fst : Bool), false), (Option.isSome (f16 ((x0, (x0', ())), ())), true), ((false : Bool), false), ((true : Bool), true)])) := by kernel_rfl
theorem e10_14 (x0 : Int) (x0' : (List Int)) (x1 : (List ((Int × (Int × Unit)) × ((Int × (Int × Unit)) × Unit)))) (x2 : Int) : runPure kl10_2.orc Go.Proofs.Try.prog 400 10 as10 rs10 ((x0, x0', ()), x1, x2, ()) [true, false, true, false, false, false, false, false, true, false, false, true, true, true, true, true, true, true, false, false, false, false, false, false, true, false, true, false, false, true] =
    (let r0 : Bool × PUnit := g16 ((x0, (x0', ())), ()); let r1 : (Int × List Int × PUnit) × PUnit := g18 ((x0, (x0', ())), ()); let r4 : Int × PUnit := g29 ((x0, (x0', ())), ()); let r5 : Int × PUnit := g64 (x1, ()); let r3 : List Int × Int × PUnit := g62 (((r1.fst.fst : Int), ((r1.fst.snd.fst : List Int), ())), (([] ++ x1 : List ((Int × Int × PUnit) × (Int × Int × PUnit) × PUnit)), ())); let r6 : List Int × PUnit := g65 (x0', (x1, ())); let r9 : Bool × PUnit := g23 ((r3.fst : List Int), ((r6.fst : List Int), ())); some (((false : Bool), ()), [((!r9.fst : Bool), true), ((!eqF r3.snd.fst (0 : Int) : Bool), false), ((!eqF r3.snd.fst (0 : Int) : Bool), false), (Option.isSome (f23 ((r3.fst : List Int), ((r6.fst : List Int), ()))), true), ((!eqF r3.snd.fst (0 : Int) : Bool), false), (Option.isSome (f65 (x0', (x1, ()))), true), ((!eqF r3.snd.fst (0 : Int) : Bool), false), ((!eqF r3.snd.fst (0 : Int) : Bool), false), ((!eqF r3.snd.fst (0 : Int) : Bool), false), ((!eqF r3.snd.fst (0 : Int) : Bool), false), ((!eqF r3.snd.fst (0 : Int) : Bool), false), ((!eqF r5.fst (0 : Int) : Bool), false), (Option.isSome (f64 (x1, ())), true), ((eqF r4.fst (0 : Int) : Bool), true), (Option.isSome (f29 ((x0, (x0', ())), ())), true), (Option.isSome (f62 (((r1.fst.fst : Int), ((r1.fst.snd.fst : List Int), ())), (([] ++ x1 : List ((Int × Int × PUnit) × (Int × Int × PUnit) × PUnit)), ()))), true), ((Nat.beq ((0 : Nat) + List.length x1) (List.length ([] ++ x1)) : Bool), true), ((true : Bool), true), ((Nat.ble (((2 : Nat) * ((0 : Nat) + List.length x1) + (192 : Nat)) * (32 : Nat)) (281474976710656 : Nat) && Nat.ble ((0 : Nat) + List.length x1) (281474976710656 : Nat) : Bool), true), ((Nat.ble ((0 : Nat) + List.length x1) (0 : Nat) : Bool), false), ((Nat.beq (List.length x1) (0 : Nat) : Bool), false), (Option.isSome (f18 ((x0, (x0', ())), ())), true), ((!leF (↑(List.length x1) : Int) (8 : Int) : Bool), false), ((!r0.fst : Bool), false), ((!r0.fst : Bool), false), ((!r0.fst : Bool), false), ((!r0.fst : Bool), false), (Option.isSome (f16 ((x0, (x0', ())), ())), true), ((false : Bool), false), ((true : Bool), true)])) := by kernel_rfl
theorem e10_15 (x0 : Int) (x0' : (List Int)) (x1 : (List ((Int × (Int × Unit)) × ((Int × (Int × Unit)) × Unit)))) (x2 : Int) : runPure kl10_2.orc Go.Proofs.Try.prog 400 10 as10 rs10 ((x0, x0', ()), x1, x2, ()) [true, false, true, false, false, false, false, false, true, false, false, true, true, true, true, true, true, true, false, false, false, false, false, false, true, false, true, false, false, false, true, true] =
    (let r0 : Bool × PUnit := g16 ((x0, (x0', ())), ()); let r1 : (Int × List Int × PUnit) × PUnit := g18 ((x0, (x0', ())), ()); let r4 : Int × PUnit := g29 ((x0, (x0', ())), ()); let r5 : Int × PUnit := g64 (x1, ()); let r3 : List Int × Int × PUnit := g62 (((r1.fst.fst : Int), ((r1.fst.snd.fst : List Int), ())), (([] ++ x1 : List ((Int × Int × PUnit) × (Int × Int × PUnit) × PUnit)), ())); let r6 : List Int × PUnit := g65 (x0', (x1, ())); let r9 : Bool × PUnit := g23 ((r3.fst : List Int), ((r6.fst : List Int), ())); let r8 : Bool × PUnit := g47 (x2, ((0 : Int), ((100 : Int), ()))); some (((true : Bool), ()), [((!r8.fst : Bool), true), (Option.isSome (f47 (x2, ((0 : Int), ((100 : Int), ())))), true), ((!r9.fst : Bool), false), ((!eqF r3.snd.fst (0 : Int) : Bool), false), ((!eqF r3.snd.fst (0 : Int) : Bool), false), (Option.isSome (f23 ((r3.fst : List Int), ((r6.fst : List Int), ()))), true), ((!eqF r3.snd.fst (0 : Int) : Bool), false), (Option.isSome (f65 (x0', (x1, ()))), true), ((!eqF r3.snd.fst (0 : Int) : Bool), false), ((!eqF r3.snd.fst (0 : Int) : Bool), false), ((!eqF r3.snd.fst (0 : Int) : Bool), false), ((!eqF r3.snd.fst (0 : Int) : Bool), false), ((!eqF r3.snd.fst (0 : Int) : Bool), false), ((!eqF r5.fst (0 : Int) : Bool), false), (Option.isSome (f64 (x1, ())), true), ((eqF r4.fst (0 : Int) : Bool), true), (Option.isSome (f29 ((x0, (x0', ())), ())), true), (Option.isSome (f62 (((r1.fst.fst : Int), ((r1.fst.snd.fst : List Int), ())), (([] ++ x1 : List ((Int × Int × PUnit) × (Int × Int × PUnit) × PUnit)), ()))), true), ((Nat.beq ((0 : Nat) + List.length x1) (List.length ([] ++ x1)) : Bool), true), ((true : Bool), true), ((Nat.ble (((2 : Nat) * ((0 : Nat) + List.length x1) + (192 : Nat)) * (32 : Nat)) (281474976710656 : Nat) && Nat.ble ((0 : Nat) + List.length x1) (281474976710656 : Nat) : Bool), true), ((Nat.ble ((0 : Nat) + List.length x1) (0 : Nat) : Bool), false), ((Nat.beq (List.length x1) (0 : Nat) : Bool), false), (Option.isSome (f18 ((x0, (x0', ())), ())), true), ((!leF (↑(List.length x1) : Int) (8 : Int) : Bool), false), ((!r0.fst : Bool), false), ((!r0.fst : Bool), false), ((!r0.fst : Bool), false), ((!r0.fst : Bool), false), (Option.isSome (f16 ((x0, (x0', ())), ())), true), ((false : Bool), false), ((true : Bool), true)])) := by kernel_rfl
theorem e10_16 (x0 : Int) (x0' : (List Int)) (x1 : (List ((Int × (Int × Unit)) × ((Int × (Int × Unit)) × Unit)))) (x2 : Int) : runPure kl10_2.orc Go.Proofs.Try.prog 400 10 as10 rs10 ((x0, x0', ()), x1, x2, ()) [true, false, true, false, false, false, false, false, true, false, false, true, true, true, true, true, true, true, false, false, false, false, false, false, true, false, true, false, false, false, true, false, false, false, true, true, true, true, true, true, true, true] =
    (let r0 : Bool × PUnit := g16 ((x0, (x0', ())), ()); let r1 : (Int × List Int × PUnit) × PUnit := g18 ((x0, (x0', ())), ()); let r4 : Int × PUnit := g29 ((x0, (x0', ())), ()); let r5 : Int × PUnit := g64 (x1, ()); let r3 : List Int × Int × PUnit := g62 (((r1.fst.fst : Int), ((r1.fst.snd.fst : List Int), ())), (([] ++ x1 : List ((Int × Int × PUnit) × (Int × Int × PUnit) × PUnit)), ())); let r6 : List Int × PUnit := g65 (x0', (x1, ())); let r9 : Bool × PUnit := g23 ((r3.fst : List Int), ((r6.fst : List Int), ())); let r8 : Bool × PUnit := g47 (x2, ((0 : Int), ((100 : Int), ()))); let r10 : (List Int × Nat × PUnit) × (Int × List Int × PUnit) × List ((Int × Int × PUnit) × (Int × Int × PUnit) × PUnit) × PUnit := b10_0 ((x2, ((r3.fst : List Int), (((0 : Nat) + List.length x1 : Nat), ((0 : Int), ())))), ((x0, (x0', ())), (([] ++ x1 : List ((Int × Int × PUnit) × (Int × Int × PUnit) × PUnit)), ()))); let r11 : (Int × List Int × PUnit) × PUnit := g18 (((r10.snd.fst.fst : Int), ((r10.snd.fst.snd.fst : List Int), ())), ()); let r12 : List Int × Int × PUnit := g62 (((r11.fst.fst : Int), ((r11.fst.snd.fst : List Int), ())), ((r10.snd.snd.fst : List ((Int × Int × PUnit) × (Int × Int × PUnit) × PUnit)), ())); some (((false : Bool), ()), [((!eqF r12.snd.fst (0 : Int) : Bool), true), (Option.isSome (f62 (((r11.fst.fst : Int), ((r11.fst.snd.fst : List Int), ())), ((r10.snd.snd.fst : List ((Int × Int × PUnit) × (Int × Int × PUnit) × PUnit)), ()))), true), ((Nat.beq r10.fst.snd.fst (List.length r10.snd.snd.fst) : Bool), true), (Option.isSome (f18 (((r10.snd.fst.fst : Int), ((r10.snd.fst.snd.fst : List Int), ())), ())), true), ((true : Bool), true), (isBrk (l10_0 ((x2, ((r3.fst : List Int), (((0 : Nat) + List.length x1 : Nat), ((0 : Int), ())))), ((x0, (x0', ())), (([] ++ x1 : List ((Int × Int × PUnit) × (Int × Int × PUnit) × PUnit)), ())))), true), ((true : Bool), true), ((Nat.ble (((2 : Nat) * ((0 : Nat) + List.length x1) + (192 : Nat)) * (32 : Nat)) (281474976710656 : Nat) && Nat.ble ((0 : Nat) + List.length x1) (281474976710656 : Nat) : Bool), true), ((Nat.ble ((0 : Nat) + List.length x1) (0 : Nat) : Bool), false), ((Nat.beq (List.length x1) (0 : Nat) : Bool), false), ((!r8.fst : Bool), false), (Option.isSome (f47 (x2, ((0 : Int), ((100 : Int), ())))), true), ((!r9.fst : Bool), false), ((!eqF r3.snd.fst (0 : Int) : Bool), false), ((!eqF r3.snd.fst (0 : Int) : Bool), false), (Option.isSome (f23 ((r3.fst : List Int), ((r6.fst : List Int), ()))), true), ((!eqF r3.snd.fst (0 : Int) : Bool), false), (Option.isSome (f65 (x0', (x1, ()))), true), ((!eqF r3.snd.fst (0 : Int) : Bool), false), ((!eqF r3.snd.fst (0 : Int) : Bool), false), ((!eqF r3.snd.fst (0 : Int) : Bool), false), ((!eqF r3.snd.fst (0 : Int) : Bool), false), ((!eqF r3.snd.fst (0 : Int) : Bool), false), ((!eqF r5.fst (0 : Int) : Bool), false), (Option.isSome (f64 (x1, ())), true), ((eqF r4.fst (0 : Int) : Bool), true), (Option.isSome (f29 ((x0, (x0', ())), ())), true), (Option.isSome (f62 (((r1.fst.fst : Int), ((r1.fst.snd.fst : List Int), ())), (([] ++ x1 : List ((Int × Int × PUnit) × (Int × Int × PUnit) × PUnit)), ()))), true), ((Nat.beq ((0 : Nat) + List.length x1) (List.length ([] ++ x1)) : Bool), true), ((true : Bool), true), ((Nat.ble (((2 : Nat) * ((0 : Nat) + List.length x1) + (192 : Nat)) * (32 : Nat)) (281474976710656 : Nat) && Nat.ble ((0 : Nat) + List.length x1) (281474976710656 : Nat) : Bool), true), ((Nat.ble ((0 : Nat) + List.length x1) (0 : Nat) : Bool), false), ((Nat.beq (List.length x1) (0 : Nat) : Bool), false), (Option.isSome (f18 ((x0, (x0', ())), ())), true), ((!leF (↑(List.length x1) : Int) (8 : Int) : Bool), false), ((!r0.fst : Bool), false), ((!r0.fst : Bool), false), ((!r0.fst : Bool), false), ((!r0.fst : Bool), false), (Option.isSome (f16 ((x0, (x0', ())), ())), true), ((false : Bool), false), ((true : Bool), true)])) := by kernel_rfl
theorem e10_17 (x0 : Int) (x0' : (List Int)) (x1 : (List ((Int × (Int × Unit)) × ((Int × (Int × Unit)) × Unit)))) (x2 : Int) : runPure kl10_2.orc Go.Proofs.Try.prog 400 10 as10 rs10 ((x0, x0', ()), x1, x2, ()) [true, false, true, false, false, false, false, false, true, false, false, true, true, true, true, true, true, true, false, false, false, false, false, false, true, false, true, false, false, false, true, false, false, false, true, true, true, true, true, true, true, false, true, true] =
    (let r0 : Bool × PUnit := g16 ((x0, (x0', ())), ()); let r1 : (Int × List Int × PUnit) × PUnit := g18 ((x0, (x0', ())), ()); let r4 : Int × PUnit := g29 ((x0, (x0', ())), ()); let r5 : Int × PUnit := g64 (x1, ()); let r3 : List Int × Int × PUnit := g62 (((r1.fst.fst : Int), ((r1.fst.snd.fst : List Int), ())), (([] ++ x1 : List ((Int × Int × PUnit) × (Int × Int × PUnit) × PUnit)), ())); let r6 : List Int × PUnit := g65 (x0', (x1, ())); let r9 : Bool × PUnit := g23 ((r3.fst : List Int), ((r6.fst : List Int), ())); let r8 : Bool × PUnit := g47 (x2, ((0 : Int), ((100 : Int), ()))); let r10 : (List Int × Nat × PUnit) × (Int × List Int × PUnit) × List ((Int × Int × PUnit) × (Int × Int × PUnit) × PUnit) × PUnit := b10_0 ((x2, ((r3.fst : List Int), (((0 : Nat) + List.length x1 : Nat), ((0 : Int), ())))), ((x0, (x0', ())), (([] ++ x1 : List ((Int × Int × PUnit) × (Int × Int × PUnit) × PUnit)), ()))); let r11 : (Int × List Int × PUnit) × PUnit := g18 (((r10.snd.fst.fst : Int), ((r10.snd.fst.snd.fst : List Int), ())), ()); let r12 : List Int × Int × PUnit := g62 (((r11.fst.fst : Int), ((r11.fst.snd.fst : List Int), ())), ((r10.snd.snd.fst : List ((Int × Int × PUnit) × (Int × Int × PUnit) × PUnit)), ())); let r14 : (Bool × PUnit) × PUnit := r10_2 (((r10.fst.fst : List Int), ((r12.fst : List Int), ((0 : Int), ()))), ()); some (((r14.fst.fst : Bool), ()), [(isRet (l10_2 (((r10.fst.fst : List Int), ((r12.fst : List Int), ((0 : Int), ()))), ())), true), (Option.isSome (l10_2 (((r10.fst.fst : List Int), ((r12.fst : List Int), ((0 : Int), ()))), ())), true), ((!eqF r12.snd.fst (0 : Int) : Bool), false), (Option.isSome (f62 (((r11.fst.fst : Int), ((r11.fst.snd.fst : List Int), ())), ((r10.snd.snd.fst : List ((Int × Int × PUnit) × (Int × Int × PUnit) × PUnit)), ()))), true), ((Nat.beq r10.fst.snd.fst (List.length r10.snd.snd.fst) : Bool), true), (Option.isSome (f18 (((r10.snd.fst.fst : Int), ((r10.snd.fst.snd.fst : List Int), ())), ())), true), ((true : Bool), true), (isBrk (l10_0 ((x2, ((r3.fst : List Int), (((0 : Nat) + List.length x1 : Nat), ((0 : Int), ())))), ((x0, (x0', ())), (([] ++ x1 : List ((Int × Int × PUnit) × (Int × Int × PUnit) × PUnit)), ())))), true), ((true : Bool), true), ((Nat.ble (((2 : Nat) * ((0 : Nat) + List.length x1) + (192 : Nat)) * (32 : Nat)) (281474976710656 : Nat) && Nat.ble ((0 : Nat) + List.length x1) (281474976710656 : Nat) : Bool), true), ((Nat.ble ((0 : Nat) + List.length x1) (0 : Nat) : Bool), false), ((Nat.beq (List.length x1) (0 : Nat) : Bool), false), ((!r8.fst : Bool), false), (Option.isSome (f47 (x2, ((0 : Int), ((100 : Int), ())))), true), ((!r9.fst : Bool), false), ((!eqF r3.snd.fst (0 : Int) : Bool), false), ((!eqF r3.snd.fst (0 : Int) : Bool), false), (Option.isSome (f23 ((r3.fst : List Int), ((r6.fst : List Int), ()))), true), ((!eqF r3.snd.fst (0 : Int) : Bool), false), (Option.isSome (f65 (x0', (x1, ()))), true), ((!eqF r3.snd.fst (0 : Int) : Bool), false), ((!eqF r3.snd.fst (0 : Int) : Bool), false), ((!eqF r3.snd.fst (0 : Int) : Bool), false), ((!eqF r3.snd.fst (0 : Int) : Bool), false), ((!eqF r3.snd.fst (0 : Int) : Bool), false), ((!eqF r5.fst (0 : Int) : Bool), false), (Option.isSome (f64 (x1, ())), true), ((eqF r4.fst (0 : Int) : Bool), true), (Option.isSome (f29 ((x0, (x0', ())), ())), true), (Option.isSome (f62 (((r1.fst.fst : Int), ((r1.fst.snd.fst : List Int), ())), (([] ++ x1 : List ((Int × Int × PUnit) × (Int × Int × PUnit) × PUnit)), ()))), true), ((Nat.beq ((0 : Nat) + List.length x1) (List.length ([] ++ x1)) : Bool), true), ((true : Bool), true), ((Nat.ble (((2 : Nat) * ((0 : Nat) + List.length x1) + (192 : Nat)) * (32 : Nat)) (281474976710656 : Nat) && Nat.ble ((0 : Nat) + List.length x1) (281474976710656 : Nat) : Bool), true), ((Nat.ble ((0 : Nat) + List.length x1) (0 : Nat) : Bool), false), ((Nat.beq (List.length x1) (0 : Nat) : Bool), false), (Option.isSome (f18 ((x0, (x0', ())), ())), true), ((!leF (↑(List.length x1) : Int) (8 : Int) : Bool), false), ((!r0.fst : Bool), false), ((!r0.fst : Bool), false), ((!r0.fst : Bool), false), ((!r0.fst : Bool), false), (Option.isSome (f16 ((x0, (x0', ())), ())), true), ((false : Bool), false), ((true : Bool), true)])) := by kernel_rfl
theorem e10_18 (x0 : Int) (x0' : (List Int)) (x1 : (List ((Int × (Int × Unit)) × ((Int × (Int × Unit)) × Unit)))) (x2 : Int) : runPure kl10_2.orc Go.Proofs.Try.prog 400 10 as10 rs10 ((x0, x0', ()), x1, x2, ()) [true, false, true, false, false, false, false, false, true, false, false, true, true, true, true, true, true, true, false, false, false, false, false, false, true, false, true, false, false, false, true, false, false, false, true, true, true, true, true, true, true, false, true, false] =
    (let r0 : Bool × PUnit := g16 ((x0, (x0', ())), ()); let r1 : (Int × List Int × PUnit) × PUnit := g18 ((x0, (x0', ())), ()); let r4 : Int × PUnit := g29 ((x0, (x0', ())), ()); let r5 : Int × PUnit := g64 (x1, ()); let r3 : List Int × Int × PUnit := g62 (((r1.fst.fst : Int), ((r1.fst.snd.fst : List Int), ())), (([] ++ x1 : List ((Int × Int × PUnit) × (Int × Int × PUnit) × PUnit)), ())); let r6 : List Int × PUnit := g65 (x0', (x1, ())); let r9 : Bool × PUnit := g23 ((r3.fst : List Int), ((r6.fst : List Int), ())); let r8 : Bool × PUnit := g47 (x2, ((0 : Int), ((100 : Int), ()))); let r10 : (List Int × Nat × PUnit) × (Int × List Int × PUnit) × List ((Int × Int × PUnit) × (Int × Int × PUnit) × PUnit) × PUnit := b10_0 ((x2, ((r3.fst : List Int), (((0 : Nat) + List.length x1 : Nat), ((0 : Int), ())))), ((x0, (x0', ())), (([] ++ x1 : List ((Int × Int × PUnit) × (Int × Int × PUnit) × PUnit)), ()))); let r11 : (Int × List Int × PUnit) × PUnit := g18 (((r10.snd.fst.fst : Int), ((r10.snd.fst.snd.fst : List Int), ())), ()); let r12 : List Int × Int × PUnit := g62 (((r11.fst.fst : Int), ((r11.fst.snd.fst : List Int), ())), ((r10.snd.snd.fst : List ((Int × Int × PUnit) × (Int × Int × PUnit) × PUnit)), ())); some (((true : Bool), ()), [(isRet (l10_2 (((r10.fst.fst : List Int), ((r12.fst : List Int), ((0 : Int), ()))), ())), false), (Option.isSome (l10_2 (((r10.fst.fst : List Int), ((r12.fst : List Int), ((0 : Int), ()))), ())), true), ((!eqF r12.snd.fst (0 : Int) : Bool), false), (Option.isSome (f62 (((r11.fst.fst : Int), ((r11.fst.snd.fst : List Int), ())), ((r10.snd.snd.fst : List ((Int × Int × PUnit) × (Int × Int × PUnit) × PUnit)), ()))), true), ((Nat.beq r10.fst.snd.fst (List.length r10.snd.snd.fst) : Bool), true), (Option.isSome (f18 (((r10.snd.fst.fst : Int), ((r10.snd.fst.snd.fst : List Int), ())), ())), true), ((true : Bool), true), (isBrk (l10_0 ((x2, ((r3.fst : List Int), (((0 : Nat) + List.length x1 : Nat), ((0 : Int), ())))), ((x0, (x0', ())), (([] ++ x1 : List ((Int × Int × PUnit) × (Int × Int × PUnit) × PUnit)), ())))), true), ((true : Bool), true), ((Nat.ble (((2 : Nat) * ((0 : Nat) + List.length x1) + (192 : Nat)) * (32 : Nat)) (281474976710656 : Nat) && Nat.ble ((0 : Nat) + List.length x1) (281474976710656 : Nat) : Bool), true), ((Nat.ble ((0 : Nat) + List.length x1) (0 : Nat) : Bool), false), ((Nat.beq (List.length x1) (0 : Nat) : Bool), false), ((!r8.fst : Bool), false), (Option.isSome (f47 (x2, ((0 : Int), ((100 : Int), ())))), true), ((!r9.fst : Bool), false), ((!eqF r3.snd.fst (0 : Int) : Bool), false), ((!eqF r3.snd.fst (0 : Int) : Bool), false), (Option.isSome (f23 ((r3.fst : List Int), ((r6.fst : List Int), ()))), true), ((!eqF r3.snd.fst (0 : Int) : Bool), false), (Option.isSome (f65 (x0', (x1, ()))), true), ((!eqF r3.snd.fst (0 : Int) : Bool), false), ((!eqF r3.snd.fst (0 : Int) : Bool), false), ((!eqF r3.snd.fst (0 : Int) : Bool), false), ((!eqF r3.snd.fst (0 : Int) : Bool), false), ((!eqF r3.snd.fst (0 : Int) : Bool), false), ((!eqF r5.fst (0 : Int) : Bool), false), (Option.isSome (f64 (x1, ())), true), ((eqF r4.fst (0 : Int) : Bool), true), (Option.isSome (f29 ((x0, (x0', ())), ())), true), (Option.isSome (f62 (((r1.fst.fst : Int), ((r1.fst.snd.fst : List Int), ())), (([] ++ x1 : List ((Int × Int × PUnit) × (Int × Int × PUnit) × PUnit)), ()))), true), ((Nat.beq ((0 : Nat) + List.length x1) (List.length ([] ++ x1)) : Bool), true), ((true : Bool), true), ((Nat.ble (((2 : Nat) * ((0 : Nat) + List.length x1) + (192 : Nat)) * (32 : Nat)) (281474976710656 : Nat) && Nat.ble ((0 : Nat) + List.length x1) (281474976710656 : Nat) : Bool), true), ((Nat.ble ((0 : Nat) + List.length x1) (0 : Nat) : Bool), false), ((Nat.beq (List.length x1) (0 : Nat) : Bool), false), (Option.isSome (f18 ((x0, (x0', ())), ())), true), ((!leF (↑(List.length x1) : Int) (8 : Int) : Bool), false), ((!r0.fst : Bool), false), ((!r0.fst : Bool), false), ((!r0.fst : Bool), false), ((!r0.fst : Bool), false), (Option.isSome (f16 ((x0, (x0', ())), ())), true), ((false : Bool), false), ((true : Bool), true)])) := by kernel_rfl
theorem e10_19 (x0 : Int) (x0' : (List Int)) (x1 : (List ((Int × (Int × Unit)) × ((Int × (Int × Unit)) × Unit)))) (x2 : Int) : runPure kl10_2.orc Go.Proofs.Try.prog 400 10 as10 rs10 ((x0, x0', ()), x1, x2, ()) [true, false, true, false, false, false, false, false, true, false, false, true, true, true, true, true, true, true, false, false, false, false, false, false, true, false, true, false, false, false, true, false, false, false, true, true, true, true, true, false, true, true, true] =
    (let r0 : Bool × PUnit := g16 ((x0, (x0', ())), ()); let r1 : (Int × List Int × PUnit) × PUnit := g18 ((x0, (x0', ())), ()); let r4 : Int × PUnit := g29 ((x0, (x0', ())), ()); let r5 : Int × PUnit := g64 (x1, ()); let r3 : List Int × Int × PUnit := g62 (((r1.fst.fst : Int), ((r1.fst.snd.fst : List Int), ())), (([] ++ x1 : List ((Int × Int × PUnit) × (Int × Int × PUnit) × PUnit)), ())); let r6 : List Int × PUnit := g65 (x0', (x1, ())); let r9 : Bool × PUnit := g23 ((r3.fst : List Int), ((r6.fst : List Int), ())); let r8 : Bool × PUnit := g47 (x2, ((0 : Int), ((100 : Int), ()))); let r10 : (List Int × Nat × PUnit) × (Int × List Int × PUnit) × List ((Int × Int × PUnit) × (Int × Int × PUnit) × PUnit) × PUnit := b10_0 ((x2, ((r3.fst : List Int), (((0 : Nat) + List.length x1 : Nat), ((0 : Int), ())))), ((x0, (x0', ())), (([] ++ x1 : List ((Int × Int × PUnit) × (Int × Int × PUnit) × PUnit)), ()))); let r11 : (Int × List Int × PUnit) × PUnit := g18 (((r10.snd.fst.fst : Int), ((r10.snd.fst.snd.fst : List Int), ())), ()); let r13 : List Int × Int × PUnit := g62 (((r11.fst.fst : Int), ((r11.fst.snd.fst : List Int), ())), ((List.take r10.fst.snd.fst r10.snd.snd.fst : List ((Int × Int × PUnit) × (Int × Int × PUnit) × PUnit)), ())); some (((false : Bool), ()), [((!eqF r13.snd.fst (0 : Int) : Bool), true), (Option.isSome (f62 (((r11.fst.fst : Int), ((r11.fst.snd.fst : List Int), ())), ((List.take r10.fst.snd.fst r10.snd.snd.fst : List ((Int × Int × PUnit) × (Int × Int × PUnit) × PUnit)), ()))), true), ((Nat.ble r10.fst.snd.fst (List.length r10.snd.snd.fst) : Bool), true), ((Nat.beq r10.fst.snd.fst (List.length r10.snd.snd.fst) : Bool), false), (Option.isSome (f18 (((r10.snd.fst.fst : Int), ((r10.snd.fst.snd.fst : List Int), ())), ())), true), ((true : Bool), true), (isBrk (l10_0 ((x2, ((r3.fst : List Int), (((0 : Nat) + List.length x1 : Nat), ((0 : Int), ())))), ((x0, (x0', ())), (([] ++ x1 : List ((Int × Int × PUnit) × (Int × Int × PUnit) × PUnit)), ())))), true), ((true : Bool), true), ((Nat.ble (((2 : Nat) * ((0 : Nat) + List.length x1) + (192 : Nat)) * (32 : Nat)) (281474976710656 : Nat) && Nat.ble ((0 : Nat) + List.length x1) (281474976710656 : Nat) : Bool), true), ((Nat.ble ((0 : Nat) + List.length x1) (0 : Nat) : Bool), false), ((Nat.beq (List.length x1) (0 : Nat) : Bool), false), ((!r8.fst : Bool), false), (Option.isSome (f47 (x2, ((0 : Int), ((100 : Int), ())))), true), ((!r9.fst : Bool), false), ((!eqF r3.snd.fst (0 : Int) : Bool), false), ((!eqF r3.snd.fst (0 : Int) : Bool), false), (Option.isSome (f23 ((r3.fst : List Int), ((r6.fst : List Int), ()))), true), ((!eqF r3.snd.fst (0 : Int) : Bool), false), (Option.isSome (f65 (x0', (x1, ()))), true), ((!eqF r3.snd.fst (0 : Int) : Bool), false), ((!eqF r3.snd.fst (0 : Int) : Bool), false), ((!eqF r3.snd.fst (0 : Int) : Bool), false), ((!eqF r3.snd.fst (0 : Int) : Bool), false), ((!eqF r3.snd.fst (0 : Int) : Bool), false), ((!eqF r5.fst (0 : Int) : Bool), false), (Option.isSome (f64 (x1, ())), true), ((eqF r4.fst (0 : Int) : Bool), true), (Option.isSome (f29 ((x0, (x0', ())), ())), true), (Option.isSome (f62 (((r1.fst.fst : Int), ((r1.fst.snd.fst : List Int), ())), (([] ++ x1 : List ((Int × Int × PUnit) × (Int × Int × PUnit) × PUnit)), ()))), true), ((Nat.beq ((0 : Nat) + List.length x1) (List.length ([] ++ x1)) : Bool), true), ((true : Bool), true), ((Nat.ble (((2 : Nat) * ((0 : Nat) + List.length x1) + (192 : Nat)) * (32 : Nat)) (281474976710656 : Nat) && Nat.ble ((0 : Nat) + List.length x1) (281474976710656 : Nat) : Bool), true), ((Nat.ble ((0 : Nat) + List.length x1) (0 : Nat) : Bool), false), ((Nat.beq (List.length x1) (0 : Nat) : Bool), false), (Option.isSome (f18 ((x0, (x0', ())), ())), true), ((!leF (↑(List.length x1) : Int) (8 : Int) : Bool), false), ((!r0.fst : Bool), false), ((!r0.fst : Bool), false), ((!r0.fst : Bool), false), ((!r0.fst : Bool), false), (Option.isSome (f16 ((x0, (x0', ())), ())), true), ((false : Bool), false), ((true : Bool), true)])) := by kernel_rfl
theorem e10_20 (x0 : Int) (x0' : (List Int)) (x1 : (List ((Int × (Int × Unit)) × ((Int × (Int × Unit)) × Unit)))) (x2 : Int) : runPure kl10_2.orc Go.Proofs.Try.prog 400 10 as10 rs10 ((x0, x0', ()), x1, x2, ()) [true, false, true, false, false, false, false, false, true, false, false, true, true, true, true, true, true, true, false, false, false, false, false, false, true, false, true, false, false, false, true, false, false, false, true, true, true, true, true, false, true, true, false, true, true] =
    (let r0 : Bool × PUnit := g16 ((x0, (x0', ())), ()); let r1 : (Int × List Int × PUnit) × PUnit := g18 ((x0, (x0', ())), ()); let r4 : Int × PUnit := g29 ((x0, (x0', ())), ()); let r5 : Int × PUnit := g64 (x1, ()); let r3 : List Int × Int × PUnit := g62 (((r1.fst.fst : Int), ((r1.fst.snd.fst : List Int), ())), (([] ++ x1 : List ((Int × Int × PUnit) × (Int × Int × PUnit) × PUnit)), ())); let r6 : List Int × PUnit := g65 (x0', (x1, ())); let r9 : Bool × PUnit := g23 ((r3.fst : List Int), ((r6.fst : List Int), ())); let r8 : Bool × PUnit := g47 (x2, ((0 : Int), ((100 : Int), ()))); let r10 : (List Int × Nat × PUnit) × (Int × List Int × PUnit) × List ((Int × Int × PUnit) × (Int × Int × PUnit) × PUnit) × PUnit := b10_0 ((x2, ((r3.fst : List Int), (((0 : Nat) + List.length x1 : Nat), ((0 : Int), ())))), ((x0, (x0', ())), (([] ++ x1 : List ((Int × Int × PUnit) × (Int × Int × PUnit) × PUnit)), ()))); let r11 : (Int × List Int × PUnit) × PUnit := g18 (((r10.snd.fst.fst : Int), ((r10.snd.fst.snd.fst : List Int), ())), ()); let r13 : List Int × Int × PUnit := g62 (((r11.fst.fst : Int), ((r11.fst.snd.fst : List Int), ())), ((List.take r10.fst.snd.fst r10.snd.snd.fst : List ((Int × Int × PUnit) × (Int × Int × PUnit) × PUnit)), ())); let r15 : (Bool × PUnit) × PUnit := r10_2 (((r10.fst.fst : List Int), ((r13.fst : List Int), ((0 : Int), ()))), ()); some (((r15.fst.fst : Bool), ()), [(isRet (l10_2 (((r10.fst.fst : List Int), ((r13.fst : List Int), ((0 : Int), ()))), ())), true), (Option.isSome (l10_2 (((r10.fst.fst : List Int), ((r13.fst : List Int), ((0 : Int), ()))), ())), true), ((!eqF r13.snd.fst (0 : Int) : Bool), false), (Option.isSome (f62 (((r11.fst.fst : Int), ((r11.fst.snd.fst : List Int), ())), ((List.take r10.fst.snd.fst r10.snd.snd.fst : List ((Int × Int × PUnit) × (Int × Int × PUnit) × PUnit)), ()))), true), ((Nat.ble r10.fst.snd.fst (List.length r10.snd.snd.fst) : Bool), true), ((Nat.beq r10.fst.snd.fst (List.length r10.snd.snd.fst) : Bool), false), (Option.isSome (f18 (((r10.snd.fst.fst : Int), ((r10.snd.fst.snd.fst : List Int), ())), ())), true), ((true : Bool), true), (isBrk (l10_0 ((x2, ((r3.fst : List Int), (((0 : Nat) + List.length x1 : Nat), ((0 : Int), ())))), ((x0, (x0', ())), (([] ++ x1 : List ((Int × Int × PUnit) × (Int × Int × PUnit) × PUnit)), ())))), true), ((true : Bool), true), ((Nat.ble (((2 : Nat) * ((0 : Nat) + List.length x1) + (192 : Nat)) * (32 : Nat)) (281474976710656 : Nat) && Nat.ble ((0 : Nat) + List.length x1) (281474976710656 : Nat) : Bool), true), ((Nat.ble ((0 : Nat) + List.length x1) (0 : Nat) : Bool), false), ((Nat.beq (List.length x1) (0 : Nat) : Bool), false), ((!r8.fst : Bool), false), (Option.isSome (f47 (x2, ((0 : Int), ((100 : Int), ())))), true), ((!r9.fst : Bool), false), ((!eqF r3.snd.fst (0 : Int) : Bool), false), ((!eqF r3.snd.fst (0 : Int) : Bool), false), (Option.isSome (f23 ((r3.fst : List Int), ((r6.fst : List Int), ()))), true), ((!eqF r3.snd.fst (0 : Int) : Bool), false), (Option.isSome (f65 (x0', (x1, ()))), true), ((!eqF r3.snd.fst (0 : Int) : Bool), false), ((!eqF r3.snd.fst (0 : Int) : Bool), false), ((!eqF r3.snd.fst (0 : Int) : Bool), false), ((!eqF r3.snd.fst (0 : Int) : Bool), false), ((!eqF r3.snd.fst (0 : Int) : Bool), false), ((!eqF r5.fst (0 : Int) : Bool), false), (Option.isSome (f64 (x1, ())), true), ((eqF r4.fst (0 : Int) : Bool), true), (Option.isSome (f29 ((x0, (x0', ())), ())), true), (Option.isSome (f62 (((r1.fst.fst : Int), ((r1.fst.snd.fst : List Int), ())), (([] ++ x1 : List ((Int × Int × PUnit) × (Int × Int × PUnit) × PUnit)), ()))), true), ((Nat.beq ((0 : Nat) + List.length x1) (List.length ([] ++ x1)) : Bool), true), ((true : Bool), true), ((Nat.ble (((2 : Nat) * ((0 : Nat) + List.length x1) + (192 : Nat)) * (32 : Nat)) (281474976710656 : Nat) && Nat.ble ((0 : Nat) + List.length x1) (281474976710656 : Nat) : Bool), true), ((Nat.ble ((0 : Nat) + List.length x1) (0 : Nat) : Bool), false), ((Nat.beq (List.length x1) (0 : Nat) : Bool), false), (Option.isSome (f18 ((x0, (x0', ())), ())), true), ((!leF (↑(List.length x1) : Int) (8 : Int) : Bool), false), ((!r0.fst : Bool), false), ((!r0.fst : Bool), false), ((!r0.fst : Bool), false), ((!r0.fst : Bool), false), (Option.isSome (f16 ((x0, (x0', ())), ())), true), ((false : Bool), false), ((true : Bool), true)])) := by kernel_rfl
theorem e10_21 (x0 : Int) (x0' : (List Int)) (x1 : (List ((Int × (Int × Unit)) × ((Int × (Int × Unit)) × Unit)))) (x2 : Int) : runPure kl10_2.orc Go.Proofs.Try.prog 400 10 as10 rs10 ((x0, x0', ()), x1, x2, ()) [true, false, true, false, false, false, false, false, true, false, false, true, true, true, true, true, true, true, false, false, false, false, false, false, true, false, true, false, false, false, true, false, false, false, true, true, true, true, true, false, true, true, false, true, false] =
    (let r0 : Bool × PUnit := g16 ((x0, (x0', ())), ()); let r1 : (Int × List Int × PUnit) × PUnit := g18 ((x0, (x0', ())), ()); let r4 : Int × PUnit := g29 ((x0, (x0', ())), ()); let r5 : Int × PUnit := g64 (x1, ()); let r3 : List Int × Int × PUnit := g62 (((r1.fst.fst : Int), ((r1.fst.snd.fst : List Int), ())), (([] ++ x1 : List ((Int × Int × PUnit) × (Int × Int × PUnit) × PUnit)), ())); let r6 : List Int × PUnit := g65 (x0', (x1, ())); let r9 : Bool × PUnit := g23 ((r3.fst : List Int), ((r6.fst : List Int), ())); let r8 : Bool × PUnit := g47 (x2, ((0 : Int), ((100 : Int), ()))); let r10 : (List Int × Nat × PUnit) × (Int × List Int × PUnit) × List ((Int × Int × PUnit) × (Int × Int × PUnit) × PUnit) × PUnit := b10_0 ((x2, ((r3.fst : List Int), (((0 : Nat) + List.length x1 : Nat), ((0 : Int), ())))), ((x0, (x0', ())), (([] ++ x1 : List ((Int × Int × PUnit) × (Int × Int × PUnit) × PUnit)), ()))); let r11 : (Int × List Int × PUnit) × PUnit := g18 (((r10.snd.fst.fst : Int), ((r10.snd.fst.snd.fst : List Int), ())), ()); let r13 : List Int × Int × PUnit := g62 (((r11.fst.fst : Int), ((r11.fst.snd.fst : List Int), ())), ((List.take r10.fst.snd.fst r10.snd.snd.fst : List ((Int × Int × PUnit) × (Int × Int × PUnit) × PUnit)), ())); some (((true : Bool), ()), [(isRet (l10_2 (((r10.fst.fst : List Int), ((r13.fst : List Int), ((0 : Int), ()))), ())), false), (Option.isSome (l10_2 (((r10.fst.fst : List Int), ((r13.fst : List Int), ((0 : Int), ()))), ())), true), ((!eqF r13.snd.fst (0 : Int) : Bool), false), (Option.isSome (f62 (((r11.fst.fst : Int), ((r11.fst.snd.fst : List Int), ())), ((List.take r10.fst.snd.fst r10.snd.snd.fst : List ((Int × Int × PUnit) × (Int × Int × PUnit) × PUnit)), ()))), true), ((Nat.ble r10.fst.snd.fst (List.length r10.snd.snd.fst) : Bool), true), ((Nat.beq r10.fst.snd.fst (List.length r10.snd.snd.fst) : Bool), false), (Option.isSome (f18 (((r10.snd.fst.fst : Int), ((r10.snd.fst.snd.fst : List Int), ())), ())), true), ((true : Bool), true), (isBrk (l10_0 ((x2, ((r3.fst : List Int), (((0 : Nat) + List.length x1 : Nat), ((0 : Int), ())))), ((x0, (x0', ())), (([] ++ x1 : List ((Int × Int × PUnit) × (Int × Int × PUnit) × PUnit)), ())))), true), ((true : Bool), true), ((Nat.ble (((2 : Nat) * ((0 : Nat) + List.length x1) + (192 : Nat)) * (32 : Nat)) (281474976710656 : Nat) && Nat.ble ((0 : Nat) + List.length x1) (281474976710656 : Nat) : Bool), true), ((Nat.ble ((0 : Nat) + List.length x1) (0 : Nat) : Bool), false), ((Nat.beq (List.length x1) (0 : Nat) : Bool), false), ((!r8.fst : Bool), false), (Option.isSome (f47 (x2, ((0 : Int), ((100 : Int), ())))), true), ((!r9.fst : Bool), false), ((!eqF r3.snd.fst (0 : Int) : Bool), false), ((!eqF r3.snd.fst (0 : Int) : Bool), false), (Option.isSome (f23 ((r3.fst : List Int), ((r6.fst : List Int), ()))), true), ((!eqF r3.snd.fst (0 : Int) : Bool), false), (Option.isSome (f65 (x0', (x1, ()))), true), ((!eqF r3.snd.fst (0 : Int) : Bool), false), ((!eqF r3.snd.fst (0 : Int) : Bool), false), ((!eqF r3.snd.fst (0 : Int) : Bool), false), ((!eqF r3.snd.fst (0 : Int) : Bool), false), ((!eqF r3.snd.fst (0 : Int) : Bool), false), ((!eqF r5.fst (0 : Int) : Bool), false), (Option.isSome (f64 (x1, ())), true), ((eqF r4.fst (0 : Int) : Bool), true), (Option.isSome (f29 ((x0, (x0', ())), ())), true), (Option.isSome (f62 (((r1.fst.fst : Int), ((r1.fst.snd.fst : List Int), ())), (([] ++ x1 : List ((Int × Int × PUnit) × (Int × Int × PUnit) × PUnit)), ()))), true), ((Nat.beq ((0 : Nat) + List.length x1) (List.length ([] ++ x1)) : Bool), true), ((true : Bool), true), ((Nat.ble (((2 : Nat) * ((0 : Nat) + List.length x1) + (192 : Nat)) * (32 : Nat)) (281474976710656 : Nat) && Nat.ble ((0 : Nat) + List.length x1) (281474976710656 : Nat) : Bool), true), ((Nat.ble ((0 : Nat) + List.length x1) (0 : Nat) : Bool), false), ((Nat.beq (List.length x1) (0 : Nat) : Bool), false), (Option.isSome (f18 ((x0, (x0', ())), ())), true), ((!leF (↑(List.length x1) : Int) (8 : Int) : Bool), false), ((!r0.fst : Bool), false), ((!r0.fst : Bool), false), ((!r0.fst : Bool), false), ((!r0.fst : Bool), false), (Option.isSome (f16 ((x0, (x0', ())), ())), true), ((false : Bool), false), ((true : Bool), true)])) := by kernel_rfl
theorem e10_23 (x0 : Int) (x0' : (List Int)) (x1 : (List ((Int × (Int × Unit)) × ((Int × (Int × Unit)) × Unit)))) (x2 : Int) : runPure kl10_2.orc Go.Proofs.Try.prog 400 10 as10 rs10 ((x0, x0', ()), x1, x2, ()) [true, false, true, false, false, false, false, false, true, false, false, true, true, true, true, true, false, true, true, true, true, true] =
    (let r0 : Bool × PUnit := g16 ((x0, (x0', ())), ()); let r1 : (Int × List Int × PUnit) × PUnit := g18 ((x0, (x0', ())), ()); let r4 : Int × PUnit := g29 ((x0, (x0', ())), ()); let r3 : List Int × Int × PUnit := g62 (((r1.fst.fst : Int), ((r1.fst.snd.fst : List Int), ())), (([] ++ x1 : List ((Int × Int × PUnit) × (Int × Int × PUnit) × PUnit)), ())); some (((eqF (↑(List.length r3.fst) : Int) (0 : Int) : Bool), ()), [((eqF r3.snd.fst r4.fst : Bool), true), ((eqF r3.snd.fst r4.fst : Bool), true), ((eqF r3.snd.fst r4.fst : Bool), true), ((eqF r3.snd.fst r4.fst : Bool), true), ((!eqF r4.fst (0 : Int) : Bool), true), ((eqF r4.fst (0 : Int) : Bool), false), (Option.isSome (f29 ((x0, (x0', ())), ())), true), (Option.isSome (f62 (((r1.fst.fst : Int), ((r1.fst.snd.fst : List Int), ())), (([] ++ x1 : List ((Int × Int × PUnit) × (Int × Int × PUnit) × PUnit)), ()))), true), ((Nat.beq ((0 : Nat) + List.length x1) (List.length ([] ++ x1)) : Bool), true), ((true : Bool), true), ((Nat.ble (((2 : Nat) * ((0 : Nat) + List.length x1) + (192 : Nat)) * (32 : Nat)) (281474976710656 : Nat) && Nat.ble ((0 : Nat) + List.length x1) (281474976710656 : Nat) : Bool), true), ((Nat.ble ((0 : Nat) + List.length x1) (0 : Nat) : Bool), false), ((Nat.beq (List.length x1) (0 : Nat) : Bool), false), (Option.isSome (f18 ((x0, (x0', ())), ())), true), ((!leF (↑(List.length x1) : Int) (8 : Int) : Bool), false), ((!r0.fst : Bool), false), ((!r0.fst : Bool), false), ((!r0.fst : Bool), false), ((!r0.fst : Bool), false), (Option.isSome (f16 ((x0, (x0', ())), ())), true), ((false : Bool), false), ((true : Bool), true)])) := by kernel_rfl
theorem e10_24 (x0 : Int) (x0' : (List Int)) (x1 : (List ((Int × (Int × Unit)) × ((Int × (Int × Unit)) × Unit)))) (x2 : Int) : runPure kl10_2.orc Go.Proofs.Try.prog 400 10 as10 rs10 ((x0, x0', ()), x1, x2, ()) [true, false, true, false, false, false, false, false, true, false, false, true, true, true, true, true, false, true, false, false, false, false] =
    (let r0 : Bool × PUnit := g16 ((x0, (x0', ())), ()); let r1 : (Int × List Int × PUnit) × PUnit := g18 ((x0, (x0', ())), ()); let r4 : Int × PUnit := g29 ((x0, (x0', ())), ()); let r3 : List Int × Int × PUnit := g62 (((r1.fst.fst : Int), ((r1.fst.snd.fst : List Int), ())), (([] ++ x1 : List ((Int × Int × PUnit) × (Int × Int × PUnit) × PUnit)), ())); some (((false : Bool), ()), [((eqF r3.snd.fst r4.fst : Bool), false), ((eqF r3.snd.fst r4.fst : Bool), false), ((eqF r3.snd.fst r4.fst : Bool), false), ((eqF r3.snd.fst r4.fst : Bool), false), ((!eqF r4.fst (0 : Int) : Bool), true), ((eqF r4.fst (0 : Int) : Bool), false), (Option.isSome (f29 ((x0, (x0', ())), ())), true), (Option.isSome (f62 (((r1.fst.fst : Int), ((r1.fst.snd.fst : List Int), ())), (([] ++ x1 : List ((Int × Int × PUnit) × (Int × Int × PUnit) × PUnit)), ()))), true), ((Nat.beq ((0 : Nat) + List.length x1) (List.length ([] ++ x1)) : Bool), true), ((true : Bool), true), ((Nat.ble (((2 : Nat) * ((0 : Nat) + List.length x1) + (192 : Nat)) * (32 : Nat)) (281474976710656 : Nat) && Nat.ble ((0 : Nat) + List.length x1) (281474976710656 : Nat) : Bool), true), ((Nat.ble ((0 : Nat) + List.length x1) (0 : Nat) : Bool), false), ((Nat.beq (List.length x1) (0 : Nat) : Bool), false), (Option.isSome (f18 ((x0, (x0', ())), ())), true), ((!leF (↑(List.length x1) : Int) (8 : Int) : Bool), false), ((!r0.fst : Bool), false), ((!r0.fst : Bool), false), ((!r0.fst : Bool), false), ((!r0.fst : Bool), false), (Option.isSome (f16 ((x0, (x0', ())), ())), true), ((false : Bool), false), ((true : Bool), true)])) := by kernel_rfl

theorem ok10_t (x0 : Int) (x0' : (List Int)) (x1 : (List ((Int × (Int × Unit)) × ((Int × (Int × Unit)) × Unit)))) (x2 : Int) : TrOk (PureRuns Go.Proofs.Try.prog kl10_2.orc 10 as10 rs10 ((x0, x0', ()), x1, x2, ())) (t10 x0 x0' x1 x2) :=
  TrOk.ofTest (fun h2 => TrOk.ofTest (fun h3 => TrOk.ofFin (PureRuns.of (e10_0 x0 x0' x1 x2) (All.cons rfl (All.cons (not_of (of_not (h3))) (All.cons (not_of (of_not (h3))) (All.cons (not_of (of_not (h3))) (All.cons h3 (All.cons h2 (All.cons rfl (All.cons rfl (All.nil))))))))))) (fun h3 => TrOk.ofTest (fun h7 => TrOk.ofFin (PureRuns.of (e10_1 x0 x0' x1 x2) (All.cons h7 (All.cons (not_of (of_not (h3))) (All.cons (not_of (of_not (h3))) (All.cons (not_of (of_not (h3))) (All.cons h3 (All.cons h2 (All.cons rfl (All.cons rfl (All.nil))))))))))) (fun h7 => TrOk.ofTest (fun h8 => TrOk.ofTest (fun h9 => TrOk.ofTest (fun h11 => TrOk.ofTest (fun h12 => TrOk.ofTest (fun h13 => TrOk.ofTest (fun h14 => TrOk.ofTest (fun h15 => TrOk.ofTest (fun h16 => TrOk.ofFin (PureRuns.of (e10_2 x0 x0' x1 x2) (All.cons (h16) (All.cons (h16) (All.cons (h16) (All.cons h16 (All.cons h15 (All.cons h14 (All.cons h13 (All.cons h12 (All.cons h11 (All.cons rfl (All.cons h9 (All.cons h8 (All.cons h7 (All.cons (not_of (of_not (h3))) (All.cons (not_of (of_not (h3))) (All.cons (not_of (of_not (h3))) (All.cons h3 (All.cons h2 (All.cons rfl (All.cons rfl (All.nil))))))))))))))))))))))) (fun h16 => TrOk.ofFin (PureRuns.of (e10_3 x0 x0' x1 x2) (All.cons (h16) (All.cons (h16) (All.cons (h16) (All.cons h16 (All.cons h15 (All.cons h14 (All.cons h13 (All.cons h12 (All.cons h11 (All.cons rfl (All.cons h9 (All.cons h8 (All.cons h7 (All.cons (not_of (of_not (h3))) (All.cons (not_of (of_not (h3))) (All.cons (not_of (of_not (h3))) (All.cons h3 (All.cons h2 (All.cons rfl (All.cons rfl (All.nil)))))))))))))))))))))))) (fun h15 => TrOk.ofTest (fun h16 => TrOk.ofFin (PureRuns.of (e10_4 x0 x0' x1 x2) (All.cons rfl (All.cons (not_of (of_not (h16))) (All.cons (not_of (of_not (h16))) (All.cons (not_of (of_not (h16))) (All.cons (not_of (of_not (h16))) (All.cons (not_of (of_not (h16))) (All.cons (not_of (of_not (h16))) (All.cons (not_of (of_not (h16))) (All.cons h16 (All.cons h15 (All.cons h14 (All.cons h13 (All.cons h12 (All.cons h11 (All.cons rfl (All.cons h9 (All.cons h8 (All.cons h7 (All.cons (not_of (of_not (h3))) (All.cons (not_of (of_not (h3))) (All.cons (not_of (of_not (h3))) (All.cons h3 (All.cons h2 (All.cons rfl (All.cons rfl (All.nil)))))))))))))))))))))))))))) (fun h16 => TrOk.ofTest (fun h21 => TrOk.ofTest (fun h23 => TrOk.ofTest (fun h26 => TrOk.ofFin (PureRuns.of (e10_5 x0 x0' x1 x2) (All.cons h26 (All.cons (not_of (of_not (h16))) (All.cons (not_of (of_not (h16))) (All.cons h23 (All.cons (not_of (of_not (h16))) (All.cons h21 (All.cons (not_of (of_not (h16))) (All.cons (not_of (of_not (h16))) (All.cons (not_of (of_not (h16))) (All.cons (not_of (of_not (h16))) (All.cons h16 (All.cons h15 (All.cons h14 (All.cons h13 (All.cons h12 (All.cons h11 (All.cons rfl (All.cons h9 (All.cons h8 (All.cons h7 (All.cons (not_of (of_not (h3))) (All.cons (not_of (of_not (h3))) (All.cons (not_of (of_not (h3))) (All.cons h3 (All.cons h2 (All.cons rfl (All.cons rfl (All.nil)))))))))))))))))))))))))))))) (fun h26 => TrOk.ofTest (fun h27 => TrOk.ofTest (fun h28 => TrOk.ofFin (PureRuns.of (e10_6 x0 x0' x1 x2) (All.cons h28 (All.cons h27 (All.cons h26 (All.cons (not_of (of_not (h16))) (All.cons (not_of (of_not (h16))) (All.cons h23 (All.cons (not_of (of_not (h16))) (All.cons h21 (All.cons (not_of (of_not (h16))) (All.cons (not_of (of_not (h16))) (All.cons (not_of (of_not (h16))) (All.cons (not_of (of_not (h16))) (All.cons h16 (All.cons h15 (All.cons h14 (All.cons h13 (All.cons h12 (All.cons h11 (All.cons rfl (All.cons h9 (All.cons h8 (All.cons h7 (All.cons (not_of (of_not (h3))) (All.cons (not_of (of_not (h3))) (All.cons (not_of (of_not (h3))) (All.cons h3 (All.cons h2 (All.cons rfl (All.cons rfl (All.nil)))))))))))))))))))))))))))))))) (fun h28 => TrOk.ofStop)) (fun h27 => TrOk.ofStop))) (fun h23 => TrOk.ofStop)) (fun h21 => TrOk.ofStop)))) (fun h14 => TrOk.ofStop)) (fun h13 => TrOk.ofTest (fun h15 => TrOk.ofFin (PureRuns.of (e10_8 x0 x0' x1 x2) (All.cons (h15) (All.cons (h15) (All.cons (h15) (All.cons h15 (All.cons (not_of (h13)) (All.cons h13 (All.cons h12 (All.cons h11 (All.cons rfl (All.cons h9 (All.cons h8 (All.cons h7 (All.cons (not_of (of_not (h3))) (All.cons (not_of (of_not (h3))) (All.cons (not_of (of_not (h3))) (All.cons h3 (All.cons h2 (All.cons rfl (All.cons rfl (All.nil)))))))))))))))))))))) (fun h15 => TrOk.ofFin (PureRuns.of (e10_9 x0 x0' x1 x2) (All.cons (h15) (All.cons (h15) (All.cons (h15) (All.cons h15 (All.cons (not_of (h13)) (All.cons h13 (All.cons h12 (All.cons h11 (All.cons rfl (All.cons h9 (All.cons h8 (All.cons h7 (All.cons (not_of (of_not (h3))) (All.cons (not_of (of_not (h3))) (All.cons (not_of (of_not (h3))) (All.cons h3 (All.cons h2 (All.cons rfl (All.cons rfl (All.nil)))))))))))))))))))))))) (fun h12 => TrOk.ofStop)) (fun h11 => TrOk.ofStop)) (fun h9 => TrOk.ofTest (fun h10 => TrOk.ofStop) (fun h10 => TrOk.ofTest (fun h11 => TrOk.ofTest (fun h13 => TrOk.ofTest (fun h14 => TrOk.ofTest (fun h15 => TrOk.ofTest (fun h16 => TrOk.ofTest (fun h17 => TrOk.ofTest (fun h18 => TrOk.ofTest (fun h19 => TrOk.ofFin (PureRuns.of (e10_11 x0 x0' x1 x2) (All.cons (h19) (All.cons (h19) (All.cons (h19) (All.cons h19 (All.cons h18 (All.cons h17 (All.cons h16 (All.cons h15 (All.cons h14 (All.cons h13 (All.cons rfl (All.cons h11 (All.cons h10 (All.cons h9 (All.cons h8 (All.cons h7 (All.cons (not_of (of_not (h3))) (All.cons (not_of (of_not (h3))) (All.cons (not_of (of_not (h3))) (All.cons h3 (All.cons h2 (All.cons rfl (All.cons rfl (All.nil)))))))))))))))))))))))))) (fun h19 => TrOk.ofFin (PureRuns.of (e10_12 x0 x0' x1 x2) (All.cons (h19) (All.cons (h19) (All.cons (h19) (All.cons h19 (All.cons h18 (All.cons h17 (All.cons h16 (All.cons h15 (All.cons h14 (All.cons h13 (All.cons rfl (All.cons h11 (All.cons h10 (All.cons h9 (All.cons h8 (All.cons h7 (All.cons (not_of (of_not (h3))) (All.cons (not_of (of_not (h3))) (All.cons (not_of (of_not (h3))) (All.cons h3 (All.cons h2 (All.cons rfl (All.cons rfl (All.nil))))))))))))))))))))))))))) (fun h18 => TrOk.ofTest (fun h19 => TrOk.ofFin (PureRuns.of (e10_13 x0 x0' x1 x2) (All.cons rfl (All.cons (not_of (of_not (h19))) (All.cons (not_of (of_not (h19))) (All.cons (not_of (of_not (h19))) (All.cons (not_of (of_not (h19))) (All.cons (not_of (of_not (h19))) (All.cons (not_of (of_not (h19))) (All.cons (not_of (of_not (h19))) (All.cons h19 (All.cons h18 (All.cons h17 (All.cons h16 (All.cons h15 (All.cons h14 (All.cons h13 (All.cons rfl (All.cons h11 (All.cons h10 (All.cons h9 (All.cons h8 (All.cons h7 (All.cons (not_of (of_not (h3))) (All.cons (not_of (of_not (h3))) (All.cons (not_of (of_not (h3))) (All.cons h3 (All.cons h2 (All.cons rfl (All.cons rfl (All.nil))))))))))))))))))))))))))))))) (fun h19 => TrOk.ofTest (fun h24 => TrOk.ofTest (fun h26 => TrOk.ofTest (fun h29 => TrOk.ofFin (PureRuns.of (e10_14 x0 x0' x1 x2) (All.cons h29 (All.cons (not_of (of_not (h19))) (All.cons (not_of (of_not (h19))) (All.cons h26 (All.cons (not_of (of_not (h19))) (All.cons h24 (All.cons (not_of (of_not (h19))) (All.cons (not_of (of_not (h19))) (All.cons (not_of (of_not (h19))) (All.cons (not_of (of_not (h19))) (All.cons h19 (All.cons h18 (All.cons h17 (All.cons h16 (All.cons h15 (All.cons h14 (All.cons h13 (All.cons rfl (All.cons h11 (All.cons h10 (All.cons h9 (All.cons h8 (All.cons h7 (All.cons (not_of (of_not (h3))) (All.cons (not_of (of_not (h3))) (All.cons (not_of (of_not (h3))) (All.cons h3 (All.cons h2 (All.cons rfl (All.cons rfl (All.nil))))))))))))))))))))))))))))))))) (fun h29 => TrOk.ofTest (fun h30 => TrOk.ofTest (fun h31 => TrOk.ofFin (PureRuns.of (e10_15 x0 x0' x1 x2) (All.cons h31 (All.cons h30 (All.cons h29 (All.cons (not_of (of_not (h19))) (All.cons (not_of (of_not (h19))) (All.cons h26 (All.cons (not_of (of_not (h19))) (All.cons h24 (All.cons (not_of (of_not (h19))) (All.cons (not_of (of_not (h19))) (All.cons (not_of (of_not (h19))) (All.cons (not_of (of_not (h19))) (All.cons h19 (All.cons h18 (All.cons h17 (All.cons h16 (All.cons h15 (All.cons h14 (All.cons h13 (All.cons rfl (All.cons h11 (All.cons h10 (All.cons h9 (All.cons h8 (All.cons h7 (All.cons (not_of (of_not (h3))) (All.cons (not_of (of_not (h3))) (All.cons (not_of (of_not (h3))) (All.cons h3 (All.cons h2 (All.cons rfl (All.cons rfl (All.nil))))))))))))))))))))))))))))))))))) (fun h31 => TrOk.ofTest (fun h36 => TrOk.ofTest (fun h38 => TrOk.ofTest (fun h39 => TrOk.ofTest (fun h40 => TrOk.ofTest (fun h41 => TrOk.ofFin (PureRuns.of (e10_16 x0 x0' x1 x2) (All.cons h41 (All.cons h40 (All.cons h39 (All.cons h38 (All.cons rfl (All.cons h36 (All.cons rfl (All.cons (h11) (All.cons (h10) (All.cons (h9) (All.cons h31 (All.cons h30 (All.cons h29 (All.cons (not_of (of_not (h19))) (All.cons (not_of (of_not (h19))) (All.cons h26 (All.cons (not_of (of_not (h19))) (All.cons h24 (All.cons (not_of (of_not (h19))) (All.cons (not_of (of_not (h19))) (All.cons (not_of (of_not (h19))) (All.cons (not_of (of_not (h19))) (All.cons h19 (All.cons h18 (All.cons h17 (All.cons h16 (All.cons h15 (All.cons h14 (All.cons h13 (All.cons rfl (All.cons h11 (All.cons h10 (All.cons h9 (All.cons h8 (All.cons h7 (All.cons (not_of (of_not (h3))) (All.cons (not_of (of_not (h3))) (All.cons (not_of (of_not (h3))) (All.cons h3 (All.cons h2 (All.cons rfl (All.cons rfl (All.nil))))))))))))))))))))))))))))))))))))))))))))) (fun h41 => TrOk.ofTest (fun h42 => TrOk.ofTest (fun h43 => TrOk.ofFin (PureRuns.of (e10_17 x0 x0' x1 x2) (All.cons h43 (All.cons h42 (All.cons h41 (All.cons h40 (All.cons h39 (All.cons h38 (All.cons rfl (All.cons h36 (All.cons rfl (All.cons (h11) (All.cons (h10) (All.cons (h9) (All.cons h31 (All.cons h30 (All.cons h29 (All.cons (not_of (of_not (h19))) (All.cons (not_of (of_not (h19))) (All.cons h26 (All.cons (not_of (of_not (h19))) (All.cons h24 (All.cons (not_of (of_not (h19))) (All.cons (not_of (of_not (h19))) (All.cons (not_of (of_not (h19))) (All.cons (not_of (of_not (h19))) (All.cons h19 (All.cons h18 (All.cons h17 (All.cons h16 (All.cons h15 (All.cons h14 (All.cons h13 (All.cons rfl (All.cons h11 (All.cons h10 (All.cons h9 (All.cons h8 (All.cons h7 (All.cons (not_of (of_not (h3))) (All.cons (not_of (of_not (h3))) (All.cons (not_of (of_not (h3))) (All.cons h3 (All.cons h2 (All.cons rfl (All.cons rfl (All.nil))))))))))))))))))))))))))))))))))))))))))))))) (fun h43 => TrOk.ofFin (PureRuns.of (e10_18 x0 x0' x1 x2) (All.cons h43 (All.cons h42 (All.cons h41 (All.cons h40 (All.cons h39 (All.cons h38 (All.cons rfl (All.cons h36 (All.cons rfl (All.cons (h11) (All.cons (h10) (All.cons (h9) (All.cons h31 (All.cons h30 (All.cons h29 (All.cons (not_of (of_not (h19))) (All.cons (not_of (of_not (h19))) (All.cons h26 (All.cons (not_of (of_not (h19))) (All.cons h24 (All.cons (not_of (of_not (h19))) (All.cons (not_of (of_not (h19))) (All.cons (not_of (of_not (h19))) (All.cons (not_of (of_not (h19))) (All.cons h19 (All.cons h18 (All.cons h17 (All.cons h16 (All.cons h15 (All.cons h14 (All.cons h13 (All.cons rfl (All.cons h11 (All.cons h10 (All.cons h9 (All.cons h8 (All.cons h7 (All.cons (not_of (of_not (h3))) (All.cons (not_of (of_not (h3))) (All.cons (not_of (of_not (h3))) (All.cons h3 (All.cons h2 (All.cons rfl (All.cons rfl (All.nil)))))))))))))))))))))))))))))))))))))))))))))))) (fun h42 => TrOk.ofStop))) (fun h40 => TrOk.ofStop)) (fun h39 => TrOk.ofTest (fun h40 => TrOk.ofTest (fun h41 => TrOk.ofTest (fun h42 => TrOk.ofFin (PureRuns.of (e10_19 x0 x0' x1 x2) (All.cons h42 (All.cons h41 (All.cons h40 (All.cons h39 (All.cons h38 (All.cons rfl (All.cons h36 (All.cons rfl (All.cons (h11) (All.cons (h10) (All.cons (h9) (All.cons h31 (All.cons h30 (All.cons h29 (All.cons (not_of (of_not (h19))) (All.cons (not_of (of_not (h19))) (All.cons h26 (All.cons (not_of (of_not (h19))) (All.cons h24 (All.cons (not_of (of_not (h19))) (All.cons (not_of (of_not (h19))) (All.cons (not_of (of_not (h19))) (All.cons (not_of (of_not (h19))) (All.cons h19 (All.cons h18 (All.cons h17 (All.cons h16 (All.cons h15 (All.cons h14 (All.cons h13 (All.cons rfl (All.cons h11 (All.cons h10 (All.cons h9 (All.cons h8 (All.cons h7 (All.cons (not_of (of_not (h3))) (All.cons (not_of (of_not (h3))) (All.cons (not_of (of_not (h3))) (All.cons h3 (All.cons h2 (All.cons rfl (All.cons rfl (All.nil)))))))))))))))))))))))))))))))))))))))))))))) (fun h42 => TrOk.ofTest (fun h43 => TrOk.ofTest (fun h44 => TrOk.ofFin (PureRuns.of (e10_20 x0 x0' x1 x2) (All.cons h44 (All.cons h43 (All.cons h42 (All.cons h41 (All.cons h40 (All.cons h39 (All.cons h38 (All.cons rfl (All.cons h36 (All.cons rfl (All.cons (h11) (All.cons (h10) (All.cons (h9) (All.cons h31 (All.cons h30 (All.cons h29 (All.cons (not_of (of_not (h19))) (All.cons (not_of (of_not (h19))) (All.cons h26 (All.cons (not_of (of_not (h19))) (All.cons h24 (All.cons (not_of (of_not (h19))) (All.cons (not_of (of_not (h19))) (All.cons (not_of (of_not (h19))) (All.cons (not_of (of_not (h19))) (All.cons h19 (All.cons h18 (All.cons h17 (All.cons h16 (All.cons h15 (All.cons h14 (All.cons h13 (All.cons rfl (All.cons h11 (All.cons h10 (All.cons h9 (All.cons h8 (All.cons h7 (All.cons (not_of (of_not (h3))) (All.cons (not_of (of_not (h3))) (All.cons (not_of (of_not (h3))) (All.cons h3 (All.cons h2 (All.cons rfl (All.cons rfl (All.nil)))))))))))))))))))))))))))))))))))))))))))))))) (fun h44 => TrOk.ofFin (PureRuns.of (e10_21 x0 x0' x1 x2) (All.cons h44 (All.cons h43 (All.cons h42 (All.cons h41 (All.cons h40 (All.cons h39 (All.cons h38 (All.cons rfl (All.cons h36 (All.cons rfl (All.cons (h11) (All.cons (h10) (All.cons (h9) (All.cons h31 (All.cons h30 (All.cons h29 (All.cons (not_of (of_not (h19))) (All.cons (not_of (of_not (h19))) (All.cons h26 (All.cons (not_of (of_not (h19))) (All.cons h24 (All.cons (not_of (of_not (h19))) (All.cons (not_of (of_not (h19))) (All.cons (not_of (of_not (h19))) (All.cons (not_of (of_not (h19))) (All.cons h19 (All.cons h18 (All.cons h17 (All.cons h16 (All.cons h15 (All.cons h14 (All.cons h13 (All.cons rfl (All.cons h11 (All.cons h10 (All.cons h9 (All.cons h8 (All.cons h7 (All.cons (not_of (of_not (h3))) (All.cons (not_of (of_not (h3))) (All.cons (not_of (of_not (h3))) (All.cons h3 (All.cons h2 (All.cons rfl (All.cons rfl (All.nil))))))))))))))))))))))))))))))))))))))))))))))))) (fun h43 => TrOk.ofStop))) (fun h41 => TrOk.ofStop)) (fun h40 => TrOk.ofStop))) (fun h38 => TrOk.ofStop)) (fun h36 => TrOk.ofStop))) (fun h30 => TrOk.ofStop))) (fun h26 => TrOk.ofStop)) (fun h24 => TrOk.ofStop)))) (fun h17 => TrOk.ofStop)) (fun h16 => TrOk.ofTest (fun h18 => TrOk.ofFin (PureRuns.of (e10_23 x0 x0' x1 x2) (All.cons (h18) (All.cons (h18) (All.cons (h18) (All.cons h18 (All.cons (not_of (h16)) (All.cons h16 (All.cons h15 (All.cons h14 (All.cons h13 (All.cons rfl (All.cons h11 (All.cons h10 (All.cons h9 (All.cons h8 (All.cons h7 (All.cons (not_of (of_not (h3))) (All.cons (not_of (of_not (h3))) (All.cons (not_of (of_not (h3))) (All.cons h3 (All.cons h2 (All.cons rfl (All.cons rfl (All.nil))))))))))))))))))))))))) (fun h18 => TrOk.ofFin (PureRuns.of (e10_24 x0 x0' x1 x2) (All.cons (h18) (All.cons (h18) (All.cons (h18) (All.cons h18 (All.cons (not_of (h16)) (All.cons h16 (All.cons h15 (All.cons h14 (All.cons h13 (All.cons rfl (All.cons h11 (All.cons h10 (All.cons h9 (All.cons h8 (All.cons h7 (All.cons (not_of (of_not (h3))) (All.cons (not_of (of_not (h3))) (All.cons (not_of (of_not (h3))) (All.cons h3 (All.cons h2 (All.cons rfl (All.cons rfl (All.nil))))))))))))))))))))))))))) (fun h15 => TrOk.ofStop)) (fun h14 => TrOk.ofStop)) (fun h13 => TrOk.ofStop)) (fun h11 => TrOk.ofStop)))) (fun h8 => TrOk.ofStop)))) (fun h2 => TrOk.ofStop)

theorem ok10 : PureOk Go.Proofs.Try.prog 10 p10 := pureOk_of kl10_2_ok.base (T := fun (d : Tys.data as10) => t10 d.1.1 d.1.2.1 d.2.1 d.2.2.1) (by kernel_rfl) (fun (d : Tys.data as10) => ok10_t d.1.1 d.1.2.1 d.2.1 d.2.2.1)
def kf10 : Known := kl10_2.func 10 p10
theorem kf10_ok : KnownOk Go.Proofs.Try.prog kf10 := kl10_2_ok.func ok10

end Go.Vm.Mo
