import Derived.Test.YtappjfcejjmdeaaA3
import Derived.KernelRfl
import Derived.Test.YtappjfcejjmdeaaProg
import Derived.Test.YtappjfcejjmdeaaRestFa
set_option linter.unusedVariables false
set_option linter.unusedSimpArgs false

namespace Go.Vm.Mo
open Go
set_option linter.unusedVariables false

/-! loop 0 of ductility/ductilitybase.subDigits -/

abbrev sh156_0 : Sh := { n := 35,slots := [0,1,5,6,7],pats := [.ty (.slice (.int .i64)),.ty (.slice (.int .i64)),.acc (.int .i64),.ty (.int .i64),.ty (.int .i64)],boxes := [] }
abbrev shb156_0 : Sh := { n := 35,slots := [5],pats := [.acc (.int .i64)],boxes := [] }
abbrev shr156_0 : Sh := { n := 35,slots := [],pats := [],boxes := [] }

def t156_0 (x0 : (List Int)) (x1 : (List Int)) (x2 : (List Int)) (x3 : Int) (x4 : Int) : Tr (Out sh156_0.data shb156_0.data shr156_0.data) :=
  Tr.test ((!leF (↑(List.length x0) : Int) x4 : Bool))
    (Tr.test (decide ((0 : Int) ≤ x4) && decide (x4 < (↑(List.length x0) : Int)))
      (Tr.test (Option.isSome (f175 (x1,(x4,()))))
        (let r0 : Int × PUnit := g175 (x1,(x4,()));
        Tr.test ((!leF (0 : Int) (wrap64 (wrap64 (List.getD x0 (Int.toNat x4) (0 : Int) - r0.1) - x3)) : Bool))
          (Tr.test ((Nat.ble (((2 : Nat) * (List.length x2 + (1 : Nat)) + (192 : Nat)) * (8 : Nat)) (281474976710656 : Nat) && Nat.ble (List.length x2 + (1 : Nat)) (281474976710656 : Nat) : Bool))
            (Tr.fin (.again ((x0,(x1,((x2 ++ [wrap64 (wrap64 (wrap64 (List.getD x0 (Int.toNat x4) (0 : Int) - r0.1) - x3) + (1000000000 : Int))] : List Int),((1 : Int),((wrap64 (x4 + (1 : Int)) : Int),()))))),())))
            (Tr.stop /- none [op 3 of region 10 of F156] -/))
          (Tr.test ((Nat.ble (((2 : Nat) * (List.length x2 + (1 : Nat)) + (192 : Nat)) * (8 : Nat)) (281474976710656 : Nat) && Nat.ble (List.length x2 + (1 : Nat)) (281474976710656 : Nat) : Bool))
            (Tr.fin (.again ((x0,(x1,((x2 ++ [wrap64 (wrap64 (List.getD x0 (Int.toNat x4) (0 : Int) - r0.1) - x3)] : List Int),((0 : Int),((wrap64 (x4 + (1 : Int)) : Int),()))))),())))
            (Tr.stop /- none [op 3 of region 10 of F156] -/)))
        (Tr.stop))
      (Tr.stop /- none [op 2 of region 6 of F156] -/))
    (Tr.fin (.brk ((x2,()),())))

def s156_0 (d : sh156_0.data) : Option (Out sh156_0.data shb156_0.data shr156_0.data) := (t156_0 d.1.1 d.1.2.1 d.1.2.2.1 d.1.2.2.2.1 d.1.2.2.2.2.1).val
def l156_0 (d : sh156_0.data) : Option (shb156_0.data ⊕ shr156_0.data) := itr s156_0 rounds d
def b156_0 (d : sh156_0.data) : shb156_0.data := outB shb156_0.dflt (l156_0 d)
def lc156_0 : LoopC := lcB sh156_0 shb156_0 shr156_0 l156_0 b156_0

theorem e156_0_0 (x0 : (List Int)) (x1 : (List Int)) (x2 : (List Int)) (x3 : Int) (x4 : Int) : runBody kf175.orc Go.Proofs.Try.prog 400 156 0 sh156_0 shb156_0 shr156_0 ((x0,x1,x2,x3,x4,()),()) [tt,tt,tt,tt,ff,tt,tt] =
    (let r0 : Int × PUnit := g175 (x1,(x4,())); some (.again ((x0,(x1,((x2 ++ [wrap64 (wrap64 (wrap64 (List.getD x0 (Int.toNat x4) (0 : Int) - r0.1) - x3) + (1000000000 : Int))] : List Int),((1 : Int),((wrap64 (x4 + (1 : Int)) : Int),()))))),()),[(true,true),(Nat.ble (((2 : Nat) * (List.length x2 + (1 : Nat)) + (192 : Nat)) * (8 : Nat)) (281474976710656 : Nat) && Nat.ble (List.length x2 + (1 : Nat)) (281474976710656 : Nat),true),(false,false),(!leF (0 : Int) (wrap64 (wrap64 (List.getD x0 (Int.toNat x4) (0 : Int) - r0.1) - x3)),true),(Option.isSome (f175 (x1,(x4,()))),true),(decide ((0 : Int) ≤ x4) && decide (x4 < (↑(List.length x0) : Int)),true),(!leF (↑(List.length x0) : Int) x4,true)])) := by kernel_rfl
theorem e156_0_2 (x0 : (List Int)) (x1 : (List Int)) (x2 : (List Int)) (x3 : Int) (x4 : Int) : runBody kf175.orc Go.Proofs.Try.prog 400 156 0 sh156_0 shb156_0 shr156_0 ((x0,x1,x2,x3,x4,()),()) [tt,tt,tt,ff,ff,tt,tt] =
    (let r0 : Int × PUnit := g175 (x1,(x4,())); some (.again ((x0,(x1,((x2 ++ [wrap64 (wrap64 (List.getD x0 (Int.toNat x4) (0 : Int) - r0.1) - x3)] : List Int),((0 : Int),((wrap64 (x4 + (1 : Int)) : Int),()))))),()),[(true,true),(Nat.ble (((2 : Nat) * (List.length x2 + (1 : Nat)) + (192 : Nat)) * (8 : Nat)) (281474976710656 : Nat) && Nat.ble (List.length x2 + (1 : Nat)) (281474976710656 : Nat),true),(false,false),(!leF (0 : Int) (wrap64 (wrap64 (List.getD x0 (Int.toNat x4) (0 : Int) - r0.1) - x3)),false),(Option.isSome (f175 (x1,(x4,()))),true),(decide ((0 : Int) ≤ x4) && decide (x4 < (↑(List.length x0) : Int)),true),(!leF (↑(List.length x0) : Int) x4,true)])) := by kernel_rfl
theorem e156_0_5 (x0 : (List Int)) (x1 : (List Int)) (x2 : (List Int)) (x3 : Int) (x4 : Int) : runBody kf175.orc Go.Proofs.Try.prog 400 156 0 sh156_0 shb156_0 shr156_0 ((x0,x1,x2,x3,x4,()),()) [ff] =
    (some (.brk ((x2,()),()),[(!leF (↑(List.length x0) : Int) x4,false)])) := by kernel_rfl

theorem ok156_0_t (x0 : (List Int)) (x1 : (List Int)) (x2 : (List Int)) (x3 : Int) (x4 : Int) : TrOk (BodyRuns Go.Proofs.Try.prog kf175.orc 156 0 sh156_0 shb156_0 shr156_0 ((x0,x1,x2,x3,x4,()),())) (t156_0 x0 x1 x2 x3 x4) :=
  TrOk.ofTest (fun h0 => TrOk.ofTest (fun h1 => TrOk.ofTest (fun h2 => TrOk.ofTest (fun h3 => TrOk.ofTest (fun h5 => TrOk.ofFin (BodyRuns.of (e156_0_0 x0 x1 x2 x3 x4) (ac rfl (ac h5 (ac rfl (ac h3 (ac h2 (ac h1 (ac h0 All.nil))))))))) (fun h5 => TrOk.ofStop)) (fun h3 => TrOk.ofTest (fun h5 => TrOk.ofFin (BodyRuns.of (e156_0_2 x0 x1 x2 x3 x4) (ac rfl (ac h5 (ac rfl (ac h3 (ac h2 (ac h1 (ac h0 All.nil))))))))) (fun h5 => TrOk.ofStop))) (fun h2 => TrOk.ofStop)) (fun h1 => TrOk.ofStop)) (fun h0 => TrOk.ofFin (BodyRuns.of (e156_0_5 x0 x1 x2 x3 x4) (ac h0 All.nil)))

theorem ok156_0 : LoopOk Go.Proofs.Try.prog 156 0 lc156_0 := loopOk_ofB kf175_ok.base (T := fun (d : sh156_0.data) => t156_0 d.1.1 d.1.2.1 d.1.2.2.1 d.1.2.2.2.1 d.1.2.2.2.2.1) (by kernel_rfl) rfl (fun (d : sh156_0.data) => ok156_0_t d.1.1 d.1.2.1 d.1.2.2.1 d.1.2.2.2.1 d.1.2.2.2.2.1) (fun _ => rfl)
def kl156_0 : Known := kf175.loop 156 0 lc156_0
theorem kl156_0_ok : KnownOk Go.Proofs.Try.prog kl156_0 := kf175_ok.loop ok156_0

/-! ductility/ductilitybase.subDigits -/

abbrev as156 : List Ty := [(.slice (.int .i64)),(.slice (.int .i64))]
abbrev rs156 : List Ty := [(.slice (.int .i64))]

def t156 (x0 : (List Int)) (x1 : (List Int)) : Tr (Tys.data rs156) :=
  Tr.test (isBrk (l156_0 ((x0,(x1,(([] : List Int),((0 : Int),((0 : Int),()))))),())))
    (let r0 : (List Int × PUnit) × PUnit := b156_0 ((x0,(x1,(([] : List Int),((0 : Int),((0 : Int),()))))),());
    Tr.test (Option.isSome (f173 (r0.1.1,())))
      (let r1 : List Int × PUnit := g173 (r0.1.1,());
      Tr.fin ((r1.1,())))
      (Tr.stop))
    (Tr.stop)

def f156 (d : Tys.data as156) : Option (Tys.data rs156) := (t156 d.1 d.2.1).val
def g156 (d : Tys.data as156) : Tys.data rs156 := (f156 d).getD (Tys.dflt rs156)
def p156 : PureC := pcOf as156 rs156 f156 g156

theorem e156_0 (x0 : (List Int)) (x1 : (List Int)) : runPure kl156_0.orc Go.Proofs.Try.prog 400 156 as156 rs156 (x0,x1,()) [tt,tt,tt] =
    (let r0 : (List Int × PUnit) × PUnit := b156_0 ((x0,(x1,(([] : List Int),((0 : Int),((0 : Int),()))))),()); let r1 : List Int × PUnit := g173 (r0.1.1,()); some ((r1.1,()),[(Option.isSome (f173 (r0.1.1,())),true),(true,true),(isBrk (l156_0 ((x0,(x1,(([] : List Int),((0 : Int),((0 : Int),()))))),())),true)])) := by kernel_rfl

theorem ok156_t (x0 : (List Int)) (x1 : (List Int)) : TrOk (PureRuns Go.Proofs.Try.prog kl156_0.orc 156 as156 rs156 (x0,x1,())) (t156 x0 x1) :=
  TrOk.ofTest (fun h0 => TrOk.ofTest (fun h2 => TrOk.ofFin (PureRuns.of (e156_0 x0 x1) (ac h2 (ac rfl (ac h0 All.nil))))) (fun h2 => TrOk.ofStop)) (fun h0 => TrOk.ofStop)

theorem ok156 : PureOk Go.Proofs.Try.prog 156 p156 := pureOk_of kl156_0_ok.base (T := fun (d : Tys.data as156) => t156 d.1 d.2.1) (by kernel_rfl) (fun (d : Tys.data as156) => ok156_t d.1 d.2.1)
def kf156 : Known := kl156_0.func 156 p156
theorem kf156_ok : KnownOk Go.Proofs.Try.prog kf156 := kl156_0_ok.func ok156

/-! loop 0 of ductility/ductilitybase.addDigits -/

abbrev sh154_0 : Sh := { n := 42,slots := [0,1,5,6,7],pats := [.ty (.slice (.int .i64)),.ty (.slice (.int .i64)),.acc (.int .i64),.ty (.int .i64),.ty (.int .i64)],boxes := [] }
abbrev shb154_0 : Sh := { n := 42,slots := [5],pats := [.acc (.int .i64)],boxes := [] }
abbrev shr154_0 : Sh := { n := 42,slots := [],pats := [],boxes := [] }

def t154_0 (x0 : (List Int)) (x1 : (List Int)) (x2 : (List Int)) (x3 : Int) (x4 : Int) : Tr (Out sh154_0.data shb154_0.data shr154_0.data) :=
  Tr.test ((!leF (↑(List.length x0) : Int) x4 : Bool))
    (Tr.test (Option.isSome (f175 (x0,(x4,()))))
      (Tr.test (Option.isSome (f175 (x1,(x4,()))))
        (Tr.test ((Nat.ble (((2 : Nat) * (List.length x2 + (1 : Nat)) + (192 : Nat)) * (8 : Nat)) (281474976710656 : Nat) && Nat.ble (List.length x2 + (1 : Nat)) (281474976710656 : Nat) : Bool))
          (let r0 : Int × PUnit := g175 (x0,(x4,()));
          let r1 : Int × PUnit := g175 (x1,(x4,()));
          Tr.fin (.again ((x0,(x1,((x2 ++ [Int.tmod (wrap64 (wrap64 (r0.1 + r1.1) + x3)) (1000000000 : Int)] : List Int),((Go.IntKind.wrap Go.IntKind.i64 (Int.tdiv (wrap64 (wrap64 (r0.1 + r1.1) + x3)) (1000000000 : Int)) : Int),((wrap64 (x4 + (1 : Int)) : Int),()))))),())))
          (Tr.stop /- none [op 4 of region 7 of F154] -/))
        (Tr.stop))
      (Tr.stop))
    (Tr.test (!leF (↑(List.length x1) : Int) x4)
      (Tr.test (Option.isSome (f175 (x0,(x4,()))))
        (Tr.test (Option.isSome (f175 (x1,(x4,()))))
          (Tr.test ((Nat.ble (((2 : Nat) * (List.length x2 + (1 : Nat)) + (192 : Nat)) * (8 : Nat)) (281474976710656 : Nat) && Nat.ble (List.length x2 + (1 : Nat)) (281474976710656 : Nat) : Bool))
            (let r0 : Int × PUnit := g175 (x0,(x4,()));
            let r1 : Int × PUnit := g175 (x1,(x4,()));
            Tr.fin (.again ((x0,(x1,((x2 ++ [Int.tmod (wrap64 (wrap64 (r0.1 + r1.1) + x3)) (1000000000 : Int)] : List Int),((Go.IntKind.wrap Go.IntKind.i64 (Int.tdiv (wrap64 (wrap64 (r0.1 + r1.1) + x3)) (1000000000 : Int)) : Int),((wrap64 (x4 + (1 : Int)) : Int),()))))),())))
            (Tr.stop /- none [op 4 of region 7 of F154] -/))
          (Tr.stop))
        (Tr.stop))
      (Tr.test ((!leF x3 0 : Bool))
        (Tr.test (Option.isSome (f175 (x0,(x4,()))))
          (Tr.test (Option.isSome (f175 (x1,(x4,()))))
            (Tr.test ((Nat.ble (((2 : Nat) * (List.length x2 + (1 : Nat)) + (192 : Nat)) * (8 : Nat)) (281474976710656 : Nat) && Nat.ble (List.length x2 + (1 : Nat)) (281474976710656 : Nat) : Bool))
              (let r0 : Int × PUnit := g175 (x0,(x4,()));
              let r1 : Int × PUnit := g175 (x1,(x4,()));
              Tr.fin (.again ((x0,(x1,((x2 ++ [Int.tmod (wrap64 (wrap64 (r0.1 + r1.1) + x3)) (1000000000 : Int)] : List Int),((Go.IntKind.wrap Go.IntKind.i64 (Int.tdiv (wrap64 (wrap64 (r0.1 + r1.1) + x3)) (1000000000 : Int)) : Int),((wrap64 (x4 + (1 : Int)) : Int),()))))),())))
              (Tr.stop /- none [op 4 of region 7 of F154] -/))
            (Tr.stop))
          (Tr.stop))
        (Tr.fin (.brk ((x2,()),())))))

def s154_0 (d : sh154_0.data) : Option (Out sh154_0.data shb154_0.data shr154_0.data) := (t154_0 d.1.1 d.1.2.1 d.1.2.2.1 d.1.2.2.2.1 d.1.2.2.2.2.1).val
def l154_0 (d : sh154_0.data) : Option (shb154_0.data ⊕ shr154_0.data) := itr s154_0 rounds d
def b154_0 (d : sh154_0.data) : shb154_0.data := outB shb154_0.dflt (l154_0 d)
def lc154_0 : LoopC := lcB sh154_0 shb154_0 shr154_0 l154_0 b154_0

theorem e154_0_0 (x0 : (List Int)) (x1 : (List Int)) (x2 : (List Int)) (x3 : Int) (x4 : Int) : runBody kf156.orc Go.Proofs.Try.prog 400 154 0 sh154_0 shb154_0 shr154_0 ((x0,x1,x2,x3,x4,()),()) [tt,tt,tt,tt,tt,tt,tt,tt,tt,tt,tt,ff,ff,tt,tt,ff] =
    (let r0 : Int × PUnit := g175 (x0,(x4,())); let r1 : Int × PUnit := g175 (x1,(x4,())); some (.again ((x0,(x1,((x2 ++ [Int.tmod (wrap64 (wrap64 (r0.1 + r1.1) + x3)) (1000000000 : Int)] : List Int),((Go.IntKind.wrap Go.IntKind.i64 (Int.tdiv (wrap64 (wrap64 (r0.1 + r1.1) + x3)) (1000000000 : Int)) : Int),((wrap64 (x4 + (1 : Int)) : Int),()))))),()),[(false,false),(true,true),(Nat.ble (((2 : Nat) * (List.length x2 + (1 : Nat)) + (192 : Nat)) * (8 : Nat)) (281474976710656 : Nat) && Nat.ble (List.length x2 + (1 : Nat)) (281474976710656 : Nat),true),(false,false),(false,false),(Option.isSome (f175 (x1,(x4,()))),true),(Option.isSome (f175 (x0,(x4,()))),true),(true,true),(true,true),(true,true),(true,true),(!leF (↑(List.length x0) : Int) x4,true),(!leF (↑(List.length x0) : Int) x4,true),(!leF (↑(List.length x0) : Int) x4,true),(!leF (↑(List.length x0) : Int) x4,true),(!leF (↑(List.length x0) : Int) x4,true)])) := by kernel_rfl
theorem e154_0_2 (x0 : (List Int)) (x1 : (List Int)) (x2 : (List Int)) (x3 : Int) (x4 : Int) : runBody kf156.orc Go.Proofs.Try.prog 400 154 0 sh154_0 shb154_0 shr154_0 ((x0,x1,x2,x3,x4,()),()) [ff,ff,ff,ff,ff,tt,tt,tt,tt,tt,tt,ff,ff,tt,tt,ff] =
    (let r0 : Int × PUnit := g175 (x0,(x4,())); let r1 : Int × PUnit := g175 (x1,(x4,())); some (.again ((x0,(x1,((x2 ++ [Int.tmod (wrap64 (wrap64 (r0.1 + r1.1) + x3)) (1000000000 : Int)] : List Int),((Go.IntKind.wrap Go.IntKind.i64 (Int.tdiv (wrap64 (wrap64 (r0.1 + r1.1) + x3)) (1000000000 : Int)) : Int),((wrap64 (x4 + (1 : Int)) : Int),()))))),()),[(false,false),(true,true),(Nat.ble (((2 : Nat) * (List.length x2 + (1 : Nat)) + (192 : Nat)) * (8 : Nat)) (281474976710656 : Nat) && Nat.ble (List.length x2 + (1 : Nat)) (281474976710656 : Nat),true),(false,false),(false,false),(Option.isSome (f175 (x1,(x4,()))),true),(Option.isSome (f175 (x0,(x4,()))),true),(true,true),(!leF (↑(List.length x1) : Int) x4,true),(!leF (↑(List.length x1) : Int) x4,true),(!leF (↑(List.length x1) : Int) x4,true),(!leF (↑(List.length x0) : Int) x4,false),(!leF (↑(List.length x0) : Int) x4,false),(!leF (↑(List.length x0) : Int) x4,false),(!leF (↑(List.length x0) : Int) x4,false),(!leF (↑(List.length x0) : Int) x4,false)])) := by kernel_rfl
theorem e154_0_4 (x0 : (List Int)) (x1 : (List Int)) (x2 : (List Int)) (x3 : Int) (x4 : Int) : runBody kf156.orc Go.Proofs.Try.prog 400 154 0 sh154_0 shb154_0 shr154_0 ((x0,x1,x2,x3,x4,()),()) [ff,ff,ff,ff,ff,ff,ff,ff,tt,tt,tt,ff,ff,tt,tt,ff] =
    (let r0 : Int × PUnit := g175 (x0,(x4,())); let r1 : Int × PUnit := g175 (x1,(x4,())); some (.again ((x0,(x1,((x2 ++ [Int.tmod (wrap64 (wrap64 (r0.1 + r1.1) + x3)) (1000000000 : Int)] : List Int),((Go.IntKind.wrap Go.IntKind.i64 (Int.tdiv (wrap64 (wrap64 (r0.1 + r1.1) + x3)) (1000000000 : Int)) : Int),((wrap64 (x4 + (1 : Int)) : Int),()))))),()),[(false,false),(true,true),(Nat.ble (((2 : Nat) * (List.length x2 + (1 : Nat)) + (192 : Nat)) * (8 : Nat)) (281474976710656 : Nat) && Nat.ble (List.length x2 + (1 : Nat)) (281474976710656 : Nat),true),(false,false),(false,false),(Option.isSome (f175 (x1,(x4,()))),true),(Option.isSome (f175 (x0,(x4,()))),true),(!leF x3 0,true),(!leF (↑(List.length x1) : Int) x4,false),(!leF (↑(List.length x1) : Int) x4,false),(!leF (↑(List.length x1) : Int) x4,false),(!leF (↑(List.length x0) : Int) x4,false),(!leF (↑(List.length x0) : Int) x4,false),(!leF (↑(List.length x0) : Int) x4,false),(!leF (↑(List.length x0) : Int) x4,false),(!leF (↑(List.length x0) : Int) x4,false)])) := by kernel_rfl
theorem e154_0_6 (x0 : (List Int)) (x1 : (List Int)) (x2 : (List Int)) (x3 : Int) (x4 : Int) : runBody kf156.orc Go.Proofs.Try.prog 400 154 0 sh154_0 shb154_0 shr154_0 ((x0,x1,x2,x3,x4,()),()) [ff,ff,ff,ff,ff,ff,ff,ff,ff] =
    (some (.brk ((x2,()),()),[(!leF x3 0,false),(!leF (↑(List.length x1) : Int) x4,false),(!leF (↑(List.length x1) : Int) x4,false),(!leF (↑(List.length x1) : Int) x4,false),(!leF (↑(List.length x0) : Int) x4,false),(!leF (↑(List.length x0) : Int) x4,false),(!leF (↑(List.length x0) : Int) x4,false),(!leF (↑(List.length x0) : Int) x4,false),(!leF (↑(List.length x0) : Int) x4,false)])) := by kernel_rfl

theorem ok154_0_t (x0 : (List Int)) (x1 : (List Int)) (x2 : (List Int)) (x3 : Int) (x4 : Int) : TrOk (BodyRuns Go.Proofs.Try.prog kf156.orc 154 0 sh154_0 shb154_0 shr154_0 ((x0,x1,x2,x3,x4,()),())) (t154_0 x0 x1 x2 x3 x4) :=
  TrOk.ofTest (fun h0 => TrOk.ofTest (fun h9 => TrOk.ofTest (fun h10 => TrOk.ofTest (fun h13 => TrOk.ofFin (BodyRuns.of (e154_0_0 x0 x1 x2 x3 x4) (ac rfl (ac rfl (ac h13 (ac rfl (ac rfl (ac h10 (ac h9 (ac rfl (ac rfl (ac rfl (ac rfl (ac (nn h0) (ac (nn h0) (ac (nn h0) (ac (nn h0) (ac h0 All.nil)))))))))))))))))) (fun h13 => TrOk.ofStop)) (fun h10 => TrOk.ofStop)) (fun h9 => TrOk.ofStop)) (fun h0 => TrOk.ofTest (fun h5 => TrOk.ofTest (fun h9 => TrOk.ofTest (fun h10 => TrOk.ofTest (fun h13 => TrOk.ofFin (BodyRuns.of (e154_0_2 x0 x1 x2 x3 x4) (ac rfl (ac rfl (ac h13 (ac rfl (ac rfl (ac h10 (ac h9 (ac rfl (ac (nn h5) (ac (nn h5) (ac h5 (ac (nn h0) (ac (nn h0) (ac (nn h0) (ac (nn h0) (ac h0 All.nil)))))))))))))))))) (fun h13 => TrOk.ofStop)) (fun h10 => TrOk.ofStop)) (fun h9 => TrOk.ofStop)) (fun h5 => TrOk.ofTest (fun h8 => TrOk.ofTest (fun h9 => TrOk.ofTest (fun h10 => TrOk.ofTest (fun h13 => TrOk.ofFin (BodyRuns.of (e154_0_4 x0 x1 x2 x3 x4) (ac rfl (ac rfl (ac h13 (ac rfl (ac rfl (ac h10 (ac h9 (ac h8 (ac (nn h5) (ac (nn h5) (ac h5 (ac (nn h0) (ac (nn h0) (ac (nn h0) (ac (nn h0) (ac h0 All.nil)))))))))))))))))) (fun h13 => TrOk.ofStop)) (fun h10 => TrOk.ofStop)) (fun h9 => TrOk.ofStop)) (fun h8 => TrOk.ofFin (BodyRuns.of (e154_0_6 x0 x1 x2 x3 x4) (ac h8 (ac (nn h5) (ac (nn h5) (ac h5 (ac (nn h0) (ac (nn h0) (ac (nn h0) (ac (nn h0) (ac h0 All.nil)))))))))))))

theorem ok154_0 : LoopOk Go.Proofs.Try.prog 154 0 lc154_0 := loopOk_ofB kf156_ok.base (T := fun (d : sh154_0.data) => t154_0 d.1.1 d.1.2.1 d.1.2.2.1 d.1.2.2.2.1 d.1.2.2.2.2.1) (by kernel_rfl) rfl (fun (d : sh154_0.data) => ok154_0_t d.1.1 d.1.2.1 d.1.2.2.1 d.1.2.2.2.1 d.1.2.2.2.2.1) (fun _ => rfl)
def kl154_0 : Known := kf156.loop 154 0 lc154_0
theorem kl154_0_ok : KnownOk Go.Proofs.Try.prog kl154_0 := kf156_ok.loop ok154_0

/-! ductility/ductilitybase.addDigits -/

abbrev as154 : List Ty := [(.slice (.int .i64)),(.slice (.int .i64))]
abbrev rs154 : List Ty := [(.slice (.int .i64))]

def t154 (x0 : (List Int)) (x1 : (List Int)) : Tr (Tys.data rs154) :=
  Tr.test (isBrk (l154_0 ((x0,(x1,(([] : List Int),((0 : Int),((0 : Int),()))))),())))
    (let r0 : (List Int × PUnit) × PUnit := b154_0 ((x0,(x1,(([] : List Int),((0 : Int),((0 : Int),()))))),());
    Tr.fin ((r0.1.1,())))
    (Tr.stop)

def f154 (d : Tys.data as154) : Option (Tys.data rs154) := (t154 d.1 d.2.1).val
def g154 (d : Tys.data as154) : Tys.data rs154 := (f154 d).getD (Tys.dflt rs154)
def p154 : PureC := pcOf as154 rs154 f154 g154

theorem e154_0 (x0 : (List Int)) (x1 : (List Int)) : runPure kl154_0.orc Go.Proofs.Try.prog 400 154 as154 rs154 (x0,x1,()) [tt,tt] =
    (let r0 : (List Int × PUnit) × PUnit := b154_0 ((x0,(x1,(([] : List Int),((0 : Int),((0 : Int),()))))),()); some ((r0.1.1,()),[(true,true),(isBrk (l154_0 ((x0,(x1,(([] : List Int),((0 : Int),((0 : Int),()))))),())),true)])) := by kernel_rfl

theorem ok154_t (x0 : (List Int)) (x1 : (List Int)) : TrOk (PureRuns Go.Proofs.Try.prog kl154_0.orc 154 as154 rs154 (x0,x1,())) (t154 x0 x1) :=
  TrOk.ofTest (fun h0 => TrOk.ofFin (PureRuns.of (e154_0 x0 x1) (ac rfl (ac h0 All.nil)))) (fun h0 => TrOk.ofStop)

theorem ok154 : PureOk Go.Proofs.Try.prog 154 p154 := pureOk_of kl154_0_ok.base (T := fun (d : Tys.data as154) => t154 d.1 d.2.1) (by kernel_rfl) (fun (d : Tys.data as154) => ok154_t d.1 d.2.1)
def kf154 : Known := kl154_0.func 154 p154
theorem kf154_ok : KnownOk Go.Proofs.Try.prog kf154 := kl154_0_ok.func ok154

/-! ductility/ductilitybase.WideAdd -/

abbrev as116 : List Ty := [(.pair (.int .i64) (.pair (.slice (.int .i64)) .unit)),(.pair (.int .i64) (.pair (.slice (.int .i64)) .unit))]
abbrev rs116 : List Ty := [(.pair (.int .i64) (.pair (.slice (.int .i64)) .unit))]

def t116 (x0 : Int) (x0' : (List Int)) (x1 : Int) (x1' : (List Int)) : Tr (Tys.data rs116) :=
  Tr.test ((eqF x0 0 : Bool))
    (Tr.fin (((x1,(x1',())),())))
    (Tr.test (eqF x1 0)
      (Tr.fin (((x0,(x0',())),())))
      (Tr.test ((eqF x0 x1 : Bool))
        (Tr.test (Option.isSome (f154 (x0',(x1',()))))
          (let r0 : List Int × PUnit := g154 (x0',(x1',()));
          Tr.test (Option.isSome (f149 (x0,(r0.1,()))))
            (let r1 : (Int × List Int × PUnit) × PUnit := g149 (x0,(r0.1,()));
            Tr.fin (((r1.1.1,(r1.1.2.1,())),())))
            (Tr.stop))
          (Tr.stop))
        (Tr.test (Option.isSome (f155 (x0',(x1',()))))
          (let r2 : Int × PUnit := g155 (x0',(x1',()));
          Tr.test ((eqF r2.1 0 : Bool))
            (Tr.fin ((((0 : Int),(([] : List Int),())),())))
            (Tr.test ((!leF r2.1 0 : Bool))
              (Tr.test (Option.isSome (f156 (x0',(x1',()))))
                (let r3 : List Int × PUnit := g156 (x0',(x1',()));
                Tr.test (Option.isSome (f149 (x0,(r3.1,()))))
                  (let r4 : (Int × List Int × PUnit) × PUnit := g149 (x0,(r3.1,()));
                  Tr.fin (((r4.1.1,(r4.1.2.1,())),())))
                  (Tr.stop))
                (Tr.stop))
              (Tr.test (Option.isSome (f156 (x1',(x0',()))))
                (let r5 : List Int × PUnit := g156 (x1',(x0',()));
                Tr.test (Option.isSome (f149 (x1,(r5.1,()))))
                  (let r6 : (Int × List Int × PUnit) × PUnit := g149 (x1,(r5.1,()));
                  Tr.fin (((r6.1.1,(r6.1.2.1,())),())))
                  (Tr.stop))
                (Tr.stop))))
          (Tr.stop))))

def f116 (d : Tys.data as116) : Option (Tys.data rs116) := (t116 d.1.1 d.1.2.1 d.2.1.1 d.2.1.2.1).val
def g116 (d : Tys.data as116) : Tys.data rs116 := (f116 d).getD (Tys.dflt rs116)
def p116 : PureC := pcOf as116 rs116 f116 g116

theorem e116_0 (x0 : Int) (x0' : (List Int)) (x1 : Int) (x1' : (List Int)) : runPure kf154.orc Go.Proofs.Try.prog 400 116 as116 rs116 ((x0,x0',()),(x1,x1',()),()) [tt] =
    (some (((x1,(x1',())),()),[(eqF x0 0,true)])) := by kernel_rfl
theorem e116_1 (x0 : Int) (x0' : (List Int)) (x1 : Int) (x1' : (List Int)) : runPure kf154.orc Go.Proofs.Try.prog 400 116 as116 rs116 ((x0,x0',()),(x1,x1',()),()) [ff,tt] =
    (some (((x0,(x0',())),()),[(eqF x1 0,true),(eqF x0 0,false)])) := by kernel_rfl
theorem e116_2 (x0 : Int) (x0' : (List Int)) (x1 : Int) (x1' : (List Int)) : runPure kf154.orc Go.Proofs.Try.prog 400 116 as116 rs116 ((x0,x0',()),(x1,x1',()),()) [ff,ff,tt,tt,tt] =
    (let r0 : List Int × PUnit := g154 (x0',(x1',())); let r1 : (Int × List Int × PUnit) × PUnit := g149 (x0,(r0.1,())); some (((r1.1.1,(r1.1.2.1,())),()),[(Option.isSome (f149 (x0,(r0.1,()))),true),(Option.isSome (f154 (x0',(x1',()))),true),(eqF x0 x1,true),(eqF x1 0,false),(eqF x0 0,false)])) := by kernel_rfl
theorem e116_3 (x0 : Int) (x0' : (List Int)) (x1 : Int) (x1' : (List Int)) : runPure kf154.orc Go.Proofs.Try.prog 400 116 as116 rs116 ((x0,x0',()),(x1,x1',()),()) [ff,ff,ff,tt,tt] =
    (let r2 : Int × PUnit := g155 (x0',(x1',())); some ((((0 : Int),(([] : List Int),())),()),[(eqF r2.1 0,true),(Option.isSome (f155 (x0',(x1',()))),true),(eqF x0 x1,false),(eqF x1 0,false),(eqF x0 0,false)])) := by kernel_rfl
theorem e116_4 (x0 : Int) (x0' : (List Int)) (x1 : Int) (x1' : (List Int)) : runPure kf154.orc Go.Proofs.Try.prog 400 116 as116 rs116 ((x0,x0',()),(x1,x1',()),()) [ff,ff,ff,tt,ff,tt,tt,tt] =
    (let r2 : Int × PUnit := g155 (x0',(x1',())); let r3 : List Int × PUnit := g156 (x0',(x1',())); let r4 : (Int × List Int × PUnit) × PUnit := g149 (x0,(r3.1,())); some (((r4.1.1,(r4.1.2.1,())),()),[(Option.isSome (f149 (x0,(r3.1,()))),true),(Option.isSome (f156 (x0',(x1',()))),true),(!leF r2.1 0,true),(eqF r2.1 0,false),(Option.isSome (f155 (x0',(x1',()))),true),(eqF x0 x1,false),(eqF x1 0,false),(eqF x0 0,false)])) := by kernel_rfl
theorem e116_5 (x0 : Int) (x0' : (List Int)) (x1 : Int) (x1' : (List Int)) : runPure kf154.orc Go.Proofs.Try.prog 400 116 as116 rs116 ((x0,x0',()),(x1,x1',()),()) [ff,ff,ff,tt,ff,ff,tt,tt] =
    (let r2 : Int × PUnit := g155 (x0',(x1',())); let r5 : List Int × PUnit := g156 (x1',(x0',())); let r6 : (Int × List Int × PUnit) × PUnit := g149 (x1,(r5.1,())); some (((r6.1.1,(r6.1.2.1,())),()),[(Option.isSome (f149 (x1,(r5.1,()))),true),(Option.isSome (f156 (x1',(x0',()))),true),(!leF r2.1 0,false),(eqF r2.1 0,false),(Option.isSome (f155 (x0',(x1',()))),true),(eqF x0 x1,false),(eqF x1 0,false),(eqF x0 0,false)])) := by kernel_rfl

theorem ok116_t (x0 : Int) (x0' : (List Int)) (x1 : Int) (x1' : (List Int)) : TrOk (PureRuns Go.Proofs.Try.prog kf154.orc 116 as116 rs116 ((x0,x0',()),(x1,x1',()),())) (t116 x0 x0' x1 x1') :=
  TrOk.ofTest (fun h0 => TrOk.ofFin (PureRuns.of (e116_0 x0 x0' x1 x1') (ac h0 All.nil))) (fun h0 => TrOk.ofTest (fun h1 => TrOk.ofFin (PureRuns.of (e116_1 x0 x0' x1 x1') (ac h1 (ac h0 All.nil)))) (fun h1 => TrOk.ofTest (fun h2 => TrOk.ofTest (fun h3 => TrOk.ofTest (fun h4 => TrOk.ofFin (PureRuns.of (e116_2 x0 x0' x1 x1') (ac h4 (ac h3 (ac h2 (ac h1 (ac h0 All.nil))))))) (fun h4 => TrOk.ofStop)) (fun h3 => TrOk.ofStop)) (fun h2 => TrOk.ofTest (fun h3 => TrOk.ofTest (fun h4 => TrOk.ofFin (PureRuns.of (e116_3 x0 x0' x1 x1') (ac h4 (ac h3 (ac h2 (ac h1 (ac h0 All.nil))))))) (fun h4 => TrOk.ofTest (fun h5 => TrOk.ofTest (fun h6 => TrOk.ofTest (fun h7 => TrOk.ofFin (PureRuns.of (e116_4 x0 x0' x1 x1') (ac h7 (ac h6 (ac h5 (ac h4 (ac h3 (ac h2 (ac h1 (ac h0 All.nil)))))))))) (fun h7 => TrOk.ofStop)) (fun h6 => TrOk.ofStop)) (fun h5 => TrOk.ofTest (fun h6 => TrOk.ofTest (fun h7 => TrOk.ofFin (PureRuns.of (e116_5 x0 x0' x1 x1') (ac h7 (ac h6 (ac h5 (ac h4 (ac h3 (ac h2 (ac h1 (ac h0 All.nil)))))))))) (fun h7 => TrOk.ofStop)) (fun h6 => TrOk.ofStop)))) (fun h3 => TrOk.ofStop))))

theorem ok116 : PureOk Go.Proofs.Try.prog 116 p116 := pureOk_of kf154_ok.base (T := fun (d : Tys.data as116) => t116 d.1.1 d.1.2.1 d.2.1.1 d.2.1.2.1) (by kernel_rfl) (fun (d : Tys.data as116) => ok116_t d.1.1 d.1.2.1 d.2.1.1 d.2.1.2.1)
def kf116 : Known := kf154.func 116 p116
theorem kf116_ok : KnownOk Go.Proofs.Try.prog kf116 := kf154_ok.func ok116

/-! ductility/ductilitybase.WideSub -/

abbrev as157 : List Ty := [(.pair (.int .i64) (.pair (.slice (.int .i64)) .unit)),(.pair (.int .i64) (.pair (.slice (.int .i64)) .unit))]
abbrev rs157 : List Ty := [(.pair (.int .i64) (.pair (.slice (.int .i64)) .unit))]

def t157 (x0 : Int) (x0' : (List Int)) (x1 : Int) (x1' : (List Int)) : Tr (Tys.data rs157) :=
  Tr.test (Option.isSome (f150 ((x1,(x1',())),())))
    (let r0 : (Int × List Int × PUnit) × PUnit := g150 ((x1,(x1',())),());
    Tr.test (Option.isSome (f116 ((x0,(x0',())),((r0.1.1,(r0.1.2.1,())),()))))
      (let r1 : (Int × List Int × PUnit) × PUnit := g116 ((x0,(x0',())),((r0.1.1,(r0.1.2.1,())),()));
      Tr.fin (((r1.1.1,(r1.1.2.1,())),())))
      (Tr.stop))
    (Tr.stop)

def f157 (d : Tys.data as157) : Option (Tys.data rs157) := (t157 d.1.1 d.1.2.1 d.2.1.1 d.2.1.2.1).val
def g157 (d : Tys.data as157) : Tys.data rs157 := (f157 d).getD (Tys.dflt rs157)
def p157 : PureC := pcOf as157 rs157 f157 g157

theorem e157_0 (x0 : Int) (x0' : (List Int)) (x1 : Int) (x1' : (List Int)) : runPure kf116.orc Go.Proofs.Try.prog 400 157 as157 rs157 ((x0,x0',()),(x1,x1',()),()) [tt,tt] =
    (let r0 : (Int × List Int × PUnit) × PUnit := g150 ((x1,(x1',())),()); let r1 : (Int × List Int × PUnit) × PUnit := g116 ((x0,(x0',())),((r0.1.1,(r0.1.2.1,())),())); some (((r1.1.1,(r1.1.2.1,())),()),[(Option.isSome (f116 ((x0,(x0',())),((r0.1.1,(r0.1.2.1,())),()))),true),(Option.isSome (f150 ((x1,(x1',())),())),true)])) := by kernel_rfl

theorem ok157_t (x0 : Int) (x0' : (List Int)) (x1 : Int) (x1' : (List Int)) : TrOk (PureRuns Go.Proofs.Try.prog kf116.orc 157 as157 rs157 ((x0,x0',()),(x1,x1',()),())) (t157 x0 x0' x1 x1') :=
  TrOk.ofTest (fun h0 => TrOk.ofTest (fun h1 => TrOk.ofFin (PureRuns.of (e157_0 x0 x0' x1 x1') (ac h1 (ac h0 All.nil)))) (fun h1 => TrOk.ofStop)) (fun h0 => TrOk.ofStop)

theorem ok157 : PureOk Go.Proofs.Try.prog 157 p157 := pureOk_of kf116_ok.base (T := fun (d : Tys.data as157) => t157 d.1.1 d.1.2.1 d.2.1.1 d.2.1.2.1) (by kernel_rfl) (fun (d : Tys.data as157) => ok157_t d.1.1 d.1.2.1 d.2.1.1 d.2.1.2.1)
def kf157 : Known := kf116.func 157 p157
theorem kf157_ok : KnownOk Go.Proofs.Try.prog kf157 := kf116_ok.func ok157

/-! loop 2 of ductility/ductilitybase.WideFloor -/

abbrev sh153_2 : Sh := { n := 88,slots := [2,3,4,5,6,7,8,9],pats := [.ptr 0 2 0,.ptr 1 2 0,.ptr 2 2 0,.sli 3 1,.ty (.slice (.int .i64)),.ty (.int .i64),.ty (.int .i64),.ty (.int .i64)],boxes := [.row [.ty (.int .i64),.ty (.slice (.int .i64))],.row [.ty (.int .i64),.ty (.slice (.int .i64))],.row [.ty (.int .i64),.nil],.arr (.int .i64)] }
abbrev shb153_2 : Sh := { n := 88,slots := [2,3,4,5,6,7,8],pats := [.ptr 0 2 0,.ptr 1 2 0,.ptr 2 2 0,.sli 3 1,.ty (.slice (.int .i64)),.ty (.int .i64),.ty (.int .i64)],boxes := [.row [.ty (.int .i64),.ty (.slice (.int .i64))],.row [.ty (.int .i64),.ty (.slice (.int .i64))],.row [.ty (.int .i64),.nil],.arr (.int .i64)] }
abbrev shr153_2 : Sh := { n := 88,slots := [],pats := [],boxes := [.row [.ty (.int .i64),.ty (.slice (.int .i64))],.row [.ty (.int .i64),.ty (.slice (.int .i64))],.row [.ty (.int .i64),.nil],.arr (.int .i64)] }

def t153_2 (x3n : Nat) (x3c : Nat) (x4 : (List Int)) (x5 : Int) (x6 : Int) (x7 : Int) (b0_0 : Int) (b0_1 : (List Int)) (b1_0 : Int) (b1_1 : (List Int)) (b2_0 : Int) (b3 : (List Int)) : Tr (Out sh153_2.data shb153_2.data shr153_2.data) :=
  Tr.test ((!leF x7 x6 : Bool))
    (Tr.test (Option.isSome (f149 ((1 : Int),(b1_1,()))))
      (Tr.test (Option.isSome (f113 ((Go.IntKind.wrap Go.IntKind.i64 (Int.tdiv (wrap64 (wrap64 (x6 + x7) + (1 : Int))) (2 : Int)) : Int),())))
        (let r0 : (Int × List Int × PUnit) × PUnit := g149 ((1 : Int),(b1_1,()));
        let r1 : (Int × List Int × PUnit) × PUnit := g113 ((Go.IntKind.wrap Go.IntKind.i64 (Int.tdiv (wrap64 (wrap64 (x6 + x7) + (1 : Int))) (2 : Int)) : Int),());
        Tr.test (Option.isSome (f117 ((r0.1.1,(r0.1.2.1,())),((r1.1.1,(r1.1.2.1,())),()))))
          (let r2 : (Int × List Int × PUnit) × PUnit := g117 ((r0.1.1,(r0.1.2.1,())),((r1.1.1,(r1.1.2.1,())),()));
          Tr.test (Option.isSome (f155 (r2.1.2.1,(x4,()))))
            (let r3 : Int × PUnit := g155 (r2.1.2.1,(x4,()));
            Tr.test ((leF r3.1 0 : Bool))
              (Tr.fin (.again (((x3n,x3c),(x4,(x5,((Go.IntKind.wrap Go.IntKind.i64 (Int.tdiv (wrap64 (wrap64 (x6 + x7) + (1 : Int))) (2 : Int)) : Int),(x7,()))))),((b0_0,(b0_1,())),((b1_0,(b1_1,())),((b2_0,()),(b3,())))))))
              (Tr.fin (.again (((x3n,x3c),(x4,(x5,(x6,((wrap64 (Go.IntKind.wrap Go.IntKind.i64 (Int.tdiv (wrap64 (wrap64 (x6 + x7) + (1 : Int))) (2 : Int)) - (1 : Int)) : Int),()))))),((b0_0,(b0_1,())),((b1_0,(b1_1,())),((b2_0,()),(b3,()))))))))
            (Tr.stop))
          (Tr.stop))
        (Tr.stop))
      (Tr.stop))
    (Tr.fin (.brk (((x3n,x3c),(x4,(x5,(x6,())))),((b0_0,(b0_1,())),((b1_0,(b1_1,())),((b2_0,()),(b3,())))))))

def s153_2 (d : sh153_2.data) : Option (Out sh153_2.data shb153_2.data shr153_2.data) := (t153_2 d.1.1.1 d.1.1.2 d.1.2.1 d.1.2.2.1 d.1.2.2.2.1 d.1.2.2.2.2.1 d.2.1.1 d.2.1.2.1 d.2.2.1.1 d.2.2.1.2.1 d.2.2.2.1.1 d.2.2.2.2.1).val
def l153_2 (d : sh153_2.data) : Option (shb153_2.data ⊕ shr153_2.data) := itr s153_2 rounds d
def b153_2 (d : sh153_2.data) : shb153_2.data := outB shb153_2.dflt (l153_2 d)
def lc153_2 : LoopC := lcB sh153_2 shb153_2 shr153_2 l153_2 b153_2

theorem e153_2_0 (x3n : Nat) (x3c : Nat) (x4 : (List Int)) (x5 : Int) (x6 : Int) (x7 : Int) (b0_0 : Int) (b0_1 : (List Int)) (b1_0 : Int) (b1_1 : (List Int)) (b2_0 : Int) (b3 : (List Int)) : runBody kf157.orc Go.Proofs.Try.prog 400 153 2 sh153_2 shb153_2 shr153_2 (((x3n,x3c),x4,x5,x6,x7,()),(b0_0,b0_1,()),(b1_0,b1_1,()),(b2_0,()),b3,()) [tt,ff,tt,tt,tt,tt,tt] =
    (let r0 : (Int × List Int × PUnit) × PUnit := g149 ((1 : Int),(b1_1,())); let r1 : (Int × List Int × PUnit) × PUnit := g113 ((Go.IntKind.wrap Go.IntKind.i64 (Int.tdiv (wrap64 (wrap64 (x6 + x7) + (1 : Int))) (2 : Int)) : Int),()); let r2 : (Int × List Int × PUnit) × PUnit := g117 ((r0.1.1,(r0.1.2.1,())),((r1.1.1,(r1.1.2.1,())),())); let r3 : Int × PUnit := g155 (r2.1.2.1,(x4,())); some (.again (((x3n,x3c),(x4,(x5,((Go.IntKind.wrap Go.IntKind.i64 (Int.tdiv (wrap64 (wrap64 (x6 + x7) + (1 : Int))) (2 : Int)) : Int),(x7,()))))),((b0_0,(b0_1,())),((b1_0,(b1_1,())),((b2_0,()),(b3,()))))),[(leF r3.1 0,true),(Option.isSome (f155 (r2.1.2.1,(x4,()))),true),(Option.isSome (f117 ((r0.1.1,(r0.1.2.1,())),((r1.1.1,(r1.1.2.1,())),()))),true),(Option.isSome (f113 ((Go.IntKind.wrap Go.IntKind.i64 (Int.tdiv (wrap64 (wrap64 (x6 + x7) + (1 : Int))) (2 : Int)) : Int),())),true),(Option.isSome (f149 ((1 : Int),(b1_1,()))),true),(false,false),(!leF x7 x6,true)])) := by kernel_rfl
theorem e153_2_1 (x3n : Nat) (x3c : Nat) (x4 : (List Int)) (x5 : Int) (x6 : Int) (x7 : Int) (b0_0 : Int) (b0_1 : (List Int)) (b1_0 : Int) (b1_1 : (List Int)) (b2_0 : Int) (b3 : (List Int)) : runBody kf157.orc Go.Proofs.Try.prog 400 153 2 sh153_2 shb153_2 shr153_2 (((x3n,x3c),x4,x5,x6,x7,()),(b0_0,b0_1,()),(b1_0,b1_1,()),(b2_0,()),b3,()) [tt,ff,tt,tt,tt,tt,ff] =
    (let r0 : (Int × List Int × PUnit) × PUnit := g149 ((1 : Int),(b1_1,())); let r1 : (Int × List Int × PUnit) × PUnit := g113 ((Go.IntKind.wrap Go.IntKind.i64 (Int.tdiv (wrap64 (wrap64 (x6 + x7) + (1 : Int))) (2 : Int)) : Int),()); let r2 : (Int × List Int × PUnit) × PUnit := g117 ((r0.1.1,(r0.1.2.1,())),((r1.1.1,(r1.1.2.1,())),())); let r3 : Int × PUnit := g155 (r2.1.2.1,(x4,())); some (.again (((x3n,x3c),(x4,(x5,(x6,((wrap64 (Go.IntKind.wrap Go.IntKind.i64 (Int.tdiv (wrap64 (wrap64 (x6 + x7) + (1 : Int))) (2 : Int)) - (1 : Int)) : Int),()))))),((b0_0,(b0_1,())),((b1_0,(b1_1,())),((b2_0,()),(b3,()))))),[(leF r3.1 0,false),(Option.isSome (f155 (r2.1.2.1,(x4,()))),true),(Option.isSome (f117 ((r0.1.1,(r0.1.2.1,())),((r1.1.1,(r1.1.2.1,())),()))),true),(Option.isSome (f113 ((Go.IntKind.wrap Go.IntKind.i64 (Int.tdiv (wrap64 (wrap64 (x6 + x7) + (1 : Int))) (2 : Int)) : Int),())),true),(Option.isSome (f149 ((1 : Int),(b1_1,()))),true),(false,false),(!leF x7 x6,true)])) := by kernel_rfl
theorem e153_2_2 (x3n : Nat) (x3c : Nat) (x4 : (List Int)) (x5 : Int) (x6 : Int) (x7 : Int) (b0_0 : Int) (b0_1 : (List Int)) (b1_0 : Int) (b1_1 : (List Int)) (b2_0 : Int) (b3 : (List Int)) : runBody kf157.orc Go.Proofs.Try.prog 400 153 2 sh153_2 shb153_2 shr153_2 (((x3n,x3c),x4,x5,x6,x7,()),(b0_0,b0_1,()),(b1_0,b1_1,()),(b2_0,()),b3,()) [ff] =
    (some (.brk (((x3n,x3c),(x4,(x5,(x6,())))),((b0_0,(b0_1,())),((b1_0,(b1_1,())),((b2_0,()),(b3,()))))),[(!leF x7 x6,false)])) := by kernel_rfl

theorem ok153_2_t (x3n : Nat) (x3c : Nat) (x4 : (List Int)) (x5 : Int) (x6 : Int) (x7 : Int) (b0_0 : Int) (b0_1 : (List Int)) (b1_0 : Int) (b1_1 : (List Int)) (b2_0 : Int) (b3 : (List Int)) : TrOk (BodyRuns Go.Proofs.Try.prog kf157.orc 153 2 sh153_2 shb153_2 shr153_2 (((x3n,x3c),x4,x5,x6,x7,()),(b0_0,b0_1,()),(b1_0,b1_1,()),(b2_0,()),b3,())) (t153_2 x3n x3c x4 x5 x6 x7 b0_0 b0_1 b1_0 b1_1 b2_0 b3) :=
  TrOk.ofTest (fun h0 => TrOk.ofTest (fun h2 => TrOk.ofTest (fun h3 => TrOk.ofTest (fun h4 => TrOk.ofTest (fun h5 => TrOk.ofTest (fun h6 => TrOk.ofFin (BodyRuns.of (e153_2_0 x3n x3c x4 x5 x6 x7 b0_0 b0_1 b1_0 b1_1 b2_0 b3) (ac h6 (ac h5 (ac h4 (ac h3 (ac h2 (ac rfl (ac h0 All.nil))))))))) (fun h6 => TrOk.ofFin (BodyRuns.of (e153_2_1 x3n x3c x4 x5 x6 x7 b0_0 b0_1 b1_0 b1_1 b2_0 b3) (ac h6 (ac h5 (ac h4 (ac h3 (ac h2 (ac rfl (ac h0 All.nil)))))))))) (fun h5 => TrOk.ofStop)) (fun h4 => TrOk.ofStop)) (fun h3 => TrOk.ofStop)) (fun h2 => TrOk.ofStop)) (fun h0 => TrOk.ofFin (BodyRuns.of (e153_2_2 x3n x3c x4 x5 x6 x7 b0_0 b0_1 b1_0 b1_1 b2_0 b3) (ac h0 All.nil)))

theorem ok153_2 : LoopOk Go.Proofs.Try.prog 153 2 lc153_2 := loopOk_ofB kf157_ok.base (T := fun (d : sh153_2.data) => t153_2 d.1.1.1 d.1.1.2 d.1.2.1 d.1.2.2.1 d.1.2.2.2.1 d.1.2.2.2.2.1 d.2.1.1 d.2.1.2.1 d.2.2.1.1 d.2.2.1.2.1 d.2.2.2.1.1 d.2.2.2.2.1) (by kernel_rfl) rfl (fun (d : sh153_2.data) => ok153_2_t d.1.1.1 d.1.1.2 d.1.2.1 d.1.2.2.1 d.1.2.2.2.1 d.1.2.2.2.2.1 d.2.1.1 d.2.1.2.1 d.2.2.1.1 d.2.2.1.2.1 d.2.2.2.1.1 d.2.2.2.2.1) (fun _ => rfl)
def kl153_2 : Known := kf157.loop 153 2 lc153_2
theorem kl153_2_ok : KnownOk Go.Proofs.Try.prog kl153_2 := kf157_ok.loop ok153_2

/-! loop 0 of ductility/ductilitybase.WideFloor -/

abbrev sh153_0 : Sh := { n := 88,slots := [2,3,4,5,6,7],pats := [.ptr 0 2 0,.ptr 1 2 0,.ptr 2 2 0,.sli 3 1,.ty (.slice (.int .i64)),.ty (.int .i64)],boxes := [.row [.ty (.int .i64),.ty (.slice (.int .i64))],.row [.ty (.int .i64),.ty (.slice (.int .i64))],.row [.ty (.int .i64),.nil],.arr (.int .i64)] }
abbrev shb153_0 : Sh := { n := 88,slots := [2,4,5,6],pats := [.ptr 0 2 0,.ptr 2 2 0,.sli 3 1,.ty (.slice (.int .i64))],boxes := [.row [.ty (.int .i64),.ty (.slice (.int .i64))],.row [.ty (.int .i64),.ty (.slice (.int .i64))],.row [.ty (.int .i64),.nil],.arr (.int .i64)] }
abbrev shr153_0 : Sh := { n := 88,slots := [],pats := [],boxes := [.row [.ty (.int .i64),.ty (.slice (.int .i64))],.row [.ty (.int .i64),.ty (.slice (.int .i64))],.row [.ty (.int .i64),.nil],.arr (.int .i64)] }

def t153_0 (x3n : Nat) (x3c : Nat) (x4 : (List Int)) (x5 : Int) (b0_0 : Int) (b0_1 : (List Int)) (b1_0 : Int) (b1_1 : (List Int)) (b2_0 : Int) (b3 : (List Int)) : Tr (Out sh153_0.data shb153_0.data shr153_0.data) :=
  Tr.test ((leF (0 : Int) x5 : Bool))
    (Tr.test (decide ((0 : Int) ≤ x5) && decide (x5 < (↑(List.length b0_1) : Int)))
      (Tr.test ((Nat.beq (List.length x4) (0 : Nat) : Bool))
        (Tr.test (Option.isSome (f173 (([List.getD b0_1 (Int.toNat x5) (0 : Int)] : List Int),())))
          (let r0 : List Int × PUnit := g173 (([List.getD b0_1 (Int.toNat x5) (0 : Int)] : List Int),());
          Tr.test (isBrk (l153_2 (((x3n,x3c),(r0.1,(x5,((0 : Int),((999999999 : Int),()))))),((b0_0,(b0_1,())),((b1_0,(b1_1,())),((b2_0,()),(b3,())))))))
            (let r2 : ((Nat × Nat) × List Int × Int × Int × PUnit) × (Int × List Int × PUnit) × (Int × List Int × PUnit) × (Int × PUnit) × List Int × PUnit := b153_2 (((x3n,x3c),(r0.1,(x5,((0 : Int),((999999999 : Int),()))))),((b0_0,(b0_1,())),((b1_0,(b1_1,())),((b2_0,()),(b3,())))));
            Tr.test ((decide ((0 : Int) ≤ r2.1.2.2.1) && decide (r2.1.2.2.1 < (↑r2.1.1.1 : Int)) : Bool))
              (Tr.test ((Nat.ble ((0 : Nat) + Int.toNat r2.1.2.2.1 + (1 : Nat)) (List.length r2.2.2.2.2.1) : Bool))
                (Tr.test (Option.isSome (f149 ((1 : Int),(r2.2.2.1.2.1,()))))
                  (Tr.test (Option.isSome (f113 (r2.1.2.2.2.1,())))
                    (let r3 : (Int × List Int × PUnit) × PUnit := g149 ((1 : Int),(r2.2.2.1.2.1,()));
                    let r4 : (Int × List Int × PUnit) × PUnit := g113 (r2.1.2.2.2.1,());
                    Tr.test (Option.isSome (f117 ((r3.1.1,(r3.1.2.1,())),((r4.1.1,(r4.1.2.1,())),()))))
                      (let r5 : (Int × List Int × PUnit) × PUnit := g117 ((r3.1.1,(r3.1.2.1,())),((r4.1.1,(r4.1.2.1,())),()));
                      Tr.test (Option.isSome (f156 (r2.1.2.1,(r5.1.2.1,()))))
                        (let r6 : List Int × PUnit := g156 (r2.1.2.1,(r5.1.2.1,()));
                        Tr.fin (.again (((r2.1.1.1,r2.1.1.2),(r6.1,((wrap64 (r2.1.2.2.1 - (1 : Int)) : Int),()))),((r2.2.1.1,(r2.2.1.2.1,())),((r2.2.2.1.1,(r2.2.2.1.2.1,())),((r2.2.2.2.1.1,()),((List.set r2.2.2.2.2.1 ((0 : Nat) + Int.toNat r2.1.2.2.1) r2.1.2.2.2.1 : List Int),())))))))
                        (Tr.stop))
                      (Tr.stop))
                    (Tr.stop))
                  (Tr.stop))
                (Tr.stop /- none [op 4 of region 14 of F153] -/))
              (Tr.stop /- none [op 3 of region 14 of F153] -/))
            (Tr.stop))
          (Tr.stop))
        (Tr.test ((Nat.ble ((1 : Nat) + List.length x4) (1 : Nat) : Bool))
          (Tr.stop /- none [op 7 of region 7 of F153] -/)
          (Tr.test ((Nat.ble (((2 : Nat) * ((1 : Nat) + List.length x4) + (192 : Nat)) * (8 : Nat)) (281474976710656 : Nat) && Nat.ble ((1 : Nat) + List.length x4) (281474976710656 : Nat) : Bool))
            (Tr.test ((Nat.beq ((1 : Nat) + List.length x4) (List.length ([List.getD b0_1 (Int.toNat x5) (0 : Int)] ++ x4)) : Bool))
              (Tr.test (Option.isSome (f173 (([List.getD b0_1 (Int.toNat x5) (0 : Int)] ++ x4 : List Int),())))
                (let r1 : List Int × PUnit := g173 (([List.getD b0_1 (Int.toNat x5) (0 : Int)] ++ x4 : List Int),());
                Tr.test (isBrk (l153_2 (((x3n,x3c),(r1.1,(x5,((0 : Int),((999999999 : Int),()))))),((b0_0,(b0_1,())),((b1_0,(b1_1,())),((b2_0,()),(b3,())))))))
                  (let r7 : ((Nat × Nat) × List Int × Int × Int × PUnit) × (Int × List Int × PUnit) × (Int × List Int × PUnit) × (Int × PUnit) × List Int × PUnit := b153_2 (((x3n,x3c),(r1.1,(x5,((0 : Int),((999999999 : Int),()))))),((b0_0,(b0_1,())),((b1_0,(b1_1,())),((b2_0,()),(b3,())))));
                  Tr.test ((decide ((0 : Int) ≤ r7.1.2.2.1) && decide (r7.1.2.2.1 < (↑r7.1.1.1 : Int)) : Bool))
                    (Tr.test ((Nat.ble ((0 : Nat) + Int.toNat r7.1.2.2.1 + (1 : Nat)) (List.length r7.2.2.2.2.1) : Bool))
                      (Tr.test (Option.isSome (f149 ((1 : Int),(r7.2.2.1.2.1,()))))
                        (Tr.test (Option.isSome (f113 (r7.1.2.2.2.1,())))
                          (let r8 : (Int × List Int × PUnit) × PUnit := g149 ((1 : Int),(r7.2.2.1.2.1,()));
                          let r9 : (Int × List Int × PUnit) × PUnit := g113 (r7.1.2.2.2.1,());
                          Tr.test (Option.isSome (f117 ((r8.1.1,(r8.1.2.1,())),((r9.1.1,(r9.1.2.1,())),()))))
                            (let r10 : (Int × List Int × PUnit) × PUnit := g117 ((r8.1.1,(r8.1.2.1,())),((r9.1.1,(r9.1.2.1,())),()));
                            Tr.test (Option.isSome (f156 (r7.1.2.1,(r10.1.2.1,()))))
                              (let r11 : List Int × PUnit := g156 (r7.1.2.1,(r10.1.2.1,()));
                              Tr.fin (.again (((r7.1.1.1,r7.1.1.2),(r11.1,((wrap64 (r7.1.2.2.1 - (1 : Int)) : Int),()))),((r7.2.1.1,(r7.2.1.2.1,())),((r7.2.2.1.1,(r7.2.2.1.2.1,())),((r7.2.2.2.1.1,()),((List.set r7.2.2.2.2.1 ((0 : Nat) + Int.toNat r7.1.2.2.1) r7.1.2.2.2.1 : List Int),())))))))
                              (Tr.stop))
                            (Tr.stop))
                          (Tr.stop))
                        (Tr.stop))
                      (Tr.stop /- none [op 4 of region 14 of F153] -/))
                    (Tr.stop /- none [op 3 of region 14 of F153] -/))
                  (Tr.stop))
                (Tr.stop))
              (Tr.stop))
            (Tr.stop /- none [op 7 of region 7 of F153] -/))))
      (Tr.stop /- none [op 3 of region 7 of F153] -/))
    (Tr.fin (.brk (((x3n,x3c),(x4,())),((b0_0,(b0_1,())),((b1_0,(b1_1,())),((b2_0,()),(b3,())))))))

def s153_0 (d : sh153_0.data) : Option (Out sh153_0.data shb153_0.data shr153_0.data) := (t153_0 d.1.1.1 d.1.1.2 d.1.2.1 d.1.2.2.1 d.2.1.1 d.2.1.2.1 d.2.2.1.1 d.2.2.1.2.1 d.2.2.2.1.1 d.2.2.2.2.1).val
def l153_0 (d : sh153_0.data) : Option (shb153_0.data ⊕ shr153_0.data) := itr s153_0 rounds d
def b153_0 (d : sh153_0.data) : shb153_0.data := outB shb153_0.dflt (l153_0 d)
def lc153_0 : LoopC := lcB sh153_0 shb153_0 shr153_0 l153_0 b153_0

theorem e153_0_0 (x3n : Nat) (x3c : Nat) (x4 : (List Int)) (x5 : Int) (b0_0 : Int) (b0_1 : (List Int)) (b1_0 : Int) (b1_1 : (List Int)) (b2_0 : Int) (b3 : (List Int)) : runBody kl153_2.orc Go.Proofs.Try.prog 400 153 0 sh153_0 shb153_0 shr153_0 (((x3n,x3c),x4,x5,()),(b0_0,b0_1,()),(b1_0,b1_1,()),(b2_0,()),b3,()) [tt,tt,tt,tt,tt,tt,tt,tt,tt,tt,tt,tt,tt] =
    (let r0 : List Int × PUnit := g173 (([List.getD b0_1 (Int.toNat x5) (0 : Int)] : List Int),()); let r2 : ((Nat × Nat) × List Int × Int × Int × PUnit) × (Int × List Int × PUnit) × (Int × List Int × PUnit) × (Int × PUnit) × List Int × PUnit := b153_2 (((x3n,x3c),(r0.1,(x5,((0 : Int),((999999999 : Int),()))))),((b0_0,(b0_1,())),((b1_0,(b1_1,())),((b2_0,()),(b3,()))))); let r3 : (Int × List Int × PUnit) × PUnit := g149 ((1 : Int),(r2.2.2.1.2.1,())); let r4 : (Int × List Int × PUnit) × PUnit := g113 (r2.1.2.2.2.1,()); let r5 : (Int × List Int × PUnit) × PUnit := g117 ((r3.1.1,(r3.1.2.1,())),((r4.1.1,(r4.1.2.1,())),())); let r6 : List Int × PUnit := g156 (r2.1.2.1,(r5.1.2.1,())); some (.again (((r2.1.1.1,r2.1.1.2),(r6.1,((wrap64 (r2.1.2.2.1 - (1 : Int)) : Int),()))),((r2.2.1.1,(r2.2.1.2.1,())),((r2.2.2.1.1,(r2.2.2.1.2.1,())),((r2.2.2.2.1.1,()),((List.set r2.2.2.2.2.1 ((0 : Nat) + Int.toNat r2.1.2.2.1) r2.1.2.2.2.1 : List Int),()))))),[(Option.isSome (f156 (r2.1.2.1,(r5.1.2.1,()))),true),(Option.isSome (f117 ((r3.1.1,(r3.1.2.1,())),((r4.1.1,(r4.1.2.1,())),()))),true),(Option.isSome (f113 (r2.1.2.2.2.1,())),true),(Option.isSome (f149 ((1 : Int),(r2.2.2.1.2.1,()))),true),(Nat.ble ((0 : Nat) + Int.toNat r2.1.2.2.1 + (1 : Nat)) (List.length r2.2.2.2.2.1),true),(decide ((0 : Int) ≤ r2.1.2.2.1) && decide (r2.1.2.2.1 < (↑r2.1.1.1 : Int)),true),(true,true),(isBrk (l153_2 (((x3n,x3c),(r0.1,(x5,((0 : Int),((999999999 : Int),()))))),((b0_0,(b0_1,())),((b1_0,(b1_1,())),((b2_0,()),(b3,())))))),true),(Option.isSome (f173 (([List.getD b0_1 (Int.toNat x5) (0 : Int)] : List Int),())),true),(true,true),(Nat.beq (List.length x4) (0 : Nat),true),(decide ((0 : Int) ≤ x5) && decide (x5 < (↑(List.length b0_1) : Int)),true),(leF (0 : Int) x5,true)])) := by kernel_rfl
theorem e153_0_4 (x3n : Nat) (x3c : Nat) (x4 : (List Int)) (x5 : Int) (b0_0 : Int) (b0_1 : (List Int)) (b1_0 : Int) (b1_1 : (List Int)) (b2_0 : Int) (b3 : (List Int)) : runBody kl153_2.orc Go.Proofs.Try.prog 400 153 0 sh153_0 shb153_0 shr153_0 (((x3n,x3c),x4,x5,()),(b0_0,b0_1,()),(b1_0,b1_1,()),(b2_0,()),b3,()) [tt,tt,ff,ff,tt,tt,tt,tt,tt,tt,tt,tt,tt,tt,tt,tt] =
    (let r1 : List Int × PUnit := g173 (([List.getD b0_1 (Int.toNat x5) (0 : Int)] ++ x4 : List Int),()); let r7 : ((Nat × Nat) × List Int × Int × Int × PUnit) × (Int × List Int × PUnit) × (Int × List Int × PUnit) × (Int × PUnit) × List Int × PUnit := b153_2 (((x3n,x3c),(r1.1,(x5,((0 : Int),((999999999 : Int),()))))),((b0_0,(b0_1,())),((b1_0,(b1_1,())),((b2_0,()),(b3,()))))); let r8 : (Int × List Int × PUnit) × PUnit := g149 ((1 : Int),(r7.2.2.1.2.1,())); let r9 : (Int × List Int × PUnit) × PUnit := g113 (r7.1.2.2.2.1,()); let r10 : (Int × List Int × PUnit) × PUnit := g117 ((r8.1.1,(r8.1.2.1,())),((r9.1.1,(r9.1.2.1,())),())); let r11 : List Int × PUnit := g156 (r7.1.2.1,(r10.1.2.1,())); some (.again (((r7.1.1.1,r7.1.1.2),(r11.1,((wrap64 (r7.1.2.2.1 - (1 : Int)) : Int),()))),((r7.2.1.1,(r7.2.1.2.1,())),((r7.2.2.1.1,(r7.2.2.1.2.1,())),((r7.2.2.2.1.1,()),((List.set r7.2.2.2.2.1 ((0 : Nat) + Int.toNat r7.1.2.2.1) r7.1.2.2.2.1 : List Int),()))))),[(Option.isSome (f156 (r7.1.2.1,(r10.1.2.1,()))),true),(Option.isSome (f117 ((r8.1.1,(r8.1.2.1,())),((r9.1.1,(r9.1.2.1,())),()))),true),(Option.isSome (f113 (r7.1.2.2.2.1,())),true),(Option.isSome (f149 ((1 : Int),(r7.2.2.1.2.1,()))),true),(Nat.ble ((0 : Nat) + Int.toNat r7.1.2.2.1 + (1 : Nat)) (List.length r7.2.2.2.2.1),true),(decide ((0 : Int) ≤ r7.1.2.2.1) && decide (r7.1.2.2.1 < (↑r7.1.1.1 : Int)),true),(true,true),(isBrk (l153_2 (((x3n,x3c),(r1.1,(x5,((0 : Int),((999999999 : Int),()))))),((b0_0,(b0_1,())),((b1_0,(b1_1,())),((b2_0,()),(b3,())))))),true),(Option.isSome (f173 (([List.getD b0_1 (Int.toNat x5) (0 : Int)] ++ x4 : List Int),())),true),(Nat.beq ((1 : Nat) + List.length x4) (List.length ([List.getD b0_1 (Int.toNat x5) (0 : Int)] ++ x4)),true),(true,true),(Nat.ble (((2 : Nat) * ((1 : Nat) + List.length x4) + (192 : Nat)) * (8 : Nat)) (281474976710656 : Nat) && Nat.ble ((1 : Nat) + List.length x4) (281474976710656 : Nat),true),(Nat.ble ((1 : Nat) + List.length x4) (1 : Nat),false),(Nat.beq (List.length x4) (0 : Nat),false),(decide ((0 : Int) ≤ x5) && decide (x5 < (↑(List.length b0_1) : Int)),true),(leF (0 : Int) x5,true)])) := by kernel_rfl
theorem e153_0_9 (x3n : Nat) (x3c : Nat) (x4 : (List Int)) (x5 : Int) (b0_0 : Int) (b0_1 : (List Int)) (b1_0 : Int) (b1_1 : (List Int)) (b2_0 : Int) (b3 : (List Int)) : runBody kl153_2.orc Go.Proofs.Try.prog 400 153 0 sh153_0 shb153_0 shr153_0 (((x3n,x3c),x4,x5,()),(b0_0,b0_1,()),(b1_0,b1_1,()),(b2_0,()),b3,()) [ff] =
    (some (.brk (((x3n,x3c),(x4,())),((b0_0,(b0_1,())),((b1_0,(b1_1,())),((b2_0,()),(b3,()))))),[(leF (0 : Int) x5,false)])) := by kernel_rfl

theorem ok153_0_t (x3n : Nat) (x3c : Nat) (x4 : (List Int)) (x5 : Int) (b0_0 : Int) (b0_1 : (List Int)) (b1_0 : Int) (b1_1 : (List Int)) (b2_0 : Int) (b3 : (List Int)) : TrOk (BodyRuns Go.Proofs.Try.prog kl153_2.orc 153 0 sh153_0 shb153_0 shr153_0 (((x3n,x3c),x4,x5,()),(b0_0,b0_1,()),(b1_0,b1_1,()),(b2_0,()),b3,())) (t153_0 x3n x3c x4 x5 b0_0 b0_1 b1_0 b1_1 b2_0 b3) :=
  TrOk.ofTest (fun h0 => TrOk.ofTest (fun h1 => TrOk.ofTest (fun h2 => TrOk.ofTest (fun h4 => TrOk.ofTest (fun h5 => TrOk.ofTest (fun h7 => TrOk.ofTest (fun h8 => TrOk.ofTest (fun h9 => TrOk.ofTest (fun h10 => TrOk.ofTest (fun h11 => TrOk.ofTest (fun h12 => TrOk.ofFin (BodyRuns.of (e153_0_0 x3n x3c x4 x5 b0_0 b0_1 b1_0 b1_1 b2_0 b3) (ac h12 (ac h11 (ac h10 (ac h9 (ac h8 (ac h7 (ac rfl (ac h5 (ac h4 (ac rfl (ac h2 (ac h1 (ac h0 All.nil))))))))))))))) (fun h12 => TrOk.ofStop)) (fun h11 => TrOk.ofStop)) (fun h10 => TrOk.ofStop)) (fun h9 => TrOk.ofStop)) (fun h8 => TrOk.ofStop)) (fun h7 => TrOk.ofStop)) (fun h5 => TrOk.ofStop)) (fun h4 => TrOk.ofStop)) (fun h2 => TrOk.ofTest (fun h3 => TrOk.ofStop) (fun h3 => TrOk.ofTest (fun h4 => TrOk.ofTest (fun h6 => TrOk.ofTest (fun h7 => TrOk.ofTest (fun h8 => TrOk.ofTest (fun h10 => TrOk.ofTest (fun h11 => TrOk.ofTest (fun h12 => TrOk.ofTest (fun h13 => TrOk.ofTest (fun h14 => TrOk.ofTest (fun h15 => TrOk.ofFin (BodyRuns.of (e153_0_4 x3n x3c x4 x5 b0_0 b0_1 b1_0 b1_1 b2_0 b3) (ac h15 (ac h14 (ac h13 (ac h12 (ac h11 (ac h10 (ac rfl (ac h8 (ac h7 (ac h6 (ac rfl (ac h4 (ac h3 (ac h2 (ac h1 (ac h0 All.nil)))))))))))))))))) (fun h15 => TrOk.ofStop)) (fun h14 => TrOk.ofStop)) (fun h13 => TrOk.ofStop)) (fun h12 => TrOk.ofStop)) (fun h11 => TrOk.ofStop)) (fun h10 => TrOk.ofStop)) (fun h8 => TrOk.ofStop)) (fun h7 => TrOk.ofStop)) (fun h6 => TrOk.ofStop)) (fun h4 => TrOk.ofStop)))) (fun h1 => TrOk.ofStop)) (fun h0 => TrOk.ofFin (BodyRuns.of (e153_0_9 x3n x3c x4 x5 b0_0 b0_1 b1_0 b1_1 b2_0 b3) (ac h0 All.nil)))

theorem ok153_0 : LoopOk Go.Proofs.Try.prog 153 0 lc153_0 := loopOk_ofB kl153_2_ok.base (T := fun (d : sh153_0.data) => t153_0 d.1.1.1 d.1.1.2 d.1.2.1 d.1.2.2.1 d.2.1.1 d.2.1.2.1 d.2.2.1.1 d.2.2.1.2.1 d.2.2.2.1.1 d.2.2.2.2.1) (by kernel_rfl) rfl (fun (d : sh153_0.data) => ok153_0_t d.1.1.1 d.1.1.2 d.1.2.1 d.1.2.2.1 d.2.1.1 d.2.1.2.1 d.2.2.1.1 d.2.2.1.2.1 d.2.2.2.1.1 d.2.2.2.2.1) (fun _ => rfl)
def kl153_0 : Known := kl153_2.loop 153 0 lc153_0
theorem kl153_0_ok : KnownOk Go.Proofs.Try.prog kl153_0 := kl153_2_ok.loop ok153_0

/-! ductility/ductilitybase.WideFloor -/

abbrev as153 : List Ty := [(.pair (.int .i64) (.pair (.slice (.int .i64)) .unit)),(.pair (.int .i64) (.pair (.slice (.int .i64)) .unit))]
abbrev rs153 : List Ty := [(.pair (.int .i64) (.pair (.slice (.int .i64)) .unit))]

def t153 (x0 : Int) (x0' : (List Int)) (x1 : Int) (x1' : (List Int)) : Tr (Tys.data rs153) :=
  Tr.test ((eqF x0 0 : Bool))
    (Tr.fin ((((0 : Int),(([] : List Int),())),())))
    (Tr.test (decide ((0 : Int) ≤ (↑(List.length x0') : Int)) && decide ((↑(List.length x0') : Int) ≤ (↑(List.length x0') : Int)) && decide ((8 : Int) * (↑(List.length x0') : Int) ≤ (281474976710656 : Int)) && decide ((↑(List.length x0') : Int) ≤ (281474976710656 : Int)))
      (Tr.test (isBrk (l153_0 ((((Int.toNat (↑(List.length x0') : Int) : Nat),(Int.toNat (↑(List.length x0') : Int) : Nat)),(([] : List Int),((wrap64 ((↑(List.length x0') : Int) - (1 : Int)) : Int),()))),((x0,(x0',())),((x1,(x1',())),(((0 : Int),()),((List.replicate (Int.toNat (↑(List.length x0') : Int)) (0 : Int) : List Int),())))))))
        (let r0 : ((Nat × Nat) × List Int × PUnit) × (Int × List Int × PUnit) × (Int × List Int × PUnit) × (Int × PUnit) × List Int × PUnit := b153_0 ((((Int.toNat (↑(List.length x0') : Int) : Nat),(Int.toNat (↑(List.length x0') : Int) : Nat)),(([] : List Int),((wrap64 ((↑(List.length x0') : Int) - (1 : Int)) : Int),()))),((x0,(x0',())),((x1,(x1',())),(((0 : Int),()),((List.replicate (Int.toNat (↑(List.length x0') : Int)) (0 : Int) : List Int),())))));
        Tr.test ((Nat.beq r0.1.1.1 (List.length r0.2.2.2.2.1) : Bool))
          (Tr.test (Option.isSome (f149 (r0.2.1.1,(r0.2.2.2.2.1,()))))
            (Tr.test ((!leF (0 : Int) r0.2.1.1 : Bool))
              (Tr.test ((!leF (↑(List.length r0.1.2.1) : Int) (0 : Int) : Bool))
                (Tr.test (Option.isSome (f113 ((1 : Int),())))
                  (let r1 : (Int × List Int × PUnit) × PUnit := g149 (r0.2.1.1,(r0.2.2.2.2.1,()));
                  let r3 : (Int × List Int × PUnit) × PUnit := g113 ((1 : Int),());
                  Tr.test (Option.isSome (f157 ((r1.1.1,(r1.1.2.1,())),((r3.1.1,(r3.1.2.1,())),()))))
                    (let r4 : (Int × List Int × PUnit) × PUnit := g157 ((r1.1.1,(r1.1.2.1,())),((r3.1.1,(r3.1.2.1,())),()));
                    Tr.fin (((r4.1.1,(r4.1.2.1,())),())))
                    (Tr.stop))
                  (Tr.stop))
                (let r1 : (Int × List Int × PUnit) × PUnit := g149 (r0.2.1.1,(r0.2.2.2.2.1,()));
                Tr.fin (((r1.1.1,(r1.1.2.1,())),()))))
              (let r1 : (Int × List Int × PUnit) × PUnit := g149 (r0.2.1.1,(r0.2.2.2.2.1,()));
              Tr.fin (((r1.1.1,(r1.1.2.1,())),()))))
            (Tr.stop))
          (Tr.test ((Nat.ble r0.1.1.1 (List.length r0.2.2.2.2.1) : Bool))
            (Tr.test (Option.isSome (f149 (r0.2.1.1,((List.take r0.1.1.1 r0.2.2.2.2.1 : List Int),()))))
              (Tr.test ((!leF (0 : Int) r0.2.1.1 : Bool))
                (Tr.test ((!leF (↑(List.length r0.1.2.1) : Int) (0 : Int) : Bool))
                  (Tr.test (Option.isSome (f113 ((1 : Int),())))
                    (let r2 : (Int × List Int × PUnit) × PUnit := g149 (r0.2.1.1,((List.take r0.1.1.1 r0.2.2.2.2.1 : List Int),()));
                    let r3 : (Int × List Int × PUnit) × PUnit := g113 ((1 : Int),());
                    Tr.test (Option.isSome (f157 ((r2.1.1,(r2.1.2.1,())),((r3.1.1,(r3.1.2.1,())),()))))
                      (let r5 : (Int × List Int × PUnit) × PUnit := g157 ((r2.1.1,(r2.1.2.1,())),((r3.1.1,(r3.1.2.1,())),()));
                      Tr.fin (((r5.1.1,(r5.1.2.1,())),())))
                      (Tr.stop))
                    (Tr.stop))
                  (let r2 : (Int × List Int × PUnit) × PUnit := g149 (r0.2.1.1,((List.take r0.1.1.1 r0.2.2.2.2.1 : List Int),()));
                  Tr.fin (((r2.1.1,(r2.1.2.1,())),()))))
                (let r2 : (Int × List Int × PUnit) × PUnit := g149 (r0.2.1.1,((List.take r0.1.1.1 r0.2.2.2.2.1 : List Int),()));
                Tr.fin (((r2.1.1,(r2.1.2.1,())),()))))
              (Tr.stop))
            (Tr.stop /- a known call [op 3 of region 16 of F153] -/)))
        (Tr.stop))
      (Tr.stop /- none [op 3 of region 3 of F153] -/))

def f153 (d : Tys.data as153) : Option (Tys.data rs153) := (t153 d.1.1 d.1.2.1 d.2.1.1 d.2.1.2.1).val
def g153 (d : Tys.data as153) : Tys.data rs153 := (f153 d).getD (Tys.dflt rs153)
def p153 : PureC := pcOf as153 rs153 f153 g153

theorem e153_0 (x0 : Int) (x0' : (List Int)) (x1 : Int) (x1' : (List Int)) : runPure kl153_0.orc Go.Proofs.Try.prog 400 153 as153 rs153 ((x0,x0',()),(x1,x1',()),()) [tt] =
    (some ((((0 : Int),(([] : List Int),())),()),[(eqF x0 0,true)])) := by kernel_rfl
theorem e153_1 (x0 : Int) (x0' : (List Int)) (x1 : Int) (x1' : (List Int)) : runPure kl153_0.orc Go.Proofs.Try.prog 400 153 as153 rs153 ((x0,x0',()),(x1,x1',()),()) [ff,tt,tt,tt,tt,tt,tt,tt,tt,tt,tt,tt,tt] =
    (let r0 : ((Nat × Nat) × List Int × PUnit) × (Int × List Int × PUnit) × (Int × List Int × PUnit) × (Int × PUnit) × List Int × PUnit := b153_0 ((((Int.toNat (↑(List.length x0') : Int) : Nat),(Int.toNat (↑(List.length x0') : Int) : Nat)),(([] : List Int),((wrap64 ((↑(List.length x0') : Int) - (1 : Int)) : Int),()))),((x0,(x0',())),((x1,(x1',())),(((0 : Int),()),((List.replicate (Int.toNat (↑(List.length x0') : Int)) (0 : Int) : List Int),()))))); let r1 : (Int × List Int × PUnit) × PUnit := g149 (r0.2.1.1,(r0.2.2.2.2.1,())); let r3 : (Int × List Int × PUnit) × PUnit := g113 ((1 : Int),()); let r4 : (Int × List Int × PUnit) × PUnit := g157 ((r1.1.1,(r1.1.2.1,())),((r3.1.1,(r3.1.2.1,())),())); some (((r4.1.1,(r4.1.2.1,())),()),[(Option.isSome (f157 ((r1.1.1,(r1.1.2.1,())),((r3.1.1,(r3.1.2.1,())),()))),true),(Option.isSome (f113 ((1 : Int),())),true),(!leF (↑(List.length r0.1.2.1) : Int) (0 : Int),true),(!leF (0 : Int) r0.2.1.1,true),(!leF (0 : Int) r0.2.1.1,true),(!leF (0 : Int) r0.2.1.1,true),(!leF (0 : Int) r0.2.1.1,true),(Option.isSome (f149 (r0.2.1.1,(r0.2.2.2.2.1,()))),true),(Nat.beq r0.1.1.1 (List.length r0.2.2.2.2.1),true),(true,true),(isBrk (l153_0 ((((Int.toNat (↑(List.length x0') : Int) : Nat),(Int.toNat (↑(List.length x0') : Int) : Nat)),(([] : List Int),((wrap64 ((↑(List.length x0') : Int) - (1 : Int)) : Int),()))),((x0,(x0',())),((x1,(x1',())),(((0 : Int),()),((List.replicate (Int.toNat (↑(List.length x0') : Int)) (0 : Int) : List Int),())))))),true),(decide ((0 : Int) ≤ (↑(List.length x0') : Int)) && decide ((↑(List.length x0') : Int) ≤ (↑(List.length x0') : Int)) && decide ((8 : Int) * (↑(List.length x0') : Int) ≤ (281474976710656 : Int)) && decide ((↑(List.length x0') : Int) ≤ (281474976710656 : Int)),true),(eqF x0 0,false)])) := by kernel_rfl
theorem e153_2 (x0 : Int) (x0' : (List Int)) (x1 : Int) (x1' : (List Int)) : runPure kl153_0.orc Go.Proofs.Try.prog 400 153 as153 rs153 ((x0,x0',()),(x1,x1',()),()) [ff,tt,tt,tt,tt,tt,tt,tt,tt,tt,ff] =
    (let r0 : ((Nat × Nat) × List Int × PUnit) × (Int × List Int × PUnit) × (Int × List Int × PUnit) × (Int × PUnit) × List Int × PUnit := b153_0 ((((Int.toNat (↑(List.length x0') : Int) : Nat),(Int.toNat (↑(List.length x0') : Int) : Nat)),(([] : List Int),((wrap64 ((↑(List.length x0') : Int) - (1 : Int)) : Int),()))),((x0,(x0',())),((x1,(x1',())),(((0 : Int),()),((List.replicate (Int.toNat (↑(List.length x0') : Int)) (0 : Int) : List Int),()))))); let r1 : (Int × List Int × PUnit) × PUnit := g149 (r0.2.1.1,(r0.2.2.2.2.1,())); some (((r1.1.1,(r1.1.2.1,())),()),[(!leF (↑(List.length r0.1.2.1) : Int) (0 : Int),false),(!leF (0 : Int) r0.2.1.1,true),(!leF (0 : Int) r0.2.1.1,true),(!leF (0 : Int) r0.2.1.1,true),(!leF (0 : Int) r0.2.1.1,true),(Option.isSome (f149 (r0.2.1.1,(r0.2.2.2.2.1,()))),true),(Nat.beq r0.1.1.1 (List.length r0.2.2.2.2.1),true),(true,true),(isBrk (l153_0 ((((Int.toNat (↑(List.length x0') : Int) : Nat),(Int.toNat (↑(List.length x0') : Int) : Nat)),(([] : List Int),((wrap64 ((↑(List.length x0') : Int) - (1 : Int)) : Int),()))),((x0,(x0',())),((x1,(x1',())),(((0 : Int),()),((List.replicate (Int.toNat (↑(List.length x0') : Int)) (0 : Int) : List Int),())))))),true),(decide ((0 : Int) ≤ (↑(List.length x0') : Int)) && decide ((↑(List.length x0') : Int) ≤ (↑(List.length x0') : Int)) && decide ((8 : Int) * (↑(List.length x0') : Int) ≤ (281474976710656 : Int)) && decide ((↑(List.length x0') : Int) ≤ (281474976710656 : Int)),true),(eqF x0 0,false)])) := by kernel_rfl
theorem e153_3 (x0 : Int) (x0' : (List Int)) (x1 : Int) (x1' : (List Int)) : runPure kl153_0.orc Go.Proofs.Try.prog 400 153 as153 rs153 ((x0,x0',()),(x1,x1',()),()) [ff,tt,tt,tt,tt,tt,ff,ff,ff,ff,ff] =
    (let r0 : ((Nat × Nat) × List Int × PUnit) × (Int × List Int × PUnit) × (Int × List Int × PUnit) × (Int × PUnit) × List Int × PUnit := b153_0 ((((Int.toNat (↑(List.length x0') : Int) : Nat),(Int.toNat (↑(List.length x0') : Int) : Nat)),(([] : List Int),((wrap64 ((↑(List.length x0') : Int) - (1 : Int)) : Int),()))),((x0,(x0',())),((x1,(x1',())),(((0 : Int),()),((List.replicate (Int.toNat (↑(List.length x0') : Int)) (0 : Int) : List Int),()))))); let r1 : (Int × List Int × PUnit) × PUnit := g149 (r0.2.1.1,(r0.2.2.2.2.1,())); some (((r1.1.1,(r1.1.2.1,())),()),[(false,false),(!leF (0 : Int) r0.2.1.1,false),(!leF (0 : Int) r0.2.1.1,false),(!leF (0 : Int) r0.2.1.1,false),(!leF (0 : Int) r0.2.1.1,false),(Option.isSome (f149 (r0.2.1.1,(r0.2.2.2.2.1,()))),true),(Nat.beq r0.1.1.1 (List.length r0.2.2.2.2.1),true),(true,true),(isBrk (l153_0 ((((Int.toNat (↑(List.length x0') : Int) : Nat),(Int.toNat (↑(List.length x0') : Int) : Nat)),(([] : List Int),((wrap64 ((↑(List.length x0') : Int) - (1 : Int)) : Int),()))),((x0,(x0',())),((x1,(x1',())),(((0 : Int),()),((List.replicate (Int.toNat (↑(List.length x0') : Int)) (0 : Int) : List Int),())))))),true),(decide ((0 : Int) ≤ (↑(List.length x0') : Int)) && decide ((↑(List.length x0') : Int) ≤ (↑(List.length x0') : Int)) && decide ((8 : Int) * (↑(List.length x0') : Int) ≤ (281474976710656 : Int)) && decide ((↑(List.length x0') : Int) ≤ (281474976710656 : Int)),true),(eqF x0 0,false)])) := by kernel_rfl
theorem e153_4 (x0 : Int) (x0' : (List Int)) (x1 : Int) (x1' : (List Int)) : runPure kl153_0.orc Go.Proofs.Try.prog 400 153 as153 rs153 ((x0,x0',()),(x1,x1',()),()) [ff,tt,tt,tt,ff,tt,tt,tt,tt,tt,tt,tt,tt,tt] =
    (let r0 : ((Nat × Nat) × List Int × PUnit) × (Int × List Int × PUnit) × (Int × List Int × PUnit) × (Int × PUnit) × List Int × PUnit := b153_0 ((((Int.toNat (↑(List.length x0') : Int) : Nat),(Int.toNat (↑(List.length x0') : Int) : Nat)),(([] : List Int),((wrap64 ((↑(List.length x0') : Int) - (1 : Int)) : Int),()))),((x0,(x0',())),((x1,(x1',())),(((0 : Int),()),((List.replicate (Int.toNat (↑(List.length x0') : Int)) (0 : Int) : List Int),()))))); let r2 : (Int × List Int × PUnit) × PUnit := g149 (r0.2.1.1,((List.take r0.1.1.1 r0.2.2.2.2.1 : List Int),())); let r3 : (Int × List Int × PUnit) × PUnit := g113 ((1 : Int),()); let r5 : (Int × List Int × PUnit) × PUnit := g157 ((r2.1.1,(r2.1.2.1,())),((r3.1.1,(r3.1.2.1,())),())); some (((r5.1.1,(r5.1.2.1,())),()),[(Option.isSome (f157 ((r2.1.1,(r2.1.2.1,())),((r3.1.1,(r3.1.2.1,())),()))),true),(Option.isSome (f113 ((1 : Int),())),true),(!leF (↑(List.length r0.1.2.1) : Int) (0 : Int),true),(!leF (0 : Int) r0.2.1.1,true),(!leF (0 : Int) r0.2.1.1,true),(!leF (0 : Int) r0.2.1.1,true),(!leF (0 : Int) r0.2.1.1,true),(Option.isSome (f149 (r0.2.1.1,((List.take r0.1.1.1 r0.2.2.2.2.1 : List Int),()))),true),(Nat.ble r0.1.1.1 (List.length r0.2.2.2.2.1),true),(Nat.beq r0.1.1.1 (List.length r0.2.2.2.2.1),false),(true,true),(isBrk (l153_0 ((((Int.toNat (↑(List.length x0') : Int) : Nat),(Int.toNat (↑(List.length x0') : Int) : Nat)),(([] : List Int),((wrap64 ((↑(List.length x0') : Int) - (1 : Int)) : Int),()))),((x0,(x0',())),((x1,(x1',())),(((0 : Int),()),((List.replicate (Int.toNat (↑(List.length x0') : Int)) (0 : Int) : List Int),())))))),true),(decide ((0 : Int) ≤ (↑(List.length x0') : Int)) && decide ((↑(List.length x0') : Int) ≤ (↑(List.length x0') : Int)) && decide ((8 : Int) * (↑(List.length x0') : Int) ≤ (281474976710656 : Int)) && decide ((↑(List.length x0') : Int) ≤ (281474976710656 : Int)),true),(eqF x0 0,false)])) := by kernel_rfl
theorem e153_5 (x0 : Int) (x0' : (List Int)) (x1 : Int) (x1' : (List Int)) : runPure kl153_0.orc Go.Proofs.Try.prog 400 153 as153 rs153 ((x0,x0',()),(x1,x1',()),()) [ff,tt,tt,tt,ff,tt,tt,tt,tt,tt,tt,ff] =
    (let r0 : ((Nat × Nat) × List Int × PUnit) × (Int × List Int × PUnit) × (Int × List Int × PUnit) × (Int × PUnit) × List Int × PUnit := b153_0 ((((Int.toNat (↑(List.length x0') : Int) : Nat),(Int.toNat (↑(List.length x0') : Int) : Nat)),(([] : List Int),((wrap64 ((↑(List.length x0') : Int) - (1 : Int)) : Int),()))),((x0,(x0',())),((x1,(x1',())),(((0 : Int),()),((List.replicate (Int.toNat (↑(List.length x0') : Int)) (0 : Int) : List Int),()))))); let r2 : (Int × List Int × PUnit) × PUnit := g149 (r0.2.1.1,((List.take r0.1.1.1 r0.2.2.2.2.1 : List Int),())); some (((r2.1.1,(r2.1.2.1,())),()),[(!leF (↑(List.length r0.1.2.1) : Int) (0 : Int),false),(!leF (0 : Int) r0.2.1.1,true),(!leF (0 : Int) r0.2.1.1,true),(!leF (0 : Int) r0.2.1.1,true),(!leF (0 : Int) r0.2.1.1,true),(Option.isSome (f149 (r0.2.1.1,((List.take r0.1.1.1 r0.2.2.2.2.1 : List Int),()))),true),(Nat.ble r0.1.1.1 (List.length r0.2.2.2.2.1),true),(Nat.beq r0.1.1.1 (List.length r0.2.2.2.2.1),false),(true,true),(isBrk (l153_0 ((((Int.toNat (↑(List.length x0') : Int) : Nat),(Int.toNat (↑(List.length x0') : Int) : Nat)),(([] : List Int),((wrap64 ((↑(List.length x0') : Int) - (1 : Int)) : Int),()))),((x0,(x0',())),((x1,(x1',())),(((0 : Int),()),((List.replicate (Int.toNat (↑(List.length x0') : Int)) (0 : Int) : List Int),())))))),true),(decide ((0 : Int) ≤ (↑(List.length x0') : Int)) && decide ((↑(List.length x0') : Int) ≤ (↑(List.length x0') : Int)) && decide ((8 : Int) * (↑(List.length x0') : Int) ≤ (281474976710656 : Int)) && decide ((↑(List.length x0') : Int) ≤ (281474976710656 : Int)),true),(eqF x0 0,false)])) := by kernel_rfl
theorem e153_6 (x0 : Int) (x0' : (List Int)) (x1 : Int) (x1' : (List Int)) : runPure kl153_0.orc Go.Proofs.Try.prog 400 153 as153 rs153 ((x0,x0',()),(x1,x1',()),()) [ff,tt,tt,tt,ff,tt,tt,ff,ff,ff,ff,ff] =
    (let r0 : ((Nat × Nat) × List Int × PUnit) × (Int × List Int × PUnit) × (Int × List Int × PUnit) × (Int × PUnit) × List Int × PUnit := b153_0 ((((Int.toNat (↑(List.length x0') : Int) : Nat),(Int.toNat (↑(List.length x0') : Int) : Nat)),(([] : List Int),((wrap64 ((↑(List.length x0') : Int) - (1 : Int)) : Int),()))),((x0,(x0',())),((x1,(x1',())),(((0 : Int),()),((List.replicate (Int.toNat (↑(List.length x0') : Int)) (0 : Int) : List Int),()))))); let r2 : (Int × List Int × PUnit) × PUnit := g149 (r0.2.1.1,((List.take r0.1.1.1 r0.2.2.2.2.1 : List Int),())); some (((r2.1.1,(r2.1.2.1,())),()),[(false,false),(!leF (0 : Int) r0.2.1.1,false),(!leF (0 : Int) r0.2.1.1,false),(!leF (0 : Int) r0.2.1.1,false),(!leF (0 : Int) r0.2.1.1,false),(Option.isSome (f149 (r0.2.1.1,((List.take r0.1.1.1 r0.2.2.2.2.1 : List Int),()))),true),(Nat.ble r0.1.1.1 (List.length r0.2.2.2.2.1),true),(Nat.beq r0.1.1.1 (List.length r0.2.2.2.2.1),false),(true,true),(isBrk (l153_0 ((((Int.toNat (↑(List.length x0') : Int) : Nat),(Int.toNat (↑(List.length x0') : Int) : Nat)),(([] : List Int),((wrap64 ((↑(List.length x0') : Int) - (1 : Int)) : Int),()))),((x0,(x0',())),((x1,(x1',())),(((0 : Int),()),((List.replicate (Int.toNat (↑(List.length x0') : Int)) (0 : Int) : List Int),())))))),true),(decide ((0 : Int) ≤ (↑(List.length x0') : Int)) && decide ((↑(List.length x0') : Int) ≤ (↑(List.length x0') : Int)) && decide ((8 : Int) * (↑(List.length x0') : Int) ≤ (281474976710656 : Int)) && decide ((↑(List.length x0') : Int) ≤ (281474976710656 : Int)),true),(eqF x0 0,false)])) := by kernel_rfl

theorem ok153_t (x0 : Int) (x0' : (List Int)) (x1 : Int) (x1' : (List Int)) : TrOk (PureRuns Go.Proofs.Try.prog kl153_0.orc 153 as153 rs153 ((x0,x0',()),(x1,x1',()),())) (t153 x0 x0' x1 x1') :=
  TrOk.ofTest (fun h0 => TrOk.ofFin (PureRuns.of (e153_0 x0 x0' x1 x1') (ac h0 All.nil))) (fun h0 => TrOk.ofTest (fun h1 => TrOk.ofTest (fun h2 => TrOk.ofTest (fun h4 => TrOk.ofTest (fun h5 => TrOk.ofTest (fun h6 => TrOk.ofTest (fun h10 => TrOk.ofTest (fun h11 => TrOk.ofTest (fun h12 => TrOk.ofFin (PureRuns.of (e153_1 x0 x0' x1 x1') (ac h12 (ac h11 (ac h10 (ac (nn h6) (ac (nn h6) (ac (nn h6) (ac h6 (ac h5 (ac h4 (ac rfl (ac h2 (ac h1 (ac h0 All.nil))))))))))))))) (fun h12 => TrOk.ofStop)) (fun h11 => TrOk.ofStop)) (fun h10 => TrOk.ofFin (PureRuns.of (e153_2 x0 x0' x1 x1') (ac h10 (ac (nn h6) (ac (nn h6) (ac (nn h6) (ac h6 (ac h5 (ac h4 (ac rfl (ac h2 (ac h1 (ac h0 All.nil)))))))))))))) (fun h6 => TrOk.ofFin (PureRuns.of (e153_3 x0 x0' x1 x1') (ac rfl (ac (nn h6) (ac (nn h6) (ac (nn h6) (ac h6 (ac h5 (ac h4 (ac rfl (ac h2 (ac h1 (ac h0 All.nil)))))))))))))) (fun h5 => TrOk.ofStop)) (fun h4 => TrOk.ofTest (fun h5 => TrOk.ofTest (fun h6 => TrOk.ofTest (fun h7 => TrOk.ofTest (fun h11 => TrOk.ofTest (fun h12 => TrOk.ofTest (fun h13 => TrOk.ofFin (PureRuns.of (e153_4 x0 x0' x1 x1') (ac h13 (ac h12 (ac h11 (ac (nn h7) (ac (nn h7) (ac (nn h7) (ac h7 (ac h6 (ac h5 (ac h4 (ac rfl (ac h2 (ac h1 (ac h0 All.nil)))))))))))))))) (fun h13 => TrOk.ofStop)) (fun h12 => TrOk.ofStop)) (fun h11 => TrOk.ofFin (PureRuns.of (e153_5 x0 x0' x1 x1') (ac h11 (ac (nn h7) (ac (nn h7) (ac (nn h7) (ac h7 (ac h6 (ac h5 (ac h4 (ac rfl (ac h2 (ac h1 (ac h0 All.nil))))))))))))))) (fun h7 => TrOk.ofFin (PureRuns.of (e153_6 x0 x0' x1 x1') (ac rfl (ac (nn h7) (ac (nn h7) (ac (nn h7) (ac h7 (ac h6 (ac h5 (ac h4 (ac rfl (ac h2 (ac h1 (ac h0 All.nil))))))))))))))) (fun h6 => TrOk.ofStop)) (fun h5 => TrOk.ofStop))) (fun h2 => TrOk.ofStop)) (fun h1 => TrOk.ofStop))

theorem ok153 : PureOk Go.Proofs.Try.prog 153 p153 := pureOk_of kl153_0_ok.base (T := fun (d : Tys.data as153) => t153 d.1.1 d.1.2.1 d.2.1.1 d.2.1.2.1) (by kernel_rfl) (fun (d : Tys.data as153) => ok153_t d.1.1 d.1.2.1 d.2.1.1 d.2.1.2.1)
def kf153 : Known := kl153_0.func 153 p153
theorem kf153_ok : KnownOk Go.Proofs.Try.prog kf153 := kl153_0_ok.func ok153

/-! loop 0 of ductility/ductilitybase.wideGcd -/

abbrev sh152_0 : Sh := { n := 23,slots := [2,3,4],pats := [.ptr 0 2 0,.ptr 1 2 0,.ptr 2 2 0],boxes := [.row [.ty (.int .i64),.ty (.slice (.int .i64))],.row [.ty (.int .i64),.ty (.slice (.int .i64))],.row [.ty (.int .i64),.nil]] }
abbrev shb152_0 : Sh := { n := 23,slots := [2,4],pats := [.ptr 0 2 0,.ptr 2 2 0],boxes := [.row [.ty (.int .i64),.ty (.slice (.int .i64))],.row [.ty (.int .i64),.ty (.slice (.int .i64))],.row [.ty (.int .i64),.nil]] }
abbrev shr152_0 : Sh := { n := 23,slots := [],pats := [],boxes := [.row [.ty (.int .i64),.ty (.slice (.int .i64))],.row [.ty (.int .i64),.ty (.slice (.int .i64))],.row [.ty (.int .i64),.nil]] }

def t152_0 (b0_0 : Int) (b0_1 : (List Int)) (b1_0 : Int) (b1_1 : (List Int)) (b2_0 : Int) : Tr (Out sh152_0.data shb152_0.data shr152_0.data) :=
  Tr.test (Option.isSome (f151 ((b1_0,(b1_1,())),())))
    (let r0 : Int × PUnit := g151 ((b1_0,(b1_1,())),());
    Tr.test ((!eqF r0.1 0 : Bool))
      (Tr.test (Option.isSome (f153 ((b0_0,(b0_1,())),((b1_0,(b1_1,())),()))))
        (let r1 : (Int × List Int × PUnit) × PUnit := g153 ((b0_0,(b0_1,())),((b1_0,(b1_1,())),()));
        Tr.test (Option.isSome (f117 ((r1.1.1,(r1.1.2.1,())),((b1_0,(b1_1,())),()))))
          (let r2 : (Int × List Int × PUnit) × PUnit := g117 ((r1.1.1,(r1.1.2.1,())),((b1_0,(b1_1,())),()));
          Tr.test (Option.isSome (f157 ((b0_0,(b0_1,())),((r2.1.1,(r2.1.2.1,())),()))))
            (let r3 : (Int × List Int × PUnit) × PUnit := g157 ((b0_0,(b0_1,())),((r2.1.1,(r2.1.2.1,())),()));
            Tr.fin (.again ((),((b1_0,(b1_1,())),((r3.1.1,(r3.1.2.1,())),((b2_0,()),()))))))
            (Tr.stop))
          (Tr.stop))
        (Tr.stop))
      (Tr.fin (.brk ((),((b0_0,(b0_1,())),((b1_0,(b1_1,())),((b2_0,()),())))))))
    (Tr.stop)

def s152_0 (d : sh152_0.data) : Option (Out sh152_0.data shb152_0.data shr152_0.data) := (t152_0 d.2.1.1 d.2.1.2.1 d.2.2.1.1 d.2.2.1.2.1 d.2.2.2.1.1).val
def l152_0 (d : sh152_0.data) : Option (shb152_0.data ⊕ shr152_0.data) := itr s152_0 rounds d
def b152_0 (d : sh152_0.data) : shb152_0.data := outB shb152_0.dflt (l152_0 d)
def lc152_0 : LoopC := lcB sh152_0 shb152_0 shr152_0 l152_0 b152_0

theorem e152_0_0 (b0_0 : Int) (b0_1 : (List Int)) (b1_0 : Int) (b1_1 : (List Int)) (b2_0 : Int) : runBody kf153.orc Go.Proofs.Try.prog 400 152 0 sh152_0 shb152_0 shr152_0 ((),(b0_0,b0_1,()),(b1_0,b1_1,()),(b2_0,()),()) [tt,tt,tt,tt,tt] =
    (let r0 : Int × PUnit := g151 ((b1_0,(b1_1,())),()); let r1 : (Int × List Int × PUnit) × PUnit := g153 ((b0_0,(b0_1,())),((b1_0,(b1_1,())),())); let r2 : (Int × List Int × PUnit) × PUnit := g117 ((r1.1.1,(r1.1.2.1,())),((b1_0,(b1_1,())),())); let r3 : (Int × List Int × PUnit) × PUnit := g157 ((b0_0,(b0_1,())),((r2.1.1,(r2.1.2.1,())),())); some (.again ((),((b1_0,(b1_1,())),((r3.1.1,(r3.1.2.1,())),((b2_0,()),())))),[(Option.isSome (f157 ((b0_0,(b0_1,())),((r2.1.1,(r2.1.2.1,())),()))),true),(Option.isSome (f117 ((r1.1.1,(r1.1.2.1,())),((b1_0,(b1_1,())),()))),true),(Option.isSome (f153 ((b0_0,(b0_1,())),((b1_0,(b1_1,())),()))),true),(!eqF r0.1 0,true),(Option.isSome (f151 ((b1_0,(b1_1,())),())),true)])) := by kernel_rfl
theorem e152_0_1 (b0_0 : Int) (b0_1 : (List Int)) (b1_0 : Int) (b1_1 : (List Int)) (b2_0 : Int) : runBody kf153.orc Go.Proofs.Try.prog 400 152 0 sh152_0 shb152_0 shr152_0 ((),(b0_0,b0_1,()),(b1_0,b1_1,()),(b2_0,()),()) [tt,ff] =
    (let r0 : Int × PUnit := g151 ((b1_0,(b1_1,())),()); some (.brk ((),((b0_0,(b0_1,())),((b1_0,(b1_1,())),((b2_0,()),())))),[(!eqF r0.1 0,false),(Option.isSome (f151 ((b1_0,(b1_1,())),())),true)])) := by kernel_rfl

theorem ok152_0_t (b0_0 : Int) (b0_1 : (List Int)) (b1_0 : Int) (b1_1 : (List Int)) (b2_0 : Int) : TrOk (BodyRuns Go.Proofs.Try.prog kf153.orc 152 0 sh152_0 shb152_0 shr152_0 ((),(b0_0,b0_1,()),(b1_0,b1_1,()),(b2_0,()),())) (t152_0 b0_0 b0_1 b1_0 b1_1 b2_0) :=
  TrOk.ofTest (fun h0 => TrOk.ofTest (fun h1 => TrOk.ofTest (fun h2 => TrOk.ofTest (fun h3 => TrOk.ofTest (fun h4 => TrOk.ofFin (BodyRuns.of (e152_0_0 b0_0 b0_1 b1_0 b1_1 b2_0) (ac h4 (ac h3 (ac h2 (ac h1 (ac h0 All.nil))))))) (fun h4 => TrOk.ofStop)) (fun h3 => TrOk.ofStop)) (fun h2 => TrOk.ofStop)) (fun h1 => TrOk.ofFin (BodyRuns.of (e152_0_1 b0_0 b0_1 b1_0 b1_1 b2_0) (ac h1 (ac h0 All.nil))))) (fun h0 => TrOk.ofStop)

theorem ok152_0 : LoopOk Go.Proofs.Try.prog 152 0 lc152_0 := loopOk_ofB kf153_ok.base (T := fun (d : sh152_0.data) => t152_0 d.2.1.1 d.2.1.2.1 d.2.2.1.1 d.2.2.1.2.1 d.2.2.2.1.1) (by kernel_rfl) rfl (fun (d : sh152_0.data) => ok152_0_t d.2.1.1 d.2.1.2.1 d.2.2.1.1 d.2.2.1.2.1 d.2.2.2.1.1) (fun _ => rfl)
def kl152_0 : Known := kf153.loop 152 0 lc152_0
theorem kl152_0_ok : KnownOk Go.Proofs.Try.prog kl152_0 := kf153_ok.loop ok152_0

/-! ductility/ductilitybase.wideGcd -/

abbrev as152 : List Ty := [(.pair (.int .i64) (.pair (.slice (.int .i64)) .unit)),(.pair (.int .i64) (.pair (.slice (.int .i64)) .unit))]
abbrev rs152 : List Ty := [(.pair (.int .i64) (.pair (.slice (.int .i64)) .unit))]

def t152 (x0 : Int) (x0' : (List Int)) (x1 : Int) (x1' : (List Int)) : Tr (Tys.data rs152) :=
  Tr.test (Option.isSome (f174 ((x0,(x0',())),())))
    (Tr.test (Option.isSome (f174 ((x1,(x1',())),())))
      (let r0 : (Int × List Int × PUnit) × PUnit := g174 ((x0,(x0',())),());
      let r1 : (Int × List Int × PUnit) × PUnit := g174 ((x1,(x1',())),());
      Tr.test (isBrk (l152_0 ((),((r0.1.1,(r0.1.2.1,())),((r1.1.1,(r1.1.2.1,())),(((0 : Int),()),()))))))
        (let r2 : PUnit × (Int × List Int × PUnit) × (Int × List Int × PUnit) × (Int × PUnit) × PUnit := b152_0 ((),((r0.1.1,(r0.1.2.1,())),((r1.1.1,(r1.1.2.1,())),(((0 : Int),()),()))));
        Tr.fin (((r2.2.1.1,(r2.2.1.2.1,())),())))
        (Tr.stop))
      (Tr.stop))
    (Tr.stop)

def f152 (d : Tys.data as152) : Option (Tys.data rs152) := (t152 d.1.1 d.1.2.1 d.2.1.1 d.2.1.2.1).val
def g152 (d : Tys.data as152) : Tys.data rs152 := (f152 d).getD (Tys.dflt rs152)
def p152 : PureC := pcOf as152 rs152 f152 g152

theorem e152_0 (x0 : Int) (x0' : (List Int)) (x1 : Int) (x1' : (List Int)) : runPure kl152_0.orc Go.Proofs.Try.prog 400 152 as152 rs152 ((x0,x0',()),(x1,x1',()),()) [tt,tt,tt,tt] =
    (let r0 : (Int × List Int × PUnit) × PUnit := g174 ((x0,(x0',())),()); let r1 : (Int × List Int × PUnit) × PUnit := g174 ((x1,(x1',())),()); let r2 : PUnit × (Int × List Int × PUnit) × (Int × List Int × PUnit) × (Int × PUnit) × PUnit := b152_0 ((),((r0.1.1,(r0.1.2.1,())),((r1.1.1,(r1.1.2.1,())),(((0 : Int),()),())))); some (((r2.2.1.1,(r2.2.1.2.1,())),()),[(true,true),(isBrk (l152_0 ((),((r0.1.1,(r0.1.2.1,())),((r1.1.1,(r1.1.2.1,())),(((0 : Int),()),()))))),true),(Option.isSome (f174 ((x1,(x1',())),())),true),(Option.isSome (f174 ((x0,(x0',())),())),true)])) := by kernel_rfl

theorem ok152_t (x0 : Int) (x0' : (List Int)) (x1 : Int) (x1' : (List Int)) : TrOk (PureRuns Go.Proofs.Try.prog kl152_0.orc 152 as152 rs152 ((x0,x0',()),(x1,x1',()),())) (t152 x0 x0' x1 x1') :=
  TrOk.ofTest (fun h0 => TrOk.ofTest (fun h1 => TrOk.ofTest (fun h2 => TrOk.ofFin (PureRuns.of (e152_0 x0 x0' x1 x1') (ac rfl (ac h2 (ac h1 (ac h0 All.nil)))))) (fun h2 => TrOk.ofStop)) (fun h1 => TrOk.ofStop)) (fun h0 => TrOk.ofStop)

theorem ok152 : PureOk Go.Proofs.Try.prog 152 p152 := pureOk_of kl152_0_ok.base (T := fun (d : Tys.data as152) => t152 d.1.1 d.1.2.1 d.2.1.1 d.2.1.2.1) (by kernel_rfl) (fun (d : Tys.data as152) => ok152_t d.1.1 d.1.2.1 d.2.1.1 d.2.1.2.1)
def kf152 : Known := kl152_0.func 152 p152
theorem kf152_ok : KnownOk Go.Proofs.Try.prog kf152 := kl152_0_ok.func ok152

/-! ductility/ductilitybase.WideCmp -/

abbrev as118 : List Ty := [(.pair (.int .i64) (.pair (.slice (.int .i64)) .unit)),(.pair (.int .i64) (.pair (.slice (.int .i64)) .unit))]
abbrev rs118 : List Ty := [(.int .i64)]

def t118 (x0 : Int) (x0' : (List Int)) (x1 : Int) (x1' : (List Int)) : Tr (Tys.data rs118) :=
  Tr.test (Option.isSome (f157 ((x0,(x0',())),((x1,(x1',())),()))))
    (let r0 : (Int × List Int × PUnit) × PUnit := g157 ((x0,(x0',())),((x1,(x1',())),()));
    Tr.fin ((r0.1.1,())))
    (Tr.stop)

def f118 (d : Tys.data as118) : Option (Tys.data rs118) := (t118 d.1.1 d.1.2.1 d.2.1.1 d.2.1.2.1).val
def g118 (d : Tys.data as118) : Tys.data rs118 := (f118 d).getD (Tys.dflt rs118)
def p118 : PureC := pcOf as118 rs118 f118 g118

theorem e118_0 (x0 : Int) (x0' : (List Int)) (x1 : Int) (x1' : (List Int)) : runPure kf152.orc Go.Proofs.Try.prog 400 118 as118 rs118 ((x0,x0',()),(x1,x1',()),()) [tt] =
    (let r0 : (Int × List Int × PUnit) × PUnit := g157 ((x0,(x0',())),((x1,(x1',())),())); some ((r0.1.1,()),[(Option.isSome (f157 ((x0,(x0',())),((x1,(x1',())),()))),true)])) := by kernel_rfl

theorem ok118_t (x0 : Int) (x0' : (List Int)) (x1 : Int) (x1' : (List Int)) : TrOk (PureRuns Go.Proofs.Try.prog kf152.orc 118 as118 rs118 ((x0,x0',()),(x1,x1',()),())) (t118 x0 x0' x1 x1') :=
  TrOk.ofTest (fun h0 => TrOk.ofFin (PureRuns.of (e118_0 x0 x0' x1 x1') (ac h0 All.nil))) (fun h0 => TrOk.ofStop)

theorem ok118 : PureOk Go.Proofs.Try.prog 118 p118 := pureOk_of kf152_ok.base (T := fun (d : Tys.data as118) => t118 d.1.1 d.1.2.1 d.2.1.1 d.2.1.2.1) (by kernel_rfl) (fun (d : Tys.data as118) => ok118_t d.1.1 d.1.2.1 d.2.1.1 d.2.1.2.1)
def kf118 : Known := kf152.func 118 p118
theorem kf118_ok : KnownOk Go.Proofs.Try.prog kf118 := kf152_ok.func ok118

/-! ductility/ductilitybase.RatioMake -/

abbrev as115 : List Ty := [(.pair (.int .i64) (.pair (.slice (.int .i64)) .unit)),(.pair (.int .i64) (.pair (.slice (.int .i64)) .unit))]
abbrev rs115 : List Ty := [(.pair (.pair (.int .i64) (.pair (.slice (.int .i64)) .unit)) (.pair (.pair (.int .i64) (.pair (.slice (.int .i64)) .unit)) .unit))]

def t115 (x0 : Int) (x0' : (List Int)) (x1 : Int) (x1' : (List Int)) : Tr (Tys.data rs115) :=
  Tr.test (Option.isSome (f151 ((x1,(x1',())),())))
    (let r0 : Int × PUnit := g151 ((x1,(x1',())),());
    Tr.test ((!leF (0 : Int) r0.1 : Bool))
      (Tr.test (Option.isSome (f150 ((x0,(x0',())),())))
        (Tr.test (Option.isSome (f150 ((x1,(x1',())),())))
          (let r1 : (Int × List Int × PUnit) × PUnit := g150 ((x0,(x0',())),());
          let r2 : (Int × List Int × PUnit) × PUnit := g150 ((x1,(x1',())),());
          Tr.test (Option.isSome (f152 ((r1.1.1,(r1.1.2.1,())),((r2.1.1,(r2.1.2.1,())),()))))
            (Tr.test (Option.isSome (f113 ((1 : Int),())))
              (let r3 : (Int × List Int × PUnit) × PUnit := g152 ((r1.1.1,(r1.1.2.1,())),((r2.1.1,(r2.1.2.1,())),()));
              let r4 : (Int × List Int × PUnit) × PUnit := g113 ((1 : Int),());
              Tr.test (Option.isSome (f118 ((r3.1.1,(r3.1.2.1,())),((r4.1.1,(r4.1.2.1,())),()))))
                (let r5 : Int × PUnit := g118 ((r3.1.1,(r3.1.2.1,())),((r4.1.1,(r4.1.2.1,())),()));
                Tr.test ((eqF r5.1 0 : Bool))
                  (Tr.fin ((((r1.1.1,(r1.1.2.1,())),((r2.1.1,(r2.1.2.1,())),())),())))
                  (Tr.test (Option.isSome (f153 ((r1.1.1,(r1.1.2.1,())),((r3.1.1,(r3.1.2.1,())),()))))
                    (Tr.test (Option.isSome (f153 ((r2.1.1,(r2.1.2.1,())),((r3.1.1,(r3.1.2.1,())),()))))
                      (let r6 : (Int × List Int × PUnit) × PUnit := g153 ((r1.1.1,(r1.1.2.1,())),((r3.1.1,(r3.1.2.1,())),()));
                      let r7 : (Int × List Int × PUnit) × PUnit := g153 ((r2.1.1,(r2.1.2.1,())),((r3.1.1,(r3.1.2.1,())),()));
                      Tr.fin ((((r6.1.1,(r6.1.2.1,())),((r7.1.1,(r7.1.2.1,())),())),())))
                      (Tr.stop))
                    (Tr.stop)))
                (Tr.stop))
              (Tr.stop))
            (Tr.stop))
          (Tr.stop))
        (Tr.stop))
      (Tr.test (Option.isSome (f152 ((x0,(x0',())),((x1,(x1',())),()))))
        (Tr.test (Option.isSome (f113 ((1 : Int),())))
          (let r4 : (Int × List Int × PUnit) × PUnit := g113 ((1 : Int),());
          let r8 : (Int × List Int × PUnit) × PUnit := g152 ((x0,(x0',())),((x1,(x1',())),()));
          Tr.test (Option.isSome (f118 ((r8.1.1,(r8.1.2.1,())),((r4.1.1,(r4.1.2.1,())),()))))
            (let r9 : Int × PUnit := g118 ((r8.1.1,(r8.1.2.1,())),((r4.1.1,(r4.1.2.1,())),()));
            Tr.test ((eqF r9.1 0 : Bool))
              (Tr.fin ((((x0,(x0',())),((x1,(x1',())),())),())))
              (Tr.test (Option.isSome (f153 ((x0,(x0',())),((r8.1.1,(r8.1.2.1,())),()))))
                (Tr.test (Option.isSome (f153 ((x1,(x1',())),((r8.1.1,(r8.1.2.1,())),()))))
                  (let r10 : (Int × List Int × PUnit) × PUnit := g153 ((x0,(x0',())),((r8.1.1,(r8.1.2.1,())),()));
                  let r11 : (Int × List Int × PUnit) × PUnit := g153 ((x1,(x1',())),((r8.1.1,(r8.1.2.1,())),()));
                  Tr.fin ((((r10.1.1,(r10.1.2.1,())),((r11.1.1,(r11.1.2.1,())),())),())))
                  (Tr.stop))
                (Tr.stop)))
            (Tr.stop))
          (Tr.stop))
        (Tr.stop)))
    (Tr.stop)

def f115 (d : Tys.data as115) : Option (Tys.data rs115) := (t115 d.1.1 d.1.2.1 d.2.1.1 d.2.1.2.1).val
def g115 (d : Tys.data as115) : Tys.data rs115 := (f115 d).getD (Tys.dflt rs115)
def p115 : PureC := pcOf as115 rs115 f115 g115

theorem e115_0 (x0 : Int) (x0' : (List Int)) (x1 : Int) (x1' : (List Int)) : runPure kf118.orc Go.Proofs.Try.prog 400 115 as115 rs115 ((x0,x0',()),(x1,x1',()),()) [tt,tt,tt,tt,tt,tt,tt,tt] =
    (let r0 : Int × PUnit := g151 ((x1,(x1',())),()); let r1 : (Int × List Int × PUnit) × PUnit := g150 ((x0,(x0',())),()); let r2 : (Int × List Int × PUnit) × PUnit := g150 ((x1,(x1',())),()); let r3 : (Int × List Int × PUnit) × PUnit := g152 ((r1.1.1,(r1.1.2.1,())),((r2.1.1,(r2.1.2.1,())),())); let r4 : (Int × List Int × PUnit) × PUnit := g113 ((1 : Int),()); let r5 : Int × PUnit := g118 ((r3.1.1,(r3.1.2.1,())),((r4.1.1,(r4.1.2.1,())),())); some ((((r1.1.1,(r1.1.2.1,())),((r2.1.1,(r2.1.2.1,())),())),()),[(eqF r5.1 0,true),(Option.isSome (f118 ((r3.1.1,(r3.1.2.1,())),((r4.1.1,(r4.1.2.1,())),()))),true),(Option.isSome (f113 ((1 : Int),())),true),(Option.isSome (f152 ((r1.1.1,(r1.1.2.1,())),((r2.1.1,(r2.1.2.1,())),()))),true),(Option.isSome (f150 ((x1,(x1',())),())),true),(Option.isSome (f150 ((x0,(x0',())),())),true),(!leF (0 : Int) r0.1,true),(Option.isSome (f151 ((x1,(x1',())),())),true)])) := by kernel_rfl
theorem e115_1 (x0 : Int) (x0' : (List Int)) (x1 : Int) (x1' : (List Int)) : runPure kf118.orc Go.Proofs.Try.prog 400 115 as115 rs115 ((x0,x0',()),(x1,x1',()),()) [tt,tt,tt,tt,tt,tt,tt,ff,tt,tt] =
    (let r0 : Int × PUnit := g151 ((x1,(x1',())),()); let r1 : (Int × List Int × PUnit) × PUnit := g150 ((x0,(x0',())),()); let r2 : (Int × List Int × PUnit) × PUnit := g150 ((x1,(x1',())),()); let r3 : (Int × List Int × PUnit) × PUnit := g152 ((r1.1.1,(r1.1.2.1,())),((r2.1.1,(r2.1.2.1,())),())); let r4 : (Int × List Int × PUnit) × PUnit := g113 ((1 : Int),()); let r5 : Int × PUnit := g118 ((r3.1.1,(r3.1.2.1,())),((r4.1.1,(r4.1.2.1,())),())); let r6 : (Int × List Int × PUnit) × PUnit := g153 ((r1.1.1,(r1.1.2.1,())),((r3.1.1,(r3.1.2.1,())),())); let r7 : (Int × List Int × PUnit) × PUnit := g153 ((r2.1.1,(r2.1.2.1,())),((r3.1.1,(r3.1.2.1,())),())); some ((((r6.1.1,(r6.1.2.1,())),((r7.1.1,(r7.1.2.1,())),())),()),[(Option.isSome (f153 ((r2.1.1,(r2.1.2.1,())),((r3.1.1,(r3.1.2.1,())),()))),true),(Option.isSome (f153 ((r1.1.1,(r1.1.2.1,())),((r3.1.1,(r3.1.2.1,())),()))),true),(eqF r5.1 0,false),(Option.isSome (f118 ((r3.1.1,(r3.1.2.1,())),((r4.1.1,(r4.1.2.1,())),()))),true),(Option.isSome (f113 ((1 : Int),())),true),(Option.isSome (f152 ((r1.1.1,(r1.1.2.1,())),((r2.1.1,(r2.1.2.1,())),()))),true),(Option.isSome (f150 ((x1,(x1',())),())),true),(Option.isSome (f150 ((x0,(x0',())),())),true),(!leF (0 : Int) r0.1,true),(Option.isSome (f151 ((x1,(x1',())),())),true)])) := by kernel_rfl
theorem e115_2 (x0 : Int) (x0' : (List Int)) (x1 : Int) (x1' : (List Int)) : runPure kf118.orc Go.Proofs.Try.prog 400 115 as115 rs115 ((x0,x0',()),(x1,x1',()),()) [tt,ff,tt,tt,tt,tt] =
    (let r0 : Int × PUnit := g151 ((x1,(x1',())),()); let r4 : (Int × List Int × PUnit) × PUnit := g113 ((1 : Int),()); let r8 : (Int × List Int × PUnit) × PUnit := g152 ((x0,(x0',())),((x1,(x1',())),())); let r9 : Int × PUnit := g118 ((r8.1.1,(r8.1.2.1,())),((r4.1.1,(r4.1.2.1,())),())); some ((((x0,(x0',())),((x1,(x1',())),())),()),[(eqF r9.1 0,true),(Option.isSome (f118 ((r8.1.1,(r8.1.2.1,())),((r4.1.1,(r4.1.2.1,())),()))),true),(Option.isSome (f113 ((1 : Int),())),true),(Option.isSome (f152 ((x0,(x0',())),((x1,(x1',())),()))),true),(!leF (0 : Int) r0.1,false),(Option.isSome (f151 ((x1,(x1',())),())),true)])) := by kernel_rfl
theorem e115_3 (x0 : Int) (x0' : (List Int)) (x1 : Int) (x1' : (List Int)) : runPure kf118.orc Go.Proofs.Try.prog 400 115 as115 rs115 ((x0,x0',()),(x1,x1',()),()) [tt,ff,tt,tt,tt,ff,tt,tt] =
    (let r0 : Int × PUnit := g151 ((x1,(x1',())),()); let r4 : (Int × List Int × PUnit) × PUnit := g113 ((1 : Int),()); let r8 : (Int × List Int × PUnit) × PUnit := g152 ((x0,(x0',())),((x1,(x1',())),())); let r9 : Int × PUnit := g118 ((r8.1.1,(r8.1.2.1,())),((r4.1.1,(r4.1.2.1,())),())); let r10 : (Int × List Int × PUnit) × PUnit := g153 ((x0,(x0',())),((r8.1.1,(r8.1.2.1,())),())); let r11 : (Int × List Int × PUnit) × PUnit := g153 ((x1,(x1',())),((r8.1.1,(r8.1.2.1,())),())); some ((((r10.1.1,(r10.1.2.1,())),((r11.1.1,(r11.1.2.1,())),())),()),[(Option.isSome (f153 ((x1,(x1',())),((r8.1.1,(r8.1.2.1,())),()))),true),(Option.isSome (f153 ((x0,(x0',())),((r8.1.1,(r8.1.2.1,())),()))),true),(eqF r9.1 0,false),(Option.isSome (f118 ((r8.1.1,(r8.1.2.1,())),((r4.1.1,(r4.1.2.1,())),()))),true),(Option.isSome (f113 ((1 : Int),())),true),(Option.isSome (f152 ((x0,(x0',())),((x1,(x1',())),()))),true),(!leF (0 : Int) r0.1,false),(Option.isSome (f151 ((x1,(x1',())),())),true)])) := by kernel_rfl

theorem ok115_t (x0 : Int) (x0' : (List Int)) (x1 : Int) (x1' : (List Int)) : TrOk (PureRuns Go.Proofs.Try.prog kf118.orc 115 as115 rs115 ((x0,x0',()),(x1,x1',()),())) (t115 x0 x0' x1 x1') :=
  TrOk.ofTest (fun h0 => TrOk.ofTest (fun h1 => TrOk.ofTest (fun h2 => TrOk.ofTest (fun h3 => TrOk.ofTest (fun h4 => TrOk.ofTest (fun h5 => TrOk.ofTest (fun h6 => TrOk.ofTest (fun h7 => TrOk.ofFin (PureRuns.of (e115_0 x0 x0' x1 x1') (ac h7 (ac h6 (ac h5 (ac h4 (ac h3 (ac h2 (ac h1 (ac h0 All.nil)))))))))) (fun h7 => TrOk.ofTest (fun h8 => TrOk.ofTest (fun h9 => TrOk.ofFin (PureRuns.of (e115_1 x0 x0' x1 x1') (ac h9 (ac h8 (ac h7 (ac h6 (ac h5 (ac h4 (ac h3 (ac h2 (ac h1 (ac h0 All.nil)))))))))))) (fun h9 => TrOk.ofStop)) (fun h8 => TrOk.ofStop))) (fun h6 => TrOk.ofStop)) (fun h5 => TrOk.ofStop)) (fun h4 => TrOk.ofStop)) (fun h3 => TrOk.ofStop)) (fun h2 => TrOk.ofStop)) (fun h1 => TrOk.ofTest (fun h2 => TrOk.ofTest (fun h3 => TrOk.ofTest (fun h4 => TrOk.ofTest (fun h5 => TrOk.ofFin (PureRuns.of (e115_2 x0 x0' x1 x1') (ac h5 (ac h4 (ac h3 (ac h2 (ac h1 (ac h0 All.nil)))))))) (fun h5 => TrOk.ofTest (fun h6 => TrOk.ofTest (fun h7 => TrOk.ofFin (PureRuns.of (e115_3 x0 x0' x1 x1') (ac h7 (ac h6 (ac h5 (ac h4 (ac h3 (ac h2 (ac h1 (ac h0 All.nil)))))))))) (fun h7 => TrOk.ofStop)) (fun h6 => TrOk.ofStop))) (fun h4 => TrOk.ofStop)) (fun h3 => TrOk.ofStop)) (fun h2 => TrOk.ofStop))) (fun h0 => TrOk.ofStop)

theorem ok115 : PureOk Go.Proofs.Try.prog 115 p115 := pureOk_of kf118_ok.base (T := fun (d : Tys.data as115) => t115 d.1.1 d.1.2.1 d.2.1.1 d.2.1.2.1) (by kernel_rfl) (fun (d : Tys.data as115) => ok115_t d.1.1 d.1.2.1 d.2.1.1 d.2.1.2.1)
def kf115 : Known := kf118.func 115 p115
theorem kf115_ok : KnownOk Go.Proofs.Try.prog kf115 := kf118_ok.func ok115

/-! ductility/ductilitybase.RatioOf -/

abbrev as50 : List Ty := [(.int .i64),(.int .i64)]
abbrev rs50 : List Ty := [(.pair (.pair (.int .i64) (.pair (.slice (.int .i64)) .unit)) (.pair (.pair (.int .i64) (.pair (.slice (.int .i64)) .unit)) .unit))]

def t50 (x0 : Int) (x1 : Int) : Tr (Tys.data rs50) :=
  Tr.test (Option.isSome (f113 (x0,())))
    (Tr.test (Option.isSome (f113 (x1,())))
      (let r0 : (Int × List Int × PUnit) × PUnit := g113 (x0,());
      let r1 : (Int × List Int × PUnit) × PUnit := g113 (x1,());
      Tr.test (Option.isSome (f115 ((r0.1.1,(r0.1.2.1,())),((r1.1.1,(r1.1.2.1,())),()))))
        (let r2 : ((Int × List Int × PUnit) × (Int × List Int × PUnit) × PUnit) × PUnit := g115 ((r0.1.1,(r0.1.2.1,())),((r1.1.1,(r1.1.2.1,())),()));
        Tr.fin ((((r2.1.1.1,(r2.1.1.2.1,())),((r2.1.2.1.1,(r2.1.2.1.2.1,())),())),())))
        (Tr.stop))
      (Tr.stop))
    (Tr.stop)

def f50 (d : Tys.data as50) : Option (Tys.data rs50) := (t50 d.1 d.2.1).val
def g50 (d : Tys.data as50) : Tys.data rs50 := (f50 d).getD (Tys.dflt rs50)
def p50 : PureC := pcOf as50 rs50 f50 g50

theorem e50_0 (x0 : Int) (x1 : Int) : runPure kf115.orc Go.Proofs.Try.prog 400 50 as50 rs50 (x0,x1,()) [tt,tt,tt] =
    (let r0 : (Int × List Int × PUnit) × PUnit := g113 (x0,()); let r1 : (Int × List Int × PUnit) × PUnit := g113 (x1,()); let r2 : ((Int × List Int × PUnit) × (Int × List Int × PUnit) × PUnit) × PUnit := g115 ((r0.1.1,(r0.1.2.1,())),((r1.1.1,(r1.1.2.1,())),())); some ((((r2.1.1.1,(r2.1.1.2.1,())),((r2.1.2.1.1,(r2.1.2.1.2.1,())),())),()),[(Option.isSome (f115 ((r0.1.1,(r0.1.2.1,())),((r1.1.1,(r1.1.2.1,())),()))),true),(Option.isSome (f113 (x1,())),true),(Option.isSome (f113 (x0,())),true)])) := by kernel_rfl

theorem ok50_t (x0 : Int) (x1 : Int) : TrOk (PureRuns Go.Proofs.Try.prog kf115.orc 50 as50 rs50 (x0,x1,())) (t50 x0 x1) :=
  TrOk.ofTest (fun h0 => TrOk.ofTest (fun h1 => TrOk.ofTest (fun h2 => TrOk.ofFin (PureRuns.of (e50_0 x0 x1) (ac h2 (ac h1 (ac h0 All.nil))))) (fun h2 => TrOk.ofStop)) (fun h1 => TrOk.ofStop)) (fun h0 => TrOk.ofStop)

theorem ok50 : PureOk Go.Proofs.Try.prog 50 p50 := pureOk_of kf115_ok.base (T := fun (d : Tys.data as50) => t50 d.1 d.2.1) (by kernel_rfl) (fun (d : Tys.data as50) => ok50_t d.1 d.2.1)
def kf50 : Known := kf115.func 50 p50
theorem kf50_ok : KnownOk Go.Proofs.Try.prog kf50 := kf115_ok.func ok50

/-! ductility/ductilitybase.RatioNeg -/

abbrev as114 : List Ty := [(.pair (.pair (.int .i64) (.pair (.slice (.int .i64)) .unit)) (.pair (.pair (.int .i64) (.pair (.slice (.int .i64)) .unit)) .unit))]
abbrev rs114 : List Ty := [(.pair (.pair (.int .i64) (.pair (.slice (.int .i64)) .unit)) (.pair (.pair (.int .i64) (.pair (.slice (.int .i64)) .unit)) .unit))]

def t114 (x0_ : Int) (x0_' : (List Int)) (x0'_ : Int) (x0'_' : (List Int)) : Tr (Tys.data rs114) :=
  Tr.test (Option.isSome (f150 ((x0_,(x0_',())),())))
    (let r0 : (Int × List Int × PUnit) × PUnit := g150 ((x0_,(x0_',())),());
    Tr.fin ((((r0.1.1,(r0.1.2.1,())),((x0'_,(x0'_',())),())),())))
    (Tr.stop)

def f114 (d : Tys.data as114) : Option (Tys.data rs114) := (t114 d.1.1.1 d.1.1.2.1 d.1.2.1.1 d.1.2.1.2.1).val
def g114 (d : Tys.data as114) : Tys.data rs114 := (f114 d).getD (Tys.dflt rs114)
def p114 : PureC := pcOf as114 rs114 f114 g114

theorem e114_0 (x0_ : Int) (x0_' : (List Int)) (x0'_ : Int) (x0'_' : (List Int)) : runPure kf50.orc Go.Proofs.Try.prog 400 114 as114 rs114 (((x0_,x0_',()),(x0'_,x0'_',()),()),()) [tt] =
    (let r0 : (Int × List Int × PUnit) × PUnit := g150 ((x0_,(x0_',())),()); some ((((r0.1.1,(r0.1.2.1,())),((x0'_,(x0'_',())),())),()),[(Option.isSome (f150 ((x0_,(x0_',())),())),true)])) := by kernel_rfl

theorem ok114_t (x0_ : Int) (x0_' : (List Int)) (x0'_ : Int) (x0'_' : (List Int)) : TrOk (PureRuns Go.Proofs.Try.prog kf50.orc 114 as114 rs114 (((x0_,x0_',()),(x0'_,x0'_',()),()),())) (t114 x0_ x0_' x0'_ x0'_') :=
  TrOk.ofTest (fun h0 => TrOk.ofFin (PureRuns.of (e114_0 x0_ x0_' x0'_ x0'_') (ac h0 All.nil))) (fun h0 => TrOk.ofStop)

theorem ok114 : PureOk Go.Proofs.Try.prog 114 p114 := pureOk_of kf50_ok.base (T := fun (d : Tys.data as114) => t114 d.1.1.1 d.1.1.2.1 d.1.2.1.1 d.1.2.1.2.1) (by kernel_rfl) (fun (d : Tys.data as114) => ok114_t d.1.1.1 d.1.1.2.1 d.1.2.1.1 d.1.2.1.2.1)
def kf114 : Known := kf50.func 114 p114
theorem kf114_ok : KnownOk Go.Proofs.Try.prog kf114 := kf50_ok.func ok114

/-! ductility/ductilitybase.RatioAdd -/

abbrev as51 : List Ty := [(.pair (.pair (.int .i64) (.pair (.slice (.int .i64)) .unit)) (.pair (.pair (.int .i64) (.pair (.slice (.int .i64)) .unit)) .unit)),(.pair (.pair (.int .i64) (.pair (.slice (.int .i64)) .unit)) (.pair (.pair (.int .i64) (.pair (.slice (.int .i64)) .unit)) .unit))]
abbrev rs51 : List Ty := [(.pair (.pair (.int .i64) (.pair (.slice (.int .i64)) .unit)) (.pair (.pair (.int .i64) (.pair (.slice (.int .i64)) .unit)) .unit))]

def t51 (x0_ : Int) (x0_' : (List Int)) (x0'_ : Int) (x0'_' : (List Int)) (x1_ : Int) (x1_' : (List Int)) (x1'_ : Int) (x1'_' : (List Int)) : Tr (Tys.data rs51) :=
  Tr.test (Option.isSome (f117 ((x0_,(x0_',())),((x1'_,(x1'_',())),()))))
    (Tr.test (Option.isSome (f117 ((x1_,(x1_',())),((x0'_,(x0'_',())),()))))
      (let r0 : (Int × List Int × PUnit) × PUnit := g117 ((x0_,(x0_',())),((x1'_,(x1'_',())),()));
      let r1 : (Int × List Int × PUnit) × PUnit := g117 ((x1_,(x1_',())),((x0'_,(x0'_',())),()));
      Tr.test (Option.isSome (f116 ((r0.1.1,(r0.1.2.1,())),((r1.1.1,(r1.1.2.1,())),()))))
        (Tr.test (Option.isSome (f117 ((x0'_,(x0'_',())),((x1'_,(x1'_',())),()))))
          (let r2 : (Int × List Int × PUnit) × PUnit := g116 ((r0.1.1,(r0.1.2.1,())),((r1.1.1,(r1.1.2.1,())),()));
          let r3 : (Int × List Int × PUnit) × PUnit := g117 ((x0'_,(x0'_',())),((x1'_,(x1'_',())),()));
          Tr.test (Option.isSome (f115 ((r2.1.1,(r2.1.2.1,())),((r3.1.1,(r3.1.2.1,())),()))))
            (let r4 : ((Int × List Int × PUnit) × (Int × List Int × PUnit) × PUnit) × PUnit := g115 ((r2.1.1,(r2.1.2.1,())),((r3.1.1,(r3.1.2.1,())),()));
            Tr.fin ((((r4.1.1.1,(r4.1.1.2.1,())),((r4.1.2.1.1,(r4.1.2.1.2.1,())),())),())))
            (Tr.stop))
          (Tr.stop))
        (Tr.stop))
      (Tr.stop))
    (Tr.stop)

def f51 (d : Tys.data as51) : Option (Tys.data rs51) := (t51 d.1.1.1 d.1.1.2.1 d.1.2.1.1 d.1.2.1.2.1 d.2.1.1.1 d.2.1.1.2.1 d.2.1.2.1.1 d.2.1.2.1.2.1).val
def g51 (d : Tys.data as51) : Tys.data rs51 := (f51 d).getD (Tys.dflt rs51)
def p51 : PureC := pcOf as51 rs51 f51 g51

theorem e51_0 (x0_ : Int) (x0_' : (List Int)) (x0'_ : Int) (x0'_' : (List Int)) (x1_ : Int) (x1_' : (List Int)) (x1'_ : Int) (x1'_' : (List Int)) : runPure kf114.orc Go.Proofs.Try.prog 400 51 as51 rs51 (((x0_,x0_',()),(x0'_,x0'_',()),()),((x1_,x1_',()),(x1'_,x1'_',()),()),()) [tt,tt,tt,tt,tt] =
    (let r0 : (Int × List Int × PUnit) × PUnit := g117 ((x0_,(x0_',())),((x1'_,(x1'_',())),())); let r1 : (Int × List Int × PUnit) × PUnit := g117 ((x1_,(x1_',())),((x0'_,(x0'_',())),())); let r2 : (Int × List Int × PUnit) × PUnit := g116 ((r0.1.1,(r0.1.2.1,())),((r1.1.1,(r1.1.2.1,())),())); let r3 : (Int × List Int × PUnit) × PUnit := g117 ((x0'_,(x0'_',())),((x1'_,(x1'_',())),())); let r4 : ((Int × List Int × PUnit) × (Int × List Int × PUnit) × PUnit) × PUnit := g115 ((r2.1.1,(r2.1.2.1,())),((r3.1.1,(r3.1.2.1,())),())); some ((((r4.1.1.1,(r4.1.1.2.1,())),((r4.1.2.1.1,(r4.1.2.1.2.1,())),())),()),[(Option.isSome (f115 ((r2.1.1,(r2.1.2.1,())),((r3.1.1,(r3.1.2.1,())),()))),true),(Option.isSome (f117 ((x0'_,(x0'_',())),((x1'_,(x1'_',())),()))),true),(Option.isSome (f116 ((r0.1.1,(r0.1.2.1,())),((r1.1.1,(r1.1.2.1,())),()))),true),(Option.isSome (f117 ((x1_,(x1_',())),((x0'_,(x0'_',())),()))),true),(Option.isSome (f117 ((x0_,(x0_',())),((x1'_,(x1'_',())),()))),true)])) := by kernel_rfl

theorem ok51_t (x0_ : Int) (x0_' : (List Int)) (x0'_ : Int) (x0'_' : (List Int)) (x1_ : Int) (x1_' : (List Int)) (x1'_ : Int) (x1'_' : (List Int)) : TrOk (PureRuns Go.Proofs.Try.prog kf114.orc 51 as51 rs51 (((x0_,x0_',()),(x0'_,x0'_',()),()),((x1_,x1_',()),(x1'_,x1'_',()),()),())) (t51 x0_ x0_' x0'_ x0'_' x1_ x1_' x1'_ x1'_') :=
  TrOk.ofTest (fun h0 => TrOk.ofTest (fun h1 => TrOk.ofTest (fun h2 => TrOk.ofTest (fun h3 => TrOk.ofTest (fun h4 => TrOk.ofFin (PureRuns.of (e51_0 x0_ x0_' x0'_ x0'_' x1_ x1_' x1'_ x1'_') (ac h4 (ac h3 (ac h2 (ac h1 (ac h0 All.nil))))))) (fun h4 => TrOk.ofStop)) (fun h3 => TrOk.ofStop)) (fun h2 => TrOk.ofStop)) (fun h1 => TrOk.ofStop)) (fun h0 => TrOk.ofStop)

theorem ok51 : PureOk Go.Proofs.Try.prog 51 p51 := pureOk_of kf114_ok.base (T := fun (d : Tys.data as51) => t51 d.1.1.1 d.1.1.2.1 d.1.2.1.1 d.1.2.1.2.1 d.2.1.1.1 d.2.1.1.2.1 d.2.1.2.1.1 d.2.1.2.1.2.1) (by kernel_rfl) (fun (d : Tys.data as51) => ok51_t d.1.1.1 d.1.1.2.1 d.1.2.1.1 d.1.2.1.2.1 d.2.1.1.1 d.2.1.1.2.1 d.2.1.2.1.1 d.2.1.2.1.2.1)
def kf51 : Known := kf114.func 51 p51
theorem kf51_ok : KnownOk Go.Proofs.Try.prog kf51 := kf114_ok.func ok51

/-! ductility/ductilitybase.RatioSub -/

abbrev as49 : List Ty := [(.pair (.pair (.int .i64) (.pair (.slice (.int .i64)) .unit)) (.pair (.pair (.int .i64) (.pair (.slice (.int .i64)) .unit)) .unit)),(.pair (.pair (.int .i64) (.pair (.slice (.int .i64)) .unit)) (.pair (.pair (.int .i64) (.pair (.slice (.int .i64)) .unit)) .unit))]
abbrev rs49 : List Ty := [(.pair (.pair (.int .i64) (.pair (.slice (.int .i64)) .unit)) (.pair (.pair (.int .i64) (.pair (.slice (.int .i64)) .unit)) .unit))]

def t49 (x0_ : Int) (x0_' : (List Int)) (x0'_ : Int) (x0'_' : (List Int)) (x1_ : Int) (x1_' : (List Int)) (x1'_ : Int) (x1'_' : (List Int)) : Tr (Tys.data rs49) :=
  Tr.test (Option.isSome (f114 (((x1_,(x1_',())),((x1'_,(x1'_',())),())),())))
    (let r0 : ((Int × List Int × PUnit) × (Int × List Int × PUnit) × PUnit) × PUnit := g114 (((x1_,(x1_',())),((x1'_,(x1'_',())),())),());
    Tr.test (Option.isSome (f51 (((x0_,(x0_',())),((x0'_,(x0'_',())),())),(((r0.1.1.1,(r0.1.1.2.1,())),((r0.1.2.1.1,(r0.1.2.1.2.1,())),())),()))))
      (let r1 : ((Int × List Int × PUnit) × (Int × List Int × PUnit) × PUnit) × PUnit := g51 (((x0_,(x0_',())),((x0'_,(x0'_',())),())),(((r0.1.1.1,(r0.1.1.2.1,())),((r0.1.2.1.1,(r0.1.2.1.2.1,())),())),()));
      Tr.fin ((((r1.1.1.1,(r1.1.1.2.1,())),((r1.1.2.1.1,(r1.1.2.1.2.1,())),())),())))
      (Tr.stop))
    (Tr.stop)

def f49 (d : Tys.data as49) : Option (Tys.data rs49) := (t49 d.1.1.1 d.1.1.2.1 d.1.2.1.1 d.1.2.1.2.1 d.2.1.1.1 d.2.1.1.2.1 d.2.1.2.1.1 d.2.1.2.1.2.1).val
def g49 (d : Tys.data as49) : Tys.data rs49 := (f49 d).getD (Tys.dflt rs49)
def p49 : PureC := pcOf as49 rs49 f49 g49

theorem e49_0 (x0_ : Int) (x0_' : (List Int)) (x0'_ : Int) (x0'_' : (List Int)) (x1_ : Int) (x1_' : (List Int)) (x1'_ : Int) (x1'_' : (List Int)) : runPure kf51.orc Go.Proofs.Try.prog 400 49 as49 rs49 (((x0_,x0_',()),(x0'_,x0'_',()),()),((x1_,x1_',()),(x1'_,x1'_',()),()),()) [tt,tt] =
    (let r0 : ((Int × List Int × PUnit) × (Int × List Int × PUnit) × PUnit) × PUnit := g114 (((x1_,(x1_',())),((x1'_,(x1'_',())),())),()); let r1 : ((Int × List Int × PUnit) × (Int × List Int × PUnit) × PUnit) × PUnit := g51 (((x0_,(x0_',())),((x0'_,(x0'_',())),())),(((r0.1.1.1,(r0.1.1.2.1,())),((r0.1.2.1.1,(r0.1.2.1.2.1,())),())),())); some ((((r1.1.1.1,(r1.1.1.2.1,())),((r1.1.2.1.1,(r1.1.2.1.2.1,())),())),()),[(Option.isSome (f51 (((x0_,(x0_',())),((x0'_,(x0'_',())),())),(((r0.1.1.1,(r0.1.1.2.1,())),((r0.1.2.1.1,(r0.1.2.1.2.1,())),())),()))),true),(Option.isSome (f114 (((x1_,(x1_',())),((x1'_,(x1'_',())),())),())),true)])) := by kernel_rfl

theorem ok49_t (x0_ : Int) (x0_' : (List Int)) (x0'_ : Int) (x0'_' : (List Int)) (x1_ : Int) (x1_' : (List Int)) (x1'_ : Int) (x1'_' : (List Int)) : TrOk (PureRuns Go.Proofs.Try.prog kf51.orc 49 as49 rs49 (((x0_,x0_',()),(x0'_,x0'_',()),()),((x1_,x1_',()),(x1'_,x1'_',()),()),())) (t49 x0_ x0_' x0'_ x0'_' x1_ x1_' x1'_ x1'_') :=
  TrOk.ofTest (fun h0 => TrOk.ofTest (fun h1 => TrOk.ofFin (PureRuns.of (e49_0 x0_ x0_' x0'_ x0'_' x1_ x1_' x1'_ x1'_') (ac h1 (ac h0 All.nil)))) (fun h1 => TrOk.ofStop)) (fun h0 => TrOk.ofStop)

theorem ok49 : PureOk Go.Proofs.Try.prog 49 p49 := pureOk_of kf51_ok.base (T := fun (d : Tys.data as49) => t49 d.1.1.1 d.1.1.2.1 d.1.2.1.1 d.1.2.1.2.1 d.2.1.1.1 d.2.1.1.2.1 d.2.1.2.1.1 d.2.1.2.1.2.1) (by kernel_rfl) (fun (d : Tys.data as49) => ok49_t d.1.1.1 d.1.1.2.1 d.1.2.1.1 d.1.2.1.2.1 d.2.1.1.1 d.2.1.1.2.1 d.2.1.2.1.1 d.2.1.2.1.2.1)
def kf49 : Known := kf51.func 49 p49
theorem kf49_ok : KnownOk Go.Proofs.Try.prog kf49 := kf51_ok.func ok49

/-! ductility/ductilitybase.RatioMul -/

abbrev as52 : List Ty := [(.pair (.pair (.int .i64) (.pair (.slice (.int .i64)) .unit)) (.pair (.pair (.int .i64) (.pair (.slice (.int .i64)) .unit)) .unit)),(.pair (.pair (.int .i64) (.pair (.slice (.int .i64)) .unit)) (.pair (.pair (.int .i64) (.pair (.slice (.int .i64)) .unit)) .unit))]
abbrev rs52 : List Ty := [(.pair (.pair (.int .i64) (.pair (.slice (.int .i64)) .unit)) (.pair (.pair (.int .i64) (.pair (.slice (.int .i64)) .unit)) .unit))]

def t52 (x0_ : Int) (x0_' : (List Int)) (x0'_ : Int) (x0'_' : (List Int)) (x1_ : Int) (x1_' : (List Int)) (x1'_ : Int) (x1'_' : (List Int)) : Tr (Tys.data rs52) :=
  Tr.test (Option.isSome (f117 ((x0_,(x0_',())),((x1_,(x1_',())),()))))
    (Tr.test (Option.isSome (f117 ((x0'_,(x0'_',())),((x1'_,(x1'_',())),()))))
      (let r0 : (Int × List Int × PUnit) × PUnit := g117 ((x0_,(x0_',())),((x1_,(x1_',())),()));
      let r1 : (Int × List Int × PUnit) × PUnit := g117 ((x0'_,(x0'_',())),((x1'_,(x1'_',())),()));
      Tr.test (Option.isSome (f115 ((r0.1.1,(r0.1.2.1,())),((r1.1.1,(r1.1.2.1,())),()))))
        (let r2 : ((Int × List Int × PUnit) × (Int × List Int × PUnit) × PUnit) × PUnit := g115 ((r0.1.1,(r0.1.2.1,())),((r1.1.1,(r1.1.2.1,())),()));
        Tr.fin ((((r2.1.1.1,(r2.1.1.2.1,())),((r2.1.2.1.1,(r2.1.2.1.2.1,())),())),())))
        (Tr.stop))
      (Tr.stop))
    (Tr.stop)

def f52 (d : Tys.data as52) : Option (Tys.data rs52) := (t52 d.1.1.1 d.1.1.2.1 d.1.2.1.1 d.1.2.1.2.1 d.2.1.1.1 d.2.1.1.2.1 d.2.1.2.1.1 d.2.1.2.1.2.1).val
def g52 (d : Tys.data as52) : Tys.data rs52 := (f52 d).getD (Tys.dflt rs52)
def p52 : PureC := pcOf as52 rs52 f52 g52

theorem e52_0 (x0_ : Int) (x0_' : (List Int)) (x0'_ : Int) (x0'_' : (List Int)) (x1_ : Int) (x1_' : (List Int)) (x1'_ : Int) (x1'_' : (List Int)) : runPure kf49.orc Go.Proofs.Try.prog 400 52 as52 rs52 (((x0_,x0_',()),(x0'_,x0'_',()),()),((x1_,x1_',()),(x1'_,x1'_',()),()),()) [tt,tt,tt] =
    (let r0 : (Int × List Int × PUnit) × PUnit := g117 ((x0_,(x0_',())),((x1_,(x1_',())),())); let r1 : (Int × List Int × PUnit) × PUnit := g117 ((x0'_,(x0'_',())),((x1'_,(x1'_',())),())); let r2 : ((Int × List Int × PUnit) × (Int × List Int × PUnit) × PUnit) × PUnit := g115 ((r0.1.1,(r0.1.2.1,())),((r1.1.1,(r1.1.2.1,())),())); some ((((r2.1.1.1,(r2.1.1.2.1,())),((r2.1.2.1.1,(r2.1.2.1.2.1,())),())),()),[(Option.isSome (f115 ((r0.1.1,(r0.1.2.1,())),((r1.1.1,(r1.1.2.1,())),()))),true),(Option.isSome (f117 ((x0'_,(x0'_',())),((x1'_,(x1'_',())),()))),true),(Option.isSome (f117 ((x0_,(x0_',())),((x1_,(x1_',())),()))),true)])) := by kernel_rfl

theorem ok52_t (x0_ : Int) (x0_' : (List Int)) (x0'_ : Int) (x0'_' : (List Int)) (x1_ : Int) (x1_' : (List Int)) (x1'_ : Int) (x1'_' : (List Int)) : TrOk (PureRuns Go.Proofs.Try.prog kf49.orc 52 as52 rs52 (((x0_,x0_',()),(x0'_,x0'_',()),()),((x1_,x1_',()),(x1'_,x1'_',()),()),())) (t52 x0_ x0_' x0'_ x0'_' x1_ x1_' x1'_ x1'_') :=
  TrOk.ofTest (fun h0 => TrOk.ofTest (fun h1 => TrOk.ofTest (fun h2 => TrOk.ofFin (PureRuns.of (e52_0 x0_ x0_' x0'_ x0'_' x1_ x1_' x1'_ x1'_') (ac h2 (ac h1 (ac h0 All.nil))))) (fun h2 => TrOk.ofStop)) (fun h1 => TrOk.ofStop)) (fun h0 => TrOk.ofStop)

theorem ok52 : PureOk Go.Proofs.Try.prog 52 p52 := pureOk_of kf49_ok.base (T := fun (d : Tys.data as52) => t52 d.1.1.1 d.1.1.2.1 d.1.2.1.1 d.1.2.1.2.1 d.2.1.1.1 d.2.1.1.2.1 d.2.1.2.1.1 d.2.1.2.1.2.1) (by kernel_rfl) (fun (d : Tys.data as52) => ok52_t d.1.1.1 d.1.1.2.1 d.1.2.1.1 d.1.2.1.2.1 d.2.1.1.1 d.2.1.1.2.1 d.2.1.2.1.1 d.2.1.2.1.2.1)
def kf52 : Known := kf49.func 52 p52
theorem kf52_ok : KnownOk Go.Proofs.Try.prog kf52 := kf49_ok.func ok52

/-! ductility/ductilitybase.Mod -/

abbrev as53 : List Ty := [(.int .i64),(.int .i64)]
abbrev rs53 : List Ty := [(.int .i64)]

def t53 (x0 : Int) (x1 : Int) : Tr (Tys.data rs53) :=
  Tr.test ((x1 == (0 : Int) : Bool))
    (Tr.stop /- none [op 2 of region 1 of F53] -/)
    (Tr.test (!leF (0 : Int) (Int.tmod x0 x1))
      (Tr.fin (((wrap64 (Int.tmod x0 x1 + x1) : Int),())))
      (Tr.fin (((Int.tmod x0 x1 : Int),()))))

def f53 (d : Tys.data as53) : Option (Tys.data rs53) := (t53 d.1 d.2.1).val
def g53 (d : Tys.data as53) : Tys.data rs53 := (f53 d).getD (Tys.dflt rs53)
def p53 : PureC := pcOf as53 rs53 f53 g53

theorem e53_1 (x0 : Int) (x1 : Int) : runPure kf52.orc Go.Proofs.Try.prog 400 53 as53 rs53 (x0,x1,()) [ff,tt] =
    (some (((wrap64 (Int.tmod x0 x1 + x1) : Int),()),[(!leF (0 : Int) (Int.tmod x0 x1),true),(x1 == (0 : Int),false)])) := by kernel_rfl
theorem e53_2 (x0 : Int) (x1 : Int) : runPure kf52.orc Go.Proofs.Try.prog 400 53 as53 rs53 (x0,x1,()) [ff,ff] =
    (some (((Int.tmod x0 x1 : Int),()),[(!leF (0 : Int) (Int.tmod x0 x1),false),(x1 == (0 : Int),false)])) := by kernel_rfl

theorem ok53_t (x0 : Int) (x1 : Int) : TrOk (PureRuns Go.Proofs.Try.prog kf52.orc 53 as53 rs53 (x0,x1,())) (t53 x0 x1) :=
  TrOk.ofTest (fun h0 => TrOk.ofStop) (fun h0 => TrOk.ofTest (fun h1 => TrOk.ofFin (PureRuns.of (e53_1 x0 x1) (ac h1 (ac h0 All.nil)))) (fun h1 => TrOk.ofFin (PureRuns.of (e53_2 x0 x1) (ac h1 (ac h0 All.nil)))))

theorem ok53 : PureOk Go.Proofs.Try.prog 53 p53 := pureOk_of kf52_ok.base (T := fun (d : Tys.data as53) => t53 d.1 d.2.1) (by kernel_rfl) (fun (d : Tys.data as53) => ok53_t d.1 d.2.1)
def kf53 : Known := kf52.func 53 p53
theorem kf53_ok : KnownOk Go.Proofs.Try.prog kf53 := kf52_ok.func ok53

/-! ductility/motion.EndOf -/

abbrev as21 : List Ty := [(.pair (.int .i64) (.pair (.slice (.int .i64)) .unit))]
abbrev rs21 : List Ty := [(.pair (.int .i64) (.pair (.int .i64) .unit)),(.int .i64)]

def t21 (x0 : Int) (x0' : (List Int)) : Tr (Tys.data rs21) :=
  Tr.test (Option.isSome (f88 ((x0,(x0',())),())))
    (let r0 : Int × PUnit := g88 ((x0,(x0',())),());
    Tr.test ((!eqF r0.1 0 : Bool))
      (Tr.fin ((((0 : Int),((0 : Int),())),(r0.1,()))))
      (Tr.test (Option.isSome (f90 (x0',())))
        (let r1 : (Int × Int × PUnit) × PUnit := g90 (x0',());
        Tr.fin (((r1.1.1,(r1.1.2.1,())),((0 : Int),()))))
        (Tr.stop)))
    (Tr.stop)

def f21 (d : Tys.data as21) : Option (Tys.data rs21) := (t21 d.1.1 d.1.2.1).val
def g21 (d : Tys.data as21) : Tys.data rs21 := (f21 d).getD (Tys.dflt rs21)
def p21 : PureC := pcOf as21 rs21 f21 g21

theorem e21_0 (x0 : Int) (x0' : (List Int)) : runPure kf53.orc Go.Proofs.Try.prog 400 21 as21 rs21 ((x0,x0',()),()) [tt,tt] =
    (let r0 : Int × PUnit := g88 ((x0,(x0',())),()); some ((((0 : Int),((0 : Int),())),(r0.1,())),[(!eqF r0.1 0,true),(Option.isSome (f88 ((x0,(x0',())),())),true)])) := by kernel_rfl
theorem e21_1 (x0 : Int) (x0' : (List Int)) : runPure kf53.orc Go.Proofs.Try.prog 400 21 as21 rs21 ((x0,x0',()),()) [tt,ff,tt] =
    (let r0 : Int × PUnit := g88 ((x0,(x0',())),()); let r1 : (Int × Int × PUnit) × PUnit := g90 (x0',()); some (((r1.1.1,(r1.1.2.1,())),((0 : Int),())),[(Option.isSome (f90 (x0',())),true),(!eqF r0.1 0,false),(Option.isSome (f88 ((x0,(x0',())),())),true)])) := by kernel_rfl

theorem ok21_t (x0 : Int) (x0' : (List Int)) : TrOk (PureRuns Go.Proofs.Try.prog kf53.orc 21 as21 rs21 ((x0,x0',()),())) (t21 x0 x0') :=
  TrOk.ofTest (fun h0 => TrOk.ofTest (fun h1 => TrOk.ofFin (PureRuns.of (e21_0 x0 x0') (ac h1 (ac h0 All.nil)))) (fun h1 => TrOk.ofTest (fun h2 => TrOk.ofFin (PureRuns.of (e21_1 x0 x0') (ac h2 (ac h1 (ac h0 All.nil))))) (fun h2 => TrOk.ofStop))) (fun h0 => TrOk.ofStop)

theorem ok21 : PureOk Go.Proofs.Try.prog 21 p21 := pureOk_of kf53_ok.base (T := fun (d : Tys.data as21) => t21 d.1.1 d.1.2.1) (by kernel_rfl) (fun (d : Tys.data as21) => ok21_t d.1.1 d.1.2.1)
def kf21 : Known := kf53.func 21 p21
theorem kf21_ok : KnownOk Go.Proofs.Try.prog kf21 := kf53_ok.func ok21

/-! loop 0 of ductility/ductilitybase.Ints -/

abbrev sh23_0 : Sh := { n := 26,slots := [0,1,5],pats := [.ty (.slice (.int .i64)),.ty (.slice (.int .i64)),.ty (.int .i64)],boxes := [] }
abbrev shb23_0 : Sh := { n := 26,slots := [],pats := [],boxes := [] }
abbrev shr23_0 : Sh := { n := 26,slots := [4],pats := [.ty .bool],boxes := [] }

def t23_0 (x0 : (List Int)) (x1 : (List Int)) (x2 : Int) : Tr (Out sh23_0.data shb23_0.data shr23_0.data) :=
  Tr.test ((!leF (↑(List.length x0) : Int) x2 : Bool))
    (Tr.test (decide ((0 : Int) ≤ x2) && decide (x2 < (↑(List.length x0) : Int)))
      (Tr.test ((decide ((0 : Int) ≤ x2) && decide (x2 < (↑(List.length x1) : Int)) : Bool))
        (Tr.test ((!eqF (List.getD x0 (Int.toNat x2) (0 : Int)) (List.getD x1 (Int.toNat x2) (0 : Int)) : Bool))
          (Tr.fin (.ret (((false : Bool),()),())))
          (Tr.fin (.again ((x0,(x1,((wrap64 (x2 + (1 : Int)) : Int),()))),()))))
        (Tr.stop /- none [op 6 of region 6 of F23] -/))
      (Tr.stop /- none [op 2 of region 6 of F23] -/))
    (Tr.fin (.brk ((),())))

def s23_0 (d : sh23_0.data) : Option (Out sh23_0.data shb23_0.data shr23_0.data) := (t23_0 d.1.1 d.1.2.1 d.1.2.2.1).val
def l23_0 (d : sh23_0.data) : Option (shb23_0.data ⊕ shr23_0.data) := itr s23_0 rounds d
def b23_0 (d : sh23_0.data) : shb23_0.data := outB shb23_0.dflt (l23_0 d)
def r23_0 (d : sh23_0.data) : shr23_0.data := outR shr23_0.dflt (l23_0 d)
def lc23_0 : LoopC := lcOf sh23_0 shb23_0 shr23_0 l23_0 b23_0 r23_0

theorem e23_0_0 (x0 : (List Int)) (x1 : (List Int)) (x2 : Int) : runBody kf21.orc Go.Proofs.Try.prog 400 23 0 sh23_0 shb23_0 shr23_0 ((x0,x1,x2,()),()) [tt,tt,tt,tt] =
    (some (.ret ((false,()),()),[(!eqF (List.getD x0 (Int.toNat x2) (0 : Int)) (List.getD x1 (Int.toNat x2) (0 : Int)),true),(decide ((0 : Int) ≤ x2) && decide (x2 < (↑(List.length x1) : Int)),true),(decide ((0 : Int) ≤ x2) && decide (x2 < (↑(List.length x0) : Int)),true),(!leF (↑(List.length x0) : Int) x2,true)])) := by kernel_rfl
theorem e23_0_1 (x0 : (List Int)) (x1 : (List Int)) (x2 : Int) : runBody kf21.orc Go.Proofs.Try.prog 400 23 0 sh23_0 shb23_0 shr23_0 ((x0,x1,x2,()),()) [tt,tt,tt,ff] =
    (some (.again ((x0,(x1,((wrap64 (x2 + (1 : Int)) : Int),()))),()),[(!eqF (List.getD x0 (Int.toNat x2) (0 : Int)) (List.getD x1 (Int.toNat x2) (0 : Int)),false),(decide ((0 : Int) ≤ x2) && decide (x2 < (↑(List.length x1) : Int)),true),(decide ((0 : Int) ≤ x2) && decide (x2 < (↑(List.length x0) : Int)),true),(!leF (↑(List.length x0) : Int) x2,true)])) := by kernel_rfl
theorem e23_0_4 (x0 : (List Int)) (x1 : (List Int)) (x2 : Int) : runBody kf21.orc Go.Proofs.Try.prog 400 23 0 sh23_0 shb23_0 shr23_0 ((x0,x1,x2,()),()) [ff] =
    (some (.brk ((),()),[(!leF (↑(List.length x0) : Int) x2,false)])) := by kernel_rfl

theorem ok23_0_t (x0 : (List Int)) (x1 : (List Int)) (x2 : Int) : TrOk (BodyRuns Go.Proofs.Try.prog kf21.orc 23 0 sh23_0 shb23_0 shr23_0 ((x0,x1,x2,()),())) (t23_0 x0 x1 x2) :=
  TrOk.ofTest (fun h0 => TrOk.ofTest (fun h1 => TrOk.ofTest (fun h2 => TrOk.ofTest (fun h3 => TrOk.ofFin (BodyRuns.of (e23_0_0 x0 x1 x2) (ac h3 (ac h2 (ac h1 (ac h0 All.nil)))))) (fun h3 => TrOk.ofFin (BodyRuns.of (e23_0_1 x0 x1 x2) (ac h3 (ac h2 (ac h1 (ac h0 All.nil))))))) (fun h2 => TrOk.ofStop)) (fun h1 => TrOk.ofStop)) (fun h0 => TrOk.ofFin (BodyRuns.of (e23_0_4 x0 x1 x2) (ac h0 All.nil)))

theorem ok23_0 : LoopOk Go.Proofs.Try.prog 23 0 lc23_0 := loopOk_of kf21_ok.base (T := fun (d : sh23_0.data) => t23_0 d.1.1 d.1.2.1 d.1.2.2.1) (by kernel_rfl) rfl (fun (d : sh23_0.data) => ok23_0_t d.1.1 d.1.2.1 d.1.2.2.1) (fun _ => rfl)
def kl23_0 : Known := kf21.loop 23 0 lc23_0
theorem kl23_0_ok : KnownOk Go.Proofs.Try.prog kl23_0 := kf21_ok.loop ok23_0

/-! ductility/ductilitybase.Ints -/

abbrev as23 : List Ty := [(.slice (.int .i64)),(.slice (.int .i64))]
abbrev rs23 : List Ty := [.bool]

def t23 (x0 : (List Int)) (x1 : (List Int)) : Tr (Tys.data rs23) :=
  Tr.test ((!eqF (↑(List.length x0) : Int) (↑(List.length x1) : Int) : Bool))
    (Tr.fin ((false,())))
    (Tr.test (Option.isSome (l23_0 ((x0,(x1,((0 : Int),()))),())))
      (Tr.test (isRet (l23_0 ((x0,(x1,((0 : Int),()))),())))
        (let r0 : (Bool × PUnit) × PUnit := r23_0 ((x0,(x1,((0 : Int),()))),());
        Tr.fin ((r0.1.1,())))
        (Tr.fin (((true : Bool),()))))
      (Tr.stop))

def f23 (d : Tys.data as23) : Option (Tys.data rs23) := (t23 d.1 d.2.1).val
def g23 (d : Tys.data as23) : Tys.data rs23 := (f23 d).getD (Tys.dflt rs23)
def p23 : PureC := pcOf as23 rs23 f23 g23

theorem e23_0 (x0 : (List Int)) (x1 : (List Int)) : runPure kl23_0.orc Go.Proofs.Try.prog 400 23 as23 rs23 (x0,x1,()) [tt] =
    (some ((false,()),[(!eqF (↑(List.length x0) : Int) (↑(List.length x1) : Int),true)])) := by kernel_rfl
theorem e23_1 (x0 : (List Int)) (x1 : (List Int)) : runPure kl23_0.orc Go.Proofs.Try.prog 400 23 as23 rs23 (x0,x1,()) [ff,tt,tt] =
    (let r0 : (Bool × PUnit) × PUnit := r23_0 ((x0,(x1,((0 : Int),()))),()); some ((r0.1.1,()),[(isRet (l23_0 ((x0,(x1,((0 : Int),()))),())),true),(Option.isSome (l23_0 ((x0,(x1,((0 : Int),()))),())),true),(!eqF (↑(List.length x0) : Int) (↑(List.length x1) : Int),false)])) := by kernel_rfl
theorem e23_2 (x0 : (List Int)) (x1 : (List Int)) : runPure kl23_0.orc Go.Proofs.Try.prog 400 23 as23 rs23 (x0,x1,()) [ff,tt,ff] =
    (some ((true,()),[(isRet (l23_0 ((x0,(x1,((0 : Int),()))),())),false),(Option.isSome (l23_0 ((x0,(x1,((0 : Int),()))),())),true),(!eqF (↑(List.length x0) : Int) (↑(List.length x1) : Int),false)])) := by kernel_rfl

theorem ok23_t (x0 : (List Int)) (x1 : (List Int)) : TrOk (PureRuns Go.Proofs.Try.prog kl23_0.orc 23 as23 rs23 (x0,x1,())) (t23 x0 x1) :=
  TrOk.ofTest (fun h0 => TrOk.ofFin (PureRuns.of (e23_0 x0 x1) (ac h0 All.nil))) (fun h0 => TrOk.ofTest (fun h1 => TrOk.ofTest (fun h2 => TrOk.ofFin (PureRuns.of (e23_1 x0 x1) (ac h2 (ac h1 (ac h0 All.nil))))) (fun h2 => TrOk.ofFin (PureRuns.of (e23_2 x0 x1) (ac h2 (ac h1 (ac h0 All.nil)))))) (fun h1 => TrOk.ofStop))

theorem ok23 : PureOk Go.Proofs.Try.prog 23 p23 := pureOk_of kl23_0_ok.base (T := fun (d : Tys.data as23) => t23 d.1 d.2.1) (by kernel_rfl) (fun (d : Tys.data as23) => ok23_t d.1 d.2.1)
def kf23 : Known := kl23_0.func 23 p23
theorem kf23_ok : KnownOk Go.Proofs.Try.prog kf23 := kl23_0_ok.func ok23

/-! ductility/ductilityref02.SameParts -/

abbrev as44 : List Ty := [(.pair (.int .i64) (.pair (.slice (.int .i64)) .unit)),(.pair (.int .i64) (.pair (.slice (.int .i64)) .unit))]
abbrev rs44 : List Ty := [.bool]

def t44 (x0 : Int) (x0' : (List Int)) (x1 : Int) (x1' : (List Int)) : Tr (Tys.data rs44) :=
  Tr.test ((eqF x0 x1 : Bool))
    (Tr.test (Option.isSome (f23 (x0',(x1',()))))
      (let r0 : Bool × PUnit := g23 (x0',(x1',()));
      Tr.fin ((r0.1,())))
      (Tr.stop))
    (Tr.fin ((false,())))

def f44 (d : Tys.data as44) : Option (Tys.data rs44) := (t44 d.1.1 d.1.2.1 d.2.1.1 d.2.1.2.1).val
def g44 (d : Tys.data as44) : Tys.data rs44 := (f44 d).getD (Tys.dflt rs44)
def p44 : PureC := pcOf as44 rs44 f44 g44

theorem e44_0 (x0 : Int) (x0' : (List Int)) (x1 : Int) (x1' : (List Int)) : runPure kf23.orc Go.Proofs.Try.prog 400 44 as44 rs44 ((x0,x0',()),(x1,x1',()),()) [tt,tt,tt,tt,tt,tt,tt] =
    (let r0 : Bool × PUnit := g23 (x0',(x1',())); some ((r0.1,()),[(eqF x0 x1,true),(Option.isSome (f23 (x0',(x1',()))),true),(eqF x0 x1,true),(eqF x0 x1,true),(eqF x0 x1,true),(eqF x0 x1,true),(eqF x0 x1,true)])) := by kernel_rfl
theorem e44_1 (x0 : Int) (x0' : (List Int)) (x1 : Int) (x1' : (List Int)) : runPure kf23.orc Go.Proofs.Try.prog 400 44 as44 rs44 ((x0,x0',()),(x1,x1',()),()) [ff,ff,ff,ff,ff,ff] =
    (some ((false,()),[(eqF x0 x1,false),(eqF x0 x1,false),(eqF x0 x1,false),(eqF x0 x1,false),(eqF x0 x1,false),(eqF x0 x1,false)])) := by kernel_rfl

theorem ok44_t (x0 : Int) (x0' : (List Int)) (x1 : Int) (x1' : (List Int)) : TrOk (PureRuns Go.Proofs.Try.prog kf23.orc 44 as44 rs44 ((x0,x0',()),(x1,x1',()),())) (t44 x0 x0' x1 x1') :=
  TrOk.ofTest (fun h0 => TrOk.ofTest (fun h5 => TrOk.ofFin (PureRuns.of (e44_0 x0 x0' x1 x1') (ac h0 (ac h5 (ac h0 (ac h0 (ac h0 (ac h0 (ac h0 All.nil))))))))) (fun h5 => TrOk.ofStop)) (fun h0 => TrOk.ofFin (PureRuns.of (e44_1 x0 x0' x1 x1') (ac h0 (ac h0 (ac h0 (ac h0 (ac h0 (ac h0 All.nil))))))))

theorem ok44 : PureOk Go.Proofs.Try.prog 44 p44 := pureOk_of kf23_ok.base (T := fun (d : Tys.data as44) => t44 d.1.1 d.1.2.1 d.2.1.1 d.2.1.2.1) (by kernel_rfl) (fun (d : Tys.data as44) => ok44_t d.1.1 d.1.2.1 d.2.1.1 d.2.1.2.1)
def kf44 : Known := kf23.func 44 p44
theorem kf44_ok : KnownOk Go.Proofs.Try.prog kf44 := kf23_ok.func ok44

/-! loop 0 of ductility/ductilityref02.End -/

abbrev sh26_0 : Sh := { n := 33,slots := [0,2,3,4],pats := [.ty (.slice (.int .i64)),.ptr 0 2 0,.ptr 1 2 0,.ty (.int .i64)],boxes := [.row [.ty (.int .i64),.ty (.int .i64)],.row [.ty (.int .i64),.ty (.int .i64)]] }
abbrev shb26_0 : Sh := { n := 33,slots := [2,3],pats := [.ptr 0 2 0,.ptr 1 2 0],boxes := [.row [.ty (.int .i64),.ty (.int .i64)],.row [.ty (.int .i64),.ty (.int .i64)]] }
abbrev shr26_0 : Sh := { n := 33,slots := [],pats := [],boxes := [.row [.ty (.int .i64),.ty (.int .i64)],.row [.ty (.int .i64),.ty (.int .i64)]] }

def t26_0 (x0 : (List Int)) (x3 : Int) (b0_0 : Int) (b0_1 : Int) (b1_0 : Int) (b1_1 : Int) : Tr (Out sh26_0.data shb26_0.data shr26_0.data) :=
  Tr.test ((!leF (↑(List.length x0) : Int) x3 : Bool))
    (Tr.test (decide ((0 : Int) ≤ x3) && decide (x3 < (↑(List.length x0) : Int)))
      (Tr.fin (.again ((x0,((wrap64 (x3 + (1 : Int)) : Int),())),((b0_0,(b0_1,())),(((wrap64 (b1_0 + List.getD x0 (Int.toNat x3) (0 : Int)) : Int),((wrap64 (b1_1 + wrap64 (wrap64 ((↑(List.length x0) : Int) - x3) * List.getD x0 (Int.toNat x3) (0 : Int))) : Int),())),())))))
      (Tr.stop /- none [op 4 of region 5 of F26] -/))
    (Tr.fin (.brk ((),((b0_0,(b0_1,())),((b1_0,(b1_1,())),())))))

def s26_0 (d : sh26_0.data) : Option (Out sh26_0.data shb26_0.data shr26_0.data) := (t26_0 d.1.1 d.1.2.1 d.2.1.1 d.2.1.2.1 d.2.2.1.1 d.2.2.1.2.1).val
def l26_0 (d : sh26_0.data) : Option (shb26_0.data ⊕ shr26_0.data) := itr s26_0 rounds d
def b26_0 (d : sh26_0.data) : shb26_0.data := outB shb26_0.dflt (l26_0 d)
def lc26_0 : LoopC := lcB sh26_0 shb26_0 shr26_0 l26_0 b26_0

theorem e26_0_0 (x0 : (List Int)) (x3 : Int) (b0_0 : Int) (b0_1 : Int) (b1_0 : Int) (b1_1 : Int) : runBody kf44.orc Go.Proofs.Try.prog 400 26 0 sh26_0 shb26_0 shr26_0 ((x0,x3,()),(b0_0,b0_1,()),(b1_0,b1_1,()),()) [tt,tt,tt] =
    (some (.again ((x0,((wrap64 (x3 + (1 : Int)) : Int),())),((b0_0,(b0_1,())),(((wrap64 (b1_0 + List.getD x0 (Int.toNat x3) (0 : Int)) : Int),((wrap64 (b1_1 + wrap64 (wrap64 ((↑(List.length x0) : Int) - x3) * List.getD x0 (Int.toNat x3) (0 : Int))) : Int),())),()))),[(decide ((0 : Int) ≤ x3) && decide (x3 < (↑(List.length x0) : Int)),true),(decide ((0 : Int) ≤ x3) && decide (x3 < (↑(List.length x0) : Int)),true),(!leF (↑(List.length x0) : Int) x3,true)])) := by kernel_rfl
theorem e26_0_2 (x0 : (List Int)) (x3 : Int) (b0_0 : Int) (b0_1 : Int) (b1_0 : Int) (b1_1 : Int) : runBody kf44.orc Go.Proofs.Try.prog 400 26 0 sh26_0 shb26_0 shr26_0 ((x0,x3,()),(b0_0,b0_1,()),(b1_0,b1_1,()),()) [ff] =
    (some (.brk ((),((b0_0,(b0_1,())),((b1_0,(b1_1,())),()))),[(!leF (↑(List.length x0) : Int) x3,false)])) := by kernel_rfl

theorem ok26_0_t (x0 : (List Int)) (x3 : Int) (b0_0 : Int) (b0_1 : Int) (b1_0 : Int) (b1_1 : Int) : TrOk (BodyRuns Go.Proofs.Try.prog kf44.orc 26 0 sh26_0 shb26_0 shr26_0 ((x0,x3,()),(b0_0,b0_1,()),(b1_0,b1_1,()),())) (t26_0 x0 x3 b0_0 b0_1 b1_0 b1_1) :=
  TrOk.ofTest (fun h0 => TrOk.ofTest (fun h1 => TrOk.ofFin (BodyRuns.of (e26_0_0 x0 x3 b0_0 b0_1 b1_0 b1_1) (ac h1 (ac h1 (ac h0 All.nil))))) (fun h1 => TrOk.ofStop)) (fun h0 => TrOk.ofFin (BodyRuns.of (e26_0_2 x0 x3 b0_0 b0_1 b1_0 b1_1) (ac h0 All.nil)))

theorem ok26_0 : LoopOk Go.Proofs.Try.prog 26 0 lc26_0 := loopOk_ofB kf44_ok.base (T := fun (d : sh26_0.data) => t26_0 d.1.1 d.1.2.1 d.2.1.1 d.2.1.2.1 d.2.2.1.1 d.2.2.1.2.1) (by kernel_rfl) rfl (fun (d : sh26_0.data) => ok26_0_t d.1.1 d.1.2.1 d.2.1.1 d.2.1.2.1 d.2.2.1.1 d.2.2.1.2.1) (fun _ => rfl)
def kl26_0 : Known := kf44.loop 26 0 lc26_0
theorem kl26_0_ok : KnownOk Go.Proofs.Try.prog kl26_0 := kf44_ok.loop ok26_0

/-! ductility/ductilityref02.End -/

abbrev as26 : List Ty := [(.slice (.int .i64))]
abbrev rs26 : List Ty := [(.pair (.int .i64) (.pair (.int .i64) .unit))]

def t26 (x0 : (List Int)) : Tr (Tys.data rs26) :=
  Tr.test (isBrk (l26_0 ((x0,((0 : Int),())),(((0 : Int),((0 : Int),())),(((0 : Int),((0 : Int),())),())))))
    (let r0 : PUnit × (Int × Int × PUnit) × (Int × Int × PUnit) × PUnit := b26_0 ((x0,((0 : Int),())),(((0 : Int),((0 : Int),())),(((0 : Int),((0 : Int),())),())));
    Tr.fin (((r0.2.2.1.1,(r0.2.2.1.2.1,())),())))
    (Tr.stop)

def f26 (d : Tys.data as26) : Option (Tys.data rs26) := (t26 d.1).val
def g26 (d : Tys.data as26) : Tys.data rs26 := (f26 d).getD (Tys.dflt rs26)
def p26 : PureC := pcOf as26 rs26 f26 g26

theorem e26_0 (x0 : (List Int)) : runPure kl26_0.orc Go.Proofs.Try.prog 400 26 as26 rs26 (x0,()) [tt,tt] =
    (let r0 : PUnit × (Int × Int × PUnit) × (Int × Int × PUnit) × PUnit := b26_0 ((x0,((0 : Int),())),(((0 : Int),((0 : Int),())),(((0 : Int),((0 : Int),())),()))); some (((r0.2.2.1.1,(r0.2.2.1.2.1,())),()),[(true,true),(isBrk (l26_0 ((x0,((0 : Int),())),(((0 : Int),((0 : Int),())),(((0 : Int),((0 : Int),())),())))),true)])) := by kernel_rfl

theorem ok26_t (x0 : (List Int)) : TrOk (PureRuns Go.Proofs.Try.prog kl26_0.orc 26 as26 rs26 (x0,())) (t26 x0) :=
  TrOk.ofTest (fun h0 => TrOk.ofFin (PureRuns.of (e26_0 x0) (ac rfl (ac h0 All.nil)))) (fun h0 => TrOk.ofStop)

theorem ok26 : PureOk Go.Proofs.Try.prog 26 p26 := pureOk_of kl26_0_ok.base (T := fun (d : Tys.data as26) => t26 d.1) (by kernel_rfl) (fun (d : Tys.data as26) => ok26_t d.1)
def kf26 : Known := kl26_0.func 26 p26
theorem kf26_ok : KnownOk Go.Proofs.Try.prog kf26 := kl26_0_ok.func ok26

/-! ductility/ductilitybase.RatioCmp -/

abbrev as55 : List Ty := [(.pair (.pair (.int .i64) (.pair (.slice (.int .i64)) .unit)) (.pair (.pair (.int .i64) (.pair (.slice (.int .i64)) .unit)) .unit)),(.pair (.pair (.int .i64) (.pair (.slice (.int .i64)) .unit)) (.pair (.pair (.int .i64) (.pair (.slice (.int .i64)) .unit)) .unit))]
abbrev rs55 : List Ty := [(.int .i64)]

def t55 (x0_ : Int) (x0_' : (List Int)) (x0'_ : Int) (x0'_' : (List Int)) (x1_ : Int) (x1_' : (List Int)) (x1'_ : Int) (x1'_' : (List Int)) : Tr (Tys.data rs55) :=
  Tr.test (Option.isSome (f117 ((x0_,(x0_',())),((x1'_,(x1'_',())),()))))
    (Tr.test (Option.isSome (f117 ((x1_,(x1_',())),((x0'_,(x0'_',())),()))))
      (let r0 : (Int × List Int × PUnit) × PUnit := g117 ((x0_,(x0_',())),((x1'_,(x1'_',())),()));
      let r1 : (Int × List Int × PUnit) × PUnit := g117 ((x1_,(x1_',())),((x0'_,(x0'_',())),()));
      Tr.test (Option.isSome (f118 ((r0.1.1,(r0.1.2.1,())),((r1.1.1,(r1.1.2.1,())),()))))
        (let r2 : Int × PUnit := g118 ((r0.1.1,(r0.1.2.1,())),((r1.1.1,(r1.1.2.1,())),()));
        Tr.fin ((r2.1,())))
        (Tr.stop))
      (Tr.stop))
    (Tr.stop)

def f55 (d : Tys.data as55) : Option (Tys.data rs55) := (t55 d.1.1.1 d.1.1.2.1 d.1.2.1.1 d.1.2.1.2.1 d.2.1.1.1 d.2.1.1.2.1 d.2.1.2.1.1 d.2.1.2.1.2.1).val
def g55 (d : Tys.data as55) : Tys.data rs55 := (f55 d).getD (Tys.dflt rs55)
def p55 : PureC := pcOf as55 rs55 f55 g55

theorem e55_0 (x0_ : Int) (x0_' : (List Int)) (x0'_ : Int) (x0'_' : (List Int)) (x1_ : Int) (x1_' : (List Int)) (x1'_ : Int) (x1'_' : (List Int)) : runPure kf26.orc Go.Proofs.Try.prog 400 55 as55 rs55 (((x0_,x0_',()),(x0'_,x0'_',()),()),((x1_,x1_',()),(x1'_,x1'_',()),()),()) [tt,tt,tt] =
    (let r0 : (Int × List Int × PUnit) × PUnit := g117 ((x0_,(x0_',())),((x1'_,(x1'_',())),())); let r1 : (Int × List Int × PUnit) × PUnit := g117 ((x1_,(x1_',())),((x0'_,(x0'_',())),())); let r2 : Int × PUnit := g118 ((r0.1.1,(r0.1.2.1,())),((r1.1.1,(r1.1.2.1,())),())); some ((r2.1,()),[(Option.isSome (f118 ((r0.1.1,(r0.1.2.1,())),((r1.1.1,(r1.1.2.1,())),()))),true),(Option.isSome (f117 ((x1_,(x1_',())),((x0'_,(x0'_',())),()))),true),(Option.isSome (f117 ((x0_,(x0_',())),((x1'_,(x1'_',())),()))),true)])) := by kernel_rfl

theorem ok55_t (x0_ : Int) (x0_' : (List Int)) (x0'_ : Int) (x0'_' : (List Int)) (x1_ : Int) (x1_' : (List Int)) (x1'_ : Int) (x1'_' : (List Int)) : TrOk (PureRuns Go.Proofs.Try.prog kf26.orc 55 as55 rs55 (((x0_,x0_',()),(x0'_,x0'_',()),()),((x1_,x1_',()),(x1'_,x1'_',()),()),())) (t55 x0_ x0_' x0'_ x0'_' x1_ x1_' x1'_ x1'_') :=
  TrOk.ofTest (fun h0 => TrOk.ofTest (fun h1 => TrOk.ofTest (fun h2 => TrOk.ofFin (PureRuns.of (e55_0 x0_ x0_' x0'_ x0'_' x1_ x1_' x1'_ x1'_') (ac h2 (ac h1 (ac h0 All.nil))))) (fun h2 => TrOk.ofStop)) (fun h1 => TrOk.ofStop)) (fun h0 => TrOk.ofStop)

theorem ok55 : PureOk Go.Proofs.Try.prog 55 p55 := pureOk_of kf26_ok.base (T := fun (d : Tys.data as55) => t55 d.1.1.1 d.1.1.2.1 d.1.2.1.1 d.1.2.1.2.1 d.2.1.1.1 d.2.1.1.2.1 d.2.1.2.1.1 d.2.1.2.1.2.1) (by kernel_rfl) (fun (d : Tys.data as55) => ok55_t d.1.1.1 d.1.1.2.1 d.1.2.1.1 d.1.2.1.2.1 d.2.1.1.1 d.2.1.1.2.1 d.2.1.2.1.1 d.2.1.2.1.2.1)
def kf55 : Known := kf26.func 55 p55
theorem kf55_ok : KnownOk Go.Proofs.Try.prog kf55 := kf26_ok.func ok55

/-! loop 0 of ductility/ductilitylaw02.MotionAtRest -/

abbrev sh7_0 : Sh := { n := 229,slots := [1,3,5,7,9,13,14],pats := [.ty (.slice (.int .i64)),.ptr 0 2 0,.ptr 1 2 0,.ptr 2 2 0,.ptr 3 3 0,.ptr 4 4 0,.ty (.int .i64)],boxes := [.row [.ty (.int .i64),.ty (.slice (.int .i64))],.row [.ty (.int .i64),.ty (.int .i64)],.row [.ty (.int .i64),.ty (.slice (.int .i64))],.row [.ty (.int .i64),.ty (.int .i64),.ty (.int .i64)],.row [.ty (.int .i64),.ty (.slice (.int .i64)),.ty (.int .i64),.ty (.slice (.int .i64))]] }
abbrev shb7_0 : Sh := { n := 229,slots := [1,3,5,7,9,13],pats := [.ty (.slice (.int .i64)),.ptr 0 2 0,.ptr 1 2 0,.ptr 2 2 0,.ptr 3 3 0,.ptr 4 4 0],boxes := [.row [.ty (.int .i64),.ty (.slice (.int .i64))],.row [.ty (.int .i64),.ty (.int .i64)],.row [.ty (.int .i64),.ty (.slice (.int .i64))],.row [.ty (.int .i64),.ty (.int .i64),.ty (.int .i64)],.row [.ty (.int .i64),.ty (.slice (.int .i64)),.ty (.int .i64),.ty (.slice (.int .i64))]] }
abbrev shr7_0 : Sh := { n := 229,slots := [],pats := [],boxes := [.row [.ty (.int .i64),.ty (.slice (.int .i64))],.row [.ty (.int .i64),.ty (.int .i64)],.row [.ty (.int .i64),.ty (.slice (.int .i64))],.row [.ty (.int .i64),.ty (.int .i64),.ty (.int .i64)],.row [.ty (.int .i64),.ty (.slice (.int .i64)),.ty (.int .i64),.ty (.slice (.int .i64))]] }

def t7_0 (x0 : (List Int)) (x6 : Int) (b0_0 : Int) (b0_1 : (List Int)) (b1_0 : Int) (b1_1 : Int) (b2_0 : Int) (b2_1 : (List Int)) (b3_0 : Int) (b3_1 : Int) (b3_2 : Int) (b4_0 : Int) (b4_1 : (List Int)) (b4_2 : Int) (b4_3 : (List Int)) : Tr (Out sh7_0.data shb7_0.data shr7_0.data) :=
  Tr.test ((!leF (↑(List.length b2_1) : Int) x6 : Bool))
    (Tr.test (decide ((0 : Int) ≤ x6) && decide (x6 < (↑(List.length b2_1) : Int)))
      (Tr.test (Option.isSome (f50 ((List.getD b2_1 (Int.toNat x6) (0 : Int) : Int),(b2_0,()))))
        (Tr.test ((decide ((0 : Int) ≤ x6) && decide (x6 < (↑(List.length b0_1) : Int)) : Bool))
          (Tr.test (Option.isSome (f48 ((List.getD b0_1 (Int.toNat x6) (0 : Int) : Int),())))
            (let r0 : ((Int × List Int × PUnit) × (Int × List Int × PUnit) × PUnit) × PUnit := g50 ((List.getD b2_1 (Int.toNat x6) (0 : Int) : Int),(b2_0,()));
            let r1 : ((Int × List Int × PUnit) × (Int × List Int × PUnit) × PUnit) × PUnit := g48 ((List.getD b0_1 (Int.toNat x6) (0 : Int) : Int),());
            Tr.test (Option.isSome (f49 (((r0.1.1.1,(r0.1.1.2.1,())),((r0.1.2.1.1,(r0.1.2.1.2.1,())),())),(((r1.1.1.1,(r1.1.1.2.1,())),((r1.1.2.1.1,(r1.1.2.1.2.1,())),())),()))))
              (let r2 : ((Int × List Int × PUnit) × (Int × List Int × PUnit) × PUnit) × PUnit := g49 (((r0.1.1.1,(r0.1.1.2.1,())),((r0.1.2.1.1,(r0.1.2.1.2.1,())),())),(((r1.1.1.1,(r1.1.1.2.1,())),((r1.1.2.1.1,(r1.1.2.1.2.1,())),())),()));
              Tr.test (Option.isSome (f52 (((r2.1.1.1,(r2.1.1.2.1,())),((r2.1.2.1.1,(r2.1.2.1.2.1,())),())),(((r2.1.1.1,(r2.1.1.2.1,())),((r2.1.2.1.1,(r2.1.2.1.2.1,())),())),()))))
                (let r3 : ((Int × List Int × PUnit) × (Int × List Int × PUnit) × PUnit) × PUnit := g52 (((r2.1.1.1,(r2.1.1.2.1,())),((r2.1.2.1.1,(r2.1.2.1.2.1,())),())),(((r2.1.1.1,(r2.1.1.2.1,())),((r2.1.2.1.1,(r2.1.2.1.2.1,())),())),()));
                Tr.test (Option.isSome (f51 (((b4_0,(b4_1,())),((b4_2,(b4_3,())),())),(((r3.1.1.1,(r3.1.1.2.1,())),((r3.1.2.1.1,(r3.1.2.1.2.1,())),())),()))))
                  (let r4 : ((Int × List Int × PUnit) × (Int × List Int × PUnit) × PUnit) × PUnit := g51 (((b4_0,(b4_1,())),((b4_2,(b4_3,())),())),(((r3.1.1.1,(r3.1.1.2.1,())),((r3.1.2.1.1,(r3.1.2.1.2.1,())),())),()));
                  Tr.fin (.again ((x0,((wrap64 (x6 + (1 : Int)) : Int),())),((b0_0,(b0_1,())),((b1_0,(b1_1,())),((b2_0,(b2_1,())),((b3_0,(b3_1,(b3_2,()))),((r4.1.1.1,(r4.1.1.2.1,(r4.1.2.1.1,(r4.1.2.1.2.1,())))),()))))))))
                  (Tr.stop))
                (Tr.stop))
              (Tr.stop))
            (Tr.stop))
          (Tr.stop /- none [op 11 of region 16 of F7] -/))
        (Tr.stop))
      (Tr.stop /- none [op 3 of region 16 of F7] -/))
    (Tr.fin (.brk ((x0,()),((b0_0,(b0_1,())),((b1_0,(b1_1,())),((b2_0,(b2_1,())),((b3_0,(b3_1,(b3_2,()))),((b4_0,(b4_1,(b4_2,(b4_3,())))),()))))))))

def s7_0 (d : sh7_0.data) : Option (Out sh7_0.data shb7_0.data shr7_0.data) := (t7_0 d.1.1 d.1.2.1 d.2.1.1 d.2.1.2.1 d.2.2.1.1 d.2.2.1.2.1 d.2.2.2.1.1 d.2.2.2.1.2.1 d.2.2.2.2.1.1 d.2.2.2.2.1.2.1 d.2.2.2.2.1.2.2.1 d.2.2.2.2.2.1.1 d.2.2.2.2.2.1.2.1 d.2.2.2.2.2.1.2.2.1 d.2.2.2.2.2.1.2.2.2.1).val
def l7_0 (d : sh7_0.data) : Option (shb7_0.data ⊕ shr7_0.data) := itr s7_0 rounds d
def b7_0 (d : sh7_0.data) : shb7_0.data := outB shb7_0.dflt (l7_0 d)
def lc7_0 : LoopC := lcB sh7_0 shb7_0 shr7_0 l7_0 b7_0

theorem e7_0_0 (x0 : (List Int)) (x6 : Int) (b0_0 : Int) (b0_1 : (List Int)) (b1_0 : Int) (b1_1 : Int) (b2_0 : Int) (b2_1 : (List Int)) (b3_0 : Int) (b3_1 : Int) (b3_2 : Int) (b4_0 : Int) (b4_1 : (List Int)) (b4_2 : Int) (b4_3 : (List Int)) : runBody kf55.orc Go.Proofs.Try.prog 400 7 0 sh7_0 shb7_0 shr7_0 ((x0,x6,()),(b0_0,b0_1,()),(b1_0,b1_1,()),(b2_0,b2_1,()),(b3_0,b3_1,b3_2,()),(b4_0,b4_1,b4_2,b4_3,()),()) [tt,tt,tt,tt,tt,tt,tt,tt] =
    (let r0 : ((Int × List Int × PUnit) × (Int × List Int × PUnit) × PUnit) × PUnit := g50 ((List.getD b2_1 (Int.toNat x6) (0 : Int) : Int),(b2_0,())); let r1 : ((Int × List Int × PUnit) × (Int × List Int × PUnit) × PUnit) × PUnit := g48 ((List.getD b0_1 (Int.toNat x6) (0 : Int) : Int),()); let r2 : ((Int × List Int × PUnit) × (Int × List Int × PUnit) × PUnit) × PUnit := g49 (((r0.1.1.1,(r0.1.1.2.1,())),((r0.1.2.1.1,(r0.1.2.1.2.1,())),())),(((r1.1.1.1,(r1.1.1.2.1,())),((r1.1.2.1.1,(r1.1.2.1.2.1,())),())),())); let r3 : ((Int × List Int × PUnit) × (Int × List Int × PUnit) × PUnit) × PUnit := g52 (((r2.1.1.1,(r2.1.1.2.1,())),((r2.1.2.1.1,(r2.1.2.1.2.1,())),())),(((r2.1.1.1,(r2.1.1.2.1,())),((r2.1.2.1.1,(r2.1.2.1.2.1,())),())),())); let r4 : ((Int × List Int × PUnit) × (Int × List Int × PUnit) × PUnit) × PUnit := g51 (((b4_0,(b4_1,())),((b4_2,(b4_3,())),())),(((r3.1.1.1,(r3.1.1.2.1,())),((r3.1.2.1.1,(r3.1.2.1.2.1,())),())),())); some (.again ((x0,((wrap64 (x6 + (1 : Int)) : Int),())),((b0_0,(b0_1,())),((b1_0,(b1_1,())),((b2_0,(b2_1,())),((b3_0,(b3_1,(b3_2,()))),((r4.1.1.1,(r4.1.1.2.1,(r4.1.2.1.1,(r4.1.2.1.2.1,())))),())))))),[(Option.isSome (f51 (((b4_0,(b4_1,())),((b4_2,(b4_3,())),())),(((r3.1.1.1,(r3.1.1.2.1,())),((r3.1.2.1.1,(r3.1.2.1.2.1,())),())),()))),true),(Option.isSome (f52 (((r2.1.1.1,(r2.1.1.2.1,())),((r2.1.2.1.1,(r2.1.2.1.2.1,())),())),(((r2.1.1.1,(r2.1.1.2.1,())),((r2.1.2.1.1,(r2.1.2.1.2.1,())),())),()))),true),(Option.isSome (f49 (((r0.1.1.1,(r0.1.1.2.1,())),((r0.1.2.1.1,(r0.1.2.1.2.1,())),())),(((r1.1.1.1,(r1.1.1.2.1,())),((r1.1.2.1.1,(r1.1.2.1.2.1,())),())),()))),true),(Option.isSome (f48 ((List.getD b0_1 (Int.toNat x6) (0 : Int) : Int),())),true),(decide ((0 : Int) ≤ x6) && decide (x6 < (↑(List.length b0_1) : Int)),true),(Option.isSome (f50 ((List.getD b2_1 (Int.toNat x6) (0 : Int) : Int),(b2_0,()))),true),(decide ((0 : Int) ≤ x6) && decide (x6 < (↑(List.length b2_1) : Int)),true),(!leF (↑(List.length b2_1) : Int) x6,true)])) := by kernel_rfl
theorem e7_0_3 (x0 : (List Int)) (x6 : Int) (b0_0 : Int) (b0_1 : (List Int)) (b1_0 : Int) (b1_1 : Int) (b2_0 : Int) (b2_1 : (List Int)) (b3_0 : Int) (b3_1 : Int) (b3_2 : Int) (b4_0 : Int) (b4_1 : (List Int)) (b4_2 : Int) (b4_3 : (List Int)) : runBody kf55.orc Go.Proofs.Try.prog 400 7 0 sh7_0 shb7_0 shr7_0 ((x0,x6,()),(b0_0,b0_1,()),(b1_0,b1_1,()),(b2_0,b2_1,()),(b3_0,b3_1,b3_2,()),(b4_0,b4_1,b4_2,b4_3,()),()) [ff] =
    (some (.brk ((x0,()),((b0_0,(b0_1,())),((b1_0,(b1_1,())),((b2_0,(b2_1,())),((b3_0,(b3_1,(b3_2,()))),((b4_0,(b4_1,(b4_2,(b4_3,())))),())))))),[(!leF (↑(List.length b2_1) : Int) x6,false)])) := by kernel_rfl

theorem ok7_0_t (x0 : (List Int)) (x6 : Int) (b0_0 : Int) (b0_1 : (List Int)) (b1_0 : Int) (b1_1 : Int) (b2_0 : Int) (b2_1 : (List Int)) (b3_0 : Int) (b3_1 : Int) (b3_2 : Int) (b4_0 : Int) (b4_1 : (List Int)) (b4_2 : Int) (b4_3 : (List Int)) : TrOk (BodyRuns Go.Proofs.Try.prog kf55.orc 7 0 sh7_0 shb7_0 shr7_0 ((x0,x6,()),(b0_0,b0_1,()),(b1_0,b1_1,()),(b2_0,b2_1,()),(b3_0,b3_1,b3_2,()),(b4_0,b4_1,b4_2,b4_3,()),())) (t7_0 x0 x6 b0_0 b0_1 b1_0 b1_1 b2_0 b2_1 b3_0 b3_1 b3_2 b4_0 b4_1 b4_2 b4_3) :=
  TrOk.ofTest (fun h0 => TrOk.ofTest (fun h1 => TrOk.ofTest (fun h2 => TrOk.ofTest (fun h3 => TrOk.ofTest (fun h4 => TrOk.ofTest (fun h5 => TrOk.ofTest (fun h6 => TrOk.ofTest (fun h7 => TrOk.ofFin (BodyRuns.of (e7_0_0 x0 x6 b0_0 b0_1 b1_0 b1_1 b2_0 b2_1 b3_0 b3_1 b3_2 b4_0 b4_1 b4_2 b4_3) (ac h7 (ac h6 (ac h5 (ac h4 (ac h3 (ac h2 (ac h1 (ac h0 All.nil)))))))))) (fun h7 => TrOk.ofStop)) (fun h6 => TrOk.ofStop)) (fun h5 => TrOk.ofStop)) (fun h4 => TrOk.ofStop)) (fun h3 => TrOk.ofStop)) (fun h2 => TrOk.ofStop)) (fun h1 => TrOk.ofStop)) (fun h0 => TrOk.ofFin (BodyRuns.of (e7_0_3 x0 x6 b0_0 b0_1 b1_0 b1_1 b2_0 b2_1 b3_0 b3_1 b3_2 b4_0 b4_1 b4_2 b4_3) (ac h0 All.nil)))

theorem ok7_0 : LoopOk Go.Proofs.Try.prog 7 0 lc7_0 := loopOk_ofB kf55_ok.base (T := fun (d : sh7_0.data) => t7_0 d.1.1 d.1.2.1 d.2.1.1 d.2.1.2.1 d.2.2.1.1 d.2.2.1.2.1 d.2.2.2.1.1 d.2.2.2.1.2.1 d.2.2.2.2.1.1 d.2.2.2.2.1.2.1 d.2.2.2.2.1.2.2.1 d.2.2.2.2.2.1.1 d.2.2.2.2.2.1.2.1 d.2.2.2.2.2.1.2.2.1 d.2.2.2.2.2.1.2.2.2.1) (by kernel_rfl) rfl (fun (d : sh7_0.data) => ok7_0_t d.1.1 d.1.2.1 d.2.1.1 d.2.1.2.1 d.2.2.1.1 d.2.2.1.2.1 d.2.2.2.1.1 d.2.2.2.1.2.1 d.2.2.2.2.1.1 d.2.2.2.2.1.2.1 d.2.2.2.2.1.2.2.1 d.2.2.2.2.2.1.1 d.2.2.2.2.2.1.2.1 d.2.2.2.2.2.1.2.2.1 d.2.2.2.2.2.1.2.2.2.1) (fun _ => rfl)
def kl7_0 : Known := kf55.loop 7 0 lc7_0
theorem kl7_0_ok : KnownOk Go.Proofs.Try.prog kl7_0 := kf55_ok.loop ok7_0

/-! loop 2 of ductility/ductilitylaw02.MotionAtRest -/

abbrev sh7_2 : Sh := { n := 229,slots := [1,3,13,22,23],pats := [.ty (.slice (.int .i64)),.ptr 0 2 0,.ptr 1 4 0,.ty (.int .i64),.ty (.int .i64)],boxes := [.row [.ty (.int .i64),.ty (.slice (.int .i64))],.row [.ty (.int .i64),.ty (.slice (.int .i64)),.ty (.int .i64),.ty (.slice (.int .i64))]] }
abbrev shb7_2 : Sh := { n := 229,slots := [1,13,22],pats := [.ty (.slice (.int .i64)),.ptr 1 4 0,.ty (.int .i64)],boxes := [.row [.ty (.int .i64),.ty (.slice (.int .i64))],.row [.ty (.int .i64),.ty (.slice (.int .i64)),.ty (.int .i64),.ty (.slice (.int .i64))]] }
abbrev shr7_2 : Sh := { n := 229,slots := [6],pats := [.ty .bool],boxes := [.row [.ty (.int .i64),.ty (.slice (.int .i64))],.row [.ty (.int .i64),.ty (.slice (.int .i64)),.ty (.int .i64),.ty (.slice (.int .i64))]] }

def t7_2 (x0 : (List Int)) (x3 : Int) (x4 : Int) (b0_0 : Int) (b0_1 : (List Int)) (b1_0 : Int) (b1_1 : (List Int)) (b1_2 : Int) (b1_3 : (List Int)) : Tr (Out sh7_2.data shb7_2.data shr7_2.data) :=
  Tr.test ((!leF (↑(List.length x0) : Int) x4 : Bool))
    (Tr.test (decide ((0 : Int) ≤ x4) && decide (x4 < (↑(List.length x0) : Int)))
      (Tr.test (Option.isSome (f54 ((List.getD x0 (Int.toNat x4) (0 : Int) : Int),())))
        (let r0 : Bool × PUnit := g54 ((List.getD x0 (Int.toNat x4) (0 : Int) : Int),());
        Tr.test ((!r0.1 : Bool))
          (Tr.fin (.ret (((true : Bool),()),((b0_0,(b0_1,())),((b1_0,(b1_1,(b1_2,(b1_3,())))),())))))
          (Tr.test ((decide ((0 : Int) ≤ x4) && decide (x4 < (↑(List.length b0_1) : Int)) : Bool))
            (Tr.fin (.again ((x0,((wrap64 (x3 + wrap64 (wrap64 (List.getD x0 (Int.toNat x4) (0 : Int) - List.getD b0_1 (Int.toNat x4) (0 : Int)) * wrap64 (List.getD x0 (Int.toNat x4) (0 : Int) - List.getD b0_1 (Int.toNat x4) (0 : Int)))) : Int),((wrap64 (x4 + (1 : Int)) : Int),()))),((b0_0,(b0_1,())),((b1_0,(b1_1,(b1_2,(b1_3,())))),())))))
            (Tr.stop /- none [op 8 of region 40 of F7] -/)))
        (Tr.stop))
      (Tr.stop /- none [op 2 of region 38 of F7] -/))
    (Tr.fin (.brk ((x0,(x3,())),((b0_0,(b0_1,())),((b1_0,(b1_1,(b1_2,(b1_3,())))),())))))

def s7_2 (d : sh7_2.data) : Option (Out sh7_2.data shb7_2.data shr7_2.data) := (t7_2 d.1.1 d.1.2.1 d.1.2.2.1 d.2.1.1 d.2.1.2.1 d.2.2.1.1 d.2.2.1.2.1 d.2.2.1.2.2.1 d.2.2.1.2.2.2.1).val
def l7_2 (d : sh7_2.data) : Option (shb7_2.data ⊕ shr7_2.data) := itr s7_2 rounds d
def b7_2 (d : sh7_2.data) : shb7_2.data := outB shb7_2.dflt (l7_2 d)
def r7_2 (d : sh7_2.data) : shr7_2.data := outR shr7_2.dflt (l7_2 d)
def lc7_2 : LoopC := lcOf sh7_2 shb7_2 shr7_2 l7_2 b7_2 r7_2

theorem e7_2_0 (x0 : (List Int)) (x3 : Int) (x4 : Int) (b0_0 : Int) (b0_1 : (List Int)) (b1_0 : Int) (b1_1 : (List Int)) (b1_2 : Int) (b1_3 : (List Int)) : runBody kl7_0.orc Go.Proofs.Try.prog 400 7 2 sh7_2 shb7_2 shr7_2 ((x0,x3,x4,()),(b0_0,b0_1,()),(b1_0,b1_1,b1_2,b1_3,()),()) [tt,tt,tt,tt] =
    (let r0 : Bool × PUnit := g54 ((List.getD x0 (Int.toNat x4) (0 : Int) : Int),()); some (.ret ((true,()),((b0_0,(b0_1,())),((b1_0,(b1_1,(b1_2,(b1_3,())))),()))),[(!r0.1,true),(Option.isSome (f54 ((List.getD x0 (Int.toNat x4) (0 : Int) : Int),())),true),(decide ((0 : Int) ≤ x4) && decide (x4 < (↑(List.length x0) : Int)),true),(!leF (↑(List.length x0) : Int) x4,true)])) := by kernel_rfl
theorem e7_2_1 (x0 : (List Int)) (x3 : Int) (x4 : Int) (b0_0 : Int) (b0_1 : (List Int)) (b1_0 : Int) (b1_1 : (List Int)) (b1_2 : Int) (b1_3 : (List Int)) : runBody kl7_0.orc Go.Proofs.Try.prog 400 7 2 sh7_2 shb7_2 shr7_2 ((x0,x3,x4,()),(b0_0,b0_1,()),(b1_0,b1_1,b1_2,b1_3,()),()) [tt,tt,tt,ff,tt,tt,tt,tt] =
    (let r0 : Bool × PUnit := g54 ((List.getD x0 (Int.toNat x4) (0 : Int) : Int),()); some (.again ((x0,((wrap64 (x3 + wrap64 (wrap64 (List.getD x0 (Int.toNat x4) (0 : Int) - List.getD b0_1 (Int.toNat x4) (0 : Int)) * wrap64 (List.getD x0 (Int.toNat x4) (0 : Int) - List.getD b0_1 (Int.toNat x4) (0 : Int)))) : Int),((wrap64 (x4 + (1 : Int)) : Int),()))),((b0_0,(b0_1,())),((b1_0,(b1_1,(b1_2,(b1_3,())))),()))),[(decide ((0 : Int) ≤ x4) && decide (x4 < (↑(List.length b0_1) : Int)),true),(decide ((0 : Int) ≤ x4) && decide (x4 < (↑(List.length x0) : Int)),true),(decide ((0 : Int) ≤ x4) && decide (x4 < (↑(List.length b0_1) : Int)),true),(decide ((0 : Int) ≤ x4) && decide (x4 < (↑(List.length x0) : Int)),true),(!r0.1,false),(Option.isSome (f54 ((List.getD x0 (Int.toNat x4) (0 : Int) : Int),())),true),(decide ((0 : Int) ≤ x4) && decide (x4 < (↑(List.length x0) : Int)),true),(!leF (↑(List.length x0) : Int) x4,true)])) := by kernel_rfl
theorem e7_2_4 (x0 : (List Int)) (x3 : Int) (x4 : Int) (b0_0 : Int) (b0_1 : (List Int)) (b1_0 : Int) (b1_1 : (List Int)) (b1_2 : Int) (b1_3 : (List Int)) : runBody kl7_0.orc Go.Proofs.Try.prog 400 7 2 sh7_2 shb7_2 shr7_2 ((x0,x3,x4,()),(b0_0,b0_1,()),(b1_0,b1_1,b1_2,b1_3,()),()) [ff] =
    (some (.brk ((x0,(x3,())),((b0_0,(b0_1,())),((b1_0,(b1_1,(b1_2,(b1_3,())))),()))),[(!leF (↑(List.length x0) : Int) x4,false)])) := by kernel_rfl

theorem ok7_2_t (x0 : (List Int)) (x3 : Int) (x4 : Int) (b0_0 : Int) (b0_1 : (List Int)) (b1_0 : Int) (b1_1 : (List Int)) (b1_2 : Int) (b1_3 : (List Int)) : TrOk (BodyRuns Go.Proofs.Try.prog kl7_0.orc 7 2 sh7_2 shb7_2 shr7_2 ((x0,x3,x4,()),(b0_0,b0_1,()),(b1_0,b1_1,b1_2,b1_3,()),())) (t7_2 x0 x3 x4 b0_0 b0_1 b1_0 b1_1 b1_2 b1_3) :=
  TrOk.ofTest (fun h0 => TrOk.ofTest (fun h1 => TrOk.ofTest (fun h2 => TrOk.ofTest (fun h3 => TrOk.ofFin (BodyRuns.of (e7_2_0 x0 x3 x4 b0_0 b0_1 b1_0 b1_1 b1_2 b1_3) (ac h3 (ac h2 (ac h1 (ac h0 All.nil)))))) (fun h3 => TrOk.ofTest (fun h5 => TrOk.ofFin (BodyRuns.of (e7_2_1 x0 x3 x4 b0_0 b0_1 b1_0 b1_1 b1_2 b1_3) (ac h5 (ac h1 (ac h5 (ac h1 (ac h3 (ac h2 (ac h1 (ac h0 All.nil)))))))))) (fun h5 => TrOk.ofStop))) (fun h2 => TrOk.ofStop)) (fun h1 => TrOk.ofStop)) (fun h0 => TrOk.ofFin (BodyRuns.of (e7_2_4 x0 x3 x4 b0_0 b0_1 b1_0 b1_1 b1_2 b1_3) (ac h0 All.nil)))

theorem ok7_2 : LoopOk Go.Proofs.Try.prog 7 2 lc7_2 := loopOk_of kl7_0_ok.base (T := fun (d : sh7_2.data) => t7_2 d.1.1 d.1.2.1 d.1.2.2.1 d.2.1.1 d.2.1.2.1 d.2.2.1.1 d.2.2.1.2.1 d.2.2.1.2.2.1 d.2.2.1.2.2.2.1) (by kernel_rfl) rfl (fun (d : sh7_2.data) => ok7_2_t d.1.1 d.1.2.1 d.1.2.2.1 d.2.1.1 d.2.1.2.1 d.2.2.1.1 d.2.2.1.2.1 d.2.2.1.2.2.1 d.2.2.1.2.2.2.1) (fun _ => rfl)
def kl7_2 : Known := kl7_0.loop 7 2 lc7_2
theorem kl7_2_ok : KnownOk Go.Proofs.Try.prog kl7_2 := kl7_0_ok.loop ok7_2

/-! ductility/ductilitylaw02.MotionAtRest -/

abbrev as7 : List Ty := [(.pair (.int .i64) (.pair (.slice (.int .i64)) .unit)),(.slice (.int .i64)),(.pair (.int .i64) (.pair (.int .i64) .unit))]
abbrev rs7 : List Ty := [.bool]

def t7 (x0 : Int) (x0' : (List Int)) (x1 : (List Int)) (x2 : Int) (x2' : Int) : Tr (Tys.data rs7) :=
  Tr.test (Option.isSome (f29 ((x0,(x0',())),())))
    (let r0 : Int × PUnit := g29 ((x0,(x0',())),());
    Tr.test ((!eqF r0.1 0 : Bool))
      (Tr.fin (((true : Bool),())))
      (Tr.test (Option.isSome (f47 (x2',((-1000 : Int),((1000 : Int),())))))
        (let r1 : Bool × PUnit := g47 (x2',((-1000 : Int),((1000 : Int),())));
        Tr.test ((!r1.1 : Bool))
          (Tr.fin (((true : Bool),())))
          (Tr.test (Option.isSome (f18 ((x0,(x0',())),())))
            (let r2 : (Int × List Int × PUnit) × PUnit := g18 ((x0,(x0',())),());
            Tr.test (Option.isSome (f40 ((r2.1.1,(r2.1.2.1,())),())))
              (Tr.test (Option.isSome (f41 ((r2.1.1,(r2.1.2.1,())),())))
                (let r3 : (Int × List Int × PUnit) × Int × PUnit := g40 ((r2.1.1,(r2.1.2.1,())),());
                Tr.test ((!eqF r3.2.1 0 : Bool))
                  (Tr.fin (((false : Bool),())))
                  (let r4 : (Int × Int × Int × PUnit) × Int × PUnit := g41 ((r2.1.1,(r2.1.2.1,())),());
                  Tr.test ((!eqF r4.2.1 0 : Bool))
                    (Tr.fin (((false : Bool),())))
                    (Tr.test ((!leF (1 : Int) r3.1.1 : Bool))
                      (Tr.fin (((false : Bool),())))
                      (Tr.test ((!leF r3.1.1 1000000000 : Bool))
                        (Tr.fin (((false : Bool),())))
                        (Tr.test ((!eqF (↑(List.length r3.1.2.1) : Int) (↑(List.length x0') : Int) : Bool))
                          (Tr.fin (((false : Bool),())))
                          (Tr.test ((Nat.beq (List.length r3.1.2.1) (0 : Nat) : Bool))
                            (Tr.stop)
                            (Tr.test ((Nat.ble ((0 : Nat) + List.length r3.1.2.1) (0 : Nat) : Bool))
                              (Tr.stop /- none [op 3 of region 9 of F7] -/)
                              (Tr.test ((Nat.ble (((2 : Nat) * ((0 : Nat) + List.length r3.1.2.1) + (192 : Nat)) * (8 : Nat)) (281474976710656 : Nat) && Nat.ble ((0 : Nat) + List.length r3.1.2.1) (281474976710656 : Nat) : Bool))
                                (Tr.test ((Nat.beq ((0 : Nat) + List.length r3.1.2.1) (List.length ([] ++ r3.1.2.1)) : Bool))
                                  (Tr.test (Option.isSome (f42 ((r2.1.1,(r2.1.2.1,())),((r3.1.1,(([] ++ r3.1.2.1 : List Int),())),((r4.1.1,(r4.1.2.1,(r4.1.2.2.1,()))),())))))
                                    (let r5 : Int × Int × PUnit := g42 ((r2.1.1,(r2.1.2.1,())),((r3.1.1,(([] ++ r3.1.2.1 : List Int),())),((r4.1.1,(r4.1.2.1,(r4.1.2.2.1,()))),())));
                                    Tr.test ((!eqF r5.2.1 0 : Bool))
                                      (Tr.fin (((false : Bool),())))
                                      (Tr.test ((!eqF r5.1 0 : Bool))
                                        (Tr.fin (((false : Bool),())))
                                        (Tr.test (Option.isSome (f48 ((0 : Int),())))
                                          (let r6 : ((Int × List Int × PUnit) × (Int × List Int × PUnit) × PUnit) × PUnit := g48 ((0 : Int),());
                                          Tr.test (isBrk (l7_0 ((x1,((0 : Int),())),((x0,(x0',())),((x2,(x2',())),((r3.1.1,(r3.1.2.1,())),((r4.1.1,(r4.1.2.1,(r4.1.2.2.1,()))),((r6.1.1.1,(r6.1.1.2.1,(r6.1.2.1.1,(r6.1.2.1.2.1,())))),()))))))))
                                            (let r7 : (List Int × PUnit) × (Int × List Int × PUnit) × (Int × Int × PUnit) × (Int × List Int × PUnit) × (Int × Int × Int × PUnit) × (Int × List Int × Int × List Int × PUnit) × PUnit := b7_0 ((x1,((0 : Int),())),((x0,(x0',())),((x2,(x2',())),((r3.1.1,(r3.1.2.1,())),((r4.1.1,(r4.1.2.1,(r4.1.2.2.1,()))),((r6.1.1.1,(r6.1.1.2.1,(r6.1.2.1.1,(r6.1.2.1.2.1,())))),()))))));
                                            Tr.test ((!eqF r7.2.2.1.2.1 0 : Bool))
                                              (Tr.test ((Nat.beq (List.length r7.2.2.2.1.2.1) (0 : Nat) : Bool))
                                                (Tr.stop)
                                                (Tr.test ((Nat.ble ((0 : Nat) + List.length r7.2.2.2.1.2.1) (0 : Nat) : Bool))
                                                  (Tr.stop /- none [op 1 of region 19 of F7] -/)
                                                  (Tr.test ((Nat.ble (((2 : Nat) * ((0 : Nat) + List.length r7.2.2.2.1.2.1) + (192 : Nat)) * (8 : Nat)) (281474976710656 : Nat) && Nat.ble ((0 : Nat) + List.length r7.2.2.2.1.2.1) (281474976710656 : Nat) : Bool))
                                                    (Tr.test (Option.isSome (f53 (r7.2.2.1.1,((↑((0 : Nat) + List.length r7.2.2.2.1.2.1) : Int),()))))
                                                      (let r8 : Int × PUnit := g53 (r7.2.2.1.1,((↑((0 : Nat) + List.length r7.2.2.2.1.2.1) : Int),()));
                                                      Tr.test ((decide ((0 : Int) ≤ r8.1) && decide (r8.1 < (↑((0 : Nat) + List.length r7.2.2.2.1.2.1) : Int)) : Bool))
                                                        (Tr.test ((Nat.ble ((0 : Nat) + Int.toNat r8.1 + (1 : Nat)) (List.length ([] ++ r7.2.2.2.1.2.1)) : Bool))
                                                          (Tr.test (Option.isSome (f47 ((List.getD ([] ++ r7.2.2.2.1.2.1) ((0 : Nat) + Int.toNat r8.1) (0 : Int) : Int),((-1000000000000 : Int),((1000000000000 : Int),())))))
                                                            (let r9 : Bool × PUnit := g47 ((List.getD ([] ++ r7.2.2.2.1.2.1) ((0 : Nat) + Int.toNat r8.1) (0 : Int) : Int),((-1000000000000 : Int),((1000000000000 : Int),())));
                                                            Tr.test ((!r9.1 : Bool))
                                                              (Tr.fin (((false : Bool),())))
                                                              (Tr.test (Option.isSome (f18 ((r7.2.1.1,(r7.2.1.2.1,())),())))
                                                                (Tr.test ((Nat.beq ((0 : Nat) + List.length r7.2.2.2.1.2.1) (List.length (List.set ([] ++ r7.2.2.2.1.2.1) ((0 : Nat) + Int.toNat r8.1) (wrap64 (List.getD ([] ++ r7.2.2.2.1.2.1) ((0 : Nat) + Int.toNat r8.1) (0 : Int) + r7.2.2.1.2.1)))) : Bool))
                                                                  (let r10 : (Int × List Int × PUnit) × PUnit := g18 ((r7.2.1.1,(r7.2.1.2.1,())),());
                                                                  Tr.test (Option.isSome (f42 ((r10.1.1,(r10.1.2.1,())),((r7.2.2.2.1.1,((List.set ([] ++ r7.2.2.2.1.2.1) ((0 : Nat) + Int.toNat r8.1) (wrap64 (List.getD ([] ++ r7.2.2.2.1.2.1) ((0 : Nat) + Int.toNat r8.1) (0 : Int) + r7.2.2.1.2.1)) : List Int),())),((r7.2.2.2.2.1.1,(r7.2.2.2.2.1.2.1,(r7.2.2.2.2.1.2.2.1,()))),())))))
                                                                    (let r11 : Int × Int × PUnit := g42 ((r10.1.1,(r10.1.2.1,())),((r7.2.2.2.1.1,((List.set ([] ++ r7.2.2.2.1.2.1) ((0 : Nat) + Int.toNat r8.1) (wrap64 (List.getD ([] ++ r7.2.2.2.1.2.1) ((0 : Nat) + Int.toNat r8.1) (0 : Int) + r7.2.2.1.2.1)) : List Int),())),((r7.2.2.2.2.1.1,(r7.2.2.2.2.1.2.1,(r7.2.2.2.2.1.2.2.1,()))),())));
                                                                    Tr.test ((eqF r11.2.1 0 : Bool))
                                                                      (Tr.fin (((false : Bool),())))
                                                                      (Tr.test (Option.isSome (f21 ((r10.1.1,(r10.1.2.1,())),())))
                                                                        (let r12 : (Int × Int × PUnit) × Int × PUnit := g21 ((r10.1.1,(r10.1.2.1,())),());
                                                                        Tr.test ((!eqF r12.2.1 0 : Bool))
                                                                          (Tr.fin (((false : Bool),())))
                                                                          (Tr.test ((r12.1.1 == (0 : Int) && (r12.1.2.1 == (0 : Int) && true) : Bool))
                                                                            (Tr.test (Option.isSome (f44 ((r7.2.2.2.1.1,(r7.2.2.2.1.2.1,())),(((1 : Int),(r7.2.1.2.1,())),()))))
                                                                              (let r13 : Bool × PUnit := g44 ((r7.2.2.2.1.1,(r7.2.2.2.1.2.1,())),(((1 : Int),(r7.2.1.2.1,())),()));
                                                                              Tr.test ((!r13.1 : Bool))
                                                                                (Tr.fin (((false : Bool),())))
                                                                                (Tr.test ((!(r7.2.2.2.2.1.1 == (1 : Int) && (r7.2.2.2.2.1.2.1 == (0 : Int) && (r7.2.2.2.2.1.2.2.1 == (0 : Int) && true))) : Bool))
                                                                                  (Tr.fin (((false : Bool),())))
                                                                                  (Tr.test ((!eqF (↑(List.length r7.1.1) : Int) (↑(List.length r7.2.1.2.1) : Int) : Bool))
                                                                                    (Tr.fin (((true : Bool),())))
                                                                                    (Tr.test (Option.isSome (l7_2 ((r7.1.1,((0 : Int),((0 : Int),()))),((r7.2.1.1,(r7.2.1.2.1,())),((r7.2.2.2.2.2.1.1,(r7.2.2.2.2.2.1.2.1,(r7.2.2.2.2.2.1.2.2.1,(r7.2.2.2.2.2.1.2.2.2.1,())))),())))))
                                                                                      (Tr.test (isRet (l7_2 ((r7.1.1,((0 : Int),((0 : Int),()))),((r7.2.1.1,(r7.2.1.2.1,())),((r7.2.2.2.2.2.1.1,(r7.2.2.2.2.2.1.2.1,(r7.2.2.2.2.2.1.2.2.1,(r7.2.2.2.2.2.1.2.2.2.1,())))),())))))
                                                                                        (let r14 : (Bool × PUnit) × (Int × List Int × PUnit) × (Int × List Int × Int × List Int × PUnit) × PUnit := r7_2 ((r7.1.1,((0 : Int),((0 : Int),()))),((r7.2.1.1,(r7.2.1.2.1,())),((r7.2.2.2.2.2.1.1,(r7.2.2.2.2.2.1.2.1,(r7.2.2.2.2.2.1.2.2.1,(r7.2.2.2.2.2.1.2.2.2.1,())))),())));
                                                                                        Tr.fin ((r14.1.1,())))
                                                                                        (let r15 : (List Int × Int × PUnit) × (Int × List Int × PUnit) × (Int × List Int × Int × List Int × PUnit) × PUnit := b7_2 ((r7.1.1,((0 : Int),((0 : Int),()))),((r7.2.1.1,(r7.2.1.2.1,())),((r7.2.2.2.2.2.1.1,(r7.2.2.2.2.2.1.2.1,(r7.2.2.2.2.2.1.2.2.1,(r7.2.2.2.2.2.1.2.2.2.1,())))),())));
                                                                                        Tr.test (Option.isSome (f26 (r15.1.1,())))
                                                                                          (let r16 : (Int × Int × PUnit) × PUnit := g26 (r15.1.1,());
                                                                                          Tr.test ((!(r16.1.1 == (0 : Int) && (r16.1.2.1 == (0 : Int) && true)) : Bool))
                                                                                            (Tr.fin (((true : Bool),())))
                                                                                            (Tr.test (Option.isSome (f48 (r15.1.2.1,())))
                                                                                              (let r17 : ((Int × List Int × PUnit) × (Int × List Int × PUnit) × PUnit) × PUnit := g48 (r15.1.2.1,());
                                                                                              Tr.test (Option.isSome (f55 (((r15.2.2.1.1,(r15.2.2.1.2.1,())),((r15.2.2.1.2.2.1,(r15.2.2.1.2.2.2.1,())),())),(((r17.1.1.1,(r17.1.1.2.1,())),((r17.1.2.1.1,(r17.1.2.1.2.1,())),())),()))))
                                                                                                (let r18 : Int × PUnit := g55 (((r15.2.2.1.1,(r15.2.2.1.2.1,())),((r15.2.2.1.2.2.1,(r15.2.2.1.2.2.2.1,())),())),(((r17.1.1.1,(r17.1.1.2.1,())),((r17.1.2.1.1,(r17.1.2.1.2.1,())),())),()));
                                                                                                Tr.fin (((leF r18.1 0 : Bool),())))
                                                                                                (Tr.stop))
                                                                                              (Tr.stop)))
                                                                                          (Tr.stop)))
                                                                                      (Tr.stop)))))
                                                                              (Tr.stop))
                                                                            (Tr.test ((!eqF (↑(List.length r7.1.1) : Int) (↑(List.length r7.2.1.2.1) : Int) : Bool))
                                                                              (Tr.fin (((true : Bool),())))
                                                                              (Tr.test (Option.isSome (l7_2 ((r7.1.1,((0 : Int),((0 : Int),()))),((r7.2.1.1,(r7.2.1.2.1,())),((r7.2.2.2.2.2.1.1,(r7.2.2.2.2.2.1.2.1,(r7.2.2.2.2.2.1.2.2.1,(r7.2.2.2.2.2.1.2.2.2.1,())))),())))))
                                                                                (Tr.test (isRet (l7_2 ((r7.1.1,((0 : Int),((0 : Int),()))),((r7.2.1.1,(r7.2.1.2.1,())),((r7.2.2.2.2.2.1.1,(r7.2.2.2.2.2.1.2.1,(r7.2.2.2.2.2.1.2.2.1,(r7.2.2.2.2.2.1.2.2.2.1,())))),())))))
                                                                                  (let r14 : (Bool × PUnit) × (Int × List Int × PUnit) × (Int × List Int × Int × List Int × PUnit) × PUnit := r7_2 ((r7.1.1,((0 : Int),((0 : Int),()))),((r7.2.1.1,(r7.2.1.2.1,())),((r7.2.2.2.2.2.1.1,(r7.2.2.2.2.2.1.2.1,(r7.2.2.2.2.2.1.2.2.1,(r7.2.2.2.2.2.1.2.2.2.1,())))),())));
                                                                                  Tr.fin ((r14.1.1,())))
                                                                                  (let r15 : (List Int × Int × PUnit) × (Int × List Int × PUnit) × (Int × List Int × Int × List Int × PUnit) × PUnit := b7_2 ((r7.1.1,((0 : Int),((0 : Int),()))),((r7.2.1.1,(r7.2.1.2.1,())),((r7.2.2.2.2.2.1.1,(r7.2.2.2.2.2.1.2.1,(r7.2.2.2.2.2.1.2.2.1,(r7.2.2.2.2.2.1.2.2.2.1,())))),())));
                                                                                  Tr.test (Option.isSome (f26 (r15.1.1,())))
                                                                                    (let r16 : (Int × Int × PUnit) × PUnit := g26 (r15.1.1,());
                                                                                    Tr.test ((!(r16.1.1 == (0 : Int) && (r16.1.2.1 == (0 : Int) && true)) : Bool))
                                                                                      (Tr.fin (((true : Bool),())))
                                                                                      (Tr.test (Option.isSome (f48 (r15.1.2.1,())))
                                                                                        (let r17 : ((Int × List Int × PUnit) × (Int × List Int × PUnit) × PUnit) × PUnit := g48 (r15.1.2.1,());
                                                                                        Tr.test (Option.isSome (f55 (((r15.2.2.1.1,(r15.2.2.1.2.1,())),((r15.2.2.1.2.2.1,(r15.2.2.1.2.2.2.1,())),())),(((r17.1.1.1,(r17.1.1.2.1,())),((r17.1.2.1.1,(r17.1.2.1.2.1,())),())),()))))
                                                                                          (let r18 : Int × PUnit := g55 (((r15.2.2.1.1,(r15.2.2.1.2.1,())),((r15.2.2.1.2.2.1,(r15.2.2.1.2.2.2.1,())),())),(((r17.1.1.1,(r17.1.1.2.1,())),((r17.1.2.1.1,(r17.1.2.1.2.1,())),())),()));
                                                                                          Tr.fin (((leF r18.1 0 : Bool),())))
                                                                                          (Tr.stop))
                                                                                        (Tr.stop)))
                                                                                    (Tr.stop)))
                                                                                (Tr.stop)))))
                                                                        (Tr.stop)))
                                                                    (Tr.stop))
                                                                  (Tr.stop))
                                                                (Tr.stop)))
                                                            (Tr.stop))
                                                          (Tr.stop /- none [op 4 of region 21 of F7] -/))
                                                        (Tr.stop /- none [op 3 of region 21 of F7] -/))
                                                      (Tr.stop))
                                                    (Tr.stop /- none [op 1 of region 19 of F7] -/))))
                                              (Tr.test (Option.isSome (f18 ((r7.2.1.1,(r7.2.1.2.1,())),())))
                                                (let r10 : (Int × List Int × PUnit) × PUnit := g18 ((r7.2.1.1,(r7.2.1.2.1,())),());
                                                Tr.test (Option.isSome (f21 ((r10.1.1,(r10.1.2.1,())),())))
                                                  (let r12 : (Int × Int × PUnit) × Int × PUnit := g21 ((r10.1.1,(r10.1.2.1,())),());
                                                  Tr.test ((!eqF r12.2.1 0 : Bool))
                                                    (Tr.fin (((false : Bool),())))
                                                    (Tr.test ((r12.1.1 == (0 : Int) && (r12.1.2.1 == (0 : Int) && true) : Bool))
                                                      (Tr.test (Option.isSome (f44 ((r7.2.2.2.1.1,(r7.2.2.2.1.2.1,())),(((1 : Int),(r7.2.1.2.1,())),()))))
                                                        (let r13 : Bool × PUnit := g44 ((r7.2.2.2.1.1,(r7.2.2.2.1.2.1,())),(((1 : Int),(r7.2.1.2.1,())),()));
                                                        Tr.test ((!r13.1 : Bool))
                                                          (Tr.fin (((false : Bool),())))
                                                          (Tr.test ((!(r7.2.2.2.2.1.1 == (1 : Int) && (r7.2.2.2.2.1.2.1 == (0 : Int) && (r7.2.2.2.2.1.2.2.1 == (0 : Int) && true))) : Bool))
                                                            (Tr.fin (((false : Bool),())))
                                                            (Tr.test ((!eqF (↑(List.length r7.1.1) : Int) (↑(List.length r7.2.1.2.1) : Int) : Bool))
                                                              (Tr.fin (((true : Bool),())))
                                                              (Tr.test (Option.isSome (l7_2 ((r7.1.1,((0 : Int),((0 : Int),()))),((r7.2.1.1,(r7.2.1.2.1,())),((r7.2.2.2.2.2.1.1,(r7.2.2.2.2.2.1.2.1,(r7.2.2.2.2.2.1.2.2.1,(r7.2.2.2.2.2.1.2.2.2.1,())))),())))))
                                                                (Tr.test (isRet (l7_2 ((r7.1.1,((0 : Int),((0 : Int),()))),((r7.2.1.1,(r7.2.1.2.1,())),((r7.2.2.2.2.2.1.1,(r7.2.2.2.2.2.1.2.1,(r7.2.2.2.2.2.1.2.2.1,(r7.2.2.2.2.2.1.2.2.2.1,())))),())))))
                                                                  (let r14 : (Bool × PUnit) × (Int × List Int × PUnit) × (Int × List Int × Int × List Int × PUnit) × PUnit := r7_2 ((r7.1.1,((0 : Int),((0 : Int),()))),((r7.2.1.1,(r7.2.1.2.1,())),((r7.2.2.2.2.2.1.1,(r7.2.2.2.2.2.1.2.1,(r7.2.2.2.2.2.1.2.2.1,(r7.2.2.2.2.2.1.2.2.2.1,())))),())));
                                                                  Tr.fin ((r14.1.1,())))
                                                                  (let r15 : (List Int × Int × PUnit) × (Int × List Int × PUnit) × (Int × List Int × Int × List Int × PUnit) × PUnit := b7_2 ((r7.1.1,((0 : Int),((0 : Int),()))),((r7.2.1.1,(r7.2.1.2.1,())),((r7.2.2.2.2.2.1.1,(r7.2.2.2.2.2.1.2.1,(r7.2.2.2.2.2.1.2.2.1,(r7.2.2.2.2.2.1.2.2.2.1,())))),())));
                                                                  Tr.test (Option.isSome (f26 (r15.1.1,())))
                                                                    (let r16 : (Int × Int × PUnit) × PUnit := g26 (r15.1.1,());
                                                                    Tr.test ((!(r16.1.1 == (0 : Int) && (r16.1.2.1 == (0 : Int) && true)) : Bool))
                                                                      (Tr.fin (((true : Bool),())))
                                                                      (Tr.test (Option.isSome (f48 (r15.1.2.1,())))
                                                                        (let r17 : ((Int × List Int × PUnit) × (Int × List Int × PUnit) × PUnit) × PUnit := g48 (r15.1.2.1,());
                                                                        Tr.test (Option.isSome (f55 (((r15.2.2.1.1,(r15.2.2.1.2.1,())),((r15.2.2.1.2.2.1,(r15.2.2.1.2.2.2.1,())),())),(((r17.1.1.1,(r17.1.1.2.1,())),((r17.1.2.1.1,(r17.1.2.1.2.1,())),())),()))))
                                                                          (let r18 : Int × PUnit := g55 (((r15.2.2.1.1,(r15.2.2.1.2.1,())),((r15.2.2.1.2.2.1,(r15.2.2.1.2.2.2.1,())),())),(((r17.1.1.1,(r17.1.1.2.1,())),((r17.1.2.1.1,(r17.1.2.1.2.1,())),())),()));
                                                                          Tr.fin (((leF r18.1 0 : Bool),())))
                                                                          (Tr.stop))
                                                                        (Tr.stop)))
                                                                    (Tr.stop)))
                                                                (Tr.stop)))))
                                                        (Tr.stop))
                                                      (Tr.test ((!eqF (↑(List.length r7.1.1) : Int) (↑(List.length r7.2.1.2.1) : Int) : Bool))
                                                        (Tr.fin (((true : Bool),())))
                                                        (Tr.test (Option.isSome (l7_2 ((r7.1.1,((0 : Int),((0 : Int),()))),((r7.2.1.1,(r7.2.1.2.1,())),((r7.2.2.2.2.2.1.1,(r7.2.2.2.2.2.1.2.1,(r7.2.2.2.2.2.1.2.2.1,(r7.2.2.2.2.2.1.2.2.2.1,())))),())))))
                                                          (Tr.test (isRet (l7_2 ((r7.1.1,((0 : Int),((0 : Int),()))),((r7.2.1.1,(r7.2.1.2.1,())),((r7.2.2.2.2.2.1.1,(r7.2.2.2.2.2.1.2.1,(r7.2.2.2.2.2.1.2.2.1,(r7.2.2.2.2.2.1.2.2.2.1,())))),())))))
                                                            (let r14 : (Bool × PUnit) × (Int × List Int × PUnit) × (Int × List Int × Int × List Int × PUnit) × PUnit := r7_2 ((r7.1.1,((0 : Int),((0 : Int),()))),((r7.2.1.1,(r7.2.1.2.1,())),((r7.2.2.2.2.2.1.1,(r7.2.2.2.2.2.1.2.1,(r7.2.2.2.2.2.1.2.2.1,(r7.2.2.2.2.2.1.2.2.2.1,())))),())));
                                                            Tr.fin ((r14.1.1,())))
                                                            (let r15 : (List Int × Int × PUnit) × (Int × List Int × PUnit) × (Int × List Int × Int × List Int × PUnit) × PUnit := b7_2 ((r7.1.1,((0 : Int),((0 : Int),()))),((r7.2.1.1,(r7.2.1.2.1,())),((r7.2.2.2.2.2.1.1,(r7.2.2.2.2.2.1.2.1,(r7.2.2.2.2.2.1.2.2.1,(r7.2.2.2.2.2.1.2.2.2.1,())))),())));
                                                            Tr.test (Option.isSome (f26 (r15.1.1,())))
                                                              (let r16 : (Int × Int × PUnit) × PUnit := g26 (r15.1.1,());
                                                              Tr.test ((!(r16.1.1 == (0 : Int) && (r16.1.2.1 == (0 : Int) && true)) : Bool))
                                                                (Tr.fin (((true : Bool),())))
                                                                (Tr.test (Option.isSome (f48 (r15.1.2.1,())))
                                                                  (let r17 : ((Int × List Int × PUnit) × (Int × List Int × PUnit) × PUnit) × PUnit := g48 (r15.1.2.1,());
                                                                  Tr.test (Option.isSome (f55 (((r15.2.2.1.1,(r15.2.2.1.2.1,())),((r15.2.2.1.2.2.1,(r15.2.2.1.2.2.2.1,())),())),(((r17.1.1.1,(r17.1.1.2.1,())),((r17.1.2.1.1,(r17.1.2.1.2.1,())),())),()))))
                                                                    (let r18 : Int × PUnit := g55 (((r15.2.2.1.1,(r15.2.2.1.2.1,())),((r15.2.2.1.2.2.1,(r15.2.2.1.2.2.2.1,())),())),(((r17.1.1.1,(r17.1.1.2.1,())),((r17.1.2.1.1,(r17.1.2.1.2.1,())),())),()));
                                                                    Tr.fin (((leF r18.1 0 : Bool),())))
                                                                    (Tr.stop))
                                                                  (Tr.stop)))
                                                              (Tr.stop)))
                                                          (Tr.stop)))))
                                                  (Tr.stop))
                                                (Tr.stop)))
                                            (Tr.stop))
                                          (Tr.stop))))
                                    (Tr.stop))
                                  (Tr.stop))
                                (Tr.stop /- none [op 3 of region 9 of F7] -/)))))))))
                (Tr.stop))
              (Tr.stop))
            (Tr.stop)))
        (Tr.stop)))
    (Tr.stop)

def f7 (d : Tys.data as7) : Option (Tys.data rs7) := (t7 d.1.1 d.1.2.1 d.2.1 d.2.2.1.1 d.2.2.1.2.1).val
def g7 (d : Tys.data as7) : Tys.data rs7 := (f7 d).getD (Tys.dflt rs7)
def p7 : PureC := pcOf as7 rs7 f7 g7

theorem e7_0 (x0 : Int) (x0' : (List Int)) (x1 : (List Int)) (x2 : Int) (x2' : Int) : runPure kl7_2.orc Go.Proofs.Try.prog 400 7 as7 rs7 ((x0,x0',()),x1,(x2,x2',()),()) [tt,ff,tt,tt,tt,tt,tt,tt,tt] =
    (let r0 : Int × PUnit := g29 ((x0,(x0',())),()); some ((true,()),[(true,true),(!eqF r0.1 0,true),(!eqF r0.1 0,true),(!eqF r0.1 0,true),(!eqF r0.1 0,true),(!eqF r0.1 0,true),(Option.isSome (f29 ((x0,(x0',())),())),true),(false,false),(true,true)])) := by kernel_rfl
theorem e7_1 (x0 : Int) (x0' : (List Int)) (x1 : (List Int)) (x2 : Int) (x2' : Int) : runPure kl7_2.orc Go.Proofs.Try.prog 400 7 as7 rs7 ((x0,x0',()),x1,(x2,x2',()),()) [tt,ff,tt,ff,tt,ff,ff,tt,ff,ff,tt] =
    (let r0 : Int × PUnit := g29 ((x0,(x0',())),()); let r1 : Bool × PUnit := g47 (x2',((-1000 : Int),((1000 : Int),()))); some ((true,()),[(!r1.1,true),(!eqF r0.1 0,false),(!eqF r0.1 0,false),(Option.isSome (f47 (x2',((-1000 : Int),((1000 : Int),())))),true),(!eqF r0.1 0,false),(!eqF r0.1 0,false),(true,true),(!eqF r0.1 0,false),(Option.isSome (f29 ((x0,(x0',())),())),true),(false,false),(true,true)])) := by kernel_rfl
theorem e7_2 (x0 : Int) (x0' : (List Int)) (x1 : (List Int)) (x2 : Int) (x2' : Int) : runPure kl7_2.orc Go.Proofs.Try.prog 400 7 as7 rs7 ((x0,x0',()),x1,(x2,x2',()),()) [tt,ff,tt,ff,tt,ff,ff,tt,ff,ff,ff,tt,tt,tt,tt,tt,tt,tt,tt,tt,tt,tt,tt,tt,tt,tt,tt,tt,tt,tt,tt,tt,tt,tt,tt] =
    (let r0 : Int × PUnit := g29 ((x0,(x0',())),()); let r1 : Bool × PUnit := g47 (x2',((-1000 : Int),((1000 : Int),()))); let r2 : (Int × List Int × PUnit) × PUnit := g18 ((x0,(x0',())),()); let r3 : (Int × List Int × PUnit) × Int × PUnit := g40 ((r2.1.1,(r2.1.2.1,())),()); some ((false,()),[(true,true),(true,true),(true,true),(true,true),(true,true),(true,true),(true,true),(true,true),(true,true),(true,true),(true,true),(true,true),(true,true),(true,true),(true,true),(true,true),(true,true),(!eqF r3.2.1 0,true),(!eqF r3.2.1 0,true),(!eqF r3.2.1 0,true),(Option.isSome (f41 ((r2.1.1,(r2.1.2.1,())),())),true),(Option.isSome (f18 ((x0,(x0',())),())),true),(Option.isSome (f40 ((r2.1.1,(r2.1.2.1,())),())),true),(Option.isSome (f18 ((x0,(x0',())),())),true),(!r1.1,false),(!eqF r0.1 0,false),(!eqF r0.1 0,false),(Option.isSome (f47 (x2',((-1000 : Int),((1000 : Int),())))),true),(!eqF r0.1 0,false),(!eqF r0.1 0,false),(true,true),(!eqF r0.1 0,false),(Option.isSome (f29 ((x0,(x0',())),())),true),(false,false),(true,true)])) := by kernel_rfl
theorem e7_3 (x0 : Int) (x0' : (List Int)) (x1 : (List Int)) (x2 : Int) (x2' : Int) : runPure kl7_2.orc Go.Proofs.Try.prog 400 7 as7 rs7 ((x0,x0',()),x1,(x2,x2',()),()) [tt,ff,tt,ff,tt,ff,ff,tt,ff,ff,ff,tt,tt,tt,tt,ff,ff,ff,tt,tt,tt,tt,tt,tt,tt,tt,tt,tt,tt,tt,tt,tt,tt,tt,tt] =
    (let r0 : Int × PUnit := g29 ((x0,(x0',())),()); let r1 : Bool × PUnit := g47 (x2',((-1000 : Int),((1000 : Int),()))); let r2 : (Int × List Int × PUnit) × PUnit := g18 ((x0,(x0',())),()); let r3 : (Int × List Int × PUnit) × Int × PUnit := g40 ((r2.1.1,(r2.1.2.1,())),()); let r4 : (Int × Int × Int × PUnit) × Int × PUnit := g41 ((r2.1.1,(r2.1.2.1,())),()); some ((false,()),[(true,true),(true,true),(true,true),(true,true),(true,true),(true,true),(true,true),(true,true),(true,true),(true,true),(true,true),(true,true),(true,true),(!eqF r4.2.1 0,true),(!eqF r4.2.1 0,true),(!eqF r4.2.1 0,true),(!eqF r4.2.1 0,true),(!eqF r3.2.1 0,false),(!eqF r3.2.1 0,false),(!eqF r3.2.1 0,false),(Option.isSome (f41 ((r2.1.1,(r2.1.2.1,())),())),true),(Option.isSome (f18 ((x0,(x0',())),())),true),(Option.isSome (f40 ((r2.1.1,(r2.1.2.1,())),())),true),(Option.isSome (f18 ((x0,(x0',())),())),true),(!r1.1,false),(!eqF r0.1 0,false),(!eqF r0.1 0,false),(Option.isSome (f47 (x2',((-1000 : Int),((1000 : Int),())))),true),(!eqF r0.1 0,false),(!eqF r0.1 0,false),(true,true),(!eqF r0.1 0,false),(Option.isSome (f29 ((x0,(x0',())),())),true),(false,false),(true,true)])) := by kernel_rfl
theorem e7_4 (x0 : Int) (x0' : (List Int)) (x1 : (List Int)) (x2 : Int) (x2' : Int) : runPure kl7_2.orc Go.Proofs.Try.prog 400 7 as7 rs7 ((x0,x0',()),x1,(x2,x2',()),()) [tt,ff,tt,ff,tt,ff,ff,tt,ff,ff,ff,tt,tt,tt,tt,ff,ff,ff,ff,ff,ff,ff,tt,tt,tt,tt,tt,tt,tt,tt,tt,tt,tt,tt,tt] =
    (let r0 : Int × PUnit := g29 ((x0,(x0',())),()); let r1 : Bool × PUnit := g47 (x2',((-1000 : Int),((1000 : Int),()))); let r2 : (Int × List Int × PUnit) × PUnit := g18 ((x0,(x0',())),()); let r3 : (Int × List Int × PUnit) × Int × PUnit := g40 ((r2.1.1,(r2.1.2.1,())),()); let r4 : (Int × Int × Int × PUnit) × Int × PUnit := g41 ((r2.1.1,(r2.1.2.1,())),()); some ((false,()),[(true,true),(true,true),(true,true),(true,true),(true,true),(true,true),(true,true),(true,true),(true,true),(!leF (1 : Int) r3.1.1,true),(!leF (1 : Int) r3.1.1,true),(!leF (1 : Int) r3.1.1,true),(!leF (1 : Int) r3.1.1,true),(!eqF r4.2.1 0,false),(!eqF r4.2.1 0,false),(!eqF r4.2.1 0,false),(!eqF r4.2.1 0,false),(!eqF r3.2.1 0,false),(!eqF r3.2.1 0,false),(!eqF r3.2.1 0,false),(Option.isSome (f41 ((r2.1.1,(r2.1.2.1,())),())),true),(Option.isSome (f18 ((x0,(x0',())),())),true),(Option.isSome (f40 ((r2.1.1,(r2.1.2.1,())),())),true),(Option.isSome (f18 ((x0,(x0',())),())),true),(!r1.1,false),(!eqF r0.1 0,false),(!eqF r0.1 0,false),(Option.isSome (f47 (x2',((-1000 : Int),((1000 : Int),())))),true),(!eqF r0.1 0,false),(!eqF r0.1 0,false),(true,true),(!eqF r0.1 0,false),(Option.isSome (f29 ((x0,(x0',())),())),true),(false,false),(true,true)])) := by kernel_rfl
theorem e7_5 (x0 : Int) (x0' : (List Int)) (x1 : (List Int)) (x2 : Int) (x2' : Int) : runPure kl7_2.orc Go.Proofs.Try.prog 400 7 as7 rs7 ((x0,x0',()),x1,(x2,x2',()),()) [tt,ff,tt,ff,tt,ff,ff,tt,ff,ff,ff,tt,tt,tt,tt,ff,ff,ff,ff,ff,ff,ff,ff,ff,ff,ff,tt,tt,tt,tt,tt,tt,tt,tt,tt] =
    (let r0 : Int × PUnit := g29 ((x0,(x0',())),()); let r1 : Bool × PUnit := g47 (x2',((-1000 : Int),((1000 : Int),()))); let r2 : (Int × List Int × PUnit) × PUnit := g18 ((x0,(x0',())),()); let r3 : (Int × List Int × PUnit) × Int × PUnit := g40 ((r2.1.1,(r2.1.2.1,())),()); let r4 : (Int × Int × Int × PUnit) × Int × PUnit := g41 ((r2.1.1,(r2.1.2.1,())),()); some ((false,()),[(true,true),(!leF r3.1.1 1000000000,true),(!leF r3.1.1 1000000000,true),(!leF r3.1.1 1000000000,true),(!leF r3.1.1 1000000000,true),(!leF r3.1.1 1000000000,true),(!leF r3.1.1 1000000000,true),(!leF r3.1.1 1000000000,true),(!leF r3.1.1 1000000000,true),(!leF (1 : Int) r3.1.1,false),(!leF (1 : Int) r3.1.1,false),(!leF (1 : Int) r3.1.1,false),(!leF (1 : Int) r3.1.1,false),(!eqF r4.2.1 0,false),(!eqF r4.2.1 0,false),(!eqF r4.2.1 0,false),(!eqF r4.2.1 0,false),(!eqF r3.2.1 0,false),(!eqF r3.2.1 0,false),(!eqF r3.2.1 0,false),(Option.isSome (f41 ((r2.1.1,(r2.1.2.1,())),())),true),(Option.isSome (f18 ((x0,(x0',())),())),true),(Option.isSome (f40 ((r2.1.1,(r2.1.2.1,())),())),true),(Option.isSome (f18 ((x0,(x0',())),())),true),(!r1.1,false),(!eqF r0.1 0,false),(!eqF r0.1 0,false),(Option.isSome (f47 (x2',((-1000 : Int),((1000 : Int),())))),true),(!eqF r0.1 0,false),(!eqF r0.1 0,false),(true,true),(!eqF r0.1 0,false),(Option.isSome (f29 ((x0,(x0',())),())),true),(false,false),(true,true)])) := by kernel_rfl
theorem e7_6 (x0 : Int) (x0' : (List Int)) (x1 : (List Int)) (x2 : Int) (x2' : Int) : runPure kl7_2.orc Go.Proofs.Try.prog 400 7 as7 rs7 ((x0,x0',()),x1,(x2,x2',()),()) [tt,ff,tt,ff,tt,ff,ff,tt,ff,ff,ff,tt,tt,tt,tt,ff,ff,ff,ff,ff,ff,ff,ff,ff,ff,ff,ff,ff,ff,ff,ff,ff,ff,ff,tt] =
    (let r0 : Int × PUnit := g29 ((x0,(x0',())),()); let r1 : Bool × PUnit := g47 (x2',((-1000 : Int),((1000 : Int),()))); let r2 : (Int × List Int × PUnit) × PUnit := g18 ((x0,(x0',())),()); let r3 : (Int × List Int × PUnit) × Int × PUnit := g40 ((r2.1.1,(r2.1.2.1,())),()); let r4 : (Int × Int × Int × PUnit) × Int × PUnit := g41 ((r2.1.1,(r2.1.2.1,())),()); some ((false,()),[(!eqF (↑(List.length r3.1.2.1) : Int) (↑(List.length x0') : Int),true),(!leF r3.1.1 1000000000,false),(!leF r3.1.1 1000000000,false),(!leF r3.1.1 1000000000,false),(!leF r3.1.1 1000000000,false),(!leF r3.1.1 1000000000,false),(!leF r3.1.1 1000000000,false),(!leF r3.1.1 1000000000,false),(!leF r3.1.1 1000000000,false),(!leF (1 : Int) r3.1.1,false),(!leF (1 : Int) r3.1.1,false),(!leF (1 : Int) r3.1.1,false),(!leF (1 : Int) r3.1.1,false),(!eqF r4.2.1 0,false),(!eqF r4.2.1 0,false),(!eqF r4.2.1 0,false),(!eqF r4.2.1 0,false),(!eqF r3.2.1 0,false),(!eqF r3.2.1 0,false),(!eqF r3.2.1 0,false),(Option.isSome (f41 ((r2.1.1,(r2.1.2.1,())),())),true),(Option.isSome (f18 ((x0,(x0',())),())),true),(Option.isSome (f40 ((r2.1.1,(r2.1.2.1,())),())),true),(Option.isSome (f18 ((x0,(x0',())),())),true),(!r1.1,false),(!eqF r0.1 0,false),(!eqF r0.1 0,false),(Option.isSome (f47 (x2',((-1000 : Int),((1000 : Int),())))),true),(!eqF r0.1 0,false),(!eqF r0.1 0,false),(true,true),(!eqF r0.1 0,false),(Option.isSome (f29 ((x0,(x0',())),())),true),(false,false),(true,true)])) := by kernel_rfl
theorem e7_8 (x0 : Int) (x0' : (List Int)) (x1 : (List Int)) (x2 : Int) (x2' : Int) : runPure kl7_2.orc Go.Proofs.Try.prog 400 7 as7 rs7 ((x0,x0',()),x1,(x2,x2',()),()) [tt,ff,tt,ff,tt,ff,ff,tt,ff,ff,ff,tt,tt,tt,tt,ff,ff,ff,ff,ff,ff,ff,ff,ff,ff,ff,ff,ff,ff,ff,ff,ff,ff,ff,ff,tt,ff,ff,tt,tt,tt,tt,tt,tt,tt] =
    (let r0 : Int × PUnit := g29 ((x0,(x0',())),()); let r1 : Bool × PUnit := g47 (x2',((-1000 : Int),((1000 : Int),()))); let r2 : (Int × List Int × PUnit) × PUnit := g18 ((x0,(x0',())),()); let r3 : (Int × List Int × PUnit) × Int × PUnit := g40 ((r2.1.1,(r2.1.2.1,())),()); let r4 : (Int × Int × Int × PUnit) × Int × PUnit := g41 ((r2.1.1,(r2.1.2.1,())),()); let r5 : Int × Int × PUnit := g42 ((r2.1.1,(r2.1.2.1,())),((r3.1.1,(([] ++ r3.1.2.1 : List Int),())),((r4.1.1,(r4.1.2.1,(r4.1.2.2.1,()))),()))); some ((false,()),[(true,true),(!eqF r5.2.1 0,true),(!eqF r5.2.1 0,true),(!eqF r5.2.1 0,true),(Option.isSome (f42 ((r2.1.1,(r2.1.2.1,())),((r3.1.1,(([] ++ r3.1.2.1 : List Int),())),((r4.1.1,(r4.1.2.1,(r4.1.2.2.1,()))),())))),true),(Nat.beq ((0 : Nat) + List.length r3.1.2.1) (List.length ([] ++ r3.1.2.1)),true),(Nat.ble (((2 : Nat) * ((0 : Nat) + List.length r3.1.2.1) + (192 : Nat)) * (8 : Nat)) (281474976710656 : Nat) && Nat.ble ((0 : Nat) + List.length r3.1.2.1) (281474976710656 : Nat),true),(Nat.ble ((0 : Nat) + List.length r3.1.2.1) (0 : Nat),false),(Nat.beq (List.length r3.1.2.1) (0 : Nat),false),(Option.isSome (f18 ((x0,(x0',())),())),true),(!eqF (↑(List.length r3.1.2.1) : Int) (↑(List.length x0') : Int),false),(!leF r3.1.1 1000000000,false),(!leF r3.1.1 1000000000,false),(!leF r3.1.1 1000000000,false),(!leF r3.1.1 1000000000,false),(!leF r3.1.1 1000000000,false),(!leF r3.1.1 1000000000,false),(!leF r3.1.1 1000000000,false),(!leF r3.1.1 1000000000,false),(!leF (1 : Int) r3.1.1,false),(!leF (1 : Int) r3.1.1,false),(!leF (1 : Int) r3.1.1,false),(!leF (1 : Int) r3.1.1,false),(!eqF r4.2.1 0,false),(!eqF r4.2.1 0,false),(!eqF r4.2.1 0,false),(!eqF r4.2.1 0,false),(!eqF r3.2.1 0,false),(!eqF r3.2.1 0,false),(!eqF r3.2.1 0,false),(Option.isSome (f41 ((r2.1.1,(r2.1.2.1,())),())),true),(Option.isSome (f18 ((x0,(x0',())),())),true),(Option.isSome (f40 ((r2.1.1,(r2.1.2.1,())),())),true),(Option.isSome (f18 ((x0,(x0',())),())),true),(!r1.1,false),(!eqF r0.1 0,false),(!eqF r0.1 0,false),(Option.isSome (f47 (x2',((-1000 : Int),((1000 : Int),())))),true),(!eqF r0.1 0,false),(!eqF r0.1 0,false),(true,true),(!eqF r0.1 0,false),(Option.isSome (f29 ((x0,(x0',())),())),true),(false,false),(true,true)])) := by kernel_rfl

end Go.Vm.Mo
