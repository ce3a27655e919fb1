/- ModelWork: for all springs (at most 4 elements are looked at), lists of moves (at most 20 are looked at) and hundredths of a way: of each move the work is the change of the energy plus the loss, which is not below 0; what is left is a valid hold, and a broken element stays broken; a move by way of a position between leads to the same hold, with works and losses added; without loss the way back has the opposite work. No condition: the law as it is given, for every input. -/
import Derived.Test.YtlaojojnembodaaRsM
import Derived.Test.YtlaojojnembodaaRows
import Derived.ProofKit
set_option linter.unusedVariables false
set_option linter.unusedSimpArgs false

namespace Go.Proofs.Ytlaojojnembodaa
open Go.ChangeShapes Go.WideShapes Go.ChangeAt Go.RowKit
set_option linter.unusedVariables false

theorem modelWorkLaw : Vm.IsLaw Rows.modelWorkSpec 3 := ⟨rfl, fun H ds h => by
  match ds, h with
  | [d0, d1, d2], _ => exact ⟨rfl, rfl, rfl⟩⟩

theorem modelWorkOwn : ownKnob Try.prog.godebug = none := by kernel_rfl

set_option maxRecDepth 100000 in
theorem modelWorkLifted (os : Os) (started : os.Started) (H : Type) (enc : TypeId × Value → H) :
    ReturnsInHanded {} Try.checked os 6 .any (Rows.modelWorkSpec.pre6 enc Try.prog Try.f6 Rows.modelWorkRow.domain false) (Rows.modelWorkSpec.post enc Try.prog Try.f6 false true false false) := by
  refine returnsInHanded_of_change (C := Try.checked) modelWorkOwn started (by kernel_rfl) Try.func6
    (ChangeSpec.witness6 (enc := enc) (C := Try.checked) false ⟨#[], #[.slice none 0 0, .slice none 0 0, .int .i64 0], []⟩ 8 (by kernel_rfl) (by kernel_rfl) (by kernel_rfl) (by kernel_rfl)) ?_
  intro W base args ds gs before hval hW _ _
  exact Vm.law_contract (us := Vm.Mo.as6) modelWorkLaw (by kernel_rfl) (by kernel_rfl) (by kernel_rfl) rfl (by kernel_rfl) (fun d hd => Vm.Mo.law6 d hd) hval hW

theorem modelWorkHolds : Rows.ModelWorkSaid :=
  OpenClaim.holds_of_wide 6 Try.f6 rfl rfl rfl rfl rfl rfl rfl ⟨rfl, rfl, rfl, rfl, rfl⟩ rfl rfl rfl rfl rfl (by kernel_rfl) Try.func6 (by kernel_rfl)
    (of_decide_eq_true (by kernel_rfl)) (by unfold Func.isWrapper; first | (rw [if_pos (by decide +kernel)]; kernel_rfl) | (rw [if_neg (by decide +kernel)]; exact ⟨rfl, rfl⟩))
    (fun os started H enc _ => modelWorkLifted os started H enc)

#print axioms modelWorkHolds
end Go.Proofs.Ytlaojojnembodaa
