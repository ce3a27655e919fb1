/- HybridHalves: for all chains and pairs of numbers: a chain turned round has the same stiffness, no greater than any of its springs; its halves are its displacements, are accepted, and wrong ones are not; the upper half moves as a chain of its own on the node; forces twice as great move it twice as far, or the errors. No condition: the law as it is given, for every input. -/
import Derived.Test.YtlmcodagfhdncaaGreatRsN
import Derived.Test.YtlmcodagfhdncaaGreatRows
import Derived.ProofKit
set_option linter.unusedVariables false
set_option linter.unusedSimpArgs false

namespace Go.Proofs.YtlmcodagfhdncaaGreat
open Go.ChangeShapes Go.WideShapes Go.ChangeAt Go.RowKit
set_option linter.unusedVariables false

theorem hybridHalvesLaw : Vm.IsLaw Rows.hybridHalvesSpec 2 := ⟨rfl, fun H ds h => by
  match ds, h with
  | [d0, d1], _ => exact ⟨rfl, rfl, rfl⟩⟩

theorem hybridHalvesOwn : ownKnob Tryz.prog.godebug = none := by kernel_rfl

set_option maxRecDepth 100000 in
theorem hybridHalvesLifted (os : Os) (started : os.Started) (H : Type) (enc : TypeId × Value → H) :
    ReturnsInHanded {} Tryz.checked os 5 .any (Rows.hybridHalvesSpec.pre6 enc Tryz.prog Tryz.f5 Rows.hybridHalvesRow.domain false) (Rows.hybridHalvesSpec.post enc Tryz.prog Tryz.f5 false true false false) := by
  refine returnsInHanded_of_change (C := Tryz.checked) hybridHalvesOwn started (by kernel_rfl) Tryz.func5
    (ChangeSpec.witness6 (enc := enc) (C := Tryz.checked) false ⟨#[], #[.agg #[.slice none 0 0, .slice none 0 0], .agg #[.int .i64 0, .int .i64 0]], []⟩ 8 (by kernel_rfl) (by kernel_rfl) (by kernel_rfl) (by kernel_rfl)) ?_
  intro W base args ds gs before hval hW _ _
  exact Vm.law_contract (us := Vm.Mo.as5) hybridHalvesLaw (by kernel_rfl) (by kernel_rfl) (by kernel_rfl) rfl (by kernel_rfl) (fun d hd => Vm.Mo.law5 d hd) hval hW

theorem hybridHalvesHolds : Rows.HybridHalvesSaid :=
  OpenClaim.holds_of_wide 5 Tryz.f5 rfl rfl rfl rfl rfl rfl rfl ⟨rfl, rfl, rfl, rfl, rfl⟩ rfl rfl rfl rfl rfl (by kernel_rfl) Tryz.func5 (by kernel_rfl)
    (of_decide_eq_true (by kernel_rfl)) (by unfold Func.isWrapper; first | (rw [if_pos (by decide +kernel)]; kernel_rfl) | (rw [if_neg (by decide +kernel)]; exact ⟨rfl, rfl⟩))
    (fun os started H enc _ => hybridHalvesLifted os started H enc)

#print axioms hybridHalvesHolds
end Go.Proofs.YtlmcodagfhdncaaGreat
