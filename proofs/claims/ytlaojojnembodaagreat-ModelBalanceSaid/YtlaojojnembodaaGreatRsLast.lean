/- ModelBalance: for all frames (at most 7 floors with at most 6 elements are looked at), motions (at most 20 accelerations) and a further acceleration: step by step of a run the kinetic energy is what springs and ground gave less what rounding took, these are those of the displacements and forces of the states, all states are valid, a longer motion has the same states before, and in a collapse the step is an error and its balance balances still. No condition: the law as it is given, for every input. -/
import Derived.Test.YtlaojojnembodaaGreatRsM
import Derived.Test.YtlaojojnembodaaGreatRows
import Derived.ProofKit
set_option linter.unusedVariables false
set_option linter.unusedSimpArgs false

namespace Go.Proofs.YtlaojojnembodaaGreat
open Go.ChangeShapes Go.WideShapes Go.ChangeAt Go.RowKit
set_option linter.unusedVariables false

theorem modelBalanceLaw : Vm.IsLaw Rows.modelBalanceSpec 3 := ⟨rfl, fun H ds h => by
  match ds, h with
  | [d0, d1, d2], _ => exact ⟨rfl, rfl, rfl⟩⟩

theorem modelBalanceOwn : ownKnob Tryz.prog.godebug = none := by kernel_rfl

set_option maxRecDepth 100000 in
theorem modelBalanceLifted (os : Os) (started : os.Started) (H : Type) (enc : TypeId × Value → H) :
    ReturnsInHanded {} Tryz.checked os 4 .any (Rows.modelBalanceSpec.pre6 enc Tryz.prog Tryz.f4 Rows.modelBalanceRow.domain false) (Rows.modelBalanceSpec.post enc Tryz.prog Tryz.f4 false true false false) := by
  refine returnsInHanded_of_change (C := Tryz.checked) modelBalanceOwn started (by kernel_rfl) Tryz.func4
    (ChangeSpec.witness6 (enc := enc) (C := Tryz.checked) false ⟨#[], #[.agg #[.slice none 0 0], .slice none 0 0, .int .i64 0], []⟩ 8 (by kernel_rfl) (by kernel_rfl) (by kernel_rfl) (by kernel_rfl)) ?_
  intro W base args ds gs before hval hW _ _
  exact Vm.law_contract (us := Vm.Mo.as4) modelBalanceLaw (by kernel_rfl) (by kernel_rfl) (by kernel_rfl) rfl (by kernel_rfl) (fun d hd => Vm.Mo.law4 d hd) hval hW

theorem modelBalanceHolds : Rows.ModelBalanceSaid :=
  OpenClaim.holds_of_wide 4 Tryz.f4 rfl rfl rfl rfl rfl rfl rfl ⟨rfl, rfl, rfl, rfl, rfl⟩ rfl rfl rfl rfl rfl (by kernel_rfl) Tryz.func4 (by kernel_rfl)
    (of_decide_eq_true (by kernel_rfl)) (by unfold Func.isWrapper; first | (rw [if_pos (by decide +kernel)]; kernel_rfl) | (rw [if_neg (by decide +kernel)]; exact ⟨rfl, rfl⟩))
    (fun os started H enc _ => modelBalanceLifted os started H enc)

#print axioms modelBalanceHolds
end Go.Proofs.YtlaojojnembodaaGreat
