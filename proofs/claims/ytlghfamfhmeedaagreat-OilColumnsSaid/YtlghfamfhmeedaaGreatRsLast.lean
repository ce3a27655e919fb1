/- OilColumns: for all columns, masses and bands: the square of a column with a mass, and whether it is clear of a band, are as specified, or the errors; a greater mass has a smaller square; clear means that no mass of the range has a square in the band's ends, not clear that both ends have. No condition: the law as it is given, for every input. -/
import Derived.Test.YtlghfamfhmeedaaGreatRsM
import Derived.Test.YtlghfamfhmeedaaGreatRows
import Derived.ProofKit
set_option linter.unusedVariables false
set_option linter.unusedSimpArgs false

namespace Go.Proofs.YtlghfamfhmeedaaGreat
open Go.ChangeShapes Go.WideShapes Go.ChangeAt Go.RowKit
set_option linter.unusedVariables false

theorem oilColumnsLaw : Vm.IsLaw Rows.oilColumnsSpec 3 := ⟨rfl, fun H ds h => by
  match ds, h with
  | [d0, d1, d2], _ => exact ⟨rfl, rfl, rfl⟩⟩

theorem oilColumnsOwn : ownKnob Tryz.prog.godebug = none := by kernel_rfl

set_option maxRecDepth 100000 in
theorem oilColumnsLifted (os : Os) (started : os.Started) (H : Type) (enc : TypeId × Value → H) :
    ReturnsInHanded {} Tryz.checked os 12 .any (Rows.oilColumnsSpec.pre6 enc Tryz.prog Tryz.f12 Rows.oilColumnsRow.domain false) (Rows.oilColumnsSpec.post enc Tryz.prog Tryz.f12 false true false false) := by
  refine returnsInHanded_of_change (C := Tryz.checked) oilColumnsOwn started (by kernel_rfl) Tryz.func12
    (ChangeSpec.witness6 (enc := enc) (C := Tryz.checked) false ⟨#[], #[.agg #[.int .i64 0, .int .i64 0, .int .i64 0], .agg #[.int .i64 0, .int .i64 0], .agg #[.int .i64 0, .int .i64 0]], []⟩ 8 (by kernel_rfl) (by kernel_rfl) (by kernel_rfl) (by kernel_rfl)) ?_
  intro W base args ds gs before hval hW _ _
  exact Vm.law_contract (us := Vm.Mo.as12) oilColumnsLaw (by kernel_rfl) (by kernel_rfl) (by kernel_rfl) rfl (by kernel_rfl) (fun d hd => Vm.Mo.law12 d hd) hval hW

theorem oilColumnsHolds : Rows.OilColumnsSaid :=
  OpenClaim.holds_of_wide 12 Tryz.f12 rfl rfl rfl rfl rfl rfl rfl ⟨rfl, rfl, rfl, rfl, rfl⟩ rfl rfl rfl rfl rfl (by kernel_rfl) Tryz.func12 (by kernel_rfl)
    (of_decide_eq_true (by kernel_rfl)) (by unfold Func.isWrapper; first | (rw [if_pos (by decide +kernel)]; kernel_rfl) | (rw [if_neg (by decide +kernel)]; exact ⟨rfl, rfl⟩))
    (fun os started H enc _ => oilColumnsLifted os started H enc)

#print axioms oilColumnsHolds
end Go.Proofs.YtlghfamfhmeedaaGreat
