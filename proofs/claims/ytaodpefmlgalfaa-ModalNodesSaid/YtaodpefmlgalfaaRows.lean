/-
  No cell of these rows narrows 'for every input' (looked for: loops, veiled, ifaces, maps, wideKeys, modest, calm, conditions, laid).
  DERIVED. THE GIVEN ROWS OF THIS SEAT. 4 by the template 'for every input the law returns true; each argument reads behind the call as it read before'; 0 by the template 'total and deterministic' (their statements: YtaodpefmlgalfaaTotals.lean).
  GIVEN WITH THE SEED: the statements are not yours to turn. If you find one false, say at which input.
  Laid BY PROGRAM, IN A SANDBOX (cutbox-rows.mjs): the forced cells as the released guide's own fill.sh prints them over the translation 6e6cf1c1ff551b3a… (all of the seat's roots in one cut). By AI agents, Wed Nov 11 2026. No macro, syntax, notation, axiom, sorry.
-/
import Derived.Test.YtaodpefmlgalfaaChecked
import GoSem.Claim
import GoSem.ClaimJoined
import GoSem.ClaimMapViews
import Derived.JoinedTies
import Derived.KernelRfl
namespace Go.Proofs.Ytaodpefmlgalfaa
/- THE CELL 'sum', in the pinned program and in every row, IS THE sha256 OF THE DUMP (.gsa) THAT YtaodpefmlgalfaaProg.lean LOADS. Nothing in Lean hashes anything: it is a label: what it is worth is what the hold of that sum in a sandbox is worth. -/
noncomputable def Try.pinned : Pinned := { name := "ytaodpefmlgalfaa", sum := "6e6cf1c1ff551b3a3dd5572a5a1129d03493218489007b54baa1f4c88c5ba47c", checked := Try.checked }
namespace Rows
def none {H : Type} : Left H := { results := [], args := [] }

/-- 'ductilitylaw06.ModalFrames': WHATEVER THE INPUT: true; the input reads as it did. -/
def modalFramesSpec : ChangeSpec := { name := "modalFrames", fn := fun _ => fun
  | [d] => { results := [.lit (.bool true)], args := [d] }
  | _ => none }
def modalFramesRow : OpenClaim := { program := "ytaodpefmlgalfaa", sum := "6e6cf1c1ff551b3a3dd5572a5a1129d03493218489007b54baa1f4c88c5ba47c", func := "ductility/ductilitylaw06.ModalFrames", spec := "modalFrames", unfollowed := true, recurses := true, apart := false }
def ModalFramesSaid : Prop := modalFramesRow.holds Try.pinned (OpenSpec.ofChange modalFramesSpec)

/-- ITS FALSE NEIGHBOUR: 'it returns false'. Refute it at one input. -/
def modalFramesWrong : ChangeSpec := { name := "modalFrames", fn := fun _ => fun
  | [d] => { results := [.lit (.bool false)], args := [d] }
  | _ => none }
def ModalFramesWrongFalsely : Prop := modalFramesRow.holds Try.pinned (OpenSpec.ofChange modalFramesWrong)

/-- 'ductilitylaw06.ModalEnclosed': WHATEVER THE INPUT: true; the input reads as it did. -/
def modalEnclosedSpec : ChangeSpec := { name := "modalEnclosed", fn := fun _ => fun
  | [d1, d2] => { results := [.lit (.bool true)], args := [d1, d2] }
  | _ => none }
def modalEnclosedRow : OpenClaim := { program := "ytaodpefmlgalfaa", sum := "6e6cf1c1ff551b3a3dd5572a5a1129d03493218489007b54baa1f4c88c5ba47c", func := "ductility/ductilitylaw06.ModalEnclosed", spec := "modalEnclosed", unfollowed := true, recurses := true, apart := false }
def ModalEnclosedSaid : Prop := modalEnclosedRow.holds Try.pinned (OpenSpec.ofChange modalEnclosedSpec)

/-- ITS FALSE NEIGHBOUR: 'it returns false'. Refute it at one input. -/
def modalEnclosedWrong : ChangeSpec := { name := "modalEnclosed", fn := fun _ => fun
  | [d1, d2] => { results := [.lit (.bool false)], args := [d1, d2] }
  | _ => none }
def ModalEnclosedWrongFalsely : Prop := modalEnclosedRow.holds Try.pinned (OpenSpec.ofChange modalEnclosedWrong)

/-- 'ductilitylaw06.ModalNodes': WHATEVER THE INPUT: true; the input reads as it did. -/
def modalNodesSpec : ChangeSpec := { name := "modalNodes", fn := fun _ => fun
  | [d1, d2, d3] => { results := [.lit (.bool true)], args := [d1, d2, d3] }
  | _ => none }
def modalNodesRow : OpenClaim := { program := "ytaodpefmlgalfaa", sum := "6e6cf1c1ff551b3a3dd5572a5a1129d03493218489007b54baa1f4c88c5ba47c", func := "ductility/ductilitylaw06.ModalNodes", spec := "modalNodes", unfollowed := true, recurses := true, apart := false }
def ModalNodesSaid : Prop := modalNodesRow.holds Try.pinned (OpenSpec.ofChange modalNodesSpec)

/-- ITS FALSE NEIGHBOUR: 'it returns false'. Refute it at one input. -/
def modalNodesWrong : ChangeSpec := { name := "modalNodes", fn := fun _ => fun
  | [d1, d2, d3] => { results := [.lit (.bool false)], args := [d1, d2, d3] }
  | _ => none }
def ModalNodesWrongFalsely : Prop := modalNodesRow.holds Try.pinned (OpenSpec.ofChange modalNodesWrong)

/-- 'ductilitylaw06.ModalStiffer': WHATEVER THE INPUT: true; the input reads as it did. -/
def modalStifferSpec : ChangeSpec := { name := "modalStiffer", fn := fun _ => fun
  | [d1, d2, d3] => { results := [.lit (.bool true)], args := [d1, d2, d3] }
  | _ => none }
def modalStifferRow : OpenClaim := { program := "ytaodpefmlgalfaa", sum := "6e6cf1c1ff551b3a3dd5572a5a1129d03493218489007b54baa1f4c88c5ba47c", func := "ductility/ductilitylaw06.ModalStiffer", spec := "modalStiffer", unfollowed := true, recurses := true, apart := false }
def ModalStifferSaid : Prop := modalStifferRow.holds Try.pinned (OpenSpec.ofChange modalStifferSpec)

/-- ITS FALSE NEIGHBOUR: 'it returns false'. Refute it at one input. -/
def modalStifferWrong : ChangeSpec := { name := "modalStiffer", fn := fun _ => fun
  | [d1, d2, d3] => { results := [.lit (.bool false)], args := [d1, d2, d3] }
  | _ => none }
def ModalStifferWrongFalsely : Prop := modalStifferRow.holds Try.pinned (OpenSpec.ofChange modalStifferWrong)

/- THE SECOND FORM. 'bulk': how many values and letters a reading holds, each counted each time it is reached (what is shared counts as often as it is met; a slice's spare places count too). A statement '..UptoSaid' is the law's where the arguments, and the package variables that the reading takes, are together of bulk at most 1048576: NARROWER than '..Said'. Prove '..Said' where nothing that the law and all that it calls make is longer than what came in: it says more and counts as full. Else prove '..UptoSaid'. A law counts once. -/
mutual
def uptoBulk {H : Type} : DataW H → Nat
  | .lit (.string bytes) => bytes.length + 1
  | .lit _ => 1
  | .nil => 1
  | .ptr d => uptoBulk d + 1
  | .slice elems spare => uptoBulkAll elems + uptoBulkAll spare + 1
  | .agg parts => uptoBulkAll parts + 1
  | .iface _ d => uptoBulk d + 1
  | .map entries => uptoBulkEntries entries + 1
  | .held _ => 1
def uptoBulkAll {H : Type} : List (DataW H) → Nat
  | [] => 0
  | d :: r => uptoBulk d + uptoBulkAll r
def uptoBulkEntries {H : Type} : List (Lit × DataW H) → Nat
  | [] => 0
  | x :: r => uptoBulkEntry x + uptoBulkEntries r
def uptoBulkEntry {H : Type} : Lit × DataW H → Nat
  | (.string bytes, d) => bytes.length + uptoBulk d + 1
  | (_, d) => uptoBulk d + 1
 end
def uptoSmall : (H : Type) → List (DataW H) → Bool := fun _ ds => decide (uptoBulkAll ds ≤ 1048576)
def OpenSpec.upto (s : _root_.Go.ChangeSpec) : _root_.Go.OpenSpec := { _root_.Go.OpenSpec.ofChange s with cond := some uptoSmall }

/-- 'ductilitylaw06.ModalFrames', WHERE WHAT IT READS IS OF BULK AT MOST 1048576: true; the input reads as it did. -/
def modalFramesUptoRow : OpenClaim := { program := "ytaodpefmlgalfaa", sum := "6e6cf1c1ff551b3a3dd5572a5a1129d03493218489007b54baa1f4c88c5ba47c", func := "ductility/ductilitylaw06.ModalFrames", spec := "modalFrames", unfollowed := true, recurses := true, apart := false, narrowed := true }
def ModalFramesUptoSaid : Prop := modalFramesUptoRow.holds Try.pinned (OpenSpec.upto modalFramesSpec)

/-- 'ductilitylaw06.ModalEnclosed', WHERE WHAT IT READS IS OF BULK AT MOST 1048576: true; the input reads as it did. -/
def modalEnclosedUptoRow : OpenClaim := { program := "ytaodpefmlgalfaa", sum := "6e6cf1c1ff551b3a3dd5572a5a1129d03493218489007b54baa1f4c88c5ba47c", func := "ductility/ductilitylaw06.ModalEnclosed", spec := "modalEnclosed", unfollowed := true, recurses := true, apart := false, narrowed := true }
def ModalEnclosedUptoSaid : Prop := modalEnclosedUptoRow.holds Try.pinned (OpenSpec.upto modalEnclosedSpec)

/-- 'ductilitylaw06.ModalNodes', WHERE WHAT IT READS IS OF BULK AT MOST 1048576: true; the input reads as it did. -/
def modalNodesUptoRow : OpenClaim := { program := "ytaodpefmlgalfaa", sum := "6e6cf1c1ff551b3a3dd5572a5a1129d03493218489007b54baa1f4c88c5ba47c", func := "ductility/ductilitylaw06.ModalNodes", spec := "modalNodes", unfollowed := true, recurses := true, apart := false, narrowed := true }
def ModalNodesUptoSaid : Prop := modalNodesUptoRow.holds Try.pinned (OpenSpec.upto modalNodesSpec)

/-- 'ductilitylaw06.ModalStiffer', WHERE WHAT IT READS IS OF BULK AT MOST 1048576: true; the input reads as it did. -/
def modalStifferUptoRow : OpenClaim := { program := "ytaodpefmlgalfaa", sum := "6e6cf1c1ff551b3a3dd5572a5a1129d03493218489007b54baa1f4c88c5ba47c", func := "ductility/ductilitylaw06.ModalStiffer", spec := "modalStiffer", unfollowed := true, recurses := true, apart := false, narrowed := true }
def ModalStifferUptoSaid : Prop := modalStifferUptoRow.holds Try.pinned (OpenSpec.upto modalStifferSpec)

end Rows
end Go.Proofs.Ytaodpefmlgalfaa
