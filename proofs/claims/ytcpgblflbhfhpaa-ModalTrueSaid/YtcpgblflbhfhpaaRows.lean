/-
  No cell of these rows narrows 'for every input' (looked for: loops, veiled, ifaces, maps, wideKeys, modest, calm, conditions, laid).
  DERIVED. THE GIVEN ROWS OF THIS SEAT. 4 by the template 'for every input the law returns true; each argument reads behind the call as it read before'; 0 by the template 'total and deterministic' (their statements: YtcpgblflbhfhpaaTotals.lean).
  GIVEN WITH THE SEED: the statements are not yours to turn. If you find one false, say at which input.
  Laid BY PROGRAM, IN A SANDBOX (cutbox-rows.mjs): the forced cells as the released guide's own fill.sh prints them over the translation 358fcdcd6486ac66… (all of the seat's roots in one cut). By AI agents, Wed Nov 11 2026. No macro, syntax, notation, axiom, sorry.
-/
import Derived.Test.YtcpgblflbhfhpaaChecked
import GoSem.Claim
import GoSem.ClaimJoined
import GoSem.ClaimMapViews
import Derived.JoinedTies
import Derived.KernelRfl
namespace Go.Proofs.Ytcpgblflbhfhpaa
/- THE CELL 'sum', in the pinned program and in every row, IS THE sha256 OF THE DUMP (.gsa) THAT YtcpgblflbhfhpaaProg.lean LOADS. Nothing in Lean hashes anything: it is a label: what it is worth is what the hold of that sum in a sandbox is worth. -/
noncomputable def Try.pinned : Pinned := { name := "ytcpgblflbhfhpaa", sum := "358fcdcd6486ac66ad05e17ce3652459d4dc3510a1c12846eb5158099f0223ad", checked := Try.checked }
namespace Rows
def none {H : Type} : Left H := { results := [], args := [] }

/-- 'ductilitylaw06.ModalFrames': WHATEVER THE INPUT: true; the input reads as it did. -/
def modalFramesSpec : ChangeSpec := { name := "modalFrames", fn := fun _ => fun
  | [d] => { results := [.lit (.bool true)], args := [d] }
  | _ => none }
def modalFramesRow : OpenClaim := { program := "ytcpgblflbhfhpaa", sum := "358fcdcd6486ac66ad05e17ce3652459d4dc3510a1c12846eb5158099f0223ad", func := "ductility/ductilitylaw06.ModalFrames", spec := "modalFrames", unfollowed := true, recurses := true, apart := false }
def ModalFramesSaid : Prop := modalFramesRow.holds Try.pinned (OpenSpec.ofChange modalFramesSpec)

/-- ITS FALSE NEIGHBOUR: 'it returns false'. Refute it at one input. -/
def modalFramesWrong : ChangeSpec := { name := "modalFrames", fn := fun _ => fun
  | [d] => { results := [.lit (.bool false)], args := [d] }
  | _ => none }
def ModalFramesWrongFalsely : Prop := modalFramesRow.holds Try.pinned (OpenSpec.ofChange modalFramesWrong)

/-- 'ductilitylaw06.ModalDecays': WHATEVER THE INPUT: true; the input reads as it did. -/
def modalDecaysSpec : ChangeSpec := { name := "modalDecays", fn := fun _ => fun
  | [d] => { results := [.lit (.bool true)], args := [d] }
  | _ => none }
def modalDecaysRow : OpenClaim := { program := "ytcpgblflbhfhpaa", sum := "358fcdcd6486ac66ad05e17ce3652459d4dc3510a1c12846eb5158099f0223ad", func := "ductility/ductilitylaw06.ModalDecays", spec := "modalDecays", unfollowed := true, recurses := true, apart := false }
def ModalDecaysSaid : Prop := modalDecaysRow.holds Try.pinned (OpenSpec.ofChange modalDecaysSpec)

/-- ITS FALSE NEIGHBOUR: 'it returns false'. Refute it at one input. -/
def modalDecaysWrong : ChangeSpec := { name := "modalDecays", fn := fun _ => fun
  | [d] => { results := [.lit (.bool false)], args := [d] }
  | _ => none }
def ModalDecaysWrongFalsely : Prop := modalDecaysRow.holds Try.pinned (OpenSpec.ofChange modalDecaysWrong)

/-- 'ductilitylaw06.ModalTrue': WHATEVER THE INPUT: true; the input reads as it did. -/
def modalTrueSpec : ChangeSpec := { name := "modalTrue", fn := fun _ => fun
  | [d1, d2] => { results := [.lit (.bool true)], args := [d1, d2] }
  | _ => none }
def modalTrueRow : OpenClaim := { program := "ytcpgblflbhfhpaa", sum := "358fcdcd6486ac66ad05e17ce3652459d4dc3510a1c12846eb5158099f0223ad", func := "ductility/ductilitylaw06.ModalTrue", spec := "modalTrue", unfollowed := true, recurses := true, apart := false }
def ModalTrueSaid : Prop := modalTrueRow.holds Try.pinned (OpenSpec.ofChange modalTrueSpec)

/-- ITS FALSE NEIGHBOUR: 'it returns false'. Refute it at one input. -/
def modalTrueWrong : ChangeSpec := { name := "modalTrue", fn := fun _ => fun
  | [d1, d2] => { results := [.lit (.bool false)], args := [d1, d2] }
  | _ => none }
def ModalTrueWrongFalsely : Prop := modalTrueRow.holds Try.pinned (OpenSpec.ofChange modalTrueWrong)

/-- 'ductilitylaw06.ModalAgreed': WHATEVER THE INPUT: true; the input reads as it did. -/
def modalAgreedSpec : ChangeSpec := { name := "modalAgreed", fn := fun _ => fun
  | [d1, d2] => { results := [.lit (.bool true)], args := [d1, d2] }
  | _ => none }
def modalAgreedRow : OpenClaim := { program := "ytcpgblflbhfhpaa", sum := "358fcdcd6486ac66ad05e17ce3652459d4dc3510a1c12846eb5158099f0223ad", func := "ductility/ductilitylaw06.ModalAgreed", spec := "modalAgreed", unfollowed := true, recurses := true, apart := false }
def ModalAgreedSaid : Prop := modalAgreedRow.holds Try.pinned (OpenSpec.ofChange modalAgreedSpec)

/-- ITS FALSE NEIGHBOUR: 'it returns false'. Refute it at one input. -/
def modalAgreedWrong : ChangeSpec := { name := "modalAgreed", fn := fun _ => fun
  | [d1, d2] => { results := [.lit (.bool false)], args := [d1, d2] }
  | _ => none }
def ModalAgreedWrongFalsely : Prop := modalAgreedRow.holds Try.pinned (OpenSpec.ofChange modalAgreedWrong)

/- THE SECOND FORM. 'bulk': how many values and letters a reading holds, each counted each time it is reached (what is shared counts as often as it is met; a slice's spare places count too). A statement '..UptoSaid' is the law's where the arguments, and the package variables that the reading takes, are together of bulk at most 1048576: NARROWER than '..Said'. Prove '..Said' where nothing that the law and all that it calls make is longer than what came in: it says more and counts as full. Else prove '..UptoSaid'. A law counts once. -/
mutual
def uptoBulk {H : Type} : DataW H → Nat
  | .lit (.string bytes) => bytes.length + 1
  | .lit _ => 1
  | .nil => 1
  | .ptr d => uptoBulk d + 1
  | .slice elems spare => uptoBulkAll elems + uptoBulkAll spare + 1
  | .agg parts => uptoBulkAll parts + 1
  | .iface _ d => uptoBulk d + 1
  | .map entries => uptoBulkEntries entries + 1
  | .held _ => 1
def uptoBulkAll {H : Type} : List (DataW H) → Nat
  | [] => 0
  | d :: r => uptoBulk d + uptoBulkAll r
def uptoBulkEntries {H : Type} : List (Lit × DataW H) → Nat
  | [] => 0
  | x :: r => uptoBulkEntry x + uptoBulkEntries r
def uptoBulkEntry {H : Type} : Lit × DataW H → Nat
  | (.string bytes, d) => bytes.length + uptoBulk d + 1
  | (_, d) => uptoBulk d + 1
 end
def uptoSmall : (H : Type) → List (DataW H) → Bool := fun _ ds => decide (uptoBulkAll ds ≤ 1048576)
def OpenSpec.upto (s : _root_.Go.ChangeSpec) : _root_.Go.OpenSpec := { _root_.Go.OpenSpec.ofChange s with cond := some uptoSmall }

/-- 'ductilitylaw06.ModalFrames', WHERE WHAT IT READS IS OF BULK AT MOST 1048576: true; the input reads as it did. -/
def modalFramesUptoRow : OpenClaim := { program := "ytcpgblflbhfhpaa", sum := "358fcdcd6486ac66ad05e17ce3652459d4dc3510a1c12846eb5158099f0223ad", func := "ductility/ductilitylaw06.ModalFrames", spec := "modalFrames", unfollowed := true, recurses := true, apart := false, narrowed := true }
def ModalFramesUptoSaid : Prop := modalFramesUptoRow.holds Try.pinned (OpenSpec.upto modalFramesSpec)

/-- 'ductilitylaw06.ModalDecays', WHERE WHAT IT READS IS OF BULK AT MOST 1048576: true; the input reads as it did. -/
def modalDecaysUptoRow : OpenClaim := { program := "ytcpgblflbhfhpaa", sum := "358fcdcd6486ac66ad05e17ce3652459d4dc3510a1c12846eb5158099f0223ad", func := "ductility/ductilitylaw06.ModalDecays", spec := "modalDecays", unfollowed := true, recurses := true, apart := false, narrowed := true }
def ModalDecaysUptoSaid : Prop := modalDecaysUptoRow.holds Try.pinned (OpenSpec.upto modalDecaysSpec)

/-- 'ductilitylaw06.ModalTrue', WHERE WHAT IT READS IS OF BULK AT MOST 1048576: true; the input reads as it did. -/
def modalTrueUptoRow : OpenClaim := { program := "ytcpgblflbhfhpaa", sum := "358fcdcd6486ac66ad05e17ce3652459d4dc3510a1c12846eb5158099f0223ad", func := "ductility/ductilitylaw06.ModalTrue", spec := "modalTrue", unfollowed := true, recurses := true, apart := false, narrowed := true }
def ModalTrueUptoSaid : Prop := modalTrueUptoRow.holds Try.pinned (OpenSpec.upto modalTrueSpec)

/-- 'ductilitylaw06.ModalAgreed', WHERE WHAT IT READS IS OF BULK AT MOST 1048576: true; the input reads as it did. -/
def modalAgreedUptoRow : OpenClaim := { program := "ytcpgblflbhfhpaa", sum := "358fcdcd6486ac66ad05e17ce3652459d4dc3510a1c12846eb5158099f0223ad", func := "ductility/ductilitylaw06.ModalAgreed", spec := "modalAgreed", unfollowed := true, recurses := true, apart := false, narrowed := true }
def ModalAgreedUptoSaid : Prop := modalAgreedUptoRow.holds Try.pinned (OpenSpec.upto modalAgreedSpec)

end Rows
end Go.Proofs.Ytcpgblflbhfhpaa
