/- JackRanks gives true whatever rig, jack and place it is handed, of bulk at most 1048576, and leaves them as they were. -/
import Derived.Test.YtamhnegcpdkpdaaRkM
import Derived.Test.YtamhnegcpdkpdaaRows
import Derived.ProofKit
import Derived.JoinedCond
set_option linter.unusedVariables false
set_option linter.unusedSimpArgs false

namespace Go.Proofs.Ytamhnegcpdkpdaa
open Go.ChangeShapes Go.WideShapes Go.ChangeAt Go.RowKit
set_option linter.unusedVariables false

theorem bulk_one {H : Type} (d : DataW H) : 1 ≤ Rows.uptoBulk d := by
  cases d with
  | lit l => cases l <;> simp [Rows.uptoBulk]
  | _ => simp [Rows.uptoBulk]

theorem bulk_len {H : Type} (l : List (DataW H)) : l.length ≤ Rows.uptoBulkAll l := by
  induction l with
  | nil => simp [Rows.uptoBulkAll]
  | cons x r ih => have := bulk_one x; simp only [Rows.uptoBulkAll, List.length_cons]; omega

theorem rigField : (match Try.prog.underlying 27 with | some (.struct fs) => (fs[0]?).map (fun f => (f.type, f.offset, Try.prog.cellsOf f.type)) | _ => none) = some (22, 0, 1) := by kernel_rfl
theorem jacksSlice : (match Try.prog.underlying 22 with | some (.slice _) => true | _ => false) = true := by kernel_rfl

theorem short {H : Type} {enc : TypeId × Value → H} {W : World} {vs : List Value} {ds gs : List (DataW H)} {p : List MemPlace} {d : Vm.Tys.data Vm.Mo.as3}
    (hA : DataW.TrodAll enc Try.prog W 0 (fun _ => true) true Try.f3.params.toList vs ds p) (hd : Vm.DVals (Vm.allFz W) Vm.Mo.as3 d vs) (hk : Rows.uptoSmall H (ds ++ gs) = true) :
    (show List Vm.Mo.Jk from d.1.1).length ≤ 1048576 := by
  have hp : Try.f3.params.toList = [27, 31, 3] := by kernel_rfl
  rw [hp] at hA
  obtain ⟨v0, vs0, d0, ds0, p0, q0, rfl, rfl, rfl, h0, r0⟩ := trodAll_cons hA
  have hb : Rows.uptoBulkAll (d0 :: ds0 ++ gs) ≤ 1048576 := of_decide_eq_true hk
  simp only [List.cons_append, Rows.uptoBulkAll] at hb
  obtain ⟨x, r, he, hx, _⟩ := hd
  cases he
  obtain ⟨cs, hv, hc⟩ : ∃ cs, v0 = Value.agg cs ∧ Vm.DRel (Vm.allFz W) _ d.1 cs.toList := hx
  subst hv
  obtain ⟨xs, ys, e, hxs, _⟩ := hc
  obtain ⟨a, n, cap, hxs, _, hl⟩ := hxs
  have hl' : n = (show List Vm.Mo.Jk from d.1.1).length := hl.1
  clear hl
  subst hxs
  obtain ⟨fuel, ht⟩ := h0
  have ht : DataW.trod enc Try.prog W 0 (fun _ => true) true fuel 27 cs.toList = some (d0, p0) := ht
  rw [e] at ht
  have hf := rigField
  split at hf
  · rename_i fs hu
    obtain ⟨zs, m, _, hz, _, hzl, hzf⟩ := DataW.trod_struct hu ht
    obtain ⟨f, hf0, hf1⟩ := Option.map_eq_some_iff.1 hf
    have h3 := hzf 0 f hf0
    obtain ⟨t1, t2, t3⟩ : f.type = 22 ∧ f.offset = 0 ∧ Try.prog.cellsOf f.type = 1 := by
      simp only [Prod.mk.injEq] at hf1; exact hf1
    rw [t3, t2, t1] at h3
    have h3 : DataW.trod enc Try.prog W 0 (fun _ => true) true m 22 [Value.slice a n cap] = zs[0]? := h3
    match zs, hz, h3 with
    | [], _, h3 =>
      have : 0 < fs.size := (Array.getElem?_eq_some_iff.1 hf0).1
      simp at hzl; omega
    | z :: zs, hz, h3 =>
      have h3 : DataW.trod enc Try.prog W 0 (fun _ => true) true m 22 [Value.slice a n cap] = some z := h3
      have hd0 : d0 = DataW.agg (z.1 :: zs.map (·.1)) := congrArg Prod.fst hz
      subst hd0
      simp only [Rows.uptoBulk, Rows.uptoBulkAll] at hb
      have hs := jacksSlice
      split at hs
      · rename_i el hsl
        rcases DataW.trod_slice hsl h3 with ⟨q, _⟩ | ⟨a', len, cap', elems, rest, m', _, q, hq, _, _, _, hlen, _⟩
        · cases q; rw [← hl']; exact Nat.zero_le _
        · cases q
          have h4 := bulk_len (elems.map (·.1))
          rw [List.length_map, hlen] at h4
          have hq1 : z.1 = _ := congrArg Prod.fst hq
          rw [hq1] at hb
          simp only [Rows.uptoBulk] at hb
          omega
      · cases hs
  · cases hf

end Go.Proofs.Ytamhnegcpdkpdaa

namespace Go.Vm
open Go Go.RowKit Go.WideShapes Go.ChangeShapes

theorem law_contract2 {P : Program} {f : FuncId} {fn : Func} {us : List Ty} {s : ChangeSpec} {bt : TypeId} {H : Type} {enc : TypeId × Value → H} {W : World} {base : Nat} {args : Array Value} {ds gs : List (DataW H)} {before : List MemPlace}
    (hs : IsLaw s fn.params.toList.length) (hl : laidOutB P = true) (hts : laidTys P fn.params.toList = some us) (hrd : fn.params.toList.all (fun t => P.readableRec t && decide (t < P.types.size)) = true) (hrt : fn.resultTypes = #[bt]) (hbt : P.underlying bt = some .bool)
    (k : ∀ d p, Tys.Wf us d → DVals (allFz W) us d args.toList → DataW.TrodAll enc P W 0 (fun _ => true) true fn.params.toList args.toList ds p → Pure1 P f us [.bool] d (true, ()))
    (hval : ∀ (j : Nat) t v, fn.params[j]? = some t → args[j]? = some v → Value.okWide P W .any base t v) (hW : DataW.Whole enc P fn.params.toList s.vars false W args.toList ds gs before) :
    Calls P f args W fun e W' => ∃ v, e = .returned v ∧ s.post enc P fn false true false false W args v W' := by
  have hW' := hW
  obtain ⟨p, q, hA, hV, rfl, hfz, hnd⟩ := hW
  rw [hs.vars] at hV
  obtain ⟨rfl, rfl⟩ := trodVars_none hV
  obtain ⟨hlen, d, hd, hwf⟩ := args_data hts hA fun j t v ht hv => hval j t v (by simpa using ht) (by simpa using hv)
  have hF : Wide { fn := fun _ => True } := ⟨fun _ => trivial, rfl⟩
  have hc := k d p hwf hd hA (allFz W) args W { fn := fun _ => True } 0 hF (allFz_ok W) hd
  refine (CallsIn.calls hc (fun _ d hd => by cases hd)).mono fun e W' hp => ?_
  obtain ⟨x, f', rfl, hx, _, _, _, hsz, hheap, hos, htape, hout⟩ := hp
  have hx : [x] = [Value.bool true] := hx
  cases hx
  have hb : Below W.heap.size W W' := ⟨hos, htape, hout, hsz, hheap⟩
  have hlt : ∀ x ∈ p ++ [], x.block < W.heap.size := fun x hx => hW'.lt x hx
  obtain ⟨r1, r2, r3⟩ := hs.res H (ds ++ []) (by simpa using hlen)
  refine ⟨_, rfl, ds, [], p ++ [], [], p, [], hW', ?_, ?_, ?_, ?_, fun h => by cases h⟩
  · rw [r1, hrt]
    exact ⟨[], [], shut_bool hbt _, trodAll_mk0, rfl⟩
  · rw [r2, List.append_nil]
    exact stays hl hb hrd hA fun x hx => hlt x (by simpa using hx)
  · rw [r3, hs.vars]
    rfl
  · exact World.keptBut_mono (fun x hx => ⟨hx, .inr (.inl (by simpa using hx))⟩) (hb.frame (· ∈ p ++ []))

end Go.Vm

namespace Go.Proofs.Ytamhnegcpdkpdaa

theorem jackRanksLaw : Vm.IsLaw Rows.jackRanksSpec 3 := ⟨rfl, fun H ds h => by
  match ds, h with
  | [d0, d1, d2], _ => exact ⟨rfl, rfl, rfl⟩⟩

theorem jackRanksOwn : ownKnob Try.prog.godebug = none := by kernel_rfl

set_option maxRecDepth 100000 in
theorem jackRanksLifted (os : Os) (started : os.Started) (H : Type) (enc : TypeId × Value → H) (F : Stop.Interp) :
    ReturnsInHanded {} Try.checked os 3 .any ((Rows.OpenSpec.upto Rows.jackRanksSpec).pre6 enc Try.prog Try.f3 Rows.jackRanksUptoRow.domain false) (((Rows.OpenSpec.upto Rows.jackRanksSpec).at F).post enc Try.prog Try.f3 false true false false) := by
  refine returnsInHanded_of_cond (C := Try.checked) (s := Rows.OpenSpec.upto Rows.jackRanksSpec) (k := Rows.uptoSmall) rfl jackRanksOwn started (by kernel_rfl) Try.func3
    (OpenSpec.witness (enc := enc) (C := Try.checked) (s := Rows.OpenSpec.upto Rows.jackRanksSpec) (k := Rows.uptoSmall) rfl false ⟨#[], #[.agg #[.slice none 0 0, .int .i64 0, .int .i64 0, .int .i64 0, .int .i64 0, .int .i64 0, .int .i64 0, .int .i64 0, .int .i64 0, .int .i64 0, .int .i64 0, .int .i64 0, .int .i64 0], .agg #[.int .i64 0, .int .i64 0, .int .i64 0, .int .i64 0, .int .i64 0, .int .i64 0, .int .i64 0, .int .i64 0], .int .i64 0], []⟩ 8 (by kernel_rfl) (by kernel_rfl) (by kernel_rfl)
      (x := ([.agg [.nil, .agg [.agg [.lit (.int .i64 0), .lit (.int .i64 0)], .agg [.lit (.int .i64 0), .lit (.int .i64 0)], .agg [.lit (.int .i64 0), .lit (.int .i64 0)], .agg [.lit (.int .i64 0), .lit (.int .i64 0)], .agg [.lit (.int .i64 0), .lit (.int .i64 0)], .agg [.lit (.int .i64 0), .lit (.int .i64 0)]]], .agg [.agg [.lit (.int .i64 0), .lit (.int .i64 0), .lit (.int .i64 0), .lit (.int .i64 0), .lit (.int .i64 0), .lit (.int .i64 0)], .agg [.lit (.int .i64 0), .lit (.int .i64 0)]], .lit (.int .i64 0)], [], [])) (by kernel_rfl) rfl (by kernel_rfl)) ?_
  intro W base args ds gs before hval hW _ hk _
  exact Vm.law_contract2 (us := Vm.Mo.as3) jackRanksLaw (by kernel_rfl) (by kernel_rfl) (by kernel_rfl) rfl (by kernel_rfl) (fun d p _ hd hA => Vm.Mo.law3 d (short hA hd hk)) hval hW

theorem jackRanksUptoHolds : Rows.JackRanksUptoSaid :=
  OpenClaim.holds_of_cond 3 Try.f3 rfl rfl rfl rfl rfl rfl rfl ⟨rfl, rfl, rfl, rfl, rfl⟩ rfl rfl rfl rfl rfl (by kernel_rfl) Try.func3 (by kernel_rfl)
    (of_decide_eq_true (by kernel_rfl)) (by unfold Func.isWrapper; first | (rw [if_pos (by decide +kernel)]; kernel_rfl) | (rw [if_neg (by decide +kernel)]; exact ⟨rfl, rfl⟩))
    (fun os started H enc _ F => jackRanksLifted os started H enc F)

#print axioms jackRanksUptoHolds
end Go.Proofs.Ytamhnegcpdkpdaa
