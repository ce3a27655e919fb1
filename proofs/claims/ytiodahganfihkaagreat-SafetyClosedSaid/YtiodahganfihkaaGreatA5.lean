/- A machine over virtual values that stands for the model's: part 5. -/
import Derived.Test.YtiodahganfihkaaGreatA4
import Derived.DataReads
import Derived.Carry
import Derived.ChangeSame
import Derived.RowKit
import Derived.OpenShut
set_option linter.unusedVariables false
set_option linter.unusedSimpArgs false

/-! Ways through a tree of tests: one theorem for all runs of a function. -/
namespace Go.Vm
open Go

/-- The way that answers show: what stands at its end, and the tests on it, the last one first. -/
def Tr.go {R : Type} : Tr R → List Bool → List (Bool × Bool) → Option (R × List (Bool × Bool))
  | .fin r, _, C => some (r, C)
  | .stop, _, _ => none
  | .test _ _ _, [], _ => none
  | .test b y n, a :: s, C => match a with
    | true => y.go s ((b, true) :: C)
    | false => n.go s ((b, false) :: C)

/-- What was said, from the tests on the way: 0 and 1 are plain, 2i + 2 the test number i, 2i + 3 its contrary. -/
def sayAt (C : List (Bool × Bool)) (k : Nat) : Bool × Bool :=
  match k with
  | 0 => (false, false)
  | 1 => (true, true)
  | k + 2 => let p := C.getD (k / 2) (true, true); if k % 2 = 0 then p else (!p.1, !p.2)

def sayOf (C : List (Bool × Bool)) : List Nat → List (Bool × Bool)
  | [] => []
  | k :: r => sayAt C k :: sayOf C r

theorem sayAt_ok {C : List (Bool × Bool)} (h : All C) (k : Nat) : (sayAt C k).1 = (sayAt C k).2 := by
  have g : ∀ i, (C.getD i (true, true)).1 = (C.getD i (true, true)).2 := by
    intro i
    by_cases hi : i < C.length
    · have : C.getD i (true, true) = C[i] := by simp [List.getD, hi]
      rw [this]
      exact h.holds _ (List.getElem_mem hi)
    · have : C.getD i (true, true) = (true, true) := by simp [List.getD, hi]
      rw [this]
  match k with
  | 0 => rfl
  | 1 => rfl
  | k + 2 =>
    have := g (k / 2)
    show (if k % 2 = 0 then C.getD (k / 2) (true, true) else (!(C.getD (k / 2) (true, true)).1, !(C.getD (k / 2) (true, true)).2)).1 = (if k % 2 = 0 then C.getD (k / 2) (true, true) else (!(C.getD (k / 2) (true, true)).1, !(C.getD (k / 2) (true, true)).2)).2
    split
    · exact this
    · show (!_) = (!_)
      rw [this]

theorem sayOf_ok {C : List (Bool × Bool)} (h : All C) : ∀ l, All (sayOf C l)
  | [] => trivial
  | k :: r => ⟨sayAt_ok h k, sayOf_ok h r⟩

def Tr.walk {R : Type} (t : Tr R) (s : List Bool) (p : List Nat) : Option (R × List (Bool × Bool)) :=
  match t.go s [] with
  | some (r, C) => some (r, sayOf C p)
  | none => none

def ansAt (s : List Bool) (k : Nat) : Bool :=
  match k with
  | 0 => false
  | 1 => true
  | k + 2 => let p := s.getD (k / 2) true; match k % 2 with
    | 0 => p
    | _ => !p

/-- The answers of a run, the first one first. -/
def ansOf (s : List Bool) : List Nat → List Bool → List Bool
  | [], acc => acc
  | k :: r, acc => ansOf s r (ansAt s k :: acc)

/-- All runs of a list are the ways of the tree. -/
def Walks {R : Type} (run : List Bool → Option (R × List (Bool × Bool))) (t : Tr R) : List (List Bool × List Nat) → Prop
  | [] => True
  | (s, p) :: r => run (ansOf s.reverse p []) = t.walk s p ∧ Walks run t r

theorem Walks.at {R : Type} {run : List Bool → Option (R × List (Bool × Bool))} {t : Tr R} : ∀ {ls : List (List Bool × List Nat)}, Walks run t ls → ∀ l ∈ ls, ∃ ans, run ans = t.walk l.1 l.2
  | (s, p) :: r, h, l, hl => by
    rcases List.mem_cons.1 hl with rfl | hl
    · exact ⟨_, h.1⟩
    · exact Walks.at h.2 l hl

/-- Every way that ends stands in the list. -/
def Tr.fits {R : Type} : Tr R → List (List Bool × List Nat) → List Bool → Bool
  | .fin _, L, s => L.any fun l => l.1 == s.reverse
  | .stop, _, _ => true
  | .test _ y n, L, s => y.fits L (true :: s) && n.fits L (false :: s)

theorem Walks.aux {R : Type} {Q : R → Prop} {run : List Bool → Option (R × List (Bool × Bool))} (hQ : ∀ ans r said, run ans = some (r, said) → All said → Q r) {t : Tr R} {ls : List (List Bool × List Nat)} (e : Walks run t ls) :
    ∀ (u : Tr R) (s : List Bool) (C : List (Bool × Bool)), (∀ s', t.go (s.reverse ++ s') [] = u.go s' C) → All C → u.fits ls s = true → TrOk Q u
  | .fin r, s, C, h, hC, hf => by
    obtain ⟨l, hl, hs⟩ := List.any_eq_true.1 hf
    have hs := eq_of_beq hs
    obtain ⟨ans, ha⟩ := e.at l hl
    have hg : t.go l.1 [] = some (r, C) := by
      have := h []
      rw [List.append_nil] at this
      rw [hs, this]; rfl
    rw [Tr.walk, hg] at ha
    exact hQ _ _ _ ha (sayOf_ok hC _)
  | .stop, _, _, _, _, _ => trivial
  | .test b y n, s, C, h, hC, hf => by
    have hf : (y.fits ls (true :: s) && n.fits ls (false :: s)) = true := hf
    rw [Bool.and_eq_true] at hf
    refine ⟨fun hb => Walks.aux hQ e y (true :: s) ((b, true) :: C) (fun s' => ?_) ⟨hb, hC⟩ hf.1, fun hb => Walks.aux hQ e n (false :: s) ((b, false) :: C) (fun s' => ?_) ⟨hb, hC⟩ hf.2⟩
    · rw [List.reverse_cons, List.append_assoc]; exact h (true :: s')
    · rw [List.reverse_cons, List.append_assoc]; exact h (false :: s')

theorem Walks.ok {R : Type} {Q : R → Prop} {run : List Bool → Option (R × List (Bool × Bool))} (hQ : ∀ ans r said, run ans = some (r, said) → All said → Q r) {t : Tr R} {ls : List (List Bool × List Nat)} (e : Walks run t ls) (hf : t.fits ls [] = true) : TrOk Q t :=
  Walks.aux hQ e t [] [] (fun _ => rfl) trivial hf

theorem Walks.append {R : Type} {run : List Bool → Option (R × List (Bool × Bool))} {t : Tr R} : ∀ {a b : List (List Bool × List Nat)}, Walks run t a → Walks run t b → Walks run t (a ++ b)
  | [], _, _, k => k
  | (_, _) :: _, _, h, k => ⟨h.1, Walks.append h.2 k⟩

/-- So many answers, as a number. -/
def bl : Nat → Nat → List Bool
  | 0, _ => []
  | k + 1, n => Nat.beq (n % 2) 1 :: bl k (n / 2)

end Go.Vm

/-
  What is handed in reads as data.
-/
namespace Go.Vm
open Go

/-! ### Types as they are laid -/

def fieldsTy (P : Program) (rec : TypeId → Option Ty) : List Field → Nat → Nat → Option Ty
  | [], o, m => match Nat.beq o m with
    | true => some .unit
    | false => none
  | f :: fs, o, m => match rec f.type with
    | none => none
    | some a => match Nat.beq f.offset o && Nat.beq (P.cellsOf f.type) a.cells with
      | false => none
      | true => match fieldsTy P rec fs (o + a.cells) m with
        | some b => some (.pair a b)
        | none => none

def laidTy (P : Program) : Nat → TypeId → Option Ty
  | 0, _ => none
  | n + 1, t => match P.underlying t with
    | some .bool => some .bool
    | some (.int k) => some (.int k)
    | some .string => some .str
    | some (.slice e) => match laidTy P n e with
      | none => none
      | some u => match Nat.beq (P.cellsOf e) u.cells && Nat.ble 1 u.cells with
        | true => some (.slice u)
        | false => none
    | some (.struct fs) => fieldsTy P (laidTy P n) fs.toList 0 (P.cellsOf t)
    | some (.array m e) => match laidTy P n e with
      | none => none
      | some u => match Nat.beq (P.cellsOf e) u.cells && Nat.beq (P.cellsOf t) (m * u.cells) with
        | true => some ((List.replicate m u).foldr .pair .unit)
        | false => none
    | _ => none

/-- Data within the bounds of their types. -/
def Ty.Wf : (t : Ty) → t.data → Prop
  | .int k, n => (k.min : Int) ≤ (show Int from n) ∧ (show Int from n) ≤ (k.max : Int)
  | .bool, _ => True
  | .str, s => ByteArray.size s ≤ maxLen
  | .unit, _ => True
  | .pair a b, d => a.Wf d.1 ∧ b.Wf d.2
  | .slice t, l => List.length l ≤ maxLen ∧ ∀ x ∈ (show List t.data from l), t.Wf x

/-- All blocks of cells. -/
def allFz (w : World) : Frozen := fun k => match w.heap[k]? with
  | some (.cells c _ _) => some c
  | _ => none

theorem allFz_ok (w : World) : FzOk (allFz w) w := by
  intro k c h
  unfold allFz at h
  split at h
  · rename_i c' t z hw
    cases h
    exact ⟨_, _, _, hw, Begins.refl _⟩
  · cases h

theorem list_of {α : Type} {p : Nat → α → Prop} : ∀ n, (∀ i, i < n → ∃ x, p i x) → ∃ l : List α, l.length = n ∧ ∀ (i : Nat) (x : α), l[i]? = some x → p i x
  | 0, _ => ⟨[], rfl, fun i x h => by simp at h⟩
  | n + 1, h => by
    obtain ⟨l, h1, h2⟩ := list_of n fun i hi => h i (by omega)
    obtain ⟨x, hx⟩ := h n (by omega)
    refine ⟨l ++ [x], by simp [h1], fun i y hy => ?_⟩
    rcases Nat.lt_or_ge i l.length with hi | hi
    · rw [List.getElem?_append_left hi] at hy
      exact h2 i y hy
    · rw [List.getElem?_append_right hi] at hy
      have : i - l.length = 0 := by
        rcases Nat.eq_zero_or_pos (i - l.length) with h0 | h0
        · exact h0
        · rw [List.getElem?_eq_none (by simp; omega)] at hy; cases hy
      rw [this] at hy
      cases hy
      have : i = n := by omega
      subst this
      exact hx

theorem mapM_get {α β : Type} {f : α → Option β} : ∀ {l : List α} {r : List β}, l.mapM f = some r → r.length = l.length ∧ ∀ (i : Nat) (x : α), l[i]? = some x → f x = r[i]?
  | [], r, h => by
    simp at h
    subst h
    exact ⟨rfl, fun i x hx => by simp at hx⟩
  | a :: l, r, h => by
    rw [List.mapM_cons] at h
    cases e : f a with
    | none => rw [e] at h; cases h
    | some y =>
      rw [e] at h
      cases e2 : l.mapM f with
      | none => rw [e2] at h; cases h
      | some r' =>
        rw [e2] at h
        cases h
        obtain ⟨k1, k2⟩ := mapM_get e2
        refine ⟨by simp [k1], fun i x hx => ?_⟩
        cases i with
        | zero => simp at hx; subst hx; simpa using e
        | succ i => simp at hx; simpa using k2 i x hx

/-- The cells at an address. -/
theorem cells_get {w : World} {base : Nat} {a : Addr} {n : Nat} {cs : List Value} (h : w.cells? base a n = some cs) : cs.length = n ∧ ∀ i, i < n → w.cell? (a.add i) = cs[i]? := by
  unfold World.cells? at h
  split at h
  · obtain ⟨h1, h2⟩ := mapM_get h
    exact ⟨by simpa using h1, fun i hi => h2 i i (by simp [hi])⟩
  · cases h

theorem cell_some {w : World} {a : Addr} {v : Value} (h : w.cell? a = some v) : ∃ c t z, w.heap[a.block]? = some (.cells c t z) ∧ a.spot = none ∧ c[a.off]? = some v := by
  unfold World.cell? at h
  split at h
  · rename_i c t z hw
    split at h
    · cases h
    · rename_i hs
      refine ⟨c, t, z, hw, ?_, h⟩
      cases hs' : a.spot with
      | none => rfl
      | some x => rw [hs'] at hs; simp at hs
  · cases h

theorem Addr.add_add (a : Addr) (m n : Nat) : (a.add m).add n = a.add (m + n) := by
  unfold Addr.add
  by_cases h1 : m = 0 <;> by_cases h2 : n = 0 <;> simp [h1, h2, Nat.add_assoc]

theorem Addr.add_off (a : Addr) (n : Nat) (h : a.spot = none) : a.add n = ⟨a.block, a.off + n, none⟩ := by
  obtain ⟨b, o, s⟩ := a
  simp only at h
  subst h
  unfold Addr.add
  split
  · rename_i h; subst h; rfl
  · rfl

section
variable {H : Type} {enc : TypeId × Value → H} {P : Program} {w : World} {base : Nat} {sp : Nat → Bool} {held : Bool}

theorem fields_data {rec : TypeId → Option Ty} {rd : TypeId → List Value → Option (DataW H × List MemPlace)} (ih : ∀ {t : TypeId} {u : Ty} {cs : List Value} {x}, rec t = some u → rd t cs = some x → ∃ dd : u.data, DRel (allFz w) u dd cs ∧ u.Wf dd) :
    ∀ {fs : List Field} {o m : Nat} {u : Ty} {cs : List Value} {xs}, fieldsTy P rec fs o m = some u → cs.length = m → fs.mapM (fun f => rd f.type ((cs.drop f.offset).take (P.cellsOf f.type))) = some xs → ∃ dd : u.data, DRel (allFz w) u dd (cs.drop o) ∧ u.Wf dd
  | [], o, m, u, cs, xs, hu, hl, h => by
    simp only [fieldsTy] at hu
    split at hu
    · rename_i he
      cases hu
      have := Nat.eq_of_beq_eq_true he
      refine ⟨(), ?_, trivial⟩
      show cs.drop o = []
      exact List.drop_of_length_le (by omega)
    · cases hu
  | f :: fs, o, m, u, cs, xs, hu, hl, h => by
    simp only [fieldsTy] at hu
    split at hu
    · cases hu
    · rename_i a ha
      split at hu
      · cases hu
      · rename_i hc
        simp only [Bool.and_eq_true] at hc
        have c1 := Nat.eq_of_beq_eq_true hc.1
        have c2 := Nat.eq_of_beq_eq_true hc.2
        split at hu
        · rename_i b hb
          cases hu
          rw [List.mapM_cons] at h
          cases e : rd f.type ((cs.drop f.offset).take (P.cellsOf f.type)) with
          | none => rw [e] at h; cases h
          | some y =>
            rw [e] at h
            cases e2 : fs.mapM (fun f => rd f.type ((cs.drop f.offset).take (P.cellsOf f.type))) with
            | none => rw [e2] at h; cases h
            | some r =>
              obtain ⟨d1, k1, k2⟩ := ih ha e
              obtain ⟨d2, k3, k4⟩ := fields_data ih hb hl e2
              refine ⟨(d1, d2), ⟨_, _, ?_, k1, k3⟩, k2, k4⟩
              rw [c1, c2, ← List.drop_drop]
              exact (List.take_append_drop _ _).symm
        · cases hu

theorem array_data {u : Ty} {rd : List Value → Option (DataW H × List MemPlace)} (ih : ∀ {cs : List Value} {x}, rd cs = some x → ∃ dd : u.data, DRel (allFz w) u dd cs ∧ u.Wf dd) {c : Nat} (hc : c = u.cells) {cs : List Value} :
    ∀ (m o : Nat), cs.length = o + m * u.cells → (∀ i, i < m → ∃ x, rd ((cs.drop (o + i * c)).take c) = some x) → ∃ dd : ((List.replicate m u).foldr Ty.pair .unit).data, DRel (allFz w) _ dd (cs.drop o) ∧ Ty.Wf _ dd
  | 0, o, hl, _ => by
    refine ⟨(), ?_, trivial⟩
    show cs.drop o = []
    exact List.drop_of_length_le (by omega)
  | m + 1, o, hl, h => by
    obtain ⟨x, hx⟩ := h 0 (by omega)
    obtain ⟨d1, k1, k2⟩ := ih hx
    have hm : (m + 1) * u.cells = m * u.cells + u.cells := Nat.succ_mul _ _
    obtain ⟨d2, k3, k4⟩ := array_data ih hc (cs := cs) m (o + u.cells) (by omega) fun i hi => by
      obtain ⟨y, hy⟩ := h (i + 1) (by omega)
      refine ⟨y, ?_⟩
      rw [← hy]
      congr 2
      rw [hc, Nat.succ_mul]; congr 1; omega
    refine ⟨(d1, d2), ⟨_, _, ?_, k1, k3⟩, k2, k4⟩
    rw [Nat.zero_mul, Nat.add_zero, hc, ← List.drop_drop]
    exact (List.take_append_drop _ _).symm

theorem trod_data : ∀ {n fuel : Nat} {t : TypeId} {u : Ty} {cs : List Value} {x : DataW H × List MemPlace}, laidTy P n t = some u → DataW.trod enc P w base sp held fuel t cs = some x → ∃ dd : u.data, DRel (allFz w) u dd cs ∧ u.Wf dd
  | 0, _, _, _, _, _, hu, _ => by cases hu
  | n + 1, 0, _, _, _, _, _, h => by cases h
  | n + 1, fuel + 1, t, u, cs, x, hu, h => by
    unfold laidTy at hu
    unfold DataW.trod at h
    cases hP : P.underlying t with
    | none => rw [hP] at hu; cases hu
    | some td =>
      rw [hP] at hu h
      cases td with
      | bool =>
        cases hu
        split at h <;> first | (rename_i hq; simp only [Option.some.injEq, reduceCtorEq] at hq; done) | skip
        · rename_i b _
          exact ⟨b, rfl, trivial⟩
        · cases h
      | int k =>
        cases hu
        split at h <;> first | (rename_i hq; simp only [Option.some.injEq, reduceCtorEq] at hq; done) | skip
        · rename_i k0 k' i hq
          cases hq
          split at h
          · rename_i hk
            obtain ⟨rfl, hw⟩ := hk
            simp only [Lit.wf, Bool.and_eq_true, decide_eq_true_eq] at hw
            exact ⟨i, rfl, hw⟩
          · cases h
        · cases h
      | string =>
        cases hu
        split at h <;> first | (rename_i hq; simp only [Option.some.injEq, reduceCtorEq] at hq; done) | skip
        · rename_i s _
          split at h
          · rename_i hk
            exact ⟨s, rfl, hk⟩
          · cases h
        · cases h
      | slice e =>
        dsimp only at hu
        split at hu
        · cases hu
        · rename_i u hue
          split at hu
          · rename_i hc
            cases hu
            simp only [Bool.and_eq_true] at hc
            have c1 := Nat.eq_of_beq_eq_true hc.1
            have c2 := Nat.le_of_ble_eq_true hc.2
            split at h <;> first | (rename_i hq; simp only [Option.some.injEq, reduceCtorEq] at hq; done) | skip
            · exact ⟨[], ⟨none, 0, 0, rfl, Nat.le_refl _, rfl, .inl rfl⟩, Nat.zero_le _, fun x hx => by cases hx⟩
            · rename_i e' a len cap hq
              cases hq
              split at h
              · rename_i hlen
                dsimp only at h
                cases he : (List.range len).mapM fun i => (w.cells? base (a.add (i * P.cellsOf e)) (P.cellsOf e)).bind (DataW.trod enc P w base sp held fuel e) with
                | none => rw [he] at h; cases h
                | some els =>
                  obtain ⟨g1, g2⟩ := mapM_get he
                  have hel : ∀ i, i < len → ∃ (d : u.data), u.Wf d ∧ ∃ cs : List Value, DRel (allFz w) u d cs ∧ cs.length = u.cells ∧ ∀ j, j < u.cells → w.cell? (a.add (i * u.cells + j)) = cs[j]? := by
                    intro i hi
                    have hg := g2 i i (by simp [hi])
                    have hlt : i < els.length := by rw [g1]; simpa using hi
                    rw [List.getElem?_eq_getElem hlt] at hg
                    cases hcs : w.cells? base (a.add (i * P.cellsOf e)) (P.cellsOf e) with
                    | none => rw [hcs] at hg; cases hg
                    | some cs =>
                      rw [hcs] at hg
                      obtain ⟨d, k1, k2⟩ := trod_data hue hg
                      obtain ⟨q1, q2⟩ := cells_get hcs
                      rw [c1] at q1 q2
                      exact ⟨d, k2, cs, k1, q1, fun j hj => by rw [← q2 j hj, Addr.add_add]⟩
                  obtain ⟨l, l1, l2⟩ := list_of len hel
                  refine ⟨l, ⟨some a, len, cap, rfl, hlen.2.1, l1.symm, ?_⟩, ?_, ?_⟩
                  · rcases Nat.eq_zero_or_pos len with h0 | h0
                    · exact .inl (List.eq_nil_of_length_eq_zero (by omega))
                    · right
                      have hd0 : l[0]? = some (l[0]'(by omega)) := by simp
                      obtain ⟨_, cs0, _, s1, s2⟩ := l2 _ _ hd0
                      have hv0 : cs0[0]? = some (cs0[0]'(by omega)) := by simp
                      have hc0 := s2 0 (by omega)
                      rw [hv0] at hc0
                      have ha0 : a.add (0 * u.cells + 0) = a := by simp [Addr.add]
                      rw [ha0] at hc0
                      obtain ⟨c, tt, z, hw, hs, _⟩ := cell_some hc0
                      have hfz : allFz w a.block = some c := by simp only [allFz, hw]
                      have hlies : LiesIn (DRel (allFz w) u) u.cells l c a.off := by
                        intro i d hi
                        obtain ⟨_, cs, r1, r2, r3⟩ := l2 i d hi
                        refine ⟨cs, r1, r2, fun j v hj => ?_⟩
                        have hj' : j < u.cells := by rw [← r2]; exact (List.getElem?_eq_some_iff.1 hj).1
                        have hc := r3 j hj'
                        rw [hj, Addr.add_off a _ hs] at hc
                        obtain ⟨c', t', z', hw', _, hcv⟩ := cell_some hc
                        rw [hw] at hw'; cases hw'
                        have hcv : c[a.off + (i * u.cells + j)]? = some v := hcv
                        rw [← hcv, Nat.add_assoc]
                      refine ⟨a.block, a.off, c, ?_, hfz, ?_, hlies⟩
                      · obtain ⟨b, o, s⟩ := a; simp only at hs; rw [hs]
                      · have hl1 : l[len - 1]? = some (l[len - 1]'(by omega)) := by simp
                        obtain ⟨cs, _, k2, k3⟩ := hlies _ _ hl1
                        have hx : cs[u.cells - 1]? = some (cs[u.cells - 1]'(by omega)) := by simp
                        have := (Array.getElem?_eq_some_iff.1 (k3 _ _ hx)).1
                        have hm : l.length * u.cells = (len - 1) * u.cells + u.cells := by
                          have : l.length = (len - 1) + 1 := by omega
                          rw [this, Nat.succ_mul]
                        omega
                  · exact Nat.le_trans (Nat.le_of_eq l1) (Nat.le_trans hlen.2.1 hlen.2.2)
                  · intro x hx
                    obtain ⟨i, hi⟩ := List.mem_iff_getElem?.1 hx
                    exact (l2 i x hi).1
              · cases h
            · cases h
          · cases hu
      | struct fs =>
        dsimp only at hu
        have h' : (if cs.length = P.cellsOf t then (fs.toList.mapM fun f => DataW.trod enc P w base sp held fuel f.type ((cs.drop f.offset).take (P.cellsOf f.type))).map fun xs => (DataW.agg (xs.map (·.1)), xs.flatMap (·.2)) else none) = some x := by
          simpa only using h
        split at h'
        · rename_i hl
          cases e : fs.toList.mapM fun f => DataW.trod enc P w base sp held fuel f.type ((cs.drop f.offset).take (P.cellsOf f.type)) with
          | none => rw [e] at h'; cases h'
          | some xs =>
            have := fields_data (w := w) (rd := fun t cs => DataW.trod enc P w base sp held fuel t cs) (fun ha hb => trod_data ha hb) hu hl e
            simpa using this
        · cases h'
      | array m e =>
        dsimp only at hu
        split at hu
        · cases hu
        · rename_i u hue
          split at hu
          · rename_i hc
            cases hu
            simp only [Bool.and_eq_true] at hc
            have c1 := Nat.eq_of_beq_eq_true hc.1
            have c2 := Nat.eq_of_beq_eq_true hc.2
            have h' : (if cs.length = P.cellsOf t then ((List.range m).mapM fun i => DataW.trod enc P w base sp held fuel e ((cs.drop (i * P.cellsOf e)).take (P.cellsOf e))).map fun xs => (DataW.agg (xs.map (·.1)), xs.flatMap (·.2)) else none) = some x := by
              simpa only using h
            split at h'
            · rename_i hl
              cases he : (List.range m).mapM fun i => DataW.trod enc P w base sp held fuel e ((cs.drop (i * P.cellsOf e)).take (P.cellsOf e)) with
              | none => rw [he] at h'; cases h'
              | some xs =>
                obtain ⟨g1, g2⟩ := mapM_get he
                have := array_data (w := w) (u := u) (rd := fun cs => DataW.trod enc P w base sp held fuel e cs) (fun hb => trod_data hue hb) c1 (cs := cs) m 0 (by omega) fun i hi => by
                  have hg := g2 i i (by simp [hi])
                  have hlt : i < xs.length := by rw [g1]; simpa using hi
                  rw [List.getElem?_eq_getElem hlt] at hg
                  exact ⟨_, by rw [Nat.zero_add]; exact hg⟩
                simpa using this
            · cases h'
          · cases hu
      | _ => cases hu
end

end Go.Vm

/-
  A law that gives true whatever data are handed in.
-/
namespace Go.Vm
open Go Go.RowKit Go.WideShapes Go.ChangeShapes

def laidTys (P : Program) : List TypeId → Option (List Ty)
  | [] => some []
  | t :: ts => match laidTy P 8 t, laidTys P ts with
    | some a, some r => some (a :: r)
    | _, _ => none

def Tys.Wf : (ts : List Ty) → Tys.data ts → Prop
  | [], _ => True
  | t :: ts, d => t.Wf d.1 ∧ Tys.Wf ts d.2

theorem fieldsTy_agg {P : Program} {rec : TypeId → Option Ty} {fs : List Field} {o m : Nat} {u : Ty} (h : fieldsTy P rec fs o m = some u) : u.isAgg = true := by
  cases fs with
  | nil =>
    simp only [fieldsTy] at h
    split at h
    · cases h; rfl
    · cases h
  | cons f fs =>
    simp only [fieldsTy] at h
    split at h
    · cases h
    · split at h
      · cases h
      · split at h
        · cases h; rfl
        · cases h

section
variable {H : Type} {enc : TypeId × Value → H} {P : Program} {w : World} {base : Nat} {sp : Nat → Bool} {held : Bool}

theorem trod_val {n : Nat} {t : TypeId} {u : Ty} {v : Value} {d : DataW H} {ps : List MemPlace} {r : Reach} {b0 : Nat} (hu : laidTy P n t = some u) (h : DataW.Trod enc P w base sp held t v d ps) (hok : Value.okWide P w r b0 t v) :
    ∃ dd : u.data, DVal (allFz w) u dd v ∧ u.Wf dd := by
  obtain ⟨fuel, h⟩ := h
  obtain ⟨dd, h1, h2⟩ := trod_data hu h
  refine ⟨dd, ?_, h2⟩
  cases n with
  | zero => cases hu
  | succ n =>
    unfold laidTy at hu
    unfold Value.okWide at hok
    cases hP : P.underlying t with
    | none => rw [hP] at hu; cases hu
    | some td =>
      rw [hP] at hu hok
      have one : ∀ {u : Ty} {dd : u.data}, u.isAgg = false → v.cells.toList = [v] → DRel (allFz w) u dd v.cells.toList → DVal (allFz w) u dd v := by
        intro u dd hg hv hd
        unfold DVal
        rw [hg]
        dsimp only
        rw [hv] at hd
        exact hd
      have agg : ∀ {u : Ty} {dd : u.data} {cs : Array Value}, u.isAgg = true → v = .agg cs → DRel (allFz w) u dd v.cells.toList → DVal (allFz w) u dd v := by
        intro u dd cs hg hv hd
        unfold DVal
        rw [hg]
        subst hv
        exact ⟨cs, rfl, hd⟩
      cases td with
      | bool =>
        cases hu
        refine one rfl ?_ h1
        cases v <;> first | rfl | (exfalso; simp [Cell.okWide, Cell.ok, hP] at hok; done)
      | int k =>
        cases hu
        refine one rfl ?_ h1
        cases v <;> first | rfl | (exfalso; simp [Cell.okWide, Cell.ok, hP] at hok; done)
      | string =>
        cases hu
        refine one rfl ?_ h1
        cases v <;> first | rfl | (exfalso; simp [Cell.okWide, Cell.ok, hP] at hok; done)
      | slice e =>
        dsimp only at hu
        split at hu
        · cases hu
        · split at hu
          · cases hu
            refine one rfl ?_ h1
            cases v <;> first | rfl | (exfalso; simp [Cell.okWide, Cell.ok, hP] at hok; done)
          · cases hu
      | struct fs =>
        obtain ⟨cs, hv, _⟩ := hok
        exact agg (fieldsTy_agg hu) hv h1
      | array m e =>
        obtain ⟨cs, hv, _⟩ := hok
        dsimp only at hu
        split at hu
        · cases hu
        · split at hu
          · cases hu
            refine agg ?_ hv h1
            cases m <;> rfl
          · cases hu
      | _ => cases hu

theorem args_data {r : Reach} {b0 : Nat} : ∀ {ts : List TypeId} {us : List Ty} {vs : List Value} {ds : List (DataW H)} {ps : List MemPlace}, laidTys P ts = some us → DataW.TrodAll enc P w base sp held ts vs ds ps → (∀ (j : Nat) t v, ts[j]? = some t → vs[j]? = some v → Value.okWide P w r b0 t v) →
    ds.length = ts.length ∧ ∃ d : Tys.data us, DVals (allFz w) us d vs ∧ Tys.Wf us d
  | [], us, vs, ds, ps, hl, h, _ => by
    obtain ⟨rfl, rfl, rfl⟩ := trodAll_nil h
    cases hl
    exact ⟨rfl, (), rfl, trivial⟩
  | t :: ts, us, vs, ds, ps, hl, h, hok => by
    obtain ⟨v, vs', d, ds', p, q, rfl, rfl, rfl, h1, h2⟩ := trodAll_cons h
    unfold laidTys at hl
    split at hl
    · rename_i a r' ha hr
      cases hl
      obtain ⟨d1, k1, k2⟩ := trod_val ha h1 (hok 0 t v rfl rfl)
      obtain ⟨k3, d2, k4, k5⟩ := args_data hr h2 fun j t v ht hv => hok (j + 1) t v ht hv
      exact ⟨by simp [k3], (d1, d2), ⟨v, vs', rfl, k1, k4⟩, k2, k5⟩
    · cases hl

theorem stays {W W' : World} (hl : laidOutB P = true) (hb : Below W.heap.size W W') : ∀ {ts : List TypeId} {vs : List Value} {ds : List (DataW H)} {ps : List MemPlace}, ts.all (fun t => P.readableRec t && decide (t < P.types.size)) = true → DataW.TrodAll enc P W 0 (fun _ => true) true ts vs ds ps → (∀ x ∈ ps, x.block < W.heap.size) →
    DataW.TrodAll enc P W' 0 (fun b => decide (b < W.heap.size)) true ts vs ds ps
  | [], vs, ds, ps, _, h, _ => by
    obtain ⟨rfl, rfl, rfl⟩ := trodAll_nil h
    exact trodAll_mk0
  | t :: ts, vs, ds, ps, hr, h, hlt => by
    obtain ⟨v, vs', d, ds', p, q, rfl, rfl, rfl, h1, h2⟩ := trodAll_cons h
    simp only [List.all_cons, Bool.and_eq_true, decide_eq_true_eq] at hr
    exact ⟨p, q, Below.trod hl hr.1.1 hr.1.2 h1 hb (fun x hx => hlt x (by simp [hx])), stays hl hb (by simpa using hr.2) h2 (fun x hx => hlt x (by simp [hx])), rfl⟩
end

/-- A law: it gives true, and hands back what it got. -/
structure IsLaw (s : ChangeSpec) (n : Nat) : Prop where
  vars : s.vars = []
  res : ∀ (H : Type) (ds : List (DataW H)), ds.length = n → (s.fn H ds).results = [.lit (.bool true)] ∧ (s.fn H ds).args = ds ∧ (s.fn H ds).vars = []

theorem law_contract {P : Program} {f : FuncId} {fn : Func} {us : List Ty} {s : ChangeSpec} {bt : TypeId} {H : Type} {enc : TypeId × Value → H} {W : World} {base : Nat} {args : Array Value} {ds gs : List (DataW H)} {before : List MemPlace}
    (hs : IsLaw s fn.params.toList.length) (hl : laidOutB P = true) (hts : laidTys P fn.params.toList = some us) (hrd : fn.params.toList.all (fun t => P.readableRec t && decide (t < P.types.size)) = true) (hrt : fn.resultTypes = #[bt]) (hbt : P.underlying bt = some .bool)
    (k : ∀ d, Tys.Wf us d → Pure1 P f us [.bool] d (true, ()))
    (hval : ∀ (j : Nat) t v, fn.params[j]? = some t → args[j]? = some v → Value.okWide P W .any base t v) (hW : DataW.Whole enc P fn.params.toList s.vars false W args.toList ds gs before) :
    Calls P f args W fun e W' => ∃ v, e = .returned v ∧ s.post enc P fn false true false false W args v W' := by
  have hW' := hW
  obtain ⟨p, q, hA, hV, rfl, hfz, hnd⟩ := hW
  rw [hs.vars] at hV
  obtain ⟨rfl, rfl⟩ := trodVars_none hV
  obtain ⟨hlen, d, hd, hwf⟩ := args_data hts hA fun j t v ht hv => hval j t v (by simpa using ht) (by simpa using hv)
  have hF : Wide { fn := fun _ => True } := ⟨fun _ => trivial, rfl⟩
  have hc := k d hwf (allFz W) args W { fn := fun _ => True } 0 hF (allFz_ok W) hd
  refine (CallsIn.calls hc (fun _ d hd => by cases hd)).mono fun e W' hp => ?_
  obtain ⟨x, f', rfl, hx, _, _, _, hsz, hheap, hos, htape, hout⟩ := hp
  have hx : [x] = [Value.bool true] := hx
  cases hx
  have hb : Below W.heap.size W W' := ⟨hos, htape, hout, hsz, hheap⟩
  have hlt : ∀ x ∈ p ++ [], x.block < W.heap.size := fun x hx => hW'.lt x hx
  obtain ⟨r1, r2, r3⟩ := hs.res H (ds ++ []) (by simpa using hlen)
  refine ⟨_, rfl, ds, [], p ++ [], [], p, [], hW', ?_, ?_, ?_, ?_, fun h => by cases h⟩
  · rw [r1, hrt]
    exact ⟨[], [], shut_bool hbt _, trodAll_mk0, rfl⟩
  · rw [r2, List.append_nil]
    exact stays hl hb hrd hA fun x hx => hlt x (by simpa using hx)
  · rw [r3, hs.vars]
    rfl
  · exact World.keptBut_mono (fun x hx => ⟨hx, .inr (.inl (by simpa using hx))⟩) (hb.frame (· ∈ p ++ []))

end Go.Vm

/-
  Mathematics for functions and loops of data.
-/
namespace Go.Vm
open Go

/-! ### Trees -/

@[simp] theorem Tr.val_fin {R : Type} (r : R) : (Tr.fin r).val = some r := rfl
@[simp] theorem Tr.val_stop {R : Type} : (Tr.stop : Tr R).val = none := rfl
@[simp] theorem Tr.val_test {R : Type} (b : Bool) (y n : Tr R) : (Tr.test b y n).val = if b = true then y.val else n.val := by
  cases b <;> rfl

/-! ### Loops -/

theorem itr_go {A B C : Type} {step : A → Option (Out A B C)} (st : Nat → A) : ∀ (n m : Nat), (∀ i, i < n → step (st i) = some (.again (st (i + 1)))) → itr step (n + m) (st 0) = itr step m (st n) := by
  intro n
  induction n generalizing st with
  | zero => intro m _; rw [Nat.zero_add]
  | succ n ih =>
    intro m h
    have h0 := h 0 (by omega)
    rw [show n + 1 + m = (n + m) + 1 by omega, itr, h0]
    exact ih (fun i => st (i + 1)) m fun i hi => h (i + 1) (by omega)

theorem itr_brk {A B C : Type} {step : A → Option (Out A B C)} (st : Nat → A) {n m : Nat} {b : B} (h : ∀ i, i < n → step (st i) = some (.again (st (i + 1)))) (hb : step (st n) = some (.brk b)) (hm : n < m) : itr step m (st 0) = some (.inl b) := by
  obtain ⟨k, rfl⟩ : ∃ k, m = n + (k + 1) := ⟨m - n - 1, by omega⟩
  rw [itr_go st n (k + 1) h, itr, hb]

theorem itr_ret {A B C : Type} {step : A → Option (Out A B C)} (st : Nat → A) {n m : Nat} {c : C} (h : ∀ i, i < n → step (st i) = some (.again (st (i + 1)))) (hb : step (st n) = some (.ret c)) (hm : n < m) : itr step m (st 0) = some (.inr c) := by
  obtain ⟨k, rfl⟩ : ∃ k, m = n + (k + 1) := ⟨m - n - 1, by omega⟩
  rw [itr_go st n (k + 1) h, itr, hb]

/-- The first place from i on, of n, where it is so. -/
def first (bad : Nat → Bool) : Nat → Nat → Option Nat
  | 0, _ => none
  | n + 1, i => if bad i = true then some i else first bad n (i + 1)

theorem first_none {bad : Nat → Bool} : ∀ {n i : Nat}, first bad n i = none → ∀ j, i ≤ j → j < i + n → bad j = false
  | 0, i, _, j, h1, h2 => by omega
  | n + 1, i, h, j, h1, h2 => by
    simp only [first] at h
    split at h
    · cases h
    · rename_i hb
      rcases Nat.eq_or_lt_of_le h1 with rfl | h1
      · simpa using hb
      · exact first_none h j h1 (by omega)

theorem first_some {bad : Nat → Bool} : ∀ {n i k : Nat}, first bad n i = some k → i ≤ k ∧ k < i + n ∧ bad k = true ∧ ∀ j, i ≤ j → j < k → bad j = false
  | 0, i, k, h => by cases h
  | n + 1, i, k, h => by
    simp only [first] at h
    split at h
    · rename_i hb
      cases h
      exact ⟨Nat.le_refl _, by omega, hb, fun j h1 h2 => by omega⟩
    · rename_i hb
      obtain ⟨h1, h2, h3, h4⟩ := first_some h
      refine ⟨by omega, by omega, h3, fun j k1 k2 => ?_⟩
      rcases Nat.eq_or_lt_of_le k1 with rfl | k1
      · simpa using hb
      · exact h4 j k1 k2

theorem first_of_none {bad : Nat → Bool} : ∀ {n i : Nat}, (∀ j, i ≤ j → j < i + n → bad j = false) → first bad n i = none
  | 0, _, _ => rfl
  | n + 1, i, h => by
    have := h i (Nat.le_refl _) (by omega)
    simp only [first, this, Bool.false_eq_true, if_false]
    exact first_of_none fun j h1 h2 => h j (by omega) (by omega)

/-- A search: it is left at the first place where it is so. -/
theorem itr_search {A B C : Type} {step : A → Option (Out A B C)} (st : Nat → A) (bad : Nat → Bool) (r : Nat → C) {n m : Nat} {b : B} (h : ∀ i, i < n → step (st i) = if bad i = true then some (.ret (r i)) else some (.again (st (i + 1)))) (hb : step (st n) = some (.brk b)) (hm : n < m) :
    itr step m (st 0) = match first bad n 0 with
      | some k => some (.inr (r k))
      | none => some (.inl b) := by
  cases e : first bad n 0 with
  | none =>
    have hn := first_none e
    exact itr_brk st (fun i hi => by rw [h i hi, hn i (by omega) (by omega)]; rfl) hb hm
  | some k =>
    obtain ⟨h1, h2, h3, h4⟩ := first_some e
    refine itr_ret (n := k) st (fun i hi => by rw [h i (by omega), h4 i (by omega) hi]; rfl) ?_ (by omega)
    rw [h k (by omega), h3]; rfl

theorem lt_rounds {n : Nat} (h : n ≤ 9223372036854775807) : n < rounds := by unfold rounds; omega

/-! ### Whole numbers -/

theorem wrap64_bmod (n : Int) : wrap64 n = n.bmod 18446744073709551616 := by
  rw [wrap64_eq]
  have h1 : (2 : Int) ^ 64 = 18446744073709551616 := by decide
  have h2 : (2 : Int) ^ (64 - 1) = 9223372036854775808 := by decide
  simp only [IntKind.wrap, IntKind.bits, IntKind.signed, h1, h2, Bool.true_and, decide_eq_true_eq, Int.bmod]
  omega

theorem wrap64_id {n : Int} (h1 : -9223372036854775808 ≤ n) (h2 : n ≤ 9223372036854775807) : wrap64 n = n := by
  rw [wrap64_bmod, Int.bmod]; omega

theorem wrap64_nat {n : Nat} (h : n ≤ 9223372036854775806) : wrap64 ((n : Int) + 1) = ((n + 1 : Nat) : Int) := by
  rw [wrap64_id] <;> omega

end Go.Vm

/-
  Mathematics: the greatest common divisor, greatest sizes.
-/
namespace Go.Vm
open Go

/-! ### Euclid -/

def euc (a b : Int) : Int := if _h : b = 0 then a else euc b (a.tmod b)
termination_by b.natAbs
decreasing_by
  rw [Int.natAbs_tmod]
  exact Nat.mod_lt _ (by omega)

theorem euc_zero (a : Int) : euc a 0 = a := by rw [euc]; simp
theorem euc_step (a : Int) {b : Int} (h : b ≠ 0) : euc a b = euc b (a.tmod b) := by rw [euc]; simp [h]

theorem euc_abs (a b : Int) : (euc a b).natAbs = Nat.gcd a.natAbs b.natAbs := by
  induction h : b.natAbs using Nat.strongRecOn generalizing a b with
  | ind n ih =>
    by_cases hb : b = 0
    · subst hb; rw [euc_zero, ← h]; simp
    · have hlt : (a.tmod b).natAbs < n := by rw [Int.natAbs_tmod, ← h]; exact Nat.mod_lt _ (by omega)
      rw [euc_step a hb, ih _ hlt b _ rfl, Int.natAbs_tmod, h, Nat.gcd_comm, ← Nat.gcd_rec, Nat.gcd_comm]

theorem itr_euc {A B C : Type} {step : A → Option (Out A B C)} (st : Int → Int → A) (r : Int → B)
    (hs : ∀ a b, b ≠ 0 → step (st a b) = some (.again (st b (a.tmod b)))) (hb : ∀ a, step (st a 0) = some (.brk (r a))) :
    ∀ (m : Nat) (a b : Int), b.natAbs < m → itr step m (st a b) = some (.inl (r (euc a b))) := by
  intro m
  induction m with
  | zero => intro a b h; omega
  | succ m ih =>
    intro a b h
    by_cases h0 : b = 0
    · subst h0; rw [itr, hb, euc_zero]
    · rw [itr, hs a b h0, euc_step a h0]
      refine ih _ _ ?_
      rw [Int.natAbs_tmod]
      have := Nat.mod_lt a.natAbs (show b.natAbs > 0 by omega)
      omega

theorem euc_gcd (a b : Int) (h1 : -9223372036854775807 ≤ a) (h2 : a ≤ 9223372036854775807) (h3 : -9223372036854775807 ≤ b) (h4 : b ≤ 9223372036854775807) :
    max (euc a b) (wrap64 (-euc a b)) = (Int.gcd a b : Int) := by
  have e := euc_abs a b
  have hg : Nat.gcd a.natAbs b.natAbs ≤ 9223372036854775807 := by
    by_cases hb : b = 0
    · subst hb; simp; omega
    · exact Nat.le_trans (Nat.gcd_le_right _ (by omega)) (by omega)
  have e' : Int.gcd a b = (euc a b).natAbs := by rw [e]; rfl
  rw [e', wrap64_id (by omega) (by omega)]
  omega

/-- Quotients in lowest terms. -/
theorem low_cross (a b : Int) : (a.tdiv (Int.gcd a b)) * b = a * (b.tdiv (Int.gcd a b)) := by
  have h1 := Int.tdiv_mul_cancel (Int.gcd_dvd_left (a := a) (b := b))
  have h2 := Int.tdiv_mul_cancel (Int.gcd_dvd_right (a := a) (b := b))
  have h3 : (a.tdiv (Int.gcd a b)) * ((b.tdiv (Int.gcd a b)) * (Int.gcd a b)) = ((a.tdiv (Int.gcd a b)) * (Int.gcd a b)) * (b.tdiv (Int.gcd a b)) := by
    rw [Int.mul_assoc, Int.mul_comm (Int.gcd a b : Int) (b.tdiv _)]
  rw [h1, h2] at h3
  exact h3

theorem low_pos {a b : Int} (h : 0 < b) : 0 < b.tdiv (Int.gcd a b) := by
  have h2 := Int.tdiv_mul_cancel (Int.gcd_dvd_right (a := a) (b := b))
  have hg : (0 : Int) ≤ Int.gcd a b := Int.natCast_nonneg _
  rcases Int.lt_trichotomy (b.tdiv (Int.gcd a b)) 0 with h3 | h3 | h3
  · have := Int.mul_nonneg (show 0 ≤ -(b.tdiv (Int.gcd a b)) by omega) hg
    rw [Int.neg_mul, h2] at this; omega
  · rw [h3] at h2; omega
  · exact h3

theorem gcd_pos_right {a b : Int} (h : b ≠ 0) : (Int.gcd a b : Int) ≠ 0 := by
  have := Int.gcd_pos_of_ne_zero_right a h
  omega

theorem tdiv_abs_le (a : Int) (g : Nat) : (a.tdiv g).natAbs ≤ a.natAbs := by
  rw [Int.natAbs_tdiv]; exact Nat.div_le_self _ _

end Go.Vm

/-
  Numbers of any size: digits to the base of a thousand million, the lowest first.
-/
namespace Go.Vm
open Go

def pw : Nat → Int
  | 0 => 1
  | n + 1 => 1000000000 * pw n

theorem pw_pos : ∀ n, 0 < pw n
  | 0 => by simp [pw]
  | n + 1 => by have := pw_pos n; simp only [pw]; omega

theorem pw_add : ∀ m n, pw (m + n) = pw m * pw n
  | 0, n => by simp [pw]
  | m + 1, n => by
    rw [Nat.add_right_comm, pw, pw, pw_add m n, Int.mul_assoc]

theorem pw_le {m n : Nat} (h : m ≤ n) : pw m ≤ pw n := by
  induction n with
  | zero => have : m = 0 := by omega
            subst this; exact Int.le_refl _
  | succ n ih =>
    rcases Nat.lt_or_eq_of_le h with h1 | rfl
    · have := ih (by omega); have := pw_pos n; simp only [pw]; omega
    · exact Int.le_refl _

/-- The value of digits. -/
def dval : List Int → Int
  | [] => 0
  | d :: r => d + 1000000000 * dval r

def Dg (l : List Int) : Prop := ∀ d ∈ l, 0 ≤ d ∧ d < 1000000000

theorem Dg.nil : Dg [] := fun d h => by cases h

theorem Dg.tail {d : Int} {l : List Int} (h : Dg (d :: l)) : Dg l := fun x hx => h x (List.mem_cons_of_mem _ hx)

theorem Dg.head {d : Int} {l : List Int} (h : Dg (d :: l)) : 0 ≤ d ∧ d < 1000000000 := h d (List.mem_cons_self ..)

theorem Dg.append {l r : List Int} (h : Dg l) (k : Dg r) : Dg (l ++ r) := fun d hd => (List.mem_append.1 hd).elim (h d) (k d)

theorem Dg.push {l : List Int} (h : Dg l) {d : Int} (h0 : 0 ≤ d) (h1 : d < 1000000000) : Dg (l ++ [d]) := h.append fun x hx => by
  rw [List.mem_singleton] at hx; subst hx; exact ⟨h0, h1⟩

theorem Dg.take {l : List Int} (h : Dg l) (n : Nat) : Dg (l.take n) := fun d hd => h d (List.mem_of_mem_take hd)

theorem Dg.getD {l : List Int} (h : Dg l) (i : Nat) : 0 ≤ l.getD i 0 ∧ l.getD i 0 < 1000000000 := by
  by_cases hi : i < l.length
  · rw [show l.getD i 0 = l[i] by simp [List.getD, hi]]
    exact h _ (List.getElem_mem hi)
  · rw [show l.getD i 0 = 0 by simp [List.getD, List.getElem?_eq_none (Nat.le_of_not_lt hi)]]
    omega

theorem Dg.set {l : List Int} (h : Dg l) {i : Nat} {d : Int} (h0 : 0 ≤ d) (h1 : d < 1000000000) : Dg (l.set i d) := fun x hx => by
  rcases List.mem_or_eq_of_mem_set hx with hx | rfl
  · exact h x hx
  · exact ⟨h0, h1⟩

theorem dv_nonneg : ∀ {l : List Int}, Dg l → 0 ≤ dval l
  | [], _ => Int.le_refl _
  | d :: r, h => by
    have h1 := h.head; have h2 := dv_nonneg h.tail
    simp only [dval]; omega

theorem dv_lt : ∀ {l : List Int}, Dg l → dval l < pw l.length
  | [], _ => by simp [dval, pw]
  | d :: r, h => by
    have h1 := h.head; have h2 := dv_lt h.tail
    simp only [dval, List.length_cons, pw]; omega

theorem dv_append : ∀ (a b : List Int), dval (a ++ b) = dval a + pw a.length * dval b
  | [], b => by simp [dval, pw]
  | d :: r, b => by
    simp only [List.cons_append, dval, dv_append r b, List.length_cons, pw, Int.mul_add, Int.mul_assoc]
    omega

theorem dv_push (l : List Int) (d : Int) : dval (l ++ [d]) = dval l + pw l.length * d := by
  rw [dv_append]; simp [dval]

theorem take_push (l : List Int) {i : Nat} (h : i < l.length) : l.take (i + 1) = l.take i ++ [l.getD i 0] := by
  rw [List.take_add_one, List.getElem?_eq_getElem h]; simp [List.getD, h]

theorem dv_take (l : List Int) (i : Nat) : dval (l.take (i + 1)) = dval (l.take i) + pw i * l.getD i 0 := by
  by_cases h : i < l.length
  · rw [take_push l h, dv_push, List.length_take, Nat.min_eq_left (by omega)]
  · rw [List.take_of_length_le (by omega), List.take_of_length_le (by omega)]
    simp [List.getD, List.getElem?_eq_none (Nat.le_of_not_lt h)]

theorem dv_take_all (l : List Int) {n : Nat} (h : l.length ≤ n) : dval (l.take n) = dval l := by rw [List.take_of_length_le h]

/-! ### Without the zeros at the end -/

def trimN (l : List Int) : Nat → Nat
  | 0 => 0
  | k + 1 => if l.getD k 0 = 0 then trimN l k else k + 1

theorem trimN_le (l : List Int) : ∀ k, trimN l k ≤ k
  | 0 => Nat.le_refl _
  | k + 1 => by
    unfold trimN
    split
    · have := trimN_le l k; omega
    · exact Nat.le_refl _

theorem trimN_zero (l : List Int) : ∀ k i, trimN l k ≤ i → i < k → l.getD i 0 = 0
  | 0, i, _, h => by omega
  | k + 1, i, h1, h2 => by
    unfold trimN at h1
    split at h1
    · rename_i h
      by_cases e : i = k
      · rw [e]; exact h
      · exact trimN_zero l k i h1 (by omega)
    · omega

theorem trimN_last (l : List Int) : ∀ k m, trimN l k = m + 1 → l.getD m 0 ≠ 0
  | 0, m, h => by simp [trimN] at h
  | k + 1, m, h => by
    unfold trimN at h
    split at h
    · exact trimN_last l k m h
    · rename_i h0
      have : m = k := by omega
      rw [this]; exact h0

theorem dv_trim (l : List Int) : ∀ k, dval (l.take (trimN l k)) = dval (l.take k)
  | 0 => rfl
  | k + 1 => by
    unfold trimN
    split
    · rename_i h
      rw [dv_trim l k, dv_take, h, Int.mul_zero, Int.add_zero]
    · rfl

/-! ### The digits of a number -/

def dig (n : Nat) : List Int :=
  if _h : n = 0 then [] else ((n % 1000000000 : Nat) : Int) :: dig (n / 1000000000)
termination_by n
decreasing_by omega

theorem dig_zero : dig 0 = [] := by rw [dig]; simp

theorem dig_pos {n : Nat} (h : n ≠ 0) : dig n = ((n % 1000000000 : Nat) : Int) :: dig (n / 1000000000) := by
  rw [dig]; simp [h]

theorem dig_dv (n : Nat) : dval (dig n) = n := by
  induction n using Nat.strongRecOn with
  | _ n ih =>
    by_cases h : n = 0
    · subst h; rw [dig_zero]; rfl
    · rw [dig_pos h, dval, ih (n / 1000000000) (by omega)]
      omega

theorem dig_Dg (n : Nat) : Dg (dig n) := by
  induction n using Nat.strongRecOn with
  | _ n ih =>
    by_cases h : n = 0
    · subst h; rw [dig_zero]; exact Dg.nil
    · rw [dig_pos h]
      intro d hd
      rcases List.mem_cons.1 hd with rfl | hd
      · omega
      · exact ih _ (by omega) d hd

def Can (l : List Int) : Prop := ∀ m, l.length = m + 1 → l.getD m 0 ≠ 0

theorem Can.tail {d : Int} {l : List Int} (h : Can (d :: l)) : Can l := fun m hm => by
  have := h (m + 1) (by simp [hm])
  simpa [List.getD] using this

theorem Can.pos : ∀ {l : List Int}, Dg l → Can l → l ≠ [] → 0 < dval l
  | [], _, _, h => absurd rfl h
  | [d], hd, hc, _ => by
    have := hc 0 rfl
    have h1 := hd.head
    simp [List.getD] at this
    simp only [dval]; omega
  | d :: e :: r, hd, hc, _ => by
    have := Can.pos hd.tail hc.tail (by simp)
    have h1 := hd.head
    rw [dval]; omega

theorem dig_of : ∀ {l : List Int}, Dg l → Can l → l = dig (dval l).toNat
  | [], _, _ => by simp [dval, dig_zero]
  | d :: r, hd, hc => by
    have h0 := Can.pos hd hc (by simp)
    have h1 := hd.head
    have h2 := dv_nonneg hd.tail
    have e : dval (d :: r) = d + 1000000000 * dval r := rfl
    rw [dig_pos (by omega)]
    have e1 : (((dval (d :: r)).toNat % 1000000000 : Nat) : Int) = d := by omega
    have e2 : (dval (d :: r)).toNat / 1000000000 = (dval r).toNat := by omega
    rw [e1, e2, ← dig_of hd.tail hc.tail]

theorem dig_Can (n : Nat) : Can (dig n) := by
  induction n using Nat.strongRecOn with
  | _ n ih =>
    by_cases h : n = 0
    · subst h; rw [dig_zero]; intro m hm; simp at hm
    · rw [dig_pos h]
      intro m hm
      by_cases h2 : n / 1000000000 = 0
      · rw [h2, dig_zero] at hm ⊢
        have : m = 0 := by simpa using hm.symm
        subst this
        simp only [List.getD, List.getElem?_cons_zero, Option.getD_some]
        omega
      · cases m with
        | zero => rw [dig_pos h2] at hm; simp at hm
        | succ m =>
          have := ih (n / 1000000000) (by omega) m (by simpa using hm)
          simpa [List.getD] using this

theorem trim_dig {l : List Int} (h : Dg l) : l.take (trimN l l.length) = dig (dval l).toNat := by
  have hle := trimN_le l l.length
  have hc : Can (l.take (trimN l l.length)) := fun m hm => by
    rw [List.length_take, Nat.min_eq_left hle] at hm
    have := trimN_last l _ m hm
    rw [show (l.take (trimN l l.length)).getD m 0 = l.getD m 0 by
      simp only [List.getD]; rw [List.getElem?_take_of_lt (by omega)]]
    exact this
  rw [dig_of (h.take _) hc, dv_trim, dv_take_all l (Nat.le_refl _)]

theorem dig_nil {n : Nat} : dig n = [] ↔ n = 0 := by
  constructor
  · intro h
    by_cases e : n = 0
    · exact e
    · rw [dig_pos e] at h; cases h
  · rintro rfl; exact dig_zero

theorem dig_len {n k : Nat} (h : (n : Int) < pw k) : (dig n).length ≤ k := by
  rcases Nat.lt_or_ge k (dig n).length with h1 | h1
  · exfalso
    obtain ⟨m, hm⟩ : ∃ m, (dig n).length = m + 1 := ⟨(dig n).length - 1, by omega⟩
    have h2 := dig_Can n m hm
    have h3 := dv_take (dig n) m
    rw [dv_take_all _ (by omega), dig_dv] at h3
    have h4 := dv_nonneg ((dig_Dg n).take m)
    have h5 := (dig_Dg n).getD m
    have h6 : pw k ≤ pw m := pw_le (by omega)
    have h7 : pw m * 1 ≤ pw m * (dig n).getD m 0 := Int.mul_le_mul_of_nonneg_left (by omega) (Int.le_of_lt (pw_pos m))
    omega
  · exact h1

theorem dig_len_pw (n : Nat) : (n : Int) < pw (dig n).length := by
  have := dv_lt (dig_Dg n); rwa [dig_dv] at this

/-! ### Signs -/

def enc (z : Int) : Int × List Int × PUnit := (z.sign, dig z.natAbs, ())

/-! ### Products -/

theorem dv_set : ∀ {l : List Int} {k : Nat} (d : Int), k < l.length → dval (l.set k d) = dval l + pw k * (d - l.getD k 0)
  | [], k, d, h => by simp at h
  | e :: r, 0, d, _ => by simp [dval, pw, List.getD]; omega
  | e :: r, k + 1, d, h => by
    have ih := dv_set (l := r) (k := k) d (by simpa using h)
    have e1 : (e :: r).getD (k + 1) 0 = r.getD k 0 := by simp [List.getD]
    rw [List.set_cons_succ, dval, ih, e1, dval, pw, Int.mul_add, Int.mul_assoc]
    omega

theorem getD_set_ne {l : List Int} {k j : Nat} {d : Int} (h : k ≠ j) : (l.set k d).getD j 0 = l.getD j 0 := by
  simp only [List.getD, List.getElem?_set, if_neg h]

theorem dg_mul {x y : Int} (hx : 0 ≤ x ∧ x < 1000000000) (hy : 0 ≤ y ∧ y < 1000000000) : 0 ≤ x * y ∧ x * y ≤ 999999998000000001 := by
  refine ⟨Int.mul_nonneg hx.1 hy.1, ?_⟩
  have : x * y ≤ 999999999 * 999999999 := Int.mul_le_mul (by omega) (by omega) (by omega) (by omega)
  omega

/-- One digit times all of the other number's. -/
def mI (x : Int) (b : List Int) (i : Nat) (buf : List Int) : Nat → List Int × Int
  | 0 => (buf, 0)
  | j + 1 => ((mI x b i buf j).1.set (i + j) (((mI x b i buf j).1.getD (i + j) 0 + x * b.getD j 0 + (mI x b i buf j).2) % 1000000000), ((mI x b i buf j).1.getD (i + j) 0 + x * b.getD j 0 + (mI x b i buf j).2) / 1000000000)

theorem mI_len (x : Int) (b : List Int) (i : Nat) (buf : List Int) : ∀ j, (mI x b i buf j).1.length = buf.length
  | 0 => rfl
  | j + 1 => by simp [mI, mI_len x b i buf j]

theorem mI_Dg {x : Int} {b : List Int} {i : Nat} {buf : List Int} (hx : 0 ≤ x ∧ x < 1000000000) (hb : Dg b) (h : Dg buf) : ∀ j, Dg (mI x b i buf j).1 ∧ 0 ≤ (mI x b i buf j).2 ∧ (mI x b i buf j).2 < 1000000000
  | 0 => ⟨h, by simp [mI]⟩
  | j + 1 => by
    obtain ⟨h1, h2⟩ := mI_Dg (i := i) hx hb h j
    have h3 := h1.getD (i + j)
    have h4 := dg_mul hx (hb.getD j)
    exact ⟨h1.set (by omega) (by omega), by simp only [mI]; omega⟩

theorem mI_far (x : Int) (b : List Int) (i : Nat) (buf : List Int) : ∀ (j k : Nat), i + j ≤ k → (mI x b i buf j).1.getD k 0 = buf.getD k 0
  | 0, _, _ => rfl
  | j + 1, k, h => by
    rw [mI]
    show ((mI x b i buf j).1.set (i + j) _).getD k 0 = _
    rw [getD_set_ne (by omega), mI_far x b i buf j k (by omega)]

theorem mI_dv (x : Int) (b : List Int) (i : Nat) (buf : List Int) : ∀ j, i + j ≤ buf.length → dval (mI x b i buf j).1 + pw (i + j) * (mI x b i buf j).2 = dval buf + pw i * (x * dval (b.take j))
  | 0, _ => by simp [mI, dval]
  | j + 1, h => by
    have ih := mI_dv x b i buf j (by omega)
    rw [mI]
    dsimp only
    rw [← Nat.add_assoc, dv_set _ (by rw [mI_len]; omega), dv_take, pw]
    generalize hg : (mI x b i buf j).1.getD (i + j) 0 = g at *
    generalize (mI x b i buf j).2 = c at *
    generalize hs : g + x * b.getD j 0 + c = s at *
    have e : s % 1000000000 = s - 1000000000 * (s / 1000000000) := by omega
    have e2 : pw (i + j) * (s % 1000000000 - g) + 1000000000 * pw (i + j) * (s / 1000000000) = pw (i + j) * (s - g) := by
      rw [e, Int.mul_sub, Int.mul_sub, Int.mul_sub, Int.mul_comm 1000000000 (pw (i + j)), Int.mul_assoc]; omega
    have e3 : pw (i + j) * (s - g) = pw (i + j) * (x * b.getD j 0) + pw (i + j) * c := by
      rw [← Int.mul_add]; congr 1; omega
    have e4 : pw (i + j) * (x * b.getD j 0) = pw i * (x * (pw j * b.getD j 0)) := by
      rw [pw_add, Int.mul_assoc, Int.mul_left_comm (pw j)]
    rw [Int.mul_add x, Int.mul_add (pw i)]
    omega

/-- All digits times all digits. -/
def mO (a b : List Int) : Nat → List Int
  | 0 => List.replicate (a.length + b.length + 1) 0
  | i + 1 => (mI (a.getD i 0) b i (mO a b i) b.length).1.set (i + b.length) ((mI (a.getD i 0) b i (mO a b i) b.length).1.getD (i + b.length) 0 + (mI (a.getD i 0) b i (mO a b i) b.length).2)

theorem mO_len (a b : List Int) : ∀ i, (mO a b i).length = a.length + b.length + 1
  | 0 => by simp [mO]
  | i + 1 => by simp [mO, mI_len, mO_len a b i]

theorem mO_far (a b : List Int) : ∀ (i k : Nat), i + b.length ≤ k → (mO a b i).getD k 0 = 0
  | 0, k, _ => by
    simp only [mO, List.getD, List.getElem?_replicate]
    split <;> rfl
  | i + 1, k, h => by
    rw [mO, getD_set_ne (by omega), mI_far _ _ _ _ _ _ (by omega), mO_far a b i k (by omega)]

theorem mO_get (a b : List Int) (i : Nat) : (mI (a.getD i 0) b i (mO a b i) b.length).1.getD (i + b.length) 0 = 0 := by
  rw [mI_far _ _ _ _ _ _ (Nat.le_refl _), mO_far a b i _ (Nat.le_refl _)]

theorem mO_Dg {a b : List Int} (ha : Dg a) (hb : Dg b) : ∀ i, Dg (mO a b i)
  | 0 => fun d hd => by have := List.eq_of_mem_replicate hd; subst this; omega
  | i + 1 => by
    obtain ⟨h1, h2, h3⟩ := mI_Dg (i := i) (ha.getD i) hb (mO_Dg ha hb i) b.length
    rw [mO, mO_get]
    exact h1.set (by omega) (by omega)

theorem dv_zeros : ∀ n, dval (List.replicate n 0) = 0
  | 0 => rfl
  | n + 1 => by simp [List.replicate_succ, dval, dv_zeros n]

theorem mO_dv (a b : List Int) : ∀ i, i ≤ a.length → dval (mO a b i) = dval (a.take i) * dval b
  | 0, _ => by simp [mO, dv_zeros, dval]
  | i + 1, h => by
    have ih := mO_dv a b i (by omega)
    have hm := mI_dv (a.getD i 0) b i (mO a b i) b.length (by rw [mO_len]; omega)
    rw [mO, dv_set _ (by rw [mI_len, mO_len]; omega), mO_get, dv_take, Int.add_mul]
    rw [ih, List.take_of_length_le (Nat.le_refl b.length)] at hm
    rw [Int.zero_add, Int.sub_zero, hm, Int.mul_assoc]

end Go.Vm
