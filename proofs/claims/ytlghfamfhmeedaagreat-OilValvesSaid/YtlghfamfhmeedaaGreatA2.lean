/- A machine over virtual values that stands for the model's: part 2. -/
import Derived.Test.YtlghfamfhmeedaaGreatA1
import Derived.MapKept
import Derived.Laws.IdiomStrings
import Derived.Laws.IdiomRangeMap
import Derived.RangeFuncBound
import Derived.CallAlone
import Derived.LoopNIn
import Derived.RangeFuncCalls
set_option linter.unusedVariables false
set_option linter.unusedSimpArgs false

/-
  Values as data, where boxes are looked through.
-/
namespace Go.Vm
open Go
def qb4 (φ:Map) (w:World) (ns:List Nat):Frozen:=fun k =>
  match φ.fz k with
  | some c=>some c
  | none=>match ns.any fun b=>match φ b with | some q=>Nat.beq q.1 k | none=>false with
    | true=>match w.heap[k]? with
      | some (.cells c _ _)=>some c
      | _=>none
    | false=>none
def FzOk (f:Frozen) (w:World):Prop:=∀ k c, f k = some c → ∃ cs t z, w.heap[k]? = some (.cells cs t z) ∧ Begins c cs
theorem qf1 {φ:Map} {w:World} {ns:List Nat} {k:Nat} {c:Array Value} (h:φ.fz k = some c):qb4 φ w ns k = some c:=by
  simp only [qb4, h]
theorem qdt {φ:Map} {w:World} {ns:List Nat}:φ.fz.le (qb4 φ w ns):=fun _ c h=>⟨c, qf1 h, Begins.refl c⟩
theorem qcl {φ:Map} {w:World} {ns:List Nat} {k:Nat} {c:Array Value} (h:qb4 φ w ns k = some c):φ.fz k = some c ∨ ((∃ b q, b ∈ ns ∧ φ b = some q ∧ q.1 = k) ∧ ∃ t z, w.heap[k]? = some (.cells c t z)):=by
  simp only [qb4] at h
  split at h
  · rename_i c' hc; cases h; exact .inl hc
  · split at h
    · rename_i ha
      rw [List.any_eq_true] at ha
      obtain ⟨b, hb, hq⟩:=ha
      split at hq
      · rename_i q hq2
        split at h
        · rename_i c' t z hw
          cases h
          exact .inr ⟨⟨b, q, hb, hq2, Nat.eq_of_beq_eq_true hq⟩, t, z, hw⟩
        · cases h
      · cases hq
    · cases h
theorem qhw {φ:Map} {w:World} {ns:List Nat} {b:Nat} {q:Nat×Nat×Nat} (hb:b ∈ ns) (hq:φ b = some q) (hn:φ.fz q.1 = none) {c:Array Value} {t:TypeId} {z:Nat×Nat} (hw:w.heap[q.1]? = some (.cells c t z)):qb4 φ w ns q.1 = some c:=by
  have:(ns.any fun b=>match φ b with | some q'=>Nat.beq q'.1 q.1 | none=>false) = true:=by
    rw [List.any_eq_true]
    refine ⟨b, hb, ?_⟩
    rw [hq]; exact Nat.beq_refl _
  simp only [qb4, hn, this, hw]
theorem qbQ {φ:Map} {w:World} {ns ms:List Nat} (h:∀ b ∈ ns, b ∈ ms):(qb4 φ w ns).le (qb4 φ w ms):=by
  intro k c hc
  refine ⟨c, ?_, Begins.refl c⟩
  cases hf:φ.fz k with
  | some c' =>
    have:=qf1 (w:=w) (ns:=ns) hf
    rw [hc] at this; cases this
    exact qf1 hf
  | none =>
    rcases qcl hc with h1 | ⟨⟨b, q, h1, h2, h3⟩, t, z, h4⟩
    · rw [hf] at h1; cases h1
    · subst h3
      exact qhw (h b h1) h2 hf h4
theorem qd2 {φ:Map} {h:H} {w:World} (hr:HRel φ h w) (ns:List Nat):FzOk (qb4 φ w ns) w:=by
  intro k c hc
  rcases qcl hc with h1 | ⟨_, t, z, h4⟩
  · exact hr.fz k c h1
  · exact ⟨c, t, z, h4, Begins.refl c⟩
theorem qlm {φ:Map} {h h':H} {w:World} {a:VA} {len size:Nat} {cap:Option Nat} {q:Rows} {k:Nat×Nat×Nat} (e:elems h (.sl (some a) len cap) size = some (q, h')) (hh:h'.Holds) (hr:HRel φ h w) (hk:φ a.b = some k) :
    h.Holds ∧ h.Same h' ∧ ∃ c tt fz el r, w.heap[k.1]? = some (.cells c tt fz) ∧ h.get a.b = some (.box el r) ∧ q.len = len ∧ RowsIn φ size q (offA c (k.2.2 + (a.i * a.e + a.o))):=by
  obtain ⟨hh1, hs⟩:=qax e hh
  refine ⟨hh1, hs, ?_⟩
  unfold elems at e
  dsimp only at e
  split at e
  · rename_i el rr hg
    split at e
    · rename_i he
      have he':el = a.e:=Nat.eq_of_beq_eq_true he
      obtain ⟨k', o, hk', ho, hrel⟩:=hr.obj _ _ hg (by simp)
      rw [hk] at hk'; cases hk'
      cases o with
      | cells c tt fz =>
        obtain ⟨hri, hcz, hfz⟩:=hrel
        refine ⟨c, tt, fz, el, rr, ho, hg, ?_⟩
        split at e
        · rename_i hes hao
          have hes':el = size:=Nat.eq_of_beq_eq_true hes
          have key:∀ (r2:Rows), r2.len = len → (∀ j, r2.get j = if j < len then rr.get (a.i + j) else none) → r2.len = len ∧ RowsIn φ size r2 (offA c (k.2.2 + (a.i * a.e + a.o))):=by
            intro r2 hlen hget
            refine ⟨hlen, fun i row hi=>?_⟩
            rw [hget] at hi
            split at hi
            · obtain ⟨q1, q2⟩:=hri _ _ hi
              refine ⟨by rw [q1, hes'], fun o v hv=>?_⟩
              obtain ⟨x, hx, hvx⟩:=q2 o v hv
              refine ⟨x, ?_, hvx⟩
              rw [qcA] at hx ⊢
              rw [← hx, hes', hao, ← he', hes', Nat.add_mul]
              congr 1; omega
            · cases hi
          split at e
          · rename_i l
            split at e
            · rename_i h1 ht
              cases e
              obtain ⟨_, t2, _⟩:=H.test_holds ht hh
              have hle:=Nat.le_of_ble_eq_true t2
              exact key _ (by simp [Rows.len]; omega) (fun j=>by simp only [Rows.get, List.getElem?_take, List.getElem?_drop])
            · cases e
          · rename_i m f
            split at e
            · rename_i h1 ht
              cases e
              obtain ⟨_, t2, _⟩:=H.test_holds ht hh
              have hle:=Nat.le_of_ble_eq_true t2
              refine key _ rfl (fun j=>?_)
              simp only [Rows.get]
              by_cases hj:j < len
              · rw [if_pos hj, if_pos hj, if_pos (by omega)]
              · rw [if_neg hj, if_neg hj]
            · cases e
          · rename_i t l
            have cutGet:∀ (i n j:Nat), (Rows.ty t ((l.drop i).take n)).get j = if j < n then (Rows.ty t l).get (i + j) else none:=by
              intro i n j
              simp only [Rows.get, List.getElem?_take, List.getElem?_drop]
              split <;> simp
            split at e
            · rename_i hai
              split at e
              · rename_i h1 ht
                cases e
                obtain ⟨_, t2, _⟩:=H.test_holds ht hh
                have hle:=Nat.eq_of_beq_eq_true t2
                refine key _ (by simp [Rows.len, hle]) (fun j=>?_)
                have:=cutGet 0 len j
                rw [List.drop_zero, hle, List.take_length] at this
                rw [hai, hle]; exact this
              · rename_i h1 ht
                split at e
                · rename_i h2 ht2
                  cases e
                  obtain ⟨_, t2, _⟩:=H.test_holds ht2 hh
                  have hle:=Nat.le_of_ble_eq_true t2
                  refine key _ (by simp [Rows.len]; omega) (fun j=>?_)
                  have:=cutGet 0 len j
                  rw [List.drop_zero] at this
                  rw [hai]; exact this
                · cases e
              · cases e
            · rename_i i hai
              split at e
              · rename_i h1 ht
                cases e
                obtain ⟨_, t2, _⟩:=H.test_holds ht hh
                have hle:=Nat.le_of_ble_eq_true t2
                refine key _ (by simp [Rows.len]; omega) (fun j=>?_)
                rw [hai]; exact cutGet _ _ _
              · cases e
        · split at e
          · rename_i row hrow
            split at e
            · rename_i h1 ht
              have tail:h1.Holds → a.o + len * size ≤ row.length ∧ (Rows.list (chunks len size (row.drop a.o))).len = len ∧ RowsIn φ size (.list (chunks len size (row.drop a.o))) (offA c (k.2.2 + (a.i * a.e + a.o))):=by
               intro hh1
               obtain ⟨_, t2, _⟩:=H.test_holds ht hh1
               have hle:=Nat.le_of_ble_eq_true t2
               obtain ⟨q1, q2⟩:=hri _ _ hrow
               refine ⟨hle, by simp [Vm.chunks, Rows.len], fun i r2 hi=>?_⟩
               simp only [Rows.get, Vm.chunks, List.getElem?_map] at hi
               rcases Nat.lt_or_ge i len with hil | hil
               · rw [List.getElem?_range hil] at hi
                 simp only [Option.map_some, Option.some.injEq] at hi
                 subst hi
                 have hm:(i + 1) * size ≤ len * size:=Nat.mul_le_mul_right size hil
                 rw [Nat.add_mul] at hm
                 refine ⟨by simp; omega, fun o v hv=>?_⟩
                 rw [List.getElem?_take] at hv
                 split at hv
                 · rw [List.getElem?_drop, List.getElem?_drop] at hv
                   obtain ⟨x, hx, hvx⟩:=q2 _ v hv
                   refine ⟨x, ?_, hvx⟩
                   rw [qcA] at hx ⊢
                   rw [← hx, ← he']
                   congr 1; omega
                 · cases hv
               · rw [List.getElem?_eq_none (by simpa using hil)] at hi
                 simp at hi
              split at e
              · rename_i kk l hu
                have fin:∀ {l2:List Int}, a.o + len * size ≤ row.length → l2 = l.take len → RowsIn φ size (.list (chunks len size (row.drop a.o))) (offA c (k.2.2 + (a.i * a.e + a.o))) → (Rows.ty (.int kk) l2).len = len ∧ RowsIn φ size (.ty (.int kk) l2) (offA c (k.2.2 + (a.i * a.e + a.o))):=by
                  intro l2 hle hl2 he
                  obtain ⟨g1, g2, g3, g4⟩:=qhI hu hle
                  subst hl2
                  refine ⟨by simp [Rows.len]; omega, fun i row' hi=>?_⟩
                  rw [g4] at hi
                  exact he i row' hi
                split at e
                · rename_i h2 ht2
                  cases e
                  obtain ⟨u1, u2, u3⟩:=H.test_holds ht2 hh
                  obtain ⟨q1, q2, q3⟩:=tail u1
                  have hll:=Nat.eq_of_beq_eq_true u2
                  exact fin q1 (by rw [hll, List.take_length]) q3
                · rename_i h2 ht2
                  cases e
                  obtain ⟨u1, u2, u3⟩:=H.test_holds ht2 hh
                  obtain ⟨q1, q2, q3⟩:=tail u1
                  exact fin q1 rfl q3
                · cases e
              · cases e
                obtain ⟨q1, q2, q3⟩:=tail hh
                exact ⟨q2, q3⟩
            · cases e
          · cases e
      | _=>exact hrel.elim
    · obtain ⟨rfl, rfl, _⟩:=qd7 e
      obtain ⟨k', o, hk', ho, hrel⟩:=hr.obj _ _ hg (by simp)
      rw [hk] at hk'; cases hk'
      cases o with
      | cells c tt fz=>exact ⟨c, tt, fz, el, rr, ho, hg, rfl, fun i row h=>by simp [Rows.get] at h⟩
      | _=>exact hrel.elim
  · cases e
def mapH {α:Type} (f:H → List V → Option (α×List V×List Nat×H)):List (List V) → H → Option (List α×List Nat×H)
  | [], h=>some ([], [], h)
  | r :: rs, h=>match f h r with
    | some (d, [], ns, h)=>match mapH f rs h with
      | some (ds, ms, h)=>some (d :: ds, ns++ms, h)
      | none=>none
    | _=>none
def qcf:(t:Ty) → H → List V → Option (t.data×List V×List Nat×H)
  | .int k, h, cs=>match cs with
    | .int j n :: r=>match kindEq? j k with
      | some _=>some (n, r, [], h)
      | none=>none
    | _=>none
  | .bool, h, cs=>match cs with
    | .bool b :: r=>some (b, r, [], h)
    | _=>none
  | .str, h, cs=>match cs with
    | .str s :: r=>some (s, r, [], h)
    | _=>none
  | .unit, h, cs=>some ((), cs, [], h)
  | .pair a b, h, cs=>match qcf a h cs with
    | some (x, r, ns, h)=>match qcf b h r with
      | some (y, r, ms, h)=>some ((x, y), r, ns++ms, h)
      | none=>none
    | none=>none
  | .slice t, h, cs=>match cs with
    | .vs u l _ :: r=>match Ty.eq? u t with
      | some e=>some (Ty.castL e l, r, [], h)
      | none=>none
    | .sl none _ _ :: r=>some ([], r, [], h)
    | .sl (some a) n c :: r=>match Nat.ble 1 t.cells with
      | false=>none
      | true=>match elems h (.sl (some a) n c) t.cells with
        | some (.list rows, h)=>match mapH (qcf t) rows h with
          | some (l, ns, h)=>some (l, r, a.b :: ns, h)
          | none=>none
        | some (.ty u l, h)=>match Ty.eq? u t with
          | some e=>some (Ty.castL e l, r, [a.b], h)
          | none=>none
        | _=>none
    | _=>none
def BoxNames (φ:Map) (h:H) (ns:List Nat):Prop:=∀ b ∈ ns, ∃ e r k, h.get b = some (.box e r) ∧ φ b = some k
theorem BoxNames.same {φ:Map} {h h':H} {ns:List Nat} (s:h.Same h') (k:BoxNames φ h' ns):BoxNames φ h ns:=fun b hb=>by
  obtain ⟨e, r, q, h1, h2⟩:=k b hb
  exact ⟨e, r, q, by simp only [H.get] at h1 ⊢; rw [← s.2.2]; exact h1, h2⟩
theorem BoxNames.append {φ:Map} {h:H} {ns ms:List Nat} (a:BoxNames φ h ns) (b:BoxNames φ h ms):BoxNames φ h (ns++ms):=fun c hc=>by
  rcases List.mem_append.1 hc with hc | hc
  · exact a c hc
  · exact b c hc
section
variable {φ:Map} {w:World}
structure ViewOk {α:Type} (φ:Map) (w:World) (D:Frozen → α → List Value → Prop) (f:H → List V → Option (α×List V×List Nat×H)):Prop where
  same:∀ h cs d r ns h', f h cs = some (d, r, ns, h') → h'.Holds → h.Holds ∧ h.Same h'
  rel:∀ h cs d r ns h' xs, f h cs = some (d, r, ns, h') → h'.Holds → VRels φ cs xs → HRel φ h w → BoxNames φ h ns ∧ ∃ x y, xs = x++y ∧ VRels φ r y ∧ D (qb4 φ w ns) d x
theorem qeV {α:Type} {D:Frozen → α → List Value → Prop} {f:H → List V → Option (α×List V×List Nat×H)} (hf:ViewOk φ w D f):∀ {rows:List (List V)} {h h':H} {l:List α} {ns:List Nat}, mapH f rows h = some (l, ns, h') → h'.Holds → h.Holds ∧ h.Same h'
  | [], h, h', l, ns, em, hh=>by cases em; exact ⟨hh, H.Same.refl _⟩
  | row :: rows, h, h', l, ns, em, hh=>by
    simp only [mapH] at em
    split at em
    · rename_i d n1 h1 h2
      split at em
      · rename_i ds n2 h3 h4
        cases em
        obtain ⟨g1, g2⟩:=qeV hf h4 hh
        obtain ⟨p1, p2⟩:=hf.same h row d [] n1 h1 h2 g1
        exact ⟨p1, p2.trans g2⟩
      · cases em
    · cases em
theorem qkS {α:Type} {D:Frozen → α → List Value → Prop} (hD:∀ (f g:Frozen) (d:α) (cs:List Value), Frozen.le f g → D f d cs → D g d cs) {f:H → List V → Option (α×List V×List Nat×H)} (hf:ViewOk φ w D f) {e:Nat} {c:Array Value} :
    ∀ {rows:List (List V)} {h h':H} {l:List α} {ns:List Nat} {off:Nat}, mapH f rows h = some (l, ns, h') → h'.Holds → HRel φ h w → (∀ (i:Nat) row, rows[i]? = some row → row.length = e ∧ ∃ xs:List Value, VRels φ row xs ∧ ∀ (j:Nat) (v:Value), xs[j]? = some v → c[off + i * e + j]? = some v) →
      BoxNames φ h ns ∧ l.length = rows.length ∧ LiesIn (D (qb4 φ w ns)) e l c off
  | [], h, h', l, ns, off, em, hh, hr, _=>by
    cases em
    exact ⟨(fun b hb=>by cases hb), rfl, (fun i d hi=>by simp at hi)⟩
  | row :: rows, h, h', l, ns, off, em, hh, hr, hrows=>by
    simp only [mapH] at em
    split at em
    · rename_i d n1 h1 h2
      split at em
      · rename_i ds n2 h3 h4
        cases em
        obtain ⟨hl0, xs, hx1, hx2⟩:=hrows 0 row rfl
        obtain ⟨g1, g2⟩:=qeV hf h4 hh
        obtain ⟨p1, p2⟩:=hf.same h row d [] n1 h1 h2 g1
        obtain ⟨g3, g4, g5⟩:=qkS hD hf (e:=e) (c:=c) (off:=off + e) h4 hh (hr.same p2) (fun i row' hi=>by
          obtain ⟨q1, ys, q2, q3⟩:=hrows (i + 1) row' hi
          refine ⟨q1, ys, q2, fun j v hj=>?_⟩
          rw [← q3 j v hj, Nat.add_mul]; congr 1; omega)
        obtain ⟨p3, x, y, p4, p5, p6⟩:=hf.rel h row d [] n1 h1 xs h2 g1 hx1 hr
        cases p5
        rw [List.append_nil] at p4
        subst p4
        refine ⟨p3.append (g3.same p2), by simp [g4], ?_⟩
        intro i d' hi
        cases i with
        | zero =>
          simp only [List.getElem?_cons_zero, Option.some.injEq] at hi
          subst hi
          exact ⟨xs, hD _ _ _ _ (qbQ fun b hb=>List.mem_append_left _ hb) p6, by rw [← hx1.length]; exact hl0, fun j v hj=>hx2 j v hj⟩
        | succ i =>
          simp only [List.getElem?_cons_succ] at hi
          obtain ⟨cs, k1, k2, k3⟩:=g5 i d' hi
          refine ⟨cs, hD _ _ _ _ (qbQ fun b hb=>List.mem_append_right _ hb) k1, k2, fun j v hj=>?_⟩
          rw [← k3 j v hj, Nat.add_mul]; congr 1; omega
      · cases em
    · cases em
theorem BoxNames.nil {h:H}:BoxNames φ h []:=fun b hb=>by cases hb
theorem qaH:∀ t:Ty, ViewOk φ w (fun f d cs=>DRel f t d cs) (qcf t)
  | .int k=>⟨(fun h cs d r ns h' e hh=>by
      simp only [qcf] at e
      split at e
      · split at e
        · cases e; exact ⟨hh, H.Same.refl _⟩
        · cases e
      · cases e), (fun h cs d r ns h' xs e hh hv hr=>by
      simp only [qcf] at e
      split at e
      · split at e
        · rename_i q _
          cases e
          obtain ⟨hq⟩:=q
          subst hq
          cases hv with
          | cons hv ht=>cases hv; exact ⟨BoxNames.nil, [_], _, rfl, ht, rfl⟩
        · cases e
      · cases e)⟩
  | .bool=>⟨(fun h cs d r ns h' e hh=>by
      simp only [qcf] at e
      split at e
      · cases e; exact ⟨hh, H.Same.refl _⟩
      · cases e), (fun h cs d r ns h' xs e hh hv hr=>by
      simp only [qcf] at e
      split at e
      · cases e
        cases hv with
        | cons hv ht=>cases hv; exact ⟨BoxNames.nil, [_], _, rfl, ht, rfl⟩
      · cases e)⟩
  | .str=>⟨(fun h cs d r ns h' e hh=>by
      simp only [qcf] at e
      split at e
      · cases e; exact ⟨hh, H.Same.refl _⟩
      · cases e), (fun h cs d r ns h' xs e hh hv hr=>by
      simp only [qcf] at e
      split at e
      · cases e
        cases hv with
        | cons hv ht=>cases hv; exact ⟨BoxNames.nil, [_], _, rfl, ht, rfl⟩
      · cases e)⟩
  | .unit=>⟨(fun h cs d r ns h' e hh=>by
      cases e; exact ⟨hh, H.Same.refl _⟩), (fun h cs d r ns h' xs e hh hv hr=>by
      cases e; exact ⟨BoxNames.nil, [], _, rfl, hv, rfl⟩)⟩
  | .pair a b=>⟨(fun h cs d r ns h' e hh=>by
      simp only [qcf] at e
      split at e
      · rename_i h1 e1
        split at e
        · rename_i h2 e2
          cases e
          obtain ⟨g1, g2⟩:=(qaH b).same _ _ _ _ _ _ e2 hh
          obtain ⟨g3, g4⟩:=(qaH a).same _ _ _ _ _ _ e1 g1
          exact ⟨g3, g4.trans g2⟩
        · cases e
      · cases e), (fun h cs d r ns h' xs e hh hv hr=>by
      simp only [qcf] at e
      split at e
      · rename_i x r1 n1 h1 e1
        split at e
        · rename_i y r2 n2 h2 e2
          cases e
          obtain ⟨g1, g2⟩:=(qaH b).same _ _ _ _ _ _ e2 hh
          obtain ⟨g3, g4⟩:=(qaH a).same _ _ _ _ _ _ e1 g1
          obtain ⟨b1, c1, c2, rfl, q1, q2⟩:=(qaH a).rel _ _ _ _ _ _ _ e1 g1 hv hr
          obtain ⟨b2, c3, c4, rfl, q3, q4⟩:=(qaH b).rel _ _ _ _ _ _ _ e2 hh q1 (hr.same g4)
          refine ⟨b1.append (b2.same g4), c1++c3, c4, by simp, q3, c1, c3, rfl, ?_, ?_⟩
          · exact DRel.mono (qbQ fun b hb=>List.mem_append_left _ hb) a _ _ q2
          · exact DRel.mono (qbQ fun b hb=>List.mem_append_right _ hb) b _ _ q4
        · cases e
      · cases e)⟩
  | .slice t=>⟨(fun h cs d r ns h' e hh=>by
      simp only [qcf] at e
      split at e
      · split at e
        · cases e; exact ⟨hh, H.Same.refl _⟩
        · cases e
      · cases e; exact ⟨hh, H.Same.refl _⟩
      · split at e
        · cases e
        · split at e
          · rename_i he
            split at e
            · rename_i hm
              cases e
              obtain ⟨g1, g2⟩:=qeV (qaH t) hm hh
              obtain ⟨g3, g4⟩:=qax he g1
              exact ⟨g3, g4.trans g2⟩
            · cases e
          · rename_i he
            split at e
            · cases e; exact qax he hh
            · cases e
          · cases e
      · cases e), (fun h cs d r ns h' xs e hh hv hr=>by
      have done:1 ≤ t.cells → ∀ {a:VA} {n:Nat} {cap:Option Nat} {q:Rows} {h1:H} {x:Value} {l:List t.data} {ms:List Nat}, VRel φ (.sl (some a) n cap) x → elems h (.sl (some a) n cap) t.cells = some (q, h1) → h1.Holds → BoxNames φ h ms → l.length = q.len →
          (∀ (c:Array Value) (off:Nat), RowsIn φ t.cells q (offA c off) → LiesIn (DRel (qb4 φ w ms) t) t.cells l c off) →
          BoxNames φ h (a.b :: ms) ∧ DRel (qb4 φ w (a.b :: ms)) (.slice t) l [x]:=by
        intro hc0 a n cap q h1 x l ms hv he hh1 hb hl hlies
        cases hv with
        | sl _ k _ cap' _ hk hlc hc hz =>
          obtain ⟨_, _, c, tt, fz, el, r, hw, hg, hq, hri⟩:=qlm he hh1 hr hk
          refine ⟨?_, some (a.real k), n, cap', rfl, hlc, by rw [hl, hq], ?_⟩
          · intro b' hb'
            rcases List.mem_cons.1 hb' with rfl | hb'
            · exact ⟨el, r, k, hg, hk⟩
            · exact hb b' hb'
          · rcases Nat.eq_zero_or_pos l.length with h0 | h0
            · exact .inl (List.eq_nil_of_length_eq_zero h0)
            · right
              have hL:=(hlies c _ hri).mono (DRel.mono (qbQ (ms:=a.b :: ms) fun b hb=>List.mem_cons_of_mem _ hb) t) (Begins.refl c)
              refine ⟨k.1, k.2.2 + (a.i * a.e + a.o), c, rfl, qhw (List.mem_cons_self ..) hk (hr.own _ _ k hg hk) hw, ?_, hL⟩
              have hd:l[l.length - 1]? = some (l[l.length - 1]'(by omega)):=by simp
              obtain ⟨cs, k1, k2, k3⟩:=hL _ _ hd
              have hx:cs[t.cells - 1]? = some (cs[t.cells - 1]'(by omega)):=by simp
              have:=(Array.getElem?_eq_some_iff.1 (k3 _ _ hx)).1
              have hm:l.length * t.cells = (l.length - 1) * t.cells + t.cells:=by
                have:l.length = (l.length - 1) + 1:=by omega
                rw [this, Nat.add_mul]; simp
              omega
      simp only [qcf] at e
      split at e
      · split at e
        · rename_i q _
          cases e
          obtain ⟨hq⟩:=q
          subst hq
          cases hv with
          | cons hv ht =>
            cases hv with
            | vs _ _ _ a n cap hn hs htp=>exact ⟨BoxNames.nil, [_], _, rfl, ht, a, n, cap, rfl, hn, hs.mono qdt (DRel.mono qdt _)⟩
        · cases e
      · cases e
        cases hv with
        | cons hv ht=>cases hv; exact ⟨BoxNames.nil, [_], _, rfl, ht, none, 0, 0, rfl, Nat.le_refl _, rfl, .inl rfl⟩
      · split at e
        · cases e
        · rename_i hc1
          have hc1:=Nat.le_of_ble_eq_true hc1
          split at e
          · rename_i rows h1 he
            split at e
            · rename_i l ms h2 hm
              cases e
              obtain ⟨g1, g2⟩:=qeV (qaH t) hm hh
              obtain ⟨g3, g4⟩:=qax he g1
              cases hv with
              | cons hv ht =>
                have rowsOk:∀ (c:Array Value) (off:Nat), RowsIn φ t.cells (.list rows) (offA c off) → ∀ (i:Nat) row, rows[i]? = some row → row.length = t.cells ∧ ∃ xs:List Value, VRels φ row xs ∧ ∀ (j:Nat) (v:Value), xs[j]? = some v → c[off + i * t.cells + j]? = some v:=by
                  intro c off hri i row hi
                  obtain ⟨q1, q2⟩:=hri i row hi
                  obtain ⟨rs, r1, r2, r3⟩:=qbH hri hi 0 row.length (by omega)
                  refine ⟨q1, rs, by simpa using r2, fun j v hj=>?_⟩
                  have:=r3 j v hj
                  rw [qcA] at this
                  rw [← this]; congr 1; omega
                have hlen:BoxNames φ h ms ∧ List.length (α:=t.data) d = rows.length:=by
                  cases hv with
                  | sl _ k _ cap' _ hk hlc hc hz =>
                    obtain ⟨_, _, c, tt, fz, el, r, hw, hg, hq, hri⟩:=qlm he g1 hr hk
                    obtain ⟨m1, m2, _⟩:=qkS (fun f g d cs hfg hd=>DRel.mono hfg t d cs hd) (qaH t) hm hh (hr.same g4) (rowsOk c _ hri)
                    exact ⟨m1.same g4, m2⟩
                obtain ⟨d1, d2⟩:=done hc1 hv he g1 hlen.1 hlen.2 (fun c off hri=>(qkS (fun f g d cs hfg hd=>DRel.mono hfg t d cs hd) (qaH t) hm hh (hr.same g4) (rowsOk c off hri)).2.2)
                exact ⟨d1, [_], _, rfl, ht, d2⟩
            · cases e
          · rename_i u l h1 he
            split at e
            · rename_i q _
              cases e
              obtain ⟨hq⟩:=q
              subst hq
              cases hv with
              | cons hv ht =>
                obtain ⟨d1, d2⟩:=done hc1 hv he hh BoxNames.nil rfl (fun c off hri=>by
                  intro i d hi
                  have hrow:=Rows.ty_get (t:=u) hi
                  obtain ⟨q1, q2⟩:=hri i _ hrow
                  obtain ⟨rs, r1, r2, r3⟩:=qbH hri hrow 0 (cellsV u d).length (by omega)
                  have hV:VRels φ (cellsV u d) rs:=by simpa using r2
                  have hD:=hV.dRel
                  refine ⟨rs, DRel.mono qdt u d rs hD, hD.len, fun j v hj=>?_⟩
                  have:=r3 j v hj
                  rw [qcA] at this
                  rw [← this]; congr 1; omega)
                exact ⟨d1, [_], _, rfl, ht, d2⟩
            · cases e
          · cases e
      · cases e)⟩
end
def qaA:List Nat → H → H
  | [], h=>h
  | b :: r, h=>qaA r (h.kill b)
theorem killAll_spec:∀ {ns:List Nat} {h:H}, (qaA ns h).next = h.next ∧ (qaA ns h).ro = h.ro ∧ (qaA ns h).said = h.said ∧ ∀ b x, (qaA ns h).get b = some x → h.get b = some x ∧ b ∉ ns
  | [], h=>⟨rfl, rfl, rfl, fun b x e=>⟨e, by simp⟩⟩
  | c :: r, h=>by
    obtain ⟨h1, h2, h3, h4⟩:=killAll_spec (ns:=r) (h:=h.kill c)
    refine ⟨by rw [qaA, h1, H.kill_eq], by rw [qaA, h2, H.kill_eq], by rw [qaA, h3, H.kill_eq], fun b x e=>?_⟩
    obtain ⟨q1, q2⟩:=h4 b x e
    obtain ⟨q3, q4⟩:=H.get_kill q1
    exact ⟨q4, by simp [q3, q2]⟩
theorem Goes.freeze {φ:Map} {h:H} {w w':World} (hr:HRel φ h w) {ns:List Nat} (hb:BoxNames φ h ns) (hro:∀ b ∈ ns, h.ro ≤ b) {f':Frozen} (hle:(qb4 φ w ns).le f') (hok:FzOk f' w') (hold:∀ k c, f' k = some c → k < w.heap.size → qb4 φ w ns k = some c)
    (hsz:w.heap.size ≤ w'.heap.size) (hf:∀ k, k < w.heap.size → w'.heap[k]? = w.heap[k]?) (h1:w'.os = w.os) (h2:w'.tape = w.tape) (h3:w'.output = w.output):Goes φ h w { φ with fz:=f' } (qaA ns h) w':=by
  obtain ⟨k1, k2, k3, k4⟩:=killAll_spec (ns:=ns) (h:=h)
  have hle':φ.le { φ with fz:=f' }:=⟨fun _ _ e=>e, Frozen.le_trans qdt hle, fun _ _ e=>e, rfl⟩
  have hsame:∀ k c, φ.fz k = some c → f' k = some c:=by
    intro k c e
    obtain ⟨c', e1, _⟩:=(Frozen.le_trans qdt hle) k c e
    have:=hold k c' e1 (hr.fdom e)
    rw [qf1 e] at this; cases this
    exact e1
  exact {
    le:=hle'
    rel:={
      obj:=fun b x hx hxt=>by
        obtain ⟨k, o, q1, q2, q3⟩:=hr.obj b x (k4 b x hx).1 hxt
        refine ⟨k, o, q1, by rw [hf k.1 (hr.dom b k q1).2]; exact q2, ?_⟩
        rw [k2]; exact q3.mono hle'
      inj:=fun b b' x x' k k' hx hx' hb'=>by
        rw [k2] at hb'
        exact hr.inj b b' x x' k k' (k4 b x hx).1 (k4 b' x' hx').1 hb'
      dom:=fun b k e=>by
        have:=hr.dom b k e
        exact ⟨by rw [k1]; exact this.1, Nat.lt_of_lt_of_le this.2 hsz⟩
      rle:=by rw [k1, k2]; exact hr.rle
      fz:=hok
      own:=fun b x k hx hk=>by
        obtain ⟨q1, q2⟩:=k4 b x hx
        cases e:f' k.1 with
        | none=>exact e
        | some c =>
          exfalso
          rcases qcl (hold k.1 c e (hr.dom b k hk).2) with g1 | ⟨⟨b', q, g1, g2, g3⟩, _⟩
          · have:=hr.own b x k q1 hk
            rw [g1] at this; cases this
          · obtain ⟨e', r', q', g4, g5⟩:=hb b' g1
            rw [g2] at g5; cases g5
            exact hr.inj b' b _ x q k g4 q1 (hro b' g1) (fun e=>q2 (e ▸ g1)) g2 hk g3
      tip:=fun b hx=>by
        obtain ⟨m, h4, h5⟩:=hr.tip b (k4 b _ hx).1
        refine ⟨m, h4, fun blk en sz em=>?_⟩
        obtain ⟨⟨c, hc, hcs⟩, cs, t, h6, h7⟩:=h5 blk en sz em
        exact ⟨⟨c, hsame _ _ hc, hcs⟩, cs, t, by rw [hf _ (hr.fdom hc)]; exact h6, h7⟩
      tinj:=fun b b' m m' hx hx'=>hr.tinj b b' m m' (k4 b _ hx).1 (k4 b' _ hx').1
      tdom:=fun b m e=>by rw [k1]; exact hr.tdom b m e }
    next:=by rw [k1]; exact Nat.le_refl _
    ro:=k2
    fresh:=fun _ _ e=>.inl e
    size:=hsz
    frame:=fun k hk _ _=>hf k hk
    tfresh:=fun _ _ e=>.inl e
    tlive:=fun b _ _ hx=>(k4 b _ hx).1
    ffresh:=fun k c e hk=>by
      rcases qcl (hold k c e hk) with g1 | ⟨⟨b', q, g1, g2, g3⟩, _⟩
      · exact .inl g1
      · exact .inr (.inl ⟨b', q, hro b' g1, g2, g3⟩)
    os:=h1, tape:=h2, output:=h3 }
theorem qbw (ns:List Nat) (h:H):(qaA ns h).said = h.said:=killAll_spec.2.2.1
def qrK (h:H):H:={ next:=h.next, ro:=h.ro, objs:=h.objs, ask:=none, said:=[] }
def qde (h:H) (u:Ty) (v:V):Option (List u.data×List Nat) :=
  match v with
  | .sl (some _) _ _ =>
    match qcf (.slice u) (qrK h) [v] with
    | some (d, [], ns, h2)=>match h2.said, ns.all fun b=>Nat.ble h.ro b with
      | [], true=>some (d, ns)
      | _, _=>none
    | _=>none
  | _=>none
theorem qcW {φ:Map} {h:H} {w:World} {u:Ty} {d:List u.data} {ns:List Nat} {v:V} {x:Value} (hs:qde h u v = some (d, ns)) (hv:VRel φ v x) (hr:HRel φ h w) :
    ∃ f', Goes φ h w { φ with fz:=f' } (qaA ns h) w ∧ ∃ a n cap, x = .slice a n cap ∧ n ≤ cap ∧ SlRel f' (DRel f' u) u.cells d a n:=by
  unfold qde at hs
  split at hs
  · split at hs
    · rename_i d' ns' h2 hvw
      split at hs
      · rename_i hsaid hro
        cases hs
        have hsame:h.Same (qrK h):=⟨rfl, rfl, rfl⟩
        have hh2:h2.Holds:=by
          intro p hp
          rw [hsaid] at hp
          cases hp
        obtain ⟨b1, y, z, hxy, hz, hd⟩:=(qaH (φ:=φ) (w:=w) (.slice u)).rel _ _ _ _ _ _ [x] hvw hh2 (.cons hv .nil) (hr.same hsame)
        cases hz
        rw [List.append_nil] at hxy
        subst hxy
        have hb:BoxNames φ h ns:=b1.same hsame
        have hro':∀ b ∈ ns, h.ro ≤ b:=fun b hb=>Nat.le_of_ble_eq_true (List.all_eq_true.1 hro b hb)
        have g:=Goes.freeze hr hb hro' (f':=qb4 φ w ns) (fun k c e=>⟨c, e, Begins.refl c⟩) (qd2 hr ns) (fun _ _ e _=>e) (Nat.le_refl _) (fun _ _=>rfl) rfl rfl rfl
        obtain ⟨a', n, cap', h1, h3, h4⟩:=hd
        have h1:[x] = [Value.slice a' n cap']:=h1
        exact ⟨_, g, a', n, cap', (List.cons.inj h1).1, h3, h4⟩
      · cases hs
    · cases hs
  · cases hs
def qey (h:H) (u:Ty) (v:V):Option (List u.data×List Nat×H) :=
  match v with
  | .sl (some _) _ _ =>
    match qcf (.slice u) h [v] with
    | some (d, [], ns, h2)=>match ns.all fun b=>Nat.ble h.ro b with
      | true=>some (d, ns, h2)
      | false=>none
    | _=>none
  | _=>none
theorem qgS {φ:Map} {h h2:H} {w:World} {u:Ty} {d:List u.data} {ns:List Nat} {v:V} {x:Value} (hs:qey h u v = some (d, ns, h2)) (hh:h2.Holds) (hv:VRel φ v x) (hr:HRel φ h w) :
    h.Holds ∧ ∃ f', Goes φ h w { φ with fz:=f' } (qaA ns h2) w ∧ ∃ a n cap, x = .slice a n cap ∧ n ≤ cap ∧ SlRel f' (DRel f' u) u.cells d a n:=by
  unfold qey at hs
  split at hs
  · split at hs
    · rename_i d' ns' h2' hvw
      split at hs
      · rename_i hro
        cases hs
        obtain ⟨hh0, hsame⟩:=(qaH (φ:=φ) (w:=w) (.slice u)).same _ _ _ _ _ _ hvw hh
        obtain ⟨b1, y, z, hxy, hz, hd⟩:=(qaH (φ:=φ) (w:=w) (.slice u)).rel _ _ _ _ _ _ [x] hvw hh (.cons hv .nil) hr
        cases hz
        rw [List.append_nil] at hxy
        subst hxy
        have hsame':h2.Same h:=⟨hsame.1.symm, hsame.2.1.symm, hsame.2.2.symm⟩
        have hb:BoxNames φ h2 ns:=b1.same hsame'
        have hroe:h2.ro = h.ro:=hsame.2.1
        have hro':∀ b ∈ ns, h2.ro ≤ b:=fun b hb=>by
          rw [hroe]
          exact Nat.le_of_ble_eq_true (List.all_eq_true.1 hro b hb)
        have hr2:HRel φ h2 w:=hr.same hsame
        have g:=Goes.freeze hr2 hb hro' (f':=qb4 φ w ns) (fun k c e=>⟨c, e, Begins.refl c⟩) (qd2 hr2 ns) (fun _ _ e _=>e) (Nat.le_refl _) (fun _ _=>rfl) rfl rfl rfl
        obtain ⟨a', n, cap', h1, h3, h4⟩:=hd
        have h1:[x] = [Value.slice a' n cap']:=h1
        exact ⟨hh0, _, (Goes.of_same hr hsame rfl rfl rfl rfl).trans g, a', n, cap', (List.cons.inj h1).1, h3, h4⟩
      · cases hs
    · cases hs
  · cases hs
end Go.Vm

/-
  Appends to slices that are read alone.
-/
namespace Go.Vm
open Go
theorem LiesIn.append {α:Type} {D:α → List Value → Prop} {e:Nat} {l xs:List α} {c:Array Value} {off:Nat} (h:LiesIn D e l c off) (k:LiesIn D e xs c (off + l.length * e)):LiesIn D e (l++xs) c off:=by
  intro i d hi
  rcases Nat.lt_or_ge i l.length with hlt | hge
  · rw [List.getElem?_append_left hlt] at hi
    exact h i d hi
  · rw [List.getElem?_append_right hge] at hi
    obtain ⟨cs, h1, h2, h3⟩:=k _ d hi
    refine ⟨cs, h1, h2, fun j v e'=>?_⟩
    rw [← h3 j v e']
    have:i = l.length + (i - l.length):=by omega
    have h4:i * e = l.length * e + (i - l.length) * e:=by rw [← Nat.add_mul]; congr 1
    congr 1; omega
theorem LiesIn.shift {α:Type} {D:α → List Value → Prop} {e:Nat} {l:List α} {c c':Array Value} {off off':Nat} (h:LiesIn D e l c off) (hc:∀ (j:Nat) (v:Value), c[off + j]? = some v → c'[off' + j]? = some v):LiesIn D e l c' off':=by
  intro i d hi
  obtain ⟨cs, h1, h2, h3⟩:=h i d hi
  refine ⟨cs, h1, h2, fun j v e'=>?_⟩
  have:=hc (i * e + j) v (by rw [← Nat.add_assoc]; exact h3 j v e')
  rw [← Nat.add_assoc] at this
  exact this
theorem Elems.lies {φ:Map} {t:Ty} {n:Nat} {q:Rows} {ns:List Value} (h:Elems φ t.cells n q ns) {xs:List t.data} (hd:qba t q = some xs):xs.length = n ∧ LiesIn (DRel φ.fz t) t.cells xs ns.toArray 0:=by
  obtain ⟨h1, h2⟩:=qbz hd
  refine ⟨by rw [← h1]; exact h.len, fun i d hi=>?_⟩
  obtain ⟨row, hrow, hdec⟩:=h2 i d hi
  obtain ⟨k1, k2⟩:=h.rows i row hrow
  have hin:i < n:=by rw [← h.len]; exact Rows.lt_len hrow
  obtain ⟨rs, r1, r2, r3⟩:=qbH h.rows hrow 0 row.length (by omega)
  have hV:VRels φ row rs:=by simpa using r2
  have hD:=qdX hdec hV
  refine ⟨rs, hD, hD.len, fun j v hj=>?_⟩
  have:=r3 j v hj
  rw [Nat.add_zero] at this
  rw [Nat.zero_add]; exact this
theorem qfG {t:Ty} {φ:Map} {n:Nat} {q:Rows} {ns:List Value} (h:Elems φ t.cells n q ns) {xs:List t.data} (hd:qba t q = some xs):∀ u ∈ ns, u.oneCell' = true:=by
  intro u hu
  obtain ⟨hl, hlies⟩:=h.lies hd
  obtain ⟨j, hj, rfl⟩:=List.mem_iff_getElem.1 hu
  have hc:=h.cells
  have hs:0 < t.cells:=by
    rcases Nat.eq_zero_or_pos t.cells with h0 | h0
    · rw [h0] at hc; omega
    · exact h0
  have hi:j / t.cells < n:=by rw [Nat.div_lt_iff_lt_mul hs]; omega
  have hd:xs[j / t.cells]? = some (xs[j / t.cells]'(by omega)):=by simp
  obtain ⟨cs, c1, c2, c3⟩:=hlies _ _ hd
  have hm:=Nat.mod_lt j hs
  have hV:=c1.cellsV
  have hjj:j / t.cells * t.cells + j % t.cells = j:=by rw [Nat.mul_comm]; exact Nat.div_add_mod j t.cells
  have hx:cs[j % t.cells]? = some (cs[j % t.cells]'(by omega)):=by simp
  have:=c3 _ _ hx
  rw [Nat.zero_add, hjj] at this
  simp only [List.getElem?_toArray, List.getElem?_eq_getElem hj, Option.some.injEq] at this
  rw [this]
  have hlen:=hV.length
  have hv:(cellsV t (xs[j / t.cells]'(by omega)))[j % t.cells]? = some ((cellsV t (xs[j / t.cells]'(by omega)))[j % t.cells]'(by omega)):=by simp
  obtain ⟨y, hy, hr⟩:=hV.get _ _ hv
  rw [hx] at hy; cases hy
  exact qfa hr (qcc t _ _ (List.getElem_mem _))
theorem qb1 {tip:Tip} {h h':H} (e:qdc tip h = some h'):h'.said = h.said ∧ h'.next = h.next:=by
  unfold qdc at e
  split at e
  · cases e
  · cases e; exact ⟨rfl, rfl⟩
  · cases e; exact ⟨rfl, rfl⟩
  · split at e
    · split at e
      · cases e; exact ⟨by rw [H.kill_eq], by rw [H.kill_eq]⟩
      · cases e
    · cases e
  · split at e
    · split at e
      · cases e; exact ⟨by rw [H.kill_eq], by rw [H.kill_eq]⟩
      · cases e
    · cases e
theorem qfo {φ:Map} {tip:Tip} {h h':H} {w:World} (hr:HRel φ h w) (e:qdc tip h = some h'):Goes φ h w φ h' w:=by
  unfold qdc at e
  split at e
  · cases e
  · cases e; exact Goes.refl hr
  · cases e; exact Goes.refl hr
  · split at e
    · split at e
      · cases e
        exact Goes.drop hr (by rw [H.kill_eq]) (by rw [H.kill_eq]) (fun _ _ hx=>(H.get_kill hx).2)
      · cases e
    · cases e
  · split at e
    · split at e
      · cases e
        exact Goes.drop hr (by rw [H.kill_eq]) (by rw [H.kill_eq]) (fun _ _ hx=>(H.get_kill hx).2)
      · cases e
    · cases e
section
variable {P:Program} {φ:Map} {w:World} {ts:Array TypeId} {ty t xt elem n m cap':Nat} {xd:TypeDesc} {base':Option Addr} {x:V} {x':Value} {args':Array Value} {h h':H} {v:V} {u:Ty} {l:List u.data} {tip:Tip}
theorem qca (e:qaG P elem u l tip x n h = some (v, h')) (hh:h'.Holds) (hs:VRel φ (.vs u l tip) (.slice base' m cap')) (hx:VRel φ x x') (hlx:lenV x = some n) (hn0:h.Holds → n ≠ 0) (hr:HRel φ h w)
    (h0:ts[0]? = some t) (h1:ts[1]? = some xt) (a0:args'[0]? = some (.slice base' m cap')) (a1:args'[1]? = some x') (hu:P.underlying t = some (.slice elem)) (hux:P.underlying xt = some xd) (hxd:∀ k, xd ≠ .int k)
    (hsz:qal P elem = some u.cells) :
    h.Holds ∧ ∃ φ' w' r, (Builtin.append_ ts ty args').run P w = .ok r w' ∧ VRel φ' v r ∧ Goes φ h w φ' h' w':=by
  unfold qaG at e
  split at e
  · rename_i i zs hi hzs
    split at e
    · rename_i h2 ht
      split at e
      · cases e
      · rename_i q h3 e2
        split at e
        · rename_i xs h4 hxs htg
          cases e
          obtain ⟨sd, hnx⟩:=qb1 htg
          have hh3:h3.Holds:=by
            intro p hp
            exact H.push_holds hh p (by rw [sd]; exact hp)
          obtain ⟨hh2, s23⟩:=qax e2 hh3
          obtain ⟨hh1, hb, s12'⟩:=H.test_holds ht hh2
          have s12:h.Same h2:=s12'
          have s13:h.Same h3:=s12.trans s23
          refine ⟨hh1, ?_⟩
          have hn0:=hn0 hh1
          simp only [Bool.and_eq_true] at hb
          have hb1:=Nat.le_of_ble_eq_true hb.1
          have hb2:=Nat.le_of_ble_eq_true hb.2
          have hn':=qdh (P:=P) hlx hx w
          have hold:elems h (.vs u l tip) u.cells = some (.ty u l, h):=by simp only [elems, Nat.beq_refl]
          have hrd:qba u (.ty u l) = some l:=by simp only [qba, Ty.eq?_self]; rfl
          have hml:m = l.length:=by cases hs with | vs _ _ _ _ _ _ _ hsl _=>exact hsl.1
          subst hml
          by_cases hfit:l.length + n ≤ cap'
          · -- in place
            obtain ⟨_, _, ns, rns, ens⟩:=qbF (P:=P) e2 hh3 hlx hx (hr.same s12)
            obtain ⟨hxl, hlies⟩:=ens.lies hxs
            have hone:=qfG ens hxs
            cases hs with
            | vs _ _ _ _ _ _ hncap hsl htp =>
              have hcase:∃ b mt, φ.tp b = some mt ∧ (match mt with
                  | none=>cap' = l.length
                  | some (blk, en, sz)=>∃ off, base' = some ⟨blk, off, none⟩ ∧ off + l.length * u.cells = en ∧ off + cap' * u.cells ≤ sz ∧ (qpt tip = true → off = 0)) ∧ h3.get b = some .tip ∧ h3.ro ≤ b ∧ h4 = h3.kill b:=by
                cases tip with
                | no=>cases htg
                | tight=>exact absurd hfit (by have:cap' = l.length:=htp; omega)
                | fresh=>exact absurd hfit (by have:l.length = 0 ∧ cap' = 0:=htp; omega)
                | name b =>
                  obtain ⟨mt, hmt, hmt2⟩:=htp
                  have hgone:h3.get b = some .tip ∧ h3.ro ≤ b ∧ h4 = h3.kill b:=by
                    simp only [qdc] at htg
                    split at htg
                    · rename_i hg
                      split at htg
                      · rename_i hro; cases htg; exact ⟨hg, Nat.le_of_ble_eq_true hro, rfl⟩
                      · cases htg
                    · cases htg
                  refine ⟨b, mt, hmt, ?_, hgone⟩
                  cases mt with
                  | none=>exact hmt2
                  | some q=>obtain ⟨off, q1, q2, q3⟩:=hmt2; exact ⟨off, q1, q2, q3, fun e=>by cases e⟩
                | own b =>
                  obtain ⟨mt, hmt, hmt2⟩:=htp
                  have hgone:h3.get b = some .tip ∧ h3.ro ≤ b ∧ h4 = h3.kill b:=by
                    simp only [qdc] at htg
                    split at htg
                    · rename_i hg
                      split at htg
                      · rename_i hro; cases htg; exact ⟨hg, Nat.le_of_ble_eq_true hro, rfl⟩
                      · cases htg
                    · cases htg
                  refine ⟨b, mt, hmt, ?_, hgone⟩
                  cases mt with
                  | none=>exact hmt2.2.trans hmt2.1.symm
                  | some q=>obtain ⟨off, q1, q2, q3, q4⟩:=hmt2; exact ⟨off, q1, q2, q3, fun _=>q4⟩
              have hcase:=hcase
              obtain ⟨b, mt, hmt, hmt2, hg, hro, rfl⟩:=hcase
              · -- who may append
                have hr3:=hr.same s13
                cases mt with
                | none=>exact absurd hfit (by have:cap' = l.length:=hmt2; omega)
                | some mt =>
                  obtain ⟨blk, en, sz⟩:=mt
                  obtain ⟨off, hbase, hen, hsz2, hown⟩:=hmt2
                  subst hbase
                  obtain ⟨m0, hm0, hm1⟩:=hr3.tip b hg
                  rw [hmt] at hm0; cases hm0
                  obtain ⟨⟨c, hc, hcs⟩, cs, tt, hhere, hcsz⟩:=hm1 blk en sz rfl
                  have hnc:=ens.cells
                  have hsum:l.length * u.cells + n * u.cells ≤ cap' * u.cells:=by rw [← Nat.add_mul]; exact Nat.mul_le_mul_right _ hfit
                  obtain ⟨w', c', hrun, hw, hcl⟩:=qbj (P:=P) (k:=blk) (off:=off + l.length * u.cells) (t:=tt) ns 0 w cs hhere (by omega) hone
                  have hbc:Begins c cs:=by
                    obtain ⟨cs2, t2, z2, g1, g2⟩:=hr3.fz blk c hc
                    rw [hhere] at g1; cases g1
                    exact g2
                  have hc':∀ j, c'[j]? = if j < en then cs[j]? else if j < en + ns.length then ns[j - en]? else cs[j]?:=by
                    intro j
                    rw [← Array.getElem?_toList, hcl]
                    have hmin:min (off + l.length * u.cells) cs.size = en:=by omega
                    simp only [Nat.add_zero]
                    split
                    · rename_i hj
                      rw [List.getElem?_append_left (by simp; omega), List.getElem?_take, if_pos (by omega)]; simp
                    · rename_i hj
                      rw [List.getElem?_append_right (by simp; omega)]
                      simp only [List.length_take, Array.length_toList, hmin]
                      split
                      · rename_i hj2
                        rw [List.getElem?_append_left (by omega)]
                      · rename_i hj2
                        rw [List.getElem?_append_right (by omega), List.getElem?_drop]
                        simp only [Array.getElem?_toList]
                        congr 1; omega
                  have hc2:∀ j:Nat, (c.toList++ns).toArray[j]? = if j < en then c[j]? else ns[j - en]?:=by
                    intro j
                    simp only [List.getElem?_toArray]
                    split
                    · rename_i hj; rw [List.getElem?_append_left (by simp; omega)]; simp
                    · rename_i hj; rw [List.getElem?_append_right (by simp; omega)]; simp [hcs]
                  have hbegin:Begins (c.toList++ns).toArray c':=by
                    intro j v hj
                    rw [hc2] at hj
                    rw [hc']
                    split
                    · rename_i hlt; rw [if_pos hlt] at hj; exact hbc j v hj
                    · rename_i hlt
                      rw [if_neg hlt] at hj
                      have:j - en < ns.length:=(List.getElem?_eq_some_iff.1 hj).1
                      rw [if_pos (by omega)]; exact hj
                  have hbegin0:∀ c0, φ.fz blk = some c0 → Begins c0 (c.toList++ns).toArray:=by
                    intro c0 e0
                    rw [hc] at e0; cases e0
                    intro j v hj
                    have:j < c.size:=(Array.getElem?_eq_some_iff.1 hj).1
                    rw [hc2, if_pos (by omega)]; exact hj
                  have g:=Goes.inTip hr3 hg hro hmt hw.here (by rw [hw.csize]; exact hcsz) hbegin hbegin0 hw.size hw.other hw.os hw.tape hw.output
                  have hle:=g.le
                  have hsz3:(c.toList++ns).toArray.size = en + n * u.cells:=by simp [hcs, hnc]
                  refine ⟨_, w', .slice (some ⟨blk, off, none⟩) (l.length + n) cap', ?_, ?_, (Goes.of_same hr s13 rfl rfl rfl rfl).trans g⟩
                  · have:=qaC (P:=P) (ty:=ty) h0 h1 a0 a1 hu hux hxd hsz hn' hfit rns
                    rw [this]
                    have hadd:(⟨blk, off, none⟩:Addr).add (l.length * u.cells) = ⟨blk, off + l.length * u.cells, none⟩:=by
                      unfold Addr.add; split <;> simp_all
                    simp only [hadd]
                    rw [hrun]; rfl
                  · refine .vs _ _ _ _ _ _ hfit ⟨by simp [hxl], .inr ⟨blk, off, (c.toList++ns).toArray, rfl, by simp [Map.tipped], by rw [hsz3]; simp [hxl, Nat.add_mul]; omega, ?_⟩⟩ (TipRel.next (blk:=blk) (en:=(c.toList++ns).toArray.size) (sz:=sz) (off:=off) ?_ rfl (by rw [hsz3, Nat.add_mul]; omega) hsz2 hown)
                    · refine LiesIn.append ?_ ?_
                      · rcases hsl.2 with h5 | ⟨b2, off2, c3, h5, h6, h7, h8⟩
                        · intro i d hi; rw [h5] at hi; simp at hi
                        · cases h5
                          rw [hc] at h6; cases h6
                          exact h8.mono (DRel.mono hle.fz u) (hbegin0 _ hc)
                      · refine (LiesIn.shift (D:=DRel φ.fz u) hlies (fun j v hj=>?_)).mono (DRel.mono hle.fz u) (Begins.refl _)
                        rw [Nat.zero_add] at hj
                        rw [hc2, if_neg (by omega), ← hj]
                        simp only [List.getElem?_toArray]
                        congr 1; omega
                    · rw [show (h3.kill b).next = h3.next from by rw [H.kill_eq]]
                      simp [Map.tipped]
          · -- a new array
            obtain ⟨_, _, ns, rns, ens⟩:=qbF (P:=P) e2 hh3 hlx hx (hr.drew.same s12)
            obtain ⟨hxl, hlies⟩:=ens.lies hxs
            obtain ⟨_, _, os, ros, eos⟩:=qbF (P:=P) (n:=l.length) hold hh1 rfl hs hr.drew
            obtain ⟨_, hlies0⟩:=eos.lies hrd
            obtain ⟨z, rz, vz, lz⟩:=qa6 (φ:=φ) hzs w.drew
            obtain ⟨nc, hnc, hrun⟩:=run_append_grow (P:=P) (ty:=ty) h0 h1 a0 a1 hu hux hxd hsz hn' hfit hi hb1 hb2 ros rns rz
            have g1:Goes φ h w φ h3 w.drew:=(Goes.of_same hr s13 rfl rfl rfl rfl).trans (Goes.drew (hr.same s13))
            have g2:=qfo g1.rel htg
            have hzl:z.cells.size = u.cells:=by have:=vz.length; simp at this; omega
            have hoc:=eos.cells
            have hnn:=ens.cells
            have hsize:(os.toArray++ns.toArray++Builtin.zeroCells z.cells (nc - (l.length + n))).size = nc * u.cells:=by
              simp only [Array.size_append, List.size_toArray, qaX, hoc, hnn, hzl]
              rw [← Nat.add_mul, ← Nat.add_mul]; congr 1; omega
            have hbegin:Begins (os.toArray++ns.toArray) (os.toArray++ns.toArray++Builtin.zeroCells z.cells (nc - (l.length + n))):=by
              intro j v hj
              have:j < (os.toArray++ns.toArray).size:=(Array.getElem?_eq_some_iff.1 hj).1
              rw [Array.getElem?_append_left this]; exact hj
            have g3:=Goes.grow g2.rel (w':=w.drew.alloc (.cells (os.toArray++ns.toArray++Builtin.zeroCells z.cells (nc - (l.length + n))) elem)) rfl hbegin rfl rfl rfl
            have hle:=g3.le
            have hsz3:(os.toArray++ns.toArray).size = l.length * u.cells + n * u.cells:=by simp [hoc, hnn]
            refine ⟨_, _, _, hrun, ?_, (g1.trans g2).trans g3⟩
            refine .vs _ _ _ _ _ _ hnc ⟨by simp [hxl], .inr ⟨w.heap.size, 0, os.toArray++ns.toArray, rfl, by simp [Map.tipped], by rw [hsz3]; simp [hxl, Nat.add_mul], ?_⟩⟩ (TipRel.next (blk:=w.heap.size) (en:=(os.toArray++ns.toArray).size) (sz:=nc * u.cells) (off:=0) ?_ rfl (by rw [hsz3, Nat.add_mul]; omega) (by omega) (fun _=>rfl))
            · refine LiesIn.append ?_ ?_
              · refine (LiesIn.shift (D:=DRel φ.fz u) hlies0 (fun j v hj=>?_)).mono (DRel.mono hle.fz u) (Begins.refl _)
                have:0 + j < os.toArray.size:=(Array.getElem?_eq_some_iff.1 hj).1
                rw [Array.getElem?_append_left this]; exact hj
              · refine (LiesIn.shift (D:=DRel φ.fz u) hlies (fun j v hj=>?_)).mono (DRel.mono hle.fz u) (Begins.refl _)
                rw [Array.getElem?_append_right (by simp; omega), ← hj]
                congr 1; simp; omega
            · simp only [Map.tipped, if_true]
              rw [hsize]; rfl
        · cases e
    · cases e
  · cases e
end
theorem Goes.retip {φ:Map} {h h':H} {w:World} {e:Nat} {tip:Tip} {a:Option Addr} {n cap:Nat} (hr:HRel φ h w) (htp:TipRel φ e tip a n cap) (hg:qdc tip h = some h') :
    ∃ m, Goes φ h w { φ with tp:=fun d=>if d = h.next then some m else φ.tp d } (h'.push .tip) w ∧ TipRel { φ with tp:=fun d=>if d = h.next then some m else φ.tp d } e (qgu tip h.next) a n cap:=by
  have hnx:φ.tp h.next = none:=by
    cases e:φ.tp h.next with
    | none=>rfl
    | some m=>have:=hr.tdom _ _ e; omega
  -- what stands behind the old name, and who has it no more
  have key:∃ m, (∀ ψ:Map, ψ.tp h.next = some m → TipRel ψ e (qgu tip h.next) a n cap) ∧ (∀ q, m = some q → ∃ b, h.ro ≤ b ∧ h.get b = some .tip ∧ φ.tp b = some (some q) ∧ ∀ c x, h'.get c = some x → c ≠ b):=by
    unfold qdc at hg
    split at hg
    · cases hg
    · cases hg
      exact ⟨none, fun ψ hψ=>⟨none, hψ, htp⟩, fun q hq=>by cases hq⟩
    · cases hg
      exact ⟨none, fun ψ hψ=>⟨none, hψ, htp⟩, fun q hq=>by cases hq⟩
    · rename_i b
      split at hg
      · rename_i hb
        split at hg
        · rename_i hro
          cases hg
          obtain ⟨m, h1, h2⟩:=htp
          exact ⟨m, fun ψ hψ=>⟨m, hψ, h2⟩, fun q hq=>⟨b, Nat.le_of_ble_eq_true hro, hb, by rw [← hq]; exact h1, fun c x hc=>(H.get_kill hc).1⟩⟩
        · cases hg
      · cases hg
    · rename_i b
      split at hg
      · rename_i hb
        split at hg
        · rename_i hro
          cases hg
          obtain ⟨m, h1, h2⟩:=htp
          exact ⟨m, fun ψ hψ=>⟨m, hψ, h2⟩, fun q hq=>⟨b, Nat.le_of_ble_eq_true hro, hb, by rw [← hq]; exact h1, fun c x hc=>(H.get_kill hc).1⟩⟩
        · cases hg
      · cases hg
  obtain ⟨m, hm1, hm2⟩:=key
  have g0:=qfo hr hg
  obtain ⟨_, hnext⟩:=qb1 hg
  have hr':=g0.rel
  have hle:φ.le { φ with tp:=fun d=>if d = h.next then some m else φ.tp d }:=⟨fun _ _ e=>e, Frozen.le_refl _, fun b q e=>by
    dsimp only
    have:=hr.tdom b q e
    rw [if_neg (by omega)]; exact e, rfl⟩
  have hobj:∀ b x, (h'.push .tip).get b = some x → x ≠ .tip → h'.get b = some x:=by
    intro b x hb hx
    rcases H.get_push hb with ⟨_, e⟩ | ⟨_, hb⟩
    · exact absurd e hx
    · exact hb
  have hlook:∀ b x k, (h'.push .tip).get b = some x → φ b = some k → h'.get b = some x:=by
    intro b x k hb hk
    rcases H.get_push hb with ⟨e, _⟩ | ⟨_, hb⟩
    · have:=(hr'.dom b k hk).1; omega
    · exact hb
  have htip:∀ b, (h'.push .tip).get b = some .tip → b = h.next ∨ (b ≠ h.next ∧ h'.get b = some .tip):=by
    intro b hb
    rcases H.get_push hb with ⟨e, _⟩ | ⟨hne, hb⟩
    · exact .inl (by omega)
    · exact .inr ⟨by omega, hb⟩
  refine ⟨m, ?_, hm1 _ (by simp)⟩
  constructor
  · exact hle
  · constructor
    · intro b x hb hx
      obtain ⟨k, o, h4, h5, h6⟩:=hr'.obj b x (hobj b x hb hx) hx
      exact ⟨k, o, h4, h5, h6.mono hle⟩
    · intro b b' x x' k k' hb hb' hro hne hk hk'
      exact hr'.inj b b' x x' k k' (hlook b x k hb hk) (hlook b' x' k' hb' hk') hro hne hk hk'
    · intro b k hk
      have:=hr'.dom b k hk
      simp only [H.push_eq]; omega
    · have:=hr'.rle
      simp only [H.push_eq]; omega
    · exact hr'.fz
    · intro b x k hb hk
      exact hr'.own b x k (hlook b x k hb hk) hk
    · intro b hb
      rcases htip b hb with rfl | ⟨hne, hb⟩
      · refine ⟨m, by simp, fun blk en sz e=>?_⟩
        obtain ⟨b0, _, hb0, hb1, _⟩:=hm2 _ e
        obtain ⟨m0, h4, h5⟩:=hr.tip b0 hb0
        rw [hb1] at h4
        cases h4
        exact h5 blk en sz rfl
      · obtain ⟨m0, h4, h5⟩:=hr'.tip b hb
        exact ⟨m0, by dsimp only; rw [if_neg hne]; exact h4, h5⟩
    · intro b b' q q' hb hb' hne e e'
      dsimp only at e e'
      rcases htip b hb with rfl | ⟨hn, hb⟩
      · rw [if_pos rfl] at e
        cases e
        obtain ⟨b0, hro0, hb0, hb1, hb2⟩:=hm2 _ rfl
        rcases htip b' hb' with rfl | ⟨hn', hb'⟩
        · exact absurd rfl hne
        · rw [if_neg hn'] at e'
          have hb'':=g0.tlive b' _ e' hb'
          exact hr.tinj b0 b' q q' hb0 hb'' (fun e=>hb2 b' _ hb' e.symm) hb1 e'
      · rw [if_neg hn] at e
        rcases htip b' hb' with rfl | ⟨hn', hb'⟩
        · rw [if_pos rfl] at e'
          cases e'
          obtain ⟨b0, hro0, hb0, hb1, hb2⟩:=hm2 _ rfl
          have hb'':=g0.tlive b _ e hb
          exact fun hq=>hr.tinj b0 b q' q hb0 hb'' (fun e=>hb2 b _ hb e.symm) hb1 e hq.symm
        · rw [if_neg hn'] at e'
          exact hr'.tinj b b' q q' hb hb' hne e e'
    · intro b q e
      dsimp only at e
      simp only [H.push_eq]
      split at e
      · omega
      · have:=hr'.tdom b q e; omega
  · simp only [H.push_eq]; omega
  · rw [H.push_eq]; exact g0.ro
  · exact fun _ _ e=>.inl e
  · exact Nat.le_refl _
  · exact fun _ _ _ _=>rfl
  · intro b q e
    dsimp only at e
    split at e
    · cases e
      refine .inr ⟨by omega, fun q' hq'=>?_⟩
      obtain ⟨b0, hro0, hb0, hb1, _⟩:=hm2 _ hq'
      exact .inr ⟨b0, q', hro0, hb0, hb1, rfl⟩
    · exact .inl e
  · intro b q e hb
    rcases htip b hb with rfl | ⟨_, hb⟩
    · rw [hnx] at e; cases e
    · exact g0.tlive b _ e hb
  · exact fun _ _ e _=>.inl e
  · rfl
  · rfl
  · rfl
end Go.Vm

/-
  What append does, to whatever slice.
-/
namespace Go.Vm
open Go
def qbV (P:Program) (bx:Bool) (elem:TypeId) (size:Nat) (s x:V) (base:Option VA) (sLen:Nat) (cap:Option Nat) (n:Nat) (h:H):Option (V×H) :=
  match base with
  | some _=>qaJ P elem size s x base sLen cap n h
  | none=>match bx with
    | true=>qaJ P elem size s x base sLen cap n h
    | false=>match tyOf P 8 elem with
      | none=>qaJ P elem size s x base sLen cap n h
      | some t=>match Nat.beq size t.cells with
        | false=>qaJ P elem size s x base sLen cap n h
        | true=>match qaG P elem t [] .fresh x n h with
          | some r=>some r
          | none=>qaJ P elem size s x base sLen cap n h
def qrZ:V → Bool
  | .sl (some _) _ _=>true
  | _=>false
def qn1 (h:H) (x:V):Bool :=
  match x with
  | .sl (some a) _ _=>match h.get a.b with
    | some (.box _ (.list (row :: _)))=>row.any qrZ
    | _=>false
  | _=>false
def qck (P:Program) (elem:TypeId) (t:Ty) (l:List t.data) (tip:Tip) (x:V) (h:H):Option (V×H) :=
  match qey h t x with
  | some (d, ns, h2)=>qaG P elem t l tip (.vs t d .no) d.length (qaA ns h2)
  | none=>none
def qes (P:Program) (elem:TypeId) (size:Nat) (x:V) (base:Option VA) (h:H):Option (V×H) :=
  match base with
  | some _=>none
  | none=>match tyOf P 8 elem with
    | none=>none
    | some t=>match Nat.beq size t.cells with
      | false=>none
      | true=>qck P elem t [] .fresh x h
def qpB:Bool:=true
def qdU (P:Program) (bx:Bool) (elem:TypeId) (size:Nat) (s x:V) (h:H):Option (V×H) :=
  match bx, h.ask, x with
  | false, some _, .vs _ xs _=>match s with
    | .vs t l tip=>match Nat.beq size t.cells with
      | true=>qaG P elem t l tip x xs.length h
      | false=>none
    | .sl none _ _=>match tyOf P 8 elem with
      | none=>none
      | some t=>match Nat.beq size t.cells with
        | true=>qaG P elem t [] .fresh x xs.length h
        | false=>none
    | .sl (some a) m c=>match qpB with
      | true=>match h.get a.b with
        | some (.box _ (.list []))=>match m, c, a with
          | 0, some 0, ⟨b, _, 0, 0⟩=>qaJ P elem size (.sl (some ⟨b, size, 0, 0⟩) 0 none) x (some ⟨b, size, 0, 0⟩) 0 none xs.length h
          | _, _, _=>none
        | _=>none
      | false=>match m, c with
        | 0, some 0=>match tyOf P 8 elem with
          | none=>none
          | some t=>match Nat.beq size t.cells with
            | true=>qaG P elem t [] .fresh x xs.length h
            | false=>none
        | _, _=>none
    | _=>none
  | _, _, _=>none
def qd3 (P:Program) (bx:Bool) (elem:TypeId) (size:Nat) (s x:V) (h:H):Option (V×H) :=
  match s, lenV x with
  | .sl base sLen cap, some n =>
    match h.test (Nat.beq n 0) with
    | none=>none
    | some (true, h)=>some (s, h)
    | some (false, h)=>match bx, qn1 h x with
      | true, _=>qbV P true elem size s x base sLen cap n h
      | false, false=>qbV P false elem size s x base sLen cap n h
      | false, true=>match qes P elem size x base h with
        | some r=>some r
        | none=>qbV P true elem size s x base sLen cap n h
  | .vs t l tip, some n =>
    match Nat.beq size t.cells with
    | false=>none
    | true=>match h.test (Nat.beq n 0) with
      | none=>none
      | some (true, h)=>some (s, h)
      | some (false, h)=>match qn1 h x with
        | false=>qaG P elem t l tip x n h
        | true=>qck P elem t l tip x h
  | _, _=>none
def qe3 (P:Program) (bx:Bool) (elem:TypeId) (size:Nat) (s x:V) (h:H):Option (V×H) :=
  match qdU P bx elem size s x h with
  | some r=>some r
  | none=>qd3 P bx elem size s x h
def isInt:TypeDesc → Bool
  | .int _=>true
  | _=>false
def qrt (args:Array Operand):Bool :=
  match args.toList with
  | .const _ :: _=>true
  | _=>false
def bxOf (args:Array Operand) (h:H):Bool :=
  match h.ask with
  | none=>true
  | some _=>match qrt args with
    | true=>true
    | false=>Nat.beq 1000000 h.ro
def qha (P:Program) (bx:Bool) (ts:Array TypeId) (args:List V) (h:H):Option (V×H) :=
  match ts[0]?, ts[1]?, args with
  | some t, some xt, [s, x] =>
    match P.underlying t, P.underlying xt with
    | some (.slice elem), some xd =>
      match isInt xd, qal P elem with
      | false, some size=>qe3 P bx elem size s x h
      | _, _=>none
    | _, _=>none
  | _, _, _=>none
end Go.Vm

/-
  One operation on memory.
-/
namespace Go.Vm
open Go
section
variable {P:Program} {φ:Map} {w:World} {ts:Array TypeId} {ty t xt elem size:Nat} {xd:TypeDesc} {s x:V} {s' x':Value} {h h':H} {v:V}
theorem qgJ {s:V} {sLen n:Nat} (e:qi6 P elem size s x sLen n h = some (v, h')) (hh:h'.Holds):h.Holds:=by
  unfold qi6 at e
  split at e
  · split at e
    · rename_i h4 ht4
      split at e
      · cases e
      · rename_i r h5 e1
        split at e
        · cases e
        · rename_i q h6 e2
          split at e
          · cases e
            exact (H.test_holds ht4 (qax e1 (qax e2 (qdM (H.push_holds hh))).1).1).1
          · cases e
    · cases e
  · cases e
theorem qaS {base:Option VA} {sLen n:Nat} {cap:Option Nat} (e:qaJ P elem size (.sl base sLen cap) x base sLen cap n h = some (v, h')) (hh:h'.Holds) (hs:VRel φ (.sl base sLen cap) s') (hx:VRel φ x x') (hlx:lenV x = some n) (hr:HRel φ h w)
    (h0:ts[0]? = some t) (h1:ts[1]? = some xt) (hu:P.underlying t = some (.slice elem)) (hux:P.underlying xt = some xd) (hxd:∀ k, xd ≠ .int k) (hsz:qal P elem = some size) :
    h.Holds ∧ ∃ φ' w' r, (Builtin.append_ ts ty #[s', x']).run P w = .ok r w' ∧ VRel φ' v r ∧ Goes φ h w φ' h' w':=by
  unfold qaJ at e
  split at e
  · rename_i c
    split at e
    · rename_i h3 ht2
      have s3:h.Same h3:=H.test_eqs ht2
      have key:∀ base' cap', s' = .slice base' sLen cap' → h3.Holds → c = cap' → ¬ sLen + n ≤ cap':=by
        intro base' cap' _ hh3 hc hle
        obtain ⟨_, q2, _⟩:=H.test_holds ht2 hh3
        have:=Nat.ble_eq_true_of_le (hc ▸ hle)
        rw [q2] at this; cases this
      have hh3:h3.Holds:=qgJ e hh
      obtain ⟨q1, q2, q3⟩:=H.test_holds ht2 hh3
      refine ⟨q1, ?_⟩
      have hsv:=hs
      cases hsv with
      | slNil _ hc =>
        obtain ⟨_, φ', w', r, g1, g2, g3⟩:=qgB (P:=P) (φ:=φ) (ty:=ty) (w:=w) (args':=#[_, x']) e hh hs hx hlx (hr.same s3) h0 h1 rfl rfl hu hux hxd hsz (fun h=>by cases h)
          (fun _=>key _ _ rfl hh3 (hc c rfl))
        exact ⟨φ', w', r, g1, g2, (Goes.of_same hr s3 rfl rfl rfl rfl).trans g3⟩
      | sl a k _ cap' _ hk hl hc hz =>
        obtain ⟨_, φ', w', r, g1, g2, g3⟩:=qgB (P:=P) (φ:=φ) (ty:=ty) (w:=w) (args':=#[_, x']) e hh hs hx hlx (hr.same s3) h0 h1 rfl rfl hu hux hxd hsz (fun h=>by cases h)
          (fun _=>key _ _ rfl hh3 (hc c rfl))
        exact ⟨φ', w', r, g1, g2, (Goes.of_same hr s3 rfl rfl rfl rfl).trans g3⟩
    · cases e
  · split at e
    · cases e
    · rename_i a
      split at e
      · rename_i hcond
        simp only [Bool.and_eq_true] at hcond
        obtain ⟨⟨⟨c1, c2⟩, c3⟩, c4⟩:=hcond
        refine ⟨qgJ e hh, ?_⟩
        have hsv:=hs
        cases hsv with
        | sl _ k _ cap' _ hk hl hc hz =>
          obtain ⟨_, φ', w', r, g1, g2, g3⟩:=qgB (P:=P) (φ:=φ) (ty:=ty) (w:=w) (args':=#[_, x']) e hh hs hx hlx hr h0 h1 rfl rfl hu hux hxd hsz
            (fun _=>⟨a, rfl, Nat.eq_of_beq_eq_true c1, Nat.eq_of_beq_eq_true c2, Nat.eq_of_beq_eq_true c3, Nat.le_of_ble_eq_true c4⟩) (fun h=>absurd rfl h)
          exact ⟨φ', w', r, g1, g2, g3⟩
      · cases e
theorem qcT {bx:Bool} {base:Option VA} {sLen n:Nat} {cap:Option Nat} (e:qbV P bx elem size (.sl base sLen cap) x base sLen cap n h = some (v, h')) (hh:h'.Holds) (hs:VRel φ (.sl base sLen cap) s') (hx:VRel φ x x') (hlx:lenV x = some n) (hn0:h.Holds → n ≠ 0) (hr:HRel φ h w)
    (h0:ts[0]? = some t) (h1:ts[1]? = some xt) (hu:P.underlying t = some (.slice elem)) (hux:P.underlying xt = some xd) (hxd:∀ k, xd ≠ .int k) (hsz:qal P elem = some size) :
    h.Holds ∧ ∃ φ' w' r, (Builtin.append_ ts ty #[s', x']).run P w = .ok r w' ∧ VRel φ' v r ∧ Goes φ h w φ' h' w':=by
  unfold qbV at e
  split at e
  · exact qaS e hh hs hx hlx hr h0 h1 hu hux hxd hsz
  · split at e
    · exact qaS e hh hs hx hlx hr h0 h1 hu hux hxd hsz
    split at e
    · exact qaS e hh hs hx hlx hr h0 h1 hu hux hxd hsz
    · rename_i u _
      split at e
      · exact qaS e hh hs hx hlx hr h0 h1 hu hux hxd hsz
      · rename_i hst
        have hst':=Nat.eq_of_beq_eq_true hst
        subst hst'
        split at e
        · rename_i r hr2
          cases e
          cases hs with
          | slNil _ hc =>
            exact qca (tip:=.fresh) (m:=0) (cap':=0) (base':=none) hr2 hh (.vs u [] .fresh none 0 0 (Nat.le_refl _) ⟨rfl, .inl rfl⟩ ⟨rfl, rfl⟩) hx hlx hn0 hr h0 h1 rfl rfl hu hux hxd hsz
        · exact qaS e hh hs hx hlx hr h0 h1 hu hux hxd hsz
theorem qg6 {u:Ty} {l:List u.data} {tip:Tip} {n:Nat} (e:qaG P elem u l tip x n h = some (v, h')) (hh:h'.Holds):h.Holds:=by
  unfold qaG at e
  split at e
  · split at e
    · rename_i ht
      split at e
      · cases e
      · rename_i e1
        split at e
        · rename_i htg
          cases e
          have k1:=H.push_holds hh
          have k2:∀ p, p ∈ _ → _:=fun p hp=>k1 p (by rw [(qb1 htg).1]; exact hp)
          exact (H.test_holds ht (qax e1 k2).1).1
        · cases e
    · cases e
  · cases e
theorem qej {u:Ty} {l:List u.data} {tip:Tip} {n:Nat} {size:Nat} (hcz:u.cells = size) (e:qck P elem u l tip x h = some (v, h')) (hh:h'.Holds) (hs:VRel φ (.vs u l tip) s') (hx:VRel φ x x') (hlx:lenV x = some n) (hn0:h.Holds → n ≠ 0) (hr:HRel φ h w)
    (h0:ts[0]? = some t) (h1:ts[1]? = some xt) (hu:P.underlying t = some (.slice elem)) (hux:P.underlying xt = some xd) (hxd:∀ k, xd ≠ .int k) (hsz:qal P elem = some size) :
    h.Holds ∧ ∃ φ' w' r, (Builtin.append_ ts ty #[s', x']).run P w = .ok r w' ∧ VRel φ' v r ∧ Goes φ h w φ' h' w':=by
  subst hcz
  unfold qck at e
  split at e
  · rename_i d ns h2 hst
    have hk:∀ p:(qaA ns h2).Holds, h2.Holds:=fun p q hq=>p q (by rw [qbw]; exact hq)
    have hk2:h2.Holds:=hk (qg6 e hh)
    obtain ⟨hh0, f', g, a, n', cap, hx', h3, h4⟩:=qgS hst hk2 hx hr
    subst hx'
    have hn':n = d.length:=by
      have k1:=qdh (P:=P) hlx hx w
      have k2:(Builtin.lenOf (.slice a n' cap)).run P w = .ok n' w:=rfl
      rw [k2] at k1
      cases k1
      exact h4.1
    have hd:VRel { φ with fz:=f' } (.vs u d .no) (.slice a n' cap):=.vs _ _ _ _ _ _ h3 h4 trivial
    have hs1:=hs.mono g.le
    cases hs1 with
    | vs _ _ _ a1 m1 cap1 hm1 hsl1 htp1 =>
      obtain ⟨q1, φ', w', r, g1, g2, g3⟩:=qca (P:=P) (ty:=ty) (args':=#[_, _]) e hh (.vs u l tip a1 m1 cap1 hm1 hsl1 htp1) hd rfl (fun p=>by rw [← hn']; exact hn0 hh0) g.rel h0 h1 rfl rfl hu hux hxd hsz
      exact ⟨hh0, φ', w', r, g1, g2, g.trans g3⟩
  · cases e
theorem qhm {bx:Bool} (e:qd3 P bx elem size s x h = some (v, h')) (hh:h'.Holds) (hs:VRel φ s s') (hx:VRel φ x x') (hr:HRel φ h w)
    (h0:ts[0]? = some t) (h1:ts[1]? = some xt) (hu:P.underlying t = some (.slice elem)) (hux:P.underlying xt = some xd) (hxd:∀ k, xd ≠ .int k) (hsz:qal P elem = some size) :
    h.Holds ∧ ∃ φ' w' r, (Builtin.append_ ts ty #[s', x']).run P w = .ok r w' ∧ VRel φ' v r ∧ Goes φ h w φ' h' w':=by
  have hnew:lenV x = some 0 → (Builtin.firstCells size 0 x').run P w = .ok #[] w:=by
    intro hlx
    cases hx <;> simp only [lenV, Option.some.injEq] at hlx <;> first | (cases hlx; done) | skip
    · simp [Builtin.firstCells]
    · rfl
    · simp [Builtin.firstCells, loadCells, loadCellsFrom]
    · rename_i a _ _ _ _ _
      cases a with
      | none=>rfl
      | some a=>simp [Builtin.firstCells, loadCells, loadCellsFrom]
  unfold qd3 at e
  split at e
  · rename_i base sLen cap n hlx
    split at e
    · cases e
    · -- nothing is appended
      rename_i h2 ht
      cases e
      obtain ⟨q1, q2, q3⟩:=H.test_holds ht hh
      have hn0:n = 0:=Nat.eq_of_beq_eq_true q2
      subst hn0
      refine ⟨q1, φ, w, s', ?_, hs, Goes.of_same hr q3 rfl rfl rfl rfl⟩
      have hn':=qdh (P:=P) hlx hx w
      cases hs with
      | slNil =>
        rw [qaC (P:=P) (ty:=ty) h0 h1 (args:=#[_, x']) rfl rfl hu hux hxd hsz hn' (Nat.le_refl _) (hnew hlx)]
        rfl
      | sl a k _ cap' _ hk hl hc hz =>
        rw [qaC (P:=P) (ty:=ty) h0 h1 (args:=#[_, x']) rfl rfl hu hux hxd hsz hn' hl (hnew hlx)]
        rfl
    · rename_i h2 ht
      have s2:h.Same h2:=H.test_eqs ht
      have hn0:h2.Holds → n ≠ 0:=by
        intro hh2 e0
        obtain ⟨_, q2, _⟩:=H.test_holds ht hh2
        subst e0
        cases q2
      have key:h2.Holds ∧ ∃ φ' w' r, (Builtin.append_ ts ty #[s', x']).run P w = .ok r w' ∧ VRel φ' v r ∧ Goes φ h2 w φ' h' w':=by
        split at e
        · exact qcT (P:=P) (ty:=ty) e hh hs hx hlx hn0 (hr.same s2) h0 h1 hu hux hxd hsz
        · exact qcT (P:=P) (ty:=ty) e hh hs hx hlx hn0 (hr.same s2) h0 h1 hu hux hxd hsz
        · split at e
          · rename_i r1 hr1
            cases e
            unfold qes at hr1
            split at hr1
            · cases hr1
            · split at hr1
              · cases hr1
              · rename_i u1 _
                split at hr1
                · cases hr1
                · rename_i hcz
                  have hcz':=Nat.eq_of_beq_eq_true hcz
                  cases hs with
                  | slNil _ hc =>
                    exact qej (P:=P) (ty:=ty) (tip:=.fresh) hcz'.symm hr1 hh (.vs u1 [] .fresh none 0 0 (Nat.le_refl _) ⟨rfl, .inl rfl⟩ ⟨rfl, rfl⟩) hx hlx hn0 (hr.same s2) h0 h1 hu hux hxd hsz
          · exact qcT (P:=P) (ty:=ty) e hh hs hx hlx hn0 (hr.same s2) h0 h1 hu hux hxd hsz
      obtain ⟨q1, φ', w', r, g1, g2, g3⟩:=key
      exact ⟨(H.test_holds ht q1).1, φ', w', r, g1, g2, (Goes.of_same hr s2 rfl rfl rfl rfl).trans g3⟩
  · rename_i u l tip n hlx
    split at e
    · cases e
    · rename_i hst
      have hst':=Nat.eq_of_beq_eq_true hst
      subst hst'
      split at e
      · cases e
      · rename_i h2 ht
        cases e
        obtain ⟨q1, q2, q3⟩:=H.test_holds ht hh
        have hn0:n = 0:=Nat.eq_of_beq_eq_true q2
        subst hn0
        refine ⟨q1, φ, w, s', ?_, hs, Goes.of_same hr q3 rfl rfl rfl rfl⟩
        have hn':=qdh (P:=P) hlx hx w
        cases hs with
        | vs _ _ _ a m cap hm hsl htp =>
          rw [qaC (P:=P) (ty:=ty) h0 h1 (args:=#[_, x']) rfl rfl hu hux hxd hsz hn' hm (hnew hlx)]
          cases a <;> rfl
      · rename_i h2 ht
        have s2:h.Same h2:=H.test_eqs ht
        cases hs with
        | vs _ _ _ a m cap hm hsl htp =>
          have hn0:h2.Holds → n ≠ 0:=by
            intro hh2 e0
            obtain ⟨_, q2, _⟩:=H.test_holds ht hh2
            subst e0
            cases q2
          have key:h2.Holds ∧ ∃ φ' w' r, (Builtin.append_ ts ty #[.slice a m cap, x']).run P w = .ok r w' ∧ VRel φ' v r ∧ Goes φ h2 w φ' h' w':=by
            split at e
            · exact qca (P:=P) (ty:=ty) (args':=#[_, x']) e hh (.vs u l tip a m cap hm hsl htp) hx hlx hn0 (hr.same s2) h0 h1 rfl rfl hu hux hxd hsz
            · exact qej (P:=P) (ty:=ty) rfl e hh (.vs u l tip a m cap hm hsl htp) hx hlx hn0 (hr.same s2) h0 h1 hu hux hxd hsz
          obtain ⟨q1, φ', w', r, g1, g2, g3⟩:=key
          exact ⟨(H.test_holds ht q1).1, φ', w', r, g1, g2, (Goes.of_same hr s2 rfl rfl rfl rfl).trans g3⟩
  · cases e
theorem qgN (hlx:lenV x = some 0) (hx:VRel φ x x'):(Builtin.firstCells size 0 x').run P w = .ok #[] w:=by
  cases hx <;> simp only [lenV, Option.some.injEq] at hlx <;> first | (cases hlx; done) | skip
  · simp [Builtin.firstCells]
  · rfl
  · simp [Builtin.firstCells, loadCells, loadCellsFrom]
  · rename_i a _ _ _ _ _
    cases a with
    | none=>rfl
    | some a=>simp [Builtin.firstCells, loadCells, loadCellsFrom]
theorem qdi {u u2:Ty} {l:List u.data} {xs:List u2.data} {tip tip2:Tip} {base':Option Addr} {m cap':Nat} (e:qaG P elem u l tip (.vs u2 xs tip2) xs.length h = some (v, h')) (hh:h'.Holds) (hs:VRel φ (.vs u l tip) (.slice base' m cap')) (hx:VRel φ (.vs u2 xs tip2) x') (hr:HRel φ h w)
    (h0:ts[0]? = some t) (h1:ts[1]? = some xt) (hu:P.underlying t = some (.slice elem)) (hux:P.underlying xt = some xd) (hxd:∀ k, xd ≠ .int k) (hsz:qal P elem = some u.cells) :
    h.Holds ∧ ∃ φ' w' r, (Builtin.append_ ts ty #[.slice base' m cap', x']).run P w = .ok r w' ∧ VRel φ' v r ∧ Goes φ h w φ' h' w':=by
  by_cases hn:xs.length = 0
  · have hn':xs = []:=List.eq_nil_of_length_eq_zero hn
    subst hn'
    have hlx:lenV (.vs u2 [] tip2) = some 0:=rfl
    have hrun:=qdh (P:=P) hlx hx w
    have hcells:=qgN (P:=P) (w:=w) (size:=u.cells) hlx hx
    unfold qaG at e
    split at e
    · split at e
      · rename_i h2 ht
        split at e
        · cases e
        · rename_i q h3 e2
          split at e
          · rename_i ys h4 hxs htg
            cases e
            obtain ⟨sd, hnx⟩:=qb1 htg
            have hh3:h3.Holds:=fun p hp=>H.push_holds hh p (by rw [sd]; exact hp)
            obtain ⟨hh2, s23⟩:=qax e2 hh3
            obtain ⟨hh1, _, s12⟩:=H.test_holds ht hh2
            have s13:h.Same h3:=H.Same.trans s12 s23
            refine ⟨hh1, ?_⟩
            have hys:ys = []:=by
              simp only [elems] at e2
              split at e2
              · cases e2
                simp only [qba] at hxs
                have cast0:∀ {a b:Ty} (hq:PLift (a = b)), Ty.castL hq [] = []:=by
                  intro a b hq
                  obtain ⟨hq⟩:=hq
                  subst hq; rfl
                split at hxs
                · simp only [Option.some.injEq] at hxs
                  rw [← hxs]
                  exact cast0 _
                · cases hxs
              · cases e2
            subst hys
            cases hs with
            | vs _ _ _ _ _ _ hm hsl htp =>
              obtain ⟨mm, g, htp'⟩:=Goes.retip (hr.same s13) htp htg
              refine ⟨_, w, .slice base' m cap', ?_, ?_, (Goes.of_same hr s13 rfl rfl rfl rfl).trans g⟩
              · rw [qaC (P:=P) (ty:=ty) h0 h1 (args:=#[_, x']) rfl rfl hu hux hxd hsz hrun hm hcells]
                cases base' <;> rfl
              · rw [hnx]
                exact .vs _ _ _ _ _ _ hm (by rw [List.append_nil]; exact hsl) htp'
          · cases e
      · cases e
    · cases e
  · exact qca (P:=P) (ty:=ty) (args':=#[_, x']) e hh hs hx rfl (fun _=>hn) hr h0 h1 rfl rfl hu hux hxd hsz
theorem qil {bx:Bool} (e:qe3 P bx elem size s x h = some (v, h')) (hh:h'.Holds) (hs:VRel φ s s') (hx:VRel φ x x') (hr:HRel φ h w)
    (h0:ts[0]? = some t) (h1:ts[1]? = some xt) (hu:P.underlying t = some (.slice elem)) (hux:P.underlying xt = some xd) (hxd:∀ k, xd ≠ .int k) (hsz:qal P elem = some size) :
    h.Holds ∧ ∃ φ' w' r, (Builtin.append_ ts ty #[s', x']).run P w = .ok r w' ∧ VRel φ' v r ∧ Goes φ h w φ' h' w':=by
  unfold qe3 at e
  split at e
  · rename_i r hw
    cases e
    unfold qdU at hw
    split at hw
    · split at hw
      · split at hw
        · rename_i hz
          have hz:=Nat.eq_of_beq_eq_true hz
          subst hz
          cases hs with
          | vs _ _ _ a m cap hm hsl htp=>exact qdi (P:=P) (ty:=ty) hw hh (.vs _ _ _ a m cap hm hsl htp) hx hr h0 h1 hu hux hxd hsz
        · cases hw
      · split at hw
        · cases hw
        · split at hw
          · rename_i hz
            have hz:=Nat.eq_of_beq_eq_true hz
            subst hz
            cases hs with
            | slNil _ hc=>exact qdi (P:=P) (ty:=ty) hw hh (.vs _ [] .fresh none 0 0 (Nat.le_refl _) ⟨rfl, .inl rfl⟩ ⟨rfl, rfl⟩) hx hr h0 h1 hu hux hxd hsz
          · cases hw
      · split at hw
        · split at hw
          · split at hw
            · cases hs with
              | sl _ k _ cap' _ hk hl hc _ =>
                have:=hc 0 rfl
                subst this
                rename_i b e0 _ _
                have heq:(⟨b, e0, 0, 0⟩:VA).real k = (⟨b, size, 0, 0⟩:VA).real k:=by simp [VA.real]
                rw [heq]
                exact qaS (P:=P) (ty:=ty) hw hh (.sl (⟨b, size, 0, 0⟩:VA) k 0 0 none hk (Nat.le_refl _) (fun _ h=>by cases h) (fun _=>⟨rfl, by simp⟩)) hx rfl hr h0 h1 hu hux hxd hsz
            · cases hw
          · cases hw
        · split at hw
          · split at hw
            · cases hw
            · split at hw
              · rename_i hz
                have hz:=Nat.eq_of_beq_eq_true hz
                subst hz
                cases hs with
                | sl _ k _ cap' _ hk hl hc _ =>
                  have:=hc 0 rfl
                  subst this
                  exact qdi (P:=P) (ty:=ty) hw hh (.vs _ [] .fresh _ 0 0 (Nat.le_refl _) ⟨rfl, .inl rfl⟩ ⟨rfl, rfl⟩) hx hr h0 h1 hu hux hxd hsz
              · cases hw
          · cases hw
      · cases hw
    · cases hw
  · exact qhm (P:=P) (ty:=ty) e hh hs hx hr h0 h1 hu hux hxd hsz
end
theorem qj8 {P:Program} {bx:Bool} {φ:Map} {w:World} {ts:Array TypeId} {ty:TypeId} {args:List V} {args':Array Value} {h h':H} {v:V} (e:qha P bx ts args h = some (v, h')) (hh:h'.Holds) (ha:VRels φ args args'.toList) (hr:HRel φ h w) :
    h.Holds ∧ ∃ φ' w' r, (Builtin.append_ ts ty args').run P w = .ok r w' ∧ VRel φ' v r ∧ Goes φ h w φ' h' w':=by
  unfold qha at e
  split at e
  · rename_i t xt s x h0 h1
    obtain ⟨args'⟩:=args'
    cases ha with
    | @cons _ s' _ _ hs ha =>
      cases ha with
      | @cons _ x' _ _ hx ha =>
        cases ha
        split at e
        · rename_i elem xd hu hux
          split at e
          · rename_i size hxi hsz
            exact qil e hh hs hx hr h0 h1 hu hux (fun k hk=>by rw [hk] at hxi; cases hxi) hsz
          · cases e
        · cases e
  · cases e
def flat:Rows → Option (List V)
  | .list l=>some l.flatten
  | .fn _ _=>none
  | .ty t l=>some (l.map (cellsV t)).flatten
def cutV (x:V) (n:Nat):V :=
  match x with
  | .sl a _ c=>.sl a n c
  | .str s=>.str (s.extract 0 n)
  | .vs t l _=>.vs t (l.take n) .no
  | x=>x
theorem qj0 {φ:Map} {size:Nat}:∀ (l:List (List V)) (rs:List Value), RowsIn φ size (.list l) rs.toArray → rs.length = l.length * size → VRels φ l.flatten rs:=by
  intro l
  induction l with
  | nil=>intro rs _ hl; have:rs = []:=List.eq_nil_of_length_eq_zero (by simpa using hl); subst this; exact .nil
  | cons row l ih =>
    intro rs hri hl
    simp only [List.length_cons, Nat.add_mul] at hl
    have h0:=hri 0 row rfl
    have hsplit:rs = rs.take size++rs.drop size:=(List.take_append_drop size rs).symm
    rw [hsplit, List.flatten_cons]
    refine VRels.append ?_ (ih _ ?_ (by simp; omega))
    · refine VRels.of_get (by simp; omega) fun i v r hv hr'=>?_
      obtain ⟨x, hx, hvx⟩:=h0.2 i v hv
      rw [List.getElem?_take] at hr'
      split at hr'
      · simp only [List.getElem?_toArray, Nat.zero_mul, Nat.zero_add] at hx
        rw [hx] at hr'; cases hr'; exact hvx
      · cases hr'
    · intro i row' hrow
      obtain ⟨q1, q2⟩:=hri (i + 1) row' (by simpa [Rows.get] using hrow)
      refine ⟨q1, fun o v hv=>?_⟩
      obtain ⟨x, hx, hvx⟩:=q2 o v hv
      refine ⟨x, ?_, hvx⟩
      simp only [List.getElem?_toArray] at hx ⊢
      rw [List.getElem?_drop, ← hx]
      congr 1
      rw [Nat.add_mul]; omega
theorem qoM {φ:Map} {size n:Nat} {r:Rows} {rs:List Value} (h:Elems φ size n r rs) {cs:List V} (e:flat r = some cs):VRels φ cs rs:=by
  have hl:=h.len
  cases r with
  | fn _ _=>cases e
  | ty t l =>
    simp only [flat, Option.some.injEq] at e
    subst e
    simp only [Rows.len] at hl
    refine qj0 (l.map (cellsV t)) rs (fun i row hrow=>?_) (by rw [List.length_map, hl]; exact h.cells)
    refine h.rows i row ?_
    simpa [Rows.get, List.getElem?_map] using hrow
  | list l =>
    simp only [flat, Option.some.injEq] at e
    subst e
    simp only [Rows.len] at hl
    exact qj0 l rs h.rows (by rw [hl]; exact h.cells)
def qli (b:Bool) (m d:Nat):Nat:=match b with | true=>m | false=>d
def qe8 (c:Nat):Nat → Nat → H → Option (Nat×H)
  | 0, _, _=>none
  | f + 1, k, h=>match h.test (Nat.beq c k) with
    | some (true, h)=>some (k, h)
    | some (false, h)=>qe8 c f (k + 1) h
    | none=>none
theorem qhN {c:Nat}:∀ {f k:Nat} {h h':H} {n:Nat}, qe8 c f k h = some (n, h') → h'.Holds → h.Holds ∧ n = c ∧ h.Same h'
  | 0, _, _, _, _, e, _=>by cases e
  | f + 1, k, h, h', n, e, hh=>by
    simp only [qe8] at e
    split at e
    · rename_i h1 ht
      cases e
      obtain ⟨h2, h3, h4⟩:=H.test_holds ht hh
      exact ⟨h2, (Nat.eq_of_beq_eq_true h3).symm, h4⟩
    · rename_i h1 ht
      obtain ⟨q1, q2, q3⟩:=qhN e hh
      obtain ⟨h2, h3, h4⟩:=H.test_holds ht q1
      exact ⟨h2, q2, H.Same.trans h4 q3⟩
    · cases e
def qqI (k:Nat):Rows → Option (List V)
  | .list l=>some l.flatten
  | .fn _ _=>none
  | .ty t l=>some ((List.range k).map fun j=>cellsV t (l.getD j t.dflt)).flatten
theorem qmM {φ:Map} {size n:Nat} {r:Rows} {rs:List Value} (h:Elems φ size n r rs) {cs:List V} (e:qqI n r = some cs):VRels φ cs rs:=by
  refine qoM h ?_
  cases r with
  | list l=>exact e
  | fn _ _=>exact e
  | ty t l =>
    rw [← e]
    simp only [flat, qqI]
    congr 2
    have hl:l.length = n:=h.len
    apply List.ext_getElem?
    intro i
    rw [List.getElem?_map, List.getElem?_map]
    rcases Nat.lt_or_ge i n with hi | hi
    · rw [List.getElem?_range hi]
      simp [List.getD, List.getElem?_eq_getElem (show i < l.length by omega)]
    · rw [List.getElem?_eq_none (by omega), List.getElem?_eq_none (by simpa using hi)]
      rfl
def qre (h:H) (a:VA):Nat :=
  match h.get a.b with
  | some (.box _ r)=>match r.get a.i with
    | some row=>row.length - a.o
    | none=>0
  | _=>0
def qdY (h:H) (a:VA) (e:Nat) (t:Ty) (l:List t.data) (r:Rows) (size c:Nat):Option H :=
  match qba t r with
  | none=>none
  | some xs=>match h.test (Nat.ble (a.i + c) l.length) with
    | some (true, h)=>match Nat.beq e a.e, Nat.beq e size, Nat.beq t.cells size, a.o, Nat.ble h.ro a.b with
      | true, true, true, 0, true=>some (h.set a.b (.box e (.ty t (l.take a.i++(xs++l.drop (a.i + c))))))
      | _, _, _, _, _=>none
    | _=>none
def qgC (a:VA) (x:V) (size c:Nat) (h:H):Option (V×H) :=
  match h.get a.b with
  | some (.box e (.ty t l))=>match elems h (cutV x c) size with
    | none=>none
    | some (r, h)=>match qdY h a e t l r size c with
      | some h=>some (.int .i64 (c:Nat), h)
      | none=>none
  | _=>match qe8 c (qre h a + 1) 0 h with
    | none=>none
    | some (k, h)=>match elems h (cutV x k) size with
      | none=>none
      | some (r, h)=>match qqI k r with
        | none=>none
        | some cs=>match vput h a cs with
          | some h=>some (.int .i64 (k:Nat), h)
          | none=>none
def qkO (P:Program) (ts:Array TypeId) (args:List V) (h:H):Option (V×H) :=
  match ts[0]?, args with
  | some t, [.sl (some a) dLen _, x] =>
    match P.underlying t with
    | some (.slice elem) =>
      match qal P elem, lenV x with
      | some size, some m =>
        match h.test (Nat.ble m dLen) with
        | none=>none
        | some (true, h)=>qgC a x size m h
        | some (false, h)=>qgC a x size dLen h
      | _, _=>none
    | _=>none
  | _, _=>none
theorem qlN (P:Program) (ts:Array TypeId) (args:List V) (h:H):qkO P ts args h =
  match ts[0]?, args with
  | some t, [.sl (some a) dLen _, x] =>
    match P.underlying t with
    | some (.slice elem) =>
      match qal P elem, lenV x with
      | some size, some m =>
        match h.test (Nat.ble m dLen) with
        | none=>none
        | some (b, h)=>qgC a x size (qli b m dLen) h
      | _, _=>none
    | _=>none
  | _, _=>none:=by
  unfold qkO
  split
  · split
    · split
      · generalize h.test _ = tt
        cases tt with
        | none=>rfl
        | some r=>obtain ⟨b, h2⟩:=r; cases b <;> rfl
      · rfl
    · rfl
  · rfl
theorem qei {P:Program} {w:World} {size n:Nat} {x:V} {x':Value} {φ:Map} {m:Nat} (hx:VRel φ x x') (hm:lenV x = some m) (hn:n ≤ m) :
    ∃ y', VRel φ (cutV x n) y' ∧ lenV (cutV x n) = some n ∧ (Builtin.firstCells size n x').run P w = (Builtin.firstCells size n y').run P w:=by
  cases hx with
  | str s =>
    simp only [lenV, Option.some.injEq] at hm
    subst hm
    refine ⟨.string (s.extract 0 n), .str _, ?_, ?_⟩
    · simp only [cutV, lenV]
      congr 1
      simp
      omega
    · simp only [Builtin.firstCells]
      congr 3
      simp
  | slNil cap hc =>
    simp only [lenV, Option.some.injEq] at hm
    have:n = 0:=by omega
    subst this
    exact ⟨_, .slNil cap hc, rfl, rfl⟩
  | sl a k len cap' cap hk hl hc hz =>
    simp only [lenV, Option.some.injEq] at hm
    exact ⟨_, .sl a k n cap' cap hk (by omega) hc hz, rfl, rfl⟩
  | vs t l tip a k cap hk hs ht =>
    simp only [lenV, Option.some.injEq] at hm
    refine ⟨.slice a n cap, .vs _ _ _ _ _ _ (by have:=hs.1; omega) ⟨by simp; omega, ?_⟩ trivial, by simp only [cutV, lenV]; congr 1; simp; omega, by cases a <;> rfl⟩
    rcases hs.2 with h | ⟨b, off, c, h1, h2, h3, h4⟩
    · left; simp [h]
    · right
      refine ⟨b, off, c, h1, h2, ?_, h4.take n⟩
      have:(l.take n).length * t.cells ≤ l.length * t.cells:=Nat.mul_le_mul_right _ (by simp; omega)
      omega
  | _=>simp [lenV] at hm
theorem qmu {h h':H} {a:VA} {cs:List V} (e:vput h a cs = some h') (hh:h'.Holds):h.Holds:=by
  intro p hp
  exact hh p (by rw [(qnY e).1]; exact hp)
theorem qjU {P:Program} {φ:Map} {h h':H} {a:VA} {e:Nat} {t:Ty} {l:List t.data} {r:Rows} {size c:Nat} {rs:List Value} {k:Nat×Nat×Nat} {w:World}
    (ee:qdY h a e t l r size c = some h') (hh:h'.Holds) (hg:h.get a.b = some (.box e (.ty t l))) (hr:HRel φ h w) (hk:φ a.b = some k) (he:Elems φ size c r rs) :
    h.Holds ∧ ∃ w', (storeCells (a.real k) rs).run P w = .ok () w' ∧ Goes φ h w φ h' w':=by
  unfold qdY at ee
  split at ee
  · cases ee
  · rename_i xs hxs
    split at ee
    · rename_i h2 ht
      split at ee
      · rename_i c1 c2 c3 c4 c5
        cases ee
        have hh2:h2.Holds:=by intro p hp; exact hh p (by rw [H.set_eq]; exact hp)
        obtain ⟨k1, k2, k3⟩:=H.test_holds ht hh2
        have k2:=Nat.le_of_ble_eq_true k2
        have c1:=Nat.eq_of_beq_eq_true c1
        have c2:=Nat.eq_of_beq_eq_true c2
        have c3:=Nat.eq_of_beq_eq_true c3
        subst c2
        have s2:h.Same h2:=k3
        have hr2:HRel φ h2 w:=hr.same s2
        have hg2:h2.get a.b = some (.box e (.ty t l)):=by
          rw [← hg]; simp only [H.get]; rw [k3.2.2]
        have c5':=Nat.le_of_ble_eq_true c5
        refine ⟨k1, ?_⟩
        obtain ⟨k', o, hk', ho, hrel⟩:=hr2.obj _ _ hg2 (by simp)
        rw [hk] at hk'; cases hk'
        rw [c5] at hrel
        cases o with
        | cells cc tt fz =>
          obtain ⟨hri, hcz, hfz⟩:=hrel
          obtain ⟨hfz', hz0⟩:=hfz rfl
          subst hfz'
          rw [hz0, qa2] at hri
          rw [← c3] at he c1 hri
          obtain ⟨hxl, hlies⟩:=he.lies hxs
          have hreal:a.real k = ⟨k.1, a.i * t.cells + 0, none⟩:=by unfold VA.real; rw [hz0, Nat.zero_add, c4, ← c1]
          rw [hreal]
          have hlen:=he.cells
          have hsz:a.i * t.cells + 0 + rs.length ≤ cc.size:=by
            rcases Nat.eq_zero_or_pos (a.i + c) with h0 | h0
            · have:a.i = 0:=by omega
              have:c = 0:=by omega
              subst this
              rw [hlen]; simp_all
            · have:=qhT hri (n:=a.i + c) (by simpa [Rows.len] using k2) h0
              rw [Nat.add_mul] at this
              omega
          obtain ⟨w', c', hrun, hw, hcl⟩:=qbj (P:=P) (k:=k.1) (off:=a.i * t.cells + 0) (t:=tt) rs 0 w cc ho (by omega) (qfG he hxs)
          refine ⟨w', hrun, (Goes.of_same hr s2 rfl rfl rfl rfl).trans ?_⟩
          refine Goes.write hr2 hg2 c5' hk hw.here hw.size hw.other hw.os hw.tape hw.output ⟨?_, ?_, fun _=>⟨rfl, hz0⟩⟩
          · rw [hz0, qa2]
            have hget:∀ n, c'[n]? = if n < a.i * t.cells then cc[n]? else if n < a.i * t.cells + rs.length then rs[n - a.i * t.cells]? else cc[n]?:=by
              intro n
              have hcl':c'.toList = cc.toList.take (a.i * t.cells)++(rs++cc.toList.drop (a.i * t.cells + rs.length)):=by simpa using hcl
              rw [← Array.getElem?_toList, hcl']
              have hmin:min (a.i * t.cells) cc.size = a.i * t.cells:=by omega
              split
              · rename_i h
                rw [List.getElem?_append_left (by simp; omega), List.getElem?_take, if_pos h]; simp
              · rename_i h
                rw [List.getElem?_append_right (by simp; omega)]
                simp only [List.length_take, Array.length_toList, hmin]
                split
                · rename_i h2
                  rw [List.getElem?_append_left (by omega)]
                · rename_i h2
                  rw [List.getElem?_append_right (by omega), List.getElem?_drop]
                  simp only [Array.getElem?_toList]
                  congr 1; omega
            have hxs2:RowsIn φ t.cells (.ty t xs) rs.toArray:=he.rows.typed (qbz hxs).2
            rw [← c3]
            intro j row hj
            simp only [Rows.get] at hj
            by_cases h1:j < a.i
            · rw [List.getElem?_append_left (by simp; omega), List.getElem?_take, if_pos h1] at hj
              obtain ⟨q1, q2⟩:=hri j row (by simpa only [Rows.get] using hj)
              refine ⟨q1, fun o v hv=>?_⟩
              obtain ⟨x, hx, hv2⟩:=q2 o v hv
              refine ⟨x, ?_, hv2⟩
              have ho2:o < t.cells:=by
                rcases Nat.lt_or_ge o row.length with h | h
                · omega
                · rw [List.getElem?_eq_none h] at hv; cases hv
              have:(j + 1) * t.cells ≤ a.i * t.cells:=Nat.mul_le_mul_right _ h1
              rw [Nat.add_mul] at this
              rw [hget, if_pos (by omega)]; exact hx
            · rw [List.getElem?_append_right (by simp; omega)] at hj
              simp only [List.length_take, show min a.i l.length = a.i by omega] at hj
              by_cases h2:j - a.i < xs.length
              · rw [List.getElem?_append_left (by omega)] at hj
                obtain ⟨q1, q2⟩:=hxs2 (j - a.i) row (by simpa only [Rows.get] using hj)
                refine ⟨q1, fun o v hv=>?_⟩
                obtain ⟨x, hx, hv2⟩:=q2 o v hv
                refine ⟨x, ?_, hv2⟩
                have ho2:o < t.cells:=by
                  rcases Nat.lt_or_ge o row.length with h | h
                  · omega
                  · rw [List.getElem?_eq_none h] at hv; cases hv
                have e1:a.i * t.cells ≤ j * t.cells:=Nat.mul_le_mul_right _ (by omega)
                have e2:(j - a.i) * t.cells = j * t.cells - a.i * t.cells:=Nat.sub_mul _ _ _
                have e3:(j - a.i + 1) * t.cells ≤ xs.length * t.cells:=Nat.mul_le_mul_right _ h2
                rw [Nat.add_mul, hxl, ← hlen] at e3
                rw [hget, if_neg (by omega), if_pos (by omega)]
                rw [← hx]
                simp only [List.getElem?_toArray]
                congr 1; omega
              · rw [List.getElem?_append_right (by omega), List.getElem?_drop] at hj
                have e0:a.i + c + (j - a.i - xs.length) = j:=by omega
                rw [e0] at hj
                obtain ⟨q1, q2⟩:=hri j row (by simpa only [Rows.get] using hj)
                refine ⟨q1, fun o v hv=>?_⟩
                obtain ⟨x, hx, hv2⟩:=q2 o v hv
                refine ⟨x, ?_, hv2⟩
                have e1:(a.i + c) * t.cells ≤ j * t.cells:=Nat.mul_le_mul_right _ (by omega)
                rw [Nat.add_mul] at e1
                rw [hget, if_neg (by omega), if_neg (by omega)]; exact hx
          · rw [hw.csize]; exact hcz
        | _=>exact hrel.elim
      · cases ee
    · cases ee
theorem qmz {P:Program} {φ:Map} {w:World} {a:VA} {x:V} {x':Value} {size c m:Nat} {k:Nat×Nat×Nat} {h h':H} {v:V} (e:qgC a x size c h = some (v, h')) (hh:h'.Holds) (hm:lenV x = some m) (hcm:h.Holds → c ≤ m) (hx:VRel φ x x') (hk:φ a.b = some k) (hr:HRel φ h w) :
    h.Holds ∧ c ≤ m ∧ v = .int .i64 (c:Nat) ∧ ∃ w' rs, (Builtin.firstCells size c x').run P w = .ok rs w ∧ (storeCells (a.real k) rs.toList).run P w = .ok () w' ∧ Goes φ h w φ h' w':=by
  unfold qgC at e
  split at e
  · rename_i el t l hg
    split at e
    · cases e
    · rename_i r h3 e1
      split at e
      · rename_i h4 e2
        cases e
        have hh3:h3.Holds:=by
          unfold qdY at e2
          split at e2
          · cases e2
          · split at e2
            · rename_i h5 ht
              split at e2
              · cases e2
                exact (H.test_holds ht (by intro p hp; exact hh p (by rw [H.set_eq]; exact hp))).1
              · cases e2
            · cases e2
        obtain ⟨hh1, s23⟩:=qax e1 hh3
        have hcm:=hcm hh1
        obtain ⟨y', hy, hly, hfc⟩:=qei (P:=P) (w:=w) (size:=size) hx hm hcm
        obtain ⟨_, _, rs, rrs, ers⟩:=qbF (P:=P) e1 hh3 hly hy hr
        have hg3:h3.get a.b = some (.box el (.ty t l)):=by rw [← hg]; simp only [H.get]; rw [s23.2.2]
        obtain ⟨_, w', hrun, g⟩:=qjU (P:=P) e2 hh hg3 (hr.same s23) hk ers
        refine ⟨hh1, hcm, rfl, w', rs.toArray, by rw [hfc]; exact rrs, by simpa using hrun, (Goes.of_same hr s23 rfl rfl rfl rfl).trans g⟩
      · cases e
  · split at e
    · cases e
    · rename_i n h2 e0
      split at e
      · cases e
      · rename_i r h3 e1
        split at e
        · cases e
        · rename_i cs hcs
          split at e
          · rename_i h4 e2
            cases e
            have hh3:h3.Holds:=qmu e2 hh
            obtain ⟨hh2, s23⟩:=qax e1 hh3
            obtain ⟨hh1, hn, s12⟩:=qhN e0 hh2
            subst hn
            have hcm:=hcm hh1
            obtain ⟨y', hy, hly, hfc⟩:=qei (P:=P) (w:=w) (size:=size) hx hm hcm
            obtain ⟨_, _, rs, rrs, ers⟩:=qbF (P:=P) e1 hh3 hly hy (hr.same s12)
            have hvr:=qmM ers hcs
            obtain ⟨w', hrun, g, _⟩:=qd9 (P:=P) e2 (hr.same (s12.trans s23)) hk hvr
            exact ⟨hh1, hcm, rfl, w', rs.toArray, by rw [hfc]; exact rrs, by simpa using hrun, (Goes.of_same hr (s12.trans s23) rfl rfl rfl rfl).trans g⟩
          · cases e
theorem qnK {P:Program} {φ:Map} {w:World} {ts:Array TypeId} {ty:TypeId} {args:List V} {args':Array Value} {h h':H} {v:V} (e:qkO P ts args h = some (v, h')) (hh:h'.Holds) (ha:VRels φ args args'.toList) (hr:HRel φ h w) :
    h.Holds ∧ ∃ w' r, (Builtin.copy_ ts ty args').run P w = .ok r w' ∧ VRel φ v r ∧ Goes φ h w φ h' w':=by
  rw [qlN] at e
  split at e
  · rename_i t a dLen dcap x h0
    obtain ⟨args'⟩:=args'
    cases ha with
    | @cons _ s' _ _ hs ha =>
      cases ha with
      | @cons _ x' _ _ hx ha =>
        cases ha
        split at e
        · rename_i elem hu
          split at e
          · rename_i size m hsz hm
            split at e
            · cases e
            · rename_i b h2 ht
              cases hs with
              | sl _ k _ cap' _ hk hl hc hz =>
                have hnm:h2.Holds → qli b m dLen ≤ m ∧ qli b m dLen = Nat.min m dLen:=by
                  intro hh2
                  obtain ⟨_, hb, _⟩:=H.test_holds ht hh2
                  cases b with
                  | true =>
                    have:=Nat.le_of_ble_eq_true hb
                    exact ⟨Nat.le_refl _, (Nat.min_eq_left this).symm⟩
                  | false =>
                    have:¬ m ≤ dLen:=fun h=>by have:=Nat.ble_eq_true_of_le h; rw [hb] at this; cases this
                    have hd:qli false m dLen = dLen:=rfl
                    exact ⟨by omega, (Nat.min_eq_right (by omega)).symm⟩
                have s12:h.Same h2:=by
                  obtain ⟨q1, q2, q3⟩:=H.test_eqs ht
                  exact ⟨q1, q2, q3⟩
                obtain ⟨hh2, _, hv, w', rs, rrs, hrun, g⟩:=qmz (P:=P) e hh hm (fun q=>(hnm q).1) hx hk (hr.same s12)
                obtain ⟨hh1, _, _⟩:=H.test_holds ht hh2
                subst hv
                have hnm:=(hnm hh2).2
                refine ⟨hh1, w', _, ?_, .int _ _, (Goes.of_same hr s12 rfl rfl rfl rfl).trans g⟩
                have hlx:=qdh (P:=P) hm hx w
                rw [hnm] at rrs
                simp only [Builtin.copy_, h0, Sem.run_bind, qaa hu, Result.andThen_ok, hlx, qag hsz, List.getElem?_toArray, List.getElem?_cons_zero, List.getElem?_cons_succ, rrs, hrun, Sem.run_pure]
                rw [← hnm]; rfl
          · cases e
        · cases e
  · cases e
end Go.Vm

/-
  Maps as lists of entries of plain data; the bytes of a string as data.
-/
namespace Go.Vm
open Go
def valV:(t:Ty) → t.data → V
  | .int k, n=>.int k n
  | .bool, b=>.bool b
  | .str, s=>.str s
  | .unit, _=>.agg []
  | .pair a b, d=>.agg (cellsV a d.1++cellsV b d.2)
  | .slice t, l=>.vs t l .no
def decV (t:Ty) (v:V):Option t.data :=
  match t.isAgg with
  | true=>match v with
    | .agg cs=>qc1 t cs
    | _=>none
  | false=>qc1 t [v]
theorem DVal.val {φ:Map}:∀ {t:Ty} {d:t.data} {x:Value}, DVal φ.fz t d x → VRel φ (valV t d) x
  | .int k, n, x, h=>by
    have h:[x] = [Value.int k n]:=h
    cases h; exact .int _ _
  | .bool, b, x, h=>by
    have h:[x] = [Value.bool b]:=h
    cases h; exact .bool _
  | .str, s, x, h=>by
    have h:[x] = [Value.string s]:=h
    cases h; exact .str _
  | .unit, d, x, h=>by
    obtain ⟨cs, rfl, h⟩:=h
    have h:cs.toList = []:=h
    exact .agg _ _ (by rw [h]; exact .nil)
  | .pair a b, d, x, h=>by
    obtain ⟨cs, rfl, h⟩:=h
    exact .agg _ _ h.cellsV
  | .slice t, l, x, h=>by
    obtain ⟨a, n, cap, h1, h2, h3⟩:∃ a n cap, [x] = [Value.slice a n cap] ∧ n ≤ cap ∧ SlRel φ.fz (DRel φ.fz t) t.cells l a n:=h
    cases h1
    exact .vs _ _ _ _ _ _ h2 h3 trivial
theorem qb9 {φ:Map} {t:Ty} {v:V} {d:t.data} {x:Value} (e:decV t v = some d) (h:VRel φ v x):DVal φ.fz t d x:=by
  unfold decV at e
  unfold DVal
  cases ht:t.isAgg with
  | true =>
    rw [ht] at e
    dsimp only at e ⊢
    split at e
    · cases h with
      | agg _ rs h=>exact ⟨rs, rfl, qdX e h⟩
    · cases e
  | false =>
    rw [ht] at e
    exact qdX e (.cons h .nil)
theorem DVal.mono {f g:Frozen} (hf:f.le g) {t:Ty} {d:t.data} {x:Value} (h:DVal f t d x):DVal g t d x:=by
  unfold DVal at h ⊢
  split at h
  · obtain ⟨cs, h1, h2⟩:=h
    exact ⟨cs, h1, h2.mono hf⟩
  · exact DRel.mono hf _ _ _ h
theorem qeB (f:Frozen):Frozen.le (fun _=>none) f:=fun _ _ e=>by cases e
theorem DRel.bare {f:Frozen}:∀ {t:Ty} {d:t.data} {cs:List Value}, t.flat = true → DRel f t d cs → DRel (fun _=>none) t d cs
  | .int _, _, _, _, h=>h
  | .bool, _, _, _, h=>h
  | .str, _, _, _, h=>h
  | .unit, _, _, _, h=>h
  | .pair a b, _, _, hf, ⟨x, y, h1, h2, h3⟩=>by
    simp only [Ty.flat] at hf
    split at hf
    · rename_i ha
      exact ⟨x, y, h1, DRel.bare ha h2, DRel.bare hf h3⟩
    · cases hf
  | .slice _, _, _, hf, _=>by cases hf
theorem DVal.bare {f:Frozen} {t:Ty} {d:t.data} {x:Value} (hf:t.flat = true) (h:DVal f t d x):DVal (fun _=>none) t d x:=by
  unfold DVal at h ⊢
  split at h
  · obtain ⟨cs, h1, h2⟩:=h
    exact ⟨cs, h1, h2.bare hf⟩
  · exact DRel.bare hf h
theorem DRel.one {f g:Frozen}:∀ {t:Ty} {d:t.data} {a b:List Value}, t.flat = true → DRel f t d a → DRel g t d b → a = b
  | .int _, _, _, _, _, h, k=>h.trans k.symm
  | .bool, _, _, _, _, h, k=>h.trans k.symm
  | .str, _, _, _, _, h, k=>h.trans k.symm
  | .unit, _, _, _, _, h, k=>h.trans k.symm
  | .pair p q, _, _, _, hf, ⟨x, y, h1, h2, h3⟩, ⟨x', y', k1, k2, k3⟩=>by
    simp only [Ty.flat] at hf
    split at hf
    · rename_i hp
      rw [h1, k1, DRel.one hp h2 k2, DRel.one hf h3 k3]
    · cases hf
  | .slice _, _, _, _, hf, _, _=>by cases hf
theorem DVal.one {f g:Frozen} {t:Ty} {d:t.data} {x y:Value} (hf:t.flat = true) (h:DVal f t d x) (k:DVal g t d y):x = y:=by
  unfold DVal at h k
  cases ht:t.isAgg with
  | true =>
    rw [ht] at h k
    obtain ⟨cs, rfl, h2⟩:=h
    obtain ⟨ds, rfl, k2⟩:=k
    have:=DRel.one hf h2 k2
    rw [Array.toList_inj.1 this]
  | false =>
    rw [ht] at h k
    have:=DRel.one hf h k
    cases this; rfl
def qqs (a b:Int):Bool :=
  match a, b with
  | .ofNat m, .ofNat n=>Nat.beq m n
  | .negSucc m, .negSucc n=>Nat.beq m n
  | _, _=>false
theorem qir (a b:Int):qqs a b = (a == b):=by
  rw [Bool.eq_iff_iff]
  unfold qqs
  split
  · simp only [Nat.beq_eq, beq_iff_eq, Int.ofNat_eq_natCast]; omega
  · simp
  · rename_i h1 h2
    simp only [Bool.false_eq_true, beq_iff_eq, false_iff]
    rintro rfl
    cases a with
    | ofNat m=>exact h1 m m rfl rfl
    | negSucc m=>exact h2 m m rfl rfl
def qbs:(t:Ty) → t.data → t.data → Bool
  | .int _, a, b=>qqs a b
  | .bool, a, b=>a == b
  | .str, a, b=>qiu a b
  | .unit, _, _=>true
  | .pair p q, a, b=>match qbs p a.1 b.1 with
    | true=>qbs q a.2 b.2
    | false=>false
  | .slice _, _, _=>false
theorem qiq:∀ {t:Ty} {a b:t.data}, qbs t a b = true → a = b
  | .int _, a, b, h=>by rw [qbs, qir] at h; exact eq_of_beq h
  | .bool, a, b, h=>eq_of_beq h
  | .str, a, b, h=>by
    have h:(ByteArray.toList a == ByteArray.toList b) = true:=h
    have:=eq_of_beq h
    have hd:ByteArray.data a = ByteArray.data b:=by
      have h1:ByteArray.toList a = (ByteArray.data a).toList:=ByteArray.toList_eq a
      have h2:ByteArray.toList b = (ByteArray.data b).toList:=ByteArray.toList_eq b
      exact Array.toList_inj.1 (by rw [← h1, ← h2, this])
    exact ByteArray.ext hd
  | .unit, _, _, _=>rfl
  | .pair p q, a, b, h=>by
    simp only [qbs] at h
    split at h
    · rename_i h1
      exact Prod.ext (qiq h1) (qiq h)
    · cases h
  | .slice _, _, _, h=>by cases h
def qex (P:Program) (t:TypeId) (k:Ty):Bool :=
  match P.underlying t, k with
  | some .bool, .bool=>true
  | some (.int _), .int _=>true
  | some .string, .str=>true
  | _, _=>false
def qcp (P:Program):List Field → Ty → Nat → Bool
  | [], k, _=>match k with
    | .unit=>true
    | _=>false
  | f :: fs, k, n=>match k with
    | .pair a b => qex P f.type a && (f.name != "_") && Nat.beq f.offset n && qcp P fs b (n + 1)
    | _=>false
def qdn (P:Program) (e:TypeId):Nat → Ty → Bool
  | 0, k=>match k with
    | .unit=>true
    | _=>false
  | n + 1, k=>match k with
    | .pair a b=>qex P e a && qdn P e n b
    | _=>false
def kfit (P:Program) (t:TypeId) (k:Ty):Bool :=
  match P.underlying t with
  | some (.struct fs)=>!P.stoodInHeld t && qcp P fs.toList k 0 && k.isAgg
  | some (.array n e)=>(match qal P e with | some s=>Nat.beq s 1 | none=>false) && qdn P e n k && k.isAgg
  | _=>qex P t k
section
variable {P:Program} {w:World}
theorem qc7 {t:TypeId} {k:Ty} (h:qex P t k = true):qgI P t = some false ∧ k.isAgg = false ∧ k.cells = 1:=by
  unfold qex at h
  unfold qgI
  split at h
  · rename_i hu; rw [hu]; exact ⟨rfl, rfl, rfl⟩
  · rename_i hu; rw [hu]; exact ⟨rfl, rfl, rfl⟩
  · rename_i hu; rw [hu]; exact ⟨rfl, rfl, rfl⟩
  · cases h
theorem qe4 {t:TypeId} {k:Ty} (h:qex P t k = true) {f g:Frozen} {a b:k.data} {x y:Value} (d:Nat) (hx:DRel f k a [x]) (hy:DRel g k b [y]) :
    (Op.equalIn (d + 1) t x y).run P w = .ok (qbs k a b) w:=by
  unfold qex at h
  split at h
  · rename_i hu
    have hx:[x] = [Value.bool a]:=hx
    have hy:[y] = [Value.bool b]:=hy
    cases hx; cases hy
    simp [Op.equalIn, qaa hu, qbs]
  · rename_i j hu
    have hx:[x] = [Value.int _ a]:=hx
    have hy:[y] = [Value.int _ b]:=hy
    cases hx; cases hy
    simp [Op.equalIn, qaa hu, qbs, qir]
  · rename_i hu
    have hx:[x] = [Value.string a]:=hx
    have hy:[y] = [Value.string b]:=hy
    cases hx; cases hy
    simp [Op.equalIn, qaa hu, qbs, beq_toListBytes, qiu]
  · cases h
theorem qff {t:TypeId} {k:Ty} (h:qex P t k = true) {f:Frozen} {a:k.data} {x:Value} (em:Bool) (d:Nat) (hx:DRel f k a [x]):(Instr.checkKey em (d + 1) t x).run P w = .ok () w:=by
  unfold qex at h
  unfold Instr.checkKey
  split at h
  · rename_i hu
    have hx:[x] = [Value.bool a]:=hx
    cases hx
    simp [qaa hu]
  · rename_i j hu
    have hx:[x] = [Value.int _ a]:=hx
    cases hx
    simp [qaa hu]
  · rename_i hu
    have hx:[x] = [Value.string a]:=hx
    cases hx
    simp [qaa hu]
  · cases h
theorem qc2 {t:TypeId} (h:qgI P t = some false) {cs:Array Value} {off:Nat} {x:Value} (hx:cs[off]? = some x):(part t cs off).run P w = .ok x w:=by
  simp [part, qcu h, hx]
theorem qcY {f:Frozen} {a b:Ty} {d:(Ty.pair a b).data} {cs:Array Value} {n:Nat} (ha:a.cells = 1) (h:DRel f (.pair a b) d (cs.toList.drop n)) :
    ∃ x, cs[n]? = some x ∧ DRel f a d.1 [x] ∧ DRel f b d.2 (cs.toList.drop (n + 1)):=by
  obtain ⟨p, q, e, h1, h2⟩:=h
  have hl:=h1.len
  rw [ha] at hl
  match p, hl with
  | [x], _ =>
    refine ⟨x, ?_, h1, ?_⟩
    · have:(cs.toList.drop n)[0]? = some x:=by rw [e]; rfl
      rw [List.getElem?_drop] at this
      simpa using this
    · have:cs.toList.drop (n + 1) = q:=by
        rw [show n + 1 = n + 1 from rfl, ← List.drop_drop, e]; rfl
      rw [this]; exact h2
theorem qeX (d:Nat) {xs ys:Array Value} {f g:Frozen}:∀ (fs:List Field) (k:Ty) (n:Nat) (a b:k.data), qcp P fs k n = true → DRel f k a (xs.toList.drop n) → DRel g k b (ys.toList.drop n) →
    (Op.eqFields (d + 1) xs ys fs).run P w = .ok (qbs k a b) w
  | [], k, n, a, b, h, hx, hy=>by
    cases k <;> simp only [qcp] at h <;> first | (cases h; done) | rfl
  | fd :: fs, k, n, a, b, h, hx, hy=>by
    cases k <;> simp only [qcp] at h <;> first | (cases h; done) | skip
    rename_i p q
    simp only [Bool.and_eq_true, bne_iff_ne, ne_eq] at h
    obtain ⟨⟨⟨h1, h2⟩, h3⟩, h4⟩:=h
    have h3:=Nat.eq_of_beq_eq_true h3
    obtain ⟨g1, g2, g3⟩:=qc7 h1
    obtain ⟨x, hx1, hx2, hx3⟩:=qcY g3 hx
    obtain ⟨y, hy1, hy2, hy3⟩:=qcY g3 hy
    have e1:=qe4 (w:=w) h1 d hx2 hy2
    have e2:=qeX d fs q (n + 1) a.2 b.2 h4 hx3 hy3
    have p1:=qc2 (P:=P) (w:=w) g1 hx1
    have p2:=qc2 (P:=P) (w:=w) g1 hy1
    simp only [Op.eqFields, ne_eq, h2, not_false_eq_true, if_true, Sem.run_bind, h3, p1, p2, e1, Result.andThen_ok, qbs]
    rcases Bool.eq_false_or_eq_true (qbs p a.1 b.1) with hk | hk
    · simpa [hk] using e2
    · simp [hk]
theorem qdz (em:Bool) (d:Nat) {xs:Array Value} {f:Frozen}:∀ (fs:List Field) (k:Ty) (n:Nat) (a:k.data), qcp P fs k n = true → DRel f k a (xs.toList.drop n) →
    (forIn fs PUnit.unit (fun f _=>do
      if f.name ≠ "_" then
        Instr.checkKey em (d + 1) f.type (← part f.type xs f.offset)
        pure (ForInStep.yield PUnit.unit)
      else pure (ForInStep.yield PUnit.unit)):Sem PUnit).run P w = .ok PUnit.unit w
  | [], k, n, a, h, hx=>rfl
  | fd :: fs, k, n, a, h, hx=>by
    cases k <;> simp only [qcp] at h <;> first | (cases h; done) | skip
    rename_i p q
    simp only [Bool.and_eq_true, bne_iff_ne, ne_eq] at h
    obtain ⟨⟨⟨h1, h2⟩, h3⟩, h4⟩:=h
    have h3:=Nat.eq_of_beq_eq_true h3
    obtain ⟨g1, g2, g3⟩:=qc7 h1
    obtain ⟨x, hx1, hx2, hx3⟩:=qcY g3 hx
    have e1:=qff (w:=w) h1 em d hx2
    have e2:=qdz em d fs q (n + 1) a.2 h4 hx3
    have p1:=qc2 (P:=P) (w:=w) g1 hx1
    simp only [List.forIn_cons, ne_eq, h2, not_false_eq_true, if_true, Sem.run_bind, h3, p1, e1, Result.andThen_ok, Sem.run_pure]
    exact e2
theorem qfK (d:Nat) {xs ys:Array Value} {f g:Frozen} {e:TypeId}:∀ (m:Nat) (k:Ty) (n:Nat) (a b:k.data), qdn P e m k = true → DRel f k a (xs.toList.drop n) → DRel g k b (ys.toList.drop n) →
    (forIn (List.range' n m) ((none, ()) : Option Bool × Unit) (fun i _ => do
          let a ← part e xs (i * 1)
          let c ← part e ys (i * 1)
          let q ← Op.equalIn (d + 1) e a c
          if (!q) = true then pure (ForInStep.done (some false, ())) else pure (ForInStep.yield (none, ()))):Sem (Option Bool×Unit)).run P w = .ok (if qbs k a b then (none, ()) else (some false, ())) w
  | 0, k, n, a, b, h, hx, hy=>by
    cases k <;> simp only [qdn] at h <;> first | (cases h; done) | rfl
  | m + 1, k, n, a, b, h, hx, hy=>by
    cases k <;> simp only [qdn] at h <;> first | (cases h; done) | skip
    rename_i p q
    simp only [Bool.and_eq_true] at h
    obtain ⟨h1, h4⟩:=h
    obtain ⟨g1, g2, g3⟩:=qc7 h1
    obtain ⟨x, hx1, hx2, hx3⟩:=qcY g3 hx
    obtain ⟨y, hy1, hy2, hy3⟩:=qcY g3 hy
    have e1:=qe4 (w:=w) h1 d hx2 hy2
    have e2:=qfK d m q (n + 1) a.2 b.2 h4 hx3 hy3
    have p1:=qc2 (P:=P) (w:=w) g1 hx1
    have p2:=qc2 (P:=P) (w:=w) g1 hy1
    simp only [List.range'_succ, List.forIn_cons, Sem.run_bind, Nat.mul_one, p1, p2, e1, Result.andThen_ok, qbs]
    simp only [Nat.mul_one] at e2
    rcases Bool.eq_false_or_eq_true (qbs p a.1 b.1) with hk | hk
    · simpa [hk] using e2
    · simp [hk]
theorem qdV (em:Bool) (d:Nat) {xs:Array Value} {f:Frozen} {e:TypeId} (hs:qal P e = some 1):∀ (m:Nat) (k:Ty) (n:Nat) (a:k.data), qdn P e m k = true → DRel f k a (xs.toList.drop n) →
    (forIn (List.range' n m) PUnit.unit (fun i _=>do
        Instr.checkKey em (d + 1) e (← part e xs (i * (← sizeOf e)))
        pure (ForInStep.yield PUnit.unit)):Sem PUnit).run P w = .ok PUnit.unit w
  | 0, k, n, a, h, hx=>rfl
  | m + 1, k, n, a, h, hx=>by
    cases k <;> simp only [qdn] at h <;> first | (cases h; done) | skip
    rename_i p q
    simp only [Bool.and_eq_true] at h
    obtain ⟨h1, h4⟩:=h
    obtain ⟨g1, g2, g3⟩:=qc7 h1
    obtain ⟨x, hx1, hx2, hx3⟩:=qcY g3 hx
    have e1:=qff (w:=w) h1 em d hx2
    have e2:=qdV em d hs m q (n + 1) a.2 h4 hx3
    have p1:=qc2 (P:=P) (w:=w) g1 hx1
    simp only [List.range'_succ, List.forIn_cons, Sem.run_bind, qag hs, Nat.mul_one, p1, e1, Result.andThen_ok, Sem.run_pure]
    exact e2
theorem qj7 {t:TypeId} {k:Ty} (h:kfit P t k = true) {f g:Frozen} {a b:k.data} {x y:Value} (d:Nat) (hx:DVal f k a x) (hy:DVal g k b y) :
    (Op.equalIn (d + 2) t x y).run P w = .ok (qbs k a b) w:=by
  unfold kfit at h
  split at h
  · rename_i fs hu
    simp only [Bool.and_eq_true, Bool.not_eq_true'] at h
    obtain ⟨⟨h1, h2⟩, h3⟩:=h
    unfold DVal at hx hy
    rw [h3] at hx hy
    obtain ⟨xs, rfl, hx⟩:=hx
    obtain ⟨ys, rfl, hy⟩:=hy
    have hf:P.underlying t = some (.struct (P.fieldsOf t)):=by simp [Program.fieldsOf, hu]
    rw [run_equalIn_struct w (d + 1) t xs ys hf h1]
    have:P.fieldsOf t = fs:=by simp [Program.fieldsOf, hu]
    rw [this]
    exact qeX d _ _ 0 a b h2 (by simpa using hx) (by simpa using hy)
  · rename_i n e hu
    simp only [Bool.and_eq_true] at h
    obtain ⟨⟨h1, h2⟩, h3⟩:=h
    have hs:qal P e = some 1:=by
      cases hz:qal P e with
      | none=>rw [hz] at h1; cases h1
      | some s=>rw [hz] at h1; rw [Nat.eq_of_beq_eq_true h1]
    unfold DVal at hx hy
    rw [h3] at hx hy
    obtain ⟨xs, rfl, hx⟩:=hx
    obtain ⟨ys, rfl, hy⟩:=hy
    have:=qfK (P:=P) (w:=w) (xs:=xs) (ys:=ys) d n k 0 a b h2 (by simpa using hx) (by simpa using hy)
    show (Op.equalIn ((d + 1) + 1) t (.agg xs) (.agg ys)).run P w = _
    generalize d + 1 = D at this ⊢
    simp only [Op.equalIn, Sem.run_bind, qaa hu, Result.andThen_ok, qag hs]
    simp only [Std.Legacy.Range.forIn_eq_forIn_range', Std.Legacy.Range.size, Nat.sub_zero, Nat.add_sub_cancel, Nat.div_one]
    refine (congrArg (fun z=>Result.andThen z _) this).trans ?_
    cases qbs k a b <;> rfl
  · obtain ⟨_, g2, _⟩:=qc7 h
    unfold DVal at hx hy
    rw [g2] at hx hy
    exact qe4 h (d + 1) hx hy
theorem qcH {t:TypeId} {k:Ty} (h:kfit P t k = true) {f:Frozen} {a:k.data} {x:Value} (em:Bool) (d:Nat) (hx:DVal f k a x):(Instr.checkKey em (d + 2) t x).run P w = .ok () w:=by
  unfold kfit at h
  split at h
  · rename_i fs hu
    simp only [Bool.and_eq_true, Bool.not_eq_true'] at h
    obtain ⟨⟨h1, h2⟩, h3⟩:=h
    unfold DVal at hx
    rw [h3] at hx
    obtain ⟨xs, rfl, hx⟩:=hx
    have:=qdz (P:=P) (w:=w) (xs:=xs) em d _ _ 0 a h2 (by simpa using hx)
    unfold Instr.checkKey
    simp only [Sem.run_bind, qaa hu, Result.andThen_ok]
    rw [← Array.forIn_toList]
    refine (congrArg (fun z=>Result.andThen z _) this).trans ?_
    rfl
  · rename_i n e hu
    simp only [Bool.and_eq_true] at h
    obtain ⟨⟨h1, h2⟩, h3⟩:=h
    have hs:qal P e = some 1:=by
      cases hz:qal P e with
      | none=>rw [hz] at h1; cases h1
      | some s=>rw [hz] at h1; rw [Nat.eq_of_beq_eq_true h1]
    unfold DVal at hx
    rw [h3] at hx
    obtain ⟨xs, rfl, hx⟩:=hx
    have:=qdV (P:=P) (w:=w) (xs:=xs) em d hs n k 0 a h2 (by simpa using hx)
    unfold Instr.checkKey
    simp only [Sem.run_bind, qaa hu, Result.andThen_ok]
    simp only [Std.Legacy.Range.forIn_eq_forIn_range', Std.Legacy.Range.size, Nat.sub_zero, Nat.add_sub_cancel, Nat.div_one]
    refine (congrArg (fun z=>Result.andThen z _) this).trans ?_
    rfl
  · obtain ⟨_, g2, _⟩:=qc7 h
    unfold DVal at hx
    rw [g2] at hx
    exact qff h em (d + 1) hx
end
end Go.Vm

/-
  Operations on maps; the bytes of a string.
-/
namespace Go.Vm
open Go
def qiv {k v:Ty}:List (k.data×v.data) → k.data → Option v.data
  | [], _=>none
  | p :: l, d=>match qbs k d p.1 with
    | true=>some p.2
    | false=>qiv l d
def mput {k v:Ty}:List (k.data×v.data) → k.data → v.data → List (k.data×v.data)
  | [], d, x=>[(d, x)]
  | p :: l, d, x=>match qbs k d p.1 with
    | true=>(d, x) :: l
    | false=>p :: mput l d x
theorem EntsRel.len {k v:Ty}:∀ {l:List (k.data×v.data)} {es:List MapEntry}, EntsRel k v l es → es.length = l.length
  | [], [], _=>rfl
  | _ :: _, _ :: _, h=>by simp [EntsRel.len h.2]
  | [], _ :: _, h=>h.elim
  | _ :: _, [], h=>h.elim
section
variable {P:Program} {w:World} {kT:TypeId} {k v:Ty}
def qa0 {k v:Ty} (d:k.data):List (k.data×v.data) → List MapEntry → Nat → Option (Nat×Value)
  | p :: l, e :: es, i=>match qbs k d p.1 with
    | true=>some (i, e.val)
    | false=>qa0 d l es (i + 1)
  | _, _, _=>none
theorem qec (hf:kfit P kT k = true) {d:k.data} {x:Value} (hx:DVal (fun _=>none) k d x):∀ (l:List (k.data×v.data)) (es:List MapEntry) (i:Nat), EntsRel k v l es →
    (Instr.findAsking kT x es i).run P w = .ok (qa0 d l es i) w
  | [], [], i, _=>rfl
  | [], _ :: _, _, h=>h.elim
  | _ :: _, [], _, h=>h.elim
  | p :: l, e :: es, i, ⟨⟨h1, _⟩, h2⟩=>by
    have e1:(Op.equal kT x e.key).run P w = .ok (qbs k d p.1) w:=qj7 hf 9998 hx h1
    have e2:=qec hf hx l es (i + 1) h2
    simp only [Instr.findAsking, Sem.run_bind, e1, Result.andThen_ok, qa0]
    rcases Bool.eq_false_or_eq_true (qbs k d p.1) with hk | hk
    · simp [hk]
    · simpa [hk] using e2
theorem qkQ {t:TypeId} {k:Ty} (hf:kfit P t k = true) (hk:k.isAgg = false):qex P t k = true:=by
  unfold kfit at hf
  split at hf
  · simp only [Bool.and_eq_true] at hf; rw [hk] at hf; exact absurd hf.2 (by simp)
  · simp only [Bool.and_eq_true] at hf; rw [hk] at hf; exact absurd hf.2 (by simp)
  · exact hf
theorem qhE (hf:kfit P kT k = true) {u:TypeDesc} (hu:P.underlying kT = some u) {d:k.data} {x:Value} (hx:DVal (fun _=>none) k d x):∀ (l:List (k.data×v.data)) (es:List MapEntry) (i:Nat), EntsRel k v l es →
    Instr.findNow u x es i = none ∨ Instr.findNow u x es i = some (qa0 d l es i)
  | [], [], i, _=>.inr rfl
  | [], _ :: _, _, h=>h.elim
  | _ :: _, [], _, h=>h.elim
  | p :: l, e :: es, i, ⟨⟨h1, h1v⟩, h2⟩=>by
    have ih:=qhE hf hu hx l es (i + 1) h2
    have one:Instr.sameNow u x e.key = none ∨ Instr.sameNow u x e.key = some (qbs k d p.1):=by
      cases hk:k.isAgg with
      | true =>
        unfold DVal at hx
        rw [hk] at hx
        obtain ⟨cs, rfl, _⟩:=hx
        exact .inl (by cases u <;> rfl)
      | false =>
        have h0:=qkQ hf hk
        unfold DVal at hx h1
        rw [hk] at hx h1
        dsimp only at hx h1
        unfold qex at h0
        split at h0
        · rename_i q
          rw [hu] at q
          cases q
          have hx:[x] = [Value.bool d]:=hx
          have h1:[e.key] = [Value.bool p.1]:=h1
          injection hx with hx
          injection h1 with h1
          rw [hx, h1]
          exact .inr rfl
        · rename_i j q
          rw [hu] at q
          cases q
          have hx:[x] = [Value.int _ d]:=hx
          have h1:[e.key] = [Value.int _ p.1]:=h1
          injection hx with hx
          injection h1 with h1
          rw [hx, h1]
          refine .inr ?_
          simp [Instr.sameNow, qbs, qir]
        · rename_i q
          rw [hu] at q
          cases q
          have hx:[x] = [Value.string d]:=hx
          have h1:[e.key] = [Value.string p.1]:=h1
          injection hx with hx
          injection h1 with h1
          rw [hx, h1]
          refine .inr ?_
          simp [Instr.sameNow, qbs, beq_toListBytes, qiu]
        · cases h0
    simp only [Instr.findNow, qa0]
    rcases one with one | one
    · rw [one]; exact .inl rfl
    · rw [one]
      rcases Bool.eq_false_or_eq_true (qbs k d p.1) with hk | hk
      · simp [hk]
      · simp only [hk]; exact ih
theorem qcD (hf:kfit P kT k = true) {u:TypeDesc} (hu:P.underlying kT = some u) {d:k.data} {x:Value} (hx:DVal (fun _=>none) k d x) {l:List (k.data×v.data)} {es:List MapEntry} (h:EntsRel k v l es) :
    (Instr.findKey kT x es).run P w = .ok (qa0 d l es 0) w:=by
  simp only [Instr.findKey, Sem.run_bind, qaa hu, Result.andThen_ok]
  rcases qhE hf hu hx l es 0 h with e | e
  · rw [e]; exact qec hf hx l es 0 h
  · rw [e]; rfl
theorem qbZ {d:k.data}:∀ (l:List (k.data×v.data)) (es:List MapEntry) (i:Nat), EntsRel k v l es →
    match qa0 d l es i with
    | none=>qiv l d = none ∧ ∀ x, mput l d x = l++[(d, x)]
    | some (j, y)=>∃ p n, j = i + n ∧ l[n]? = some p ∧ qbs k d p.1 = true ∧ qiv l d = some p.2 ∧ DVal (fun _=>none) v p.2 y ∧ (∃ e, es[n]? = some e ∧ DVal (fun _=>none) k p.1 e.key) ∧ ∀ x, mput l d x = l.set n (d, x)
  | [], [], i, _=>⟨rfl, fun _=>rfl⟩
  | [], _ :: _, _, h=>h.elim
  | _ :: _, [], _, h=>h.elim
  | p :: l, e :: es, i, ⟨⟨h0, h1⟩, h2⟩=>by
    have ih:=qbZ (d:=d) l es (i + 1) h2
    simp only [qa0]
    rcases Bool.eq_false_or_eq_true (qbs k d p.1) with hk | hk
    · simp only [hk]
      exact ⟨p, 0, rfl, rfl, hk, by simp [qiv, hk], h1, ⟨e, rfl, h0⟩, fun x=>by simp [mput, hk]⟩
    · simp only [hk]
      cases hq:qa0 d l es (i + 1) with
      | none =>
        rw [hq] at ih
        exact ⟨by simp [qiv, hk, ih.1], fun x=>by simp [mput, hk, ih.2]⟩
      | some jy =>
        obtain ⟨j, y⟩:=jy
        rw [hq] at ih
        obtain ⟨q, n, a1, a2, a3, a4, a5, a6, a7⟩:=ih
        exact ⟨q, n + 1, by omega, by simpa using a2, a3, by simp [qiv, hk, a4], a5, by simpa using a6, fun x=>by simp [mput, hk, a7]⟩
end
theorem qcb:∀ {t:Ty} {f:Frozen} {d:t.data} {cs:List Value}, t.flat = true → DRel f t d cs → ∀ n, ∀ x ∈ cs, Instr.sameBits n x x = true
  | .int _, _, _, _, _, h, n, x, hx=>by
    have h:_ = [Value.int _ _]:=h
    rw [h] at hx
    simp only [List.mem_singleton] at hx
    subst hx
    cases n <;> simp [Instr.sameBits]
  | .bool, _, _, _, _, h, n, x, hx=>by
    have h:_ = [Value.bool _]:=h
    rw [h] at hx
    simp only [List.mem_singleton] at hx
    subst hx
    cases n <;> simp [Instr.sameBits]
  | .str, _, d, _, _, h, n, x, hx=>by
    have h:_ = [Value.string d]:=h
    rw [h] at hx
    simp only [List.mem_singleton] at hx
    subst hx
    have:(d == d) = true:=by rw [beq_toListBytes]; exact beq_self_eq_true _
    cases n <;> simpa [Instr.sameBits] using this
  | .unit, _, _, _, _, h, _, x, hx=>by
    have h:_ = []:=h
    rw [h] at hx; cases hx
  | .pair a b, _, _, _, hf, ⟨p, q, e, h2, h3⟩, n, x, hx=>by
    simp only [Ty.flat] at hf
    split at hf
    · rename_i ha
      rw [e] at hx
      rcases List.mem_append.1 hx with hx | hx
      · exact qcb ha h2 n x hx
      · exact qcb hf h3 n x hx
    · cases hf
  | .slice _, _, _, _, hf, _, _, _, _=>by cases hf
theorem qfx (n:Nat):∀ (l:List Value), (∀ x ∈ l, Instr.sameBits n x x = true) → ((l.zip l).all fun (x, y)=>Instr.sameBits n x y) = true
  | [], _=>rfl
  | x :: l, h=>by
    simp only [List.zip_cons_cons, List.all_cons, Bool.and_eq_true]
    exact ⟨h x (by simp), qfx n l fun y hy=>h y (by simp [hy])⟩
theorem qjW {t:Ty} {f:Frozen} {d:t.data} {x:Value} (hf:t.flat = true) (h:DVal f t d x) (n:Nat):Instr.sameBits (n + 1) x x = true:=by
  unfold DVal at h
  cases ht:t.isAgg with
  | true =>
    rw [ht] at h
    obtain ⟨cs, rfl, h⟩:=h
    have:=qfx n cs.toList (qcb hf h n)
    simp only [Instr.sameBits, beq_self_eq_true, Bool.true_and]
    exact this
  | false =>
    rw [ht] at h
    exact qcb hf h (n + 1) x (by simp)
theorem EntsRel.append {k v:Ty} {e:MapEntry} {d:k.data} {x:v.data} (h1:DVal (fun _=>none) k d e.key) (h2:DVal (fun _=>none) v x e.val):∀ {l:List (k.data×v.data)} {es:List MapEntry}, EntsRel k v l es → EntsRel k v (l++[(d, x)]) (es++[e])
  | [], [], _=>⟨⟨h1, h2⟩, trivial⟩
  | [], _ :: _, h=>h.elim
  | _ :: _, [], h=>h.elim
  | _ :: _, _ :: _, ⟨h, t⟩=>⟨h, t.append h1 h2⟩
theorem EntsRel.set {k v:Ty} {e:MapEntry} {d:k.data} {x:v.data} (h1:DVal (fun _=>none) k d e.key) (h2:DVal (fun _=>none) v x e.val):∀ {l:List (k.data×v.data)} {es:List MapEntry} (n:Nat), EntsRel k v l es → EntsRel k v (l.set n (d, x)) (es.set n e)
  | [], [], _, _=>trivial
  | [], _ :: _, _, h=>h.elim
  | _ :: _, [], _, h=>h.elim
  | _ :: _, _ :: _, 0, ⟨_, t⟩=>⟨⟨h1, h2⟩, t⟩
  | _ :: _, _ :: _, n + 1, ⟨h, t⟩=>⟨h, t.set h1 h2 n⟩
theorem qo4 {es:List MapEntry} {n:Nat} {e e':MapEntry} (hn:es[n]? = some e) (hb:e'.born = e.born):(es.set n e').map (·.born) = es.map (·.born):=by
  apply List.ext_getElem?
  intro j
  simp only [List.getElem?_map, List.getElem?_set]
  by_cases hj:n = j
  · subst hj
    have hlt:n < es.length:=(List.getElem?_eq_some_iff.1 hn).1
    have he:es[n] = e:=by
      have:=(List.getElem?_eq_some_iff.1 hn).2; exact this
    simp [hlt, hb, he]
  · simp [hj]
theorem MapRel.put {k v:Ty} {l:List (k.data×v.data)} {es:Array MapEntry} {clock:Nat} (h:MapRel k v l es.toList clock) {d:k.data} {x:v.data} {key val:Value} (hk:DVal (fun _=>none) k d key) (hv:DVal (fun _=>none) v x val) :
    match qa0 d l es.toList 0 with
    | none=>MapRel k v (mput l d x) (es.push { key, val, born:=clock }).toList (clock + 1)
    | some (i, _)=>MapRel k v (mput l d x) (es.modify i fun e=>{ e with key, val }).toList clock:=by
  have hf:=qbZ (d:=d) l es.toList 0 h.ents
  cases hq:qa0 d l es.toList 0 with
  | none =>
    rw [hq] at hf
    rw [hf.2 x]
    dsimp only
    refine ⟨h.kflat, h.vflat, by rw [Array.toList_push]; exact h.ents.append hk hv, ?_, ?_⟩
    · have h1:=h.num
      have h2:=h.clk
      rw [Array.toList_push, List.map_append, h1, List.length_append, List.length_singleton, List.range_succ]
      simp [h2]
    · have h2:=h.clk
      rw [Array.toList_push, List.length_append, List.length_singleton]
      omega
  | some jy =>
    obtain ⟨j, y⟩:=jy
    rw [hq] at hf
    obtain ⟨p, n, a1, a2, a3, a4, a5, ⟨e, a6, _⟩, a7⟩:=hf
    have a1:j = n:=by omega
    subst a1
    rw [a7 x]
    dsimp only
    have hm:(es.modify j fun e=>{ e with key, val }).toList = es.toList.set j { e with key, val }:=by
      apply List.ext_getElem?
      intro i
      have a6':es[j]? = some e:=by simpa using a6
      have hlt:j < es.size:=(Array.getElem?_eq_some_iff.1 a6').1
      rw [Array.getElem?_toList, Array.getElem?_modify, List.getElem?_set]
      by_cases hj:j = i
      · subst hj
        have he:es[j] = e:=(Array.getElem?_eq_some_iff.1 a6').2
        simp [hlt, he]
      · simp [hj]
    rw [hm]
    refine ⟨h.kflat, h.vflat, h.ents.set (e:={ e with key, val }) hk hv j, ?_, ?_⟩
    · rw [qo4 (e':={ key:=key, val:=val, born:=e.born }) a6 rfl, List.length_set]; exact h.num
    · rw [List.length_set]; exact h.clk
def qd4 (P:Program) (t:TypeId) (h:H):Option (V×H) :=
  match P.underlying t with
  | some (.map kT eT)=>match tyOf P 8 kT, tyOf P 8 eT with
    | some k, some v=>match k.flat && v.flat with
      | true=>some (.map (some h.next), h.push (.map k v []))
      | false=>none
    | _, _=>none
  | _=>none
def qnF {α:Type} (r:Option α) (z:α):α :=
  match r with
  | some x=>x
  | none=>z
def found {α:Type} (r:Option α):Bool :=
  match r with
  | some _=>true
  | none=>false
def qrs {v:Ty} (ok:Bool) (r:Option v.data) (z:v.data):V :=
  match ok with
  | true=>.tuple [valV v (qnF r z), .bool (found r)]
  | false=>valV v (qnF r z)
def qiE (P:Program) (t:TypeId) (m x:V) (ok:Bool) (h:H):Option (V×H) :=
  match P.underlying t, m with
  | some (.map kT eT), .map (some b)=>match h.get b with
    | some (.map k v l)=>match kfit P kT k, decV k x, zeroOf P eT with
      | true, some d, some z=>match decV v z with
        | some z=>some (qrs ok (qiv l d) z, h)
        | none=>none
      | _, _, _=>none
    | _=>none
  | _, _=>none
def qch (P:Program) (t:TypeId) (m x y:V) (h:H):Option (V×H) :=
  match P.underlying t, m with
  | some (.map kT _), .map (some b)=>match h.get b with
    | some (.map k v l)=>match kfit P kT k, decV k x, decV v y, Nat.ble h.ro b with
      | true, some d, some z, true=>some (.bot, h.set b (.map k v (mput l d z)))
      | _, _, _, _=>none
    | _=>none
  | _, _=>none
def qh5 (P:Program) (ts:Array TypeId) (args:List V) (h:H):Option (V×H) :=
  match ts[0]?, args with
  | some t, .map (some b) :: _=>match P.underlying t, h.get b with
    | some (.map _ _), some (.map _ _ l)=>some (.int .i64 l.length, h)
    | _, _=>none
  | _, _=>none
section
variable {P:Program} {φ:Map} {w:World} {h h':H} {v:V}
theorem qfv {t:TypeId} {r:Option Value} (hr0:∀ x, r = some x → ∃ k n, x = .int k n) (e:qd4 P t h = some (v, h')) (hr:HRel φ h w) :
    h'.said = h.said ∧ ∃ φ' w' x, (Instr.makeMap t r).run P w = .ok x w' ∧ VRel φ' v x ∧ Goes φ h w φ' h' w':=by
  unfold qd4 at e
  split at e
  · rename_i kT eT hu
    split at e
    · rename_i k u _ _
      split at e
      · rename_i hf
        cases e
        refine ⟨by rw [H.push_eq], ?_⟩
        simp only [Bool.and_eq_true] at hf
        obtain ⟨g, hk⟩:=Goes.push hr (w':=w.alloc (.map #[] 0)) (.map k u []) _ (0, 0) rfl rfl rfl rfl
          (⟨hf.1, hf.2, trivial, rfl, rfl⟩:MapRel k u [] (#[]:Array MapEntry).toList 0)
        refine ⟨_, _, .map (some w.heap.size), ?_, .map _ _ hk, g⟩
        cases r with
        | none=>simp [Instr.makeMap]
        | some x =>
          obtain ⟨q, n, rfl⟩:=hr0 x rfl
          simp [Instr.makeMap, qaa hu, asInt, asIntOf]
      · cases e
    · cases e
  · cases e
theorem qao {b:Nat} {es:Array MapEntry} {clock:Nat} (hb:w.heap[b]? = some (.map es clock)):(getObj b).run P w = .ok (.map es clock) w:=MapKept.run_getObj_map hb
theorem HRel.map {b:Nat} {k u:Ty} {l:List (k.data×u.data)} (hr:HRel φ h w) (hg:h.get b = some (.map k u l)) :
    ∃ q es clock, φ b = some q ∧ w.heap[q.1]? = some (.map es clock) ∧ MapRel k u l es.toList clock:=by
  obtain ⟨q, o, h1, h2, h3⟩:=hr.obj b _ hg (by simp)
  cases o <;> simp only [ObRel] at h3
  exact ⟨q, _, _, h1, h2, h3⟩
theorem qkh {t:TypeId} {m x:V} {m' x':Value} {ok:Bool} (e:qiE P t m x ok h = some (v, h')) (hm:VRel φ m m') (hx:VRel φ x x') (hr:HRel φ h w) :
    h' = h ∧ ∃ r, (Instr.lookup t m' x' ok).run P w = .ok r w ∧ VRel φ v r:=by
  unfold qiE at e
  split at e
  · rename_i kT eT b hu
    split at e
    · rename_i k u l hg
      split at e
      · rename_i d z hf hd hz
        split at e
        · rename_i z0 hz0
          cases e
          refine ⟨rfl, ?_⟩
          obtain ⟨q, es, clock, h1, h2, h3⟩:=hr.map hg
          cases hm with
          | map _ q' hq =>
            rw [hq] at h1
            cases h1
            have hxd:=(qb9 hd hx).bare h3.kflat
            obtain ⟨z', hzr, hzv⟩:=qci (P:=P) (w:=w) (φ:=φ) hz
            have hzd:=qb9 hz0 hzv
            have hcheck:=qcH (w:=w) hf es.isEmpty 9998 hxd
            have hcheck:(Instr.checkKey es.isEmpty 10000 kT x').run P w = .ok () w:=hcheck
            obtain ⟨uk, huk⟩:∃ uk, P.underlying kT = some uk:=by
              cases hq:P.underlying kT with
              | some uk=>exact ⟨uk, rfl⟩
              | none=>unfold kfit qex at hf; rw [hq] at hf; cases hf
            have hfind:=qcD (w:=w) hf huk hxd h3.ents
            have hff:=qbZ (d:=d) l es.toList 0 h3.ents
            cases hfa:qa0 d l es.toList 0 with
            | none =>
              rw [hfa] at hff hfind
              rw [hff.1]
              cases ok with
              | true =>
                refine ⟨.tuple #[z', .bool false], ?_, .tuple _ _ (.cons hzd.val (.cons (.bool _) .nil))⟩
                simp [Instr.lookup, qaa hu, qao h2, hcheck, hfind, hzr]
              | false =>
                refine ⟨z', ?_, hzd.val⟩
                simp [Instr.lookup, qaa hu, qao h2, hcheck, hfind, hzr]
            | some jy =>
              obtain ⟨j, y⟩:=jy
              rw [hfa] at hff hfind
              obtain ⟨p, n, a1, a2, a3, a4, a5, a6, a7⟩:=hff
              rw [a4]
              have hy:=(a5.mono (qeB φ.fz)).val
              cases ok with
              | true =>
                refine ⟨.tuple #[y, .bool true], ?_, .tuple _ _ (.cons hy (.cons (.bool _) .nil))⟩
                simp [Instr.lookup, qaa hu, qao h2, hcheck, hfind]
              | false =>
                refine ⟨y, ?_, hy⟩
                simp [Instr.lookup, qaa hu, qao h2, hcheck, hfind]
        · cases e
      · cases e
    · cases e
  · cases e
theorem qeg {t:TypeId} {m x y:V} {m' x' y':Value} (e:qch P t m x y h = some (v, h')) (hm:VRel φ m m') (hx:VRel φ x x') (hy:VRel φ y y') (hr:HRel φ h w) :
    v = .bot ∧ h'.said = h.said ∧ ∃ w', (Instr.mapUpdate t m' x' y').run P w = .ok () w' ∧ Goes φ h w φ h' w':=by
  unfold qch at e
  split at e
  · rename_i kT eT b hu
    split at e
    · rename_i k u l hg
      split at e
      · rename_i d z hf hd hz hro
        cases e
        refine ⟨rfl, by rw [H.set_eq], ?_⟩
        obtain ⟨q, es, clock, h1, h2, h3⟩:=hr.map hg
        cases hm with
        | map _ q' hq =>
          rw [hq] at h1
          cases h1
          have hxd:=(qb9 hd hx).bare h3.kflat
          have hyd:=(qb9 hz hy).bare h3.vflat
          have hcheck:(Instr.checkKey false 10000 kT x').run P w = .ok () w:=qcH (w:=w) hf false 9998 hxd
          obtain ⟨uk, huk⟩:∃ uk, P.underlying kT = some uk:=by
            cases hq:P.underlying kT with
            | some uk=>exact ⟨uk, rfl⟩
            | none=>unfold kfit qex at hf; rw [hq] at hf; cases hf
          have hfind:=qcD (w:=w) hf huk hxd h3.ents
          have hff:=qbZ (d:=d) l es.toList 0 h3.ents
          have hput:=MapRel.put h3 hxd hyd
          have hlt:q.1 < w.heap.size:=(Array.getElem?_eq_some_iff.1 h2).1
          have fin:∀ es' clock', MapRel k u (mput l d z) es'.toList clock' → Goes φ h w φ (h.set b (.map k u (mput l d z))) { w with heap:=w.heap.setIfInBounds q.1 (.map es' clock') }:=fun es' clock' hm =>
            Goes.write hr hg (Nat.le_of_ble_eq_true hro) hq (o:=.map es' clock') (by simp [hlt]) (by simp) (fun j hj=>by simp [Ne.symm hj]) rfl rfl rfl hm
          cases hfa:qa0 d l es.toList 0 with
          | none =>
            rw [hfa] at hfind hput
            refine ⟨_, ?_, fin _ _ hput⟩
            simp [Instr.mapUpdate, qaa hu, qao h2, hcheck, hfind, MapKept.run_setObj_map _ h2]
          | some jy =>
            obtain ⟨j, y0⟩:=jy
            rw [hfa] at hff hfind hput
            obtain ⟨p, n, a1, a2, a3, a4, a5, ⟨e0, a6, a8⟩, a7⟩:=hff
            have a1:j = n:=by omega
            subst a1
            have a6':es[j]? = some e0:=by simpa using a6
            have hkk:e0.key = x':=by
              have:d = p.1:=qiq a3
              rw [← this] at a8
              exact DVal.one h3.kflat a8 hxd
            have hst:(Instr.keyThatStays x' x').run P w = .ok x' w:=by
              simp [Instr.keyThatStays, qjW h3.kflat hxd 9999]
            refine ⟨_, ?_, fin _ _ hput⟩
            simp [Instr.mapUpdate, qaa hu, qao h2, hcheck, hfind, a6', hkk, hst, MapKept.run_setObj_map _ h2]
      · cases e
    · cases e
  · cases e
theorem qkx {ts:Array TypeId} {ty:TypeId} {args:List V} {args':Array Value} (e:qh5 P ts args h = some (v, h')) (ha:VRels φ args args'.toList) (hr:HRel φ h w) :
    h' = h ∧ ∃ r, (Builtin.len_ ts ty args').run P w = .ok r w ∧ VRel φ v r:=by
  unfold qh5 at e
  split at e
  · rename_i t b rest ht
    split at e
    · rename_i u1 u2 k u l hu hg
      cases e
      refine ⟨rfl, ?_⟩
      obtain ⟨q, es, clock, h1, h2, h3⟩:=hr.map hg
      have ha0:∃ m', args'[0]? = some m' ∧ VRel φ (.map (some b)) m':=by
        obtain ⟨r, hr1, hr2⟩:=ha.get 0 _ rfl
        exact ⟨r, by simpa using hr1, hr2⟩
      obtain ⟨m', hm', hmv⟩:=ha0
      cases hmv with
      | map _ q' hq =>
        rw [hq] at h1
        cases h1
        have:=h3.ents.len
        have hl:es.size = l.length:=by simpa using this
        refine ⟨.int .i64 l.length, ?_, .int _ _⟩
        simp [Builtin.len_, ht, hm', qaa hu, qao h2, goInt, hl]
    · cases e
  · cases e
end
section
variable {P:Program} {w:World}
theorem qen {b:Nat} {m:Option Nat} {s l:Nat} {seen:Array Nat} (hb:w.heap[b]? = some (.mapIter m s seen l)):(getObj b).run P w = .ok (.mapIter m s seen l) w:=by
  simp [getObj, Sem.run, hb]
theorem qkv {b:Nat} {m:Option Nat} {s l:Nat} {seen:Array Nat} {m':Option Nat} {s' l':Nat} {seen':Array Nat} (hb:w.heap[b]? = some (.mapIter m s seen l)) :
    (setObj b (.mapIter m' s' seen' l')).run P w = .ok () { w with heap:=w.heap.setIfInBounds b (.mapIter m' s' seen' l') }:=by
  simp [setObj, Sem.run, hb]
end
theorem Goes.froze {φ:Map} {h:H} {w w':World} (hr:HRel φ h w) {cs c:Array Value} {t:TypeId} {z:Nat×Nat} (hw:w'.heap = w.heap.push (.cells cs t z)) (hc:Begins c cs) (h1:w'.os = w.os) (h2:w'.tape = w.tape) (h3:w'.output = w.output) :
    Goes φ h w { φ with fz:=fun k=>if k = w.heap.size then some c else φ.fz k } h w':=by
  have hsz:w'.heap.size = w.heap.size + 1:=by rw [hw]; simp
  have hold:∀ k, k < w.heap.size → w'.heap[k]? = w.heap[k]?:=by
    intro k hk
    rw [hw, Array.getElem?_push, if_neg (by omega)]
  have hnew:w'.heap[w.heap.size]? = some (.cells cs t z):=by rw [hw]; simp
  have hnf:φ.fz w.heap.size = none:=by
    cases e:φ.fz w.heap.size with
    | none=>rfl
    | some c=>have:=hr.fdom e; omega
  have hle:φ.le { φ with fz:=fun k=>if k = w.heap.size then some c else φ.fz k }:=⟨fun _ _ e=>e, fun k c0 e=>by
    dsimp only
    by_cases hk:k = w.heap.size
    · subst hk; rw [hnf] at e; cases e
    · rw [if_neg hk]; exact ⟨c0, e, Begins.refl _⟩, fun _ _ e=>e, rfl⟩
  constructor
  · exact hle
  · constructor
    · intro b x hb hx
      obtain ⟨k, o, h4, h5, h6⟩:=hr.obj b x hb hx
      exact ⟨k, o, h4, by rw [hold _ (hr.dom _ _ h4).2]; exact h5, h6.mono hle⟩
    · exact hr.inj
    · intro b k hk
      have:=hr.dom b k hk
      omega
    · exact hr.rle
    · intro k d e
      dsimp only at e
      split at e
      · rename_i hk
        cases e
        subst hk
        exact ⟨cs, t, _, hnew, hc⟩
      · obtain ⟨cs', t', z', e1, e2⟩:=hr.fz k d e
        exact ⟨cs', t', z', by rw [hold _ (hr.fdom e)]; exact e1, e2⟩
    · intro b x k hb hk
      have hlt:=(hr.dom b k hk).2
      dsimp only
      rw [if_neg (by omega)]
      exact hr.own b x k hb hk
    · intro b hb
      obtain ⟨m, h4, h5⟩:=hr.tip b hb
      refine ⟨m, h4, fun blk en sz e=>?_⟩
      obtain ⟨⟨c', hc', hcs⟩, cs', t', h6, h7⟩:=h5 blk en sz e
      have hlt:=hr.fdom hc'
      refine ⟨⟨c', ?_, hcs⟩, cs', t', by rw [hold _ hlt]; exact h6, h7⟩
      dsimp only
      rw [if_neg (by omega)]; exact hc'
    · exact hr.tinj
    · exact hr.tdom
  · exact Nat.le_refl _
  · rfl
  · exact fun _ _ e=>.inl e
  · omega
  · exact fun k hk _ _=>hold k hk
  · exact fun _ _ e=>.inl e
  · exact fun _ _ _ e=>e
  · intro k c0 e hk
    dsimp only at e
    rw [if_neg (by omega)] at e
    exact .inl e
  · exact h1
  · exact h2
  · exact h3
def bytesOf (s:ByteArray):List Int:=s.data.toList.map fun b=>(b.toNat:Int)
def qlU (P:Program) (src dst:TypeId) (x:V) (h:H):Option (V×H) :=
  match P.underlying src, P.underlying dst, x with
  | some .string, some (.slice e), .str s=>match P.underlying e with
    | some (.int .u8)=>some (.vs (.int .u8) (bytesOf s) .no, h)
    | _=>none
  | _, _, _=>none
theorem qiN (s:ByteArray) (cap:Nat) (f:Frozen):LiesIn (DRel f (.int .u8)) 1 (bytesOf s) (bytesRow s cap) 0:=by
  intro i d hi
  refine ⟨[.int .u8 d], rfl, rfl, fun j v hj=>?_⟩
  cases j with
  | succ j=>simp at hj
  | zero =>
    simp only [List.getElem?_cons_zero, Option.some.injEq] at hj
    subst hj
    simp only [bytesOf, List.getElem?_map] at hi
    cases hs:s.data.toList[i]? with
    | none=>rw [hs] at hi; cases hi
    | some b =>
      rw [hs] at hi
      cases hi
      have hlt:i < s.data.size:=by
        have:=(List.getElem?_eq_some_iff.1 hs).1
        simpa using this
      have hs':s.data[i]? = some b:=by simpa using hs
      simp only [bytesRow, Nat.zero_add, Nat.mul_one, Nat.add_zero]
      rw [Array.getElem?_append_left (by simpa using hlt)]
      simp [hs']
theorem qmn {P:Program} {φ:Map} {w:World} {src dst:TypeId} {x:V} {x':Value} {h h':H} {v:V} (e:qlU P src dst x h = some (v, h')) (hx:VRel φ x x') (hr:HRel φ h w) :
    h' = h ∧ ∃ φ' w' r, (convert src dst x').run P w = .ok r w' ∧ VRel φ' v r ∧ Goes φ h w φ' h' w':=by
  unfold qlU at e
  split at e
  · rename_i e1 s hs hd
    split at e
    · rename_i he
      cases e
      refine ⟨rfl, ?_⟩
      cases hx
      refine ⟨_, _, _, run_bytes_of_string w src dst e1 s hs hd he, ?_, Goes.froze (c:=bytesRow s (grownCap w s.size 0 e1)) hr rfl (Begins.refl _) rfl rfl rfl⟩
      have hl:s.size = (bytesOf s).length:=by
        unfold bytesOf
        rw [List.length_map, Array.length_toList]; rfl
      have hcap:s.size ≤ grownCap w s.size 0 e1:=by
        unfold grownCap
        exact Nat.le_add_right _ _
      refine .vs _ _ _ _ _ _ hcap ⟨hl, .inr ⟨w.heap.size, 0, bytesRow s (grownCap w s.size 0 e1), rfl, by simp, ?_, qiN s _ _⟩⟩ trivial
      simp [bytesRow, bytesOf, Ty.cells]
    · cases e
  · cases e
end Go.Vm

/-
  A range over a map in any order; maps whose entries are deleted.
-/
namespace Go.Vm
open Go
def qcr {α:Type}:Nat → List α → List (Nat×α)
  | _, []=>[]
  | i, p :: l=>(i, p) :: qcr (i + 1) l
theorem qg0 {α:Type}:∀ (i:Nat) (l:List α), (qcr i l).map Prod.snd = l
  | _, []=>rfl
  | i, p :: l=>by simp only [qcr, List.map_cons, qg0 (i + 1) l]
theorem qdd {α:Type}:∀ (i:Nat) (l:List α), (qcr i l).map Prod.fst = List.range' i l.length
  | _, []=>rfl
  | i, p :: l=>by simp only [qcr, List.map_cons, qdd (i + 1) l, List.length_cons, List.range'_succ]
def ddel {k v:Ty} (d:k.data):List (Nat×(k.data×v.data)) → List (Nat×(k.data×v.data))
  | []=>[]
  | p :: l=>match qbs k d p.2.1 with
    | true=>l
    | false=>p :: ddel d l
def leftD {α:Type} (seen:List Nat) (l:List (Nat×α)):List Nat:=(l.map Prod.fst).filter fun i=>!seen.contains i
def hasE {α:Type} (l:List (Nat×α)) (i:Nat):Bool :=
  match l with
  | []=>false
  | p :: r=>match Nat.beq p.1 i with
    | true=>true
    | false=>hasE r i
def entE {k v:Ty} (l:List (Nat×(k.data×v.data))) (i:Nat):k.data×v.data :=
  match l with
  | []=>(k.dflt, v.dflt)
  | p :: r=>match Nat.beq p.1 i with
    | true=>p.2
    | false=>entE r i
def qh3 (P:Program) (t:TypeId) (m:V) (h:H):Option (V×H) :=
  match P.underlying t, m with
  | some (.map _ _), .map (some b)=>match Nat.ble h.ro b, h.get b with
    | true, some (.map k v l)=>match h.set b (.mapd k v (qcr 0 l) l.length) with
      | h2=>some (.ptr (some ⟨h2.next, 1, 0, 0⟩), h2.push (.mit b l.length []))
    | true, some (.mapd _ _ _ ck)=>some (.ptr (some ⟨h.next, 1, 0, 0⟩), h.push (.mit b ck []))
    | _, _=>none
  | _, _=>none
def qlT (it:V) (isString:Bool) (h:H):Option (V×H) :=
  match isString, it with
  | false, .ptr (some ⟨b, _, 0, 0⟩)=>match h.get b with
    | some (.mit m since seen)=>match h.get m with
      | some (.mapd _ _ l ck)=>match Nat.ble h.ro b with
        | true=>match h.test (Nat.beq ck since) with
          | some (true, h)=>match leftD seen l with
            | []=>some (.tuple [.bool false], h)
            | [i]=>some (.tuple [.bool true, .bot, .bot], h.set b (.mit m since (i :: seen)))
            | _=>none
          | _=>none
        | false=>none
      | _=>none
    | _=>none
  | _, _=>none
def qkZ (pk:Option Nat) (it:V) (h:H):Option (V×H) :=
  match it with
  | .ptr (some ⟨b, _, 0, 0⟩)=>match h.get b with
    | some (.mit m since seen)=>match h.get m with
      | some (.mapd _ _ _ ck)=>match Nat.ble h.ro b with
        | true=>match h.test (Nat.beq ck since) with
          | some (true, h)=>match pk with
            | none=>some (.tuple [.bool false], h)
            | some i=>some (.tuple [.bool true, .bot, .bot], h.set b (.mit m since (i :: seen)))
          | _=>none
        | false=>none
      | _=>none
    | _=>none
  | _=>none
def qiQ (it:V) (h:H):Option (List Nat) :=
  match it with
  | .ptr (some ⟨b, _, 0, 0⟩)=>match h.get b with
    | some (.mit m _ seen)=>match h.get m with
      | some (.mapd _ _ l _)=>some (leftD seen l)
      | _=>none
    | _=>none
  | _=>none
def qdS (l:List Nat):Option Nat → Prop
  | none=>l = []
  | some i=>i ∈ l
def qic (it:V) (h:H):Option (V×H) :=
  match it with
  | .ptr (some ⟨b, _, 0, 0⟩)=>match h.get b with
    | some (.mit m since seen)=>match h.get m with
      | some (.mapd k v l ck)=>match Nat.ble h.ro b, seen with
        | true, i :: _=>match h.test (Nat.beq ck since) with
          | some (true, h)=>match h.test (hasE l i) with
            | some (true, h)=>some (.tuple [valV k (entE l i).1, valV v (entE l i).2], h)
            | _=>none
          | _=>none
        | _, _=>none
      | _=>none
    | _=>none
  | _=>none
def qfS (P:Program) (t:TypeId) (m x:V) (ok:Bool) (h:H):Option (V×H) :=
  match P.underlying t, m with
  | some (.map kT eT), .map (some b)=>match h.get b with
    | some (.mapd k v l _)=>match kfit P kT k, decV k x, zeroOf P eT with
      | true, some d, some z=>match decV v z with
        | some z=>some (qrs ok (qiv (l.map Prod.snd) d) z, h)
        | none=>none
      | _, _, _=>none
    | _=>none
  | _, _=>none
def qiP (P:Program) (ts:Array TypeId) (args:List V) (h:H):Option (V×H) :=
  match ts[0]?, args with
  | some t, [.map (some b), x]=>match P.underlying t, h.get b with
    | some (.map kT _), some (.mapd k v l ck)=>match kfit P kT k, decV k x, Nat.ble h.ro b with
      | true, some d, true=>some (.tuple [], h.set b (.mapd k v (ddel d l) ck))
      | _, _, _=>none
    | _, _=>none
  | _, _=>none
section
variable {P:Program} {φ:Map} {w:World} {h h':H} {v:V}
theorem HRel.mapd {b:Nat} {k u:Ty} {l:List (Nat×(k.data×u.data))} {ck:Nat} (hr:HRel φ h w) (hg:h.get b = some (.mapd k u l ck)) :
    ∃ q es clock, φ b = some q ∧ w.heap[q.1]? = some (.map es clock) ∧ MapRelD k u l ck es.toList clock:=by
  obtain ⟨q, o, h1, h2, h3⟩:=hr.obj b _ hg (by simp)
  cases o <;> simp only [ObRel] at h3
  exact ⟨q, _, _, h1, h2, h3⟩
theorem MapRel.numbered {k u:Ty} {l:List (k.data×u.data)} {es:List MapEntry} {clock:Nat} (h:MapRel k u l es clock):MapRelD k u (qcr 0 l) l.length es clock where
  kflat:=h.kflat
  vflat:=h.vflat
  ents:=by rw [qg0]; exact h.ents
  num:=by rw [qdd, h.num, h.ents.len, List.range_eq_range']
  lt:=by
    intro p hp
    have:p.1 ∈ (qcr 0 l).map Prod.fst:=List.mem_map.2 ⟨p, hp, rfl⟩
    rw [qdd] at this
    have:=List.mem_range'.1 this
    obtain ⟨i, h1, h2⟩:=this
    omega
  nodup:=by rw [qdd]; exact List.nodup_range'
  clk:=by rw [h.clk, h.ents.len]
theorem qkG {t:TypeId} {m:V} {m':Value} (e:qh3 P t m h = some (v, h')) (hm:VRel φ m m') (hr:HRel φ h w) :
    h'.said = h.said ∧ ∃ φ' w' r, (Instr.range t m').run P w = .ok r w' ∧ VRel φ' v r ∧ Goes φ h w φ' h' w':=by
  unfold qh3 at e
  split at e
  · rename_i kT eT b hu
    split at e
    · rename_i k u l hro hg
      cases e
      refine ⟨by rw [H.push_eq, H.set_eq], ?_⟩
      obtain ⟨q, es, clock, h1, h2, h3⟩:=hr.map hg
      have hlt:q.1 < w.heap.size:=(Array.getElem?_eq_some_iff.1 h2).1
      have g0:Goes φ h w φ (h.set b (.mapd k u (qcr 0 l) l.length)) w :=
        Goes.write hr hg (Nat.le_of_ble_eq_true hro) h1 (o:=.map es clock) h2 rfl (fun _ _=>rfl) rfl rfl rfl h3.numbered
      cases hm with
      | map _ q' hq =>
        rw [hq] at h1
        cases h1
        have hc:clock = l.length:=by rw [h3.clk, h3.ents.len]
        obtain ⟨g, hk⟩:=Goes.push g0.rel (w':=w.alloc (.mapIter (some q.1) clock #[] clock)) (.mit b l.length []) _ (0, 0) rfl rfl rfl rfl
          (⟨rfl, ⟨q, hq, rfl⟩, hc, rfl, hc⟩:ObRel φ true (0, 0) (.mit b l.length []) (.mapIter (some q.1) clock #[] clock))
        refine ⟨_, _, .pointer (some ⟨w.heap.size, 0, none⟩), ?_, ?_, g0.trans g⟩
        · simp [Instr.range, qaa hu, qao h2]
        · have:(⟨w.heap.size, 0, none⟩:Addr) = (⟨(h.set b (.mapd k u (qcr 0 l) l.length)).next, 1, 0, 0⟩:VA).real (w.heap.size, 0, 0):=by simp [VA.real]
          rw [this]
          exact .ptr _ _ hk
    · rename_i k u l ck hro hg
      cases e
      refine ⟨by rw [H.push_eq], ?_⟩
      obtain ⟨q, es, clock, h1, h2, h3⟩:=hr.mapd hg
      cases hm with
      | map _ q' hq =>
        rw [hq] at h1
        cases h1
        have hc:clock = ck:=h3.clk
        obtain ⟨g, hk⟩:=Goes.push hr (w':=w.alloc (.mapIter (some q.1) clock #[] clock)) (.mit b ck []) _ (0, 0) rfl rfl rfl rfl
          (⟨rfl, ⟨q, hq, rfl⟩, hc, rfl, hc⟩:ObRel φ true (0, 0) (.mit b ck []) (.mapIter (some q.1) clock #[] clock))
        refine ⟨_, _, .pointer (some ⟨w.heap.size, 0, none⟩), ?_, ?_, g⟩
        · simp [Instr.range, qaa hu, qao h2]
        · have:(⟨w.heap.size, 0, none⟩:Addr) = (⟨h.next, 1, 0, 0⟩:VA).real (w.heap.size, 0, 0):=by simp [VA.real]
          rw [this]
          exact .ptr _ _ hk
    · cases e
  · cases e
theorem HRel.mitD {b m since:Nat} {seen:List Nat} {k u:Ty} {l:List (Nat×(k.data×u.data))} {ck:Nat} (hr:HRel φ h w) (hg:h.get b = some (.mit m since seen)) (hgm:h.get m = some (.mapd k u l ck)) (hl:ck = since) :
    ∃ q r es seen', φ b = some q ∧ q.2.2 = 0 ∧ φ m = some r ∧ w.heap[q.1]? = some (.mapIter (some r.1) since seen' since) ∧ seen'.toList = seen.reverse ∧ w.heap[r.1]? = some (.map es since) ∧ MapRelD k u l ck es.toList since:=by
  obtain ⟨q, o, h1, h2, h3⟩:=hr.obj b _ hg (by simp)
  obtain ⟨r, es, clock, g1, g2, g3⟩:=hr.mapd hgm
  cases o <;> simp only [ObRel] at h3
  rename_i mm s' seen' last
  cases mm with
  | none=>exact h3.elim
  | some mm =>
    obtain ⟨a0, ⟨r', a1, a2⟩, a3, a4, a5⟩:=h3
    rw [g1] at a1
    cases a1
    subst a2 a3 a5
    have hc:=g3.clk.trans hl
    subst hc
    exact ⟨q, r, es, seen', h1, a0, g1, h2, a4, g2, g3⟩
theorem next_any {b n m since:Nat} {seen:List Nat} {k u:Ty} {l:List (Nat×(k.data×u.data))} {ck:Nat} {it':Value} {ty:TypeId} (hg:h.get b = some (.mit m since seen)) (hgm:h.get m = some (.mapd k u l ck)) (hl:ck = since) (hro:h.ro ≤ b)
    (hi:VRel φ (.ptr (some ⟨b, n, 0, 0⟩)) it') (hr:HRel φ h w) :
    (leftD seen l = [] ∧ (Instr.next it' false ty).run P w = .ok (.tuple #[.bool false]) w) ∨
    ∃ i ∈ leftD seen l, ∃ w' x y, (Instr.next it' false ty).run P w = .ok (.tuple #[.bool true, x, y]) w' ∧ Goes φ h w φ (h.set b (.mit m since (i :: seen))) w':=by
  obtain ⟨q, r, es, seen', h1, h0, h2, h3, h4, h5, h6⟩:=hr.mitD hg hgm hl
  cases hi with
  | ptr _ q' hq =>
    rw [h1] at hq
    cases hq
    have ha:(⟨b, n, 0, 0⟩:VA).real q = ⟨q.1, 0, none⟩:=by simp [VA.real, h0]
    rw [ha]
    have hborn:∀ x ∈ es.toList, x.born < since:=by
      intro x hx
      have:x.born ∈ es.toList.map (·.born):=List.mem_map.2 ⟨x, hx, rfl⟩
      rw [h6.num] at this
      obtain ⟨p, hp, he⟩:=List.mem_map.1 this
      have:=h6.lt p hp
      omega
    have hlast:(!seen'.isEmpty && !es.isEmpty && es.all (fun x=>decide (x.born ≥ since))) = false:=next_test_false seen' es since since hborn (Nat.le_refl _)
    have hold:(es.filter fun e=>!seen'.contains e.born).filter (fun e=>decide (e.born < since)) = es.filter fun e=>!seen'.contains e.born:=by
      apply Array.filter_eq_self.2
      intro x hx
      have:=hborn x (Array.mem_toList_iff.2 (Array.mem_filter.1 hx).1)
      simpa using this
    have hnew:(es.filter fun e=>!seen'.contains e.born).filter (fun e=>decide (e.born ≥ since)) = #[]:=by
      apply Array.filter_eq_empty_iff.2
      intro x hx
      have:=hborn x (Array.mem_toList_iff.2 (Array.mem_filter.1 hx).1)
      simpa using this
    have hmap:((es.filter fun e=>!seen'.contains e.born).toList.map (·.born)) = leftD seen l:=by
      rw [Array.toList_filter]
      unfold leftD
      have hc:∀ i, seen.contains i = seen'.toList.contains i:=by intro i; rw [h4]; simp
      simp only [hc]
      rw [← h6.num, List.filter_map]
      congr 1
      apply List.filter_congr
      intro x _
      simp
    generalize hL:(es.filter fun e=>!seen'.contains e.born) = L at hold hnew hmap
    have hlt:q.1 < w.heap.size:=(Array.getElem?_eq_some_iff.1 h3).1
    by_cases hz:L.size = 0
    · have hL0:L = #[]:=Array.eq_empty_of_size_eq_zero hz
      subst hL0
      left
      refine ⟨by rw [← hmap]; rfl, ?_⟩
      simp only [Instr.next, Sem.run_bind, qen h3, qao h5, Result.andThen_ok, hlast, Bool.false_eq_true, if_false, hL, hold, hnew]
      simp [run_choose, Question.forced]
    · right
      have hne:L.isEmpty = false:=by simp [Array.isEmpty, hz]
      have hch:∃ (j:Nat) (w1:World), j < L.size ∧ w1.heap = w.heap ∧ w1.os = w.os ∧ w1.tape = w.tape ∧ w1.output = w.output ∧ (choose (Question.mapNext L.size)).run P w = .ok j w1:=by
        by_cases hf:L.size ≤ 1
        · exact ⟨0, w, by omega, rfl, rfl, rfl, rfl, by simp [choose, Sem.run, Question.forced, hf]⟩
        · refine ⟨_, { w with drawn:=w.drawn + 1 }, Nat.mod_lt (w.tape w.drawn (.mapNext L.size)) (show 0 < L.size by omega), rfl, rfl, rfl, rfl, ?_⟩
          simp only [choose, Sem.run, Question.forced, decide_eq_true_eq, hf, if_false, Question.cut]
      obtain ⟨j, w1, hj, e1, e2, e3, e4, hrun⟩:=hch
      have hmem:L[j].born ∈ leftD seen l:=by
        rw [← hmap]
        exact List.mem_map.2 ⟨L[j], by simp, rfl⟩
      have h3':w1.heap[q.1]? = some (.mapIter (some r.1) since seen' since):=by rw [e1]; exact h3
      refine ⟨L[j].born, hmem, { w1 with heap:=w1.heap.setIfInBounds q.1 (.mapIter (some r.1) since (seen'.push L[j].born) since) }, L[j].key, L[j].val, ?_, ?_⟩
      · simp only [Instr.next, Sem.run_bind, qen h3, qao h5, Result.andThen_ok, hlast, Bool.false_eq_true, if_false, hL, hold, hnew, hne, Array.empty_append, Array.append_empty, Array.size_map, hrun, Array.getElem?_map, Array.getElem?_eq_getElem hj, Option.map_some, qkv h3']
        rfl
      · refine Goes.write hr hg hro h1 (o:=.mapIter (some r.1) since (seen'.push L[j].born) since) (by simp [e1, hlt]) (by simp [e1]) (fun j' hj'=>by simp [Ne.symm hj', e1]) e2 e3 e4 ?_
        exact ⟨h0, ⟨r, h2, rfl⟩, rfl, by rw [Array.toList_push, h4, List.reverse_cons], rfl⟩
theorem qmj {it:V} {it':Value} {isString:Bool} {ty:TypeId} (e:qlT it isString h = some (v, h')) (hh:h'.Holds) (hi:VRel φ it it') (hr:HRel φ h w) :
    h.Holds ∧ ∃ w' r, (Instr.next it' isString ty).run P w = .ok r w' ∧ VRel φ v r ∧ Goes φ h w φ h' w':=by
  unfold qlT at e
  split at e
  · rename_i b n
    split at e
    · rename_i m since seen hg
      split at e
      · rename_i k u l ck hgm
        split at e
        · rename_i hro
          split at e
          · rename_i h2 ht
            have hh2:h2.Holds:=by
              split at e
              · cases e; exact hh
              · cases e; exact fun p hp=>hh p (by rw [H.set_eq]; exact hp)
              · cases e
            obtain ⟨t1, t2, t3⟩:=H.test_holds ht hh2
            obtain ⟨u1, u2, u3⟩:=H.test_eqs ht
            have hr2:HRel φ h2 w:=hr.same t3
            have hg2:h2.get b = some (.mit m since seen):=by rw [H.get, u3]; exact hg
            have hgm2:h2.get m = some (.mapd k u l ck):=by rw [H.get, u3]; exact hgm
            have key:=next_any (P:=P) (ty:=ty) hg2 hgm2 (Nat.eq_of_beq_eq_true t2) (by rw [u2]; exact Nat.le_of_ble_eq_true hro) hi hr2
            have g0:Goes φ h w φ h2 w:=Goes.of_same hr t3 rfl rfl rfl rfl
            refine ⟨t1, ?_⟩
            split at e
            · rename_i hl0
              cases e
              refine ⟨w, .tuple #[.bool false], ?_, .tuple _ _ (.cons (.bool _) .nil), g0⟩
              rcases key with ⟨_, h1⟩ | ⟨i, hi, _⟩
              · exact h1
              · rw [hl0] at hi; cases hi
            · rename_i i hl1
              cases e
              rcases key with ⟨h0, _⟩ | ⟨j, hj, w', x, y, h1, h2⟩
              · rw [hl1] at h0; cases h0
              · rw [hl1] at hj
                have:=List.mem_singleton.1 hj
                subst this
                exact ⟨w', _, h1, .tuple _ _ (.cons (.bool _) (.cons (.bot _) (.cons (.bot _) .nil))), g0.trans h2⟩
            · cases e
          · cases e
        · cases e
      · cases e
    · cases e
  · cases e
theorem qn0 {it:V} {it':Value} {ty:TypeId} {ls:List Nat} (hm:qiQ it h = some ls) (hp:∀ pk, qdS ls pk → ∃ g v h', h.Same g ∧ qkZ pk it g = some (v, h') ∧ h'.Holds) (hi:VRel φ it it') (hr:HRel φ h w) :
    ∃ pk, qdS ls pk ∧ ∀ g v h', h.Same g → qkZ pk it g = some (v, h') → h'.Holds → g.Holds ∧ ∃ w' r, (Instr.next it' false ty).run P w = .ok r w' ∧ VRel φ v r ∧ Goes φ g w φ h' w':=by
  unfold qiQ at hm
  split at hm
  · rename_i b n
    split at hm
    · rename_i m since seen hg
      split at hm
      · rename_i k u l ck hgm
        cases hm
        -- the tests hold
        have hpk:∃ pk, qdS (leftD seen l) pk:=by
          cases hl:leftD seen l with
          | nil=>exact ⟨none, rfl⟩
          | cons i r=>exact ⟨some i, List.mem_cons_self ..⟩
        obtain ⟨pk0, hpk0⟩:=hpk
        have core:∀ pk g v h', h.Same g → qkZ pk (.ptr (some ⟨b, n, 0, 0⟩)) g = some (v, h') → h'.Holds → ∃ h2, g.Holds ∧ g.Same h2 ∧ h.ro ≤ b ∧ ck = since ∧
            (v, h') = match pk with | none=>(.tuple [.bool false], h2) | some i=>(.tuple [.bool true, .bot, .bot], h2.set b (.mit m since (i :: seen))):=by
          intro pk g v h' s e hh
          unfold qkZ at e
          have hg':g.get b = some (.mit m since seen):=by rw [H.get, s.2.2]; exact hg
          have hgm':g.get m = some (.mapd k u l ck):=by rw [H.get, s.2.2]; exact hgm
          simp only [hg', hgm'] at e
          split at e
          · rename_i hro
            split at e
            · rename_i h2 ht
              have hh2:h2.Holds:=by
                cases pk with
                | none=>cases e; exact hh
                | some i=>cases e; exact fun p hp=>hh p (by rw [H.set_eq]; exact hp)
              obtain ⟨t1, t2, t3⟩:=H.test_holds ht hh2
              refine ⟨h2, t1, t3, by rw [← s.2.1]; exact Nat.le_of_ble_eq_true hro, Nat.eq_of_beq_eq_true t2, ?_⟩
              cases pk with
              | none=>cases e; rfl
              | some i=>cases e; rfl
            · cases e
          · cases e
        obtain ⟨g0, v0, h0', s0, e0, hh0⟩:=hp pk0 hpk0
        obtain ⟨_, _, _, c3, c4, _⟩:=core pk0 g0 v0 h0' s0 e0 hh0
        have key:=next_any (P:=P) (ty:=ty) hg hgm c4 c3 hi hr
        rcases key with ⟨hl0, h1⟩ | ⟨i, hi', w', x, y, h1, h3⟩
        · refine ⟨none, hl0, fun g v h' s e hh=>?_⟩
          obtain ⟨h2, c1, c2, _, _, c8⟩:=core _ g v h' s e hh
          cases c8
          exact ⟨c1, w, _, h1, .tuple _ _ (.cons (.bool _) .nil), Goes.of_same (hr.same s) c2 rfl rfl rfl rfl⟩
        · refine ⟨some i, hi', fun g v h' s e hh=>?_⟩
          obtain ⟨h2, c1, c2, _, _, c8⟩:=core _ g v h' s e hh
          cases c8
          refine ⟨c1, w', _, h1, .tuple _ _ (.cons (.bool _) (.cons (.bot _) (.cons (.bot _) .nil))), ?_⟩
          have s':g.Same h:=⟨s.1.symm, s.2.1.symm, s.2.2.symm⟩
          have c2':=H.Same.trans s c2
          exact (Goes.of_same (hr.same s) s' rfl rfl rfl rfl).trans (h3.trans (Goes.of_same h3.rel (by obtain ⟨s1, s2, s3⟩:=c2'; simp only [H.Same, H.set_eq, s1, s2, s3, and_self]) rfl rfl rfl rfl))
      · cases hm
    · cases hm
  · cases hm
theorem qjd {k u:Ty}:∀ {l:List (Nat×(k.data×u.data))} {es:List MapEntry} {i:Nat}, EntsRel k u (l.map Prod.snd) es → es.map (·.born) = l.map Prod.fst → hasE l i = true →
    ∃ x, (es.find? fun e=>e.born == i) = some x ∧ DVal (fun _=>none) k (entE l i).1 x.key ∧ DVal (fun _=>none) u (entE l i).2 x.val
  | [], _, _, _, _, h=>by cases h
  | p :: l, [], _, h, _, _=>h.elim
  | p :: l, e :: es, i, ⟨h1, h2⟩, hn, hh=>by
    simp only [List.map_cons, List.cons.injEq] at hn
    simp only [hasE] at hh
    simp only [entE]
    cases hb:Nat.beq p.1 i with
    | true =>
      have:e.born == i:=by rw [hn.1]; exact beq_iff_eq.2 (Nat.eq_of_beq_eq_true hb)
      exact ⟨e, by rw [List.find?_cons, this], h1⟩
    | false =>
      rw [hb] at hh
      have:(e.born == i) = false:=by
        rw [hn.1]
        cases hc:p.1 == i with
        | false=>rfl
        | true=>rw [beq_iff_eq.1 hc, Nat.beq_refl] at hb; cases hb
      obtain ⟨x, q1, q2⟩:=qjd h2 hn.2 hh
      exact ⟨x, by rw [List.find?_cons, this]; exact q1, q2⟩
theorem qk6 {it:V} {it':Value} (e:qic it h = some (v, h')) (hh:h'.Holds) (hi:VRel φ it it') (hr:HRel φ h w) :
    h.Holds ∧ h.Same h' ∧ ∃ r, (Instr.entry it').run P w = .ok r w ∧ VRel φ v r:=by
  unfold qic at e
  split at e
  · rename_i b n
    split at e
    · rename_i m since seen hg
      split at e
      · rename_i k u l ck hgm
        split at e
        · rename_i i sn hro
          split at e
          · rename_i h1' ht1
            split at e
            rotate_left
            · cases e
            rename_i h2 ht
            cases e
            obtain ⟨t1, t2, t3⟩:=H.test_holds ht hh
            obtain ⟨s1, s2, s3⟩:=H.test_holds ht1 t1
            refine ⟨s1, H.Same.trans s3 t3, ?_⟩
            obtain ⟨q, r, es, seen', h1, h0, g2, h3, h4, h5, h6⟩:=hr.mitD hg hgm (Nat.eq_of_beq_eq_true s2)
            cases hi with
            | ptr _ q' hq =>
              rw [h1] at hq
              cases hq
              have ha:(⟨b, n, 0, 0⟩:VA).real q = ⟨q.1, 0, none⟩:=by simp [VA.real, h0]
              rw [ha]
              have hback:seen'.back? = some i:=by
                rw [← Array.getLast?_toList, h4]; simp
              obtain ⟨x, hx, hk, hv⟩:=qjd h6.ents h6.num t2
              have hfind':(es.find? fun e=>e.born == i) = some x:=by rw [← hx]; simp
              refine ⟨.tuple #[x.key, x.val], ?_, .tuple _ _ (.cons ((hk.mono (qeB φ.fz)).val) (.cons ((hv.mono (qeB φ.fz)).val) .nil))⟩
              simp [Instr.entry, qen h3, qao h5, hback, hfind']
          · cases e
        · cases e
      · cases e
    · cases e
  · cases e
theorem qjS {t:TypeId} {m x:V} {m' x':Value} {ok:Bool} (e:qfS P t m x ok h = some (v, h')) (hm:VRel φ m m') (hx:VRel φ x x') (hr:HRel φ h w) :
    h' = h ∧ ∃ r, (Instr.lookup t m' x' ok).run P w = .ok r w ∧ VRel φ v r:=by
  unfold qfS at e
  split at e
  · rename_i kT eT b hu
    split at e
    · rename_i k u l ck hg
      split at e
      · rename_i d z hf hd hz
        split at e
        · rename_i z0 hz0
          cases e
          refine ⟨rfl, ?_⟩
          obtain ⟨q, es, clock, h1, h2, h3⟩:=hr.mapd hg
          cases hm with
          | map _ q' hq =>
            rw [hq] at h1
            cases h1
            have hxd:=(qb9 hd hx).bare h3.kflat
            obtain ⟨z', hzr, hzv⟩:=qci (P:=P) (w:=w) (φ:=φ) hz
            have hzd:=qb9 hz0 hzv
            have hcheck:=qcH (w:=w) hf es.isEmpty 9998 hxd
            have hcheck:(Instr.checkKey es.isEmpty 10000 kT x').run P w = .ok () w:=hcheck
            obtain ⟨uk, huk⟩:∃ uk, P.underlying kT = some uk:=by
              cases hq:P.underlying kT with
              | some uk=>exact ⟨uk, rfl⟩
              | none=>unfold kfit qex at hf; rw [hq] at hf; cases hf
            have hfind:=qcD (w:=w) hf huk hxd h3.ents
            have hff:=qbZ (d:=d) (l.map Prod.snd) es.toList 0 h3.ents
            cases hfa:qa0 d (l.map Prod.snd) es.toList 0 with
            | none =>
              rw [hfa] at hff hfind
              rw [hff.1]
              cases ok with
              | true =>
                refine ⟨.tuple #[z', .bool false], ?_, .tuple _ _ (.cons hzd.val (.cons (.bool _) .nil))⟩
                simp [Instr.lookup, qaa hu, qao h2, hcheck, hfind, hzr]
              | false =>
                refine ⟨z', ?_, hzd.val⟩
                simp [Instr.lookup, qaa hu, qao h2, hcheck, hfind, hzr]
            | some jy =>
              obtain ⟨j, y⟩:=jy
              rw [hfa] at hff hfind
              obtain ⟨p, n, a1, a2, a3, a4, a5, a6, a7⟩:=hff
              rw [a4]
              have hy:=(a5.mono (qeB φ.fz)).val
              cases ok with
              | true =>
                refine ⟨.tuple #[y, .bool true], ?_, .tuple _ _ (.cons hy (.cons (.bool _) .nil))⟩
                simp [Instr.lookup, qaa hu, qao h2, hcheck, hfind]
              | false =>
                refine ⟨y, ?_, hy⟩
                simp [Instr.lookup, qaa hu, qao h2, hcheck, hfind]
        · cases e
      · cases e
    · cases e
  · cases e
theorem qhV {k u:Ty} {d:k.data}:∀ (l:List (Nat×(k.data×u.data))) (es:List MapEntry) (i:Nat), EntsRel k u (l.map Prod.snd) es → es.map (·.born) = l.map Prod.fst →
    match qa0 d (l.map Prod.snd) es i with
    | none=>ddel d l = l
    | some (j, _)=>∃ n, j = i + n ∧ n < es.length ∧ EntsRel k u ((ddel d l).map Prod.snd) (es.eraseIdx n) ∧ (es.eraseIdx n).map (·.born) = (ddel d l).map Prod.fst
  | [], [], _, _, _=>rfl
  | [], _ :: _, _, h, _=>h.elim
  | _ :: _, [], _, h, _=>h.elim
  | p :: l, e :: es, i, ⟨h1, h2⟩, hn=>by
    simp only [List.map_cons, List.cons.injEq] at hn
    simp only [List.map_cons, qa0, ddel]
    cases hk:qbs k d p.2.1 with
    | true=>exact ⟨0, rfl, by simp, h2, hn.2⟩
    | false =>
      have ih:=qhV (d:=d) l es (i + 1) h2 hn.2
      revert ih
      cases hf:qa0 d (l.map Prod.snd) es (i + 1) with
      | none=>intro ih; simp only [ih]
      | some jy =>
        obtain ⟨j, y⟩:=jy
        intro ih
        obtain ⟨n, a1, a2, a3, a4⟩:=ih
        refine ⟨n + 1, by omega, by simpa using a2, ⟨h1, a3⟩, ?_⟩
        simp only [List.eraseIdx_cons_succ, List.map_cons, hn.1, a4]
theorem qly {k u:Ty} {d:k.data}:∀ (l:List (Nat×(k.data×u.data))), (ddel d l).Sublist l
  | []=>.slnil
  | p :: l=>by
    simp only [ddel]
    cases qbs k d p.2.1 with
    | true=>exact .cons _ (List.Sublist.refl _)
    | false=>exact .cons_cons _ (qly l)
theorem qkT {ts:Array TypeId} {ty:TypeId} {args:List V} {args':Array Value} (e:qiP P ts args h = some (v, h')) (ha:VRels φ args args'.toList) (hr:HRel φ h w) :
    h'.said = h.said ∧ ∃ w' r, (Builtin.delete_ ts ty args').run P w = .ok r w' ∧ VRel φ v r ∧ Goes φ h w φ h' w':=by
  unfold qiP at e
  split at e
  · rename_i t b x ht
    split at e
    · rename_i kT eT k u l ck hu hg
      split at e
      · rename_i d hf hd hro
        cases e
        refine ⟨by rw [H.set_eq], ?_⟩
        obtain ⟨q, es, clock, h1, h2, h3⟩:=hr.mapd hg
        obtain ⟨m', hm', hmv⟩:∃ m', args'[0]? = some m' ∧ VRel φ (.map (some b)) m':=by
          obtain ⟨r, hr1, hr2⟩:=ha.get 0 _ rfl
          exact ⟨r, by simpa using hr1, hr2⟩
        obtain ⟨x', hx', hx⟩:∃ x', args'[1]? = some x' ∧ VRel φ x x':=by
          obtain ⟨r, hr1, hr2⟩:=ha.get 1 _ rfl
          exact ⟨r, by simpa using hr1, hr2⟩
        cases hmv with
        | map _ q' hq =>
          rw [hq] at h1
          cases h1
          have hxd:=(qb9 hd hx).bare h3.kflat
          have hcheck:(Instr.checkKey es.isEmpty 10000 kT x').run P w = .ok () w:=qcH (w:=w) hf es.isEmpty 9998 hxd
          obtain ⟨uk, huk⟩:∃ uk, P.underlying kT = some uk:=by
            cases hq:P.underlying kT with
            | some uk=>exact ⟨uk, rfl⟩
            | none=>unfold kfit qex at hf; rw [hq] at hf; cases hf
          have hfind:=qcD (w:=w) hf huk hxd h3.ents
          have hff:=qhV (d:=d) l es.toList 0 h3.ents h3.num
          have hlt:q.1 < w.heap.size:=(Array.getElem?_eq_some_iff.1 h2).1
          have fin:∀ es':Array MapEntry, MapRelD k u (ddel d l) ck es'.toList clock → Goes φ h w φ (h.set b (.mapd k u (ddel d l) ck)) { w with heap:=w.heap.setIfInBounds q.1 (.map es' clock) }:=fun es' hm =>
            Goes.write hr hg (Nat.le_of_ble_eq_true hro) hq (o:=.map es' clock) (by simp [hlt]) (by simp) (fun j hj=>by simp [Ne.symm hj]) rfl rfl rfl hm
          have sub:=qly (d:=d) l
          have hlt':∀ p ∈ ddel d l, p.1 < ck:=fun p hp=>h3.lt p (sub.subset hp)
          have hnd:((ddel d l).map Prod.fst).Nodup:=(sub.map Prod.fst).nodup h3.nodup
          cases hfa:qa0 d (l.map Prod.snd) es.toList 0 with
          | none =>
            rw [hfa] at hfind hff
            refine ⟨_, .tuple #[], ?_, .tuple _ _ .nil, fin es ⟨h3.kflat, h3.vflat, by rw [hff]; exact h3.ents, by rw [hff]; exact h3.num, hlt', hnd, h3.clk⟩⟩
            simp [Builtin.delete_, ht, hm', hx', qaa hu, qao h2, hcheck, hfind, MapKept.run_setObj_map _ h2]
          | some jy =>
            obtain ⟨j, y0⟩:=jy
            rw [hfa] at hff hfind
            obtain ⟨n, a1, a2, a3, a4⟩:=hff
            have a1:j = n:=by omega
            subst a1
            have hes:(es.eraseIdxIfInBounds j).toList = es.toList.eraseIdx j:=by simp
            refine ⟨_, .tuple #[], ?_, .tuple _ _ .nil, fin (es.eraseIdxIfInBounds j) ⟨h3.kflat, h3.vflat, by rw [hes]; exact a3, by rw [hes]; exact a4, hlt', hnd, h3.clk⟩⟩
            simp [Builtin.delete_, ht, hm', hx', qaa hu, qao h2, hcheck, hfind, MapKept.run_setObj_map _ h2]
      · cases e
    · cases e
  · cases e
end
end Go.Vm

/-
  One operation on memory, whichever it is.
-/
namespace Go.Vm
open Go
theorem qaF {α:Type} (zs:List α):∀ (n j:Nat), j < n * zs.length → ((List.replicate n zs).flatten)[j]? = zs[j % zs.length]?
  | 0, j, h=>by simp at h
  | n + 1, j, h=>by
    rw [List.replicate_succ, List.flatten_cons]
    rw [Nat.add_mul] at h
    rcases Nat.lt_or_ge j zs.length with hj | hj
    · rw [List.getElem?_append_left hj, Nat.mod_eq_of_lt hj]
    · rw [List.getElem?_append_right hj, qaF zs n (j - zs.length) (by omega)]
      rw [← Nat.mod_eq_sub_mod hj]
theorem qg1 {φ:Map} {zs:List V} {z:Array Value} {size:Nat} (h:VRels φ zs z.toList) (hl:zs.length = size) (n:Nat) :
    VRels φ ((List.replicate n zs).flatten) ((Array.range (n * size)).map (fun i=>z[i % z.size]!)).toList:=by
  have hz:z.size = size:=by have:=h.length; simp at this; omega
  have hlen:((List.replicate n zs).flatten).length = n * size:=by simp [List.length_flatten, hl]
  refine VRels.of_get (by rw [hlen]; simp) fun i v r hv hr=>?_
  have hi:i < n * size:=by
    rcases Nat.lt_or_ge i (n * size) with h | h
    · exact h
    · rw [List.getElem?_eq_none (by omega)] at hv; cases hv
  rw [qaF zs n i (by rw [hl]; exact hi), hl] at hv
  obtain ⟨x, hx, hvx⟩:=h.get _ _ hv
  have hr':=hr
  simp only [Array.toList_map, Array.toList_range, List.getElem?_map, List.getElem?_range hi, Option.map_some, Option.some.injEq] at hr'
  rw [hz] at hr'
  have hx':z[i % size]? = some x:=by simpa using hx
  rw [getElem!_def, hx'] at hr'
  subst hr'
  exact hvx
def eOf (len size:Nat):Nat :=
  match len with
  | 0=>0
  | _ + 1=>size
def qbu (P:Program) (t:TypeId) (len:Nat) (parts:List (Nat×V)) (h:H):Option (V×H) :=
  match P.underlying t with
  | some (.slice elem) =>
    match qal P elem with
    | none=>none
    | some size =>
      match Nat.ble (len * size) (2 ^ 24), qbr P elem size with
      | true, some zs=>match qkV (fun i=>some (i * size, size)) ((List.replicate len zs).flatten) parts with
        | none=>none
        | some cells=>match Nat.beq cells.length (len * size) with
          | true=>some (.sl (some ⟨h.next, eOf len size, 0, 0⟩) len (some len), h.push (.box size (.list (chunks len size cells))))
          | false=>none
      | _, _=>none
  | _=>none
theorem qdK {P:Program} {φ:Map} {w:World} {t:TypeId} {len:Nat} {parts:List (Nat×V)} {parts':Array (Nat×Value)} {h h':H} {v:V} (e:qbu P t len parts h = some (v, h')) (hh:h'.Holds)
    (hi:parts.map (·.1) = parts'.toList.map (·.1)) (hp:VRels φ (parts.map (·.2)) (parts'.toList.map (·.2))) (hr:HRel φ h w) :
    h.Holds ∧ ∃ φ' w' r, (Instr.buildSlice t len parts').run P w = .ok r w' ∧ VRel φ' v r ∧ Goes φ h w φ' h' w':=by
  unfold qbu at e
  split at e
  · rename_i elem hu
    split at e
    · cases e
    · rename_i size hsz
      split at e
      · rename_i zs hle hz
        split at e
        · cases e
        · rename_i cells hf
          split at e
          · rename_i hlc
            cases e
            refine ⟨hh, ?_⟩
            have hle':=Nat.le_of_ble_eq_true hle
            have hlc':=Nat.eq_of_beq_eq_true hlc
            obtain ⟨z, rz, vz, lz⟩:=qa6 (φ:=φ) hz w
            have hzero:∃ zero:Array Value, (((len * size = 0 ∧ zero = #[]) ∨ (¬ len * size = 0 ∧ zero = z.cells)) ∧
                VRels φ ((List.replicate len zs).flatten) ((Array.range (len * size)).map (fun i=>zero[i % zero.size]!)).toList):=by
              by_cases h0:len * size = 0
              · refine ⟨#[], .inl ⟨h0, rfl⟩, ?_⟩
                have:(List.replicate len zs).flatten = []:=List.eq_nil_of_length_eq_zero (by simp [List.length_flatten, lz, h0])
                rw [this]
                simp [h0]
                exact .nil
              · exact ⟨z.cells, .inr ⟨h0, rfl⟩, qg1 vz lz _⟩
            obtain ⟨zero, rzero, vzero⟩:=hzero
            obtain ⟨out', ho, hro⟩:=qeP parts parts'.toList _ _ cells hi hp vzero hf
            have hol:out'.size = len * size:=by have:=hro.length; simp at this; omega
            have el:=Elems.chunks (n:=len) (size:=size) (l:=cells) (rs:=out'.toList) (by rw [← hlc', List.take_length]; exact hro) (by omega)
            obtain ⟨g, hk⟩:=Goes.push hr (w':=w.alloc (.cells out' elem)) (.box size (.list (chunks len size cells))) _ (len * size, 0) rfl rfl rfl rfl ⟨by rw [qa2]; simpa using el.rows, hol, fun _=>⟨rfl, rfl⟩⟩
            refine ⟨_, _, .slice (some ⟨w.heap.size, 0, none⟩) len len, ?_, ?_, g⟩
            · have hle2:¬ len * size > 2 ^ 24:=by omega
              rcases rzero with ⟨h0, rfl⟩ | ⟨h0, rfl⟩
              · simp only [Instr.buildSlice, Sem.run_bind, qaa hu, qag hsz, Result.andThen_ok, if_neg hle2, if_pos h0, ho, newRow, run_newObj, Sem.run_pure]
                rfl
              · simp only [Instr.buildSlice, Sem.run_bind, qaa hu, qag hsz, Result.andThen_ok, if_neg hle2, if_neg h0, rz, ho, newRow, run_newObj, Sem.run_pure]
                rfl
            · have:(⟨w.heap.size, 0, none⟩:Addr) = (⟨h.next, eOf len size, 0, 0⟩:VA).real (w.heap.size, len * size, 0):=by simp [VA.real]
              rw [this]
              exact .sl ⟨h.next, eOf len size, 0, 0⟩ _ len len (some len) hk (Nat.le_refl _) (fun c e=>by cases e; rfl) (fun e=>by cases e)
          · cases e
      · cases e
  · cases e
def qrq (P:Program) (t:TypeId):Option Ty :=
  match P.underlying t with
  | some (.slice e)=>tyOf P 8 e
  | _=>none
def qo1 (P:Program) (t:TypeId) (r:Option (V×H)):Option (V×H) :=
  match r with
  | some (.sl (some a) (n + 1) (some c), h)=>match h.ask, Nat.beq 1000000 h.ro, Nat.beq (n + 1) c && !qn1 h (.sl (some a) (n + 1) (some c)) with
    | some _, false, true=>match qrq P t with
      | some u=>match qde h u (.sl (some a) (n + 1) (some c)) with
        | some (d, ns)=>some (.vs u d .tight, qaA ns h)
        | none=>r
      | none=>r
    | _, _, _=>r
  | r=>r
theorem qn7 {P:Program} {φ:Map} {w:World} {t:TypeId} {len:Nat} {parts:List (Nat×V)} {parts':Array (Nat×Value)} {h h':H} {v:V} (e:qo1 P t (qbu P t len parts h) = some (v, h')) (hh:h'.Holds)
    (hi:parts.map (·.1) = parts'.toList.map (·.1)) (hp:VRels φ (parts.map (·.2)) (parts'.toList.map (·.2))) (hr:HRel φ h w) :
    h.Holds ∧ ∃ φ' w' r, (Instr.buildSlice t len parts').run P w = .ok r w' ∧ VRel φ' v r ∧ Goes φ h w φ' h' w':=by
  have plain:qbu P t len parts h = some (v, h') → h.Holds ∧ ∃ φ' w' r, (Instr.buildSlice t len parts').run P w = .ok r w' ∧ VRel φ' v r ∧ Goes φ h w φ' h' w':=fun e=>qdK e hh hi hp hr
  unfold qo1 at e
  split at e
  · rename_i a n c h2 hb
    split at e
    · rename_i hc
      split at e
      · rename_i u hu
        split at e
        · rename_i d ns hs
          cases e
          have hh2:h2.Holds:=fun p hp=>hh p (by rw [qbw]; exact hp)
          obtain ⟨h1, φ', w', r, hrun, hv, g⟩:=qdK (P:=P) (parts':=parts') hb hh2 hi hp hr
          obtain ⟨f', g2, a', n', cap', hx, h3, h4⟩:=qcW hs hv g.rel
          refine ⟨h1, _, w', r, hrun, ?_, g.trans g2⟩
          subst hx
          have hfull:cap' = n':=by
            cases hv with
            | sl _ k _ cap' _ hk hl hc2 hz =>
              have h1:=hc2 c rfl
              have h2:=Nat.eq_of_beq_eq_true (Bool.and_eq_true_iff.1 hc).1
              omega
          exact .vs _ _ _ _ _ _ h3 h4 hfull
        · exact plain e
      · exact plain e
    · exact plain e
  · exact plain e
def vbox (v:V) (h:H):Option (V×H) :=
  match cellsOf v with
  | some cs=>some (.ptr (some ⟨h.next, cs.length, 0, 0⟩), h.push (.box cs.length (.list [cs])))
  | none=>none
theorem qll {P:Program} {φ:Map} {w:World} {elem:TypeId} {x v:V} {x':Value} {h h':H} (e:vbox x h = some (v, h')) (hx:VRel φ x x') (hr:HRel φ h w) :
    h'.said = h.said ∧ ∃ φ' w' a, (newVar elem x').run P w = .ok a w' ∧ VRel φ' v (.pointer (some a)) ∧ Goes φ h w φ' h' w':=by
  unfold vbox at e
  split at e
  · rename_i cs hcs
    cases e
    refine ⟨rfl, ?_⟩
    have hv:=qbN hx hcs
    have hl:=hv.length
    obtain ⟨g, hk⟩:=Goes.push hr (w':=w.alloc (.cells x'.cells elem)) (.box cs.length (.list [cs])) _ (cs.length, 0) rfl rfl rfl rfl ⟨by
      rw [qa2]
      intro i row hrow
      cases i with
      | zero =>
        simp only [Rows.get, List.getElem?_cons_zero, Option.some.injEq] at hrow
        subst hrow
        refine ⟨rfl, fun o u hu=>?_⟩
        obtain ⟨y, hy, hvy⟩:=hv.get o u hu
        exact ⟨y, by simpa using hy, hvy⟩
      | succ i=>simp [Rows.get] at hrow, by simp at hl; omega, fun _=>⟨rfl, rfl⟩⟩
    refine ⟨_, _, ⟨w.heap.size, 0, none⟩, rfl, ?_, g⟩
    have:(⟨w.heap.size, 0, none⟩:Addr) = (⟨h.next, cs.length, 0, 0⟩:VA).real (w.heap.size, cs.length, 0):=by simp [VA.real]
    rw [this]
    exact .ptr _ _ hk
  · cases e
def qcy (P:Program) (elem:TypeId) (n:Nat) (zs:List V) (ask:Option (List Bool)):Rows :=
  match ask with
  | none=>.list (List.replicate n zs)
  | some _=>match tyOf P 8 elem with
    | none=>.fn n (fun _=>zs)
    | some t=>match qc1 t zs with
      | none=>.fn n (fun _=>zs)
      | some d=>.ty t (List.replicate n d)
def qd8 (P:Program) (t:TypeId) (l c:V) (h:H):Option (V×H) :=
  match P.underlying t, l, c with
  | some (.slice elem), .int _ l, .int _ c =>
    match qal P elem, P.info? elem with
    | some size, some i =>
      match qbr P elem size, h.test (decide (0 ≤ l) && decide (l ≤ c) && decide ((i.bytes:Int) * c ≤ 2 ^ 48) && decide (c ≤ 2 ^ 48)) with
      | some zs, some (true, h) =>
        some (.sl (some ⟨h.next, size, 0, 0⟩) l.toNat (some c.toNat), h.push (.box size (qcy P elem c.toNat zs h.ask)))
      | _, _=>none
    | _, _=>none
  | _, _, _=>none
theorem wrap_small (n:Int) (h0:0 ≤ n) (h1:n ≤ 2 ^ 48):IntKind.i64.wrap n = n:=by
  have:(2:Int) ^ 48 = 281474976710656:=by decide
  simp only [IntKind.wrap, IntKind.signed, IntKind.bits]
  simp
  omega
theorem qhb {P:Program} {φ:Map} {w:World} {t:TypeId} {l c:V} {l' c':Value} {h h':H} {v:V} (e:qd8 P t l c h = some (v, h')) (hh:h'.Holds) (hl:VRel φ l l') (hc:VRel φ c c') (hr:HRel φ h w) :
    h.Holds ∧ ∃ φ' w' r, (Instr.makeSlice t l' c').run P w = .ok r w' ∧ VRel φ' v r ∧ Goes φ h w φ' h' w':=by
  unfold qd8 at e
  split at e
  · rename_i elem _ l _ c hu
    split at e
    · rename_i size i hsz hi
      split at e
      · rename_i zs h2 hz ht
        have hh2:h2.Holds:=by cases e; exact hh
        obtain ⟨q1, q2, q3⟩:=H.test_holds ht hh2
        simp only [Bool.and_eq_true, decide_eq_true_eq] at q2
        obtain ⟨⟨⟨b1, b2⟩, b3⟩, b4⟩:=q2
        refine ⟨q1, ?_⟩
        cases hl; cases hc
        have hs:h.Same h2:=q3
        have hr2:=hr.same hs
        obtain ⟨z, rz, vz, lz⟩:=qa6 (φ:=φ) hz w
        have hzs:z.cells.size = size:=by have:=vz.length; simp at this; omega
        have hwl:=wrap_small l b1 (by omega)
        have hwc:=wrap_small c (by omega) b4
        have hzero:∃ zero:Array Value, (((c.toNat * size = 0 ∧ zero = #[]) ∨ (¬ c.toNat * size = 0 ∧ zero = z.cells)) ∧
            VRels φ ((List.replicate c.toNat zs).flatten) ((Array.range (c.toNat * size)).map (fun i=>zero[i % zero.size]!)).toList):=by
          by_cases h0:c.toNat * size = 0
          · refine ⟨#[], .inl ⟨h0, rfl⟩, ?_⟩
            have:(List.replicate c.toNat zs).flatten = []:=List.eq_nil_of_length_eq_zero (by simp [List.length_flatten, lz, h0])
            rw [this]
            simp [h0]
            exact .nil
          · exact ⟨z.cells, .inr ⟨h0, rfl⟩, qg1 vz lz _⟩
        obtain ⟨zero, rzero, vzero⟩:=hzero
        have hrow:∀ (r:Rows), (∀ i row, r.get i = some row → i < c.toNat ∧ row = zs) → RowsIn φ size r ((Array.range (c.toNat * size)).map (fun i=>zero[i % zero.size]!)):=by
          intro r hget i row hrow
          obtain ⟨hi, rfl⟩:=hget i row hrow
          refine ⟨lz, fun o u hu=>?_⟩
          have ho:o < size:=by
            rcases Nat.lt_or_ge o row.length with h | h
            · omega
            · rw [List.getElem?_eq_none h] at hu; cases hu
          have hle:(i + 1) * size ≤ c.toNat * size:=Nat.mul_le_mul_right size hi
          rw [Nat.add_mul] at hle
          have hfl:((List.replicate c.toNat row).flatten)[i * size + o]? = some u:=by
            rw [qaF row _ _ (by rw [lz]; omega), lz, Nat.mul_comm i size, Nat.mul_add_mod, Nat.mod_eq_of_lt ho]; exact hu
          obtain ⟨x, hx, hvx⟩:=vzero.get _ _ hfl
          exact ⟨x, by rw [← Array.getElem?_toList]; exact hx, hvx⟩
        have hfn:RowsIn φ size (.fn c.toNat (fun _=>zs)) ((Array.range (c.toNat * size)).map (fun i=>zero[i % zero.size]!)):=by
          refine hrow _ fun i row hg=>?_
          simp only [Rows.get] at hg
          split at hg
          · cases hg; exact ⟨by assumption, rfl⟩
          · cases hg
        have hrows:RowsIn φ size (qcy P elem c.toNat zs h2.ask) ((Array.range (c.toNat * size)).map (fun i=>zero[i % zero.size]!)):=by
          unfold qcy
          split
          · refine hrow _ fun i row hg=>?_
            simp only [Rows.get] at hg
            rw [List.getElem?_replicate] at hg
            split at hg
            · cases hg; exact ⟨by assumption, rfl⟩
            · cases hg
          · split
            · exact hfn
            · split
              · exact hfn
              · rename_i t _ d hd
                refine hfn.typed fun i d' hi=>?_
                rw [List.getElem?_replicate] at hi
                split at hi
                · rename_i hlt
                  cases hi
                  exact ⟨zs, if_pos hlt, hd⟩
                · cases hi
        cases e
        obtain ⟨g, hk⟩:=Goes.push hr2 (w':=w.alloc (.cells ((Array.range (c.toNat * size)).map (fun i=>zero[i % zero.size]!)) elem)) (.box size (qcy P elem c.toNat zs h2.ask)) _ (c.toNat * size, 0) rfl rfl rfl rfl ⟨by rw [qa2]; exact hrows, by simp, fun _=>⟨rfl, rfl⟩⟩
        refine ⟨_, _, .slice (some ⟨w.heap.size, 0, none⟩) l.toNat c.toNat, ?_, ?_, (Goes.of_same hr hs rfl rfl rfl rfl).trans g⟩
        · have htl:(decide (c < 0) || decide ((i.bytes:Int) * c > 2 ^ 48)) = false:=by simp; omega
          have hll:(decide (l < 0)) = false:=by simp; omega
          have hlc:(decide (l > c)) = false:=by simp; omega
          have hti:(typeInfo elem).run P w = .ok i w:=by simp [typeInfo, hi]
          rcases rzero with ⟨h0, rfl⟩ | ⟨h0, rfl⟩
          · simp only [Instr.makeSlice, asInt, asIntOf, Sem.run_bind, qaa hu, qag hsz, Result.andThen_ok, Sem.run_pure, hti, hwl, hwc, htl, hll, hlc, Bool.or_self, Bool.false_eq_true, if_false, run_askRoom, if_pos h0, newRow, run_newObj]
            rfl
          · simp only [Instr.makeSlice, asInt, asIntOf, Sem.run_bind, qaa hu, qag hsz, Result.andThen_ok, Sem.run_pure, hti, hwl, hwc, htl, hll, hlc, Bool.or_self, Bool.false_eq_true, if_false, run_askRoom, if_neg h0, rz, newRow, run_newObj]
            rfl
        · have:(⟨w.heap.size, 0, none⟩:Addr) = (⟨h2.next, size, 0, 0⟩:VA).real (w.heap.size, c.toNat * size, 0):=by simp [VA.real]
          rw [this]
          exact .sl _ _ _ _ _ hk (by omega) (fun _ e=>by cases e; rfl) (fun e=>by cases e)
      · cases e
    · cases e
  · cases e
def qf7 (P:Program) (ts:Array TypeId) (args:List V) (h:H):Option (V×H) :=
  match ts[0]?, ts[1]?, args with
  | some t, some xt, [.sl none 0 (some 0), .int _ l] =>
    match P.underlying t, P.underlying xt with
    | some (.slice elem), some (.int _)=>match qal P elem, P.info? elem with
      | some size, some i=>match qbr P elem size, h.test (decide (0 < l) && decide ((2 * l + 192) * (i.bytes:Int) ≤ 2 ^ 48) && decide (l ≤ 2 ^ 48)) with
        | some zs, some (true, h)=>some (.sl (some ⟨h.next, size, 0, 0⟩) l.toNat none, h.push (.box size (qcy P elem l.toNat zs h.ask)))
        | _, _=>none
      | _, _=>none
    | _, _=>none
  | _, _, _=>none
theorem qfP {P:Program} {w:World} {ts:Array TypeId} {ty t xt elem size n cap:Nat} {k kk:IntKind} {l:Int} {info:TypeInfo} {z:Value} (h0:ts[0]? = some t) (h1:ts[1]? = some xt)
    (hu:P.underlying t = some (.slice elem)) (hx:P.underlying xt = some (.int k)) (hs:qal P elem = some size) (hi:P.info? elem = some info) (hl:l = (n:Int)) (hn:0 < n) (hc:cap = 0)
    (hb1:(2 * n + 192) * info.bytes ≤ 2 ^ 48) (hb2:n ≤ 2 ^ 48) (hz:(zeroValue elem).run P w.drew = .ok z w.drew) (hzs:z.cells.size = size) :
    ∃ nc, n ≤ nc ∧ (Builtin.append_ ts ty #[.slice none 0 cap, .int kk l]).run P w = .ok (.slice (some ⟨w.heap.size, 0, none⟩) n nc) (w.drew.alloc (.cells (Builtin.zeroCells z.cells n++Builtin.zeroCells z.cells (nc - n)) elem)):=by
  have hti:∀ w:World, (typeInfo elem).run P w = .ok info w:=fun w=>by simp [typeInfo, hi]
  have h48:(2:Nat) ^ 48 = 281474976710656:=by decide
  have h48i:(2:Int) ^ 48 = 281474976710656:=by decide
  have hwl:IntKind.i64.wrap l = l:=wrap_small l (by omega) (by omega)
  have c0:¬ l < 0:=by omega
  have c4:¬ (l * (info.bytes:Int) > 2 ^ 48):=by
    have h1:(n:Nat) * info.bytes ≤ (2 * n + 192) * info.bytes:=Nat.mul_le_mul_right _ (by omega)
    have h2:l * (info.bytes:Int) = ((n * info.bytes:Nat):Int):=by rw [hl]; simp
    rw [h2, h48i]; omega
  have c5:¬ (0 + n ≤ cap):=by omega
  have c1:¬ ((((0 + n:Nat):Int) > IntKind.i64.max) ∧ True):=by
    intro ⟨h, _⟩
    have:IntKind.i64.max = 9223372036854775807:=by decide
    rw [this] at h
    omega
  have c2:¬ (Builtin.nextslicecap (0 + n) cap * info.bytes > 2 ^ 48):=by
    have h1:=nextslicecap_le (0 + n) cap (by omega)
    have h2:=Nat.mul_le_mul_right info.bytes h1
    have h3:(0 + n + (0 + n) + 192) = 2 * n + 192:=by omega
    have h4:(2 * (0 + n) + 192) * info.bytes = (2 * n + 192) * info.bytes:=by rw [Nat.zero_add]
    omega
  have hnat:l.toNat = n:=by omega
  let q:Question:=.appendCap n cap elem
  refine ⟨q.cut (w.tape w.drawn q), Nat.le_add_right _ _, ?_⟩
  have hfc:∀ w':World, (Builtin.firstCells size 0 (.slice none 0 cap)).run P w' = .ok #[] w':=fun w'=>rfl
  have hnew:((if n * size = 0 then (pure #[]:Sem (Array Value)) else do pure (Builtin.zeroCells (← zeroValue elem).cells n))).run P w.drew = .ok (Builtin.zeroCells z.cells n) w.drew:=by
    by_cases h:n * size = 0
    · rw [if_pos h]
      have:Builtin.zeroCells z.cells n = #[]:=by
        apply Array.eq_empty_of_size_eq_zero
        rw [qaX, hzs]; exact h
      rw [this]; rfl
    · rw [if_neg h]
      simp only [Sem.run_bind, hz, Result.andThen_ok, Sem.run_pure]
  simp only [Builtin.append_, h0, h1, List.getElem?_toArray, List.getElem?_cons_zero, List.getElem?_cons_succ, Sem.run_bind, qaa hu, qaa hx, qag hs, Result.andThen_ok, Sem.run_pure, if_true, Bool.not_true, Bool.false_eq_true, if_false, asInt, asIntOf, hwl, if_neg c0, hti, if_neg c4, hnat, if_neg c5, c1, c2, true_or, run_choose, Question.forced, run_askRoom, World.drew_eq, hfc, hnew, hz, newRow, run_newObj, World.alloc_eq]
  simp only [Nat.zero_add, Array.empty_append]
  rfl
theorem qi2 {P:Program} {φ:Map} {w:World} {ts:Array TypeId} {ty:TypeId} {args:List V} {args':Array Value} {h h':H} {v:V} (e:qf7 P ts args h = some (v, h')) (hh:h'.Holds) (ha:VRels φ args args'.toList) (hr:HRel φ h w) :
    h.Holds ∧ ∃ φ' w' r, (Builtin.append_ ts ty args').run P w = .ok r w' ∧ VRel φ' v r ∧ Goes φ h w φ' h' w':=by
  unfold qf7 at e
  split at e
  · rename_i t xt kk l h0 h1
    obtain ⟨args'⟩:=args'
    cases ha with
    | @cons _ s' _ _ hs ha =>
      cases ha with
      | @cons _ x' _ _ hx ha =>
        cases ha
        split at e
        · rename_i elem k hu hux
          split at e
          · rename_i size i hsz hi
            split at e
            · rename_i zs h2 hz ht
              have hh2:h2.Holds:=by cases e; exact hh
              obtain ⟨q1, q2, q3⟩:=H.test_holds ht hh2
              simp only [Bool.and_eq_true, decide_eq_true_eq] at q2
              obtain ⟨⟨b1, b2⟩, b3⟩:=q2
              refine ⟨q1, ?_⟩
              cases hx
              cases hs with
              | slNil _ hc =>
                have hc0:=(hc 0 rfl).symm
                have hs2:h.Same h2:=q3
                have h48:(2:Nat) ^ 48 = 281474976710656:=by decide
                have h48i:(2:Int) ^ 48 = 281474976710656:=by decide
                obtain ⟨z, rz, vz, lz⟩:=qa6 (φ:=φ) hz w.drew
                have hzs:z.cells.size = size:=by have:=vz.length; simp at this; omega
                have hbn:(2 * l.toNat + 192) * i.bytes ≤ 2 ^ 48:=by
                  have:(((2 * l.toNat + 192) * i.bytes:Nat):Int) = (2 * l + 192) * (i.bytes:Int):=by
                    have:((l.toNat:Nat):Int) = l:=by omega
                    simp [this]
                  omega
                obtain ⟨nc, hnc, hrun⟩:=qfP (P:=P) (w:=w) (ty:=ty) (kk:=kk) (l:=l) (n:=l.toNat) h0 h1 hu hux hsz hi (by omega) (by omega) hc0 hbn (by omega) rz hzs
                have vzero:=qg1 vz lz l.toNat
                have hA:(Builtin.zeroCells z.cells l.toNat).size = l.toNat * size:=by rw [qaX, hzs]
                have hrow:∀ (r:Rows), (∀ i row, r.get i = some row → i < l.toNat ∧ row = zs) → RowsIn φ size r (Builtin.zeroCells z.cells l.toNat++Builtin.zeroCells z.cells (nc - l.toNat)):=by
                  intro r hget i row hrow
                  obtain ⟨hi, rfl⟩:=hget i row hrow
                  refine ⟨lz, fun o u hu=>?_⟩
                  have ho:o < size:=by
                    rcases Nat.lt_or_ge o row.length with h | h
                    · omega
                    · rw [List.getElem?_eq_none h] at hu; cases hu
                  have hle:(i + 1) * size ≤ l.toNat * size:=Nat.mul_le_mul_right size hi
                  rw [Nat.add_mul] at hle
                  have hfl:((List.replicate l.toNat row).flatten)[i * size + o]? = some u:=by
                    rw [qaF row _ _ (by rw [lz]; omega), lz, Nat.mul_comm i size, Nat.mul_add_mod, Nat.mod_eq_of_lt ho]; exact hu
                  obtain ⟨x, hx, hvx⟩:=vzero.get _ _ hfl
                  refine ⟨x, ?_, hvx⟩
                  rw [Array.getElem?_append_left (by rw [hA]; omega), ← Array.getElem?_toList]
                  unfold Builtin.zeroCells
                  rw [show l.toNat * z.cells.size = l.toNat * size by rw [hzs]]
                  exact hx
                have hfn:RowsIn φ size (.fn l.toNat (fun _=>zs)) (Builtin.zeroCells z.cells l.toNat++Builtin.zeroCells z.cells (nc - l.toNat)):=by
                  refine hrow _ fun i row hg=>?_
                  simp only [Rows.get] at hg
                  split at hg
                  · cases hg; exact ⟨by assumption, rfl⟩
                  · cases hg
                have hrows:RowsIn φ size (qcy P elem l.toNat zs h2.ask) (Builtin.zeroCells z.cells l.toNat++Builtin.zeroCells z.cells (nc - l.toNat)):=by
                  unfold qcy
                  split
                  · refine hrow _ fun i row hg=>?_
                    simp only [Rows.get] at hg
                    rw [List.getElem?_replicate] at hg
                    split at hg
                    · cases hg; exact ⟨by assumption, rfl⟩
                    · cases hg
                  · split
                    · exact hfn
                    · split
                      · exact hfn
                      · rename_i t _ d hd
                        refine hfn.typed fun i d' hi=>?_
                        rw [List.getElem?_replicate] at hi
                        split at hi
                        · rename_i hlt
                          cases hi
                          exact ⟨zs, if_pos hlt, hd⟩
                        · cases hi
                cases e
                have g1:Goes φ h w φ h2 w.drew:=(Goes.of_same hr hs2 rfl rfl rfl rfl).trans (Goes.drew (hr.same hs2))
                obtain ⟨g, hk⟩:=Goes.push g1.rel (w':=w.drew.alloc (.cells (Builtin.zeroCells z.cells l.toNat++Builtin.zeroCells z.cells (nc - l.toNat)) elem)) (.box size (qcy P elem l.toNat zs h2.ask)) _ (nc * size, 0) rfl rfl rfl rfl
                  ⟨by rw [qa2]; exact hrows, by rw [Array.size_append, qaX, qaX, hzs, ← Nat.add_mul]; congr 1; omega, fun _=>⟨rfl, rfl⟩⟩
                refine ⟨_, _, _, hrun, ?_, g1.trans g⟩
                have:(⟨w.heap.size, 0, none⟩:Addr) = (⟨h2.next, size, 0, 0⟩:VA).real (w.drew.heap.size, nc * size, 0):=by simp [VA.real]
                rw [this]
                exact .sl _ _ _ _ _ hk hnc (fun c e=>by cases e) (fun _=>⟨rfl, by simp⟩)
            · cases e
          · cases e
        · cases e
  · cases e
def qdg (P:Program) (bx:Bool) (ts:Array TypeId) (args:List V) (h:H):Option (V×H) :=
  match qha P bx ts args h with
  | some r=>some r
  | none=>qf7 P ts args h
theorem qjQ {P:Program} {bx:Bool} {φ:Map} {w:World} {ts:Array TypeId} {ty:TypeId} {args:List V} {args':Array Value} {h h':H} {v:V} (e:qdg P bx ts args h = some (v, h')) (hh:h'.Holds) (ha:VRels φ args args'.toList) (hr:HRel φ h w) :
    h.Holds ∧ ∃ φ' w' r, (Builtin.append_ ts ty args').run P w = .ok r w' ∧ VRel φ' v r ∧ Goes φ h w φ' h' w':=by
  unfold qdg at e
  split at e
  · rename_i r hb
    cases e
    exact qj8 hb hh ha hr
  · exact qi2 e hh ha hr
def qbl (P:Program) (t:TypeId) (a x:V) (h:H):Option H :=
  match a, cellsOf x, qal P t with
  | .ptr (some a), some cs, some n=>match Nat.beq cs.length n with
    | true=>qdA h a cs
    | false=>none
  | _, _, _=>none
def vmem (P:Program) (op:Op) (ρ:Operand → V) (h:H):Option (V×H) :=
  match op with
  | .alloc t=>match zeroOf P t with
    | some z=>vbox z h
    | none=>none
  | .box _ x=>vbox (ρ x) h
  | .buildSlice t len parts=>qo1 P t (qbu P t len (parts.toList.map fun x=>(x.1, ρ x.2)) h)
  | .load t a=>qaT P t (ρ a) h
  | .store t a x=>match qbl P t (ρ a) (ρ x) h with
    | some h=>some (.bot, h)
    | none=>none
  | .makeSlice t l c=>qd8 P t (ρ l) (ρ c) h
  | .call { callee:=.builtin .append, args, argTypes }=>qdg P (bxOf args h) argTypes (args.toList.map ρ) h
  | .call { callee:=.builtin .copy, args, argTypes }=>qkO P argTypes (args.toList.map ρ) h
  | .makeMap t r=>match r with
    | none=>qd4 P t h
    | some x=>match ρ x with
      | .int _ _=>qd4 P t h
      | _=>none
  | .lookup t m x ok=>qiE P t (ρ m) (ρ x) ok h
  | .mapUpdate t m x y=>qch P t (ρ m) (ρ x) (ρ y) h
  | .insert t m x y=>qch P t (ρ m) (ρ x) (ρ y) h
  | _=>none
def qhi (P:Program) (op:Op) (ρ:Operand → V) (h:H):Option (V×H) :=
  match op with
  | .convert s d x=>qlU P s d (ρ x) h
  | .call { callee:=.builtin .len, args, argTypes }=>qh5 P argTypes (args.toList.map ρ) h
  | .call { callee:=.builtin .delete, args, argTypes }=>qiP P argTypes (args.toList.map ρ) h
  | .lookup t m x ok=>qfS P t (ρ m) (ρ x) ok h
  | .range t x=>qh3 P t (ρ x) h
  | .next x s=>qlT (ρ x) s h
  | .entry x=>qic (ρ x) h
  | _=>none
def qq4 (φ:Map) (v:V):Next → Prop
  | .value r=>VRel φ v r
  | .skip=>v = .bot
  | _=>False
theorem qpf {P:Program} {φ:Map} {w:World} {o:Oper} {ρ:Operand → V} {ρ':Operand → Value} {h h':H} {v:V} (e:vmem P o.op ρ h = some (v, h')) (hh:h'.Holds) (hρ:∀ x, VRel φ (ρ x) (ρ' x)) (hr:HRel φ h w) :
    h.Holds ∧ ∃ φ' w' n, (execOp ρ' o).run P w = .ok n w' ∧ qq4 φ' v n ∧ Goes φ h w φ' h' w':=by
  obtain ⟨dst, op, ty, pos, after, guard⟩:=o
  have said:∀ {a b:H}, b.said = a.said → b.Holds → a.Holds:=fun e hb p hp=>hb p (by rw [e]; exact hp)
  simp only [vmem] at e
  split at e
  · rename_i t
    split at e
    · rename_i z hz
      obtain ⟨z', rz, vz⟩:=qci (φ:=φ) (w:=w) hz
      obtain ⟨q, φ', w', a, hrun, hv, g⟩:=qll (P:=P) (elem:=t) e vz hr
      refine ⟨said q hh, φ', w', .value (.pointer (some a)), ?_, hv, g⟩
      simp only [execOp, Instr.alloc, Sem.run_bind, rz, Result.andThen_ok, hrun, Sem.run_pure]
    · cases e
  · rename_i t x
    obtain ⟨q, φ', w', a, hrun, hv, g⟩:=qll (P:=P) (elem:=t) e (hρ x) hr
    refine ⟨said q hh, φ', w', .value (.pointer (some a)), ?_, hv, g⟩
    simp only [execOp, Instr.box, Sem.run_bind, hrun, Result.andThen_ok, Sem.run_pure]
  · rename_i t len parts
    obtain ⟨q, φ', w', r, hrun, hv, g⟩:=qn7 (P:=P) (parts':=parts.map fun x=>(x.1, ρ' x.2)) e hh (by simp [List.map_map, Function.comp_def])
      (by simpa [List.map_map, Function.comp_def] using qaW hρ (parts.toList.map (·.2))) hr
    refine ⟨q, φ', w', .value r, ?_, hv, g⟩
    simp only [execOp, Sem.run_bind, hrun, Result.andThen_ok, Sem.run_pure]
  · rename_i t a
    obtain ⟨hu, q, qs⟩:=qi5 e hh
    obtain ⟨r, hrun, hv⟩:=qjt hu (hρ a) hr
    exact ⟨q, φ, w, .value r, by simp only [execOp, Sem.run_bind, hrun, Result.andThen_ok, Sem.run_pure], hv, Goes.of_same hr qs rfl rfl rfl rfl⟩
  · rename_i t a x
    split at e
    · rename_i h2 hs
      cases e
      unfold qbl at hs
      split at hs
      · rename_i va cs n ha hcs hn
        split at hs
        · rename_i hl
          have hl':=Nat.eq_of_beq_eq_true hl
          have har:=hρ a
          rw [ha] at har
          generalize haa:ρ' a = ra at har
          cases har with
          | ptr _ k hk =>
            have hvc:=qbN (hρ x) hcs
            obtain ⟨q, w', hrun, g⟩:=qmJ (P:=P) hs hh hr hk hvc
            refine ⟨q, φ, w', .skip, ?_, rfl, g⟩
            have hsz:¬ (ρ' x).cells.size ≠ n:=by have:=hvc.length; simp at this; omega
            simp only [execOp, haa, Instr.storeAt, Instr.sureAddr, storeVar, Sem.run_bind, Sem.run_pure, Result.andThen_ok, qag hn, if_neg hsz, hrun]
        · cases hs
      · cases hs
    · cases e
  · rename_i t l c
    obtain ⟨q, φ', w', r, hrun, hv, g⟩:=qhb (P:=P) e hh (hρ l) (hρ c) hr
    exact ⟨q, φ', w', .value r, by simp only [execOp, Sem.run_bind, hrun, Result.andThen_ok, Sem.run_pure], hv, g⟩
  · rename_i args ts
    obtain ⟨q, φ', w', r, hrun, hv, g⟩:=qjQ (P:=P) (ty:=ty) (args':=args.map ρ') e hh (by simpa using qaW hρ args.toList) hr
    exact ⟨q, φ', w', .value r, by simp only [execOp, resolve, invoke, builtin, Sem.run_bind, hrun, Result.andThen_ok, Sem.run_pure], hv, g⟩
  · rename_i args ts
    obtain ⟨q, w', r, hrun, hv, g⟩:=qnK (P:=P) (ty:=ty) (args':=args.map ρ') e hh (by simpa using qaW hρ args.toList) hr
    exact ⟨q, φ, w', .value r, by simp only [execOp, resolve, invoke, builtin, Sem.run_bind, hrun, Result.andThen_ok, Sem.run_pure], hv, g⟩
  · rename_i t r
    split at e
    · obtain ⟨q, φ', w', x, hrun, hv, g⟩:=qfv (P:=P) (r:=none) (fun _ e=>by cases e) e hr
      exact ⟨said q hh, φ', w', .value x, by simp only [execOp, Option.map_none, Sem.run_bind, hrun, Result.andThen_ok, Sem.run_pure], hv, g⟩
    · rename_i x
      split at e
      · rename_i k n hx
        have hxr:=hρ x
        rw [hx] at hxr
        generalize hxa:ρ' x = rx at hxr
        cases hxr with
        | int _ _ =>
          obtain ⟨q, φ', w', x, hrun, hv, g⟩:=qfv (P:=P) (r:=some (.int k n)) (fun _ e=>⟨k, n, by cases e; rfl⟩) e hr
          exact ⟨said q hh, φ', w', .value x, by simp only [execOp, Option.map_some, hxa, Sem.run_bind, hrun, Result.andThen_ok, Sem.run_pure], hv, g⟩
      · cases e
  · rename_i t m x ok
    obtain ⟨rfl, r, hrun, hv⟩:=qkh (P:=P) e (hρ m) (hρ x) hr
    exact ⟨hh, φ, w, .value r, by simp only [execOp, Sem.run_bind, hrun, Result.andThen_ok, Sem.run_pure], hv, Goes.refl hr⟩
  · rename_i t m x y
    obtain ⟨rfl, q, w', hrun, g⟩:=qeg (P:=P) e (hρ m) (hρ x) (hρ y) hr
    exact ⟨said q hh, φ, w', .skip, by simp only [execOp, Sem.run_bind, hrun, Result.andThen_ok, Sem.run_pure], rfl, g⟩
  · rename_i t m x y
    obtain ⟨rfl, q, w', hrun, g⟩:=qeg (P:=P) e (hρ m) (hρ x) (hρ y) hr
    exact ⟨said q hh, φ, w', .skip, by simp only [execOp, Sem.run_bind, hrun, Result.andThen_ok, Sem.run_pure], rfl, g⟩
  · cases e
theorem qmV {P:Program} {φ:Map} {w:World} {o:Oper} {ρ:Operand → V} {ρ':Operand → Value} {h h':H} {v:V} (e:qhi P o.op ρ h = some (v, h')) (hh:h'.Holds) (hρ:∀ x, VRel φ (ρ x) (ρ' x)) (hr:HRel φ h w) :
    h.Holds ∧ ∃ φ' w' r, (execOp ρ' o).run P w = .ok (.value r) w' ∧ VRel φ' v r ∧ Goes φ h w φ' h' w':=by
  obtain ⟨dst, op, ty, pos, after, guard⟩:=o
  have said:∀ {a b:H}, b.said = a.said → b.Holds → a.Holds:=fun e hb p hp=>hb p (by rw [e]; exact hp)
  simp only [qhi] at e
  split at e
  · rename_i s d x
    obtain ⟨q, φ', w', r, hrun, hv, g⟩:=qmn (P:=P) e (hρ x) hr
    exact ⟨by rw [← q]; exact hh, φ', w', r, by simp only [execOp, Sem.run_bind, hrun, Result.andThen_ok, Sem.run_pure], hv, g⟩
  · rename_i args ts
    obtain ⟨rfl, r, hrun, hv⟩:=qkx (P:=P) (ty:=ty) (args':=args.map ρ') e (by simpa using qaW hρ args.toList) hr
    exact ⟨hh, φ, w, r, by simp only [execOp, resolve, invoke, builtin, Sem.run_bind, hrun, Result.andThen_ok, Sem.run_pure], hv, Goes.refl hr⟩
  · rename_i args ts
    obtain ⟨q, w', r, hrun, hv, g⟩:=qkT (P:=P) (ty:=ty) (args':=args.map ρ') e (by simpa using qaW hρ args.toList) hr
    exact ⟨said q hh, φ, w', r, by simp only [execOp, resolve, invoke, builtin, Sem.run_bind, hrun, Result.andThen_ok, Sem.run_pure], hv, g⟩
  · rename_i t m x ok
    obtain ⟨rfl, r, hrun, hv⟩:=qjS (P:=P) e (hρ m) (hρ x) hr
    exact ⟨hh, φ, w, r, by simp only [execOp, Sem.run_bind, hrun, Result.andThen_ok, Sem.run_pure], hv, Goes.refl hr⟩
  · rename_i t x
    obtain ⟨q, φ', w', r, hrun, hv, g⟩:=qkG (P:=P) e (hρ x) hr
    exact ⟨said q hh, φ', w', r, by simp only [execOp, Sem.run_bind, hrun, Result.andThen_ok, Sem.run_pure], hv, g⟩
  · rename_i x s
    obtain ⟨q, w', r, hrun, hv, g⟩:=qmj (P:=P) (ty:=ty) e hh (hρ x) hr
    exact ⟨q, φ, w', r, by simp only [execOp, Sem.run_bind, hrun, Result.andThen_ok, Sem.run_pure], hv, g⟩
  · rename_i x
    obtain ⟨q, s, r, hrun, hv⟩:=qk6 (P:=P) e hh (hρ x) hr
    exact ⟨q, φ, w, r, by simp only [execOp, Sem.run_bind, hrun, Result.andThen_ok, Sem.run_pure], hv, Goes.of_same hr s rfl rfl rfl rfl⟩
  · cases e
theorem qk4 {P:Program} {op:Op} {ρ:Operand → V} {h h':H} {v:V} (e:qhi P op ρ h = some (v, h')) (hh:h'.Holds):h.Holds:=by
  have said:∀ {a b:H}, b.said = a.said → b.Holds → a.Holds:=fun e hb p hp=>hb p (by rw [e]; exact hp)
  unfold qhi at e
  split at e
  · unfold qlU at e
    repeat' split at e
    all_goals first | (cases e; done) | (cases e; exact hh)
  · unfold qh5 at e
    repeat' split at e
    all_goals first | (cases e; done) | (cases e; exact hh)
  · unfold qiP at e
    repeat' split at e
    all_goals first | (cases e; done) | (cases e; exact said (by rw [H.set_eq]) hh)
  · unfold qfS at e
    repeat' split at e
    all_goals first | (cases e; done) | (cases e; exact hh)
  · unfold qh3 at e
    repeat' split at e
    all_goals first | (cases e; done) | (cases e; exact said (by rw [H.push_eq, H.set_eq]) hh) | (cases e; exact said (by rw [H.push_eq]) hh)
  · unfold qlT at e
    split at e
    · split at e
      · split at e
        · split at e
          · split at e
            · rename_i h2 ht
              have hh2:h2.Holds:=by
                split at e
                · cases e; exact hh
                · cases e; exact said (by rw [H.set_eq]) hh
                · cases e
              exact (H.test_holds ht hh2).1
            · cases e
          · cases e
        · cases e
      · cases e
    · cases e
  · unfold qic at e
    split at e
    · split at e
      · split at e
        · split at e
          · split at e
            · rename_i h1 ht1
              split at e
              · rename_i h2 ht
                cases e
                exact (H.test_holds ht1 (H.test_holds ht hh).1).1
              · cases e
            · cases e
          · cases e
        · cases e
      · cases e
    · cases e
  · cases e
end Go.Vm

/-
  What is answered to tests is only added to.
-/
namespace Go.Vm
open Go
def H.Le (h h':H):Prop:=∃ l, h'.said = l++h.said
theorem H.Le.refl (h:H):h.Le h:=⟨[], rfl⟩
theorem H.Le.trans {a b c:H} (h:a.Le b) (k:b.Le c):a.Le c:=by
  obtain ⟨l, hl⟩:=h
  obtain ⟨m, hm⟩:=k
  exact ⟨m++l, by rw [hm, hl, List.append_assoc]⟩
theorem H.Le.eq {a b:H} (h:b.said = a.said):a.Le b:=⟨[], h⟩
theorem H.Le.holds {a b:H} (h:a.Le b) (hb:b.Holds):a.Holds:=by
  obtain ⟨l, hl⟩:=h
  exact fun p hp=>hb p (by rw [hl]; simp [hp])
theorem H.test_le {h h':H} {b d:Bool} (e:h.test b = some (d, h')):h.Le h':=by
  unfold H.test at e
  split at e
  · cases e; exact .refl _
  · cases e
  · cases e; exact ⟨[(b, d)], rfl⟩
theorem qqS {P:Program} {op:BinOp} {t:TypeId} {x y:V} {h h':H} {v:V} (e:vbin P op t x y h = some (v, h')):h.Le h':=by
  unfold vbin at e
  repeat' split at e
  all_goals first
    | (cases e; done)
    | (cases e; exact .refl _)
    | (cases e; exact H.test_le ‹_›)
theorem qik {P:Program} {t:TypeId} {x y:V} {h h':H} {v:V} (e:qbb P t x y h = some (v, h')):h.Le h':=by
  unfold qbb at e
  repeat' split at e
  all_goals first
    | (cases e; done)
    | (cases e; exact H.test_le ‹_›)
theorem qol {P:Program} {t:TypeId} {x y:V} {h h':H} {v:V} (e:qeY P t x y h = some (v, h')):h.Le h':=by
  have hp:∀ {t:TypeId} {n:Nat} {cs:List V} {o:Nat} {h h':H} {v:V}, qkj P t n cs o h = some (v, h') → h.Le h':=by
    intro t n cs o h h' v e
    unfold qkj at e
    repeat' split at e
    all_goals first
      | (cases e; done)
      | (cases e; exact .refl _)
      | (cases e; exact H.test_le ‹_›)
  unfold qeY at e
  repeat' split at e
  all_goals first
    | (cases e; done)
    | (cases e; exact H.test_le ‹_›)
    | (exact (H.test_le ‹_›).trans (hp e))
theorem qdP {v:Option V} {d t n:Nat} {h h':H} (e:qcC v d t h = some (n, h')):h.Le h':=by
  unfold qcC at e
  repeat' split at e
  all_goals first
    | (cases e; done)
    | (cases e; exact .refl _)
    | (cases e; exact H.test_le ‹_›)
theorem qcX {len:Nat} {cap:Option Nat} {lo hi mx:Option V} {h h':H} {l g:Nat} {m:Option Nat} (e:qbp len cap lo hi mx h = some (l, g, m, h')):h.Le h':=by
  unfold qbp at e
  split at e
  · split at e
    · cases e
    · rename_i e1
      split at e
      · cases e
      · split at e
        · cases e
        · rename_i e2
          split at e
          · cases e
          · rename_i e3
            cases e
            exact (qdP e1).trans ((qdP e2).trans (qdP e3))
  · split at e
    · cases e
    · rename_i e1
      split at e
      · cases e
      · rename_i e2
        cases e
        exact (qdP e1).trans (qdP e2)
theorem qjl {a a':VA} {lo:Option V} {l n hg:Nat} {m:Option Nat} {h h':H} (e:qeh a lo l n m hg h = some (a', h')):h.Le h':=by
  unfold qeh at e
  repeat' split at e
  all_goals first
    | (cases e; done)
    | (cases e; exact .refl _)
    | (cases e; exact H.test_le ‹_›)
theorem qjw {mx:Option V} {m:Option Nat} {hg:Nat} {h h':H} {tip:Tip} (e:qc4 mx m hg h = some (tip, h')):h.Le h':=by
  unfold qc4 at e
  repeat' split at e
  all_goals first
    | (cases e; done)
    | (cases e; exact .refl _)
    | (cases e; exact H.test_le ‹_›)
theorem qmN {P:Program} {t:TypeId} {x:V} {lo hi mx:Option V} {h h':H} {v:V} (e:qgD P t x lo hi mx h = some (v, h')):h.Le h':=by
  unfold qgD at e
  split at e
  · split at e
    · cases e
    · split at e
      · cases e
      · rename_i e1
        split at e
        · cases e
        · rename_i e2
          cases e
          exact (qcX e1).trans (qjl e2)
  · split at e
    · cases e
    · split at e
      · cases e
      · rename_i e1
        split at e
        · cases e
        · rename_i e2
          cases e
          exact (qcX e1).trans (qjl e2)
  · split at e
    · cases e
    · split at e
      · cases e
      · rename_i e1
        cases e
        exact qcX e1
  · split at e
    · cases e
    · split at e
      · cases e
      · split at e
        · cases e
        · rename_i e1
          split at e
          · cases e
          · rename_i e2
            cases e
            exact (qcX e1).trans (qjw e2)
  · split at e
    · cases e
    · split at e
      · cases e
      · rename_i e1
        cases e
        exact qcX e1
  · cases e
theorem qf5 {P:Program} {op:Op} {ρ:Operand → V} {h h':H} {v:V} (e:qcP P op ρ h = some (v, h')):h.Le h':=by
  unfold qcP at e
  split at e
  case h_3 =>
    repeat' split at e
    all_goals first
      | (cases e; done)
      | (cases e; exact H.test_le ‹_›)
  all_goals first
    | (exact qqS e)
    | (exact qmN e)
    | (exact qik e)
    | (exact qol e)
    | (cases e; done)
    | (cases e; exact .refl _)
    | (split at e <;> first
        | (cases e; done)
        | (cases e; exact .refl _)
        | (split at e <;> first
            | (cases e; done)
            | (cases e; exact .refl _)))
theorem qdu {h h':H} {x:V} {size:Nat} {r:Rows} (e:elems h x size = some (r, h')):h.Le h':=by
  unfold elems at e
  repeat' split at e
  all_goals first
    | (obtain ⟨_, _, rfl⟩:=qd7 e; exact .refl _)
    | (cases e; done)
    | (cases e; exact .refl _)
    | (cases e; exact H.test_le ‹_›)
    | (cases e; exact (H.test_le (by assumption)).trans (H.test_le (by assumption)))
theorem qhg (s:V) (h:H):(qbg s h).said = h.said:=by
  unfold qbg; split <;> rfl
theorem qlJ {P:Program} {elem size:Nat} {s x:V} {l n:Nat} {h h':H} {v:V} (e:qi6 P elem size s x l n h = some (v, h')):h.Le h':=by
  unfold qi6 at e
  split at e
  · split at e
    · rename_i ht
      split at e
      · cases e
      · rename_i e1
        split at e
        · cases e
        · rename_i e2
          split at e
          · cases e
            exact (H.test_le ht).trans ((qdu e1).trans ((qdu e2).trans (.eq (qhg _ _))))
          · cases e
    · cases e
  · cases e
theorem qaY {P:Program} {elem size:Nat} {s x:V} {base:Option VA} {l n:Nat} {cap:Option Nat} {h h':H} {v:V} (e:qaJ P elem size s x base l cap n h = some (v, h')):h.Le h':=by
  unfold qaJ at e
  split at e
  · split at e
    · rename_i ht2
      exact (H.test_le ht2).trans (qlJ e)
    · cases e
  · split at e
    · cases e
    · split at e
      · exact qlJ e
      · cases e
theorem qcx {P:Program} {elem:TypeId} {t:Ty} {l:List t.data} {tip:Tip} {x:V} {n:Nat} {h h':H} {v:V} (e:qaG P elem t l tip x n h = some (v, h')):h.Le h':=by
  unfold qaG at e
  split at e
  · split at e
    · rename_i ht
      split at e
      · cases e
      · rename_i e1
        split at e
        · rename_i htg
          cases e
          exact (H.test_le ht).trans ((qdu e1).trans (.eq (by rw [H.push_eq]; exact (qb1 htg).1)))
        · cases e
    · cases e
  · cases e
theorem qdr {P:Program} {bx:Bool} {elem size:Nat} {s x:V} {base:Option VA} {l n:Nat} {cap:Option Nat} {h h':H} {v:V} (e:qbV P bx elem size s x base l cap n h = some (v, h')):h.Le h':=by
  unfold qbV at e
  split at e
  · exact qaY e
  · split at e
    · exact qaY e
    split at e
    · exact qaY e
    · split at e
      · exact qaY e
      · split at e
        · rename_i hr; cases e; exact qcx hr
        · exact qaY e
theorem qmZ {α:Type} {f:H → List V → Option (α×List V×List Nat×H)} (hf:∀ {h cs d r ns h'}, f h cs = some (d, r, ns, h') → h.Le h'):∀ {rows:List (List V)} {h h':H} {l:List α} {ns:List Nat}, mapH f rows h = some (l, ns, h') → h.Le h'
  | [], h, h', l, ns, e=>by cases e; exact .refl _
  | row :: rows, h, h', l, ns, e=>by
    simp only [mapH] at e
    split at e
    · rename_i e1
      split at e
      · rename_i e2
        cases e
        exact (hf e1).trans (qmZ hf e2)
      · cases e
    · cases e
theorem qfX:∀ (t:Ty) {h cs d r ns h'}, qcf t h cs = some (d, r, ns, h') → h.Le h'
  | .int k, h, cs, d, r, ns, h', e=>by
    simp only [qcf] at e
    split at e
    · split at e
      · cases e; exact .refl _
      · cases e
    · cases e
  | .bool, h, cs, d, r, ns, h', e=>by
    simp only [qcf] at e
    split at e
    · cases e; exact .refl _
    · cases e
  | .str, h, cs, d, r, ns, h', e=>by
    simp only [qcf] at e
    split at e
    · cases e; exact .refl _
    · cases e
  | .unit, h, cs, d, r, ns, h', e=>by cases e; exact .refl _
  | .pair a b, h, cs, d, r, ns, h', e=>by
    simp only [qcf] at e
    split at e
    · rename_i e1
      split at e
      · rename_i e2
        cases e
        exact (qfX a e1).trans (qfX b e2)
      · cases e
    · cases e
  | .slice t, h, cs, d, r, ns, h', e=>by
    simp only [qcf] at e
    split at e
    · split at e
      · cases e; exact .refl _
      · cases e
    · cases e; exact .refl _
    · split at e
      · cases e
      · split at e
        · rename_i e1
          split at e
          · rename_i e2
            cases e
            exact (qdu e1).trans (qmZ (fun {_ _ _ _ _ _} e=>qfX t e) e2)
          · cases e
        · rename_i e1
          split at e
          · cases e; exact qdu e1
          · cases e
        · cases e
    · cases e
theorem qhD {h h2:H} {u:Ty} {v:V} {d:List u.data} {ns:List Nat} (e:qey h u v = some (d, ns, h2)):h.Le h2:=by
  unfold qey at e
  split at e
  · split at e
    · rename_i hv
      split at e
      · cases e; exact qfX _ hv
      · cases e
    · cases e
  · cases e
theorem qeI {P:Program} {elem:TypeId} {t:Ty} {l:List t.data} {tip:Tip} {x:V} {h h':H} {v:V} (e:qck P elem t l tip x h = some (v, h')):h.Le h':=by
  unfold qck at e
  split at e
  · rename_i d ns h2 hs
    obtain ⟨r, hr⟩:=qcx e
    exact (qhD hs).trans ⟨r, by rw [hr, qbw]⟩
  · cases e
theorem qmf {P:Program} {bx:Bool} {ts:Array TypeId} {args:List V} {h h':H} {v:V} (e:qha P bx ts args h = some (v, h')):h.Le h':=by
  unfold qha at e
  split at e
  · split at e
    · split at e
      · unfold qe3 at e
        split at e
        · rename_i r1 hr1
          cases e
          unfold qdU at hr1
          repeat' split at hr1
          all_goals first
            | (cases hr1; done)
            | exact qcx hr1
            | exact qaY hr1
        unfold qd3 at e
        split at e
        · split at e
          · cases e
          · cases e; exact H.test_le ‹_›
          · rename_i ht
            refine (H.test_le ht).trans ?_
            split at e
            · exact qdr e
            · exact qdr e
            · split at e
              · rename_i r1 hr1
                cases e
                unfold qes at hr1
                split at hr1
                · cases hr1
                · split at hr1
                  · cases hr1
                  · split at hr1
                    · cases hr1
                    · exact qeI hr1
              · exact qdr e
        · split at e
          · cases e
          · split at e
            · cases e
            · cases e; exact H.test_le ‹_›
            · rename_i ht
              refine (H.test_le ht).trans ?_
              split at e
              · exact qcx e
              · exact qeI e
        · cases e
      · cases e
    · cases e
  · cases e
theorem qga {h h':H} {a:VA} {cs:List V} (e:vput h a cs = some h'):h'.said = h.said:=by
  unfold vput at e
  repeat' split at e
  all_goals first
    | (cases e; done)
    | (cases e; rfl)
theorem qke {P:Program} {bx:Bool} {ts:Array TypeId} {args:List V} {h h':H} {v:V} (e:qdg P bx ts args h = some (v, h')):h.Le h':=by
  unfold qdg at e
  split at e
  · rename_i r hb
    cases e
    exact qmf hb
  · unfold qf7 at e
    split at e
    · split at e
      · split at e
        · split at e
          · rename_i ht
            cases e
            exact (H.test_le ht).trans (.eq rfl)
          · cases e
        · cases e
      · cases e
    · cases e
theorem qhQ {c:Nat}:∀ {f k:Nat} {h h':H} {n:Nat}, qe8 c f k h = some (n, h') → h.Le h'
  | 0, _, _, _, _, e=>by cases e
  | f + 1, k, h, h', n, e=>by
    simp only [qe8] at e
    split at e
    · rename_i h1 ht; cases e; exact H.test_le ht
    · rename_i h1 ht; exact (H.test_le ht).trans (qhQ e)
    · cases e
theorem qku {h h':H} {a:VA} {e:Nat} {t:Ty} {l:List t.data} {r:Rows} {size c:Nat} (ee:qdY h a e t l r size c = some h'):h.Le h':=by
  unfold qdY at ee
  split at ee
  · cases ee
  · split at ee
    · rename_i h2 ht
      split at ee
      · cases ee
        exact (H.test_le ht).trans (.eq (by rw [H.set_eq]))
      · cases ee
    · cases ee
theorem qom {a:VA} {x:V} {size c:Nat} {h h':H} {v:V} (e:qgC a x size c h = some (v, h')):h.Le h':=by
  unfold qgC at e
  split at e
  · split at e
    · cases e
    · rename_i e1
      split at e
      · rename_i e2
        cases e
        exact (qdu e1).trans (qku e2)
      · cases e
  · split at e
    · cases e
    · rename_i e0
      split at e
      · cases e
      · rename_i e1
        split at e
        · cases e
        · split at e
          · rename_i e2
            cases e
            exact (qhQ e0).trans ((qdu e1).trans (.eq (qga e2)))
          · cases e
theorem qoQ {P:Program} {ts:Array TypeId} {args:List V} {h h':H} {v:V} (e:qkO P ts args h = some (v, h')):h.Le h':=by
  rw [qlN] at e
  split at e
  · split at e
    · split at e
      · split at e
        · cases e
        · rename_i ht
          exact (H.test_le ht).trans (qom e)
      · cases e
    · cases e
  · cases e
theorem qmd {P:Program} {t:TypeId} {o:Nat} {row:List V} {h h':H} {v:V} (e:qeu P t o row h = some (v, h')):h.Le h':=by
  have hp:∀ {h h':H}, qcN P t o row h = some (v, h') → h.Le h':=fun e=>by
    obtain ⟨_, rfl⟩:=qco e; exact .refl _
  unfold qeu at e
  split at e
  · split at e
    · split at e
      · cases e; exact H.test_le ‹_›
      · cases e
    · exact hp e
  · split at e
    · exact hp e
    · split at e
      · rename_i ht0
        split at e
        · split at e
          · rename_i ht
            cases e; exact (H.test_le ht0).trans (H.test_le ht)
          · cases e
        · exact (H.test_le ht0).trans (hp e)
      · rename_i ht0; exact (H.test_le ht0).trans (hp e)
      · cases e
theorem qgk {P:Program} {t:TypeId} {x:V} {h h':H} {v:V} (e:qaT P t x h = some (v, h')):h.Le h':=by
  unfold qaT at e
  repeat' split at e
  all_goals first
    | (cases e; done)
    | (cases e; exact .refl _)
    | (exact qmd e)
    | (cases e; exact H.test_le ‹_›)
theorem qps {h h':H} {a:VA} {cs:List V} (e:qdA h a cs = some h'):h.Le h':=by
  unfold qdA at e
  split at e
  · split at e
    · rename_i ht
      split at e
      · cases e; exact (H.test_le ht).trans (.eq (by rw [H.set_eq]))
      · cases e
    · cases e
  · split at e
    · rename_i ht
      split at e
      · split at e
        · cases e; exact (H.test_le ht).trans (.eq (by rw [H.set_eq]))
        · cases e
      · cases e
    · cases e
  · split at e
    · cases e
    · split at e
      · exact .eq (qga e)
      · split at e
        · rename_i ht
          split at e
          · cases e; exact (H.test_le ht).trans (.eq (by rw [H.set_eq]))
          · cases e
        · cases e
  · exact .eq (qga e)
theorem qeU {P:Program} {t:TypeId} {m x y:V} {h h':H} {v:V} (e:qch P t m x y h = some (v, h')):h.Le h':=by
  unfold qch at e
  repeat' split at e
  all_goals first
    | (cases e; done)
    | (cases e; exact .eq (by rw [H.set_eq]))
theorem qid {P:Program} {op:Op} {ρ:Operand → V} {h h':H} {v:V} (e:vmem P op ρ h = some (v, h')):h.Le h':=by
  unfold vmem at e
  split at e
  · split at e
    · unfold vbox at e
      split at e
      · cases e; exact .eq rfl
      · cases e
    · cases e
  · unfold vbox at e
    split at e
    · cases e; exact .eq rfl
    · cases e
  · have key:∀ {P:Program} {t:TypeId} {n:Nat} {ps:List (Nat×V)} {h h':H} {v:V}, qbu P t n ps h = some (v, h') → h.Le h':=by
      intro P t n ps h h' v e
      unfold qbu at e
      repeat' split at e
      all_goals first
        | (cases e; done)
        | (cases e; exact .eq rfl)
    unfold qo1 at e
    split at e
    · rename_i hb
      split at e
      · split at e
        · split at e
          · cases e
            exact (key hb).trans (.eq (qbw _ _))
          · exact key e
        · exact key e
      · exact key e
    · exact key e
  · exact qgk e
  · split at e
    · rename_i hs
      cases e
      unfold qbl at hs
      split at hs
      · split at hs
        · exact qps hs
        · cases hs
      · cases hs
    · cases e
  · unfold qd8 at e
    split at e
    · split at e
      · split at e
        · rename_i ht
          cases e
          exact (H.test_le ht).trans (.eq rfl)
        · cases e
      · cases e
    · cases e
  · exact qke e
  · exact qoQ e
  · have key:∀ {t:TypeId} {h h':H} {v:V}, qd4 P t h = some (v, h') → h.Le h':=by
      intro t h h' v e
      unfold qd4 at e
      repeat' split at e
      all_goals first
        | (cases e; done)
        | (cases e; exact .eq (by rw [H.push_eq]))
    split at e
    · exact key e
    · split at e
      · exact key e
      · cases e
  · unfold qiE at e
    repeat' split at e
    all_goals first
      | (cases e; done)
      | (cases e; exact .refl _)
  · exact qeU e
  · exact qeU e
  · cases e
end Go.Vm

/-
  The virtual machine: operations, calls, regions.
-/
namespace Go.Vm
open Go
structure S where
  ts:List V
  dfs:List Nat
  h:H
inductive X where
  | normal
  | exit (id:Nat)
  | ret
def X.real:X → Exit
  | .normal=>.normal
  | .exit id=>.exit id
  | .ret=>.ret
inductive Rd where
  | top (f:Nat)
  | free
  | round (l:Nat)
def Rd.l:Rd → Option Nat
  | .round l=>some l
  | _=>none
inductive Part:Code → Code → Prop
  | refl (c:Code):Part c c
  | seqL {c a b:Code} (h:Part c a):Part c (.seq a b)
  | seqR {c a b:Code} (h:Part c b):Part c (.seq a b)
  | thn {c a b:Code} {o:Operand} (h:Part c a):Part c (.cond o a b)
  | els {c a b:Code} {o:Operand} (h:Part c b):Part c (.cond o a b)
  | block {c a:Code} {id:Nat} (h:Part c a):Part c (.block id a)
  | loop {c a:Code} (h:Part c a):Part c (.loop a)
theorem Part.trans {a b:Code} (h:Part a b):∀ {c:Code}, Part b c → Part a c:=by
  intro c k
  induction k with
  | refl=>exact h
  | seqL _ ih=>exact .seqL ih
  | seqR _ ih=>exact .seqR ih
  | thn _ ih=>exact .thn ih
  | els _ ih=>exact .els ih
  | block _ ih=>exact .block ih
  | loop _ ih=>exact .loop ih
def InB (P:Program) (rd:Rd) (c:Code):Prop :=
  match rd with
  | .top f=>∃ fn b, P.funcs[f]? = some fn ∧ fn.body = some b ∧ Part c b
  | _=>True
theorem InB.sub {P:Program} {rd:Rd} {a c:Code} (h:InB P rd c) (k:Part a c):InB P rd a:=by
  cases rd with
  | top f=>obtain ⟨fn, b, h1, h2, h3⟩:=h; exact ⟨fn, b, h1, h2, k.trans h3⟩
  | _=>trivial
structure Lev where
  exec:Rd → Code → S → Option (X×S)
  call:FuncId → List V → H → Option (V×H)
  yield:Nat → List V → H → Option (V×H)
def qov (L:Lev) (op:Op) (ρ:Operand → V) (h:H):Option (V×H) :=
  match op with
  | .call { callee:=.value f, args, .. }=>match ρ f with
    | .func g first captured=>L.call g (first++args.toList.map ρ++captured) h
    | .yield l=>L.yield l (args.toList.map ρ) h
    | _=>none
  | _=>none
def qav:Op → Bool
  | .alloc _ | .box .. | .buildSlice .. | .load .. | .store .. | .makeSlice ..=>true
  | .makeMap .. | .lookup .. | .mapUpdate .. | .insert .. | .range .. | .next .. | .entry _=>true
  | .call { callee:=.builtin .append, .. }=>true
  | .call { callee:=.builtin .copy, .. }=>true
  | .call { callee:=.builtin _, .. }=>false
  | .call _=>true
  | _=>false
def qaw (L:Lev) (P:Program) (op:Op) (ρ:Operand → V) (h:H):Option (V×H) :=
  match op with
  | .call { callee:=.value _, .. }=>qov L op ρ h
  | _=>vmem P op ρ h
def qaz (L:Lev) (P:Program) (op:Op) (ρ:Operand → V) (h:H):Option (V×H) :=
  match qav op with
  | true=>qaw L P op ρ h
  | false=>qcP P op ρ h
def qh6 (L:Lev) (P:Program) (op:Op) (ρ:Operand → V) (h:H):Option (V×H) :=
  match qaz L P op ρ h with
  | some r=>some r
  | none=>qhi P op ρ h
def qlL:Op → Bool
  | .convert ..=>true
  | .call { callee:=.builtin .len, .. }=>true
  | .call { callee:=.builtin .delete, .. }=>true
  | .lookup .. | .range .. | .next .. | .entry _=>true
  | _=>false
theorem ql6 {P:Program} {op:Op} (e:qlL op = false) (ρ:Operand → V) (h:H):qhi P op ρ h = none:=by
  unfold qhi
  split
  · cases e
  · cases e
  · cases e
  · cases e
  · cases e
  · cases e
  · cases e
  · rfl
theorem ql5 {L:Lev} {P:Program} {op:Op} (e:qlL op = false) (ρ:Operand → V) (h:H):qh6 L P op ρ h = qaz L P op ρ h:=by
  unfold qh6
  rw [ql6 e]
  cases qaz L P op ρ h <;> rfl
theorem VRel.skip {φ:Map}:VRel φ (.tuple []) undef:=.tuple [] #[] .nil
def qaI (ops:Array Oper) (o:Oper) (ts:List V) (h:H):Option (Bool×H) :=
  match o.guard with
  | none=>some (true, h)
  | some (j, want)=>match (ops[j]?).bind (·.dst) with
    | none=>none
    | some d=>match getT ts d with
      | .bool b=>match h.test b with
        | some (c, h)=>some (c == want, h)
        | none=>none
      | .bot=>none
      | _=>some (false, h)
def qcV (L:Lev) (P:Program) (ops:Array Oper):List Nat → S → Option S
  | [], st=>some st
  | i :: rest, { ts, dfs, h }=>match ops[i]? with
    | none=>none
    | some o=>match qaI ops o ts h with
      | none=>none
      | some (false, h)=>qcV L P ops rest { ts:=putT ts o.dst (.tuple []), dfs:=dfs, h:=h }
      | some (true, h)=>match qh6 L P o.op (eval ts) h with
        | none=>none
        | some (v, h)=>qcV L P ops rest { ts:=putT ts o.dst v, dfs:=dfs, h:=h }
theorem qgL (L:Lev) (P:Program) (ops:Array Oper) (i:Nat) (rest:List Nat) (st:S):qcV L P ops (i :: rest) st = match ops[i]? with
    | none=>none
    | some o=>match qaI ops o st.ts st.h with
      | none=>none
      | some (false, h)=>qcV L P ops rest { st with ts:=putT st.ts o.dst (.tuple []), h:=h }
      | some (true, h)=>match qh6 L P o.op (eval st.ts) h with
        | none=>none
        | some (v, h)=>qcV L P ops rest { st with ts:=putT st.ts o.dst v, h:=h }:=by cases st; rfl
structure Wide (F:Fence):Prop where
  fn:∀ f, F.fn f
  depth:F.depth = none
theorem Wide.inRound {F:Fence} (h:Wide F) (l:Nat):Wide (F.inRound l):=⟨h.fn, h.depth⟩
def markD (k:Nat):Deferred:={ target:=.collected k, args:=#[] }
def Spent (φ:Map) (w:World) (k:Nat):Prop:=w.heap[k]? = some (.deferred (some [])) ∧ ∀ b k', φ b = some k' → k'.1 ≠ k
def MarksGo (φ:Map) (w:World):List Nat → List Deferred → Prop
  | ds, []=>ds = []
  | ds, x :: xs=>(∃ d ds' k, ds = d :: ds' ∧ φ d = some k ∧ φ.base.2 ≤ k.1 ∧ x = markD k.1 ∧ MarksGo φ w ds' xs) ∨
      (∃ k, x = markD k ∧ φ.base.2 ≤ k ∧ Spent φ w k ∧ (∀ y ∈ xs, y ≠ x) ∧ MarksGo φ w ds xs)
def MarksRel (φ:Map) (w:World) (ds:List Nat) (xs:List Deferred):Prop :=
  φ.base.2 ≤ w.heap.size ∧ ∃ ys, xs = ys++φ.base.1 ∧ MarksGo φ w ds ys
theorem Spent.goes {φ φ':Map} {h h':H} {w w':World} (hr:HRel φ h w) (g:Goes φ h w φ' h' w') {k:Nat} (s:Spent φ w k):Spent φ' w' k:=by
  obtain ⟨s1, s2⟩:=s
  have hlt:k < w.heap.size:=(Array.getElem?_eq_some_iff.1 s1).1
  refine ⟨?_, fun b k' e=>?_⟩
  · rw [g.frame k hlt (fun b k' _ e=>s2 b k' e) (fun b e _ hb he hk=>?_)]
    · exact s1
    · obtain ⟨m, h1, h2⟩:=hr.tip b hb
      rw [he] at h1; cases h1
      obtain ⟨_, cs, t, h3, _⟩:=h2 e.1 e.2.1 e.2.2 rfl
      rw [hk, s1] at h3; cases h3
  · rcases g.fresh b k' e with h1 | ⟨_, h1 | ⟨c, k2, _, h2, h3⟩⟩
    · exact s2 b k' h1
    · omega
    · rw [← h3]; exact s2 c k2 h2
theorem MarksGo.goes {φ φ':Map} {h h':H} {w w':World} (hr:HRel φ h w) (g:Goes φ h w φ' h' w'):∀ {xs:List Deferred} {ds:List Nat}, MarksGo φ w ds xs → MarksGo φ' w' ds xs
  | [], _, e=>e
  | x :: xs, ds, e=>by
    rcases e with ⟨d, ds', k, e1, e2, e3, e4, e5⟩ | ⟨k, e1, e2, e3, e4, e5⟩
    · exact .inl ⟨d, ds', k, e1, g.le _ _ e2, by rw [g.le.base]; exact e3, e4, e5.goes hr g⟩
    · exact .inr ⟨k, e1, by rw [g.le.base]; exact e2, e3.goes hr g, e4, e5.goes hr g⟩
theorem MarksRel.goes {φ φ':Map} {h h':H} {w w':World} (hr:HRel φ h w) (g:Goes φ h w φ' h' w') {ds:List Nat} {xs:List Deferred} (e:MarksRel φ w ds xs):MarksRel φ' w' ds xs:=by
  obtain ⟨e1, ys, e2, e3⟩:=e
  exact ⟨by rw [g.le.base]; exact Nat.le_trans e1 g.size, ys, by rw [g.le.base]; exact e2, e3.goes hr g⟩
def MarksNew (φ:Map):List Nat → List Deferred → Prop
  | [], []=>True
  | d :: ds, x :: xs=>(∃ k, φ d = some k ∧ φ.base.2 ≤ k.1 ∧ x = markD k.1) ∧ MarksNew φ ds xs
  | _, _=>False
theorem MarksNew.mono {φ ψ:Map} (hle:φ.le ψ):∀ {ds:List Nat} {xs:List Deferred}, MarksNew φ ds xs → MarksNew ψ ds xs
  | [], [], _=>trivial
  | _ :: _, _ :: _, ⟨⟨k, hk, hb, e⟩, h⟩=>⟨⟨k, hle _ _ hk, by rw [hle.base]; exact hb, e⟩, h.mono hle⟩
theorem MarksNew.go {φ:Map} {w:World}:∀ {ds es:List Nat} {xs ys:List Deferred}, MarksNew φ ds xs → MarksGo φ w es ys → MarksGo φ w (ds++es) (xs++ys)
  | [], _, [], _, _, k=>k
  | _ :: _, _, _ :: _, _, ⟨⟨k, hk, hb, e⟩, h⟩, g=>.inl ⟨_, _, k, rfl, hk, hb, e, h.go g⟩
theorem MarksNew.append {φ:Map} {w:World} {ds es:List Nat} {xs ys:List Deferred} (h:MarksNew φ ds xs) (k:MarksRel φ w es ys):MarksRel φ w (ds++es) (xs++ys):=by
  obtain ⟨k1, zs, k2, k3⟩:=k
  exact ⟨k1, xs++zs, by rw [k2, List.append_assoc], h.go k3⟩
def RoundRel (φ:Map):Option Nat → Option Nat → Prop
  | none, none=>True
  | some l, some r=>∃ z, φ l = some (r, z)
  | _, _=>False
theorem RoundRel.mono {φ ψ:Map} (hle:φ.le ψ) {a b:Option Nat} (h:RoundRel φ a b):RoundRel ψ a b:=by
  cases a <;> cases b <;> simp only [RoundRel] at *
  exact h.imp fun z e=>hle _ _ e
def PostCall (φ:Map) (h:H) (w:World) (v:V) (h':H):Ending → World → Prop :=
  fun e w'=>∃ φ' r, e = .returned r ∧ VRel φ' v r ∧ Goes φ h w φ' h' w'
def Post (φ:Map) (h:H) (w:World) (x:X) (st':S):Exit → Act → World → Prop :=
  fun e a' w'=>e = x.real ∧ ∃ φ', VRels φ' st'.ts a'.tmps.toList ∧ MarksRel φ' w' st'.dfs a'.defers ∧ Goes φ h w φ' st'.h w'
structure LevOk (P:Program) (L:Lev):Prop where
  exec:∀ rd c st x st', InB P rd c → L.exec rd c st = some (x, st') → st'.h.Holds → st.h.Holds ∧
    ∀ (φ:Map) (a:Act) (w:World) (F:Fence) (n:Nat), Wide F → RoundRel φ rd.l F.round → VRels φ st.ts a.tmps.toList → MarksRel φ w st.dfs a.defers → HRel φ st.h w → c.wpIn F n P (Post φ st.h w x st') a w
  call:∀ f args h v h', L.call f args h = some (v, h') → h'.Holds → h.Holds ∧
    (∀ (args':Array Value) (w:World), (callFunc f args').run P w = .ok (.enter f args') w) ∧
    ∀ (φ:Map) (args':Array Value) (w:World) (F:Fence) (n:Nat), Wide F → VRels φ args args'.toList → HRel φ h w → CallsIn F n P f args' w (PostCall φ h w v h')
  yield:∀ l args h v h', L.yield l args h = some (v, h') → h'.Holds → h.Holds ∧
    ∀ (φ:Map) (args':Array Value) (w:World) (F:Fence) (n:Nat) (k:Nat×Nat×Nat), Wide F → φ l = some k → VRels φ args args'.toList → HRel φ h w →
      ∃ f tmps assign body, (Instr.yield k.1 args').run P w = .ok (.round k.1 f tmps assign body) w ∧ RoundIn F n P k.1 f tmps assign body w (PostCall φ h w v h')
section
variable {P:Program} {L:Lev}
theorem VRels.to_append {φ:Map} {a b:List V} {x y:Array Value} (h:VRels φ a x.toList) (k:VRels φ b y.toList):VRels φ (a++b) (x++y).toList:=by
  simpa using h.append k
theorem qbU (hL:LevOk P L) {o:Oper} {st:S} {h':H} {v:V} (e:qaz L P o.op (eval st.ts) st.h = some (v, h')) (hh:h'.Holds) :
    st.h.Holds ∧ ∀ (φ:Map) (a:Act) (w:World) (F:Fence) (n:Nat), Wide F → VRels φ st.ts a.tmps.toList → HRel φ st.h w →
      ∀ (next:Act → World → Prop) (Q:Exit → Act → World → Prop), (∀ φ' r w', VRel φ' v r → Goes φ st.h w φ' h' w' → next (a.put o.dst r) w') → o.wpIn F n P a w next Q:=by
  unfold qaz at e
  split at e
  · rename_i hp
    unfold qaw at e
    split at e
    · -- a call
      rename_i f args ts hop
      have hnd:∀ c, o.op ≠ .defer c:=fun c=>by rw [hop]; simp
      rw [hop] at e
      simp only [qov] at e
      split at e
      · rename_i g first captured hf
        obtain ⟨h1, h2, h3⟩:=hL.call _ _ _ _ _ e hh
        refine ⟨h1, fun φ a w F n hF hts hr next Q hnext=>⟨fun f _=>hF.fn f, ?_⟩⟩
        have hfr:=qbd hts f
        rw [hf] at hfr
        generalize hfv:a.eval f = fv at hfr
        cases hfr with
        | func _ _ _ first' captured' hfi hca =>
          have hargs:=qaW (fun x=>qbd hts x) args.toList
          have hall:VRels φ (first++args.toList.map (eval st.ts)++captured) (first'++args.map a.eval++captured').toList:=by
            have h0:VRels φ (args.toList.map (eval st.ts)) (args.map a.eval).toList:=by simpa using hargs
            exact VRels.to_append (VRels.to_append hfi h0) hca
          have hrun:(execOp a.eval o).run P w = .ok (.enter g (first'++args.map a.eval++captured')) w:=by
            simp only [execOp, hop, resolve, hfv, Deferred.ofValue, Sem.run_bind, Sem.run_pure, Result.andThen_ok, invoke, h2]
          rw [Oper.semAt_eq _ _ _ hnd, hrun, Oper.uponIn_enter]
          refine ⟨(fun hd=>by rw [hF.depth] at hd; cases hd), ?_⟩
          refine CallsIn.mono (h3 φ _ w F (n - 1) hF hall hr) ?_
          rintro e' w' ⟨φ', r, rfl, hv, hg⟩
          exact hnext φ' r w' hv hg
      · rename_i l hf
        obtain ⟨h1, h3⟩:=hL.yield _ _ _ _ _ e hh
        refine ⟨h1, fun φ a w F n hF hts hr next Q hnext=>⟨fun f _=>hF.fn f, ?_⟩⟩
        have hfr:=qbd hts f
        rw [hf] at hfr
        generalize hfv:a.eval f = fv at hfr
        cases hfr with
        | yield _ k hk =>
          have hargs:=qaW (fun x=>qbd hts x) args.toList
          have h0:VRels φ (args.toList.map (eval st.ts)) (args.map a.eval).toList:=by simpa using hargs
          obtain ⟨f', tmps, assign, body, hy, hround⟩:=h3 φ (args.map a.eval) w F (n - 1) k hF hk h0 hr
          have hrun:(execOp a.eval o).run P w = .ok (.round k.1 f' tmps assign body) w:=by
            simp only [execOp, hop, resolve, hfv, Deferred.ofValue, Sem.run_bind, Sem.run_pure, Result.andThen_ok, invoke]
            have he:(#[]:Array Value)++args.map a.eval = args.map a.eval:=by simp
            rw [he]; exact hy
          rw [Oper.semAt_eq _ _ _ hnd, hrun, Oper.uponIn_round]
          refine ⟨(fun hd=>by rw [hF.depth] at hd; cases hd), ?_⟩
          refine RoundIn.mono hround ?_
          rintro e' w' ⟨φ', r, rfl, hv, hg⟩
          exact hnext φ' r w' hv hg
      · cases e
    · -- memory
      have hnd:∀ c, o.op ≠ .defer c:=fun c hc=>by rw [hc] at e; cases e
      have hholds:st.h.Holds:=(qid e).holds hh
      refine ⟨hholds, fun φ a w F n hF hts hr next Q hnext=>⟨fun f _=>hF.fn f, ?_⟩⟩
      obtain ⟨_, φ', w', nx, hrun, hv, hg⟩:=qpf (o:=o) e hh (fun x=>qbd hts x) hr
      rw [Oper.semAt_eq _ _ _ hnd, hrun]
      cases nx <;> first | exact hv.elim | skip
      · exact hnext φ' _ w' hv hg
      · have:v = .bot:=hv
        subst this
        exact hnext φ' undef w' (.bot _) hg
  · rename_i hp
    have hnd:∀ c, o.op ≠ .defer c:=fun c hc=>by rw [hc] at e; simp [qcP] at e
    have hholds:st.h.Holds:=(qf5 e).holds hh
    refine ⟨hholds, fun φ a w F n hF hts hr next Q hnext=>⟨fun f _=>hF.fn f, ?_⟩⟩
    obtain ⟨⟨r, hrun, hv⟩, _, hs⟩:=qgr (o:=o) e hh (fun x=>qbd hts x) w
    rw [Oper.semAt_eq _ _ _ hnd, hrun]
    exact hnext φ r w hv (Goes.of_same hr hs rfl rfl rfl rfl)
theorem qmX (hL:LevOk P L) {o:Oper} {st:S} {h':H} {v:V} (e:qh6 L P o.op (eval st.ts) st.h = some (v, h')) (hh:h'.Holds) :
    st.h.Holds ∧ ∀ (φ:Map) (a:Act) (w:World) (F:Fence) (n:Nat), Wide F → VRels φ st.ts a.tmps.toList → HRel φ st.h w →
      ∀ (next:Act → World → Prop) (Q:Exit → Act → World → Prop), (∀ φ' r w', VRel φ' v r → Goes φ st.h w φ' h' w' → next (a.put o.dst r) w') → o.wpIn F n P a w next Q:=by
  unfold qh6 at e
  split at e
  · rename_i h0
    cases e
    exact qbU hL h0 hh
  · have hnd:∀ c, o.op ≠ .defer c:=fun c hc=>by rw [hc] at e; simp [qhi] at e
    have hho:st.h.Holds:=by
      obtain ⟨dst, op, ty, pos, after, guard⟩:=o
      exact qk4 e hh
    refine ⟨hho, fun φ a w F n hF hts hr next Q hnext=>⟨fun f _=>hF.fn f, ?_⟩⟩
    obtain ⟨_, φ', w', r, hrun, hv, hg⟩:=qmV (o:=o) e hh (fun x=>qbd hts x) hr
    rw [Oper.semAt_eq _ _ _ hnd, hrun]
    exact hnext φ' r w' hv hg
end
end Go.Vm

/-
  The virtual machine: code, calls, rounds.
-/
namespace Go.Vm
open Go
theorem LetsOut.mono {Q Q':Exit → Act → World → Prop} (h:∀ e a w, Q e a w → Q' e a w) (k:LetsOut Q):LetsOut Q':=let ⟨a, w, q⟩:=k; ⟨a, w, h _ _ _ q⟩
theorem qmC {F:Fence} {n:Nat} {P:Program} {o:Oper} {a:Act} {w:World} {K K':Act → World → Prop} {Q Q':Exit → Act → World → Prop} (hK:∀ a w, K a w → K' a w) (hQ:∀ e a w, Q e a w → Q' e a w)
    (hh:o.wpIn F n P a w K Q):o.wpIn F n P a w K' Q':=by
  unfold Oper.wpIn at *
  refine ⟨hh.1, ?_⟩
  have hh:=hh.2
  generalize (o.semAt F.round a.eval).run P w = r at *
  cases r with
  | ok x w' =>
    cases x <;> simp only [Oper.uponIn] at hh ⊢ <;>
      first
        | exact hK _ _ hh
        | exact ⟨hh.1, CallsIn.mono hh.2 (fun e w'' he=>by cases e <;> first | exact hK _ _ he | exact hQ _ _ _ he | exact LetsOut.mono hQ he)⟩
        | exact ⟨hh.1, _root_.Go.RowsIn.mono hh.2 (fun _ _ he=>hK _ _ he)⟩
        | exact ⟨hh.1, RoundIn.mono hh.2 (fun e w'' he=>by cases e <;> first | exact hK _ _ he | exact hQ _ _ _ he | exact LetsOut.mono hQ he)⟩
  | halt x w'=>cases x <;> simp only [Oper.uponIn] at hh ⊢ <;> first | exact hQ _ _ _ hh | exact hh
theorem qbx {F:Fence} {n:Nat} {P:Program} {ops:Array Oper} {Q Q':Exit → Act → World → Prop} (h:∀ e a w, Q e a w → Q' e a w):∀ (l:List Nat) {a:Act} {w:World}, wpOpsIn F n P ops Q l a w → wpOpsIn F n P ops Q' l a w
  | [], _, _, hh=>h _ _ _ hh
  | i :: rest, a, w, hh=>by
    simp only [wpOpsIn] at hh ⊢
    split
    · rename_i ho; simp only [ho] at hh; exact qbx h rest hh
    · rename_i o ho
      simp only [ho] at hh
      split
      · rename_i hw
        simp only [hw, if_true] at hh
        exact qmC (fun a w k=>qbx h rest k) h hh
      · rename_i hw
        simp only [hw] at hh
        exact ⟨hh.1, qbx h rest hh.2⟩
theorem qnT {φ:Map} {ts:List V} {rs:Array Value} (h:VRels φ ts rs.toList) {d:Nat} {b:Bool} (e:getT ts d = .bool b):rs[d]? = some (.bool b):=by
  rw [qbI] at e
  split at e
  · rename_i v hv
    subst e
    obtain ⟨r, hr, hrel⟩:=h.get _ _ hv
    cases hrel
    simpa using hr
  · cases e
theorem qew {ops:Array Oper} {o:Oper} {ts:List V} {h h':H} {b:Bool} (e:qaI ops o ts h = some (b, h')) (hh:h'.Holds) :
    h.Holds ∧ h.Same h' ∧ ∀ (φ:Map) (rs:Array Value), VRels φ ts rs.toList → Region.wanted o (yielded ops rs) = b:=by
  unfold qaI at e
  split at e
  · rename_i hg
    cases e
    exact ⟨hh, H.Same.refl _, fun φ rs _=>by simp [Region.wanted, hg]⟩
  · rename_i j want hg
    split at e
    · cases e
    · rename_i d hd
      have hy:∀ rs:Array Value, yielded ops rs j = match rs[d]? with | some (.bool b)=>some b | _=>none:=by
        intro rs; simp only [yielded, hd, Option.bind_some]; rfl
      split at e
      · rename_i t ht
        split at e
        · rename_i c h2 hte
          cases e
          obtain ⟨q1, q2, q3⟩:=H.test_holds hte hh
          refine ⟨q1, q3, fun φ rs hrs=>?_⟩
          simp only [Region.wanted, hg, hy, qnT hrs ht, q2]
          cases c <;> cases want <;> rfl
        · cases e
      · cases e
      · rename_i hnb hnbot
        cases e
        refine ⟨hh, H.Same.refl _, fun φ rs hrs=>?_⟩
        simp only [Region.wanted, hg, hy]
        have hr:=qbJ hrs d
        have hne:∀ b, rs[d]? ≠ some (.bool b):=by
          intro b hb
          have hgd:rs.getD d undef = .bool b:=by rw [Array.getD_eq_getD_getElem?, hb]; rfl
          rw [hgd] at hr
          generalize getT ts d = v at hr hnb hnbot
          cases hr with
          | bot=>exact hnbot rfl
          | bool=>exact hnb _ rfl
        cases hrd:rs[d]? with
        | none=>rfl
        | some r=>cases r <;> first | rfl | exact absurd hrd (hne _)
theorem qme {ops:Array Oper} {o:Oper} {ts:List V} {h h':H} {b:Bool} (e:qaI ops o ts h = some (b, h')):h.Le h':=by
  unfold qaI at e
  repeat' split at e
  all_goals first
    | (cases e; done)
    | (cases e; exact .refl _)
    | (cases e; exact H.test_le ‹_›)
section
variable {P:Program} {L:Lev}
theorem qc9 (hL:LevOk P L) {ops:Array Oper}:∀ (l:List Nat) (st st':S), qcV L P ops l st = some st' → st'.h.Holds → st.h.Holds ∧
    ∀ (φ:Map) (a:Act) (w:World) (F:Fence) (n:Nat), Wide F → VRels φ st.ts a.tmps.toList → MarksRel φ w st.dfs a.defers → HRel φ st.h w → wpOpsIn F n P ops (Post φ st.h w .normal st') l a w
  | [], st, st', e, hh=>by
    simp only [qcV, Option.some.injEq] at e
    subst e
    exact ⟨hh, fun φ a w F n hF hts hm hr=>⟨rfl, φ, hts, hm, Goes.refl hr⟩⟩
  | i :: rest, st, st', e, hh=>by
    rw [qgL] at e
    split at e
    · cases e
    · rename_i o ho
      split at e
      · cases e
      · rename_i h1 hg
        obtain ⟨q1, q2⟩:=qc9 hL rest _ st' e hh
        obtain ⟨p1, p2, p3⟩:=qew hg q1
        refine ⟨p1, fun φ a w F n hF hts hm hr=>?_⟩
        have hw:=p3 φ a.tmps hts
        simp only [wpOpsIn, ho, hw, Bool.false_eq_true, if_false]
        refine ⟨fun f _=>hF.fn f, ?_⟩
        have:=q2 φ (a.put o.dst undef) w F n hF (qdp hts VRel.skip o.dst) (by cases o.dst <;> exact hm) (hr.same p2)
        refine qbx (Q:=_) ?_ rest this
        rintro e' a' w' ⟨he, φ', t1, t2, t3⟩
        exact ⟨he, φ', t1, t2, (Goes.of_same hr p2 rfl rfl rfl rfl).trans t3⟩
      · rename_i h1 hg
        split at e
        · cases e
        · rename_i v h2 hop
          obtain ⟨q1, q2⟩:=qc9 hL rest _ st' e hh
          obtain ⟨o1, o2⟩:=qmX hL (st:={ st with h:=h1 }) hop q1
          obtain ⟨p1, p2, p3⟩:=qew hg o1
          refine ⟨p1, fun φ a w F n hF hts hm hr=>?_⟩
          have hw:=p3 φ a.tmps hts
          simp only [wpOpsIn, ho, hw, if_true]
          refine o2 φ a w F n hF hts (hr.same p2) _ _ ?_
          intro φ' r w' hv hgo
          have:=q2 φ' (a.put o.dst r) w' F n hF (qdp (hts.mono hgo.le) hv o.dst) (by have:=hm.goes (hr.same p2) hgo; cases o.dst <;> exact this) hgo.rel
          refine qbx (Q:=_) ?_ rest this
          rintro e' a' w'' ⟨he, φ'', t1, t2, t3⟩
          exact ⟨he, φ'', t1, t2, ((Goes.of_same hr p2 rfl rfl rfl rfl).trans hgo).trans t3⟩
end
end Go.Vm
