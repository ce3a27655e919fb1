/- A machine over virtual values that stands for the model's: part 3. -/
import Derived.Test.YtlghfamfhmeedaaGreatA2
import Derived.OrdersIn
set_option linter.unusedVariables false
set_option linter.unusedSimpArgs false

/-
  Steps that may write only what was laid since a place.
-/
namespace Go.Vm
open Go
theorem ObRel.weak {φ:Map} {w:Bool} {z:Nat×Nat} {x:Ob} {o:Obj} (h:ObRel φ w z x o):ObRel φ false z x o:=by
  unfold ObRel at h ⊢
  split at h
  · exact ⟨h.1, h.2.1, fun e=>by cases e⟩
  · exact h
  · trivial
  · exact h
  · exact h
  · exact h
  · trivial
  · exact h.elim
def qbq (lim:Nat):List (Nat×Ob) → List (Nat×Ob)
  | []=>[]
  | (id, x) :: r=>match Nat.ble lim id with
    | true=>qbq lim r
    | false=>(id, x) :: r
def qbf (lim:Nat):List (Nat×Ob) → List (Nat×Ob)
  | []=>[]
  | (id, x) :: r=>match Nat.ble lim id with
    | true=>(id, x) :: qbf lim r
    | false=>[]
theorem qan (c:Nat) (x:Ob) (r:List (Nat×Ob)) (b:Nat):look ((c, x) :: r) b = if c = b then some x else if c ≤ b then none else look r b:=by
  rw [look_eq]
  by_cases h1:c = b
  · subst h1; rw [Nat.beq_refl]; simp
  · have e1:Nat.beq c b = false:=by
      cases e:Nat.beq c b with
      | false=>rfl
      | true=>exact absurd (Nat.eq_of_beq_eq_true e) h1
    rw [e1]
    by_cases h2:c ≤ b
    · rw [Nat.ble_eq_true_of_le h2]; simp [h1, h2]
    · have e2:Nat.ble c b = false:=by
        cases e:Nat.ble c b with
        | false=>rfl
        | true=>exact absurd (Nat.le_of_ble_eq_true e) h2
      rw [e2]; simp [h1, h2]
def semi (base:Nat) (h h2:H):H:=H.casesOn h fun _ ro old _ _=>H.casesOn h2 fun next _ objs ask said=>{ next:=next, ro:=ro, objs:=qbf base objs++qbq base old, ask:=ask, said:=said }
theorem qg4 (base:Nat) (h h2:H):semi base h h2 = { next:=h2.next, ro:=h.ro, objs:=qbf base h2.objs++qbq base h.objs, ask:=h2.ask, said:=h2.said }:=by cases h; cases h2; rfl
def H.upRo (h:H) (n:Nat):H:=H.casesOn h fun next _ objs ask said=>{ next:=next, ro:=n, objs:=objs, ask:=ask, said:=said }
theorem qjK {base:Nat} {m:List (Nat×Ob)} {b:Nat} (hb:b < base):∀ l:List (Nat×Ob), look (qbf base l++m) b = look m b
  | []=>rfl
  | (c, x) :: r=>by
    simp only [qbf]
    split
    · rename_i h
      have h:=Nat.le_of_ble_eq_true h
      rw [List.cons_append, qan, if_neg (by omega), if_neg (by omega)]
      exact qjK hb r
    · rfl
theorem qjT {base b:Nat} (hb:b < base):∀ l:List (Nat×Ob), look (qbq base l) b = look l b
  | []=>rfl
  | (c, x) :: r=>by
    simp only [qbq]
    split
    · rename_i h
      have h:=Nat.le_of_ble_eq_true h
      rw [qan, if_neg (by omega), if_neg (by omega)]
      exact qjT hb r
    · rfl
theorem qeC {base b:Nat} (hb:base ≤ b):∀ l:List (Nat×Ob), look (qbq base l) b = none
  | []=>rfl
  | (c, x) :: r=>by
    simp only [qbq]
    split
    · exact qeC hb r
    · rename_i h
      have hc:¬ base ≤ c:=fun h'=>by have:=Nat.ble_eq_true_of_le h'; rw [h] at this; cases this
      rw [qan, if_neg (by omega), if_pos (by omega)]
theorem qeA {base b:Nat} {m:List (Nat×Ob)} (hb:base ≤ b) (hm:look m b = none):∀ l:List (Nat×Ob), look (qbf base l++m) b = look l b
  | []=>hm
  | (c, x) :: r=>by
    simp only [qbf]
    split
    · rw [List.cons_append, qan, qan]
      split
      · rfl
      · split
        · rfl
        · exact qeA hb hm r
    · rename_i h
      have hc:¬ base ≤ c:=fun h'=>by have:=Nat.ble_eq_true_of_le h'; rw [h] at this; cases this
      rw [List.nil_append, qan, if_neg (by omega), if_pos (by omega), hm]
theorem qa1 {base b:Nat} {h h2:H} (hb:b < base):(semi base h h2).get b = h.get b:=by
  simp only [H.get, qg4]
  rw [qjK hb, qjT hb]
theorem qbX {base b:Nat} {h h2:H} (hb:base ≤ b):(semi base h h2).get b = h2.get b:=by
  simp only [H.get, qg4]
  rw [qeA hb (qeC hb _)]
theorem HRel.upRo {φ:Map} {h:H} {w:World} (hr:HRel φ h w) {n:Nat} (h1:h.ro ≤ n) (h2:n ≤ h.next):HRel φ (h.upRo n) w where
  obj:=fun b x hb hx=>by
    obtain ⟨k, o, q1, q2, q3⟩:=hr.obj b x hb hx
    refine ⟨k, o, q1, q2, ?_⟩
    show ObRel φ (Nat.ble n b) k.2 x o
    cases hn:Nat.ble n b with
    | false=>exact q3.weak
    | true =>
      have:=Nat.le_of_ble_eq_true hn
      have:Nat.ble h.ro b = true:=Nat.ble_eq_true_of_le (by omega)
      rw [this] at q3; exact q3
  inj:=fun b b' x x' k k' hx hx' hro=>hr.inj b b' x x' k k' hx hx' (Nat.le_trans h1 hro)
  dom:=hr.dom
  rle:=h2
  fz:=hr.fz
  own:=hr.own
  tip:=hr.tip
  tinj:=hr.tinj
  tdom:=hr.tdom
structure Sep (base:Nat) (φ:Map) (h:H):Prop where
  nm:∀ b x q c q', b < base → h.get b = some x → φ b = some q → base ≤ c → φ c = some q' → q'.1 ≠ q.1
  tp:∀ b e c q', b < base → h.get b = some .tip → φ.tp b = some (some e) → base ≤ c → φ c = some q' → q'.1 ≠ e.1
theorem qrx {φ:Map} {h:H} {w:World} (hr:HRel φ h w) {c:Nat} {e:Nat×Nat×Nat} (hc:h.get c = some .tip) (he:φ.tp c = some (some e)):∃ x, φ.fz e.1 = some x:=by
  obtain ⟨m, q1, q2⟩:=hr.tip c hc
  rw [he] at q1; cases q1
  obtain ⟨⟨x, hx, _⟩, _⟩:=q2 e.1 e.2.1 e.2.2 rfl
  exact ⟨x, hx⟩
theorem Goes.semi {φ φ':Map} {h h2:H} {w w':World} {base:Nat} (hr:HRel φ h w) (h1:h.ro ≤ base) (hs:Sep base φ h) (hbn:base ≤ h.next)
    (g:Goes φ (h.upRo base) w φ' h2 w'):Goes φ h w φ' (semi base h h2) w' ∧ Sep base φ' (semi base h h2):=by
  have gro:h2.ro = base:=g.ro
  have gnx:h.next ≤ h2.next:=g.next
  have hnew:=hs.nm
  have hback:∀ b q, b < base → φ' b = some q → φ b = some q:=by
    intro b q hb hq
    rcases g.fresh b q hq with e | ⟨e, _⟩
    · exact e
    · have:h.next ≤ b:=e; omega
  have htback:∀ b m, b < base → φ'.tp b = some m → φ.tp b = some m:=by
    intro b q hb hq
    rcases g.tfresh b q hq with e | ⟨e, _⟩
    · exact e
    · have:h.next ≤ b:=e; omega
  have htfz:∀ c e, h.get c = some .tip → φ.tp c = some (some e) → ∃ x, φ.fz e.1 = some x:=fun c e hc he=>qrx hr hc he
  have hnew':∀ b x q c q', b < base → h.get b = some x → φ b = some q → base ≤ c → φ' c = some q' → q'.1 ≠ q.1:=by
    intro b x q c q' hb hx hq hc hq'
    rcases g.fresh c q' hq' with e | ⟨_, e⟩
    · exact hnew b x q c q' hb hx hq hc e
    · rcases e with e | ⟨d, k', c1, c2, c3⟩
      · have:=(hr.dom b q hq).2; omega
      · rw [← c3]; exact hnew b x q d k' hb hx hq c1 c2
  have hnewt':∀ b e c q', b < base → h.get b = some .tip → φ.tp b = some (some e) → base ≤ c → φ' c = some q' → q'.1 ≠ e.1:=by
    intro b e c q' hb hx he hc hq'
    rcases g.fresh c q' hq' with e1 | ⟨_, e1⟩
    · exact hs.tp b e c q' hb hx he hc e1
    · rcases e1 with e1 | ⟨d, k', c1, c2, c3⟩
      · obtain ⟨y, hy⟩:=htfz b e hx he
        have:=hr.fdom hy; omega
      · rw [← c3]; exact hs.tp b e d k' hb hx he c1 c2
  -- blocks of old objects
  have hkeep:∀ b x q, b < base → h.get b = some x → φ b = some q → w'.heap[q.1]? = w.heap[q.1]? ∧ φ'.fz q.1 = none:=by
    intro b x q hb hx hq
    have hlt:=(hr.dom b q hq).2
    have hown:=hr.own b x q hx hq
    refine ⟨g.frame q.1 hlt (fun c k' hc hk' e=>?_) (fun c e hc htip he ee=>?_), ?_⟩
    · exact hnew b x q c k' hb hx hq hc hk' e
    · obtain ⟨y, hy⟩:=htfz c e htip he
      rw [ee, hown] at hy; cases hy
    · cases e:φ'.fz q.1 with
      | none=>rfl
      | some c =>
        exfalso
        rcases g.ffresh q.1 c e hlt with e1 | ⟨c', k', c1, c2, c3⟩ | ⟨c', e', c1, c2, c3, c4⟩
        · rw [hown] at e1; cases e1
        · exact hnew b x q c' k' hb hx hq c1 c2 c3
        · obtain ⟨y, hy⟩:=htfz c' e' c2 c3
          rw [c4, hown] at hy; cases hy
  refine ⟨{
    le:=g.le
    next:=gnx
    ro:=rfl
    fresh:=fun b k e=>by
      rcases g.fresh b k e with e | ⟨e1, e⟩
      · exact .inl e
      · refine .inr ⟨e1, e.imp id ?_⟩
        rintro ⟨c, k', c1, c2, c3⟩
        have:base ≤ c:=c1
        exact ⟨c, k', by omega, c2, c3⟩
    size:=g.size
    frame:=fun k hk a b=>g.frame k hk (fun c k' hc=>a c k' (Nat.le_trans h1 hc)) (fun c e hc=>b c e (Nat.le_trans h1 hc))
    tfresh:=fun b m e=>by
      rcases g.tfresh b m e with e | ⟨e1, e⟩
      · exact .inl e
      · refine .inr ⟨e1, fun x hx=>(e x hx).imp id ?_⟩
        rintro ⟨c, k', c1, c2, c3, c4⟩
        have:base ≤ c:=c1
        exact ⟨c, k', by omega, c2, c3, c4⟩
    tlive:=fun b m hm hb=>by
      rcases Nat.lt_or_ge b base with hlt | hge
      · rw [qa1 hlt] at hb; exact hb
      · rw [qbX hge] at hb; exact g.tlive b m hm hb
    ffresh:=fun k c e hk=>by
      rcases g.ffresh k c e hk with e | ⟨b, k', c1, c2, c3⟩ | ⟨b, e', c1, c2, c3, c4⟩
      · exact .inl e
      · exact .inr (.inl ⟨b, k', Nat.le_trans h1 c1, c2, c3⟩)
      · exact .inr (.inr ⟨b, e', Nat.le_trans h1 c1, c2, c3, c4⟩)
    os:=g.os, tape:=g.tape, output:=g.output
    rel:={
      obj:=fun b x hb hx=>by
        rcases Nat.lt_or_ge b base with hlt | hge
        · rw [qa1 hlt] at hb
          obtain ⟨k, o, q1, q2, q3⟩:=hr.obj b x hb hx
          exact ⟨k, o, g.le _ _ q1, by rw [(hkeep b x k hlt hb q1).1]; exact q2, q3.mono g.le⟩
        · rw [qbX hge] at hb
          obtain ⟨k, o, q1, q2, q3⟩:=g.rel.obj b x hb hx
          refine ⟨k, o, q1, q2, ?_⟩
          rw [gro, Nat.ble_eq_true_of_le hge] at q3
          show ObRel φ' (Nat.ble h.ro b) k.2 x o
          rw [Nat.ble_eq_true_of_le (Nat.le_trans h1 hge)]
          exact q3
      inj:=fun b b' x x' k k' hx hx' hro hne hk hk'=>by
        rcases Nat.lt_or_ge b base with hlt | hge
        · rcases Nat.lt_or_ge b' base with hlt' | hge'
          · rw [qa1 hlt] at hx
            rw [qa1 hlt'] at hx'
            exact hr.inj b b' x x' k k' hx hx' hro hne (hback _ _ hlt hk) (hback _ _ hlt' hk')
          · rw [qa1 hlt] at hx
            exact (hnew' b x k b' k' hlt hx (hback _ _ hlt hk) hge' hk').symm
        · rcases Nat.lt_or_ge b' base with hlt' | hge'
          · rw [qa1 hlt'] at hx'
            exact hnew' b' x' k' b k hlt' hx' (hback _ _ hlt' hk') hge hk
          · rw [qbX hge] at hx
            rw [qbX hge'] at hx'
            exact g.rel.inj b b' x x' k k' hx hx' (by rw [gro]; exact hge) hne hk hk'
      dom:=g.rel.dom
      rle:=Nat.le_trans hr.rle gnx
      fz:=g.rel.fz
      own:=fun b x k hb hk=>by
        rcases Nat.lt_or_ge b base with hlt | hge
        · rw [qa1 hlt] at hb
          exact (hkeep b x k hlt hb (hback _ _ hlt hk)).2
        · rw [qbX hge] at hb
          exact g.rel.own b x k hb hk
      tip:=fun b hb=>by
        rcases Nat.lt_or_ge b base with hlt | hge
        · rw [qa1 hlt] at hb
          obtain ⟨m, q1, q2⟩:=hr.tip b hb
          refine ⟨m, g.le.tp b m q1, fun blk en sz em=>?_⟩
          subst em
          obtain ⟨⟨c, hc, hcs⟩, cs, t, q5, q6⟩:=q2 blk en sz rfl
          have hlt2:blk < w.heap.size:=hr.fdom hc
          have hnm:∀ c k', base ≤ c → φ c = some k' → k'.1 ≠ blk:=fun c k' hc hk'=>hs.tp b (blk, en, sz) c k' hlt hb q1 hc hk'
          have htp:∀ c e, base ≤ c → h.get c = some .tip → φ.tp c = some (some e) → e.1 ≠ blk:=fun c e hc htip he ee =>
            hr.tinj b c (blk, en, sz) e hb htip (by omega) q1 he ee.symm
          obtain ⟨c', hc', _⟩:=g.le.fz blk c hc
          have hc2:φ.fz blk = some c':=by
            rcases g.ffresh blk c' hc' hlt2 with e | ⟨d, k', d1, d2, d3⟩ | ⟨d, e', d1, d2, d3, d4⟩
            · exact e
            · exact absurd d3 (hnm d k' d1 d2)
            · exact absurd d4 (htp d e' d1 d2 d3)
          rw [hc] at hc2; cases hc2
          refine ⟨⟨c, hc', hcs⟩, cs, t, ?_, q6⟩
          rw [g.frame blk hlt2 (fun c k' hc=>hnm c k' hc) (fun c e hc=>htp c e hc)]
          exact q5
        · rw [qbX hge] at hb
          exact g.rel.tip b hb
      tinj:=fun b b' m m' hb hb' hne hm hm'=>by
        have cross:∀ b b' m m', b < base → base ≤ b' → h.get b = some .tip → h2.get b' = some .tip → φ'.tp b = some (some m) → φ'.tp b' = some (some m') → m.1 ≠ m'.1:=by
          intro b b' m m' hlt hge hb hb' hm hm'
          have hm:=htback b _ hlt hm
          obtain ⟨y, hy⟩:=htfz b m hb hm
          have hmN:=hr.fdom hy
          rcases g.tfresh b' _ hm' with e | ⟨_, e⟩
          · exact hr.tinj b b' m m' hb (g.tlive b' _ e hb') (by omega) hm e
          · rcases e m' rfl with e | ⟨c, e', c1, c2, c3, c4⟩
            · omega
            · have hc1:base ≤ c:=c1
              rw [← c4]
              exact hr.tinj b c m e' hb c2 (by omega) hm c3
        rcases Nat.lt_or_ge b base with hlt | hge
        · rw [qa1 hlt] at hb
          rcases Nat.lt_or_ge b' base with hlt' | hge'
          · rw [qa1 hlt'] at hb'
            exact hr.tinj b b' m m' hb hb' hne (htback _ _ hlt hm) (htback _ _ hlt' hm')
          · rw [qbX hge'] at hb'
            exact cross b b' m m' hlt hge' hb hb' hm hm'
        · rw [qbX hge] at hb
          rcases Nat.lt_or_ge b' base with hlt' | hge'
          · rw [qa1 hlt'] at hb'
            exact (cross b' b m' m hlt' hge hb' hb hm' hm).symm
          · rw [qbX hge'] at hb'
            exact g.rel.tinj b b' m m' hb hb' hne hm hm'
      tdom:=g.rel.tdom } }, ⟨fun b x q c q' hb hx hq hc hq'=>by
        rw [qa1 hb] at hx
        exact hnew' b x q c q' hb hx (hback _ _ hb hq) hc hq', fun b e c q' hb hx he hc hq'=>by
        rw [qa1 hb] at hx
        exact hnewt' b e c q' hb hx (htback _ _ hb he) hc hq'⟩⟩
def qnR (lend:Option (Nat×Ob)):List (Nat×Ob) :=
  match lend with
  | some p=>[p]
  | none=>[]
def qkw (lend:Option (Nat×Ob)) (h:H):H:=H.casesOn h fun next ro _ ask said=>{ next:=next, ro:=ro, objs:=qnR lend, ask:=ask, said:=said }
def qcq (lend:Option (Nat×Ob)) (c:Nat):Bool :=
  match lend with
  | some p=>Nat.beq p.1 c
  | none=>false
def Map.lend (φ:Map) (lend:Option (Nat×Ob)):Map:={ φ with nm:=fun c=>if qcq lend c = true then φ c else none }
def qoF (lend:Option (Nat×Ob)) (h:H):Prop:=∀ p, lend = some p → h.get p.1 = some p.2 ∧ h.ro ≤ p.1 ∧ ∃ k v l, p.2 = .map k v l
def qeK (lend:Option (Nat×Ob)) (h h2:H):H :=
  match lend with
  | some p=>match h2.get p.1 with
    | some x=>(semi h.next h h2).set p.1 x
    | none=>(semi h.next h h2).kill p.1
  | none=>semi h.next h h2
theorem qce (lend:Option (Nat×Ob)) (h:H):qkw lend h = { h with objs:=qnR lend }:=by cases h; rfl
theorem qdf {lend:Option (Nat×Ob)} {h:H} {c:Nat} {y:Ob} (e:(qkw lend h).get c = some y):∃ p, lend = some p ∧ p.1 = c ∧ p.2 = y:=by
  rw [qce] at e
  have e:=qbk e
  cases lend with
  | none=>cases e
  | some p =>
    obtain ⟨b, x⟩:=p
    rcases qj5 e with ⟨h1, h2⟩ | ⟨_, h2⟩
    · exact ⟨_, rfl, h1, h2.symm⟩
    · cases h2
theorem isLent_iff {lend:Option (Nat×Ob)} {c:Nat}:qcq lend c = true ↔ ∃ p, lend = some p ∧ p.1 = c:=by
  cases lend with
  | none=>simp [qcq]
  | some p =>
    simp only [qcq, Option.some.injEq, exists_eq_left']
    exact ⟨Nat.eq_of_beq_eq_true, fun h=>by rw [h]; exact Nat.beq_refl c⟩
theorem Map.lend_some {φ:Map} {lend:Option (Nat×Ob)} {c:Nat} {q:Nat×Nat×Nat} (e:φ.lend lend c = some q):φ c = some q ∧ ∃ p, lend = some p ∧ p.1 = c:=by
  have e:(if qcq lend c = true then φ c else none) = some q:=e
  split at e
  · rename_i h; exact ⟨e, isLent_iff.1 h⟩
  · cases e
theorem Map.lend_at {φ:Map} {p:Nat×Ob}:φ.lend (some p) p.1 = φ p.1:=if_pos (by simp [qcq])
theorem HRel.lend {φ:Map} {lend:Option (Nat×Ob)} {h:H} {w:World} (hr:HRel φ h w) (ok:qoF lend h):HRel (φ.lend lend) (qkw lend h) w where
  obj:=fun b x hb hx=>by
    obtain ⟨p, hp, rfl, rfl⟩:=qdf hb
    obtain ⟨h1, h2, k, v, l, h3⟩:=ok p hp
    obtain ⟨q, o, e1, e2, e3⟩:=hr.obj p.1 p.2 h1 hx
    refine ⟨q, o, by rw [hp, Map.lend_at]; exact e1, e2, ?_⟩
    rw [h3] at e3 ⊢
    rw [qce]
    cases o <;> simp only [ObRel] at e3 ⊢
    exact e3
  inj:=fun b b' x x' k k' hb hb' _ hne=>by
    obtain ⟨p, hp, rfl, _⟩:=qdf hb
    obtain ⟨p', hp', rfl, _⟩:=qdf hb'
    rw [hp] at hp'; cases hp'
    exact absurd rfl hne
  dom:=fun b k e=>by rw [qce]; exact hr.dom b k (Map.lend_some e).1
  rle:=by rw [qce]; exact hr.rle
  fz:=hr.fz
  own:=fun b x k hb hk=>by
    obtain ⟨p, hp, rfl, rfl⟩:=qdf hb
    exact hr.own p.1 p.2 k (ok p hp).1 (Map.lend_some hk).1
  tip:=fun b hb=>by
    obtain ⟨p, hp, rfl, h2⟩:=qdf hb
    obtain ⟨_, _, k, v, l, h3⟩:=ok p hp
    rw [h3] at h2; cases h2
  tinj:=fun b b' m m' hb=>by
    obtain ⟨p, hp, rfl, h2⟩:=qdf hb
    obtain ⟨_, _, k, v, l, h3⟩:=ok p hp
    rw [h3] at h2; cases h2
  tdom:=fun b m e=>by rw [qce]; exact hr.tdom b m e
theorem qmH (lend:Option (Nat×Ob)) (h h2:H):(qeK lend h h2).next = h2.next ∧ (qeK lend h h2).ro = h.ro ∧ (qeK lend h h2).said = h2.said:=by
  unfold qeK
  split
  · split
    · rw [H.set_eq, qg4]; exact ⟨rfl, rfl, rfl⟩
    · rw [H.kill_eq, qg4]; exact ⟨rfl, rfl, rfl⟩
  · rw [qg4]; exact ⟨rfl, rfl, rfl⟩
theorem qnJ {lend:Option (Nat×Ob)} {h h2:H} (ok:qoF lend h) (hl:∀ p, lend = some p → p.1 < h.next) {c:Nat} {y:Ob} (e:(qeK lend h h2).get c = some y) :
    (h.next ≤ c ∧ h2.get c = some y) ∨ (c < h.next ∧ qcq lend c = true ∧ h2.get c = some y) ∨ (c < h.next ∧ qcq lend c = false ∧ h.get c = some y):=by
  have plain:(semi h.next h h2).get c = some y → (h.next ≤ c ∧ h2.get c = some y) ∨ (c < h.next ∧ h.get c = some y):=by
    intro e
    rcases Nat.lt_or_ge c h.next with hc | hc
    · exact .inr ⟨hc, by rw [qa1 hc] at e; exact e⟩
    · exact .inl ⟨hc, by rw [qbX hc] at e; exact e⟩
  unfold qeK at e
  split at e
  · rename_i p
    have hlt:=hl p rfl
    split at e
    · rename_i x hx
      have e0:live (if p.1 = c then (look (semi h.next h h2).objs c).map (fun _=>x) else look (semi h.next h h2).objs c) = some y:=by
        rw [← qcL]; rw [H.set_eq] at e; exact e
      split at e0
      · rename_i hpc
        cases hk:look (semi h.next h h2).objs c with
        | none=>rw [hk] at e0; cases e0
        | some u =>
          rw [hk] at e0
          have e1:live (some x) = some y:=e0
          have e2:=qbk hx
          have e3:live (some x) = some x:=qka hx e2
          rw [e3] at e1; cases e1
          subst hpc
          exact .inr (.inl ⟨hlt, isLent_iff.2 ⟨p, rfl, rfl⟩, hx⟩)
      · rename_i hpc
        rcases plain e0 with h1 | ⟨h1, h2⟩
        · exact .inl h1
        · exact .inr (.inr ⟨h1, by
            cases hi:qcq (some p) c with
            | false=>rfl
            | true=>obtain ⟨p', hp', e'⟩:=isLent_iff.1 hi; cases hp'; exact absurd e' hpc, h2⟩)
    · obtain ⟨h1, h2⟩:=H.get_kill e
      rcases plain h2 with h3 | ⟨h3, h4⟩
      · exact .inl h3
      · exact .inr (.inr ⟨h3, by
          cases hi:qcq (some p) c with
          | false=>rfl
          | true=>obtain ⟨p', hp', e'⟩:=isLent_iff.1 hi; cases hp'; exact absurd e'.symm h1, h4⟩)
  · rcases plain e with h1 | ⟨h1, h2⟩
    · exact .inl h1
    · exact .inr (.inr ⟨h1, rfl, h2⟩)
theorem Goes.lend {φ φ':Map} {lend:Option (Nat×Ob)} {h h2:H} {w w':World} (hr:HRel φ h w) (ok:qoF lend h) (g:Goes (φ.lend lend) (qkw lend h) w φ' h2 w') :
    ∃ ψ:Map, φ'.le ψ ∧ Goes φ h w ψ (qeK lend h h2) w':=by
  have gnx:h.next ≤ h2.next:=by have:=g.next; rw [qce] at this; exact this
  have gro:h2.ro = h.ro:=by have:=g.ro; rw [qce] at this; exact this
  have hlt:∀ p, lend = some p → p.1 < h.next:=fun p hp=>hr.lt (ok p hp).1
  have notip:∀ b, (qkw lend h).get b = some .tip → False:=by
    intro b hb
    obtain ⟨p, hp, rfl, h2⟩:=qdf hb
    obtain ⟨_, _, k, v, l, h3⟩:=ok p hp
    rw [h3] at h2; cases h2
  have hnx:(qkw lend h).next = h.next:=by rw [qce]
  have hro:(qkw lend h).ro = h.ro:=by rw [qce]
  -- names
  have hback:∀ c q, c < h.next → φ' c = some q → φ c = some q ∧ ∃ p, lend = some p ∧ p.1 = c:=by
    intro c q hc hq
    rcases g.fresh c q hq with e | ⟨e, _⟩
    · exact Map.lend_some e
    · rw [hnx] at e; omega
  have hkeepn:∀ p q, lend = some p → φ p.1 = some q → φ' p.1 = some q:=fun p q hp hq=>g.le _ _ (by rw [hp, Map.lend_at]; exact hq)
  have htback:∀ c m, c < h.next → φ'.tp c = some m → φ.tp c = some m:=by
    intro c m hc hm
    rcases g.tfresh c m hm with e | ⟨e, _⟩
    · exact e
    · rw [hnx] at e; omega
  -- blocks
  have hblk:∀ k, k < w.heap.size → (∀ p q, lend = some p → φ p.1 = some q → q.1 ≠ k) → w'.heap[k]? = w.heap[k]?:=by
    intro k hk hn
    refine g.frame k hk (fun b k' _ hb=>?_) (fun b e _ hb=>(notip b hb).elim)
    obtain ⟨h1, p, hp, rfl⟩:=Map.lend_some hb
    exact hn p k' hp h1
  have hfz:∀ k c, k < w.heap.size → φ'.fz k = some c → (∀ p q, lend = some p → φ p.1 = some q → q.1 ≠ k) → φ.fz k = some c:=by
    intro k c hk hc hn
    rcases g.ffresh k c hc hk with e | ⟨b, k', c1, c2, c3⟩ | ⟨b, e', c1, c2, _⟩
    · exact e
    · obtain ⟨h1, p, hp, rfl⟩:=Map.lend_some c2
      exact absurd c3 (hn p k' hp h1)
    · exact (notip b c2).elim
  have hother:∀ c x k, h.get c = some x → qcq lend c = false → φ c = some k → ∀ p q, lend = some p → φ p.1 = some q → q.1 ≠ k.1:=by
    intro c x k hc hl hk p q hp hq
    obtain ⟨h1, h2, _⟩:=ok p hp
    refine hr.inj p.1 c _ x q k h1 hc h2 (fun e=>?_) hq hk
    have:qcq lend c = true:=isLent_iff.2 ⟨p, hp, e⟩
    rw [this] at hl; cases hl
  have htipb:∀ c blk en sz, h.get c = some .tip → φ.tp c = some (some (blk, en, sz)) → ∀ p q, lend = some p → φ p.1 = some q → q.1 ≠ blk:=by
    intro c blk en sz hc hm p q hp hq e
    obtain ⟨m', h1, h2⟩:=hr.tip c hc
    rw [hm] at h1; cases h1
    obtain ⟨⟨c0, h3, _⟩, _⟩:=h2 blk en sz rfl
    have:=hr.own p.1 p.2 q (ok p hp).1 hq
    rw [e, h3] at this; cases this
  let ψ:Map:={ φ' with nm:=fun c=>if c < h.next then φ c else φ' c }
  have hψ1:∀ c q, c < h.next → ψ c = some q → φ c = some q:=fun c q hc e=>by
    have e:(if c < h.next then φ c else φ' c) = some q:=e
    rw [if_pos hc] at e; exact e
  have hψ2:∀ c q, h.next ≤ c → ψ c = some q → φ' c = some q:=fun c q hc e=>by
    have e:(if c < h.next then φ c else φ' c) = some q:=e
    rw [if_neg (by omega)] at e; exact e
  have hψ3:∀ c q, c < h.next → φ c = some q → ψ c = some q:=fun c q hc e=>by
    show (if c < h.next then φ c else φ' c) = some q
    rw [if_pos hc]; exact e
  have le1:φ'.le ψ:=⟨fun c q hq=>by
    rcases Nat.lt_or_ge c h.next with hc | hc
    · exact hψ3 c q hc (hback c q hc hq).1
    · show (if c < h.next then φ c else φ' c) = some q
      rw [if_neg (by omega)]; exact hq, Frozen.le_refl _, fun _ _ e=>e, rfl⟩
  have le2:φ.le ψ:=⟨fun c q hq=>hψ3 c q (hr.dom c q hq).1 hq, g.le.fz, fun c m hm=>g.le.tp c m hm, g.le.base⟩
  obtain ⟨b1, b2, b3⟩:=qmH lend h h2
  have hget:∀ {c y}, (qeK lend h h2).get c = some y → (h.next ≤ c ∧ h2.get c = some y) ∨ (c < h.next ∧ qcq lend c = true ∧ h2.get c = some y) ∨ (c < h.next ∧ qcq lend c = false ∧ h.get c = some y):=fun e=>qnJ ok hlt e
  have halive:∀ c, c < h.next → qcq lend c = true → ∃ x, h.get c = some x ∧ h.ro ≤ c:=by
    intro c _ hl
    obtain ⟨p, hp, rfl⟩:=isLent_iff.1 hl
    exact ⟨p.2, (ok p hp).1, (ok p hp).2.1⟩
  refine ⟨ψ, le1, {
    le:=le2
    next:=by rw [b1]; exact gnx
    ro:=b2
    fresh:=fun c q hq=>by
      rcases Nat.lt_or_ge c h.next with hc | hc
      · exact .inl (hψ1 c q hc hq)
      · rcases g.fresh c q (hψ2 c q hc hq) with e | ⟨_, e⟩
        · exact .inl (Map.lend_some e).1
        · refine .inr ⟨hc, e.imp id ?_⟩
          rintro ⟨d, k', d1, d2, d3⟩
          exact ⟨d, k', by rw [hro] at d1; exact d1, (Map.lend_some d2).1, d3⟩
    size:=g.size
    frame:=fun k hk a _=>hblk k hk fun p q hp hq=>a p.1 q (ok p hp).2.1 hq
    tfresh:=fun c m hm=>by
      rcases g.tfresh c m hm with e | ⟨e1, e⟩
      · exact .inl e
      · refine .inr ⟨by rw [hnx] at e1; exact e1, fun x hx=>(e x hx).imp id ?_⟩
        rintro ⟨d, k', _, d2, _⟩
        exact (notip d d2).elim
    tlive:=fun c m hm hc=>by
      have hcl:=hr.tdom c m hm
      rcases hget hc with ⟨h1, _⟩ | ⟨_, h1, h2'⟩ | ⟨_, _, h1⟩
      · omega
      · exact (notip c (g.tlive c m hm h2')).elim
      · exact h1
    ffresh:=fun k c e hk=>by
      rcases g.ffresh k c e hk with e | ⟨b, k', c1, c2, c3⟩ | ⟨b, e', c1, c2, _⟩
      · exact .inl e
      · exact .inr (.inl ⟨b, k', by rw [hro] at c1; exact c1, (Map.lend_some c2).1, c3⟩)
      · exact (notip b c2).elim
    os:=g.os, tape:=g.tape, output:=g.output
    rel:={
      obj:=fun c x hc hx=>by
        rcases hget hc with ⟨h1, h2'⟩ | ⟨h1, h1', h2'⟩ | ⟨h1, h1', h2'⟩
        · obtain ⟨q, o, e1, e2, e3⟩:=g.rel.obj c x h2' hx
          exact ⟨q, o, le1 _ _ e1, e2, by rw [b2, ← gro]; exact e3.mono le1⟩
        · obtain ⟨q, o, e1, e2, e3⟩:=g.rel.obj c x h2' hx
          exact ⟨q, o, le1 _ _ e1, e2, by rw [b2, ← gro]; exact e3.mono le1⟩
        · obtain ⟨q, o, e1, e2, e3⟩:=hr.obj c x h2' hx
          refine ⟨q, o, le2 _ _ e1, ?_, by rw [b2]; exact e3.mono le2⟩
          rw [hblk q.1 (hr.dom c q e1).2 (fun p q' hp hq'=>hother c x q h2' h1' e1 p q' hp hq')]
          exact e2
      inj:=fun c c' x x' q q' hc hc' hcr hne hq hq'=>by
        rw [b2] at hcr
        have old:∀ {c x}, (qeK lend h h2).get c = some x → c < h.next → ∃ y, h.get c = some y:=by
          intro c x hc hlt'
          rcases hget hc with ⟨h1, _⟩ | ⟨h1, h1', _⟩ | ⟨_, _, h1⟩
          · omega
          · obtain ⟨y, hy, _⟩:=halive c h1 h1'; exact ⟨y, hy⟩
          · exact ⟨x, h1⟩
        have cross:∀ c c' x x' q q', h.next ≤ c → c' < h.next → (qeK lend h h2).get c = some x → (qeK lend h h2).get c' = some x' → ψ c = some q → ψ c' = some q' → q.1 ≠ q'.1:=by
          intro c c' x x' q q' hge hlt' hc hc' hq hq'
          have hq1:=hψ2 c q hge hq
          have hq1':=hψ1 c' q' hlt' hq'
          have hdom:=(hr.dom c' q' hq1').2
          have hcx:h2.get c = some x:=by
            rcases hget hc with ⟨_, h1⟩ | ⟨h1, _, _⟩ | ⟨h1, _, _⟩
            · exact h1
            · omega
            · omega
          rcases g.fresh c q hq1 with e | ⟨_, e | ⟨d, k', d1, d2, d3⟩⟩
          · obtain ⟨e, p, hp, he⟩:=Map.lend_some e
            have:=hlt p hp; omega
          · omega
          · obtain ⟨e, p, hp, rfl⟩:=Map.lend_some d2
            rw [← d3]
            rcases hget hc' with ⟨h1, _⟩ | ⟨_, h1', h2'⟩ | ⟨_, h1', h2'⟩
            · omega
            · obtain ⟨p', hp', rfl⟩:=isLent_iff.1 h1'
              rw [hp] at hp'; cases hp'
              rw [d3]
              exact g.rel.inj c p.1 x x' q q' hcx h2' (by rw [gro]; exact Nat.le_trans hr.rle hge) (by omega) hq1 (hkeepn p q' hp hq1')
            · exact hother c' x' q' h2' h1' hq1' p k' hp e
        rcases Nat.lt_or_ge c h.next with h1 | h1
        · rcases Nat.lt_or_ge c' h.next with h2' | h2'
          · obtain ⟨y, hy⟩:=old hc h1
            obtain ⟨y', hy'⟩:=old hc' h2'
            exact hr.inj c c' y y' q q' hy hy' hcr hne (hψ1 c q h1 hq) (hψ1 c' q' h2' hq')
          · exact (cross c' c x' x q' q h2' h1 hc' hc hq' hq).symm
        · rcases Nat.lt_or_ge c' h.next with h2' | h2'
          · exact cross c c' x x' q q' h1 h2' hc hc' hq hq'
          · have e1:h2.get c = some x:=by
              rcases hget hc with ⟨_, h3⟩ | ⟨h3, _, _⟩ | ⟨h3, _, _⟩
              · exact h3
              · omega
              · omega
            have e2:h2.get c' = some x':=by
              rcases hget hc' with ⟨_, h3⟩ | ⟨h3, _, _⟩ | ⟨h3, _, _⟩
              · exact h3
              · omega
              · omega
            exact g.rel.inj c c' x x' q q' e1 e2 (by rw [gro]; exact hcr) hne (hψ2 c q h1 hq) (hψ2 c' q' h2' hq')
      dom:=fun c q hq=>by
        rw [b1]
        rcases Nat.lt_or_ge c h.next with hc | hc
        · have:=hr.dom c q (hψ1 c q hc hq)
          have:=g.size
          exact ⟨by omega, by omega⟩
        · exact g.rel.dom c q (hψ2 c q hc hq)
      rle:=by rw [b1, b2]; exact Nat.le_trans hr.rle gnx
      fz:=g.rel.fz
      own:=fun c x q hc hq=>by
        rcases hget hc with ⟨h1, h2'⟩ | ⟨h1, h1', h2'⟩ | ⟨h1, h1', h2'⟩
        · exact g.rel.own c x q h2' (hψ2 c q h1 hq)
        · obtain ⟨p, hp, rfl⟩:=isLent_iff.1 h1'
          exact g.rel.own p.1 x q h2' (hkeepn p q hp (hψ1 _ q h1 hq))
        · have hq0:=hψ1 c q h1 hq
          have hno:=hr.own c x q h2' hq0
          cases hf:φ'.fz q.1 with
          | none=>rfl
          | some c0 =>
            have:=hfz q.1 c0 (hr.dom c q hq0).2 hf (fun p q' hp hq'=>hother c x q h2' h1' hq0 p q' hp hq')
            rw [hno] at this; cases this
      tip:=fun c hc=>by
        rcases hget hc with ⟨h1, h2'⟩ | ⟨h1, h1', h2'⟩ | ⟨h1, h1', h2'⟩
        · exact g.rel.tip c h2'
        · exact g.rel.tip c h2'
        · obtain ⟨m, e1, e2⟩:=hr.tip c h2'
          refine ⟨m, g.le.tp c m e1, fun blk en sz em=>?_⟩
          subst em
          obtain ⟨⟨c0, hc0, hcs⟩, cs, t, q5, q6⟩:=e2 blk en sz rfl
          have hlt2:blk < w.heap.size:=hr.fdom hc0
          have hne:=htipb c blk en sz h2' e1
          obtain ⟨c', hc', _⟩:=g.le.fz blk c0 hc0
          have hc2:=hfz blk c' hlt2 hc' hne
          rw [hc0] at hc2; cases hc2
          refine ⟨⟨c0, hc', hcs⟩, cs, t, ?_, q6⟩
          rw [hblk blk hlt2 hne]
          exact q5
      tinj:=fun c c' m m' hc hc' hne hm hm'=>by
        have new:∀ {c}, (qeK lend h h2).get c = some .tip → h.next ≤ c → h2.get c = some .tip:=by
          intro c hc h1
          rcases hget hc with ⟨_, h3⟩ | ⟨h3, _, _⟩ | ⟨h3, _, _⟩
          · exact h3
          · omega
          · omega
        have old:∀ {c m}, (qeK lend h h2).get c = some .tip → c < h.next → φ'.tp c = some m → h.get c = some .tip:=by
          intro c m hc h1 hm
          rcases hget hc with ⟨h3, _⟩ | ⟨_, h1', h3⟩ | ⟨_, _, h3⟩
          · omega
          · exact (notip c (g.tlive c m (htback c m h1 hm) h3)).elim
          · exact h3
        have cross:∀ c c' m m', h.next ≤ c → c' < h.next → (qeK lend h h2).get c' = some .tip → φ'.tp c = some (some m) → φ'.tp c' = some (some m') → m.1 ≠ m'.1:=by
          intro c c' m m' hge hlt' hc' hm hm'
          have ho:=old hc' hlt' hm'
          have hm0:=htback c' _ hlt' hm'
          obtain ⟨mm, e1, e2⟩:=hr.tip c' ho
          rw [hm0] at e1; cases e1
          obtain ⟨⟨c0, hc0, _⟩, _⟩:=e2 m'.1 m'.2.1 m'.2.2 rfl
          have:=hr.fdom hc0
          rcases g.tfresh c _ hm with e | ⟨_, e⟩
          · have:=hr.tdom c _ e; omega
          · rcases e m rfl with e | ⟨d, e', _, d2, _⟩
            · omega
            · exact (notip d d2).elim
        rcases Nat.lt_or_ge c h.next with h1 | h1
        · rcases Nat.lt_or_ge c' h.next with h2' | h2'
          · exact hr.tinj c c' m m' (old hc h1 hm) (old hc' h2' hm') hne (htback c _ h1 hm) (htback c' _ h2' hm')
          · exact (cross c' c m' m h2' h1 hc hm' hm).symm
        · rcases Nat.lt_or_ge c' h.next with h2' | h2'
          · exact cross c c' m m' h1 h2' hc' hm hm'
          · exact g.rel.tinj c c' m m' (new hc h1) (new hc' h2') hne hm hm'
      tdom:=fun c m hm=>by rw [b1]; exact g.rel.tdom c m hm } }⟩
end Go.Vm

/-
  The virtual machine: its levels.
-/
namespace Go.Vm
open Go
abbrev Draw:=Lev → Array Oper → S → Option S
abbrev COrc:=FuncId → List V → H → Option (V×H)
abbrev LOrc:=Nat → Nat → S → Option (X×S)
structure Orc where
  call:COrc
  loop:LOrc
def iter (L:Lev) (rd:Rd) (body:Code):Nat → S → Option (X×S)
  | 0, _=>none
  | m + 1, st=>match L.exec rd body st with
    | some (.normal, st)=>iter L rd body m st
    | r=>r
def qcK:X → Option Code
  | .normal=>none
  | .ret=>some .ret
  | .exit id=>some (.exit id)
def qn2:Option Code → Option X
  | none=>some .normal
  | some .ret=>some .ret
  | some (.exit id)=>some (.exit id)
  | _=>none
def qlv (rd:Option Nat) (ts:List V) (params:Array Tmp) (assign body:Code) (h:H):Option (Nat×List Nat×H) :=
  match rd with
  | none =>
    let h1:=h.push .deferred
    some (h1.next, [h.next], h1.push (.loop { state:=.ready, pending:=none, tmps:=ts, params, assign, body, defers:=h.next }))
  | some l=>match h.get l with
    | some (.loop r)=>some (h.next, [], h.push (.loop { state:=.ready, pending:=none, tmps:=ts, params, assign, body, defers:=r.defers }))
    | _=>none
def qrh:LoopState → Bool
  | .busy=>true
  | _=>false
def qkB:LoopState → Bool
  | .ready=>true
  | _=>false
def qfR (id:Nat) (r:Option (X×S)):Option (X×S) :=
  match r with
  | some (.exit i, st)=>match Nat.beq i id with
    | true=>some (.normal, st)
    | false=>some (.exit i, st)
  | r=>r
def qcj (orc:Orc) (rd:Rd) (id:Nat) (st:S):Option (X×S) :=
  match rd with
  | .top f=>orc.loop f id st
  | _=>none
def qas (dr:Draw) (orc:Orc) (P:Program) (L:Lev) (rd:Rd) (c:Code) (st:S):Option (X×S) :=
  match c with
  | .skip=>some (.normal, st)
  | .label _=>some (.normal, st)
  | .seq a b=>match L.exec rd a st with
    | some (.normal, st)=>L.exec rd b st
    | r=>r
  | .cond c a b=>match st with
    | { ts, dfs, h }=>match eval ts c with
      | .bool t=>match h.test t with
        | some (true, h)=>L.exec rd a { ts:=ts, dfs:=dfs, h:=h }
        | some (false, h)=>L.exec rd b { ts:=ts, dfs:=dfs, h:=h }
        | none=>none
      | _=>none
  | .block id body=>match qcj orc rd id st with
    | some r=>some r
    | none=>qfR id (L.exec rd body st)
  | .loop body=>iter L rd body 1000000 st
  | .exit id=>some (.exit id, st)
  | .ret=>some (.ret, st)
  | .region _ ops false=>match qcV L P ops (List.range ops.size) st with
    | some st=>some (.normal, st)
    | none=>none
  | .region _ ops true=>match dr L ops st with
    | some st=>some (.normal, st)
    | none=>none
  | .rangeFunc f params assign body =>
    match qlv rd.l st.ts params assign body st.h with
    | none=>none
    | some (l, ds, h)=>match eval st.ts f with
      | .func g first captured=>match L.call g (first++[.yield l]++captured) h with
        | none=>none
        | some (_, h)=>match h.get l with
          | some (.loop r)=>match qrh r.state, Nat.ble h.ro l, qn2 r.pending with
            | false, true, some x=>some (x, { st with dfs:=ds++st.dfs, h:=h.set l (.loop { r with state:=.exhausted }) })
            | _, _, _=>none
          | _=>none
      | _=>none
  | _=>none
def qc8:List Nat → H → Option H
  | [], h=>some h
  | d :: ds, h=>match h.get d with
    | some .deferred=>match Nat.ble h.ro d with
      | true=>qc8 ds (h.kill d)
      | false=>none
    | _=>none
def qcz (P:Program):List ResultVar → List V → H → Option (List V)
  | [], _, _=>some []
  | .tmp t :: rs, ts, h=>match qcz P rs ts h with
    | some vs=>some (getT ts t :: vs)
    | none=>none
  | .cell a t :: rs, ts, h=>match qiX P t (getT ts a) h, qcz P rs ts h with
    | some v, some vs=>some (v :: vs)
    | _, _=>none
def qk0:Nat → V → Bool
  | 0, _=>false
  | n + 1, v=>match v with
    | .bot | .int .. | .bool _ | .str _ | .ptr none | .sl none _ _ | .nilFunc | .nilIface=>true
    | .agg cs=>cs.all (qk0 n)
    | .tuple cs=>cs.all (qk0 n)
    | .iface _ v=>qk0 n v
    | _=>false
def qog:Nat → V → Bool
  | 0, _=>false
  | n + 1, v=>match v with
    | .bot | .int .. | .bool _ | .str _ | .ptr none | .sl .. | .nilFunc | .nilIface | .vs .. | .fp _ | .map _=>true
    | .agg cs=>cs.all (qog n)
    | .tuple cs=>cs.all (qog n)
    | .iface _ v=>qog n v
    | _=>false
def qji:Nat → V → List Nat → List Nat
  | 0, _, acc=>acc
  | n + 1, v, acc=>match v with
    | .ptr (some a)=>a.b :: acc
    | .sl (some a) _ _=>a.b :: acc
    | .agg cs=>cs.foldr (qji n) acc
    | .tuple cs=>cs.foldr (qji n) acc
    | .iface _ v=>qji n v acc
    | .func _ xs ys=>xs.foldr (qji n) (ys.foldr (qji n) acc)
    | .yield l=>l :: acc
    | .vs _ _ (.name b)=>b :: acc
    | .vs _ _ (.own b)=>b :: acc
    | .map (some b)=>b :: acc
    | _=>acc
def qkr (b:Nat):List Nat → List Nat
  | []=>[b]
  | c :: r=>match Nat.ble c b with
    | true=>b :: c :: r
    | false=>c :: qkr b r
def qmy (objs:List (Nat×Ob)) (lim:Nat):Nat → List Nat → List Nat → List Nat
  | 0, _, seen=>seen
  | n + 1, todo, seen=>match todo with
    | []=>seen
    | b :: todo=>match Nat.ble lim b && !seen.any (Nat.beq b) with
      | false=>qmy objs lim n todo seen
      | true=>match look objs b with
        | some (.box _ (.list rows))=>qmy objs lim n (rows.foldr (fun row acc=>row.foldr (qji 6) acc) todo) (qkr b seen)
        | some _=>qmy objs lim n todo (qkr b seen)
        | none=>qmy objs lim n todo seen
def qon (objs:List (Nat×Ob)) (ids:List Nat):List (Nat×Ob) :=
  ids.filterMap fun b=>(look objs b).map fun x=>(b, x)
def tidy (args:List V) (v:V) (lim:Nat) (h:H):H :=
  match args.all (qog 4) with
  | false=>h
  | true=>H.casesOn h fun next ro objs ask said=>{ next:=next, ro:=ro, objs:=qon objs (qmy objs lim 1000 (qji 6 v []) [])++qbq lim objs, ask:=ask, said:=said }
theorem qnW (args:List V) (v:V) (lim:Nat) (h:H):tidy args v lim h = match args.all (qog 4) with
    | false=>h
    | true=>{ h with objs:=qon h.objs (qmy h.objs lim 1000 (qji 6 v []) [])++qbq lim h.objs }:=by cases h; rfl
def oneOf:List V → V
  | [v]=>v
  | vs=>.tuple vs
def qkd (P:Program) (fn:Func) (args:List V) (lim:Nat) (st:S):Option (V×H) :=
  match qc8 st.dfs st.h with
  | none=>none
  | some h=>match qcz P fn.results.toList st.ts h with
    | none=>none
    | some vs=>some (oneOf vs, tidy args (oneOf vs) lim h)
def qkl (_:Program) (_:Code) (_:H) (_:List V):Option (Option (Nat×Ob)) :=
  none
def qeF (orc:Orc) (P:Program) (L:Lev) (f:FuncId) (args:List V) (h:H):Option (V×H) :=
  match orc.call f args h with
  | some r=>some r
  | none=>match P.funcs[f]? with
    | none=>none
    | some fn=>match fn.body with
      | none=>none
      | some c=>match qkl P c h args with
        | none=>match L.exec (.top f) c { ts:=args++List.replicate (fn.ntmps - args.length) .bot, dfs:=[], h:=h } with
          | some (.normal, st)=>qkd P fn args h.next st
          | some (.ret, st)=>qkd P fn args h.next st
          | _=>none
        | some _=>none
def qa7:List Tmp → List V → List V → List V
  | t :: ps, v :: vs, ts=>qa7 ps vs (ts.set t v)
  | _, _, ts=>ts
def qdQ (L:Lev) (l:Nat) (args:List V) (h:H):Option (V×H) :=
  match h.get l with
  | some (.loop r) =>
    match Nat.beq args.length r.params.size, Nat.ble h.ro l with
    | true, true=>match L.exec (.round l) r.assign { ts:=qa7 r.params.toList args r.tmps, dfs:=[], h:=h } with
      | some (.normal, st)=>match st.h.get l with
        | some (.loop r1)=>match qkB r1.state with
          | true=>match L.exec (.round l) r.body { st with h:=st.h.set l (.loop { r1 with state:=.busy }) } with
            | some (x, st3)=>match st3.h.get l with
              | some (.loop r3)=>some (.bool (qcK x).isNone, st3.h.set l (.loop { r3 with state:=if (qcK x).isNone then .ready else .done, pending:=qcK x }))
              | _=>none
            | none=>none
          | false=>none
        | _=>none
      | _=>none
    | _, _=>none
  | _=>none
def qjL (dr:Draw) (orc:Orc) (P:Program):Nat → Lev
  | 0=>{ exec:=fun _ _ _=>none, call:=fun _ _ _=>none, yield:=fun _ _ _=>none }
  | n + 1=>{ exec:=fun rd c st=>qas dr orc P (qjL dr orc P n) rd c st, call:=fun f args h=>qeF orc P (qjL dr orc P n) f args h, yield:=fun l args h=>qdQ (qjL dr orc P n) l args h }
section
variable {P:Program} {L:Lev}
theorem qeJ {F:Fence} {n:Nat} {c:Code} {φ:Map} {h:H} {w:World} {x:X} {st':S} {a:Act} {Q:Exit → Act → World → Prop} (hw:c.wpIn F n P (Post φ h w x st') a w)
    (hq:∀ φ' a' w', VRels φ' st'.ts a'.tmps.toList → MarksRel φ' w' st'.dfs a'.defers → Goes φ h w φ' st'.h w' → Q x.real a' w'):c.wpIn F n P Q a w :=
  wpIn_mono hw (by rintro e a' w' ⟨rfl, φ', h1, h2, h3⟩; exact hq φ' a' w' h1 h2 h3)
theorem qlW (hL:LevOk P L) {rd:Rd} {body:Code} (hin:InB P rd body):∀ (m:Nat) (st:S) (x:X) (st':S), iter L rd body m st = some (x, st') → st'.h.Holds → st.h.Holds ∧
    ∀ (φ:Map) (a:Act) (w:World) (F:Fence) (n:Nat), Wide F → RoundRel φ rd.l F.round → VRels φ st.ts a.tmps.toList → MarksRel φ w st.dfs a.defers → HRel φ st.h w → Code.roundsIn F n P body (Post φ st.h w x st') m a w
  | 0, _, _, _, e, _=>by cases e
  | m + 1, st, x, st', e, hh=>by
    simp only [iter] at e
    split at e
    · rename_i st1 h1
      obtain ⟨q1, q2⟩:=qlW hL hin m _ _ _ e hh
      obtain ⟨p1, p2⟩:=hL.exec _ _ _ _ _ hin h1 q1
      refine ⟨p1, fun φ a w F n hF hrd hts hm hr=>?_⟩
      rw [roundsIn_succ]
      refine qeJ (p2 φ a w F n hF hrd hts hm hr) ?_
      intro φ' a' w' t1 t2 t3
      have hrest:=q2 φ' a' w' F n hF (hrd.mono t3.le) t1 t2 t3.rel
      show Code.roundsIn F n P body _ m a' w'
      have hmono:∀ (m:Nat) (a:Act) (w0:World), Code.roundsIn F n P body (Post φ' st1.h w' x st') m a w0 → Code.roundsIn F n P body (Post φ st.h w x st') m a w0:=by
        intro m
        induction m with
        | zero=>exact fun _ _ h=>h
        | succ m ih =>
          intro a w0 h
          rw [roundsIn_succ] at h ⊢
          refine wpIn_mono h ?_
          intro e a2 w2 he
          cases e with
          | normal=>exact ih _ _ he
          | _=>obtain ⟨k1, φ'', k2, k3, k4⟩:=he; exact ⟨k1, φ'', k2, k3, t3.trans k4⟩
      exact hmono m a' w' hrest
    · rename_i hne
      obtain ⟨p1, p2⟩:=hL.exec _ _ _ _ _ hin e hh
      refine ⟨p1, fun φ a w F n hF hrd hts hm hr=>?_⟩
      rw [roundsIn_succ]
      refine wpIn_mono (p2 φ a w F n hF hrd hts hm hr) ?_
      rintro e' a' w' ⟨he, k⟩
      cases x with
      | normal=>exact absurd e (hne _)
      | exit id=>subst he; exact ⟨rfl, k⟩
      | ret=>subst he; exact ⟨rfl, k⟩
end
end Go.Vm

/-
  The virtual machine's steps stand for the model's.
-/
namespace Go.Vm
open Go
def qgW (P:Program) (dr:Draw):Prop:=∀ L, LevOk P L → ∀ ops st st', dr L ops st = some st' → st'.h.Holds → st.h.Holds ∧
  ∀ (φ:Map) (a:Act) (w:World) (F:Fence) (n id:Nat), Wide F → VRels φ st.ts a.tmps.toList → MarksRel φ w st.dfs a.defers → HRel φ st.h w → (Code.region id ops true).wpIn F n P (Post φ st.h w .normal st') a w
def COrcOk (P:Program) (orc:COrc):Prop:=∀ f args h v h', orc f args h = some (v, h') → h'.Holds → h.Holds ∧
  (∀ (args':Array Value) (w:World), (callFunc f args').run P w = .ok (.enter f args') w) ∧
  ∀ (φ:Map) (args':Array Value) (w:World) (F:Fence) (n:Nat), Wide F → VRels φ args args'.toList → HRel φ h w → CallsIn F n P f args' w (PostCall φ h w v h')
theorem COrcOk.none (P:Program):COrcOk P (fun _ _ _=>none):=fun _ _ _ _ _ e=>by cases e
def qe7 (id:Nat):Code → Prop
  | .block i _=>i = id
  | _=>False
def LOrcOk (P:Program) (lo:LOrc):Prop:=∀ f id c st x st', qe7 id c → InB P (.top f) c → lo f id st = some (x, st') → st'.h.Holds → st.h.Holds ∧
  ∀ (φ:Map) (a:Act) (w:World) (F:Fence) (n:Nat), Wide F → RoundRel φ .none F.round → VRels φ st.ts a.tmps.toList → MarksRel φ w st.dfs a.defers → HRel φ st.h w → c.wpIn F n P (Post φ st.h w x st') a w
structure OrcOk (P:Program) (orc:Orc):Prop where
  call:COrcOk P orc.call
  loop:LOrcOk P orc.loop
theorem LOrcOk.none (P:Program):LOrcOk P (fun _ _ _=>.none):=fun _ _ _ _ _ _ _ _ e=>by cases e
section
variable {P:Program} {L:Lev}
theorem Post.from {φ φ1:Map} {h h1:H} {w w1:World} (g:Goes φ h w φ1 h1 w1) {x:X} {st':S} {e:Exit} {a:Act} {w':World} (p:Post φ1 h1 w1 x st' e a w'):Post φ h w x st' e a w':=by
  obtain ⟨he, φ', k1, k2, k3⟩:=p
  exact ⟨he, φ', k1, k2, g.trans k3⟩
theorem run_getLoop {w:World} {k:Nat} {r:Loop} (h:w.heap[k]? = some (.loop r)):(Instr.getLoop k).run P w = .ok r w:=by
  simp [Instr.getLoop, getObj, Sem.run, h]
theorem run_setObj_loop {w:World} {k:Nat} {r r':Loop} (h:w.heap[k]? = some (.loop r)):(setObj k (.loop r')).run P w = .ok () { w with heap:=w.heap.setIfInBounds k (.loop r') }:=by
  simp [setObj, Sem.run, h]
theorem lt_of_heap {w:World} {k:Nat} {o:Obj} (h:w.heap[k]? = some o):k < w.heap.size:=by
  rcases Nat.lt_or_ge k w.heap.size with h' | h'
  · exact h'
  · rw [Array.getElem?_eq_none h'] at h; cases h
theorem qdN {φ:Map} {h:H} {w:World} (hr:HRel φ h w) {l:Nat} {r r2:VLoop} {k:Nat×Nat×Nat} {q q2:Loop} (hg:h.get l = some (.loop r)) (hro:h.ro ≤ l) (hk:φ l = some k) (hh:w.heap[k.1]? = some (.loop q)) (hq:LoopRel φ r2 q2) :
    Goes φ h w φ (h.set l (.loop r2)) { w with heap:=w.heap.setIfInBounds k.1 (.loop q2) }:=by
  refine Goes.write hr hg hro hk (o:=.loop q2) ?_ (by simp) ?_ rfl rfl rfl hq
  · simp [lt_of_heap hh]
  · intro j hj
    simp only [Array.getElem?_setIfInBounds]
    rw [if_neg (fun e=>hj e.symm)]
theorem qgl {φ:Map} {h:H} {w:World} (hr:HRel φ h w) {l:Nat} {r:VLoop} (hg:h.get l = some (.loop r)):∃ k q, φ l = some k ∧ w.heap[k.1]? = some (.loop q) ∧ LoopRel φ r q:=by
  obtain ⟨k, o, hk, ho, hrel⟩:=hr.obj _ _ hg (by simp)
  cases o with
  | loop q=>exact ⟨k, q, hk, ho, hrel⟩
  | _=>exact hrel.elim
theorem qhv {rd ro:Option Nat} {ts:List V} {tmps:Array Value} {ps:Array Tmp} {assign body:Code} {h h':H} {l:Nat} {ds:List Nat} (e:qlv rd ts ps assign body h = some (l, ds, h')) :
    h'.said = h.said ∧ ∀ (φ:Map) (w:World) (fn:FuncId), RoundRel φ rd ro → VRels φ ts tmps.toList → HRel φ h w → φ.base.2 ≤ w.heap.size →
      ∃ φ' w' k mark, (Instr.enterLoop fn tmps ps assign body ro).run P w = .ok (k.1, mark) w' ∧ φ' l = some k ∧ MarksNew φ' ds mark ∧ Goes φ h w φ' h' w':=by
  cases rd with
  | none =>
    simp only [qlv, Option.some.injEq, Prod.mk.injEq] at e
    obtain ⟨rfl, rfl, rfl⟩:=e
    refine ⟨rfl, fun φ w fn hrd hts hr hbs=>?_⟩
    cases ro with
    | some _=>exact hrd.elim
    | none =>
      obtain ⟨g1, k1⟩:=Goes.push hr (w':=w.alloc (.deferred (some []))) .deferred _ (0, 0) rfl rfl rfl rfl trivial
      obtain ⟨g2, k2⟩:=Goes.push g1.rel (w':=(w.alloc (.deferred (some []))).alloc (.loop { state:=.ready, pending:=none, fn, tmps, params:=ps, assign, body, defers:=w.heap.size }))
        (.loop { state:=.ready, pending:=none, tmps:=ts, params:=ps, assign, body, defers:=h.next }) _ (0, 0) rfl rfl rfl rfl
        ⟨rfl, rfl, hts.mono g1.le, rfl, rfl, rfl, ⟨(0, 0), k1⟩⟩
      refine ⟨_, _, _, [{ target:=.collected w.heap.size, args:=#[] }], ?_, k2, ⟨⟨(w.heap.size, 0, 0), g2.le _ _ k1, by rw [(g1.trans g2).le.base]; exact hbs, rfl⟩, trivial⟩, g1.trans g2⟩
      simp [Instr.enterLoop]
  | some l0 =>
    simp only [qlv] at e
    split at e
    · rename_i r hg
      cases e
      refine ⟨rfl, fun φ w fn hrd hts hr hbs=>?_⟩
      cases ro with
      | none=>exact hrd.elim
      | some r0 =>
        obtain ⟨z, hz⟩:=hrd
        obtain ⟨k, q, hk, hq, hrel⟩:=qgl hr hg
        rw [hz] at hk; cases hk
        obtain ⟨g2, k2⟩:=Goes.push hr (w':=w.alloc (.loop { state:=.ready, pending:=none, fn, tmps, params:=ps, assign, body, defers:=q.defers }))
          (.loop { state:=.ready, pending:=none, tmps:=ts, params:=ps, assign, body, defers:=r.defers }) _ (0, 0) rfl rfl rfl rfl
          ⟨rfl, rfl, hts, rfl, rfl, rfl, hrel.defers⟩
        refine ⟨_, _, _, [], ?_, k2, trivial, g2⟩
        simp [Instr.enterLoop, run_getLoop hq]
    · cases e
theorem qm5 {F:Fence} {n:Nat} {p:Option Code} {x:X} (hj:qn2 p = some x) {Q:Exit → Act → World → Prop} {a:Act} {w:World} (h:∀ e0, e0 = x.real → Q e0 a w) :
    (match (generalizing := false) p with
       | none=>Q .normal a w
       | some c=>c.wpIn F n P Q a w):=by
  unfold qn2 at hj
  split at hj <;> first | (cases hj; done) | cases hj
  · exact h _ rfl
  · exact wpIn_ret (h _ rfl)
  · exact wpIn_exit (h _ rfl)
theorem qiy (hL:LevOk P L) {dr:Draw} {orc:Orc} {rd:Rd} {f:Operand} {ps:Array Tmp} {assign body:Code} {st st':S} {x:X} (e:qas dr orc P L rd (.rangeFunc f ps assign body) st = some (x, st')) (hh:st'.h.Holds) :
    st.h.Holds ∧ ∀ (φ:Map) (a:Act) (w:World) (F:Fence) (n:Nat), Wide F → RoundRel φ rd.l F.round → VRels φ st.ts a.tmps.toList → MarksRel φ w st.dfs a.defers → HRel φ st.h w →
      (Code.rangeFunc f ps assign body).wpIn F n P (Post φ st.h w x st') a w:=by
  simp only [qas] at e
  split at e
  · cases e
  · rename_i l ds h1 he
    split at e
    · rename_i g first captured hf
      split at e
      · cases e
      · rename_i v h2 hcall
        split at e
        · rename_i r hg
          split at e
          · rename_i x' hb hro hj
            cases e
            have hh2:h2.Holds:=hh
            obtain ⟨c1, c2, c3⟩:=hL.call _ _ _ _ _ hcall hh2
            have hsaid:=(qhv (P:=P) (ro:=none) (tmps:=#[]) he).1
            refine ⟨fun p hp=>c1 p (by rw [hsaid]; exact hp), fun φ a w F n hF hrd hts hm hr=>?_⟩
            refine wpIn_rangeFunc fun fn _=>?_
            obtain ⟨φ1, w1, k, mark, hrun, hk, hmk, hg1⟩:=(qhv (P:=P) he).2 φ w fn hrd hts hr hm.1
            have hfr:=qbd hts f
            rw [hf] at hfr
            generalize hfv:a.eval f = fv at hfr
            cases hfr with
            | func _ _ _ first' captured' hfi hca =>
              have hall:VRels φ1 (first++[.yield l]++captured) (first'++#[Value.func (.yield k.1) #[] #[]]++captured').toList :=
                VRels.to_append (VRels.to_append (hfi.mono hg1.le) (.cons (.yield l k hk) .nil)) (hca.mono hg1.le)
              refine ⟨k.1, mark, w1, { target:=.fn (.func g) captured', args:=first'++#[Value.func (.yield k.1) #[] #[]] }, w1, g, first'++#[Value.func (.yield k.1) #[] #[]]++captured', w1, hrun, ?_, fun f' _=>hF.fn f', ?_, (fun hd=>by rw [hF.depth] at hd; cases hd), ?_⟩
              · simp [rangeCall, resolve, Act.eval, Deferred.ofValue]
                have:a.eval f = .func (.func g) first' captured':=hfv
                cases f <;> simp_all [Act.eval]
              · simp only [invoke, c2]
              · refine CallsIn.mono (c3 φ1 _ w1 F (n - 1) hF hall hg1.rel) ?_
                rintro e' w2 ⟨φ2, rv, rfl, hv, hg2⟩
                obtain ⟨k', q, hk', hq, hrel⟩:=qgl hg2.rel hg
                have:k' = k:=by have:=hg2.le _ _ hk; rw [hk'] at this; cases this; rfl
                subst this
                have hst:(q.state == .busy) = false:=by
                  rw [hrel.state]; revert hb; cases r.state <;> intro hb <;> first | rfl | cases hb
                have hg3:=qdN hg2.rel (r2:={ r with state:=.exhausted }) (q2:={ q with state:=.exhausted }) hg (Nat.le_of_ble_eq_true hro) hk' hq { hrel with state:=rfl }
                have hgo:Goes φ st.h w φ2 (h2.set l (.loop { r with state:=.exhausted })) _:=(hg1.trans hg2).trans hg3
                have hend:(Instr.endLoop k'.1).run P w2 = .ok r.pending { w2 with heap:=w2.heap.setIfInBounds k'.1 (.loop { q with state:=.exhausted }) }:=by
                  simp only [Instr.endLoop, Sem.run_bind, run_getLoop hq, Result.andThen_ok, hst, Bool.false_eq_true, if_false, Sem.run_pure, run_setObj_loop hq, hrel.pending]
                have hpost:∀ e0, e0 = x.real → Post φ st.h w x { st with dfs:=ds++st.dfs, h:=h2.set l (.loop { r with state:=.exhausted }) } e0 { a with defers:=mark++a.defers } { w2 with heap:=w2.heap.setIfInBounds k'.1 (.loop { q with state:=.exhausted }) }:=by
                  intro e0 he0
                  exact ⟨he0, φ2, hts.mono hgo.le, (hmk.mono (hg2.trans hg3).le).append (hm.goes hr hgo), hgo⟩
                exact ⟨r.pending, _, hend, qm5 hj hpost⟩
          · cases e
        · cases e
    · cases e
theorem qjg (hL:LevOk P L) {dr:Draw} (hdr:qgW P dr) {orc:Orc} (ho:OrcOk P orc) {rd:Rd} {c:Code} {st st':S} {x:X} (hin:InB P rd c) (e:qas dr orc P L rd c st = some (x, st')) (hh:st'.h.Holds) :
    st.h.Holds ∧ ∀ (φ:Map) (a:Act) (w:World) (F:Fence) (n:Nat), Wide F → RoundRel φ rd.l F.round → VRels φ st.ts a.tmps.toList → MarksRel φ w st.dfs a.defers → HRel φ st.h w → c.wpIn F n P (Post φ st.h w x st') a w:=by
  cases c with
  | skip =>
    simp only [qas, Option.some.injEq, Prod.mk.injEq] at e
    obtain ⟨rfl, rfl⟩:=e
    exact ⟨hh, fun φ a w F n hF hrd hts hm hr=>wpIn_skip ⟨rfl, φ, hts, hm, Goes.refl hr⟩⟩
  | label l =>
    simp only [qas, Option.some.injEq, Prod.mk.injEq] at e
    obtain ⟨rfl, rfl⟩:=e
    exact ⟨hh, fun φ a w F n hF hrd hts hm hr=>wpIn_label ⟨rfl, φ, hts, hm, Goes.refl hr⟩⟩
  | exit id =>
    simp only [qas, Option.some.injEq, Prod.mk.injEq] at e
    obtain ⟨rfl, rfl⟩:=e
    exact ⟨hh, fun φ a w F n hF hrd hts hm hr=>wpIn_exit ⟨rfl, φ, hts, hm, Goes.refl hr⟩⟩
  | ret =>
    simp only [qas, Option.some.injEq, Prod.mk.injEq] at e
    obtain ⟨rfl, rfl⟩:=e
    exact ⟨hh, fun φ a w F n hF hrd hts hm hr=>wpIn_ret ⟨rfl, φ, hts, hm, Goes.refl hr⟩⟩
  | seq c1 c2 =>
    simp only [qas] at e
    split at e
    · rename_i st1 h1
      obtain ⟨q1, q2⟩:=hL.exec _ _ _ _ _ (hin.sub (.seqR (.refl _))) e hh
      obtain ⟨p1, p2⟩:=hL.exec _ _ _ _ _ (hin.sub (.seqL (.refl _))) h1 q1
      refine ⟨p1, fun φ a w F n hF hrd hts hm hr=>wpIn_seq (qeJ (p2 φ a w F n hF hrd hts hm hr) ?_)⟩
      intro φ' a' w' t1 t2 t3
      exact wpIn_mono (q2 φ' a' w' F n hF (hrd.mono t3.le) t1 t2 t3.rel) (fun _ _ _ p=>p.from t3)
    · rename_i hne
      obtain ⟨p1, p2⟩:=hL.exec _ _ _ _ _ (hin.sub (.seqL (.refl _))) e hh
      refine ⟨p1, fun φ a w F n hF hrd hts hm hr=>wpIn_seq (wpIn_mono (p2 φ a w F n hF hrd hts hm hr) ?_)⟩
      rintro e' a' w' ⟨he, k⟩
      cases x with
      | normal=>exact absurd e (hne _)
      | exit id=>subst he; exact ⟨rfl, k⟩
      | ret=>subst he; exact ⟨rfl, k⟩
  | cond o c1 c2 =>
    simp only [qas] at e
    split at e
    · rename_i t ht
      have hev:∀ (φ:Map) (a:Act), VRels φ st.ts a.tmps.toList → a.eval o = .bool t:=by
        intro φ a hts
        have:=qbd hts o
        rw [ht] at this
        generalize a.eval o = v at this
        cases this; rfl
      split at e
      · rename_i h1 hte
        obtain ⟨p1, p2⟩:=hL.exec _ _ _ _ _ (hin.sub (.thn (.refl _))) e hh
        obtain ⟨q1, q2, q3⟩:=H.test_holds hte p1
        have q3:st.h.Same h1:=q3
        subst q2
        exact ⟨q1, fun φ a w F n hF hrd hts hm hr=>wpIn_cond_true (hev φ a hts) (wpIn_mono (p2 φ a w F n hF hrd hts hm (hr.same q3)) (fun _ _ _ p=>p.from (Goes.of_same hr q3 rfl rfl rfl rfl)))⟩
      · rename_i h1 hte
        obtain ⟨p1, p2⟩:=hL.exec _ _ _ _ _ (hin.sub (.els (.refl _))) e hh
        obtain ⟨q1, q2, q3⟩:=H.test_holds hte p1
        have q3:st.h.Same h1:=q3
        subst q2
        exact ⟨q1, fun φ a w F n hF hrd hts hm hr=>wpIn_cond_false (hev φ a hts) (wpIn_mono (p2 φ a w F n hF hrd hts hm (hr.same q3)) (fun _ _ _ p=>p.from (Goes.of_same hr q3 rfl rfl rfl rfl)))⟩
      · cases e
    · cases e
  | block id c1 =>
    simp only [qas] at e
    split at e
    · rename_i r hk
      cases e
      unfold qcj at hk
      split at hk
      · exact ho.loop _ _ _ _ _ _ rfl hin hk hh
      · cases hk
    · unfold qfR at e
      split at e
      · rename_i i st1 h1
        split at e
        · rename_i hi
          cases e
          have hi':=Nat.eq_of_beq_eq_true hi
          obtain ⟨p1, p2⟩:=hL.exec _ _ _ _ _ (hin.sub (.block (.refl _))) h1 hh
          refine ⟨p1, fun φ a w F n hF hrd hts hm hr=>wpIn_block (wpIn_mono (p2 φ a w F n hF hrd hts hm hr) ?_)⟩
          rintro e' a' w' ⟨he, k⟩
          subst he
          simp only [X.real, Exit.inBlock, hi', if_true]
          exact ⟨rfl, k⟩
        · rename_i hi
          cases e
          have hi':=Nat.ne_of_beq_eq_false hi
          obtain ⟨p1, p2⟩:=hL.exec _ _ _ _ _ (hin.sub (.block (.refl _))) h1 hh
          refine ⟨p1, fun φ a w F n hF hrd hts hm hr=>wpIn_block (wpIn_mono (p2 φ a w F n hF hrd hts hm hr) ?_)⟩
          rintro e' a' w' ⟨he, k⟩
          subst he
          simp only [X.real, Exit.inBlock, if_neg hi']
          exact ⟨rfl, k⟩
      · rename_i hne
        obtain ⟨p1, p2⟩:=hL.exec _ _ _ _ _ (hin.sub (.block (.refl _))) e hh
        refine ⟨p1, fun φ a w F n hF hrd hts hm hr=>wpIn_block (wpIn_mono (p2 φ a w F n hF hrd hts hm hr) ?_)⟩
        rintro e' a' w' ⟨he, k⟩
        cases x with
        | exit id=>exact absurd e (hne _ _)
        | normal=>subst he; exact ⟨rfl, k⟩
        | ret=>subst he; exact ⟨rfl, k⟩
  | loop c1 =>
    simp only [qas] at e
    obtain ⟨p1, p2⟩:=qlW hL (hin.sub (.loop (.refl _))) _ _ _ _ e hh
    exact ⟨p1, fun φ a w F n hF hrd hts hm hr=>wpIn_loop_rounds _ (p2 φ a w F n hF hrd hts hm hr)⟩
  | region id ops draw =>
    cases draw with
    | false =>
      simp only [qas] at e
      split at e
      · rename_i st1 h1
        cases e
        obtain ⟨p1, p2⟩:=qc9 hL _ _ _ h1 hh
        exact ⟨p1, fun φ a w F n hF hrd hts hm hr=>wpIn_region (p2 φ a w F n hF hts hm hr)⟩
      · cases e
    | true =>
      simp only [qas] at e
      split at e
      · rename_i st1 h1
        cases e
        obtain ⟨p1, p2⟩:=hdr L hL _ _ _ h1 hh
        exact ⟨p1, fun φ a w F n hF hrd hts hm hr=>p2 φ a w F n id hF hts hm hr⟩
      · cases e
  | rangeFunc f ps assign body=>exact qiy hL e hh
  | scope c=>simp [qas] at e
  | goto l=>simp [qas] at e
  | refuse why=>simp [qas] at e
end
end Go.Vm

/-
  What nobody else looks at may be written again.
-/
namespace Go.Vm
open Go
structure Bare (lend:Option (Nat×Ob)) (φ:Map) (h:H):Prop where
  ob:∀ d x, h.get d = some x → ∃ k v l, x = .map k v l
  nm:∀ d q, φ d = some q → ∃ p, lend = some p ∧ p.1 = d
  old:∀ p, lend = some p → ∃ q, φ p.1 = some q
end Go.Vm

/-
  Calls, rounds, levels.
-/
namespace Go.Vm
open Go
section
variable {P:Program} {L:Lev}
theorem Goes.spoil {φ:Map} {h:H} {w w':World} (hr:HRel φ h w) {b:Nat} {y:Ob} {k:Nat×Nat×Nat} (hg:h.get b = some y) (hro:h.ro ≤ b) (hk:φ b = some k)
    (hsz:w'.heap.size = w.heap.size) (hother:∀ j, j ≠ k.1 → w'.heap[j]? = w.heap[j]?) (h1:w'.os = w.os) (h2:w'.tape = w.tape) (h3:w'.output = w.output):Goes φ h w φ (h.kill b) w' where
  le:=Map.le_refl _
  rel:=by
    have hfb:φ.fz k.1 = none:=hr.own b y k hg hk
    have hfo:∀ n c, φ.fz n = some c → n ≠ k.1:=by
      intro n c e e'
      rw [e', hfb] at e; cases e
    constructor
    · intro c x hx hxt
      obtain ⟨hne, hx⟩:=H.get_kill hx
      obtain ⟨n, o, hn, ho, hrel⟩:=hr.obj c x hx hxt
      exact ⟨n, o, hn, by rw [hother _ (fun e=>hr.inj b c y x k n hg hx hro (Ne.symm hne) hk hn e.symm)]; exact ho, hrel⟩
    · intro c c' x x' n n' hx hx'
      exact hr.inj c c' x x' n n' (H.get_kill hx).2 (H.get_kill hx').2
    · intro c n e
      have:=hr.dom c n e
      simp only [H.kill_eq]; omega
    · exact hr.rle
    · intro n c e
      obtain ⟨cs, t, q, e1, e2⟩:=hr.fz n c e
      exact ⟨cs, t, q, by rw [hother _ (hfo n c e)]; exact e1, e2⟩
    · intro c x n hx
      exact hr.own c x n (H.get_kill hx).2
    · intro c hc
      obtain ⟨m, h4, h5⟩:=hr.tip c (H.get_kill hc).2
      refine ⟨m, h4, fun blk en sz e=>?_⟩
      obtain ⟨⟨c', hc', hcs⟩, cs, t, h6, h7⟩:=h5 blk en sz e
      exact ⟨⟨c', hc', hcs⟩, cs, t, by rw [hother _ (hfo _ _ hc')]; exact h6, h7⟩
    · intro c c' m m' hc hc'
      exact hr.tinj c c' m m' (H.get_kill hc).2 (H.get_kill hc').2
    · intro c m e
      have:=hr.tdom c m e
      simp only [H.kill_eq]; omega
  next:=Nat.le_refl _
  ro:=rfl
  fresh:=fun _ _ e=>.inl e
  size:=by omega
  frame:=fun j _ hf _=>hother j (fun e=>hf b k hro hk e.symm)
  tfresh:=fun _ _ e=>.inl e
  tlive:=fun _ _ _ hc=>(H.get_kill hc).2
  ffresh:=fun _ _ e _=>.inl e
  os:=h1
  tape:=h2
  output:=h3
theorem qek:∀ {ds:List Nat} {h h':H}, qc8 ds h = some h' → h'.said = h.said
  | [], h, h', e=>by cases e; rfl
  | d :: ds, h, h', e=>by
    simp only [qc8] at e
    split at e
    · split at e
      · have:=qek e; exact this
      · cases e
    · cases e
theorem Goes.took {φ0 φ:Map} {h0 h:H} {w0 w:World} (g:Goes φ0 h0 w0 φ h w) {k:Nat} (s:Spent φ w k) (hk:w0.heap.size ≤ k) :
    Goes φ0 h0 w0 φ h { w with heap:=w.heap.setIfInBounds k (.deferred none) }:=by
  obtain ⟨s1, s2⟩:=s
  have hr:=g.rel
  have hother:∀ j, j ≠ k → (w.heap.setIfInBounds k (.deferred none))[j]? = w.heap[j]?:=fun j hj=>by
    simp only [Array.getElem?_setIfInBounds]; rw [if_neg (fun e=>hj e.symm)]
  have hcell:∀ j cs t z, w.heap[j]? = some (.cells cs t z) → j ≠ k:=fun j cs t z e e'=>by rw [e', s1] at e; cases e
  have hsz:(w.heap.setIfInBounds k (.deferred none)).size = w.heap.size:=by simp
  exact {
    le:=g.le
    rel:=by
      constructor
      · intro c x hx hxt
        obtain ⟨n, o, hn, ho, hrel⟩:=hr.obj c x hx hxt
        exact ⟨n, o, hn, by show (w.heap.setIfInBounds k (.deferred none))[n.1]? = _; rw [hother _ (s2 c n hn)]; exact ho, hrel⟩
      · exact hr.inj
      · intro c n e
        have:=hr.dom c n e
        show _ ∧ _ < (w.heap.setIfInBounds k (.deferred none)).size
        rw [hsz]; exact this
      · exact hr.rle
      · intro n c e
        obtain ⟨cs, t, q, e1, e2⟩:=hr.fz n c e
        exact ⟨cs, t, q, by show (w.heap.setIfInBounds k (.deferred none))[n]? = _; rw [hother _ (hcell n cs t q e1)]; exact e1, e2⟩
      · exact hr.own
      · intro c hc
        obtain ⟨m, h4, h5⟩:=hr.tip c hc
        refine ⟨m, h4, fun blk en sz e=>?_⟩
        obtain ⟨h6, cs, t, h7, h8⟩:=h5 blk en sz e
        exact ⟨h6, cs, t, by show (w.heap.setIfInBounds k (.deferred none))[blk]? = _; rw [hother _ (hcell _ cs t _ h7)]; exact h7, h8⟩
      · exact hr.tinj
      · exact hr.tdom
    next:=g.next
    ro:=g.ro
    fresh:=g.fresh
    size:=by show _ ≤ (w.heap.setIfInBounds k (.deferred none)).size; rw [hsz]; exact g.size
    frame:=fun j hj hf ht=>by
      show (w.heap.setIfInBounds k (.deferred none))[j]? = _
      rw [hother _ (by omega)]; exact g.frame j hj hf ht
    tfresh:=g.tfresh
    tlive:=g.tlive
    ffresh:=g.ffresh
    os:=g.os
    tape:=g.tape
    output:=g.output }
theorem MarksGo.keep {φ:Map} {w w':World}:∀ {xs:List Deferred} {ds:List Nat}, (∀ k, Spent φ w k → markD k ∈ xs → w'.heap[k]? = w.heap[k]?) → MarksGo φ w ds xs → MarksGo φ w' ds xs
  | [], _, _, e=>e
  | x :: xs, ds, hk, e=>by
    have hk':∀ k, Spent φ w k → markD k ∈ xs → w'.heap[k]? = w.heap[k]?:=fun k s hm=>hk k s (List.mem_cons_of_mem _ hm)
    rcases e with ⟨d, ds', k, e1, e2, e3, e4, e5⟩ | ⟨k, e1, e2, e3, e4, e5⟩
    · exact .inl ⟨d, ds', k, e1, e2, e3, e4, e5.keep hk'⟩
    · exact .inr ⟨k, e1, e2, ⟨by rw [hk k e3 (by rw [← e1]; exact List.mem_cons_self ..)]; exact e3.1, e3.2⟩, e4, e5.keep hk'⟩
theorem qlb {F:Fence} {n:Nat} {fn:Func} {tmps:Array Value} {R:Ending → World → Prop} {xs:List Deferred} {w:World} {k:Nat} (ho:w.heap[k]? = some (.deferred (some [])))
    (hk:LeavesInM F n P fn tmps R xs .returning { w with heap:=w.heap.setIfInBounds k (.deferred none) }):LeavesInM F n P fn tmps R (markD k :: xs) .returning w:=by
  have hlt:=lt_of_heap ho
  refine ⟨by simp, .inl ⟨k, { w with heap:=w.heap.setIfInBounds k (.deferred none) }, rfl, ?_, hk⟩⟩
  simp [Instr.takeDeferred, getObj, setObj, Sem.run, ho]
theorem qds {F:Fence} {n:Nat} {fn:Func} {tmps:Array Value} {R:Ending → World → Prop} {φ0 φ:Map} {h0:H} {w0:World} (hb:w0.heap.size ≤ φ.base.2) :
    ∀ {xs:List Deferred} {ds:List Nat} {h h':H} (_:qc8 ds h = some h') {w:World}, MarksGo φ w ds xs → Goes φ0 h0 w0 φ h w →
    (∀ w', Goes φ0 h0 w0 φ h' w' → LeavesInM F n P fn tmps R [] .returning w') → LeavesInM F n P fn tmps R xs .returning w
  | [], ds, h, h', e, w, hm, g, hk=>by
    have hm:ds = []:=hm
    subst hm
    cases e
    exact hk w g
  | x :: xs, ds, h, h', e, w, hm, g, hk=>by
    rcases hm with ⟨d, ds', k, rfl, hkd, hbk, rfl, hm⟩ | ⟨k, rfl, hbk, hs, hne, hm⟩
    · simp only [qc8] at e
      split at e
      · rename_i hg
        split at e
        · rename_i hro
          obtain ⟨k', o, hk', ho, hrel⟩:=g.rel.obj _ _ hg (by simp)
          rw [hkd] at hk'; cases hk'
          cases o with
          | deferred calls =>
            cases calls with
            | none=>exact hrel.elim
            | some l =>
              cases l with
              | cons _ _=>exact hrel.elim
              | nil =>
                refine qlb ho ?_
                have hoth:∀ j, j ≠ k.1 → (w.heap.setIfInBounds k.1 (.deferred none))[j]? = w.heap[j]?:=fun j hj=>by
                  simp only [Array.getElem?_setIfInBounds]; rw [if_neg (fun e=>hj e.symm)]
                have g2:=Goes.spoil (w':={ w with heap:=w.heap.setIfInBounds k.1 (.deferred none) }) g.rel hg (Nat.le_of_ble_eq_true hro) hkd (by simp) hoth rfl rfl rfl
                exact qds hb e (hm.keep fun j s _=>hoth j (fun e=>s.2 d k hkd e.symm)) (g.trans g2) hk
          | _=>exact hrel.elim
        · cases e
      · cases e
    · refine qlb hs.1 ?_
      refine qds hb e (hm.keep fun j s hj=>?_) (g.took hs (by omega)) hk
      have hjk:j ≠ k:=fun e=>hne _ hj (by rw [e])
      show (w.heap.setIfInBounds k (.deferred none))[j]? = _
      simp only [Array.getElem?_setIfInBounds]; rw [if_neg (fun e=>hjk e.symm)]
theorem qdF {φ:Map} {ts:List V} {tmps:Array Value} {h:H} {w:World} (hts:VRels φ ts tmps.toList) (hr:HRel φ h w):∀ (rs:List ResultVar) (vs:List V), qcz P rs ts h = some vs →
    ∃ rvs:List Value, (rs.mapM (fun | .tmp t=>pure (tmps.getD t undef) | .cell a t=>do loadVar t (← asAddr (tmps.getD a undef))):Sem (List Value)).run P w = .ok rvs w ∧ VRels φ vs rvs
  | [], vs, e=>by simp [qcz] at e; subst e; exact ⟨[], rfl, .nil⟩
  | .tmp t :: rs, vs, e=>by
    simp only [qcz] at e
    split at e
    · rename_i us hu
      cases e
      obtain ⟨rvs, h1, h2⟩:=qdF hts hr rs us hu
      refine ⟨tmps.getD t undef :: rvs, ?_, .cons (qbJ hts t) h2⟩
      simp only [List.mapM_cons, Sem.run_bind, Sem.run_pure, Result.andThen_ok, h1]
    · cases e
  | .cell a t :: rs, vs, e=>by
    simp only [qcz] at e
    split at e
    · rename_i v us hv hu
      cases e
      obtain ⟨rvs, h1, h2⟩:=qdF hts hr rs us hu
      have hat:=qbJ hts a
      obtain ⟨r, hrun, hrel⟩:=qjt hv hat hr
      refine ⟨r :: rvs, ?_, .cons hrel h2⟩
      have:(do loadVar t (← asAddr (tmps.getD a undef)):Sem Value).run P w = .ok r w:=by
        unfold qiX at hv
        split at hv
        · rename_i va hva
          rw [hva] at hat
          generalize tmps.getD a undef = rv at hat hrun
          cases hat
          simpa [Instr.loadAt, Instr.sureAddr, asAddr] using hrun
        · rename_i row hva
          rw [hva] at hat
          generalize tmps.getD a undef = rv at hat hrun
          cases hat
          simpa [Instr.loadAt, Instr.sureAddr, asAddr] using hrun
        · cases hv
      simp only [List.mapM_cons, Sem.run_bind, Sem.run_pure] at this ⊢
      simp only [this, Result.andThen_ok, h1]
    · cases e
theorem qkE {φ:Map} {fn:Func} {ts:List V} {tmps:Array Value} {h:H} {w:World} {vs:List V} (hts:VRels φ ts tmps.toList) (hr:HRel φ h w) (e:qcz P fn.results.toList ts h = some vs) :
    ∃ r, (results fn tmps).run P w = .ok r w ∧ VRel φ (oneOf vs) r:=by
  obtain ⟨rvs, h1, h2⟩:=qdF hts hr _ _ e
  have hm:(fn.results.mapM (fun | .tmp t=>pure (tmps.getD t undef) | .cell a t=>do loadVar t (← asAddr (tmps.getD a undef))):Sem (Array Value)).run P w = .ok rvs.toArray w:=by
    rw [Array.mapM_eq_mapM_toList, Sem.run_map, h1]; rfl
  refine ⟨(if h:rvs.toArray.size = 1 then rvs.toArray[0] else .tuple rvs.toArray), ?_, ?_⟩
  · unfold results
    rw [Sem.run_bind]
    exact (congrArg (fun z=>Result.andThen z _) hm).trans rfl
  · cases h2 with
    | nil=>exact .tuple _ _ .nil
    | @cons _ r1 _ _ hv ht =>
      cases ht with
      | nil=>exact hv
      | @cons _ r2 _ rr hv2 ht2 =>
        have:¬ (r1 :: r2 :: rr:List Value).toArray.size = 1:=by simp
        rw [dif_neg this]
        exact .tuple _ _ (.cons hv (.cons hv2 ht2))
theorem qfw {lim:Nat}:∀ {l:List (Nat×Ob)} {b:Nat} {x:Ob}, look (qbq lim l) b = some x → look l b = some x
  | [], b, x, e=>e
  | (c, y) :: r, b, x, e=>by
    simp only [qbq] at e
    split at e
    · rename_i hc
      have hc':=Nat.le_of_ble_eq_true hc
      have ih:=qfw e
      have hb:b < lim:=by
        -- the rest begins below 'lim', or is empty
        have key:∀ (l:List (Nat×Ob)), look (qbq lim l) b = some x → b < lim:=by
          intro l
          induction l with
          | nil=>intro e; cases e
          | cons p r ih2 =>
            obtain ⟨d, z⟩:=p
            intro e
            simp only [qbq] at e
            split at e
            · exact ih2 e
            · rename_i hd
              have hd':d < lim:=by
                rcases Nat.lt_or_ge d lim with h | h
                · exact h
                · have:=Nat.ble_eq_true_of_le h; rw [hd] at this; cases this
              rw [look_eq] at e
              split at e
              · rename_i he; have:=Nat.eq_of_beq_eq_true he; omega
              · split at e
                · cases e
                · rename_i hbl
                  rcases Nat.lt_or_ge b d with h | h
                  · omega
                  · have:=Nat.ble_eq_true_of_le h; rw [hbl] at this; cases this
        exact key r e
      have hne:c ≠ b:=by omega
      have hnb:Nat.ble c b = false:=by
        cases hh:Nat.ble c b with
        | false=>rfl
        | true=>have:=Nat.le_of_ble_eq_true hh; omega
      simp only [look_eq, qbh hne, hnb]
      exact ih
    · exact e
theorem qf3 {m:List (Nat×Ob)} {b:Nat} {x:Ob}:∀ {l:List (Nat×Ob)}, look (l++m) b = some x → (b, x) ∈ l ∨ look m b = some x
  | [], e=>.inr e
  | (c, y) :: r, e=>by
    rw [List.cons_append, look_eq] at e
    split at e
    · rename_i h
      cases e
      have:=Nat.eq_of_beq_eq_true h
      subst this
      exact .inl (by simp)
    · split at e
      · cases e
      · exact (qf3 e).imp (fun h=>by simp [h]) id
theorem qoj {objs:List (Nat×Ob)} {ids:List Nat} {b:Nat} {x:Ob} (h:(b, x) ∈ qon objs ids):look objs b = some x:=by
  obtain ⟨c, _, hc⟩:=List.mem_filterMap.1 h
  cases hl:look objs c with
  | none=>rw [hl] at hc; cases hc
  | some y=>rw [hl] at hc; simp at hc; obtain ⟨rfl, rfl⟩:=hc; exact hl
theorem qou (args:List V) (v:V) (lim:Nat) (h:H):(tidy args v lim h).said = h.said:=by
  rw [qnW]; split <;> rfl
theorem qoG {φ:Map} {args:List V} {v:V} {lim:Nat} {h:H} {w:World} (hr:HRel φ h w):Goes φ h w φ (tidy args v lim h) w:=by
  rw [qnW]
  split
  · exact Goes.refl hr
  · refine Goes.drop hr rfl rfl fun b x hx=>?_
    have hx':=qbk hx
    have:look h.objs b = some x:=by
      rcases qf3 hx' with h1 | h1
      · exact qoj h1
      · exact qfw (lim:=lim) h1
    show live (look h.objs b) = some x
    rw [this]; exact qka hx hx'
theorem qnq {fn:Func} {args:List V} {lim:Nat} {st:S} {v:V} {h':H} (e:qkd P fn args lim st = some (v, h')) (hh:h'.Holds) :
    st.h.Holds ∧ ∀ (φ φ0:Map) (h0:H) (w0:World) (a:Act) (w:World) (F:Fence) (n:Nat), VRels φ st.ts a.tmps.toList → MarksRel φ w st.dfs a.defers → φ.base = ([], w0.heap.size) → Goes φ0 h0 w0 φ st.h w →
      ∀ Q:Ending → World → Prop, (∀ e w', PostCall φ0 h0 w0 v h' e w' → Q e w') → LeavesInM F n P fn a.tmps Q a.defers .returning w:=by
  unfold qkd at e
  split at e
  · cases e
  · rename_i h1 ht
    split at e
    · cases e
    · rename_i vs hv
      cases e
      refine ⟨fun p hp=>hh p (by rw [qou, qek ht]; exact hp), fun φ φ0 h0 w0 a w F n hts hm hbs g Q hQ=>?_⟩
      obtain ⟨_, ys, hys, hgo⟩:=hm
      rw [hbs, List.append_nil] at hys
      rw [hys]
      refine qds (by rw [hbs]; exact Nat.le_refl _) ht hgo g fun w' gw=>?_
      obtain ⟨r, hrun, hrel⟩:=qkE hts gw.rel hv
      exact ⟨r, hrun, hQ _ _ ⟨φ, r, rfl, hrel, gw.trans (qoG gw.rel)⟩⟩
theorem PostCall.unre {φ:Map} {m:List Deferred×Nat} {h h':H} {w w':World} {v:V} {e:Ending} (p:PostCall (φ.re m) h w v h' e w'):PostCall φ h w v h' e w':=by
  obtain ⟨φ', r, h1, h2, h3⟩:=p
  exact ⟨φ'.re φ.base, r, h1, h2.re _, h3.re⟩
def Plain (P : Program) : Prop := ∀ (f : FuncId) (fn : Func), P.funcs[f]? = some fn → fn.body.isSome = true → (fn.name == "runtime.NumGoroutine") = false
theorem qfq (hp:Plain P) {f:FuncId} {fn:Func} {c:Code} (hf:P.funcs[f]? = some fn) (hb:fn.body = some c) (args:Array Value) (w:World):(callFunc f args).run P w = .ok (.enter f args) w:=by
  have hn:=hp f fn hf (by rw [hb]; rfl)
  simp only [callFunc, Sem.run_bind, run_program, Result.andThen_ok, hf, hn, Bool.false_eq_true, if_false, hb, Option.isNone_some, Sem.run_pure]
theorem qjJ (hp:Plain P) (hL:LevOk P L) {orc:Orc} (ho:COrcOk P orc.call) {f:FuncId} {args:List V} {h h':H} {v:V} (e:qeF orc P L f args h = some (v, h')) (hh:h'.Holds) :
    h.Holds ∧ (∀ (args':Array Value) (w:World), (callFunc f args').run P w = .ok (.enter f args') w) ∧
      ∀ (φ:Map) (args':Array Value) (w:World) (F:Fence) (n:Nat), Wide F → VRels φ args args'.toList → HRel φ h w → CallsIn F n P f args' w (PostCall φ h w v h'):=by
  unfold qeF at e
  split at e
  · rename_i r hr
    cases e
    exact ho _ _ _ _ _ hr hh
  · split at e
    · cases e
    · rename_i fn hf
      split at e
      · cases e
      · rename_i c hb
        have fin:∀ {x:X} {st:S}, L.exec (.top f) c { ts:=args++List.replicate (fn.ntmps - args.length) .bot, dfs:=[], h:=h } = some (x, st) → (x = .normal ∨ x = .ret) → qkd P fn args h.next st = some (v, h') →
            h.Holds ∧ (∀ (args':Array Value) (w:World), (callFunc f args').run P w = .ok (.enter f args') w) ∧
            ∀ (φ:Map) (args':Array Value) (w:World) (F:Fence) (n:Nat), Wide F → VRels φ args args'.toList → HRel φ h w → CallsIn F n P f args' w (PostCall φ h w v h'):=by
          intro x st hx hxx hlv
          obtain ⟨l1, l2⟩:=qnq hlv hh
          obtain ⟨p1, p2⟩:=hL.exec _ _ _ _ _ (show InB P (.top f) c from ⟨fn, c, hf, hb, .refl _⟩) hx l1
          refine ⟨p1, qfq hp hf hb, fun φ args' w F n hF ha hr=>?_⟩
          have hF0:Wide F.plain:=⟨hF.fn, hF.depth⟩
          have key:CallsIn F.plain n P f args' w (PostCall φ h w v h'):=by
            refine callsIn_of_wp_marks hf hb (hF.fn f) ?_ rfl
            have hlen:=ha.length
            have hts:VRels φ (args++List.replicate (fn.ntmps - args.length) .bot) (args'++Array.replicate (fn.ntmps - args'.size) undef).toList:=by
              have:fn.ntmps - args.length = fn.ntmps - args'.size:=by simp at hlen; omega
              rw [this]
              simpa using ha.append (VRels.replicate (fn.ntmps - args'.size) (.bot undef))
            refine wpIn_mono (p2 (φ.re ([], w.heap.size)) { tmps:=args'++Array.replicate (fn.ntmps - args'.size) undef, defers:=[] } w F.plain n hF0 trivial (hts.re _) ⟨Nat.le_refl _, [], rfl, rfl⟩ (hr.re _)) ?_
            rintro e' a' w' ⟨he, φ', t1, t2, t3⟩
            subst he
            have:=l2 φ' (φ.re ([], w.heap.size)) h w a' w' F.plain n t1 t2 t3.le.base t3 (PostCall φ h w v h') (fun _ _ p=>p.unre)
            rcases hxx with rfl | rfl <;> exact this
          exact key
        split at e
        · split at e
          · rename_i st hx; exact fin hx (.inl rfl) e
          · rename_i st hx; exact fin hx (.inr rfl) e
          · cases e
        · cases e
theorem qe0 {φ:Map}:∀ (ps:List Tmp) (vs:List V) (rs:List Value) (ts:List V) (tmps:Array Value), VRels φ vs rs → VRels φ ts tmps.toList →
    VRels φ (qa7 ps vs ts) ((ps.zip rs).foldl (fun tmps (x:Tmp×Value)=>tmps.setIfInBounds x.1 x.2) tmps).toList
  | [], vs, rs, ts, tmps, h, ht=>by cases vs <;> simpa [qa7] using ht
  | t :: ps, [], rs, ts, tmps, h, ht=>by cases h; simpa [qa7] using ht
  | t :: ps, v :: vs, rs, ts, tmps, h, ht=>by
    cases h with
    | cons hv h =>
      simp only [qa7, List.zip_cons_cons, List.foldl_cons]
      exact qe0 ps vs _ _ _ h (by simpa using ht.set hv t)
theorem qiH (hL:LevOk P L) {l:Nat} {args:List V} {h h':H} {v:V} (e:qdQ L l args h = some (v, h')) (hh:h'.Holds) :
    h.Holds ∧ ∀ (φ:Map) (args':Array Value) (w:World) (F:Fence) (n:Nat) (k:Nat×Nat×Nat), Wide F → φ l = some k → VRels φ args args'.toList → HRel φ h w →
      ∃ f tmps assign body, (Instr.yield k.1 args').run P w = .ok (.round k.1 f tmps assign body) w ∧ RoundIn F n P k.1 f tmps assign body w (PostCall φ h w v h'):=by
  unfold qdQ at e
  split at e
  · rename_i r hg
    split at e
    · rename_i hsz hro
      split at e
      · rename_i st ha
        split at e
        · rename_i r1 hg1
          split at e
          · rename_i hrd
            split at e
            · rename_i x st3 hb
              split at e
              · rename_i r3 hg3
                cases e
                obtain ⟨b1, b2⟩:=hL.exec (.round l) _ _ _ _ trivial hb hh
                have hst:st.h.Holds:=b1
                obtain ⟨a1, a2⟩:=hL.exec (.round l) _ _ _ _ trivial ha hst
                refine ⟨a1, fun φ args' w F n k hF hk hargs hr=>?_⟩
                obtain ⟨k0, q, hk0, hq, hrel⟩:=qgl hr hg
                rw [hk] at hk0; cases hk0
                have hlen:=hargs.length
                have hsz':args'.size = q.params.size:=by
                  rw [hrel.params]
                  have:=Nat.eq_of_beq_eq_true hsz
                  simp at hlen; omega
                have hro':=Nat.le_of_ble_eq_true hro
                let tm:Array Value:=(q.params.zip args').foldl (fun tmps (t, a)=>tmps.setIfInBounds t a) q.tmps
                have htm:VRels φ (qa7 r.params.toList args r.tmps) tm.toList:=by
                  have:=qe0 q.params.toList args args'.toList r.tmps q.tmps hargs hrel.tmps
                  rw [hrel.params] at this
                  simp only [tm]
                  rw [← Array.foldl_toList, Array.toList_zip, hrel.params]
                  exact this
                refine ⟨q.fn, tm, q.assign, q.body, ?_, ?_⟩
                · have:¬ args'.size ≠ q.params.size:=by simp [hsz']
                  simp only [Instr.yield, Sem.run_bind, run_getLoop hq, Result.andThen_ok, if_neg this, Sem.run_pure]
                  rfl
                · refine roundIn_of_wpIn (hF.fn _) ?_
                  have hW:Wide (F.inRound k.1):=hF.inRound k.1
                  have hRR:RoundRel φ (some l) (F.inRound k.1).round:=⟨k.2, hk⟩
                  rw [hrel.assign]
                  refine qeJ (a2 (φ.re ([], w.heap.size)) { tmps:=tm, defers:=[] } w (F.inRound k.1) n hW hRR (htm.re _) ⟨Nat.le_refl _, [], rfl, rfl⟩ (hr.re _)) ?_
                  intro φ1 a1' w1 t1 t2 t3
                  obtain ⟨k1, q1, hk1, hq1, hrel1⟩:=qgl t3.rel hg1
                  have hkk:k1 = k:=by have:=t3.le _ _ hk; rw [hk1] at this; cases this; rfl
                  subst hkk
                  have hstate:q1.state = .ready:=by
                    rw [hrel1.state]; revert hrd; cases r1.state <;> intro hrd <;> first | rfl | cases hrd
                  have hro1:st.h.ro ≤ l:=by rw [t3.ro]; exact hro'
                  have g1:=qdN t3.rel (r2:={ r1 with state:=.busy }) (q2:={ q1 with state:=.busy }) hg1 hro1 hk1 hq1 { hrel1 with state:=rfl }
                  refine ⟨{ w1 with heap:=w1.heap.setIfInBounds k1.1 (.loop { q1 with state:=.busy }) }, ?_, ?_⟩
                  · simp only [Instr.beginRound, Sem.run_bind, run_getLoop hq1, Result.andThen_ok, run_setObj_loop hq1, hstate, Sem.run_pure]
                  · have hbody:q.body = r1.body ∨ True:=.inr trivial
                    rw [hrel.body]
                    refine qeJ (b2 φ1 a1' _ (F.inRound k1.1) n hW ⟨k1.2, hk1⟩ t1 (t2.goes t3.rel g1) g1.rel) ?_
                    intro φ2 a2' w2 s1 s2 s3
                    obtain ⟨k3, q3, hk3, hq3, hrel3⟩:=qgl s3.rel hg3
                    have hkk3:k3 = k1:=by have:=s3.le _ _ hk1; rw [hk3] at this; cases this; rfl
                    subst hkk3
                    have hro3:st3.h.ro ≤ l:=by rw [s3.ro]; exact hro1
                    have g3:=qdN s3.rel (r2:={ r3 with state:=if (qcK x).isNone then .ready else .done, pending:=qcK x }) (q2:={ q3 with state:=if (qcK x).isNone then .ready else .done, pending:=qcK x }) hg3 hro3 hk3 hq3 { hrel3 with state:=rfl, pending:=rfl }
                    have hend:(Instr.endRound k3.1 (qcK x)).run P w2 = .ok (.bool (qcK x).isNone) { w2 with heap:=w2.heap.setIfInBounds k3.1 (.loop { q3 with state:=if (qcK x).isNone then .ready else .done, pending:=qcK x }) }:=by
                      simp only [Instr.endRound, Sem.run_bind, run_getLoop hq3, Result.andThen_ok, run_setObj_loop hq3, Sem.run_pure]
                    have hpost:=(((t3.trans g1).trans s3).trans g3).re
                    cases x with
                    | normal=>exact ⟨_, _, hend, φ2.re φ.base, _, rfl, .bool _, hpost⟩
                    | ret=>exact ⟨_, _, hend, φ2.re φ.base, _, rfl, .bool _, hpost⟩
                    | exit id=>exact ⟨_, _, hend, φ2.re φ.base, _, rfl, .bool _, hpost⟩
              · cases e
            · cases e
          · cases e
        · cases e
      · cases e
    · cases e
  · cases e
theorem qlD (hp:Plain P) {dr:Draw} (hdr:qgW P dr) {orc:Orc} (ho:OrcOk P orc):∀ n, LevOk P (qjL dr orc P n)
  | 0=>⟨(fun _ _ _ _ _ _ e=>by cases e), (fun _ _ _ _ _ e=>by cases e), (fun _ _ _ _ _ e=>by cases e)⟩
  | n + 1 =>
    have ih:=qlD hp hdr ho n
    ⟨fun _ _ _ _ _ hin e hh=>qjg ih hdr ho hin e hh, fun _ _ _ _ _ e hh=>qjJ hp ih ho.call e hh, fun _ _ _ _ _ e hh=>qiH ih e hh⟩
end
end Go.Vm

/-
  Regions that draw their order: how they are run.
-/
namespace Go.Vm
open Go
def inOrder (bf:Array Nat) (i j:Nat):Bool :=
  match Nat.ble i j with
  | true=>Nat.beq i j || (bf.getD j 0).testBit i
  | false=>(bf.getD i 0).testBit j
def alone (ops:Array Oper) (bf:Array Nat) (i:Nat):Bool :=
  (List.range ops.size).all fun j=>match ops[j]? with
    | some o=>!qav o.op || inOrder bf i j
    | none=>true
def qbe (o:Oper):List Tmp :=
  o.op.operands.toList.filterMap fun | .tmp t=>some t | _=>none
def qdR (ops:Array Oper) (bf:Array Nat):Bool :=
  (List.range ops.size).all fun i=>match ops[i]? with
    | none=>false
    | some o =>
      (o.after.all fun e=>!Region.binds .any e || Nat.blt e.on i) &&
      (match o.guard with
        | none=>true
        | some (j, _)=>(bf.getD i 0).testBit j) &&
      (match o.dst with
        | none=>true
        | some d=>(List.range ops.size).all fun j=>match ops[j]? with
          | none=>false
          | some p=>(Nat.beq i j || !(p.dst == some d)) && (!(qbe p).contains d || Nat.beq i j || inOrder bf i j))
def qgK (base:Nat) (ok:Nat → Bool):List (Nat×Ob) → List (Nat×Ob)
  | []=>[]
  | (id, x) :: r=>match Nat.ble base id with
    | false=>(id, x) :: r
    | true=>(id, match ok id with | true=>x | false=>.dead) :: qgK base ok r
def qhs (mask:Nat) (rng:List (Nat×Nat×Nat)) (id:Nat):Bool :=
  rng.any fun x=>Nat.ble x.2.1 id && Nat.blt id x.2.2 && mask.testBit x.1
def qby (h:H):Bool :=
  match h.objs with
  | []=>true
  | (c, _) :: _=>Nat.ble (c + 1) h.next
structure D where
  base:Nat
  rng:List (Nat×Nat×Nat)
  st:S
def qaB (bf:Array Nat) (i:Nat) (d:D) (h:H):H :=
  H.casesOn h fun next _ objs ask said=>{ next:=next, ro:=next, objs:=qgK d.base (qhs (bf.getD i 0) d.rng) objs, ask:=ask, said:=said }
theorem qmE (bf:Array Nat) (i:Nat) (d:D) (h:H):qaB bf i d h = { h with ro:=h.next, objs:=qgK d.base (qhs (bf.getD i 0) d.rng) h.objs }:=by cases h; rfl
def H.back (h h2:H):H:=H.casesOn h fun _ ro _ _ _=>H.casesOn h2 fun next _ objs ask said=>{ next:=next, ro:=ro, objs:=objs, ask:=ask, said:=said }
theorem H.back_eq (h h2:H):h.back h2 = { h2 with ro:=h.ro }:=by cases h; cases h2; rfl
def H.both (h h2:H):H:=H.casesOn h fun lim ro old _ _=>H.casesOn h2 fun next _ objs ask said=>{ next:=next, ro:=ro, objs:=qbf lim objs++old, ask:=ask, said:=said }
theorem H.both_eq (h h2:H):h.both h2 = { h2 with ro:=h.ro, objs:=qbf h.next h2.objs++h.objs }:=by cases h; cases h2; rfl
def qdW (P:Program) (L:Lev) (ops:Array Oper) (bf:Array Nat) (i:Nat) (o:Oper) (d:D) (h:H):Option (V×D) :=
  match d with
  | { base, rng, st:={ ts, dfs, h:=h0 } } =>
  match qby h, alone ops bf i with
  | true, true=>match qaw L P o.op (eval ts) h with
    | none=>none
    | some (v, h2)=>match Nat.ble h.next h2.next with
      | true=>some (v, { base:=h2.next, rng:=[], st:={ ts:=putT ts o.dst v, dfs:=dfs, h:=h.back h2 } })
      | false=>none
  | true, false=>match qaw L P o.op (eval ts) (qaB bf i { base, rng, st:={ ts, dfs, h:=h0 } } h) with
    | none=>none
    | some (v, h2)=>match Nat.ble h.next h2.next with
      | true=>some (v, { base:=base, rng:=(i, h.next, h2.next) :: rng, st:={ ts:=putT ts o.dst v, dfs:=dfs, h:=h.both h2 } })
      | false=>none
  | false, _=>none
theorem qk1 (P:Program) (L:Lev) (ops:Array Oper) (bf:Array Nat) (i:Nat) (o:Oper) (d:D) (h:H):qdW P L ops bf i o d h =
  match qby h, alone ops bf i with
  | true, true=>match qaw L P o.op (eval d.st.ts) h with
    | none=>none
    | some (v, h2)=>match Nat.ble h.next h2.next with
      | true=>some (v, { base:=h2.next, rng:=[], st:={ d.st with ts:=putT d.st.ts o.dst v, h:={ h2 with ro:=h.ro } } })
      | false=>none
  | true, false=>match qaw L P o.op (eval d.st.ts) (qaB bf i d h) with
    | none=>none
    | some (v, h2)=>match Nat.ble h.next h2.next with
      | true=>some (v, { d with rng:=(i, h.next, h2.next) :: d.rng, st:={ d.st with ts:=putT d.st.ts o.dst v, h:={ h2 with ro:=h.ro, objs:=qbf h.next h2.objs++h.objs } } })
      | false=>none
  | false, _=>none:=by
  obtain ⟨base, rng, ts, dfs, h0⟩:=d
  unfold qdW
  simp only [H.back_eq, H.both_eq]
def stepD (P:Program) (L:Lev) (ops:Array Oper) (bf:Array Nat) (i:Nat) (d:D):Option (V×D) :=
  match d with
  | { base, rng, st:={ ts, dfs, h } } =>
  match ops[i]? with
  | none=>none
  | some o=>match qaI ops o ts h with
    | none=>none
    | some (false, h)=>some (.tuple [], { base, rng, st:={ ts:=putT ts o.dst (.tuple []), dfs, h } })
    | some (true, h1)=>match qav o.op with
      | false=>match qcP P o.op (eval ts) h1 with
        | none=>none
        | some (v, h)=>some (v, { base, rng, st:={ ts:=putT ts o.dst v, dfs, h } })
      | true=>qdW P L ops bf i o { base, rng, st:={ ts, dfs, h } } h1
theorem qlh (P:Program) (L:Lev) (ops:Array Oper) (bf:Array Nat) (i:Nat) (d:D):stepD P L ops bf i d =
  match ops[i]? with
  | none=>none
  | some o=>match qaI ops o d.st.ts d.st.h with
    | none=>none
    | some (false, h)=>some (.tuple [], { d with st:={ d.st with ts:=putT d.st.ts o.dst (.tuple []), h:=h } })
    | some (true, h)=>match qav o.op with
      | false=>match qcP P o.op (eval d.st.ts) h with
        | none=>none
        | some (v, h)=>some (v, { d with st:={ d.st with ts:=putT d.st.ts o.dst v, h:=h } })
      | true=>qdW P L ops bf i o d h:=by
  obtain ⟨base, rng, ts, dfs, h0⟩:=d
  rfl
def qeQ (P:Program) (L:Lev) (ops:Array Oper) (bf:Array Nat):List Nat → D → Option D
  | [], d=>some d
  | i :: rest, d=>match stepD P L ops bf i d with
    | none=>none
    | some (_, d)=>qeQ P L ops bf rest d
def drawn (P:Program):Draw:=fun L ops st =>
  match qdR ops (Region.before ops) with
  | true=>match qeQ P L ops (Region.before ops) (List.range ops.size) { base:=st.h.next, rng:=[], st:=st } with
    | some d=>match qby d.st.h with
      | true=>some d.st
      | false=>none
    | none=>none
  | false=>none
theorem qbD {ρ ρ':Operand → V} {l:List Operand} (h:∀ x ∈ l, ρ x = ρ' x):l.map ρ = l.map ρ':=List.map_congr_left h
theorem qgH {P:Program} {op:Op} {ρ ρ':Operand → V} (h:∀ x ∈ op.operands, ρ x = ρ' x) (hp:H):qcP P op ρ hp = qcP P op ρ' hp:=by
  have pairs:∀ ps:Array (Nat×Operand), (∀ x ∈ (ps.toList.map (·.2)), ρ x = ρ' x) → (ps.toList.map fun x=>(x.1, ρ x.2)) = (ps.toList.map fun x=>(x.1, ρ' x.2)):=fun ps hp =>
    List.map_congr_left fun p hm=>by rw [hp p.2 (List.mem_map.2 ⟨p, hm, rfl⟩)]
  cases op <;> simp only [Op.operands] at h <;> simp only [qcP]
  case build t ps=>rw [pairs ps fun x hx=>h x (by simpa using hx)]
  case makeFunc fn first captured =>
    rw [qbD (l:=first.toList) fun x hx=>h x (by simp at hx ⊢; exact .inl hx), qbD (l:=captured.toList) fun x hx=>h x (by simp at hx ⊢; exact .inr hx)]
  case slice t x lo hi mx=>cases lo <;> cases hi <;> cases mx <;> simp_all
  case call c =>
    obtain ⟨callee, args, ts⟩:=c
    cases callee with
    | builtin b =>
      have h2:args.toList.map ρ = args.toList.map ρ':=qbD fun x hx=>h x (by simp [Call.operands] at hx ⊢; exact hx)
      simp only [h2]
    | _=>rfl
  all_goals first | rfl | (simp_all; done)
theorem qdG {P:Program} {L:Lev} {op:Op} {ρ ρ':Operand → V} (h:∀ x ∈ op.operands, ρ x = ρ' x) (hp:H):qaw L P op ρ hp = qaw L P op ρ' hp:=by
  have pairs:∀ ps:Array (Nat×Operand), (∀ x ∈ (ps.toList.map (·.2)), ρ x = ρ' x) → (ps.toList.map fun x=>(x.1, ρ x.2)) = (ps.toList.map fun x=>(x.1, ρ' x.2)):=fun ps hp =>
    List.map_congr_left fun p hm=>by rw [hp p.2 (List.mem_map.2 ⟨p, hm, rfl⟩)]
  cases op <;> simp only [Op.operands] at h <;> simp only [qaw, vmem]
  case buildSlice t n ps=>rw [pairs ps fun x hx=>h x (by simpa using hx)]
  case call c =>
    obtain ⟨callee, args, ts⟩:=c
    cases callee with
    | value f =>
      simp only [qov]
      have h1:=h f (by simp [Call.operands])
      have h2:args.toList.map ρ = args.toList.map ρ':=qbD fun x hx=>h x (by simp [Call.operands] at hx ⊢; exact .inr hx)
      rw [h1, h2]
    | builtin b =>
      have h2:args.toList.map ρ = args.toList.map ρ':=qbD fun x hx=>h x (by simp [Call.operands] at hx ⊢; exact hx)
      cases b <;> simp only [h2]
    | invoke r m=>rfl
  case makeMap t r =>
    cases r with
    | none=>rfl
    | some x=>dsimp only; rw [h x (by simp)]
  all_goals first | rfl | (simp_all; done)
end Go.Vm

/-
  Regions that draw their order: whatever the order, the same comes of it.
-/
namespace Go.Vm
open Go
theorem qqg {P:Program} {op:BinOp} {t:TypeId} {x y:V} {h h':H} {v:V} (e:vbin P op t x y h = some (v, h')):h.Same h':=by
  unfold vbin at e
  repeat' split at e
  all_goals first
    | (cases e; done)
    | (cases e; exact H.Same.refl _)
    | (cases e; exact H.test_eqs ‹_›)
theorem qiC {P:Program} {t:TypeId} {x y:V} {h h':H} {v:V} (e:qbb P t x y h = some (v, h')):h.Same h':=by
  unfold qbb at e
  repeat' split at e
  all_goals first
    | (cases e; done)
    | (cases e; exact H.test_eqs ‹_›)
theorem qnn {P:Program} {t:TypeId} {x y:V} {h h':H} {v:V} (e:qeY P t x y h = some (v, h')):h.Same h':=by
  unfold qeY at e
  repeat' split at e
  all_goals first
    | (cases e; done)
    | (cases e; exact H.test_eqs ‹_›)
    | (exact H.Same.trans (H.test_eqs ‹_›) (qpr e))
theorem qdH {v:Option V} {d t n:Nat} {h h':H} (e:qcC v d t h = some (n, h')):h.Same h':=by
  unfold qcC at e
  repeat' split at e
  all_goals first
    | (cases e; done)
    | (cases e; exact H.Same.refl _)
    | (cases e; exact H.test_eqs ‹_›)
theorem qda {len:Nat} {cap:Option Nat} {lo hi mx:Option V} {h h':H} {l g:Nat} {m:Option Nat} (e:qbp len cap lo hi mx h = some (l, g, m, h')):h.Same h':=by
  unfold qbp at e
  split at e
  · split at e
    · cases e
    · rename_i e1
      split at e
      · cases e
      · split at e
        · cases e
        · rename_i e2
          split at e
          · cases e
          · rename_i e3
            cases e
            exact (qdH e1).trans ((qdH e2).trans (qdH e3))
  · split at e
    · cases e
    · rename_i e1
      split at e
      · cases e
      · rename_i e2
        cases e
        exact (qdH e1).trans (qdH e2)
theorem qjG {a a':VA} {lo:Option V} {l n hg:Nat} {m:Option Nat} {h h':H} (e:qeh a lo l n m hg h = some (a', h')):h.Same h':=by
  unfold qeh at e
  repeat' split at e
  all_goals first
    | (cases e; done)
    | (cases e; exact H.Same.refl _)
    | (cases e; exact H.test_eqs ‹_›)
theorem qjP {mx:Option V} {m:Option Nat} {hg:Nat} {h h':H} {tip:Tip} (e:qc4 mx m hg h = some (tip, h')):h.Same h':=by
  unfold qc4 at e
  repeat' split at e
  all_goals first
    | (cases e; done)
    | (cases e; exact H.Same.refl _)
    | (cases e; exact H.test_eqs ‹_›)
theorem qnu {P:Program} {t:TypeId} {x:V} {lo hi mx:Option V} {h h':H} {v:V} (e:qgD P t x lo hi mx h = some (v, h')):h.Same h':=by
  unfold qgD at e
  split at e
  · split at e
    · cases e
    · split at e
      · cases e
      · rename_i e1
        split at e
        · cases e
        · rename_i e2
          cases e
          exact (qda e1).trans (qjG e2)
  · split at e
    · cases e
    · split at e
      · cases e
      · rename_i e1
        split at e
        · cases e
        · rename_i e2
          cases e
          exact (qda e1).trans (qjG e2)
  · split at e
    · cases e
    · split at e
      · cases e
      · rename_i e1
        cases e
        exact qda e1
  · split at e
    · cases e
    · split at e
      · cases e
      · split at e
        · cases e
        · rename_i e1
          split at e
          · cases e
          · rename_i e2
            cases e
            exact (qda e1).trans (qjP e2)
  · split at e
    · cases e
    · split at e
      · cases e
      · rename_i e1
        cases e
        exact qda e1
  · cases e
theorem qd0 {P:Program} {op:Op} {ρ:Operand → V} {h h':H} {v:V} (e:qcP P op ρ h = some (v, h')):h.Same h':=by
  unfold qcP at e
  split at e
  case h_3 =>
    repeat' split at e
    all_goals first
      | (cases e; done)
      | (cases e; exact H.test_eqs ‹_›)
  all_goals first
    | (exact qqg e)
    | (exact qnu e)
    | (exact qiC e)
    | (exact qnn e)
    | (cases e; done)
    | (cases e; exact H.Same.refl _)
    | (split at e <;> first
        | (cases e; done)
        | (cases e; exact H.Same.refl _)
        | (split at e <;> first
            | (cases e; done)
            | (cases e; exact H.Same.refl _)))
theorem qmk {ops:Array Oper} {o:Oper} {ts:List V} {h h':H} {b:Bool} (e:qaI ops o ts h = some (b, h')):h.Same h':=by
  unfold qaI at e
  repeat' split at e
  all_goals first
    | (cases e; done)
    | (cases e; exact H.Same.refl _)
    | (cases e; exact H.test_eqs ‹_›)
theorem qh7 {ops:Array Oper} {o:Oper} {ts ts':List V} {h:H} (hc:∀ j want d, o.guard = some (j, want) → (ops[j]?).bind (·.dst) = some d → getT ts d = getT ts' d):qaI ops o ts h = qaI ops o ts' h:=by
  unfold qaI
  cases hg:o.guard with
  | none=>rfl
  | some g =>
    obtain ⟨j, want⟩:=g
    dsimp only
    cases hd:(ops[j]?).bind (·.dst) with
    | none=>rfl
    | some d =>
      dsimp only
      rw [hc j want d hg hd]
theorem qft (base:Nat) (ok:Nat → Bool):∀ (l:List (Nat×Ob)) (b:Nat), look (qgK base ok l) b = (look l b).map (fun x=>if base ≤ b ∧ ok b = false then .dead else x)
  | [], b=>rfl
  | (id, x) :: r, b=>by
    simp only [qgK]
    cases hb:Nat.ble base id with
    | false =>
      have hlt:id < base:=by
        rcases Nat.lt_or_ge id base with h | h
        · exact h
        · have:=Nat.ble_eq_true_of_le h; rw [hb] at this; cases this
      by_cases hbb:base ≤ b
      · have h1:id ≠ b:=by omega
        have h2:Nat.ble id b = true:=Nat.ble_eq_true_of_le (by omega)
        simp only [look_eq, qbh h1, h2, Option.map_none]
      · have:∀ y:Option Ob, y = y.map (fun x=>if base ≤ b ∧ ok b = false then .dead else x):=by
          intro y; cases y <;> simp [hbb]
        exact this _
    | true =>
      have ih:=qft base ok r b
      have hle:=Nat.le_of_ble_eq_true hb
      simp only [look_eq]
      by_cases hib:id = b
      · subst hib
        simp only [Nat.beq_refl, Option.map_some]
        cases ok id <;> simp [hle]
      · simp only [qbh hib]
        cases Nat.ble id b with
        | true=>rfl
        | false=>exact ih
theorem qfs {lim b:Nat} (hb:b < lim) (m:List (Nat×Ob)):∀ l:List (Nat×Ob), look (qbf lim l++m) b = look m b
  | []=>rfl
  | (id, x) :: r=>by
    simp only [qbf]
    cases h:Nat.ble lim id with
    | false=>rfl
    | true =>
      have hle:=Nat.le_of_ble_eq_true h
      have h1:id ≠ b:=by omega
      have h2:Nat.ble id b = false:=by
        cases hh:Nat.ble id b with
        | false=>rfl
        | true=>have:=Nat.le_of_ble_eq_true hh; omega
      simp only [List.cons_append, look_eq, qbh h1, h2]
      exact qfs hb m r
theorem qfE {lim b:Nat} {m:List (Nat×Ob)} (hm:look m b = none) {x:Ob}:∀ l:List (Nat×Ob), look (qbf lim l++m) b = some x → look l b = some x
  | [], e=>by rw [show qbf lim []++m = m from rfl, hm] at e; cases e
  | (id, y) :: r, e=>by
    simp only [qbf] at e
    cases h:Nat.ble lim id with
    | false=>rw [h] at e; simp only [List.nil_append, hm] at e; cases e
    | true =>
      rw [h] at e
      simp only [List.cons_append, look_eq] at e ⊢
      cases hb:Nat.beq id b with
      | true=>rw [hb] at e; exact e
      | false =>
        rw [hb] at e
        cases hl:Nat.ble id b with
        | true=>rw [hl] at e; exact e
        | false=>rw [hl] at e; exact qfE hm r e
theorem qgQ {h:H} (e:qby h = true) {b:Nat} {x:Ob} (hl:look h.objs b = some x):b < h.next:=by
  unfold qby at e
  split at e
  · rename_i he; rw [he] at hl; cases hl
  · rename_i c y r he
    have hc:=Nat.le_of_ble_eq_true e
    rw [he] at hl
    simp only [look_eq] at hl
    split at hl
    · rename_i hb; have:=Nat.eq_of_beq_eq_true hb; omega
    · split at hl
      · cases hl
      · rename_i hbl
        rcases Nat.lt_or_ge b c with h | h
        · omega
        · have:=Nat.ble_eq_true_of_le h; rw [hbl] at this; cases this
theorem qkz {h:H} (e:qby h = true) {b:Nat} (hb:h.next ≤ b):look h.objs b = none:=by
  cases hl:look h.objs b with
  | none=>rfl
  | some x=>have:=qgQ e hl; omega
theorem qdO {α β:Type} (f:Array β → α → β):∀ (l:List α) (acc:Array β),
    (l.foldl (fun acc o=>acc.push (f acc o)) acc).size = acc.size + l.length ∧
    (∀ k, k < acc.size → (l.foldl (fun acc o=>acc.push (f acc o)) acc)[k]? = acc[k]?) ∧
    (∀ k o, l[k]? = some o → ∃ pre:Array β, pre.size = acc.size + k ∧ (∀ q, q < acc.size + k → pre[q]? = (l.foldl (fun acc o=>acc.push (f acc o)) acc)[q]?) ∧ (l.foldl (fun acc o=>acc.push (f acc o)) acc)[acc.size + k]? = some (f pre o))
  | [], acc=>⟨by simp, fun _ _=>rfl, fun k o e=>by simp at e⟩
  | a :: l, acc=>by
    obtain ⟨h1, h2, h3⟩:=qdO f l (acc.push (f acc a))
    simp only [List.foldl_cons, Array.size_push] at *
    refine ⟨by simp [h1]; omega, fun k hk=>by rw [h2 k (by omega), Array.getElem?_push, if_neg (by omega)], fun k o e=>?_⟩
    cases k with
    | zero =>
      simp at e; subst e
      refine ⟨acc, rfl, fun q hq=>?_, ?_⟩
      · rw [h2 q (by omega), Array.getElem?_push, if_neg (by omega)]
      · rw [Nat.add_zero, h2 acc.size (by omega), Array.getElem?_push, if_pos rfl]
    | succ k =>
      simp at e
      obtain ⟨pre, p1, p2, p3⟩:=h3 k o e
      refine ⟨pre, by omega, fun q hq=>p2 q (by omega), ?_⟩
      rw [show acc.size + (k + 1) = acc.size + 1 + k from by omega]; exact p3
theorem qiZ {acc:Array Nat} {j:Nat}:∀ (es:List Edge) (s:Nat),
    (es.foldl (fun s e=>if Region.binds .any e then s ||| 2 ^ e.on ||| acc.getD e.on 0 else s) s).testBit j = true → s.testBit j = true ∨ ∃ e ∈ es, Region.binds .any e = true ∧ (e.on = j ∨ (acc.getD e.on 0).testBit j = true)
  | [], s, h=>.inl h
  | e :: es, s, h=>by
    simp only [List.foldl_cons] at h
    rcases qiZ es _ h with h | ⟨e', he, hb, h⟩
    · split at h
      · rename_i hb
        simp only [Nat.testBit_or, Bool.or_eq_true, Nat.testBit_two_pow] at h
        rcases h with (h | h) | h
        · exact .inl h
        · exact .inr ⟨e, by simp, hb, .inl (by simpa using h)⟩
        · exact .inr ⟨e, by simp, hb, .inr h⟩
      · exact .inl h
    · exact .inr ⟨e', by simp [he], hb, h⟩
theorem qgs {ops:Array Oper} {i j:Nat} {o:Oper} (ho:ops[i]? = some o) (h:((Region.before ops).getD i 0).testBit j = true) :
    ∃ e ∈ o.after, Region.binds .any e = true ∧ (e.on = j ∨ (e.on < i ∧ ((Region.before ops).getD e.on 0).testBit j = true)):=by
  obtain ⟨_, _, h3⟩:=qdO (fun (acc:Array Nat) (o:Oper)=>o.after.foldl (fun s e=>if Region.binds .any e then s ||| 2 ^ e.on ||| acc.getD e.on 0 else s) 0) ops.toList #[]
  obtain ⟨pre, p1, p2, p3⟩:=h3 i o (by simpa using ho)
  simp only [List.size_toArray, List.length_nil, Nat.zero_add] at p1 p2 p3
  have hb:Region.before ops = ops.toList.foldl (fun acc o=>acc.push (o.after.foldl (fun s e=>if Region.binds .any e then s ||| 2 ^ e.on ||| acc.getD e.on 0 else s) 0)) #[]:=by
    unfold Region.before
    rw [← Array.foldl_toList]
  rw [← hb] at p2 p3
  have hi:(Region.before ops).getD i 0 = o.after.foldl (fun s e=>if Region.binds .any e then s ||| 2 ^ e.on ||| pre.getD e.on 0 else s) 0:=by
    rw [Array.getD_eq_getD_getElem?, p3]; rfl
  rw [hi, ← Array.foldl_toList] at h
  rcases qiZ o.after.toList 0 h with h | ⟨e, he, hbd, h⟩
  · simp at h
  · refine ⟨e, by simpa using he, hbd, ?_⟩
    rcases h with h | h
    · exact .inl h
    · rcases Nat.lt_or_ge e.on i with hlt | hge
      · refine .inr ⟨hlt, ?_⟩
        rw [Array.getD_eq_getD_getElem?] at h ⊢
        rw [← p2 e.on hlt]; exact h
      · rw [Array.getD_eq_getD_getElem?, Array.getElem?_eq_none (by omega)] at h
        simp at h
end Go.Vm

/-
  Regions that draw their order: the run in the order of the text, taken apart.
-/
namespace Go.Vm
open Go
section
variable {P:Program} {L:Lev} {ops:Array Oper} {bf:Array Nat}
inductive Kind where
  | off
  | pure
  | alone
  | quiet
  deriving DecidableEq
structure Fact (P:Program) (L:Lev) (ops:Array Oper) (bf:Array Nat) (i:Nat) (d d':D) (v:V) (o:Oper) (g:Bool) (hg:H) (k:Kind) (h2:H):Prop where
  op:ops[i]? = some o
  dfs:d'.st.dfs = d.st.dfs
  ts:d'.st.ts = putT d.st.ts o.dst v
  guard:qaI ops o d.st.ts d.st.h = some (g, hg)
  off:k = .off → g = false ∧ v = .tuple [] ∧ d'.base = d.base ∧ d'.rng = d.rng ∧ d'.st.h = hg ∧ h2 = hg
  pure:k = .pure → g = true ∧ qav o.op = false ∧ qcP P o.op (eval d.st.ts) hg = some (v, h2) ∧ d'.base = d.base ∧ d'.rng = d.rng ∧ d'.st.h = h2
  alone:k = .alone → g = true ∧ qav o.op = true ∧ Vm.alone ops bf i = true ∧ qby hg = true ∧ qaw L P o.op (eval d.st.ts) hg = some (v, h2) ∧ hg.next ≤ h2.next ∧ d'.base = h2.next ∧ d'.rng = [] ∧ d'.st.h = { h2 with ro:=hg.ro }
  quiet:k = .quiet → g = true ∧ qav o.op = true ∧ Vm.alone ops bf i = false ∧ qby hg = true ∧ qaw L P o.op (eval d.st.ts) (qaB bf i d hg) = some (v, h2) ∧ hg.next ≤ h2.next ∧ d'.base = d.base ∧ d'.rng = (i, hg.next, h2.next) :: d.rng ∧
    d'.st.h = { h2 with ro:=hg.ro, objs:=qbf hg.next h2.objs++hg.objs }
theorem qqw {i:Nat} {d d':D} {v:V} (e:stepD P L ops bf i d = some (v, d')):∃ o g hg k h2, Fact P L ops bf i d d' v o g hg k h2:=by
  rw [qlh] at e
  split at e
  · cases e
  · rename_i o ho
    split at e
    · cases e
    · rename_i hg hgd
      cases e
      exact ⟨o, false, hg, .off, hg, ho, rfl, rfl, hgd, fun _=>⟨rfl, rfl, rfl, rfl, rfl, rfl⟩, (fun e=>by cases e), (fun e=>by cases e), (fun e=>by cases e)⟩
    · rename_i hg hgd
      split at e
      · rename_i hp
        split at e
        · cases e
        · rename_i v' h' hv
          cases e
          exact ⟨o, true, hg, .pure, h', ho, rfl, rfl, hgd, (fun e=>by cases e), fun _=>⟨rfl, hp, hv, rfl, rfl, rfl⟩, (fun e=>by cases e), (fun e=>by cases e)⟩
      · rename_i hp
        rw [qk1] at e
        split at e
        · rename_i hd hal
          split at e
          · cases e
          · rename_i v' h2 hm
            split at e
            · rename_i hle
              cases e
              exact ⟨o, true, hg, .alone, h2, ho, rfl, rfl, hgd, (fun e=>by cases e), (fun e=>by cases e), fun _=>⟨rfl, hp, hal, hd, hm, Nat.le_of_ble_eq_true hle, rfl, rfl, rfl⟩, (fun e=>by cases e)⟩
            · cases e
        · rename_i hd hal
          split at e
          · cases e
          · rename_i v' h2 hm
            split at e
            · rename_i hle
              cases e
              exact ⟨o, true, hg, .quiet, h2, ho, rfl, rfl, hgd, (fun e=>by cases e), (fun e=>by cases e), (fun e=>by cases e), fun _=>⟨rfl, hp, hal, hd, hm, Nat.le_of_ble_eq_true hle, rfl, rfl, rfl⟩⟩
            · cases e
        · cases e
structure Run (P:Program) (L:Lev) (ops:Array Oper) (bf:Array Nat) (n:Nat) where
  d:Nat → D
  v:Nat → V
  o:Nat → Oper
  g:Nat → Bool
  hg:Nat → H
  k:Nat → Kind
  h2:Nat → H
  fact:∀ i, i < n → Fact P L ops bf i (d i) (d (i + 1)) (v i) (o i) (g i) (hg i) (k i) (h2 i)
theorem qfH:∀ (m s:Nat) (d0 d1:D), qeQ P L ops bf (List.range' s m) d0 = some d1 → ∃ (ds:Nat → D) (vs:Nat → V), ds s = d0 ∧ ds (s + m) = d1 ∧ ∀ i, s ≤ i → i < s + m → stepD P L ops bf i (ds i) = some (vs i, ds (i + 1))
  | 0, s, d0, d1, e=>by
    simp only [List.range'_zero, qeQ, Option.some.injEq] at e
    subst e
    exact ⟨fun _=>d0, fun _=>.bot, rfl, rfl, fun i h1 h2=>by omega⟩
  | m + 1, s, d0, d1, e=>by
    simp only [List.range'_succ, qeQ] at e
    split at e
    · cases e
    · rename_i v d hs
      obtain ⟨ds, vs, h1, h2, h3⟩:=qfH m (s + 1) d d1 e
      refine ⟨fun i=>if i = s then d0 else ds i, fun i=>if i = s then v else vs i, by simp, ?_, ?_⟩
      · simp only
        rw [if_neg (by omega), show s + (m + 1) = s + 1 + m from by omega]; exact h2
      · intro i hi1 hi2
        by_cases his:i = s
        · subst his
          simp only [if_true]
          rw [if_neg (by omega), h1]; exact hs
        · simp only [if_neg his]
          rw [if_neg (by omega)]
          exact h3 i (by omega) (by omega)
theorem qrR {n:Nat} {d0 d1:D} (e:qeQ P L ops bf (List.range n) d0 = some d1):∃ r:Run P L ops bf n, r.d 0 = d0 ∧ r.d n = d1:=by
  rw [List.range_eq_range'] at e
  obtain ⟨ds, vs, h1, h2, h3⟩:=qfH n 0 d0 d1 e
  have hf:∀ i, ∃ x:Oper×Bool×H×Kind×H, i < n → Fact P L ops bf i (ds i) (ds (i + 1)) (vs i) x.1 x.2.1 x.2.2.1 x.2.2.2.1 x.2.2.2.2:=by
    intro i
    by_cases hi:i < n
    · obtain ⟨o, g, hg, k, h2, f⟩:=qqw (h3 i (by omega) (by omega))
      exact ⟨(o, g, hg, k, h2), fun _=>f⟩
    · exact ⟨(default, false, d0.st.h, .off, d0.st.h), fun h=>absurd h hi⟩
  refine ⟨⟨ds, vs, fun i=>(Classical.choose (hf i)).1, fun i=>(Classical.choose (hf i)).2.1, fun i=>(Classical.choose (hf i)).2.2.1, fun i=>(Classical.choose (hf i)).2.2.2.1, fun i=>(Classical.choose (hf i)).2.2.2.2, fun i hi=>Classical.choose_spec (hf i) hi⟩, h1, by simpa using h2⟩
namespace Run
variable {n:Nat} (r:Run P L ops bf n)
def nx (i:Nat):Nat:=(r.d i).st.h.next
theorem same {i:Nat} (hi:i < n):(r.d i).st.h.Same (r.hg i):=qmk (r.fact i hi).guard
theorem kinds (k:Kind):k = .off ∨ k = .pure ∨ k = .alone ∨ k = .quiet:=by cases k <;> simp
theorem nx_step {i:Nat} (hi:i < n):r.nx i ≤ r.nx (i + 1):=by
  have f:=r.fact i hi
  have s:=r.same hi
  unfold nx
  rcases kinds (r.k i) with hk | hk | hk | hk
  · obtain ⟨_, _, _, _, h, _⟩:=f.off hk
    rw [h, s.1]; exact Nat.le_refl _
  · obtain ⟨_, _, hv, _, _, h⟩:=f.pure hk
    rw [h, (qd0 hv).1, s.1]; exact Nat.le_refl _
  · obtain ⟨_, _, _, _, _, hle, _, _, h⟩:=f.alone hk
    rw [h, ← s.1]; exact hle
  · obtain ⟨_, _, _, _, _, hle, _, _, h⟩:=f.quiet hk
    rw [h, ← s.1]; exact hle
theorem nx_mono {i j:Nat} (hij:i ≤ j) (hj:j ≤ n):r.nx i ≤ r.nx j:=by
  induction j with
  | zero => have : i = 0 := by omega
            subst this; exact Nat.le_refl _
  | succ j ih =>
    rcases Nat.lt_or_ge i (j + 1) with h | h
    · exact Nat.le_trans (ih (by omega) (by omega)) (r.nx_step (by omega))
    · have:i = j + 1:=by omega
      subst this; exact Nat.le_refl _
theorem ro_eq {i:Nat} (hi:i ≤ n):(r.d i).st.h.ro = (r.d 0).st.h.ro:=by
  induction i with
  | zero=>rfl
  | succ i ih =>
    have hi':i < n:=by omega
    have f:=r.fact i hi'
    have s:=r.same hi'
    rw [← ih (by omega)]
    rcases kinds (r.k i) with hk | hk | hk | hk
    · obtain ⟨_, _, _, _, h, _⟩:=f.off hk
      rw [h, s.2.1]
    · obtain ⟨_, _, hv, _, _, h⟩:=f.pure hk
      rw [h, (qd0 hv).2.1, s.2.1]
    · obtain ⟨_, _, _, _, _, hle, _, _, h⟩:=f.alone hk
      rw [h, ← s.2.1]
    · obtain ⟨_, _, _, _, _, hle, _, _, h⟩:=f.quiet hk
      rw [h, ← s.2.1]
theorem dfs_eq {i:Nat} (hi:i ≤ n):(r.d i).st.dfs = (r.d 0).st.dfs:=by
  induction i with
  | zero=>rfl
  | succ i ih=>rw [(r.fact i (by omega)).dfs, ih (by omega)]
theorem getT_put_ne {ts:List V} {dst:Option Tmp} {v:V} {t:Nat} (h:dst ≠ some t):getT (putT ts dst v) t = getT ts t:=by
  cases dst with
  | none=>rfl
  | some d =>
    have:d ≠ t:=fun e=>h (by rw [e])
    simp only [qa8, qbI, List.getElem?_set, if_neg this]
theorem getT_put_eq {ts:List V} {v:V} {t:Nat} (h:t < ts.length):getT (putT ts (some t) v) t = v:=by
  simp only [qa8, qbI, List.getElem?_set, if_true, if_pos h]
theorem len_eq {i:Nat} (hi:i ≤ n):(r.d i).st.ts.length = (r.d 0).st.ts.length:=by
  induction i with
  | zero=>rfl
  | succ i ih =>
    rw [(r.fact i (by omega)).ts, ← ih (by omega)]
    cases (r.o i).dst <;> simp [qa8, qeS]
def Once:Prop:=∀ i j, i < n → j < n → ∀ t, (r.o i).dst = some t → (r.o j).dst = some t → i = j
theorem slot_before {t:Nat} {i:Nat} (hi:i ≤ n) (h:∀ j, j < i → (r.o j).dst ≠ some t):getT (r.d i).st.ts t = getT (r.d 0).st.ts t:=by
  induction i with
  | zero=>rfl
  | succ i ih =>
    rw [(r.fact i (by omega)).ts, getT_put_ne (h i (by omega))]
    exact ih (by omega) (fun j hj=>h j (by omega))
theorem slot_after (ho:r.Once) {t:Nat} {j i:Nat} (hj:(r.o j).dst = some t) (hji:j < i) (hi:i ≤ n) (ht:t < (r.d 0).st.ts.length):getT (r.d i).st.ts t = r.v j:=by
  induction i with
  | zero=>omega
  | succ i ih =>
    rw [(r.fact i (by omega)).ts]
    by_cases h:j = i
    · subst h
      rw [hj, getT_put_eq (by rw [r.len_eq (by omega)]; exact ht)]
    · rw [getT_put_ne]
      · exact ih (by omega) (by omega)
      · intro e
        exact h (ho j i (by omega) (by omega) t hj e)
def Calm (s i:Nat):Prop:=∀ j, s ≤ j → j < i → r.k j ≠ .alone
theorem base_eq {s i:Nat} (hc:r.Calm s i) (hsi:s ≤ i) (hi:i ≤ n):(r.d i).base = (r.d s).base:=by
  induction i with
  | zero => have : s = 0 := by omega
            subst this; rfl
  | succ i ih =>
    rcases Nat.lt_or_ge s (i + 1) with h | h
    · have hi':i < n:=by omega
      have f:=r.fact i hi'
      rw [← ih (fun j h1 h2=>hc j h1 (by omega)) (by omega) (by omega)]
      rcases kinds (r.k i) with hk | hk | hk | hk
      · exact (f.off hk).2.2.1
      · exact (f.pure hk).2.2.2.1
      · exact absurd hk (hc i (by omega) (by omega))
      · exact (f.quiet hk).2.2.2.2.2.2.1
    · have:s = i + 1:=by omega
      subst this; rfl
theorem look_phase {s i:Nat} (hc:r.Calm s i) (hsi:s ≤ i) (hi:i ≤ n) {b:Nat} {x:Ob} (hl:look (r.d i).st.h.objs b = some x) (hb:b < r.nx i) :
    (b < r.nx s ∧ look (r.d s).st.h.objs b = some x) ∨ ∃ j, s ≤ j ∧ j < i ∧ r.k j = Kind.quiet ∧ r.nx j ≤ b ∧ b < r.nx (j + 1) ∧ look (r.h2 j).objs b = some x:=by
  induction i with
  | zero => have : s = 0 := by omega
            subst this; exact .inl ⟨hb, hl⟩
  | succ i ih =>
    rcases Nat.lt_or_ge s (i + 1) with h | h
    · have hi':i < n:=by omega
      have f:=r.fact i hi'
      have sm:=r.same hi'
      have ih':=ih (fun j h1 h2=>hc j h1 (by omega)) (by omega) (by omega)
      have lift:look (r.d i).st.h.objs b = some x → b < r.nx i → _:=fun h1 h2=>(ih' h1 h2).imp id (fun ⟨j, a, b', c⟩=>(⟨j, a, by omega, c⟩:∃ j, s ≤ j ∧ j < i + 1 ∧ r.k j = Kind.quiet ∧ r.nx j ≤ b ∧ b < r.nx (j + 1) ∧ look (r.h2 j).objs b = some x))
      rcases kinds (r.k i) with hk | hk | hk | hk
      · obtain ⟨_, _, _, _, he, _⟩:=f.off hk
        unfold nx at hb
        rw [he] at hl hb
        rw [sm.2.2] at hl
        rw [sm.1] at hb
        exact lift hl hb
      · obtain ⟨_, _, hv, _, _, he⟩:=f.pure hk
        unfold nx at hb
        rw [he] at hl hb
        rw [(qd0 hv).2.2, sm.2.2] at hl
        rw [(qd0 hv).1, sm.1] at hb
        exact lift hl hb
      · exact absurd hk (hc i (by omega) (by omega))
      · obtain ⟨_, _, _, hd, hm, hle, _, _, he⟩:=f.quiet hk
        rw [he] at hl
        dsimp only at hl
        rcases Nat.lt_or_ge b (r.hg i).next with h1 | h1
        · rw [qfs h1, sm.2.2] at hl
          exact lift hl (by unfold nx; rw [← sm.1]; exact h1)
        · have hn:=qkz hd h1
          have hlk:=qfE hn _ hl
          exact .inr ⟨i, by omega, by omega, hk, by unfold nx; rw [← sm.1]; exact h1, hb, hlk⟩
    · have:s = i + 1:=by omega
      subst this; exact .inl ⟨hb, hl⟩
theorem rng_spec {s i:Nat} (hc:r.Calm s i) (hsi:s ≤ i) (hi:i ≤ n) (h0:(r.d s).rng = []) {x:Nat×Nat×Nat} (hx:x ∈ (r.d i).rng) :
    ∃ j, s ≤ j ∧ j < i ∧ r.k j = Kind.quiet ∧ x = (j, r.nx j, r.nx (j + 1)):=by
  induction i with
  | zero => have : s = 0 := by omega
            subst this; rw [h0] at hx; cases hx
  | succ i ih =>
    rcases Nat.lt_or_ge s (i + 1) with h | h
    · have hi':i < n:=by omega
      have f:=r.fact i hi'
      have sm:=r.same hi'
      have ih':=ih (fun j h1 h2=>hc j h1 (by omega)) (by omega) (by omega)
      have lift:x ∈ (r.d i).rng → _:=fun h=>(ih' h).imp (fun j ⟨a, b, c⟩=>(⟨a, by omega, c⟩:s ≤ j ∧ j < i + 1 ∧ r.k j = Kind.quiet ∧ x = (j, r.nx j, r.nx (j + 1))))
      rcases kinds (r.k i) with hk | hk | hk | hk
      · rw [(f.off hk).2.2.2.1] at hx; exact lift hx
      · rw [(f.pure hk).2.2.2.2.1] at hx; exact lift hx
      · exact absurd hk (hc i (by omega) (by omega))
      · obtain ⟨_, _, _, hd, hm, hle, _, hr, he⟩:=f.quiet hk
        rw [hr] at hx
        rcases List.mem_cons.1 hx with rfl | hx
        · exact ⟨i, by omega, by omega, hk, by unfold nx; rw [he, ← sm.1]⟩
        · exact lift hx
    · have:s = i + 1:=by omega
      subst this; rw [h0] at hx; cases hx
end Run
end
end Go.Vm

/-
  Regions that draw their order: what holds when some of their operations are done.
-/
namespace Go.Vm
open Go
def cut (φ:Map) (m:Nat):Map:={ nm:=fun b=>if b < m then φ b else none, fz:=φ.fz, tp:=fun b=>if b < m then φ.tp b else none, base:=φ.base }
theorem qcF {φ:Map} {m b:Nat} {k:Nat×Nat×Nat} (h:cut φ m b = some k):b < m ∧ φ b = some k:=by
  simp only [cut] at h
  split at h
  · exact ⟨‹_›, h⟩
  · cases h
theorem qhW {φ:Map} {m b:Nat} {k:Nat×Nat×Nat} (hb:b < m) (h:φ b = some k):cut φ m b = some k:=by
  simp only [cut]; rw [if_pos hb]; exact h
theorem qgO {φ:Map} {m b:Nat} {k:Option (Nat×Nat×Nat)} (h:(cut φ m).tp b = some k):b < m ∧ φ.tp b = some k:=by
  simp only [cut] at h
  split at h
  · exact ⟨‹_›, h⟩
  · cases h
theorem qc0 {φ:Map} {m b:Nat} {k:Option (Nat×Nat×Nat)} (hb:b < m) (h:φ.tp b = some k):(cut φ m).tp b = some k:=by
  simp only [cut]; rw [if_pos hb]; exact h
theorem qi3 (φ:Map) (m:Nat):(cut φ m).le φ:=⟨fun _ _ h=>(qcF h).2, Frozen.le_refl _, fun _ _ h=>(qgO h).2, rfl⟩
theorem qbm {φ ψ:Map} {m m':Nat} (h:φ.le ψ) (hm:m ≤ m'):(cut φ m).le (cut ψ m'):=⟨fun b k e=>by
  obtain ⟨h1, h2⟩:=qcF e
  exact qhW (by omega) (h b k h2), h.fz, fun b k e=>by
  obtain ⟨h1, h2⟩:=qgO e
  exact qc0 (by omega) (h.tp b k h2), h.base⟩
def qr9 (φ:Map) (w:World) (b:Nat):Prop :=
  ∃ m, φ.tp b = some m ∧ ∀ blk en sz, m = some (blk, en, sz) → (∃ c, φ.fz blk = some c ∧ c.size = en) ∧ ∃ cs t, w.heap[blk]? = some (.cells cs t (0, 0)) ∧ cs.size = sz
section
variable {P:Program} {L:Lev} {ops:Array Oper} {bf:Array Nat} {n:Nat}
structure Static (r:Run P L ops bf n):Prop where
  edges:∀ i, i < n → ∀ e ∈ (r.o i).after, Region.binds .any e = true → e.on < i
  bits:∀ i, i < n → ∀ j, (bf.getD i 0).testBit j = true → ∃ e ∈ (r.o i).after, Region.binds .any e = true ∧ (e.on = j ∨ (e.on < i ∧ (bf.getD e.on 0).testBit j = true))
  guards:∀ i, i < n → ∀ j w, (r.o i).guard = some (j, w) → (bf.getD i 0).testBit j = true
  once:r.Once
  names:∀ i j, i < n → j < n → ∀ t, (r.o i).dst = some t → t ∈ qbe (r.o j) → i = j ∨ inOrder bf i j = true
  all:n = ops.size
theorem qfe {i j:Nat} (h:inOrder bf i j = true) (hij:i < j):(bf.getD j 0).testBit i = true:=by
  unfold inOrder at h
  rw [Nat.ble_eq_true_of_le (Nat.le_of_lt hij)] at h
  simp only [Bool.or_eq_true] at h
  rcases h with h | h
  · have:=Nat.eq_of_beq_eq_true h; omega
  · exact h
theorem qhO {i j:Nat} (h:inOrder bf i j = true) (hij:j < i):(bf.getD i 0).testBit j = true:=by
  unfold inOrder at h
  split at h
  · rename_i hb
    have:=Nat.le_of_ble_eq_true hb
    omega
  · exact h
theorem qeM {i j:Nat} {o:Oper} (h:Vm.alone ops bf i = true) (ho:ops[j]? = some o) (hp:qav o.op = true):inOrder bf i j = true:=by
  unfold Vm.alone at h
  rw [List.all_eq_true] at h
  have hj:j ∈ List.range ops.size:=by
    rw [List.mem_range]
    exact (Array.getElem?_eq_some_iff.1 ho).1
  have:=h j hj
  simp only [ho, hp, Bool.not_true, Bool.false_or] at this
  exact this
variable (r:Run P L ops bf n)
def Live (s:Nat) (Dn:Nat → Prop) (b:Nat) (x:Ob):Prop :=
  (b < r.nx s ∧ live (look (r.d s).st.h.objs b) = some x) ∨
  ∃ j, s ≤ j ∧ j < n ∧ Dn j ∧ r.k j = Kind.quiet ∧ r.nx j ≤ b ∧ b < r.nx (j + 1) ∧ live (look (r.h2 j).objs b) = some x
structure Inv (φ0:Map) (w0:World) (df:List Deferred) (s:Nat) (Dn:Nat → Prop) (φ:Map) (a:Act) (w:World):Prop where
  sn:s ≤ n
  rng:(r.d s).rng = []
  base:(r.d s).base = r.nx s
  before:∀ j, j < s → qav (r.o j).op = true → Dn j
  alones:∀ j, Dn j → r.k j = Kind.alone → j < s
  closed:∀ i, Dn i → ∀ j, (bf.getD i 0).testBit j = true → Dn j
  bound:∀ i, Dn i → i < n
  tmps:a.tmps.size = (r.d 0).st.ts.length
  slotIn:∀ t j, t < (r.d 0).st.ts.length → (r.o j).dst = some t → Dn j → VRel (cut φ (r.nx (j + 1))) (r.v j) (a.tmps.getD t undef)
  slotOut:∀ t, t < (r.d 0).st.ts.length → (∀ j, Dn j → (r.o j).dst ≠ some t) → VRel (cut φ (r.nx 0)) (getT (r.d 0).st.ts t) (a.tmps.getD t undef)
  defers:a.defers = df
  live1:∀ b x, b < r.nx s → live (look (r.d s).st.h.objs b) = some x → x ≠ .tip → ∃ k o, φ b = some k ∧ w.heap[k.1]? = some o ∧ ObRel (cut φ (r.nx s)) (Nat.ble (r.d 0).st.h.ro b) k.2 x o
  live2:∀ j b x, s ≤ j → Dn j → r.k j = Kind.quiet → r.nx j ≤ b → b < r.nx (j + 1) → live (look (r.h2 j).objs b) = some x → x ≠ .tip → ∃ k o, φ b = some k ∧ w.heap[k.1]? = some o ∧ ObRel (cut φ (r.nx (j + 1))) (Nat.ble (r.d 0).st.h.ro b) k.2 x o
  inj:∀ b b' x x' k k', Live r s Dn b x → Live r s Dn b' x' → (r.d 0).st.h.ro ≤ b → b ≠ b' → φ b = some k → φ b' = some k' → k.1 ≠ k'.1
  dom:∀ b k, φ b = some k → k.1 < w.heap.size ∧ (b < r.nx s ∨ ∃ j, s ≤ j ∧ Dn j ∧ r.k j = Kind.quiet ∧ r.nx j ≤ b ∧ b < r.nx (j + 1))
  rle:(r.d 0).st.h.ro ≤ r.nx 0
  le:φ0.le φ
  fresh:∀ b k, φ b = some k → φ0 b = some k ∨ (r.nx 0 ≤ b ∧ (w0.heap.size ≤ k.1 ∨ ∃ c k', (r.d 0).st.h.ro ≤ c ∧ φ0 c = some k' ∧ k'.1 = k.1))
  size:w0.heap.size ≤ w.heap.size
  frame:∀ k, k < w0.heap.size → (∀ b k', (r.d 0).st.h.ro ≤ b → φ0 b = some k' → k'.1 ≠ k) → (∀ b e, (r.d 0).st.h.ro ≤ b → (r.d 0).st.h.get b = some .tip → φ0.tp b = some (some e) → e.1 ≠ k) → w.heap[k]? = w0.heap[k]?
  fz:∀ k c, φ.fz k = some c → ∃ cs t z, w.heap[k]? = some (.cells cs t z) ∧ Begins c cs
  own:∀ b x k, Live r s Dn b x → φ b = some k → φ.fz k.1 = none
  ltip:∀ b, Live r s Dn b .tip → qr9 φ w b
  tinj:∀ b b' m m', Live r s Dn b .tip → Live r s Dn b' .tip → b ≠ b' → φ.tp b = some (some m) → φ.tp b' = some (some m') → m.1 ≠ m'.1
  tdom:∀ b m, φ.tp b = some m → b < r.nx s ∨ ∃ j, s ≤ j ∧ Dn j ∧ r.k j = Kind.quiet ∧ r.nx j ≤ b ∧ b < r.nx (j + 1)
  tfresh:∀ b m, φ.tp b = some m → φ0.tp b = some m ∨ (r.nx 0 ≤ b ∧ ∀ e, m = some e → w0.heap.size ≤ e.1 ∨ ∃ c e', (r.d 0).st.h.ro ≤ c ∧ (r.d 0).st.h.get c = some .tip ∧ φ0.tp c = some (some e') ∧ e'.1 = e.1)
  tlive:∀ b m, φ0.tp b = some m → Live r s Dn b .tip → (r.d 0).st.h.get b = some .tip
  ffresh:∀ k c, φ.fz k = some c → k < w0.heap.size → φ0.fz k = some c ∨ qkk φ0 (r.d 0).st.h k
  os:w.os = w0.os
  tape:w.tape = w0.tape
  output:w.output = w0.output
def qbY (o:Oper) (gd:Option Nat) (ts:List V):List V :=
  (List.range ts.length).map fun t=>if (qbe o).contains t || gd == some t then getT ts t else .bot
theorem qjk {o:Oper} {gd:Option Nat} {ts:List V} {t:Nat} (h:t ∈ qbe o ∨ gd = some t):getT (qbY o gd ts) t = getT ts t:=by
  rcases Nat.lt_or_ge t ts.length with ht | ht
  · have:(qbY o gd ts)[t]? = some (if (qbe o).contains t || gd == some t then getT ts t else .bot):=by
      simp [qbY, ht]
    rw [qbI (qbY o gd ts), this]
    have hc:((qbe o).contains t || gd == some t) = true:=by
      rcases h with h | h
      · simp [h]
      · simp [h]
    simp only [hc, if_true]
  · have h1:(qbY o gd ts)[t]? = none:=List.getElem?_eq_none (by simp [qbY]; exact ht)
    have h2:ts[t]? = none:=List.getElem?_eq_none ht
    simp only [qbI, h1, h2]
theorem qnh {o:Oper} {gd:Option Nat} {ts:List V}:∀ x ∈ o.op.operands, eval ts x = eval (qbY o gd ts) x:=by
  intro x hx
  cases x with
  | tmp t =>
    simp only [eval]
    rw [qjk]
    left
    exact List.mem_filterMap.2 ⟨.tmp t, by simpa using hx, rfl⟩
  | const v=>rfl
  | global g=>rfl
  | func f=>rfl
def qaD (ops:Array Oper) (o:Oper):Option Nat :=
  match o.guard with
  | none=>none
  | some (j, _)=>(ops[j]?).bind (·.dst)
variable {r}
theorem qpw {ts:List V} {t:Nat} {v:V} (h:ts[t]? = some v):getT ts t = v:=by simp [qbI, h]
theorem Inv.mask {φ0:Map} {w0:World} {df:List Deferred} {s:Nat} {Dn:Nat → Prop} {φ:Map} {a:Act} {w:World} (hI:Inv r φ0 w0 df s Dn φ a w) (hS:Static r) {i:Nat} (hi:i < n) (hni:¬ Dn i)
    (hanc:∀ j, (bf.getD i 0).testBit j = true → Dn j) :
    VRels (cut φ (r.nx i)) (qbY (r.o i) (qaD ops (r.o i)) (r.d i).st.ts) a.tmps.toList:=by
  have hlen:=r.len_eq (Nat.le_of_lt hi)
  refine VRels.of_get (by simp [qbY, hlen, hI.tmps]) fun t v x hv hx=>?_
  have ht:t < (r.d 0).st.ts.length:=by
    have:=(Array.getElem?_eq_some_iff.1 (show a.tmps[t]? = some x by simpa using hx)).1
    rw [hI.tmps] at this; exact this
  have hxg:a.tmps.getD t undef = x:=by
    have:a.tmps[t]? = some x:=by simpa using hx
    rw [Array.getD_eq_getD_getElem?, this]; rfl
  have hvv:v = if (qbe (r.o i)).contains t || qaD ops (r.o i) == some t then getT (r.d i).st.ts t else .bot:=by
    have:(qbY (r.o i) (qaD ops (r.o i)) (r.d i).st.ts)[t]? = some (if (qbe (r.o i)).contains t || qaD ops (r.o i) == some t then getT (r.d i).st.ts t else .bot):=by
      simp [qbY, hlen, ht]
    rw [this] at hv; cases hv; rfl
  by_cases hc:((qbe (r.o i)).contains t || qaD ops (r.o i) == some t) = true
  · rw [if_pos hc] at hvv
    rw [hvv, ← hxg]
    -- who writes t
    by_cases hw:∃ j, j < n ∧ (r.o j).dst = some t
    · obtain ⟨j, hj, hjd⟩:=hw
      have hord:j = i ∨ (j < i → (bf.getD i 0).testBit j = true) ∧ (i < j → (bf.getD j 0).testBit i = true):=by
        simp only [Bool.or_eq_true] at hc
        rcases hc with hc | hc
        · have hm:t ∈ qbe (r.o i):=by simpa using hc
          rcases hS.names j i hj hi t hjd hm with e | e
          · exact .inl e
          · exact .inr ⟨fun h=>qfe e h, fun h=>qhO e h⟩
        · have hg:qaD ops (r.o i) = some t:=by simpa using hc
          unfold qaD at hg
          split at hg
          · cases hg
          · rename_i g wnt hgg
            have hbit:=hS.guards i hi g wnt hgg
            have hgn:=hI.bound g (hanc g hbit)
            have hgo:=(r.fact g hgn).op
            rw [hgo] at hg
            have hgj:g = j:=hS.once g j hgn hj t hg hjd
            subst hgj
            rcases Nat.lt_or_ge g i with h | h
            · exact .inr ⟨fun _=>hbit, fun h'=>by omega⟩
            · rcases Nat.lt_or_ge i g with h' | h'
              · -- what comes before stands before in the text
                exfalso
                have hlt:∀ m, m ≤ i → ∀ q, (bf.getD m 0).testBit q = true → q < m ∨ ¬ m < n:=by
                  intro m
                  induction m using Nat.strongRecOn with
                  | _ m ih =>
                    intro hm q hq
                    rcases Nat.lt_or_ge m n with hmn | hmn
                    · obtain ⟨e, he, hb, h1⟩:=hS.bits m hmn q hq
                      have hel:=hS.edges m hmn e he hb
                      rcases h1 with h1 | ⟨h1, h2⟩
                      · left; omega
                      · rcases ih e.on hel (by omega) q h2 with h3 | h3
                        · left; omega
                        · exact absurd (show e.on < n by omega) h3
                    · right; omega
                rcases hlt i (Nat.le_refl _) g hbit with h3 | h3
                · omega
                · exact h3 hi
              · left; omega
      rcases hord with rfl | ⟨h1, h2⟩
      · -- its own slot, not yet written
        rw [r.slot_before (Nat.le_of_lt hi) (fun q hq e=>by have:=hS.once q j (by omega) hj t e hjd; omega)]
        refine (hI.slotOut t ht fun q hq e=>?_).mono (qbm (Map.le_refl _) (r.nx_mono (Nat.zero_le _) (Nat.le_of_lt hi)))
        have:=hS.once q j (hI.bound q hq) hj t e hjd
        subst this
        exact hni hq
      · rcases Nat.lt_trichotomy j i with hlt | heq | hgt
        · rw [r.slot_after hS.once hjd hlt (Nat.le_of_lt hi) ht]
          exact (hI.slotIn t j ht hjd (hanc j (h1 hlt))).mono (qbm (Map.le_refl _) (r.nx_mono hlt (Nat.le_of_lt hi)))
        · subst heq
          rw [r.slot_before (Nat.le_of_lt hi) (fun q hq e=>by have:=hS.once q j (by omega) hj t e hjd; omega)]
          refine (hI.slotOut t ht fun q hq e=>?_).mono (qbm (Map.le_refl _) (r.nx_mono (Nat.zero_le _) (Nat.le_of_lt hi)))
          have:=hS.once q j (hI.bound q hq) hj t e hjd
          subst this
          exact hni hq
        · rw [r.slot_before (Nat.le_of_lt hi) (fun q hq e=>by have:=hS.once q j (by omega) hj t e hjd; omega)]
          refine (hI.slotOut t ht fun q hq e=>?_).mono (qbm (Map.le_refl _) (r.nx_mono (Nat.zero_le _) (Nat.le_of_lt hi)))
          have:=hS.once q j (hI.bound q hq) hj t e hjd
          subst this
          exact hni (hI.closed q hq i (h2 hgt))
    · rw [r.slot_before (Nat.le_of_lt hi) (fun q hq e=>hw ⟨q, by omega, e⟩)]
      exact (hI.slotOut t ht fun q hq e=>hw ⟨q, hI.bound q hq, e⟩).mono (qbm (Map.le_refl _) (r.nx_mono (Nat.zero_le _) (Nat.le_of_lt hi)))
  · rw [if_neg hc] at hvv
    subst hvv
    exact .bot _
end
end Go.Vm

/-
  Regions that draw their order: one operation more is done.
-/
namespace Go.Vm
open Go
section
variable {P:Program} {L:Lev} {ops:Array Oper} {bf:Array Nat} {n:Nat} {r:Run P L ops bf n}
theorem Run.step_holds (hL:LevOk P L) {i:Nat} (hi:i < n) (h:(r.d (i + 1)).st.h.Holds):(r.d i).st.h.Holds ∧ (r.hg i).Holds ∧ (r.h2 i).Holds:=by
  have f:=r.fact i hi
  have mem:∀ {op:Op} {ρ:Operand → V} {h0 h1:H} {v:V}, qaw L P op ρ h0 = some (v, h1) → h1.Holds → h0.Holds:=by
    intro op ρ h0 h1 v e hh
    unfold qaw at e
    split at e
    · simp only [qov] at e
      split at e
      · exact (hL.call _ _ _ _ _ e hh).1
      · exact (hL.yield _ _ _ _ _ e hh).1
      · cases e
    · exact (qid e).holds hh
  have g0:(r.hg i).Holds → (r.d i).st.h.Holds:=fun hh=>(qme f.guard).holds hh
  rcases Run.kinds (r.k i) with hk | hk | hk | hk
  · obtain ⟨_, _, _, _, he, h2⟩:=f.off hk
    have hh:(r.hg i).Holds:=by rw [← he]; exact h
    exact ⟨g0 hh, hh, by rw [h2]; exact hh⟩
  · obtain ⟨_, _, hv, _, _, he⟩:=f.pure hk
    have hh2:(r.h2 i).Holds:=by rw [← he]; exact h
    have hh:=(qf5 hv).holds hh2
    exact ⟨g0 hh, hh, hh2⟩
  · obtain ⟨_, _, _, _, hm, _, _, _, he⟩:=f.alone hk
    have hh2:(r.h2 i).Holds:=by rw [he] at h; exact h
    have hh:=mem hm hh2
    exact ⟨g0 hh, hh, hh2⟩
  · obtain ⟨_, _, _, _, hm, _, _, _, he⟩:=f.quiet hk
    have hh2:(r.h2 i).Holds:=by rw [he] at h; exact h
    have hh1:(qaB bf i (r.d i) (r.hg i)).Holds:=mem hm hh2
    have hh:(r.hg i).Holds:=hh1
    exact ⟨g0 hh, hh, hh2⟩
theorem Run.holds (hL:LevOk P L) (h:(r.d n).st.h.Holds) {i:Nat} (hi:i ≤ n):(r.d i).st.h.Holds:=by
  have:∀ m, m ≤ n → (r.d (n - m)).st.h.Holds:=by
    intro m
    induction m with
    | zero=>intro _; exact h
    | succ m ih =>
      intro hm
      have h1:=ih (by omega)
      have:n - m = n - (m + 1) + 1:=by omega
      rw [this] at h1
      exact (r.step_holds hL (by omega) h1).1
  have:=this (n - i) (by omega)
  rwa [show n - (n - i) = i from by omega] at this
variable {φ0:Map} {w0:World} {df:List Deferred} {s:Nat} {Dn:Nat → Prop} {φ:Map} {a:Act} {w:World}
theorem qfb (hI:Inv r φ0 w0 df s Dn φ a w) (hS:Static r) {i:Nat} (hi:i < n) (hni:¬ Dn i) {ψ:Map} (hle:φ.le ψ) {x:Value} (hx:VRel (cut ψ (r.nx (i + 1))) (r.v i) x) :
    (a.put (r.o i).dst x).tmps.size = (r.d 0).st.ts.length ∧
    (∀ t j, t < (r.d 0).st.ts.length → (r.o j).dst = some t → (Dn j ∨ j = i) → VRel (cut ψ (r.nx (j + 1))) (r.v j) ((a.put (r.o i).dst x).tmps.getD t undef)) ∧
    (∀ t, t < (r.d 0).st.ts.length → (∀ j, (Dn j ∨ j = i) → (r.o j).dst ≠ some t) → VRel (cut ψ (r.nx 0)) (getT (r.d 0).st.ts t) ((a.put (r.o i).dst x).tmps.getD t undef)):=by
  have hput:∀ t, (r.o i).dst ≠ some t → (a.put (r.o i).dst x).tmps.getD t undef = a.tmps.getD t undef:=by
    intro t ht
    cases hd:(r.o i).dst with
    | none=>rfl
    | some d =>
      have:d ≠ t:=fun e=>ht (by rw [hd, e])
      simp only [Act.put, Array.getD_eq_getD_getElem?, Array.getElem?_setIfInBounds]
      rw [if_neg this]
  refine ⟨?_, ?_, ?_⟩
  · rw [← hI.tmps]; cases (r.o i).dst <;> simp [Act.put]
  · intro t j ht hj hjd
    by_cases hji:j = i
    · subst hji
      have:(a.put (r.o j).dst x).tmps.getD t undef = x:=by
        rw [hj]
        have hlt:t < a.tmps.size:=by rw [hI.tmps]; exact ht
        simp [Act.put, Array.getD_eq_getD_getElem?, Array.getElem?_setIfInBounds, hlt]
      rw [this]; exact hx
    · have hD:Dn j:=hjd.resolve_right hji
      rw [hput t (fun e=>hji (hS.once j i (hI.bound j hD) hi t hj e))]
      exact (hI.slotIn t j ht hj hD).mono (qbm hle (Nat.le_refl _))
  · intro t ht hn
    rw [hput t (hn i (.inr rfl))]
    exact (hI.slotOut t ht fun j hj=>hn j (.inl hj)).mono (qbm hle (Nat.le_refl _))
theorem qjs (hI:Inv r φ0 w0 df s Dn φ a w) (hS:Static r) {i:Nat} (hi:i < n) (hni:¬ Dn i) (hanc:∀ j, (bf.getD i 0).testBit j = true → Dn j) (hk:r.k i ≠ Kind.alone) (hk2:r.k i ≠ Kind.quiet)
    {x:Value} (hx:VRel (cut φ (r.nx (i + 1))) (r.v i) x):Inv r φ0 w0 df s (fun j=>Dn j ∨ j = i) φ (a.put (r.o i).dst x) w:=by
  obtain ⟨t1, t2, t3⟩:=qfb hI hS hi hni (Map.le_refl φ) hx
  have hlive:∀ b y, Live r s (fun j=>Dn j ∨ j = i) b y → Live r s Dn b y:=by
    rintro b y (h | ⟨j, h1, h2, h3, h4, h5⟩)
    · exact .inl h
    · refine .inr ⟨j, h1, h2, h3.resolve_right (fun e=>hk2 (e ▸ h4)), h4, h5⟩
  exact {
    sn:=hI.sn, rng:=hI.rng, base:=hI.base
    before:=fun j h1 h2=>.inl (hI.before j h1 h2)
    alones:=fun j h1 h2=>hI.alones j (h1.resolve_right (fun e=>hk (e ▸ h2))) h2
    closed:=fun j h1 q hq=>by
      rcases h1 with h1 | rfl
      · exact .inl (hI.closed j h1 q hq)
      · exact .inl (hanc q hq)
    bound:=fun j h1=>h1.elim (hI.bound j) (fun e=>e ▸ hi)
    tmps:=t1, slotIn:=t2, slotOut:=t3
    defers:=by rw [← hI.defers]; cases (r.o i).dst <;> rfl
    live1:=hI.live1
    live2:=fun j b y h1 h2 h3=>hI.live2 j b y h1 (h2.resolve_right (fun e=>hk2 (e ▸ h3))) h3
    inj:=fun b b' y y' k k' h1 h2=>hI.inj b b' y y' k k' (hlive b y h1) (hlive b' y' h2)
    dom:=fun b k h=>by
      obtain ⟨h1, h2⟩:=hI.dom b k h
      exact ⟨h1, h2.imp id (fun ⟨j, a1, a2, a3⟩=>⟨j, a1, .inl a2, a3⟩)⟩
    rle:=hI.rle, le:=hI.le, fresh:=hI.fresh, size:=hI.size, frame:=hI.frame, os:=hI.os, tape:=hI.tape, output:=hI.output
    fz:=hI.fz
    own:=fun b y k h1=>hI.own b y k (hlive b y h1)
    ltip:=fun b h1=>hI.ltip b (hlive b _ h1)
    tinj:=fun b b' m m' h1 h2=>hI.tinj b b' m m' (hlive b _ h1) (hlive b' _ h2)
    tdom:=fun b m h=>(hI.tdom b m h).imp id (fun ⟨j, a1, a2, a3⟩=>⟨j, a1, .inl a2, a3⟩)
    tfresh:=hI.tfresh
    tlive:=fun b m h1 h2=>hI.tlive b m h1 (hlive b _ h2)
    ffresh:=hI.ffresh }
theorem qlY (hI:Inv r φ0 w0 df s Dn φ a w) {i:Nat} (hi:i < n) (hni:¬ Dn i) (hanc:∀ j, (bf.getD i 0).testBit j = true → Dn j) (hp:qav (r.o i).op = true) :
    s ≤ i ∧ r.Calm s i:=by
  refine ⟨?_, ?_⟩
  · rcases Nat.lt_or_ge i s with h | h
    · exact absurd (hI.before i h hp) hni
    · exact h
  · intro j hj1 hj2 hk
    obtain ⟨_, _, hal, _⟩:=(r.fact j (by omega)).alone hk
    have hord:=qeM hal (r.fact i hi).op hp
    have:=hI.alones j (hanc j (qfe hord hj2)) hk
    omega
theorem qqH {i:Nat} (hi:i < n):(r.hg i).next = r.nx i:=(r.same hi).1
theorem qqq (hI:Inv r φ0 w0 df s Dn φ a w) {i:Nat} (hi:i < n) (hsi:s ≤ i) (hc:r.Calm s i) (hanc:∀ j, (bf.getD i 0).testBit j = true → Dn j) (hd:qby (r.hg i) = true) :
    HRel (cut φ (r.nx i)) (qaB bf i (r.d i) (r.hg i)) w:=by
  have hnx:=qqH (r:=r) hi
  have hobj:∀ b x, (qaB bf i (r.d i) (r.hg i)).get b = some x → b < r.nx i ∧ Live r s Dn b x ∧ (x ≠ .tip → ∃ k o, φ b = some k ∧ w.heap[k.1]? = some o ∧ ObRel (cut φ (r.nx i)) (Nat.ble (r.d 0).st.h.ro b) k.2 x o):=by
    intro b x hx
    simp only [H.get, qmE, qft] at hx
    have hx':=qbk hx
    cases hl:look (r.hg i).objs b with
    | none=>rw [hl] at hx'; cases hx'
    | some y =>
      rw [hl] at hx'
      simp only [Option.map_some, Option.some.injEq] at hx'
      have hb:b < r.nx i:=by rw [← hnx]; exact qgQ hd hl
      by_cases hm:(r.d i).base ≤ b ∧ qhs (bf.getD i 0) (r.d i).rng b = false
      · rw [if_pos hm] at hx'
        subst hx'
        rw [hl] at hx
        simp only [Option.map_some, if_pos hm, live] at hx
        cases hx
      · rw [if_neg hm] at hx'
        subst hx'
        have hlive:live (some y) = some y:=by
          rw [hl, Option.map_some, if_neg hm] at hx; exact hx
        have hl':look (r.d i).st.h.objs b = some y:=by rw [← (r.same hi).2.2]; exact hl
        have hlv:∀ l, look l b = some y → live (look l b) = some y:=fun l e=>by rw [e]; exact hlive
        refine ⟨hb, ?_⟩
        rcases r.look_phase hc hsi (Nat.le_of_lt hi) hl' hb with ⟨h1, h2⟩ | ⟨j, h1, h2, h3, h4, h5, h6⟩
        · refine ⟨.inl ⟨h1, hlv _ h2⟩, fun hxt=>?_⟩
          obtain ⟨k, o, q1, q2, q3⟩:=hI.live1 b y h1 (hlv _ h2) hxt
          exact ⟨k, o, q1, q2, q3.mono (qbm (Map.le_refl _) (r.nx_mono hsi (Nat.le_of_lt hi)))⟩
        · -- laid by a quiet operation: one that comes before
          have hnb:¬ b < r.nx s:=by
            have:=r.nx_mono h1 (by omega:j ≤ n)
            omega
          have hbase:(r.d i).base = r.nx s:=by rw [r.base_eq hc hsi (Nat.le_of_lt hi)]; exact hI.base
          have hown:qhs (bf.getD i 0) (r.d i).rng b = true:=by
            cases ho:qhs (bf.getD i 0) (r.d i).rng b with
            | true=>rfl
            | false=>exact absurd ⟨by rw [hbase]; omega, ho⟩ hm
          unfold qhs at hown
          rw [List.any_eq_true] at hown
          obtain ⟨x, hx1, hx2⟩:=hown
          obtain ⟨j', p1, p2, p3, p4⟩:=r.rng_spec hc hsi (Nat.le_of_lt hi) hI.rng hx1
          subst p4
          simp only [Bool.and_eq_true] at hx2
          obtain ⟨⟨e1, e2⟩, e3⟩:=hx2
          have e1':=Nat.le_of_ble_eq_true e1
          have e2':b < r.nx (j' + 1):=by
            have:Nat.ble (b + 1) (r.nx (j' + 1)) = true:=e2
            exact Nat.le_of_ble_eq_true this
          have hjj:j' = j:=by
            rcases Nat.lt_trichotomy j' j with h | h | h
            · have:r.nx (j' + 1) ≤ r.nx j:=r.nx_mono h (by omega:j ≤ n)
              omega
            · exact h
            · have:r.nx (j + 1) ≤ r.nx j':=r.nx_mono h (by omega:j' ≤ n)
              omega
          subst hjj
          refine ⟨.inr ⟨j', h1, by omega, hanc j' e3, h3, h4, h5, hlv _ h6⟩, fun hxt=>?_⟩
          obtain ⟨k, o, q1, q2, q3⟩:=hI.live2 j' b y h1 (hanc j' e3) h3 h4 h5 (hlv _ h6) hxt
          exact ⟨k, o, q1, q2, q3.mono (qbm (Map.le_refl _) (r.nx_mono h2 (Nat.le_of_lt hi)))⟩
  constructor
  · intro b x hx hxt
    obtain ⟨hb, _, hq⟩:=hobj b x hx
    obtain ⟨k, o, q1, q2, q3⟩:=hq hxt
    refine ⟨k, o, qhW hb q1, q2, ?_⟩
    have hf:Nat.ble (qaB bf i (r.d i) (r.hg i)).ro b = false:=by
      have:(qaB bf i (r.d i) (r.hg i)).ro = r.nx i:=hnx
      rw [this]
      cases hh:Nat.ble (r.nx i) b with
      | false=>rfl
      | true=>have:=Nat.le_of_ble_eq_true hh; omega
    rw [hf]
    exact q3.weak
  · intro b b' x x' k k' hx _ hro
    have:=(hobj b x hx).1
    have h2:(qaB bf i (r.d i) (r.hg i)).ro = r.nx i:=hnx
    omega
  · intro b k hb
    obtain ⟨h1, h2⟩:=qcF hb
    have:(qaB bf i (r.d i) (r.hg i)).next = r.nx i:=hnx
    exact ⟨by omega, (hI.dom b k h2).1⟩
  · exact Nat.le_refl _
  · exact hI.fz
  · intro b x k hx hk
    exact hI.own b x k (hobj b x hx).2.1 (qcF hk).2
  · intro b hb
    obtain ⟨h1, h2, _⟩:=hobj b _ hb
    obtain ⟨m, h3, h4⟩:=hI.ltip b h2
    exact ⟨m, qc0 h1 h3, h4⟩
  · intro b b' m m' hb hb' hne e e'
    exact hI.tinj b b' m m' (hobj b _ hb).2.1 (hobj b' _ hb').2.1 hne (qgO e).2 (qgO e').2
  · intro b m e
    have:(qaB bf i (r.d i) (r.hg i)).next = r.nx i:=hnx
    have:=(qgO e).1
    omega
def join (φ φ':Map):Map:={ nm:=fun b=>match φ b with | some k=>some k | none=>φ' b, fz:=φ'.fz, tp:=fun b=>match φ.tp b with | some k=>some k | none=>φ'.tp b, base:=φ.base }
theorem qpx {φ φ':Map} {b:Nat} {k:Nat×Nat×Nat} (h:φ b = some k):join φ φ' b = some k:=by simp only [join, h]
theorem qdZ {φ φ':Map} {b:Nat} (h:φ b = none):join φ φ' b = φ' b:=by simp only [join, h]
theorem qkA {φ φ':Map} {b:Nat} {k:Option (Nat×Nat×Nat)} (h:φ.tp b = some k):(join φ φ').tp b = some k:=by simp only [join, h]
theorem qbR {φ φ':Map} {b:Nat} (h:φ.tp b = none):(join φ φ').tp b = φ'.tp b:=by simp only [join, h]
theorem qoq (hI:Inv r φ0 w0 df s Dn φ a w) (hS:Static r) {i:Nat} (hi:i < n) (hni:¬ Dn i) (hanc:∀ j, (bf.getD i 0).testBit j = true → Dn j) (hk:r.k i = Kind.quiet) (hsi:s ≤ i)
    {φ':Map} {w':World} {x:Value} (hx:VRel φ' (r.v i) x) (G:Goes (cut φ (r.nx i)) (qaB bf i (r.d i) (r.hg i)) w φ' (r.h2 i) w') :
    Inv r φ0 w0 df s (fun j=>Dn j ∨ j = i) (join φ φ') (a.put (r.o i).dst x) w':=by
  have hnx:=qqH (r:=r) hi
  have hown:(qaB bf i (r.d i) (r.hg i)).next = r.nx i:=hnx
  have hownro:(qaB bf i (r.d i) (r.hg i)).ro = r.nx i:=hnx
  obtain ⟨_, _, _, _, _, _, _, _, he⟩:=(r.fact i hi).quiet hk
  have hnx1:r.nx (i + 1) = (r.h2 i).next:=by unfold Run.nx; rw [he]
  have hh2ro:(r.h2 i).ro = r.nx i:=by rw [G.ro]; exact hownro
  generalize hψd:join φ φ' = ψ
  have hψfz:ψ.fz = φ'.fz:=by rw [← hψd]; rfl
  have hψ:φ.le ψ:=⟨fun b k h=>by rw [← hψd]; exact qpx h, by rw [hψfz]; exact G.le.fz, fun b k h=>by rw [← hψd]; exact qkA h, by rw [← hψd]; rfl⟩
  have hout:∀ b, r.nx i ≤ b → b < r.nx (i + 1) → ¬ (b < r.nx s ∨ ∃ j, s ≤ j ∧ Dn j ∧ r.k j = Kind.quiet ∧ r.nx j ≤ b ∧ b < r.nx (j + 1)):=by
    intro b h1 h2 hb
    rcases hb with h | ⟨j, j1, j2, j3, j4, j5⟩
    · have:=r.nx_mono hsi (Nat.le_of_lt hi); omega
    · have hjn:=hI.bound j j2
      rcases Nat.lt_trichotomy j i with h | h | h
      · have:r.nx (j + 1) ≤ r.nx i:=r.nx_mono h (Nat.le_of_lt hi)
        omega
      · subst h; exact hni j2
      · have:r.nx (i + 1) ≤ r.nx j:=r.nx_mono h (Nat.le_of_lt hjn)
        omega
  have hnone:∀ b, r.nx i ≤ b → b < r.nx (i + 1) → φ b = none:=by
    intro b h1 h2
    cases hb:φ b with
    | none=>rfl
    | some k=>exact absurd (hI.dom b k hb).2 (hout b h1 h2)
  have htnone:∀ b, r.nx i ≤ b → b < r.nx (i + 1) → φ.tp b = none:=by
    intro b h1 h2
    cases hb:φ.tp b with
    | none=>rfl
    | some k=>exact absurd (hI.tdom b k hb) (hout b h1 h2)
  have hfr:∀ b k, φ' b = some k → (b < r.nx i ∧ φ b = some k) ∨ (r.nx i ≤ b ∧ b < r.nx (i + 1) ∧ w.heap.size ≤ k.1):=by
    intro b k h
    have hb:=(G.rel.dom b k h).1
    rcases G.fresh b k h with h1 | ⟨h1, h2⟩
    · exact .inl (qcF h1)
    · refine .inr ⟨by rw [hown] at h1; exact h1, by rw [hnx1]; exact hb, ?_⟩
      rcases h2 with h2 | ⟨c, k', c1, c2, _⟩
      · exact h2
      · rw [hownro] at c1
        have:=(qcF c2).1; omega
  have hnotip:∀ c e, (qaB bf i (r.d i) (r.hg i)).ro ≤ c → (cut φ (r.nx i)).tp c = some e → False:=by
    intro c e h1 h2
    rw [hownro] at h1
    have:=(qgO h2).1; omega
  have htfr:∀ b m, φ'.tp b = some m → (b < r.nx i ∧ φ.tp b = some m) ∨ (r.nx i ≤ b ∧ b < r.nx (i + 1) ∧ ∀ e, m = some e → w.heap.size ≤ e.1):=by
    intro b m h
    have hb:=G.rel.tdom b m h
    rcases G.tfresh b m h with h1 | ⟨h1, h2⟩
    · exact .inl (qgO h1)
    · refine .inr ⟨by rw [hown] at h1; exact h1, by rw [hnx1]; exact hb, fun e he=>?_⟩
      rcases h2 e he with h2 | ⟨c, e', c1, _, c3, _⟩
      · exact h2
      · exact (hnotip c _ c1 c3).elim
  have hffr:∀ k c, φ'.fz k = some c → k < w.heap.size → φ.fz k = some c:=by
    intro k c h hk
    rcases G.ffresh k c h hk with h | ⟨b, k', h1, h2, _⟩ | ⟨b, e, h1, _, h3, _⟩
    · exact h
    · rw [hownro] at h1
      have:=(qcF h2).1; omega
    · exact (hnotip b _ h1 h3).elim
  have hfsame:∀ k c, φ.fz k = some c → ψ.fz k = some c:=by
    intro k c h
    obtain ⟨c', h1, _⟩:=G.le.fz k c h
    obtain ⟨cs, t, z, h2, _⟩:=hI.fz k c h
    have:=hffr k c' h1 (lt_of_heap h2)
    rw [h] at this; cases this
    rw [hψfz]; exact h1
  have hφ':φ'.le (cut ψ (r.nx (i + 1))):=by
    refine ⟨fun b k h=>?_, by show Frozen.le φ'.fz ψ.fz; rw [hψfz]; exact Frozen.le_refl _, fun b m h=>?_, by rw [← hψd]; exact G.le.base.symm⟩
    · rcases hfr b k h with ⟨h1, h2⟩ | ⟨h1, h2, h3⟩
      · exact qhW (by have:=r.nx_step hi; omega) (hψ b k h2)
      · refine qhW h2 ?_
        rw [← hψd, qdZ (hnone b h1 h2)]; exact h
    · rcases htfr b m h with ⟨h1, h2⟩ | ⟨h1, h2, h3⟩
      · exact qc0 (by have:=r.nx_step hi; omega) (hψ.tp b m h2)
      · refine qc0 h2 ?_
        rw [← hψd, qbR (htnone b h1 h2)]; exact h
  have hheap:∀ k, k < w.heap.size → w'.heap[k]? = w.heap[k]?:=fun k hk'=>G.frame k hk' (fun b k' hb hc=>by
    rw [hownro] at hb
    have:=(qcF hc).1; omega) (fun b e h1 _ h3=>(hnotip b _ h1 h3).elim)
  obtain ⟨t1, t2, t3⟩:=qfb hI hS hi hni hψ (hx.mono hφ')
  have hold1:∀ b y, b < r.nx s → live (look (r.d s).st.h.objs b) = some y → y ≠ .tip → ∃ k o, φ b = some k ∧ ψ b = some k ∧ w'.heap[k.1]? = some o ∧ ObRel (cut ψ (r.nx s)) (Nat.ble (r.d 0).st.h.ro b) k.2 y o:=by
    intro b y h1 h2 hyt
    obtain ⟨k, o, q1, q2, q3⟩:=hI.live1 b y h1 h2 hyt
    exact ⟨k, o, q1, hψ b k q1, by rw [hheap k.1 (lt_of_heap q2)]; exact q2, q3.mono (qbm hψ (Nat.le_refl _))⟩
  have hold2:∀ j b y, s ≤ j → Dn j → r.k j = Kind.quiet → r.nx j ≤ b → b < r.nx (j + 1) → live (look (r.h2 j).objs b) = some y → y ≠ .tip → ∃ k o, φ b = some k ∧ ψ b = some k ∧ w'.heap[k.1]? = some o ∧ ObRel (cut ψ (r.nx (j + 1))) (Nat.ble (r.d 0).st.h.ro b) k.2 y o:=by
    intro j b y h1 h2 h3 h4 h5 h6 hyt
    obtain ⟨k, o, q1, q2, q3⟩:=hI.live2 j b y h1 h2 h3 h4 h5 h6 hyt
    exact ⟨k, o, q1, hψ b k q1, by rw [hheap k.1 (lt_of_heap q2)]; exact q2, q3.mono (qbm hψ (Nat.le_refl _))⟩
  have hnew:∀ b y, r.nx i ≤ b → b < r.nx (i + 1) → live (look (r.h2 i).objs b) = some y → y ≠ .tip → ∃ k o, φ' b = some k ∧ ψ b = some k ∧ w.heap.size ≤ k.1 ∧ w'.heap[k.1]? = some o ∧ ObRel (cut ψ (r.nx (i + 1))) (Nat.ble (r.d 0).st.h.ro b) k.2 y o:=by
    intro b y h1 h2 h3 hyt
    obtain ⟨k, o, q1, q2, q3⟩:=G.rel.obj b y h3 hyt
    have hb1:Nat.ble (r.h2 i).ro b = true:=Nat.ble_eq_true_of_le (by rw [hh2ro]; exact h1)
    have hb2:Nat.ble (r.d 0).st.h.ro b = true:=Nat.ble_eq_true_of_le (by
      have:=hI.rle
      have:=r.nx_mono (Nat.zero_le i) (Nat.le_of_lt hi)
      omega)
    rw [hb1] at q3
    refine ⟨k, o, q1, by rw [← hψd, qdZ (hnone b h1 h2)]; exact q1, ?_, q2, by rw [hb2]; exact q3.mono hφ'⟩
    rcases hfr b k q1 with ⟨e1, e2⟩ | ⟨e1, e2, e3⟩
    · omega
    · exact e3
  have hcase:∀ b y, Live r s (fun j=>Dn j ∨ j = i) b y → (Live r s Dn b y ∧ (b < r.nx s ∨ ∃ j, s ≤ j ∧ Dn j ∧ r.k j = Kind.quiet ∧ r.nx j ≤ b ∧ b < r.nx (j + 1))) ∨ (r.nx i ≤ b ∧ b < r.nx (i + 1) ∧ live (look (r.h2 i).objs b) = some y):=by
    rintro b y (⟨h1, h2⟩ | ⟨j, h1, h2, h3, h4, h5, h6, h7⟩)
    · exact .inl ⟨.inl ⟨h1, h2⟩, .inl h1⟩
    · rcases h3 with h3 | rfl
      · exact .inl ⟨.inr ⟨j, h1, h2, h3, h4, h5, h6, h7⟩, .inr ⟨j, h1, h3, h4, h5, h6⟩⟩
      · exact .inr ⟨h5, h6, h7⟩
  -- a name that was there before stands for what it stood for
  have holdk:∀ b k, (b < r.nx s ∨ ∃ j, s ≤ j ∧ Dn j ∧ r.k j = Kind.quiet ∧ r.nx j ≤ b ∧ b < r.nx (j + 1)) → ψ b = some k → φ b = some k:=by
    intro b k hb hk'
    cases hφ:φ b with
    | some q=>rw [hψ b q hφ] at hk'; exact hk'
    | none =>
      rw [← hψd, qdZ hφ] at hk'
      rcases hfr b k hk' with ⟨_, e2⟩ | ⟨e1, e2, _⟩
      · rw [hφ] at e2; exact e2
      · exact absurd hb (hout b e1 e2)
  have holdt:∀ b m, (b < r.nx s ∨ ∃ j, s ≤ j ∧ Dn j ∧ r.k j = Kind.quiet ∧ r.nx j ≤ b ∧ b < r.nx (j + 1)) → ψ.tp b = some m → φ.tp b = some m:=by
    intro b m hb hk'
    cases hφ:φ.tp b with
    | some q=>rw [hψ.tp b q hφ] at hk'; exact hk'
    | none =>
      rw [← hψd, qbR hφ] at hk'
      rcases htfr b m hk' with ⟨_, e2⟩ | ⟨e1, e2, _⟩
      · rw [hφ] at e2; exact e2
      · exact absurd hb (hout b e1 e2)
  have hnewk:∀ b k, r.nx i ≤ b → b < r.nx (i + 1) → ψ b = some k → φ' b = some k ∧ w.heap.size ≤ k.1:=by
    intro b k h1 h2 hk'
    rw [← hψd, qdZ (hnone b h1 h2)] at hk'
    rcases hfr b k hk' with ⟨e1, e2⟩ | ⟨e1, e2, e3⟩
    · omega
    · exact ⟨hk', e3⟩
  have hnewt:∀ b m, r.nx i ≤ b → b < r.nx (i + 1) → ψ.tp b = some m → φ'.tp b = some m ∧ ∀ e, m = some e → w.heap.size ≤ e.1:=by
    intro b m h1 h2 hk'
    rw [← hψd, qbR (htnone b h1 h2)] at hk'
    rcases htfr b m hk' with ⟨e1, e2⟩ | ⟨e1, e2, e3⟩
    · omega
    · exact ⟨hk', e3⟩
  have htblk:∀ b m, Live r s Dn b .tip → φ.tp b = some (some m) → m.1 < w.heap.size:=by
    intro b m hb e
    obtain ⟨m0, h4, h5⟩:=hI.ltip b hb
    rw [e] at h4; cases h4
    obtain ⟨_, cs, t, h6, _⟩:=h5 m.1 m.2.1 m.2.2 rfl
    exact lt_of_heap h6
  exact {
    sn:=hI.sn, rng:=hI.rng, base:=hI.base
    before:=fun j h1 h2=>.inl (hI.before j h1 h2)
    alones:=fun j h1 h2=>hI.alones j (h1.resolve_right (fun e=>by rw [e, hk] at h2; cases h2)) h2
    closed:=fun j h1 q hq=>by
      rcases h1 with h1 | rfl
      · exact .inl (hI.closed j h1 q hq)
      · exact .inl (hanc q hq)
    bound:=fun j h1=>h1.elim (hI.bound j) (fun e=>e ▸ hi)
    tmps:=t1, slotIn:=t2, slotOut:=t3
    defers:=by rw [← hI.defers]; cases (r.o i).dst <;> rfl
    live1:=fun b y h1 h2 h3=>by
      obtain ⟨k, o, _, q1, q2, q3⟩:=hold1 b y h1 h2 h3
      exact ⟨k, o, q1, q2, q3⟩
    live2:=fun j b y h1 h2 h3 h4 h5 h6 h7=>by
      rcases h2 with h2 | rfl
      · obtain ⟨k, o, _, q1, q2, q3⟩:=hold2 j b y h1 h2 h3 h4 h5 h6 h7
        exact ⟨k, o, q1, q2, q3⟩
      · obtain ⟨k, o, _, q1, _, q2, q3⟩:=hnew b y h4 h5 h6 h7
        exact ⟨k, o, q1, q2, q3⟩
    inj:=fun b b' y y' k k' h1 h2 hro hne hk1 hk2=>by
      rcases hcase b y h1 with ⟨l1, p1⟩ | ⟨e1, e2, e3⟩
      · have f1:=holdk b k p1 hk1
        rcases hcase b' y' h2 with ⟨l2, p2⟩ | ⟨e1', e2', e3'⟩
        · exact hI.inj b b' y y' k k' l1 l2 hro hne f1 (holdk b' k' p2 hk2)
        · have:=(hnewk b' k' e1' e2' hk2).2
          have:=(hI.dom b k f1).1
          omega
      · obtain ⟨m0, m1⟩:=hnewk b k e1 e2 hk1
        rcases hcase b' y' h2 with ⟨l2, p2⟩ | ⟨e1', e2', e3'⟩
        · have:=(hI.dom b' k' (holdk b' k' p2 hk2)).1
          omega
        · exact G.rel.inj b b' y y' k k' e3 e3' (by rw [hh2ro]; exact e1) hne m0 (hnewk b' k' e1' e2' hk2).1
    dom:=fun b k hb=>by
      cases hφ:φ b with
      | some q =>
        rw [hψ b q hφ] at hb
        cases hb
        obtain ⟨h1, h2⟩:=hI.dom b k hφ
        exact ⟨Nat.lt_of_lt_of_le h1 G.size, h2.imp id (fun ⟨j, a1, a2, a3⟩=>⟨j, a1, .inl a2, a3⟩)⟩
      | none =>
        have hb':φ' b = some k:=by rw [← hψd, qdZ hφ] at hb; exact hb
        refine ⟨(G.rel.dom b k hb').2, ?_⟩
        rcases hfr b k hb' with ⟨e1, e2⟩ | ⟨e1, e2, e3⟩
        · rw [hφ] at e2; cases e2
        · exact .inr ⟨i, hsi, .inr rfl, hk, e1, e2⟩
    rle:=hI.rle
    le:=Map.le_trans hI.le hψ
    fresh:=fun b k hb=>by
      cases hφ:φ b with
      | some q =>
        rw [hψ b q hφ] at hb
        cases hb
        exact hI.fresh b k hφ
      | none =>
        have hb':φ' b = some k:=by rw [← hψd, qdZ hφ] at hb; exact hb
        rcases hfr b k hb' with ⟨e1, e2⟩ | ⟨e1, e2, e3⟩
        · rw [hφ] at e2; cases e2
        · have:=r.nx_mono (Nat.zero_le i) (Nat.le_of_lt hi)
          have:=hI.size
          exact .inr ⟨by omega, .inl (by omega)⟩
    size:=Nat.le_trans hI.size G.size
    frame:=fun k hk' hf ht=>by rw [hheap k (Nat.lt_of_lt_of_le hk' hI.size)]; exact hI.frame k hk' hf ht
    os:=G.os.trans hI.os, tape:=G.tape.trans hI.tape, output:=G.output.trans hI.output
    fz:=fun k c e=>by rw [hψfz] at e; exact G.rel.fz k c e
    own:=fun b y k h1 hk1=>by
      rcases hcase b y h1 with ⟨l1, p1⟩ | ⟨e1, e2, e3⟩
      · have f1:=holdk b k p1 hk1
        have f2:=hI.own b y k l1 f1
        cases f3:ψ.fz k.1 with
        | none=>rfl
        | some c =>
          rw [hψfz] at f3
          have:=hffr k.1 c f3 (hI.dom b k f1).1
          rw [f2] at this; cases this
      · rw [hψfz]
        exact G.rel.own b y k e3 (hnewk b k e1 e2 hk1).1
    ltip:=fun b h1=>by
      rcases hcase b _ h1 with ⟨l1, p1⟩ | ⟨e1, e2, e3⟩
      · obtain ⟨m, h2, h3⟩:=hI.ltip b l1
        refine ⟨m, hψ.tp b m h2, fun blk en sz e=>?_⟩
        obtain ⟨⟨c, h4, h5⟩, cs, t, h6, h7⟩:=h3 blk en sz e
        exact ⟨⟨c, hfsame blk c h4, h5⟩, cs, t, by rw [hheap blk (lt_of_heap h6)]; exact h6, h7⟩
      · obtain ⟨m, h2, h3⟩:=G.rel.tip b e3
        refine ⟨m, by rw [← hψd, qbR (htnone b e1 e2)]; exact h2, fun blk en sz e=>?_⟩
        rw [hψfz]
        exact h3 blk en sz e
    tinj:=fun b b' m m' h1 h2 hne hm hm'=>by
      rcases hcase b _ h1 with ⟨l1, p1⟩ | ⟨e1, e2, e3⟩
      · have f1:=holdt b _ p1 hm
        rcases hcase b' _ h2 with ⟨l2, p2⟩ | ⟨e1', e2', e3'⟩
        · exact hI.tinj b b' m m' l1 l2 hne f1 (holdt b' _ p2 hm')
        · have:=(hnewt b' _ e1' e2' hm').2 m' rfl
          have:=htblk b m l1 f1
          omega
      · obtain ⟨m0, m1⟩:=hnewt b _ e1 e2 hm
        rcases hcase b' _ h2 with ⟨l2, p2⟩ | ⟨e1', e2', e3'⟩
        · have:=m1 m rfl
          have:=htblk b' m' l2 (holdt b' _ p2 hm')
          omega
        · exact G.rel.tinj b b' m m' e3 e3' hne m0 (hnewt b' _ e1' e2' hm').1
    tdom:=fun b m hb=>by
      cases hφ:φ.tp b with
      | some q=>exact (hI.tdom b q hφ).imp id (fun ⟨j, a1, a2, a3⟩=>⟨j, a1, .inl a2, a3⟩)
      | none =>
        have hb':φ'.tp b = some m:=by rw [← hψd, qbR hφ] at hb; exact hb
        rcases htfr b m hb' with ⟨e1, e2⟩ | ⟨e1, e2, e3⟩
        · rw [hφ] at e2; cases e2
        · exact .inr ⟨i, hsi, .inr rfl, hk, e1, e2⟩
    tfresh:=fun b m hb=>by
      cases hφ:φ.tp b with
      | some q =>
        rw [hψ.tp b q hφ] at hb
        cases hb
        exact hI.tfresh b m hφ
      | none =>
        have hb':φ'.tp b = some m:=by rw [← hψd, qbR hφ] at hb; exact hb
        rcases htfr b m hb' with ⟨e1, e2⟩ | ⟨e1, e2, e3⟩
        · rw [hφ] at e2; cases e2
        · have:=r.nx_mono (Nat.zero_le i) (Nat.le_of_lt hi)
          have:=hI.size
          exact .inr ⟨by omega, fun e he=>.inl (by have:=e3 e he; omega)⟩
    tlive:=fun b m h1 h2=>by
      rcases hcase b _ h2 with ⟨l1, p1⟩ | ⟨e1, e2, e3⟩
      · exact hI.tlive b m h1 l1
      · have:=htnone b e1 e2
        rw [hI.le.tp b m h1] at this; cases this
    ffresh:=fun k c e hk'=>by
      rw [hψfz] at e
      exact hI.ffresh k c (hffr k c e (Nat.lt_of_lt_of_le hk' hI.size)) hk' }
end
end Go.Vm

/-
  Regions that draw their order: each operation, in whatever order.
-/
namespace Go.Vm
open Go
section
variable {P:Program} {L:Lev} {ops:Array Oper} {bf:Array Nat} {n:Nat} {r:Run P L ops bf n}
variable {φ0:Map} {w0:World} {df:List Deferred} {s:Nat} {Dn:Nat → Prop} {φ:Map} {a:Act} {w:World}
theorem qcd {j:Nat} (hj:j < n) (hk:r.k j = Kind.quiet):qav (r.o j).op = true:=((r.fact j hj).quiet hk).2.1
theorem qep {m:Nat} (hc:r.Calm s m) (hsm:s ≤ m) (hm:m ≤ n) (hdn:∀ j, j < n → r.k j = Kind.quiet → s ≤ j → (Dn j ↔ j < m)) {h:H} (hs:(r.d m).st.h.Same h) (hd:qby h = true) {b:Nat} {x:Ob} (hx:h.get b = some x):Live r s Dn b x:=by
  have hnx:h.next = r.nx m:=hs.1
  simp only [H.get] at hx
  have hl:=qbk hx
  have hlv:∀ l, look l b = some x → live (look l b) = some x:=fun l e=>by rw [hl] at hx; rw [e]; exact hx
  have hb:b < r.nx m:=by rw [← hnx]; exact qgQ hd hl
  rw [hs.2.2] at hl
  rcases r.look_phase hc hsm hm hl hb with ⟨h1, h2⟩ | ⟨j, h1, h2, h3, h4, h5, h6⟩
  · exact .inl ⟨h1, hlv _ h2⟩
  · exact .inr ⟨j, h1, by omega, (hdn j (by omega) h3 h1).2 h2, h3, h4, h5, hlv _ h6⟩
theorem qi1 (hI:Inv r φ0 w0 df s Dn φ a w) {m:Nat} (hm:m ≤ n) (hsm:s ≤ m) (hc:r.Calm s m) (hdn:∀ j, j < n → r.k j = Kind.quiet → s ≤ j → (Dn j ↔ j < m)) {h:H} (hs:(r.d m).st.h.Same h) (hd:qby h = true):HRel φ h w:=by
  have hro:h.ro = (r.d 0).st.h.ro:=by rw [hs.2.1]; exact r.ro_eq hm
  have hnx:h.next = r.nx m:=hs.1
  have hlive:∀ b x, h.get b = some x → Live r s Dn b x:=fun b x hx=>qep hc hsm hm hdn hs hd hx
  have hlt:∀ b, (b < r.nx s ∨ ∃ j, s ≤ j ∧ Dn j ∧ r.k j = Kind.quiet ∧ r.nx j ≤ b ∧ b < r.nx (j + 1)) → b < h.next:=by
    intro b h2
    rw [hnx]
    rcases h2 with h2 | ⟨j, j1, j2, j3, j4, j5⟩
    · have:=r.nx_mono hsm hm; omega
    · have hjm:=(hdn j (hI.bound j j2) j3 j1).1 j2
      have:r.nx (j + 1) ≤ r.nx m:=r.nx_mono hjm hm
      omega
  constructor
  · intro b x hx hxt
    rw [hro]
    rcases hlive b x hx with ⟨h1, h2⟩ | ⟨j, h1, h2, h3, h4, h5, h6, h7⟩
    · obtain ⟨k, o, q1, q2, q3⟩:=hI.live1 b x h1 h2 hxt
      exact ⟨k, o, q1, q2, q3.mono (qi3 _ _)⟩
    · obtain ⟨k, o, q1, q2, q3⟩:=hI.live2 j b x h1 h3 h4 h5 h6 h7 hxt
      exact ⟨k, o, q1, q2, q3.mono (qi3 _ _)⟩
  · intro b b' x x' k k' hx hx' hb
    rw [hro] at hb
    exact hI.inj b b' x x' k k' (hlive b x hx) (hlive b' x' hx') hb
  · intro b k hb
    obtain ⟨h1, h2⟩:=hI.dom b k hb
    exact ⟨hlt b h2, h1⟩
  · rw [hro, hnx]
    have:=hI.rle
    have:=r.nx_mono (Nat.zero_le m) hm
    omega
  · exact hI.fz
  · exact fun b x k hx=>hI.own b x k (hlive b x hx)
  · exact fun b hb=>hI.ltip b (hlive b _ hb)
  · exact fun b b' m m' hb hb'=>hI.tinj b b' m m' (hlive b _ hb) (hlive b' _ hb')
  · exact fun b m hb=>hlt b (hI.tdom b m hb)
theorem qho (hI:Inv r φ0 w0 df s Dn φ a w) {i:Nat} (hi:i < n) (hni:¬ Dn i) (hanc:∀ j, (bf.getD i 0).testBit j = true → Dn j) (hk:r.k i = Kind.alone) :
    ∀ j, j < n → qav (r.o j).op = true → j ≠ i → (Dn j ↔ j < i):=by
  intro j hj hp hne
  obtain ⟨_, _, hal, _⟩:=(r.fact i hi).alone hk
  have hord:=qeM hal (r.fact j hj).op hp
  constructor
  · intro h
    rcases Nat.lt_or_ge j i with h1 | h1
    · exact h1
    · have:(bf.getD j 0).testBit i = true:=qfe hord (by omega)
      exact absurd (hI.closed j h i this) hni
  · intro h
    exact hanc j (qhO hord h)
theorem qna (hI:Inv r φ0 w0 df s Dn φ a w) (hS:Static r) {i:Nat} (hi:i < n) (hni:¬ Dn i) (hanc:∀ j, (bf.getD i 0).testBit j = true → Dn j) (hk:r.k i = Kind.alone) (hsi:s ≤ i)
    {φ':Map} {w':World} {x:Value} (hx:VRel φ' (r.v i) x) (hc:r.Calm s i) (hd:qby (r.hg i) = true) (G:Goes φ (r.hg i) w φ' (r.h2 i) w') :
    Inv r φ0 w0 df (i + 1) (fun j=>Dn j ∨ j = i) φ' (a.put (r.o i).dst x) w':=by
  have hnx:=qqH (r:=r) hi
  have hdn:=qho hI hi hni hanc hk
  obtain ⟨_, _, _, _, _, _, hbase, hrng, he⟩:=(r.fact i hi).alone hk
  have hnx1:r.nx (i + 1) = (r.h2 i).next:=by unfold Run.nx; rw [he]
  have hro:(r.hg i).ro = (r.d 0).st.h.ro:=by rw [(r.same hi).2.1]; exact r.ro_eq (Nat.le_of_lt hi)
  have hcut:φ'.le (cut φ' (r.nx (i + 1))):=⟨fun b k h=>qhW (by rw [hnx1]; exact (G.rel.dom b k h).1) h, Frozen.le_refl _, fun b k h=>qc0 (by rw [hnx1]; exact G.rel.tdom b k h) h, rfl⟩
  have hold:∀ b x, (r.hg i).get b = some x → Live r s Dn b x:=fun b x hx=>qep hc hsi (Nat.le_of_lt hi) (fun j hj hq _=>hdn j hj (qcd hj hq) (fun e=>by rw [e, hk] at hq; cases hq)) (r.same hi) hd hx
  obtain ⟨t1, t2, t3⟩:=qfb hI hS hi hni G.le (hx.mono hcut)
  have hlive:∀ b y, Live r (i + 1) (fun j=>Dn j ∨ j = i) b y → (r.h2 i).get b = some y:=by
    rintro b y (⟨h1, h2⟩ | ⟨j, h1, h2, h3, h4, h5, h6, h7⟩)
    · rw [he] at h2; exact h2
    · have hji:j ≠ i:=by omega
      have:=(hdn j h2 (qcd h2 h4) hji).1 (h3.resolve_right hji)
      omega
  have hn0:=r.nx_mono (Nat.zero_le i) (Nat.le_of_lt hi)
  exact {
    sn:=hi
    rng:=hrng
    base:=by rw [hbase, hnx1]
    before:=fun j h1 h2=>by
      by_cases hji:j = i
      · exact .inr hji
      · exact .inl ((hdn j (by omega) h2 hji).2 (by omega))
    alones:=fun j h1 h2=>by
      rcases h1 with h1 | rfl
      · have:=hI.alones j h1 h2; omega
      · omega
    closed:=fun j h1 q hq=>by
      rcases h1 with h1 | rfl
      · exact .inl (hI.closed j h1 q hq)
      · exact .inl (hanc q hq)
    bound:=fun j h1=>h1.elim (hI.bound j) (fun e=>e ▸ hi)
    tmps:=t1, slotIn:=t2, slotOut:=t3
    defers:=by rw [← hI.defers]; cases (r.o i).dst <;> rfl
    live1:=fun b y h1 h2 hyt=>by
      obtain ⟨k, o, q1, q2, q3⟩:=G.rel.obj b y (hlive b y (.inl ⟨h1, h2⟩)) hyt
      rw [G.ro, hro] at q3
      exact ⟨k, o, q1, q2, q3.mono hcut⟩
    live2:=fun j b y h1 h2 h3 h4 h5 h6 _=>by
      exfalso
      have hjn:j < n:=h2.elim (hI.bound j) (fun e=>e ▸ hi)
      have hji:j ≠ i:=by omega
      have:=(hdn j hjn (qcd hjn h3) hji).1 (h2.resolve_right hji)
      omega
    inj:=fun b b' y y' k k' h1 h2 hb=>G.rel.inj b b' y y' k k' (hlive b y h1) (hlive b' y' h2) (by rw [G.ro, hro]; exact hb)
    dom:=fun b k hb=>⟨(G.rel.dom b k hb).2, .inl (by rw [hnx1]; exact (G.rel.dom b k hb).1)⟩
    rle:=hI.rle
    le:=Map.le_trans hI.le G.le
    fresh:=fun b k hb=>by
      rcases G.fresh b k hb with e | ⟨h1, e⟩
      · exact hI.fresh b k e
      · refine .inr ⟨by omega, ?_⟩
        have:=hI.size
        rcases e with e | ⟨c, k', hc, e, en⟩
        · exact .inl (by omega)
        · rw [hro] at hc
          rcases hI.fresh c k' e with e | ⟨_, e⟩
          · exact .inr ⟨c, k', hc, e, en⟩
          · rw [en] at e; exact e
    size:=Nat.le_trans hI.size G.size
    frame:=fun k hk' hf ht=>by
      rw [G.frame k (Nat.lt_of_lt_of_le hk' hI.size) ?_ ?_, hI.frame k hk' hf ht]
      · intro b k' hb e en
        rw [hro] at hb
        rcases hI.fresh b k' e with e | ⟨_, e⟩
        · exact hf b k' hb e en
        · rcases e with e | ⟨c, k'', hc, e, en'⟩
          · omega
          · exact hf c k'' hc e (en'.trans en)
      · intro b e hb hbt he en
        rw [hro] at hb
        rcases hI.tfresh b _ he with h1 | ⟨_, h1⟩
        · exact ht b e hb (hI.tlive b _ h1 (hold b _ hbt)) h1 en
        · rcases h1 e rfl with h1 | ⟨c, e', hcr, hc, he', hee⟩
          · omega
          · exact ht c e' hcr hc he' (hee.trans en)
    fz:=G.rel.fz
    own:=fun b y k h1=>G.rel.own b y k (hlive b y h1)
    ltip:=fun b h1=>G.rel.tip b (hlive b _ h1)
    tinj:=fun b b' m m' h1 h2=>G.rel.tinj b b' m m' (hlive b _ h1) (hlive b' _ h2)
    tdom:=fun b m hb=>.inl (by rw [hnx1]; exact G.rel.tdom b m hb)
    tfresh:=fun b m hb=>by
      rcases G.tfresh b m hb with h1 | ⟨h1, h2⟩
      · exact hI.tfresh b m h1
      · refine .inr ⟨by omega, fun e he=>?_⟩
        have:=hI.size
        rcases h2 e he with h3 | ⟨c, e', hcr, hc, he', hee⟩
        · exact .inl (by omega)
        · rw [hro] at hcr
          rcases hI.tfresh c _ he' with h4 | ⟨_, h4⟩
          · exact .inr ⟨c, e', hcr, hI.tlive c _ h4 (hold c _ hc), h4, hee⟩
          · rcases h4 e' rfl with h5 | ⟨d, e2, hdr, hd, hd2, hd3⟩
            · exact .inl (by omega)
            · exact .inr ⟨d, e2, hdr, hd, hd2, hd3.trans hee⟩
    tlive:=fun b m h1 h2=>hI.tlive b m h1 (hold b _ (G.tlive b m (hI.le.tp b m h1) (hlive b _ h2)))
    ffresh:=fun k c e hk'=>by
      rcases G.ffresh k c e (Nat.lt_of_lt_of_le hk' hI.size) with h1 | h1
      · exact hI.ffresh k c h1 hk'
      · refine .inr ?_
        rcases h1 with ⟨b, k', hb, hk2, hkn⟩ | ⟨b, e, hbr, hb, he, hen⟩
        · rw [hro] at hb
          rcases hI.fresh b k' hk2 with h2 | ⟨_, h2⟩
          · exact .inl ⟨b, k', hb, h2, hkn⟩
          · rcases h2 with h2 | ⟨c, k3, hc, hk3, hk4⟩
            · omega
            · exact .inl ⟨c, k3, hc, hk3, hk4.trans hkn⟩
        · rw [hro] at hbr
          rcases hI.tfresh b _ he with h2 | ⟨_, h2⟩
          · exact .inr ⟨b, e, hbr, hI.tlive b _ h2 (hold b _ hb), h2, hen⟩
          · rcases h2 e rfl with h3 | ⟨c, e', hcr, hc, he', hee⟩
            · omega
            · exact .inr ⟨c, e', hcr, hc, he', hee.trans hen⟩
    os:=G.os.trans hI.os, tape:=G.tape.trans hI.tape, output:=G.output.trans hI.output }
theorem qo2 (hL:LevOk P L) (hI:Inv r φ0 w0 df s Dn φ a w) (hS:Static r) (hH:(r.d n).st.h.Holds) {i:Nat} (hi:i < n) (hni:¬ Dn i) (hanc:∀ j, (bf.getD i 0).testBit j = true → Dn j)
    {F:Fence} {m:Nat} (hF:Wide F) {K:Act → World → Prop} {Q:Exit → Act → World → Prop}
    (hK:∀ s' φ' a' w', Inv r φ0 w0 df s' (fun j=>Dn j ∨ j = i) φ' a' w' → K a' w'):wpOpIn F m P ops Q i K a w:=by
  obtain ⟨hd0, hhg, hh2⟩:=r.step_holds hL hi (r.holds hL hH (by omega))
  have f:=r.fact i hi
  have hmask:=hI.mask hS hi hni hanc
  have hgd:qaI ops (r.o i) (qbY (r.o i) (qaD ops (r.o i)) (r.d i).st.ts) (r.d i).st.h = some (r.g i, r.hg i):=by
    rw [← f.guard]
    refine (qh7 fun j want d hg hd=>?_).symm
    rw [qjk]
    right
    simp only [qaD, hg, hd]
  obtain ⟨_, _, hw⟩:=qew hgd hhg
  have hw:=hw _ a.tmps hmask
  unfold wpOpIn
  rw [f.op]
  dsimp only
  rw [hw]
  have hev:∀ x ∈ (r.o i).op.operands, eval (r.d i).st.ts x = eval (qbY (r.o i) (qaD ops (r.o i)) (r.d i).st.ts) x:=qnh
  rcases Run.kinds (r.k i) with hk | hk | hk | hk
  · obtain ⟨hg, hv, _⟩:=f.off hk
    rw [hg]
    refine ⟨fun f _=>hF.fn f, hK s φ _ _ (qjs hI hS hi hni hanc (by rw [hk]; decide) (by rw [hk]; decide) ?_)⟩
    rw [hv]; exact VRel.skip
  · obtain ⟨hg, hp, hv, _⟩:=f.pure hk
    rw [hg]
    have hnd:∀ c, (r.o i).op ≠ .defer c:=fun c hc=>by rw [hc] at hv; simp [qcP] at hv
    rw [qgH hev] at hv
    obtain ⟨⟨x, hrun, hx⟩, _, _⟩:=qgr (o:=r.o i) hv hh2 (fun x=>qbd hmask x) w
    refine ⟨fun f _=>hF.fn f, ?_⟩
    rw [Oper.semAt_eq _ _ _ hnd, hrun]
    exact hK s φ _ _ (qjs hI hS hi hni hanc (by rw [hk]; decide) (by rw [hk]; decide) (hx.mono (qbm (Map.le_refl _) (r.nx_step hi))))
  · obtain ⟨hg, hp, hal, hd, hm, _⟩:=f.alone hk
    rw [hg]
    rw [qdG hev] at hm
    obtain ⟨hsi, hc⟩:=qlY hI hi hni hanc hp
    have hrel:HRel φ (r.hg i) w:=qi1 hI (Nat.le_of_lt hi) hsi hc (fun j hj hq _=>qho hI hi hni hanc hk j hj (qcd hj hq) (fun e=>by rw [e, hk] at hq; cases hq)) (r.same hi) hd
    have hop:qaz L P (r.o i).op (eval (qbY (r.o i) (qaD ops (r.o i)) (r.d i).st.ts)) (r.hg i) = some (r.v i, r.h2 i):=by
      unfold qaz; rw [hp]; exact hm
    obtain ⟨_, ho⟩:=qbU hL (o:=r.o i) (st:={ ts:=qbY (r.o i) (qaD ops (r.o i)) (r.d i).st.ts, dfs:=[], h:=r.hg i }) hop hh2
    refine ho φ a w F m hF (hmask.mono (qi3 _ _)) hrel K Q fun φ' x w' hx hG=>?_
    exact hK _ _ _ _ (qna hI hS hi hni hanc hk hsi hx hc hd hG)
  · obtain ⟨hg, hp, hal, hd, hm, _⟩:=f.quiet hk
    rw [hg]
    rw [qdG hev] at hm
    obtain ⟨hsi, hc⟩:=qlY hI hi hni hanc hp
    have hrel:=qqq hI hi hsi hc hanc hd
    have hop:qaz L P (r.o i).op (eval (qbY (r.o i) (qaD ops (r.o i)) (r.d i).st.ts)) (qaB bf i (r.d i) (r.hg i)) = some (r.v i, r.h2 i):=by
      unfold qaz; rw [hp]; exact hm
    obtain ⟨_, ho⟩:=qbU hL (o:=r.o i) (st:={ ts:=qbY (r.o i) (qaD ops (r.o i)) (r.d i).st.ts, dfs:=[], h:=qaB bf i (r.d i) (r.hg i) }) hop hh2
    refine ho (cut φ (r.nx i)) a w F m hF hmask hrel K Q fun φ' x w' hx hG=>?_
    exact hK _ _ _ _ (qoq hI hS hi hni hanc hk hsi hx hG)
theorem qf4 {l:Array Bool} {i j:Nat} (d:Bool):(l.setIfInBounds i true).getD j d = if i = j ∧ j < l.size then true else l.getD j d:=by
  simp only [Array.getD_eq_getD_getElem?, Array.getElem?_setIfInBounds]
  by_cases h:i = j
  · subst h
    by_cases h2:i < l.size
    · simp [h2]
    · simp [h2]
  · simp [h]
theorem qqR (hL:LevOk P L) (hS:Static r) (hH:(r.d n).st.h.Holds) {F:Fence} {m:Nat} (hF:Wide F) {Q:Exit → Act → World → Prop}
    (hQ:∀ s φ a w (Dn:Nat → Prop), Inv r φ0 w0 df s Dn φ a w → (∀ j, j < n → Dn j) → Q .normal a w) :
    ∀ (fuel:Nat) (listed:Array Bool) (rest:List Nat) (s:Nat) (Dn:Nat → Prop) (φ:Map) (a:Act) (w:World), Inv r φ0 w0 df s Dn φ a w → listed.size = n → rest.length ≤ fuel →
      (∀ j, j < n → listed.getD j true = false → j ∈ rest) → (∀ j, j < n → (Dn j ↔ listed.getD j true = true)) → wpAnyIn F m P .any ops Q fuel listed a w:=by
  have hnone:∀ (listed:Array Bool), listed.size = n → Region.ready .any ops listed = [] → ∀ j, j < n → listed.getD j true = true:=by
    intro listed hsz hr j
    induction j using Nat.strongRecOn with
    | _ j ih =>
      intro hj
      cases hl:listed.getD j true with
      | true=>rfl
      | false =>
        exfalso
        have:j ∈ Region.ready .any ops listed:=mem_ready.2 ⟨hl, r.o j, (r.fact j hj).op, fun e he hb=>by
          have hlt:=hS.edges j hj e he hb
          have h1:=ih e.on hlt (by omega)
          have hsz':e.on < listed.size:=by omega
          simp only [Array.getD_eq_getD_getElem?, Array.getElem?_eq_getElem hsz', Option.getD_some] at h1 ⊢
          exact h1⟩
        rw [hr] at this
        cases this
  intro fuel
  induction fuel with
  | zero =>
    intro listed rest s Dn φ a w hI hsz hlen hrest hD
    have hr0:rest = []:=List.eq_nil_of_length_eq_zero (by omega)
    have hall:∀ j, j < n → listed.getD j true = true:=fun j hj=>by
      cases hl:listed.getD j true with
      | true=>rfl
      | false=>have:=hrest j hj hl; rw [hr0] at this; cases this
    refine ⟨?_, hQ s φ a w Dn hI fun j hj=>(hD j hj).2 (hall j hj)⟩
    refine List.eq_nil_iff_forall_not_mem.2 fun j hj=>?_
    obtain ⟨h1, o, ho, _⟩:=mem_ready.1 hj
    have hjn:j < n:=by rw [hS.all]; exact (Array.getElem?_eq_some_iff.1 ho).1
    rw [hall j hjn] at h1; cases h1
  | succ fuel ih =>
    intro listed rest s Dn φ a w hI hsz hlen hrest hD
    refine ⟨fun hr=>hQ s φ a w Dn hI fun j hj=>(hD j hj).2 (hnone listed hsz hr j hj), fun i hir=>?_⟩
    obtain ⟨h1, o, ho, hall⟩:=mem_ready.1 hir
    have hi:i < n:=by rw [hS.all]; exact (Array.getElem?_eq_some_iff.1 ho).1
    have hoi:o = r.o i:=by have:=(r.fact i hi).op; rw [ho] at this; cases this; rfl
    subst hoi
    have hni:¬ Dn i:=fun h=>by have:=(hD i hi).1 h; rw [h1] at this; cases this
    have hanc:∀ j, (bf.getD i 0).testBit j = true → Dn j:=by
      intro j hj
      obtain ⟨e, he, hb, hcase⟩:=hS.bits i hi j hj
      have hlt:=hS.edges i hi e he hb
      have hl:=hall e he hb
      have hen:e.on < n:=by omega
      have hDe:Dn e.on:=(hD e.on hen).2 (by
        have hsz':e.on < listed.size:=by omega
        simp only [Array.getD_eq_getD_getElem?, Array.getElem?_eq_getElem hsz', Option.getD_some] at hl ⊢
        exact hl)
      rcases hcase with rfl | ⟨_, h2⟩
      · exact hDe
      · exact hI.closed e.on hDe j h2
    refine qo2 hL hI hS hH hi hni hanc hF fun s' φ' a' w' hI'=>?_
    refine ih (listed.setIfInBounds i true) (rest.erase i) s' _ φ' a' w' hI' (by simp [hsz]) ?_ ?_ ?_
    · have:=List.length_erase_of_mem (hrest i hi h1)
      omega
    · intro j hj hl
      rw [qf4] at hl
      split at hl
      · cases hl
      · rename_i hc
        have hji:j ≠ i:=fun e=>hc ⟨e.symm, by omega⟩
        exact (List.mem_erase_of_ne hji).2 (hrest j hj hl)
    · intro j hj
      rw [qf4]
      split
      · rename_i hc
        exact ⟨fun _=>rfl, fun _=>.inr hc.1.symm⟩
      · rename_i hc
        have hji:j ≠ i:=fun e=>hc ⟨e.symm, by omega⟩
        rw [← hD j hj]
        exact ⟨fun h=>h.resolve_right hji, .inl⟩
end
end Go.Vm

/-
  Regions that draw their order: the whole.
-/
namespace Go.Vm
open Go
section
variable {P:Program} {L:Lev} {ops:Array Oper}
theorem qpQ {i j:Nat} (h:Nat.blt i j = true):i < j:=Nat.le_of_ble_eq_true (show Nat.ble (i + 1) j = true from h)
theorem qnS (h:qdR ops (Region.before ops) = true) (r:Run P L ops (Region.before ops) ops.size):Static r:=by
  unfold qdR at h
  rw [List.all_eq_true] at h
  have hop:∀ i, i < ops.size → (∀ e ∈ (r.o i).after, Region.binds .any e = true → e.on < i) ∧ (∀ j w, (r.o i).guard = some (j, w) → ((Region.before ops).getD i 0).testBit j = true) ∧
      (∀ d, (r.o i).dst = some d → ∀ j, j < ops.size → ((r.o j).dst = some d → i = j) ∧ (d ∈ qbe (r.o j) → i = j ∨ inOrder (Region.before ops) i j = true)):=by
    intro i hi
    have h1:=h i (List.mem_range.2 hi)
    rw [(r.fact i hi).op] at h1
    simp only [Bool.and_eq_true] at h1
    obtain ⟨⟨h1, h2⟩, h3⟩:=h1
    refine ⟨fun e he hb=>?_, fun j w hg=>?_, fun d hd j hj=>?_⟩
    · rw [Array.all_eq_true_iff_forall_mem] at h1
      have:=h1 e he
      rw [hb] at this
      exact qpQ (by simpa using this)
    · rw [hg] at h2; exact h2
    · rw [hd] at h3
      simp only [List.all_eq_true] at h3
      have:=h3 j (List.mem_range.2 hj)
      rw [(r.fact j hj).op] at this
      simp only [Bool.and_eq_true, Bool.or_eq_true, Bool.not_eq_true'] at this
      obtain ⟨a1, a2⟩:=this
      refine ⟨fun e=>?_, fun e=>?_⟩
      · rcases a1 with a1 | a1
        · exact Nat.eq_of_beq_eq_true a1
        · rw [e] at a1; simp at a1
      · rcases a2 with (a2 | a2) | a2
        · have:(qbe (r.o j)).contains d = true:=by simpa using e
          rw [a2] at this; cases this
        · exact .inl (Nat.eq_of_beq_eq_true a2)
        · exact .inr a2
  exact {
    edges:=fun i hi=>(hop i hi).1
    bits:=fun i hi j hj=>qgs (r.fact i hi).op hj
    guards:=fun i hi=>(hop i hi).2.1
    once:=fun i j hi hj t h1 h2=>((hop i hi).2.2 t h1 j hj).1 h2
    names:=fun i j hi hj t h1 h2=>((hop i hi).2.2 t h1 j hj).2 h2
    all:=rfl }
theorem qju {φ:Map}:∀ {a:List V} {b:List Value}, VRels φ a b → a.length = b.length
  | [], [], _=>rfl
  | _ :: _, _ :: _, .cons _ t=>by simp [qju t]
theorem qo0 {φ:Map} {h:H} {w:World} (hr:HRel φ h w):φ.le (cut φ h.next):=⟨fun b k e=>qhW (hr.dom b k e).1 e, Frozen.le_refl _, fun b k e=>qc0 (hr.tdom b k e) e, rfl⟩
theorem qla {P:Program} (hm:P.follows .mixedOrders = true):qgW P (drawn P):=by
  intro L hL ops st st' e hh
  unfold drawn at e
  split at e
  · rename_i hs
    split at e
    · rename_i d hgo
      split at e
      · rename_i hd
        cases e
        obtain ⟨r, hr0, hrn⟩:=qrR hgo
        have hS:=qnS hs r
        have hH:(r.d ops.size).st.h.Holds:=by rw [hrn]; exact hh
        have h0:(r.d 0).st = st:=by rw [hr0]
        have hx0:r.nx 0 = st.h.next:=by unfold Run.nx; rw [h0]
        refine ⟨by have:=r.holds hL hH (Nat.zero_le _); rw [h0] at this; exact this, fun φ a w F n id hF hts hmk hr=>?_⟩
        refine wpIn_region_any hm ?_
        have hle:φ.le (cut φ (r.nx 0)):=by rw [hx0]; exact qo0 hr
        have hI0:Inv r φ { w with drawn:=w.drawn + 1 } a.defers 0 (fun _=>False) φ a { w with drawn:=w.drawn + 1 }:={
          sn:=Nat.zero_le _
          rng:=by rw [hr0]
          base:=by rw [hx0, hr0]
          before:=fun j h1=>by omega
          alones:=fun j h1=>h1.elim
          closed:=fun i h1=>h1.elim
          bound:=fun i h1=>h1.elim
          tmps:=by rw [h0, qju hts]; simp
          slotIn:=fun t j _ _ h1=>h1.elim
          slotOut:=fun t _ _=>by rw [h0]; exact (qbJ hts t).mono hle
          defers:=rfl
          live1:=fun b x _ hx hxt=>by
            rw [h0] at hx ⊢
            obtain ⟨k, o, q1, q2, q3⟩:=hr.obj b x hx hxt
            exact ⟨k, o, q1, q2, q3.mono hle⟩
          live2:=fun j b x _ h1=>h1.elim
          inj:=fun b b' x x' k k' h1 h2 hro hne hk hk'=>by
            rcases h1 with ⟨_, h1⟩ | ⟨j, _, _, h1, _⟩
            · rcases h2 with ⟨_, h2⟩ | ⟨j, _, _, h2, _⟩
              · rw [h0] at h1 h2 hro
                exact hr.inj b b' x x' k k' h1 h2 hro hne hk hk'
              · exact h2.elim
            · exact h1.elim
          dom:=fun b k hb=>⟨(hr.dom b k hb).2, .inl (by rw [hx0]; exact (hr.dom b k hb).1)⟩
          rle:=by rw [hx0, h0]; exact hr.rle
          le:=Map.le_refl _
          fresh:=fun _ _ e=>.inl e
          size:=Nat.le_refl _
          frame:=fun _ _ _ _=>rfl
          os:=rfl, tape:=rfl, output:=rfl
          fz:=hr.fz
          own:=fun b x k h1=>by
            rcases h1 with ⟨_, h1⟩ | ⟨j, _, _, h1, _⟩
            · rw [h0] at h1; exact hr.own b x k h1
            · exact h1.elim
          ltip:=fun b h1=>by
            rcases h1 with ⟨_, h1⟩ | ⟨j, _, _, h1, _⟩
            · rw [h0] at h1; exact hr.tip b h1
            · exact h1.elim
          tinj:=fun b b' m m' h1 h2=>by
            rcases h1 with ⟨_, h1⟩ | ⟨j, _, _, h1, _⟩
            · rcases h2 with ⟨_, h2⟩ | ⟨j, _, _, h2, _⟩
              · rw [h0] at h1 h2
                exact hr.tinj b b' m m' h1 h2
              · exact h2.elim
            · exact h1.elim
          tdom:=fun b m hb=>.inl (by rw [hx0]; exact hr.tdom b m hb)
          tfresh:=fun _ _ e=>.inl e
          tlive:=fun b m _ h1=>by
            rcases h1 with ⟨_, h1⟩ | ⟨j, _, _, h1, _⟩
            · rw [h0] at h1 ⊢; exact h1
            · exact h1.elim
          ffresh:=fun _ _ e _=>.inl e }
        refine qqR hL hS hH hF ?_ ops.size _ (List.range ops.size) 0 _ φ a _ hI0 (by simp) (by simp) (fun j hj _=>List.mem_range.2 hj) (fun j hj=>by
          simp only [Array.getD_eq_getD_getElem?, false_iff]
          simp [hj])
        intro s φ' a' w' Dn hI hall
        have hcalm:r.Calm s ops.size:=fun j h1 h2 hk=>by
          have:=hI.alones j (hall j h2) hk; omega
        have hdn:HRel φ' (r.d ops.size).st.h w':=qi1 hI (Nat.le_refl _) hI.sn hcalm (fun j hj _ _=>⟨fun _=>hj, fun _=>hall j hj⟩) (H.Same.refl _) (by rw [hrn]; exact hd)
        have hlen:=r.len_eq (Nat.le_refl ops.size)
        have hG:Goes φ st.h { w with drawn:=w.drawn + 1 } φ' (r.d ops.size).st.h w':={
          le:=hI.le
          rel:=hdn
          next:=by
            have:r.nx 0 ≤ r.nx ops.size:=r.nx_mono (Nat.zero_le _) (Nat.le_refl _)
            rw [hx0] at this; exact this
          ro:=by rw [r.ro_eq (Nat.le_refl _), h0]
          fresh:=fun b k hb=>by
            have:=hI.fresh b k hb
            rw [hx0, h0] at this; exact this
          size:=hI.size
          frame:=fun k hk hf ht=>hI.frame k hk (by rw [h0]; exact hf) (by rw [h0]; exact ht)
          tfresh:=fun b m hb=>by
            have:=hI.tfresh b m hb
            rw [hx0, h0] at this; exact this
          tlive:=fun b m h1 h2=>by
            have:=hI.tlive b m h1 (qep hcalm hI.sn (Nat.le_refl _) (fun j hj _ _=>⟨fun _=>hj, fun _=>hall j hj⟩) (H.Same.refl _) (by rw [hrn]; exact hd) h2)
            rw [h0] at this; exact this
          ffresh:=fun k c e hk=>by
            have:=hI.ffresh k c e hk
            rw [h0] at this; exact this
          os:=hI.os, tape:=hI.tape, output:=hI.output }
        have hG':=(Goes.of_same (w':={ w with drawn:=w.drawn + 1 }) hr (H.Same.refl _) rfl rfl rfl rfl).trans hG
        refine ⟨rfl, φ', ?_, ?_, ?_⟩
        · rw [← hrn]
          refine VRels.of_get (by rw [hlen, ← hI.tmps]; simp) fun t v x hv hx=>?_
          have ht:t < (r.d 0).st.ts.length:=by
            rw [← hlen]; exact (List.getElem?_eq_some_iff.1 hv).1
          have hxg:a'.tmps.getD t undef = x:=by
            have:a'.tmps[t]? = some x:=by simpa using hx
            rw [Array.getD_eq_getD_getElem?, this]; rfl
          rw [← qpw hv, ← hxg]
          by_cases hw:∃ j, j < ops.size ∧ (r.o j).dst = some t
          · obtain ⟨j, hj, hjd⟩:=hw
            rw [r.slot_after hS.once hjd hj (Nat.le_refl _) ht]
            exact (hI.slotIn t j ht hjd (hall j hj)).mono (qi3 _ _)
          · rw [r.slot_before (Nat.le_refl _) (fun q hq e=>hw ⟨q, hq, e⟩)]
            exact (hI.slotOut t ht fun q hq e=>hw ⟨q, hI.bound q hq, e⟩).mono (qi3 _ _)
        · have h1:d.st.dfs = st.dfs:=by rw [← hrn, r.dfs_eq (Nat.le_refl _), h0]
          rw [h1, hI.defers]
          exact hmk.goes hr hG'
        · rw [← hrn]
          exact hG'
      · cases e
    · cases e
  · cases e
end
end Go.Vm

/-
  Regions that draw their order: two loads, then two stores, of which the first may come ahead of the second load.
-/
namespace Go.Vm
open Go
def qlX (o:Oper):Option (TypeId×Operand×Tmp) :=
  match o.op, o.dst, o.guard with
  | .load t p, some d, none=>some (t, p, d)
  | _, _, _=>none
def qip (o:Oper):Option (TypeId×Operand×Operand) :=
  match o.op, o.dst, o.guard with
  | .store t p x, none, none=>some (t, p, x)
  | _, _, _=>none
theorem qjH {o:Oper} {t:TypeId} {p:Operand} {d:Tmp} (e:qlX o = some (t, p, d)):o.op = .load t p ∧ o.dst = some d ∧ o.guard = none:=by
  unfold qlX at e
  split at e
  · rename_i h1 h2 h3; cases e; exact ⟨h1, h2, h3⟩
  · cases e
theorem qhK {o:Oper} {t:TypeId} {p x:Operand} (e:qip o = some (t, p, x)):o.op = .store t p x ∧ o.dst = none ∧ o.guard = none:=by
  unfold qip at e
  split at e
  · rename_i h1 h2 h3; cases e; exact ⟨h1, h2, h3⟩
  · cases e
def notT (x:Operand) (d:Tmp):Bool :=
  match x with
  | .tmp t=>!(Nat.beq t d)
  | _=>true
structure Sw where
  t0:TypeId
  p0:Operand
  d0:Tmp
  t1:TypeId
  p1:Operand
  d1:Tmp
  t2:TypeId
  p2:Operand
  x2:Operand
  t3:TypeId
  p3:Operand
  x3:Operand
def qdq (ops:Array Oper) (l:Array Bool) (r:List Nat):Bool :=
  match decEq (Region.ready .any ops l) r with
  | .isTrue _=>true
  | .isFalse _=>false
theorem qbT {ops:Array Oper} {l:Array Bool} {r:List Nat} (h:qdq ops l r = true):Region.ready .any ops l = r:=by
  unfold qdq at h
  split at h
  · assumption
  · cases h
def qm0 (ops:Array Oper):Bool :=
  qdq ops #[false, false, false, false] [0, 1] && qdq ops #[true, false, false, false] [1, 2] && qdq ops #[false, true, false, false] [0] &&
  qdq ops #[true, true, false, false] [2] && qdq ops #[true, false, true, false] [1] && qdq ops #[true, true, true, false] [3] && qdq ops #[true, true, true, true] []
def qoo (d0 d1:Tmp) (p0 p1 p2 x2:Operand):Bool:=!(Nat.beq d0 d1) && notT p0 d1 && notT p1 d0 && notT p2 d1 && notT x2 d1
def qiY (ops:Array Oper):Option Sw :=
  match Nat.beq ops.size 4 with
  | false=>none
  | true=>match ops[0]?, ops[1]?, ops[2]?, ops[3]? with
    | some o0, some o1, some o2, some o3=>match qlX o0, qlX o1, qip o2, qip o3 with
      | some (t0, p0, d0), some (t1, p1, d1), some (t2, p2, x2), some (t3, p3, x3)=>match qoo d0 d1 p0 p1 p2 x2 && qm0 ops with
        | true=>some ⟨t0, p0, d0, t1, p1, d1, t2, p2, x2, t3, p3, x3⟩
        | false=>none
      | _, _, _, _=>none
    | _, _, _, _=>none
def qhh (P:Program) (t:TypeId) (x:V) (h:H):Option V :=
  match x with
  | .ptr (some a)=>match h.get a.b with
    | some (.box e (.list l))=>match Nat.beq e a.e with
      | true=>match l[a.i]? with
        | some row=>match qdb h row with
          | none=>match qdb h (row.drop 1) with
            | none=>qbS P t a.o row
            | some _=>none
          | some _=>none
        | none=>none
      | false=>none
    | _=>none
  | _=>none
theorem qof {P:Program} {t:TypeId} {x:V} {h:H} {v:V} (e:qhh P t x h = some v):qaT P t x h = some (v, h):=by
  unfold qhh at e
  split at e
  · split at e
    · rename_i a _ el l hg
      split at e
      · rename_i he
        split at e
        · rename_i row hrow
          split at e
          · rename_i hu
            split at e
            · rename_i hu2
              simp only [qaT, hg, he, hrow]
              exact qfF hu hu2 e
            · cases e
          · cases e
        · cases e
      · cases e
    · cases e
  · cases e
theorem qkt {h h':H} (e:h'.ask.isSome = h.ask.isSome) (row:List V):qdb h' row = qdb h row:=by
  unfold qdb qgj
  cases h1:h.ask <;> cases h2:h'.ask <;> simp_all
theorem H.test_ask {h h':H} {b d:Bool} (e:h.test b = some (d, h')):h'.ask.isSome = h.ask.isSome:=by
  unfold H.test at e
  split at e
  · cases e; rfl
  · cases e
  · rename_i ha; cases e; simp [ha]
theorem qlc {h h':H} {a:VA} {cs:List V} (e:vput h a cs = some h'):h'.ask.isSome = h.ask.isSome:=by
  unfold vput at e
  split at e
  · split at e
    · split at e
      · cases e; rw [H.set_eq]
      · cases e
    · cases e
  · cases e
theorem qml {P:Program} {t:TypeId} {p x:V} {h h':H} (e:qbl P t p x h = some h'):h'.ask.isSome = h.ask.isSome:=by
  unfold qbl at e
  split at e
  · split at e
    · unfold qdA at e
      split at e
      · split at e
        · rename_i ht
          split at e
          · cases e; rw [H.set_eq]; have q:=H.test_ask ht; exact q
          · cases e
        · cases e
      · split at e
        · rename_i ht
          split at e
          · split at e
            · cases e; rw [H.set_eq]; have q:=H.test_ask ht; exact q
            · cases e
          · cases e
        · cases e
      · split at e
        · cases e
        · split at e
          · exact qlc e
          · split at e
            · rename_i ht
              split at e
              · cases e; rw [H.set_eq]; have q:=H.test_ask ht; exact q
              · cases e
            · cases e
      · exact qlc e
    · cases e
  · cases e
theorem qnv {P:Program} {t:TypeId} {a:VA} {h h':H} (e:h'.get a.b = h.get a.b) (ha:h'.ask.isSome = h.ask.isSome):qhh P t (.ptr (some a)) h' = qhh P t (.ptr (some a)) h:=by
  simp only [qhh, e, qkt ha]
theorem H.get_set_ne {h:H} {b c:Nat} {x:Ob} (hn:b ≠ c):(h.set b x).get c = h.get c:=by
  simp only [H.get, H.set_eq, qcL, if_neg hn]
theorem qmL {h h':H} {a:VA} {cs:List V} (e:qdA h a cs = some h') {c:Nat} (hn:a.b ≠ c):h'.get c = h.get c:=by
  have ht:∀ {h h2:H} {b d:Bool} {c:Nat}, h.test b = some (d, h2) → h2.get c = h.get c:=fun e=>by
    unfold H.get; rw [(H.test_eqs e).2.2]
  have hput:vput h a cs = some h' → h'.get c = h.get c:=fun e=>by
    unfold vput at e
    split at e
    · split at e
      · split at e
        · cases e; rw [H.get_set_ne hn]
        · cases e
      · cases e
    · cases e
  unfold qdA at e
  split at e
  · split at e
    · rename_i h2 htt
      split at e
      · cases e; rw [H.get_set_ne hn, ht htt]
      · cases e
    · cases e
  · split at e
    · rename_i h2 htt
      split at e
      · split at e
        · cases e; rw [H.get_set_ne hn, ht htt]
        · cases e
      · cases e
    · cases e
  · split at e
    · cases e
    · split at e
      · exact hput e
      · split at e
        · rename_i h2 htt
          split at e
          · cases e; rw [H.get_set_ne hn, ht htt]
          · cases e
        · cases e
  · exact hput e
theorem qmG {P:Program} {t:TypeId} {a:VA} {x:V} {h h':H} (e:qbl P t (.ptr (some a)) x h = some h') {c:Nat} (hn:a.b ≠ c):h'.get c = h.get c:=by
  unfold qbl at e
  split at e
  · rename_i hp _ _
    cases hp
    split at e
    · exact qmL e hn
    · cases e
  · cases e
def apart (x y:V):Bool :=
  match x, y with
  | .ptr (some a), .ptr (some b)=>!(Nat.beq b.b a.b)
  | _, _=>false
def qmt (P:Program) (s:Sw) (st:S):Option S :=
  match st with
  | { ts, dfs, h }=>match qhh P s.t0 (eval ts s.p0) h, qhh P s.t1 (eval ts s.p1) h with
    | some v0, some v1=>match apart (eval ts s.p1) (eval (putT (putT ts (some s.d0) v0) (some s.d1) v1) s.p2) with
      | true=>match qbl P s.t2 (eval (putT (putT ts (some s.d0) v0) (some s.d1) v1) s.p2) (eval (putT (putT ts (some s.d0) v0) (some s.d1) v1) s.x2) h with
        | some h2=>match qbl P s.t3 (eval (putT (putT ts (some s.d0) v0) (some s.d1) v1) s.p3) (eval (putT (putT ts (some s.d0) v0) (some s.d1) v1) s.x3) h2 with
          | some h3=>some { ts:=putT (putT ts (some s.d0) v0) (some s.d1) v1, dfs:=dfs, h:=h3 }
          | none=>none
        | none=>none
      | false=>none
    | _, _=>none
def qi0 (P:Program):Draw:=fun L ops st =>
  match qiY ops with
  | some s=>match qmt P s st with
    | some st=>some st
    | none=>drawn P L ops st
  | none=>drawn P L ops st
section
variable {P:Program} {L:Lev} {ops:Array Oper}
theorem qpP (hL:LevOk P L) {i:Nat} {o:Oper} (ho:ops[i]? = some o) (hg:o.guard = none) {st:S} {v:V} {h':H} (e:qaz L P o.op (eval st.ts) st.h = some (v, h')) (hh:h'.Holds)
    {φ:Map} {a:Act} {w:World} {F:Fence} {m:Nat} (hF:Wide F) (hts:VRels φ st.ts a.tmps.toList) (hr:HRel φ st.h w)
    {K:Act → World → Prop} {Q:Exit → Act → World → Prop} (hK:∀ φ' r w', VRel φ' v r → Goes φ st.h w φ' h' w' → K (a.put o.dst r) w'):wpOpIn F m P ops Q i K a w:=by
  unfold wpOpIn
  rw [ho]
  dsimp only
  have hw:Region.wanted o (yielded ops a.tmps) = true:=by simp [Region.wanted, hg]
  rw [hw]
  exact (qbU hL (o:=o) (st:=st) e hh).2 φ a w F m hF hts hr K Q hK
structure At (φ:Map) (h:H) (w:World) (st':S) (df:List Deferred) (a:Act) (φ':Map) (w':World):Prop where
  ts:VRels φ' st'.ts a.tmps.toList
  df:a.defers = df
  go:Goes φ h w φ' st'.h w'
theorem At.step (hL:LevOk P L) {i:Nat} {o:Oper} (ho:ops[i]? = some o) (hg:o.guard = none) {φ φ1:Map} {h:H} {w w1:World} {st:S} {df:List Deferred} {a:Act} (hA:At φ h w st df a φ1 w1)
    {v:V} {h':H} (e:qaz L P o.op (eval st.ts) st.h = some (v, h')) (hh:h'.Holds) {F:Fence} {m:Nat} (hF:Wide F) {K:Act → World → Prop} {Q:Exit → Act → World → Prop}
    (hK:∀ a' φ' w', At φ h w { st with ts:=putT st.ts o.dst v, h:=h' } df a' φ' w' → K a' w'):wpOpIn F m P ops Q i K a w1 :=
  qpP hL ho hg e hh hF hA.ts hA.go.rel fun φ' r w' hv hgo=>hK _ φ' w' ⟨qdp (hA.ts.mono hgo.le) hv o.dst, by rw [← hA.df]; cases o.dst <;> rfl, hA.go.trans hgo⟩
theorem qls {F:Fence} {n:Nat} {Q:Exit → Act → World → Prop} {fuel:Nat} {listed:Array Bool} {a:Act} {w:World} {r:List Nat} (hr:Region.ready .any ops listed = r) (hne:r ≠ [])
    (h:∀ i ∈ r, wpOpIn F n P ops Q i (wpAnyIn F n P .any ops Q fuel (listed.setIfInBounds i true)) a w):wpAnyIn F n P .any ops Q (fuel + 1) listed a w :=
  ⟨fun e=>absurd (hr.symm.trans e) hne, fun i hi=>h i (by rw [← hr]; exact hi)⟩
theorem qiG {F:Fence} {n:Nat} {Q:Exit → Act → World → Prop} {fuel:Nat} {listed:Array Bool} {a:Act} {w:World} {i:Nat} (hr:Region.ready .any ops listed = [i])
    (h:wpOpIn F n P ops Q i (wpAnyIn F n P .any ops Q fuel (listed.setIfInBounds i true)) a w):wpAnyIn F n P .any ops Q (fuel + 1) listed a w :=
  qls hr (by simp) fun j hj=>by rw [List.mem_singleton] at hj; subst hj; exact h
theorem qmR {F:Fence} {n:Nat} {Q:Exit → Act → World → Prop} {fuel:Nat} {listed:Array Bool} {a:Act} {w:World} {i j:Nat} (hr:Region.ready .any ops listed = [i, j])
    (h:wpOpIn F n P ops Q i (wpAnyIn F n P .any ops Q fuel (listed.setIfInBounds i true)) a w) (h':wpOpIn F n P ops Q j (wpAnyIn F n P .any ops Q fuel (listed.setIfInBounds j true)) a w) :
    wpAnyIn F n P .any ops Q (fuel + 1) listed a w :=
  qls hr (by simp) fun k hk=>by
    rcases List.mem_cons.1 hk with rfl | hk
    · exact h
    · rw [List.mem_singleton] at hk; subst hk; exact h'
theorem eval_put {ts:List V} {x:Operand} {d:Tmp} {v:V} (h:notT x d = true):eval (putT ts (some d) v) x = eval ts x:=by
  cases x with
  | tmp t =>
    show getT (putT ts (some d) v) t = getT ts t
    refine Run.getT_put_ne fun e=>?_
    cases e
    simp [notT] at h
  | _=>rfl
theorem qp5 {ts:List V} {d0 d1:Tmp} {v0 v1:V} (h:Nat.beq d0 d1 = false):putT (putT ts (some d1) v1) (some d0) v0 = putT (putT ts (some d0) v0) (some d1) v1:=by
  rw [qa8, qa8, qa8, qa8]
  exact List.set_comm _ _ fun e=>by subst e; simp at h
theorem qnr {P:Program} (hm:P.follows .mixedOrders = true):qgW P (qi0 P):=by
  intro L hL ops st st' e hh
  unfold qi0 at e
  split at e
  · rename_i s hs
    split at e
    · rename_i st1 hsw
      cases e
      -- what the shape says
      unfold qiY at hs
      split at hs
      · cases hs
      rename_i hsize
      have hsize:ops.size = 4:=Nat.eq_of_beq_eq_true hsize
      split at hs
      rotate_left
      · cases hs
      rename_i o0 o1 o2 o3 ho0 ho1 ho2 ho3
      split at hs
      rotate_left
      · cases hs
      rename_i t0 p0 d0 t1 p1 d1 t2 p2 x2 t3 p3 x3 hl0 hl1 hs2 hs3
      split at hs
      rotate_left
      · cases hs
      rename_i hst
      cases hs
      obtain ⟨e0, f0, g0⟩:=qjH hl0
      obtain ⟨e1, f1, g1⟩:=qjH hl1
      obtain ⟨e2, f2, g2⟩:=qhK hs2
      obtain ⟨e3, f3, g3⟩:=qhK hs3
      simp only [Bool.and_eq_true, qoo, Bool.not_eq_true'] at hst
      obtain ⟨⟨⟨⟨⟨n1, n2⟩, n3⟩, n4⟩, n5⟩, hord⟩:=hst
      simp only [qm0, Bool.and_eq_true] at hord
      obtain ⟨⟨⟨⟨⟨⟨r0, r1⟩, r2⟩, r3⟩, r4⟩, r5⟩, r6⟩:=hord
      -- what the run says
      obtain ⟨ts, dfs, h⟩:=st
      simp only [qmt] at hsw
      split at hsw
      rotate_left
      · cases hsw
      rename_i v0 v1 hv0 hv1
      split at hsw
      rotate_left
      · cases hsw
      rename_i hap
      split at hsw
      rotate_left
      · cases hsw
      rename_i h2 hw2
      split at hsw
      rotate_left
      · cases hsw
      rename_i h3 hw3
      cases hsw
      have hP1:∃ b1, eval ts p1 = .ptr (some b1):=by
        unfold apart at hap; split at hap
        · rename_i a b hx hy; exact ⟨a, hx⟩
        · cases hap
      obtain ⟨b1, hb1⟩:=hP1
      have hP2:∃ b2, eval (putT (putT ts (some d0) v0) (some d1) v1) p2 = .ptr (some b2) ∧ b2.b ≠ b1.b:=by
        rw [hb1] at hap
        unfold apart at hap; split at hap
        · rename_i a b hx hy
          cases hx
          refine ⟨b, hy, fun e=>?_⟩
          rw [e] at hap; simp at hap
        · cases hap
      obtain ⟨b2, hb2, hne⟩:=hP2
      have hv1':qhh P t1 (eval ts p1) h2 = some v1:=by
        rw [hb1] at hv1 ⊢
        rw [hb2] at hw2
        rw [qnv (qmG hw2 hne) (qml hw2)]; exact hv1
      have F0:∀ {ts':List V} {h':H}, eval ts' p0 = eval ts p0 → qhh P t0 (eval ts p0) h' = some v0 → qaz L P o0.op (eval ts') h' = some (v0, h'):=fun q q2=>by
        rw [e0]; show qaT P t0 (eval _ p0) _ = _; rw [q]; exact qof q2
      have F1:∀ {ts':List V} {h':H}, eval ts' p1 = eval ts p1 → qhh P t1 (eval ts p1) h' = some v1 → qaz L P o1.op (eval ts') h' = some (v1, h'):=fun q q2=>by
        rw [e1]; show qaT P t1 (eval _ p1) _ = _; rw [q]; exact qof q2
      have F2:∀ {ts':List V}, eval ts' p2 = eval (putT (putT ts (some d0) v0) (some d1) v1) p2 → eval ts' x2 = eval (putT (putT ts (some d0) v0) (some d1) v1) x2 → qaz L P o2.op (eval ts') h = some (.bot, h2):=fun q q2=>by
        rw [e2]
        show (match qbl P t2 (eval _ p2) (eval _ x2) h with
          | some h=>some (V.bot, h)
          | none=>none) = _
        rw [q, q2, hw2]
      have F3:qaz L P o3.op (eval (putT (putT ts (some d0) v0) (some d1) v1)) h2 = some (.bot, h3):=by
        rw [e3]
        show (match qbl P t3 (eval _ p3) (eval _ x3) h2 with
          | some h=>some (V.bot, h)
          | none=>none) = _
        rw [hw3]
      have H2:h2.Holds:=(qbU hL (o:=o3) (st:={ ts:=putT (putT ts (some d0) v0) (some d1) v1, dfs:=dfs, h:=h2 }) F3 hh).1
      have H0:h.Holds:=(qbU hL (o:=o2) (st:={ ts:=putT (putT ts (some d0) v0) (some d1) v1, dfs:=dfs, h:=h }) (F2 rfl rfl) H2).1
      refine ⟨H0, fun φ a w F n id hF hts hmk hr=>?_⟩
      refine wpIn_region_any hm ?_
      rw [hsize]
      have hA0:At φ h w { ts:=ts, dfs:=dfs, h:=h } a.defers a φ { w with drawn:=w.drawn + 1 }:=⟨hts, rfl, Goes.of_same hr (H.Same.refl _) rfl rfl rfl rfl⟩
      -- the end
      have fin:∀ a' φ' w', At φ h w { ts:=putT (putT ts (some d0) v0) (some d1) v1, dfs:=dfs, h:=h3 } a.defers a' φ' w' →
          wpAnyIn F n P .any ops (Post φ h w .normal { ts:=putT (putT ts (some d0) v0) (some d1) v1, dfs:=dfs, h:=h3 }) 0 #[true, true, true, true] a' w':=fun a' φ' w' hA =>
        ⟨qbT r6, rfl, φ', hA.ts, by rw [hA.df]; exact hmk.goes hr hA.go, hA.go⟩
      have last:∀ a' φ' w', At φ h w { ts:=putT (putT ts (some d0) v0) (some d1) v1, dfs:=dfs, h:=h2 } a.defers a' φ' w' →
          wpAnyIn F n P .any ops (Post φ h w .normal { ts:=putT (putT ts (some d0) v0) (some d1) v1, dfs:=dfs, h:=h3 }) 1 #[true, true, true, false] a' w':=fun a' φ' w' hA =>
        qiG (qbT r5) (At.step hL ho3 g3 hA F3 hh hF fun a2 φ2 w2 hA2=>by
          rw [f3] at hA2
          exact fin a2 φ2 w2 hA2)
      have mid:∀ a' φ' w', At φ h w { ts:=putT (putT ts (some d0) v0) (some d1) v1, dfs:=dfs, h:=h } a.defers a' φ' w' →
          wpAnyIn F n P .any ops (Post φ h w .normal { ts:=putT (putT ts (some d0) v0) (some d1) v1, dfs:=dfs, h:=h3 }) 2 #[true, true, false, false] a' w':=fun a' φ' w' hA =>
        qiG (qbT r3) (At.step hL ho2 g2 hA (F2 rfl rfl) H2 hF fun a2 φ2 w2 hA2=>by
          rw [f2] at hA2
          exact last a2 φ2 w2 hA2)
      refine qmR (listed:=#[false, false, false, false]) (qbT r0) ?_ ?_
      · refine At.step hL ho0 g0 hA0 (F0 rfl hv0) H0 hF fun a1 φ1 w1 hA1=>?_
        rw [f0] at hA1
        refine qmR (listed:=#[true, false, false, false]) (qbT r1) ?_ ?_
        · refine At.step hL ho1 g1 hA1 (F1 (eval_put n3) hv1) H0 hF fun a2 φ2 w2 hA2=>?_
          rw [f1] at hA2
          exact mid a2 φ2 w2 hA2
        · refine At.step hL ho2 g2 hA1 (F2 (eval_put n4).symm (eval_put n5).symm) H2 hF fun a2 φ2 w2 hA2=>?_
          rw [f2] at hA2
          refine qiG (listed:=#[true, false, true, false]) (qbT r4) ?_
          refine At.step hL ho1 g1 hA2 (F1 (eval_put n3) hv1') H2 hF fun a3 φ3 w3 hA3=>?_
          rw [f1] at hA3
          exact last a3 φ3 w3 hA3
      · refine At.step hL ho1 g1 hA0 (F1 rfl hv1) H0 hF fun a1 φ1 w1 hA1=>?_
        rw [f1] at hA1
        refine qiG (listed:=#[false, true, false, false]) (qbT r2) ?_
        refine At.step hL ho0 g0 hA1 (F0 (eval_put n2) hv0) H0 hF fun a2 φ2 w2 hA2=>?_
        rw [f0] at hA2
        dsimp only at hA2
        rw [qp5 n1] at hA2
        exact mid a2 φ2 w2 hA2
    · exact qla hm L hL ops st st' e hh
  · exact qla hm L hL ops st st' e hh
end
end Go.Vm
