/-
  A search: states that come after fewer steps are found first.
-/
set_option linter.unusedVariables false
set_option linter.unusedSimpArgs false

namespace Go.Bf
set_option linter.unusedVariables false
theorem qh0:∀ (N:Nat) (l:List Nat), l.Nodup → (∀ a, a ∈ l → a < N) → l.length ≤ N
  | 0, l, _, h=>by
    cases l with
    | nil=>exact Nat.le_refl 0
    | cons a l=>exact absurd (h a (List.mem_cons_self ..)) (by omega)
  | N + 1, l, hn, h=>by
    by_cases hm:N ∈ l
    · have h1:=List.length_erase_of_mem hm
      have h2:=qh0 N (l.erase N) (hn.erase N) fun a ha=>by
        have hk:=(List.Nodup.mem_erase_iff hn).1 ha
        have:=h a hk.2
        omega
      have:=List.length_pos_of_mem hm
      omega
    · have:=qh0 N l hn fun a ha=>by
        have:=h a ha
        have:a ≠ N:=fun e=>hm (e ▸ ha)
        omega
      omega
theorem qiU {α β:Type} (f:α → β):∀ (l:List α), l.Nodup → (∀ a b, a ∈ l → b ∈ l → f a = f b → a = b) → (l.map f).Nodup
  | [], _, _=>List.Pairwise.nil
  | a :: l, hn, h=>by
    rw [List.nodup_cons] at hn
    rw [List.map_cons, List.nodup_cons]
    refine ⟨fun hm=>?_, qiU f l hn.2 fun x y hx hy=>h x y (List.mem_cons_of_mem _ hx) (List.mem_cons_of_mem _ hy)⟩
    obtain ⟨b, hb, e⟩:=List.mem_map.1 hm
    have:=h b a (List.mem_cons_of_mem _ hb) (List.mem_cons_self ..) e
    exact hn.1 (this ▸ hb)
theorem qp1 {α:Type} (f:α → Nat) (N:Nat) (l:List α) (hn:l.Nodup) (hi:∀ a b, a ∈ l → b ∈ l → f a = f b → a = b) (h:∀ a, a ∈ l → f a < N):l.length ≤ N:=by
  have:=qh0 N (l.map f) (qiU f l hn hi) fun n hm=>by
    obtain ⟨a, ha, rfl⟩:=List.mem_map.1 hm
    exact h a ha
  rwa [List.length_map] at this
section
variable {α β:Type} [DecidableEq α]
abbrev Fd (α β:Type):=α×Nat×β
def has (q:List (Fd α β)) (a:α):Bool:=decide (a ∈ q.map (·.1))
def add (i:Nat) (q:List (Fd α β)) (e:β×α):List (Fd α β):=if has q e.2 = true then q else q++[(e.2, i, e.1)]
def exts (i:Nat) (q:List (Fd α β)) (l:List (β×α)):List (Fd α β):=l.foldl (add i) q
variable (nxt:α → List (β×α)) (a0:α) (b0:β)
def Q:Nat → List (Fd α β)
  | 0=>[(a0, 0, b0)]
  | i + 1=>match (Q i)[i]? with
    | some e=>exts i (Q i) (nxt e.1)
    | none=>Q i
theorem has_iff {q:List (Fd α β)} {a:α}:has q a = true ↔ a ∈ q.map (·.1):=by simp [has]
theorem qpy (i:Nat) (q:List (Fd α β)) (e:β×α):∃ r, add i q e = q++r ∧ (∀ x, x ∈ r → x = (e.2, i, e.1)):=by
  unfold add
  split
  · exact ⟨[], by simp, by simp⟩
  · exact ⟨[(e.2, i, e.1)], rfl, by simp⟩
theorem exts_pre (i:Nat):∀ (l:List (β×α)) (q:List (Fd α β)), ∃ r, exts i q l = q++r ∧ ∀ x, x ∈ r → x.2.1 = i ∧ (x.2.2, x.1) ∈ l
  | [], q=>⟨[], by simp [exts], by simp⟩
  | e :: l, q=>by
    obtain ⟨r1, h1, k1⟩:=qpy i q e
    obtain ⟨r2, h2, k2⟩:=exts_pre i l (add i q e)
    refine ⟨r1++r2, ?_, fun x hx=>?_⟩
    · show exts i (add i q e) l = _
      rw [h2, h1, List.append_assoc]
    · rcases List.mem_append.1 hx with hx | hx
      · have:=k1 x hx; subst this; exact ⟨rfl, by simp⟩
      · exact ⟨(k2 x hx).1, List.mem_cons_of_mem _ (k2 x hx).2⟩
theorem qms (i:Nat) (q:List (Fd α β)) (e:β×α) (h:(q.map (·.1)).Nodup):((add i q e).map (·.1)).Nodup:=by
  unfold add
  split
  · exact h
  · rename_i hh
    rw [has_iff] at hh
    rw [List.map_append, List.nodup_append]
    refine ⟨h, by simp, fun a ha b hb=>?_⟩
    simp at hb; subst hb
    exact fun e=>hh (e ▸ ha)
theorem qhM (i:Nat):∀ (l:List (β×α)) (q:List (Fd α β)), (q.map (·.1)).Nodup → ((exts i q l).map (·.1)).Nodup
  | [], q, h=>h
  | e :: l, q, h=>qhM i l (add i q e) (qms i q e h)
theorem qin (i:Nat):∀ (l:List (β×α)) (q:List (Fd α β)) (e:β×α), e ∈ l → e.2 ∈ (exts i q l).map (·.1)
  | e' :: l, q, e, h=>by
    rcases List.mem_cons.1 h with rfl | h
    · obtain ⟨r, hr, _⟩:=exts_pre i l (add i q e)
      have:e.2 ∈ (add i q e).map (·.1):=by
        unfold add
        split
        · rename_i hh; exact has_iff.1 hh
        · simp
      show e.2 ∈ (exts i (add i q e) l).map (·.1)
      rw [hr, List.map_append]
      exact List.mem_append_left _ this
    · exact qin i l (add i q e') e h
theorem qle (i:Nat):∃ r, Q nxt a0 b0 (i + 1) = Q nxt a0 b0 i++r ∧ ∀ x, x ∈ r → x.2.1 = i ∧ ∃ e, (Q nxt a0 b0 i)[i]? = some e ∧ (x.2.2, x.1) ∈ nxt e.1:=by
  cases h:(Q nxt a0 b0 i)[i]? with
  | none=>exact ⟨[], by simp [Q, h], by simp⟩
  | some e =>
    obtain ⟨r, hr, hk⟩:=exts_pre i (nxt e.1) (Q nxt a0 b0 i)
    exact ⟨r, by simp only [Q, h]; exact hr, fun x hx=>⟨(hk x hx).1, e, rfl, (hk x hx).2⟩⟩
theorem qks:∀ i, ((Q nxt a0 b0 i).map (·.1)).Nodup
  | 0=>by simp [Q]
  | i + 1=>by
    have ih:=qks i
    simp only [Q]
    split
    · exact qhM _ _ _ ih
    · exact ih
theorem Q_mono {i:Nat}:∀ {j:Nat}, i ≤ j → ∃ r, Q nxt a0 b0 j = Q nxt a0 b0 i++r
  | 0, h=>⟨[], by rw [show i = 0 by omega]; simp⟩
  | j + 1, h=>by
    rcases Nat.eq_or_lt_of_le h with rfl | h
    · exact ⟨[], by simp⟩
    · obtain ⟨r, hr⟩:=Q_mono (show i ≤ j by omega)
      obtain ⟨r', hr', _⟩:=qle nxt a0 b0 j
      exact ⟨r++r', by rw [hr', hr, List.append_assoc]⟩
theorem qod {i j k:Nat} (h:i ≤ j) {e:Fd α β} (he:(Q nxt a0 b0 i)[k]? = some e):(Q nxt a0 b0 j)[k]? = some e:=by
  obtain ⟨r, hr⟩:=Q_mono nxt a0 b0 h
  rw [hr, List.getElem?_append_left (by exact (List.getElem?_eq_some_iff.1 he).1)]
  exact he
theorem Q_pos (i:Nat):0 < (Q nxt a0 b0 i).length:=by
  obtain ⟨r, hr⟩:=Q_mono nxt a0 b0 (Nat.zero_le i)
  rw [hr]; simp [Q]
theorem Q_zero (i:Nat):(Q nxt a0 b0 i)[0]? = some (a0, 0, b0):=qod nxt a0 b0 (Nat.zero_le i) (by simp [Q])
theorem Q_from:∀ (i:Nat), (∀ j, j < i → j < (Q nxt a0 b0 j).length) → ∀ (k:Nat) (e:Fd α β), 0 < k → (Q nxt a0 b0 i)[k]? = some e →
    e.2.1 < k ∧ e.2.1 < i ∧ ∃ e', (Q nxt a0 b0 i)[e.2.1]? = some e' ∧ (e.2.2, e.1) ∈ nxt e'.1
  | 0, _, k, e, hk, he=>by
    simp only [Q] at he
    have:=(List.getElem?_eq_some_iff.1 he).1
    simp at this; omega
  | i + 1, hi, k, e, hk, he=>by
    obtain ⟨r, hr, hx⟩:=qle nxt a0 b0 i
    by_cases hl:k < (Q nxt a0 b0 i).length
    · rw [hr, List.getElem?_append_left hl] at he
      obtain ⟨h1, h2, e', h3, h4⟩:=Q_from i (fun j hj=>hi j (by omega)) k e hk he
      exact ⟨h1, by omega, e', qod nxt a0 b0 (by omega) h3, h4⟩
    · rw [hr, List.getElem?_append_right (by omega)] at he
      obtain ⟨h1, e', h2, h3⟩:=hx e (List.mem_of_getElem? he)
      have:=hi i (by omega)
      exact ⟨by omega, by omega, e', qod nxt a0 b0 (by omega) (h1 ▸ h2), h3⟩
theorem Q_full {i j:Nat} (h:j < i) {e:Fd α β} (he:(Q nxt a0 b0 i)[j]? = some e) (hj:j < (Q nxt a0 b0 j).length) {x:β×α} (hx:x ∈ nxt e.1):x.2 ∈ (Q nxt a0 b0 i).map (·.1):=by
  have e0:(Q nxt a0 b0 j)[j]? = some e:=by
    obtain ⟨r, hr⟩:=Q_mono nxt a0 b0 (show j ≤ i by omega)
    rw [hr, List.getElem?_append_left hj] at he
    exact he
  have h1:x.2 ∈ (Q nxt a0 b0 (j + 1)).map (·.1):=by
    simp only [Q, e0]
    exact qin j (nxt e.1) _ x hx
  obtain ⟨r, hr⟩:=Q_mono nxt a0 b0 (show j + 1 ≤ i by omega)
  rw [hr, List.map_append]
  exact List.mem_append_left _ h1
theorem Q_all (P:α → Prop) (h0:P a0) (hP:∀ a, P a → ∀ e, e ∈ nxt a → P e.2):∀ (i:Nat) (e:Fd α β), e ∈ Q nxt a0 b0 i → P e.1
  | 0, e, h=>by simp [Q] at h; subst h; exact h0
  | i + 1, e, h=>by
    obtain ⟨r, hr, hx⟩:=qle nxt a0 b0 i
    rw [hr] at h
    rcases List.mem_append.1 h with h | h
    · exact Q_all P h0 hP i e h
    · obtain ⟨_, e', h2, h3⟩:=hx e h
      exact hP e'.1 (Q_all P h0 hP i e' (List.mem_of_getElem? h2)) _ h3
theorem Q_le (P:α → Prop) (h0:P a0) (hP:∀ a, P a → ∀ e, e ∈ nxt a → P e.2) (f:α → Nat) (N:Nat) (hf:∀ a, P a → f a < N) (hi:∀ a b, P a → P b → f a = f b → a = b) (i:Nat):(Q nxt a0 b0 i).length ≤ N:=by
  have hm:∀ a, a ∈ (Q nxt a0 b0 i).map (·.1) → P a:=fun a ha=>by
    obtain ⟨e, he, rfl⟩:=List.mem_map.1 ha
    exact Q_all nxt a0 b0 P h0 hP i e he
  have:=qp1 f N _ (qks nxt a0 b0 i) (fun a b ha hb=>hi a b (hm a ha) (hm b hb)) fun a ha=>hf a (hm a ha)
  rwa [List.length_map] at this
theorem qqp:∀ (i:Nat), (∀ j, j < i → j < (Q nxt a0 b0 j).length) → ∀ (k k':Nat) (e e':Fd α β), 0 < k → k ≤ k' → (Q nxt a0 b0 i)[k]? = some e → (Q nxt a0 b0 i)[k']? = some e' → e.2.1 ≤ e'.2.1
  | 0, _, k, k', e, e', hk, hkk, he, he'=>by
    simp only [Q] at he
    have:=(List.getElem?_eq_some_iff.1 he).1
    simp at this; omega
  | i + 1, hi, k, k', e, e', hk, hkk, he, he'=>by
    obtain ⟨r, hr, hx⟩:=qle nxt a0 b0 i
    by_cases hl:k' < (Q nxt a0 b0 i).length
    · rw [hr, List.getElem?_append_left hl] at he'
      rw [hr, List.getElem?_append_left (by omega)] at he
      exact qqp i (fun j hj=>hi j (by omega)) k k' e e' hk hkk he he'
    · rw [hr, List.getElem?_append_right (by omega)] at he'
      have h1:=(hx e' (List.mem_of_getElem? he')).1
      have:=(Q_from nxt a0 b0 (i + 1) hi k e hk he).2.1
      omega
theorem qpu {i j:Nat} (hi:∀ j, j < i → j < (Q nxt a0 b0 j).length) (h:j < i) {e:Fd α β} (he:(Q nxt a0 b0 i)[j]? = some e) {x:β×α} (hx:x ∈ nxt e.1) :
    ∃ t e', (Q nxt a0 b0 i)[t]? = some e' ∧ e'.1 = x.2 ∧ (t = 0 ∨ e'.2.1 ≤ j):=by
  have hj:=hi j h
  have e0:(Q nxt a0 b0 j)[j]? = some e:=by
    obtain ⟨r, hr⟩:=Q_mono nxt a0 b0 (show j ≤ i by omega)
    rw [hr, List.getElem?_append_left hj] at he
    exact he
  have h1:x.2 ∈ (Q nxt a0 b0 (j + 1)).map (·.1):=by
    simp only [Q, e0]
    exact qin j (nxt e.1) _ x hx
  obtain ⟨e', he', h2⟩:=List.mem_map.1 h1
  obtain ⟨t, ht⟩:=List.getElem?_of_mem he'
  refine ⟨t, e', qod nxt a0 b0 (by omega) ht, h2, ?_⟩
  rcases Nat.eq_zero_or_pos t with h | h
  · exact .inl h
  · have:=(Q_from nxt a0 b0 (j + 1) (fun j' hj'=>hi j' (by omega)) t e' h ht).2.1
    exact .inr (by omega)
end
section
variable {α β:Type} (nxt:α → List (β×α)) (a0:α) (b0:β)
def tr (q:List (Fd α β)):Nat → Nat → List β
  | 0, _=>[]
  | n + 1, k=>if k = 0 then [] else match q[k]? with
    | some e=>tr q n e.2.1++[e.2.2]
    | none=>[]
inductive Path (nxt:α → List (β×α)):α → List β → α → Prop
  | nil (a:α):Path nxt a [] a
  | snoc {a b c:α} {l:List β} {x:β}:Path nxt a l b → (x, c) ∈ nxt b → Path nxt a (l++[x]) c
structure Fin (q:List (Fd α β)) (n:Nat):Prop where
  le:n ≤ q.length
  zero:q[0]? = some (a0, 0, b0)
  frm:∀ (k:Nat) (e:Fd α β), 0 < k → q[k]? = some e → e.2.1 < k ∧ ∃ e', q[e.2.1]? = some e' ∧ (e.2.2, e.1) ∈ nxt e'.1
  asc:∀ (k k':Nat) (e e':Fd α β), 0 < k → k ≤ k' → q[k]? = some e → q[k']? = some e' → e.2.1 ≤ e'.2.1
  full:∀ (j:Nat) (e:Fd α β), j < n → q[j]? = some e → ∀ x, x ∈ nxt e.1 → ∃ t e', q[t]? = some e' ∧ e'.1 = x.2 ∧ (t = 0 ∨ e'.2.1 ≤ j)
  nodup:(q.map (·.1)).Nodup
variable {nxt a0 b0}
theorem qj4 {q:List (Fd α β)} {n:Nat} (F:Fin nxt a0 b0 q n):∀ (m k:Nat), k ≤ m → tr q m k = tr q k k
  | 0, k, h=>by rw [show k = 0 by omega]
  | m + 1, 0, h=>by simp [tr]
  | m + 1, k + 1, h=>by
    simp only [tr]
    rw [if_neg (by omega), if_neg (by omega)]
    cases he:q[k + 1]? with
    | none=>rfl
    | some e =>
      have:=(F.frm (k + 1) e (by omega) he).1
      simp only
      rw [qj4 F m e.2.1 (by omega), qj4 F k e.2.1 (by omega)]
theorem qmi {q:List (Fd α β)} {n:Nat} (F:Fin nxt a0 b0 q n) {k:Nat} (hk:0 < k) {e:Fd α β} (he:q[k]? = some e):tr q k k = tr q e.2.1 e.2.1++[e.2.2]:=by
  obtain ⟨k, rfl⟩:∃ j, k = j + 1:=⟨k - 1, by omega⟩
  have:=(F.frm (k + 1) e (by omega) he).1
  conv=>lhs; rw [tr]
  rw [if_neg (by omega), he]
  simp only
  rw [qj4 F k e.2.1 (by omega)]
theorem tr_path {q:List (Fd α β)} {n:Nat} (F:Fin nxt a0 b0 q n) (k:Nat) (e:Fd α β) (he:q[k]? = some e):Path nxt a0 (tr q k k) e.1:=by
  induction k using Nat.strongRecOn generalizing e with
  | _ k ih =>
    rcases Nat.eq_zero_or_pos k with rfl | hk
    · rw [F.zero] at he; cases he; exact .nil _
    · obtain ⟨h1, e', h2, h3⟩:=F.frm k e hk he
      rw [qmi F hk he]
      exact .snoc (ih _ h1 e' h2) h3
theorem qnI {q:List (Fd α β)} {n:Nat} (F:Fin nxt a0 b0 q n) (k:Nat):∀ (k':Nat) (e:Fd α β), k' ≤ k → q[k]? = some e → (tr q k' k').length ≤ (tr q k k).length:=by
  induction k using Nat.strongRecOn with
  | _ k ih =>
    intro k' e hk he
    rcases Nat.eq_zero_or_pos k' with rfl | h0
    · simp [tr]
    · have hl:=(List.getElem?_eq_some_iff.1 he).1
      obtain ⟨e', he'⟩:∃ e', q[k']? = some e':=⟨q[k'], List.getElem?_eq_getElem (by omega)⟩
      rw [qmi F h0 he', qmi F (by omega) he, List.length_append, List.length_append]
      obtain ⟨h1, e2, h2, _⟩:=F.frm k e (by omega) he
      have:=ih e.2.1 h1 e'.2.1 e2 (F.asc k' k e' e h0 hk he' he) h2
      simp; omega
theorem qlE {q:List (Fd α β)} {n:Nat} (F:Fin nxt a0 b0 q n) {l:List β} {c:α} (h:Path nxt a0 l c) :
    (∃ j e, j < n ∧ q[j]? = some e ∧ e.1 = c ∧ (tr q j j).length ≤ l.length) ∨ (∃ t e, n ≤ t ∧ q[t]? = some e ∧ (tr q t t).length ≤ l.length):=by
  induction h with
  | nil =>
    rcases Nat.eq_zero_or_pos n with h0 | h0
    · exact .inr ⟨0, _, by omega, F.zero, by simp [tr]⟩
    · exact .inl ⟨0, _, h0, F.zero, rfl, by simp [tr]⟩
  | snoc h hx ih =>
    rename_i b c l x
    rcases ih with ⟨j, e, hj, he, rfl, hd⟩ | ⟨t, e, ht, he, hd⟩
    · obtain ⟨t, e', h1, h2, h3⟩:=F.full j e hj he _ hx
      have hlen:(tr q t t).length ≤ (l++[x]).length:=by
        rw [List.length_append]
        rcases Nat.eq_zero_or_pos t with rfl | ht
        · simp [tr]
        · have h3:e'.2.1 ≤ j:=by omega
          rw [qmi F ht h1, List.length_append]
          have:=qnI F j e'.2.1 e h3 he
          simp; omega
      by_cases htn:t < n
      · exact .inl ⟨t, e', htn, h1, h2, hlen⟩
      · exact .inr ⟨t, e', by omega, h1, hlen⟩
    · exact .inr ⟨t, e, ht, he, by rw [List.length_append]; omega⟩
theorem path_goal {q:List (Fd α β)} {n:Nat} (F:Fin nxt a0 b0 q n) (goal:α → Bool) (hg:∀ j e, j < n → q[j]? = some e → goal e.1 = false) {l:List β} {c:α} (h:Path nxt a0 l c) (hc:goal c = true) :
    ∃ e, q[n]? = some e ∧ (tr q n n).length ≤ l.length:=by
  rcases qlE F h with ⟨j, e, hj, he, rfl, _⟩ | ⟨t, e, ht, he, hd⟩
  · rw [hg j e hj he] at hc; cases hc
  · have hl:=(List.getElem?_eq_some_iff.1 he).1
    exact ⟨q[n]'(by omega), List.getElem?_eq_getElem (by omega), Nat.le_trans (qnI F t n e ht he) hd⟩
theorem qqe {q:List (Fd α β)} (F:Fin nxt a0 b0 q q.length) {l:List β} {c:α} (h:Path nxt a0 l c):∃ j e, q[j]? = some e ∧ e.1 = c ∧ (tr q j j).length ≤ l.length:=by
  rcases qlE F h with ⟨j, e, _, he, hc, hd⟩ | ⟨t, e, ht, he, hd⟩
  · exact ⟨j, e, he, hc, hd⟩
  · have:=(List.getElem?_eq_some_iff.1 he).1
    omega
theorem tr_len (q:List (Fd α β)):∀ (n k:Nat), (tr q n k).length ≤ n
  | 0, k=>by simp [tr]
  | n + 1, k=>by
    simp only [tr]
    split
    · simp
    · split
      · have:=tr_len q n (‹Fd α β›).2.1
        rw [List.length_append]; simp; omega
      · simp
def bk (q:List (Fd α β)) (k:Nat):Nat → Nat
  | 0=>k
  | t + 1=>match q[bk q k t]? with
    | some e=>e.2.1
    | none=>0
def pl (q:List (Fd α β)) (k:Nat):Nat → List β
  | 0=>[]
  | t + 1=>match q[bk q k t]? with
    | some e=>pl q k t++[e.2.2]
    | none=>pl q k t
theorem bk_tr {q:List (Fd α β)} {n:Nat} (F:Fin nxt a0 b0 q n) {k:Nat} (hk:k < q.length):∀ (t:Nat), t ≤ (tr q k k).length →
    bk q k t < q.length ∧ tr q k k = tr q (bk q k t) (bk q k t)++(pl q k t).reverse ∧ (pl q k t).length = t
  | 0, _=>⟨hk, by simp [bk, pl], rfl⟩
  | t + 1, h=>by
    obtain ⟨h1, h2, h3⟩:=bk_tr F hk t (by omega)
    have hl:(tr q k k).length = (tr q (bk q k t) (bk q k t)).length + t:=by
      conv=>lhs; rw [h2]
      rw [List.length_append, List.length_reverse, h3]
    have hp:0 < bk q k t:=by
      rcases Nat.eq_zero_or_pos (bk q k t) with h0 | h0
      · rw [h0] at hl; simp [tr] at hl; omega
      · exact h0
    have he:q[bk q k t]? = some q[bk q k t]:=List.getElem?_eq_getElem h1
    have:=(F.frm _ _ hp he).1
    refine ⟨?_, ?_, ?_⟩
    · simp only [bk, he]; omega
    · simp only [bk, pl, he]
      rw [h2, qmi F hp he, List.reverse_append]
      simp
    · simp only [pl, he]
      rw [List.length_append, h3]; rfl
theorem bk_pos {q:List (Fd α β)} {n:Nat} (F:Fin nxt a0 b0 q n) {k:Nat} (hk:k < q.length) {t:Nat} (h:t < (tr q k k).length):0 < bk q k t:=by
  obtain ⟨h1, h2, h3⟩:=bk_tr F hk t (by omega)
  have hl:(tr q k k).length = (tr q (bk q k t) (bk q k t)).length + t:=by
    conv=>lhs; rw [h2]
    rw [List.length_append, List.length_reverse, h3]
  rcases Nat.eq_zero_or_pos (bk q k t) with h0 | h0
  · rw [h0] at hl; simp [tr] at hl; omega
  · exact h0
theorem bk_end {q:List (Fd α β)} {n:Nat} (F:Fin nxt a0 b0 q n) {k:Nat} (hk:k < q.length):bk q k (tr q k k).length = 0 ∧ pl q k (tr q k k).length = (tr q k k).reverse:=by
  obtain ⟨h1, h2, h3⟩:=bk_tr F hk _ (Nat.le_refl _)
  have hl:(tr q (bk q k (tr q k k).length) (bk q k (tr q k k).length)).length = 0:=by
    have:=congrArg List.length h2
    rw [List.length_append, List.length_reverse, h3] at this
    omega
  refine ⟨?_, ?_⟩
  · rcases Nat.eq_zero_or_pos (bk q k (tr q k k).length) with h0 | h0
    · exact h0
    · rw [qmi F h0 (List.getElem?_eq_getElem h1), List.length_append] at hl
      simp at hl
  · rw [List.eq_nil_of_length_eq_zero hl, List.nil_append] at h2
    exact (List.reverse_eq_iff.1 h2.symm)
theorem Fin.inj {q:List (Fd α β)} {n:Nat} (F:Fin nxt a0 b0 q n) {i j:Nat} {e e':Fd α β} (h:q[i]? = some e) (h':q[j]? = some e') (he:e.1 = e'.1):i = j:=by
  have h1:(q.map (·.1))[i]? = some e.1:=by rw [List.getElem?_map, h]; rfl
  have h2:(q.map (·.1))[j]? = some e.1:=by rw [List.getElem?_map, h', he]; rfl
  exact (List.getElem?_inj (by have:=(List.getElem?_eq_some_iff.1 h1).1; exact this) F.nodup).1 (h1.trans h2.symm)
end
section
variable {α β:Type} [DecidableEq α] (nxt:α → List (β×α)) (a0:α) (b0:β)
theorem Q_fin (i:Nat) (hi:∀ j, j < i → j < (Q nxt a0 b0 j).length) (hl:i ≤ (Q nxt a0 b0 i).length):Fin nxt a0 b0 (Q nxt a0 b0 i) i where
  le:=hl
  zero:=Q_zero nxt a0 b0 i
  frm:=fun k e hk he=>let ⟨h1, _, h3⟩:=Q_from nxt a0 b0 i hi k e hk he; ⟨h1, h3⟩
  asc:=qqp nxt a0 b0 i hi
  full:=fun j e hj he x hx=>qpu nxt a0 b0 hi hj he hx
  nodup:=qks nxt a0 b0 i
theorem Q_len (i:Nat) (hi:∀ j, j < i → j < (Q nxt a0 b0 j).length):i ≤ (Q nxt a0 b0 i).length:=by
  cases i with
  | zero=>omega
  | succ i =>
    obtain ⟨r, hr⟩:=Q_mono nxt a0 b0 (show i ≤ i + 1 by omega)
    rw [hr, List.length_append]
    have:=hi i (by omega)
    omega
end
end Go.Bf
