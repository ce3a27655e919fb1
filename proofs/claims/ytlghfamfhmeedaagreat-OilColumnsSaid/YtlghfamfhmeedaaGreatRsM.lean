import Derived.Test.YtlghfamfhmeedaaGreatRsFc
import Derived.Test.YtlghfamfhmeedaaGreatRsS
import Derived.Test.YtlghfamfhmeedaaGreatA5
set_option linter.unusedVariables false
set_option linter.unusedSimpArgs false

namespace Go.Vm.Mo
open Go
set_option linter.unusedVariables false
set_option linter.unusedSimpArgs false
theorem dT {p:Prop} [Decidable p] (h:p):decide p = true:=decide_eq_true h
theorem dF {p:Prop} [Decidable p] (h:¬ p):decide p = false:=decide_eq_false h
theorem nT {p:Prop} [Decidable p] (h:¬ p):(!decide p) = true:=by rw [decide_eq_false h]; rfl
theorem nF {p:Prop} [Decidable p] (h:p):(!decide p) = false:=by rw [decide_eq_true h]; rfl
theorem dA {p q:Prop} [Decidable p] [Decidable q] (h:p) (k:q):(decide p && decide q) = true:=by rw [decide_eq_true h, decide_eq_true k]; rfl
def low (a b:Int):Int×Int×Unit:=(a.tdiv (Int.gcd a b), b.tdiv (Int.gcd a b), ())
theorem qiU {n:Int} (h1:-9223372036854775808 ≤ n) (h2:n ≤ 9223372036854775807):IntKind.wrap .i64 n = n:=by rw [← qct, qad h1 h2]
theorem qpt (a b:Int) (ha:a.natAbs ≤ 9223372036854775807) (hb:b.natAbs ≤ 9223372036854775807):IntKind.wrap .i64 (a.tdiv (Int.gcd a b)) = (low a b).1 ∧ IntKind.wrap .i64 (b.tdiv (Int.gcd a b)) = (low a b).2.1:=by
  have h1:=qhm a (Int.gcd a b)
  have h2:=qhm b (Int.gcd a b)
  exact ⟨qiU (by omega) (by omega), qiU (by omega) (by omega)⟩
theorem qr2 (x:Int) (h:x.natAbs ≤ 9223372036854775807):f185 (x, ()) = some ((x.natAbs:Int), ()):=by
  simp only [f185, t185, Tr.val_fin]
  rw [qiU (by omega) (by omega)]
  have e:(if x < 0 - x then 0 - x else x) = (x.natAbs:Int):=by split <;> omega
  rw [e]
theorem qr3 {n:Nat} (h:n ≤ 9223372036854775808):n < rounds:=by unfold rounds; omega
theorem qjH (bad:Nat → Bool):∀ (n i:Nat), first bad n (i + 1) = (first (fun k=>bad (k + 1)) n i).map (· + 1)
  | 0, _=>rfl
  | n + 1, i=>by
    simp only [first]
    split
    · rfl
    · exact qjH bad n (i + 1)
def qay:List Int → Int
  | []=>0
  | a :: l=>if a = 0 then qay l else a
theorem qhZ:∀ l:List Int, (match first (fun i=>!decide (l.getD i 0 = 0)) l.length 0 with
    | some k=>l.getD k 0
    | none=>0) = qay l
  | []=>rfl
  | a :: l=>by
    simp only [List.length, first, qay]
    by_cases ha:a = 0
    · subst ha
      have e:=qhZ l
      have hf:first (fun i=>!decide (((0:Int) :: l).getD i 0 = 0)) l.length (0 + 1) = (first (fun i=>!decide (l.getD i 0 = 0)) l.length 0).map (· + 1):=by
        rw [qjH]; rfl
      simp only [hf, List.getD_cons_zero, decide_true, Bool.not_true, Bool.false_eq_true, if_false, if_true]
      rw [← e]
      cases first (fun i=>!decide (l.getD i 0 = 0)) l.length 0 with
      | none=>rfl
      | some k=>rfl
    · simp [ha]
theorem l94 (l:List Int) (h:l.length ≤ 1000000000):l94_0 ((l, (l.length:Int), (0:Int), ()), ()) = match first (fun i=>!decide (l.getD i 0 = 0)) l.length 0 with
    | some k=>some (.inr ((l.getD k 0, ()), ()))
    | none=>some (.inl ((), ())):=by
  refine qfj (fun i=>((l, (l.length:Int), (i:Int), ()), ())) (fun i=>!decide (l.getD i 0 = 0)) (fun k=>((l.getD k 0, ()), ())) (n:=l.length) ?_ ?_ (qaS (by omega))
  · intro i hi
    simp only [s94_0, t94_0, Tr.val_test, qan, qaW]
    rw [if_pos (by simp; omega), if_pos (by simp; omega)]
    simp only [Int.toNat_natCast, qcm (show i ≤ 9223372036854775806 by omega)]
    rfl
  · simp [s94_0, t94_0, qan]
theorem qok (l:List Int) (h:l.length ≤ 1000000000):f94 (l, ()) = some (qay l, ()):=by
  simp only [f94, t94, Tr.val_test, r94_0, l94 l h, ← qhZ l]
  cases first (fun i=>!decide (l.getD i 0 = 0)) l.length 0 with
  | none=>rfl
  | some k=>rfl
theorem qow (d:Tys.data as95):f95 d = some (if d.1 = true then d.2.1 else (0:Int), ()):=by
  simp only [f95, t95, Tr.val_test]
  split <;> rfl
def wi (lo hi x:Int):Bool:=decide (lo ≤ x) && decide (x ≤ hi)
theorem wi_iff {lo hi x:Int}:wi lo hi x = true ↔ lo ≤ x ∧ x ≤ hi:=by simp [wi]
theorem qnV (d:Tys.data as20):f20 d = some (wi d.2.1 d.2.2.1 d.1, ()):=by
  simp only [f20, t20, Tr.val_test, Tr.val_fin, qan, decide_eq_true_eq, wi]
  split <;> simp [*]
theorem l93 (lo hi:Int) (l:List Int) (h:l.length ≤ 1000000000):l93_0 ((lo, hi, l, (l.length:Int), (0:Int), ()), ()) = match first (fun i=>!wi lo hi (l.getD i 0)) l.length 0 with
    | some _=>some (.inr ((false, ()), ()))
    | none=>some (.inl ((), ())):=by
  refine qfj (fun i=>((lo, hi, l, (l.length:Int), (i:Int), ()), ())) (fun i=>!wi lo hi (l.getD i 0)) (fun _=>((false, ()), ())) (n:=l.length) ?_ ?_ (qaS (by omega))
  · intro i hi'
    simp only [s93_0, t93_0, Tr.val_test, Tr.val_fin, qan, Int.toNat_natCast, qcm (show i ≤ 9223372036854775806 by omega)]
    rw [if_pos (by simp; omega), if_pos (by simp; omega)]
    by_cases a0:lo ≤ l.getD i 0
    · by_cases a1:l.getD i 0 ≤ hi
      · simp only [wi, a0, a1, decide_true, Bool.and_self, Bool.not_true, if_true, if_false, Bool.false_eq_true]
      · simp only [wi, a0, a1, decide_true, decide_false, Bool.and_false, Bool.not_false, Bool.not_true, if_true, if_false, Bool.false_eq_true]
    · simp only [wi, a0, decide_false, Bool.false_and, Bool.not_false, if_true, if_false, Bool.false_eq_true]
  · simp [s93_0, t93_0, qan]
theorem qoO (lo hi:Int) (l:List Int) (h:l.length ≤ 1000000000):f93 (lo, hi, l, ()) = some ((first (fun i=>!wi lo hi (l.getD i 0)) l.length 0).isNone, ()):=by
  have hl:=l93 lo hi l h
  cases hf:first (fun i=>!wi lo hi (l.getD i 0)) l.length 0 with
  | none =>
    rw [hf] at hl
    simp only [f93, t93, Tr.val_test, Tr.val_fin, hl, qe6, Option.isSome_some, Option.isNone_none, if_true, Bool.false_eq_true, if_false]
  | some k =>
    rw [hf] at hl
    simp only [f93, t93, Tr.val_test, Tr.val_fin, hl, qe6, r93_0, outR, Option.isSome_some, Option.isNone_some, if_true]
theorem qqB (lo hi a:Int):f93 (lo, hi, [a], ()) = some (wi lo hi a, ()):=by
  rw [qoO lo hi _ (by simp)]
  simp only [first, List.length, List.getD_cons_zero]
  by_cases h1:wi lo hi a = true
  · simp [h1]
  · simp [h1]
theorem qqK (lo hi a b:Int):f93 (lo, hi, [a, b], ()) = some (wi lo hi a && wi lo hi b, ()):=by
  rw [qoO lo hi _ (by simp)]
  simp only [first, List.length, List.getD_cons_zero, List.getD_cons_succ]
  by_cases h1:wi lo hi a = true
  · by_cases h2:wi lo hi b = true
    · simp [h1, h2]
    · simp [h1, h2]
  · simp [h1]
theorem wn64 {x:Int} (h1:-9223372036854775807 ≤ x) (h2:x ≤ 9223372036854775807):IntKind.wrap .i64 (0 - x) = -x:=by
  rw [← qct, qad (by omega) (by omega)]
  omega
theorem qoI {n:Int} (h1:-9223372036854775808 ≤ n) (h2:n ≤ 9223372036854775807):IntKind.wrap .i64 n = n:=by rw [← qct, qad h1 h2]
theorem qpN (x:Int) (h:x.natAbs ≤ 9223372036854775807):f185 (x, ()) = some ((x.natAbs:Int), ()):=by
  simp only [f185, t185, Tr.val_fin]
  rw [qoI (by omega) (by omega)]
  have e:(if x < 0 - x then 0 - x else x) = (x.natAbs:Int):=by split <;> omega
  rw [e]
theorem l199 (l:List Int) (h:l.length ≤ 1000000000):l199_0 ((l, (l.length:Int), ()), ()) = some (.inl ((l, (qdD l l.length:Int), ()), ())):=by
  have hle:=qgc l l.length
  refine qdO (fun i=>((l, ((l.length - i:Nat):Int), ()), ())) (n:=l.length - qdD l l.length) ?_ ?_ (qaS (by omega))
  · intro i hi
    have h0:=qia l l.length (l.length - i - 1) (by omega) (by omega)
    have e:wrap64 (((l.length - i:Nat):Int) - 1) = ((l.length - i - 1:Nat):Int):=by rw [qad (by omega) (by omega)]; omega
    simp only [s199_0, t199_0, Tr.val_test, Tr.val_fin, qan, qaW, e, Int.toNat_natCast, h0]
    rw [if_pos (by simp <;> omega), if_pos (by simp <;> omega), if_pos (by simp)]
    rfl
  · have e0:l.length - (l.length - qdD l l.length) = qdD l l.length:=by omega
    dsimp only
    rw [e0]
    cases hk:qdD l l.length with
    | zero=>simp [s199_0, t199_0, qan]
    | succ m =>
      have h0:=qfh l l.length m hk
      have e:wrap64 (((m + 1:Nat):Int) - 1) = ((m:Nat):Int):=by rw [qad (by omega) (by omega)]; omega
      simp only [s199_0, t199_0, Tr.val_test, Tr.val_fin, qan, qaW, e, Int.toNat_natCast]
      rw [if_pos (by simp <;> omega), if_pos (by simp <;> omega), if_neg (by simpa using h0)]
theorem qkB (l:List Int) (h:l.length ≤ 1000000000) (hd:Dg l):f199 (l, ()) = some (dig (dval l).toNat, ()):=by
  have hle:=qgc l l.length
  simp only [f199, t199, b199_0, l199 l h, Tr.val_test, Tr.val_fin, qbk, if_true, outB, Int.toNat_natCast]
  rw [if_pos (by simp <;> omega), qpw hd]
def mkN (s n:Int):Int×List Int×PUnit:=if n = 0 then (0, [], ()) else (s, dig n.toNat, ())
theorem qev (s:Int) (l:List Int) (h:l.length ≤ 1000000000) (hd:Dg l):f186 (s, l, ()) = some (mkN s (dval l), ()):=by
  have h0:=qb2 hd
  simp only [f186, t186, g199, qkB l h hd, Option.isSome_some, Option.getD_some, Tr.val_test, Tr.val_fin, qaW, if_true, mkN]
  by_cases e:dval l = 0
  · rw [if_pos (by rw [e]; simp [qaN]), if_pos e, e]
    simp [qaN]
  · rw [if_neg e, if_neg]
    intro h2
    simp only [decide_eq_true_eq] at h2
    have h3:(dig (dval l).toNat).length = 0:=by omega
    have:=dig_nil.1 (List.eq_nil_of_length_eq_zero h3)
    omega
theorem qhg {s z:Int} (h:z ≠ 0 → s = z.sign):mkN s z.natAbs = enc z:=by
  unfold mkN enc
  by_cases e:z = 0
  · subst e; simp [qaN]
  · rw [if_neg (by omega), h e]; simp
theorem qkt (l:List Int) (i:Nat):f211 (l, (i:Int), ()) = some (l.getD i 0, ()):=by
  simp only [f211, t211, Tr.val_test, Tr.val_fin, qan]
  by_cases h:i < l.length
  · rw [if_pos (by simp <;> omega), if_pos (by simp <;> omega)]; simp
  · rw [if_neg (by simp <;> omega)]
    simp [List.getD, List.getElem?_eq_none (Nat.le_of_not_lt h)]
theorem qrp (s b:Int):∀ (k:Nat) (x:Int) (acc:List Int) (m:Nat), (x.natAbs:Int) < pw k → x.natAbs ≤ 9223372036854775807 → acc.length + k ≤ 1000000 → k < m →
    itr s164_0 m ((x, s, acc, ()), ((b, ()), ())) = some (.inl ((s, acc++dig x.natAbs, ()), ((b, ()), ())))
  | 0, x, acc, m, h1, _, _, hm=>by
    have:x = 0:=by simp only [pw] at h1; omega
    subst this
    obtain ⟨m, rfl⟩:∃ j, m = j + 1:=⟨m - 1, by omega⟩
    simp [itr, s164_0, t164_0, qaW, qaN]
  | k + 1, x, acc, m, h1, h2, h3, hm=>by
    obtain ⟨m, rfl⟩:∃ j, m = j + 1:=⟨m - 1, by omega⟩
    by_cases hx:x = 0
    · subst hx
      simp [itr, s164_0, t164_0, qaW, qaN]
    · have e1:(Int.tmod x 1000000000).natAbs = x.natAbs % 1000000000:=by rw [Int.natAbs_tmod]; rfl
      have e2:(Int.tdiv x 1000000000).natAbs = x.natAbs / 1000000000:=by rw [Int.natAbs_tdiv]; rfl
      have e3:IntKind.wrap .i64 (Int.tdiv x 1000000000) = Int.tdiv x 1000000000:=qoI (by omega) (by omega)
      have st:s164_0 ((x, s, acc, ()), ((b, ()), ())) = some (.again ((Int.tdiv x 1000000000, s, acc++[((x.natAbs % 1000000000:Nat):Int)], ()), ((b, ()), ()))):=by
        simp only [s164_0, t164_0, g185, qpN (Int.tmod x 1000000000) (by omega), Option.isSome_some, Option.getD_some, Tr.val_test, Tr.val_fin, qaW, e3, e1, if_true]
        rw [if_pos (by simpa using hx), if_pos (by simp <;> omega)]
      simp only [pw] at h1
      rw [itr, st]
      dsimp only
      rw [qrp s b k (Int.tdiv x 1000000000) _ m (by omega) (by omega) (by simp <;> omega) (by omega), qeA (show x.natAbs ≠ 0 by omega), e2]
      simp
theorem qdU (x:Int) (h:x.natAbs ≤ 9223372036854775807):f164 (x, ()) = some (enc x, ()):=by
  have hl:∀ s:Int, l164_0 ((x, s, [], ()), (((0:Int), ()), ())) = some (.inl ((s, dig x.natAbs, ()), (((0:Int), ()), ()))):=fun s=>by
    have:=qrp s 0 3 x [] rounds (by simp only [pw]; omega) h (by simp) (qaS (by omega))
    simpa [l164_0] using this
  have hg:(dig x.natAbs).length ≤ 3:=qa7 (by simp only [pw]; omega)
  have e:=qbF x.natAbs
  simp only [f164, t164, b164_0, hl, g186, qev _ (dig x.natAbs) (by omega) (qbI _), e, Option.isSome_some, Option.getD_some, Tr.val_test, Tr.val_fin, qbk, outB, if_true, qan]
  by_cases hx:0 ≤ x
  · rw [if_neg (by simp <;> omega)]
    have:mkN 1 (x.natAbs:Int) = enc x:=qhg fun h=>by rw [Int.sign_eq_one_of_pos (by omega)]
    rw [this]
  · rw [if_pos (by simp <;> omega)]
    have:mkN (-1) (x.natAbs:Int) = enc x:=qhg fun h=>by rw [Int.sign_eq_neg_one_of_neg (by omega)]
    rw [this]
def cA (a b:List Int):Nat → Int
  | 0=>0
  | i + 1=>(a.getD i 0 + b.getD i 0 + cA a b i) / 1000000000
def oA (a b:List Int):Nat → List Int
  | 0=>[]
  | i + 1=>oA a b i++[(a.getD i 0 + b.getD i 0 + cA a b i) % 1000000000]
theorem qpU {a b:List Int} (ha:Dg a) (hb:Dg b):∀ i, 0 ≤ cA a b i ∧ cA a b i ≤ 1
  | 0=>by simp [cA]
  | i + 1=>by
    have:=qpU ha hb i; have:=ha.getD i; have:=hb.getD i
    simp only [cA]; omega
theorem qlX (a b:List Int):∀ i, (oA a b i).length = i
  | 0=>rfl
  | i + 1=>by simp [oA, qlX a b i]
theorem qrS (a b:List Int):∀ i, Dg (oA a b i)
  | 0=>Dg.nil
  | i + 1=>(qrS a b i).push (by omega) (by omega)
theorem qrY (a b:List Int):∀ i, dval (oA a b i) + pw i * cA a b i = dval (a.take i) + dval (b.take i)
  | 0=>by simp [oA, cA, dval, pw]
  | i + 1=>by
    have ih:=qrY a b i
    rw [oA, qkJ, qlX, qbt, qbt, cA, pw]
    generalize hs:a.getD i 0 + b.getD i 0 + cA a b i = s at *
    have e:s % 1000000000 = s - 1000000000 * (s / 1000000000):=by omega
    have e2:pw i * (s % 1000000000) + 1000000000 * pw i * (s / 1000000000) = pw i * s:=by
      rw [e, Int.mul_sub, Int.mul_comm 1000000000 (pw i), Int.mul_assoc]; omega
    have e3:pw i * s = pw i * a.getD i 0 + pw i * b.getD i 0 + pw i * cA a b i:=by rw [← hs, Int.mul_add, Int.mul_add]
    omega
def nA (a b:List Int):Nat:=if cA a b (max a.length b.length) = 0 then max a.length b.length else max a.length b.length + 1
theorem qp7 {a b:List Int} (ha:Dg a) (hb:Dg b):cA a b (nA a b) = 0:=by
  unfold nA
  split
  · assumption
  · have:=qpU ha hb (max a.length b.length)
    have e1:a.getD (max a.length b.length) 0 = 0:=by simp [List.getD, List.getElem?_eq_none (Nat.le_max_left a.length b.length)]
    have e2:b.getD (max a.length b.length) 0 = 0:=by simp [List.getD, List.getElem?_eq_none (Nat.le_max_right a.length b.length)]
    simp only [cA, e1, e2]; omega
theorem qmu {a b:List Int} (ha:Dg a) (hb:Dg b) {i:Nat} (hl:i ≤ 1000000) (h:i < a.length ∨ i < b.length ∨ 0 < cA a b i) :
    s204_0 ((a, b, oA a b i, cA a b i, (i:Int), ()), ()) = some (.again ((a, b, oA a b (i + 1), cA a b (i + 1), ((i + 1:Nat):Int), ()), ())):=by
  have h1:=qpU ha hb i; have h2:=ha.getD i; have h3:=hb.getD i
  have e1:wrap64 (wrap64 (a.getD i 0 + b.getD i 0) + cA a b i) = a.getD i 0 + b.getD i 0 + cA a b i:=by
    rw [qad (n:=a.getD i 0 + b.getD i 0) (by omega) (by omega), qad (by omega) (by omega)]
  have e2:IntKind.wrap .i64 (Int.tdiv (a.getD i 0 + b.getD i 0 + cA a b i) 1000000000) = cA a b (i + 1):=by
    rw [Int.tdiv_eq_ediv_of_nonneg (by omega), qoI (by omega) (by omega), cA]
  have e3:Int.tmod (a.getD i 0 + b.getD i 0 + cA a b i) 1000000000 = (a.getD i 0 + b.getD i 0 + cA a b i) % 1000000000:=Int.tmod_eq_emod_of_nonneg (by omega)
  have e4:wrap64 ((i:Int) + 1) = ((i + 1:Nat):Int):=qcm (by omega)
  have e5:(Nat.ble ((2 * ((oA a b i).length + 1) + 192) * 8) 281474976710656 && Nat.ble ((oA a b i).length + 1) 281474976710656) = true:=by
    rw [qlX]; simp; omega
  simp only [s204_0, t204_0, g211, qkt a i, qkt b i, Option.isSome_some, Option.getD_some, Tr.val_test, Tr.val_fin, qan, if_true, e1, e2, e3, e4, e5]
  by_cases c1:i < a.length
  · rw [if_pos (by simp <;> omega)]; rfl
  · rw [if_neg (by simp <;> omega)]
    by_cases c2:i < b.length
    · rw [if_pos (by simp <;> omega)]; rfl
    · rw [if_neg (by simp <;> omega), if_pos (by simp <;> omega)]; rfl
theorem qqs (a b:List Int) (ha:Dg a) (hb:Dg b) (h1:a.length ≤ 100000) (h2:b.length ≤ 100000):f204 (a, b, ()) = some (oA a b (nA a b), ()):=by
  have hn:nA a b ≤ max a.length b.length + 1:=by unfold nA; split <;> omega
  have hl:l204_0 ((a, b, [], (0:Int), (0:Int), ()), ()) = some (.inl ((oA a b (nA a b), ()), ())):=by
    refine qdO (fun i=>((a, b, oA a b i, cA a b i, (i:Int), ()), ())) (n:=nA a b) ?_ ?_ (qaS (by omega))
    · intro i hi
      refine qmu ha hb (by omega) ?_
      have:=qpU ha hb i
      unfold nA at hi
      split at hi
      · omega
      · rename_i hc
        by_cases e:i = max a.length b.length
        · rw [← e] at hc; omega
        · omega
    · have hc:=qp7 ha hb
      have hm:max a.length b.length ≤ nA a b:=by unfold nA; split <;> omega
      simp only [s204_0, t204_0, Tr.val_test, Tr.val_fin, qan, hc]
      rw [if_neg (by simp <;> omega), if_neg (by simp <;> omega), if_neg (by simp)]
  simp only [f204, t204, b204_0, hl, Tr.val_test, Tr.val_fin, qbk, if_true, outB]
theorem qrE {a b:List Int} (ha:Dg a) (hb:Dg b):dval (oA a b (nA a b)) = dval a + dval b:=by
  have h:=qrY a b (nA a b)
  have hm:max a.length b.length ≤ nA a b:=by unfold nA; split <;> omega
  rw [qp7 ha hb, qaH a (by omega), qaH b (by omega)] at h
  omega
def cS (a b:List Int):Nat → Int
  | 0=>0
  | i + 1=>if a.getD i 0 - b.getD i 0 - cS a b i < 0 then 1 else 0
def oS (a b:List Int):Nat → List Int
  | 0=>[]
  | i + 1=>oS a b i++[if a.getD i 0 - b.getD i 0 - cS a b i < 0 then a.getD i 0 - b.getD i 0 - cS a b i + 1000000000 else a.getD i 0 - b.getD i 0 - cS a b i]
theorem qqS (a b:List Int):∀ i, 0 ≤ cS a b i ∧ cS a b i ≤ 1
  | 0=>by simp [cS]
  | i + 1=>by simp only [cS]; split <;> omega
theorem qjb (a b:List Int):∀ i, (oS a b i).length = i
  | 0=>rfl
  | i + 1=>by simp [oS, qjb a b i]
theorem qrZ {a b:List Int} (ha:Dg a) (hb:Dg b):∀ i, Dg (oS a b i)
  | 0=>Dg.nil
  | i + 1=>by
    have:=qqS a b i; have:=ha.getD i; have:=hb.getD i
    exact (qrZ ha hb i).push (by split <;> omega) (by split <;> omega)
theorem qrX (a b:List Int):∀ i, dval (oS a b i) - pw i * cS a b i = dval (a.take i) - dval (b.take i)
  | 0=>by simp [oS, cS, dval, pw]
  | i + 1=>by
    have ih:=qrX a b i
    rw [oS, qkJ, qjb, qbt, qbt, cS, pw]
    generalize hs:a.getD i 0 - b.getD i 0 - cS a b i = s at *
    have e3:pw i * s = pw i * a.getD i 0 - pw i * b.getD i 0 - pw i * cS a b i:=by rw [← hs, Int.mul_sub, Int.mul_sub]
    by_cases h:s < 0
    · rw [if_pos h, if_pos h, Int.mul_add]; omega
    · rw [if_neg h, if_neg h]; omega
theorem qk8 (a b:List Int) (ha:Dg a) (hb:Dg b) (h1:a.length ≤ 1000000) (h2:b.length ≤ a.length) (h3:dval b ≤ dval a):f201 (a, b, ()) = some (dig (dval a - dval b).toNat, ()):=by
  have hl:l201_0 ((a, b, [], (0:Int), (0:Int), ()), ()) = some (.inl ((oS a b a.length, ()), ())):=by
    refine qdO (fun i=>((a, b, oS a b i, cS a b i, (i:Int), ()), ())) (n:=a.length) ?_ ?_ (qaS (by omega))
    · intro i hi
      have h1:=qqS a b i; have h2:=ha.getD i; have h3:=hb.getD i
      have e0:wrap64 (a.getD i 0 - b.getD i 0) = a.getD i 0 - b.getD i 0:=qad (by omega) (by omega)
      have e1:wrap64 (wrap64 (a.getD i 0 - b.getD i 0) - cS a b i) = a.getD i 0 - b.getD i 0 - cS a b i:=by
        rw [e0, qad (by omega) (by omega)]
      have e2:wrap64 (a.getD i 0 - b.getD i 0 - cS a b i + 1000000000) = a.getD i 0 - b.getD i 0 - cS a b i + 1000000000:=qad (by omega) (by omega)
      have e4:wrap64 ((i:Int) + 1) = ((i + 1:Nat):Int):=qcm (by omega)
      have e5:(Nat.ble ((2 * ((oS a b i).length + 1) + 192) * 8) 281474976710656 && Nat.ble ((oS a b i).length + 1) 281474976710656) = true:=by
        rw [qjb]; simp; omega
      simp only [s201_0, t201_0, g211, qkt b i, Option.isSome_some, Option.getD_some, Tr.val_test, Tr.val_fin, qan, if_true, e1, e2, e4, e5, Int.toNat_natCast, oS, cS]
      rw [if_pos (by simp <;> omega), if_pos (by simp <;> omega)]
      by_cases h:a.getD i 0 - b.getD i 0 - cS a b i < 0
      · rw [if_pos (by simp only [Bool.not_eq_true', decide_eq_false_iff_not]; omega), if_pos h, if_pos h]
      · rw [if_neg (by simp only [Bool.not_eq_true', decide_eq_false_iff_not]; omega), if_neg h, if_neg h]
    · simp [s201_0, t201_0, qan]
  have hd:=qrZ ha hb a.length
  have hv:=qrX a b a.length
  rw [qaH a (Nat.le_refl _), qaH b h2] at hv
  have hlt:=qiS hd
  rw [qjb] at hlt
  have hc:=qqS a b a.length
  have hc0:cS a b a.length = 0:=by
    by_cases e:cS a b a.length = 1
    · rw [e] at hv; omega
    · omega
  rw [hc0, Int.mul_zero, Int.sub_zero] at hv
  simp only [f201, t201, b201_0, hl, g199, qkB _ (show (oS a b a.length).length ≤ 1000000000 by rw [qjb]; omega) hd, hv, Option.isSome_some, Option.getD_some, Tr.val_test, Tr.val_fin, qbk, if_true, outB]
theorem qn7 {l:List Int} (hd:Dg l) (hc:Can l) {m:Nat} (hm:l.length = m + 1):pw m ≤ dval l:=by
  have h3:=qbt l m
  rw [qaH _ (by omega)] at h3
  have h2:=hc m hm
  have h4:=qb2 (hd.take m)
  have h5:=hd.getD m
  have h7:pw m * 1 ≤ pw m * l.getD m 0:=Int.mul_le_mul_of_nonneg_left (by omega) (Int.le_of_lt (qel m))
  omega
theorem qo1 {a b:List Int} (ha:Dg a) (hb:Dg b) {j:Nat} (hlt:a.getD j 0 < b.getD j 0):∀ n, (∀ i, j < i → i < j + 1 + n → a.getD i 0 = b.getD i 0) → dval (a.take (j + 1 + n)) < dval (b.take (j + 1 + n))
  | 0, _=>by
    rw [Nat.add_zero, qbt, qbt]
    have h1:=qiS (ha.take j)
    have h2:=qb2 (hb.take j)
    have h3:pw (a.take j).length ≤ pw j:=qjg (by simp; omega)
    have h7:pw j * (a.getD j 0 + 1) ≤ pw j * b.getD j 0:=Int.mul_le_mul_of_nonneg_left (by omega) (Int.le_of_lt (qel j))
    rw [Int.mul_add] at h7
    omega
  | n + 1, h=>by
    have ih:=qo1 ha hb hlt n fun i h1 h2=>h i h1 (by omega)
    have e:=h (j + 1 + n) (by omega) (by omega)
    rw [← Nat.add_assoc, qbt, qbt, e]
    omega
theorem qoY (a b:List Int) (ha:Dg a) (hb:Dg b) (ca:Can a) (cb:Can b) (h1:a.length ≤ 1000000):f200 (a, b, ()) = some ((dval a - dval b).sign, ()):=by
  simp only [f200, t200, Tr.val_test, Tr.val_fin, qan, qaW]
  by_cases hle:a.length = b.length
  · rw [if_neg (by simp; omega)]
    have e0:wrap64 ((a.length:Int) - 1) = (a.length:Int) - 1:=qad (by omega) (by omega)
    have hl:l200_0 ((a, b, (a.length:Int) - 1, ()), ()) = match first (fun k=>!decide (a.getD (a.length - 1 - k) 0 = b.getD (a.length - 1 - k) 0)) a.length 0 with
        | some k=>some (.inr (((if a.getD (a.length - 1 - k) 0 < b.getD (a.length - 1 - k) 0 then (-1:Int) else 1), ()), ()))
        | none=>some (.inl ((), ())):=by
      have:=qfj (step:=s200_0) (m:=rounds) (n:=a.length) (fun k=>((a, b, (a.length:Int) - 1 - (k:Int), ()), ())) (fun k=>!decide (a.getD (a.length - 1 - k) 0 = b.getD (a.length - 1 - k) 0))
        (fun k=>(((if a.getD (a.length - 1 - k) 0 < b.getD (a.length - 1 - k) 0 then (-1:Int) else 1), ()), ())) (b:=((), ())) ?_ ?_ (qaS (by omega))
      · rw [l200_0, show (a.length:Int) - 1 = (a.length:Int) - 1 - ((0:Nat):Int) by omega]; exact this
      · intro k hk
        have e1:(a.length:Int) - 1 - (k:Int) = ((a.length - 1 - k:Nat):Int):=by omega
        have e2:wrap64 (((a.length - 1 - k:Nat):Int) - 1) = (a.length:Int) - 1 - ((k + 1:Nat):Int):=by rw [qad (by omega) (by omega)]; omega
        simp only [e1, s200_0, t200_0, Tr.val_test, Tr.val_fin, qan, Int.toNat_natCast, e2]
        rw [if_pos (by simp), if_pos (by simp; omega), if_pos (by simp; omega)]
        generalize a.getD (a.length - 1 - k) 0 = x
        generalize b.getD (a.length - 1 - k) 0 = y
        rcases Int.lt_trichotomy x y with h | h | h
        · rw [if_pos (by simp; omega), if_pos (by simp; omega), if_pos h]
        · rw [if_neg (by simp; omega), if_neg (by simp; omega), if_neg (by simp; omega)]
        · rw [if_neg (by simp; omega), if_pos (by simp; omega), if_pos (by simp; omega), if_neg (by omega)]
      · simp only [s200_0, t200_0, Tr.val_test, Tr.val_fin, qan]
        rw [if_neg (by simp; omega)]
    rw [e0, r200_0, hl]
    have hta:=qaH a (Nat.le_refl _)
    have htb:=qaH b (Nat.le_of_eq hle.symm)
    cases hf:first (fun k=>!decide (a.getD (a.length - 1 - k) 0 = b.getD (a.length - 1 - k) 0)) a.length 0 with
    | none =>
      have hn:=qff hf
      have:∀ n, n ≤ a.length → dval (a.take n) = dval (b.take n):=by
        intro n
        induction n with
        | zero=>intro _; simp
        | succ n ih =>
          intro h
          have:=hn (a.length - 1 - n) (by omega) (by omega)
          rw [show a.length - 1 - (a.length - 1 - n) = n by omega] at this
          rw [qbt, qbt, ih (by omega), show a.getD n 0 = b.getD n 0 by simpa using this]
      have e:=this a.length (Nat.le_refl _)
      rw [hta, htb] at e
      simp [e, qe6]
    | some k =>
      obtain ⟨q1, q2, q3, q4⟩:=first_some hf
      have hne:a.getD (a.length - 1 - k) 0 ≠ b.getD (a.length - 1 - k) 0:=by simpa using q3
      have heq:∀ i, a.length - 1 - k < i → i < a.length - 1 - k + 1 + k → a.getD i 0 = b.getD i 0:=fun i h1 h2=>by
        have:=q4 (a.length - 1 - i) (by omega) (by omega)
        rw [show a.length - 1 - (a.length - 1 - i) = i by omega] at this
        simpa using this
      have hN:a.length - 1 - k + 1 + k = a.length:=by omega
      simp only [qe6, Option.isSome_some, if_true, outR]
      by_cases h:a.getD (a.length - 1 - k) 0 < b.getD (a.length - 1 - k) 0
      · have:=qo1 ha hb h k heq
        rw [hN, hta, htb] at this
        rw [if_pos h, Int.sign_eq_neg_one_of_neg (by omega)]
      · have:=qo1 hb ha (j:=a.length - 1 - k) (by omega) k fun i h1 h2=>(heq i h1 h2).symm
        rw [hN, hta, htb] at this
        rw [if_neg h, Int.sign_eq_one_of_pos (by omega)]
  · rw [if_pos (by simp; omega)]
    by_cases h:a.length < b.length
    · rw [if_pos (by simp; omega)]
      have hx:=qiS ha
      obtain ⟨m, hm⟩:∃ m, b.length = m + 1:=⟨b.length - 1, by omega⟩
      have hy:=qn7 hb cb hm
      have:pw a.length ≤ pw m:=qjg (by omega)
      rw [Int.sign_eq_neg_one_of_neg (by omega)]
    · rw [if_neg (by simp; omega)]
      have hx:=qiS hb
      obtain ⟨m, hm⟩:∃ m, a.length = m + 1:=⟨a.length - 1, by omega⟩
      have hy:=qn7 ha ca hm
      have:pw b.length ≤ pw m:=qjg (by omega)
      rw [Int.sign_eq_one_of_pos (by omega)]
theorem qnm (n c i:Nat) (s0 s1 z:Int) (a b buf:List Int) (hi:i < a.length) (ha:Dg a) (hb:Dg b) (hbuf:Dg buf) (hlen:buf.length = n) (hn:i + b.length ≤ n) (hs:n ≤ 1000000) :
    l167_2 (((n, c), ((i:Int), (0:Int), (0:Int), ())), ((s0, a, ()), (s1, b, ()), (z, ()), buf, ())) =
      some (.inl (((n, c), ((i:Int), (mI (a.getD i 0) b i buf b.length).2, ())), ((s0, a, ()), (s1, b, ()), (z, ()), (mI (a.getD i 0) b i buf b.length).1, ()))):=by
  refine qdO (fun j=>(((n, c), ((i:Int), (mI (a.getD i 0) b i buf j).2, (j:Int), ())), ((s0, a, ()), (s1, b, ()), (z, ()), (mI (a.getD i 0) b i buf j).1, ()))) (n:=b.length) ?_ ?_ (qaS (by omega))
  · intro j hj
    obtain ⟨h1, h2, h3⟩:=qpb (i:=i) (ha.getD i) hb hbuf j
    have h4:=h1.getD (i + j)
    have h5:=qqa (ha.getD i) (hb.getD j)
    have hml:=qic (a.getD i 0) b i buf j
    have e0:wrap64 ((i:Int) + (j:Int)) = ((i + j:Nat):Int):=by rw [qad (by omega) (by omega)]; omega
    have e1:wrap64 (a.getD i 0 * b.getD j 0) = a.getD i 0 * b.getD j 0:=qad (by omega) (by omega)
    have e2:wrap64 (wrap64 ((mI (a.getD i 0) b i buf j).1.getD (i + j) 0 + a.getD i 0 * b.getD j 0) + (mI (a.getD i 0) b i buf j).2) = (mI (a.getD i 0) b i buf j).1.getD (i + j) 0 + a.getD i 0 * b.getD j 0 + (mI (a.getD i 0) b i buf j).2:=by
      rw [qad (n:=(mI (a.getD i 0) b i buf j).1.getD (i + j) 0 + a.getD i 0 * b.getD j 0) (by omega) (by omega), qad (by omega) (by omega)]
    have e3:Int.tmod ((mI (a.getD i 0) b i buf j).1.getD (i + j) 0 + a.getD i 0 * b.getD j 0 + (mI (a.getD i 0) b i buf j).2) 1000000000 = ((mI (a.getD i 0) b i buf j).1.getD (i + j) 0 + a.getD i 0 * b.getD j 0 + (mI (a.getD i 0) b i buf j).2) % 1000000000:=Int.tmod_eq_emod_of_nonneg (by omega)
    have e4:IntKind.wrap .i64 (Int.tdiv ((mI (a.getD i 0) b i buf j).1.getD (i + j) 0 + a.getD i 0 * b.getD j 0 + (mI (a.getD i 0) b i buf j).2) 1000000000) = ((mI (a.getD i 0) b i buf j).1.getD (i + j) 0 + a.getD i 0 * b.getD j 0 + (mI (a.getD i 0) b i buf j).2) / 1000000000:=by
      rw [Int.tdiv_eq_ediv_of_nonneg (by omega), qoI (by omega) (by omega)]
    have e5:wrap64 ((j:Int) + 1) = ((j + 1:Nat):Int):=qcm (by omega)
    simp only [s167_2, t167_2, Tr.val_test, Tr.val_fin, qan, e0, Int.toNat_natCast, Nat.zero_add, e1, e2, e3, e4, e5]
    rw [if_pos (by simp; omega), if_pos (by simp; omega), if_pos (by rw [hml, qcH]; omega), if_pos (by simp; omega), if_pos (by simp; omega)]
    rfl
  · simp [s167_2, t167_2, qan]
theorem qn3 (s0 s1 z:Int) (a b:List Int) (n:Nat) (ha:Dg a) (hb:Dg b) (hn:n = a.length + b.length + 1) (hs:n ≤ 1000000) :
    l167_0 (((n, n), ((0:Int), ())), ((s0, a, ()), (s1, b, ()), (z, ()), List.replicate n 0, ())) = some (.inl (((n, n), ()), ((s0, a, ()), (s1, b, ()), (z, ()), mO a b a.length, ()))):=by
  subst hn
  refine qdO (fun i=>(((a.length + b.length + 1, a.length + b.length + 1), ((i:Int), ())), ((s0, a, ()), (s1, b, ()), (z, ()), mO a b i, ()))) (n:=a.length) ?_ ?_ (qaS (by omega))
  · intro i hi
    have hl:=qnm (a.length + b.length + 1) (a.length + b.length + 1) i s0 s1 z a b (mO a b i) hi ha hb (qpW ha hb i) (qhO a b i) (by omega) hs
    obtain ⟨h1, h2, h3⟩:=qpb (i:=i) (ha.getD i) hb (qpW ha hb i) b.length
    have e0:wrap64 ((i:Int) + (b.length:Int)) = ((i + b.length:Nat):Int):=by rw [qad (by omega) (by omega)]; omega
    have e1:wrap64 ((mI (a.getD i 0) b i (mO a b i) b.length).1.getD (i + b.length) 0 + (mI (a.getD i 0) b i (mO a b i) b.length).2) = (mI (a.getD i 0) b i (mO a b i) b.length).1.getD (i + b.length) 0 + (mI (a.getD i 0) b i (mO a b i) b.length).2:=by
      rw [qoq]; exact qad (by omega) (by omega)
    have e5:wrap64 ((i:Int) + 1) = ((i + 1:Nat):Int):=qcm (by omega)
    have hml:(mI (a.getD i 0) b i (mO a b i) b.length).1.length = a.length + b.length + 1:=by rw [qic, qhO]
    simp only [s167_0, t167_0, b167_2, hl, qbk, outB, Tr.val_test, Tr.val_fin, qan, e0, Int.toNat_natCast, Nat.zero_add, e1, e5, if_true]
    rw [if_pos (by simp; omega), if_pos (by simp; omega), if_pos (by rw [hml, qcH]; omega)]
    rfl
  · simp [s167_0, t167_0, qan]
theorem qo8 (s0 s1:Int) (a b:List Int) (ha:Dg a) (hb:Dg b) (h:a.length + b.length + 1 ≤ 1000000):f167 ((s0, a, ()), (s1, b, ()), ()) = some (mkN (wrap64 (s0 * s1)) (dval a * dval b), ()):=by
  have e0:wrap64 (wrap64 ((a.length:Int) + (b.length:Int)) + 1) = ((a.length + b.length + 1:Nat):Int):=by
    rw [qad (n:=(a.length:Int) + (b.length:Int)) (by omega) (by omega), qad (by omega) (by omega)]; omega
  have hl:=qn3 s0 s1 0 a b _ ha hb rfl h
  have hd:=qpW ha hb a.length
  have hv:=qrk a b a.length (Nat.le_refl _)
  rw [qaH a (Nat.le_refl _)] at hv
  have hlen:=qhO a b a.length
  have hf:f186 (wrap64 (s0 * s1), mO a b a.length, ()) = some (mkN (wrap64 (s0 * s1)) (dval a * dval b), ()):=by rw [qev _ _ (by omega) hd, hv]
  simp only [f167, t167, e0, Int.toNat_natCast, b167_0, hl, qbk, outB, Tr.val_test, Tr.val_fin, if_true, hlen, g186, hf, Option.isSome_some, Option.getD_some]
  rw [if_pos (by simp; omega), if_pos (by simp)]
theorem qiw (x y:Int) (h:(dig x.natAbs).length + (dig y.natAbs).length + 1 ≤ 1000000):f167 (enc x, enc y, ()) = some (enc (x * y), ()):=by
  have hf:=qo8 x.sign y.sign (dig x.natAbs) (dig y.natAbs) (qbI _) (qbI _) h
  rw [qbF, qbF] at hf
  have hw:wrap64 (x.sign * y.sign) = (x * y).sign:=by
    rw [← Int.sign_mul]
    have:(x * y).sign = -1 ∨ (x * y).sign = 0 ∨ (x * y).sign = 1:=by
      rcases Int.lt_trichotomy (x * y) 0 with h | h | h
      · left; exact Int.sign_eq_neg_one_of_neg h
      · right; left; rw [h]; rfl
      · right; right; exact Int.sign_eq_one_of_pos h
    exact qad (by omega) (by omega)
  rw [hw] at hf
  have he:mkN (x * y).sign ((x.natAbs:Int) * (y.natAbs:Int)) = enc (x * y):=by
    rw [← Int.natCast_mul, ← Int.natAbs_mul]
    exact qhg fun _=>rfl
  rw [he] at hf
  exact hf
theorem qbm (x:Int):(x < 0 ∧ x.sign = -1) ∨ (x = 0 ∧ x.sign = 0) ∨ (0 < x ∧ x.sign = 1):=by
  rcases Int.lt_trichotomy x 0 with h | h | h
  · exact .inl ⟨h, Int.sign_eq_neg_one_of_neg h⟩
  · exact .inr (.inl ⟨h, by rw [h]; rfl⟩)
  · exact .inr (.inr ⟨h, Int.sign_eq_one_of_pos h⟩)
theorem qpB (s0 s1:Int) (a b:List Int) (ha:Dg a) (hb:Dg b) (ca:Can a) (cb:Can b) (h1:a.length ≤ 100000) (h2:b.length ≤ 100000):f184 ((s0, a, ()), (s1, b, ()), ()) =
    if s0 = 0 then some ((s1, b, ()), ()) else if s1 = 0 then some ((s0, a, ()), ()) else if s0 = s1 then some (mkN s0 (dval a + dval b), ()) else
    if dval a = dval b then some ((0, [], ()), ()) else if dval b < dval a then some (mkN s0 (dval a - dval b), ()) else some (mkN s1 (dval b - dval a), ()):=by
  have hle:∀ {l:List Int} {n:Int}, Dg l → Can l → dval l ≤ n → ∀ {l2:List Int}, Dg l2 → n = dval l2 → l.length ≤ l2.length:=fun {l n} hd hc hn {l2} hd2 e=>by
    rcases Nat.lt_or_ge l2.length l.length with h | h
    · exfalso
      obtain ⟨m, hm⟩:∃ m, l.length = m + 1:=⟨l.length - 1, by omega⟩
      have:=qn7 hd hc hm
      have:=qiS hd2
      have:pw l2.length ≤ pw m:=qjg (by omega)
      omega
    · exact h
  have hn:nA a b ≤ max a.length b.length + 1:=by unfold nA; split <;> omega
  simp only [f184, t184, Tr.val_test, Tr.val_fin, qaW, qan, decide_eq_true_eq]
  by_cases c1:s0 = 0
  · rw [if_pos c1, if_pos c1]
  rw [if_neg c1, if_neg c1]
  by_cases c2:s1 = 0
  · rw [if_pos c2, if_pos c2]
  rw [if_neg c2, if_neg c2]
  by_cases c3:s0 = s1
  · rw [if_pos c3, if_pos c3]
    simp only [g204, qqs a b ha hb h1 h2, Option.isSome_some, Option.getD_some, if_true, g186, qev s0 (oA a b (nA a b)) (by rw [qlX]; omega) (qrS a b _), qrE ha hb]
  rw [if_neg c3, if_neg c3]
  simp only [g200, qoY a b ha hb ca cb (by omega), Option.isSome_some, Option.getD_some, if_true]
  rcases qbm (dval a - dval b) with ⟨hs, e⟩ | ⟨hs, e⟩ | ⟨hs, e⟩
  · have hl:=hle ha ca (show dval a ≤ dval b by omega) hb rfl
    have hv:((dval b - dval a).toNat:Int) = dval b - dval a:=by omega
    have hlen:(dig (dval b - dval a).toNat).length ≤ b.length:=qa7 (by have:=qiS hb; have:=qb2 ha; omega)
    rw [if_neg (by rw [e]; omega), if_neg (by rw [e]; simp)]
    simp only [g201, qk8 b a hb ha (by omega) hl (by omega), Option.isSome_some, Option.getD_some, if_true, g186, qev s1 (dig (dval b - dval a).toNat) (by omega) (qbI _), qbF, hv]
    rw [if_neg (by omega), if_neg (by omega)]
  · rw [if_pos (by rw [e]), if_pos (by omega)]
  · have hl:=hle hb cb (show dval b ≤ dval a by omega) ha rfl
    have hv:((dval a - dval b).toNat:Int) = dval a - dval b:=by omega
    have hlen:(dig (dval a - dval b).toNat).length ≤ a.length:=qa7 (by have:=qiS ha; have:=qb2 hb; omega)
    rw [if_neg (by rw [e]; omega), if_pos (by rw [e]; simp)]
    simp only [g201, qk8 a b ha hb (by omega) hl (by omega), Option.isSome_some, Option.getD_some, if_true, g186, qev s0 (dig (dval a - dval b).toNat) (by omega) (qbI _), qbF, hv]
    rw [if_neg (by omega), if_pos (by omega)]
theorem qf0 {s n z:Int} (h:n = z.natAbs) (hs:z ≠ 0 → s = z.sign):mkN s n = enc z:=by rw [h]; exact qhg hs
theorem qqD (x y:Int) (h1:(dig x.natAbs).length ≤ 100000) (h2:(dig y.natAbs).length ≤ 100000):f184 (enc x, enc y, ()) = some (enc (x + y), ()):=by
  have hf:=qpB x.sign y.sign (dig x.natAbs) (dig y.natAbs) (qbI _) (qbI _) (qgr _) (qgr _) h1 h2
  rw [qbF, qbF] at hf
  refine hf.trans ?_
  have t0:(0:Int).sign = 0:=rfl
  rcases qbm x with ⟨hx, ex⟩ | ⟨hx, ex⟩ | ⟨hx, ex⟩
  · rcases qbm y with ⟨hy, ey⟩ | ⟨hy, ey⟩ | ⟨hy, ey⟩
    · rw [ex, ey, if_neg (by omega), if_neg (by omega), if_pos rfl, qf0 (z:=x + y) (by omega) fun _=>by rw [Int.sign_eq_neg_one_of_neg (by omega)]]
    · rw [ex, ey, if_neg (by omega), if_pos rfl]; subst hy; rw [Int.add_zero, enc, ex]
    · rw [ex, ey, if_neg (by omega), if_neg (by omega), if_neg (by omega)]
      split
      · have:x + y = 0:=by omega
        rw [this]; simp [enc, qaN]
      · split
        · rw [qf0 (z:=x + y) (by omega) fun _=>by rw [Int.sign_eq_neg_one_of_neg (by omega)]]
        · rw [qf0 (z:=x + y) (by omega) fun _=>by rw [Int.sign_eq_one_of_pos (by omega)]]
  · rw [ex, if_pos rfl]; subst hx; rw [Int.zero_add, enc]
  · rcases qbm y with ⟨hy, ey⟩ | ⟨hy, ey⟩ | ⟨hy, ey⟩
    · rw [ex, ey, if_neg (by omega), if_neg (by omega), if_neg (by omega)]
      split
      · have:x + y = 0:=by omega
        rw [this]; simp [enc, qaN]
      · split
        · rw [qf0 (z:=x + y) (by omega) fun _=>by rw [Int.sign_eq_one_of_pos (by omega)]]
        · rw [qf0 (z:=x + y) (by omega) fun _=>by rw [Int.sign_eq_neg_one_of_neg (by omega)]]
    · rw [ex, ey, if_neg (by omega), if_pos rfl]; subst hy; rw [Int.add_zero, enc, ex]
    · rw [ex, ey, if_neg (by omega), if_neg (by omega), if_pos rfl, qf0 (z:=x + y) (by omega) fun _=>by rw [Int.sign_eq_one_of_pos (by omega)]]
theorem qre (x:Int):(IntKind.wrap .i64 (0 - x.sign), dig x.natAbs, ()) = enc (-x):=by
  have:IntKind.wrap .i64 (0 - x.sign) = (-x).sign:=by
    rw [Int.sign_neg]
    rcases qbm x with ⟨_, e⟩ | ⟨_, e⟩ | ⟨_, e⟩ <;> rw [e] <;> rfl
  rw [this, enc, Int.natAbs_neg]
theorem qoi (x:Int):f179 (enc x, ()) = some (enc (-x), ()):=by
  rw [← qre]; rfl
theorem qln (x y:Int) (h1:(dig x.natAbs).length ≤ 100000) (h2:(dig y.natAbs).length ≤ 100000):f187 (enc x, enc y, ()) = some (enc (x - y), ()):=by
  have e0:f179 ((y.sign, dig y.natAbs, ()), ()) = some (enc (-y), ()):=qoi y
  have e1:f184 ((x.sign, dig x.natAbs, ()), ((enc (-y)).1, (enc (-y)).2.1, ()), ()) = some (enc (x - y), ()):=qqD x (-y) h1 (by rw [Int.natAbs_neg]; exact h2)
  show f187 ((x.sign, dig x.natAbs, ()), (y.sign, dig y.natAbs, ()), ()) = _
  simp only [f187, t187, g179, e0, g184, e1, Option.isSome_some, Option.getD_some, Tr.val_test, Tr.val_fin, if_true]
theorem qnS (x y:Int) (h1:(dig x.natAbs).length ≤ 100000) (h2:(dig y.natAbs).length ≤ 100000):f166 (enc x, enc y, ()) = some ((x - y).sign, ()):=by
  have e0:f187 ((x.sign, dig x.natAbs, ()), (y.sign, dig y.natAbs, ()), ()) = some (enc (x - y), ()):=qln x y h1 h2
  show f166 ((x.sign, dig x.natAbs, ()), (y.sign, dig y.natAbs, ()), ()) = _
  simp only [f166, t166, g187, e0, Option.isSome_some, Option.getD_some, Tr.val_test, Tr.val_fin, if_true]
  rfl
theorem qnZ (x:Int):f212 (enc x, ()) = some (enc x.natAbs, ()):=by
  have e0:f179 ((x.sign, dig x.natAbs, ()), ()) = some (enc (-x), ()):=qoi x
  show f212 ((x.sign, dig x.natAbs, ()), ()) = _
  simp only [f212, t212, g179, e0, Option.isSome_some, Option.getD_some, Tr.val_test, Tr.val_fin, qan, if_true]
  rcases qbm x with ⟨h, e⟩ | ⟨h, e⟩ | ⟨h, e⟩
  · rw [if_pos (by rw [e]; simp), show ((x.natAbs:Nat):Int) = -x by omega]
  · subst h; rfl
  · rw [if_neg (by rw [e]; simp), show ((x.natAbs:Nat):Int) = x by omega]; rfl
theorem qcA {m n:Nat} (h:m ≤ n):(dig m).length ≤ (dig n).length:=qa7 (by have:=qbg n; omega)
theorem qnz {x:Int} (h:0 < x):f186 (1, dig x.natAbs, ()) = f186 (x.sign, dig x.natAbs, ()):=by rw [Int.sign_eq_one_of_pos h]
theorem qmf (x:Int) (h:(dig x.natAbs).length ≤ 1000000000):f186 (x.sign, dig x.natAbs, ()) = some (enc x, ()):=by
  rw [qev _ _ h (qbI _), qbF, qhg fun _=>rfl]
theorem qgM {x:Int} (h0:0 ≤ x) (h:x < 1000000000):(dig x.natAbs).length ≤ 1:=qa7 (by simp only [pw]; omega)
theorem qlJ {x y:Int} (hx:(dig x.natAbs).length ≤ 10000) (h0:0 ≤ y) (h:y < 1000000000):f167 (((enc x).1, (enc x).2.1, ()), ((enc y).1, (enc y).2.1, ()), ()) = some (enc (x * y), ()) :=
  qiw x y (by have:=qgM h0 h; omega)
theorem qqY (n c:Nat) (i s0 s1 z:Int) (a buf:List Int) (V Y:Int) (hV:0 ≤ V) (hY:0 < Y) (hl:(dig Y.natAbs).length ≤ 10000) (hq:V / Y ≤ 999999999) :
    ∀ (k:Nat) (lo hi:Int) (m:Nat), (hi - lo).toNat ≤ k → 0 ≤ lo → lo ≤ V / Y → V / Y ≤ hi → hi ≤ 999999999 → k < m →
      itr s178_2 m (((n, c), (dig V.toNat, i, lo, hi, ())), ((s0, a, ()), (s1, dig Y.natAbs, ()), (z, ()), buf, ())) =
        some (.inl (((n, c), (dig V.toNat, i, V / Y, ())), ((s0, a, ()), (s1, dig Y.natAbs, ()), (z, ()), buf, ())))
  | k, lo, hi, m, hk, h1, h2, h3, h4, hm=>by
    obtain ⟨m, rfl⟩:∃ j, m = j + 1:=⟨m - 1, by omega⟩
    by_cases h:lo < hi
    · obtain ⟨k, rfl⟩:∃ j, k = j + 1:=⟨k - 1, by omega⟩
      have e0:IntKind.wrap .i64 (Int.tdiv (wrap64 (wrap64 (lo + hi) + 1)) 2) = (lo + hi + 1) / 2:=by
        rw [qad (n:=lo + hi) (by omega) (by omega), qad (by omega) (by omega), Int.tdiv_eq_ediv_of_nonneg (by omega), qoI (by omega) (by omega)]
      have e5:wrap64 ((lo + hi + 1) / 2 - 1) = (lo + hi + 1) / 2 - 1:=qad (by omega) (by omega)
      generalize hmid:(lo + hi + 1) / 2 = mid at *
      have b1:0 ≤ mid:=by omega
      have b2:mid < 1000000000:=by omega
      have e1:f186 (1, dig Y.natAbs, ()) = some (enc Y, ()):=by rw [qnz hY, qmf Y (by omega)]
      have e2:=qdU mid (by omega)
      have e3:=qlJ (x:=Y) hl b1 b2
      have hnn:0 ≤ Y * mid:=Int.mul_nonneg (by omega) b1
      have hvn:((V.toNat:Nat):Int) = V:=by omega
      have hlm:(dig (Y * mid).natAbs).length ≤ (dig Y.natAbs).length + 1:=qa7 (by
        have q1:=qbg Y.natAbs
        have q3:Y * mid < Y * 1000000000:=Int.mul_lt_mul_of_pos_left b2 hY
        simp only [pw]
        omega)
      have e4:f200 ((enc (Y * mid)).2.1, dig V.toNat, ()) = some ((Y * mid - V).sign, ()):=by
        have:=qoY (dig (Y * mid).natAbs) (dig V.toNat) (qbI _) (qbI _) (qgr _) (qgr _) (by omega)
        rw [qbF, qbF, hvn, show (((Y * mid).natAbs:Nat):Int) = Y * mid by omega] at this
        exact this
      have hiff:mid ≤ V / Y ↔ Y * mid ≤ V:=by rw [Int.le_ediv_iff_mul_le hY, Int.mul_comm]
      have hstep:s178_2 (((n, c), (dig V.toNat, i, lo, hi, ())), ((s0, a, ()), (s1, dig Y.natAbs, ()), (z, ()), buf, ())) =
          some (.again (((n, c), (dig V.toNat, i, (if mid ≤ V / Y then mid else lo), (if mid ≤ V / Y then hi else mid - 1), ())), ((s0, a, ()), (s1, dig Y.natAbs, ()), (z, ()), buf, ()))):=by
        simp only [s178_2, t178_2, e0, e5, g186, e1, g164, e2, g167, e3, g200, e4, Option.isSome_some, Option.getD_some, Tr.val_test, Tr.val_fin, qan, if_true]
        rw [if_pos (by simp; omega)]
        rcases qbm (Y * mid - V) with ⟨w, es⟩ | ⟨w, es⟩ | ⟨w, es⟩
        · have:=hiff.2 (by omega)
          rw [if_pos (by rw [es]; simp), if_pos this, if_pos this]
        · have:=hiff.2 (by omega)
          rw [if_pos (by rw [es]; simp), if_pos this, if_pos this]
        · have:¬ mid ≤ V / Y:=fun t=>by have:=hiff.1 t; omega
          rw [if_neg (by rw [es]; simp), if_neg this, if_neg this]
      rw [itr, hstep]
      dsimp only
      by_cases hc:mid ≤ V / Y
      · rw [if_pos hc, if_pos hc]
        exact qqY n c i s0 s1 z a buf V Y hV hY hl hq k mid hi m (by omega) b1 hc h3 h4 (by omega)
      · rw [if_neg hc, if_neg hc]
        exact qqY n c i s0 s1 z a buf V Y hV hY hl hq k lo (mid - 1) m (by omega) h1 h2 (by omega) (by omega) (by omega)
    · have:lo = V / Y:=by omega
      rw [itr]
      simp only [s178_2, t178_2, Tr.val_test, Tr.val_fin, qan]
      rw [if_neg (by simp; omega), this]
theorem qjJ (q:Int) (d:List Int):∀ j, (List.replicate (j + 1) 0++d).set j q = List.replicate j 0++q :: d
  | 0=>by simp
  | j + 1=>by
    rw [List.replicate_succ, List.cons_append, List.set_cons_succ, qjJ q d j, List.replicate_succ, List.cons_append]
def upA (a:List Int):Nat → Int
  | 0=>0
  | k + 1=>a.getD (a.length - 1 - k) 0 + 1000000000 * upA a k
theorem qlW (a:List Int):∀ k, k ≤ a.length → upA a k = dval (a.drop (a.length - k))
  | 0, _=>by simp [upA, dval]
  | k + 1, h=>by
    have e:a.length - (k + 1) + 1 = a.length - k:=by omega
    rw [upA, qlW a k (by omega), List.drop_eq_getElem_cons (show a.length - (k + 1) < a.length by omega), dval, e]
    congr 1
    have:a.length - 1 - k = a.length - (k + 1):=by omega
    rw [this]
    simp [List.getD, show a.length - (k + 1) < a.length by omega]
def dQ (a:List Int) (Y:Int):Nat → List Int
  | 0=>[]
  | k + 1=>((a.getD (a.length - 1 - k) 0 + 1000000000 * (upA a k % Y)) / Y) :: dQ a Y k
theorem qoZ (a:List Int) (Y:Int):∀ k, (dQ a Y k).length = k
  | 0=>rfl
  | k + 1=>by simp [dQ, qoZ a Y k]
theorem qlY {a:List Int} (ha:Dg a) {Y:Int} (hY:0 < Y) (k:Nat):0 ≤ (a.getD (a.length - 1 - k) 0 + 1000000000 * (upA a k % Y)) / Y ∧ (a.getD (a.length - 1 - k) 0 + 1000000000 * (upA a k % Y)) / Y < 1000000000:=by
  have h1:=ha.getD (a.length - 1 - k)
  have h2:=Int.emod_nonneg (upA a k) (show Y ≠ 0 by omega)
  have h3:=Int.emod_lt_of_pos (upA a k) hY
  refine ⟨Int.ediv_nonneg (by omega) (by omega), Int.ediv_lt_of_lt_mul hY (by omega)⟩
theorem qrI {a:List Int} (ha:Dg a) {Y:Int} (hY:0 < Y):∀ k, Dg (dQ a Y k)
  | 0=>Dg.nil
  | k + 1=>fun d hd=>by
    rcases List.mem_cons.1 hd with rfl | hd
    · exact qlY ha hY k
    · exact qrI ha hY k d hd
theorem qji (a:List Int) {Y:Int} (k:Nat):upA a (k + 1) = a.getD (a.length - 1 - k) 0 + 1000000000 * (upA a k % Y) + Y * (1000000000 * (upA a k / Y)):=by
  have:=Int.emod_add_mul_ediv (upA a k) Y
  rw [upA]
  have e:Y * (1000000000 * (upA a k / Y)) = 1000000000 * (Y * (upA a k / Y)):=by rw [Int.mul_left_comm]
  omega
theorem qrJ (a:List Int) {Y:Int} (hY:0 < Y):∀ k, dval (dQ a Y k) = upA a k / Y
  | 0=>by simp [dQ, dval, upA]
  | k + 1=>by
    rw [dQ, dval, qrJ a hY k, qji a (Y:=Y) k, Int.add_mul_ediv_left _ _ (by omega)]
theorem qq5 (a:List Int) {Y:Int} (k:Nat):upA a (k + 1) % Y = (a.getD (a.length - 1 - k) 0 + 1000000000 * (upA a k % Y)) % Y:=by
  rw [qji a (Y:=Y) k, Int.add_mul_emod_self_left]
theorem qrW (V Y:Int) (hV:0 ≤ V) (hY:0 < Y):f201 (dig V.toNat, (enc (Y * (V / Y))).2.1, ()) = f201 (dig V.toNat, dig (Y * (V / Y)).toNat, ()):=by
  have h:0 ≤ Y * (V / Y):=Int.mul_nonneg (by omega) (Int.ediv_nonneg hV (by omega))
  rw [show (Y * (V / Y)).toNat = (Y * (V / Y)).natAbs by omega]; rfl
theorem qpR (V Y:Int) (hV:0 ≤ V) (hY:0 < Y) (h:(dig V.toNat).length ≤ 1000000):f201 (dig V.toNat, (enc (Y * (V / Y))).2.1, ()) = some (dig (V % Y).toNat, ()):=by
  have h0:0 ≤ Y * (V / Y):=Int.mul_nonneg (by omega) (Int.ediv_nonneg hV (by omega))
  have h1:=Int.emod_add_mul_ediv V Y
  have h2:=Int.emod_nonneg V (show Y ≠ 0 by omega)
  have e1:((V.toNat:Nat):Int) = V:=by omega
  have e2:(((Y * (V / Y)).toNat:Nat):Int) = Y * (V / Y):=by omega
  rw [qrW V Y hV hY, qk8 _ _ (qbI _) (qbI _) h (qcA (by omega)) (by rw [qbF, qbF]; omega), qbF, qbF, e1, e2, show V - Y * (V / Y) = V % Y by omega]
theorem l178 (s0 s1 z:Int) (a:List Int) (Y:Int) (ha:Dg a) (hY:0 < Y) (hl:(dig Y.natAbs).length ≤ 10000) (h:a.length ≤ 10000) :
    l178_0 (((a.length, a.length), ([], (a.length:Int) - 1, ())), ((s0, a, ()), (s1, dig Y.natAbs, ()), (z, ()), List.replicate a.length 0, ())) =
      some (.inl (((a.length, a.length), (dig (upA a a.length % Y).toNat, ())), ((s0, a, ()), (s1, dig Y.natAbs, ()), (z, ()), dQ a Y a.length, ()))):=by
  have key:=qdO (step:=s178_0) (m:=rounds) (n:=a.length) (b:=(((a.length, a.length), (dig (upA a a.length % Y).toNat, ())), ((s0, a, ()), (s1, dig Y.natAbs, ()), (z, ()), dQ a Y a.length, ())))
    (fun k=>(((a.length, a.length), (dig (upA a k % Y).toNat, (a.length:Int) - 1 - (k:Int), ())), ((s0, a, ()), (s1, dig Y.natAbs, ()), (z, ()), List.replicate (a.length - k) 0++dQ a Y k, ()))) ?_ ?_ (qaS (by omega))
  · have h0:dig (upA a 0 % Y).toNat = []:=by simp [upA, qaN]
    have h1:List.replicate (a.length - 0) (0:Int)++dQ a Y 0 = List.replicate a.length 0:=by simp [dQ]
    have h2:(a.length:Int) - 1 - ((0:Nat):Int) = (a.length:Int) - 1:=by omega
    simp only [h0, h1, h2] at key
    exact key
  · intro k hk
    have hidx:(a.length:Int) - 1 - (k:Int) = ((a.length - 1 - k:Nat):Int):=by omega
    have hnext:wrap64 (((a.length - 1 - k:Nat):Int) - 1) = (a.length:Int) - 1 - ((k + 1:Nat):Int):=by rw [qad (by omega) (by omega)]; omega
    have hrep:List.replicate (a.length - k) (0:Int) = List.replicate ((a.length - 1 - k) + 1) 0:=by congr 1; omega
    have hset:(List.replicate (a.length - k) 0++dQ a Y k).set (a.length - 1 - k) ((a.getD (a.length - 1 - k) 0 + 1000000000 * (upA a k % Y)) / Y) = List.replicate (a.length - (k + 1)) 0++dQ a Y (k + 1):=by
      rw [hrep, qjJ, dQ, show a.length - (k + 1) = a.length - 1 - k by omega]
    have hblen:(List.replicate (a.length - k) (0:Int)++dQ a Y k).length = a.length:=by rw [List.length_append, List.length_replicate, qoZ]; omega
    have hb:=qlY ha hY k
    have hd:=ha.getD (a.length - 1 - k)
    have hr0:=Int.emod_nonneg (upA a k) (show Y ≠ 0 by omega)
    have hr1:=Int.emod_lt_of_pos (upA a k) hY
    have hmod:=qq5 a (Y:=Y) k
    generalize hR:upA a k % Y = R at *
    generalize hV:a.getD (a.length - 1 - k) 0 + 1000000000 * R = V at *
    have hV0:0 ≤ V:=by omega
    have hRl:(dig R.toNat).length ≤ 10000:=Nat.le_trans (qcA (by omega)) hl
    have hVl:(dig V.toNat).length ≤ 10001:=by
      refine Nat.le_trans (m:=(dig Y.natAbs).length + 1) (qa7 ?_) (by omega)
      have q1:=qbg Y.natAbs
      simp only [pw]; omega
    have hdg:Dg ([a.getD (a.length - 1 - k) 0]++dig R.toNat):=Dg.append (fun x hx=>by rw [List.mem_singleton] at hx; subst hx; exact hd) (qbI _)
    have hf:f199 ([a.getD (a.length - 1 - k) 0]++dig R.toNat, ()) = some (dig V.toNat, ()):=by
      rw [qkB _ (by simp; omega) hdg]
      congr 3
      have:dval ([a.getD (a.length - 1 - k) 0]++dig R.toNat) = V:=by
        show a.getD (a.length - 1 - k) 0 + 1000000000 * dval (dig R.toNat) = V
        rw [qbF]; omega
      rw [this]
    have hin:l178_2 (((a.length, a.length), (dig V.toNat, ((a.length - 1 - k:Nat):Int), (0:Int), (999999999:Int), ())), ((s0, a, ()), (s1, dig Y.natAbs, ()), (z, ()), List.replicate (a.length - k) 0++dQ a Y k, ())) =
        some (.inl (((a.length, a.length), (dig V.toNat, ((a.length - 1 - k:Nat):Int), V / Y, ())), ((s0, a, ()), (s1, dig Y.natAbs, ()), (z, ()), List.replicate (a.length - k) 0++dQ a Y k, ()))) :=
      qqY _ _ _ s0 s1 z a _ V Y hV0 hY hl (by omega) 999999999 0 999999999 rounds (by omega) (by omega) hb.1 (by omega) (by omega) (qaS (by omega))
    have e1:f186 (1, dig Y.natAbs, ()) = some (enc Y, ()):=by rw [qnz hY, qmf Y (by omega)]
    have e2:=qdU (V / Y) (by omega)
    have e3:=qlJ (x:=Y) hl hb.1 hb.2
    have e4:=qpR V Y hV0 hY (by omega)
    rw [hidx]
    dsimp only
    simp only [s178_0, t178_0, Tr.val_test, Tr.val_fin, qan, Int.toNat_natCast]
    rw [if_pos (by simp), if_pos (by simp; omega)]
    simp only [g199, hf, b178_2, hin, qbk, outB, g186, e1, g164, e2, g167, e3, g201, e4, Option.isSome_some, Option.getD_some, if_true, Int.toNat_natCast, Nat.zero_add, hset, hnext, hmod, hblen]
    rw [if_pos (by simp only [Bool.and_eq_true, qcH]; omega), if_pos (by simp; omega), if_pos (by rw [qcH]; omega)]
  · have e:(a.length:Int) - 1 - (a.length:Int) = -1:=by omega
    simp only [e, Nat.sub_self, List.replicate_zero, List.nil_append]
    simp [s178_0, t178_0, qan]
theorem qhC {x Y:Int} (hY:0 < Y):x / Y = if (-x) % Y = 0 then -((-x) / Y) else -((-x) / Y) - 1:=by
  have h1:=Int.emod_add_mul_ediv (-x) Y
  have h2:=Int.emod_nonneg (-x) (show Y ≠ 0 by omega)
  have h3:=Int.emod_lt_of_pos (-x) hY
  split
  · rename_i h
    refine ((Int.ediv_emod_unique (r:=0) hY).2 ⟨?_, by omega, hY⟩).1
    rw [Int.mul_neg]; omega
  · refine ((Int.ediv_emod_unique (r:=Y - (-x) % Y) hY).2 ⟨?_, by omega, by omega⟩).1
    rw [Int.mul_sub, Int.mul_neg]; omega
theorem qkw (x Y:Int) (hY:0 < Y) (hl:(dig Y.natAbs).length ≤ 10000) (h:(dig x.natAbs).length ≤ 10000):f178 (enc x, enc Y, ()) = some (enc (x / Y), ()):=by
  show f178 ((x.sign, dig x.natAbs, ()), (Y.sign, dig Y.natAbs, ()), ()) = _
  have hL:=l178 x.sign Y.sign 0 (dig x.natAbs) Y (qbI _) hY hl h
  have hup:upA (dig x.natAbs) (dig x.natAbs).length = (x.natAbs:Int):=by
    rw [qlW _ _ (Nat.le_refl _), Nat.sub_self, List.drop_zero, qbF]
  rw [hup] at hL
  have hdq:=qrJ (dig x.natAbs) hY (dig x.natAbs).length
  rw [hup] at hdq
  have hw:wrap64 (((dig x.natAbs).length:Int) - 1) = ((dig x.natAbs).length:Int) - 1:=qad (by omega) (by omega)
  have hql:=qoZ (dig x.natAbs) Y (dig x.natAbs).length
  have hf:f186 (x.sign, dQ (dig x.natAbs) Y (dig x.natAbs).length, ()) = some (mkN x.sign ((x.natAbs:Int) / Y), ()):=by
    rw [qev _ _ (by omega) (qrI (qbI _) hY _), hdq]
  have h0:=Int.ediv_nonneg (show (0:Int) ≤ (x.natAbs:Int) by omega) (show 0 ≤ Y by omega)
  have hle:(x.natAbs:Int) / Y ≤ x.natAbs:=Int.ediv_le_self _ (by omega)
  simp only [f178, t178, Tr.val_test, Tr.val_fin, qaW, qan, hw, Int.toNat_natCast, b178_0, hL, qbk, outB, if_true, g186, hf, hql, Option.isSome_some, Option.getD_some]
  rcases qbm x with ⟨hx, e⟩ | ⟨hx, e⟩ | ⟨hx, e⟩
  · have ex:(x.natAbs:Int) = -x:=by omega
    rw [if_neg (by rw [e]; simp), if_pos (by simp; omega), if_pos (by simp), if_pos (by rw [e]; simp)]
    have hm:mkN x.sign ((x.natAbs:Int) / Y) = enc (-((-x) / Y)):=qf0 (by rw [ex] at h0 ⊢; omega) fun hz=>by
      rw [ex] at h0; rw [e, Int.sign_eq_neg_one_of_neg (by omega)]
    have hfl:=qhC (x:=x) hY
    have hr0:=Int.emod_nonneg (-x) (show Y ≠ 0 by omega)
    rw [hm, ex]
    by_cases hr:(-x) % Y = 0
    · rw [if_pos hr] at hfl
      rw [if_neg (by rw [hr]; simp [qaN]), hfl]
    · rw [if_neg hr] at hfl
      have hne:(dig ((-x) % Y).toNat).length ≠ 0:=fun t=>by
        have:=dig_nil.1 (List.eq_nil_of_length_eq_zero t); omega
      have e1:=qdU 1 (by decide)
      have hlq:(dig (-((-x) / Y)).natAbs).length ≤ 10000:=Nat.le_trans (qcA (by rw [ex] at h0 hle; omega)) h
      have e2:f187 (((enc (-((-x) / Y))).1, (enc (-((-x) / Y))).2.1, ()), ((enc 1).1, (enc 1).2.1, ()), ()) = some (enc (-((-x) / Y) - 1), ()):=qln _ 1 (by omega) (by have:=qgM (x:=1) (by omega) (by omega); omega)
      rw [if_pos (by simp only [Bool.not_eq_true', decide_eq_false_iff_not]; omega)]
      simp only [g164, e1, g187, e2, Option.isSome_some, Option.getD_some, if_true]
      rw [hfl]
  · subst hx
    rw [if_pos (by simp), Int.zero_ediv]; simp [enc, qaN]
  · have ex:(x.natAbs:Int) = x:=by omega
    rw [if_neg (by rw [e]; simp), if_pos (by simp; omega), if_pos (by simp), if_neg (by rw [e]; simp)]
    rw [qf0 (z:=x / Y) (by rw [ex] at h0 ⊢; omega) fun hz=>by
      rw [ex] at h0; rw [e, Int.sign_eq_one_of_pos (by omega)]]
theorem qqh:∀ n, pw n ≤ (((2 ^ (30 * n):Nat)):Int)
  | 0=>by simp [pw]
  | n + 1=>by
    have:=qqh n
    have e:(2:Nat) ^ (30 * (n + 1)) = 1073741824 * 2 ^ (30 * n):=by rw [Nat.mul_add, Nat.pow_add, Nat.mul_comm]
    rw [e, pw]
    omega
theorem qpT {b r:Nat} (h0:0 < r) (h:r < b):2 * (b % r) < b:=by
  have h1:=Nat.mod_lt b h0
  have h2:=Nat.div_add_mod b r
  have h3:1 ≤ b / r:=(Nat.one_le_div_iff h0).2 (Nat.le_of_lt h)
  have h4:r * 1 ≤ r * (b / r):=Nat.mul_le_mul_left r h3
  omega
theorem qjE (a b:Nat) (z:Int) (hb:b ≠ 0) (h1:(dig a).length ≤ 10000) (h2:(dig b).length ≤ 10000) :
    s203_0 ((), (((a:Int).sign, dig a, ()), ((b:Int).sign, dig b, ()), (z, ()), ())) = some (.again ((), (((b:Int).sign, dig b, ()), (((a % b:Nat):Int).sign, dig (a % b), ()), (z, ()), ()))):=by
  have e0:f202 (((b:Int).sign, dig b, ()), ()) = some ((b:Int).sign, ()):=rfl
  have e1:f178 (((a:Int).sign, dig a, ()), ((b:Int).sign, dig b, ()), ()) = some (enc ((a:Int) / (b:Int)), ()):=qkw a b (by omega) h2 h1
  have hd:(dig ((a:Int) / (b:Int)).natAbs).length ≤ 10000:=Nat.le_trans (qcA (by
    have:((a:Int) / (b:Int)).natAbs = a / b:=by rw [← Int.natCast_ediv]; rfl
    rw [this]; exact Nat.div_le_self _ _)) h1
  have e2:f167 (((enc ((a:Int) / (b:Int))).1, (enc ((a:Int) / (b:Int))).2.1, ()), ((b:Int).sign, dig b, ()), ()) = some (enc ((a:Int) / (b:Int) * (b:Int)), ()):=qiw _ b (by simp only [Int.natAbs_natCast]; omega)
  have hm:=Int.emod_add_mul_ediv (a:Int) b
  have hle:0 ≤ (a:Int) / (b:Int) * (b:Int):=Int.mul_nonneg (Int.ediv_nonneg (by omega) (by omega)) (by omega)
  have hmn:=Int.emod_nonneg (a:Int) (show (b:Int) ≠ 0 by omega)
  have hcm:(a:Int) / (b:Int) * (b:Int) = (b:Int) * ((a:Int) / (b:Int)):=Int.mul_comm _ _
  have e3:f187 (((a:Int).sign, dig a, ()), ((enc ((a:Int) / (b:Int) * (b:Int))).1, (enc ((a:Int) / (b:Int) * (b:Int))).2.1, ()), ()) = some (enc ((a % b:Nat):Int), ()):=by
    have h:=qln a ((a:Int) / (b:Int) * (b:Int)) (by simp only [Int.natAbs_natCast]; omega) (Nat.le_trans (qcA (n:=a) (by omega)) (by omega))
    rw [show (a:Int) - (a:Int) / (b:Int) * (b:Int) = ((a % b:Nat):Int) by rw [Int.natCast_emod]; omega] at h
    exact h
  have hs:(b:Int).sign = 1:=Int.sign_eq_one_of_pos (by omega)
  simp only [s203_0, t203_0, g202, e0, g178, e1, g167, e2, g187, e3, Option.isSome_some, Option.getD_some, Tr.val_test, Tr.val_fin, qaW, if_true]
  rw [if_pos (by rw [hs]; simp)]
  rfl
theorem qlQ (a:Nat) (z:Int):s203_0 ((), (((a:Int).sign, dig a, ()), (((0:Nat):Int).sign, dig 0, ()), (z, ()), ())) = some (.brk ((), (((a:Int).sign, dig a, ()), (((0:Nat):Int).sign, dig 0, ()), (z, ()), ()))):=by
  have e0:f202 ((((0:Nat):Int).sign, dig 0, ()), ()) = some (((0:Nat):Int).sign, ()):=rfl
  simp only [s203_0, t203_0, g202, e0, Option.isSome_some, Option.getD_some, Tr.val_test, Tr.val_fin, qaW, if_true]
  rw [if_neg (by simp)]
theorem qr0 (z:Int):∀ (k a b m:Nat), b < 2 ^ k → (dig a).length ≤ 10000 → (dig b).length ≤ 10000 → 2 * k < m →
    itr s203_0 m ((), (((a:Int).sign, dig a, ()), ((b:Int).sign, dig b, ()), (z, ()), ())) =
      some (.inl ((), (((Nat.gcd a b:Nat):Int).sign, dig (Nat.gcd a b), ()), (((0:Nat):Int).sign, dig 0, ()), (z, ()), ()))
  | k, a, b, m, h, h1, h2, hm=>by
    obtain ⟨m, rfl⟩:∃ j, m = j + 1:=⟨m - 1, by omega⟩
    by_cases hb:b = 0
    · subst hb
      rw [itr, qlQ, Nat.gcd_zero_right]
    · rw [itr, qjE a b z hb h1 h2]
      dsimp only
      have hr:=Nat.mod_lt a (Nat.pos_of_ne_zero hb)
      have hrl:(dig (a % b)).length ≤ 10000:=Nat.le_trans (qcA (Nat.le_of_lt hr)) h2
      have hg:Nat.gcd a b = Nat.gcd b (a % b):=by rw [Nat.gcd_comm, Nat.gcd_rec, Nat.gcd_comm]
      obtain ⟨m, rfl⟩:∃ j, m = j + 1:=⟨m - 1, by
        cases k with
        | zero=>simp at h; omega
        | succ k=>omega⟩
      by_cases hr0:a % b = 0
      · rw [hg, hr0, itr, qlQ, Nat.gcd_zero_right]
      · rw [itr, qjE b (a % b) z hr0 h2 hrl]
        dsimp only
        have hh:=qpT (Nat.pos_of_ne_zero hr0) hr
        have hg2:Nat.gcd b (a % b) = Nat.gcd (a % b) (b % (a % b)):=by rw [Nat.gcd_comm, Nat.gcd_rec, Nat.gcd_comm]
        cases k with
        | zero=>simp at h; omega
        | succ k =>
          rw [hg, hg2]
          have h3:=Nat.mod_lt b (Nat.pos_of_ne_zero hr0)
          exact qr0 z k (a % b) (b % (a % b)) m (by rw [Nat.pow_succ] at h; omega) hrl (Nat.le_trans (qcA (by omega)) hrl) (by omega)
theorem qq9 (x y:Int) (h1:(dig x.natAbs).length ≤ 10000) (h2:(dig y.natAbs).length ≤ 10000):f203 (enc x, enc y, ()) = some (enc (Nat.gcd x.natAbs y.natAbs:Nat), ()):=by
  have e0:f212 ((x.sign, dig x.natAbs, ()), ()) = some (enc x.natAbs, ()):=qnZ x
  have e1:f212 ((y.sign, dig y.natAbs, ()), ()) = some (enc y.natAbs, ()):=qnZ y
  have hlt:y.natAbs < 2 ^ (30 * (dig y.natAbs).length):=by
    have q1:=qbg y.natAbs
    have q2:=qqh (dig y.natAbs).length
    omega
  have hl:l203_0 ((), (((enc x.natAbs).1, (enc x.natAbs).2.1, ()), ((enc y.natAbs).1, (enc y.natAbs).2.1, ()), ((0:Int), ()), ())) =
      some (.inl ((), (((Nat.gcd x.natAbs y.natAbs:Nat):Int).sign, dig (Nat.gcd x.natAbs y.natAbs), ()), (((0:Nat):Int).sign, dig 0, ()), ((0:Int), ()), ())) :=
    qr0 0 _ x.natAbs y.natAbs rounds hlt h1 h2 (qaS (by omega))
  show f203 ((x.sign, dig x.natAbs, ()), (y.sign, dig y.natAbs, ()), ()) = _
  simp only [f203, t203, g212, e0, e1, b203_0, hl, Option.isSome_some, Option.getD_some, Tr.val_test, Tr.val_fin, qbk, outB, if_true]
  rfl
def encR (r:Rat):(Int×List Int×PUnit)×(Int×List Int×PUnit)×PUnit:=(enc r.num, enc (r.den:Int), ())
def rsz (r:Rat) (n:Nat):Prop:=(dig r.num.natAbs).length ≤ n ∧ (dig r.den).length ≤ n
theorem qqA (m n:Nat):(dig (m * n)).length ≤ (dig m).length + (dig n).length:=qa7 (by
  have h1:=qbg m; have h2:=qbg n
  rw [qoB, Int.natCast_mul]
  rcases Nat.eq_zero_or_pos n with h | h
  · subst h
    have:=qel (dig m).length; have:=qel (dig 0).length
    have:=Int.mul_pos (qel (dig m).length) (qel (dig 0).length)
    simpa using this
  · exact Int.lt_of_lt_of_le (Int.mul_lt_mul_of_pos_right h1 (by omega)) (Int.mul_le_mul_of_nonneg_left (Int.le_of_lt h2) (Int.le_of_lt (qel _))))
theorem len_add (x y:Int) {k:Nat} (h1:(dig x.natAbs).length ≤ k) (h2:(dig y.natAbs).length ≤ k):(dig (x + y).natAbs).length ≤ k + 1:=qa7 (by
  have q1:=qbg x.natAbs; have q2:=qbg y.natAbs
  have q3:pw (dig x.natAbs).length ≤ pw k:=qjg h1
  have q4:pw (dig y.natAbs).length ≤ pw k:=qjg h2
  simp only [pw]; omega)
theorem qlS (x y:Int):(dig (x * y).natAbs).length ≤ (dig x.natAbs).length + (dig y.natAbs).length:=by rw [Int.natAbs_mul]; exact qqA _ _
theorem qqG (x:Int) (y:Nat) (hy:y ≠ 0) (h1:(dig x.natAbs).length ≤ 10000) (h2:(dig y).length ≤ 10000):f183 (enc x, enc (y:Int), ()) = some (encR (Rat.normalize x y hy), ()):=by
  have hs:(y:Int).sign = 1:=Int.sign_eq_one_of_pos (by omega)
  have e0:f202 (((y:Int).sign, dig (y:Int).natAbs, ()), ()) = some ((y:Int).sign, ()):=rfl
  have e1:f203 ((x.sign, dig x.natAbs, ()), ((y:Int).sign, dig (y:Int).natAbs, ()), ()) = some (enc (Nat.gcd x.natAbs y:Nat), ()):=qq9 x y h1 h2
  have e2:=qdU 1 (by decide)
  have hg:0 < Nat.gcd x.natAbs y:=Nat.gcd_pos_of_pos_right _ (by omega)
  have hgl:(dig (Nat.gcd x.natAbs y)).length ≤ 10000:=Nat.le_trans (qcA (Nat.gcd_le_right _ (by omega))) h2
  have hnum:(Rat.normalize x y hy).num = x / ((Nat.gcd x.natAbs y:Nat):Int):=by rw [Rat.normalize_eq]
  have hden:(Rat.normalize x y hy).den = y / Nat.gcd x.natAbs y:=by rw [Rat.normalize_eq]
  generalize hgg:Nat.gcd x.natAbs y = g at *
  have e3:f166 (((enc (g:Nat)).1, (enc (g:Nat)).2.1, ()), ((enc 1).1, (enc 1).2.1, ()), ()) = some (((g:Int) - 1).sign, ()):=qnS (g:Int) 1 (by simp only [Int.natAbs_natCast]; omega) (by have:=qgM (x:=1) (by omega) (by omega); omega)
  have e4:f178 ((x.sign, dig x.natAbs, ()), ((enc (g:Nat)).1, (enc (g:Nat)).2.1, ()), ()) = some (enc (x / (g:Int)), ()):=qkw x g (by omega) hgl h1
  have e5:f178 (((y:Int).sign, dig (y:Int).natAbs, ()), ((enc (g:Nat)).1, (enc (g:Nat)).2.1, ()), ()) = some (enc ((y:Int) / (g:Int)), ()):=qkw y g (by omega) hgl h2
  show f183 ((x.sign, dig x.natAbs, ()), ((y:Int).sign, dig (y:Int).natAbs, ()), ()) = _
  simp only [f183, t183, g202, e0, g203, e1, g164, e2, g166, e3, Option.isSome_some, Option.getD_some, Tr.val_test, Tr.val_fin, qan, qaW, if_true]
  rw [if_neg (by rw [hs]; simp)]
  by_cases h:g = 1
  · subst h
    rw [if_pos (by simp), encR, hnum, hden]
    simp [enc]
  · rw [if_neg (by rw [Int.sign_eq_one_of_pos (by omega)]; simp)]
    simp only [g178, e4, e5, Option.isSome_some, Option.getD_some, if_true]
    rw [encR, hnum, hden, Int.natCast_ediv]
theorem qon (x:Int) (h:x.natAbs ≤ 9223372036854775807):f106 (x, ()) = some (encR (x:Rat), ()):=by
  have e1:=qdU x h
  have e2:=qdU 1 (by decide)
  simp only [f106, t106, g164, e1, e2, Option.isSome_some, Option.getD_some, Tr.val_test, Tr.val_fin, if_true]
  rfl
theorem qq2 (x:Int) (y:Nat) (hy:y ≠ 0) (h:x.natAbs ≤ 9223372036854775807) (h2:y ≤ 9223372036854775807):f163 (x, (y:Int), ()) = some (encR (Rat.normalize x y hy), ()):=by
  have e1:=qdU x h
  have e2:=qdU (y:Int) (by omega)
  have e3:f183 (((enc x).1, (enc x).2.1, ()), ((enc (y:Int)).1, (enc (y:Int)).2.1, ()), ()) = some (encR (Rat.normalize x y hy), ()):=qqG x y hy
    (Nat.le_trans (qa7 (k:=3) (by simp only [pw]; omega)) (by omega)) (Nat.le_trans (qa7 (k:=3) (by simp only [pw]; omega)) (by omega))
  simp only [f163, t163, g164, e1, e2, g183, e3, Option.isSome_some, Option.getD_some, Tr.val_test, Tr.val_fin, if_true]
theorem qqo (r s:Rat) (hr:rsz r 2000) (hs:rsz s 2000):f108 (encR r, encR s, ()) = some ((r.num * (s.den:Int) - s.num * (r.den:Int)).sign, ()):=by
  obtain ⟨r1, r2⟩:=hr
  obtain ⟨s1, s2⟩:=hs
  have m1:=qlS r.num (s.den:Int)
  have m2:=qlS s.num (r.den:Int)
  simp only [Int.natAbs_natCast] at m1 m2
  have e1:f167 ((r.num.sign, dig r.num.natAbs, ()), ((s.den:Int).sign, dig s.den, ()), ()) = some (enc (r.num * (s.den:Int)), ()):=qiw _ _ (by simp only [Int.natAbs_natCast]; omega)
  have e2:f167 ((s.num.sign, dig s.num.natAbs, ()), ((r.den:Int).sign, dig r.den, ()), ()) = some (enc (s.num * (r.den:Int)), ()):=qiw _ _ (by simp only [Int.natAbs_natCast]; omega)
  have e3:f166 (((enc (r.num * (s.den:Int))).1, (enc (r.num * (s.den:Int))).2.1, ()), ((enc (s.num * (r.den:Int))).1, (enc (s.num * (r.den:Int))).2.1, ()), ()) = some ((r.num * (s.den:Int) - s.num * (r.den:Int)).sign, ()):=qnS _ _ (by omega) (by omega)
  show f108 (((r.num.sign, dig r.num.natAbs, ()), ((r.den:Int).sign, dig r.den, ()), ()), ((s.num.sign, dig s.num.natAbs, ()), ((s.den:Int).sign, dig s.den, ()), ()), ()) = _
  simp only [f108, t108, g167, e1, e2, g166, e3, Option.isSome_some, Option.getD_some, Tr.val_test, Tr.val_fin, if_true]
def acl (l:List Int):Nat → Int
  | 0=>0
  | j + 1=>wrap64 (wrap64 (acl l j * 1000000000) + l.getD (l.length - 1 - j) 0)
theorem qrR:∀ (l:List Int), l.length ≤ 2 → Dg l → acl l l.length = dval l
  | [], _, _=>rfl
  | [d], _, hd=>by
    have h1:=hd.head
    have e:acl [d] [d].length = wrap64 (wrap64 (0 * 1000000000) + d):=rfl
    rw [e, qad (n:=0 * 1000000000) (by omega) (by omega), qad (by omega) (by omega)]
    simp only [dval]; omega
  | [d, e], _, hd=>by
    have h1:=hd.head
    have h2:=hd.tail.head
    have q:acl [d, e] [d, e].length = wrap64 (wrap64 (wrap64 (wrap64 (0 * 1000000000) + e) * 1000000000) + d):=rfl
    rw [q, qad (n:=0 * 1000000000) (by omega) (by omega), qad (n:=0 * 1000000000 + e) (by omega) (by omega), qad (n:=(0 * 1000000000 + e) * 1000000000) (by omega) (by omega), qad (by omega) (by omega)]
    simp only [dval]; omega
  | _ :: _ :: _ :: _, h, _=>by simp at h
theorem l103 (s:Int) (l:List Int) (hl:l.length ≤ 2) (hd:Dg l):l103_0 (((0:Int), (l.length:Int) - 1, ()), (s, l, ()), ()) = some (.inl ((dval l, ()), (s, l, ()), ())):=by
  have key:=qdO (step:=s103_0) (fun j=>((acl l j, (l.length:Int) - 1 - (j:Int), ()), (s, l, ()), ())) (n:=l.length) (m:=rounds) (b:=((acl l l.length, ()), (s, l, ()), ())) ?_ ?_ (qaS (by omega))
  · rw [qrR l hl hd] at key
    have e:(l.length:Int) - 1 - ((0:Nat):Int) = (l.length:Int) - 1:=by omega
    simp only [e] at key
    exact key
  · intro j hj
    have e1:Int.toNat ((l.length:Int) - 1 - (j:Int)) = l.length - 1 - j:=by omega
    have e2:wrap64 ((l.length:Int) - 1 - (j:Int) - 1) = (l.length:Int) - 1 - ((j + 1:Nat):Int):=by rw [qad (by omega) (by omega)]; omega
    simp only [s103_0, t103_0, Tr.val_test, Tr.val_fin, Tr.val_stop, qan, e1, e2]
    rw [if_pos (by rw [decide_eq_true_eq]; omega), if_pos (by simp only [Bool.and_eq_true, decide_eq_true_eq]; omega)]
    rfl
  · simp only [s103_0, t103_0, Tr.val_test, Tr.val_fin, Tr.val_stop, qan]
    rw [if_neg (by rw [decide_eq_true_eq]; omega)]
theorem qng (x:Int) (h:(dig x.natAbs).length ≤ 2):f103 (enc x, ()) = some (x, true, ()):=by
  have hl:=l103 x.sign (dig x.natAbs) h (qbI _)
  have n1:decide (((dig x.natAbs).length:Int) ≤ 2) = true:=by rw [decide_eq_true_eq]; omega
  have w1:wrap64 (((dig x.natAbs).length:Int) - 1) = ((dig x.natAbs).length:Int) - 1:=qad (by omega) (by omega)
  have hb:=qbg x.natAbs
  have hp:=qjg h
  have hp2:pw 2 = 1000000000000000000:=rfl
  have w2:wrap64 (x.sign * dval (dig x.natAbs)) = x:=by
    rw [qbF, Int.sign_mul_natAbs]
    exact qad (by omega) (by omega)
  show f103 ((x.sign, dig x.natAbs, ()), ()) = _
  simp only [f103, t103, Tr.val_test, Tr.val_fin, Tr.val_stop, qan, n1, w1, hl, qbk, b103_0, outB, w2, Bool.not_true, Bool.false_eq_true, if_false, if_true]
theorem qra (n d:Int):f104 ((n, d, ()), ()) = some (wi (-1000000000) 1000000000 n && wi 1 1000000000 d, ()):=by
  simp only [f104, t104, Tr.val_test, Tr.val_fin, Tr.val_stop, g20, qnV, Option.isSome_some, Option.getD_some, if_true]
  cases wi (-1000000000) 1000000000 n <;> simp
theorem qr1 (n d:Int) (h1:n.natAbs ≤ 1000000000) (h2:1 ≤ d) (h3:d ≤ 1000000000):f22 ((enc n, enc d, ()), ()) = some ((n, d, ()), true, ()):=by
  have e1:f103 ((n.sign, dig n.natAbs, ()), ()) = some (n, true, ()):=qng n (qa7 (by simp only [pw]; omega))
  have e2:f103 ((d.sign, dig d.natAbs, ()), ()) = some (d, true, ()):=qng d (qa7 (by simp only [pw]; omega))
  have e3:=qra n d
  have q1:wi (-1000000000) 1000000000 n = true:=wi_iff.2 (by omega)
  have q2:wi 1 1000000000 d = true:=wi_iff.2 (by omega)
  rw [q1, q2] at e3
  show f22 (((n.sign, dig n.natAbs, ()), (d.sign, dig d.natAbs, ()), ()), ()) = _
  simp only [f22, t22, Tr.val_test, Tr.val_fin, Tr.val_stop, g103, e1, e2, g104, e3, Option.isSome_some, Option.getD_some, Bool.and_self, Bool.not_true, Bool.false_eq_true, if_false, if_true]
end Go.Vm.Mo

namespace Go.Vm.Mo
open Go
set_option linter.unusedVariables false
set_option linter.unusedSimpArgs false
theorem qrz (a:Int) (b:Nat) (hb:b ≠ 0):low a (b:Int) = pr (Rat.normalize a b hb):=by
  unfold low pr
  rw [Rat.normalize_eq]
  have e:Int.gcd a (b:Int) = Nat.gcd a.natAbs b:=rfl
  rw [e]
  have h1:((Nat.gcd a.natAbs b:Nat):Int) ∣ a:=Int.ofNat_dvd_left.2 (Nat.gcd_dvd_left _ _)
  rw [Int.tdiv_eq_ediv_of_dvd h1, Int.tdiv_eq_ediv_of_dvd (Int.natCast_dvd_natCast.2 (Nat.gcd_dvd_right _ _)), Int.natCast_ediv]
theorem qql:∀ (n:Nat) (a b:Int), b.natAbs ≤ n → 0 ≤ a → 0 ≤ b → 0 ≤ euc a b
  | 0, a, b, h, ha, _=>by
    have:b = 0:=by omega
    subst this; rw [qf8]; exact ha
  | n + 1, a, b, h, ha, hb=>by
    by_cases h0:b = 0
    · subst h0; rw [qf8]; exact ha
    · rw [qiK a h0]
      have h1:0 ≤ a.tmod b:=Int.tmod_nonneg _ ha
      have h2:a.tmod b < b:=Int.tmod_lt_of_pos _ (by omega)
      exact qql n b (a.tmod b) (by omega) hb h1
theorem qr5 (x y a b:Int) (hb:b.natAbs ≤ 9223372036854775807):l156_0 ((x, y, a, b, ()), ((0:Int), (0:Int), ()), ()) = some (.inl ((x, y, euc a b, ()), ((0:Int), (0:Int), ()), ())):=by
  refine qqH (fun a b=>((x, y, a, b, ()), ((0:Int), (0:Int), ()), ())) (fun a=>((x, y, a, ()), ((0:Int), (0:Int), ()), ())) ?_ ?_ rounds a b (qr3 (by omega))
  · intro a b hb
    simp [s156_0, t156_0, qaW, hb]
  · intro a
    simp [s156_0, t156_0, qaW]
theorem qqI (n:Int) (d:Nat) (hd:d ≠ 0) (h0:0 ≤ n) (h1:n ≤ 9223372036854775807) (h2:d ≤ 9223372036854775807):f156 (n, (d:Int), ()) = some (pr (Rat.normalize n d hd), ()):=by
  have e:euc (d:Int) n = (Int.gcd n (d:Int):Int):=by
    have a:=qqp (d:Int) n
    have b:=qql n.natAbs (d:Int) n (Nat.le_refl _) (by omega) h0
    rw [Int.gcd_comm]
    have:Int.gcd (d:Int) n = Nat.gcd (d:Int).natAbs n.natAbs:=rfl
    omega
  have hl:=qr5 n (d:Int) (d:Int) n (by omega)
  have hp:0 < Int.gcd n (d:Int):=Int.gcd_pos_of_ne_zero_right _ (by omega)
  have hz:(((Int.gcd n (d:Int):Nat):Int) == 0) = false:=by simp; omega
  obtain ⟨w1, w2⟩:=qpt n (d:Int) (by omega) (by omega)
  simp only [f156, t156, hl, e, b156_0, outB, qbk, Tr.val_test, Tr.val_fin, Tr.val_stop, hz, Bool.false_eq_true, if_false, if_true, w1, w2]
  rw [← qrz]
structure Cv (M A L:Int):Prop where
  m1:1 ≤ M
  m2:M ≤ 10000
  a1:1 ≤ A
  a2:A ≤ 10000
  l1:1 ≤ L
  l2:L ≤ 10000
theorem qp1 {a b:Int} {m n:Int} (ha:1 ≤ a) (ha2:a ≤ m) (hb:1 ≤ b) (hb2:b ≤ n):1 ≤ a * b ∧ a * b ≤ m * n:=by
  have h1:1 * 1 ≤ a * b:=Int.mul_le_mul ha hb (by omega) (by omega)
  have h2:a * b ≤ m * n:=Int.mul_le_mul ha2 hb2 (by omega) (by omega)
  omega
theorem Cv.n1 {M A L:Int} (v:Cv M A L):1 ≤ 4 * M * A ∧ 4 * M * A ≤ 400000000:=by
  have h:=qp1 (a:=4 * M) (b:=A) (m:=40000) (n:=10000) (by have:=v.m1; omega) (by have:=v.m2; omega) v.a1 v.a2
  omega
theorem Cv.d1 {M A L m:Int} (v:Cv M A L) (h1:1 ≤ m) (h2:m ≤ 10000):1 ≤ L * m ∧ L * m ≤ 100000000:=by
  have h:=qp1 (a:=L) (b:=m) (m:=10000) (n:=10000) v.l1 v.l2 h1 h2
  omega
theorem qd2 {x:Int} (h:1 ≤ x):x.toNat ≠ 0:=by omega
def sq (M A L m:Int):Rat:=mkRat (4 * M * A) (L * m).toNat
theorem qgB {M A L m:Int} (h:1 ≤ L * m):sq M A L m = Rat.normalize (4 * M * A) (L * m).toNat (qd2 h):=(Rat.normalize_eq_mkRat _).symm
theorem qk7 {M A L m:Int} (v:Cv M A L) (h1:1 ≤ m) (h2:m ≤ 10000):f151 ((M, A, L, ()), m, ()) = some (pr (sq M A L m), ()):=by
  have n1:=v.n1
  have d1:=v.d1 h1 h2
  have hm:=v.m1; have hm2:=v.m2
  have w0:wrap64 (4 * M) = 4 * M:=qad (by omega) (by omega)
  have w1:wrap64 (4 * M * A) = 4 * M * A:=qad (by omega) (by omega)
  have w2:wrap64 (L * m) = L * m:=qad (by omega) (by omega)
  have e:=qqI (4 * M * A) (L * m).toNat (qd2 d1.1) (by omega) (by omega) (by omega)
  rw [show (((L * m).toNat:Nat):Int) = L * m by omega, ← qgB d1.1] at e
  simp only [f151, t151, w0, w1, w2, g156, e, Option.isSome_some, Option.getD_some, Tr.val_test, Tr.val_fin, if_true, pr]
theorem qkM {M A L m:Int} (v:Cv M A L) (h1:1 ≤ m) (h2:m ≤ 10000):f155 ((M, A, L, ()), m, ()) = some (encR (sq M A L m), ()):=by
  have n1:=v.n1
  have d1:=v.d1 h1 h2
  have hm:=v.m1; have hm2:=v.m2
  have w0:wrap64 (4 * M) = 4 * M:=qad (by omega) (by omega)
  have w1:wrap64 (4 * M * A) = 4 * M * A:=qad (by omega) (by omega)
  have w2:wrap64 (L * m) = L * m:=qad (by omega) (by omega)
  have e:=qq2 (4 * M * A) (L * m).toNat (qd2 d1.1) (by omega) (by omega)
  rw [show (((L * m).toNat:Nat):Int) = L * m by omega, ← qgB d1.1] at e
  simp only [f155, t155, w0, w1, w2, g163, e, Option.isSome_some, Option.getD_some, Tr.val_test, Tr.val_fin, if_true]
structure Sq (N D:Int) (r:Rat):Prop where
  n1:1 ≤ r.num
  n2:r.num ≤ 400000000
  d2:r.den ≤ 100000000
  cross:r.num * D = N * (r.den:Int)
theorem qdk {M A L m:Int} (v:Cv M A L) (h1:1 ≤ m) (h2:m ≤ 10000):Sq (4 * M * A) (L * m) (sq M A L m):=by
  have n1:=v.n1
  have d1:=v.d1 h1 h2
  have hc:=qfH (4 * M * A) (L * m).toNat (qd2 d1.1)
  have hb:=qkS (4 * M * A) (L * m).toNat (qd2 d1.1) (4 * M * A).toNat (by
    have h3:1 * (4 * M * A).toNat ≤ (4 * M * A).toNat * (L * m).toNat:=by
      rw [Nat.mul_comm]; exact Nat.mul_le_mul_left _ (by omega)
    omega)
  rw [← qgB d1.1, show (((L * m).toNat:Nat):Int) = L * m by omega] at hc
  rw [← qgB d1.1] at hb
  have hdp:=(sq M A L m).den_pos
  have hpos:0 < (sq M A L m).num * (L * m):=by
    rw [hc]; exact Int.mul_pos (by omega) (by omega)
  have hn:0 < (sq M A L m).num:=Int.pos_of_mul_pos_left hpos (by omega)
  refine ⟨by omega, ?_, by omega, hc⟩
  have hle:(sq M A L m).num ≤ 4 * M * A:=by
    have hg:sq M A L m = Rat.normalize (4 * M * A) (L * m).toNat (qd2 d1.1):=qgB d1.1
    rw [hg, Rat.normalize_eq]
    show 4 * M * A / _ ≤ _
    exact Int.ediv_le_self _ (by omega)
  omega
theorem qog (lo hi a b c:Int):f93 (lo, hi, [a, b, c], ()) = some (wi lo hi a && (wi lo hi b && wi lo hi c), ()):=by
  rw [qoO lo hi _ (by simp)]
  simp only [first, List.length, List.getD_cons_zero, List.getD_cons_succ]
  by_cases h1:wi lo hi a = true
  · by_cases h2:wi lo hi b = true
    · by_cases h3:wi lo hi c = true
      · simp [h1, h2, h3]
      · simp [h1, h2, h3]
    · simp [h1, h2]
  · simp [h1]
def cE (M A L:Int):Int:=if (wi 1 10000 M && (wi 1 10000 A && wi 1 10000 L)) = true then 0 else 2
theorem qi8 (M A L:Int):cE M A L = 0 ∨ cE M A L = 2:=by unfold cE; split <;> omega
theorem qpz {M A L:Int} (h:cE M A L = 0):Cv M A L:=by
  unfold cE at h
  split at h
  · rename_i hw
    simp only [Bool.and_eq_true, wi_iff] at hw
    exact ⟨hw.1.1, hw.1.2, hw.2.1.1, hw.2.1.2, hw.2.2.1, hw.2.2.2⟩
  · omega
theorem qoc (M A L:Int):f150 ((M, A, L, ()), ()) = some (cE M A L, ()):=by
  have e:=qog 1 10000 M A L
  simp only [f150, t150, g93, e, g95, qow, Option.isSome_some, Option.getD_some, Tr.val_test, Tr.val_fin, if_true, cE]
  cases (wi 1 10000 M && (wi 1 10000 A && wi 1 10000 L)) <;> rfl
def mE (m:Int):Int:=if wi 1 10000 m = true then 0 else 2
theorem qfy (m:Int):f154 (m, ()) = some (mE m, ()):=by
  simp only [f154, t154, g20, qnV, Option.isSome_some, Option.getD_some, Tr.val_test, Tr.val_fin, if_true, mE]
  cases wi 1 10000 m <;> rfl
theorem mE_iff {m:Int}:mE m = 0 ↔ 1 ≤ m ∧ m ≤ 10000:=by
  unfold mE
  rw [← wi_iff]
  split
  · rename_i h; simp [h]
  · rename_i h; simp [h]
theorem qps (m:Int):mE m = 0 ∨ mE m = 2:=by unfold mE; split <;> omega
theorem qqd (M A L:Int):f81 ((M, A, L, ()), ()) = some (cE M A L, ()):=by
  have e1:=qfy M
  have e2:=qfy A
  have e3:=qfy L
  simp only [f81, t81, g154, e1, e2, e3, Option.isSome_some, Option.getD_some, Tr.val_test, Tr.val_fin, if_true, qaW, cE, mE]
  cases wi 1 10000 M <;> cases wi 1 10000 A <;> cases wi 1 10000 L <;> rfl
def rE (lo hi a b:Int):Int:=if (wi lo hi a && wi lo hi b) = true then (if b < a then 9 else 0) else 2
theorem qo2 (lo hi a b:Int):f142 (lo, hi, (a, b, ()), ()) = some (rE lo hi a b, ()):=by
  have e:=qqK lo hi a b
  have e94:∀ x y:Int, f94 ([x, y], ()) = some (qay [x, y], ()):=fun x y=>qok _ (by simp)
  simp only [f142, t142, g93, e, g95, qow, g94, e94, qan, Option.isSome_some, Option.getD_some, Tr.val_test, Tr.val_fin, if_true, rE, qay]
  by_cases h:b < a
  · have q:(!decide (a ≤ b)) = true:=nT (by omega)
    simp only [q, h, if_true]
    cases (wi lo hi a && wi lo hi b) <;> rfl
  · have q:(!decide (a ≤ b)) = false:=nF (by omega)
    simp only [q, h, if_false, Bool.false_eq_true]
    cases (wi lo hi a && wi lo hi b) <;> rfl
theorem qpF {lo hi a b:Int} (h:rE lo hi a b = 0):lo ≤ a ∧ a ≤ b ∧ b ≤ hi:=by
  unfold rE at h
  split at h
  · rename_i hw
    simp only [Bool.and_eq_true, wi_iff] at hw
    split at h <;> omega
  · omega
def sO (M A L m:Int):(Int×Int×Unit)×Int×Unit:=if cE M A L = 0 then (if mE m = 0 then (pr (sq M A L m), 0, ()) else ((0, 0, ()), 2, ())) else ((0, 0, ()), 2, ())
theorem qmb (M A L m:Int):f79 ((M, A, L, ()), m, ()) = some (sO M A L m):=by
  have e1:=qoc M A L
  have e2:=qqB 1 10000 m
  have e94:∀ x y:Int, f94 ([x, y], ()) = some (qay [x, y], ()):=fun x y=>qok _ (by simp)
  simp only [f79, t79, g150, e1, g93, e2, g95, qow, g94, e94, qaW, Option.isSome_some, Option.getD_some, Tr.val_test, Tr.val_fin, Tr.val_stop, if_true, qay, sO]
  rcases qi8 M A L with hc | hc
  · by_cases hm:wi 1 10000 m = true
    · have hm0:mE m = 0:=by unfold mE; rw [if_pos hm]
      have hb:=wi_iff.1 hm
      have e3:=qk7 (qpz hc) hb.1 hb.2
      simp only [hc, hm, hm0, g151, e3, Bool.not_true, Bool.false_eq_true, if_false, if_true, decide_true, Option.isSome_some, Option.getD_some, pr]
    · have hm0:mE m = 2:=by unfold mE; rw [if_neg hm]
      have hmf:wi 1 10000 m = false:=by simpa using hm
      simp only [hc, hmf, hm0, Bool.not_false, if_true, if_false, decide_true]
      rfl
  · simp only [hc]
    rfl
def lt (r:Rat) (n:Int):Bool:=decide (r.num < n * (r.den:Int))
def gt (r:Rat) (n:Int):Bool:=decide (n * (r.den:Int) < r.num)
theorem qgV {n:Int} {d:Nat} (h0:0 ≤ n) (h1:n ≤ 1000000000) (h2:d ≤ 100000000):0 ≤ n * (d:Int) ∧ n * (d:Int) ≤ 100000000000000000:=by
  have a:n * (d:Int) ≤ 1000000000 * (d:Int):=Int.mul_le_mul_of_nonneg_right h1 (by omega)
  have b:0 ≤ n * (d:Int):=Int.mul_nonneg h0 (by omega)
  omega
theorem qoo {N D:Int} {r:Rat} (q:Sq N D r) {n:Int} (h0:0 ≤ n) (h1:n ≤ 1000000000):f152 ((r.num, (r.den:Int), ()), n, ()) = some (lt r n, ()):=by
  have hb:=qgV h0 h1 q.d2
  have w:wrap64 (n * (r.den:Int)) = n * (r.den:Int):=qad (by omega) (by omega)
  simp only [f152, t152, w, qan, Tr.val_fin, lt]
  by_cases h:r.num < n * (r.den:Int)
  · rw [nT (by omega), dT h]
  · rw [nF (by omega), dF h]
theorem qnN {N D:Int} {r:Rat} (q:Sq N D r) {n:Int} (h0:0 ≤ n) (h1:n ≤ 1000000000):f153 ((r.num, (r.den:Int), ()), n, ()) = some (gt r n, ()):=by
  have hb:=qgV h0 h1 q.d2
  have w:wrap64 (n * (r.den:Int)) = n * (r.den:Int):=qad (by omega) (by omega)
  simp only [f153, t153, w, qan, Tr.val_fin, gt]
  by_cases h:n * (r.den:Int) < r.num
  · rw [nT (by omega), dT h]
  · rw [nF (by omega), dF h]
def ans (p1 p2 p3 p4:Bool):Int:=if p1 = true then 2 else if p2 = true then 2 else if p3 = true then 1 else if p4 = true then 1 else 0
def bE (M A L a b x y:Int):Int:=qay [cE M A L, rE 1 10000 a b, rE 0 1000000000 x y]
theorem qp3 (M A L a b x y:Int):f80 ((M, A, L, ()), (a, b, ()), (x, y, ()), ()) = some (if bE M A L a b x y = 0 then (ans (lt (sq M A L a) x) (gt (sq M A L b) y) (lt (sq M A L b) x) (gt (sq M A L a) y), 0, ()) else (0, bE M A L a b x y, ())):=by
  have e1:=qoc M A L
  have e2:=qo2 1 10000 a b
  have e3:=qo2 0 1000000000 x y
  have e94:f94 ([cE M A L, rE 1 10000 a b, rE 0 1000000000 x y], ()) = some (bE M A L a b x y, ()):=qok _ (by simp)
  simp only [f80, t80, g150, e1, g142, e2, e3, g94, e94, qaW, Option.isSome_some, Option.getD_some, Tr.val_test, Tr.val_fin, Tr.val_stop, if_true]
  by_cases h:bE M A L a b x y = 0
  · have hc:cE M A L = 0:=by
      unfold bE at h; simp only [qay] at h
      rcases qi8 M A L with q | q
      · exact q
      · rw [q] at h; simp at h
    have hr:rE 1 10000 a b = 0:=by
      unfold bE at h; simp only [qay, hc, if_true] at h
      by_cases q:rE 1 10000 a b = 0
      · exact q
      · rw [if_neg q] at h; exact absurd h q
    have hs:rE 0 1000000000 x y = 0:=by
      unfold bE at h; simp only [qay, hc, hr, if_true] at h
      by_cases q:rE 0 1000000000 x y = 0
      · exact q
      · rw [if_neg q] at h; exact absurd h q
    have v:=qpz hc
    have r1:=qpF hr
    have s1:=qpF hs
    have ea:=qk7 v (m:=a) (by omega) (by omega)
    have eb:=qk7 v (m:=b) (by omega) (by omega)
    have qa:=qdk v (m:=a) (by omega) (by omega)
    have qb:=qdk v (m:=b) (by omega) (by omega)
    have a1:=qoo qa (n:=x) (by omega) (by omega)
    have a2:=qnN qb (n:=y) (by omega) (by omega)
    have a3:=qoo qb (n:=x) (by omega) (by omega)
    have a4:=qnN qa (n:=y) (by omega) (by omega)
    simp only [h, decide_true, Bool.not_true, Bool.false_eq_true, if_false, if_true, g151, ea, eb, pr, Option.isSome_some, Option.getD_some, g152, a1, a3, g153, a2, a4, ans]
    cases lt (sq M A L a) x <;> cases gt (sq M A L b) y <;> cases lt (sq M A L b) x <;> cases gt (sq M A L a) y <;> rfl
  · simp only [h, decide_false, Bool.not_false, if_true, if_false]
end Go.Vm.Mo

namespace Go.Vm.Mo
open Go
set_option linter.unusedVariables false
set_option linter.unusedSimpArgs false
theorem Sq.rs {N D:Int} {r:Rat} (q:Sq N D r):rsz r 2000:=by
  have h1:=q.n1; have h2:=q.n2; have h3:=q.d2
  exact ⟨Nat.le_trans (qa7 (k:=3) (by simp only [pw]; omega)) (by omega), Nat.le_trans (qa7 (k:=3) (by simp only [pw]; omega)) (by omega)⟩
theorem qrj {n:Int} (h0:0 ≤ n) (h1:n ≤ 1000000000):rsz (n:Rat) 2000:=by
  refine ⟨?_, ?_⟩
  · show (dig n.natAbs).length ≤ 2000
    exact Nat.le_trans (qa7 (k:=3) (by simp only [pw]; omega)) (by omega)
  · show (dig 1).length ≤ 2000
    exact Nat.le_trans (qa7 (k:=3) (by simp only [pw]; omega)) (by omega)
theorem qlw {M A L:Int} (hc:cE M A L = 0) (m:Int):f82 ((M, A, L, ()), m, ((sO M A L m).1.1, (sO M A L m).1.2.1, ()), (sO M A L m).2.1, ()) = some (true, ()):=by
  have e1:=qfy m
  have v:=qpz hc
  simp only [f82, t82, g154, e1, qaW, Option.isSome_some, Option.getD_some, Tr.val_test, Tr.val_fin, Tr.val_stop, if_true, sO, hc]
  rcases qps m with hm | hm
  · have hb:=mE_iff.1 hm
    have q:=qdk v hb.1 hb.2
    have hn1:=q.n1; have hn2:=q.n2; have hd2:=q.d2
    have hdp:=(sq M A L m).den_pos
    have e2:=qkM v hb.1 hb.2
    have e3:f22 ((((sq M A L m).num.sign, dig (sq M A L m).num.natAbs, ()), (((sq M A L m).den:Int).sign, dig ((sq M A L m).den:Int).natAbs, ()), ()), ()) = some (((sq M A L m).num, ((sq M A L m).den:Int), ()), true, ()):=qr1 (sq M A L m).num ((sq M A L m).den:Int) (by omega) (by omega) (by omega)
    simp only [hm, decide_true, Bool.not_true, Bool.false_eq_true, if_false, if_true, g155, e2, encR, enc, g22, e3, Option.isSome_some, Option.getD_some, pr, beq_self_eq_true, Bool.and_self]
  · simp only [hm, show (!decide ((2:Int) = 0)) = true by decide, if_true, if_neg (show ¬ (2:Int) = 0 by omega), decide_true]
    rfl
theorem qrt (a b:Int):(!decide (a ≤ b)) = decide (b < a):=by
  by_cases h:b < a
  · rw [nT (by omega), dT h]
  · rw [nF (by omega), dF h]
theorem qqj (a b x y:Int):f83 ((a, b, ()), (x, y, ()), ()) = some (qay [rE 1 10000 a b, rE 0 1000000000 x y], ()):=by
  have ea:=qfy a
  have eb:=qfy b
  have q1:=qrt a b
  have q2:=qrt x y
  simp only [f83, t83, g154, ea, eb, g20, qnV, qan, qaW, q1, q2, Option.isSome_some, Option.getD_some, Tr.val_test, Tr.val_fin, Tr.val_stop, if_true, qay, rE, mE]
  rcases Bool.eq_false_or_eq_true (wi 1 10000 a) with a1 | a1 <;> rcases Bool.eq_false_or_eq_true (wi 1 10000 b) with a2 | a2 <;> rcases Bool.eq_false_or_eq_true (wi 0 1000000000 x) with a3 | a3 <;> rcases Bool.eq_false_or_eq_true (wi 0 1000000000 y) with a4 | a4 <;> by_cases h1:b < a <;> by_cases h2:y < x <;> simp [a1, a2, a3, a4, h1, h2]
theorem qro (u v:Int):decide (0 ≤ (u - v).sign) = !decide (u < v):=by
  rcases qbm (u - v) with ⟨h, e⟩ | ⟨h, e⟩ | ⟨h, e⟩ <;> rw [e]
  · rw [dT (show u < v by omega)]; rfl
  · rw [dF (show ¬ u < v by omega)]; rfl
  · rw [dF (show ¬ u < v by omega)]; rfl
theorem qrG (u v:Int):decide ((u - v).sign ≤ 0) = !decide (v < u):=by
  rcases qbm (u - v) with ⟨h, e⟩ | ⟨h, e⟩ | ⟨h, e⟩ <;> rw [e]
  · rw [dF (show ¬ v < u by omega)]; rfl
  · rw [dF (show ¬ v < u by omega)]; rfl
  · rw [dT (show v < u by omega)]; rfl
theorem qgf {N D:Int} {r:Rat} (q:Sq N D r) {n:Int} (h0:0 ≤ n) (h1:n ≤ 1000000000):f108 (((r.num.sign, dig r.num.natAbs, ()), ((r.den:Int).sign, dig (r.den:Int).natAbs, ()), ()), ((n.sign, dig n.natAbs, ()), ((1:Int).sign, dig (1:Int).natAbs, ()), ()), ()) = some ((r.num - n * (r.den:Int)).sign, ()):=by
  have e:=qqo r (n:Rat) q.rs (qrj h0 h1)
  have e2:(r.num * (((n:Rat).den:Nat):Int) - (n:Rat).num * (r.den:Int)).sign = (r.num - n * (r.den:Int)).sign:=by
    show (r.num * 1 - n * (r.den:Int)).sign = _
    rw [Int.mul_one]
  rw [e2] at e
  exact e
theorem qrr {M A L a b x y:Int} (v:Cv M A L) (ha:1 ≤ a ∧ a ≤ 10000) (hb:1 ≤ b ∧ b ≤ 10000) (hx:0 ≤ x ∧ x ≤ 1000000000) (hy:0 ≤ y ∧ y ≤ 1000000000) :
    f84 ((M, A, L, ()), (a, b, ()), (x, y, ()), ()) = some (ans (lt (sq M A L a) x) (gt (sq M A L b) y) (lt (sq M A L b) x) (gt (sq M A L a) y), ()):=by
  have ea:=qkM v ha.1 ha.2
  have eb:=qkM v hb.1 hb.2
  have qa:=qdk v ha.1 ha.2
  have qb:=qdk v hb.1 hb.2
  have ex:f106 (x, ()) = some (((x.sign, dig x.natAbs, ()), ((1:Int).sign, dig (1:Int).natAbs, ()), ()), ()):=qon x (by omega)
  have ey:f106 (y, ()) = some (((y.sign, dig y.natAbs, ()), ((1:Int).sign, dig (1:Int).natAbs, ()), ()), ()):=qon y (by omega)
  have c1:=qgf qa hx.1 hx.2
  have c2:=qgf qb hy.1 hy.2
  have c3:=qgf qb hx.1 hx.2
  have c4:=qgf qa hy.1 hy.2
  have g1:decide (0 ≤ ((sq M A L a).num - x * ((sq M A L a).den:Int)).sign) = !lt (sq M A L a) x:=qro _ _
  have g2:decide (((sq M A L b).num - y * ((sq M A L b).den:Int)).sign ≤ 0) = !gt (sq M A L b) y:=qrG _ _
  have g3:decide (0 ≤ ((sq M A L b).num - x * ((sq M A L b).den:Int)).sign) = !lt (sq M A L b) x:=qro _ _
  have g4:decide (((sq M A L a).num - y * ((sq M A L a).den:Int)).sign ≤ 0) = !gt (sq M A L a) y:=qrG _ _
  simp only [f84, t84, g155, ea, eb, g106, ex, ey, encR, enc, g108, c1, c2, c3, c4, qan, g1, g2, g3, g4, Option.isSome_some, Option.getD_some, Tr.val_test, Tr.val_fin, Tr.val_stop, if_true, Bool.not_not]
  rcases Bool.eq_false_or_eq_true (lt (sq M A L a) x) with h1 | h1 <;> rcases Bool.eq_false_or_eq_true (gt (sq M A L b) y) with h2 | h2 <;> rcases Bool.eq_false_or_eq_true (lt (sq M A L b) x) with h3 | h3 <;> rcases Bool.eq_false_or_eq_true (gt (sq M A L a) y) with h4 | h4 <;> simp only [h1, h2, h3, h4, ans, Bool.not_true, Bool.not_false, Bool.false_eq_true, if_true, if_false]
def cm (u v:Int):Int:=if u < v then -1 else if v < u then 1 else 0
theorem qqM (u v:Int):decide (0 ≤ cm u v) = !decide (u < v):=by
  unfold cm
  by_cases h:u < v
  · rw [if_pos h, dT h]; rfl
  · rw [if_neg h, dF h]; split <;> rfl
theorem qrv (u v:Int):decide (cm u v ≤ 0) = !decide (v < u):=by
  unfold cm
  by_cases h:u < v
  · rw [if_pos h, dF (show ¬ v < u by omega)]; rfl
  · rw [if_neg h]
    by_cases k:v < u
    · rw [if_pos k, dT k]; rfl
    · rw [if_neg k, dF k]; rfl
theorem qqf (x p y q:Int) (h1:(x * q).natAbs ≤ 9000000000000000000) (h2:(y * p).natAbs ≤ 9000000000000000000):f24 ((x, p, ()), (y, q, ()), ()) = some (cm (x * q) (y * p), ()):=by
  have w1:wrap64 (x * q) = x * q:=qad (by omega) (by omega)
  have w2:wrap64 (y * p) = y * p:=qad (by omega) (by omega)
  simp only [f24, t24, w1, w2, qan, Tr.val_test, Tr.val_fin, cm]
  by_cases h:x * q < y * p
  · rw [if_pos (nT (by omega)), if_pos h]
  · rw [if_neg (by rw [nF (by omega)]; decide), if_neg h]
    by_cases k:y * p < x * q
    · rw [if_pos (nT (by omega)), if_pos k]
    · rw [if_neg (by rw [nF (by omega)]; decide), if_neg k]
theorem qiG {N D:Int} {r:Rat} (q:Sq N D r) {n:Int} (h0:0 ≤ n) (h1:n ≤ 1000000000):f24 ((r.num, (r.den:Int), ()), (n, (1:Int), ()), ()) = some (cm r.num (n * (r.den:Int)), ()):=by
  have hb:=qgV h0 h1 q.d2
  have hn1:=q.n1; have hn2:=q.n2
  have e:=qqf r.num (r.den:Int) n 1 (by rw [Int.mul_one]; omega) (by omega)
  rw [Int.mul_one] at e
  exact e
theorem qqT {N L a b:Int} {ra rb:Rat} (qa:Sq N (L * a) ra) (qb:Sq N (L * b) rb) (hL:1 ≤ L) (ha:1 ≤ a) (hab:a ≤ b) :
    rb.num * (ra.den:Int) ≤ ra.num * (rb.den:Int) ∧ (a < b → rb.num * (ra.den:Int) < ra.num * (rb.den:Int)):=by
  have ca:=qa.cross
  have cb:=qb.cross
  have hda:=ra.den_pos
  have hdb:=rb.den_pos
  have hn:=qb.n1
  -- L (X a) = L (Y b)
  have e:L * ((ra.num * (rb.den:Int)) * a) = L * ((rb.num * (ra.den:Int)) * b):=by
    have e1:L * ((ra.num * (rb.den:Int)) * a) = (ra.num * (L * a)) * (rb.den:Int):=by grind
    have e2:L * ((rb.num * (ra.den:Int)) * b) = (rb.num * (L * b)) * (ra.den:Int):=by grind
    rw [e1, e2, ca, cb]; grind
  have e':=Int.eq_of_mul_eq_mul_left (show L ≠ 0 by omega) e
  have hY:0 < rb.num * (ra.den:Int):=Int.mul_pos (by omega) (by omega)
  generalize hXX:ra.num * (rb.den:Int) = X at e' ⊢
  generalize hYY:rb.num * (ra.den:Int) = Y at e' hY ⊢
  constructor
  · rcases Int.lt_or_le X Y with h | h
    · have h1:X * a < Y * a:=Int.mul_lt_mul_of_pos_right h (by omega)
      have h2:Y * a ≤ Y * b:=Int.mul_le_mul_of_nonneg_left hab (by omega)
      omega
    · exact h
  · intro hlt
    rcases Int.lt_or_le Y X with h | h
    · exact h
    · have h1:X * a ≤ Y * a:=Int.mul_le_mul_of_nonneg_right h (by omega)
      have h2:Y * a < Y * b:=Int.mul_lt_mul_of_pos_left hlt hY
      omega
theorem qj9 {ra rb:Rat} (h:rb.num * (ra.den:Int) ≤ ra.num * (rb.den:Int)) {n:Int}:(lt ra n = true → lt rb n = true) ∧ (gt rb n = true → gt ra n = true):=by
  have hda:=ra.den_pos
  have hdb:=rb.den_pos
  constructor
  · intro h1
    have h1:ra.num < n * (ra.den:Int):=of_decide_eq_true h1
    have h2:ra.num * (rb.den:Int) < n * (ra.den:Int) * (rb.den:Int):=Int.mul_lt_mul_of_pos_right h1 (by omega)
    have h3:rb.num * (ra.den:Int) < (n * (rb.den:Int)) * (ra.den:Int):=by
      have:n * (ra.den:Int) * (rb.den:Int) = (n * (rb.den:Int)) * (ra.den:Int):=by grind
      omega
    exact decide_eq_true (Int.lt_of_mul_lt_mul_right h3 (by omega))
  · intro h1
    have h1:n * (rb.den:Int) < rb.num:=of_decide_eq_true h1
    have h2:n * (rb.den:Int) * (ra.den:Int) < rb.num * (ra.den:Int):=Int.mul_lt_mul_of_pos_right h1 (by omega)
    have h3:(n * (ra.den:Int)) * (rb.den:Int) < ra.num * (rb.den:Int):=by
      have:n * (rb.den:Int) * (ra.den:Int) = (n * (ra.den:Int)) * (rb.den:Int):=by grind
      omega
    exact decide_eq_true (Int.lt_of_mul_lt_mul_right h3 (by omega))
end Go.Vm.Mo

namespace Go.Vm.Mo
open Go
set_option linter.unusedVariables false
set_option linter.unusedSimpArgs false
theorem qqk (n:Int):f27 (n, ()) = some ((n, (1:Int), ()), ()):=by simp only [f27, t27, Tr.val_fin]
theorem qq6 {u w:Int} (h:qay [u, w] = 0):u = 0 ∧ w = 0:=by
  simp only [qay] at h
  by_cases hu:u = 0
  · rw [if_pos hu] at h
    by_cases hw:w = 0
    · exact ⟨hu, hw⟩
    · rw [if_neg hw] at h; exact absurd h hw
  · rw [if_neg hu] at h; exact absurd h hu
theorem qrC {M A L a b x y:Int} (hc:cE M A L = 0) (hr:rE 1 10000 a b = 0) (hs:rE 0 1000000000 x y = 0):f12 ((M, A, L, ()), (a, b, ()), (x, y, ()), ()) = some (true, ()):=by
  have v:=qpz hc
  have r1:=qpF hr
  have s1:=qpF hs
  have qa:=qdk v (m:=a) (by omega) (by omega)
  have qb:=qdk v (m:=b) (by omega) (by omega)
  have mono:=qqT qa qb v.l1 (by omega) r1.2.1
  have t1:=(qj9 mono.1 (n:=x)).1
  have t2:=(qj9 mono.1 (n:=y)).2
  have hbE:bE M A L a b x y = 0:=by unfold bE; simp only [qay, hc, hr, hs, if_true]
  have hE:qay [rE 1 10000 a b, rE 0 1000000000 x y] = 0:=by simp only [qay, hr, hs, if_true]
  have oa:sO M A L a = (pr (sq M A L a), 0, ()):=by unfold sO; rw [if_pos hc, if_pos (mE_iff.2 ⟨by omega, by omega⟩)]
  have ob:sO M A L b = (pr (sq M A L b), 0, ()):=by unfold sO; rw [if_pos hc, if_pos (mE_iff.2 ⟨by omega, by omega⟩)]
  have e0:=qmb M A L a
  have e1:=qmb M A L b
  have e2:=qp3 M A L a b x y
  have e3:=qqd M A L
  have u0:=qlw hc a
  have u1:=qlw hc b
  have e83:=qqj a b x y
  have e84:=qrr v (a:=a) (b:=b) (x:=x) (y:=y) ⟨by omega, by omega⟩ ⟨by omega, by omega⟩ ⟨by omega, by omega⟩ ⟨by omega, by omega⟩
  rw [hbE, if_pos rfl] at e2
  rw [oa] at e0 u0
  rw [ob] at e1 u1
  rw [hE] at e83
  rw [hc] at e3
  simp only [pr] at e0 e1 u0 u1
  have v1:=qqk x
  have v2:=qqk y
  have b1:=qgV (n:=(sq M A L a).num) (d:=(sq M A L b).den) (by have:=qa.n1; omega) (by have:=qa.n2; omega) qb.d2
  have b2:=qgV (n:=(sq M A L b).num) (d:=(sq M A L a).den) (by have:=qb.n1; omega) (by have:=qb.n2; omega) qa.d2
  have c8:=qqf (sq M A L a).num ((sq M A L a).den:Int) (sq M A L b).num ((sq M A L b).den:Int) (by omega) (by omega)
  have c11:=qiG qa (n:=x) (by omega) (by omega)
  have c12:=qiG qa (n:=y) (by omega) (by omega)
  have c13:=qiG qb (n:=x) (by omega) (by omega)
  have c14:=qiG qb (n:=y) (by omega) (by omega)
  have d8:decide (0 ≤ cm ((sq M A L a).num * ((sq M A L b).den:Int)) ((sq M A L b).num * ((sq M A L a).den:Int))) = true:=by rw [qqM, dF (by omega)]; rfl
  have d8':a < b → decide (cm ((sq M A L a).num * ((sq M A L b).den:Int)) ((sq M A L b).num * ((sq M A L a).den:Int)) = 0) = false:=by
    intro h
    have:=mono.2 h
    unfold cm
    rw [if_neg (by omega), if_pos this]; rfl
  have d11:decide (0 ≤ cm (sq M A L a).num (x * ((sq M A L a).den:Int))) = !lt (sq M A L a) x:=qqM _ _
  have d12:decide (cm (sq M A L a).num (y * ((sq M A L a).den:Int)) ≤ 0) = !gt (sq M A L a) y:=qrv _ _
  have d13:decide (0 ≤ cm (sq M A L b).num (x * ((sq M A L b).den:Int))) = !lt (sq M A L b) x:=qqM _ _
  have d14:decide (cm (sq M A L b).num (y * ((sq M A L b).den:Int)) ≤ 0) = !gt (sq M A L b) y:=qrv _ _
  simp only [f12, t12, g79, e0, e1, g80, e2, g81, e3, g82, u0, u1, g83, e83, g84, e84, g24, c8, g27, v1, v2, c11, c12, c13, c14, qan, qaW, d8, d11, d12, d13, d14, Option.isSome_some, Option.getD_some, Tr.val_test, Tr.val_fin, Tr.val_stop, decide_true, Bool.not_true, Bool.false_eq_true, Bool.not_not, if_true, if_false]
  generalize lt (sq M A L a) x = p1 at *
  generalize gt (sq M A L b) y = p2 at *
  generalize lt (sq M A L b) x = p3 at *
  generalize gt (sq M A L a) y = p4 at *
  by_cases h:a < b
  · simp only [nT (show ¬ b ≤ a by omega), d8' h, Bool.false_eq_true, if_true, if_false]
    clear d8 d8' d11 d12 d13 d14 c8 c11 c12 c13 c14 e0 e1 e2 e3 u0 u1 e83 e84
    cases p1 <;> cases p2 <;> cases p3 <;> cases p4 <;> first | rfl | (have:=t1 rfl; cases this; done) | (have:=t2 rfl; cases this; done)
  · simp only [nF (show b ≤ a by omega), Bool.false_eq_true, if_true, if_false]
    clear d8 d8' d11 d12 d13 d14 c8 c11 c12 c13 c14 e0 e1 e2 e3 u0 u1 e83 e84
    cases p1 <;> cases p2 <;> cases p3 <;> cases p4 <;> first | rfl | (have:=t1 rfl; cases this; done) | (have:=t2 rfl; cases this; done)
theorem qqz (M A L a b x y:Int):f12 ((M, A, L, ()), (a, b, ()), (x, y, ()), ()) = some (true, ()):=by
  have e0:=qmb M A L a
  have e1:=qmb M A L b
  have e2:=qp3 M A L a b x y
  have e3:=qqd M A L
  rcases qi8 M A L with hc | hc
  · by_cases hE:qay [rE 1 10000 a b, rE 0 1000000000 x y] = 0
    · obtain ⟨hr, hs⟩:=qq6 hE
      exact qrC hc hr hs
    · have hbE:bE M A L a b x y = qay [rE 1 10000 a b, rE 0 1000000000 x y]:=by
        unfold bE
        show (if cE M A L = 0 then _ else _) = _
        rw [if_pos hc]
      have u0:=qlw hc a
      have u1:=qlw hc b
      have e83:=qqj a b x y
      rw [hbE, if_neg hE] at e2
      rw [hc] at e3
      simp only [f12, t12, g79, e0, e1, g80, e2, g81, e3, g82, u0, u1, g83, e83, qaW, Option.isSome_some, Option.getD_some, Tr.val_test, Tr.val_fin, Tr.val_stop, decide_true, Bool.not_true, Bool.false_eq_true, if_true, if_false, nT hE]
  · have hbE:bE M A L a b x y = 2:=by unfold bE; simp only [qay, hc]; rfl
    have oa:∀ m, sO M A L m = (((0:Int), (0:Int), ()), 2, ()):=fun m=>by unfold sO; rw [if_neg (by omega)]
    rw [hbE, if_neg (by omega)] at e2
    rw [oa] at e0 e1
    rw [hc] at e3
    simp only [f12, t12, g79, e0, e1, g80, e2, g81, e3, qaW, Option.isSome_some, Option.getD_some, Tr.val_test, Tr.val_fin, Tr.val_stop, show (!decide ((2:Int) = 0)) = true by decide, decide_true, beq_self_eq_true, Bool.and_self, if_true]
theorem law12 (d:Tys.data as12) (hw:Tys.Wf as12 d):qmT Go.Proofs.Tryz.prog 12 as12 [.bool] d (true, ()):=by
  have h:f12 d = some (true, ()):=qqz d.1.1 d.1.2.1 d.1.2.2.1 d.2.1.1 d.2.1.2.1 d.2.2.1.1 d.2.2.1.2.1
  have hp:p12.pre d = true:=by
    show Option.isSome (f12 d) = true
    rw [h]; rfl
  have hg:p12.fn d = (true, ()):=by
    show (f12 d).getD _ = _
    rw [h]; rfl
  have:=ok12.runs d hp
  rw [hg] at this
  exact this
end Go.Vm.Mo
