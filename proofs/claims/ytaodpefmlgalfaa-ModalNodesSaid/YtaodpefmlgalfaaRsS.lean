/-! How many squares lie below: a state turns one way alone, and the further the greater the square, the mass, the softer the spring. -/
set_option linter.unusedVariables false
set_option linter.unusedSimpArgs false

namespace Go.Vm.St

/-- A state: half turns, displacement, force; the displacement is above 0, or it is 0 and the force above 0. -/
structure Ph where
  h : Nat
  u : Int
  f : Int

def Ph.Ok (a : Ph) : Prop := 0 < a.u ∨ (a.u = 0 ∧ 0 < a.f)

/-- Turned no further. -/
def Ph.le (a b : Ph) : Prop := a.h < b.h ∨ (a.h = b.h ∧ b.f * a.u ≤ a.f * b.u)

/-- A mass: q is above 0. -/
def Ph.mass (q t : Int) (a : Ph) : Ph := ⟨a.h, q * a.u, q * a.f - t * a.u⟩

/-- A spring: k is above 0. -/
def Ph.spring (k : Int) (a : Ph) : Ph := if k * a.u + a.f ≤ 0 then ⟨a.h + 1, -(k * a.u + a.f), -(k * a.f)⟩ else ⟨a.h, k * a.u + a.f, k * a.f⟩

def Ph.count (a : Ph) : Nat := if a.f < 0 then a.h + 1 else a.h

theorem Ph.Ok.nonneg {a : Ph} (h : a.Ok) : 0 ≤ a.u := by rcases h with h | h <;> omega

theorem Ph.Ok.mass {a : Ph} (h : a.Ok) {q t : Int} (hq : 0 < q) : (a.mass q t).Ok := by
  rcases h with h | ⟨h1, h2⟩
  · exact .inl (Int.mul_pos hq h)
  · refine .inr ⟨by simp [Ph.mass, h1], ?_⟩
    simp only [Ph.mass, h1, Int.mul_zero, Int.sub_zero]
    exact Int.mul_pos hq h2

theorem Ph.Ok.spring {a : Ph} (h : a.Ok) {k : Int} (hk : 0 < k) : (a.spring k).Ok := by
  unfold Ph.spring
  split
  · rename_i hc
    have hf : a.f < 0 := by
      rcases h with h | ⟨h1, h2⟩
      · have := Int.mul_pos hk h; omega
      · rw [h1, Int.mul_zero] at hc; omega
    by_cases h0 : k * a.u + a.f = 0
    · refine .inr ⟨by simp [h0], ?_⟩
      have := Int.mul_pos hk (show 0 < -a.f by omega)
      simp only
      rw [Int.mul_neg] at this
      exact this
    · exact .inl (by simp only; omega)
  · rename_i hc
    exact .inl (by simp only; omega)

theorem Ph.le_mass {a b : Ph} (ha : a.Ok) (hb : b.Ok) (h : a.le b) {q1 t1 q2 t2 : Int} (h1 : 0 < q1) (h2 : 0 < q2) (ht : t1 * q2 ≤ t2 * q1) : (a.mass q1 t1).le (b.mass q2 t2) := by
  rcases h with h | ⟨h, hc⟩
  · exact .inl h
  · refine .inr ⟨h, ?_⟩
    simp only [Ph.mass]
    have p1 : 0 ≤ (q1 * q2) * (a.f * b.u - b.f * a.u) := Int.mul_nonneg (Int.le_of_lt (Int.mul_pos h1 h2)) (by omega)
    have p2 : 0 ≤ (t2 * q1 - t1 * q2) * (a.u * b.u) := Int.mul_nonneg (by omega) (Int.mul_nonneg ha.nonneg hb.nonneg)
    have e : (q1 * a.f - t1 * a.u) * (q2 * b.u) - (q2 * b.f - t2 * b.u) * (q1 * a.u) = (q1 * q2) * (a.f * b.u - b.f * a.u) + (t2 * q1 - t1 * q2) * (a.u * b.u) := by grind
    omega

theorem Ph.le_spring {a b : Ph} (ha : a.Ok) (hb : b.Ok) (h : a.le b) {k1 k2 : Int} (h1 : 0 < k1) (h2 : 0 < k2) (hk : k2 ≤ k1) : (a.spring k1).le (b.spring k2) := by
  have fneg : ∀ {c : Ph} {k : Int}, c.Ok → 0 < k → k * c.u + c.f ≤ 0 → c.f < 0 ∧ 0 < c.u := by
    intro c k hc hk hle
    rcases hc with h | ⟨e, h⟩
    · have := Int.mul_pos hk h; omega
    · rw [e, Int.mul_zero] at hle; omega
  have u1 := ha.nonneg
  have u2 := hb.nonneg
  unfold Ph.spring
  by_cases c1 : k1 * a.u + a.f ≤ 0
  · obtain ⟨fa, ua⟩ := fneg ha h1 c1
    rw [if_pos c1]
    by_cases c2 : k2 * b.u + b.f ≤ 0
    · obtain ⟨fb, ub⟩ := fneg hb h2 c2
      rw [if_pos c2]
      rcases h with h | ⟨h, hc⟩
      · exact .inl (by simp only; omega)
      · refine .inr ⟨by simp only; omega, ?_⟩
        simp only
        have p1 : 0 ≤ (k1 * k2) * (a.f * b.u - b.f * a.u) := Int.mul_nonneg (Int.le_of_lt (Int.mul_pos h1 h2)) (by omega)
        have p2 : 0 ≤ (k1 - k2) * ((-a.f) * (-b.f)) := Int.mul_nonneg (by omega) (Int.mul_nonneg (by omega) (by omega))
        have e : (-(k1 * a.f)) * (-(k2 * b.u + b.f)) - (-(k2 * b.f)) * (-(k1 * a.u + a.f)) = (k1 * k2) * (a.f * b.u - b.f * a.u) + (k1 - k2) * ((-a.f) * (-b.f)) := by grind
        omega
    · rw [if_neg c2]
      rcases h with h | ⟨h, hc⟩
      · by_cases hh : a.h + 1 < b.h
        · exact .inl hh
        · refine .inr ⟨by simp only; omega, ?_⟩
          simp only
          have q1 : 0 ≤ (-(k1 * a.f)) := by have := Int.mul_pos h1 (show 0 < -a.f by omega); rw [Int.mul_neg] at this; omega
          by_cases fb : b.f < 0
          · have p1 : 0 ≤ (-(k1 * a.f)) * (k2 * b.u + b.f) := Int.mul_nonneg q1 (by omega)
            have p2 : 0 ≤ (-(k2 * b.f)) * (-(k1 * a.u + a.f)) := Int.mul_nonneg (by have := Int.mul_pos h2 (show 0 < -b.f by omega); rw [Int.mul_neg] at this; omega) (by omega)
            rw [Int.neg_mul] at p2
            omega
          · have p1 : 0 ≤ (k1 * k2) * ((-a.f) * b.u) := Int.mul_nonneg (Int.le_of_lt (Int.mul_pos h1 h2)) (Int.mul_nonneg (by omega) u2)
            have p2 : 0 ≤ (k1 * k2) * (b.f * a.u) := Int.mul_nonneg (Int.le_of_lt (Int.mul_pos h1 h2)) (Int.mul_nonneg (by omega) u1)
            have p3 : 0 ≤ (k1 - k2) * ((-a.f) * b.f) := Int.mul_nonneg (by omega) (Int.mul_nonneg (by omega) (by omega))
            have e : (-(k1 * a.f)) * (k2 * b.u + b.f) - (k2 * b.f) * (-(k1 * a.u + a.f)) = (k1 * k2) * ((-a.f) * b.u) + (k1 * k2) * (b.f * a.u) + (k1 - k2) * ((-a.f) * b.f) := by grind
            omega
      · exfalso
        -- the softer one would cross, too
        have ub : 0 < b.u := by
          rcases hb with hb | ⟨e, hb⟩
          · exact hb
          · rw [e, Int.mul_zero] at hc
            have := Int.mul_pos hb ua
            omega
        have p1 : a.f * b.u ≤ -(k1 * a.u) * b.u := Int.mul_le_mul_of_nonneg_right (by omega) u2
        have p2 : (k2 * b.u) * a.u ≤ (k1 * b.u) * a.u := Int.mul_le_mul_of_nonneg_right (Int.mul_le_mul_of_nonneg_right hk u2) u1
        have p3 : 0 < (k2 * b.u + b.f) * a.u := Int.mul_pos (by omega) ua
        have e1 : (k2 * b.u + b.f) * a.u = (k2 * b.u) * a.u + b.f * a.u := by grind
        have e2 : -(k1 * a.u) * b.u = -((k1 * b.u) * a.u) := by grind
        omega
  · rw [if_neg c1]
    by_cases c2 : k2 * b.u + b.f ≤ 0
    · rw [if_pos c2]
      rcases h with h | ⟨h, hc⟩
      · exact .inl (by simp only; omega)
      · exact .inl (by simp only; omega)
    · rw [if_neg c2]
      rcases h with h | ⟨h, hc⟩
      · exact .inl h
      · refine .inr ⟨h, ?_⟩
        simp only
        by_cases fa : 0 ≤ a.f
        · by_cases fb : 0 ≤ b.f
          · have p1 : 0 ≤ (k1 * k2) * (a.f * b.u - b.f * a.u) := Int.mul_nonneg (Int.le_of_lt (Int.mul_pos h1 h2)) (by omega)
            have p2 : 0 ≤ (k1 - k2) * (a.f * b.f) := Int.mul_nonneg (by omega) (Int.mul_nonneg fa fb)
            have e : (k1 * a.f) * (k2 * b.u + b.f) - (k2 * b.f) * (k1 * a.u + a.f) = (k1 * k2) * (a.f * b.u - b.f * a.u) + (k1 - k2) * (a.f * b.f) := by grind
            omega
          · have p1 : 0 ≤ (k1 * a.f) * (k2 * b.u + b.f) := Int.mul_nonneg (Int.mul_nonneg (by omega) fa) (by omega)
            have p2 : 0 ≤ (k2 * -b.f) * (k1 * a.u + a.f) := Int.mul_nonneg (Int.mul_nonneg (by omega) (by omega)) (by omega)
            have e : (k2 * -b.f) * (k1 * a.u + a.f) = -((k2 * b.f) * (k1 * a.u + a.f)) := by grind
            omega
        · have ua : 0 < a.u := by
            rcases ha with ha | ⟨e, ha⟩
            · exact ha
            · omega
          have fb : b.f < 0 := by
            rcases (show b.f < 0 ∨ 0 ≤ b.f by omega) with h | h
            · exact h
            · exfalso
              have p1 : 0 ≤ b.f * a.u := Int.mul_nonneg h u1
              have p2 : a.f * b.u ≤ 0 := Int.mul_nonpos_of_nonpos_of_nonneg (by omega) u2
              rcases hb with hb | ⟨e, hb⟩
              · have : a.f * b.u < 0 := Int.mul_neg_of_neg_of_pos (by omega) hb
                omega
              · have := Int.mul_pos hb ua
                omega
          have p1 : 0 ≤ (k1 * k2) * (a.f * b.u - b.f * a.u) := Int.mul_nonneg (Int.le_of_lt (Int.mul_pos h1 h2)) (by omega)
          have p2 : 0 ≤ (k1 - k2) * ((-a.f) * (-b.f)) := Int.mul_nonneg (by omega) (Int.mul_nonneg (by omega) (by omega))
          have e : (k1 * a.f) * (k2 * b.u + b.f) - (k2 * b.f) * (k1 * a.u + a.f) = (k1 * k2) * (a.f * b.u - b.f * a.u) + (k1 - k2) * ((-a.f) * (-b.f)) := by grind
          omega

theorem Ph.le_count {a b : Ph} (ha : a.Ok) (hb : b.Ok) (h : a.le b) : a.count ≤ b.count := by
  unfold Ph.count
  rcases h with h | ⟨h, hc⟩
  · split <;> split <;> omega
  · split
    · rename_i fa
      have ua : 0 < a.u := by
        rcases ha with ha | ⟨e, ha⟩
        · exact ha
        · omega
      have fb : b.f < 0 := by
        rcases (show b.f < 0 ∨ 0 ≤ b.f by omega) with h | h
        · exact h
        · exfalso
          have p1 : 0 ≤ b.f * a.u := Int.mul_nonneg h (by omega)
          rcases hb with hb | ⟨e, hb⟩
          · have : a.f * b.u < 0 := Int.mul_neg_of_neg_of_pos (by omega) hb
            omega
          · have := Int.mul_pos hb ua
            rw [e, Int.mul_zero] at hc
            omega
      rw [if_pos fb]
      omega
    · split <;> omega

end Go.Vm.St

/-! The determinants of a frame, and its state. -/
namespace Go.Vm.St

def gt (l : List Int) (i : Nat) : Int := l.getD i 0

/-- The stiffness at a storey, of n. -/
def stf (k : List Int) (i : Nat) : Int := if i + 1 = k.length then gt k i else gt k i + gt k (i + 1)

/-- The determinants, times powers of q. -/
def W (m k : List Int) (p q : Int) : Nat → Int
  | 0 => 0
  | 1 => 1
  | j + 2 => (stf k j * q - p * gt m j) * W m k p q (j + 1) - gt k j * gt k j * (q * q) * W m k p q j

/-- Ahead of the mass j. -/
def ph (m k : List Int) (p q : Int) : Nat → Ph
  | 0 => Ph.spring (gt k 0) ⟨0, 0, 1⟩
  | j + 1 => Ph.spring (gt k (j + 1)) (Ph.mass q (p * gt m j) (ph m k p q j))

/-- At the top. -/
def top (m k : List Int) (p q : Int) : Ph := Ph.mass q (p * gt m (k.length - 1)) (ph m k p q (k.length - 1))

def sg (h : Nat) : Int := if h % 2 = 0 then 1 else -1

theorem sg_succ (h : Nat) : sg (h + 1) = -sg h := by unfold sg; split <;> split <;> omega
theorem sg_two (h : Nat) : sg h = 1 ∨ sg h = -1 := by unfold sg; split <;> simp

structure Fr (m k : List Int) : Prop where
  pos : 0 < k.length
  len : m.length = k.length
  top : k.length ≤ 4
  mass : ∀ i, i < k.length → 1 ≤ gt m i ∧ gt m i ≤ 10
  spring : ∀ i, i < k.length → 1 ≤ gt k i ∧ gt k i ≤ 20

theorem ph_ok {m k : List Int} (hf : Fr m k) {p q : Int} (hq : 0 < q) : ∀ j, j < k.length → (ph m k p q j).Ok
  | 0, h => Ph.Ok.spring (.inr ⟨rfl, by decide⟩) (by have := hf.spring 0 h; omega)
  | j + 1, h => Ph.Ok.spring (Ph.Ok.mass (ph_ok hf hq j (by omega)) hq) (by have := hf.spring (j + 1) h; omega)

theorem top_ok {m k : List Int} (hf : Fr m k) {p q : Int} (hq : 0 < q) : (top m k p q).Ok := Ph.Ok.mass (ph_ok hf hq _ (by have := hf.pos; omega)) hq

/-- The determinants are the state's displacements. -/
theorem W_ph {m k : List Int} (hf : Fr m k) {p q : Int} (hq : 0 < q) : ∀ j, j < k.length →
    W m k p q (j + 1) = sg (ph m k p q j).h * (ph m k p q j).u ∧ gt k j * W m k p q (j + 1) - gt k j * gt k j * q * W m k p q j = sg (ph m k p q j).h * (ph m k p q j).f
  | 0, h => by
    have hk := hf.spring 0 h
    have e : ph m k p q 0 = ⟨0, 1, gt k 0⟩ := by
      simp only [ph, Ph.spring, Int.mul_zero, Int.mul_one]
      rw [if_neg (by omega)]
      rfl
    rw [e]
    simp [W, sg]
  | j + 1, h => by
    obtain ⟨h1, h2⟩ := W_ph hf hq j (by omega)
    have hs : stf k j = gt k j + gt k (j + 1) := by unfold stf; rw [if_neg (by omega)]
    have e1 : W m k p q (j + 1 + 1) = gt k (j + 1) * (q * W m k p q (j + 1)) + (q * (gt k j * W m k p q (j + 1) - gt k j * gt k j * q * W m k p q j) - p * gt m j * W m k p q (j + 1)) := by
      rw [W, hs]; grind
    have e2 : gt k (j + 1) * W m k p q (j + 1 + 1) - gt k (j + 1) * gt k (j + 1) * q * W m k p q (j + 1) = gt k (j + 1) * (q * (gt k j * W m k p q (j + 1) - gt k j * gt k j * q * W m k p q j) - p * gt m j * W m k p q (j + 1)) := by
      rw [e1]; grind
    rw [e2, e1, h2, h1]
    by_cases hc : gt k (j + 1) * (Ph.mass q (p * gt m j) (ph m k p q j)).u + (Ph.mass q (p * gt m j) (ph m k p q j)).f ≤ 0
    · have e : ph m k p q (j + 1) = _ := if_pos hc
      rw [e, sg_succ]
      simp only [Ph.mass]
      constructor <;> grind
    · have e : ph m k p q (j + 1) = _ := if_neg hc
      rw [e]
      simp only [Ph.mass]
      constructor <;> grind

theorem W_top {m k : List Int} (hf : Fr m k) {p q : Int} (hq : 0 < q) : W m k p q (k.length + 1) = sg (top m k p q).h * (top m k p q).f := by
  have h0 := hf.pos
  obtain ⟨h1, h2⟩ := W_ph (p := p) hf hq (k.length - 1) (by omega)
  have hs : stf k (k.length - 1) = gt k (k.length - 1) := by unfold stf; rw [if_pos (by omega)]
  obtain ⟨n, hn⟩ : ∃ n, k.length = n + 1 := ⟨k.length - 1, by omega⟩
  have hn' : k.length - 1 = n := by omega
  rw [hn'] at h1 h2 hs
  rw [hn]
  have e : W m k p q (n + 1 + 1) = q * (gt k n * W m k p q (n + 1) - gt k n * gt k n * q * W m k p q n) - p * gt m n * W m k p q (n + 1) := by
    rw [W, hs]; grind
  have et : top m k p q = Ph.mass q (p * gt m n) (ph m k p q n) := by unfold top; rw [hn']
  rw [e, h2, h1, et]
  simp only [Ph.mass]
  grind

/-! Changes of sign. -/

def sgn (x : Int) : Int := if x < 0 then -1 else if 0 < x then 1 else 0

/-- What is counted of the first numbers, and the last sign. -/
def chg (v : Nat → Int) : Nat → Int × Int
  | 0 => (0, 0)
  | i + 1 => (if sgn (v i) * (chg v i).2 < 0 then (chg v i).1 + 1 else (chg v i).1, if sgn (v i) ≠ 0 then sgn (v i) else (chg v i).2)

theorem sgn_sg {h : Nat} {u : Int} (hu : 0 < u) : sgn (sg h * u) = sg h := by
  rcases sg_two h with e | e <;> rw [e] <;> unfold sgn
  · rw [if_neg (by omega), if_pos (by omega)]
  · rw [if_pos (by omega)]

theorem sgn_sg_neg {h : Nat} {u : Int} (hu : u < 0) : sgn (sg h * u) = -sg h := by
  rcases sg_two h with e | e <;> rw [e] <;> unfold sgn
  · rw [if_pos (by omega)]
  · rw [if_neg (by omega), if_pos (by omega)]; rfl

theorem sg_sq (h : Nat) : sg h * sg h = 1 := by rcases sg_two h with e | e <;> rw [e] <;> rfl
theorem sg_ne (h : Nat) : sg h ≠ 0 := by rcases sg_two h with e | e <;> rw [e] <;> decide

theorem chg_ph {m k : List Int} (hf : Fr m k) {p q : Int} (hq : 0 < q) : ∀ j, j < k.length →
    if 0 < (ph m k p q j).u then chg (fun i => W m k p q (i + 1)) (j + 1) = (((ph m k p q j).h : Int), sg (ph m k p q j).h)
    else chg (fun i => W m k p q (i + 1)) (j + 1) = (((ph m k p q j).h : Int) - 1, -sg (ph m k p q j).h)
  | 0, h => by
    have hk := hf.spring 0 h
    have e : ph m k p q 0 = ⟨0, 1, gt k 0⟩ := by
      simp only [ph, Ph.spring, Int.mul_zero, Int.mul_one]
      rw [if_neg (by omega)]
      rfl
    rw [e]
    rw [if_pos (show (0 : Int) < 1 by decide)]
    simp [chg, W, sgn, sg]
  | j + 1, h => by
    have ih := chg_ph (p := p) hf hq j (by omega)
    have ho := ph_ok (p := p) hf hq j (by omega)
    have ho' := ph_ok (p := p) hf hq (j + 1) h
    obtain ⟨h1, _⟩ := W_ph (p := p) hf hq (j + 1) h
    have hk := hf.spring (j + 1) h
    have hm : (Ph.mass q (p * gt m j) (ph m k p q j)).h = (ph m k p q j).h := rfl
    have hu : (Ph.mass q (p * gt m j) (ph m k p q j)).u = q * (ph m k p q j).u := rfl
    have hmo := Ph.Ok.mass ho (q := q) (t := p * gt m j) hq
    -- the next state
    have step : (ph m k p q (j + 1)).h = (ph m k p q j).h ∧ 0 < (ph m k p q (j + 1)).u ∨ (ph m k p q (j + 1)).h = (ph m k p q j).h + 1 ∧ 0 < (ph m k p q j).u := by
      by_cases hc : gt k (j + 1) * (Ph.mass q (p * gt m j) (ph m k p q j)).u + (Ph.mass q (p * gt m j) (ph m k p q j)).f ≤ 0
      · have e : ph m k p q (j + 1) = _ := if_pos hc
        rw [e]
        refine .inr ⟨rfl, ?_⟩
        rcases ho with h | ⟨e0, h⟩
        · exact h
        · exfalso
          simp only [Ph.mass, e0, Int.mul_zero, Int.sub_zero, Int.zero_add] at hc
          have := Int.mul_pos hq h
          omega
      · have e : ph m k p q (j + 1) = _ := if_neg hc
        rw [e]
        exact .inl ⟨rfl, Int.not_le.1 hc⟩
    rw [chg]
    simp only [h1]
    rcases step with ⟨e1, e2⟩ | ⟨e1, e2⟩
    · rw [if_pos e2, sgn_sg e2, e1]
      by_cases hp : 0 < (ph m k p q j).u
      · rw [if_pos hp] at ih
        rw [ih]
        simp only [sg_sq, ne_eq, sg_ne, not_false_eq_true, if_true]
        rw [if_neg (by decide)]
      · rw [if_neg hp] at ih
        rw [ih]
        have : sg (ph m k p q j).h * -sg (ph m k p q j).h = -1 := by rw [Int.mul_neg, sg_sq]
        simp only [this, ne_eq, sg_ne, not_false_eq_true, if_true]
        rw [if_pos (by decide)]
        simp
    · rw [if_pos e2] at ih
      rw [ih, e1]
      by_cases hp : 0 < (ph m k p q (j + 1)).u
      · rw [if_pos hp, sgn_sg hp, sg_succ]
        have : -sg (ph m k p q j).h * sg (ph m k p q j).h = -1 := by rw [Int.neg_mul, sg_sq]
        have hne : -sg (ph m k p q j).h ≠ 0 := by have := sg_ne (ph m k p q j).h; omega
        simp only [this, ne_eq, hne, not_false_eq_true, if_true]
        rw [if_pos (by decide)]
        simp
      · rw [if_neg hp]
        have h0 : (ph m k p q (j + 1)).u = 0 := by have := ho'.nonneg; omega
        rw [h0, Int.mul_zero, sg_succ]
        have : sgn 0 = 0 := rfl
        simp only [this, Int.zero_mul, ne_eq, not_true_eq_false, if_false, Int.neg_neg]
        rw [if_neg (by decide)]
        simp

theorem chg_count {m k : List Int} (hf : Fr m k) {p q : Int} (hq : 0 < q) : (chg (fun i => W m k p q (i + 1)) (k.length + 1)).1 = ((top m k p q).count : Int) := by
  have h0 := hf.pos
  have ih := chg_ph (p := p) hf hq (k.length - 1) (by omega)
  have ho := top_ok (p := p) hf hq
  have hw := W_top (p := p) hf hq
  have ht : (top m k p q).h = (ph m k p q (k.length - 1)).h := rfl
  have hu : (top m k p q).u = q * (ph m k p q (k.length - 1)).u := rfl
  rw [show k.length - 1 + 1 = k.length by omega] at ih
  rw [chg]
  simp only [hw, Ph.count]
  by_cases hp : 0 < (ph m k p q (k.length - 1)).u
  · rw [if_pos hp] at ih
    rw [ih, ht]
    by_cases hf0 : (top m k p q).f < 0
    · rw [if_pos hf0, sgn_sg_neg hf0, if_pos (by rw [Int.neg_mul, sg_sq]; decide)]; simp
    · rw [if_neg hf0]
      by_cases hf1 : 0 < (top m k p q).f
      · rw [sgn_sg hf1, if_neg (by rw [sg_sq]; decide)]
      · have : (top m k p q).f = 0 := by omega
        rw [this, Int.mul_zero, if_neg (by show ¬ (0 : Int) * _ < 0; rw [Int.zero_mul]; decide)]
  · rw [if_neg hp] at ih
    rw [ih, ht]
    have hf1 : 0 < (top m k p q).f := by
      rcases ho with h | ⟨_, h⟩
      · rw [hu] at h
        have h0 : (ph m k p q (k.length - 1)).u = 0 := by have := (ph_ok (p := p) hf hq (k.length - 1) (by omega)).nonneg; omega
        rw [h0, Int.mul_zero] at h; omega
      · exact h
    rw [sgn_sg hf1, if_pos (by rw [Int.mul_neg, sg_sq]; decide), if_neg (by omega)]
    omega

/-! Greater squares, heavier, softer. -/

theorem ph_le {m k m' k' : List Int} (hf : Fr m k) (hf' : Fr m' k') (hl : k'.length = k.length) {p q p' q' : Int} (hq : 0 < q) (hq' : 0 < q') (hk : ∀ i, i < k.length → gt k' i ≤ gt k i) (hm : ∀ i, i < k.length → p * gt m i * q' ≤ p' * gt m' i * q) :
    ∀ j, j < k.length → (ph m k p q j).le (ph m' k' p' q' j)
  | 0, h => Ph.le_spring (.inr ⟨rfl, by decide⟩) (.inr ⟨rfl, by decide⟩) (.inr ⟨rfl, Int.le_refl _⟩) (by have := hf.spring 0 h; omega) (by have := hf'.spring 0 (by omega); omega) (hk 0 h)
  | j + 1, h => Ph.le_spring (Ph.Ok.mass (ph_ok hf hq j (by omega)) hq) (Ph.Ok.mass (ph_ok hf' hq' j (by omega)) hq') (Ph.le_mass (ph_ok hf hq j (by omega)) (ph_ok hf' hq' j (by omega)) (ph_le hf hf' hl hq hq' hk hm j (by omega)) hq hq' (hm j (by omega)))
      (by have := hf.spring (j + 1) h; omega) (by have := hf'.spring (j + 1) (by omega); omega) (hk (j + 1) h)

theorem top_le {m k m' k' : List Int} (hf : Fr m k) (hf' : Fr m' k') (hl : k'.length = k.length) {p q p' q' : Int} (hq : 0 < q) (hq' : 0 < q') (hk : ∀ i, i < k.length → gt k' i ≤ gt k i) (hm : ∀ i, i < k.length → p * gt m i * q' ≤ p' * gt m' i * q) :
    (top m k p q).le (top m' k' p' q') := by
  have h0 := hf.pos
  unfold top
  rw [hl]
  exact Ph.le_mass (ph_ok hf hq _ (by omega)) (ph_ok hf' hq' _ (by omega)) (ph_le hf hf' hl hq hq' hk hm _ (by omega)) hq hq' (hm _ (by omega))

/-- As many, and those at the square itself. -/
def Ph.upto (a : Ph) : Nat := if a.f ≤ 0 then a.h + 1 else a.h

theorem Ph.le_upto {a b : Ph} (ha : a.Ok) (hb : b.Ok) (h : a.le b) : a.upto ≤ b.upto := by
  unfold Ph.upto
  rcases h with h | ⟨h, hc⟩
  · split <;> split <;> omega
  · split
    · rename_i fa
      have ua : 0 < a.u := by
        rcases ha with ha | ⟨e, ha⟩
        · exact ha
        · omega
      have fb : b.f ≤ 0 := by
        rcases (show b.f ≤ 0 ∨ 0 < b.f by omega) with h | h
        · exact h
        · exfalso
          have p1 := Int.mul_pos h ua
          have p2 : a.f * b.u ≤ 0 := Int.mul_nonpos_of_nonpos_of_nonneg fa hb.nonneg
          omega
      rw [if_pos fb]
      omega
    · split <;> omega

/-- No square is 0 or less. -/
theorem ph_low {m k : List Int} (hf : Fr m k) {p q : Int} (hq : 0 < q) (hp : p ≤ 0) : ∀ j, j < k.length → (ph m k p q j).h = 0 ∧ 0 < (ph m k p q j).u ∧ 0 < (ph m k p q j).f
  | 0, h => by
    have hk := hf.spring 0 h
    have e : ph m k p q 0 = ⟨0, 1, gt k 0⟩ := by
      simp only [ph, Ph.spring, Int.mul_zero, Int.mul_one]
      rw [if_neg (by omega)]
      rfl
    rw [e]
    exact ⟨rfl, Int.one_pos, by simp only; omega⟩
  | j + 1, h => by
    obtain ⟨h1, h2, h3⟩ := ph_low hf hq hp j (by omega)
    have hk := hf.spring (j + 1) h
    have hm := hf.mass j (by omega)
    have a1 := Int.mul_pos hq h2
    have a2 := Int.mul_pos hq h3
    have a3 : p * gt m j * (ph m k p q j).u ≤ 0 := Int.mul_nonpos_of_nonpos_of_nonneg (Int.mul_nonpos_of_nonpos_of_nonneg hp (by omega)) (by omega)
    have a4 : 0 < gt k (j + 1) * (q * (ph m k p q j).u) := Int.mul_pos (by omega) a1
    have a5 : 0 < gt k (j + 1) * (q * (ph m k p q j).f - p * gt m j * (ph m k p q j).u) := Int.mul_pos (by omega) (by omega)
    have hc : ¬ (gt k (j + 1) * (Ph.mass q (p * gt m j) (ph m k p q j)).u + (Ph.mass q (p * gt m j) (ph m k p q j)).f ≤ 0) := by
      simp only [Ph.mass]; omega
    have e : ph m k p q (j + 1) = _ := if_neg hc
    rw [e]
    exact ⟨h1, Int.not_le.1 hc, a5⟩

theorem count_low {m k : List Int} (hf : Fr m k) {p q : Int} (hq : 0 < q) (hp : p ≤ 0) : (top m k p q).count = 0 ∧ (top m k p q).upto = 0 := by
  have h0 := hf.pos
  obtain ⟨h1, h2, h3⟩ := ph_low hf hq hp (k.length - 1) (by omega)
  have hm := hf.mass (k.length - 1) (by omega)
  have a2 := Int.mul_pos hq h3
  have a3 : p * gt m (k.length - 1) * (ph m k p q (k.length - 1)).u ≤ 0 := Int.mul_nonpos_of_nonpos_of_nonneg (Int.mul_nonpos_of_nonpos_of_nonneg hp (by omega)) (by omega)
  unfold Ph.count Ph.upto top Ph.mass
  simp only
  rw [if_neg (by omega), if_neg (by omega)]
  exact ⟨h1, h1⟩

end Go.Vm.St

/-! Strictly greater squares; the greatest square. -/
namespace Go.Vm.St

def Ph.lt (a b : Ph) : Prop := a.h < b.h ∨ (a.h = b.h ∧ b.f * a.u < a.f * b.u)

theorem Ph.lt.le {a b : Ph} (h : a.lt b) : a.le b := by
  rcases h with h | ⟨h, hc⟩
  · exact .inl h
  · exact .inr ⟨h, Int.le_of_lt hc⟩

theorem Ph.lt_mass {a b : Ph} (ha : a.Ok) (hb : b.Ok) (h : a.lt b) {q1 t1 q2 t2 : Int} (h1 : 0 < q1) (h2 : 0 < q2) (ht : t1 * q2 ≤ t2 * q1) : (a.mass q1 t1).lt (b.mass q2 t2) := by
  rcases h with h | ⟨h, hc⟩
  · exact .inl h
  · refine .inr ⟨h, ?_⟩
    simp only [Ph.mass]
    have p1 : 0 < (q1 * q2) * (a.f * b.u - b.f * a.u) := Int.mul_pos (Int.mul_pos h1 h2) (by omega)
    have p2 : 0 ≤ (t2 * q1 - t1 * q2) * (a.u * b.u) := Int.mul_nonneg (by omega) (Int.mul_nonneg ha.nonneg hb.nonneg)
    have e : (q1 * a.f - t1 * a.u) * (q2 * b.u) - (q2 * b.f - t2 * b.u) * (q1 * a.u) = (q1 * q2) * (a.f * b.u - b.f * a.u) + (t2 * q1 - t1 * q2) * (a.u * b.u) := by grind
    omega

/-- A heavier mass that moves. -/
theorem Ph.lt_mass' {a b : Ph} (ha : 0 < a.u) (hb : 0 < b.u) (h : a.le b) {q1 t1 q2 t2 : Int} (h1 : 0 < q1) (h2 : 0 < q2) (ht : t1 * q2 < t2 * q1) : (a.mass q1 t1).lt (b.mass q2 t2) := by
  rcases h with h | ⟨h, hc⟩
  · exact .inl h
  · refine .inr ⟨h, ?_⟩
    simp only [Ph.mass]
    have p1 : 0 ≤ (q1 * q2) * (a.f * b.u - b.f * a.u) := Int.mul_nonneg (Int.le_of_lt (Int.mul_pos h1 h2)) (by omega)
    have p2 : 0 < (t2 * q1 - t1 * q2) * (a.u * b.u) := Int.mul_pos (by omega) (Int.mul_pos ha hb)
    have e : (q1 * a.f - t1 * a.u) * (q2 * b.u) - (q2 * b.f - t2 * b.u) * (q1 * a.u) = (q1 * q2) * (a.f * b.u - b.f * a.u) + (t2 * q1 - t1 * q2) * (a.u * b.u) := by grind
    omega

theorem Ph.lt_spring {a b : Ph} (ha : a.Ok) (hb : b.Ok) (h : a.lt b) {k : Int} (hk : 0 < k) : (a.spring k).lt (b.spring k) := by
  rcases Ph.le_spring ha hb h.le hk hk (Int.le_refl _) with hl | ⟨hl, _⟩
  · exact .inl hl
  · refine .inr ⟨hl, ?_⟩
    have kk : 0 < k * k := Int.mul_pos hk hk
    unfold Ph.spring at hl ⊢
    by_cases c1 : k * a.u + a.f ≤ 0
    · have fu : a.f < 0 ∧ 0 < a.u := by
        rcases ha with h | ⟨e, h⟩
        · have := Int.mul_pos hk h; omega
        · rw [e, Int.mul_zero] at c1; omega
      rw [if_pos c1] at hl ⊢
      by_cases c2 : k * b.u + b.f ≤ 0
      · rw [if_pos c2] at hl ⊢
        simp only at hl ⊢
        rcases h with h | ⟨_, hc⟩
        · omega
        · have p1 : 0 < (k * k) * (a.f * b.u - b.f * a.u) := Int.mul_pos kk (by omega)
          have e : (-(k * a.f)) * (-(k * b.u + b.f)) - (-(k * b.f)) * (-(k * a.u + a.f)) = (k * k) * (a.f * b.u - b.f * a.u) := by grind
          omega
      · rw [if_neg c2] at hl ⊢
        simp only at hl ⊢
        have ub := hb.nonneg
        have p1 : 0 < (k * k) * (b.f * a.u + (-a.f) * b.u) := by
          refine Int.mul_pos kk ?_
          by_cases fb : b.f < 0
          · have q1 : 0 < a.u * (k * b.u + b.f) := Int.mul_pos fu.2 (by omega)
            have q2 : k * a.u * b.u ≤ (-a.f) * b.u := Int.mul_le_mul_of_nonneg_right (by omega) ub
            have e : a.u * (k * b.u + b.f) = k * a.u * b.u + b.f * a.u := by grind
            omega
          · rcases hb with hb | ⟨e, hb⟩
            · have q1 : 0 < (-a.f) * b.u := Int.mul_pos (by omega) hb
              have q2 : 0 ≤ b.f * a.u := Int.mul_nonneg (by omega) (by omega)
              omega
            · have q1 : 0 ≤ (-a.f) * b.u := Int.mul_nonneg (by omega) ub
              have q2 : 0 < b.f * a.u := Int.mul_pos hb fu.2
              omega
        have e : (-(k * a.f)) * (k * b.u + b.f) - (k * b.f) * (-(k * a.u + a.f)) = (k * k) * (b.f * a.u + (-a.f) * b.u) := by grind
        omega
    · rw [if_neg c1] at hl ⊢
      by_cases c2 : k * b.u + b.f ≤ 0
      · rw [if_pos c2] at hl ⊢
        simp only at hl ⊢
        rcases h with h | ⟨h, _⟩ <;> omega
      · rw [if_neg c2] at hl ⊢
        simp only at hl ⊢
        rcases h with h | ⟨_, hc⟩
        · omega
        · have p1 : 0 < (k * k) * (a.f * b.u - b.f * a.u) := Int.mul_pos kk (by omega)
          have e : (k * a.f) * (k * b.u + b.f) - (k * b.f) * (k * a.u + a.f) = (k * k) * (a.f * b.u - b.f * a.u) := by grind
          omega

theorem ph_zero {m k : List Int} (hf : Fr m k) (p q : Int) : ph m k p q 0 = ⟨0, 1, gt k 0⟩ := by
  have hk := hf.spring 0 hf.pos
  simp only [ph, Ph.spring, Int.mul_zero, Int.mul_one]
  rw [if_neg (by omega)]
  rfl

/-- Strictly greater squares. -/
theorem mass_lt {m k : List Int} (hf : Fr m k) {p q p' q' : Int} (hq : 0 < q) (hq' : 0 < q') (h : p * q' < p' * q) :
    ∀ j, j < k.length → (Ph.mass q (p * gt m j) (ph m k p q j)).lt (Ph.mass q' (p' * gt m j) (ph m k p' q' j))
  | 0, hj => by
    rw [ph_zero hf, ph_zero hf]
    have hm := hf.mass 0 hj
    refine Ph.lt_mass' Int.one_pos Int.one_pos (.inr ⟨rfl, Int.le_refl _⟩) hq hq' ?_
    have : 0 < gt m 0 * (p' * q - p * q') := Int.mul_pos (by omega) (by omega)
    have e : p' * gt m 0 * q - p * gt m 0 * q' = gt m 0 * (p' * q - p * q') := by grind
    omega
  | j + 1, hj => by
    have hm := hf.mass (j + 1) hj
    have hk := hf.spring (j + 1) hj
    refine Ph.lt_mass (ph_ok hf hq _ hj) (ph_ok hf hq' _ hj) (Ph.lt_spring (Ph.Ok.mass (ph_ok hf hq j (by omega)) hq) (Ph.Ok.mass (ph_ok hf hq' j (by omega)) hq') (mass_lt hf hq hq' h j (by omega)) (by omega)) hq hq' ?_
    have : 0 < gt m (j + 1) * (p' * q - p * q') := Int.mul_pos (by omega) (by omega)
    have e : p' * gt m (j + 1) * q - p * gt m (j + 1) * q' = gt m (j + 1) * (p' * q - p * q') := by grind
    omega

theorem top_lt {m k : List Int} (hf : Fr m k) {p q p' q' : Int} (hq : 0 < q) (hq' : 0 < q') (h : p * q' < p' * q) : (top m k p q).lt (top m k p' q') :=
  mass_lt hf hq hq' h _ (by have := hf.pos; omega)

theorem Ph.lt_count {a b : Ph} (ha : a.Ok) (hb : b.Ok) (h : a.lt b) : a.upto ≤ b.count := by
  unfold Ph.upto Ph.count
  rcases h with h | ⟨h, hc⟩
  · split <;> split <;> omega
  · split
    · rename_i fa
      have fb : b.f < 0 := by
        have ua : 0 < a.u := by
          rcases ha with ha | ⟨e, ha⟩
          · exact ha
          · omega
        rcases (show b.f < 0 ∨ 0 ≤ b.f by omega) with h | h
        · exact h
        · exfalso
          have p1 := Int.mul_nonneg h (Int.le_of_lt ua)
          have p2 : a.f * b.u ≤ 0 := Int.mul_nonpos_of_nonpos_of_nonneg fa hb.nonneg
          omega
      rw [if_pos fb]
      omega
    · split <;> omega

/-- At 4 times the greatest spring by the smallest mass each mass is half a turn. -/
theorem ph_high {m k : List Int} (hf : Fr m k) {p q S : Int} (hq : 0 < q) (hS : ∀ i, i < k.length → gt k i ≤ S) (hp : ∀ i, i < k.length → 4 * S * q ≤ p * gt m i) :
    ∀ j, j < k.length → (ph m k p q j).h = j ∧ 0 < (ph m k p q j).u ∧ (ph m k p q j).f ≤ 2 * S * (ph m k p q j).u
  | 0, hj => by
    rw [ph_zero hf]
    have := hS 0 hj
    have := hf.spring 0 hj
    refine ⟨rfl, Int.one_pos, ?_⟩
    simp only
    omega
  | j + 1, hj => by
    obtain ⟨h1, h2, h3⟩ := ph_high hf hq hS hp j (by omega)
    have hk := hf.spring (j + 1) hj
    have hk' := hS (j + 1) hj
    have ht := hp j (by omega)
    generalize hG : ph m k p q j = a at h1 h2 h3
    generalize hT : p * gt m j = t at ht
    generalize hK : gt k (j + 1) = κ at hk hk'
    have a1 := Int.mul_pos hq h2
    have b1 : q * a.f ≤ q * (2 * S * a.u) := Int.mul_le_mul_of_nonneg_left h3 (by omega)
    have b2 : 4 * S * q * a.u ≤ t * a.u := Int.mul_le_mul_of_nonneg_right ht (by omega)
    have e1 : q * (2 * S * a.u) = 2 * (S * (q * a.u)) := by grind
    have e2 : 4 * S * q * a.u = 4 * (S * (q * a.u)) := by grind
    have b3 : κ * (q * a.u) ≤ S * (q * a.u) := Int.mul_le_mul_of_nonneg_right hk' (by omega)
    have b4 : 0 < κ * (q * a.u) := Int.mul_pos (by omega) a1
    have hc : κ * (Ph.mass q t a).u + (Ph.mass q t a).f < 0 := by
      simp only [Ph.mass]; omega
    have e : ph m k p q (j + 1) = ⟨a.h + 1, -(κ * (Ph.mass q t a).u + (Ph.mass q t a).f), -(κ * (Ph.mass q t a).f)⟩ := by
      rw [ph, hG, hT, hK]
      exact if_pos (Int.le_of_lt hc)
    rw [e]
    refine ⟨by simp only [Ph.mass]; omega, by simp only; omega, ?_⟩
    simp only [Ph.mass] at hc ⊢
    -- the force r is at most - 2 S q u
    have hr : q * a.f - t * a.u ≤ -(2 * (S * (q * a.u))) := by omega
    generalize q * a.u = U at *
    generalize q * a.f - t * a.u = r at *
    have c1 : κ * (-r) ≤ S * (-r) := Int.mul_le_mul_of_nonneg_right hk' (by omega)
    have c2 : 2 * κ * (2 * (S * U)) ≤ 2 * κ * (-r) := Int.mul_le_mul_of_nonneg_left (by omega) (by omega)
    have d1 : 0 ≤ (S - κ) * (-(κ * U + r)) := by
      exact Int.mul_nonneg (by omega) (by omega)
    have d2 : 0 ≤ κ * (-r - 2 * (κ * U)) := Int.mul_nonneg (by omega) (by omega)
    have e3 : 2 * S * (-(κ * U + r)) - -(κ * r) = 2 * ((S - κ) * (-(κ * U + r))) + κ * (-r - 2 * (κ * U)) := by grind
    omega

theorem count_high {m k : List Int} (hf : Fr m k) {p q S : Int} (hq : 0 < q) (hS : ∀ i, i < k.length → gt k i ≤ S) (hp : ∀ i, i < k.length → 4 * S * q ≤ p * gt m i) : (top m k p q).count = k.length := by
  have h0 := hf.pos
  obtain ⟨h1, h2, h3⟩ := ph_high hf hq hS hp (k.length - 1) (by omega)
  have hk := hf.spring (k.length - 1) (by omega)
  have hk' := hS (k.length - 1) (by omega)
  have ht := hp (k.length - 1) (by omega)
  unfold Ph.count top Ph.mass
  simp only
  generalize ph m k p q (k.length - 1) = a at h1 h2 h3
  have a1 := Int.mul_pos hq h2
  have b1 : q * a.f ≤ q * (2 * S * a.u) := Int.mul_le_mul_of_nonneg_left h3 (by omega)
  have b2 : 4 * S * q * a.u ≤ p * gt m (k.length - 1) * a.u := Int.mul_le_mul_of_nonneg_right ht (by omega)
  have b3 : 0 < S * (q * a.u) := Int.mul_pos (by omega) a1
  have e1 : q * (2 * S * a.u) = 2 * (S * (q * a.u)) := by grind
  have e2 : 4 * S * q * a.u = 4 * (S * (q * a.u)) := by grind
  rw [if_pos (by omega), h1]
  omega

/-- No more than there are masses. -/
theorem Ph.spring_h (a : Ph) (k : Int) : (a.spring k).h ≤ a.h + 1 := by unfold Ph.spring; split <;> simp

theorem ph_h {m k : List Int} (hf : Fr m k) (p q : Int) : ∀ j, (ph m k p q j).h ≤ j
  | 0 => by rw [ph_zero hf]; simp
  | j + 1 => by
    have := ph_h hf p q j
    have h2 := Ph.spring_h (Ph.mass q (p * gt m j) (ph m k p q j)) (gt k (j + 1))
    rw [ph]
    simp only [Ph.mass] at h2 ⊢
    omega

theorem upto_le {m k : List Int} (hf : Fr m k) (p q : Int) : (top m k p q).upto ≤ k.length ∧ (top m k p q).count ≤ (top m k p q).upto := by
  have h0 := hf.pos
  have := ph_h hf p q (k.length - 1)
  have e : (top m k p q).h = (ph m k p q (k.length - 1)).h := rfl
  unfold Ph.upto Ph.count
  rw [e]
  constructor
  · split <;> omega
  · split <;> split <;> omega

end Go.Vm.St

/-! The determinants as polynomials of the square, and how great they are. -/
namespace Go.Vm.St

theorem gt_le {l : List Int} {b : Int} (hb : 0 ≤ b) (h : ∀ i, i < l.length → gt l i ≤ b) (i : Nat) : gt l i ≤ b := by
  rcases Nat.lt_or_ge i l.length with hi | hi
  · exact h i hi
  · unfold gt; rw [List.getD_eq_getElem?_getD, List.getElem?_eq_none hi]; exact hb

theorem stf_le {m k : List Int} (hf : Fr m k) {j : Nat} (hj : j < k.length) : 1 ≤ stf k j ∧ stf k j ≤ 40 := by
  unfold stf
  have h1 := hf.spring j hj
  split
  · omega
  · have h2 := hf.spring (j + 1) (by omega)
    omega

/-- The greatest that a determinant may be. -/
def bd (p q : Int) : Nat := 50 * q.natAbs + 10 * p.natAbs

theorem W_le {m k : List Int} (hf : Fr m k) {p q : Int} : ∀ j, j ≤ k.length → (W m k p q (j + 1)).natAbs ≤ bd p q ^ j ∧ (W m k p q j).natAbs * (40 * q.natAbs) ≤ bd p q ^ j
  | 0, _ => by simp [W]
  | j + 1, hj => by
    obtain ⟨h1, h2⟩ := W_le hf j (by omega)
    have hs := stf_le hf (j := j) (by omega)
    have hk := hf.spring j (by omega)
    have hm := hf.mass j (by omega)
    have a1 : (stf k j * q - p * gt m j).natAbs ≤ 40 * q.natAbs + 10 * p.natAbs := by
      have e1 : (stf k j * q).natAbs ≤ 40 * q.natAbs := by rw [Int.natAbs_mul]; exact Nat.mul_le_mul_right _ (by omega)
      have e2 : (p * gt m j).natAbs ≤ 10 * p.natAbs := by rw [Int.natAbs_mul, Nat.mul_comm]; exact Nat.mul_le_mul_right _ (by omega)
      omega
    have a2 : ((stf k j * q - p * gt m j) * W m k p q (j + 1)).natAbs ≤ (40 * q.natAbs + 10 * p.natAbs) * bd p q ^ j := by
      rw [Int.natAbs_mul]; exact Nat.mul_le_mul a1 h1
    have a3 : (gt k j * gt k j * (q * q) * W m k p q j).natAbs ≤ 10 * q.natAbs * bd p q ^ j := by
      have e : (gt k j * gt k j * (q * q) * W m k p q j).natAbs = ((gt k j).natAbs * (gt k j).natAbs) * (q.natAbs * (q.natAbs * (W m k p q j).natAbs)) := by
        simp only [Int.natAbs_mul]; grind
      have e1 : (gt k j).natAbs * (gt k j).natAbs ≤ 20 * 20 := Nat.mul_le_mul (by omega) (by omega)
      have e2 : 400 * (q.natAbs * (q.natAbs * (W m k p q j).natAbs)) = 10 * q.natAbs * ((W m k p q j).natAbs * (40 * q.natAbs)) := by grind
      rw [e]
      refine Nat.le_trans (Nat.mul_le_mul_right _ e1) ?_
      rw [show 20 * 20 = 400 from rfl, e2]
      exact Nat.mul_le_mul_left _ h2
    have e3 : bd p q ^ (j + 1) = (40 * q.natAbs + 10 * p.natAbs) * bd p q ^ j + 10 * q.natAbs * bd p q ^ j := by
      rw [Nat.pow_succ, bd]; grind
    refine ⟨?_, ?_⟩
    · rw [W, e3]
      omega
    · have e4 : (W m k p q (j + 1)).natAbs * (40 * q.natAbs) ≤ bd p q ^ j * bd p q := Nat.mul_le_mul h1 (by unfold bd; omega)
      rw [Nat.pow_succ]
      exact e4

/-- The coefficient of the i-th power in the determinant j. -/
def Dc (m k : List Int) : Nat → Nat → Int
  | 0, _ => 0
  | 1, i => if i = 0 then 1 else 0
  | j + 2, 0 => stf k j * Dc m k (j + 1) 0 - gt k j * gt k j * Dc m k j 0
  | j + 2, i + 1 => stf k j * Dc m k (j + 1) (i + 1) - gt m j * Dc m k (j + 1) i - gt k j * gt k j * Dc m k j (i + 1)

theorem Dc_zero {m k : List Int} : ∀ (j i : Nat), j ≤ i → Dc m k j i = 0
  | 0, _, _ => rfl
  | 1, i, h => by simp only [Dc]; rw [if_neg (by omega)]
  | j + 2, 0, h => by omega
  | j + 2, i + 1, h => by
    rw [Dc, Dc_zero (j + 1) (i + 1) (by omega), Dc_zero (j + 1) i (by omega), Dc_zero j (i + 1) (by omega)]
    simp

theorem Dc_le {m k : List Int} (hf : Fr m k) : ∀ j, j ≤ k.length → ∀ i, (Dc m k (j + 1) i).natAbs ≤ 70 ^ j ∧ (Dc m k j i).natAbs * 70 ≤ 70 ^ j
  | 0, _, i => by
    simp only [Dc]
    split <;> simp
  | j + 1, hj, i => by
    have hs := stf_le hf (j := j) (by omega)
    have hk := hf.spring j (by omega)
    have hm := hf.mass j (by omega)
    have e1 : (gt k j).natAbs * (gt k j).natAbs ≤ 20 * 20 := Nat.mul_le_mul (by omega) (by omega)
    have kk : ∀ x : Int, x.natAbs * 70 ≤ 70 ^ j → (gt k j * gt k j * x).natAbs * 70 ≤ 400 * 70 ^ j := by
      intro x hx
      rw [Int.natAbs_mul, Int.natAbs_mul, Nat.mul_assoc]
      exact Nat.mul_le_mul e1 hx
    have ss : ∀ x : Int, x.natAbs ≤ 70 ^ j → (stf k j * x).natAbs ≤ 40 * 70 ^ j := by
      intro x hx
      rw [Int.natAbs_mul]
      exact Nat.mul_le_mul (by omega) hx
    have mm : ∀ x : Int, x.natAbs ≤ 70 ^ j → (gt m j * x).natAbs ≤ 10 * 70 ^ j := by
      intro x hx
      rw [Int.natAbs_mul]
      exact Nat.mul_le_mul (by omega) hx
    have e2 : 70 ^ (j + 1) = 70 * 70 ^ j := by rw [Nat.pow_succ, Nat.mul_comm]
    refine ⟨?_, ?_⟩
    · cases i with
      | zero =>
        obtain ⟨h1, h2⟩ := Dc_le hf j (by omega) 0
        have := ss _ h1
        have := kk _ h2
        rw [Dc, e2]
        omega
      | succ i =>
        obtain ⟨h1, h2⟩ := Dc_le hf j (by omega) (i + 1)
        obtain ⟨h3, _⟩ := Dc_le hf j (by omega) i
        have := ss _ h1
        have := mm _ h3
        have := kk _ h2
        rw [Dc, e2]
        omega
    · obtain ⟨h1, _⟩ := Dc_le hf j (by omega) i
      rw [e2]
      omega

/-- The value for p / q, times the fourth power of q. -/
def ev (c : Nat → Int) (p q : Int) : Int := c 4 * (p * p * p * p) + c 3 * (p * p * p * q) + c 2 * (p * p * q * q) + c 1 * (p * q * q * q) + c 0 * (q * q * q * q)

theorem ev_W {m k : List Int} (hl : k.length ≤ 4) {p q : Int} (hq : 0 < q) : ∀ j, j ≤ k.length → ev (Dc m k (j + 1)) p q * q ^ j = q ^ 4 * W m k p q (j + 1) ∧ ev (Dc m k j) p q * q ^ j = q ^ 4 * (q * W m k p q j)
  | 0, _ => by
    refine ⟨?_, ?_⟩
    · simp only [ev, Dc, W]; grind
    · simp only [ev, Dc, W]; grind
  | j + 1, hj => by
    obtain ⟨h1, h2⟩ := ev_W hl hq j (by omega)
    have hz : Dc m k (j + 1) 4 = 0 := Dc_zero _ _ (by omega)
    have e : q * ev (Dc m k (j + 1 + 1)) p q = (stf k j * q - p * gt m j) * ev (Dc m k (j + 1)) p q - gt k j * gt k j * q * ev (Dc m k j) p q := by
      simp only [ev, Dc, hz]; grind
    refine ⟨?_, ?_⟩
    · have e2 : ev (Dc m k (j + 1 + 1)) p q * q ^ (j + 1) = (q * ev (Dc m k (j + 1 + 1)) p q) * q ^ j := by rw [Int.pow_succ]; grind
      have e3 : (q * ev (Dc m k (j + 1 + 1)) p q) * q ^ j = (stf k j * q - p * gt m j) * (ev (Dc m k (j + 1)) p q * q ^ j) - gt k j * gt k j * q * (ev (Dc m k j) p q * q ^ j) := by rw [e]; grind
      rw [e2, e3, h1, h2, W]
      grind
    · have e2 : ev (Dc m k (j + 1)) p q * q ^ (j + 1) = (ev (Dc m k (j + 1)) p q * q ^ j) * q := by rw [Int.pow_succ]; grind
      rw [e2, h1]
      grind

/-- Where it is 0, below, above. -/
theorem ev_sgn {m k : List Int} (hl : k.length ≤ 4) {p q : Int} (hq : 0 < q) {j : Nat} (hj : j ≤ k.length) : sgn (ev (Dc m k (j + 1)) p q) = sgn (W m k p q (j + 1)) := by
  have h := (ev_W (m := m) hl (p := p) hq j hj).1
  have a1 : 0 < q ^ j := Int.pow_pos hq
  have a2 : 0 < q ^ 4 := Int.pow_pos hq
  generalize ev (Dc m k (j + 1)) p q = x at h ⊢
  generalize W m k p q (j + 1) = y at h ⊢
  generalize q ^ j = u at *
  generalize q ^ 4 = v at *
  unfold sgn
  rcases Int.lt_trichotomy x 0 with hx | hx | hx
  · have := Int.mul_neg_of_neg_of_pos hx a1
    have hy : y < 0 := by
      rcases Int.lt_or_le y 0 with hy | hy
      · exact hy
      · have := Int.mul_nonneg (Int.le_of_lt a2) hy; omega
    rw [if_pos hx, if_pos hy]
  · rw [hx, Int.zero_mul] at h
    have hy : y = 0 := by
      rcases Int.mul_eq_zero.1 h.symm with h | h
      · omega
      · exact h
    rw [hx, hy]
  · have := Int.mul_pos hx a1
    have hy : 0 < y := by
      rcases Int.lt_or_le 0 y with hy | hy
      · exact hy
      · have := Int.mul_nonpos_of_nonneg_of_nonpos (Int.le_of_lt a2) hy; omega
    rw [if_neg (show ¬ x < 0 by omega), if_pos hx, if_neg (show ¬ y < 0 by omega), if_pos hy]

theorem ev_le {m k : List Int} (hf : Fr m k) {p q : Int} (hq : 0 < q) (hb : bd p q ≤ 42500) {j : Nat} (hj : j ≤ k.length) : (ev (Dc m k (j + 1)) p q).natAbs ≤ 42500 ^ 4 := by
  have h := (ev_W (m := m) hf.top (p := p) hq j hj).1
  have h4 := hf.top
  have hw := (W_le hf (p := p) (q := q) j hj).1
  have hn : (ev (Dc m k (j + 1)) p q).natAbs * q.natAbs ^ j = q.natAbs ^ 4 * (W m k p q (j + 1)).natAbs := by
    have := congrArg Int.natAbs h
    simpa only [Int.natAbs_mul, Int.natAbs_pow] using this
  have hqn : q.natAbs ≤ bd p q := by unfold bd; omega
  have hq0 : 0 < q.natAbs := by omega
  have e : q.natAbs ^ 4 = q.natAbs ^ (4 - j) * q.natAbs ^ j := by rw [← Nat.pow_add]; congr 1; omega
  have h2 : (ev (Dc m k (j + 1)) p q).natAbs = q.natAbs ^ (4 - j) * (W m k p q (j + 1)).natAbs := by
    refine Nat.eq_of_mul_eq_mul_right (Nat.pow_pos hq0 : 0 < q.natAbs ^ j) ?_
    rw [hn, e]
    grind
  rw [h2]
  refine Nat.le_trans (Nat.mul_le_mul (Nat.pow_le_pow_left (Nat.le_trans hqn hb) (4 - j)) (Nat.le_trans hw (Nat.pow_le_pow_left hb j))) ?_
  rw [← Nat.pow_add]
  exact Nat.pow_le_pow_right (by decide) (by omega)

end Go.Vm.St
