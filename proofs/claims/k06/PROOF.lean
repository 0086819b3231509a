import PyProof.Rows.All
import Wide.All
import OpenK.AllK
import Wide.FinOn
import HandS.ForMost
import HandS.ForExc
import HandS.Wide
import HandS.WideBits
import HandS.Gcd
import HandS.IsInst
import HandS.Defaults
import HandS.TupSets
import HandS.SetBool
import HandS.SortOrd
import HandS.SortRule
import KE.KeyNested
import HandS.SortKw
import PyProof.MinMaxWalk
import PyProof.WalkInts
import HandS.Ends
import PyProof.ReprRoads
import PyProof.ReprBulk
import HandS.Property
import HandS.Walk
import HandS.Text
import HandS.ForDict
import HandS.WordsDict
import HandS.Iter
import HandS.More
import HandS.Style
import HandS.Conv
import PySem.Challenge.RW_laprunners_k06_positions_and_laps
/-! LRat: exact numbers, plain mathematics over Rat (core Lean alone). -/
namespace LR

/-- numerator and denominator below 2 ^ b -/
def Sz (b : Nat) (q : Rat) : Prop := q.num.natAbs < 2 ^ b ∧ q.den < 2 ^ b

theorem Sz.mono {a b : Nat} {q : Rat} (h : Sz a q) (e : a ≤ b) : Sz b q :=
  ⟨Nat.lt_of_lt_of_le h.1 (Nat.pow_le_pow_right (by decide) e), Nat.lt_of_lt_of_le h.2 (Nat.pow_le_pow_right (by decide) e)⟩

theorem den_pos (q : Rat) : 0 < q.den := Nat.pos_of_ne_zero q.den_nz

/-- the sign of a denominator times the common divisor: what `ratio` divides by -/
def sdiv (n d : Int) : Int := if d < 0 then -((Nat.gcd n.natAbs d.natAbs : Nat) : Int) else ((Nat.gcd n.natAbs d.natAbs : Nat) : Int)

theorem gcd_pos {n d : Int} (hd : d ≠ 0) : 0 < Nat.gcd n.natAbs d.natAbs := Nat.gcd_pos_of_pos_right _ (Int.natAbs_pos.mpr hd)

theorem sdiv_ne {n d : Int} (hd : d ≠ 0) : sdiv n d ≠ 0 := by
  have h := gcd_pos (n := n) hd
  unfold sdiv
  split <;> omega

theorem sdiv_abs (n d : Int) : (sdiv n d).natAbs = Nat.gcd n.natAbs d.natAbs := by
  unfold sdiv
  split <;> omega

theorem fdiv_neg_of_dvd {a g : Int} (h : g ∣ a) : a.fdiv (-g) = -(a / g) := by
  rw [Int.fdiv_eq_ediv_of_dvd (Int.neg_dvd.mpr h), Int.ediv_neg]

theorem sdiv_num {n d : Int} (hd : d ≠ 0) : n.fdiv (sdiv n d) = (Rat.divInt n d).num := by
  have g1 : ((Nat.gcd n.natAbs d.natAbs : Nat) : Int) ∣ n := Int.ofNat_dvd_left.mpr (Nat.gcd_dvd_left _ _)
  have e : (d.gcd n : Int) = ((Nat.gcd n.natAbs d.natAbs : Nat) : Int) := by
    show ((Nat.gcd d.natAbs n.natAbs : Nat) : Int) = _
    rw [Nat.gcd_comm]
  rw [Rat.num_divInt, e]
  unfold sdiv
  split
  · rename_i h
    rw [fdiv_neg_of_dvd g1, Int.sign_eq_neg_one_of_neg h, Int.neg_one_mul, Int.neg_ediv_of_dvd g1]
  · rename_i h
    rw [Int.fdiv_eq_ediv_of_nonneg _ (Int.natCast_nonneg _), Int.sign_eq_one_of_pos (by omega), Int.one_mul]

theorem sdiv_den {n d : Int} (hd : d ≠ 0) : d.fdiv (sdiv n d) = ((Rat.divInt n d).den : Int) := by
  have g1 : ((Nat.gcd n.natAbs d.natAbs : Nat) : Int) ∣ d := Int.ofNat_dvd_left.mpr (Nat.gcd_dvd_right _ _)
  have e : d.gcd n = Nat.gcd n.natAbs d.natAbs := by
    show Nat.gcd d.natAbs n.natAbs = _
    rw [Nat.gcd_comm]
  rw [Rat.den_divInt, if_neg hd, e, Int.natCast_ediv]
  unfold sdiv
  split
  · rename_i h
    rw [fdiv_neg_of_dvd g1, ← Int.neg_ediv_of_dvd g1]
    congr 1
    omega
  · rename_i h
    rw [Int.fdiv_eq_ediv_of_nonneg _ (Int.natCast_nonneg _)]
    congr 1
    omega

theorem num_le (n d : Int) : (Rat.divInt n d).num.natAbs ≤ n.natAbs := by
  by_cases hd : d = 0
  · subst hd
    rw [Rat.divInt_zero]
    exact Nat.zero_le _
  · rw [Rat.num_divInt, Int.natAbs_ediv_of_dvd]
    · rw [Int.natAbs_mul, Int.natAbs_sign_of_ne_zero hd, Nat.one_mul]
      exact Nat.div_le_self _ _
    · refine Int.dvd_mul_of_dvd_right ?_
      exact Int.gcd_dvd_right _ _
theorem den_le {n d : Int} (hd : d ≠ 0) : (Rat.divInt n d).den ≤ d.natAbs := by
  rw [Rat.den_divInt, if_neg hd]
  exact Nat.div_le_self _ _

theorem sz_divInt {n d : Int} {b : Nat} (hd : d ≠ 0) (h1 : n.natAbs < 2 ^ b) (h2 : d.natAbs < 2 ^ b) : Sz b (Rat.divInt n d) :=
  ⟨Nat.lt_of_le_of_lt (num_le n d) h1, Nat.lt_of_le_of_lt (den_le hd) h2⟩

/-! ### the operations, as `ratio` is asked for them -/
theorem add_as (p q : Rat) : p + q = Rat.divInt (p.num * q.den + q.num * p.den) (p.den * q.den) := by
  rw [Rat.add_def', ← Int.natCast_mul, Rat.divInt_ofNat]
theorem sub_as (p q : Rat) : p - q = Rat.divInt (p.num * q.den - q.num * p.den) (p.den * q.den) := by
  rw [Rat.sub_def', ← Int.natCast_mul, Rat.divInt_ofNat]
theorem mul_as (p q : Rat) : p * q = Rat.divInt (p.num * q.num) (p.den * q.den) := by
  rw [Rat.mul_def', ← Int.natCast_mul, Rat.divInt_ofNat]
theorem div_as (p q : Rat) : p / q = Rat.divInt (p.num * q.den) (p.den * q.num) := by
  rw [Rat.div_def, Rat.inv_def]
  conv => lhs; lhs; rw [← Rat.num_divInt_den p]
  rw [Rat.divInt_mul_divInt]

theorem mul_lt {x y : Nat} {a b : Nat} (hx : x < 2 ^ a) (hy : y < 2 ^ b) : x * y < 2 ^ (a + b) := by
  rw [Nat.pow_add]
  exact Nat.mul_lt_mul'' hx hy
theorem add_lt {x y c : Nat} (hx : x < 2 ^ c) (hy : y < 2 ^ c) : x + y < 2 ^ (c + 1) := by
  rw [Nat.pow_succ]
  omega
theorem den_ne (p q : Rat) : ((p.den : Int) * q.den) ≠ 0 := by
  have h1 := den_pos p
  have h2 := den_pos q
  rw [← Int.natCast_mul]
  have h3 := Nat.mul_pos h1 h2
  omega
theorem Sz.add {a b : Nat} {p q : Rat} (hp : Sz a p) (hq : Sz b q) : Sz (a + b + 1) (p + q) := by
  rw [add_as]
  refine sz_divInt (den_ne p q) ?_ ?_
  · refine Nat.lt_of_le_of_lt (Int.natAbs_add_le _ _) (add_lt ?_ ?_)
    · rw [Int.natAbs_mul, Int.natAbs_natCast]
      exact mul_lt hp.1 hq.2
    · rw [Int.natAbs_mul, Int.natAbs_natCast, Nat.add_comm a b]
      exact mul_lt hq.1 hp.2
  · rw [Int.natAbs_mul, Int.natAbs_natCast, Int.natAbs_natCast]
    exact Nat.lt_of_lt_of_le (mul_lt hp.2 hq.2) (Nat.pow_le_pow_right (by decide) (by omega))
theorem Sz.sub {a b : Nat} {p q : Rat} (hp : Sz a p) (hq : Sz b q) : Sz (a + b + 1) (p - q) := by
  rw [sub_as]
  refine sz_divInt (den_ne p q) ?_ ?_
  · refine Nat.lt_of_le_of_lt (by rw [Int.sub_eq_add_neg]; exact Int.natAbs_add_le _ _) (add_lt ?_ ?_)
    · rw [Int.natAbs_mul, Int.natAbs_natCast]
      exact mul_lt hp.1 hq.2
    · rw [Int.natAbs_neg, Int.natAbs_mul, Int.natAbs_natCast, Nat.add_comm a b]
      exact mul_lt hq.1 hp.2
  · rw [Int.natAbs_mul, Int.natAbs_natCast, Int.natAbs_natCast]
    exact Nat.lt_of_lt_of_le (mul_lt hp.2 hq.2) (Nat.pow_le_pow_right (by decide) (by omega))
theorem Sz.mul {a b : Nat} {p q : Rat} (hp : Sz a p) (hq : Sz b q) : Sz (a + b) (p * q) := by
  rw [mul_as]
  refine sz_divInt (den_ne p q) ?_ ?_
  · rw [Int.natAbs_mul]
    exact mul_lt hp.1 hq.1
  · rw [Int.natAbs_mul, Int.natAbs_natCast, Int.natAbs_natCast]
    exact mul_lt hp.2 hq.2
theorem num_ne {q : Rat} (h : q ≠ 0) : q.num ≠ 0 := fun e => h (Rat.num_eq_zero.mp e)
theorem div_den_ne {p q : Rat} (h : q ≠ 0) : ((p.den : Int) * q.num) ≠ 0 := Int.mul_ne_zero (by have := den_pos p; omega) (num_ne h)
theorem Sz.div {a b : Nat} {p q : Rat} (hp : Sz a p) (hq : Sz b q) (h : q ≠ 0) : Sz (a + b) (p / q) := by
  rw [div_as]
  refine sz_divInt (div_den_ne h) ?_ ?_
  · rw [Int.natAbs_mul, Int.natAbs_natCast]
    exact mul_lt hp.1 hq.2
  · rw [Int.natAbs_mul, Int.natAbs_natCast]
    exact mul_lt hp.2 hq.1
theorem Sz.neg {a : Nat} {p : Rat} (hp : Sz a p) : Sz a (-p) := by
  refine ⟨?_, ?_⟩
  · rw [Rat.neg_num, Int.natAbs_neg]; exact hp.1
  · rw [Rat.neg_den]; exact hp.2
theorem Sz.int {b : Nat} {n : Int} (h0 : 0 < b) (h : n.natAbs < 2 ^ b) : Sz b (n : Rat) := ⟨h, Nat.lt_of_lt_of_le (show 1 < 2 ^ 1 by decide) (Nat.pow_le_pow_right (by decide) h0)⟩

/-! ### floors, remainders -/
theorem floor_divInt {a b : Int} (hb : 0 < b) : (Rat.divInt a b).floor = a / b := by
  have h1 := Rat.floor_le (Rat.divInt a b)
  have h2 := Rat.lt_floor_add_one (Rat.divInt a b)
  have hq : (0 : Rat) < (b : Rat) := Rat.intCast_pos.mpr hb
  rw [Rat.divInt_eq_div] at h1 h2 ⊢
  generalize ((a : Rat) / (b : Rat)).floor = k at h1 h2
  have e1 : (k : Rat) * b ≤ a := by
    have := Rat.mul_le_mul_of_nonneg_right h1 (Rat.le_of_lt hq)
    rwa [Rat.div_mul_cancel (Rat.ne_of_gt hq)] at this
  have e2 : (a : Rat) < ((k + 1 : Int) : Rat) * b := (Rat.div_lt_iff hq).mp h2
  rw [← Rat.intCast_mul, Rat.intCast_le_intCast] at e1
  rw [← Rat.intCast_mul, Rat.intCast_lt_intCast] at e2
  have e3 : a / b = k := by
    refine Int.le_antisymm ?_ ?_
    · exact Int.le_of_lt_add_one (Int.ediv_lt_of_lt_mul hb e2)
    · exact (Int.le_ediv_iff_mul_le hb).mpr e1
  exact e3.symm
/-- the number in [0, m) that differs from p by a multiple of m -/
def rem (p m : Rat) : Rat := p - m * ((p / m).floor : Rat)
theorem rem_as {p m : Rat} (hm : 0 < m) : rem p m = Rat.divInt ((p.num * m.den) % (m.num * p.den)) (p.den * m.den) := by
  have hn : 0 < m.num := by
    have h := Rat.num_nonneg.mpr (Rat.le_of_lt hm)
    have h2 := num_ne (Rat.ne_of_gt hm)
    omega
  have d1 : (0 : Int) < p.den := by have := den_pos p; omega
  have d2 : (0 : Int) < m.den := by have := den_pos m; omega
  have hb : (0 : Int) < p.den * m.num := Int.mul_pos d1 hn
  unfold rem
  rw [div_as, floor_divInt hb, Int.emod_def, Int.mul_comm m.num (p.den : Int)]
  generalize (p.num * ↑m.den) / (↑p.den * m.num) = k
  have q1 : (p.den : Rat) ≠ 0 := by
    have := Rat.natCast_pos.mpr (den_pos p)
    exact Rat.ne_of_gt this
  have q2 : (m.den : Rat) ≠ 0 := by
    have := Rat.natCast_pos.mpr (den_pos m)
    exact Rat.ne_of_gt this
  have ep : p = (p.num : Rat) / (p.den : Rat) := by
    conv => lhs; rw [← Rat.num_divInt_den p, Rat.divInt_eq_div]
    rfl
  have em : m = (m.num : Rat) / (m.den : Rat) := by
    conv => lhs; rw [← Rat.num_divInt_den m, Rat.divInt_eq_div]
    rfl
  rw [Rat.divInt_eq_div]
  conv => lhs; rw [ep]
  conv => lhs; rhs; rw [em]
  simp only [Rat.intCast_sub, Rat.intCast_mul, Rat.intCast_natCast]
  grind
theorem rem_nonneg {p m : Rat} (hm : 0 < m) : 0 ≤ rem p m := by
  have h := Rat.floor_le (p / m)
  have h2 := Rat.mul_le_mul_of_nonneg_left h (Rat.le_of_lt hm)
  have e : m * (p / m) = p := by rw [Rat.mul_comm, Rat.div_mul_cancel (Rat.ne_of_gt hm)]
  rw [e] at h2
  unfold rem
  grind
theorem rem_lt {p m : Rat} (hm : 0 < m) : rem p m < m := by
  have h := Rat.lt_floor_add_one (p / m)
  have h2 := Rat.mul_lt_mul_of_pos_left h hm
  have e : m * (p / m) = p := by rw [Rat.mul_comm, Rat.div_mul_cancel (Rat.ne_of_gt hm)]
  rw [e, Rat.intCast_add] at h2
  unfold rem
  grind
theorem pos_num {m : Rat} (hm : 0 < m) : 0 < m.num := by
  have h := Rat.num_nonneg.mpr (Rat.le_of_lt hm)
  have h2 := num_ne (Rat.ne_of_gt hm)
  omega
theorem num_pos_iff {m : Rat} : 0 < m.num ↔ 0 < m := by
  refine ⟨fun h => ?_, pos_num⟩
  refine Rat.lt_of_le_of_ne (Rat.num_nonneg.mp (Int.le_of_lt h)) ?_
  intro e
  rw [← e] at h
  exact absurd h (by decide)
theorem num_neg_iff {m : Rat} : m.num < 0 ↔ m < 0 := by
  rw [← Rat.not_le, ← Rat.num_nonneg]
  omega
theorem Sz.rem {a b : Nat} {p m : Rat} (hp : Sz a p) (hq : Sz b m) (h : 0 < m) : Sz (a + b) (rem p m) := by
  have hn := pos_num h
  have d1 : (0 : Int) < p.den := by have := den_pos p; omega
  have hb : (0 : Int) < m.num * p.den := Int.mul_pos hn d1
  rw [rem_as h]
  refine sz_divInt (den_ne p m) ?_ ?_
  · have h1 := Int.emod_nonneg (p.num * m.den) (Int.ne_of_gt hb)
    have h2 := Int.emod_lt_of_pos (p.num * m.den) hb
    have h3 : (m.num * p.den).natAbs < 2 ^ (a + b) := by
      rw [Int.natAbs_mul, Int.natAbs_natCast, Nat.add_comm]
      exact mul_lt hq.1 hp.2
    omega
  · rw [Int.natAbs_mul, Int.natAbs_natCast, Int.natAbs_natCast]
    exact mul_lt hp.2 hq.2
end LR
/-! LOrd: ranks of exact numbers by scaled floors; lists in order. Core Lean alone. -/
namespace LR
/-- the whole part of q * 2 ^ (2 * m) -/
def rank (m : Nat) (q : Rat) : Int := (q.num * 2 ^ (2 * m)) / (q.den : Int)
theorem rank_lt {m : Nat} {p q : Rat} (hp : p.den < 2 ^ m) (hq : q.den < 2 ^ m) (h : p < q) : rank m p < rank m q := by
  unfold rank
  have d1 : (0 : Int) < p.den := by have := den_pos p; omega
  have d2 : (0 : Int) < q.den := by have := den_pos q; omega
  have hl := (Rat.lt_iff p q).mp h
  have hD : (p.den : Int) * q.den ≤ 2 ^ (2 * m) := by
    have e : (2 : Int) ^ (2 * m) = ((2 ^ m * 2 ^ m : Nat) : Int) := by
      rw [← Nat.pow_add, show m + m = 2 * m by omega, Int.natCast_pow]
      rfl
    rw [e, ← Int.natCast_mul]
    exact Int.ofNat_le.mpr (Nat.mul_le_mul (Nat.le_of_lt hp) (Nat.le_of_lt hq))
  generalize (2 : Int) ^ (2 * m) = D at hD
  have hD0 : 0 < D := Int.lt_of_lt_of_le (Int.mul_pos d1 d2) hD
  have hx : p.num * D / p.den * p.den ≤ p.num * D := Int.ediv_mul_le _ (Int.ne_of_gt d1)
  generalize p.num * D / (p.den : Int) = x at hx ⊢
  have key : (x + 1) * q.den ≤ q.num * D := by
    refine Int.le_of_mul_le_mul_right (a := (p.den : Int)) ?_ d1
    have e1 : (x + 1) * q.den * p.den = x * p.den * q.den + p.den * q.den := by
      rw [Int.add_mul, Int.add_mul, Int.one_mul, Int.mul_right_comm, Int.mul_comm (q.den : Int) p.den]
    have e2 : x * p.den * q.den ≤ p.num * D * q.den := Int.mul_le_mul_of_nonneg_right hx (Int.le_of_lt d2)
    have e3 : p.num * q.den + 1 ≤ q.num * p.den := hl
    have e4 : (p.num * q.den + 1) * D ≤ q.num * p.den * D := Int.mul_le_mul_of_nonneg_right e3 (Int.le_of_lt hD0)
    rw [Int.add_mul, Int.one_mul] at e4
    have e5 : p.num * D * q.den = p.num * q.den * D := Int.mul_right_comm _ _ _
    have e6 : q.num * D * p.den = q.num * p.den * D := Int.mul_right_comm _ _ _
    omega
  have := (Int.le_ediv_iff_mul_le d2).mpr key
  omega
theorem rank_inj {m : Nat} {p q : Rat} (hp : p.den < 2 ^ m) (hq : q.den < 2 ^ m) (h : rank m p = rank m q) : p = q := by
  by_cases c : p < q
  · have := rank_lt hp hq c
    omega
  · by_cases d : q < p
    · have := rank_lt hq hp d
      omega
    · exact Rat.le_antisymm (Rat.not_lt.mp d) (Rat.not_lt.mp c)
theorem rank_le {m : Nat} {p q : Rat} (hp : p.den < 2 ^ m) (hq : q.den < 2 ^ m) (h : rank m p ≤ rank m q) : p ≤ q := by
  rw [← Rat.not_lt]
  intro c
  have := rank_lt hq hp c
  omega
theorem rank_abs {m b : Nat} {q : Rat} (h : q.num.natAbs < 2 ^ b) : (q.num * 2 ^ (2 * m)).natAbs < 2 ^ (b + 2 * m) := by
  rw [Int.natAbs_mul, Nat.pow_add, Int.natAbs_pow]
  exact Nat.mul_lt_mul_of_pos_right h (Nat.pow_pos (by decide))
theorem perm_map_inv {α β : Type} {f : α → β} : ∀ {l : List β} {m : List α}, l.Perm (m.map f) → ∃ m' : List α, l = m'.map f ∧ m'.Perm m
  | [], m, h => by
    have : m.map f = [] := (List.nil_perm.mp h)
    exact ⟨[], rfl, by rw [List.map_eq_nil_iff.mp this]⟩
  | x :: l, m, h => by
    have hx : x ∈ m.map f := h.mem_iff.mp List.mem_cons_self
    obtain ⟨a, ha, rfl⟩ := List.mem_map.mp hx
    obtain ⟨s, t, rfl⟩ := List.append_of_mem ha
    have h2 : l.Perm ((s ++ t).map f) := by
      rw [List.map_append, List.map_cons] at h
      have h3 := h.trans List.perm_middle
      rw [List.map_append]
      exact h3.cons_inv
    obtain ⟨m', e, p⟩ := perm_map_inv h2
    exact ⟨a :: m', by rw [List.map_cons, e], (p.cons a).trans List.perm_middle.symm⟩
/-- a list of numbers in order, without duplicates, of the members of another -/
def InOrder (qs rs : List Rat) : Prop := rs.Pairwise (· < ·) ∧ ∀ r, r ∈ rs ↔ r ∈ qs
theorem nodup_one {α β : Type} {f : α → β} : ∀ {l : List α}, (l.map f).Nodup → ∀ x ∈ l, ∀ y ∈ l, f x = f y → x = y
  | [], _, _, h, _, _, _ => by cases h
  | a :: l, hn, x, hx, y, hy, e => by
    obtain ⟨h1, h2⟩ := List.nodup_cons.mp hn
    by_cases ex : x = a
    · by_cases ey : y = a
      · rw [ex, ey]
      · have hy' : y ∈ l := (List.mem_cons.mp hy).resolve_left ey
        exact absurd (List.mem_map.mpr ⟨y, hy', by rw [← e, ex]⟩) h1
    · have hx' : x ∈ l := (List.mem_cons.mp hx).resolve_left ex
      by_cases ey : y = a
      · exact absurd (List.mem_map.mpr ⟨x, hx', by rw [e, ey]⟩) h1
      · exact nodup_one h2 x hx' y ((List.mem_cons.mp hy).resolve_left ey) e
end LR
namespace LR
theorem gcd_step {a b : Int} (hb : 0 ≤ b) (hb0 : b ≠ 0) : Nat.gcd b.natAbs (a % b).natAbs = Nat.gcd a.natAbs b.natAbs := by
  have d := Int.emod_add_mul_ediv a b
  refine Nat.dvd_antisymm (Nat.dvd_gcd ?_ (Nat.gcd_dvd_left _ _)) (Nat.dvd_gcd (Nat.gcd_dvd_right _ _) ?_)
  · have h1 : ((Nat.gcd b.natAbs (a % b).natAbs : Nat) : Int) ∣ b := Int.ofNat_dvd_left.mpr (Nat.gcd_dvd_left _ _)
    have h2 : ((Nat.gcd b.natAbs (a % b).natAbs : Nat) : Int) ∣ a % b := Int.ofNat_dvd_left.mpr (Nat.gcd_dvd_right _ _)
    have h3 := Int.dvd_add h2 (Int.dvd_trans h1 (Int.dvd_mul_right b (a / b)))
    rw [d] at h3
    exact Int.ofNat_dvd_left.mp h3
  · have h1 : ((Nat.gcd a.natAbs b.natAbs : Nat) : Int) ∣ b := Int.ofNat_dvd_left.mpr (Nat.gcd_dvd_right _ _)
    have h2 : ((Nat.gcd a.natAbs b.natAbs : Nat) : Int) ∣ a := Int.ofNat_dvd_left.mpr (Nat.gcd_dvd_left _ _)
    have h3 := Int.dvd_sub h2 (Int.dvd_trans h1 (Int.dvd_mul_right b (a / b)))
    rw [show a - b * (a / b) = a % b by omega] at h3
    exact Int.ofNat_dvd_left.mp h3
end LR
set_option Elab.async false
set_option linter.all false
set_option maxRecDepth 100000
set_option maxHeartbeats 4000000
namespace LR
open PySem PySem.Spec PyProof.Rows L2

/-! ### kinds of values, and numbers among them -/
inductive Kd (K : PySem.W.Frag) (H : Hp) : V → String → Prop
  | non : Kd K H .non "NoneType"
  | bl (b : Bool) : Kd K H (.bl b) "bool"
  | int (i : Int) : Kd K H (.int i) "int"
  | str (x : Str) : Kd K H (.str x) "str"
  | lst {a : Addr} (h : TyX K H (.ref a) (.type "list")) : Kd K H (.ref a) "list"
  | tup {a : Addr} (h : TyX K H (.ref a) (.type "tuple")) : Kd K H (.ref a) "tuple"
  | dict {a : Addr} (h : TyX K H (.ref a) (.type "dict")) : Kd K H (.ref a) "dict"
section
variable {K : PySem.W.Frag} {H H' : Hp} {x : V} {n : String}
theorem Kd.ty (h : Kd K H x n) : TyX K H x (.type n) := by
  cases h with
  | non => exact .base .non
  | bl b => exact .base (.bl b)
  | int i => exact .base (.int i)
  | str z => exact .base (.str z)
  | lst h => exact h
  | tup h => exact h
  | dict h => exact h
def isI : V → Bool | .int _ => true | _ => false
theorem kd_int (h : Kd K H x n) : PySem.W.kitOne K (.type n) (.type "int") = some (n == "int" || n == "bool") := by
  cases h <;> exact kit_ty (by decide +kernel)
theorem kd_bool (h : Kd K H x n) : PySem.W.kitOne K (.type n) (.type "bool") = some (n == "bool") := by
  cases h <;> exact kit_ty (by decide +kernel)
theorem kd_tuple (h : Kd K H x n) : PySem.W.kitOne K (.type n) (.type "tuple") = some (n == "tuple") := by
  cases h <;> exact kit_ty (by decide +kernel)
theorem kd_list (h : Kd K H x n) : PySem.W.kitOne K (.type n) (.type "list") = some (n == "list") := by
  cases h <;> exact kit_ty (by decide +kernel)
theorem kd_dict (h : Kd K H x n) : PySem.W.kitOne K (.type n) (.type "dict") = some (n == "dict") := by
  cases h <;> exact kit_ty (by decide +kernel)
theorem kd_str (h : Kd K H x n) : PySem.W.kitOne K (.type n) (.type "str") = some (n == "str") := by
  cases h <;> exact kit_ty (by decide +kernel)
theorem kd_isI (h : Kd K H x n) : ((n == "int" || n == "bool") && !(n == "bool")) = isI x := by
  cases h <;> rfl

theorem same_ty {x : V} {m : String} (hm : m = "list" ∨ m = "tuple" ∨ m = "dict") {t : Value} (s : Same H H') (h : TyX K H x t) (e : t = .type m) : TyX K H' x t := by
  cases h with
  | base b =>
    cases b with
    | non => exact .base .non
    | bl y => exact .base (.bl y)
    | int i => exact .base (.int i)
    | str y => exact .base (.str y)
    | flt y => exact .base (.flt y)
    | lst ea => exact .base (.lst (s _ _ ea))
    | frz ea => exact .base (.frz (s _ _ ea))
    | tup ea => exact .base (.tup (s _ _ ea))
    | dK ea => exact .base (.dK (s _ _ ea))
    | dT ea => exact .base (.dT (s _ _ ea))
    | ins ea => cases e
  | byt b => exact .byt b
  | set ea => exact .set (s _ _ ea)
  | kList ea c => exact .kList ea c
  | kTuple ea c => exact .kTuple ea c
  | kDict ea c => exact .kDict ea c
  | fTuple ea => exact .fTuple (s _ _ ea)
  | fDict ea => exact .fDict (s _ _ ea)
theorem Kd.same (s : Same H H') (h : Kd K H x n) : Kd K H' x n := by
  cases h with
  | non => exact .non
  | bl b => exact .bl b
  | int i => exact .int i
  | str z => exact .str z
  | lst h => exact .lst (same_ty (m := "list") (.inl rfl) s h rfl)
  | tup h => exact .tup (same_ty (m := "tuple") (.inr (.inl rfl)) s h rfl)
  | dict h => exact .dict (same_ty (m := "dict") (.inr (.inr rfl)) s h rfl)
theorem sqt_ty {a : Addr} {xs : List V} (h : SqT K H a xs) : TyX K H (.ref a) (.type "tuple") := by
  rcases h with (h | ⟨o, h⟩) | ⟨o, its, m, hk, hc, _⟩
  · exact .base (.tup h)
  · exact .fTuple h
  · exact .kTuple hk hc
theorem sql_ty {a : Addr} {xs : List V} (h : SqL K H a xs) : TyX K H (.ref a) (.type "list") := by
  rcases h with (h | ⟨o, h⟩) | ⟨o, its, m, hk, hc, _⟩
  · exact .base (.lst h)
  · exact .base (.frz h)
  · exact .kList hk hc
theorem same_sqt {a : Addr} {xs : List V} (s : Same H H') (h : SqT K H a xs) : SqT K H' a xs := by
  rcases h with (h | ⟨o, h⟩) | h
  · exact .inl (.inl (s _ _ h))
  · exact .inl (.inr ⟨o, s _ _ h⟩)
  · exact .inr h
theorem same_new {p : Addr} {o : HO} (h : H p = none) : Same H (upd H p o) := fun b y e => by
  rw [upd_ne (ne_of_none e h)]
  exact e

/-- the two places of a number's tuple -/
abbrev rt (q : Rat) : List V := [.int q.num, .int (q.den : Int)]
def ratOf : List V → Option Rat
  | [.int a, .int d] => if 1 ≤ d ∧ Nat.gcd a.natAbs d.natAbs = 1 then some (Rat.divInt a d) else none
  | _ => none
theorem ratOf_rt (q : Rat) : ratOf (rt q) = some q := by
  have h1 : (1 : Int) ≤ (q.den : Int) := by have := den_pos q; omega
  have h2 : Nat.gcd q.num.natAbs ((q.den : Int)).natAbs = 1 := q.reduced
  show (if 1 ≤ (q.den : Int) ∧ Nat.gcd q.num.natAbs ((q.den : Int)).natAbs = 1 then some (Rat.divInt q.num q.den) else none) = some q
  rw [if_pos ⟨h1, h2⟩, Rat.num_divInt_den]
theorem ratOf_some {xs : List V} {q : Rat} (h : ratOf xs = some q) : xs = rt q := by
  unfold ratOf at h
  split at h
  · rename_i a d
    split at h
    · rename_i c
      obtain ⟨c1, c2⟩ := c
      have e := Option.some.inj h
      subst e
      have g : d.gcd a = 1 := by
        show Nat.gcd d.natAbs a.natAbs = 1
        rw [Nat.gcd_comm]
        exact c2
      have e1 : (Rat.divInt a d).num = a := by
        rw [Rat.num_divInt, g, Int.sign_eq_one_of_pos (by omega)]
        simp
      have e2 : ((Rat.divInt a d).den : Int) = d := by
        rw [Rat.den_divInt, if_neg (by omega), g]
        simp
        omega
      show [V.int a, V.int d] = [V.int (Rat.divInt a d).num, V.int ((Rat.divInt a d).den : Int)]
      rw [e1, e2]
    · cases h
  · cases h
/-- an argument in the place of a number: some q where it is one -/
inductive Arg (K : PySem.W.Frag) (H : Hp) : V → Option Rat → Prop
  | int (i : Int) : Arg K H (.int i) (some (i : Rat))
  | tup {a : Addr} {xs : List V} {o : Option Rat} (h : SqT K H a xs) (k : xs.length = 2 → ∀ x ∈ xs, ∃ n, Kd K H x n) (e : ratOf xs = o) : Arg K H (.ref a) o
  | oth {x : V} {n : String} (h : Kd K H x n) (h1 : (n == "int") = false) (h2 : (n == "tuple") = false) : Arg K H x none
abbrev Num (K : PySem.W.Frag) (H : Hp) (x : V) (q : Rat) : Prop := Arg K H x (some q)
/-- a result: a tuple of the number's two places -/
def Rn (K : PySem.W.Frag) (H : Hp) (x : V) (q : Rat) : Prop := ∃ a, x = .ref a ∧ SqT K H a (rt q)
theorem Rn.num {q : Rat} (h : Rn K H x q) : Num K H x q := by
  obtain ⟨a, rfl, h⟩ := h
  refine .tup h (fun _ y hy => ?_) (ratOf_rt q)
  rcases List.mem_cons.mp hy with e | hy
  · exact ⟨"int", by rw [e]; exact .int _⟩
  · rcases List.mem_cons.mp hy with e | hy
    · exact ⟨"int", by rw [e]; exact .int _⟩
    · cases hy
theorem Arg.same {o : Option Rat} (s : Same H H') (h : Arg K H x o) : Arg K H' x o := by
  cases h with
  | int i => exact .int i
  | tup h k e => exact .tup (same_sqt s h) (fun l y hy => let ⟨m, z⟩ := k l y hy; ⟨m, z.same s⟩) e
  | oth h h1 h2 => exact .oth (h.same s) h1 h2
theorem Rn.same {q : Rat} (s : Same H H') (h : Rn K H x q) : Rn K H' x q := let ⟨a, e, z⟩ := h; ⟨a, e, same_sqt s z⟩
theorem Num.kinds {q : Rat} (h : Num K H x q) : (x = .int q.num ∧ q.den = 1) ∨ Rn K H x q := by
  cases h with
  | int i => exact .inl ⟨rfl, rfl⟩
  | tup h k e => exact .inr ⟨_, rfl, ratOf_some e ▸ h⟩
theorem Rn.mk {q : Rat} {p : Addr} : Rn K (upd H p (.tup (rt q))) (.ref p) q := ⟨p, rfl, .inl (.inl upd_same)⟩
theorem num_int (i : Int) : Num K H (.int i) (i : Rat) := .int i
end

/-! ### operations on great ints -/
def CDivA (_ j : Int) : Prop := j ≠ 0 ∧ j.natAbs.log2 < 9000
section
variable {X : Cx}
theorem op_fdivA : OpR X (binaryOp .FloorDiv) (rI CDivA fun i j => .int (i.fdiv j)) := opI fun i j _ _ _ _ _ hc q =>
  floordiv_int hc.1 q (.inl (PyProof.noPylong_of_log2 hc.2))
end
theorem divA {i j : Int} {b : Nat} (h : j ≠ 0) (hb : j.natAbs < 2 ^ b) (h0 : 0 < b) (h9 : b ≤ 9000) : CDivA i j := ⟨h, Nat.lt_of_lt_of_le (PySem.Flt.log2_lt_of h0 hb) h9⟩

/-! ### raise X(), no argument -/
section
variable {X : Cx} {C : Addr} {bmB : List Value} {B newId initId : String}
theorem pmk_own0 {x : Str} {p pos : Pos} (F : ExcBaseFacts B newId initId bmB) (q : PySem.W.excIn X.K C bmB newId = true) (gC : X.mg x = some (.ref C)) (kC : PySem.W.keepIn X.K (.ref C) = true) (r : Raises X (.ref C)) (hg : Gl X x)
    (hdb : (x == ("__debug__" : Str)) = false := by decide) : PMk X (.Call (.Name x p) [] [] pos) (fun _ H Q => Q (.ref C) none H) := by
  intro pins s σ H Q I h
  refine wpAny_Call_Name_kw (ld_glob I hg gC ?_ hdb)
  refine PySem.W.callWith_K0 I.kIn kC ?_
  obtain ⟨bm, N, nm, qn, bs, hdct, sn, sub, ab, col, dd, k0, k1, k2, k3, k5, mN, hC, hN, hni, T⟩ := exc_obj I.kIn q
  refine wpAny_call_exc_subT F T hC hN hni (fun h' e hm => ?_) (Nat.zero_le _)
  exact mk_of I hm r h (I.hok.gone hm.new)
end

/-! ### the text: defs and error classes as the top has left them -/
/-- a def of the text (no defaults) under its name -/
structure DefAt (K : PySem.W.Frag) (mg : Str → Option Value) (x : Str) (st : Stmt) (ps : List Str) (f : Addr) (fd : FuncData) : Prop where
  F : Fun K x x st f fd
  g : mg x = some (.ref f)
  b : Binds K fd ps []
/-- an own error class without __init__ over the built-in class whose new is named, bm its line of bases -/
structure ErrAt (K : PySem.W.Frag) (mg : Str → Option Value) (x : Str) (bm : List Value) (newId : String) (C : Addr) : Prop where
  g : mg x = some (.ref C)
  k : PySem.W.keepIn K (.ref C) = true
  q : PySem.W.excIn K C bm newId = true
  b : PySem.W.subIn K (.ref C) (.type "BaseException") = some true
  t : PySem.W.typeIn K (.ref C) = some (.type "type")
theorem ErrAt.mk0 {X : Cx} {x : Str} {bm : List Value} {B newId initId : String} {C : Addr} {p pos : Pos} (T : ErrAt X.K X.mg x bm newId C) (F : ExcBaseFacts B newId initId bm) (hg : Gl X x) (hdb : (x == ("__debug__" : Str)) = false := by decide) :
    PMk X (.Call (.Name x p) [] [] pos) (fun _ H Q => Q (.ref C) none H) := pmk_own0 F T.q T.g T.k (raises_own T.b T.t) hg hdb
end LR
set_option Elab.async false
set_option linter.all false
set_option maxRecDepth 100000
set_option maxHeartbeats 4000000
/-! Sets of trees of ints (tuples of ints and of such tuples): adding one, and what the set holds. -/
namespace NS
open PySem PySem.Spec PyProof.Rows L2

/-! ### keys: whole numbers and tuples of such -/
mutual
def ok : NestedKey → Bool
  | .num _ => true
  | .tup ks => okAll ks
  | .none => false
  | .text _ => false
def okAll : List NestedKey → Bool
  | [] => true
  | k :: ks => ok k && okAll ks
end
section
variable {P : Program} {w : World} {A : Around} {E : Value → Shared → Prop} {s : Shared}
def ClsNo (P : Program) (w : World) (n : Nat) (s : Shared) (v : Value) : Prop := ∀ (A : Around) (E : Value → Shared → Prop) (Q : Bool → Shared → Prop), Q false s → wpAny (model P w) A (ofAClassStatement n v) Q E s
def HasV (P : Program) (w : World) (n : Nat) (s : Shared) (v : Value) : Prop := ∀ (A : Around) (E : Value → Shared → Prop) (Q : Bool → Shared → Prop), Q true s → wpAny (model P w) A (hashByValue n v) Q E s
theorem clsNo_tup {n m : Nat} {a : Addr} {o : Obj} {vs : Array Value} (ho : s.heap.get? a = some o) (hc : o.cls = .type "tuple") (hd : o.data = .seq vs m) (hq : ∀ v ∈ vs.toList, ClsNo P w n s v) : ClsNo P w (n + 1) s (.ref a) := fun A E Q h => by
  have hT : s.TypeIs (.ref a) "tuple" := ⟨o, ho, hc⟩
  unfold ofAClassStatement
  refine wpAny_bind (wpAny_typeOf hT ?_)
  simp only [show (("tuple" : String) == "tuple") = true by decide, if_true, Bool.not_true, Bool.false_eq_true, if_false]
  show wpAny _ _ (seqItems? (.ref a) >>= _) _ _ s
  refine wpAny_bind (wpAny_seqItems ho hd (wpAny_bind ?_))
  show wpAny _ _ (forIn vs _ _) _ _ s
  rw [← Array.forIn_toList]
  refine wpAny_forIn_list _ (fun left r s' => (r.1 = none ∧ s' = s) ∧ ∀ v ∈ left, ClsNo P w n s v) _ (fun v left r s' J => ?_) (fun r s' J => ?_) _ _ ⟨⟨rfl, rfl⟩, hq⟩
  · obtain ⟨⟨hr, e⟩, all⟩ := J
    subst e
    refine wpAny_bind (all v List.mem_cons_self _ _ _ ?_)
    simp only [Bool.false_eq_true, if_false]
    exact wpAny_pure ⟨⟨rfl, rfl⟩, fun u hu => all u (List.mem_cons_of_mem _ hu)⟩
  · obtain ⟨r1, r2⟩ := r
    obtain ⟨⟨hr, e⟩, _⟩ := J
    subst e
    cases hr
    exact wpAny_pure h
theorem hasV_tup {n m : Nat} {a : Addr} {o : Obj} {vs : Array Value} (ho : s.heap.get? a = some o) (hc : o.cls = .type "tuple") (hd : o.data = .seq vs m) (hq : ∀ v ∈ vs.toList, HasV P w n s v) : HasV P w (n + 1) s (.ref a) := fun A E Q h => by
  unfold hashByValue
  refine wpAny_bind (wpAny_specialOf ⟨o, ho, hc⟩ F.slot_tuple_hash.lookup ?_)
  show wpAny _ _ (seqItems? (.ref a) >>= _) _ _ s
  refine wpAny_bind (wpAny_seqItems ho hd (wpAny_bind ?_))
  show wpAny _ _ (forIn vs _ _) _ _ s
  rw [← Array.forIn_toList]
  refine wpAny_forIn_list _ (fun left r s' => (r.1 = none ∧ s' = s) ∧ ∀ v ∈ left, HasV P w n s v) _ (fun v left r s' J => ?_) (fun r s' J => ?_) _ _ ⟨⟨rfl, rfl⟩, hq⟩
  · obtain ⟨⟨hr, e⟩, all⟩ := J
    subst e
    refine wpAny_bind (all v List.mem_cons_self _ _ _ ?_)
    simp only [Bool.not_true, Bool.false_eq_true, if_false]
    exact wpAny_pure ⟨⟨rfl, rfl⟩, fun u hu => all u (List.mem_cons_of_mem _ hu)⟩
  · obtain ⟨r1, r2⟩ := r
    obtain ⟨⟨hr, e⟩, _⟩ := J
    subst e
    cases hr
    exact wpAny_pure h
mutual
theorem clsNo : ∀ (k : NestedKey) (v : Value) (n : Nat) (s : Shared), NestedIs s.heap k v → k.depth ≤ n → ok k = true → ClsNo P w n s v
  | .none, _, _, _, _, _, h => by cases h
  | .text _, _, _, _, _, _, h => by cases h
  | .num i, _, n, s, x, _, _ => fun A E Q h => by
    cases x with
    | int _ t => rw [ofAClass_int]; exact wpAny_pure h
    | bool e => cases n <;> exact wpAny_pure h
  | .tup ks, _, n, s, x, hn, hk => by
    cases x with
    | tup hg hc hd hx =>
      simp only [NestedKey.depth] at hn
      obtain ⟨m, rfl⟩ : ∃ m, n = m + 1 := ⟨n - 1, by omega⟩
      exact clsNo_tup hg hc hd (clsNos ks _ m s hx (by omega) hk)
theorem clsNos : ∀ (ks : List NestedKey) (vs : List Value) (n : Nat) (s : Shared), NestedAll s.heap ks vs → NestedKey.depthAll ks ≤ n → okAll ks = true → ∀ v ∈ vs, ClsNo P w n s v
  | [], _, _, _, x, _, _, v, hv => by cases x; cases hv
  | k :: ks, _, n, s, x, hn, hk, v, hv => by
    cases x with
    | cons x1 x2 =>
      simp only [NestedKey.depthAll] at hn
      rw [okAll, Bool.and_eq_true] at hk
      rcases List.mem_cons.mp hv with e | hv
      · rw [e]
        exact clsNo k _ n s x1 (by omega) hk.1
      · exact clsNos ks _ n s x2 (by omega) hk.2 v hv
end
mutual
theorem hasV : ∀ (k : NestedKey) (v : Value) (n : Nat) (s : Shared), NestedIs s.heap k v → k.depth ≤ n → ok k = true → HasV P w n s v
  | .none, _, _, _, _, _, h => by cases h
  | .text _, _, _, _, _, _, h => by cases h
  | .num i, _, n, s, x, _, _ => fun A E Q h => by
    cases x with
    | int _ t => rw [hashBy_int]; exact wpAny_pure h
    | bool e => cases n <;> exact wpAny_pure h
  | .tup ks, _, n, s, x, hn, hk => by
    cases x with
    | tup hg hc hd hx =>
      simp only [NestedKey.depth] at hn
      obtain ⟨m, rfl⟩ : ∃ m, n = m + 1 := ⟨n - 1, by omega⟩
      exact hasV_tup hg hc hd (hasVs ks _ m s hx (by omega) hk)
theorem hasVs : ∀ (ks : List NestedKey) (vs : List Value) (n : Nat) (s : Shared), NestedAll s.heap ks vs → NestedKey.depthAll ks ≤ n → okAll ks = true → ∀ v ∈ vs, HasV P w n s v
  | [], _, _, _, x, _, _, v, hv => by cases x; cases hv
  | k :: ks, _, n, s, x, hn, hk, v, hv => by
    cases x with
    | cons x1 x2 =>
      simp only [NestedKey.depthAll] at hn
      rw [okAll, Bool.and_eq_true] at hk
      rcases List.mem_cons.mp hv with e | hv
      · rw [e]
        exact hasV k _ n s x1 (by omega) hk.1
      · exact hasVs ks _ n s x2 (by omega) hk.2 v hv
end

/-- the tuple at a is the key k -/
def At (h : Heap) (k : NestedKey) (a : Addr) : Prop := NestedIs h k (.ref a) ∧ k.depth ≤ 8 ∧ ok k = true
theorem At.kind {h : Heap} {k : NestedKey} {a : Addr} (x : At h k a) : (nestedKind P w).is h k a := ⟨x.1, x.2.1⟩
theorem At.keep {h h' : Heap} {k : NestedKey} {a : Addr} (x : At h k a) (kp : ∀ b o vs n, h.get? b = some o → o.data = .seq vs n → h'.get? b = some o) : At h' k a := ⟨x.1.at kp _ _, x.2⟩
theorem At.quiet {k : NestedKey} {a : Addr} (x : At s.heap k a) {Q : Bool → Shared → Prop} (h : Q true s) : wpAny (model P w) A (eqIsQuiet 8 (.ref a)) Q E s := (nestedKind P w).quiet x.kind h
theorem At.cls {k : NestedKey} {a : Addr} (x : At s.heap k a) {Q : Bool → Shared → Prop} (h : Q false s) : wpAny (model P w) A (ofAClassStatement 8 (.ref a)) Q E s := clsNo k _ 8 s x.1 x.2.1 x.2.2 A E Q h
theorem At.byV {k : NestedKey} {a : Addr} (x : At s.heap k a) {Q : Bool → Shared → Prop} (h : Q true s) : wpAny (model P w) A (hashByValue 8 (.ref a)) Q E s := hasV k _ 8 s x.1 x.2.1 x.2.2 A E Q h
theorem At.beside {h h' : Heap} {k : NestedKey} {a b : Addr} {o : Obj} {es : Array (Int × Value)} {ep : Nat} {t : SetTable} (x : At h k b) (ho : h.get? a = some o) (hd : o.data = .set es ep t) (sb : Heap.SameBut a h h') : At h' k b :=
  x.keep fun c u vs n e z => (sb.2 c (fun q => by
    subst q
    have e2 : u = o := Option.some.inj (e.symm.trans ho)
    rw [e2, hd] at z
    cases z)).trans e

/-- nothing of a search among such keys is seen -/
theorem unseen {k : NestedKey} {b : Addr} {Q : Bool → Shared → Prop} (x : At s.heap k b) {ys : List Value} (hy : ∀ y ∈ ys, ∃ k' c, y = Value.ref c ∧ At s.heap k' c) (h : Q false s) : wpAny (model P w) A (searchCouldBeSeen (.ref b) ys) Q E s := by
  unfold searchCouldBeSeen
  refine wpAny_bind (wpAny_forIn_list _ (fun left r s' => (r.1 = none ∧ s' = s) ∧ ∀ y ∈ left, ∃ k' c, y = Value.ref c ∧ At s.heap k' c) _ (fun v left r s' J => ?_) (fun r s' J => ?_) _ _ ⟨⟨rfl, rfl⟩, hy⟩)
  · obtain ⟨⟨hr, e⟩, all⟩ := J
    subst e
    obtain ⟨k', c, rfl, xc⟩ := all v List.mem_cons_self
    have more : ∀ y ∈ left, ∃ k' c, y = Value.ref c ∧ At s'.heap k' c := fun u hu => all u (List.mem_cons_of_mem _ hu)
    dsimp only
    by_cases hv : (b == c || (carriedByValue (.ref b) && carriedByValue (.ref c))) = true
    · exact wp_if_pos hv (wpAny_pure ⟨⟨rfl, rfl⟩, more⟩)
    · refine wp_if_neg hv (wpAny_bind (x.quiet ?_))
      simp only [Bool.not_true, Bool.false_eq_true, if_false]
      refine wpAny_bind (xc.quiet ?_)
      simp only [Bool.not_true, Bool.false_eq_true, if_false]
      refine wpAny_bind (x.cls ?_)
      simp only [Bool.false_eq_true, if_false]
      refine wpAny_bind (xc.cls ?_)
      simp only [Bool.false_eq_true, if_false]
      exact wpAny_pure ⟨⟨rfl, rfl⟩, more⟩
  · obtain ⟨r1, r2⟩ := r
    obtain ⟨⟨hr, e⟩, _⟩ := J
    subst e
    cases hr
    exact wpAny_pure h
end
end NS
set_option Elab.async false
set_option linter.all false
set_option maxRecDepth 100000
set_option maxHeartbeats 4000000
namespace NS
open PySem PySem.Spec PyProof.Rows L2
abbrev Ent := Addr × NestedKey
/-- hash of an entry's key -/
abbrev hk (w : World) (p : Ent) : Int := p.2.hash w
def rows (w : World) (L : List Ent) : List (Int × Value) := L.map fun p => (hk w p, Value.ref p.1)
/-- at a stands a set whose entries are L, in the order of the table -/
structure SetAt (w : World) (h : Heap) (a : Addr) (L : List Ent) (es : Array (Int × Value)) (ep : Nat) (t : SetTable) : Prop where
  obj : ∃ o, h.get? a = some o ∧ o.ExactSet ∧ o.data = .set es ep t
  ent : es.toList = rows w L
  tab : TabOk t (L.map (hk w))
  uniq : (L.map (·.2)).Nodup
  plain : t.plain = true
  led : w.params.followText "set-order" = true ∨ t.led = true
  room : L.length * 5 < t.mask * 3
  few : L.length < 64
section
variable {P : Program} {w : World} {A : Around} {E : Value → Shared → Prop} {s : Shared} {a : Addr} {L : List Ent} {es : Array (Int × Value)} {ep : Nat} {t : SetTable} {h : Heap}
theorem rows_len (e : es.toList = rows w L) : es.size = L.length := by
  rw [← Array.length_toList, e, rows, List.length_map]
theorem rows_at (e : es.toList = rows w L) {i : Nat} {p : Ent} (hp : L[i]? = some p) : es[i]? = some (hk w p, Value.ref p.1) := by
  rw [← Array.getElem?_toList, e, rows, List.getElem?_map, hp]
  all_goals rfl
theorem fits_of (T : TabOk t (L.map (hk w))) (e : es.toList = rows w L) (r : L.length ≤ t.mask) : t.fits es.size = true := by
  have z := T.sz
  rw [List.length_map] at z
  have n := rows_len e
  simp only [SetTable.fits, SetTable.fill, T.dm, Bool.and_eq_true, beq_iff_eq, decide_eq_true_eq]
  refine ⟨z.trans n.symm, ?_⟩
  show t.place.size + 0 ≤ t.mask
  omega
theorem SetAt.fits (R : SetAt w h a L es ep t) : t.fits es.size = true := fits_of R.tab R.ent (by have := R.room; omega)

theorem nodummy (m : Nat) : ∀ (n : Nat) (p : SetTable.Probe), p.dummy = none → (nth m p n).dummy = none
  | 0, _, e => e
  | n + 1, p, e => nodummy m n (adv m p) (by unfold adv; split <;> exact e)
/-- from the c-th stop of the key's way on, the search ends at K, or where the key stands before -/
theorem search (R : SetAt w s.heap a L es ep t) (hL : ∀ p ∈ L, At s.heap p.2 p.1) {x : Addr} {k : NestedKey} (hx : At s.heap k x) (hu : A.units + 8 < cLine) {K : Nat} (hf : K < 10 * SetTable.turns t.mask)
    (free : way t.mask (k.hash w) K ∉ t.place.toList) (taken : ∀ c, c < K → way t.mask (k.hash w) c ∈ t.place.toList) {Q : SetFound → Shared → Prop} (yes : k ∈ L.map (·.2) → Q (.there none) s)
    (no : k ∉ L.map (·.2) → Q (.free (way t.mask (k.hash w) K) false) s) (fuel : Nat) : ∀ (c : Nat) (stand : Option SetTable.Probe),
      stand.getD (t.probeStart (k.hash w)) = nth t.mask (runAt t.mask (SetTable.bits (k.hash w) % (t.mask + 1)) (SetTable.bits (k.hash w))) c → c ≤ K → K < c + fuel →
      (∀ (i : Nat) p, L[i]? = some p → p.2 = k → ∃ d, (c ≤ d ∧ d < K) ∧ t.place.toList[i]? = some (way t.mask (k.hash w) d)) →
      wpAny (model P w) A (setSearchFrom a (.ref x) (k.hash w) true fuel stand) Q E s := by
  induction fuel with
  | zero => intro c _ _ h1 h2; omega
  | succ fuel ih =>
    intro c stand start hcK hlt stay
    obtain ⟨o, ho, hex, hd⟩ := R.obj
    rw [setSearchFrom_succ]
    refine wpAny_bind (wpAny_setState_of ho hd R.fits ?_)
    dsimp only
    refine wp_if_neg (by simp [SetTable.gaveWay, mask_odd R.tab.mok]) ?_
    try refine wpAny_bind (wpAny_pure ?_)
    generalize hr : runAt t.mask (SetTable.bits (k.hash w) % (t.mask + 1)) (SetTable.bits (k.hash w)) = r0 at *
    have wy : ∀ d, way t.mask (k.hash w) d = (nth t.mask r0 d).j := fun d => by rw [← hr]
    have step : ∀ q, nth t.mask (nth t.mask r0 c) q = nth t.mask r0 (c + q) := fun q => (nth_add t.mask c r0 q).symm
    have stepj : ∀ q, (nth t.mask (nth t.mask r0 c) q).j = way t.mask (k.hash w) (c + q) := fun q => by rw [step, wy]
    have nod : (nth t.mask r0 c).dummy = none := by rw [← hr]; exact nodummy t.mask c _ rfl
    have hat : ∀ (i : Nat) p, L[i]? = some p → (fun i => (es[i]?.map (·.1)).getD 0) i = hk w p := fun i p hp => by
      show (es[i]?.map (·.1)).getD 0 = _
      rw [rows_at R.ent hp]
      all_goals rfl
    have spec := go_spec t R.tab.ris R.tab.dm (fun i => (es[i]?.map (·.1)).getD 0) (k.hash w) (10 * SetTable.turns t.mask) (K - c) (nth t.mask r0 c) nod (by omega)
      (fun q hq => by rw [stepj]; exact taken (c + q) (by omega)) (by rw [stepj, Nat.add_sub_cancel' hcK]; exact free)
    rw [start]
    rcases spec with ⟨q, i, hq, hi, hh, before, found⟩ | ⟨before, found⟩
    · -- an entry of the same hash
      rw [stepj] at hi found
      rw [step] at found
      rw [show t.probe (fun i => (es[i]?.map (·.1)).getD 0) (k.hash w) (nth t.mask r0 c) = some (.candidate (way t.mask (k.hash w) (c + q)) i (nth t.mask r0 (c + (q + 1)))) from found]
      dsimp only
      have il : i < L.length := by
        have z := R.tab.sz
        have y := (List.getElem?_eq_some_iff.mp hi).1
        rw [List.length_map] at z
        rw [Array.length_toList] at y
        omega
      obtain ⟨p, hp⟩ : ∃ p, L[i]? = some p := ⟨_, List.getElem?_eq_getElem il⟩
      have pm : p ∈ L := List.mem_of_getElem? hp
      have live := slot_live R.tab.ris hi
      have rest : wpAny (model P w) A (searchRest a (.ref x) (k.hash w) true fuel es t (way t.mask (k.hash w) (c + q)) i (nth t.mask r0 (c + (q + 1)))) Q E s := by
        unfold searchRest
        rw [rows_at R.ent hp]
        dsimp only
        refine wpAny_bind (wpAny_holding ((nestedKind P w).eqBool hu (hL p pm).kind hx.kind ?_))
        refine wpAny_bind (wpAny_setState_of ho hd R.fits ?_)
        dsimp only
        by_cases same : p.2 = k
        · refine wp_if_pos (by simp [same]) (wpAny_pure (yes (List.mem_map.mpr ⟨p, pm, same⟩)))
        · refine wp_if_neg (by simp [same]) ?_
          try refine wpAny_bind (wpAny_pure ?_)
          rw [sameMem]
          dsimp only
          simp only [if_true, live, rows_at R.ent hp]
          refine wpAny_bind (wpAny_isSame_ref_self (wpAny_bind (wpAny_pure ?_)))
          simp only [if_true]
          refine wp_if_neg (by simp [same]) ?_
          refine ih (c + (q + 1)) _ rfl (by omega) (by omega) fun j u hj hu' => ?_
          obtain ⟨d, ⟨d1, d2⟩, d3⟩ := stay j u hj hu'
          refine ⟨d, ⟨?_, d2⟩, d3⟩
          -- it was not passed: neither ahead of this entry, nor is it this one
          have ne : ¬ d < c + q := fun z => by
            refine before (d - c) j (by omega) (by rw [stepj, Nat.add_sub_cancel' d1]; exact d3) ?_
            exact (hat j u hj).trans (by rw [hk, hu'])
          have ne2 : d ≠ c + q := fun z => by
            rw [z] at d3
            have two := (slot_live R.tab.ris d3).symm.trans live
            injection two with two
            subst two
            rw [hp] at hj
            cases hj
            exact same hu'
          omega
      by_cases ld : t.led = true
      · refine wp_if_neg (by simp [ld]) ?_
        try refine wpAny_bind (wpAny_pure ?_)
        exact rest
      · refine wp_if_pos (by simp [ld]) (wpAny_bind (unseen hx (fun y hy => ?_) ?_))
        · obtain ⟨e, he, rfl⟩ := List.mem_map.mp hy
          have he2 : e ∈ es.toList := by
            have z : e ∈ es ∧ e.1 = k.hash w := by simpa using he
            simpa using z.1
          rw [R.ent] at he2
          obtain ⟨p2, hp2, rfl⟩ := List.mem_map.mp he2
          exact ⟨_, _, rfl, hL p2 hp2⟩
        · refine wp_if_neg (by decide) ?_
          try refine wpAny_bind (wpAny_pure ?_)
          exact rest
    · -- the empty slot
      rw [stepj, Nat.add_sub_cancel' hcK] at found
      rw [show t.probe (fun i => (es[i]?.map (·.1)).getD 0) (k.hash w) (nth t.mask r0 c) = some (.empty (way t.mask (k.hash w) K) none) from found]
      dsimp only
      refine wpAny_pure (no fun m => ?_)
      obtain ⟨u, hu', e⟩ := List.mem_map.mp m
      obtain ⟨j, hj⟩ := List.mem_iff_getElem?.mp hu'
      obtain ⟨d, ⟨d1, d2⟩, d3⟩ := stay j u hj e
      refine before (d - c) j (by omega) (by rw [stepj, Nat.add_sub_cancel' d1]; exact d3) ?_
      exact (hat j u hj).trans (by rw [hk, e])
/-- the search that adding makes -/
theorem search_top (R : SetAt w s.heap a L es ep t) (hL : ∀ p ∈ L, At s.heap p.2 p.1) {x : Addr} {k : NestedKey} (hx : At s.heap k x) (hu : A.units + 8 < cLine) {Q : SetFound → Shared → Prop} (yes : k ∈ L.map (·.2) → Q (.there none) s)
    (no : ∀ K, k ∉ L.map (·.2) → way t.mask (k.hash w) K ∉ t.place.toList → (∀ c, c < K → way t.mask (k.hash w) c ∈ t.place.toList) → Q (.free (way t.mask (k.hash w) K) false) s) :
    wpAny (model P w) A (setSearch a (.ref x) (k.hash w) true) Q E s := by
  have rm := R.room
  obtain ⟨K, h1, h2, h3⟩ := R.tab.first (by rw [List.length_map]; omega) (k.hash w)
  have small : K < 100000 := by
    have z : 10 * SetTable.turns t.mask ≤ 1420 := by
      unfold SetTable.turns
      rcases R.tab.mok with e | e | e <;> omega
    omega
  refine search R hL hx hu h1 h2 h3 yes (fun m => no K m h2 h3) 100000 0 none rfl (Nat.zero_le _) (by omega) fun i p hp e => ?_
  have hi : (L.map (hk w))[i]? = some (k.hash w) := by
    rw [List.getElem?_map, hp, ← e]
    all_goals rfl
  have il : i < t.place.toList.length := by
    have z := R.tab.sz
    have y := (List.getElem?_eq_some_iff.mp hp).1
    rw [List.length_map] at z
    rw [Array.length_toList]
    omega
  obtain ⟨d, d1, d2⟩ := R.tab.before h2 hi (List.getElem?_eq_getElem il)
  exact ⟨d, ⟨Nat.zero_le _, d1⟩, by rw [List.getElem?_eq_getElem il, d2]⟩

/-! ### the table laid anew, and adding -/
theorem rows_ins (p : Nat) (e : Ent) : rows w (L.take p ++ e :: L.drop p) = (rows w L).take p ++ (hk w e, Value.ref e.1) :: (rows w L).drop p := by
  simp only [rows, List.map_append, List.map_cons, List.map_take, List.map_drop]
theorem pick_all {α : Type} (l : List α) : (List.range l.length).filterMap (fun i => l[i]?) = l := by
  have key : ∀ n, n ≤ l.length → (List.range n).filterMap (fun i => l[i]?) = l.take n := by
    intro n
    induction n with
    | zero => intro _; rfl
    | succ n ih =>
      intro hn
      rw [List.range_succ, List.filterMap_append, ih (by omega), List.take_succ, List.getElem?_eq_getElem (show n < l.length by omega)]
      rw [List.filterMap_cons_some (List.getElem?_eq_getElem (show n < l.length by omega))]
      all_goals rfl
  rw [key _ (Nat.le_refl _), List.take_length]
/-- the entries in a new order -/
theorem rows_order (order : Array Nat) (e : es.toList = rows w L) (hp : order.toList.Perm (List.range L.length)) :
    ∃ L', (order.filterMap (es[·]?)).toList = rows w L' ∧ L'.Perm L ∧ L'.map (hk w) = order.toList.map fun i => (es.map (·.1)).getD i 0 := by
  have key : ∀ l : List Nat, (∀ i ∈ l, i < L.length) → l.filterMap (fun i => es[i]?) = rows w (l.filterMap fun i => L[i]?) ∧ (l.filterMap fun i => L[i]?).map (hk w) = l.map fun i => (es.map (·.1)).getD i 0 := by
    intro l
    induction l with
    | nil => intro _; exact ⟨rfl, rfl⟩
    | cons i l ih =>
      intro hl
      have il := hl i List.mem_cons_self
      obtain ⟨e1, e2⟩ := ih fun j hj => hl j (List.mem_cons_of_mem _ hj)
      have at1 := List.getElem?_eq_getElem il
      have at2 := rows_at e at1
      have at3 : (es.map (·.1)).getD i 0 = hk w L[i] := by
        have z : (es.map (·.1))[i]? = some (hk w L[i]) := by
          rw [Array.getElem?_map, at2]
          all_goals rfl
        simp [Array.getD_eq_getD_getElem?, z]
      rw [List.filterMap_cons_some at2, List.filterMap_cons_some at1, e1, List.map_cons, e2, List.map_cons, at3]
      exact ⟨rfl, rfl⟩
  obtain ⟨e1, e2⟩ := key order.toList fun i hi => List.mem_range.mp (hp.mem_iff.mp hi)
  refine ⟨_, ?_, ?_, e2⟩
  · rw [← e1]
    simp
  · have z : (order.toList.filterMap fun i => L[i]?).Perm ((List.range L.length).filterMap fun i => L[i]?) := hp.filterMap _
    rw [pick_all] at z
    exact z
/-- laid anew, larger -/
theorem relay {o : Obj} (ho : s.heap.get? a = some o) (hex : o.ExactSet) (hd : o.data = .set es ep t) (e : es.toList = rows w L) (T : TabOk t (L.map (hk w))) (le : L.length ≤ t.mask) (nd : (L.map (·.2)).Nodup) (pl : t.plain = true)
    (ld : w.params.followText "set-order" = true ∨ t.led = true) (few : L.length < 64) {wanted M : Nat} (hw : SetTable.sizeAbove wanted - 1 = M) (hM : MaskOk M) (hw2 : SetTable.sizeAbove wanted ≤ 128) (hn : L.length * 5 < M * 3) {Q : Unit → Shared → Prop}
    (hQ : ∀ h' L' es' ep' t', Heap.SameBut a s.heap h' → SetAt w h' a L' es' ep' t' → L'.Perm L → Q () { s with heap := h' }) : wpAny (model P w) A (setRelay a wanted) Q E s := by
  have n := rows_len e
  obtain ⟨t', order, e1, hp, T', em, el, epl, _⟩ := relaid_ok t (hs := es.map (·.1)) (wanted := wanted) hw hM (by rw [Array.size_map, n]; omega)
  rw [Array.size_map, n] at hp
  obtain ⟨L', r1, r2, r3⟩ := rows_order order e hp
  rw [← r3] at T'
  have n2 : (order.filterMap (es[·]?)).size = es.size := by rw [rows_len r1, r2.length_eq, n]
  rw [setRelay_eq]
  refine wpAny_bind (wpAny_setState_of ho hd (fits_of T e le) ?_)
  dsimp only
  refine wp_if_neg (by rw [sizeLine_eq]; omega) ?_
  try refine wpAny_bind (wpAny_pure ?_)
  rw [e1]
  dsimp only
  refine wpAny_bind (wp_if_neg (by rw [n2]; simp) ?_)
  try refine wpAny_bind (wpAny_pure ?_)
  refine wpAny_pure ?_
  dsimp only
  refine wpAny_storeSet_of ho hd ?_ (by rw [n2, n, sizeLine_eq]; omega)
  exact hQ _ L' _ (ep + 1) t' (Heap.SameBut.update ..) ⟨⟨_, store_at ho hd, ⟨hex.1, hex.2.1, hex.2.2⟩, rfl⟩, r1, T', (r2.map (·.2)).nodup_iff.mpr nd, by rw [epl]; exact pl, by rw [el]; exact ld, by rw [r2.length_eq, em]; exact hn, by rw [r2.length_eq]; exact few⟩ r2
/-- a tree is added: the set has it once -/
theorem add (R : SetAt w s.heap a L es ep t) (hL : ∀ p ∈ L, At s.heap p.2 p.1) {x : Addr} {k : NestedKey} (hx : At s.heap k x) (hu : A.units + 8 < cLine) (hfew : L.length + 1 < 64) {Q : Bool → Shared → Prop}
    (hQ : ∀ b h' L' es' ep' t', Heap.SameBut a s.heap h' → SetAt w h' a L' es' ep' t' → (k ∈ L.map (·.2) → L' = L) → (k ∉ L.map (·.2) → L'.Perm ((x, k) :: L)) → Q b { s with heap := h' }) :
    wpAny (model P w) A (setAddHashed a (.ref x) (k.hash w)) Q E s := by
  obtain ⟨o, ho, hex, hd⟩ := R.obj
  have n := rows_len R.ent
  have rm := R.room
  unfold setAddHashed
  refine wpAny_holding ?_
  rw [show (100000 : Nat) = 99999 + 1 from rfl, setAddHashedIn_succ]
  refine wpAny_bind (wpAny_setState_of ho hd R.fits ?_)
  dsimp only
  refine wp_if_neg (by simp [byScan, Value.scannable]) ?_
  try refine wpAny_bind (wpAny_pure ?_)
  refine wpAny_bind (search_top R hL hx hu (fun m => ?_) fun K m free taken => ?_)
  · dsimp only
    exact wpAny_pure (hQ false s.heap L es ep t (Heap.SameBut.refl a s.heap) R (fun _ => rfl) fun z => absurd m z)
  · dsimp only
    refine wpAny_bind (wpAny_setState_of ho hd R.fits ?_)
    dsimp only
    obtain ⟨q1, q2, q3, q4, q5, q6, q7, q8, q9⟩ := R.tab.put free taken
    have pl1 : (t.put (way t.mask (k.hash w) K)).1.plain = true := by rw [q6]; exact R.plain
    generalize (t.put (way t.mask (k.hash w) K)) = pt at q1 q3 q4 q5 q6 q7 q8 q9 pl1 ⊢
    obtain ⟨t1, p⟩ := pt
    dsimp only at q1 q3 q4 q5 q6 q7 q8 q9 pl1 ⊢
    subst q1
    first
      | (refine wpAny_bind (wp_if_pos pl1 (hx.byV ?_)))
      | refine wp_if_pos pl1 (wpAny_bind (hx.byV ?_))
    simp only [if_true]
    have i1 : (SetTable.insertAt es (SetTable.below t.place (way t.mask (k.hash w) K)) (k.hash w, Value.ref x)).toList = rows w (L.take (SetTable.below t.place (way t.mask (k.hash w) K)) ++ (x, k) :: L.drop (SetTable.below t.place (way t.mask (k.hash w) K))) := by
      rw [SetTable.toList_insertAt, rows_ins, R.ent]
    generalize SetTable.below t.place (way t.mask (k.hash w) K) = b at q2 q3 i1 ⊢
    have pm := put_perm L b (x, k)
    have len := pm.length_eq
    rw [List.length_cons] at len
    have T1 : TabOk t1 ((L.take b ++ (x, k) :: L.drop b).map (hk w)) := by
      rw [List.map_append, List.map_cons, List.map_take, List.map_drop]
      exact q3
    have nd1 : ((L.take b ++ (x, k) :: L.drop b).map (·.2)).Nodup := (pm.map (·.2)).nodup_iff.mpr (List.nodup_cons.mpr ⟨m, R.uniq⟩)
    have n1 := (rows_len i1).trans len
    generalize SetTable.insertAt es b (k.hash w, Value.ref x) = es1 at i1 n1 ⊢
    generalize L.take b ++ (x, k) :: L.drop b = L1 at pm len T1 nd1 i1
    have ld1 : w.params.followText "set-order" = true ∨ t1.led = true := by rw [q5]; exact R.led
    refine wpAny_bind (wpAny_storeSet_of ho hd ?_ (by rw [n1, sizeLine_eq]; omega))
    have sb : Heap.SameBut a s.heap (s.heap.update a (Obj.putSet es1 t1)) := Heap.SameBut.update ..
    have ho1 := store_at (es' := es1) (t' := t1) ho hd
    generalize s.heap.update a (Obj.putSet es1 t1) = h1 at sb ho1 ⊢
    have mk : t1.mask = t.mask := q4
    by_cases full : t1.tooFull = true
    · have bound : (L.length + 1) * 5 ≥ t1.mask * 3 := by
        have z := full
        simp only [SetTable.tooFull, decide_eq_true_eq, q9, List.length_map] at z
        exact z
      have two : (t.mask = 7 ∧ L.length = 4) ∨ (t.mask = 31 ∧ L.length = 18) := by
        rcases R.tab.mok with z | z | z
        · exact .inl ⟨z, by omega⟩
        · exact .inr ⟨z, by omega⟩
        · omega
      have go : ∀ M, SetTable.sizeAbove (SetTable.grown (L.length + 1)) - 1 = M → MaskOk M → SetTable.sizeAbove (SetTable.grown (L.length + 1)) ≤ 128 → (L.length + 1) * 5 < M * 3 →
          wpAny (model P w) A (setRelay a (SetTable.grown (L.length + 1))) (fun _ s' => wpAny (model P w) A (pure true) Q E s') E { s with heap := h1 } := fun M z1 z2 z3 z4 =>
        relay (s := { s with heap := h1 }) ho1 ⟨hex.1, hex.2.1, hex.2.2⟩ rfl i1 T1 (by rw [mk]; omega) nd1 pl1 ld1 (by omega) z1 z2 z3 (by omega) fun h2 L2 es2 ep2 t2 sb2 R2 pm2 =>
          wpAny_pure (hQ true h2 L2 es2 ep2 t2 (sb.trans sb2) R2 (fun z => absurd z m) fun _ => pm2.trans pm)
      rw [n]
      first
        | refine wpAny_bind (wp_if_pos (by simp [full]) ?_)
        | refine wp_if_pos (by simp [full]) (wpAny_bind ?_)
      rcases two with ⟨_, z⟩ | ⟨_, z⟩
      · exact go 31 (by rw [z, size_20]) (.inr (.inl rfl)) (by rw [z, size_20]; decide) (by omega)
      · exact go 127 (by rw [z, size_76]) (.inr (.inr rfl)) (by rw [z, size_76]; decide) (by omega)
    · have bound : ¬ (L.length + 1) * 5 ≥ t1.mask * 3 := fun z => full (by
        simp only [SetTable.tooFull, decide_eq_true_eq, q9, List.length_map]
        exact z)
      first
        | refine wp_if_neg (by simp [full]) ?_
        | refine wpAny_bind (wp_if_neg (by simp [full]) (wpAny_pure ?_))
      exact wpAny_pure (hQ true h1 L1 es1 (ep + 1) t1 sb ⟨⟨_, ho1, ⟨hex.1, hex.2.1, hex.2.2⟩, rfl⟩, i1, T1, nd1, pl1, ld1, by omega, by omega⟩ (fun z => absurd z m) fun _ => pm)
end
end NS
set_option Elab.async false
set_option linter.all false
set_option maxRecDepth 100000
set_option maxHeartbeats 4000000
namespace NS
open PySem PySem.Spec PyProof.Rows L2

/-! ### keys in the layer -/
mutual
inductive KeyV (K : PySem.W.Frag) (H : Hp) : V → NestedKey → Prop
  | int (i : Int) : KeyV K H (.int i) (.num i)
  | tup {a : Addr} {xs : List V} {ks : List NestedKey} (h : SqT K H a xs) (r : KeyVs K H xs ks) : KeyV K H (.ref a) (.tup ks)
inductive KeyVs (K : PySem.W.Frag) (H : Hp) : List V → List NestedKey → Prop
  | nil : KeyVs K H [] []
  | cons {x : V} {k : NestedKey} {xs : List V} {ks : List NestedKey} (h : KeyV K H x k) (r : KeyVs K H xs ks) : KeyVs K H (x :: xs) (k :: ks)
end
/-- at a stands the key k (not too deep) -/
def Key (K : PySem.W.Frag) (H : Hp) (a : Addr) (k : NestedKey) : Prop := KeyV K H (.ref a) k ∧ k.depth ≤ 8
section
variable {X : Cx} {pins : List (Addr × Obj)} {σ : L2.St} {H : Hp} {s : Shared}
mutual
theorem key_is (I : Inv X pins σ H s) : ∀ (k : NestedKey) (v : V) (u : Value), KeyV X.K H v k → RelV v u → NestedIs s.heap k u ∧ ok k = true
  | .num i, _, u, x, r => by
    cases x
    obtain ⟨t, rfl⟩ := r
    exact ⟨.int i t, rfl⟩
  | .tup ks, _, u, x, r => by
    cases x with
    | @tup a xs _ h q =>
      cases (show u = Value.ref a from r)
      obtain ⟨its, rv, ⟨o, ho, hc, n, hd⟩, _⟩ := I.tuple h
      obtain ⟨e1, e2⟩ := keys_is I ks xs its q rv
      exact ⟨.tup ho hc hd (by simpa using e1), e2⟩
  | .none, _, _, x, _ => nomatch x
  | .text _, _, _, x, _ => nomatch x
theorem keys_is (I : Inv X pins σ H s) : ∀ (ks : List NestedKey) (vs : List V) (us : List Value), KeyVs X.K H vs ks → Vals vs us → NestedAll s.heap ks us ∧ okAll ks = true
  | [], _, us, x, r => by
    cases x
    cases r
    exact ⟨.nil, rfl⟩
  | k :: ks, _, us, x, r => by
    cases x with
    | cons h q =>
      cases r with
      | cons rh rq =>
        obtain ⟨a1, a2⟩ := key_is I k _ _ h rh
        obtain ⟨b1, b2⟩ := keys_is I ks _ _ q rq
        exact ⟨.cons a1 b1, by rw [okAll, a2, b2]; rfl⟩
end
theorem Key.at (I : Inv X pins σ H s) {a : Addr} {k : NestedKey} (x : Key X.K H a k) : At s.heap k a := by
  obtain ⟨e1, e2⟩ := key_is I k _ _ x.1 rfl
  exact ⟨e1, x.2, e2⟩
end
mutual
theorem KeyV.same {K : PySem.W.Frag} {H H' : Hp} (s : Same H H') : ∀ (k : NestedKey) (v : V), KeyV K H v k → KeyV K H' v k
  | .num i, _, x => by cases x; exact .int i
  | .tup ks, _, x => by
    cases x with
    | tup h q =>
      refine .tup ?_ (KeyVs.same s ks _ q)
      rcases h with (h | ⟨o, h⟩) | h
      · exact .inl (.inl (s _ _ h))
      · exact .inl (.inr ⟨o, s _ _ h⟩)
      · exact .inr h
  | .none, _, x => nomatch x
  | .text _, _, x => nomatch x
theorem KeyVs.same {K : PySem.W.Frag} {H H' : Hp} (s : Same H H') : ∀ (ks : List NestedKey) (vs : List V), KeyVs K H vs ks → KeyVs K H' vs ks
  | [], _, x => by cases x; exact .nil
  | k :: ks, _, x => by
    cases x with
    | cons h q => exact .cons (KeyV.same s k _ h) (KeyVs.same s ks _ q)
end
theorem Key.same {K : PySem.W.Frag} {H H' : Hp} (s : Same H H') {a : Addr} {k : NestedKey} (x : Key K H a k) : Key K H' a k := ⟨KeyV.same s k _ x.1, x.2⟩

/-! ### the set as a tracked thing -/
/-- at a: the set of L -/
def SetO (w : World) (a : Addr) (L : List Ent) : HO := .ext fun h => ∃ es ep t, SetAt w h a L es ep t
theorem SetAt.move {w : World} {h h' : Heap} {a : Addr} {L : List Ent} {es : Array (Int × Value)} {ep : Nat} {t : SetTable} (R : SetAt w h a L es ep t) (k : ∀ o, h.get? a = some o → h'.get? a = some o) : SetAt w h' a L es ep t :=
  ⟨let ⟨o, ho, r⟩ := R.obj; ⟨o, k o ho, r⟩, R.ent, R.tab, R.uniq, R.plain, R.led, R.room, R.few⟩
theorem setO_ok {P : Program} {w : World} {H : Hp} {h : Heap} {a : Addr} {L : List Ent} {es : Array (Int × Value)} {ep : Nat} {t : SetTable} (R : SetAt w h a L es ep t) : ObjOk P w H h a (SetO w a L) := by
  obtain ⟨o, ho, _⟩ := R.obj
  exact ⟨⟨es, ep, t, R⟩, ⟨o, ho⟩, fun h1 h2 ⟨es, ep, t, p⟩ k => ⟨es, ep, t, p.move k⟩⟩
theorem setAt_new {h : Heap} {a : Addr} {w : World} (ho : h.get? a = some { cls := .type "set", dict := none, data := .set #[] 0 (.fresh 0 0 (!w.params.followText "set-order")) }) : SetAt w h a [] #[] 0 (.fresh 0 0 (!w.params.followText "set-order")) where
  obj := ⟨_, ho, ⟨rfl, rfl, rfl⟩, rfl⟩
  ent := rfl
  tab := ⟨List.Pairwise.nil, rfl, rfl, .inl rfl, fun x hx => (by cases hx), fun i h j hi => (by simp at hi)⟩
  uniq := List.nodup_nil
  plain := rfl
  led := by
    show w.params.followText "set-order" = true ∨ (!w.params.followText "set-order") = true
    cases w.params.followText "set-order" <;> simp
  room := show 0 * 5 < 7 * 3 by decide
  few := show 0 < 64 by decide
section
variable {X : Cx} {pins : List (Addr × Obj)} {σ : L2.St} {H : Hp} {s : Shared}
/-- D.add(x), x a key -/
theorem add_call {E : Value → Shared → Prop} {D x : Addr} {k : NestedKey} {L : List Ent} {Q : Value → Shared → Prop} (I : Inv X pins σ H s) (hD : H D = some (SetO X.w D L)) (hx : Key X.K H x k) (hL : ∀ p ∈ L, Key X.K H p.1 p.2) (few : L.length + 1 < 64) (hu : X.A.units + 64 < cLine)
    (h : ∀ s' L', Inv X pins σ (upd H D (SetO X.w D L')) s' → (k ∈ L.map (·.2) → L' = L) → (k ∉ L.map (·.2) → L'.Perm ((x, k) :: L)) → Q .none s') : wpAny (model X.prog X.w) X.A (call (.builtin "set.add") [.ref D, .ref x]) Q E s := by
  obtain ⟨⟨es, ep, t, R⟩, _⟩ : ObjOk X.prog X.w H s.heap D (SetO X.w D L) := I.hok D _ hD
  obtain ⟨o, ho, hex, hd⟩ := R.obj
  refine wpAny_call_entry F.slot_set_add ⟨o, ho, hex.1⟩ F.entry_set_add ?_ (F.args_set_add_2 _ _)
  unfold Builtin.«set.add» Builtin.Frozenset.oneOther
  simp only [List.isEmpty_nil, bind_assoc]
  unfold Builtin.Frozenset.addrOf setAdd
  refine wpAny_bind (wpAny_pure ?_)
  try dsimp only
  refine wpAny_bind (wpAny_pure ?_)
  try dsimp only
  refine wpAny_bind (wpAny_holding (wpAny_bind ((nestedKind X.prog X.w).pyHash (k := k) (by show X.A.in1.units + 8 < cLine; rw [Around.in1_units]; omega) (hx.at I).kind ?_)))
  refine add (s := { s with toks := s.toks + k.draws }) R (fun p hp => (hL p hp).at I) (hx.at I) (by rw [Around.in1_units]; omega) few fun b h' L' es' ep' t' sb R' c1 c2 => ?_
  show wpAny _ _ (ret Value.none) _ _ _
  refine wpAny_pure ⟨_, rfl, h _ L' (I.write (e := D) (t' := s.toks + k.draws) (by rw [hD]; trivial) (.inl rfl) (fun b u hb hu' => (sb.2 b hb).trans hu') (let ⟨o, z, _⟩ := R'.obj; ⟨o, z⟩) (setO_ok R')) c1 c2⟩
end

/-! ### {elt for target in iter}, the elements keys -/
/-- what one turn adds -/
def Adds (w : World) (K : PySem.W.Frag) (D : Addr) (y : V) (H : Hp) (N : Hp → Prop) : Prop := ∃ (x : Addr) (k : NestedKey) (L : List Ent), y = .ref x ∧ H D = some (SetO w D L) ∧ Key K H x k ∧ (∀ p ∈ L, Key K H p.1 p.2) ∧ L.length + 1 < 64 ∧
  ∀ L', (k ∈ L.map (·.2) → L' = L) → (k ∉ L.map (·.2) → L'.Perm ((x, k) :: L)) → N (upd H D (SetO w D L'))
def tSk (w : World) (K : PySem.W.Frag) (wi : TI) (g : TG) (te : TE) (vs : List Nat) : TE := fun σ H Q => wi σ H fun J H1 => ∀ D, H1 D = none → ∃ W : Nat → Nat → Hp → Prop, (∃ m, W 0 m (upd H1 D (SetO w D []))) ∧ ∀ i m H, W i m H →
  (J.stop i H ∧ Q (.ref D) H) ∨ (J.go i H ∧ ∃ Nx : Hp → Prop, (∀ H', Nx H' → ∃ m', m' < m ∧ W (i + 1) m' H') ∧ ∀ x H', J.yld i H x H' → g x (wipe σ vs) H' fun σ2 H2 => wipe σ2 vs = wipe σ vs ∧ te σ2 H2 fun y H4 => Adds w K D y H4 Nx)
section
variable {X : Cx}
theorem pe_sk {elt tg iter : Expr} {scope : Scope} {own : List (PySem.Str × Nat)} {pos : Pos} {wi : TI} {g : TG} {te : TE} (hc : X.calm = true) (hu : X.A.units + 64 < cLine) (hN : X.N.Nodup) (hi : PI X tg iter wi) (ok : BlkOk X.N X.env.scope scope own)
    (hg : ∀ (s : Shared) (H : Hp) (C : Addr) (cl : List (PySem.Str × Addr)) (fp : List Addr), PG (X.blk s H scope (compEnvC scope cl C X.env) fp) tg g)
    (he : ∀ (s : Shared) (H : Hp) (C : Addr) (cl : List (PySem.Str × Addr)) (fp : List Addr), PE (X.blk s H scope (compEnvC scope cl C X.env) fp) elt te) (hs : ∀ x, foldedSetIterable iter X.env x = pure x := by intro _; rfl) :
    PE X (.SetComp elt [⟨tg, iter, [], 0⟩] scope pos) (tSk X.w X.K wi g te (own.map (·.2))) := by
  refine ⟨fun pins s σ H Q I h => ?_⟩
  rw [PpSet.eval_SetComp]
  have cells : ∀ y ∈ scope.names, y.2 = .free → ∃ c, X.env.cells.lookup y.1 = some c := fun y hy e => by
    rcases ok.free y hy e with z | z
    · exact I.ok.has _ (.inl z)
    · exact I.ok.has _ (.inr z)
  refine wpAny_comprehension_free rfl hs (closure_ok cells) ok.kind (fun y hy e => by rw [ok.uniq y hy, e]) (thn (hi.run pins s σ H _ I h) fun xv s1 hx => thn hx fun itv s2 z2 => ?_)
  obtain ⟨it, fp, tn, J, H2, rfl, I2, T, st2, f2, q⟩ := z2
  refine PpSet.newSet_ok (newEnv_comp ?_)
  generalize eD : s2.heap.objs.size = D
  have hDn : H2 D = none := I2.hok.fresh (Nat.le_of_eq eD)
  obtain ⟨W, ⟨m0, w0⟩, turn⟩ := q D hDn
  generalize e3 : ({ s2 with heap := s2.heap.push { cls := .type "set", dict := none, data := .set #[] 0 (.fresh 0 0 (!X.w.params.followText "set-order")) } } : Shared) = s3
  have hp3 : s3.heap = s2.heap.push { cls := .type "set", dict := none, data := .set #[] 0 (.fresh 0 0 (!X.w.params.followText "set-order")) } := by rw [← e3]
  have I3 : Inv X pins σ (upd H2 D (SetO X.w D [])) s3 := by
    rw [← e3, ← eD]
    exact I2.laid (t' := s2.toks) (fun b o e => Heap.get?_push_of_some _ e) (Nat.le_refl _) (setO_ok (setAt_new (Heap.get?_push_size _ rfl)))
  have below : ∀ b ∈ fp, b < s2.heap.objs.size := fun b hb => let ⟨o, e, _⟩ := T.obj _ _ st2 b hb; Heap.lt_size e
  have f3 : ∀ b ∈ fp, FpOk X pins (upd H2 D (SetO X.w D [])) b ∧ b < s3.heap.objs.size := fun b hb => by
    have lt := below b hb
    refine ⟨⟨?_, (f2 b hb).2⟩, by rw [hp3, Heap.size_push]; exact Nat.lt_succ_of_lt lt⟩
    rw [upd_ne (by rw [← eD]; exact Nat.ne_of_lt lt)]
    exact (f2 b hb).1
  have st3 : tn 0 s3.heap := T.keep _ _ _ st2 fun b _ o e => by rw [hp3]; exact Heap.get?_push_of_some _ e
  have I4 := block_start I3 ok hN f3
  have pg := hg s3 (upd H2 D (SetO X.w D [])) s3.heap.objs.size (cellsFrom (s3.heap.objs.size + 1) scope.names (cloFrom X.env.cells scope.names [])) fp
  have pe := he s3 (upd H2 D (SetO X.w D [])) s3.heap.objs.size (cellsFrom (s3.heap.objs.size + 1) scope.names (cloFrom X.env.cells scope.names [])) fp
  show codeAny _ _ (.compStart (.SetComp elt [⟨tg, iter, [], 0⟩] scope pos) 0 (.ref it) (.ref D) (compEnvC scope (cellsFrom (s3.heap.objs.size + 1) scope.names (cloFrom X.env.cells scope.names [])) s3.heap.objs.size X.env)) (compPost (model X.prog X.w) X.A X.xe none _ (.ref D) s3.heap.objs.size) { s3 with heap := pushCells (s3.heap.push { cls := .type "dict", data := .dict #[] }) scope.names }
  have nfp : ∀ b ∈ fp, (upd H2 D (SetO X.w D [])) b = none := fun b hb => (f3 b hb).1.1
  generalize ec : compEnvC scope (cellsFrom (s3.heap.objs.size + 1) scope.names (cloFrom X.env.cells scope.names [])) s3.heap.objs.size X.env = ce at I4 pg pe ⊢
  have cL : ce.locals = s3.heap.objs.size := by subst ec; rfl
  generalize upd H2 D (SetO X.w D []) = H3 at I3 I4 pg pe w0 nfp f3
  generalize e4 : ({ s3 with heap := pushCells (s3.heap.push { cls := .type "dict", data := .dict #[] }) scope.names } : Shared) = s4 at I4 ⊢
  have st4 : tn 0 s4.heap := T.keep _ _ _ st3 fun b _ o e => by rw [← e4]; exact pushCells_keeps _ _ _ _ (Heap.get?_push_of_some _ e)
  have stays : ∀ {σ' : L2.St} {H' : Hp} {s' : Shared}, Inv (X.blk s3 H3 scope ce fp) [] σ' H' s' → (∀ b ∈ fp, H' b = none) → ∀ b ∈ fp, FpOk (X.blk s3 H3 scope ce fp) [] H' b := fun {σ' H' s'} J' n b hb =>
    ⟨n b hb, (J'.ok.exf b hb).1, J'.ok.exfs b hb, .inl hb, fun x c e => (J'.ok.exf b hb).2 x c e, fun p hp => absurd (show p ∈ ([] : List (Addr × Obj)) ++ [] from hp) (by simp)⟩
  have loop : codeAny (model X.prog X.w) X.A (.compLoop (.SetComp elt [⟨tg, iter, [], 0⟩] scope pos) 0 (.ref it) (.ref D) ce) (compPost (model X.prog X.w) X.A X.xe none (EP X pins σ Q) (.ref D) s3.heap.objs.size) s4 := by
    refine PpSet.compLoopS_any (fun n s' => ∃ i H', Inv (X.blk s3 H3 scope ce fp) [] (wipe σ (own.map (·.2))) H' s' ∧ tn i s'.heap ∧ (∀ b ∈ fp, H' b = none) ∧ W i n H') (fun n s5 hyp => ?_) m0 ⟨0, H3, I4, st4, nfp, w0⟩
    obtain ⟨i, H5, I5, st5, n5, w5⟩ := hyp
    rcases turn i n H5 w5 with ⟨stop, qq⟩ | ⟨go, Nx, hNx, step⟩
    · refine thnF (T.done (X.blk s3 H3 scope ce fp) rfl rfl rfl hc i [] s5 _ H5 (fun _ _ => False) I5 (stays I5 n5) st5 stop) fun r s6 ⟨hr, I6⟩ => ?_
      subst hr
      have I7 : Inv X pins σ H5 s6 := I3.call' (ch := fp) I6.os I6.base I6.hok I6.bare fun b hb => ⟨(f3 b hb).1.2.2.2.1, (f3 b hb).1.2.1, (f3 b hb).1.2.2.2.2.1, (f3 b hb).1.2.2.2.2.2⟩
      have nC : H5 s3.heap.objs.size = none := by rw [← cL]; exact I6.free
      obtain ⟨m, hn, _⟩ := I6.loc
      have hn : s6.heap.Ns s3.heap.objs.size m := by rw [← cL]; exact hn
      refine ⟨m, hn, fun h'' sb => ?_⟩
      obtain ⟨g0, g1, g2, g3, g4, g5⟩ := I3.fpOk (Nat.le_refl _) nC
      exact ⟨.ref D, H5, I7.turned (t' := s6.toks) (fun b o hb e => (sb.2 b hb).trans e) g0 g1 g3 g4 g5, rfl, qq⟩
    · refine thnF (T.item (X.blk s3 H3 scope ce fp) rfl rfl rfl hc i [] s5 _ H5 (fun _ _ => False) I5 (stays I5 n5) st5 go) fun r s6 ⟨u, hr, h6⟩ => ?_
      subst hr
      refine thnF h6 fun _ s7 ⟨x, H7, I7, r7, y7, st7, n7⟩ => ?_
      refine thnF (pg.run _ s7 _ H7 x u _ (I7.pinned (stays I7 n7) (T.obj _ _ st7)) r7 (step x H7 y7)) fun _ s8 ⟨σ8, H8, I8, hw8, q8⟩ => ?_
      rw [List.forIn_nil]
      refine wpAny_pure ?_
      simp only [if_true]
      refine thnF (pe.run _ s8 σ8 H8 _ I8 q8) fun z s10 ⟨yv, H10, I10, r10, xa, k, L, ey, hD10, kx, kL, fw, nx⟩ => ?_
      subst ey
      cases (show z = Value.ref xa from r10)
      refine add_call (X := X.blk s3 H3 scope ce fp) I10 hD10 kx kL fw hu fun s11 L' I11 c1 c2 => ?_
      obtain ⟨m', hm, w'⟩ := hNx _ (nx L' c1 c2)
      have pin' : ∀ b ∈ fp, ∀ o, s7.heap.get? b = some o → s11.heap.get? b = some o ∧ (upd H10 D (SetO X.w D L')) b = none := fun b hb o e =>
        let z := I11.pin (b, o) (List.mem_append_right _ (List.mem_append_right _ (mem_pinsAt hb e)))
        ⟨z.1, z.2.1⟩
      have hl : (wipe σ (own.map (·.2))).length = σ8.length := by rw [← hw8, wipe_length]
      refine ⟨m', hm, i + 1, _, (I11.unpinned (pins := [])).weak hl (fun j v e => ?_), T.keep _ _ _ st7 fun b hb o e => (pin' b hb o e).1, fun b hb => ?_, w'⟩
      · rw [← hw8] at e
        exact (wipe_some e).1
      · obtain ⟨o, e, _⟩ := T.obj _ _ st7 b hb
        exact (pin' b hb o e).2
  exact PpSet.codeAny_compStart_set loop (T.self X.A 0 _ _ _ st4 loop)
end
/-- such a comprehension over a list that stays -/
theorem sk_list {w : World} {K : PySem.W.Frag} {a : Addr} {xs : List V} {g : TG} {te : TE} {vs : List Nat} {σ : L2.St} {H1 : Hp} {D : Addr} {Qd : Hp → Prop} (Pv : Nat → Hp → Prop) (h0 : Pv 0 (upd H1 D (SetO w D []))) (hl : ∀ i H, i ≤ xs.length → Pv i H → SqL K H a xs)
    (hs : ∀ i x H, xs[i]? = some x → Pv i H → g x (wipe σ vs) H fun σ2 H2 => wipe σ2 vs = wipe σ vs ∧ te σ2 H2 fun y H4 => Adds w K D y H4 (Pv (i + 1))) (hd : ∀ H, Pv xs.length H → Qd H) :
    ∃ W : Nat → Nat → Hp → Prop, (∃ m, W 0 m (upd H1 D (SetO w D []))) ∧ ∀ i m H, W i m H →
      ((Itl K a).stop i H ∧ Qd H) ∨ ((Itl K a).go i H ∧ ∃ Nx : Hp → Prop, (∀ H', Nx H' → ∃ m', m' < m ∧ W (i + 1) m' H') ∧ ∀ x H', (Itl K a).yld i H x H' → g x (wipe σ vs) H' fun σ2 H2 => wipe σ2 vs = wipe σ vs ∧ te σ2 H2 fun y H4 => Adds w K D y H4 Nx) := by
  refine ⟨fun i m H => m + i = xs.length ∧ Pv i H, ⟨xs.length, rfl, h0⟩, fun i m H hyp => ?_⟩
  obtain ⟨e, p⟩ := hyp
  have q := hl i H (by omega) p
  by_cases lt : i < xs.length
  · refine .inr ⟨⟨xs, xs[i], q, List.getElem?_eq_getElem lt⟩, Pv (i + 1), fun H' p' => ⟨m - 1, by omega, by omega, p'⟩, fun x H' y => ?_⟩
    obtain ⟨e2, y⟩ := y
    subst e2
    exact hs i x _ (y xs q) p
  · have e2 : i = xs.length := by omega
    subst e2
    exact .inl ⟨⟨xs, q, Nat.le_refl _⟩, hd H p⟩
end NS
set_option Elab.async false
set_option linter.all false
set_option maxRecDepth 100000
set_option maxHeartbeats 4000000
namespace NS
open PySem PySem.Spec PyProof.Rows L2 SrtO

/-! ### sorted(a set) -/
section
variable {P : Program} {w : World} {A : Around} {E : Value → Shared → Prop} {s : Shared}
theorem sorted_raw {a : Addr} {as : List Addr} {es : Array (Int × Value)} {ep : Nat} {t : SetTable} {ltv : Value → Value → Bool} {Q : Value → Shared → Prop} (ob : ∃ o, s.heap.get? a = some o ∧ o.ExactSet ∧ o.data = .set es ep t) (ev : es.toList.map (·.2) = as.map Value.ref) (few : as.length < 64)
    (hf : t.fits es.size = true) (ris : Ris t.place.toList) (led : w.params.followText "set-order" = true ∨ t.led = true) (hh : A.handled = none) (O : Swo ltv)
    (hS : ∀ (vs : List Value), vs.Perm (as.map Value.ref) → 2 ≤ vs.length → ∀ (A' : Around) (s1 : Shared) (l : Addr), (∀ o, s1.heap.get? l = some o → o.cls ≠ .type "tuple") → (∀ b o, s.heap.get? b = some o → s1.heap.get? b = some o) → SortableO P w A' s1 l vs ltv)
    (hQ : ∀ s' p (out : List Value) (c : Nat), (∀ b o, s.heap.get? b = some o → s'.heap.get? b = some o) → s'.gens = s.gens → s'.os = s.os → s.heap.objs.size ≤ p → s'.heap.get? p = some (seqObj "list" out.toArray c) → Srtd ltv out → out.Perm (as.map Value.ref) → Q (.ref p) s') :
    wpAny (model P w) A (call (.builtin "sorted") [.ref a]) Q E s := by
  obtain ⟨o, ho, hex, hd⟩ := ob
  have n : es.size = as.length := by
    have z := congrArg List.length ev
    rw [List.length_map, List.length_map, Array.length_toList] at z
    exact z
  refine Calls.call_function_entry kind_sorted plain_sorted entry_sorted (args_sorted1 _) ?_
  unfold Builtin.«sorted»
  refine wpAny_bind (m := checkCount "sorted" 1 1 _) (wpAny_pure ?_)
  refine wpAny_bind (collect_set (A := A.in1) hh ⟨o, ho, hex.1, hd⟩ hf (by unfold scanBound; omega) ris led fun s1 vs k1 hz g1 o1 pm => ?_)
  rw [ev] at pm
  have vl : vs.length < 64 := by rw [pm.length_eq, List.length_map]; exact few
  refine wpAny_bind (wpAny_newList ?_ (by rw [sizeLine_eq]; omega))
  have hoL : (s1.heap.push (seqObj "list" vs.toArray 0)).get? s1.heap.objs.size = some (seqObj "list" vs.toArray 0) := Heap.get?_push_size _ rfl
  refine wpAny_bind (wpAny_holding (wpAny_call_entry (s := { s1 with heap := s1.heap.push (seqObj "list" vs.toArray 0) }) slot_list_sort ⟨_, hoL, rfl⟩ entry_list_sort
    (list_sort_ord O hoL (by rw [sizeLine_eq]; omega) (fun h2 => hS vs pm h2 _ _ _ (fun u e => ?_) fun b u e => Heap.get?_push_of_some _ (k1 b u e)) fun out hs hb => ⟨_, rfl, ?_⟩) (args_list_sort _)))
  · have e' : some u = some (seqObj "list" vs.toArray 0) := e.symm.trans hoL
    cases e'
    intro c
    exact absurd (Value.type.inj c) (by decide)
  · obtain ⟨c, hc⟩ := sortedHeap_at (vs := vs) (out := out.toArray) hoL
    refine wpAny_pure ⟨_, rfl, hQ _ s1.heap.objs.size out c (fun b u e => ?_) g1 o1 hz hc hs (hb.perm.trans pm)⟩
    have q := k1 b u e
    have lt := Heap.lt_size q
    show (sortedHeap (s1.heap.push (seqObj "list" vs.toArray 0)) s1.heap.objs.size vs out.toArray).get? b = some u
    rw [sortedHeap_old (Nat.ne_of_lt lt) (by rw [size_push']; exact Nat.lt_succ_of_lt lt)]
    exact Heap.get?_push_of_some _ q

theorem sorted_any {a : Addr} {L : List Ent} {es : Array (Int × Value)} {ep : Nat} {t : SetTable} {ltv : Value → Value → Bool} {Q : Value → Shared → Prop} (R : SetAt w s.heap a L es ep t) (hh : A.handled = none) (O : Swo ltv)
    (hS : ∀ (vs : List Value), vs.Perm ((L.map (·.1)).map Value.ref) → 2 ≤ vs.length → ∀ (A' : Around) (s1 : Shared) (l : Addr), (∀ o, s1.heap.get? l = some o → o.cls ≠ .type "tuple") → (∀ b o, s.heap.get? b = some o → s1.heap.get? b = some o) → SortableO P w A' s1 l vs ltv)
    (hQ : ∀ s' p (out : List Value) (c : Nat), (∀ b o, s.heap.get? b = some o → s'.heap.get? b = some o) → s'.gens = s.gens → s'.os = s.os → s.heap.objs.size ≤ p → s'.heap.get? p = some (seqObj "list" out.toArray c) → Srtd ltv out → out.Perm ((L.map (·.1)).map Value.ref) → Q (.ref p) s') :
    wpAny (model P w) A (call (.builtin "sorted") [.ref a]) Q E s :=
  sorted_raw R.obj (by rw [R.ent, rows, List.map_map, List.map_map]; rfl) (by rw [List.length_map]; exact R.few) R.fits R.tab.ris R.led hh O hS hQ

/-- a pair whose first is the int x, its second any value -/
def FstAt (h : Heap) (v : Value) (x : Int) : Prop := ∃ a o t u n, v = .ref a ∧ h.get? a = some o ∧ o.cls = .type "tuple" ∧ o.data = .seq #[.int x t, u] n
theorem FstAt.keeps {h h' : Heap} {v : Value} {x : Int} (p : FstAt h v x) (k : ∀ b o, h.get? b = some o → o.cls = .type "tuple" → h'.get? b = some o) : FstAt h' v x := by
  obtain ⟨a, o, t, u, n, e, ho, hc, hd⟩ := p
  exact ⟨a, o, t, u, n, e, k a o ho hc, hc, hd⟩
theorem fsts_of {h : Heap} {f : Value → Int} : ∀ {vs : List Value}, (∀ v ∈ vs, FstAt h v (f v)) → ∃ fs : List Value, PySem.W.KatTups h vs fs ∧ fs.length = vs.length ∧ ∀ y ∈ fs, ∃ x t, y = Value.int x t
  | [], _ => ⟨[], .nil, rfl, fun _ m => by cases m⟩
  | v :: vs, hp => by
    obtain ⟨fs, h1, h2, h3⟩ := fsts_of (vs := vs) fun y m => hp y (List.mem_cons_of_mem _ m)
    obtain ⟨a, o, t, u, n, e, ho, hc, hd⟩ := hp v List.mem_cons_self
    rw [e]
    refine ⟨.int (f v) t :: fs, PySem.W.KatTups.cons ho hc hd rfl h1, by rw [List.length_cons, List.length_cons, h2], fun y m => ?_⟩
    rcases List.mem_cons.mp m with q | m
    · exact ⟨_, _, q⟩
    · exact h3 y m
/-- such pairs, no two of one first, are sorted by it -/
theorem fst_sortable {a : Addr} {vs : List Value} {f : Value → Int} (h0 : 0 < vs.length) (hp : ∀ v ∈ vs, FstAt s.heap v (f v)) (one : ∀ v ∈ vs, ∀ u ∈ vs, f v = f u → v = u) (ha : ∀ o, s.heap.get? a = some o → o.cls ≠ .type "tuple") :
    SortableO P w A s a vs fun v u => lexB (f v, 0) (f u, 0) := by
  intro h' keep
  have hp' : ∀ v ∈ vs, FstAt h' v (f v) := fun v m => (hp v m).keeps fun b o e c => keep b o (fun z => by subst z; exact ha o e c) e
  obtain ⟨fs, h1, h2, h3⟩ := fsts_of hp'
  refine ⟨tuples' true, fun Q E hq => ?_, fun p q hm hm' => ?_⟩
  · refine PySem.W.kat_kind (T := .type "int") h1 (by omega) (fun y m => ?_) (by rfl) ?_
    · obtain ⟨x, t, rfl⟩ := h3 y m
      exact PySem.W.Looks.now
    · rw [show (Value.type "int" != Value.type "tuple") = true by first | decide +kernel | rfl | decide]
      exact hq
  · show wpAny (model P w) A (keyLt' (tuples' true) p.1 q.1) (fun r s' => s' = { s with heap := h' } ∧ r = lexB (f p.1, 0) (f q.1, 0)) (fun _ _ => False) { s with heap := h' }
    have h1 := hp' _ hm
    have h2 := hp' _ hm'
    by_cases same : f p.1 = f q.1
    · have e := one _ hm _ hm' same
      have e3 : lexB (f p.1, 0) (f q.1, 0) = false := by
        unfold lexB
        rw [if_pos same]
        rfl
      rw [e3, e]
      obtain ⟨b, o, t, u, n, eb, ho, hc, hd⟩ := h2
      rw [eb]
      refine PySem.W.kat_lt ho hd ho hd ?_
      refine PySem.W.kat_cons (SeqAt.EqAt.same _ P w _ _ (PySem.W.kat_yes (PySem.W.kat_cons (SeqAt.EqAt.same _ P w _ _ (PySem.W.kat_yes (PySem.W.kat_nil ⟨rfl, ?_⟩))))))
      exact decide_eq_false (Nat.lt_irrefl _)
    · have e3 : lexB (f p.1, 0) (f q.1, 0) = decide (f p.1 < f q.1) := if_neg same
      rw [e3]
      obtain ⟨b, o, t, u, n, eb, ho, hc, hd⟩ := h1
      obtain ⟨b', o', t', u', n', eb', ho', hc', hd'⟩ := h2
      generalize f p.1 = x at *
      generalize f q.1 = x' at *
      rw [eb, eb']
      refine PySem.W.kat_lt ho hd ho' hd' ?_
      refine PySem.W.kat_cons (SeqAt.EqAt.int_int x t x' t' P w _ _ ?_)
      rw [show (x == x') = false by simpa using same]
      exact PySem.W.kat_no (oneLt_int ⟨rfl, rfl⟩)
end

/-! ### in the layer -/
/-- the entries of L stand as pairs: of two ints, or with firsts of their own -/
def Ranked (K : PySem.W.Frag) (H : Hp) (L : List Ent) (k : Addr → Int × Int) : Prop :=
  (∀ q ∈ L, SqT K H q.1 [.int (k q.1).1, .int (k q.1).2]) ∨
  ((∀ q ∈ L, ∃ y, SqT K H q.1 [.int (k q.1).1, y] ∧ (k q.1).2 = 0) ∧ ∀ q ∈ L, ∀ r ∈ L, (k q.1).1 = (k r.1).1 → q.1 = r.1)
def rSortS (K : PySem.W.Frag) (w : World) : List V → Hp → VK → Prop := fun vs H Q => ∃ (a : Addr) (L : List Ent) (k : Addr → Int × Int), vs = [.ref a] ∧ H a = some (SetO w a L) ∧ Ranked K H L k ∧
  ∀ (L' : List Addr) (p : Addr), L'.Perm (L.map (·.1)) → L'.Pairwise (fun q r => lexB (k r) (k q) = false) → H p = none → Q (.ref p) (upd H p (.lst (L'.map V.ref)))
theorem refs_perm : ∀ (vs : List Value) (as : List Addr), vs.Perm (as.map Value.ref) → ∃ bs : List Addr, vs = bs.map Value.ref ∧ bs.Perm as := by
  intro vs as h
  have key : ∀ vs : List Value, (∀ v ∈ vs, ∃ b, v = Value.ref b) → ∃ bs : List Addr, vs = bs.map Value.ref := by
    intro vs
    induction vs with
    | nil => intro _; exact ⟨[], rfl⟩
    | cons v vs ih =>
      intro hv
      obtain ⟨b, e⟩ := hv v List.mem_cons_self
      obtain ⟨bs, e2⟩ := ih fun u hu => hv u (List.mem_cons_of_mem _ hu)
      exact ⟨b :: bs, by rw [List.map_cons, e, e2]⟩
  obtain ⟨bs, rfl⟩ := key vs fun v m => by
    obtain ⟨b, _, e⟩ := List.mem_map.mp (h.mem_iff.mp m)
    exact ⟨b, e.symm⟩
  refine ⟨bs, rfl, ?_⟩
  have z := h.map (fun v : Value => match v with | .ref b => b | _ => 0)
  rw [List.map_map, List.map_map] at z
  have e : ((fun v : Value => match v with | .ref b => b | _ => (0 : Addr)) ∘ Value.ref) = id := rfl
  rw [e, List.map_id, List.map_id] at z
  exact z
def adr : Value → Addr | .ref b => b | _ => 0
section
variable {X : Cx}
theorem cr_sortS (hc : X.calm = true) : CallR X (.builtin "sorted") (rSortS X.K X.w) := by
  intro pins s σ H vs us Q I r h
  obtain ⟨a, L, k, rfl, ha, rk, q⟩ := h
  rw [Vals.ref1 r]
  obtain ⟨⟨es, ep, t, R⟩, _⟩ : ObjOk X.prog X.w H s.heap a (SetO X.w a L) := I.hok a _ ha
  have mem : ∀ {vs : List Value}, vs.Perm ((L.map (·.1)).map Value.ref) → ∀ v ∈ vs, ∃ q ∈ L, v = Value.ref q.1 := fun pm v m => by
    rw [List.map_map] at pm
    obtain ⟨q, hq, e⟩ := List.mem_map.mp (pm.mem_iff.mp m)
    exact ⟨q, hq, e.symm⟩
  refine sorted_any (ltv := fun v u => lexB (k (adr v)) (k (adr u))) R (I.ok.hd hc) (swo_lex fun v => k (adr v)) (fun vs pm h2 A' s1 l hl kp => ?_) fun s' p out c kp g o hp hg hs pm => ?_
  · rcases rk with pr | ⟨fs, one⟩
    · refine pairs_sortableO (k := fun v => k (adr v)) (by omega) (fun v m => ?_) hl
      obtain ⟨q, hq, rfl⟩ := mem pm v m
      obtain ⟨its, rv, ⟨o, ho, hc', n, hd⟩, _⟩ := I.tuple (pr q hq)
      obtain ⟨u1, u2, rfl, ⟨t1, rfl⟩, ⟨t2, rfl⟩⟩ := vals2 rv
      exact ⟨q.1, o, t1, t2, n, rfl, kp _ _ ho, hc', hd⟩
    · have e : ∀ v ∈ vs, k (adr v) = ((k (adr v)).1, 0) := fun v m => by
        obtain ⟨q, hq, rfl⟩ := mem pm v m
        obtain ⟨y, _, z⟩ := fs q hq
        exact Prod.ext rfl z
      have S := fst_sortable (P := X.prog) (w := X.w) (A := A') (s := s1) (a := l) (vs := vs) (f := fun v => (k (adr v)).1) (by omega) (fun v m => by
        obtain ⟨q, hq, rfl⟩ := mem pm v m
        obtain ⟨y, hy, _⟩ := fs q hq
        obtain ⟨its, rv, ⟨o, ho, hc', n, hd⟩, _⟩ := I.tuple hy
        obtain ⟨u1, u2, rfl, ⟨t1, rfl⟩, _⟩ := vals2 rv
        exact ⟨q.1, o, t1, u2, n, rfl, kp _ _ ho, hc', hd⟩) (fun v m u m' e => by
        obtain ⟨q, hq, rfl⟩ := mem pm v m
        obtain ⟨r, hr, rfl⟩ := mem pm u m'
        rw [one q hq r hr e]) hl
      intro h' keep
      obtain ⟨κ, hk, hcmp⟩ := S h' keep
      refine ⟨κ, hk, fun p q hm hm' => ?_⟩
      have z := hcmp p q hm hm'
      have e1 : lexB (k (adr p.1)) (k (adr q.1)) = lexB ((k (adr p.1)).1, 0) ((k (adr q.1)).1, 0) := by rw [e _ hm, e _ hm']
      have e2 : lt2 (fun v u => lexB (k (adr v)) (k (adr u))) p q = lt2 (fun v u => lexB ((k (adr v)).1, 0) ((k (adr u)).1, 0)) p q := e1
      rw [e2]
      exact z
  · obtain ⟨bs, rfl, pb⟩ := refs_perm out (L.map (·.1)) pm
    have len : (bs.map V.ref).length ≤ sizeLine := by
      have few := R.few
      rw [List.length_map, pb.length_eq, List.length_map, sizeLine_eq]
      omega
    have hn : H p = none := I.hok.fresh hp
    have hv : ∀ bs : List Addr, Vals (bs.map V.ref) (bs.map Value.ref) := fun bs => by
      induction bs with
      | nil => exact .nil
      | cons b bs ih => exact .cons rfl ih
    have J : Inv X pins σ (upd H p (.lst (bs.map V.ref))) { s with heap := s'.heap, gens := s'.gens, drawn := s'.drawn, toks := s'.toks } :=
      I.call (ch := []) (Un.laid kp hp hn) (I.hok.laid kp hp ⟨len, bs.map Value.ref, c, hv bs, hg⟩) (by rw [g]; exact I.bare) (fun _ z => nomatch z)
    have e : s' = { s with heap := s'.heap, gens := s'.gens, drawn := s'.drawn, toks := s'.toks } := by
      cases s'
      cases s
      cases o
      rfl
    rw [e]
    refine ⟨.ref p, _, J, rfl, q bs p pb ?_ hn⟩
    have z := List.pairwise_map.mp hs
    exact z

end
end NS
set_option Elab.async false
set_option linter.all false
set_option maxRecDepth 100000
set_option maxHeartbeats 4000000
/-! max(xs, default=d) of a list of ints, which may be empty -/
namespace MxD
open PySem PySem.Spec PyProof.Rows L2
theorem args_ok (a v : Value) : argsOk "max" ⟨[a], [(Str.ofString "default", v)]⟩ := by unfold argsOk; kernel_rfl
section
variable {prog : Program} {w : World} {A : Around} {R : Result → Shared → Prop} {I : Addr} {fp wr : List Addr} {n : Nat} {P : Nat → Value → Prop} {St : Nat → Heap → Prop} {kw : List (Str × Value)}
theorem nm : (toString "max" ++ toString ".loop" : String) = "max.loop" := by decide
/-- the best of the first j + 1 is held at S -/
theorem turns (W : Walks prog w A.in1 I fp wr n P St) (bt : Nat → Nat → Bool) (cmp : CmpOf prog w A.in1 .Gt P bt) {S : Addr} (hS : S ∉ fp) (k : Nat) : ∀ (j : Nat) (s : Shared) (b : Value) (c : Nat), n = j + 1 + k → St (j + 1) s.heap → P (argBest bt j) b →
    s.heap.get? S = some { cls := .type "list", dict := none, data := .seq #[b, b] c, slots := #[] } →
    (∀ v h' tk, P (argBest bt (n - 1)) v → (∀ b o, b ∉ wr → b ≠ S → s.heap.get? b = some o → h'.get? b = some o) → R (.ok (.ret v)) { s with heap := h', toks := tk }) →
    codeAny (model prog w) A (.builtin "max.loop" ⟨[.ref I, .none, .ref S], kw⟩) R s := by
  have hw : S ∉ wr := fun h => hS (W.sub _ h)
  induction k with
  | zero =>
    intro j s b c e st hb at1 q
    refine codeAny_builtin F.entry_max_loop ?_
    rw [Around.under_plainId F.plain_max_loop _]
    show wpAny _ A.in1 (seqItems? (.ref S) >>= _) _ _ s
    refine wpAny_bind (wpAny_seqItems at1 rfl ?_)
    show wpAny _ A.in1 (tryCatch (pyNext (.ref I)) _ >>= _) _ _ s
    refine wpAny_bind (wpAny_tryCatch (W.done s _ _ (by rw [e]; exact st) fun h1 tk k1 => ?_))
    have at2 := k1 S _ hw at1
    show wpAny _ A.in1 (updateSeq S (fun _ => #[]) >>= _) _ _ _
    refine wpAny_bind (wpAny_updateSeq at2 rfl (wpAny_bind (wpAny_letGo (wpAny_pure ?_))))
    exact q b _ tk (by rw [e]; exact hb) fun x o x1 x2 z => (Heap.get?_update_other _ _ (Ne.symm x2)).trans (k1 x o x1 z)
  | succ k ih =>
    intro j s b c e st hb at1 q
    refine codeAny_builtin F.entry_max_loop ?_
    rw [Around.under_plainId F.plain_max_loop _]
    show wpAny _ A.in1 (seqItems? (.ref S) >>= _) _ _ s
    refine wpAny_bind (wpAny_seqItems at1 rfl ?_)
    show wpAny _ A.in1 (tryCatch (pyNext (.ref I)) _ >>= _) _ _ s
    refine wpAny_bind (wpAny_tryCatch (W.item (j + 1) s _ _ (by omega) st fun v h1 tk hv st1 k1 => ?_))
    have at2 := k1 S _ hw at1
    show wpAny _ A.in1 (tryCatch (holding [v, v] (richCompare .Gt v b >>= _)) _ >>= _) _ _ _
    refine wpAny_bind (wpAny_tryCatch (wpAny_holding (wpAny_bind (cmp (j + 1) (argBest bt j) v b _ _ _ hv hb ?_))))
    refine wpAny_bind (wpAny_holding (wpAny_truthy_bool (wpAny_bind (wpAny_letGo (wpAny_pure ?_)))))
    have best : argBest bt (j + 1) = if bt (j + 1) (argBest bt j) then j + 1 else argBest bt j := rfl
    cases better : bt (j + 1) (argBest bt j) with
    | true =>
      rw [better, if_pos rfl] at best
      simp only [if_true]
      refine wpAny_bind (wpAny_updateSeq at2 rfl (wpAny_bind (wpAny_letGo ?_)))
      rw [nm]
      refine wpAny_pure ⟨plainId_quiet F.plain_max_loop _, ih (j + 1) _ v _ (by omega) (W.frame _ _ _ st1 fun x xf o z => ?_) (by rw [best]; exact hv) (Heap.get?_update_self _ at2 rfl) fun v' h' tk' hv' k' => ?_⟩
      · exact (Heap.get?_update_other _ _ (fun y : S = x => hS (y ▸ xf))).trans z
      · exact q v' h' tk' hv' fun x o x1 x2 z => k' x o x1 x2 ((Heap.get?_update_other _ _ (Ne.symm x2)).trans (k1 x o x1 z))
    | false =>
      rw [better, if_neg (by decide)] at best
      simp only [Bool.false_eq_true, if_false]
      refine wpAny_bind (wpAny_letGo ?_)
      rw [nm]
      exact wpAny_pure ⟨plainId_quiet F.plain_max_loop _, ih (j + 1) _ b c (by omega) st1 (by rw [best]; exact hb) at2 fun v' h' tk' hv' k' => q v' h' tk' hv' fun x o x1 x2 z => k' x o x1 x2 (k1 x o x1 z)⟩
/-- from the start, at least one item -/
theorem first (W : Walks prog w A.in1 I fp wr n P St) (bt : Nat → Nat → Bool) (cmp : CmpOf prog w A.in1 .Gt P bt) {S : Addr} (hS : S ∉ fp) (hn : 0 < n) {s : Shared} {c : Nat} (st : St 0 s.heap) (at1 : s.heap.get? S = some { cls := .type "list", dict := none, data := .seq #[] c, slots := #[] })
    (q : ∀ v h' tk, P (argBest bt (n - 1)) v → (∀ b o, b ∉ wr → b ≠ S → s.heap.get? b = some o → h'.get? b = some o) → R (.ok (.ret v)) { s with heap := h', toks := tk }) :
    codeAny (model prog w) A (.builtin "max.loop" ⟨[.ref I, .none, .ref S], kw⟩) R s := by
  have hw : S ∉ wr := fun h => hS (W.sub _ h)
  refine codeAny_builtin F.entry_max_loop ?_
  rw [Around.under_plainId F.plain_max_loop _]
  show wpAny _ A.in1 (seqItems? (.ref S) >>= _) _ _ s
  refine wpAny_bind (wpAny_seqItems at1 rfl ?_)
  show wpAny _ A.in1 (tryCatch (pyNext (.ref I)) _ >>= _) _ _ s
  refine wpAny_bind (wpAny_tryCatch (W.item 0 s _ _ hn st fun v h1 tk hv st1 k1 => ?_))
  have at2 := k1 S _ hw at1
  show wpAny _ A.in1 (updateSeq S (fun _ => #[v, v]) >>= _) _ _ _
  refine wpAny_bind (wpAny_updateSeq at2 rfl ?_)
  rw [nm]
  refine wpAny_pure ⟨plainId_quiet F.plain_max_loop _, turns W bt cmp hS (n - 1) 0 _ v _ (by omega) (W.frame _ _ _ st1 fun x xf o z => ?_) hv (Heap.get?_update_self _ at2 rfl) fun v' h' tk' hv' k' => ?_⟩
  · exact (Heap.get?_update_other _ _ (fun y : S = x => hS (y ▸ xf))).trans z
  · exact q v' h' tk' hv' fun x o x1 x2 z => k' x o x1 x2 ((Heap.get?_update_other _ _ (Ne.symm x2)).trans (k1 x o x1 z))
/-- no item: the default -/
theorem none_left (W : Walks prog w A.in1 I fp wr 0 P St) {S : Addr} (hS : S ∉ fp) {d : Value} {s : Shared} {c : Nat} (st : St 0 s.heap) (at1 : s.heap.get? S = some { cls := .type "list", dict := none, data := .seq #[] c, slots := #[] })
    (q : ∀ h' tk, (∀ b o, b ∉ wr → b ≠ S → s.heap.get? b = some o → h'.get? b = some o) → R (.ok (.ret d)) { s with heap := h', toks := tk }) :
    codeAny (model prog w) A (.builtin "max.loop" ⟨[.ref I, .none, .ref S], [(Str.ofString "default", d)]⟩) R s := by
  refine codeAny_builtin F.entry_max_loop ?_
  rw [Around.under_plainId F.plain_max_loop _]
  show wpAny _ A.in1 (seqItems? (.ref S) >>= _) _ _ s
  refine wpAny_bind (wpAny_seqItems at1 rfl ?_)
  show wpAny _ A.in1 (tryCatch (pyNext (.ref I)) _ >>= _) _ _ s
  refine wpAny_bind (wpAny_tryCatch (W.done s _ _ st fun h1 tk k1 => ?_))
  show wpAny _ A.in1 (rule _ >>= _) _ _ _
  refine wpAny_bind (wpAny_rule ?_)
  exact wpAny_pure (q _ tk fun x o x1 x2 z => k1 x o x1 z)
end

section
variable {prog : Program} {w : World} {A : Around} {E : Value → Shared → Prop} {s : Shared}
theorem call_tree_kw {id : String} {b : Builtin} {args : List Value} {kw : List (Str × Value)} {Q : Value → Shared → Prop} (hk : builtinKind id = none) (hp : plainId id = true) (hb : entryFor table id = some b) (ha : argsOk id ⟨args, kw⟩)
    (hc : wpAny (model prog w) A.in1 (b ⟨args, kw⟩) (fun fin s' => match fin with
      | .done f => (match (Except.ok f : Result) with | .ok (.ret v) => Q v s' | .ok _ => False | .error e => E e s')
      | .again c' => c'.quiet = true ∧ codeAny (model prog w) A c' (fun r s' => match r with | .ok (.ret v) => Q v s' | .ok _ => False | .error e => E e s') s') E s) :
    wpAny (model prog w) A (call (.builtin id) args kw) Q E s := by
  refine wpAny_call (codeAny_call_builtin hp hb ?_)
  simp only [checkBuiltinCall, hk]
  cases e : Manifest.signature? id with
  | none => exact wpAny_pure hc
  | some sig =>
    simp only [argsOk, e] at ha
    have z : Bind.checkArgs id sig ⟨args, kw⟩ = pure () := ha
    show wpAny _ A.in1 (Bind.checkArgs id sig ⟨args, kw⟩) _ _ s
    rw [z]
    exact wpAny_pure hc
theorem max_dflt {l : Addr} {its : List Value} {ns : List Int} {d : Int} {td : Tok} {Q : Value → Shared → Prop} (hh : A.handled = none) (hl : s.heap.IsList l its.toArray) (hi : IntsAre its ns)
    (q : ∀ h' tk m t', (∀ b o, s.heap.get? b = some o → h'.get? b = some o) → (ns = [] → m = d) → (ns ≠ [] → m ∈ ns ∧ ∀ y ∈ ns, y ≤ m) → Q (.int m t') { s with heap := h', toks := tk }) :
    wpAny (model prog w) A (call (.builtin "max") [.ref l] [(Str.ofString "default", .int d td)]) Q E s := by
  obtain ⟨xs, e⟩ := hi.allInts.items
  have hn : numsOf (intItems xs).toList = ns := by rw [← e]; exact hi.numsOf
  rw [nums_intItems] at hn
  subst hn
  rw [e] at hl
  refine call_tree_kw F.kind_max F.plain_max F.entry_max (args_ok _ _) ?_
  show wpAny _ A.in1 (Builtin.Builtins.bindParams "max" ["key", "default"] 0 ⟨[], [(Str.ofString "default", .int d td)]⟩ >>= _) _ _ s
  refine wpAny_bind (wpAny_of_eq (show Builtin.Builtins.bindParams "max" ["key", "default"] 0 ⟨[], [(Str.ofString "default", .int d td)]⟩ = pure [none, some (.int d td)] from by first | rfl | kernel_rfl) ?_)
  refine wpAny_bind (wpAny_pure ?_)
  refine wpAny_bind (iter_intList hl fun s₂ e2 st hfp hlI => ?_)
  refine wpAny_bind (wpAny_newObj_type ?_)
  rw [nm]
  have W := Walks.list (A := A.in1) (prog := prog) (w := w) hh s.heap.objs.size l hlI (intItems xs)
  have far : s₂.heap.objs.size ∉ [s.heap.objs.size, l] := fun m => Nat.lt_irrefl _ (hfp _ m)
  have old : ∀ h' : Heap, (∀ b o, b ∉ [s.heap.objs.size] → b ≠ s₂.heap.objs.size → (s₂.heap.push { cls := .type "list", data := .seq #[] 0 }).get? b = some o → h'.get? b = some o) → ∀ b o, s.heap.get? b = some o → h'.get? b = some o := fun h' k b o z => by
    have lt := Heap.lt_size z
    subst e2
    refine k b o (fun m => ?_) ?_ (Heap.get?_push_of_some _ (Heap.get?_push_of_some _ z))
    · rcases List.mem_cons.mp m with y | y
      · exact Nat.lt_irrefl _ (y ▸ lt)
      · cases y
    · show b ≠ (s.heap.push _).objs.size
      rw [Heap.size_push]
      exact Nat.ne_of_lt (Nat.lt_succ_of_lt lt)
  by_cases hz : xs.size = 0
  · have W0 := W
    rw [show (intItems xs).size = 0 by simpa [intItems] using hz] at W0
    refine wpAny_pure ⟨plainId_quiet F.plain_max_loop _, none_left W0 far (W.frame _ _ _ st fun b _ o z => Heap.get?_push_of_some _ z) (Heap.get?_push_size _ rfl) fun h' tk k => ?_⟩
    subst e2
    have en : (xs.toList.map (·.1)) = [] := by
      have : xs = #[] := Array.eq_empty_of_size_eq_zero hz
      rw [this]
      rfl
    exact q h' tk d td (old h' k) (fun _ => rfl) fun ne => absurd en ne
  · have cmp := CmpOf.ints_gt (prog := prog) (w := w) (A := A.in1) (numAt xs) (P := fun i v => (intItems xs)[i]? = some v) (fun _ _ => intItems_at)
    refine wpAny_pure ⟨plainId_quiet F.plain_max_loop _, first W _ cmp far (by simpa [intItems] using (show 0 < xs.size by omega)) (W.frame _ _ _ st fun b _ o z => Heap.get?_push_of_some _ z) (Heap.get?_push_size _ rfl) fun v h' tk hv k => ?_⟩
    subst e2
    obtain ⟨t, rfl⟩ := intItems_at hv
    have sz : (intItems xs).size = xs.size := by simp [intItems]
    rw [sz]
    obtain ⟨h1, h2⟩ := argBest_gt (numAt xs) (xs.size - 1)
    have len : (xs.toList.map (·.1)).length = xs.size := by rw [List.length_map, Array.length_toList]
    refine q h' tk _ t (old h' k) (fun en => ?_) fun _ => ⟨?_, fun a ha => ?_⟩
    · rw [en] at len
      exact absurd len.symm hz
    · rw [numAt_eq]
      exact PySem.getD_mem (by rw [len]; omega)
    · obtain ⟨j, hj, rfl⟩ := mem_getD ha
      rw [len] at hj
      rw [← numAt_eq]
      exact h2 j (by omega)
end
/-- max(xs, default=d) -/
def rMaxD (K : PySem.W.Frag) : List V → List V → Hp → VK → Prop := fun vs zs H Q => ∃ (a : Addr) (ns : List Int) (d : Int), vs = [.ref a] ∧ zs = [.int d] ∧ SqL K H a (ns.map V.int) ∧ ∀ m, (ns = [] → m = d) → (ns ≠ [] → m ∈ ns ∧ ∀ y ∈ ns, y ≤ m) → Q (.int m) H
theorem cr_maxD {X : Cx} (hc : X.calm = true) : CallRK X (.builtin "max") [Str.ofString "default"] (rMaxD X.K) := by
  intro pins s σ H vs zs us ws Q I r rz h
  obtain ⟨a, ns, d, rfl, rfl, hs, q⟩ := h
  obtain ⟨its, rv, hl, _⟩ := I.list hs
  rw [Vals.ref1 r]
  obtain ⟨u, rfl, ⟨td, rfl⟩⟩ := vals1 rz
  exact max_dflt (I.ok.hd hc) hl.isList rv.ints fun h' tk m t' k h1 h2 => ⟨.int _, H, I.kept k, ⟨_, rfl⟩, q m h1 h2⟩
end MxD
set_option Elab.async false
set_option linter.all false
set_option maxRecDepth 100000
set_option maxHeartbeats 4000000
namespace LR
open PySem PySem.Spec PyProof.Rows L2
def topS (i : Nat) : Stmt := PySem.Challenge.pw_laprunners_k06_positions_and_laps.main.body.getD i (.Pass ⟨0, 0, 0, 0⟩)
abbrev sII : Stmt := topS 10
abbrev sIR : Stmt := topS 11
abbrev sAR : Stmt := topS 13
abbrev sRatio : Stmt := topS 14
theorem scII : FnScope ["value"] ["value"] (defScope sII) := ⟨rfl, rfl, rfl, by decide +kernel, rfl, by decide +kernel, by decide +kernel⟩
theorem scIR : FnScope ["value"] ["value"] (defScope sIR) := ⟨rfl, rfl, rfl, by decide +kernel, rfl, by decide +kernel, by decide +kernel⟩
theorem scAR : FnScope ["value"] ["value"] (defScope sAR) := ⟨rfl, rfl, rfl, by decide +kernel, rfl, by decide +kernel, by decide +kernel⟩
theorem scRatio : FnScope ["numerator", "denominator", "divisor"] ["numerator", "denominator"] (defScope sRatio) := ⟨rfl, rfl, rfl, by decide +kernel, rfl, by decide +kernel, by decide +kernel⟩
section
variable {P : Program} {w : World} {K : PySem.W.Frag} {mg : Str → Option Value} {base : Heap}
abbrev CXl (P : Program) (w : World) : CXT := L2.CX P w

/-! ### is_integer -/
def spII (K : PySem.W.Frag) : Sp := fun vs H Q _ => ∃ (x : V) (n : String), vs = [x] ∧ Kd K H x n ∧ Q (.bl (isI x)) H
theorem ok_II {f : Addr} {fd : FuncData} (F : Fun K "is_integer" "is_integer" sII f fd) (mi : mg "isinstance" = none) (m1 : mg "int" = none) (m2 : mg "bool" = none) : FnOk P w K mg base (CXl P w) 1 f fd ["value"] (spII K) := by
  refine F.okX scII (fun vs H Q E h => ?_) (fun cdv A outer s H vs Q E hr h => ?_)
  · obtain ⟨x, n, rfl, _⟩ := h
    rfl
  · obtain ⟨x, n, rfl, hk, q⟩ := h
    refine ⟨_, pss_one (ps_ret (pe_and (pe_callB call_isi (by rfl) mi (by decide +kernel) (pa_cons (pv 0) (pa_cons (pe_bltn (v := .ty "int") (by rfl) m1 (by decide +kernel) rfl) pa_nil)))
      (pe_one (pe_not (pe_callB call_isi (by rfl) mi (by decide +kernel) (pa_cons (pv 0) (pa_cons (pe_bltn (v := .ty "bool") (by rfl) m2 (by decide +kernel) rfl) pa_nil))))))), ?_⟩
    have e := kd_isI hk
    refine ⟨x, rfl, x, _, _, _, _, rfl, .ty "int", hk.ty, kd_int hk, _, rfl, ite2 (fun c => ?_) (fun c => ?_)⟩
    · refine ⟨x, rfl, x, _, _, _, _, rfl, .ty "bool", hk.ty, kd_bool hk, _, rfl, ?_⟩
      rw [c, Bool.true_and] at e
      rw [e]
      exact q
    · have c' := Bool.not_eq_true _ ▸ c
      rw [c', Bool.false_and] at e
      rw [e]
      exact q

/-! ### is_ratio -/
def isRef : V → Bool | .ref _ => true | _ => false
def spIR (K : PySem.W.Frag) : Sp := fun vs H Q _ => ∃ (x : V) (o : Option Rat), vs = [x] ∧ Arg K H x o ∧ Q (.bl (isRef x && o.isSome)) H
theorem ratOf_len {xs : List V} (h : xs.length ≠ 2) : ratOf xs = none := by
  match xs, h with
  | [], _ => rfl
  | [_], _ => unfold ratOf; split <;> simp_all
  | [_, _], h => exact absurd rfl h
  | _ :: _ :: _ :: _, _ => unfold ratOf; split <;> simp_all

theorem ok_IR {f fI : Addr} {fd dI : FuncData} (F : Fun K "is_ratio" "is_ratio" sIR f fd) (DI : DefAt K mg "is_integer" sII ["value"] fI dI) (mi : mg "isinstance" = none) (m1 : mg "int" = none) (m2 : mg "bool" = none) (m3 : mg "tuple" = none)
    (ml : mg "len" = none) (mgc : mg "gcd" = some (.builtin "math.gcd")) : FnOk P w K mg base (CXl P w) 2 f fd ["value"] (spIR K) := by
  have GI : FnOk P w K mg base (CXl P w) 1 fI dI ["value"] (spII K) := ok_II DI.F mi m1 m2
  refine F.okX scIR (fun vs H Q E h => ?_) (fun cdv A outer s H vs Q E hr h => ?_)
  · obtain ⟨x, n, rfl, _⟩ := h
    rfl
  · obtain ⟨x, o, rfl, ha, q⟩ := h
    refine ⟨_, pss_cons (ps_if (PW.pt (pw_or (pt_not (pt_val (pe_callB call_isi (by rfl) mi (by decide +kernel) (pa_cons (pv 0) (pa_cons (pe_bltn (v := .ty "tuple") (by rfl) m3 (by decide +kernel) rfl) pa_nil)))))
        (pw_or1 (pt_cmpR op_ne (pe_callB call_len_seq (by rfl) ml PySem.boot_len (pa_cons (pv 0) pa_nil)) pe_int (nomark _))))) (pss_one (ps_ret pe_bl)) pss_nil)
      (pss_cons (ps_if (PW.pt (pw_or (pt_not (pt_val (pe_call GI hr (by rfl) DI.g DI.F.kp DI.b .nil passL (pa_cons (pe_ix ix_tup (pv 0) pe_int (fun _ _ => rfl)) pa_nil))))
        (pw_or1 (pt_not (pt_val (pe_call GI hr (by rfl) DI.g DI.F.kp DI.b .nil passL (pa_cons (pe_ix ix_tup (pv 0) pe_int (fun _ _ => rfl)) pa_nil))))))) (pss_one (ps_ret pe_bl)) pss_nil)
      (pss_one (ps_ret (pe_and (pe_cmpR op_ge (pe_ix ix_tup (pv 0) pe_int (fun _ _ => rfl)) pe_int (nomark _))
        (pe_one (pe_cmpR op_eq (pe_callBfun cr_gcd (by rfl) mgc (pa_cons (pe_ix ix_tup (pv 0) pe_int (fun _ _ => rfl)) (pa_cons (pe_ix ix_tup (pv 0) pe_int (fun _ _ => rfl)) pa_nil))) pe_int (nomark _))))))), ?_⟩
    cases ha with
    | int i =>
      refine ⟨_, rfl, _, _, _, _, _, rfl, .ty "tuple", (Kd.int i).ty, kd_tuple (H := H) (.int i), _, rfl, ?_⟩
      exact q
    | oth hk n1 n2 =>
      refine ⟨_, rfl, _, _, _, _, _, rfl, .ty "tuple", hk.ty, kd_tuple hk, _, rfl, ?_⟩
      rw [n2]
      rw [show (isRef x && (none : Option Rat).isSome) = false from Bool.and_false _] at q
      exact q
    | @tup a xs _ ht hk e =>
      refine ⟨_, rfl, _, _, _, _, _, rfl, .ty "tuple", sqt_ty ht, kd_tuple (.tup (sqt_ty ht)), _, rfl, ?_⟩
      refine ⟨.ref a, rfl, a, xs, rfl, .inr ht, rfl, _, rfl, ?_⟩
      subst e
      by_cases hl : xs.length = 2
      · obtain ⟨x0, x1, rfl⟩ : ∃ x0 x1, xs = [x0, x1] := by
          match xs, hl with
          | [x0, x1], _ => exact ⟨x0, x1, rfl⟩
        obtain ⟨n0, k0⟩ := hk rfl x0 (by simp)
        obtain ⟨n1, k1⟩ := hk rfl x1 (by simp)
        refine iteF ?_
        refine ⟨.ref a, rfl, a, _, 0, x0, rfl, rfl, ht, atI_nat (j := 0) rfl, x0, n0, rfl, k0, _, rfl, ?_⟩
        refine ite2 (fun c => iteT ?_) (fun c => ?_)
        · have c2 : isI x0 = false := by simpa using c
          have e2 : ratOf [x0, x1] = none := by
            unfold ratOf
            split
            · rename_i e
              cases e
              cases c2
            · rfl
          rw [e2] at q
          exact q
        · have c2 : isI x0 = true := by simpa using c
          obtain ⟨i0, rfl⟩ : ∃ i, x0 = .int i := by
            cases x0 <;> first | exact ⟨_, rfl⟩ | cases c2
          refine ⟨.ref a, rfl, a, _, 1, x1, rfl, rfl, ht, atI_nat (j := 1) rfl, x1, n1, rfl, k1, _, rfl, ?_⟩
          refine ite2 (fun c => ?_) (fun c => ?_)
          · have c2 : isI x1 = false := by simpa using c
            have e2 : ratOf [.int i0, x1] = none := by
              unfold ratOf
              split
              · rename_i e
                cases e
                cases c2
              · rfl
            rw [e2] at q
            exact q
          · have c2 : isI x1 = true := by simpa using c
            obtain ⟨i1, rfl⟩ : ∃ i, x1 = .int i := by
              cases x1 <;> first | exact ⟨_, rfl⟩ | cases c2
            refine ⟨.ref a, rfl, a, _, 1, _, rfl, rfl, ht, atI_nat (j := 1) rfl, i1, 1, rfl, rfl, _, rfl, ?_⟩
            have e3 : (isRef (.ref a) && (ratOf [.int i0, .int i1]).isSome) = (decide (1 ≤ i1) && decide (Nat.gcd i0.natAbs i1.natAbs = 1)) := by
              show (true && (if 1 ≤ i1 ∧ Nat.gcd i0.natAbs i1.natAbs = 1 then some (Rat.divInt i0 i1) else none).isSome) = _
              by_cases c : 1 ≤ i1
              · by_cases d : Nat.gcd i0.natAbs i1.natAbs = 1
                · simp [c, d]
                · simp [c, d]
              · simp [c]
            rw [e3] at q
            refine ite2 (fun c => ?_) (fun c => ?_)
            · have c3 : decide ((1 : Int) ≤ i1) = true := c
              refine ⟨.ref a, rfl, a, _, 0, _, rfl, rfl, ht, atI_nat (j := 0) rfl, .ref a, rfl, a, _, 1, _, rfl, rfl, ht, atI_nat (j := 1) rfl, i0, i1, rfl, rfl, ?_⟩
              rw [c3, Bool.true_and] at q
              have e4 : decide (V.int ((Nat.gcd i0.natAbs i1.natAbs : Nat) : Int) = V.int 1) = decide (Nat.gcd i0.natAbs i1.natAbs = 1) := by
                apply decide_eq_decide.mpr
                rw [V.int.injEq]
                omega
              rw [e4]
              exact q
            · have c3 : decide ((1 : Int) ≤ i1) = false := by simpa using c
              rw [c3, Bool.false_and] at q
              exact q
      · have c3 : (!decide (V.int ((xs.length : Nat) : Int) = V.int 2)) = true := by
          rw [decide_eq_false]
          · rfl
          · rw [V.int.injEq]
            omega
        rw [ratOf_len hl] at q
        refine ite2 (fun _ => q) (fun c => absurd c3 c)
end
end LR
set_option Elab.async false
set_option linter.all false
set_option maxRecDepth 100000
set_option maxHeartbeats 4000000
namespace LR
open PySem PySem.Spec PyProof.Rows L2
section
variable {P : Program} {w : World} {K : PySem.W.Frag} {mg : Str → Option Value} {base : Heap}
theorem Arg.kd {H : Hp} {x : V} {o : Option Rat} (h : Arg K H x o) : ∃ n, Kd K H x n := by
  cases h with
  | int i => exact ⟨_, .int i⟩
  | tup h _ _ => exact ⟨_, .tup (sqt_ty h)⟩
  | oth h _ _ => exact ⟨_, h⟩
/-- what is promised of a def that hands back a number, or raises the error at C -/
def Gives (K : PySem.W.Frag) (C : Addr) (o : Option Rat) (H : Hp) (Q : VK) (E : XK) : Prop := match o with
  | some q => ∀ v H', Same H H' → Rn K H' v q → Q v H'
  | none => E (.ref C) none H
def spAR (K : PySem.W.Frag) (C : Addr) : Sp := fun vs H Q E => ∃ (x : V) (o : Option Rat), vs = [x] ∧ Arg K H x o ∧ Gives K C o H Q E
abbrev BMv : List Value := [.type "ValueError", .type "Exception", .type "BaseException", .type "object"]
abbrev BMa : List Value := [.type "ArithmeticError", .type "Exception", .type "BaseException", .type "object"]
theorem ok_AR {f fI fR C : Addr} {fd dI dR : FuncData} (F : Fun K "as_ratio" "as_ratio" sAR f fd) (DI : DefAt K mg "is_integer" sII ["value"] fI dI) (DR : DefAt K mg "is_ratio" sIR ["value"] fR dR) (X : ErrAt K mg "InvalidNumber" BMv "ValueError.__new__" C)
    (GI : FnOk P w K mg base (CXl P w) 1 fI dI ["value"] (spII K)) (GR : FnOk P w K mg base (CXl P w) 2 fR dR ["value"] (spIR K)) : FnOk P w K mg base (CXl P w) 3 f fd ["value"] (spAR K C) := by
  refine F.okX scAR (fun vs H Q E h => ?_) (fun cdv A outer s H vs Q E hr h => ?_)
  · obtain ⟨x, o, rfl, _⟩ := h
    rfl
  · obtain ⟨x, o, rfl, ha, q⟩ := h
    refine ⟨_, pss_cons (ps_if (pt_val (pe_call GI (hr.mono (by decide)) (by rfl) DI.g DI.F.kp DI.b .nil passL (pa_cons (pv 0) pa_nil))) (pss_one (ps_ret (pe_tup (pa_cons (pv 0) (pa_cons pe_int pa_nil))))) pss_nil)
      (pss_cons (ps_if (pt_val (pe_call GR hr (by rfl) DR.g DR.F.kp DR.b .nil passL (pa_cons (pv 0) pa_nil))) (pss_one (ps_ret (pv 0))) pss_nil)
      (pss_one (ps_raise rfl (takes_of rfl rfl rfl rfl) (X.mk0 PySem.F.excBase_ValueError rfl)))), ?_⟩
    obtain ⟨n, hk⟩ := ha.kd
    refine ⟨x, rfl, x, n, rfl, hk, _, rfl, ?_⟩
    cases ha with
    | int i =>
      refine iteT ⟨_, rfl, by show 2 ≤ sizeLine; decide, fun p np => ?_⟩
      exact q _ _ (same_new np) (Rn.mk (q := (i : Rat)))
    | oth h1 n1 n2 =>
      have e : isI x = false := by
        cases h1 <;> first | rfl | cases n1
      rw [e]
      refine iteF ⟨x, rfl, x, none, rfl, .oth h1 n1 n2, _, rfl, ?_⟩
      exact ite2 (fun c => absurd c (by simp)) (fun _ => q)
    | @tup a xs _ ht hk2 e =>
      refine iteF ⟨_, rfl, _, o, rfl, .tup ht hk2 e, _, rfl, ?_⟩
      cases o with
      | none => exact iteF q
      | some r => exact iteT ⟨_, rfl, q _ _ (Same.refl _) ⟨a, rfl, ratOf_some e ▸ ht⟩⟩

/-! ### ratio -/
/-- a def with defaults, its positional binding -/
structure DefD (K : PySem.W.Frag) (mg : Str → Option Value) (x : Str) (st : Stmt) (ps : List Str) (dvs : List V) (f : Addr) (fd : FuncData) : Prop where
  F : FunD K x x (defArgs st) (defBody st) (defScope st) dvs [] f fd
  g : mg x = some (.ref f)
  b : Binds K fd ps []
/-- what is promised of ratio(x, y) -/
def GivesR (K : PySem.W.Frag) (C1 C2 : Addr) (x y : V) (H : Hp) (Q : VK) (E : XK) : Prop := match x, y with
  | .int n, .int d => if d = 0 then E (.ref C2) none H else (n.natAbs < 2 ^ 8000 ∧ d.natAbs < 2 ^ 8000) ∧ ∀ v H', Same H H' → Rn K H' v (Rat.divInt n d) → Q v H'
  | _, _ => E (.ref C1) none H
def spRatio (K : PySem.W.Frag) (C1 C2 : Addr) : Sp := fun vs H Q E => ∃ (x y : V) (n m : String), vs = [x, y] ∧ Kd K H x n ∧ Kd K H y m ∧ GivesR K C1 C2 x y H Q E
theorem givesR_ok {C1 C2 : Addr} {n d : Int} {H : Hp} {Q : VK} {E : XK} (hd : d ≠ 0) (h1 : n.natAbs < 2 ^ 8000) (h2 : d.natAbs < 2 ^ 8000) (q : ∀ v H', Same H H' → Rn K H' v (Rat.divInt n d) → Q v H') : GivesR K C1 C2 (.int n) (.int d) H Q E := by
  show if d = 0 then _ else _
  rw [if_neg hd]
  exact ⟨⟨h1, h2⟩, q⟩
theorem givesR_z {C1 C2 : Addr} {n d : Int} {H : Hp} {Q : VK} {E : XK} (hd : d = 0) (q : E (.ref C2) none H) : GivesR K C1 C2 (.int n) (.int d) H Q E := by
  show if d = 0 then _ else _
  rw [if_pos hd]
  exact q
theorem givesR_l {C1 C2 : Addr} {x y : V} {H : Hp} {Q : VK} {E : XK} (h : isI x = false) (q : GivesR K C1 C2 x y H Q E) : E (.ref C1) none H := by
  cases x <;> first | exact q | cases h
theorem givesR_r {C1 C2 : Addr} {x y : V} {H : Hp} {Q : VK} {E : XK} (h : isI y = false) (q : GivesR K C1 C2 x y H Q E) : E (.ref C1) none H := by
  cases x <;> first | exact q | (cases y <;> first | exact q | cases h)
theorem ok_Ratio {f fI C1 C2 : Addr} {fd dI : FuncData} (D : DefD K mg "ratio" sRatio ["numerator", "denominator"] [.int 1] f fd) (DI : DefAt K mg "is_integer" sII ["value"] fI dI) (X1 : ErrAt K mg "InvalidNumber" BMv "ValueError.__new__" C1) (X2 : ErrAt K mg "DivisionByZero" BMa "ArithmeticError.__new__" C2)
    (mgc : mg "gcd" = some (.builtin "math.gcd")) (GI : FnOk P w K mg base (CXl P w) 1 fI dI ["value"] (spII K)) : FnOk P w K mg base (CXl P w) 2 f fd ["numerator", "denominator"] (spRatio K C1 C2) := by
  refine D.F.ok scRatio (fun vs H Q E h => ?_) (fun cdv A outer s H vs Q E hr h => ?_)
  · obtain ⟨x, y, _, _, rfl, _⟩ := h
    rfl
  · obtain ⟨x, y, kn, km, rfl, k1, k2, q⟩ := h
    refine ⟨_, pss_cons (ps_if (PW.pt (pw_or (pt_not (pt_val (pe_call GI hr (by rfl) DI.g DI.F.kp DI.b .nil passL (pa_cons (pv 0) pa_nil))))
        (pw_or1 (pt_not (pt_val (pe_call GI hr (by rfl) DI.g DI.F.kp DI.b .nil passL (pa_cons (pv 1) pa_nil))))))) (pss_one (ps_raise rfl (takes_of rfl rfl rfl rfl) (X1.mk0 PySem.F.excBase_ValueError rfl))) pss_nil)
      (pss_cons (ps_if (pt_cmpR op_eq (pv 1) pe_int (nomark _)) (pss_one (ps_raise rfl (takes_of rfl rfl rfl rfl) (X2.mk0 PySem.F.excBase_ArithmeticError rfl))) pss_nil)
      (pss_cons (ps_set (i := 2) scRatio.nd rfl (.inl rfl) (pe_callBfun cr_gcd (by rfl) mgc (pa_cons (pv 0) (pa_cons (pv 1) pa_nil))))
      (pss_cons (ps_if (pt_cmpR op_lt (pv 1) pe_int (nomark _)) (pss_one (ps_set (i := 2) scRatio.nd rfl (.inl rfl) (pe_un un_neg (pv 2)))) pss_nil)
      (pss_one (ps_ret (pe_tup (pa_cons (pe_op op_fdivA (pv 0) (pv 2)) (pa_cons (pe_op op_fdivA (pv 1) (pv 2)) pa_nil)))))))), ?_⟩
    refine ⟨_, rfl, _, kn, rfl, k1, _, rfl, ?_⟩
    by_cases i1 : isI x = true
    · obtain ⟨n, rfl⟩ : ∃ i, x = .int i := by
        cases x <;> first | exact ⟨_, rfl⟩ | cases i1
      refine iteF ⟨_, rfl, _, km, rfl, k2, _, rfl, ?_⟩
      by_cases i2 : isI y = true
      · obtain ⟨d, rfl⟩ : ∃ i, y = .int i := by
          cases y <;> first | exact ⟨_, rfl⟩ | cases i2
        refine iteF ⟨_, rfl, rfl, _, rfl, ?_⟩
        by_cases hd : d = 0
        · subst hd
          refine ite2 (fun _ => q) (fun c => absurd (decide_eq_true rfl) c)
        have q' : (n.natAbs < 2 ^ 8000 ∧ d.natAbs < 2 ^ 8000) ∧ ∀ v H', Same H H' → Rn K H' v (Rat.divInt n d) → Q v H' := by
          have q0 : if d = 0 then _ else _ := q
          rw [if_neg hd] at q0
          exact q0
        obtain ⟨⟨hn, hdd⟩, q⟩ := q'
        refine ite2 (fun c => absurd (V.int.inj (of_decide_eq_true c)) hd) (fun _ => ⟨_, rfl, _, rfl, n, d, rfl, ?_⟩)
        have fin : ∀ z : Int, z = sdiv n d → ∃ v, [some (V.int n), some (V.int d), some (V.int z)][0]? = some (some v) ∧ ∃ v2, [some (V.int n), some (V.int d), some (V.int z)][2]? = some (some v2) ∧ rI CDivA (fun i j => V.int (i.fdiv j)) v v2 H fun x H1 =>
            ∃ v3, [some (V.int n), some (V.int d), some (V.int z)][1]? = some (some v3) ∧ ∃ v4, [some (V.int n), some (V.int d), some (V.int z)][2]? = some (some v4) ∧ rI CDivA (fun i j => V.int (i.fdiv j)) v3 v4 H1 fun y H2 => [x, y].length ≤ sizeLine ∧ ∀ p, H2 p = none → Q (.ref p) (upd H2 p (.tup [x, y])) := by
          intro z hz
          have hzn : z ≠ 0 := hz ▸ sdiv_ne hd
          have hzs : z.natAbs < 2 ^ 8000 := by
            rw [hz, sdiv_abs]
            exact Nat.lt_of_le_of_lt (Nat.gcd_le_right _ (Int.natAbs_pos.mpr hd)) hdd
          have c : ∀ i, CDivA i z := fun i => divA hzn hzs (by decide) (by decide)
          refine ⟨_, rfl, _, rfl, n, z, rfl, rfl, c n, _, rfl, _, rfl, d, z, rfl, rfl, c d, by show 2 ≤ sizeLine; decide, fun p np => ?_⟩
          show Q (.ref p) (upd H p (.tup [.int (n.fdiv z), .int (d.fdiv z)]))
          rw [hz, sdiv_num hd, sdiv_den hd]
          exact q _ _ (same_new np) Rn.mk
        refine ⟨_, rfl, _, _, rfl, rfl, _, rfl, ite2 (fun c => ?_) (fun c => ?_)⟩
        · have c1 : d < 0 := of_decide_eq_true c
          refine ⟨_, rfl, _, rfl, ?_⟩
          refine fin _ ?_
          unfold sdiv
          rw [if_pos c1]
        · have c1 : ¬ d < 0 := fun z => c (decide_eq_true z)
          refine fin _ ?_
          unfold sdiv
          rw [if_neg c1]
      · have c2 : isI y = false := by simpa using i2
        rw [c2]
        exact iteT (givesR_r c2 q)
    · have c2 : isI x = false := by simpa using i1
      rw [c2]
      exact iteT (givesR_l c2 q)
end
end LR
set_option Elab.async false
set_option linter.all false
set_option maxRecDepth 100000
set_option maxHeartbeats 4000000
namespace LR
open PySem PySem.Spec PyProof.Rows L2
/-! ### sizes of products -/
theorem p78 : 2 ^ 7800 < 2 ^ 8000 := Nat.pow_lt_pow_right (by decide) (by decide)
theorem wm {x y : Int} (hx : x.natAbs < 2 ^ 3900) (hy : y.natAbs < 2 ^ 3900) : CMulW x y := wide_mul hx hy (by decide) (by decide) (by decide)
theorem szM {x y : Int} (hx : x.natAbs < 2 ^ 3900) (hy : y.natAbs < 2 ^ 3900) : (x * y).natAbs < 2 ^ 7800 := wide_lt hx hy
theorem szA {x y : Int} (hx : x.natAbs < 2 ^ 7800) (hy : y.natAbs < 2 ^ 7800) : (x + y).natAbs < 2 ^ 8000 :=
  Nat.lt_trans (Nat.lt_of_le_of_lt (Int.natAbs_add_le _ _) (add_lt hx hy)) (Nat.pow_lt_pow_right (by decide) (by decide))
theorem szB {x y : Int} (hx : x.natAbs < 2 ^ 7800) (hy : y.natAbs < 2 ^ 7800) : (x - y).natAbs < 2 ^ 8000 := by
  rw [Int.sub_eq_add_neg]
  exact szA hx (by rw [Int.natAbs_neg]; exact hy)
section
variable {P : Program} {w : World} {K : PySem.W.Frag} {mg : Str → Option Value} {base : Heap}
/-- of two numbers: a number, where they are numbers (and not too great); else the error -/
def Gives2 (K : PySem.W.Frag) (C : Addr) (f : Rat → Rat → Rat) (o1 o2 : Option Rat) (H : Hp) (Q : VK) (E : XK) : Prop := match o1, o2 with
  | some p, some q => (Sz 3900 p ∧ Sz 3900 q) ∧ ∀ v H', Same H H' → Rn K H' v (f p q) → Q v H'
  | _, _ => ∀ H', Same H H' → E (.ref C) none H'
def spTwo (K : PySem.W.Frag) (C : Addr) (f : Rat → Rat → Rat) : Sp := fun vs H Q E => ∃ (x y : V) (o1 o2 : Option Rat), vs = [x, y] ∧ Arg K H x o1 ∧ Arg K H y o2 ∧ Gives2 K C f o1 o2 H Q E

abbrev s_plus : Stmt := topS 15
theorem sc_plus : FnScope ["first", "second", "top", "bottom", "other_top", "other_bottom"] ["first", "second"] (defScope s_plus) := ⟨rfl, rfl, rfl, by decide +kernel, rfl, by decide +kernel, by decide +kernel⟩
abbrev sp_plus (K : PySem.W.Frag) (C : Addr) : Sp := spTwo K C (fun p q => p + q)
theorem ok_plus {f fA fR C C2 : Addr} {fd dA dR : FuncData} (D : DefAt K mg "plus" s_plus ["first", "second"] f fd) (DA : DefAt K mg "as_ratio" sAR ["value"] fA dA) (DR : DefD K mg "ratio" sRatio ["numerator", "denominator"] [.int 1] fR dR)
    (GA : FnOk P w K mg base (CXl P w) 3 fA dA ["value"] (spAR K C)) (GR : FnOk P w K mg base (CXl P w) 2 fR dR ["numerator", "denominator"] (spRatio K C C2)) : FnOk P w K mg base (CXl P w) 4 f fd ["first", "second"] (sp_plus K C) := by
  refine D.F.okX sc_plus (fun vs H Q E h => ?_) (fun cdv A outer s H vs Q E hr h => ?_)
  · obtain ⟨x, y, o1, o2, rfl, _⟩ := h
    rfl
  · obtain ⟨x, y, o1, o2, rfl, h1, h2, q⟩ := h
    refine ⟨_, pss_cons (ps_asg (pe_call GA hr (by rfl) DA.g DA.F.kp DA.b .nil (passes_call (takes_of rfl rfl rfl rfl) fun _ _ _ _ h => h) (pa_cons (pv 0) pa_nil)) (pg_tup (by rfl) (pgs_cons (pg_name (i := 2) sc_plus.nd rfl (.inl rfl)) (pgs_cons (pg_name (i := 3) sc_plus.nd rfl (.inl rfl)) pgs_nil))))
      (pss_cons (ps_asg (pe_call GA hr (by rfl) DA.g DA.F.kp DA.b .nil (passes_call (takes_of rfl rfl rfl rfl) fun _ _ _ _ h => h) (pa_cons (pv 1) pa_nil)) (pg_tup (by rfl) (pgs_cons (pg_name (i := 4) sc_plus.nd rfl (.inl rfl)) (pgs_cons (pg_name (i := 5) sc_plus.nd rfl (.inl rfl)) pgs_nil))))
      (pss_one (ps_ret (pe_call GR (hr.mono (by decide)) (by rfl) DR.g DR.F.kp DR.b .nil passL (pa_cons (pe_op op_add (pe_op op_mulW (pv 2) (pv 5)) (pe_op op_mulW (pv 4) (pv 3))) (pa_cons (pe_op op_mulW (pv 3) (pv 5)) pa_nil)))))), ?_⟩
    refine ⟨x, rfl, x, o1, rfl, h1, ?_⟩
    cases o1 with
    | none => cases o2 <;> exact q H (Same.refl _)
    | some p =>
      intro v1 H1 s1 r1
      obtain ⟨a, rfl, t1⟩ := r1
      refine ⟨a, rt p, rfl, t1, rfl, .int p.num, _, rfl, .int p.den, _, rfl, rfl, ?_⟩
      refine ⟨y, rfl, y, o2, rfl, h2.same s1, ?_⟩
      cases o2 with
      | none => exact q H1 s1
      | some q' =>
        obtain ⟨⟨hp, hq⟩, q⟩ := q
        intro v2 H2 s2 r2
        obtain ⟨b, rfl, t2⟩ := r2
        refine ⟨b, rt q', rfl, t2, rfl, .int q'.num, _, rfl, .int q'.den, _, rfl, rfl, ?_⟩
        refine ⟨_, rfl, _, rfl, _, _, rfl, rfl, wm hp.1 hq.2, _, rfl, _, rfl, _, _, rfl, rfl, wm hq.1 hp.2, _, _, rfl, rfl, _, rfl, _, rfl, _, _, rfl, rfl, wm hp.2 hq.2, ?_⟩
        refine ⟨_, _, "int", "int", rfl, .int _, .int _, givesR_ok (den_ne p q') ?_ ?_ fun v H' s' r => ?_⟩
        · exact szA (szM hp.1 hq.2) (szM hq.1 hp.2)
        · exact Nat.lt_trans (szM hp.2 hq.2) p78
        · rw [← add_as p q'] at r
          exact q v H' ((s1.trans s2).trans s') r

abbrev s_minus : Stmt := topS 16
theorem sc_minus : FnScope ["first", "second", "top", "bottom", "other_top", "other_bottom"] ["first", "second"] (defScope s_minus) := ⟨rfl, rfl, rfl, by decide +kernel, rfl, by decide +kernel, by decide +kernel⟩
abbrev sp_minus (K : PySem.W.Frag) (C : Addr) : Sp := spTwo K C (fun p q => p - q)
theorem ok_minus {f fA fR C C2 : Addr} {fd dA dR : FuncData} (D : DefAt K mg "minus" s_minus ["first", "second"] f fd) (DA : DefAt K mg "as_ratio" sAR ["value"] fA dA) (DR : DefD K mg "ratio" sRatio ["numerator", "denominator"] [.int 1] fR dR)
    (GA : FnOk P w K mg base (CXl P w) 3 fA dA ["value"] (spAR K C)) (GR : FnOk P w K mg base (CXl P w) 2 fR dR ["numerator", "denominator"] (spRatio K C C2)) : FnOk P w K mg base (CXl P w) 4 f fd ["first", "second"] (sp_minus K C) := by
  refine D.F.okX sc_minus (fun vs H Q E h => ?_) (fun cdv A outer s H vs Q E hr h => ?_)
  · obtain ⟨x, y, o1, o2, rfl, _⟩ := h
    rfl
  · obtain ⟨x, y, o1, o2, rfl, h1, h2, q⟩ := h
    refine ⟨_, pss_cons (ps_asg (pe_call GA hr (by rfl) DA.g DA.F.kp DA.b .nil (passes_call (takes_of rfl rfl rfl rfl) fun _ _ _ _ h => h) (pa_cons (pv 0) pa_nil)) (pg_tup (by rfl) (pgs_cons (pg_name (i := 2) sc_minus.nd rfl (.inl rfl)) (pgs_cons (pg_name (i := 3) sc_minus.nd rfl (.inl rfl)) pgs_nil))))
      (pss_cons (ps_asg (pe_call GA hr (by rfl) DA.g DA.F.kp DA.b .nil (passes_call (takes_of rfl rfl rfl rfl) fun _ _ _ _ h => h) (pa_cons (pv 1) pa_nil)) (pg_tup (by rfl) (pgs_cons (pg_name (i := 4) sc_minus.nd rfl (.inl rfl)) (pgs_cons (pg_name (i := 5) sc_minus.nd rfl (.inl rfl)) pgs_nil))))
      (pss_one (ps_ret (pe_call GR (hr.mono (by decide)) (by rfl) DR.g DR.F.kp DR.b .nil passL (pa_cons (pe_op op_sub (pe_op op_mulW (pv 2) (pv 5)) (pe_op op_mulW (pv 4) (pv 3))) (pa_cons (pe_op op_mulW (pv 3) (pv 5)) pa_nil)))))), ?_⟩
    refine ⟨x, rfl, x, o1, rfl, h1, ?_⟩
    cases o1 with
    | none => cases o2 <;> exact q H (Same.refl _)
    | some p =>
      intro v1 H1 s1 r1
      obtain ⟨a, rfl, t1⟩ := r1
      refine ⟨a, rt p, rfl, t1, rfl, .int p.num, _, rfl, .int p.den, _, rfl, rfl, ?_⟩
      refine ⟨y, rfl, y, o2, rfl, h2.same s1, ?_⟩
      cases o2 with
      | none => exact q H1 s1
      | some q' =>
        obtain ⟨⟨hp, hq⟩, q⟩ := q
        intro v2 H2 s2 r2
        obtain ⟨b, rfl, t2⟩ := r2
        refine ⟨b, rt q', rfl, t2, rfl, .int q'.num, _, rfl, .int q'.den, _, rfl, rfl, ?_⟩
        refine ⟨_, rfl, _, rfl, _, _, rfl, rfl, wm hp.1 hq.2, _, rfl, _, rfl, _, _, rfl, rfl, wm hq.1 hp.2, _, _, rfl, rfl, _, rfl, _, rfl, _, _, rfl, rfl, wm hp.2 hq.2, ?_⟩
        refine ⟨_, _, "int", "int", rfl, .int _, .int _, givesR_ok (den_ne p q') ?_ ?_ fun v H' s' r => ?_⟩
        · exact szB (szM hp.1 hq.2) (szM hq.1 hp.2)
        · exact Nat.lt_trans (szM hp.2 hq.2) p78
        · rw [← sub_as p q'] at r
          exact q v H' ((s1.trans s2).trans s') r

abbrev s_times : Stmt := topS 17
theorem sc_times : FnScope ["first", "second", "top", "bottom", "other_top", "other_bottom"] ["first", "second"] (defScope s_times) := ⟨rfl, rfl, rfl, by decide +kernel, rfl, by decide +kernel, by decide +kernel⟩
abbrev sp_times (K : PySem.W.Frag) (C : Addr) : Sp := spTwo K C (fun p q => p * q)
theorem ok_times {f fA fR C C2 : Addr} {fd dA dR : FuncData} (D : DefAt K mg "times" s_times ["first", "second"] f fd) (DA : DefAt K mg "as_ratio" sAR ["value"] fA dA) (DR : DefD K mg "ratio" sRatio ["numerator", "denominator"] [.int 1] fR dR)
    (GA : FnOk P w K mg base (CXl P w) 3 fA dA ["value"] (spAR K C)) (GR : FnOk P w K mg base (CXl P w) 2 fR dR ["numerator", "denominator"] (spRatio K C C2)) : FnOk P w K mg base (CXl P w) 4 f fd ["first", "second"] (sp_times K C) := by
  refine D.F.okX sc_times (fun vs H Q E h => ?_) (fun cdv A outer s H vs Q E hr h => ?_)
  · obtain ⟨x, y, o1, o2, rfl, _⟩ := h
    rfl
  · obtain ⟨x, y, o1, o2, rfl, h1, h2, q⟩ := h
    refine ⟨_, pss_cons (ps_asg (pe_call GA hr (by rfl) DA.g DA.F.kp DA.b .nil (passes_call (takes_of rfl rfl rfl rfl) fun _ _ _ _ h => h) (pa_cons (pv 0) pa_nil)) (pg_tup (by rfl) (pgs_cons (pg_name (i := 2) sc_times.nd rfl (.inl rfl)) (pgs_cons (pg_name (i := 3) sc_times.nd rfl (.inl rfl)) pgs_nil))))
      (pss_cons (ps_asg (pe_call GA hr (by rfl) DA.g DA.F.kp DA.b .nil (passes_call (takes_of rfl rfl rfl rfl) fun _ _ _ _ h => h) (pa_cons (pv 1) pa_nil)) (pg_tup (by rfl) (pgs_cons (pg_name (i := 4) sc_times.nd rfl (.inl rfl)) (pgs_cons (pg_name (i := 5) sc_times.nd rfl (.inl rfl)) pgs_nil))))
      (pss_one (ps_ret (pe_call GR (hr.mono (by decide)) (by rfl) DR.g DR.F.kp DR.b .nil passL (pa_cons (pe_op op_mulW (pv 2) (pv 4)) (pa_cons (pe_op op_mulW (pv 3) (pv 5)) pa_nil)))))), ?_⟩
    refine ⟨x, rfl, x, o1, rfl, h1, ?_⟩
    cases o1 with
    | none => cases o2 <;> exact q H (Same.refl _)
    | some p =>
      intro v1 H1 s1 r1
      obtain ⟨a, rfl, t1⟩ := r1
      refine ⟨a, rt p, rfl, t1, rfl, .int p.num, _, rfl, .int p.den, _, rfl, rfl, ?_⟩
      refine ⟨y, rfl, y, o2, rfl, h2.same s1, ?_⟩
      cases o2 with
      | none => exact q H1 s1
      | some q' =>
        obtain ⟨⟨hp, hq⟩, q⟩ := q
        intro v2 H2 s2 r2
        obtain ⟨b, rfl, t2⟩ := r2
        refine ⟨b, rt q', rfl, t2, rfl, .int q'.num, _, rfl, .int q'.den, _, rfl, rfl, ?_⟩
        refine ⟨_, rfl, _, rfl, _, _, rfl, rfl, wm hp.1 hq.1, _, rfl, _, rfl, _, _, rfl, rfl, wm hp.2 hq.2, ?_⟩
        refine ⟨_, _, "int", "int", rfl, .int _, .int _, givesR_ok (den_ne p q') ?_ ?_ fun v H' s' r => ?_⟩
        · exact Nat.lt_trans (szM hp.1 hq.1) p78
        · exact Nat.lt_trans (szM hp.2 hq.2) p78
        · rw [← mul_as p q'] at r
          exact q v H' ((s1.trans s2).trans s') r

end
end LR
set_option Elab.async false
set_option linter.all false
set_option maxRecDepth 100000
set_option maxHeartbeats 4000000
namespace LR
open PySem PySem.Spec PyProof.Rows L2
section
variable {P : Program} {w : World} {K : PySem.W.Frag} {mg : Str → Option Value} {base : Heap}
/-! ### divided -/
abbrev s_divided : Stmt := topS 18
theorem sc_divided : FnScope ["first", "second", "top", "bottom", "other_top", "other_bottom"] ["first", "second"] (defScope s_divided) := ⟨rfl, rfl, rfl, by decide +kernel, rfl, by decide +kernel, by decide +kernel⟩
def GivesDiv (K : PySem.W.Frag) (C C2 : Addr) (o1 o2 : Option Rat) (H : Hp) (Q : VK) (E : XK) : Prop := match o1, o2 with
  | some p, some q => (Sz 3900 p ∧ Sz 3900 q) ∧ (q = 0 → ∀ H', Same H H' → E (.ref C2) none H') ∧ (q ≠ 0 → ∀ v H', Same H H' → Rn K H' v (p / q) → Q v H')
  | _, _ => ∀ H', Same H H' → E (.ref C) none H'
def sp_divided (K : PySem.W.Frag) (C C2 : Addr) : Sp := fun vs H Q E => ∃ (x y : V) (o1 o2 : Option Rat), vs = [x, y] ∧ Arg K H x o1 ∧ Arg K H y o2 ∧ GivesDiv K C C2 o1 o2 H Q E
theorem ok_divided {f fA fR C C2 : Addr} {fd dA dR : FuncData} (D : DefAt K mg "divided" s_divided ["first", "second"] f fd) (DA : DefAt K mg "as_ratio" sAR ["value"] fA dA) (DR : DefD K mg "ratio" sRatio ["numerator", "denominator"] [.int 1] fR dR)
    (GA : FnOk P w K mg base (CXl P w) 3 fA dA ["value"] (spAR K C)) (GR : FnOk P w K mg base (CXl P w) 2 fR dR ["numerator", "denominator"] (spRatio K C C2)) : FnOk P w K mg base (CXl P w) 4 f fd ["first", "second"] (sp_divided K C C2) := by
  refine D.F.okX sc_divided (fun vs H Q E h => ?_) (fun cdv A outer s H vs Q E hr h => ?_)
  · obtain ⟨x, y, o1, o2, rfl, _⟩ := h
    rfl
  · obtain ⟨x, y, o1, o2, rfl, h1, h2, q⟩ := h
    refine ⟨_, pss_cons (ps_asg (pe_call GA hr (by rfl) DA.g DA.F.kp DA.b .nil (passes_call (takes_of rfl rfl rfl rfl) fun _ _ _ _ h => h) (pa_cons (pv 0) pa_nil)) (pg_tup (by rfl) (pgs_cons (pg_name (i := 2) sc_divided.nd rfl (.inl rfl)) (pgs_cons (pg_name (i := 3) sc_divided.nd rfl (.inl rfl)) pgs_nil))))
      (pss_cons (ps_asg (pe_call GA hr (by rfl) DA.g DA.F.kp DA.b .nil (passes_call (takes_of rfl rfl rfl rfl) fun _ _ _ _ h => h) (pa_cons (pv 1) pa_nil)) (pg_tup (by rfl) (pgs_cons (pg_name (i := 4) sc_divided.nd rfl (.inl rfl)) (pgs_cons (pg_name (i := 5) sc_divided.nd rfl (.inl rfl)) pgs_nil))))
      (pss_one (ps_ret (pe_call GR (hr.mono (by decide)) (by rfl) DR.g DR.F.kp DR.b .nil (passes_call (takes_of rfl rfl rfl rfl) fun _ _ _ _ h => h) (pa_cons (pe_op op_mulW (pv 2) (pv 5)) (pa_cons (pe_op op_mulW (pv 3) (pv 4)) pa_nil)))))), ?_⟩
    refine ⟨x, rfl, x, o1, rfl, h1, ?_⟩
    cases o1 with
    | none => cases o2 <;> exact q H (Same.refl _)
    | some p =>
      intro v1 H1 s1 r1
      obtain ⟨a, rfl, t1⟩ := r1
      refine ⟨a, rt p, rfl, t1, rfl, .int p.num, _, rfl, .int p.den, _, rfl, rfl, ?_⟩
      refine ⟨y, rfl, y, o2, rfl, h2.same s1, ?_⟩
      cases o2 with
      | none => exact q H1 s1
      | some q' =>
        obtain ⟨⟨hp, hq⟩, qz, qn⟩ := q
        intro v2 H2 s2 r2
        obtain ⟨b, rfl, t2⟩ := r2
        refine ⟨b, rt q', rfl, t2, rfl, .int q'.num, _, rfl, .int q'.den, _, rfl, rfl, ?_⟩
        refine ⟨_, rfl, _, rfl, _, _, rfl, rfl, wm hp.1 hq.2, _, rfl, _, rfl, _, _, rfl, rfl, wm hp.2 hq.1, ?_⟩
        by_cases hz : q' = 0
        · subst hz
          exact ⟨_, _, "int", "int", rfl, .int _, .int _, givesR_z (by simp) (qz rfl H2 (s1.trans s2))⟩
        · refine ⟨_, _, "int", "int", rfl, .int _, .int _, givesR_ok (div_den_ne hz) (Nat.lt_trans (szM hp.1 hq.2) p78) (Nat.lt_trans (szM hp.2 hq.1) p78) fun v H' s' r => ?_⟩
          have r := r
          rw [← div_as p q'] at r
          exact qn hz v H' ((s1.trans s2).trans s') r

/-! ### compare -/
abbrev s_compare : Stmt := topS 19
theorem sc_compare : FnScope ["first", "second", "top", "bottom", "other_top", "other_bottom", "left", "right"] ["first", "second"] (defScope s_compare) := ⟨rfl, rfl, rfl, by decide +kernel, rfl, by decide +kernel, by decide +kernel⟩
/-- -1, 0 or 1 -/
def cmpR (p q : Rat) : Int := if p < q then -1 else if q < p then 1 else 0
def GivesC (K : PySem.W.Frag) (C : Addr) (o1 o2 : Option Rat) (H : Hp) (Q : VK) (E : XK) : Prop := match o1, o2 with
  | some p, some q => (Sz 3900 p ∧ Sz 3900 q) ∧ ∀ H', Same H H' → Q (.int (cmpR p q)) H'
  | _, _ => ∀ H', Same H H' → E (.ref C) none H'
def sp_compare (K : PySem.W.Frag) (C : Addr) : Sp := fun vs H Q E => ∃ (x y : V) (o1 o2 : Option Rat), vs = [x, y] ∧ Arg K H x o1 ∧ Arg K H y o2 ∧ GivesC K C o1 o2 H Q E
theorem ok_compare {f fA C : Addr} {fd dA : FuncData} (D : DefAt K mg "compare" s_compare ["first", "second"] f fd) (DA : DefAt K mg "as_ratio" sAR ["value"] fA dA)
    (GA : FnOk P w K mg base (CXl P w) 3 fA dA ["value"] (spAR K C)) : FnOk P w K mg base (CXl P w) 4 f fd ["first", "second"] (sp_compare K C) := by
  refine D.F.okX sc_compare (fun vs H Q E h => ?_) (fun cdv A outer s H vs Q E hr h => ?_)
  · obtain ⟨x, y, o1, o2, rfl, _⟩ := h
    rfl
  · obtain ⟨x, y, o1, o2, rfl, h1, h2, q⟩ := h
    refine ⟨_, pss_cons (ps_asg (pe_call GA hr (by rfl) DA.g DA.F.kp DA.b .nil (passes_call (takes_of rfl rfl rfl rfl) fun _ _ _ _ h => h) (pa_cons (pv 0) pa_nil)) (pg_tup (by rfl) (pgs_cons (pg_name (i := 2) sc_compare.nd rfl (.inl rfl)) (pgs_cons (pg_name (i := 3) sc_compare.nd rfl (.inl rfl)) pgs_nil))))
      (pss_cons (ps_asg (pe_call GA hr (by rfl) DA.g DA.F.kp DA.b .nil (passes_call (takes_of rfl rfl rfl rfl) fun _ _ _ _ h => h) (pa_cons (pv 1) pa_nil)) (pg_tup (by rfl) (pgs_cons (pg_name (i := 4) sc_compare.nd rfl (.inl rfl)) (pgs_cons (pg_name (i := 5) sc_compare.nd rfl (.inl rfl)) pgs_nil))))
      (pss_cons (ps_par (i := 6) (j := 7) rfl sc_compare.nd rfl rfl (by decide) rfl rfl (pa_cons (pe_op op_mulW (pv 2) (pv 5)) (pa_cons (pe_op op_mulW (pv 4) (pv 3)) pa_nil)) (by rfl))
      (pss_cons (ps_if (pt_cmpR op_lt (pv 6) (pv 7) (nomark _)) (pss_one (ps_ret (pe_un un_neg pe_int))) pss_nil)
      (pss_cons (ps_if (pt_cmpR op_gt (pv 6) (pv 7) (nomark _)) (pss_one (ps_ret pe_int)) pss_nil)
      (pss_one (ps_ret pe_int)))))), ?_⟩
    refine ⟨x, rfl, x, o1, rfl, h1, ?_⟩
    cases o1 with
    | none => cases o2 <;> exact q H (Same.refl _)
    | some p =>
      intro v1 H1 s1 r1
      obtain ⟨a, rfl, t1⟩ := r1
      refine ⟨a, rt p, rfl, t1, rfl, .int p.num, _, rfl, .int p.den, _, rfl, rfl, ?_⟩
      refine ⟨y, rfl, y, o2, rfl, h2.same s1, ?_⟩
      cases o2 with
      | none => exact q H1 s1
      | some q' =>
        obtain ⟨⟨hp, hq⟩, q⟩ := q
        intro v2 H2 s2 r2
        obtain ⟨b, rfl, t2⟩ := r2
        refine ⟨b, rt q', rfl, t2, rfl, .int q'.num, _, rfl, .int q'.den, _, rfl, rfl, ?_⟩
        refine ⟨_, rfl, _, rfl, _, _, rfl, rfl, wm hp.1 hq.2, _, rfl, _, rfl, _, _, rfl, rfl, wm hq.1 hp.2, _, _, rfl, ?_⟩
        have qq := q H2 (s1.trans s2)
        unfold cmpR at qq
        simp only [Rat.lt_iff] at qq
        refine ⟨_, rfl, _, rfl, _, _, rfl, rfl, _, rfl, ite2 (fun c => ?_) (fun c => ?_)⟩
        · rw [if_pos (of_decide_eq_true c)] at qq
          exact ⟨_, rfl, qq⟩
        · rw [if_neg (fun z => c (decide_eq_true z))] at qq
          refine ⟨_, rfl, _, rfl, _, _, rfl, rfl, _, rfl, ite2 (fun c => ?_) (fun c => ?_)⟩
          · rw [if_pos (of_decide_eq_true c)] at qq
            exact qq
          · rw [if_neg (fun z => c (decide_eq_true z))] at qq
            exact qq

/-! ### floor_of -/
abbrev s_floor : Stmt := topS 20
theorem sc_floor : FnScope ["value", "top", "bottom"] ["value"] (defScope s_floor) := ⟨rfl, rfl, rfl, by decide +kernel, rfl, by decide +kernel, by decide +kernel⟩
def GivesF (K : PySem.W.Frag) (C : Addr) (o1 : Option Rat) (H : Hp) (Q : VK) (E : XK) : Prop := match o1 with
  | some p => Sz 8000 p ∧ ∀ H', Same H H' → Q (.int p.floor) H'
  | none => ∀ H', Same H H' → E (.ref C) none H'
def sp_floor (K : PySem.W.Frag) (C : Addr) : Sp := fun vs H Q E => ∃ (x : V) (o1 : Option Rat), vs = [x] ∧ Arg K H x o1 ∧ GivesF K C o1 H Q E
theorem ok_floor {f fA C : Addr} {fd dA : FuncData} (D : DefAt K mg "floor_of" s_floor ["value"] f fd) (DA : DefAt K mg "as_ratio" sAR ["value"] fA dA)
    (GA : FnOk P w K mg base (CXl P w) 3 fA dA ["value"] (spAR K C)) : FnOk P w K mg base (CXl P w) 4 f fd ["value"] (sp_floor K C) := by
  refine D.F.okX sc_floor (fun vs H Q E h => ?_) (fun cdv A outer s H vs Q E hr h => ?_)
  · obtain ⟨x, o1, rfl, _⟩ := h
    rfl
  · obtain ⟨x, o1, rfl, h1, q⟩ := h
    refine ⟨_, pss_cons (ps_asg (pe_call GA hr (by rfl) DA.g DA.F.kp DA.b .nil (passes_call (takes_of rfl rfl rfl rfl) fun _ _ _ _ h => h) (pa_cons (pv 0) pa_nil)) (pg_tup (by rfl) (pgs_cons (pg_name (i := 1) sc_floor.nd rfl (.inl rfl)) (pgs_cons (pg_name (i := 2) sc_floor.nd rfl (.inl rfl)) pgs_nil))))
      (pss_one (ps_ret (pe_op op_fdivA (pv 1) (pv 2)))), ?_⟩
    refine ⟨x, rfl, x, o1, rfl, h1, ?_⟩
    cases o1 with
    | none => exact q H (Same.refl _)
    | some p =>
      obtain ⟨hp, q⟩ := q
      intro v1 H1 s1 r1
      obtain ⟨a, rfl, t1⟩ := r1
      refine ⟨a, rt p, rfl, t1, rfl, .int p.num, _, rfl, .int p.den, _, rfl, rfl, ?_⟩
      have d1 := den_pos p
      refine ⟨_, rfl, _, rfl, _, _, rfl, rfl, divA (b := 8000) (by omega) (by rw [Int.natAbs_natCast]; exact hp.2) (by decide) (by decide), ?_⟩
      show Q (.int (p.num.fdiv p.den)) H1
      rw [Int.fdiv_eq_ediv_of_nonneg _ (Int.natCast_nonneg _), ← Rat.floor_def]
      exact q H1 s1

/-! ### remainder -/
abbrev s_rem : Stmt := topS 21
theorem sc_rem : FnScope ["value", "modulus", "top", "bottom", "other_top", "other_bottom"] ["value", "modulus"] (defScope s_rem) := ⟨rfl, rfl, rfl, by decide +kernel, rfl, by decide +kernel, by decide +kernel⟩
def GivesM (K : PySem.W.Frag) (C C2 : Addr) (o1 o2 : Option Rat) (H : Hp) (Q : VK) (E : XK) : Prop := match o1, o2 with
  | some p, some q => (Sz 3900 p ∧ Sz 3900 q) ∧ (q ≤ 0 → ∀ H', Same H H' → E (.ref C2) none H') ∧ (0 < q → ∀ v H', Same H H' → Rn K H' v (rem p q) → Q v H')
  | _, _ => ∀ H', Same H H' → E (.ref C) none H'
def sp_rem (K : PySem.W.Frag) (C C2 : Addr) : Sp := fun vs H Q E => ∃ (x y : V) (o1 o2 : Option Rat), vs = [x, y] ∧ Arg K H x o1 ∧ Arg K H y o2 ∧ GivesM K C C2 o1 o2 H Q E
theorem ok_rem {f fA fR C C2 : Addr} {fd dA dR : FuncData} (D : DefAt K mg "remainder" s_rem ["value", "modulus"] f fd) (DA : DefAt K mg "as_ratio" sAR ["value"] fA dA) (DR : DefD K mg "ratio" sRatio ["numerator", "denominator"] [.int 1] fR dR) (X2 : ErrAt K mg "DivisionByZero" BMa "ArithmeticError.__new__" C2)
    (GA : FnOk P w K mg base (CXl P w) 3 fA dA ["value"] (spAR K C)) (GR : FnOk P w K mg base (CXl P w) 2 fR dR ["numerator", "denominator"] (spRatio K C C2)) : FnOk P w K mg base (CXl P w) 4 f fd ["value", "modulus"] (sp_rem K C C2) := by
  refine D.F.okX sc_rem (fun vs H Q E h => ?_) (fun cdv A outer s H vs Q E hr h => ?_)
  · obtain ⟨x, y, o1, o2, rfl, _⟩ := h
    rfl
  · obtain ⟨x, y, o1, o2, rfl, h1, h2, q⟩ := h
    refine ⟨_, pss_cons (ps_asg (pe_call GA hr (by rfl) DA.g DA.F.kp DA.b .nil (passes_call (takes_of rfl rfl rfl rfl) fun _ _ _ _ h => h) (pa_cons (pv 0) pa_nil)) (pg_tup (by rfl) (pgs_cons (pg_name (i := 2) sc_rem.nd rfl (.inl rfl)) (pgs_cons (pg_name (i := 3) sc_rem.nd rfl (.inl rfl)) pgs_nil))))
      (pss_cons (ps_asg (pe_call GA hr (by rfl) DA.g DA.F.kp DA.b .nil (passes_call (takes_of rfl rfl rfl rfl) fun _ _ _ _ h => h) (pa_cons (pv 1) pa_nil)) (pg_tup (by rfl) (pgs_cons (pg_name (i := 4) sc_rem.nd rfl (.inl rfl)) (pgs_cons (pg_name (i := 5) sc_rem.nd rfl (.inl rfl)) pgs_nil))))
      (pss_cons (ps_if (pt_cmpR op_le (pv 4) pe_int (nomark _)) (pss_one (ps_raise rfl (takes_of rfl rfl rfl rfl) (X2.mk0 PySem.F.excBase_ArithmeticError rfl))) pss_nil)
      (pss_one (ps_ret (pe_call GR (hr.mono (by decide)) (by rfl) DR.g DR.F.kp DR.b .nil (passes_call (takes_of rfl rfl rfl rfl) fun _ _ _ _ h => h) (pa_cons (pe_op op_modN (pe_op op_mulW (pv 2) (pv 5)) (pe_op op_mulW (pv 4) (pv 3))) (pa_cons (pe_op op_mulW (pv 3) (pv 5)) pa_nil))))))), ?_⟩
    refine ⟨x, rfl, x, o1, rfl, h1, ?_⟩
    cases o1 with
    | none => cases o2 <;> exact q H (Same.refl _)
    | some p =>
      intro v1 H1 s1 r1
      obtain ⟨a, rfl, t1⟩ := r1
      refine ⟨a, rt p, rfl, t1, rfl, .int p.num, _, rfl, .int p.den, _, rfl, rfl, ?_⟩
      refine ⟨y, rfl, y, o2, rfl, h2.same s1, ?_⟩
      cases o2 with
      | none => exact q H1 s1
      | some q' =>
        obtain ⟨⟨hp, hq⟩, qz, qn⟩ := q
        intro v2 H2 s2 r2
        obtain ⟨b, rfl, t2⟩ := r2
        refine ⟨b, rt q', rfl, t2, rfl, .int q'.num, _, rfl, .int q'.den, _, rfl, rfl, ?_⟩
        refine ⟨_, rfl, _, _, rfl, rfl, _, rfl, ite2 (fun c => ?_) (fun c => ?_)⟩
        · have c1 : q'.num ≤ 0 := of_decide_eq_true c
          refine qz ?_ H2 (s1.trans s2)
          rw [← Rat.not_lt]
          intro z
          have := pos_num z
          omega
        · have c1 : 0 < q'.num := by
            have : ¬ q'.num ≤ 0 := fun z => c (decide_eq_true z)
            omega
          have hz : 0 < q' := num_pos_iff.mp c1
          have d1 : (0 : Int) < p.den := by have := den_pos p; omega
          have hm : (0 : Int) < q'.num * p.den := Int.mul_pos c1 d1
          refine ⟨_, rfl, _, rfl, _, _, rfl, rfl, wm hp.1 hq.2, _, rfl, _, rfl, _, _, rfl, rfl, wm hq.1 hp.2, _, _, rfl, rfl, Int.ne_of_gt hm, _, rfl, _, rfl, _, _, rfl, rfl, wm hp.2 hq.2, ?_⟩
          have e1 : (p.num * q'.den).fmod (q'.num * p.den) = (p.num * q'.den) % (q'.num * p.den) := Int.fmod_eq_emod_of_nonneg _ (Int.le_of_lt hm)
          have l1 := Int.emod_nonneg (p.num * q'.den) (Int.ne_of_gt hm)
          have l2 := Int.emod_lt_of_pos (p.num * q'.den) hm
          have l3 : (q'.num * p.den).natAbs < 2 ^ 7800 := szM hq.1 hp.2
          refine ⟨_, _, "int", "int", rfl, .int _, .int _, givesR_ok (den_ne p q') ?_ (Nat.lt_trans (szM hp.2 hq.2) p78) fun v H' s' r => ?_⟩
          · refine Nat.lt_trans ?_ p78
            rw [e1]
            omega
          · have r := r
            rw [e1, ← rem_as hz] at r
            exact qn hz v H' ((s1.trans s2).trans s') r
end
end LR
set_option Elab.async false
set_option linter.all false
set_option maxRecDepth 100000
set_option maxHeartbeats 4000000
namespace LR
open PySem PySem.Spec PyProof.Rows L2
/-! ### heaps beside one thing that changes -/
/-- all but D is as it was -/
def But (D : Addr) (H H' : Hp) : Prop := ∀ b o, b ≠ D → H b = some o → H' b = some o
theorem same_but {H0 H : Hp} {D : Addr} {o : HO} (s : Same H0 H) (h : H0 D = none) : Same H0 (upd H D o) := fun b y e => by
  rw [upd_ne (ne_of_none e h)]
  exact s b y e
section
variable {K : PySem.W.Frag} {H : Hp} {D : Addr} {o : HO}
theorem sqt_upd {a : Addr} {xs : List V} {u : HO} (hD : H D = some u) (nt : ∀ ys, u ≠ .tup ys) (nf : ∀ ob v, u ≠ .frz ob v) (h : SqT K H a xs) : SqT K (upd H D o) a xs := by
  rcases h with (h | ⟨ob, h⟩) | h
  · exact .inl (.inl (by rw [upd_ne (ne_of h hD (fun e => nt _ e.symm))]; exact h))
  · exact .inl (.inr ⟨ob, by rw [upd_ne (ne_of h hD (fun e => nf _ _ e.symm))]; exact h⟩)
  · exact .inr h
theorem rn_lst {x : V} {q : Rat} {ys : List V} (hD : H D = some (.lst ys)) (h : Rn K H x q) : Rn K (upd H D o) x q := by
  obtain ⟨a, e, h⟩ := h
  exact ⟨a, e, sqt_upd hD (fun _ e => by cases e) (fun _ _ e => by cases e) h⟩
theorem rn_ext {x : V} {q : Rat} {f : Heap → Prop} (hD : H D = some (.ext f)) (h : Rn K H x q) : Rn K (upd H D o) x q := by
  obtain ⟨a, e, h⟩ := h
  exact ⟨a, e, sqt_upd hD (fun _ e => by cases e) (fun _ _ e => by cases e) h⟩
end
/-- lists item by item -/
inductive All2 {α β : Type} (R : α → β → Prop) : List α → List β → Prop
  | nil : All2 R [] []
  | cons {x y xs ys} (h : R x y) (t : All2 R xs ys) : All2 R (x :: xs) (y :: ys)
section
variable {α β : Type} {R S : α → β → Prop}
theorem All2.len : ∀ {xs : List α} {ys : List β}, All2 R xs ys → xs.length = ys.length
  | _, _, .nil => rfl
  | _, _, .cons _ t => congrArg Nat.succ t.len
theorem All2.imp (f : ∀ x y, R x y → S x y) : ∀ {xs : List α} {ys : List β}, All2 R xs ys → All2 S xs ys
  | _, _, .nil => .nil
  | _, _, .cons h t => .cons (f _ _ h) (t.imp f)
theorem All2.snoc {x : α} {y : β} (h : R x y) : ∀ {xs : List α} {ys : List β}, All2 R xs ys → All2 R (xs ++ [x]) (ys ++ [y])
  | _, _, .nil => .cons h .nil
  | _, _, .cons g t => .cons g (t.snoc h)
theorem All2.get : ∀ {xs : List α} {ys : List β} {i : Nat} {x : α}, All2 R xs ys → xs[i]? = some x → ∃ y, ys[i]? = some y ∧ R x y
  | _, _, _, _, .nil, e => by simp at e
  | _, _, 0, _, .cons h _, e => by simp at e; subst e; exact ⟨_, rfl, h⟩
  | _, _, i + 1, x, .cons _ t, e => by
    obtain ⟨y, a, b⟩ := t.get (i := i) (x := x) (by simpa using e)
    exact ⟨y, by simpa using a, b⟩
theorem All2.take (n : Nat) : ∀ {xs : List α} {ys : List β}, All2 R xs ys → All2 R (xs.take n) (ys.take n) := by
  induction n with
  | zero => intro xs ys _; exact .nil
  | succ n ih =>
    intro xs ys h
    cases h with
    | nil => exact .nil
    | cons a t => exact .cons a (ih t)
theorem All2.map_left {γ : Type} {f : γ → α} : ∀ {zs : List γ} {ys : List β}, All2 (fun z y => R (f z) y) zs ys → All2 R (zs.map f) ys
  | _, _, .nil => .nil
  | _, _, .cons h t => .cons h t.map_left
end
theorem take_snoc {α : Type} {l : List α} {i : Nat} {x : α} (h : l[i]? = some x) : l.take (i + 1) = l.take i ++ [x] := by
  rw [List.take_succ, h]
  rfl

/-! ### in_order -/
abbrev sInO : Stmt := topS 22
theorem scInO : FnScope ["values", "rows", "bits", "ranked", "value", "row", "_"] ["values"] (defScope sInO) := ⟨rfl, rfl, rfl, by decide +kernel, rfl, by decide +kernel, by decide +kernel⟩
/-- a list of numbers -/
def Nums (K : PySem.W.Frag) (H : Hp) (a : Addr) (qs : List Rat) : Prop := ∃ xs, SqL K H a xs ∧ All2 (Num K H) xs qs
/-- a list of ratios -/
def RnL (K : PySem.W.Frag) (H : Hp) (v : V) (rs : List Rat) : Prop := ∃ p xs, v = .ref p ∧ H p = some (.lst xs) ∧ All2 (Rn K H) xs rs
def spInO (K : PySem.W.Frag) (C : Addr) : Sp := fun vs H Q E => ∃ x, vs = [x] ∧
  ((∃ a qs, x = .ref a ∧ Nums K H a qs ∧ qs.length < 63 ∧ (∀ q ∈ qs, Sz 3900 q) ∧ ∀ rs v H', InOrder qs rs → Same H H' → RnL K H' v rs → Q v H') ∨ (∃ n, Kd K H x n ∧ (n == "list") = false ∧ E (.ref C) none H))
/-- the key of a ranked row -/
abbrev keyQ (m : Nat) (q : Rat) : NestedKey := .tup [.num (rank m q), .tup [.num q.num, .num (q.den : Int)]]
abbrev entQ (m : Nat) (e : Addr × Rat) : NS.Ent := (e.1, keyQ m e.2)
theorem keyQ_inj {m : Nat} {p q : Rat} (h : keyQ m p = keyQ m q) : p = q := by
  have h2 := NestedKey.tup.inj h
  simp only [List.cons.injEq, NestedKey.tup.injEq, NestedKey.num.injEq, and_true] at h2
  exact Rat.ext h2.2.1 (by omega)
theorem keyQ_key {K : PySem.W.Frag} {H : Hp} {m : Nat} {a : Addr} {r : V} {q : Rat} (h : H a = some (.tup [.int (rank m q), r])) (hr : Rn K H r q) : NS.Key K H a (keyQ m q) := by
  obtain ⟨b, rfl, hb⟩ := hr
  exact ⟨.tup (.inl (.inl h)) (.cons (.int _) (.cons (.tup hb (.cons (.int _) (.cons (.int _) .nil))) .nil)), by simp [NestedKey.depth, NestedKey.depthAll]⟩
section
variable {P : Program} {w : World} {K : PySem.W.Frag} {mg : Str → Option Value} {base : Heap}
theorem bits_den {q : Rat} {m : Nat} (h : Builtin.Int.intBits (q.den : Int) ≤ m) : q.den < 2 ^ m := by
  have d := den_pos q
  have e : Builtin.Int.intBits (q.den : Int) = q.den.log2 + 1 := by
    unfold Builtin.Int.intBits
    rw [if_neg (by simp; omega)]
    rfl
  rw [e] at h
  have := Nat.lt_log2_self (n := q.den)
  exact Nat.lt_of_lt_of_le this (Nat.pow_le_pow_right (by decide) h)

/-- the int that a tracked pair begins with -/
def rkOf (H : Hp) (a : Addr) : Int × Int := match H a with
  | some (.tup [.int z, _]) => (z, 0)
  | _ => (0, 0)
theorem ok_InO {f fA C : Addr} {fd dA : FuncData} (D : DefAt K mg "in_order" sInO ["values"] f fd) (DA : DefAt K mg "as_ratio" sAR ["value"] fA dA) (X : ErrAt K mg "InvalidNumber" BMv "ValueError.__new__" C) (mi : mg "isinstance" = none) (ml : mg "list" = none) (mm : mg "max" = none) (ms : mg "sorted" = none)
    (GA : FnOk P w K mg base (CXl P w) 3 fA dA ["value"] (spAR K C)) : FnOk P w K mg base (CXl P w) 4 f fd ["values"] (spInO K C) := by
  refine D.F.okX scInO (fun vs H Q E h => ?_) (fun cdv A outer s H vs Q E hr h => ?_)
  · obtain ⟨x, rfl, _⟩ := h
    rfl
  · obtain ⟨x, rfl, h⟩ := h
    refine ⟨_, pss_cons (ps_if (pt_not (pt_val (pe_callB call_isi (by rfl) mi (by decide +kernel) (pa_cons (pv 0) (pa_cons (pe_bltn (v := .ty "list") (by rfl) ml (by decide +kernel) rfl) pa_nil))))) (pss_one (ps_raise rfl (takes_of rfl rfl rfl rfl) (X.mk0 PySem.F.excBase_ValueError rfl))) pss_nil)
      (pss_cons (ps_setLc (i := 1) (own := [("value", 4)]) (g := gName 4) (tt := tYes) rfl scInO.nd rfl rfl (sw_true rfl rfl rfl (by decide +kernel)) (pi_list (pv 0)) (blkOk_by (N := ["values", "rows", "bits", "ranked", "value", "row", "_"]) (sc := defScope sInO) (by decide +kernel)) (fun _ _ _ _ _ => pg_name (i := 4) scInO.nd rfl (.inl rfl)) (fun _ _ _ _ _ => pts_nil)
          (fun _ _ _ _ _ => pe_call GA hr (by rfl) DA.g DA.F.kp DA.b .nil passL (pa_cons (pv 4) pa_nil)))
      (pss_cons (ps_set (i := 2) scInO.nd rfl (.inr rfl) (pe_op op_mul pe_int (pe_callBK (MxD.cr_maxD rfl) (by rfl) mm (by decide +kernel)
          (pa_cons (pe_lc (own := [("row", 5)]) (g := gName 5) (tt := tYes) rfl scInO.nd (pi_list (pv 1)) (blkOk_by (N := ["values", "rows", "bits", "ranked", "value", "row", "_"]) (sc := defScope sInO) (by decide +kernel)) (fun _ _ _ _ _ => pg_name (i := 5) scInO.nd rfl (.inl rfl)) (fun _ _ _ _ _ => pts_nil)
            (fun _ _ _ _ _ => pe_bits (pe_ix (r := rIxT K) ix_tup (pv 5) pe_int (fun _ _ => rfl)))) pa_nil) (pk_cons pe_int pk_nil))))
      (pss_cons (ps_set (i := 3) scInO.nd rfl (.inl rfl) (pe_callB (NS.cr_sortS rfl) (by rfl) ms (by decide +kernel)
          (pa_cons (NS.pe_sk (own := [("row", 5)]) (g := gName 5) rfl hr.units scInO.nd (pi_list (pv 1)) (blkOk_by (N := ["values", "rows", "bits", "ranked", "value", "row", "_"]) (sc := defScope sInO) (by decide +kernel)) (fun _ _ _ _ _ => pg_name (i := 5) scInO.nd rfl (.inl rfl))
            (fun _ _ _ _ _ => pe_tup (pa_cons (pe_op op_fdivA (pe_op op_shlN (pe_ix (r := rIxT K) ix_tup (pv 5) pe_int (fun _ _ => rfl)) (pv 2)) (pe_ix (r := rIxT K) ix_tup (pv 5) pe_int (fun _ _ => rfl))) (pa_cons (pv 5) pa_nil)))) pa_nil)))
      (pss_one (ps_ret (pe_lc (own := [("_", 6), ("row", 5)]) (g := gTup K 2 (gCons (gName 6) (gCons (gName 5) gNil))) (tt := tYes) rfl scInO.nd (pi_list (pv 3)) (blkOk_by (N := ["values", "rows", "bits", "ranked", "value", "row", "_"]) (sc := defScope sInO) (by decide +kernel)) (fun _ _ _ _ _ => by exact pg_tup rfl (pgs_cons (pg_name (i := 6) scInO.nd rfl (.inl rfl)) (pgs_cons (pg_name (i := 5) scInO.nd rfl (.inl rfl)) pgs_nil))) (fun _ _ _ _ _ => pts_nil)
            (fun _ _ _ _ _ => pv 5))))))), ?_⟩
    rcases h with ⟨a, qs, rfl, ⟨xs, hS, hN⟩, hlen, hsz, q⟩ | ⟨n, hk, hn, e⟩
    · refine ⟨.ref a, rfl, .ref a, _, _, _, _, rfl, .ty "list", sql_ty hS, kd_list (.lst (sql_ty hS)), _, rfl, iteF ?_⟩
      have len := hN.len
      have big : ∀ i, i ≤ xs.length → i < sizeLine := fun i hi => small1000 (by omega)
      -- rows
      refine ⟨.ref a, rfl, a, rfl, ⟨_, hS⟩, fun D1 n1 => lc_list (xs := xs) (fun i H' => Same H H' ∧ ∃ acc, H' D1 = some (.lst acc) ∧ acc.length = i ∧ All2 (Rn K H') acc (qs.take i)) ⟨same_new n1, [], upd_same, rfl, .nil⟩ (fun i H' _ hP => hP.1.seq hS) (fun i x H' hx hP => ?_) (fun H1 hP => ?_)⟩
      · obtain ⟨sm, acc, hD, hl, hA⟩ := hP
        obtain ⟨p, hp, np⟩ := hN.get hx
        have il : i < xs.length := (List.getElem?_eq_some_iff.mp hx).1
        refine ⟨rfl, x, rfl, x, some p, rfl, np.same sm, fun v H2 s2 r2 => ⟨acc, s2 _ _ hD, big _ (by omega), same_but (sm.trans s2) n1, _, upd_same, by rw [List.length_append, hl]; rfl, ?_⟩⟩
        rw [take_snoc hp]
        exact (hA.imp fun _ _ z => rn_lst (s2 _ _ hD) (z.same s2)).snoc (rn_lst (s2 _ _ hD) r2)
      obtain ⟨s1, rows, hD1, hl1, hR⟩ := hP
      rw [List.take_of_length_le (by omega)] at hR
      -- bits
      refine ⟨.ref D1, rfl, D1, rfl, ⟨_, .of hD1⟩, fun D2 n2 => lc_list (xs := rows) (fun i H' => Same H1 H' ∧ H' D2 = some (.lst ((qs.take i).map fun q => V.int (Builtin.Int.intBits (q.den : Int) : Nat)))) ⟨same_new n2, upd_same⟩ (fun i H' _ hP => hP.1.seq (.of hD1)) (fun i x H' hx hP => ?_) (fun H2 hP => ?_)⟩
      · obtain ⟨sm, hD⟩ := hP
        obtain ⟨p, hp, rp⟩ := hR.get hx
        obtain ⟨b, rfl, hb⟩ := rp.same sm
        have il : i < rows.length := (List.getElem?_eq_some_iff.mp hx).1
        refine ⟨rfl, .ref b, rfl, b, _, 1, _, rfl, rfl, hb, atI_nat (j := 1) rfl, (p.den : Int), rfl, _, hD, big _ (by rw [List.length_map, List.length_take]; omega), same_but sm n2, ?_⟩
        rw [upd_same, take_snoc hp, List.map_append]
        rfl
      obtain ⟨s2, hD2⟩ := hP
      rw [List.take_of_length_le (by omega)] at hD2
      refine ⟨D2, qs.map fun q => ((Builtin.Int.intBits (q.den : Int) : Nat) : Int), 0, rfl, rfl, .of (by rw [hD2, List.map_map]; rfl), fun m m0 m1 => ?_⟩
      obtain ⟨M, rfl, hM, hMb⟩ : ∃ M : Nat, m = M ∧ (∀ q ∈ qs, q.den < 2 ^ M) ∧ M ≤ 3901 := by
        by_cases e : qs = []
        · subst e
          exact ⟨0, m0 rfl, (fun _ h => by cases h), by decide⟩
        · obtain ⟨h1, h2⟩ := m1 (by simpa using e)
          obtain ⟨q0, hq0, rfl⟩ := List.mem_map.mp h1
          refine ⟨_, rfl, fun q hq => bits_den (Int.ofNat_le.mp (h2 _ (List.mem_map.mpr ⟨q, hq, rfl⟩))), ?_⟩
          have hb := (hsz q0 hq0).2
          have := PyProof.Rows.intBits_le (a := (q0.den : Int)) (k := 3900) (by simpa using hb)
          omega
      refine ⟨2, (M : Int), rfl, rfl, .inl ⟨by decide, by decide⟩, ?_⟩
      -- ranked
      have s12 := s1.trans s2
      have hR2 : All2 (Rn K H2) rows qs := hR.imp fun _ _ z => z.same s2
      refine ⟨.ref D1, rfl, D1, rfl, ⟨_, .of (s2 _ _ hD1)⟩, fun D3 n3 => NS.sk_list (xs := rows) (fun i H' => Same H2 H' ∧ ∃ es : List (Addr × Rat), H' D3 = some (NS.SetO w D3 (es.map (entQ M))) ∧ es.length ≤ i ∧ (es.map (·.2)).Nodup ∧
        (∀ e ∈ es, e.2 ∈ qs ∧ ∃ r, H' e.1 = some (.tup [.int (rank M e.2), r]) ∧ Rn K H' r e.2) ∧ ∀ q ∈ qs.take i, q ∈ es.map (·.2)) ⟨same_new n3, [], upd_same, Nat.le_refl _, List.nodup_nil, (fun _ h => by cases h), fun _ h => by simp at h⟩ (fun i H' _ hP => hP.1.seq (.of (s2 _ _ hD1))) (fun i x H' hx hP => ?_) (fun H3 hP => ?_)⟩
      · obtain ⟨sm, es, hD, hl, hnd, hE, hC⟩ := hP
        obtain ⟨p, hp, rp⟩ := hR2.get hx
        obtain ⟨b, rfl, hb⟩ := rp.same sm
        have il : i < rows.length := (List.getElem?_eq_some_iff.mp hx).1
        have pq : p ∈ qs := List.mem_of_getElem? hp
        obtain ⟨z1, z2⟩ := hsz p pq
        have dp := den_pos p
        refine ⟨rfl, .ref b, rfl, b, _, 0, _, rfl, rfl, hb, atI_nat (j := 0) rfl, _, rfl, p.num, 2 * M, rfl, congrArg V.int (by omega), shl_ok z1 (by omega), .ref b, rfl, b, _, 1, _, rfl, rfl, hb, atI_nat (j := 1) rfl, _, _, rfl, rfl,
          divA (b := 3900) (by omega) (by rw [Int.natAbs_natCast]; exact z2) (by decide) (by decide), .ref b, rfl, by show 2 ≤ sizeLine; decide, fun xa nx => ?_⟩
        have ev : (p.num * 2 ^ (2 * M)).fdiv (p.den : Int) = rank M p := Int.fdiv_eq_ediv_of_nonneg _ (Int.natCast_nonneg _)
        show NS.Adds w K D3 (.ref xa) (upd H' xa (.tup [.int ((p.num * 2 ^ (2 * M)).fdiv (p.den : Int)), .ref b])) _
        rw [ev]
        have sx : Same H' (upd H' xa (.tup [.int (rank M p), .ref b])) := same_new nx
        have hDx := sx _ _ hD
        have rb : Rn K (upd H' xa (.tup [.int (rank M p), .ref b])) (.ref b) p := ⟨b, rfl, same_sqt sx hb⟩
        have hEx : ∀ e ∈ es, e.2 ∈ qs ∧ ∃ r, (upd H' xa (.tup [.int (rank M p), .ref b])) e.1 = some (.tup [.int (rank M e.2), r]) ∧ Rn K (upd H' xa (.tup [.int (rank M p), .ref b])) r e.2 := fun e he =>
          let ⟨a1, r, a2, a3⟩ := hE e he; ⟨a1, r, sx _ _ a2, a3.same sx⟩
        have hxx : (upd H' xa (.tup [.int (rank M p), .ref b])) xa = some (.tup [.int (rank M p), .ref b]) := upd_same
        have s2x := sm.trans sx
        generalize (upd H' xa (.tup [.int (rank M p), .ref b])) = Hx at hDx rb hEx hxx s2x ⊢
        have mem : keyQ M p ∈ (es.map (entQ M)).map (·.2) ↔ p ∈ es.map (·.2) := by
          rw [List.map_map]
          constructor
          · intro h
            obtain ⟨e, he, e2⟩ := List.mem_map.mp h
            exact List.mem_map.mpr ⟨e, he, keyQ_inj e2⟩
          · intro h
            obtain ⟨e, he, e2⟩ := List.mem_map.mp h
            exact List.mem_map.mpr ⟨e, he, congrArg (keyQ M) e2⟩
        have keep : ∀ (o : HO) e, e ∈ es ∨ e = (xa, p) → e.2 ∈ qs ∧ ∃ r, (upd Hx D3 o) e.1 = some (.tup [.int (rank M e.2), r]) ∧ Rn K (upd Hx D3 o) r e.2 := fun o e he => by
          have base : e.2 ∈ qs ∧ ∃ r, Hx e.1 = some (.tup [.int (rank M e.2), r]) ∧ Rn K Hx r e.2 := by
            rcases he with he | rfl
            · exact hEx e he
            · exact ⟨pq, _, hxx, rb⟩
          obtain ⟨a1, r, a2, a3⟩ := base
          exact ⟨a1, r, by rw [upd_ne (ne_of a2 hDx (fun z => by cases z))]; exact a2, rn_ext hDx a3⟩
        refine ⟨xa, keyQ M p, es.map (entQ M), rfl, hDx, keyQ_key hxx rb, fun e he => ?_, by rw [List.length_map]; omega, fun L' c1 c2 => ?_⟩
        · obtain ⟨e', he', rfl⟩ := List.mem_map.mp he
          obtain ⟨_, r, a2, a3⟩ := hEx e' he'
          exact keyQ_key a2 a3
        · refine ⟨same_but s2x n3, ?_⟩
          by_cases c : p ∈ es.map (·.2)
          · refine ⟨es, by rw [c1 (mem.mpr c)]; exact upd_same, by omega, hnd, fun e he => keep _ e (.inl he), fun q hq => ?_⟩
            rw [take_snoc hp] at hq
            rcases List.mem_append.mp hq with h | h
            · exact hC q h
            · rw [List.mem_singleton.mp h]
              exact c
          · obtain ⟨es', rfl, pm⟩ := perm_map_inv (f := entQ M) (m := (xa, p) :: es) (c2 fun z => c (mem.mp z))
            refine ⟨es', upd_same, by rw [pm.length_eq, List.length_cons]; omega, (pm.map (·.2)).nodup_iff.mpr (List.nodup_cons.mpr ⟨c, hnd⟩), fun e he => keep _ e ?_, fun q hq => ?_⟩
            · rcases List.mem_cons.mp (pm.mem_iff.mp he) with h | h
              · exact .inr h
              · exact .inl h
            · refine (pm.map (·.2)).mem_iff.mpr ?_
              rw [take_snoc hp] at hq
              rcases List.mem_append.mp hq with h | h
              · exact List.mem_cons_of_mem _ (hC q h)
              · rw [List.mem_singleton.mp h]
                exact List.mem_cons_self
      obtain ⟨s3, es, hD3, hl3, hnd, hE, hC⟩ := hP
      rw [List.take_of_length_le (by omega)] at hC
      -- sorted
      have kk : ∀ e ∈ es, rkOf H3 e.1 = (rank M e.2, 0) := fun e he => by
        obtain ⟨_, r, a2, _⟩ := hE e he
        unfold rkOf
        rw [a2]
      refine ⟨D3, es.map (entQ M), rkOf H3, rfl, hD3, .inr ⟨fun e he => ?_, fun e he e' he' eq => ?_⟩, fun L' p pm pw np => ?_⟩
      · obtain ⟨e0, h0, rfl⟩ := List.mem_map.mp he
        obtain ⟨_, r, a2, _⟩ := hE e0 h0
        have k0 := kk e0 h0
        exact ⟨r, by show SqT K H3 e0.1 [.int (rkOf H3 e0.1).1, r]; rw [k0]; exact .inl (.inl a2), by show (rkOf H3 e0.1).2 = 0; rw [k0]⟩
      · obtain ⟨e0, h0, rfl⟩ := List.mem_map.mp he
        obtain ⟨e1, h1, rfl⟩ := List.mem_map.mp he'
        have eq' : (rkOf H3 e0.1).1 = (rkOf H3 e1.1).1 := eq
        rw [kk e0 h0, kk e1 h1] at eq'
        have := rank_inj (hM _ (hE e0 h0).1) (hM _ (hE e1 h1).1) eq'
        have := nodup_one hnd e0 h0 e1 h1 this
        rw [this]
      · have em : (es.map (entQ M)).map (·.1) = es.map (·.1) := by
          rw [List.map_map]
          rfl
        rw [em] at pm
        obtain ⟨es', rfl, pe⟩ := perm_map_inv pm
        have hE' : ∀ e ∈ es', e.2 ∈ qs ∧ ∃ r, H3 e.1 = some (.tup [.int (rank M e.2), r]) ∧ Rn K H3 r e.2 := fun e he => hE e (pe.mem_iff.mp he)
        have hnd' : (es'.map (·.2)).Nodup := (pe.map (·.2)).nodup_iff.mpr hnd
        have ord : InOrder qs (es'.map (·.2)) := by
          refine ⟨List.pairwise_map.mpr ?_, fun r => ⟨fun h => ?_, fun h => (pe.map (·.2)).mem_iff.mpr (hC r h)⟩⟩
          · refine List.Pairwise.imp_of_mem (fun {e e'} he he' hh => ?_) ((List.pairwise_map.mp pw).and (List.pairwise_map.mp hnd'))
            obtain ⟨h1, h2⟩ := hh
            rw [kk e (pe.mem_iff.mp he), kk e' (pe.mem_iff.mp he')] at h1
            have h3 := SrtO.lexB_no.mp h1
            refine Rat.lt_of_le_of_ne (rank_le (hM _ (hE' e he).1) (hM _ (hE' e' he').1) ?_) h2
            have h4 : ¬ rank M e'.2 < rank M e.2 := fun z => h3 (.inl z)
            omega
          · obtain ⟨e, he, rfl⟩ := List.mem_map.mp h
            exact (hE' e he).1
        have le' : es'.length ≤ rows.length := by rw [pe.length_eq]; exact hl3
        -- the rows
        refine ⟨.ref p, rfl, p, rfl, ⟨_, .of upd_same⟩, fun D4 n4 => lc_list (xs := (es'.map (·.1)).map V.ref) (fun i H' => Same (upd H3 p (.lst ((es'.map (·.1)).map V.ref))) H' ∧ ∃ acc, H' D4 = some (.lst acc) ∧ acc.length = i ∧ All2 (Rn K H') acc ((es'.map (·.2)).take i))
          ⟨same_new n4, [], upd_same, rfl, .nil⟩ (fun i H' _ hP => hP.1.seq (.of upd_same)) (fun i x H' hx hP => ?_) (fun H5 hP => ?_)⟩
        · obtain ⟨sm, acc, hD, hl, hA⟩ := hP
          rw [List.map_map, List.getElem?_map] at hx
          obtain ⟨e, he, rfl⟩ := Option.map_eq_some_iff.mp hx
          obtain ⟨_, r, a2, a3⟩ := hE' e (List.mem_of_getElem? he)
          have s5 := (same_new (o := .lst ((es'.map (·.1)).map V.ref)) np).trans sm
          have il : i < es'.length := (List.getElem?_eq_some_iff.mp he).1
          refine ⟨e.1, _, rfl, .inl (.inl (s5 _ _ a2)), rfl, _, _, rfl, r, _, rfl, rfl, rfl, r, rfl, acc, hD, big _ (by omega), same_but sm n4, _, upd_same, by rw [List.length_append, hl]; rfl, ?_⟩
          have ht : (es'.map (·.2))[i]? = some e.2 := by rw [List.getElem?_map, he]; rfl
          rw [take_snoc ht]
          exact (hA.imp fun _ _ z => rn_lst hD z).snoc (rn_lst hD (a3.same s5))
        · obtain ⟨sm, acc, hD, hl, hA⟩ := hP
          rw [List.take_of_length_le (by simp)] at hA
          exact q _ _ H5 ord (((s12.trans s3).trans (same_new np)).trans sm) ⟨D4, acc, rfl, hD, hA⟩
    · refine ⟨x, rfl, x, _, _, _, _, rfl, .ty "list", hk.ty, kd_list hk, _, rfl, ite2 (fun _ => e) (fun c => absurd (by rw [hn]; rfl) c)⟩
end
end LR
set_option Elab.async false
set_option linter.all false
set_option maxRecDepth 100000
set_option maxHeartbeats 4000000
/-! Promises of defs that are called while nothing is being shown (no repr runs around them), and repr of data -/
namespace LG
open PySem PySem.Spec PyProof.Rows L2
/-- as a promise, of calls where no repr runs -/
structure FnG (P : Program) (w : World) (K : PySem.W.Frag) (mg : Str → Option Value) (base : Heap) (CX : CXT) (k : Nat) (f : Addr) (fd : FuncData) (ps : List Str) (sp : Sp) : Prop where
  len : ∀ vs H Q E, sp vs H Q E → vs.length = ps.length
  run : ∀ (A : Around) (outer : List Env) (s : Shared) (H : Hp) (args : Args) (us : List Value) (vs : List V) (Q : VK) (E : XK), A.guards = some [] → Room k A → Env0 P w K mg base A outer s H → BindsTo s fd args (ps.zip us) → Vals vs us → sp vs H Q E →
    codeAny (model P w) A (.call (.ref f) args) (CR CX outer P w H s Q E) s
section
variable {P : Program} {w : World} {K : PySem.W.Frag} {mg : Str → Option Value} {base : Heap} {CX : CXT} {k : Nat} {f : Addr} {fd : FuncData} {ps : List Str} {sp : Sp}
theorem _root_.L2.FnOk.toG (F : FnOk P w K mg base CX k f fd ps sp) : FnG P w K mg base CX k f fd ps sp := ⟨F.len, fun A outer s H args us vs Q E _ => F.run A outer s H args us vs Q E⟩
theorem FnG.imp {sp' : Sp} (F : FnG P w K mg base CX k f fd ps sp) (h : ∀ vs H Q E, sp' vs H Q E → sp vs H Q E) : FnG P w K mg base CX k f fd ps sp' :=
  ⟨fun vs H Q E q => F.len vs H Q E (h _ _ _ _ q), fun A outer s H args us vs Q E g hr he hb hv hs => F.run A outer s H args us vs Q E g hr he hb hv (h _ _ _ _ hs)⟩
/-- THE RULE for such a def -/
theorem fun_okG {x qual : Str} {st : Stmt} {N : List Str} (F : Fun K x qual st f fd) (S : FnScope N ps (defScope st)) (len : ∀ vs H Q E, sp vs H Q E → vs.length = ps.length)
    (body : ∀ (cdv : Value) (A : Around) (outer : List Env) (s : Shared) (H : Hp) (vs : List V) (Q : VK) (E : XK), A.guards = some [] → Room k (A.deeper (envOfC qual (defScope st) s.heap.objs.size f cdv)) → sp vs H Q E →
      ∃ t, PSs (cxOf CX P w K mg base N qual (defScope st) f cdv A outer s H E) (defBody st) t ∧ t { nx := fun _ H' => Q .non H', rt := Q } (start N vs) H) : FnG P w K mg base CX (k + 1) f fd ps sp := by
  obtain ⟨oc, od, kV, doc, pm, an, cdv, ct, osl, rfl, lk, hcd⟩ := F.ex
  refine ⟨len, fun A outer s H args us vs Q E g hr e0 hb r hsp => ?_⟩
  have kin : K.In s.heap := e0.mod.kin.keeps fun b o e => (e0.bs b o e).1
  have lim : s.heap.NoLimit := e0.mod.nolimit.keeps fun b o e => (e0.bs b o e).1
  refine codeAny_call_function hr.depth (kin _ _ lk) rfl S.co S.gen rfl (PySem.W.codeRec_of kin hcd) (hb _ _ _ _ ?_)
  refine wpAny_newFunctionEnv_cells S.kind (fun y hy => ?_) fun env he s1 x => ?_
  · rcases S.par y.1 (List.of_mem_zip (a := y.1) (b := y.2) hy).1 with q | q
    · exact .inl q
    · exact .inr ⟨q, PySem.W.cellsFrom_some _ _ _ (.inl q)⟩
  subst he
  refine ⟨lim.keeps x.toInCall.keep, codeAny_func ?_⟩
  obtain ⟨t, ht, hq⟩ := body cdv A outer s H vs Q E g (hr.deeper _) hsp
  have I := inv_start (CX := CX) (N := N) (E := E) S hr.hd e0 (len _ _ _ _ hsp) r x
  refine wpAny_mono (ht.run [] s1 (start N vs) H _ I hq) (fun fl s' hs => ?_) fun e s' hs => hs
  cases fl with
  | ret u => exact let ⟨v, _, H', J, rv, q⟩ := hs; ⟨v, H', J.os, J.bare, J.base, J.hok, rv, q⟩
  | next => exact let ⟨_, H', J, q⟩ := hs; ⟨V.non, H', J.os, J.bare, J.base, J.hok, rfl, q⟩
  | brk => exact let ⟨_, _, _, q⟩ := hs; False.elim q
  | cont => exact let ⟨_, _, _, q⟩ := hs; False.elim q
end
section
variable {X : Cx} {CX : CXT} {k : Nat} {f : Addr} {fd : FuncData} {ps : List Str} {sp : Sp} {dvs : List V} {ds : List Value} {E : XK} {x : Str} {p pos : Pos} {e : Expr} {es : List Expr} {t : TA}
/-- f(e, ..) of such a def -/
theorem pe_callG (F : FnG X.prog X.w X.K X.mg X.base CX k f fd ps sp) (g : X.A.guards = some []) (hr : Room k X.A) (hg : Gl X x) (hm : X.mg x = some (.ref f)) (hk : PySem.W.keepIn X.K (.ref f) = true) (hb : Binds X.K fd ps ds) (hd : Vals dvs ds) (hx : Passes CX X E)
    (ha : PA X (e :: es) t) (hdb : (x == ("__debug__" : Str)) = false := by decide) (he : starEach (e :: es) X.env = (false, eval e X.env) :: starEach es X.env := by rfl) (hpl : (backTo pos (starEach es X.env)).any (·.1) = false := by rfl) :
    PE X (.Call (.Name x p) (e :: es) [] pos) (tCall sp dvs E t) := by
  refine ⟨fun pins s σ H Q I h => wpAny_Call_Name_kw (ld_glob I hg hm ?_ hdb)⟩
  refine PySem.W.callWith_K (h₀ := X.base) I.ok.mod.kin hk (thn (ha.run pos pins s σ H _ I h) fun us s1 ⟨vs, H1, J, r, q⟩ => ⟨J.kIn, ?_⟩) he hpl
  have r2 : Vals (vs ++ dvs) (us ++ ds) := r.append hd
  refine wpAny_call (codeAny_mono (F.run X.A X.stack s1 H1 ⟨us, []⟩ _ _ Q E g hr J.env0 (hb s1 us J.kIn (r2.length.symm.trans (F.len _ _ _ _ q))) r2 q) fun r s' hq => ?_)
  cases r with
  | error e => exact hx pins σ H1 s1 e s' J hq
  | ok fl =>
    cases fl with
    | ret u => exact J.after hq
    | next => exact False.elim hq
    | brk => exact False.elim hq
    | cont => exact False.elim hq
end

/-! ### repr of data -/
/-- what may be shown: no dict, no great int, no long text -/
def Fine (d : PyData) : Prop := d.showable = true ∧ d.hasDict = false ∧ d.depth ≤ 8 ∧ d.shown.length ≤ sizeLine
def rRepr (K : PySem.W.Frag) : List V → Hp → VK → Prop := fun vs H Q => ∃ (a : Addr) (d : PyData), vs = [.ref a] ∧ Dp K H (.ref a) d ∧ Fine d ∧ Q (.str d.shown) H
theorem cr_repr {X : Cx} (g : X.A.guards = some []) (hu : X.A.units + 64 < cLine) : CallR X (.builtin "repr") (rRepr X.K) := by
  intro pins s σ H vs us Q I r h
  obtain ⟨a, d, rfl, hd, ⟨f1, f2, f3, f4⟩, q⟩ := h
  rw [Vals.ref1 r]
  obtain ⟨as, rd⟩ := Dp.reads I d _ _ hd rfl
  exact repr_of_reads' rd f1 (fun h' => absurd (f2.symm.trans h') (by decide)) g (by omega) (fun _ _ e => e) (fun h' u tk k => ⟨.str d.shown, H, I.kept k, ⟨_, rfl⟩, q⟩) f4

/-! ### the law's call -/
/-- the script's heap: nothing else is tracked -/
theorem law_callG {P : Program} {w : World} {K : PySem.W.Frag} {mg mb : Str → Option Value} {CX : CXT} {k : Nat} {fa a : Addr} {fd : FuncData} {x : Str} {sp : Sp} {s1 : Shared} {vs : List Value} {ns : List Int}
    (kin : K.In s1.heap) (hns : s1.heap.Ns mainGlobals mg) (hb : s1.heap.Ns builtinsNs mb) (hbb : ∀ x : Str, x ≠ "__name__" → mb x = bootBuiltins x) (lim : s1.heap.NoLimit) (hg : s1.gens = #[])
    (ha : s1.heap.get? a = some { cls := .type "list", data := .seq vs.toArray }) (hi : IntsAre vs ns) (hl : ns.length ≤ sizeLine) (hr : Room k callerA)
    (F : ∀ base : Heap, K.In base → base.Ns mainGlobals mg → FnG P w K mg base CX k fa fd [x] sp) (bind : ∀ (s : Shared) (u : Value), BindsTo s fd ⟨[u], []⟩ [(x, u)])
    (hsp : ∀ H : Hp, Only H → SqL K H a (ns.map V.int) → sp [.ref a] H (fun v _ => v = .bl true) fun _ _ _ => False) (hCX : ∀ H e s', CX [] H s1 (fun _ _ _ => False) e s' → False) :
    codeAny (model P w) callerA (.call (.ref fa) ⟨[.ref a], []⟩) (fun r s' => r = .ok (.ret (.bool true)) ∧ OldK s1.heap s'.heap ∧ s'.os = s1.os ∧ AllBare s'.gens) s1 := by
  have rv := vals_ints hi
  -- over a heap that tracks the script or nothing
  have go : ∀ H : Hp, Only H → SqL K H a (ns.map V.int) → HOk P w H s1.heap → (∀ b u, H b = some u → b = a ∧ K.lookup a = none) →
      codeAny (model P w) callerA (.call (.ref fa) ⟨[.ref a], []⟩) (fun r s' => r = .ok (.ret (.bool true)) ∧ OldK s1.heap s'.heap ∧ s'.os = s1.os ∧ AllBare s'.gens) s1 := by
    intro H only hS hok one
    have free : ∀ {b : Addr} {o : Obj} {es : Array DictEntry} {ep : Nat}, s1.heap.get? b = some o → o.data = .dict es ep → H b = none := fun {b o es ep} e d => by
      cases q : H b with
      | none => rfl
      | some u =>
        obtain ⟨rfl, _⟩ := one b u q
        have e2 := Option.some.inj (e.symm.trans ha)
        subst e2
        cases d
    have ns1 : ∀ {b : Addr} {m : Str → Option Value}, s1.heap.Ns b m → (hidT s1.heap H).Ns b m := fun {b m} ⟨o, es, ep, e, d, r⟩ => ⟨o, es, ep, hidT_get e (free e d), d, r⟩
    have kin1 : K.In (hidT s1.heap H) := fun b o e => hidT_get (kin b o e) (by
      cases q : H b with
      | none => rfl
      | some u =>
        obtain ⟨rfl, z⟩ := one b u q
        rw [z] at e
        cases e)
    have M : Mod K mg (hidT s1.heap H) := ⟨kin1, ns1 hns, ⟨mb, ns1 hb, hbb⟩, let ⟨mc, h1, h2⟩ := lim; ⟨mc, ns1 h1, h2⟩⟩
    have e0 : Env0 P w K mg (hidT s1.heap H) callerA [] s1 H := ⟨rfl, M, fun b o e => of_hidT e, Nat.le_of_eq (hidT_size _ _), trivial, fun b z => absurd (show b ∈ ([] : List Addr) from z) (by simp), hok, .of_eq hg⟩
    refine codeAny_mono ((F _ kin1 (ns1 hns)).run callerA [] s1 H ⟨[.ref a], []⟩ [.ref a] [.ref a] _ _ rfl hr e0 (bind s1 (.ref a)) (.cons rfl .nil) (hsp H only hS)) fun r s' h => ?_
    match r, h with
    | .error e, h => exact (hCX H e s' h).elim
    | .ok .next, h => exact False.elim h
    | .ok .brk, h => exact False.elim h
    | .ok .cont, h => exact False.elim h
    | .ok (.ret u), h =>
      obtain ⟨v, H', os, bare, un, hok', r', q⟩ := h
      have q' : v = .bl true := q
      subst q'
      have r2 : u = Value.bool true := r'
      subst r2
      refine ⟨rfl, OldK.of_keep fun b o e => ?_, os, bare⟩
      cases z : H b with
      | none => exact un.keep b o e z (fun y => absurd (show b ∈ ([] : List Addr) from y) (by simp)) (by simp)
      | some u =>
        rcases only b with y | ⟨ob, xs, y⟩
        · rw [z] at y
          cases y
        · have e1 := (hok b _ y).1
          rw [e] at e1
          cases e1
          exact (hok' b _ (un.frzs b _ _ y)).1
  cases hk : K.lookup a with
  | some o =>
    have e := kin a o hk
    rw [ha] at e
    cases e
    exact go (fun _ => none) (fun _ => .inl rfl) (.inr ⟨_, vs.toArray, _, hk, rfl, rfl, rfl, by rw [List.size_toArray, hi.length]; exact hl, by simpa using rv⟩) (fun b u z => nomatch z) fun b u z => nomatch z
  | none =>
    have at1 : ∀ b, b ≠ a → (fun b => if b = a then some (HO.frz { cls := .type "list", data := .seq vs.toArray } (.lst (ns.map V.int))) else none : Hp) b = none := fun b h => if_neg h
    have at2 : (fun b => if b = a then some (HO.frz { cls := .type "list", data := .seq vs.toArray } (.lst (ns.map V.int))) else none : Hp) a = some (HO.frz { cls := .type "list", data := .seq vs.toArray } (.lst (ns.map V.int))) := if_pos rfl
    generalize (fun b => if b = a then some (HO.frz { cls := .type "list", data := .seq vs.toArray } (.lst (ns.map V.int))) else none : Hp) = H at at1 at2
    refine go H (fun b => ?_) (.inl (.inr ⟨_, at2⟩)) (fun b u z => ?_) fun b u z => ?_
    · by_cases h : b = a
      · subst h
        exact .inr ⟨_, _, at2⟩
      · exact .inl (at1 b h)
    · by_cases h : b = a
      · subst h
        have := Option.some.inj (z.symm.trans at2)
        subst this
        exact ⟨ha, by rw [List.length_map]; exact hl, vs, _, rv, ha⟩
      · rw [at1 b h] at z
        cases z
    · by_cases h : b = a
      · exact ⟨h, hk⟩
      · rw [at1 b h] at z
        cases z
theorem walk_G {l : PySem.W.OpenLaw} {n k : Nat} {q : Program} {loose : List Str} {XP : (Str → Option Value) → Heap → Prop} {YP : World → Heap → Prop} {d : DefRec} {K : Params → PySem.W.Frag} {CX : World → CXT} {sp : World → Sp} {x : Str}
    (hn : l.most = some n) (hn2 : n ≤ sizeLine) (hdf : d.params.defaults = []) (hr : Room k callerA) (hY : ∀ (w : World) (h : Heap), YP w h → (K w.params).In h)
    (F : ∀ (w : World) (mg : Str → Option Value) (fa : Addr) (h : Heap), (K w.params).In h → h.Ns mainGlobals mg → mg d.name = some (.ref fa) →
      ∃ fd : FuncData, (∀ (s : Shared) (u : Value), BindsTo s fd ⟨[u], []⟩ [(x, u)]) ∧ ∀ base : Heap, (K w.params).In base → base.Ns mainGlobals mg → FnG l.prog w (K w.params) mg base (CX w) k fa fd [x] (sp w))
    (hsp : ∀ (w : World) (H : Hp) (a : Addr) (ns : List Int), ns.length ≤ n → Only H → SqL (K w.params) H a (ns.map V.int) → sp w [.ref a] H (fun v _ => v = .bl true) fun _ _ _ => False)
    (hCX : ∀ (w : World) (H : Hp) (s : Shared) (e : Value) (s' : Shared), CX w [] H s (fun _ _ _ => False) e s' → False) :
    PySem.W.WalkO q loose XP YP l.row.toRowW d [] (fun f vs => PySem.call f vs) := by
  refine Att.attach_call hn hdf fun w s₀ s₁ mg mb fa o pm cd doc a vs ns G Y ho hd hcd hmg hobj hints hlen hg => ?_
  obtain ⟨fd, hb, hF⟩ := F w mg fa _ (hY w _ Y) G.T.g hmg
  exact law_callG (hY w _ Y) G.T.g G.T.b G.T.builtins G.T.nolimit hg hobj hints (Nat.le_trans hlen hn2) hr hF hb (fun H hO hS => hsp w H a ns hlen hO hS) fun H e s' => hCX w H s₁ e s'
end LG
set_option Elab.async false
set_option linter.all false
set_option maxRecDepth 100000
set_option maxHeartbeats 4000000
/-! numbers as data: shown, compared, sorted -/
namespace LR
open PySem PySem.Spec PyProof.Rows L2
abbrev datR (q : Rat) : PyData := .tuple [.int q.num, .int (q.den : Int)]
section
variable {K : PySem.W.Frag} {H : Hp}
theorem Rn.dp {v : V} {q : Rat} (h : Rn K H v q) : Dp K H v (datR q) := by
  obtain ⟨a, rfl, h⟩ := h
  exact .tup h (.cons (.int _) (.cons (.int _) .nil))
/-- the data of a number: an int, or a tuple -/
def datN (v : V) (q : Rat) : PyData := match v with
  | .int i => .int i
  | _ => datR q
theorem Num.dp {v : V} {q : Rat} (h : Num K H v q) : Dp K H v (datN v q) := by
  rcases h.kinds with ⟨rfl, _⟩ | h
  · exact .int _
  · obtain ⟨a, rfl, h2⟩ := id h
    exact Rn.dp h
theorem rnl_dp : ∀ {xs : List V} {qs : List Rat}, All2 (Rn K H) xs qs → DpAll K H xs (qs.map datR)
  | _, _, .nil => .nil
  | _, _, .cons h t => .cons h.dp (rnl_dp t)
end
theorem canR (q : Rat) : (datR q).canLay0 = true := by simp [PyData.canLay0, PyData.canLayAll0]
theorem canRs : ∀ qs : List Rat, PyData.canLayAll0 (qs.map datR) = true
  | [] => rfl
  | q :: qs => by
    show ((datR q).canLay0 && PyData.canLayAll0 (qs.map datR)) = true
    rw [canR, canRs qs]
    rfl
theorem depRs : ∀ qs : List Rat, PyData.depthAll (qs.map datR) ≤ 1
  | [] => Nat.zero_le _
  | q :: qs => by
    have := depRs qs
    show max (PyData.depth (datR q)) (PyData.depthAll (qs.map datR)) ≤ 1
    have e : PyData.depth (datR q) = 1 := by simp [PyData.depth, PyData.depthAll]
    omega
theorem shapedR (q : Rat) : SeqAt.shaped (datR q) = true := by
  unfold SeqAt.shaped
  rw [canR]
  simp [PyData.depth, PyData.depthAll]
theorem shapedRs (qs : List Rat) : SeqAt.shaped (.list (qs.map datR)) = true := by
  unfold SeqAt.shaped
  rw [show (PyData.list (qs.map datR)).canLay0 = PyData.canLayAll0 (qs.map datR) from rfl, canRs, Bool.true_and, decide_eq_true_eq]
  have := depRs qs
  show PyData.depthAll (qs.map datR) + 1 ≤ 64
  omega
theorem eqvR (q : Rat) : PyData.eqv (datR q) (datR q) = true := SeqAt.eqv_refl _ (canR q)
theorem eqvRs (qs : List Rat) : PyData.eqv (.list (qs.map datR)) (.list (qs.map datR)) = true := SeqAt.eqv_refl _ (canRs qs)
abbrev datI (i : Int) : PyData := .int i
theorem canIs : ∀ ns : List Int, PyData.canLayAll0 (ns.map datI) = true
  | [] => rfl
  | n :: ns => by
    show (true && PyData.canLayAll0 (ns.map datI)) = true
    rw [canIs ns]
    rfl
theorem depIs : ∀ ns : List Int, PyData.depthAll (ns.map datI) = 0
  | [] => rfl
  | n :: ns => by
    have := depIs ns
    show max 0 (PyData.depthAll (ns.map datI)) = 0
    omega
theorem shapedIs (ns : List Int) : SeqAt.shaped (.list (ns.map datI)) = true := by
  unfold SeqAt.shaped
  rw [show (PyData.list (ns.map datI)).canLay0 = PyData.canLayAll0 (ns.map datI) from rfl, canIs, Bool.true_and, decide_eq_true_eq]
  have := depIs ns
  show PyData.depthAll (ns.map datI) + 1 ≤ 64
  omega
theorem eqvIs (ns : List Int) : PyData.eqv (.list (ns.map datI)) (.list (ns.map datI)) = true := SeqAt.eqv_refl _ (canIs ns)
theorem dpIs {K : PySem.W.Frag} {H : Hp} : ∀ ns : List Int, DpAll K H (ns.map V.int) (ns.map datI)
  | [] => .nil
  | n :: ns => .cons (.int n) (dpIs ns)

/-! ### order by the two places -/
abbrev nd2 (q : Rat) : Int × Int := (q.num, (q.den : Int))
theorem nd2_inj {p q : Rat} (h : nd2 p = nd2 q) : p = q := Rat.ext (congrArg Prod.fst h) (by have := congrArg Prod.snd h; exact Int.ofNat.inj this)
/-- sorted by the two places, without duplicates -/
def LexOrd (rs : List Rat) : Prop := rs.Pairwise (fun p q => SrtO.lexB (nd2 q) (nd2 p) = false) ∧ rs.Nodup
theorem lex_uniq : ∀ {rs ts : List Rat}, LexOrd rs → LexOrd ts → (∀ r, r ∈ rs ↔ r ∈ ts) → rs = ts
  | [], [], _, _, _ => rfl
  | [], t :: ts, _, _, h => absurd ((h t).mpr List.mem_cons_self) (by simp)
  | r :: rs, [], _, _, h => absurd ((h r).mp List.mem_cons_self) (by simp)
  | r :: rs, t :: ts, ⟨a1, a2⟩, ⟨b1, b2⟩, h => by
    obtain ⟨a3, a4⟩ := List.pairwise_cons.mp a1
    obtain ⟨b3, b4⟩ := List.pairwise_cons.mp b1
    obtain ⟨a5, a6⟩ := List.nodup_cons.mp a2
    obtain ⟨b5, b6⟩ := List.nodup_cons.mp b2
    have e : r = t := by
      by_cases c : r = t
      · exact c
      · have h1 : t ∈ rs := (List.mem_cons.mp ((h t).mpr List.mem_cons_self)).resolve_left (fun z => c z.symm)
        have h2 : r ∈ ts := (List.mem_cons.mp ((h r).mp List.mem_cons_self)).resolve_left c
        have l1 := SrtO.lexB_no.mp (a3 t h1)
        have l2 := SrtO.lexB_no.mp (b3 r h2)
        refine nd2_inj (Prod.ext ?_ ?_)
        · show r.num = t.num
          have u1 : ¬ t.num < r.num := fun z => l1 (.inl z)
          have u2 : ¬ r.num < t.num := fun z => l2 (.inl z)
          omega
        · have u0 : r.num = t.num := by
            have u1 : ¬ t.num < r.num := fun z => l1 (.inl z)
            have u2 : ¬ r.num < t.num := fun z => l2 (.inl z)
            omega
          show (r.den : Int) = t.den
          have u1 : ¬ (t.den : Int) < r.den := fun z => l1 (.inr ⟨u0.symm, z⟩)
          have u2 : ¬ (r.den : Int) < t.den := fun z => l2 (.inr ⟨u0, z⟩)
          omega
    subst e
    rw [lex_uniq ⟨a4, a6⟩ ⟨b4, b6⟩ fun z => ⟨fun hz => ?_, fun hz => ?_⟩]
    · exact (List.mem_cons.mp ((h z).mp (List.mem_cons_of_mem _ hz))).resolve_left fun e => a5 (e ▸ hz)
    · exact (List.mem_cons.mp ((h z).mpr (List.mem_cons_of_mem _ hz))).resolve_left fun e => b5 (e ▸ hz)
/-! ### sorted(a list of ratios) -/
theorem refs_of_rn {K : PySem.W.Frag} {H : Hp} : ∀ {xs : List V} {qs : List Rat}, All2 (Rn K H) xs qs → ∃ es : List (Addr × Rat), xs = es.map (fun e => V.ref e.1) ∧ qs = es.map (·.2) ∧ ∀ e ∈ es, SqT K H e.1 (rt e.2)
  | _, _, .nil => ⟨[], rfl, rfl, fun _ h => by cases h⟩
  | _, _, .cons h t => by
    obtain ⟨es, rfl, rfl, h2⟩ := refs_of_rn t
    obtain ⟨a, rfl, h⟩ := h
    refine ⟨(a, _) :: es, rfl, rfl, fun e he => ?_⟩
    rcases List.mem_cons.mp he with rfl | he
    · exact h
    · exact h2 e he
def rSortR (K : PySem.W.Frag) : List V → Hp → VK → Prop := fun vs H Q => ∃ (v : V) (a : Addr) (xs : List V) (qs : List Rat), vs = [v] ∧ v = .ref a ∧ SqL K H a xs ∧ All2 (Rn K H) xs qs ∧
  ∀ ys rs p, rs.Perm qs → rs.Pairwise (fun p q => SrtO.lexB (nd2 q) (nd2 p) = false) → All2 (Rn K H) ys rs → H p = none → Q (.ref p) (upd H p (.lst ys))
open Classical in
/-- the places of the ratio at a -/
noncomputable def plc (K : PySem.W.Frag) (H : Hp) (a : Addr) : Int × Int := if h : ∃ q, SqT K H a (rt q) then nd2 h.choose else (0, 0)
section
variable {X : Cx} {pins : List (Addr × Obj)} {σ : L2.St} {H : Hp} {s : Shared}
theorem plc_is (I : Inv X pins σ H s) {a : Addr} {q : Rat} (h : SqT X.K H a (rt q)) : plc X.K H a = nd2 q := by
  have hx : ∃ q, SqT X.K H a (rt q) := ⟨q, h⟩
  unfold plc
  rw [dif_pos hx]
  have e := I.tuple_inj hx.choose_spec h
  simp only [List.cons.injEq, V.int.injEq, and_true] at e
  exact Prod.ext e.1 e.2
theorem cr_sortR : CallR X (.builtin "sorted") (rSortR X.K) := by
  intro pins s σ H vs us Q I r h
  obtain ⟨v, a, xs, qs, rfl, rfl, hS, hA, q⟩ := h
  rw [Vals.ref1 r]
  obtain ⟨es, rfl, rfl, hE⟩ := refs_of_rn hA
  obtain ⟨its, rv, hl, hz⟩ := I.list hS
  have ei : its = (es.map (·.1)).map Value.ref := by
    have go : ∀ (l : List (Addr × Rat)) (us : List Value), Vals (l.map fun e => V.ref e.1) us → us = (l.map (·.1)).map Value.ref := by
      intro l
      induction l with
      | nil => intro us h; cases h; rfl
      | cons e l ih =>
        intro us h
        cases h with
        | cons h1 h2 =>
          cases h1
          rw [ih _ h2]
          rfl
    exact go es its rv
  have pr : ∀ v ∈ its, Srt.IsPair s.heap v (plc X.K H (NS.adr v)).1 (plc X.K H (NS.adr v)).2 := fun v hv => by
    rw [ei, List.map_map] at hv
    obtain ⟨e, he, rfl⟩ := List.mem_map.mp hv
    obtain ⟨its2, rv2, ⟨o, ho, hc, n, hd⟩, _⟩ := I.tuple (hE e he)
    obtain ⟨u1, u2, rfl, ⟨t1, rfl⟩, ⟨t2, rfl⟩⟩ := vals2 rv2
    show Srt.IsPair s.heap (.ref e.1) (plc X.K H e.1).1 (plc X.K H e.1).2
    rw [plc_is I (hE e he)]
    exact ⟨e.1, o, t1, t2, n, rfl, ho, hc, hd⟩
  refine SrtO.sorted_pairsO (k := fun v => plc X.K H (NS.adr v)) hl.isList (by rw [← rv.length]; exact hz) pr fun h' d out h1 h2 kp hd hn => ?_
  have pm := h2.perm
  rw [ei, List.map_map] at pm
  obtain ⟨es', rfl, pe⟩ := perm_map_inv pm
  have hE' : ∀ e ∈ es', SqT X.K H e.1 (rt e.2) := fun e he => hE e (pe.mem_iff.mp he)
  have hv : ∀ l : List (Addr × Rat), Vals (l.map fun e => V.ref e.1) (l.map (Value.ref ∘ fun e => e.1)) := fun l => by
    induction l with
    | nil => exact .nil
    | cons b bs ih => exact .cons rfl ih
  have ha : ∀ l : List (Addr × Rat), (∀ e ∈ l, SqT X.K H e.1 (rt e.2)) → All2 (Rn X.K H) (l.map fun e => V.ref e.1) (l.map (·.2)) := fun l => by
    induction l with
    | nil => intro _; exact .nil
    | cons b bs ih => intro h; exact .cons ⟨b.1, rfl, h b List.mem_cons_self⟩ (ih fun e he => h e (List.mem_cons_of_mem _ he))
  obtain ⟨n, hn⟩ := hn
  refine ⟨.ref d, upd H d (.lst (es'.map fun e => V.ref e.1)), I.laid (t' := s.toks) kp hd ⟨?_, _, n, hv es', hn⟩, rfl, q _ _ d (pe.map (·.2)) ?_ (ha es' hE') (I.hok.fresh hd)⟩
  · rw [List.length_map, pe.length_eq]
    rw [List.length_map] at hz
    exact hz
  · have z := List.pairwise_map.mp h1
    refine List.pairwise_map.mpr (List.Pairwise.imp_of_mem (fun {e e'} he he' hh => ?_) z)
    have hh2 : SrtO.lexB (plc X.K H e'.1) (plc X.K H e.1) = false := hh
    rw [plc_is I (hE' e he), plc_is I (hE' e' he')] at hh2
    exact hh2

/-! ### sorted(a set of ratios) -/
abbrev entI (e : Addr × Rat) : Addr × List Int := (e.1, [e.2.num, (e.2.den : Int)])
def rSortT (K : PySem.W.Frag) (P : Program) (w : World) : List V → Hp → VK → Prop := fun vs H Q => ∃ (a : Addr) (es : List (Addr × Rat)), vs = [.ref a] ∧ H a = some (SetTO P w a (es.map entI)) ∧ (∀ e ∈ es, SqT K H e.1 (rt e.2)) ∧
  ∀ (es' : List (Addr × Rat)) (p : Addr), es'.Perm es → LexOrd (es'.map (·.2)) → H p = none → Q (.ref p) (upd H p (.lst (es'.map fun e => V.ref e.1)))
theorem cr_sortT (hc : X.calm = true) : CallR X (.builtin "sorted") (rSortT X.K X.prog X.w) := by
  intro pins s σ H vs us Q I r h
  obtain ⟨a, es0, rfl, ha, hk, q⟩ := h
  rw [Vals.ref1 r]
  have R0 : SetT0 X.prog X.w s.heap a (es0.map entI) := (I.hok a _ ha).1
  obtain ⟨es, ep, t, R⟩ := R0.full fun p hp => by
    obtain ⟨e, he, rfl⟩ := List.mem_map.mp hp
    exact I.isT (k := [e.2.num, (e.2.den : Int)]) (hk e he)
  have few : es0.length < 64 := by have := R.few; rw [List.length_map] at this; exact this
  refine NS.sorted_raw (as := es0.map (·.1)) (ltv := fun v u => SrtO.lexB (plc X.K H (NS.adr v)) (plc X.K H (NS.adr u))) R.ob (by rw [R.rows, rowsOf, List.map_map, List.map_map, List.map_map]; rfl) (by rw [List.length_map]; exact few) R.fits R.tab.ris R.led (I.ok.hd hc)
    (SrtO.swo_lex fun v => plc X.K H (NS.adr v)) (fun vs pm h2 A' s1 l hl kp => ?_) fun s' p out c kp g o hp hg hs pm => ?_
  · refine SrtO.pairs_sortableO (k := fun v => plc X.K H (NS.adr v)) (by omega) (fun v m => ?_) hl
    rw [List.map_map] at pm
    obtain ⟨e, he, rfl⟩ := List.mem_map.mp (pm.mem_iff.mp m)
    obtain ⟨its, rv, ⟨o, ho, hc', n, hd⟩, _⟩ := I.tuple (hk e he)
    obtain ⟨u1, u2, rfl, ⟨t1, rfl⟩, ⟨t2, rfl⟩⟩ := vals2 rv
    show Srt.IsPair s1.heap (.ref e.1) (plc X.K H e.1).1 (plc X.K H e.1).2
    rw [plc_is I (hk e he)]
    exact ⟨e.1, o, t1, t2, n, rfl, kp _ _ ho, hc', hd⟩
  · rw [List.map_map] at pm
    obtain ⟨es', rfl, pe⟩ := perm_map_inv pm
    have hk' : ∀ e ∈ es', SqT X.K H e.1 (rt e.2) := fun e he => hk e (pe.mem_iff.mp he)
    have len : (es'.map fun e => V.ref e.1).length ≤ sizeLine := by
      rw [List.length_map, pe.length_eq, sizeLine_eq]
      omega
    have hn : H p = none := I.hok.fresh hp
    have hv : ∀ l : List (Addr × Rat), Vals (l.map fun e => V.ref e.1) (l.map (Value.ref ∘ fun e => e.1)) := fun l => by
      induction l with
      | nil => exact .nil
      | cons b bs ih => exact .cons rfl ih
    have J : Inv X pins σ (upd H p (.lst (es'.map fun e => V.ref e.1))) { s with heap := s'.heap, gens := s'.gens, drawn := s'.drawn, toks := s'.toks } :=
      I.call (ch := []) (Un.laid kp hp hn) (I.hok.laid kp hp ⟨len, _, c, hv es', hg⟩) (by rw [g]; exact I.bare) (fun _ z => nomatch z)
    have e : s' = { s with heap := s'.heap, gens := s'.gens, drawn := s'.drawn, toks := s'.toks } := by
      cases s'
      cases s
      cases o
      rfl
    rw [e]
    have nd : (es0.map (·.2)).Nodup := by
      have z := R.nd
      rw [List.map_map] at z
      exact List.pairwise_map.mpr ((List.pairwise_map.mp z).imp fun {x y} hne e => hne (by show [x.2.num, (x.2.den : Int)] = [y.2.num, (y.2.den : Int)]; rw [e]))
    refine ⟨.ref p, _, J, rfl, q es' p pe ⟨List.pairwise_map.mpr (List.Pairwise.imp_of_mem (fun {e e'} he he' hh => ?_) (List.pairwise_map.mp hs)), (pe.map (·.2)).nodup_iff.mpr nd⟩ hn⟩
    have hh2 : SrtO.lexB (plc X.K H e'.1) (plc X.K H e.1) = false := hh
    rw [plc_is I (hk' e he), plc_is I (hk' e' he')] at hh2
    exact hh2
end
/-! ### what may be shown -/
theorem fine_ints {i : Int} (h : i.natAbs < 2 ^ 250) : PyData.showable (.int i) = true ∧ PyData.leavesShort 260 (.int i) = true := by
  have l : i.natAbs.log2 < 250 := by
    by_cases z : i.natAbs = 0
    · rw [z]; decide
    · exact (Nat.log2_lt z).mpr h
  refine ⟨decide_eq_true (by omega), decide_eq_true ?_⟩
  have := int_text_length_le (k := 250) (by decide) l
  show (Str.ofString (toString i)).length ≤ 260
  rw [PySem.ofString_length]
  omega
/-- a short list of numbers may be shown -/
theorem fine_list {ds : List PyData} (h1 : PyData.showableAll ds = true) (h2 : PyData.hasDictAll ds = false) (h3 : PyData.leavesShortAll 260 ds = true) (h4 : PyData.depthAll ds ≤ 7) (h5 : PyData.bulkAll ds ≤ 10000) : LG.Fine (.list ds) := by
  refine ⟨h1, h2, ?_, ?_⟩
  · show PyData.depthAll ds + 1 ≤ 8
    omega
  · have := PyData.shown_le_bulk 260 (by decide) (.list ds) h3
    have e : (PyData.list ds).bulk = PyData.bulkAll ds := rfl
    rw [e] at this
    have : (260 + 2) * PyData.bulkAll ds ≤ (260 + 2) * 10000 := Nat.mul_le_mul_left _ h5
    rw [sizeLine_eq]
    omega
/-- one number's data -/
theorem fine_num {v : V} {q : Rat} {K : PySem.W.Frag} {H : Hp} (hv : Num K H v q) (h : Sz 250 q) : PyData.showable (datN v q) = true ∧ PyData.hasDict (datN v q) = false ∧ PyData.leavesShort 260 (datN v q) = true ∧ PyData.depth (datN v q) ≤ 1 ∧ PyData.bulk (datN v q) ≤ 2 := by
  obtain ⟨a1, a2⟩ := fine_ints h.1
  obtain ⟨b1, b2⟩ := fine_ints (i := (q.den : Int)) (by rw [Int.natAbs_natCast]; exact h.2)
  have tup : PyData.showable (datR q) = true ∧ PyData.hasDict (datR q) = false ∧ PyData.leavesShort 260 (datR q) = true ∧ PyData.depth (datR q) ≤ 1 ∧ PyData.bulk (datR q) ≤ 2 := by
    refine ⟨?_, rfl, ?_, by simp [PyData.depth, PyData.depthAll], by simp [PyData.bulk, PyData.bulkAll]⟩
    · show (PyData.showable (.int q.num) && (PyData.showable (.int (q.den : Int)) && true)) = true
      rw [a1, b1]
      rfl
    · show (PyData.leavesShort 260 (.int q.num) && (PyData.leavesShort 260 (.int (q.den : Int)) && true)) = true
      rw [a2, b2]
      rfl
  rcases hv.kinds with ⟨rfl, e⟩ | ⟨a, rfl, _⟩
  · exact ⟨a1, rfl, a2, Nat.zero_le _, Nat.zero_le _⟩
  · exact tup
end LR
set_option Elab.async false
set_option linter.all false
set_option maxRecDepth 100000
set_option maxHeartbeats 4000000
/-! y in x, y not in x, where x is an object of a class with its own __contains__ -/
namespace OI
open PySem PySem.Spec PyProof.Rows L2
theorem contains_fn {M : Model} {A : Around} {s : Shared} {K : PySem.W.Frag} {x C f : Addr} {y : Value} {E : Value → Shared → Prop} {ox : Obj} {od : Option Obj} {Q : Bool → Shared → Prop} (X : K.In s.heap) (I : PySem.W.InstAt s.heap x ox C od)
    (hs : PySem.W.findIn K (.ref C) "__contains__" = some (some (.ref f))) (hf : PySem.W.typeIn K (.ref f) = some (.type "function")) (h : wpAny M A (call (.ref f) [.ref x, y]) (fun r s' => ∃ b, r = Value.bool b ∧ Q b s') E s) :
    wpAny M A (contains (.ref x) y) Q E s := by
  unfold contains
  refine wpAny_holding ?_
  show wpAny M A (specialOf (.ref x) "__contains__" >>= _) Q E s
  have sp : ∀ {Q' : Option Value → Shared → Prop}, Q' (some (.ref f)) s → wpAny M A (specialOf (.ref x) "__contains__") Q' E s := fun q => wpAny_bind (I.type.here ((PySem.W.looks_findIn X hs).here q))
  refine wpAny_bind (sp ?_)
  show wpAny M A (if (some (Value.ref f) == some Value.none) = true then _ else _) Q E s
  rw [if_neg (show ¬ (some (Value.ref f) == some Value.none) = true from fun z => by cases z)]
  refine wpAny_bind ?_
  unfold callSpecialUnlessNone?
  refine wpAny_bind (sp (wpAny_holding (wpAny_bind ((PySem.W.bind_fn X _ hf).here ?_))))
  show wpAny M A (if (Value.ref f == Value.none) = true then _ else _) _ E s
  rw [if_neg (show ¬ (Value.ref f == Value.none) = true from fun z => by cases z)]
  refine wpAny_bind (wpAny_mono h (fun r s' z => ?_) fun _ _ z => z)
  obtain ⟨b, rfl, q⟩ := z
  exact wpAny_pure (wpAny_truthy_bool q)
section
variable {X : Cx} {CX : CXT} {k : Nat} {C g : Addr} {fd : FuncData} {ps : List Str} {sp : Sp} {E : XK}
/-- y in x: what the class's own answer says -/
def rOwnIn (C : Addr) (neg : Bool) (sp : Sp) (E : XK) : R2 := fun y x H Q => ∃ a dx fs, x = .ref a ∧ H a = some (.ins C dx fs) ∧ sp [.ref a, y] H (fun z H' => ∃ b, z = .bl b ∧ Q (.bl (if neg then !b else b)) H') E
theorem own_in {pins : List (Addr × Obj)} {σ : L2.St} {H : Hp} {s : Shared} {y : V} {v : Value} {a dx : Addr} {fs : List (Str × V)} {Q : Bool → Hp → Prop} (hm : Meth X.K C "__contains__" g) (F : FnOk X.prog X.w X.K X.mg X.base CX k g fd ps sp) (hr : Room k X.A) (hb : Binds X.K fd ps []) (hx : Passes CX X E)
    (I : Inv X pins σ H s) (ry : RelV y v) (ea : H a = some (.ins C dx fs)) (q : sp [.ref a, y] H (fun z H' => ∃ b, z = .bl b ∧ Q b H') E) :
    wpAny (model X.prog X.w) X.A (contains (.ref a) v) (fun b s' => ∃ H', Inv X pins σ H' s' ∧ Q b H') X.xe s := by
  obtain ⟨mA, O, r, _, _, _⟩ := ins_get I.hok ea
  obtain ⟨od, J, hl⟩ := O.look
  refine contains_fn I.kIn J hm.at_ (beq_iff_eq.mp hm.fn) (wpAny_mono (run_fn (us := [.ref a, v]) (vs := [.ref a, y]) F hr hb .nil hx I (.cons rfl (.cons ry .nil)) q) (fun r s' z => ?_) fun _ _ z => z)
  obtain ⟨z', H', I', rz, b, eb, qb⟩ := z
  subst eb
  exact ⟨b, rz, H', I', qb⟩
theorem op_notin_own (hm : Meth X.K C "__contains__" g) (F : FnOk X.prog X.w X.K X.mg X.base CX k g fd ps sp) (hr : Room k X.A) (hb : Binds X.K fd ps []) (hx : Passes CX X E) : OpR X (compareOp .NotIn) (rOwnIn C true sp E) := by
  intro pins s σ H y x v u Q I ry rx h
  obtain ⟨a, dx, fs, rfl, ea, q⟩ := h
  cases (show u = Value.ref a from rx)
  show wpAny _ _ (contains (.ref a) v >>= fun b => pure (Value.bool (!b))) _ _ _
  refine wpAny_bind (wpAny_mono (own_in (Q := fun b H' => Q (.bl (!b)) H') hm F hr hb hx I ry ea q) (fun b s' z => ?_) fun _ _ z => z)
  obtain ⟨H', I', q'⟩ := z
  exact wpAny_pure ⟨.bl (!b), H', I', rfl, q'⟩
theorem op_in_own (hm : Meth X.K C "__contains__" g) (F : FnOk X.prog X.w X.K X.mg X.base CX k g fd ps sp) (hr : Room k X.A) (hb : Binds X.K fd ps []) (hx : Passes CX X E) : OpR X (compareOp .In) (rOwnIn C false sp E) := by
  intro pins s σ H y x v u Q I ry rx h
  obtain ⟨a, dx, fs, rfl, ea, q⟩ := h
  cases (show u = Value.ref a from rx)
  show wpAny _ _ (contains (.ref a) v >>= fun b => pure (Value.bool b)) _ _ _
  refine wpAny_bind (wpAny_mono (own_in (Q := fun b H' => Q (.bl b) H') hm F hr hb hx I ry ea q) (fun b s' z => ?_) fun _ _ z => z)
  obtain ⟨H', I', q'⟩ := z
  exact wpAny_pure ⟨.bl b, H', I', rfl, q'⟩
end
end OI
set_option Elab.async false
set_option linter.all false
set_option maxRecDepth 100000
set_option maxHeartbeats 4000000
namespace LR
open PySem PySem.Spec PyProof.Rows L2
abbrev sIN : Stmt := topS 12
abbrev sPosi : Stmt := topS 28
abbrev sTime : Stmt := topS 29
abbrev sIsP : Stmt := topS 37
abbrev sPosn : Stmt := topS 40
abbrev sRowA : Stmt := topS 39
theorem scIN : FnScope ["value"] ["value"] (defScope sIN) := ⟨rfl, rfl, rfl, by decide +kernel, rfl, by decide +kernel, by decide +kernel⟩
theorem scPosi : FnScope ["value"] ["value"] (defScope sPosi) := ⟨rfl, rfl, rfl, by decide +kernel, rfl, by decide +kernel, by decide +kernel⟩
theorem scTime : FnScope ["value"] ["value"] (defScope sTime) := ⟨rfl, rfl, rfl, by decide +kernel, rfl, by decide +kernel, by decide +kernel⟩
theorem scIsP : FnScope ["value"] ["value"] (defScope sIsP) := ⟨rfl, rfl, rfl, by decide +kernel, rfl, by decide +kernel, by decide +kernel⟩
theorem scPosn : FnScope ["row", "time", "begin", "speed", "position"] ["row", "time"] (defScope sPosn) := ⟨rfl, rfl, rfl, by decide +kernel, rfl, by decide +kernel, by decide +kernel⟩
theorem scRowA : FnScope ["rows", "time", "found", "row"] ["rows", "time"] (defScope sRowA) := ⟨rfl, rfl, rfl, by decide +kernel, rfl, by decide +kernel, by decide +kernel⟩
theorem z39 : Sz 3900 ((0 : Int) : Rat) := Sz.int (by decide) (by decide)
theorem cmp0_pos (q : Rat) : decide (0 < cmpR q ((0 : Int) : Rat)) = decide (0 < q) := by
  have e : ((0 : Int) : Rat) = 0 := rfl
  rw [e]
  unfold cmpR
  by_cases h : q < 0
  · have h2 : ¬ 0 < q := by grind
    rw [if_pos h, decide_eq_false h2]
    rfl
  · rw [if_neg h]
    by_cases h2 : 0 < q
    · rw [if_pos h2, decide_eq_true h2]
      rfl
    · rw [if_neg h2, decide_eq_false h2]
      rfl
theorem cmp0_neg (q : Rat) : decide (cmpR q ((0 : Int) : Rat) < 0) = decide (q < 0) := by
  have e : ((0 : Int) : Rat) = 0 := rfl
  rw [e]
  unfold cmpR
  by_cases h : q < 0
  · rw [if_pos h, decide_eq_true h]
    rfl
  · rw [if_neg h, decide_eq_false h]
    by_cases h2 : 0 < q
    · rw [if_pos h2]
      rfl
    · rw [if_neg h2]
      rfl
theorem cmp_le (p q : Rat) : decide (cmpR p q ≤ 0) = decide (p ≤ q) := by
  unfold cmpR
  by_cases h : p < q
  · have h2 : p ≤ q := by grind
    rw [if_pos h, decide_eq_true h2]
    rfl
  · rw [if_neg h]
    by_cases h2 : q < p
    · have h3 : ¬ p ≤ q := by grind
      rw [if_pos h2, decide_eq_false h3]
      rfl
    · have h3 : p ≤ q := by grind
      rw [if_neg h2, decide_eq_true h3]
      rfl
section
variable {P : Program} {w : World} {K : PySem.W.Frag} {mg : Str → Option Value} {base : Heap}
def spIN (K : PySem.W.Frag) : Sp := fun vs H Q _ => ∃ (x : V) (o : Option Rat), vs = [x] ∧ Arg K H x o ∧ Q (.bl o.isSome) H
theorem ok_IN {f fI fR : Addr} {fd dI dR : FuncData} (D : DefAt K mg "is_number" sIN ["value"] f fd) (DI : DefAt K mg "is_integer" sII ["value"] fI dI) (DR : DefAt K mg "is_ratio" sIR ["value"] fR dR)
    (GI : FnOk P w K mg base (CXl P w) 1 fI dI ["value"] (spII K)) (GR : FnOk P w K mg base (CXl P w) 2 fR dR ["value"] (spIR K)) : FnOk P w K mg base (CXl P w) 3 f fd ["value"] (spIN K) := by
  refine D.F.okX scIN (fun vs H Q E h => ?_) (fun cdv A outer s H vs Q E hr h => ?_)
  · obtain ⟨x, o, rfl, _⟩ := h
    rfl
  · obtain ⟨x, o, rfl, ha, q⟩ := h
    refine ⟨_, pss_one (ps_ret (pe_or (pe_call GI (hr.mono (by decide)) (by rfl) DI.g DI.F.kp DI.b .nil passL (pa_cons (pv 0) pa_nil)) (pe_one (pe_call GR hr (by rfl) DR.g DR.F.kp DR.b .nil passL (pa_cons (pv 0) pa_nil))))), ?_⟩
    obtain ⟨n, hk⟩ := ha.kd
    refine ⟨x, rfl, x, n, rfl, hk, _, rfl, ?_⟩
    have ha' := ha
    cases ha with
    | int i => exact iteT q
    | oth h1 n1 n2 =>
      have e : isI x = false := by
        cases h1 <;> first | rfl | cases n1
      rw [e]
      refine iteF ⟨x, rfl, x, none, rfl, ha', ?_⟩
      rw [show (isRef x && (none : Option Rat).isSome) = false by simp]
      exact q
    | tup ht hk2 e => exact iteF ⟨_, rfl, _, o, rfl, ha', q⟩
def spPosi (K : PySem.W.Frag) : Sp := fun vs H Q _ => ∃ (x : V) (q : Rat), vs = [x] ∧ Num K H x q ∧ Sz 3900 q ∧ ∀ H', Same H H' → Q (.bl (decide (0 < q))) H'
theorem ok_Posi {f fN fC C : Addr} {fd dN dC : FuncData} (D : DefAt K mg "is_positive" sPosi ["value"] f fd) (DN : DefAt K mg "is_number" sIN ["value"] fN dN) (DC : DefAt K mg "compare" s_compare ["first", "second"] fC dC)
    (GN : FnOk P w K mg base (CXl P w) 3 fN dN ["value"] (spIN K)) (GC : FnOk P w K mg base (CXl P w) 4 fC dC ["first", "second"] (sp_compare K C)) : FnOk P w K mg base (CXl P w) 5 f fd ["value"] (spPosi K) := by
  refine D.F.okX scPosi (fun vs H Q E h => ?_) (fun cdv A outer s H vs Q E hr h => ?_)
  · obtain ⟨x, q, rfl, _⟩ := h
    rfl
  · obtain ⟨x, q, rfl, hx, hz, k⟩ := h
    refine ⟨_, pss_one (ps_ret (pe_and (pe_call GN (hr.mono (by decide)) (by rfl) DN.g DN.F.kp DN.b .nil passL (pa_cons (pv 0) pa_nil)) (pe_one (pe_cmpR op_gt (pe_call GC hr (by rfl) DC.g DC.F.kp DC.b .nil passL (pa_cons (pv 0) (pa_cons pe_int pa_nil))) pe_int (nomark _))))), ?_⟩
    refine ⟨x, rfl, x, some q, rfl, hx, _, rfl, iteT ?_⟩
    refine ⟨x, rfl, x, .int 0, some q, some ((0 : Int) : Rat), rfl, hx, num_int 0, ⟨hz, z39⟩, fun H' s' => ⟨_, _, rfl, rfl, ?_⟩⟩
    have := k H' s'
    rw [← cmp0_pos] at this
    exact this
def spTime (K : PySem.W.Frag) : Sp := fun vs H Q _ => ∃ (x : V) (q : Rat), vs = [x] ∧ Num K H x q ∧ Sz 3900 q ∧ 0 ≤ q ∧ ∀ v H', Same H H' → Rn K H' v q → Q v H'
theorem ok_Time {f fN fC fA C CT : Addr} {fd dN dC dA : FuncData} (D : DefAt K mg "as_time" sTime ["value"] f fd) (DN : DefAt K mg "is_number" sIN ["value"] fN dN) (DC : DefAt K mg "compare" s_compare ["first", "second"] fC dC) (DA : DefAt K mg "as_ratio" sAR ["value"] fA dA) (XT : ErrAt K mg "InvalidTime" BMv "ValueError.__new__" CT)
    (GN : FnOk P w K mg base (CXl P w) 3 fN dN ["value"] (spIN K)) (GC : FnOk P w K mg base (CXl P w) 4 fC dC ["first", "second"] (sp_compare K C)) (GA : FnOk P w K mg base (CXl P w) 3 fA dA ["value"] (spAR K C)) : FnOk P w K mg base (CXl P w) 5 f fd ["value"] (spTime K) := by
  refine D.F.okX scTime (fun vs H Q E h => ?_) (fun cdv A outer s H vs Q E hr h => ?_)
  · obtain ⟨x, q, rfl, _⟩ := h
    rfl
  · obtain ⟨x, q, rfl, hx, hz, h0, k⟩ := h
    refine ⟨_, pss_cons (ps_if (PW.pt (pw_or (pt_not (pt_val (pe_call GN (hr.mono (by decide)) (by rfl) DN.g DN.F.kp DN.b .nil passL (pa_cons (pv 0) pa_nil)))) (pw_or1 (pt_cmpR op_lt (pe_call GC hr (by rfl) DC.g DC.F.kp DC.b .nil passL (pa_cons (pv 0) (pa_cons pe_int pa_nil))) pe_int (nomark _))))) (pss_one (ps_raise rfl (takes_of rfl rfl rfl rfl) (XT.mk0 PySem.F.excBase_ValueError rfl))) pss_nil)
      (pss_one (ps_ret (pe_call GA (hr.mono (by decide)) (by rfl) DA.g DA.F.kp DA.b .nil passL (pa_cons (pv 0) pa_nil)))), ?_⟩
    refine ⟨x, rfl, x, some q, rfl, hx, _, rfl, iteF ?_⟩
    refine ⟨x, rfl, x, .int 0, some q, some ((0 : Int) : Rat), rfl, hx, num_int 0, ⟨hz, z39⟩, fun H' s' => ⟨_, _, rfl, rfl, _, rfl, ?_⟩⟩
    rw [cmp0_neg, decide_eq_false (show ¬ q < 0 by grind)]
    exact iteF ⟨x, rfl, x, some q, rfl, hx.same s', fun v H2 s2 r2 => k v H2 (s'.trans s2) r2⟩

/-! ### pieces, rows -/
def PieceAt (K : PySem.W.Frag) (H : Hp) (v : V) (c : Rat × Rat) : Prop := ∃ (a : Addr) (vt vs : V), v = .ref a ∧ SqT K H a [vt, vs] ∧ Num K H vt c.1 ∧ Num K H vs c.2
theorem PieceAt.same {H H' : Hp} {v : V} {c : Rat × Rat} (s : Same H H') (h : PieceAt K H v c) : PieceAt K H' v c :=
  let ⟨a, vt, vs, e, h1, h2, h3⟩ := h; ⟨a, vt, vs, e, same_sqt s h1, h2.same s, h3.same s⟩
structure Row where
  b : Rat
  s : Rat
  p : Rat
def RowAt (K : PySem.W.Frag) (H : Hp) (v : V) (r : Row) : Prop := ∃ (a : Addr) (vb vs vp : V), v = .ref a ∧ SqT K H a [vb, vs, vp] ∧ Rn K H vb r.b ∧ Rn K H vs r.s ∧ Rn K H vp r.p
theorem RowAt.same {H H' : Hp} {v : V} {r : Row} (s : Same H H') (h : RowAt K H v r) : RowAt K H' v r :=
  let ⟨a, vb, vs, vp, e, h1, h2, h3, h4⟩ := h; ⟨a, vb, vs, vp, e, same_sqt s h1, h2.same s, h3.same s, h4.same s⟩
def SzR (n : Nat) (r : Row) : Prop := Sz n r.b ∧ Sz n r.s ∧ Sz n r.p
def spIsP (K : PySem.W.Frag) : Sp := fun vs H Q _ => ∃ (x : V) (c : Rat × Rat), vs = [x] ∧ PieceAt K H x c ∧ Q (.bl true) H
theorem ok_IsP {f fN : Addr} {fd dN : FuncData} (D : DefAt K mg "_is_piece" sIsP ["value"] f fd) (DN : DefAt K mg "is_number" sIN ["value"] fN dN) (mi : mg "isinstance" = none) (mt : mg "tuple" = none) (ml : mg "len" = none)
    (GN : FnOk P w K mg base (CXl P w) 3 fN dN ["value"] (spIN K)) : FnOk P w K mg base (CXl P w) 4 f fd ["value"] (spIsP K) := by
  refine D.F.okX scIsP (fun vs H Q E h => ?_) (fun cdv A outer s H vs Q E hr h => ?_)
  · obtain ⟨x, c, rfl, _⟩ := h
    rfl
  · obtain ⟨x, c, rfl, ⟨a, vt, vs, rfl, ht, h1, h2⟩, q⟩ := h
    refine ⟨_, pss_one (ps_ret (pe_and (pe_callB call_isi (by rfl) mi (by decide +kernel) (pa_cons (pv 0) (pa_cons (pe_bltn (v := .ty "tuple") (by rfl) mt (by decide +kernel) rfl) pa_nil)))
      (pe_and (pe_cmpR op_eq (pe_callB call_len_seq (by rfl) ml PySem.boot_len (pa_cons (pv 0) pa_nil)) pe_int (nomark _))
      (pe_and (pe_call GN hr (by rfl) DN.g DN.F.kp DN.b .nil passL (pa_cons (pe_ix (r := rIxT K) ix_tup (pv 0) pe_int (fun _ _ => rfl)) pa_nil))
      (pe_one (pe_call GN hr (by rfl) DN.g DN.F.kp DN.b .nil passL (pa_cons (pe_ix (r := rIxT K) ix_tup (pv 0) pe_int (fun _ _ => rfl)) pa_nil))))))), ?_⟩
    refine ⟨_, rfl, _, _, _, _, _, rfl, .ty "tuple", sqt_ty ht, kd_tuple (.tup (sqt_ty ht)), _, rfl, iteT ?_⟩
    refine ⟨_, rfl, a, _, rfl, .inr ht, rfl, _, rfl, iteT ?_⟩
    refine ⟨_, rfl, a, _, 0, _, rfl, rfl, ht, atI_nat (j := 0) rfl, vt, some c.1, rfl, h1, _, rfl, iteT ?_⟩
    exact ⟨_, rfl, a, _, 1, _, rfl, rfl, ht, atI_nat (j := 1) rfl, vs, some c.2, rfl, h2, q⟩
def spPosn (K : PySem.W.Frag) : Sp := fun vs H Q _ => ∃ (v x : V) (r : Row) (t : Rat), vs = [v, x] ∧ RowAt K H v r ∧ Num K H x t ∧ SzR 1200 r ∧ Sz 1200 t ∧ ∀ y H', Same H H' → Rn K H' y (r.p + r.s * (t - r.b)) → Q y H'
theorem ok_Posn {f fP fM fT C : Addr} {fd dP dM dT : FuncData} (D : DefAt K mg "_position" sPosn ["row", "time"] f fd) (DP : DefAt K mg "plus" s_plus ["first", "second"] fP dP) (DM : DefAt K mg "minus" s_minus ["first", "second"] fM dM) (DT : DefAt K mg "times" s_times ["first", "second"] fT dT)
    (GP : FnOk P w K mg base (CXl P w) 4 fP dP ["first", "second"] (sp_plus K C)) (GM : FnOk P w K mg base (CXl P w) 4 fM dM ["first", "second"] (sp_minus K C)) (GT : FnOk P w K mg base (CXl P w) 4 fT dT ["first", "second"] (sp_times K C)) : FnOk P w K mg base (CXl P w) 5 f fd ["row", "time"] (spPosn K) := by
  refine D.F.okX scPosn (fun vs H Q E h => ?_) (fun cdv A outer s H vs Q E hr h => ?_)
  · obtain ⟨v, x, r, t, rfl, _⟩ := h
    rfl
  · obtain ⟨v, x, r, t, rfl, ⟨a, vb, vs, vp, rfl, ht, hb, hs, hp⟩, hx, ⟨zb, zs, zp⟩, zt, q⟩ := h
    refine ⟨_, pss_cons (ps_asg (pv 0) (pg_tup (by rfl) (pgs_cons (pg_name (i := 2) scPosn.nd rfl (.inl rfl)) (pgs_cons (pg_name (i := 3) scPosn.nd rfl (.inl rfl)) (pgs_cons (pg_name (i := 4) scPosn.nd rfl (.inl rfl)) pgs_nil)))))
      (pss_one (ps_ret (pe_call GP hr (by rfl) DP.g DP.F.kp DP.b .nil passL (pa_cons (pv 4) (pa_cons (pe_call GT hr (by rfl) DT.g DT.F.kp DT.b .nil passL (pa_cons (pv 3) (pa_cons (pe_call GM hr (by rfl) DM.g DM.F.kp DM.b .nil passL (pa_cons (pv 1) (pa_cons (pv 2) pa_nil))) pa_nil))) pa_nil))))), ?_⟩
    refine ⟨_, rfl, a, [vb, vs, vp], rfl, ht, rfl, vb, _, rfl, vs, _, rfl, vp, _, rfl, rfl, ?_⟩
    have up : ∀ {n : Nat} {q : Rat}, n ≤ 3900 → Sz n q → Sz 3900 q := fun h z => z.mono h
    refine ⟨vp, rfl, vs, rfl, x, rfl, vb, rfl, x, vb, some t, some r.b, rfl, hx, hb.num, ⟨zt.mono (by decide), zb.mono (by decide)⟩, fun v1 H1 s1 r1 => ?_⟩
    refine ⟨vs, v1, some r.s, some (t - r.b), rfl, (hs.same s1).num, r1.num, ⟨zs.mono (by decide), (zt.sub zb).mono (by decide)⟩, fun v2 H2 s2 r2 => ?_⟩
    refine ⟨vp, v2, some r.p, some (r.s * (t - r.b)), rfl, (hp.same (s1.trans s2)).num, r2.num, ⟨zp.mono (by decide), (zs.mul (zt.sub zb)).mono (by decide)⟩, fun v3 H3 s3 r3 => ?_⟩
    exact q v3 H3 ((s1.trans s2).trans s3) r3
end
end LR
set_option Elab.async false
set_option linter.all false
set_option maxRecDepth 100000
set_option maxHeartbeats 4000000
namespace LR
open PySem PySem.Spec PyProof.Rows L2
/-! ### rows of a track, plainly -/
def pick (t : Rat) (f r : Row) : Row := if r.b ≤ t then r else f
def rowSel (r0 : Row) (tr : List Row) (t : Rat) : Row := tr.foldl (pick t) r0
def nextRow (r : Row) (c : Rat × Rat) : Row := ⟨c.1, c.2, r.p + r.s * (c.1 - r.b)⟩
def trackGo (r : Row) : List (Rat × Rat) → List Row
  | [] => [r]
  | c :: cs => r :: trackGo (nextRow r c) cs
theorem trackGo_len : ∀ (r : Row) (cs : List (Rat × Rat)), (trackGo r cs).length = cs.length + 1
  | _, [] => rfl
  | r, c :: cs => congrArg Nat.succ (trackGo_len (nextRow r c) cs)
theorem trackGo_zero : ∀ (r : Row) (cs : List (Rat × Rat)), (trackGo r cs)[0]? = some r
  | _, [] => rfl
  | _, _ :: _ => rfl
theorem trackGo_succ : ∀ {r : Row} {cs : List (Rat × Rat)} {i : Nat} {c : Rat × Rat} {x : Row}, cs[i]? = some c → (trackGo r cs)[i]? = some x → (trackGo r cs)[i + 1]? = some (nextRow x c)
  | r, [], i, c, x, h, _ => by simp at h
  | r, d :: cs, 0, c, x, h, h2 => by
    have e1 : d = c := by simpa using h
    have e2 : r = x := by simpa [trackGo] using h2
    subst e1 e2
    show (trackGo (nextRow r d) cs)[0]? = _
    exact trackGo_zero _ _
  | r, d :: cs, i + 1, c, x, h, h2 => by
    have h' : cs[i]? = some c := by simpa using h
    have h2' : (trackGo (nextRow r d) cs)[i]? = some x := by simpa [trackGo] using h2
    have := trackGo_succ h' h2'
    simpa [trackGo] using this
theorem trackGo_sz : ∀ {r : Row} {cs : List (Rat × Rat)} {m i : Nat} {x : Row}, Sz 12 r.b → Sz 12 r.s → Sz m r.p → (∀ c ∈ cs, Sz 12 c.1 ∧ Sz 12 c.2) → (trackGo r cs)[i]? = some x → Sz 12 x.b ∧ Sz 12 x.s ∧ Sz (m + 38 * i) x.p
  | r, [], m, 0, x, h1, h2, h3, _, h => by
    have e : r = x := by simpa [trackGo] using h
    subst e
    exact ⟨h1, h2, h3⟩
  | r, [], m, i + 1, x, _, _, _, _, h => by simp [trackGo] at h
  | r, c :: cs, m, 0, x, h1, h2, h3, _, h => by
    have e : r = x := by simpa [trackGo] using h
    subst e
    exact ⟨h1, h2, h3⟩
  | r, c :: cs, m, i + 1, x, h1, h2, h3, hc, h => by
    have h' : (trackGo (nextRow r c) cs)[i]? = some x := by simpa [trackGo] using h
    obtain ⟨c1, c2⟩ := hc c List.mem_cons_self
    have hp : Sz (m + 38) (nextRow r c).p := (h3.add (h2.mul (c1.sub h1))).mono (by omega)
    obtain ⟨a1, a2, a3⟩ := trackGo_sz (r := nextRow r c) (m := m + 38) c1 c2 hp (fun d hd => hc d (List.mem_cons_of_mem _ hd)) h'
    exact ⟨a1, a2, a3.mono (by omega)⟩
theorem cut1 (x : V) (xs : List V) : cutV (x :: xs) (some 1) none = xs := by
  have e : HT.sIx (x :: xs).length 0 (some 1) = 1 := by
    rw [show (some 1 : Option Int) = some ((1 : Nat) : Int) from rfl, HT.sIx_nat]
    simp
  unfold cutV
  rw [e, HT.sIx_none]
  simp
section
variable {P : Program} {w : World} {K : PySem.W.Frag} {mg : Str → Option Value} {base : Heap}
def TrackAt (K : PySem.W.Frag) (H : Hp) (v : V) (tr : List Row) : Prop := ∃ (a : Addr) (xs : List V), v = .ref a ∧ H a = some (.lst xs) ∧ All2 (RowAt K H) xs tr
theorem TrackAt.same {H H' : Hp} {v : V} {tr : List Row} (s : Same H H') (h : TrackAt K H v tr) : TrackAt K H' v tr :=
  let ⟨a, xs, e, h1, h2⟩ := h; ⟨a, xs, e, s _ _ h1, h2.imp fun _ _ z => z.same s⟩
def PiecesAt (K : PySem.W.Frag) (H : Hp) (v : V) (cs : List (Rat × Rat)) : Prop := ∃ (a : Addr) (xs : List V), v = .ref a ∧ H a = some (.lst xs) ∧ All2 (PieceAt K H) xs cs
theorem PiecesAt.same {H H' : Hp} {v : V} {cs : List (Rat × Rat)} (s : Same H H') (h : PiecesAt K H v cs) : PiecesAt K H' v cs :=
  let ⟨a, xs, e, h1, h2⟩ := h; ⟨a, xs, e, s _ _ h1, h2.imp fun _ _ z => z.same s⟩
def spRowA (K : PySem.W.Frag) : Sp := fun vs H Q _ => ∃ (v x : V) (r0 : Row) (tr : List Row) (t : Rat), vs = [v, x] ∧ TrackAt K H v (r0 :: tr) ∧ Num K H x t ∧ (∀ r ∈ r0 :: tr, Sz 3900 r.b) ∧ Sz 3900 t ∧ ∀ y H', Same H H' → RowAt K H' y (rowSel r0 (r0 :: tr) t) → Q y H'
theorem ok_RowA {f fC C : Addr} {fd dC : FuncData} (D : DefAt K mg "_row_at" sRowA ["rows", "time"] f fd) (DC : DefAt K mg "compare" s_compare ["first", "second"] fC dC) (GC : FnOk P w K mg base (CXl P w) 4 fC dC ["first", "second"] (sp_compare K C)) :
    FnOk P w K mg base (CXl P w) 5 f fd ["rows", "time"] (spRowA K) := by
  refine D.F.okX scRowA (fun vs H Q E h => ?_) (fun cdv A outer s H vs Q E hr h => ?_)
  · obtain ⟨v, x, r0, tr, t, rfl, _⟩ := h
    rfl
  · obtain ⟨v, x, r0, tr, t, rfl, ⟨a, xs, rfl, ha, hA⟩, hx, hz, zt, q⟩ := h
    refine ⟨_, pss_cons (ps_set (i := 2) scRowA.nd rfl (.inl rfl) (pe_ix (r := rIxL K) ix_list (pv 0) pe_int (fun _ _ => rfl)))
      (pss_cons (ps_for (passes_of rfl) rfl (pi_list (pv 0)) (pg_name (i := 3) scRowA.nd rfl (.inl rfl)) (pss_one (ps_if (pt_cmpR op_le (pe_call GC hr (by rfl) DC.g DC.F.kp DC.b .nil passL (pa_cons (pe_ix (r := rIxT K) ix_tup (pv 3) pe_int (fun _ _ => rfl)) (pa_cons (pv 1) pa_nil))) pe_int (nomark _)) (pss_one (ps_set (i := 2) scRowA.nd rfl (.inl rfl) (pv 3))) pss_nil)))
      (pss_one (ps_ret (pv 2)))), ?_⟩
    obtain ⟨x0, xs', rfl⟩ : ∃ x0 xs', xs = x0 :: xs' := by
      cases hA with
      | cons _ _ => exact ⟨_, _, rfl⟩
    have h0 : RowAt K H x0 r0 := by
      cases hA with
      | cons h _ => exact h
    refine ⟨.ref a, rfl, a, _, 0, x0, rfl, rfl, .of ha, atI_nat (j := 0) rfl, .ref a, rfl, a, rfl, ⟨_, .of ha⟩, for_list (xs := x0 :: xs') (fun i σ H1 => Same H H1 ∧ ∃ fv o, σ = [some (.ref a), some x, some fv, o] ∧ RowAt K H1 fv (((r0 :: tr).take i).foldl (pick t) r0))
      ⟨Same.refl _, x0, none, rfl, h0⟩ (fun i σ H1 _ hP => hP.1.seq (.of ha)) (fun i y σ H1 hy hP => ?_) (fun σ H1 hP => ?_)⟩
    · obtain ⟨sm, fv, o, rfl, hf⟩ := hP
      obtain ⟨r, hr', hy'⟩ := hA.get hy
      obtain ⟨b, vb, vs, vp, rfl, ht, hb, hs, hp⟩ := hy'.same sm
      have rm : r ∈ r0 :: tr := List.mem_of_getElem? hr'
      refine ⟨.ref b, rfl, b, _, 0, vb, rfl, rfl, ht, atI_nat (j := 0) rfl, x, rfl, vb, x, some r.b, some t, rfl, hb.num, hx.same sm, ⟨hz r rm, zt⟩, fun H2 s2 => ⟨_, _, rfl, rfl, _, rfl, ?_⟩⟩
      rw [cmp_le]
      by_cases c : r.b ≤ t
      · rw [decide_eq_true c]
        refine iteT ⟨.ref b, rfl, sm.trans s2, .ref b, _, rfl, ?_⟩
        rw [take_snoc hr', List.foldl_append]
        show RowAt K H2 (.ref b) (pick t _ r)
        rw [show ∀ f, pick t f r = r from fun f => if_pos c]
        exact ⟨b, vb, vs, vp, rfl, same_sqt s2 ht, hb.same s2, hs.same s2, hp.same s2⟩
      · rw [decide_eq_false c]
        refine iteF ⟨sm.trans s2, fv, _, rfl, ?_⟩
        rw [take_snoc hr', List.foldl_append]
        show RowAt K H2 fv (pick t _ r)
        rw [show ∀ f, pick t f r = f from fun f => if_neg c]
        exact hf.same s2
    · obtain ⟨sm, fv, o, rfl, hf⟩ := hP
      rw [List.take_of_length_le (by rw [hA.len]; exact Nat.le_refl _)] at hf
      exact ⟨fv, rfl, q fv H1 sm hf⟩
abbrev sTrk : Stmt := topS 38
theorem scTrk : FnScope ["start", "pieces", "rows", "time", "speed"] ["start", "pieces"] (defScope sTrk) := ⟨rfl, rfl, rfl, by decide +kernel, rfl, by decide +kernel, by decide +kernel⟩
end
end LR
set_option Elab.async false
set_option linter.all false
set_option maxRecDepth 100000
set_option maxHeartbeats 4000000
namespace LR
open PySem PySem.Spec PyProof.Rows L2
section
variable {P : Program} {w : World} {K : PySem.W.Frag} {mg : Str → Option Value} {base : Heap}
theorem row_upd {H : Hp} {D : Addr} {ys : List V} {o : HO} {v : V} {r : Row} (hD : H D = some (.lst ys)) (h : RowAt K H v r) : RowAt K (upd H D o) v r := by
  obtain ⟨a, vb, vs, vp, rfl, ht, hb, hs, hp⟩ := h
  exact ⟨a, vb, vs, vp, rfl, sqt_upd hD (fun _ e => by cases e) (fun _ _ e => by cases e) ht, rn_lst hD hb, rn_lst hD hs, rn_lst hD hp⟩
theorem sqt_but {H H' : Hp} {D a : Addr} {xs ys : List V} (hD : H D = some (.lst ys)) (b : But D H H') (h : SqT K H a xs) : SqT K H' a xs := by
  rcases h with (h | ⟨ob, h⟩) | h
  · exact .inl (.inl (b _ _ (ne_of h hD (fun e => by cases e)) h))
  · exact .inl (.inr ⟨ob, b _ _ (ne_of h hD (fun e => by cases e)) h⟩)
  · exact .inr h
theorem rn_but {H H' : Hp} {D : Addr} {ys : List V} {x : V} {q : Rat} (hD : H D = some (.lst ys)) (b : But D H H') (h : Rn K H x q) : Rn K H' x q := let ⟨a, e, h⟩ := h; ⟨a, e, sqt_but hD b h⟩
theorem num_but {H H' : Hp} {D : Addr} {ys : List V} {x : V} {q : Rat} (hD : H D = some (.lst ys)) (b : But D H H') (h : Num K H x q) : Num K H' x q := by
  rcases h.kinds with ⟨rfl, e⟩ | h
  · have e2 : q = ((q.num : Int) : Rat) := Rat.ext rfl e
    have := num_int (K := K) (H := H') q.num
    rw [← e2] at this
    exact this
  · exact (rn_but hD b h).num
theorem row_but {H H' : Hp} {D : Addr} {ys : List V} {v : V} {r : Row} (hD : H D = some (.lst ys)) (b : But D H H') (h : RowAt K H v r) : RowAt K H' v r := by
  obtain ⟨a, vb, vs, vp, rfl, ht, h1, h2, h3⟩ := h
  exact ⟨a, vb, vs, vp, rfl, sqt_but hD b ht, rn_but hD b h1, rn_but hD b h2, rn_but hD b h3⟩
theorem piece_but {H H' : Hp} {D : Addr} {ys : List V} {v : V} {c : Rat × Rat} (hD : H D = some (.lst ys)) (b : But D H H') (h : PieceAt K H v c) : PieceAt K H' v c := by
  obtain ⟨a, vt, vs, rfl, ht, h1, h2⟩ := h
  exact ⟨a, vt, vs, rfl, sqt_but hD b ht, num_but hD b h1, num_but hD b h2⟩
theorem none_of_same {H H' : Hp} {D : Addr} (s : Same H H') (n : H' D = none) : H D = none := by
  cases e : H D with
  | none => rfl
  | some o => rw [s _ _ e] at n; cases n
theorem but_same {H H' H2 : Hp} {D : Addr} (b : But D H H') (s : Same H' H2) : But D H H2 := fun x o n e => s _ _ (b x o n e)
theorem but_upd {H H' : Hp} {D : Addr} {o : HO} (b : But D H H') : But D H (upd H' D o) := fun x y n e => by rw [upd_ne n]; exact b x y n e
/-- the track that _track builds -/
def mkTrack (s0 : Rat) (c : Rat × Rat) (cs : List (Rat × Rat)) : List Row := trackGo ⟨0, c.2, s0⟩ cs
def spTrk (K : PySem.W.Frag) : Sp := fun vs H Q _ => ∃ (x v : V) (s0 : Rat) (c : Rat × Rat) (cs : List (Rat × Rat)), vs = [x, v] ∧ Rn K H x s0 ∧ PiecesAt K H v (c :: cs) ∧ Sz 300 s0 ∧ (∀ d ∈ c :: cs, Sz 12 d.1 ∧ Sz 12 d.2) ∧ cs.length < 20 ∧
  ∀ p H', Same H H' → H p = none → TrackAt K H' (.ref p) (mkTrack s0 c cs) → Q (.ref p) H'
theorem ok_Trk {f fA fP C : Addr} {fd dA dP : FuncData} (D : DefAt K mg "_track" sTrk ["start", "pieces"] f fd) (DA : DefAt K mg "as_ratio" sAR ["value"] fA dA) (DP : DefAt K mg "_position" sPosn ["row", "time"] fP dP)
    (GA : FnOk P w K mg base (CXl P w) 3 fA dA ["value"] (spAR K C)) (GP : FnOk P w K mg base (CXl P w) 5 fP dP ["row", "time"] (spPosn K)) : FnOk P w K mg base (CXl P w) 6 f fd ["start", "pieces"] (spTrk K) := by
  refine D.F.okX scTrk (fun vs H Q E h => ?_) (fun cdv A outer s H vs Q E hr h => ?_)
  · obtain ⟨x, v, s0, c, cs, rfl, _⟩ := h
    rfl
  · obtain ⟨x, v, s0, c, cs, rfl, hx, ⟨a, xs, rfl, ha, hA⟩, z0, hz, hl, q⟩ := h
    refine ⟨_, pss_cons (ps_set (i := 2) scTrk.nd rfl (.inl rfl) (pe_lst (pa_cons (pe_tup (pa_cons (pe_tup (pa_cons pe_int (pa_cons pe_int pa_nil))) (pa_cons (pe_call GA (hr.mono (by decide)) (by rfl) DA.g DA.F.kp DA.b .nil passL (pa_cons (pe_ix (r := rIxT K) ix_tup (pe_ix (r := rIxL K) ix_list (pv 1) pe_int (fun _ _ => rfl)) pe_int (fun _ _ => rfl)) pa_nil)) (pa_cons (pv 0) pa_nil)))) pa_nil)))
      (pss_cons (ps_for (passes_of rfl) rfl (pi_list (pe_slice sl_list (pv 1) (po_some pe_int) po_none)) (pg_tup rfl (pgs_cons (pg_name (i := 3) scTrk.nd rfl (.inl rfl)) (pgs_cons (pg_name (i := 4) scTrk.nd rfl (.inl rfl)) pgs_nil)))
        (pss_one (ps_expr (pe_bm PySem.F.plainAttrs_list PySem.F.slot_list_append PySem.F.type_list_append mt_append (pv 2) (pa_cons (pe_tup (pa_cons (pe_call GA (hr.mono (by decide)) (by rfl) DA.g DA.F.kp DA.b .nil passL (pa_cons (pv 3) pa_nil)) (pa_cons (pe_call GA (hr.mono (by decide)) (by rfl) DA.g DA.F.kp DA.b .nil passL (pa_cons (pv 4) pa_nil)) (pa_cons (pe_call GP hr (by rfl) DP.g DP.F.kp DP.b .nil passL (pa_cons (pe_ix (r := rIxL K) ix_list (pv 2) (pe_un un_neg pe_int) (fun _ _ => rfl)) (pa_cons (pv 3) pa_nil))) pa_nil)))) pa_nil)))))
      (pss_one (ps_ret (pv 2)))), ?_⟩
    obtain ⟨x0, xs', rfl⟩ : ∃ x0 xs', xs = x0 :: xs' := by
      cases hA with
      | cons _ _ => exact ⟨_, _, rfl⟩
    have h0 : PieceAt K H x0 c := by
      cases hA with
      | cons h _ => exact h
    have hA' : All2 (PieceAt K H) xs' cs := by
      cases hA with
      | cons _ h => exact h
    obtain ⟨b0, vt, vsp, rfl, ht0, hn1, hn2⟩ := h0
    refine ⟨by show 2 ≤ sizeLine; decide, fun T nT => ?_⟩
    have hT : (upd H T (.tup [.int 0, .int 1])) T = some (.tup [.int 0, .int 1]) := upd_same
    have sT : Same H (upd H T (.tup [.int 0, .int 1])) := same_new nT
    generalize (upd H T (.tup [.int 0, .int 1])) = H1 at hT sT ⊢
    have rT : Rn K H1 (.ref T) 0 := ⟨T, rfl, .inl (.inl hT)⟩
    refine ⟨.ref a, rfl, a, _, 0, .ref b0, rfl, rfl, .of (sT _ _ ha), atI_nat (j := 0) rfl, b0, _, 1, vsp, rfl, rfl, same_sqt sT ht0, atI_nat (j := 1) rfl, vsp, some c.2, rfl, hn2.same sT, fun v1 H2 s1 r1 => ?_⟩
    refine ⟨x, rfl, by show 3 ≤ sizeLine; decide, fun U nU => ?_⟩
    have hU : (upd H2 U (.tup [.ref T, v1, x])) U = some (.tup [.ref T, v1, x]) := upd_same
    have sU : Same H2 (upd H2 U (.tup [.ref T, v1, x])) := same_new nU
    generalize (upd H2 U (.tup [.ref T, v1, x])) = H3 at hU sU ⊢
    have s13 : Same H1 H3 := s1.trans sU
    have rU : RowAt K H3 (.ref U) ⟨0, c.2, s0⟩ := ⟨U, .ref T, v1, x, rfl, .inl (.inl hU), rT.same s13, r1.same sU, hx.same (sT.trans s13)⟩
    refine ⟨by show 1 ≤ sizeLine; decide, fun M nM => ?_⟩
    have nM0 : H M = none := none_of_same (sT.trans s13) nM
    have hM : (upd H3 M (.lst [.ref U])) M = some (.lst [.ref U]) := upd_same
    have sM : Same H3 (upd H3 M (.lst [.ref U])) := same_new nM
    generalize (upd H3 M (.lst [.ref U])) = H4 at hM sM ⊢
    have s04 : Same H H4 := (sT.trans s13).trans sM
    refine ⟨.ref a, rfl, 1, rfl, a, _, rfl, .of (s04 _ _ ha), fun L nL => ?_⟩
    rw [cut1]
    have hL : (upd H4 L (.lst xs')) L = some (.lst xs') := upd_same
    have sL : Same H4 (upd H4 L (.lst xs')) := same_new nL
    have hM5 := sL _ _ hM
    have rU5 : RowAt K (upd H4 L (.lst xs')) (.ref U) ⟨0, c.2, s0⟩ := rU.same (sM.trans sL)
    have s05 : Same H (upd H4 L (.lst xs')) := s04.trans sL
    have nLM : L ≠ M := fun e => by rw [e, hM] at nL; cases nL
    show ∃ l, _
    generalize (upd H4 L (.lst xs')) = H5 at hL sL hM5 rU5 s05 ⊢
    have hA5 : All2 (PieceAt K H5) xs' cs := hA'.imp fun _ _ z => z.same s05
    have tl := trackGo_len ⟨0, c.2, s0⟩ cs
    have szd : ∀ d ∈ cs, Sz 12 d.1 ∧ Sz 12 d.2 := fun d hd => hz d (List.mem_cons_of_mem _ hd)
    have lenA := hA5.len
    refine ⟨L, rfl, ⟨_, .of hL⟩, for_list (xs := xs') (fun i σ G => But M H5 G ∧ ∃ o1 o2 acc v r, σ = [some x, some (.ref a), some (.ref M), o1, o2] ∧ G M = some (.lst (acc ++ [v])) ∧ All2 (RowAt K G) (acc ++ [v]) ((mkTrack s0 c cs).take (i + 1)) ∧ RowAt K G v r ∧ (mkTrack s0 c cs)[i]? = some r)
      ⟨fun _ _ _ e => e, none, none, [], .ref U, _, rfl, hM5, ?_, rU5, trackGo_zero _ _⟩ (fun i σ G _ hP => .of (hP.1 _ _ nLM hL)) (fun i y σ G hy hP => ?_) (fun σ G hP => ?_)⟩
    · have e : (mkTrack s0 c cs).take (0 + 1) = [⟨0, c.2, s0⟩] := by
        unfold mkTrack
        cases cs <;> rfl
      rw [e]
      exact .cons rU5 .nil
    · obtain ⟨bt, o1, o2, acc, v, r, rfl, hG, hAll, hv, hgr⟩ := hP
      obtain ⟨d, hd', py⟩ := hA5.get hy
      obtain ⟨b, vt', vs', rfl, ht, hn1', hn2'⟩ := piece_but hM5 bt py
      have il : i < xs'.length := (List.getElem?_eq_some_iff.mp hy).1
      obtain ⟨d1, d2⟩ := szd d (List.mem_of_getElem? hd')
      obtain ⟨rb, rs, rp⟩ := trackGo_sz (r := ⟨0, c.2, s0⟩) (m := 300) (Sz.int (n := 0) (by decide) (by decide)) (hz c List.mem_cons_self).2 z0 szd hgr
      refine ⟨b, [vt', vs'], rfl, ht, rfl, vt', _, rfl, vs', _, rfl, rfl, ?_⟩
      refine ⟨.ref M, rfl, .inl ⟨rfl, _, .of hG⟩, vt', rfl, vt', some d.1, rfl, hn1', fun w1 G1 s1 e1 => ?_⟩
      refine ⟨vs', rfl, vs', some d.2, rfl, hn2'.same s1, fun w2 G2 s2 e2 => ?_⟩
      have s12 := s1.trans s2
      refine ⟨.ref M, rfl, 1, rfl, M, _, -1, v, rfl, rfl, .of (s12 _ _ hG), atI_last _ _, vt', rfl, v, vt', r, d.1, rfl, hv.same s12, hn1'.same s12, ⟨rb.mono (by decide), rs.mono (by decide), rp.mono (by omega)⟩, d1.mono (by decide), fun w3 G3 s3 e3 => ?_⟩
      have s13' := s12.trans s3
      refine ⟨by show 3 ≤ sizeLine; decide, fun T2 nT2 => ?_⟩
      have hT2 : (upd G3 T2 (.tup [w1, w2, w3])) T2 = some (.tup [w1, w2, w3]) := upd_same
      have sT2 : Same G3 (upd G3 T2 (.tup [w1, w2, w3])) := same_new nT2
      generalize (upd G3 T2 (.tup [w1, w2, w3])) = G4 at hT2 sT2 ⊢
      have s14 := s13'.trans sT2
      have hG4 := s14 _ _ hG
      have rowN : RowAt K G4 (.ref T2) (nextRow r d) := ⟨T2, w1, w2, w3, rfl, .inl (.inl hT2), e1.same ((s2.trans s3).trans sT2), e2.same (s3.trans sT2), e3.same sT2⟩
      have al := hAll.len
      have lenAcc : (acc ++ [v]).length ≤ 22 := by
        rw [al, List.length_take]
        omega
      refine ⟨M, _, .ref T2, rfl, rfl, hG4, Nat.lt_of_le_of_lt lenAcc (by decide), ?_⟩
      refine ⟨but_upd (but_same bt s14), _, _, acc ++ [v], .ref T2, nextRow r d, rfl, upd_same, ?_, row_upd hG4 rowN, trackGo_succ hd' hgr⟩
      have ts : (mkTrack s0 c cs)[i + 1]? = some (nextRow r d) := trackGo_succ hd' hgr
      rw [take_snoc ts]
      exact (hAll.imp fun _ _ z => row_upd hG4 (z.same s14)).snoc (row_upd hG4 rowN)
    · obtain ⟨bt, o1, o2, acc, v, r, rfl, hG, hAll, _, _⟩ := hP
      rw [List.take_of_length_le (by show (trackGo _ _).length ≤ _; omega)] at hAll
      exact ⟨.ref M, rfl, q M G (fun b o e => bt b o (ne_of_none e nM0) (s05 b o e)) nM0 ⟨M, _, rfl, hG, hAll⟩⟩
end
end LR
set_option Elab.async false
set_option linter.all false
set_option maxRecDepth 100000
set_option maxHeartbeats 4000000
namespace LR
open PySem PySem.Spec PyProof.Rows L2
abbrev sNam : Stmt := topS 27
abbrev sAreP : Stmt := topS 36
abbrev sIsRn : Stmt := topS 35
theorem scNam : FnScope ["value", "sign"] ["value"] (defScope sNam) := ⟨rfl, rfl, rfl, by decide +kernel, rfl, by decide +kernel, by decide +kernel⟩
theorem scAreP : FnScope ["value", "begins", "piece", "time"] ["value"] (defScope sAreP) := ⟨rfl, rfl, rfl, by decide +kernel, rfl, by decide +kernel, by decide +kernel⟩
theorem scIsRn : FnScope ["value"] ["value"] (defScope sIsRn) := ⟨rfl, rfl, rfl, by decide +kernel, rfl, by decide +kernel, by decide +kernel⟩
abbrev letters : Str := "abcdefghijklmnopqrstuvwxyz"
abbrev digits : Str := "0123456789"
/-- a name -/
def NameOk (z : Str) : Prop := z.length ≤ 8 ∧ ∃ c cs, z.cps.toList = c :: cs ∧ c ∈ letters.cps.toList ∧ ∀ d ∈ c :: cs, d ∈ (letters ++ digits).cps.toList
section
variable {P : Program} {w : World} {K : PySem.W.Frag} {mg : Str → Option Value} {base : Heap}
def spNam : Sp := fun vs H Q _ => ∃ z : Str, vs = [.str z] ∧ NameOk z ∧ ∀ H', Same H H' → Q (.bl true) H'
theorem ok_Nam {f : Addr} {fd : FuncData} {tl td tm : Tok} (D : DefAt K mg "is_name" sNam ["value"] f fd) (gl : mg "LETTERS" = some (.str letters tl)) (gd : mg "DIGITS" = some (.str digits td)) (gm : mg "MOST_LETTERS" = some (.int 8 tm)) (mi : mg "isinstance" = none) (ms : mg "str" = none) (ml : mg "len" = none) (ma : mg "all" = none) :
    FnOk P w K mg base (CXl P w) 1 f fd ["value"] spNam := by
  refine D.F.okX scNam (fun vs H Q E h => ?_) (fun cdv A outer s H vs Q E hr h => ?_)
  · obtain ⟨z, rfl, _⟩ := h
    rfl
  · obtain ⟨z, rfl, ⟨h8, c, cs, hz, hc, hd⟩, q⟩ := h
    refine ⟨_, pss_cons (ps_if (PW.pt (pw_or (pt_not (pt_val (pe_callB call_isi (by rfl) mi (by decide +kernel) (pa_cons (pv 0) (pa_cons (pe_bltn (v := .ty "str") (by rfl) ms (by decide +kernel) rfl) pa_nil))))) (pw_or1 (pt_not (pt_chain op_le op_le pe_int (pe_callB call_len_str (by rfl) ml PySem.boot_len (pa_cons (pv 0) pa_nil)) (pe_glob (v := .int 8) rfl gm ⟨_, rfl⟩)))))) (pss_one (ps_ret pe_bl)) pss_nil)
      (pss_one (ps_ret (pe_and (pe_cmpR op_in_sign (pe_ix (r := rIxS) ix_str (pv 0) pe_int (fun _ _ => rfl)) (pe_glob (v := .str letters) rfl gl ⟨_, rfl⟩) (by rfl))
        (pe_one (pe_callB (cr_all rfl) (by rfl) ma (by decide +kernel) (pa_cons (pe_lc (own := [("sign", 1)]) (g := gName 1) (tt := tYes) rfl scNam.nd (pi_str (pv 0)) (blkOk_by (N := ["value", "sign"]) (sc := defScope sNam) (by decide +kernel)) (fun _ _ _ _ _ => pg_name (i := 1) scNam.nd rfl (.inl rfl)) (fun _ _ _ _ _ => pts_nil)
          (fun _ _ _ _ _ => pe_cmpR op_in_sign (pv 1) (pe_op op_add_str (pe_glob (v := .str letters) rfl gl ⟨_, rfl⟩) (pe_glob (v := .str digits) rfl gd ⟨_, rfl⟩)) (by rfl))) pa_nil)))))), ?_⟩
    have kz : Kd K H (.str z) "str" := .str z
    have zl : z.length = cs.length + 1 := by
      show z.cps.size = _
      rw [← Array.length_toList, hz]
      rfl
    have zs : z.length ≤ sizeLine := Nat.le_trans h8 (by decide)
    refine ⟨_, rfl, _, _, _, _, _, rfl, .ty "str", kz.ty, kd_str kz, _, rfl, iteF ?_⟩
    refine ⟨_, rfl, z, rfl, zs, _, _, rfl, rfl, _, rfl, ite2 (fun _ => ?_) (fun e => absurd (decide_eq_true (show (1 : Int) ≤ (z.length : Int) by omega)) e)⟩
    refine ⟨_, _, rfl, rfl, _, rfl, ite2 (fun e => absurd e ?_) (fun _ => ?_)⟩
    · rw [decide_eq_true (show (z.length : Int) ≤ 8 by omega)]
      decide
    refine ⟨_, rfl, z, 0, c, rfl, rfl, zs, atI_nat (j := 0) (by rw [hz]; rfl), c, letters, rfl, rfl, _, rfl, ?_⟩
    rw [decide_eq_true hc]
    refine iteT ?_
    have sz : z.cps.size = cs.length + 1 := by
      rw [← Array.length_toList, hz]
      rfl
    refine ⟨_, rfl, z, rfl, fun D1 n1 => lc_it walk_str (fun i H' => Same H H' ∧ H' D1 = some (.lst (List.replicate i (.bl true)))) ⟨same_new n1, upd_same⟩ (fun _ _ _ _ => trivial) (fun i x H' H2 hi hP hy => ?_) (fun H' hP => ?_)⟩
    · obtain ⟨rfl, e, he, rfl⟩ := hy
      obtain ⟨sm, hD⟩ := hP
      have em : e ∈ (letters ++ digits).cps.toList := hd e (by
        rw [← hz]
        exact List.mem_of_getElem? (i := i) (by rw [Array.getElem?_toList]; exact he))
      refine ⟨rfl, _, rfl, letters, digits, rfl, rfl, by decide, e, letters ++ digits, rfl, rfl, _, hD, Nat.lt_of_le_of_lt (m := 1000) (by rw [List.length_replicate]; omega) (by decide), same_but sm n1, ?_⟩
      rw [upd_same, List.replicate_succ', decide_eq_true em]
    · obtain ⟨sm, hD⟩ := hP
      refine ⟨D1, List.replicate z.cps.size true, rfl, .of (by rw [hD, List.map_replicate]), ?_⟩
      rw [show (List.replicate z.cps.size true).all id = true from by simp]
      exact q H' sm
theorem asc_uniq : ∀ {l m : List Rat}, l.Pairwise (· < ·) → m.Pairwise (· < ·) → (∀ r, r ∈ l ↔ r ∈ m) → l = m
  | [], [], _, _, _ => rfl
  | [], t :: ts, _, _, h => absurd ((h t).mpr List.mem_cons_self) (by simp)
  | r :: rs, [], _, _, h => absurd ((h r).mp List.mem_cons_self) (by simp)
  | r :: rs, t :: ts, a, b, h => by
    obtain ⟨a1, a2⟩ := List.pairwise_cons.mp a
    obtain ⟨b1, b2⟩ := List.pairwise_cons.mp b
    have e : r = t := by
      by_cases c : r = t
      · exact c
      · have h1 : t ∈ rs := (List.mem_cons.mp ((h t).mpr List.mem_cons_self)).resolve_left (fun z => c z.symm)
        have h2 : r ∈ ts := (List.mem_cons.mp ((h r).mp List.mem_cons_self)).resolve_left c
        have h3 := a1 t h1
        have h4 := b1 r h2
        grind
    subst e
    rw [asc_uniq a2 b2 fun z => ⟨fun hz => ?_, fun hz => ?_⟩]
    · exact (List.mem_cons.mp ((h z).mp (List.mem_cons_of_mem _ hz))).resolve_left fun e => Rat.lt_irrefl (e ▸ a1 z hz)
    · exact (List.mem_cons.mp ((h z).mpr (List.mem_cons_of_mem _ hz))).resolve_left fun e => Rat.lt_irrefl (e ▸ b1 z hz)
theorem num_lst {H : Hp} {D : Addr} {ys : List V} {o : HO} {x : V} {q : Rat} (hD : H D = some (.lst ys)) (h : Num K H x q) : Num K (upd H D o) x q := num_but hD (but_upd fun _ _ _ e => e) h
/-- valid pieces -/
structure PcsOk (cs : List (Rat × Rat)) : Prop where
  ne : 0 < cs.length
  le : cs.length ≤ 20
  zero : (cs.map (·.1)).head? = some 0
  asc : (cs.map (·.1)).Pairwise (· < ·)
  sz : ∀ c ∈ cs, Sz 12 c.1 ∧ Sz 12 c.2
def spAreP (K : PySem.W.Frag) : Sp := fun vs H Q _ => ∃ (v : V) (cs : List (Rat × Rat)), vs = [v] ∧ PiecesAt K H v cs ∧ PcsOk cs ∧ ∀ H', Same H H' → Q (.bl true) H'
theorem ok_AreP {f fI fC fO fA C : Addr} {fd dI dC dO dA : FuncData} {tm : Tok} (D : DefAt K mg "_are_pieces" sAreP ["value"] f fd) (DI : DefAt K mg "_is_piece" sIsP ["value"] fI dI) (DC : DefAt K mg "compare" s_compare ["first", "second"] fC dC) (DO : DefAt K mg "in_order" sInO ["values"] fO dO) (DA : DefAt K mg "as_ratio" sAR ["value"] fA dA)
    (gm : mg "MOST_PIECES" = some (.int 20 tm)) (mi : mg "isinstance" = none) (mls : mg "list" = none) (mt : mg "tuple" = none) (ml : mg "len" = none) (ma : mg "all" = none)
    (GI : FnOk P w K mg base (CXl P w) 4 fI dI ["value"] (spIsP K)) (GC : FnOk P w K mg base (CXl P w) 4 fC dC ["first", "second"] (sp_compare K C)) (GO : FnOk P w K mg base (CXl P w) 4 fO dO ["values"] (spInO K C)) (GA : FnOk P w K mg base (CXl P w) 3 fA dA ["value"] (spAR K C)) :
    FnOk P w K mg base (CXl P w) 5 f fd ["value"] (spAreP K) := by
  refine D.F.okX scAreP (fun vs H Q E h => ?_) (fun cdv A outer s H vs Q E hr h => ?_)
  · obtain ⟨v, cs, rfl, _⟩ := h
    rfl
  · obtain ⟨v, cs, rfl, ⟨a, xs, rfl, ha, hA⟩, ok, q⟩ := h
    refine ⟨_, pss_cons (ps_if (PW.pt (pw_or (pt_not (pt_val (pe_callB call_isiT (by rfl) mi (by decide +kernel) (pa_cons (pv 0) (pa_cons (pe_tup (pa_cons (pe_bltn (v := .ty "list") (by rfl) mls (by decide +kernel) rfl) (pa_cons (pe_bltn (v := .ty "tuple") (by rfl) mt (by decide +kernel) rfl) pa_nil))) pa_nil))))) (pw_or1 (pt_not (pt_chain op_le op_le pe_int (pe_callB call_len_seq (by rfl) ml PySem.boot_len (pa_cons (pv 0) pa_nil)) (pe_glob (v := .int 20) rfl gm ⟨_, rfl⟩)))))) (pss_one (ps_ret pe_bl)) pss_nil)
      (pss_cons (ps_if (pt_not (pt_val (pe_callB (cr_all rfl) (by rfl) ma (by decide +kernel) (pa_cons (pe_lc (own := [("piece", 2)]) (g := gName 2) (tt := tYes) rfl scAreP.nd (pi_list (pv 0)) (blkOk_by (N := ["value", "begins", "piece", "time"]) (sc := defScope sAreP) (by decide +kernel)) (fun _ _ _ _ _ => pg_name (i := 2) scAreP.nd rfl (.inl rfl)) (fun _ _ _ _ _ => pts_nil)
          (fun _ _ _ _ _ => pe_call GI hr (by rfl) DI.g DI.F.kp DI.b .nil passL (pa_cons (pv 2) pa_nil))) pa_nil)))) (pss_one (ps_ret pe_bl)) pss_nil)
      (pss_cons (ps_setLc (i := 1) (own := [("piece", 2)]) (g := gName 2) (tt := tYes) rfl scAreP.nd rfl rfl (sw_true rfl rfl rfl (by decide +kernel)) (pi_list (pv 0)) (blkOk_by (N := ["value", "begins", "piece", "time"]) (sc := defScope sAreP) (by decide +kernel)) (fun _ _ _ _ _ => pg_name (i := 2) scAreP.nd rfl (.inl rfl)) (fun _ _ _ _ _ => pts_nil)
          (fun _ _ _ _ _ => pe_ix (r := rIxT K) ix_tup (pv 2) pe_int (fun _ _ => rfl)))
      (pss_one (ps_ret (pe_and (pe_cmpR op_eq (pe_call GC hr (by rfl) DC.g DC.F.kp DC.b .nil passL (pa_cons (pe_ix (r := rIxL K) ix_list (pv 1) pe_int (fun _ _ => rfl)) (pa_cons pe_int pa_nil))) pe_int (nomark _))
        (pe_one (pe_cmpR (op_eqD hr.units) (pe_call GO hr (by rfl) DO.g DO.F.kp DO.b .nil passL (pa_cons (pv 1) pa_nil)) (pe_lc (own := [("time", 3)]) (g := gName 3) (tt := tYes) rfl scAreP.nd (pi_list (pv 1)) (blkOk_by (N := ["value", "begins", "piece", "time"]) (sc := defScope sAreP) (by decide +kernel)) (fun _ _ _ _ _ => pg_name (i := 3) scAreP.nd rfl (.inl rfl)) (fun _ _ _ _ _ => pts_nil)
          (fun _ _ _ _ _ => pe_call GA (hr.mono (by decide)) (by rfl) DA.g DA.F.kp DA.b .nil passL (pa_cons (pv 3) pa_nil))) (nomark _)))))))), ?_⟩
    have lenA := hA.len
    have nex := ok.ne
    have lex := ok.le
    have big : ∀ {n : Nat}, n ≤ 1000 → n < sizeLine := fun h => small1000 h
    refine ⟨.ref a, rfl, by show 2 ≤ sizeLine; decide, fun T nT => ?_⟩
    have sT : Same H (upd H T (.tup [.ty "list", .ty "tuple"])) := same_new nT
    have hT : (upd H T (.tup [.ty "list", .ty "tuple"])) T = some (.tup [.ty "list", .ty "tuple"]) := upd_same
    generalize (upd H T (.tup [.ty "list", .ty "tuple"])) = H1 at sT hT ⊢
    have ha1 := sT _ _ ha
    have iS : SqL K H1 a xs := .of ha1
    refine ⟨.ref a, T, _, .type "list", [.type "list", .type "tuple"], true, rfl, hT, .cons (.ty _) (.cons (.ty _) .nil), sql_ty iS, kitAny_cons (b := true) (kit_ty (by decide +kernel)) (fun e => by cases e) (fun _ => rfl), _, rfl, iteF ?_⟩
    refine ⟨.ref a, rfl, a, _, rfl, .inl iS, _, _, rfl, rfl, _, rfl, ite2 (fun _ => ?_) (fun e => absurd (decide_eq_true (show (1 : Int) ≤ (xs.length : Int) by omega)) e)⟩
    refine ⟨_, _, rfl, rfl, _, rfl, ite2 (fun e => absurd e ?_) (fun _ => ?_)⟩
    · rw [decide_eq_true (show (xs.length : Int) ≤ 20 by omega)]
      decide
    have hA1 : All2 (PieceAt K H1) xs cs := hA.imp fun _ _ z => z.same sT
    -- all([..])
    refine ⟨.ref a, rfl, a, rfl, ⟨_, iS⟩, fun D1 n1 => lc_list (xs := xs) (fun i H' => Same H1 H' ∧ H' D1 = some (.lst (List.replicate i (.bl true)))) ⟨same_new n1, upd_same⟩ (fun i H' _ hP => hP.1.seq iS) (fun i x H' hx hP => ?_) (fun H2 hP => ?_)⟩
    · obtain ⟨sm, hD⟩ := hP
      obtain ⟨c, _, pc⟩ := hA1.get hx
      have il : i < xs.length := (List.getElem?_eq_some_iff.mp hx).1
      refine ⟨rfl, x, rfl, x, c, rfl, pc.same sm, _, hD, big (by rw [List.length_replicate]; omega), same_but sm n1, ?_⟩
      rw [upd_same, List.replicate_succ']
    obtain ⟨s2, hD1⟩ := hP
    refine ⟨D1, List.replicate xs.length true, rfl, .of (by rw [hD1, List.map_replicate]), _, rfl, ite2 (fun e => absurd e (by simp)) (fun _ => ?_)⟩
    have iS2 : SqL K H2 a xs := s2.seq iS
    have hA2 : All2 (PieceAt K H2) xs cs := hA1.imp fun _ _ z => z.same s2
    -- begins
    refine ⟨.ref a, rfl, a, rfl, ⟨_, iS2⟩, fun D2 n2 => lc_list (xs := xs) (fun i H' => Same H2 H' ∧ ∃ acc, H' D2 = some (.lst acc) ∧ acc.length = i ∧ All2 (Num K H') acc ((cs.map (·.1)).take i)) ⟨same_new n2, [], upd_same, rfl, .nil⟩ (fun i H' _ hP => hP.1.seq iS2) (fun i x H' hx hP => ?_) (fun H3 hP => ?_)⟩
    · obtain ⟨sm, acc, hD, hl, hAll⟩ := hP
      obtain ⟨c, hc, pc⟩ := hA2.get hx
      have il : i < xs.length := (List.getElem?_eq_some_iff.mp hx).1
      obtain ⟨b, vt, vs, rfl, ht, hn1, hn2⟩ := pc.same sm
      have hc' : (cs.map (·.1))[i]? = some c.1 := by rw [List.getElem?_map, hc]; rfl
      refine ⟨rfl, .ref b, rfl, b, _, 0, vt, rfl, rfl, ht, atI_nat (j := 0) rfl, acc, hD, big (by omega), same_but sm n2, _, upd_same, by rw [List.length_append, hl]; rfl, ?_⟩
      rw [take_snoc hc']
      exact (hAll.imp fun _ _ z => num_lst hD z).snoc (num_lst hD hn1)
    obtain ⟨s3, bs, hD2, hl2, hB⟩ := hP
    rw [List.take_of_length_le (by rw [List.length_map]; omega)] at hB
    obtain ⟨b0, bs', rfl⟩ : ∃ b0 bs', bs = b0 :: bs' := by
      cases bs with
      | nil => exact absurd hl2 (by simp; omega)
      | cons b bs => exact ⟨b, bs, rfl⟩
    have hb0 : Num K H3 b0 ((0 : Int) : Rat) := by
      obtain ⟨y, hy, hn⟩ := hB.get (i := 0) rfl
      have e := ok.zero
      rw [List.head?_eq_getElem?, hy] at e
      rw [Option.some.inj e] at hn
      exact hn
    refine ⟨.ref D2, rfl, D2, _, 0, b0, rfl, rfl, .of hD2, atI_nat (j := 0) rfl, b0, .int 0, some ((0 : Int) : Rat), some ((0 : Int) : Rat), rfl, hb0, num_int 0, ⟨z39, z39⟩, fun H4 s4 => ?_⟩
    refine ⟨rfl, _, rfl, ite2 (fun _ => ?_) (fun e => absurd (by decide) e)⟩
    have hD4 := s4 _ _ hD2
    have hB4 : All2 (Num K H4) (b0 :: bs') (cs.map (·.1)) := hB.imp fun _ _ z => z.same s4
    refine ⟨.ref D2, rfl, .ref D2, rfl, .inl ⟨D2, cs.map (·.1), rfl, ⟨_, .of hD4, hB4⟩, by rw [List.length_map]; omega, fun q' hq' => ?_, fun rs v5 H5 ord s5 r5 => ?_⟩⟩
    · obtain ⟨c, hc, rfl⟩ := List.mem_map.mp hq'
      exact (ok.sz c hc).1.mono (by decide)
    have ers : rs = cs.map (·.1) := asc_uniq ord.1 ok.asc ord.2
    subst ers
    obtain ⟨R5, rows, rfl, hR5, hA5⟩ := r5
    have iS5 : SqL K H5 D2 (b0 :: bs') := .of (s5 _ _ hD4)
    refine ⟨.ref D2, rfl, D2, rfl, ⟨_, iS5⟩, fun D6 n6 => lc_list (xs := b0 :: bs') (fun i H' => Same H5 H' ∧ ∃ acc, H' D6 = some (.lst acc) ∧ acc.length = i ∧ All2 (Rn K H') acc ((cs.map (·.1)).take i)) ⟨same_new n6, [], upd_same, rfl, .nil⟩ (fun i H' _ hP => hP.1.seq iS5) (fun i x H' hx hP => ?_) (fun H6 hP => ?_)⟩
    · obtain ⟨sm, acc, hD, hl, hAll⟩ := hP
      obtain ⟨p, hp, np⟩ := hB4.get hx
      have il : i < (b0 :: bs').length := (List.getElem?_eq_some_iff.mp hx).1
      refine ⟨rfl, x, rfl, x, some p, rfl, (np.same s5).same sm, fun v H7 s7 r7 => ⟨acc, s7 _ _ hD, big (by omega), same_but (sm.trans s7) n6, _, upd_same, by rw [List.length_append, hl]; rfl, ?_⟩⟩
      rw [take_snoc hp]
      exact (hAll.imp fun _ _ z => rn_lst (s7 _ _ hD) (z.same s7)).snoc (rn_lst (s7 _ _ hD) r7)
    obtain ⟨s6, bs6, hD6, hl6, hB6⟩ := hP
    rw [List.take_of_length_le (by rw [List.length_map]; omega)] at hB6
    refine ⟨_, _, .lst (.of (s6 _ _ hR5)) (rnl_dp (hA5.imp fun _ _ z => Rn.same s6 z)), .lst (.of hD6) (rnl_dp hB6), shapedRs _, shapedRs _, ?_⟩
    rw [eqvRs]
    exact q H6 (((((sT.trans s2).trans s3).trans s4).trans s5).trans s6)
end
end LR
set_option Elab.async false
set_option linter.all false
set_option maxRecDepth 100000
set_option maxHeartbeats 4000000
namespace LR
open PySem PySem.Spec PyProof.Rows L2
/-- a statement that is never reached -/
theorem ps_dead {X : Cx} {st : Stmt} : PS X st (fun _ _ _ => False) := ⟨fun _ _ _ _ _ _ h => h.elim⟩
abbrev cRace : Stmt := topS 34
abbrev sInit : Stmt := inClass cRace 0
abbrev sCont : Stmt := inClass cRace 3
abbrev sNeed : Stmt := topS 30
theorem scCont : FnScope ["self", "name"] ["self", "name"] (defScope sCont) := ⟨rfl, rfl, rfl, by decide +kernel, rfl, by decide +kernel, by decide +kernel⟩
theorem scInit : FnScope ["self", "length", "runners", "name", "runner", "start", "pieces"] ["self", "length", "runners"] (defScope sInit) := ⟨rfl, rfl, rfl, by decide +kernel, rfl, by decide +kernel, by decide +kernel⟩
theorem scNeed : FnScope ["race", "name"] ["race", "name"] (defScope sNeed) := ⟨rfl, rfl, rfl, by decide +kernel, rfl, by decide +kernel, by decide +kernel⟩
/-! ### a race as an object -/
def rflds (x y : V) : List (Str × V) := [("_length", x), ("_tracks", y)]
theorem rflds_eq (x y : V) : putF "_tracks" y (putF "_length" x []) = rflds x y := by
  show (if ("_length" : Str) = "_tracks" then _ else (("_length" : Str), x) :: putF "_tracks" y []) = _
  rw [if_neg (by decide +kernel)]
  rfl
theorem rl_length (x y : V) : (rflds x y).lookup ("_length" : Str) = some x := by
  rw [← rflds_eq, lookup_putF, if_neg (by decide +kernel), lookup_putF, if_pos rfl]
theorem rl_tracks (x y : V) : (rflds x y).lookup ("_tracks" : Str) = some y := by
  rw [← rflds_eq, lookup_putF, if_pos rfl]
theorem rl_no (x y : V) {m : Str} (h1 : ¬ m = "_tracks") (h2 : ¬ m = "_length") : (rflds x y).lookup m = none := by
  rw [← rflds_eq, lookup_putF, if_neg h1, lookup_putF, if_neg h2]
  rfl
abbrev TrEnt (K : PySem.W.Frag) (H : Hp) (kv : Key × V) (nt : Str × List Row) : Prop := kv.1 = Sum.inr nt.1 ∧ TrackAt K H kv.2 nt.2
def TracksAt (K : PySem.W.Frag) (H : Hp) (v : V) (tr : List (Str × List Row)) : Prop := ∃ (d : Addr) (kvs : List (Key × V)), v = .ref d ∧ H d = some (.dK kvs) ∧ All2 (TrEnt K H) kvs tr
theorem TracksAt.same {K : PySem.W.Frag} {H H' : Hp} {v : V} {tr : List (Str × List Row)} (s : Same H H') (h : TracksAt K H v tr) : TracksAt K H' v tr :=
  let ⟨d, kvs, e, h1, h2⟩ := h; ⟨d, kvs, e, s _ _ h1, h2.imp fun _ _ z => ⟨z.1, z.2.same s⟩⟩
def RaceAt (K : PySem.W.Frag) (C : Addr) (H : Hp) (v : V) (L : Rat) (tr : List (Str × List Row)) : Prop := ∃ (p dx : Addr) (vL vT : V), v = .ref p ∧ H p = some (.ins C dx (rflds vL vT)) ∧ Rn K H vL L ∧ TracksAt K H vT tr
theorem RaceAt.same {K : PySem.W.Frag} {C : Addr} {H H' : Hp} {v : V} {L : Rat} {tr : List (Str × List Row)} (s : Same H H') (h : RaceAt K C H v L tr) : RaceAt K C H' v L tr :=
  let ⟨p, dx, vL, vT, e, h1, h2, h3⟩ := h; ⟨p, dx, vL, vT, e, s _ _ h1, h2.same s, h3.same s⟩
theorem ent_val {K : PySem.W.Frag} {H : Hp} {n : Str} {rows : List Row} : ∀ {kvs : List (Key × V)} {tr : List (Str × List Row)}, All2 (TrEnt K H) kvs tr → (tr.map (·.1)).Nodup → (n, rows) ∈ tr → ∃ v, valV kvs (Sum.inr n : Key) = some v ∧ TrackAt K H v rows
  | _, _, .nil, _, h => by cases h
  | (k, v) :: kvs, (m, rs) :: tr, .cons ⟨e, ht⟩ t, nd, h => by
    obtain ⟨n1, n2⟩ := List.nodup_cons.mp nd
    rcases List.mem_cons.mp h with e2 | h
    · cases e2
      exact ⟨v, valV_pos e, ht⟩
    · have ne : ¬ k = (Sum.inr n : Key) := fun z => by
        have e3 : (Sum.inr m : Key) = Sum.inr n := e.symm.trans z
        have e4 : m = n := Sum.inr.inj e3
        subst e4
        exact n1 (List.mem_map.mpr ⟨_, h, rfl⟩)
      obtain ⟨v', h1, h2⟩ := ent_val t n2 h
      exact ⟨v', by rw [valV_neg ne]; exact h1, h2⟩
/-- what is asked of the class as it stands -/
structure RaceT (K : PySem.W.Frag) (C : Addr) : Prop where
  cl : Cls K C
  nL : NoAttr K C "_length"
  nT : NoAttr K C "_tracks"
section
variable {P : Program} {w : World} {K : PySem.W.Frag} {mg : Str → Option Value} {base : Heap}
/-! ### name in race; need_name -/
def spCont (K : PySem.W.Frag) (C : Addr) : Sp := fun vs H Q _ => ∃ (v : V) (n : Str) (L : Rat) (tr : List (Str × List Row)) (rows : List Row), vs = [v, .str n] ∧ RaceAt K C H v L tr ∧ (tr.map (·.1)).Nodup ∧ (n, rows) ∈ tr ∧ Q (.bl true) H
theorem ok_Cont {f C : Addr} {fd : FuncData} (F : Fun K "__contains__" "Race.__contains__" sCont f fd) (T : RaceT K C) (mi : mg "isinstance" = none) (ms : mg "str" = none) : FnOk P w K mg base (CXl P w) 1 f fd ["self", "name"] (spCont K C) := by
  refine F.okX scCont (fun vs H Q E h => ?_) (fun cdv A outer s H vs Q E hr h => ?_)
  · obtain ⟨v, n, L, tr, rows, rfl, _⟩ := h
    rfl
  · obtain ⟨v, n, L, tr, rows, rfl, ⟨p, dx, vL, vT, rfl, hp, hL, d, kvs, rfl, hd, hA⟩, nd, hm, q⟩ := h
    refine ⟨_, pss_one (ps_ret (pe_and (pe_callB call_isi (by rfl) mi (by decide +kernel) (pa_cons (pv 1) (pa_cons (pe_bltn (v := .ty "str") (by rfl) ms (by decide +kernel) rfl) pa_nil))) (pe_one (pe_cmp (pc_din (hu_of hr) (pv 1) (pe_fld (pv 0) rfl)))))), ?_⟩
    have kz : Kd K H (.str n) "str" := .str n
    obtain ⟨v, hv, _⟩ := ent_val hA nd hm
    refine ⟨_, rfl, _, _, _, _, _, rfl, .ty "str", kz.ty, kd_str kz, _, rfl, iteT ?_⟩
    refine ⟨_, rfl, _, rfl, p, C, dx, _, _, rfl, hp, T.cl, T.nT, rl_tracks _ _, d, _, rfl, DGet.k (k := Sum.inr n) hd, ?_⟩
    rw [hv]
    exact q
def spNeed (K : PySem.W.Frag) (C : Addr) : Sp := fun vs H Q _ => ∃ (v : V) (n : Str) (L : Rat) (tr : List (Str × List Row)) (rows : List Row), vs = [v, .str n] ∧ RaceAt K C H v L tr ∧ (tr.map (·.1)).Nodup ∧ (n, rows) ∈ tr ∧ Q .non H
theorem ok_Need {f fC C : Addr} {fd dC : FuncData} (D : DefAt K mg "need_name" sNeed ["race", "name"] f fd) (hm : Meth K C "__contains__" fC) (hb : Binds K dC ["self", "name"] []) (GC : FnOk P w K mg base (CXl P w) 1 fC dC ["self", "name"] (spCont K C)) : FnOk P w K mg base (CXl P w) 2 f fd ["race", "name"] (spNeed K C) := by
  refine D.F.okX scNeed (fun vs H Q E h => ?_) (fun cdv A outer s H vs Q E hr h => ?_)
  · obtain ⟨v, n, L, tr, rows, rfl, _⟩ := h
    rfl
  · obtain ⟨v, n, L, tr, rows, rfl, hR, nd, hmem, q⟩ := h
    refine ⟨_, pss_one (ps_if (pt_cmpR (OI.op_notin_own hm GC hr hb passL) (pv 1) (pv 0) (by rfl)) (pss_one ps_dead) pss_nil), ?_⟩
    obtain ⟨p, dx, vL, vT, rfl, hp, hx⟩ := id hR
    refine ⟨_, rfl, _, rfl, p, dx, _, rfl, hp, .ref p, n, L, tr, rows, rfl, hR, nd, hmem, _, rfl, _, rfl, iteF q⟩
end
end LR
set_option Elab.async false
set_option linter.all false
set_option maxRecDepth 100000
set_option maxHeartbeats 4000000
namespace LR
open PySem PySem.Spec PyProof.Rows L2
section
variable {P : Program} {w : World} {K : PySem.W.Frag} {mg : Str → Option Value} {base : Heap}
def RunAt (K : PySem.W.Frag) (H : Hp) (v : V) (q : Rat) (cs : List (Rat × Rat)) : Prop := ∃ (a : Addr) (vs vp : V), v = .ref a ∧ SqT K H a [vs, vp] ∧ Num K H vs q ∧ PiecesAt K H vp cs
theorem RunAt.same {H H' : Hp} {v : V} {q : Rat} {cs : List (Rat × Rat)} (s : Same H H') (h : RunAt K H v q cs) : RunAt K H' v q cs :=
  let ⟨a, vs, vp, e, h1, h2, h3⟩ := h; ⟨a, vs, vp, e, same_sqt s h1, h2.same s, h3.same s⟩
def spIsRn (K : PySem.W.Frag) : Sp := fun vs H Q _ => ∃ (v : V) (q : Rat) (cs : List (Rat × Rat)), vs = [v] ∧ RunAt K H v q cs ∧ PcsOk cs ∧ ∀ H', Same H H' → Q (.bl true) H'
theorem ok_IsRn {f fN fA : Addr} {fd dN dA : FuncData} (D : DefAt K mg "_is_runner" sIsRn ["value"] f fd) (DN : DefAt K mg "is_number" sIN ["value"] fN dN) (DA : DefAt K mg "_are_pieces" sAreP ["value"] fA dA) (mi : mg "isinstance" = none) (mt : mg "tuple" = none) (ml : mg "len" = none)
    (GN : FnOk P w K mg base (CXl P w) 3 fN dN ["value"] (spIN K)) (GA : FnOk P w K mg base (CXl P w) 5 fA dA ["value"] (spAreP K)) : FnOk P w K mg base (CXl P w) 6 f fd ["value"] (spIsRn K) := by
  refine D.F.okX scIsRn (fun vs H Q E h => ?_) (fun cdv A outer s H vs Q E hr h => ?_)
  · obtain ⟨v, q, cs, rfl, _⟩ := h
    rfl
  · obtain ⟨v, q, cs, rfl, ⟨a, vs, vp, rfl, ht, hn, hp⟩, ok, k⟩ := h
    refine ⟨_, pss_cons (ps_if (PW.pt (pw_or (pt_not (pt_val (pe_callB call_isi (by rfl) mi (by decide +kernel) (pa_cons (pv 0) (pa_cons (pe_bltn (v := .ty "tuple") (by rfl) mt (by decide +kernel) rfl) pa_nil)))))
        (pw_or1 (pt_cmpR op_ne (pe_callB call_len_seq (by rfl) ml PySem.boot_len (pa_cons (pv 0) pa_nil)) pe_int (nomark _))))) (pss_one (ps_ret pe_bl)) pss_nil)
      (pss_one (ps_ret (pe_and (pe_call GN (hr.mono (by decide)) (by rfl) DN.g DN.F.kp DN.b .nil passL (pa_cons (pe_ix (r := rIxT K) ix_tup (pv 0) pe_int (fun _ _ => rfl)) pa_nil))
        (pe_one (pe_call GA hr (by rfl) DA.g DA.F.kp DA.b .nil passL (pa_cons (pe_ix (r := rIxT K) ix_tup (pv 0) pe_int (fun _ _ => rfl)) pa_nil)))))), ?_⟩
    refine ⟨_, rfl, _, _, _, _, _, rfl, .ty "tuple", sqt_ty ht, kd_tuple (.tup (sqt_ty ht)), _, rfl, iteF ?_⟩
    refine ⟨_, rfl, a, _, rfl, .inr ht, rfl, _, rfl, ite2 (fun e => absurd e (by simp)) (fun _ => ?_)⟩
    refine ⟨_, rfl, a, _, 0, _, rfl, rfl, ht, atI_nat (j := 0) rfl, vs, some q, rfl, hn, _, rfl, iteT ?_⟩
    exact ⟨_, rfl, a, _, 1, _, rfl, rfl, ht, atI_nat (j := 1) rfl, vp, cs, rfl, hp, ok, k⟩
/-! ### what a dict's change leaves -/
section
variable {H H' : Hp} {D : Addr} {o : HO}
theorem sqt_butO {a : Addr} {xs : List V} (nt : ∀ ys, H D ≠ some (.tup ys)) (nf : ∀ ob ys, H D ≠ some (.frz ob (.tup ys))) (b : But D H H') (h : SqT K H a xs) : SqT K H' a xs := by
  rcases h with (h | ⟨ob, h⟩) | h
  · exact .inl (.inl (b _ _ (fun e => nt _ (e ▸ h)) h))
  · exact .inl (.inr ⟨ob, b _ _ (fun e => nf _ _ (e ▸ h)) h⟩)
  · exact .inr h
/-- D holds neither a tuple nor a list, nor is it locked -/
structure Odd (H : Hp) (D : Addr) : Prop where
  nt : ∀ ys, H D ≠ some (.tup ys)
  nf : ∀ ob ys, H D ≠ some (.frz ob (.tup ys))
  nl : ∀ ys, H D ≠ some (.lst ys)
theorem Odd.of {u : HO} (h : H D = some u) (h1 : ∀ ys, u ≠ .tup ys) (h2 : ∀ ob ys, u ≠ .frz ob (.tup ys)) (h3 : ∀ ys, u ≠ .lst ys) : Odd H D :=
  ⟨fun _ e => h1 _ (Option.some.inj (h.symm.trans e)), fun _ _ e => h2 _ _ (Option.some.inj (h.symm.trans e)), fun _ e => h3 _ (Option.some.inj (h.symm.trans e))⟩
theorem Odd.dk {kvs : List (Key × V)} (h : H D = some (.dK kvs)) : Odd H D := .of h (fun _ e => by cases e) (fun _ _ e => by cases e) (fun _ e => by cases e)
theorem Odd.fz {od : Obj} {kvs : List (Key × V)} (h : H D = some (.frz od (.dK kvs))) : Odd H D := .of h (fun _ e => by cases e) (fun _ _ e => by cases e) (fun _ e => by cases e)
theorem Odd.ins {C dx : Addr} {fs : List (Str × V)} (h : H D = some (.ins C dx fs)) : Odd H D := .of h (fun _ e => by cases e) (fun _ _ e => by cases e) (fun _ e => by cases e)
theorem Odd.rn {x : V} {q : Rat} (O : Odd H D) (b : But D H H') (h : Rn K H x q) : Rn K H' x q := let ⟨a, e, h⟩ := h; ⟨a, e, sqt_butO O.nt O.nf b h⟩
theorem Odd.num {x : V} {q : Rat} (O : Odd H D) (b : But D H H') (h : Num K H x q) : Num K H' x q := by
  rcases h.kinds with ⟨rfl, e⟩ | h
  · have e2 : q = ((q.num : Int) : Rat) := Rat.ext rfl e
    have := num_int (K := K) (H := H') q.num
    rw [← e2] at this
    exact this
  · exact (O.rn b h).num
theorem Odd.row {v : V} {r : Row} (O : Odd H D) (b : But D H H') (h : RowAt K H v r) : RowAt K H' v r := by
  obtain ⟨a, vb, vs, vp, rfl, ht, h1, h2, h3⟩ := h
  exact ⟨a, vb, vs, vp, rfl, sqt_butO O.nt O.nf b ht, O.rn b h1, O.rn b h2, O.rn b h3⟩
theorem Odd.track {v : V} {tr : List Row} (O : Odd H D) (b : But D H H') (h : TrackAt K H v tr) : TrackAt K H' v tr := by
  obtain ⟨a, xs, rfl, h1, h2⟩ := h
  exact ⟨a, xs, rfl, b _ _ (fun e => O.nl _ (e ▸ h1)) h1, h2.imp fun _ _ z => O.row b z⟩
theorem Odd.piece {v : V} {c : Rat × Rat} (O : Odd H D) (b : But D H H') (h : PieceAt K H v c) : PieceAt K H' v c := by
  obtain ⟨a, vt, vs, rfl, ht, h1, h2⟩ := h
  exact ⟨a, vt, vs, rfl, sqt_butO O.nt O.nf b ht, O.num b h1, O.num b h2⟩
theorem Odd.pieces {v : V} {cs : List (Rat × Rat)} (O : Odd H D) (b : But D H H') (h : PiecesAt K H v cs) : PiecesAt K H' v cs := by
  obtain ⟨a, xs, rfl, h1, h2⟩ := h
  exact ⟨a, xs, rfl, b _ _ (fun e => O.nl _ (e ▸ h1)) h1, h2.imp fun _ _ z => O.piece b z⟩
theorem Odd.run {v : V} {q : Rat} {cs : List (Rat × Rat)} (O : Odd H D) (b : But D H H') (h : RunAt K H v q cs) : RunAt K H' v q cs := by
  obtain ⟨a, vs, vp, rfl, h1, h2, h3⟩ := h
  exact ⟨a, vs, vp, rfl, sqt_butO O.nt O.nf b h1, O.num b h2, O.pieces b h3⟩
theorem but_new {o : HO} : But D H (upd H D o) := fun x y n e => by rw [upd_ne n]; exact e
end
theorem ent_none {H : Hp} {n : Str} : ∀ {kvs : List (Key × V)} {tr : List (Str × List Row)}, All2 (TrEnt K H) kvs tr → n ∉ tr.map (·.1) → valV kvs (Sum.inr n : Key) = none
  | _, _, .nil, _ => rfl
  | (k, v) :: kvs, (m, rs) :: tr, .cons ⟨e, ht⟩ t, h => by
    have ne : ¬ k = (Sum.inr n : Key) := fun z => by
      have e3 : (Sum.inr m : Key) = Sum.inr n := e.symm.trans z
      exact h (List.mem_map.mpr ⟨(m, rs), List.mem_cons_self, Sum.inr.inj e3⟩)
    rw [valV_neg ne]
    exact ent_none t fun z => h (List.mem_cons_of_mem _ z)
/-! ### Race(length, runners) -/
structure Rn1 where
  n : Str
  q : Rat
  cs : List (Rat × Rat)
def trk (s0 : Rat) : List (Rat × Rat) → List Row
  | [] => []
  | c :: cs => mkTrack s0 c cs
def Rn1.tr (L : Rat) (r : Rn1) : Str × List Row := (r.n, trk (rem r.q L) r.cs)
structure Rn1Ok (r : Rn1) : Prop where
  nm : NameOk r.n
  sz : Sz 100 r.q
  pc : PcsOk r.cs
abbrev RnEnt (K : PySem.W.Frag) (H : Hp) (kv : Key × V) (r : Rn1) : Prop := kv.1 = Sum.inr r.n ∧ RunAt K H kv.2 r.q r.cs
def spInit (K : PySem.W.Frag) (C : Addr) : Sp := fun vs H Q _ => ∃ (p dx d0 : Addr) (vl : V) (L : Rat) (kvs : List (Key × V)) (rs : List Rn1), vs = [.ref p, vl, .ref d0] ∧ H p = some (.ins C dx []) ∧ Num K H vl L ∧ 0 < L ∧ Sz 100 L ∧ H d0 = some (.dK kvs) ∧ All2 (RnEnt K H) kvs rs ∧ (∀ r ∈ rs, Rn1Ok r) ∧ (rs.map (·.n)).Nodup ∧ 0 < rs.length ∧ rs.length ≤ 12 ∧
  ∀ H', But p H H' → RaceAt K C H' (.ref p) L (rs.map (Rn1.tr L)) → Q .non H'
theorem ok_Init {f C fP fN fA fI fT fR CN C2 : Addr} {fd dP dN dA dI dT dR : FuncData} {tm : Tok} (F : Fun K "__init__" "Race.__init__" sInit f fd) (T : RaceT K C) (DP : DefAt K mg "is_positive" sPosi ["value"] fP dP) (DN : DefAt K mg "is_name" sNam ["value"] fN dN) (DA : DefAt K mg "as_ratio" sAR ["value"] fA dA) (DI : DefAt K mg "_is_runner" sIsRn ["value"] fI dI) (DT : DefAt K mg "_track" sTrk ["start", "pieces"] fT dT) (DR : DefAt K mg "remainder" s_rem ["value", "modulus"] fR dR)
    (gm : mg "MOST_RUNNERS" = some (.int 12 tm)) (mi : mg "isinstance" = none) (md : mg "dict" = none) (ml : mg "len" = none)
    (GP : FnOk P w K mg base (CXl P w) 5 fP dP ["value"] (spPosi K)) (GN : FnOk P w K mg base (CXl P w) 1 fN dN ["value"] spNam) (GA : FnOk P w K mg base (CXl P w) 3 fA dA ["value"] (spAR K CN)) (GI : FnOk P w K mg base (CXl P w) 6 fI dI ["value"] (spIsRn K)) (GT : FnOk P w K mg base (CXl P w) 6 fT dT ["start", "pieces"] (spTrk K)) (GR : FnOk P w K mg base (CXl P w) 4 fR dR ["value", "modulus"] (sp_rem K CN C2)) :
    FnOk P w K mg base (CXl P w) 7 f fd ["self", "length", "runners"] (spInit K C) := by
  refine F.okX scInit (fun vs H Q E h => ?_) (fun cdv A outer s H vs Q E hr h => ?_)
  · obtain ⟨p, dx, d0, vl, L, kvs, rs, rfl, _⟩ := h
    rfl
  · obtain ⟨p, dx, d0, vl, L, kvs, rs, rfl, hp, hL, L0, zL, hd0, hE, ok, nd, le1, le2, q⟩ := h
    refine ⟨_, pss_cons (ps_if (pt_not (pt_val (pe_call GP (hr.mono (by decide)) (by rfl) DP.g DP.F.kp DP.b .nil passL (pa_cons (pv 1) pa_nil)))) (pss_one ps_dead) pss_nil)
      (pss_cons (ps_if (PW.pt (pw_or (pt_not (pt_val (pe_callB call_isi (by rfl) mi (by decide +kernel) (pa_cons (pv 2) (pa_cons (pe_bltn (v := .ty "dict") (by rfl) md (by decide +kernel) rfl) pa_nil))))) (pw_or1 (pt_not (pt_chain op_le op_le pe_int (pe_callB call_lenD (by rfl) ml PySem.boot_len (pa_cons (pv 2) pa_nil)) (pe_glob (v := .int 12) rfl gm ⟨_, rfl⟩)))))) (pss_one ps_dead) pss_nil)
      (pss_cons (ps_fld (pv 0) (pe_call GA (hr.mono (by decide)) (by rfl) DA.g DA.F.kp DA.b .nil passL (pa_cons (pv 1) pa_nil)) rfl)
      (pss_cons (ps_fld (pv 0) pe_dnewK rfl)
      (pss_one (ps_lock (ps_for (passes_of rfl) rfl (pi_items (pv 2)) (pg_tup rfl (pgs_cons (pg_name (i := 3) scInit.nd rfl (.inl rfl)) (pgs_cons (pg_name (i := 4) scInit.nd rfl (.inl rfl)) pgs_nil)))
        (pss_cons (ps_if (PW.pt (pw_or (pt_not (pt_val (pe_call GN (hr.mono (by decide)) (by rfl) DN.g DN.F.kp DN.b .nil passL (pa_cons (pv 3) pa_nil)))) (pw_or1 (pt_not (pt_val (pe_call GI hr (by rfl) DI.g DI.F.kp DI.b .nil passL (pa_cons (pv 4) pa_nil))))))) (pss_one ps_dead) pss_nil)
        (pss_cons (ps_asg (pv 4) (pg_tup rfl (pgs_cons (pg_name (i := 5) scInit.nd rfl (.inl rfl)) (pgs_cons (pg_name (i := 6) scInit.nd rfl (.inl rfl)) pgs_nil))))
        (pss_one (ps_dput (hu_of hr) (pe_fld (pv 0) rfl) (pv 3) (pe_call GT hr (by rfl) DT.g DT.F.kp DT.b .nil passL (pa_cons (pe_call GR (hr.mono (by decide)) (by rfl) DR.g DR.F.kp DR.b .nil passL (pa_cons (pv 5) (pa_cons (pv 1) pa_nil))) (pa_cons (pv 6) pa_nil))) rfl)))))))))), ?_⟩
    have lenE := hE.len
    refine ⟨vl, rfl, vl, L, rfl, hL, zL.mono (by decide), fun H1 s1 => ⟨_, rfl, ite2 (fun e => absurd e (by rw [decide_eq_true L0]; decide)) (fun _ => ?_)⟩⟩
    have hd1 := s1 _ _ hd0
    refine ⟨.ref d0, rfl, _, _, _, _, _, rfl, .ty "dict", .base (.dK hd1), kd_dict (.dict (.base (.dK hd1))), _, rfl, iteF ?_⟩
    refine ⟨.ref d0, rfl, d0, kvs, rfl, hd1, _, _, rfl, rfl, _, rfl, ite2 (fun _ => ?_) (fun e => absurd (decide_eq_true (show (1 : Int) ≤ (kvs.length : Int) by omega)) e)⟩
    refine ⟨_, _, rfl, rfl, _, rfl, ite2 (fun e => absurd e ?_) (fun _ => ?_)⟩
    · rw [decide_eq_true (show (kvs.length : Int) ≤ 12 by omega)]
      decide
    -- self._length = as_ratio(length)
    refine ⟨vl, rfl, vl, some L, rfl, hL.same s1, fun v2 H2 s2 r2 => ?_⟩
    have s02 := s1.trans s2
    have hp2 := s02 _ _ hp
    have hE2 : All2 (RnEnt K H2) kvs rs := hE.imp fun _ _ z => ⟨z.1, z.2.same s02⟩
    have hL2 := hL.same s02
    have hd2 := s02 _ _ hd0
    refine ⟨.ref p, rfl, p, C, dx, [], rfl, hp2, T.cl, T.nL, by show 0 < 1000; decide, ?_⟩
    intro d nd3
    have npd : p ≠ d := fun e => by rw [← e, upd_same] at nd3; cases nd3
    have nd2 : H2 d = none := by rw [upd_ne npd.symm] at nd3; exact nd3
    have ndd : d ≠ d0 := fun e => by rw [e, hd2] at nd2; cases nd2
    have npd0 : p ≠ d0 := fun e => by rw [e, hd2] at hp2; cases hp2
    refine ⟨.ref p, rfl, p, C, dx, _, rfl, by rw [upd_ne npd, upd_same], T.cl, T.nT, by show 1 < 1000; decide, ?_⟩
    rw [rflds_eq]
    have b25 : But p H2 (upd (upd (upd H2 p (.ins C dx (putF "_length" v2 []))) d (.dK [])) p (.ins C dx (rflds v2 (.ref d)))) := fun b o hb e => by
      rw [upd_ne hb, upd_ne (ne_of_none e nd2), upd_ne hb]
      exact e
    have hp5 : (upd (upd (upd H2 p (.ins C dx (putF "_length" v2 []))) d (.dK [])) p (.ins C dx (rflds v2 (.ref d)))) p = some (.ins C dx (rflds v2 (.ref d))) := upd_same
    have hdd5 : (upd (upd (upd H2 p (.ins C dx (putF "_length" v2 []))) d (.dK [])) p (.ins C dx (rflds v2 (.ref d)))) d = some (.dK []) := by rw [upd_ne npd.symm, upd_same]
    generalize (upd (upd (upd H2 p (.ins C dx (putF "_length" v2 []))) d (.dK [])) p (.ins C dx (rflds v2 (.ref d)))) = H5 at b25 hp5 hdd5 ⊢
    have O2 := Odd.ins hp2
    have hd5 := b25 _ _ npd0.symm hd2
    have r5 := O2.rn b25 r2
    have hL5 := O2.num b25 hL2
    have hE5 : All2 (RnEnt K H5) kvs rs := hE2.imp fun _ _ z => ⟨z.1, O2.run b25 z.2⟩
    refine ⟨d0, .dK kvs, hd5, trivial, fun od => ?_⟩
    have O5 := Odd.dk hd5
    have b56 : But d0 H5 (upd H5 d0 (.frz od (.dK kvs))) := but_new
    have hd6 : (upd H5 d0 (.frz od (.dK kvs))) d0 = some (.frz od (.dK kvs)) := upd_same
    generalize (upd H5 d0 (.frz od (.dK kvs))) = H6 at b56 hd6 ⊢
    have hp6 := b56 _ _ npd0 hp5
    have hdd6 := b56 _ _ ndd hdd5
    have r6 := O5.rn b56 r5
    have hL6 := O5.num b56 hL5
    have hE6 : All2 (RnEnt K H6) kvs rs := hE5.imp fun _ _ z => ⟨z.1, O5.run b56 z.2⟩
    have O6 := Odd.dk hdd6
    refine ⟨.ref d0, rfl, d0, od, kvs, rfl, hd6, for_it walk_items (fun i σ G => But d H6 G ∧ ∃ o3 o4 o5 o6 ks, σ = [some (.ref p), some vl, some (.ref d0), o3, o4, o5, o6] ∧ G d = some (.dK ks) ∧ All2 (TrEnt K G) ks ((rs.take i).map (Rn1.tr L)))
      ⟨fun _ _ _ e => e, none, none, none, none, [], rfl, hdd6, .nil⟩ (fun i σ G _ hP => hP.1 _ _ ndd.symm hd6) (fun i x σ G G' hi hP hy => ?_) (fun σ G hP => ?_)⟩
    · obtain ⟨bt, o3, o4, o5, o6, ks, rfl, hG, hAll⟩ := hP
      obtain ⟨T0, x0, y0, rfl, nT, rfl, ex, ey⟩ := hy
      obtain ⟨⟨k, y⟩, hk, rfl⟩ := Option.map_eq_some_iff.mp ex
      have hy' : (Option.map Prod.snd kvs[i]?) = some y0 := ey
      rw [hk] at hy'
      have ey2 : y = y0 := Option.some.inj hy'
      subst ey2
      obtain ⟨r, hr', ⟨kn, ry⟩⟩ := hE6.get hk
      have kn : k = Sum.inr r.n := kn
      subst kn
      have rm : r ∈ rs := List.mem_of_getElem? hr'
      have okr := ok r rm
      have ryG : RunAt K G y r.q r.cs := O6.run bt ry
      have hT : (upd G T0 (.tup [.str r.n, y])) T0 = some (.tup [.str r.n, y]) := upd_same
      have sT : Same G (upd G T0 (.tup [.str r.n, y])) := same_new nT
      show gTup _ _ _ _ _ (upd G T0 (.tup [.str r.n, y])) _
      generalize (upd G T0 (.tup [.str r.n, y])) = G1 at hT sT ⊢
      refine ⟨T0, [.str r.n, y], rfl, .inl (.inl hT), rfl, _, _, rfl, _, _, rfl, rfl, ?_⟩
      refine ⟨_, rfl, r.n, rfl, okr.nm, fun G2 t2 => ⟨_, rfl, iteF ?_⟩⟩
      refine ⟨y, rfl, y, r.q, r.cs, rfl, ryG.same (sT.trans t2), okr.pc, fun G3 t3 => ⟨_, rfl, iteF ?_⟩⟩
      have sG3 : Same G G3 := (sT.trans t2).trans t3
      obtain ⟨a, vs, vp, rfl, ht, hn, hpc⟩ := ryG.same sG3
      refine ⟨_, rfl, a, [vs, vp], rfl, ht, rfl, vs, _, rfl, vp, _, rfl, rfl, ?_⟩
      have hLG : Num K G3 vl L := (O6.num bt hL6).same sG3
      refine ⟨vs, rfl, vl, rfl, vs, vl, some r.q, some L, rfl, hn, hLG, ⟨okr.sz.mono (by decide), zL.mono (by decide)⟩, fun z => absurd L0 (Rat.not_lt.mpr z), fun _ v4 G4 t4 e4 => ?_⟩
      obtain ⟨c, cs', ecs⟩ : ∃ c cs', r.cs = c :: cs' := by
        cases e : r.cs with
        | nil => exact absurd okr.pc.ne (by rw [e]; simp)
        | cons c cs' => exact ⟨c, cs', rfl⟩
      have hpc4 := hpc.same t4
      rw [ecs] at hpc4
      refine ⟨vp, rfl, v4, vp, rem r.q L, c, cs', rfl, e4, hpc4, (okr.sz.rem zL L0).mono (by decide), fun d hd => okr.pc.sz d (by rw [ecs]; exact hd), by have := okr.pc.le; rw [ecs] at this; exact Nat.lt_of_succ_le this, fun t G5 t5 _ tt => ?_⟩
      have sG5 : Same G G5 := (sG3.trans t4).trans t5
      have hp5' := sG5 _ _ (bt _ _ npd hp6)
      have hdG5 := sG5 _ _ hG
      have al := hAll.len
      have kl : ks.length < 1000 := by
        rw [al, List.length_map, List.length_take]
        omega
      have hnot : valV ks (Sum.inr r.n : Key) = none := ent_none hAll (by
        rw [List.map_map]
        intro hm
        obtain ⟨r2, hr2, e2⟩ := List.mem_map.mp hm
        have e3 : r2.n = r.n := e2
        obtain ⟨j, hj⟩ := List.mem_iff_getElem?.mp hr2
        have hjl : j < i := by
          have := (List.getElem?_eq_some_iff.mp hj).1
          rw [List.length_take] at this
          omega
        rw [List.getElem?_take_of_lt hjl] at hj
        obtain ⟨il, ei⟩ := List.getElem?_eq_some_iff.mp hr'
        obtain ⟨jl, ej⟩ := List.getElem?_eq_some_iff.mp hj
        have := List.pairwise_iff_getElem.mp nd j i (by rw [List.length_map]; exact jl) (by rw [List.length_map]; exact il) hjl
        rw [List.getElem_map, List.getElem_map, ei, ej] at this
        exact this e3)
      refine ⟨_, rfl, p, C, dx, _, _, rfl, hp5', T.cl, T.nT, rl_tracks _ _, _, rfl, d, _, rfl, DPut.k (k := Sum.inr r.n) hdG5 (small1000 (Nat.le_of_lt kl)), ?_⟩
      rw [putK_new _ hnot]
      have Od := Odd.dk hdG5
      refine ⟨but_upd (but_same bt sG5), _, _, _, _, _, rfl, upd_same, ?_⟩
      rw [take_snoc hr', List.map_append]
      refine (hAll.imp fun _ _ z => ⟨z.1, Od.track but_new (z.2.same sG5)⟩).snoc ⟨rfl, ?_⟩
      show TrackAt K _ (.ref t) (trk (rem r.q L) r.cs)
      rw [ecs]
      exact Od.track but_new tt
    · obtain ⟨bt, o3, o4, o5, o6, ks, rfl, hG, hAll⟩ := hP
      rw [List.take_of_length_le (by omega)] at hAll
      have hG0 := bt _ _ ndd.symm hd6
      refine ⟨hG0, ?_⟩
      have bf : But d0 G (upd G d0 (.dK kvs)) := but_new
      have hd7 : (upd G d0 (.dK kvs)) d0 = some (.dK kvs) := upd_same
      show Q .non (upd G d0 (.dK kvs))
      generalize (upd G d0 (.dK kvs)) = H7 at bf hd7 ⊢
      have O7 := Odd.fz hG0
      refine q H7 (fun b o hb e => ?_) ⟨p, dx, v2, .ref d, rfl, bf _ _ npd0 (bt _ _ npd hp6), O7.rn bf (O6.rn bt r6), d, ks, rfl, bf _ _ ndd hG, hAll.imp fun _ _ z => ⟨z.1, O7.track bf z.2⟩⟩
      have e2 := s02 _ _ e
      by_cases c : b = d0
      · subst c
        rw [hd0] at e
        rw [hd7]
        exact e
      · exact bf _ _ c (bt _ _ (ne_of_none e2 nd2) (b56 _ _ c (b25 _ _ hb e2)))
end
end LR
set_option Elab.async false
set_option linter.all false
set_option maxRecDepth 100000
set_option maxHeartbeats 4000000
namespace LR
open PySem PySem.Spec PyProof.Rows L2
abbrev sLen : Stmt := inClass cRace 4
abbrev sNames : Stmt := inClass cRace 5
abbrev sStart : Stmt := inClass cRace 6
abbrev sPcs : Stmt := inClass cRace 7
abbrev sChg : Stmt := inClass cRace 8
abbrev sPosi2 : Stmt := inClass cRace 9
abbrev sPlace : Stmt := inClass cRace 10
abbrev sLaps : Stmt := inClass cRace 11
theorem scLen : FnScope ["self"] ["self"] (defScope sLen) := ⟨rfl, rfl, rfl, by decide +kernel, rfl, by decide +kernel, by decide +kernel⟩
theorem scNames : FnScope ["self"] ["self"] (defScope sNames) := ⟨rfl, rfl, rfl, by decide +kernel, rfl, by decide +kernel, by decide +kernel⟩
theorem scStart : FnScope ["self", "name"] ["self", "name"] (defScope sStart) := ⟨rfl, rfl, rfl, by decide +kernel, rfl, by decide +kernel, by decide +kernel⟩
theorem scPcs : FnScope ["self", "name", "time", "speed", "_"] ["self", "name"] (defScope sPcs) := ⟨rfl, rfl, rfl, by decide +kernel, rfl, by decide +kernel, by decide +kernel⟩
theorem scChg : FnScope ["self", "later", "name", "row"] ["self"] (defScope sChg) := ⟨rfl, rfl, rfl, by decide +kernel, rfl, by decide +kernel, by decide +kernel⟩
theorem scPosi2 : FnScope ["self", "name", "time", "moment"] ["self", "name", "time"] (defScope sPosi2) := ⟨rfl, rfl, rfl, by decide +kernel, rfl, by decide +kernel, by decide +kernel⟩
theorem scPlace : FnScope ["self", "name", "time"] ["self", "name", "time"] (defScope sPlace) := ⟨rfl, rfl, rfl, by decide +kernel, rfl, by decide +kernel, by decide +kernel⟩
theorem scLaps : FnScope ["self", "name", "time"] ["self", "name", "time"] (defScope sLaps) := ⟨rfl, rfl, rfl, by decide +kernel, rfl, by decide +kernel, by decide +kernel⟩
/-- the position that a track tells -/
def posAt (rows : List Row) (t : Rat) : Rat := match rows with
  | [] => 0
  | r0 :: tr => (rowSel r0 (r0 :: tr) t).p + (rowSel r0 (r0 :: tr) t).s * (t - (rowSel r0 (r0 :: tr) t).b)
theorem rowSel_mem (t : Rat) : ∀ (tr : List Row) (r0 : Row), rowSel r0 tr t = r0 ∨ rowSel r0 tr t ∈ tr
  | [], r0 => .inl rfl
  | r :: tr, r0 => by
    have e : rowSel r0 (r :: tr) t = rowSel (pick t r0 r) tr t := rfl
    rw [e]
    have h := rowSel_mem t tr (pick t r0 r)
    rcases h with h | h
    · rw [h]
      unfold pick
      split
      · exact .inr List.mem_cons_self
      · exact .inl rfl
    · exact .inr (List.mem_cons_of_mem _ h)
theorem rowSel_in {t : Rat} {r0 : Row} {tr : List Row} : rowSel r0 (r0 :: tr) t ∈ r0 :: tr := by
  rcases rowSel_mem t (r0 :: tr) r0 with h | h
  · rw [h]; exact List.mem_cons_self
  · exact h
/-- what holds of the tracks of a race -/
structure TrOk (tr : List (Str × List Row)) : Prop where
  nd : (tr.map (·.1)).Nodup
  ne : ∀ e ∈ tr, ∃ r0 rs, e.2 = r0 :: rs ∧ r0.b = 0
  sz : ∀ e ∈ tr, ∀ r ∈ e.2, Sz 12 r.b ∧ Sz 12 r.s ∧ Sz 1100 r.p
section
variable {P : Program} {w : World} {K : PySem.W.Frag} {mg : Str → Option Value} {base : Heap}
def spLen (K : PySem.W.Frag) (C : Addr) : Sp := fun vs H Q _ => ∃ (v : V) (L : Rat) (tr : List (Str × List Row)), vs = [v] ∧ RaceAt K C H v L tr ∧ ∀ y, Rn K H y L → Q y H
theorem ok_Len {f C : Addr} {fd : FuncData} (F : Fun K "length" "Race.length" sLen f fd) (T : RaceT K C) : FnOk P w K mg base (CXl P w) 1 f fd ["self"] (spLen K C) := by
  refine F.okX scLen (fun vs H Q E h => ?_) (fun cdv A outer s H vs Q E hr h => ?_)
  · obtain ⟨v, L, tr, rfl, _⟩ := h
    rfl
  · obtain ⟨v, L, tr, rfl, ⟨p, dx, vL, vT, rfl, hp, hL, _⟩, q⟩ := h
    refine ⟨_, pss_one (ps_ret (pe_fld (pv 0) rfl)), ?_⟩
    exact ⟨_, rfl, p, C, dx, _, _, rfl, hp, T.cl, T.nL, rl_length _ _, q _ hL⟩
theorem rising_all : ∀ {l : List Str} {p : Str}, PyProof.Rows.risingS p l = true → ∀ x ∈ l, p.cps.toList ≤ x.cps.toList
  | y :: l, p, h, x, hx => by
    have h2 : (!ltCps y.cps.toList p.cps.toList && PyProof.Rows.risingS y l) = true := h
    obtain ⟨h3, h4⟩ := Bool.and_eq_true_iff.mp h2
    have h5 : p.cps.toList ≤ y.cps.toList := by
      rw [PyProof.Rows.ltCps_eq] at h3
      intro z
      rw [decide_eq_true z] at h3
      cases h3
    rcases List.mem_cons.mp hx with e | hx
    · rw [e]; exact h5
    · exact List.le_trans h5 (rising_all h4 x hx)
theorem rising_sorted {l : List Str} {p : Str} (h : PyProof.Rows.risingS p l = true) : PyProof.Rows.sortedS l = true := by
  cases l with
  | nil => rfl
  | cons y l =>
    have h2 : (!ltCps y.cps.toList p.cps.toList && PyProof.Rows.risingS y l) = true := h
    exact (Bool.and_eq_true_iff.mp h2).2
theorem sorted_uniq : ∀ {l m : List Str}, PyProof.Rows.sortedS l = true → PyProof.Rows.sortedS m = true → l.Perm m → l = m
  | [], m, _, _, h => (List.nil_perm.mp h).symm
  | x :: l, [], _, _, h => by have := h.length_eq; simp at this
  | x :: l, y :: m, a, b, h => by
    have a1 : ∀ z ∈ x :: l, x.cps.toList ≤ z.cps.toList := fun z hz => by
      rcases List.mem_cons.mp hz with e | hz
      · rw [e]; exact List.le_refl _
      · exact rising_all a z hz
    have b1 : ∀ z ∈ y :: m, y.cps.toList ≤ z.cps.toList := fun z hz => by
      rcases List.mem_cons.mp hz with e | hz
      · rw [e]; exact List.le_refl _
      · exact rising_all b z hz
    have e : x = y := by
      have e1 := List.le_antisymm (a1 y (h.mem_iff.mpr List.mem_cons_self)) (b1 x (h.mem_iff.mp List.mem_cons_self))
      cases x
      cases y
      congr 1
      exact Array.toList_inj.mp e1
    subst e
    rw [sorted_uniq (rising_sorted a) (rising_sorted b) (List.perm_cons x |>.mp h)]
def spNames (K : PySem.W.Frag) (C : Addr) : Sp := fun vs H Q _ => ∃ (v : V) (L : Rat) (tr : List (Str × List Row)), vs = [v] ∧ RaceAt K C H v L tr ∧ tr.length ≤ 12 ∧ ∀ (ys : List Str) p H', Same H H' → ys.Perm (tr.map (·.1)) → PyProof.Rows.sortedS ys = true → H p = none → H' p = some (.lst (ys.map V.str)) → Q (.ref p) H'
theorem ent_keys {H : Hp} : ∀ {kvs : List (Key × V)} {tr : List (Str × List Row)}, All2 (TrEnt K H) kvs tr → kvs.map (·.1) = (tr.map (·.1)).map Sum.inr
  | _, _, .nil => rfl
  | _, _, .cons h t => by rw [List.map_cons, List.map_cons, List.map_cons, ent_keys t, h.1]
theorem ok_Names {f C : Addr} {fd : FuncData} (F : Fun K "names" "Race.names" sNames f fd) (T : RaceT K C) (ms : mg "sorted" = none) : FnOk P w K mg base (CXl P w) 1 f fd ["self"] (spNames K C) := by
  refine F.okX scNames (fun vs H Q E h => ?_) (fun cdv A outer s H vs Q E hr h => ?_)
  · obtain ⟨v, L, tr, rfl, _⟩ := h
    rfl
  · obtain ⟨v, L, tr, rfl, ⟨p, dx, vL, vT, rfl, hp, hL, d, kvs, rfl, hd, hA⟩, hl, q⟩ := h
    refine ⟨_, pss_one (ps_ret (pe_callB (call_sortedD rfl) (by rfl) ms (by decide +kernel) (pa_cons (pe_fld (pv 0) rfl) pa_nil))), ?_⟩
    refine ⟨_, rfl, p, C, dx, _, _, rfl, hp, T.cl, T.nT, rl_tracks _ _, d, kvs, tr.map (·.1), rfl, .inl hd, ent_keys hA, by rw [List.length_map]; omega, fun ys p2 pm so np => ?_⟩
    exact q ys p2 _ (same_new np) pm so np upd_same
def spStart (K : PySem.W.Frag) (C : Addr) : Sp := fun vs H Q _ => ∃ (v : V) (n : Str) (L : Rat) (tr : List (Str × List Row)) (r0 : Row) (rs : List Row), vs = [v, .str n] ∧ RaceAt K C H v L tr ∧ TrOk tr ∧ (n, r0 :: rs) ∈ tr ∧ ∀ y, Rn K H y r0.p → Q y H
theorem ok_Start {f C fN : Addr} {fd dN : FuncData} (F : Fun K "start" "Race.start" sStart f fd) (T : RaceT K C) (DN : DefAt K mg "need_name" sNeed ["race", "name"] fN dN) (GN : FnOk P w K mg base (CXl P w) 2 fN dN ["race", "name"] (spNeed K C)) : FnOk P w K mg base (CXl P w) 3 f fd ["self", "name"] (spStart K C) := by
  refine F.okX scStart (fun vs H Q E h => ?_) (fun cdv A outer s H vs Q E hr h => ?_)
  · obtain ⟨v, n, L, tr, r0, rs, rfl, _⟩ := h
    rfl
  · obtain ⟨v, n, L, tr, r0, rs, rfl, hR, ok, hm, q⟩ := h
    refine ⟨_, pss_cons (ps_expr (pe_call GN hr (by rfl) DN.g DN.F.kp DN.b .nil passL (pa_cons (pv 0) (pa_cons (pv 1) pa_nil))))
      (pss_one (ps_ret (pe_ix (r := rIxT K) ix_tup (pe_ix (r := rIxL K) ix_list (pe_dget (hu_of hr) (pe_fld (pv 0) rfl) (pv 1) (fun _ _ => rfl)) pe_int (fun _ _ => rfl)) pe_int (fun _ _ => rfl)))), ?_⟩
    obtain ⟨p, dx, vL, vT, rfl, hp, hL, d, kvs, rfl, hd, hA⟩ := id hR
    refine ⟨_, rfl, _, rfl, _, n, L, tr, _, rfl, hR, ok.nd, hm, ?_⟩
    obtain ⟨v, hv, a, xs, rfl, ha, hx⟩ := ent_val hA ok.nd hm
    obtain ⟨x0, xs', rfl⟩ : ∃ x0 xs', xs = x0 :: xs' := by
      cases hx with
      | cons _ _ => exact ⟨_, _, rfl⟩
    have h0 : RowAt K H x0 r0 := by
      cases hx with
      | cons h _ => exact h
    obtain ⟨b, vb, vs, vp, rfl, ht, h1, h2, h3⟩ := h0
    refine ⟨_, rfl, p, C, dx, _, _, rfl, hp, T.cl, T.nT, rl_tracks _ _, _, rfl, d, _, rfl, (by have := DGet.k (k := Sum.inr n) hd; rw [hv] at this; exact this), a, _, 0, _, rfl, rfl, .of ha, atI_nat (j := 0) rfl, b, _, 2, _, rfl, rfl, ht, atI_nat (j := 2) rfl, q vp h3⟩
def spPcs (K : PySem.W.Frag) (C : Addr) : Sp := fun vs H Q _ => ∃ (v : V) (n : Str) (L : Rat) (tr : List (Str × List Row)) (rows : List Row), vs = [v, .str n] ∧ RaceAt K C H v L tr ∧ TrOk tr ∧ (n, rows) ∈ tr ∧ rows.length ≤ 20 ∧ ∀ p H', Same H H' → PiecesAt K H' (.ref p) (rows.map fun r => (r.b, r.s)) → Q (.ref p) H'
theorem ok_Pcs {f C fN : Addr} {fd dN : FuncData} (F : Fun K "pieces" "Race.pieces" sPcs f fd) (T : RaceT K C) (DN : DefAt K mg "need_name" sNeed ["race", "name"] fN dN) (GN : FnOk P w K mg base (CXl P w) 2 fN dN ["race", "name"] (spNeed K C)) : FnOk P w K mg base (CXl P w) 3 f fd ["self", "name"] (spPcs K C) := by
  refine F.okX scPcs (fun vs H Q E h => ?_) (fun cdv A outer s H vs Q E hr h => ?_)
  · obtain ⟨v, n, L, tr, rows, rfl, _⟩ := h
    rfl
  · obtain ⟨v, n, L, tr, rows, rfl, hR, ok, hm, hl, q⟩ := h
    refine ⟨_, pss_cons (ps_expr (pe_call GN hr (by rfl) DN.g DN.F.kp DN.b .nil passL (pa_cons (pv 0) (pa_cons (pv 1) pa_nil))))
      (pss_one (ps_ret (pe_lc (own := [("time", 2), ("speed", 3), ("_", 4)]) (g := gTup K 3 (gCons (gName 2) (gCons (gName 3) (gCons (gName 4) gNil)))) (tt := tYes) rfl scPcs.nd (pi_list (pe_dget (hu_of hr) (pe_fld (pv 0) rfl) (pv 1) (fun _ _ => rfl))) (blkOk_by (N := ["self", "name", "time", "speed", "_"]) (sc := defScope sPcs) (by decide +kernel)) (fun _ _ _ _ _ => by exact pg_tup rfl (pgs_cons (pg_name (i := 2) scPcs.nd rfl (.inl rfl)) (pgs_cons (pg_name (i := 3) scPcs.nd rfl (.inl rfl)) (pgs_cons (pg_name (i := 4) scPcs.nd rfl (.inl rfl)) pgs_nil)))) (fun _ _ _ _ _ => pts_nil)
            (fun _ _ _ _ _ => pe_tup (pa_cons (pv 2) (pa_cons (pv 3) pa_nil)))))), ?_⟩
    obtain ⟨p, dx, vL, vT, rfl, hp, hL, d, kvs, rfl, hd, hA⟩ := id hR
    refine ⟨_, rfl, _, rfl, _, n, L, tr, _, rfl, hR, ok.nd, hm, ?_⟩
    obtain ⟨v, hv, a, xs, rfl, ha, hx⟩ := ent_val hA ok.nd hm
    have lx := hx.len
    refine ⟨_, rfl, p, C, dx, _, _, rfl, hp, T.cl, T.nT, rl_tracks _ _, _, rfl, d, _, rfl, (by have := DGet.k (k := Sum.inr n) hd; rw [hv] at this; exact this), a, rfl, ⟨_, .of ha⟩, fun D1 n1 => lc_list (xs := xs) (fun i H' => Same H H' ∧ ∃ acc, H' D1 = some (.lst acc) ∧ acc.length = i ∧ All2 (PieceAt K H') acc ((rows.map fun r => (r.b, r.s)).take i)) ⟨same_new n1, [], upd_same, rfl, .nil⟩ (fun i H' _ hP => hP.1.seq (.of ha)) (fun i x H' hxi hP => ?_) (fun H' hP => ?_)⟩
    · obtain ⟨sm, acc, hD, hla, hAll⟩ := hP
      obtain ⟨r, hri, hrow⟩ := hx.get hxi
      have il : i < xs.length := (List.getElem?_eq_some_iff.mp hxi).1
      obtain ⟨b, vb, vs, vp, rfl, ht, h1, h2, h3⟩ := hrow.same sm
      have ht' : (rows.map fun r => (r.b, r.s))[i]? = some (r.b, r.s) := by rw [List.getElem?_map, hri]; rfl
      refine ⟨b, [vb, vs, vp], rfl, ht, rfl, vb, _, rfl, vs, _, rfl, vp, _, rfl, rfl, rfl, vb, rfl, vs, rfl, by show 2 ≤ sizeLine; decide, fun t nt => ?_⟩
      have st : Same H' (upd H' t (.tup [vb, vs])) := same_new nt
      have hD2 := st _ _ hD
      have pc : PieceAt K (upd H' t (.tup [vb, vs])) (.ref t) (r.b, r.s) := ⟨t, vb, vs, rfl, .inl (.inl upd_same), (h1.same st).num, (h2.same st).num⟩
      refine ⟨acc, hD2, small1000 (by omega), same_but (sm.trans st) n1, _, upd_same, by rw [List.length_append, hla]; rfl, ?_⟩
      rw [take_snoc ht']
      exact (hAll.imp fun _ _ z => piece_but hD2 (but_upd fun _ _ _ e => e) (z.same st)).snoc (piece_but hD2 (but_upd fun _ _ _ e => e) pc)
    · obtain ⟨sm, acc, hD, hla, hAll⟩ := hP
      rw [List.take_of_length_le (by rw [List.length_map]; omega)] at hAll
      exact q D1 H' sm ⟨D1, acc, rfl, hD, hAll⟩
def spPos (K : PySem.W.Frag) (C : Addr) : Sp := fun vs H Q _ => ∃ (v x : V) (n : Str) (L : Rat) (tr : List (Str × List Row)) (rows : List Row) (t : Rat), vs = [v, .str n, x] ∧ RaceAt K C H v L tr ∧ TrOk tr ∧ (n, rows) ∈ tr ∧ Num K H x t ∧ Sz 300 t ∧ 0 ≤ t ∧ ∀ y H', Same H H' → Rn K H' y (posAt rows t) → Q y H'
theorem ok_Pos {f C fN fT fP fR : Addr} {fd dN dT dP dR : FuncData} (F : Fun K "position" "Race.position" sPosi2 f fd) (T : RaceT K C) (DN : DefAt K mg "need_name" sNeed ["race", "name"] fN dN) (DT : DefAt K mg "as_time" sTime ["value"] fT dT) (DP : DefAt K mg "_position" sPosn ["row", "time"] fP dP) (DR : DefAt K mg "_row_at" sRowA ["rows", "time"] fR dR)
    (GN : FnOk P w K mg base (CXl P w) 2 fN dN ["race", "name"] (spNeed K C)) (GT : FnOk P w K mg base (CXl P w) 5 fT dT ["value"] (spTime K)) (GP : FnOk P w K mg base (CXl P w) 5 fP dP ["row", "time"] (spPosn K)) (GR : FnOk P w K mg base (CXl P w) 5 fR dR ["rows", "time"] (spRowA K)) : FnOk P w K mg base (CXl P w) 6 f fd ["self", "name", "time"] (spPos K C) := by
  refine F.okX scPosi2 (fun vs H Q E h => ?_) (fun cdv A outer s H vs Q E hr h => ?_)
  · obtain ⟨v, x, n, L, tr, rows, t, rfl, _⟩ := h
    rfl
  · obtain ⟨v, x, n, L, tr, rows, t, rfl, hR, ok, hm, hx, zt, t0, q⟩ := h
    refine ⟨_, pss_cons (ps_expr (pe_call GN (hr.mono (by decide)) (by rfl) DN.g DN.F.kp DN.b .nil passL (pa_cons (pv 0) (pa_cons (pv 1) pa_nil))))
      (pss_cons (ps_set (i := 3) scPosi2.nd rfl (.inl rfl) (pe_call GT hr (by rfl) DT.g DT.F.kp DT.b .nil passL (pa_cons (pv 2) pa_nil)))
      (pss_one (ps_ret (pe_call GP hr (by rfl) DP.g DP.F.kp DP.b .nil passL (pa_cons (pe_call GR hr (by rfl) DR.g DR.F.kp DR.b .nil passL (pa_cons (pe_dget (hu_of hr) (pe_fld (pv 0) rfl) (pv 1) (fun _ _ => rfl)) (pa_cons (pv 3) pa_nil))) (pa_cons (pv 3) pa_nil)))))), ?_⟩
    refine ⟨_, rfl, _, rfl, _, n, L, tr, _, rfl, hR, ok.nd, hm, ?_⟩
    refine ⟨x, rfl, x, t, rfl, hx, zt.mono (by decide), t0, fun m H1 s1 r1 => ?_⟩
    obtain ⟨p, dx, vL, vT, rfl, hp, hL, d, kvs, rfl, hd, hA⟩ := hR.same s1
    obtain ⟨v, hv, hT⟩ := ent_val hA ok.nd hm
    obtain ⟨r0, rs, e, b0⟩ := ok.ne _ hm
    have e : rows = r0 :: rs := e
    subst e
    have sz := ok.sz _ hm
    refine ⟨_, rfl, p, C, dx, _, _, rfl, hp, T.cl, T.nT, rl_tracks _ _, _, rfl, d, v, rfl, (by have := DGet.k (k := Sum.inr n) hd; rw [hv] at this; exact this), m, rfl, v, m, r0, rs, t, rfl, hT, r1.num, fun r hr' => (sz r hr').1.mono (by decide), zt.mono (by decide), fun y H2 s2 r2 => ?_⟩
    obtain ⟨z1, z2, z3⟩ := sz _ (rowSel_in (t := t) (r0 := r0) (tr := rs))
    exact ⟨m, rfl, y, m, _, t, rfl, r2, (r1.same s2).num, ⟨z1.mono (by decide), z2.mono (by decide), z3.mono (by decide)⟩, zt.mono (by decide), fun y3 H3 s3 r3 => q y3 H3 ((s1.trans s2).trans s3) r3⟩
end
end LR
set_option Elab.async false
set_option linter.all false
set_option maxRecDepth 100000
set_option maxHeartbeats 4000000
namespace LR
open PySem PySem.Spec PyProof.Rows L2
theorem it_list {K : PySem.W.Frag} {a : Addr} {xs : List V} {Qd : Hp → Prop} {H0 : Hp} {Body : V → Hp → (Hp → Prop) → Prop} (Pv : Nat → Hp → Prop) (h0 : Pv 0 H0) (hl : ∀ i H, i ≤ xs.length → Pv i H → SqL K H a xs)
    (hs : ∀ i x H, xs[i]? = some x → Pv i H → Body x H (Pv (i + 1))) (hd : ∀ H, Pv xs.length H → Qd H) :
    ∃ W : Nat → Nat → Hp → Prop, (∃ m, W 0 m H0) ∧ ∀ i m H, W i m H → ((Itl K a).stop i H ∧ Qd H) ∨ ((Itl K a).go i H ∧ ∃ Nx : Hp → Prop, (∀ H', Nx H' → ∃ m', m' < m ∧ W (i + 1) m' H') ∧ ∀ x H', (Itl K a).yld i H x H' → Body x H' Nx) := by
  refine ⟨fun i m H => m = xs.length - i ∧ i ≤ xs.length ∧ Pv i H, ⟨xs.length, by simp, Nat.zero_le _, h0⟩, ?_⟩
  rintro i m H ⟨rfl, hi, p⟩
  have q := hl i H hi p
  by_cases hlt : i < xs.length
  · refine .inr ⟨⟨xs, xs[i], q, by simp [hlt]⟩, Pv (i + 1), fun H' p' => ⟨xs.length - (i + 1), by omega, rfl, hlt, p'⟩, fun x H' y => ?_⟩
    obtain ⟨e, y⟩ := y
    subst e
    exact hs i x _ (y xs q) p
  · have e : i = xs.length := by omega
    subst e
    exact .inl ⟨⟨xs, q, Nat.le_refl _⟩, hd H p⟩
theorem nodup_len {α : Type} [BEq α] [LawfulBEq α] : ∀ {l m : List α}, l.Nodup → (∀ x ∈ l, x ∈ m) → l.length ≤ m.length
  | [], _, _, _ => Nat.zero_le _
  | x :: l, m, h, s => by
    obtain ⟨h1, h2⟩ := List.nodup_cons.mp h
    have hx : x ∈ m := s x List.mem_cons_self
    have ih := nodup_len (l := l) (m := m.erase x) h2 fun y hy => (List.mem_erase_of_ne (fun e => h1 (by rw [← e]; exact hy))).mpr (s y (List.mem_cons_of_mem _ hy))
    rw [List.length_erase_of_mem hx] at ih
    have : 0 < m.length := List.length_pos_of_mem hx
    rw [List.length_cons]
    omega
theorem asc_nodup {l : List Rat} (h : l.Pairwise (· < ·)) : l.Nodup := List.Pairwise.imp (fun {a b} (hh : a < b) (e : a = b) => Rat.lt_irrefl (by rw [e] at hh; exact hh)) h
theorem posAt_sz {rows : List Row} {t : Rat} (h : ∀ r ∈ rows, Sz 12 r.b ∧ Sz 12 r.s ∧ Sz 1100 r.p) (ht : Sz 300 t) : Sz 1500 (posAt rows t) := by
  cases rows with
  | nil => exact Sz.int (n := 0) (by decide) (by decide)
  | cons r0 rs =>
    obtain ⟨z1, z2, z3⟩ := h _ (rowSel_in (t := t) (r0 := r0) (tr := rs))
    exact (z3.add (z2.mul (ht.sub z1))).mono (by decide)
section
variable {P : Program} {w : World} {K : PySem.W.Frag} {mg : Str → Option Value} {base : Heap}
def spPlace (K : PySem.W.Frag) (C : Addr) : Sp := fun vs H Q _ => ∃ (v x : V) (n : Str) (L : Rat) (tr : List (Str × List Row)) (rows : List Row) (t : Rat), vs = [v, .str n, x] ∧ RaceAt K C H v L tr ∧ TrOk tr ∧ (n, rows) ∈ tr ∧ Num K H x t ∧ Sz 300 t ∧ 0 ≤ t ∧ 0 < L ∧ Sz 100 L ∧ ∀ y H', Same H H' → Rn K H' y (rem (posAt rows t) L) → Q y H'
theorem ok_Place {f C fP fR CN C2 : Addr} {fd dP dR : FuncData} (F : Fun K "place" "Race.place" sPlace f fd) (T : RaceT K C) (MP : Meth K C "position" fP) (bP : Binds K dP ["self", "name", "time"] []) (DR : DefAt K mg "remainder" s_rem ["value", "modulus"] fR dR)
    (GP : FnOk P w K mg base (CXl P w) 6 fP dP ["self", "name", "time"] (spPos K C)) (GR : FnOk P w K mg base (CXl P w) 4 fR dR ["value", "modulus"] (sp_rem K CN C2)) : FnOk P w K mg base (CXl P w) 7 f fd ["self", "name", "time"] (spPlace K C) := by
  refine F.okX scPlace (fun vs H Q E h => ?_) (fun cdv A outer s H vs Q E hr h => ?_)
  · obtain ⟨v, x, n, L, tr, rows, t, rfl, _⟩ := h
    rfl
  · obtain ⟨v, x, n, L, tr, rows, t, rfl, hR, ok, hm, hx, zt, t0, L0, zL, q⟩ := h
    refine ⟨_, pss_one (ps_ret (pe_call GR (hr.mono (by decide)) (by rfl) DR.g DR.F.kp DR.b .nil passL (pa_cons (pe_meth (pv 0) T.cl MP GP hr bP .nil passL (pa_cons (pv 1) (pa_cons (pv 2) pa_nil))) (pa_cons (pe_fld (pv 0) rfl) pa_nil)))), ?_⟩
    obtain ⟨p, dx, vL, vT, rfl, hp, _⟩ := id hR
    refine ⟨_, rfl, p, dx, _, rfl, hp, rl_no _ _ (by decide +kernel) (by decide +kernel), _, rfl, x, rfl, .ref p, x, n, L, tr, rows, t, rfl, hR, ok, hm, hx, zt, t0, fun y H1 s1 r1 => ?_⟩
    obtain ⟨p', dx', vL', vT', e, hp1, hL1, _⟩ := hR.same s1
    cases e
    refine ⟨_, rfl, p, C, dx', _, _, rfl, hp1, T.cl, T.nL, rl_length _ _, y, vL', some (posAt rows t), some L, rfl, r1.num, hL1.num, ⟨(posAt_sz (ok.sz _ hm) zt).mono (by decide), zL.mono (by decide)⟩, fun z => absurd L0 (Rat.not_lt.mpr z), fun _ z H2 s2 r2 => q z H2 (s1.trans s2) r2⟩
def spLaps (K : PySem.W.Frag) (C : Addr) : Sp := fun vs H Q _ => ∃ (v x : V) (n : Str) (L : Rat) (tr : List (Str × List Row)) (rows : List Row) (t : Rat), vs = [v, .str n, x] ∧ RaceAt K C H v L tr ∧ TrOk tr ∧ (n, rows) ∈ tr ∧ Num K H x t ∧ Sz 300 t ∧ 0 ≤ t ∧ 0 < L ∧ Sz 100 L ∧ ∀ H', Same H H' → Q (.int (posAt rows t / L).floor) H'
theorem ok_Laps {f C fP fD fF CN C2 : Addr} {fd dP dD dF : FuncData} (F : Fun K "laps" "Race.laps" sLaps f fd) (T : RaceT K C) (MP : Meth K C "position" fP) (bP : Binds K dP ["self", "name", "time"] []) (DD : DefAt K mg "divided" s_divided ["first", "second"] fD dD) (DF : DefAt K mg "floor_of" s_floor ["value"] fF dF)
    (GP : FnOk P w K mg base (CXl P w) 6 fP dP ["self", "name", "time"] (spPos K C)) (GD : FnOk P w K mg base (CXl P w) 4 fD dD ["first", "second"] (sp_divided K CN C2)) (GF : FnOk P w K mg base (CXl P w) 4 fF dF ["value"] (sp_floor K CN)) : FnOk P w K mg base (CXl P w) 7 f fd ["self", "name", "time"] (spLaps K C) := by
  refine F.okX scLaps (fun vs H Q E h => ?_) (fun cdv A outer s H vs Q E hr h => ?_)
  · obtain ⟨v, x, n, L, tr, rows, t, rfl, _⟩ := h
    rfl
  · obtain ⟨v, x, n, L, tr, rows, t, rfl, hR, ok, hm, hx, zt, t0, L0, zL, q⟩ := h
    refine ⟨_, pss_one (ps_ret (pe_call GF (hr.mono (by decide)) (by rfl) DF.g DF.F.kp DF.b .nil passL (pa_cons (pe_call GD (hr.mono (by decide)) (by rfl) DD.g DD.F.kp DD.b .nil passL (pa_cons (pe_meth (pv 0) T.cl MP GP hr bP .nil passL (pa_cons (pv 1) (pa_cons (pv 2) pa_nil))) (pa_cons (pe_fld (pv 0) rfl) pa_nil))) pa_nil))), ?_⟩
    obtain ⟨p, dx, vL, vT, rfl, hp, _⟩ := id hR
    refine ⟨_, rfl, p, dx, _, rfl, hp, rl_no _ _ (by decide +kernel) (by decide +kernel), _, rfl, x, rfl, .ref p, x, n, L, tr, rows, t, rfl, hR, ok, hm, hx, zt, t0, fun y H1 s1 r1 => ?_⟩
    obtain ⟨p', dx', vL', vT', e, hp1, hL1, _⟩ := hR.same s1
    cases e
    have zp := posAt_sz (ok.sz _ hm) zt
    have Ln : L ≠ 0 := Rat.ne_of_gt L0
    refine ⟨_, rfl, p, C, dx', _, _, rfl, hp1, T.cl, T.nL, rl_length _ _, y, vL', some (posAt rows t), some L, rfl, r1.num, hL1.num, ⟨zp.mono (by decide), zL.mono (by decide)⟩, fun z => absurd z Ln, fun _ z H2 s2 r2 => ?_⟩
    exact ⟨z, some (posAt rows t / L), rfl, r2.num, (zp.div zL Ln).mono (by decide), fun H3 s3 => q H3 ((s1.trans s2).trans s3)⟩
def spChg (K : PySem.W.Frag) (C : Addr) : Sp := fun vs H Q _ => ∃ (v : V) (L : Rat) (tr : List (Str × List Row)) (M : Nat), vs = [v] ∧ RaceAt K C H v L tr ∧ TrOk tr ∧ (∀ e ∈ tr, ∀ r ∈ e.2, 0 ≤ r.b) ∧ (∀ e ∈ tr, e.2.length ≤ M + 1) ∧ tr.length ≤ 12 ∧ tr.length * M < 63 ∧
  ∀ y rs H', Same H H' → RnL K H' y rs → (∀ r ∈ rs, 0 ≤ r ∧ Sz 12 r) → rs.length < 63 → Q y H'
theorem ok_Chg {f C fN fO CN : Addr} {fd dN dO : FuncData} (F : Fun K "change_times" "Race.change_times" sChg f fd) (T : RaceT K C) (MN : Meth K C "names" fN) (bN : Binds K dN ["self"] []) (DO : DefAt K mg "in_order" sInO ["values"] fO dO)
    (GN : FnOk P w K mg base (CXl P w) 1 fN dN ["self"] (spNames K C)) (GO : FnOk P w K mg base (CXl P w) 4 fO dO ["values"] (spInO K CN)) : FnOk P w K mg base (CXl P w) 5 f fd ["self"] (spChg K C) := by
  refine F.okX scChg (fun vs H Q E h => ?_) (fun cdv A outer s H vs Q E hr h => ?_)
  · obtain ⟨v, L, tr, M, rfl, _⟩ := h
    rfl
  · obtain ⟨v, L, tr, M, rfl, hR, ok, hb0, hM, hl, hbig, q⟩ := h
    refine ⟨_, pss_cons (ps_setLc2 (i := 1) (own := [("name", 2), ("row", 3)]) (vs1 := [3]) (g := gName 2) (g1 := gName 3) (tt := tYes) (tt1 := tYes) (wi1 := iList K (tSl (rSlL K) (tDGet (tFld K (tVar 0) "_tracks") (tVar 2)) _ _)) rfl scChg.nd rfl rfl (sw_true rfl rfl rfl (by decide +kernel)) (pi_list (pe_meth0 (pv 0) T.cl MN GN (hr.mono (by decide)) bN .nil passL)) (blkOk_by (N := ["self", "later", "name", "row"]) (sc := defScope sChg) (by decide +kernel)) (by decide)
        (fun _ _ _ _ _ => pg_name (i := 2) scChg.nd rfl (.inl rfl)) (fun _ _ _ _ _ => pts_nil)
        (fun _ _ _ _ _ => by exact pi_list (pe_slice (r := rSlL K) sl_list (pe_dget (hu_of hr) (pe_fld (pv 0) rfl) (pv 2) (fun _ _ => rfl)) (po_some pe_int) po_none))
        (fun _ _ _ _ _ => pg_name (i := 3) scChg.nd rfl (.inl rfl)) (fun _ _ _ _ _ => pts_nil)
        (fun _ _ _ _ _ => pe_ix (r := rIxT K) ix_tup (pv 3) pe_int (fun _ _ => rfl)))
      (pss_one (ps_ret (pe_call GO hr (by rfl) DO.g DO.F.kp DO.b .nil passL (pa_cons (pv 1) pa_nil)))), ?_⟩
    obtain ⟨p, dx, vL, vT, rfl, hp, _⟩ := id hR
    refine ⟨_, rfl, p, dx, _, rfl, hp, rl_no _ _ (by decide +kernel) (by decide +kernel), .ref p, L, tr, rfl, hR, hl, fun ys pn H1 s1 pm _ _ hpn => ?_⟩
    refine ⟨pn, rfl, ⟨_, .of hpn⟩, fun D nD => ?_⟩
    have lys : ys.length = tr.length := by rw [pm.length_eq, List.length_map]
    have small : ∀ {n : Nat}, n ≤ ys.length → M * n < 63 := fun {n} h => by
      rw [lys] at h
      exact Nat.lt_of_le_of_lt (by rw [Nat.mul_comm]; exact Nat.mul_le_mul_right M h) hbig
    refine it_list (xs := ys.map V.str) (fun i G => Same H1 G ∧ ∃ acc qs, G D = some (.lst acc) ∧ acc.length ≤ M * i ∧ All2 (Rn K G) acc qs ∧ ∀ r ∈ qs, 0 ≤ r ∧ Sz 12 r) ⟨same_new nD, [], [], upd_same, Nat.zero_le _, .nil, fun _ h => by cases h⟩ (fun i G _ hP => hP.1.seq (.of hpn)) (fun i x G hx hP => ?_) (fun G hP => ?_)
    · obtain ⟨sm, acc, qs, hD, hla, hAll, hqs⟩ := hP
      rw [List.getElem?_map] at hx
      obtain ⟨n, hn, rfl⟩ := Option.map_eq_some_iff.mp hx
      have il : i < ys.length := (List.getElem?_eq_some_iff.mp hn).1
      have nm : n ∈ tr.map (·.1) := pm.mem_iff.mp (List.mem_of_getElem? hn)
      obtain ⟨⟨n', rows⟩, hm, en⟩ := List.mem_map.mp nm
      have en : n' = n := en
      subst en
      have sHG : Same H G := s1.trans sm
      obtain ⟨p', dx', vL', vT', e, hp1, hL1, d, kvs, rfl, hd, hA⟩ := hR.same sHG
      cases e
      obtain ⟨v, hv, a, xs, rfl, ha, hrows⟩ := ent_val hA ok.nd hm
      obtain ⟨r0, rs0, er, _⟩ := ok.ne _ hm
      have er : rows = r0 :: rs0 := er
      subst er
      obtain ⟨x0, xs', rfl⟩ : ∃ x0 xs', xs = x0 :: xs' := by
        cases hrows with
        | cons _ _ => exact ⟨_, _, rfl⟩
      have hrows' : All2 (RowAt K G) xs' rs0 := by
        cases hrows with
        | cons _ h => exact h
      have lx := hrows'.len
      have lM : rs0.length ≤ M := by have := hM _ hm; exact Nat.le_of_succ_le_succ this
      refine ⟨rfl, _, rfl, p, C, dx', _, _, rfl, hp1, T.cl, T.nT, rl_tracks _ _, _, rfl, d, _, rfl, (by have := DGet.k (k := Sum.inr n') hd; rw [hv] at this; exact this), 1, rfl, a, _, rfl, .of ha, fun L2 nL2 => ?_⟩
      rw [cut1]
      have hL2 : (upd G L2 (.lst xs')) L2 = some (.lst xs') := upd_same
      have sL2 : Same G (upd G L2 (.lst xs')) := same_new nL2
      show ∃ l, _
      generalize (upd G L2 (.lst xs')) = G1 at hL2 sL2 ⊢
      have hD1 := sL2 _ _ hD
      have nDL : L2 ≠ D := fun e => by rw [e, hD] at nL2; cases nL2
      have hr1 : All2 (RowAt K G1) xs' rs0 := hrows'.imp fun _ _ z => z.same sL2
      refine ⟨L2, rfl, ⟨_, .of hL2⟩, it_list (xs := xs') (fun j G2 => But D G1 G2 ∧ ∃ acc2 qs2, G2 D = some (.lst acc2) ∧ acc2.length ≤ M * i + j ∧ All2 (Rn K G2) acc2 qs2 ∧ ∀ r ∈ qs2, 0 ≤ r ∧ Sz 12 r) ⟨fun _ _ _ e => e, acc, qs, hD1, by omega, hAll.imp fun _ _ z => z.same sL2, hqs⟩ (fun j G2 _ hP => .of (hP.1 _ _ nDL hL2)) (fun j x G2 hx hP => ?_) (fun G2 hP => ?_)⟩
      · obtain ⟨bt, acc2, qs2, hD2, hl2, hAll2, hqs2⟩ := hP
        obtain ⟨r, hri, hrow⟩ := hr1.get hx
        have jl : j < xs'.length := (List.getElem?_eq_some_iff.mp hx).1
        obtain ⟨b, vb, vs, vp, rfl, ht, h1, h2, h3⟩ := row_but hD1 bt hrow
        have hmi := small (n := i + 1) (by omega)
        rw [Nat.mul_succ] at hmi
        have rm : r ∈ r0 :: rs0 := List.mem_cons_of_mem _ (List.mem_of_getElem? hri)
        refine ⟨rfl, .ref b, rfl, b, _, 0, vb, rfl, rfl, ht, atI_nat (j := 0) rfl, acc2, hD2, small1000 (by omega), but_upd bt, _, qs2 ++ [r.b], upd_same, by rw [List.length_append]; show acc2.length + 1 ≤ _; omega, ?_, fun q' hq' => ?_⟩
        · exact (hAll2.imp fun _ _ z => rn_lst hD2 z).snoc (rn_lst hD2 h1)
        · rcases List.mem_append.mp hq' with h | h
          · exact hqs2 q' h
          · rw [List.mem_singleton.mp h]
            exact ⟨hb0 _ hm r rm, (ok.sz _ hm r rm).1⟩
      · obtain ⟨bt, acc2, qs2, hD2, hl2, hAll2, hqs2⟩ := hP
        refine ⟨fun b o e => ?_, acc2, qs2, hD2, by rw [Nat.mul_succ]; omega, hAll2, hqs2⟩
        exact bt _ _ (ne_of_none e nD) (sL2 _ _ (sm _ _ e))
    · obtain ⟨sm, acc, qs, hD, hla, hAll, hqs⟩ := hP
      rw [List.length_map] at hla
      have lq := hAll.len
      have hmi := small (n := ys.length) (Nat.le_refl _)
      refine ⟨.ref D, rfl, .ref D, rfl, .inl ⟨D, qs, rfl, ⟨acc, .of hD, hAll.imp fun _ _ z => z.num⟩, by omega, fun r hr' => (hqs r hr').2.mono (by decide), fun rs v H' ord s' rr => ?_⟩⟩
      refine q v rs H' ((s1.trans sm).trans s') rr (fun r hr' => hqs r ((ord.2 r).mp hr')) ?_
      exact Nat.lt_of_le_of_lt (nodup_len (asc_nodup ord.1) fun r hr' => (ord.2 r).mp hr') (by omega)
end
end LR
set_option Elab.async false
set_option linter.all false
set_option maxRecDepth 100000
set_option maxHeartbeats 4000000
namespace LR
open PySem PySem.Spec PyProof.Rows L2
/-! ### the law's own: pools and draws -/
abbrev sPool : Stmt := topS 42
abbrev sDraw : Stmt := topS 43
abbrev sChoose : Stmt := topS 44
theorem scPool : FnScope ["script", "k", "cell", "seed"] ["script", "k"] (defScope sPool) := ⟨rfl, rfl, rfl, by decide +kernel, rfl, by decide +kernel, by decide +kernel⟩
theorem scDraw : FnScope ["pool", "many", "digit"] ["pool", "many"] (defScope sDraw) := ⟨rfl, rfl, rfl, by decide +kernel, rfl, by decide +kernel, by decide +kernel⟩
theorem scChoose : FnScope ["pool", "items"] ["pool", "items"] (defScope sChoose) := ⟨rfl, rfl, rfl, by decide +kernel, rfl, by decide +kernel, by decide +kernel⟩
/-- a pool stands at p -/
def PoolAt (H : Hp) (p : Addr) : Prop := ∃ c s : Int, H p = some (.lst [.int c, .int s]) ∧ 0 ≤ s ∧ s < 2147483647
section
variable {P : Program} {w : World} {K : PySem.W.Frag} {mg : Str → Option Value} {base : Heap}
theorem mod_in {x m : Int} (hm : 0 < m) : 0 ≤ x.fmod m ∧ x.fmod m < m := by
  rw [Int.fmod_eq_emod_of_nonneg _ (Int.le_of_lt hm)]
  exact ⟨Int.emod_nonneg _ (Int.ne_of_gt hm), Int.emod_lt_of_pos _ hm⟩
def spPool (K : PySem.W.Frag) : Sp := fun vs H Q _ => ∃ (a : Addr) (ns : List Int) (k : Nat), vs = [.ref a, .int k] ∧ SqL K H a (ns.map V.int) ∧ k ≤ 63 ∧ ∀ p H', Same H H' → H p = none → PoolAt H' p → Q (.ref p) H'
theorem ok_Pool {f : Addr} {fd : FuncData} (D : DefAt K mg "_law_pool" sPool ["script", "k"] f fd) (ml : mg "len" = none) : FnOk P w K mg base (CXl P w) 1 f fd ["script", "k"] (spPool K) := by
  refine D.F.okX scPool (fun vs H Q E h => ?_) (fun cdv A outer s H vs Q E hr h => ?_)
  · obtain ⟨a, ns, k, rfl, _⟩ := h
    rfl
  · obtain ⟨a, ns, k, rfl, hS, hk, q⟩ := h
    refine ⟨_, pss_cons (ps_set (i := 2) scPool.nd rfl (.inl rfl) pe_int)
      (pss_cons (ps_if (pt_cmpR op_lt (pv 1) (pe_callB call_len_seq (by rfl) ml PySem.boot_len (pa_cons (pv 0) pa_nil)) (nomark _)) (pss_one (ps_set (i := 2) scPool.nd rfl (.inl rfl) (pe_ix ix_list (pv 0) (pv 1) (fun _ _ => rfl)))) pss_nil)
      (pss_cons (ps_set (i := 3) scPool.nd rfl (.inl rfl) (pe_op op_modN (pe_op op_pow (pe_op op_add (pe_op op_add (pe_op op_modN (pv 2) pe_int) (pe_op op_mul (pe_op op_mul pe_int (pv 1)) (pv 1))) pe_int) pe_int) pe_int))
      (pss_cons (ps_if (pt_cmpR op_lt (pv 2) (pe_op op_pow pe_int pe_int) (nomark _)) (pss_one (ps_set (i := 2) scPool.nd rfl (.inl rfl) pe_int)) pss_nil)
      (pss_one (ps_ret (pe_lst (pa_cons (pv 2) (pa_cons (pv 3) pa_nil)))))))), ?_⟩
    have fin : ∀ c s : Int, 0 ≤ s → s < 2147483647 → [V.int c, V.int s].length ≤ sizeLine ∧ ∀ p, H p = none → Q (.ref p) (upd H p (.lst [.int c, .int s])) := fun c s h1 h2 =>
      ⟨by show 2 ≤ sizeLine; decide, fun p np => q p _ (same_new np) np ⟨c, s, upd_same, h1, h2⟩⟩
    have rest : ∀ c : Int, (tSeq (tAsg (tOp (rI (fun _ j => j ≠ 0) fun i j => V.int (i.fmod j)) (tOp (rI CPow fun i j => V.int (i ^ j.toNat)) (tOp (rI0 fun i j => V.int (i + j)) (tOp (rI0 fun i j => V.int (i + j)) (tOp (rI (fun _ j => j ≠ 0) fun i j => V.int (i.fmod j)) (tVar 2) (tC (.int 2147483629))) (tOp (rI CMul fun i j => V.int (i * j)) (tOp (rI CMul fun i j => V.int (i * j)) (tC (.int 7919)) (tVar 1)) (tVar 1))) (tC (.int 31))) (tC (.int 3))) (tC (.int 2147483647))) (gName 3))
        (tSeq (tIfS (tTest (tOp (rI0 fun i j => V.bl (decide (i < j))) (tVar 2) (tOp (rI CPow fun i j => V.int (i ^ j.toNat)) (tC (.int 10)) (tC (.int 18))))) (tAsg (tC (.int 0)) (gName 2)) tNext) (tRet (tLst (tCons (tVar 2) (tCons (tVar 3) tNil)))))) { nx := fun _ H' => Q .non H', rt := Q } [some (.ref a), some (.int k), some (.int c), none] H := by
      intro c
      have m1 := mod_in (x := c) (m := 2147483629) (by decide)
      have kk : (k : Int) * 7919 ≤ 63 * 7919 := by omega
      have k2 : 7919 * (k : Int) * k ≤ 63 * 7919 * 63 := by
        have e : 7919 * (k : Int) * k = ((7919 * k * k : Nat) : Int) := by simp
        have : 7919 * k * k ≤ 7919 * 63 * 63 := Nat.mul_le_mul (Nat.mul_le_mul_left _ hk) hk
        omega
      have k0 : 0 ≤ 7919 * (k : Int) * k := by
        have e : 7919 * (k : Int) * k = ((7919 * k * k : Nat) : Int) := by simp
        omega
      refine ⟨_, rfl, c, 2147483629, rfl, rfl, show (2147483629 : Int) ≠ 0 by decide, _, rfl, 7919, (k : Int), rfl, rfl, .inl ⟨by decide, by decide⟩, _, rfl, _, (k : Int), rfl, rfl, .inr ⟨by omega, by omega⟩, _, _, rfl, rfl, _, 31, rfl, rfl, _, 3, rfl, rfl, ⟨by decide, by decide, by omega⟩, _, 2147483647, rfl, rfl, show (2147483647 : Int) ≠ 0 by decide, ?_⟩
      have m2 := mod_in (x := (c.fmod 2147483629 + 7919 * (k : Int) * k + 31) ^ (3 : Int).toNat) (m := 2147483647) (by decide)
      refine ⟨_, rfl, 10, 18, rfl, rfl, ⟨by decide, by decide, by decide⟩, c, _, rfl, rfl, _, rfl, ite2 (fun _ => ?_) (fun _ => ?_)⟩
      · exact ⟨_, rfl, _, rfl, fin _ _ m2.1 m2.2⟩
      · exact ⟨_, rfl, _, rfl, fin _ _ m2.1 m2.2⟩
    by_cases lt : (k : Int) < ((ns.map V.int).length : Int)
    · refine ⟨_, rfl, .ref a, rfl, a, _, rfl, .inl hS, (k : Int), _, rfl, rfl, _, rfl, ?_⟩
      have hi : k < ns.length := by rw [List.length_map] at lt; omega
      have g : (ns.map V.int)[k]? = some (.int ns[k]) := by rw [List.getElem?_map, List.getElem?_eq_getElem hi]; rfl
      refine ite2 (fun _ => ⟨.ref a, rfl, _, rfl, a, _, (k : Int), _, rfl, rfl, hS, atI_nat g, ?_⟩) (fun c => absurd (decide_eq_true lt) c)
      exact rest _
    · refine ⟨_, rfl, .ref a, rfl, a, _, rfl, .inl hS, (k : Int), _, rfl, rfl, _, rfl, ite2 (fun c => absurd (of_decide_eq_true c) lt) (fun _ => ?_)⟩
      exact rest _

/-! ### draws -/
/-- behind a draw: only the pool has changed -/
structure Drew (p : Addr) (H H' : Hp) : Prop where
  but : But p H H'
  pool : PoolAt H' p
def spDraw : Sp := fun vs H Q _ => ∃ (p : Addr) (m : Int), vs = [.ref p, .int m] ∧ PoolAt H p ∧ 0 < m ∧ m.natAbs < 2 ^ 200 ∧ ∀ d H', 0 ≤ d → d < m → Drew p H H' → Q (.int d) H'
theorem drew_upd {p : Addr} {H : Hp} {c s : Int} (h1 : 0 ≤ s) (h2 : s < 2147483647) : Drew p H (upd H p (.lst [.int c, .int s])) :=
  ⟨fun b o hb e => by rw [upd_ne hb]; exact e, c, s, upd_same, h1, h2⟩
theorem ok_Draw {f : Addr} {fd : FuncData} (D : DefAt K mg "_law_draw" sDraw ["pool", "many"] f fd) : FnOk P w K mg base (CXl P w) 1 f fd ["pool", "many"] spDraw := by
  refine D.F.okX scDraw (fun vs H Q E h => ?_) (fun cdv A outer s H vs Q E hr h => ?_)
  · obtain ⟨p, m, rfl, _⟩ := h
    rfl
  · obtain ⟨p, m, rfl, ⟨c, sd, hp, s0, s1⟩, m0, mb, q⟩ := h
    refine ⟨_, pss_cons (ps_if (pt_cmpR op_gt (pe_ix ix_list (pv 0) pe_int (fun _ _ => rfl)) pe_int (nomark _))
        (pss_cons (ps_set (i := 2) scDraw.nd rfl (.inl rfl) (pe_op op_modN (pe_ix ix_list (pv 0) pe_int (fun _ _ => rfl)) (pv 1)))
        (pss_cons (ps_asg (pe_op op_fdivA (pe_ix ix_list (pv 0) pe_int (fun _ _ => rfl)) (pv 1)) (pg_sub (pv 0) pe_int set_list))
        (pss_one (ps_ret (pv 2))))) pss_nil)
      (pss_cons (ps_asg (pe_op op_modN (pe_op op_add (pe_op op_mul (pe_ix ix_list (pv 0) pe_int (fun _ _ => rfl)) pe_int) pe_int) pe_int) (pg_sub (pv 0) pe_int set_list))
      (pss_one (ps_ret (pe_op op_modN (pe_op op_fdivN (pe_op op_modN (pe_op op_mul (pe_ix ix_list (pv 0) pe_int (fun _ _ => rfl)) (pe_ix ix_list (pv 0) pe_int (fun _ _ => rfl))) pe_int) pe_int) (pv 1))))), ?_⟩
    refine ⟨.ref p, rfl, p, _, 0, _, rfl, rfl, .of hp, atI_nat (j := 0) rfl, c, 0, rfl, rfl, _, rfl, ite2 (fun _ => ?_) (fun _ => ?_)⟩
    · have md := mod_in (x := c) m0
      refine ⟨.ref p, rfl, p, _, 0, _, rfl, rfl, .of hp, atI_nat (j := 0) rfl, _, rfl, c, m, rfl, rfl, show m ≠ 0 by omega, ?_⟩
      refine ⟨.ref p, rfl, p, _, 0, _, rfl, rfl, .of hp, atI_nat (j := 0) rfl, _, rfl, c, m, rfl, rfl, divA (b := 200) (by omega) mb (by decide) (by decide), ?_⟩
      refine ⟨.ref p, rfl, p, _, 0, 0, rfl, rfl, hp, rfl, ?_⟩
      refine ⟨_, rfl, ?_⟩
      exact q _ _ md.1 md.2 (drew_upd s0 s1)
    · refine ⟨.ref p, rfl, p, _, 1, _, rfl, rfl, .of hp, atI_nat (j := 1) rfl, sd, 48271, rfl, rfl, .inl ⟨by omega, by omega⟩, _, 11, rfl, rfl, _, 2147483647, rfl, rfl, show (2147483647 : Int) ≠ 0 by decide, ?_⟩
      have m2 := mod_in (x := sd * 48271 + 11) (m := 2147483647) (by decide)
      refine ⟨.ref p, rfl, p, _, 1, 1, rfl, rfl, hp, rfl, ?_⟩
      have hz : (upd H p (.lst [.int c, .int ((sd * 48271 + 11).fmod 2147483647)])) p = some (.lst [.int c, .int ((sd * 48271 + 11).fmod 2147483647)]) := upd_same
      have md := mod_in (x := (((sd * 48271 + 11).fmod 2147483647 * (sd * 48271 + 11).fmod 2147483647).fmod 2147483629).fdiv 64) m0
      refine ⟨.ref p, rfl, p, _, 1, _, rfl, rfl, .of hz, atI_nat (j := 1) rfl, .ref p, rfl, p, _, 1, _, rfl, rfl, .of hz, atI_nat (j := 1) rfl, _, _, rfl, rfl, .inl ⟨by omega, by omega⟩, _, 2147483629, rfl, rfl, show (2147483629 : Int) ≠ 0 by decide,
        _, 64, rfl, rfl, ⟨by decide, by decide⟩, _, rfl, _, m, rfl, rfl, show m ≠ 0 by omega, ?_⟩
      exact q _ _ md.1 md.2 (drew_upd m2.1 m2.2)
/-! ### choices -/
def spChoose (K : PySem.W.Frag) : Sp := fun vs H Q _ => ∃ (p a : Addr) (xs : List V), vs = [.ref p, .ref a] ∧ PoolAt H p ∧ SqL K H a xs ∧ 0 < xs.length ∧ xs.length < 1000 ∧ (∀ H', But p H H' → SqL K H' a xs) ∧ ∀ x H', x ∈ xs → Drew p H H' → Q x H'
theorem ok_Choose {f fD : Addr} {fd dD : FuncData} (D : DefAt K mg "_law_choose" sChoose ["pool", "items"] f fd) (DD : DefAt K mg "_law_draw" sDraw ["pool", "many"] fD dD) (ml : mg "len" = none) (GD : FnOk P w K mg base (CXl P w) 1 fD dD ["pool", "many"] spDraw) :
    FnOk P w K mg base (CXl P w) 2 f fd ["pool", "items"] (spChoose K) := by
  refine D.F.okX scChoose (fun vs H Q E h => ?_) (fun cdv A outer s H vs Q E hr h => ?_)
  · obtain ⟨p, a, xs, rfl, _⟩ := h
    rfl
  · obtain ⟨p, a, xs, rfl, hp, hS, l0, l1, st, q⟩ := h
    refine ⟨_, pss_one (ps_ret (pe_ix ix_list (pv 1) (pe_call GD hr (by rfl) DD.g DD.F.kp DD.b .nil passL (pa_cons (pv 0) (pa_cons (pe_callB call_len_seq (by rfl) ml PySem.boot_len (pa_cons (pv 1) pa_nil)) pa_nil))) (fun _ _ => rfl))), ?_⟩
    refine ⟨.ref a, rfl, .ref p, rfl, .ref a, rfl, a, _, rfl, .inl hS, p, _, rfl, hp, by omega, ?_, fun d H' d0 d1 dr => ?_⟩
    · refine Nat.lt_of_lt_of_le (show ((xs.length : Nat) : Int).natAbs < 2 ^ 10 by omega) (Nat.pow_le_pow_right (by decide) (by decide))
    · have hi : d.toNat < xs.length := by omega
      refine ⟨a, _, d, xs[d.toNat], rfl, rfl, st H' dr.but, at_of (j := d.toNat) (by omega) (List.getElem?_eq_getElem hi), q _ _ (List.getElem_mem hi) dr⟩
end
end LR
set_option Elab.async false
set_option linter.all false
set_option maxRecDepth 100000
set_option maxHeartbeats 4000000
namespace LR
open PySem PySem.Spec PyProof.Rows L2
abbrev sNum : Stmt := topS 45
abbrev sLPcs : Stmt := topS 46
theorem scNum : FnScope ["pool", "low", "high", "value"] ["pool", "low", "high"] (defScope sNum) := ⟨rfl, rfl, rfl, by decide +kernel, rfl, by decide +kernel, by decide +kernel⟩
theorem scLPcs : FnScope ["pool", "pieces", "time", "turn"] ["pool"] (defScope sLPcs) := ⟨rfl, rfl, rfl, by decide +kernel, rfl, by decide +kernel, by decide +kernel⟩
theorem p200 {n : Nat} (h : n < 2 ^ 10) : n < 2 ^ 200 := Nat.lt_of_lt_of_le h (Nat.pow_le_pow_right (by decide) (by decide))
theorem drew_new {p t : Addr} {H G : Hp} {o : HO} (r : Drew p H G) (n : G t = none) : Drew p H (upd G t o) := by
  obtain ⟨c, s, e, h⟩ := r.pool
  exact ⟨fun b y hb z => by rw [upd_ne (ne_of_none (r.but b y hb z) n)]; exact r.but b y hb z, c, s, by rw [upd_ne (ne_of_none e n)]; exact e, h⟩
theorem drew_same {p : Addr} {H G G' : Hp} (r : Drew p H G) (s : Same G G') : Drew p H G' := by
  obtain ⟨c, sd, e, h⟩ := r.pool
  exact ⟨fun b y hb z => s _ _ (r.but b y hb z), c, sd, s _ _ e, h⟩
theorem drew_trans {p : Addr} {H G G' : Hp} (r : Drew p H G) (s : Drew p G G') : Drew p H G' := ⟨fun b y hb z => s.but _ _ hb (r.but b y hb z), s.pool⟩
theorem drew_refl {p : Addr} {H : Hp} (h : PoolAt H p) : Drew p H H := ⟨fun _ _ _ e => e, h⟩
theorem sz_small {n d : Int} (hd : 0 < d) (h1 : n.natAbs < 2 ^ 12) (h2 : d.natAbs < 2 ^ 12) : Sz 12 (Rat.divInt n d) := sz_divInt (by omega) h1 h2
theorem divInt_nn {n d : Int} (hd : 0 < d) (hn : 0 ≤ n) : 0 ≤ Rat.divInt n d := by
  rw [Rat.divInt_nonneg_iff_of_pos_right hd]
  exact hn
section
variable {P : Program} {w : World} {K : PySem.W.Frag} {mg : Str → Option Value} {base : Heap}
def spNum (K : PySem.W.Frag) : Sp := fun vs H Q _ => ∃ (p : Addr) (lo hi : Int), vs = [.ref p, .int lo, .int hi] ∧ PoolAt H p ∧ lo ≤ hi ∧ -100 ≤ lo ∧ hi ≤ 100 ∧ ∀ v q H', Drew p H H' → Num K H' v q → Sz 12 q → (0 ≤ lo → 0 ≤ q) → Q v H'
theorem ok_Num {f fD fR C C2 : Addr} {fd dD dR : FuncData} (D : DefAt K mg "_law_number" sNum ["pool", "low", "high"] f fd) (DD : DefAt K mg "_law_draw" sDraw ["pool", "many"] fD dD) (DR : DefD K mg "ratio" sRatio ["numerator", "denominator"] [.int 1] fR dR)
    (GD : FnOk P w K mg base (CXl P w) 1 fD dD ["pool", "many"] spDraw) (GR : FnOk P w K mg base (CXl P w) 2 fR dR ["numerator", "denominator"] (spRatio K C C2)) : FnOk P w K mg base (CXl P w) 3 f fd ["pool", "low", "high"] (spNum K) := by
  refine D.F.okX scNum (fun vs H Q E h => ?_) (fun cdv A outer s H vs Q E hr h => ?_)
  · obtain ⟨p, lo, hi, rfl, _⟩ := h
    rfl
  · obtain ⟨p, lo, hi, rfl, hp, h1, h2, h3, q⟩ := h
    refine ⟨_, pss_cons (ps_set (i := 3) scNum.nd rfl (.inl rfl) (pe_op op_add (pv 1) (pe_call GD (hr.mono (by decide)) (by rfl) DD.g DD.F.kp DD.b .nil passL (pa_cons (pv 0) (pa_cons (pe_op op_add (pe_op op_sub (pv 2) (pv 1)) pe_int) pa_nil)))))
      (pss_cons (ps_if (pt_cmpR op_gt (pe_call GD (hr.mono (by decide)) (by rfl) DD.g DD.F.kp DD.b .nil passL (pa_cons (pv 0) (pa_cons pe_int pa_nil))) pe_int (nomark _)) (pss_one (ps_ret (pv 3))) pss_nil)
      (pss_one (ps_ret (pe_call GR hr (by rfl) DR.g DR.F.kp DR.b .nil passL (pa_cons (pe_op op_add (pe_op op_mul (pv 3) pe_int) (pe_call GD (hr.mono (by decide)) (by rfl) DD.g DD.F.kp DD.b .nil passL (pa_cons (pv 0) (pa_cons pe_int pa_nil)))) (pa_cons (pe_op op_add pe_int (pe_call GD (hr.mono (by decide)) (by rfl) DD.g DD.F.kp DD.b .nil passL (pa_cons (pv 0) (pa_cons pe_int pa_nil)))) pa_nil)))))), ?_⟩
    refine ⟨_, rfl, _, rfl, _, rfl, _, rfl, _, _, rfl, rfl, _, _, rfl, rfl, p, _, rfl, hp, by omega, Nat.lt_of_lt_of_le (show (hi - lo + 1).natAbs < 2 ^ 10 by omega) (Nat.pow_le_pow_right (by decide) (by decide)), fun d H1 d0 d1 r1 => ?_⟩
    refine ⟨_, _, rfl, rfl, ?_⟩
    refine ⟨_, rfl, p, 3, rfl, r1.pool, by decide, p200 (by decide), fun e H2 e0 e1 r2 => ?_⟩
    have r12 := drew_trans r1 r2
    refine ⟨_, _, rfl, rfl, _, rfl, ite2 (fun _ => ?_) (fun _ => ?_)⟩
    · refine ⟨_, rfl, q _ ((lo + d : Int) : Rat) H2 r12 (num_int _) (Sz.int (by decide) ?_) fun h0 => ?_⟩
      · exact Nat.lt_of_lt_of_le (show (lo + d).natAbs < 2 ^ 10 by omega) (by decide)
      · exact Rat.intCast_nonneg.mpr (by omega)
    · refine ⟨_, rfl, _, 2, rfl, rfl, .inl ⟨by omega, by omega⟩, _, rfl, p, 3, rfl, r2.pool, by decide, p200 (by decide), fun a H3 a0 a1 r3 => ⟨_, _, rfl, rfl, ?_⟩⟩
      refine ⟨_, rfl, p, 2, rfl, r3.pool, by decide, p200 (by decide), fun b H4 b0 b1 r4 => ⟨2, _, rfl, rfl, ?_⟩⟩
      have r14 := drew_trans (drew_trans r12 r3) r4
      refine ⟨_, _, "int", "int", rfl, .int _, .int _, givesR_ok (by omega) (Nat.lt_of_lt_of_le (show ((lo + d) * 2 + a).natAbs < 2 ^ 12 by omega) (Nat.pow_le_pow_right (by decide) (by decide))) (Nat.lt_of_lt_of_le (show (2 + b).natAbs < 2 ^ 12 by omega) (Nat.pow_le_pow_right (by decide) (by decide))) fun v H5 s5 r5 => ?_⟩
      exact q v _ H5 (drew_same r14 s5) r5.num (sz_small (by omega) (show ((lo + d) * 2 + a).natAbs < 2 ^ 12 by omega) (show (2 + b).natAbs < 2 ^ 12 by omega)) fun h0 => divInt_nn (by omega) (by omega)
theorem drew_piece {p : Addr} {H G : Hp} {v : V} {c : Rat × Rat} (hp : PoolAt H p) (r : Drew p H G) (h : PieceAt K H v c) : PieceAt K G v c := by
  obtain ⟨_, _, e, _⟩ := hp
  exact piece_but e r.but h
theorem drew_num {p : Addr} {H G : Hp} {v : V} {q : Rat} (hp : PoolAt H p) (r : Drew p H G) (h : Num K H v q) : Num K G v q := by
  obtain ⟨_, _, e, _⟩ := hp
  exact num_but e r.but h
theorem drew_none {p l : Addr} {H G : Hp} (r : Drew p H G) (n : G l = none) : H l = none ∨ l = p := by
  by_cases e : l = p
  · exact .inr e
  · cases h : H l with
    | none => exact .inl rfl
    | some o => rw [r.but _ _ e h] at n; cases n
theorem pool_some {p : Addr} {H : Hp} (h : PoolAt H p) : H p ≠ none := by
  obtain ⟨_, _, e, _⟩ := h
  rw [e]
  simp
theorem drew_upd' {p l : Addr} {H G : Hp} {o : HO} (r : Drew p H G) (n : H l = none) (ne : l ≠ p) : Drew p H (upd G l o) := by
  obtain ⟨c, s, e, h⟩ := r.pool
  exact ⟨fun b y hb z => by rw [upd_ne (ne_of_none z n)]; exact r.but b y hb z, c, s, by rw [upd_ne ne.symm]; exact e, h⟩
/-! ### pieces drawn -/
def spLPcs (K : PySem.W.Frag) : Sp := fun vs H Q _ => ∃ p : Addr, vs = [.ref p] ∧ PoolAt H p ∧ ∀ (l : Addr) cs H', Drew p H H' → PiecesAt K H' (.ref l) cs → PcsOk cs → cs.length ≤ 3 → Q (.ref l) H'
theorem ok_LPcs {f fN fP fD fR C C2 : Addr} {fd dN dP dD dR : FuncData} (D : DefAt K mg "_law_pieces" sLPcs ["pool"] f fd) (DN : DefAt K mg "_law_number" sNum ["pool", "low", "high"] fN dN) (DP : DefAt K mg "plus" s_plus ["first", "second"] fP dP) (DD : DefAt K mg "_law_draw" sDraw ["pool", "many"] fD dD) (DR : DefD K mg "ratio" sRatio ["numerator", "denominator"] [.int 1] fR dR) (mr : mg "range" = none)
    (GN : FnOk P w K mg base (CXl P w) 3 fN dN ["pool", "low", "high"] (spNum K)) (GP : FnOk P w K mg base (CXl P w) 4 fP dP ["first", "second"] (sp_plus K C)) (GD : FnOk P w K mg base (CXl P w) 1 fD dD ["pool", "many"] spDraw) (GR : FnOk P w K mg base (CXl P w) 2 fR dR ["numerator", "denominator"] (spRatio K C C2)) : FnOk P w K mg base (CXl P w) 5 f fd ["pool"] (spLPcs K) := by
  refine D.F.okX scLPcs (fun vs H Q E h => ?_) (fun cdv A outer s H vs Q E hr h => ?_)
  · obtain ⟨p, rfl, _⟩ := h
    rfl
  · obtain ⟨p, rfl, hp, q⟩ := h
    refine ⟨_, pss_cons (ps_par (i := 1) (j := 2) rfl scLPcs.nd rfl rfl (by decide) rfl rfl (pa_cons (pe_lst (pa_cons (pe_tup (pa_cons pe_int (pa_cons (pe_call GN (hr.mono (by decide)) (by rfl) DN.g DN.F.kp DN.b .nil passL (pa_cons (pv 0) (pa_cons (pe_un un_neg pe_int) (pa_cons pe_int pa_nil)))) pa_nil))) pa_nil)) (pa_cons pe_int pa_nil)) (by rfl))
      (pss_cons (ps_for (passes_of rfl) rfl (pi_range1 rfl mr (pa_cons (pe_call GD (hr.mono (by decide)) (by rfl) DD.g DD.F.kp DD.b .nil passL (pa_cons (pv 0) (pa_cons pe_int pa_nil))) pa_nil)) (pg_name (i := 3) scLPcs.nd rfl (.inl rfl))
        (pss_cons (ps_set (i := 2) scLPcs.nd rfl (.inl rfl) (pe_call GP hr (by rfl) DP.g DP.F.kp DP.b .nil passL (pa_cons (pv 2) (pa_cons (pe_call GR (hr.mono (by decide)) (by rfl) DR.g DR.F.kp DR.b .nil passL (pa_cons (pe_op op_add pe_int (pe_call GD (hr.mono (by decide)) (by rfl) DD.g DD.F.kp DD.b .nil passL (pa_cons (pv 0) (pa_cons pe_int pa_nil)))) (pa_cons (pe_op op_add pe_int (pe_call GD (hr.mono (by decide)) (by rfl) DD.g DD.F.kp DD.b .nil passL (pa_cons (pv 0) (pa_cons pe_int pa_nil)))) pa_nil))) pa_nil))))
        (pss_one (ps_expr (pe_bm PySem.F.plainAttrs_list PySem.F.slot_list_append PySem.F.type_list_append mt_append (pv 1) (pa_cons (pe_tup (pa_cons (pv 2) (pa_cons (pe_call GN (hr.mono (by decide)) (by rfl) DN.g DN.F.kp DN.b .nil passL (pa_cons (pv 0) (pa_cons (pe_un un_neg pe_int) (pa_cons pe_int pa_nil)))) pa_nil))) pa_nil))))))
      (pss_one (ps_ret (pv 1)))), ?_⟩
    refine ⟨_, rfl, 4, rfl, p, -4, 4, rfl, hp, by decide, by decide, by decide, fun v0 q0 H1 r1 n1 z1 _ => ?_⟩
    refine ⟨by show 2 ≤ sizeLine; decide, fun T0 nT0 => ?_⟩
    have hT0 : (upd H1 T0 (.tup [.int 0, v0])) T0 = some (.tup [.int 0, v0]) := upd_same
    have rT : Drew p H (upd H1 T0 (.tup [.int 0, v0])) := drew_new r1 nT0
    have sT : Same H1 (upd H1 T0 (.tup [.int 0, v0])) := same_new nT0
    generalize (upd H1 T0 (.tup [.int 0, v0])) = H2 at hT0 rT sT ⊢
    refine ⟨by show 1 ≤ sizeLine; decide, fun l nl => ⟨_, _, rfl, ?_⟩⟩
    have nlp : l ≠ p := fun e => by rw [e] at nl; exact pool_some rT.pool nl
    have nl0 : H l = none := (drew_none rT nl).resolve_right nlp
    have hl : (upd H2 l (.lst [.ref T0])) l = some (.lst [.ref T0]) := upd_same
    have r2 : Drew p H (upd H2 l (.lst [.ref T0])) := drew_upd' rT nl0 nlp
    have s2 : Same H2 (upd H2 l (.lst [.ref T0])) := same_new nl
    have pc0 : PieceAt K (upd H2 l (.lst [.ref T0])) (.ref T0) (((0 : Int) : Rat), q0) := ⟨T0, .int 0, v0, rfl, .inl (.inl (s2 _ _ hT0)), num_int 0, (n1.same sT).same s2⟩
    generalize (upd H2 l (.lst [.ref T0])) = H3 at hl r2 s2 pc0 ⊢
    refine ⟨_, rfl, p, 3, rfl, r2.pool, by decide, p200 (by decide), fun m H4 m0 m1 r4 => ?_⟩
    refine ⟨m, rfl, by omega, by omega, for_range (lo := 0) (fun i σ G => Drew p H G ∧ ∃ tv T cs acc o, σ = [some (.ref p), some (.ref l), some tv, o] ∧ G l = some (.lst acc) ∧ All2 (PieceAt K G) acc cs ∧ PcsOk cs ∧ cs.length = i + 1 ∧ Num K G tv T ∧ (∀ c ∈ cs, c.1 ≤ T) ∧ Sz (1 + 4 * i) T)
      ⟨drew_trans r2 r4, .int 0, ((0 : Int) : Rat), [(((0 : Int) : Rat), q0)], [.ref T0], none, rfl, r4.but _ _ nlp hl, .cons (drew_piece r2.pool r4 pc0) .nil, ⟨by show 0 < 1; decide, by show 1 ≤ 20; decide, rfl, List.pairwise_singleton _ _, ?_⟩, rfl, num_int 0, ?_, Sz.int (by decide) (by decide)⟩ (fun i σ G hi hP => ?_) (fun σ G hP => ?_)⟩
    · intro c hc
      rw [List.mem_singleton.mp hc]
      exact ⟨Sz.int (by decide) (by decide), z1⟩
    · intro c hc
      rw [List.mem_singleton.mp hc]
      exact Rat.le_refl
    · obtain ⟨rG, tv, T, cs, acc, o, rfl, hG, hAll, ok, lcs, hT, hle, zT⟩ := hP
      have i2 : i ≤ 1 := by omega
      refine ⟨tv, rfl, _, rfl, p, 6, rfl, rG.pool, by decide, p200 (by decide), fun a G1 a0 a1 t1 => ⟨1, _, rfl, rfl, ?_⟩⟩
      refine ⟨_, rfl, p, 3, rfl, t1.pool, by decide, p200 (by decide), fun b G2 b0 b1 t2 => ⟨1, _, rfl, rfl, ?_⟩⟩
      have zr : Sz 3 (Rat.divInt (1 + a) (1 + b)) := sz_divInt (by omega) (by show (1 + a).natAbs < 8; omega) (by show (1 + b).natAbs < 8; omega)
      have pr : 0 < Rat.divInt (1 + a) (1 + b) := by
        have hn : (0 : Rat) < ((1 + a : Int) : Rat) := Rat.intCast_pos.mpr (by omega)
        have hd : (0 : Rat) < ((1 + b : Int) : Rat) := Rat.intCast_pos.mpr (by omega)
        rw [Rat.divInt_eq_div, Rat.div_def]
        exact Rat.mul_pos hn (Rat.inv_pos.mpr hd)
      refine ⟨_, _, "int", "int", rfl, .int _, .int _, givesR_ok (by omega) (Nat.lt_of_lt_of_le (show (1 + a).natAbs < 2 ^ 12 by omega) (Nat.pow_le_pow_right (by decide) (by decide))) (Nat.lt_of_lt_of_le (show (1 + b).natAbs < 2 ^ 12 by omega) (Nat.pow_le_pow_right (by decide) (by decide))) fun v G3 s3 e3 => ?_⟩
      generalize Rat.divInt (1 + a) (1 + b) = ra at zr pr e3
      have t12 := drew_trans t1 t2
      have hT3 : Num K G3 tv T := (drew_num t1.pool t2 (drew_num rG.pool t1 hT)).same s3
      refine ⟨tv, v, some T, some ra, rfl, hT3, e3.num, ⟨zT.mono (by omega), zr.mono (by decide)⟩, fun tv' G4 s4 e4 => ?_⟩
      have e4 : Rn K G4 tv' (T + ra) := e4
      have rG4 : Drew p G G4 := drew_same (drew_same t12 s3) s4
      have zT' : Sz (1 + 4 * (i + 1)) (T + ra) := (zT.add zr).mono (by omega)
      refine ⟨.ref l, rfl, .inl ⟨rfl, _, .of (rG4.but _ _ nlp hG)⟩, tv', rfl, _, rfl, 4, rfl, p, -4, 4, rfl, rG4.pool, by decide, by decide, by decide, fun sv sq G5 r5 n5 z5 _ => ?_⟩
      have rG5 := drew_trans rG4 r5
      have e5 : Num K G5 tv' (T + ra) := drew_num rG4.pool r5 e4.num
      refine ⟨by show 2 ≤ sizeLine; decide, fun T2 nT2 => ?_⟩
      have hT2 : (upd G5 T2 (.tup [tv', sv])) T2 = some (.tup [tv', sv]) := upd_same
      have sT2 : Same G5 (upd G5 T2 (.tup [tv', sv])) := same_new nT2
      generalize (upd G5 T2 (.tup [tv', sv])) = G6 at hT2 sT2 ⊢
      have rG6 := drew_same rG5 sT2
      have hG6 := sT2 _ _ (rG5.but _ _ nlp hG)
      have al := hAll.len
      refine ⟨l, acc, .ref T2, rfl, rfl, hG6, small1000 (by omega), ?_⟩
      have pcN : PieceAt K G6 (.ref T2) (T + ra, sq) := ⟨T2, tv', sv, rfl, .inl (.inl hT2), e5.same sT2, n5.same sT2⟩
      have b6 : But l G6 (upd G6 l (.lst (acc ++ [.ref T2]))) := but_new
      have hl7 : (upd G6 l (.lst (acc ++ [.ref T2]))) l = some (.lst (acc ++ [.ref T2])) := upd_same
      have r7 : Drew p H (upd G6 l (.lst (acc ++ [.ref T2]))) := drew_upd' (drew_trans rG rG6) nl0 nlp
      generalize (upd G6 l (.lst (acc ++ [.ref T2]))) = G7 at b6 hl7 r7 ⊢
      refine ⟨r7, tv', T + ra, cs ++ [(T + ra, sq)], _, _, rfl, hl7, ?_, ?_, by rw [List.length_append, lcs]; rfl, num_but hG6 b6 (e5.same sT2), ?_, zT'⟩
      · exact (hAll.imp fun _ _ z => piece_but hG6 b6 ((drew_piece rG.pool rG5 z).same sT2)).snoc (piece_but hG6 b6 pcN)
      · refine ⟨by rw [List.length_append]; show 0 < cs.length + 1; omega, by rw [List.length_append]; show cs.length + 1 ≤ 20; omega, ?_, ?_, ?_⟩
        · have z := ok.zero
          cases cs with
          | nil => cases z
          | cons c cs => exact z
        · rw [List.map_append]
          refine List.pairwise_append.mpr ⟨ok.asc, List.pairwise_singleton _ _, fun x hx y hy => ?_⟩
          rw [List.mem_singleton.mp hy]
          obtain ⟨c, hc, rfl⟩ := List.mem_map.mp hx
          have := hle c hc
          show c.1 < T + ra
          grind
        · intro c hc
          rcases List.mem_append.mp hc with h | h
          · exact ok.sz c h
          · rw [List.mem_singleton.mp h]
            exact ⟨zT'.mono (by omega), z5⟩
      · intro c hc
        rcases List.mem_append.mp hc with h | h
        · have := hle c h
          grind
        · rw [List.mem_singleton.mp h]
          exact Rat.le_refl
    · obtain ⟨rG, tv, T, cs, acc, o, rfl, hG, hAll, ok, lcs, _⟩ := hP
      exact ⟨.ref l, rfl, q l cs G rG ⟨l, acc, rfl, hG, hAll⟩ ok (by omega)⟩
end
end LR
set_option Elab.async false
set_option linter.all false
set_option maxRecDepth 100000
set_option maxHeartbeats 4000000
namespace LR
open PySem PySem.Spec PyProof.Rows L2
abbrev sLRace : Stmt := topS 47
theorem scLRace : FnScope ["pool", "many", "runners", "name"] ["pool", "many"] (defScope sLRace) := ⟨rfl, rfl, rfl, by decide +kernel, rfl, by decide +kernel, by decide +kernel⟩
abbrev ns4 : List Str := ["a", "b", "c", "d"]
theorem ns4_ok : ∀ n ∈ ns4, NameOk n := by
  intro n hn
  simp only [List.mem_cons, List.not_mem_nil, or_false] at hn
  rcases hn with rfl | rfl | rfl | rfl
  · exact ⟨by decide, 97, [], by decide +kernel, by decide +kernel, by decide +kernel⟩
  · exact ⟨by decide, 98, [], by decide +kernel, by decide +kernel, by decide +kernel⟩
  · exact ⟨by decide, 99, [], by decide +kernel, by decide +kernel, by decide +kernel⟩
  · exact ⟨by decide, 100, [], by decide +kernel, by decide +kernel, by decide +kernel⟩
theorem ns4_nd : ns4.Nodup := by decide +kernel
def q52 : Rat := ⟨5, 2, by decide, by decide⟩
theorem cut_to (xs : List V) (m : Nat) : cutV xs none (some (m : Int)) = xs.take m := by
  unfold cutV
  rw [HT.sIx_none, HT.sIx_nat]
  simp
/-- a race that was made of valid runners -/
structure Good (L : Rat) (rs : List Rn1) : Prop where
  L0 : 0 < L
  zL : Sz 100 L
  ok : ∀ r ∈ rs, Rn1Ok r
  nd : (rs.map (·.n)).Nodup
  ne : 0 < rs.length
  le : rs.length ≤ 12
section
variable {P : Program} {w : World} {K : PySem.W.Frag} {mg : Str → Option Value} {base : Heap}
theorem pieces_ne {p l : Addr} {G : Hp} {cs : List (Rat × Rat)} (hp : PoolAt G p) (h : PiecesAt K G (.ref l) cs) : l ≠ p := by
  intro e
  obtain ⟨c, s, hp, _⟩ := hp
  obtain ⟨a, xs, e2, ha, hA⟩ := h
  cases e2
  subst e
  rw [hp] at ha
  cases ha
  cases hA with
  | cons h _ =>
    obtain ⟨a, _, _, e, _⟩ := h
    cases e
theorem drew_pieces {p : Addr} {H G : Hp} {v : V} {cs : List (Rat × Rat)} (hp : PoolAt H p) (r : Drew p H G) (h : PiecesAt K H v cs) : PiecesAt K G v cs := by
  obtain ⟨a, xs, rfl, ha, hA⟩ := id h
  exact ⟨a, xs, rfl, r.but _ _ (pieces_ne hp h) ha, hA.imp fun _ _ z => drew_piece hp r z⟩
theorem drew_run {p : Addr} {H G : Hp} {v : V} {q : Rat} {cs : List (Rat × Rat)} (hp : PoolAt H p) (r : Drew p H G) (h : RunAt K H v q cs) : RunAt K G v q cs := by
  obtain ⟨a, vs, vp, rfl, h1, h2, h3⟩ := h
  obtain ⟨_, _, e, _⟩ := id hp
  exact ⟨a, vs, vp, rfl, sqt_but e r.but h1, drew_num hp r h2, drew_pieces hp r h3⟩
def spLRace (K : PySem.W.Frag) (C : Addr) : Sp := fun vs H Q _ => ∃ (p : Addr) (m : Nat), vs = [.ref p, .int m] ∧ PoolAt H p ∧ 1 ≤ m ∧ m ≤ 3 ∧ ∀ v L rs H', Drew p H H' → RaceAt K C H' v L (rs.map (Rn1.tr L)) → Good L rs → rs.length ≤ 3 → (∀ r ∈ rs, r.cs.length ≤ 3) → Q v H'
theorem ok_LRace {f C fN fP fC fI : Addr} {fd dN dP dC dI : FuncData} (D : DefAt K mg "_law_race" sLRace ["pool", "many"] f fd) (DN : DefAt K mg "_law_number" sNum ["pool", "low", "high"] fN dN) (DP : DefAt K mg "_law_pieces" sLPcs ["pool"] fP dP) (DC : DefAt K mg "_law_choose" sChoose ["pool", "items"] fC dC) (MK : Mk K C fI) (mC : mg "Race" = some (.ref C)) (bI : Binds K dI ["self", "length", "runners"] [])
    (GN : FnOk P w K mg base (CXl P w) 3 fN dN ["pool", "low", "high"] (spNum K)) (GP : FnOk P w K mg base (CXl P w) 5 fP dP ["pool"] (spLPcs K)) (GC : FnOk P w K mg base (CXl P w) 2 fC dC ["pool", "items"] (spChoose K)) (GI : FnOk P w K mg base (CXl P w) 7 fI dI ["self", "length", "runners"] (spInit K C)) :
    FnOk P w K mg base (CXl P w) 9 f fd ["pool", "many"] (spLRace K C) := by
  refine D.F.okX scLRace (fun vs H Q E h => ?_) (fun cdv A outer s H vs Q E hr h => ?_)
  · obtain ⟨p, m, rfl, _⟩ := h
    rfl
  · obtain ⟨p, m, rfl, hp, m1, m3, q⟩ := h
    refine ⟨_, pss_cons (ps_set (i := 2) scLRace.nd rfl (.inl rfl) pe_dnewK)
      (pss_cons (ps_for (passes_of rfl) rfl (pi_list (pe_slice sl_list (pe_lst (pa_cons pe_str (pa_cons pe_str (pa_cons pe_str (pa_cons pe_str pa_nil))))) po_none (po_some (pv 1)))) (pg_name (i := 3) scLRace.nd rfl (.inl rfl))
        (pss_one (ps_dput (hu_of hr) (pv 2) (pv 3) (pe_tup (pa_cons (pe_call GN (hr.mono (by decide)) (by rfl) DN.g DN.F.kp DN.b .nil passL (pa_cons (pv 0) (pa_cons (pe_un un_neg pe_int) (pa_cons pe_int pa_nil)))) (pa_cons (pe_call GP (hr.mono (by decide)) (by rfl) DP.g DP.F.kp DP.b .nil passL (pa_cons (pv 0) pa_nil)) pa_nil))) rfl)))
      (pss_one (ps_ret (pe_make MK GI hr rfl mC bI .nil passL (pa_cons (pe_call GC (hr.mono (by decide)) (by rfl) DC.g DC.F.kp DC.b .nil passL (pa_cons (pv 0) (pa_cons (pe_lst (pa_cons pe_int (pa_cons pe_int (pa_cons pe_int (pa_cons (pe_tup (pa_cons pe_int (pa_cons pe_int pa_nil))) (pa_cons pe_int (pa_cons pe_int pa_nil))))))) pa_nil))) (pa_cons (pv 2) pa_nil)))))), ?_⟩
    intro d nd
    have ndp : d ≠ p := fun e => by rw [e] at nd; exact pool_some hp nd
    have r1 : Drew p H (upd H d (.dK [])) := drew_new (drew_refl hp) nd
    have hd1 : (upd H d (.dK [])) d = some (.dK []) := upd_same
    refine ⟨by show 4 ≤ sizeLine; decide, fun W nW => ?_⟩
    have s2 : Same (upd H d (.dK [])) (upd (upd H d (.dK [])) W (.lst ([.str "a", .str "b", .str "c", .str "d"] : List V))) := same_new nW
    have hW : (upd (upd H d (.dK [])) W (.lst ([.str "a", .str "b", .str "c", .str "d"] : List V))) W = some (.lst ([.str "a", .str "b", .str "c", .str "d"] : List V)) := upd_same
    have r2 := drew_same r1 s2
    have hd2 := s2 _ _ hd1
    refine ⟨_, rfl, (m : Int), rfl, W, ([.str "a", .str "b", .str "c", .str "d"] : List V), rfl, .of hW, fun L0 nL0 => ?_⟩
    rw [cut_to]
    have s3 := same_new (o := .lst (([.str "a", .str "b", .str "c", .str "d"] : List V).take m)) nL0
    have hL3 : (upd (upd (upd H d (.dK [])) W (.lst ([.str "a", .str "b", .str "c", .str "d"] : List V))) L0 (.lst (([.str "a", .str "b", .str "c", .str "d"] : List V).take m))) L0 = some (.lst (([.str "a", .str "b", .str "c", .str "d"] : List V).take m)) := upd_same
    have r3 := drew_same r2 s3
    have hd3 := s3 _ _ hd2
    show ∃ l, _
    generalize (upd (upd (upd H d (.dK [])) W (.lst ([.str "a", .str "b", .str "c", .str "d"] : List V))) L0 (.lst (([.str "a", .str "b", .str "c", .str "d"] : List V).take m))) = H3 at s3 hL3 r3 hd3 ⊢
    have nLp : L0 ≠ p := fun e => by rw [e] at nL0; exact pool_some r2.pool nL0
    have nLd : L0 ≠ d := fun e => by
      have z : (upd (upd H d (.dK [])) W (.lst ([.str "a", .str "b", .str "c", .str "d"] : List V))) L0 = none := nL0
      rw [e, hd2] at z
      cases z
    have ntm : ([.str "a", .str "b", .str "c", .str "d"] : List V).take m = (ns4.take m).map V.str := by rw [List.map_take]; rfl
    have ltm : (ns4.take m).length = m := by rw [List.length_take]; show min m 4 = m; omega
    refine ⟨L0, rfl, ⟨_, .of hL3⟩, for_list (xs := ([.str "a", .str "b", .str "c", .str "d"] : List V).take m) (fun i σ G => Drew p H G ∧ G L0 = some (.lst (([.str "a", .str "b", .str "c", .str "d"] : List V).take m)) ∧ ∃ ks rs o, σ = [some (.ref p), some (.int m), some (.ref d), o] ∧ G d = some (.dK ks) ∧ All2 (RnEnt K G) ks rs ∧ rs.map (·.n) = (ns4.take m).take i ∧ (∀ r ∈ rs, Rn1Ok r) ∧ ∀ r ∈ rs, r.cs.length ≤ 3)
      ⟨r3, hL3, [], [], none, rfl, hd3, .nil, rfl, (fun _ h => by cases h), fun _ h => by cases h⟩ (fun i σ G _ hP => .of hP.2.1) (fun i x σ G hx hP => ?_) (fun σ G hP => ?_)⟩
    · obtain ⟨rG, hLG, ks, rs, o, rfl, hdG, hAll, hn, hok, h3⟩ := hP
      rw [ntm, List.getElem?_map] at hx
      obtain ⟨n, hni, rfl⟩ := Option.map_eq_some_iff.mp hx
      have il : i < m := by
        have := (List.getElem?_eq_some_iff.mp hni).1
        rw [ltm] at this
        exact this
      have nm : n ∈ ns4 := List.mem_of_mem_take (List.mem_of_getElem? hni)
      refine ⟨_, rfl, 3, rfl, p, -3, 9, rfl, rG.pool, by decide, by decide, by decide, fun v sq G1 t1 e1 z1 _ => ?_⟩
      refine ⟨_, rfl, p, rfl, t1.pool, fun l cs G2 t2 hcs ok2 l3 => ?_⟩
      have t12 := drew_trans t1 t2
      refine ⟨by show 2 ≤ sizeLine; decide, fun T nT => ?_⟩
      have hT : (upd G2 T (.tup [v, .ref l])) T = some (.tup [v, .ref l]) := upd_same
      have sT : Same G2 (upd G2 T (.tup [v, .ref l])) := same_new nT
      generalize (upd G2 T (.tup [v, .ref l])) = G3 at hT sT ⊢
      have t13 := drew_same t12 sT
      have rG3 := drew_trans rG t13
      have hd3' := t13.but _ _ ndp hdG
      have hE3 : All2 (RnEnt K G3) ks rs := hAll.imp fun _ _ z => ⟨z.1, (drew_run rG.pool t12 z.2).same sT⟩
      have rn : RunAt K G3 (.ref T) sq cs := ⟨T, v, .ref l, rfl, .inl (.inl hT), (drew_num t1.pool t2 e1).same sT, hcs.same sT⟩
      have kl : ks.length ≤ 1000 := by
        have a1 := hAll.len
        have a2 : rs.length = ((ns4.take m).take i).length := by rw [← hn, List.length_map]
        rw [List.length_take, ltm] at a2
        omega
      refine ⟨_, rfl, _, rfl, d, _, rfl, DPut.k (k := Sum.inr n) hd3' (small1000 kl), ?_⟩
      have hnot : valV ks (Sum.inr n : Key) = none := by
        have go : ∀ {ks : List (Key × V)} {rs : List Rn1}, All2 (RnEnt K G3) ks rs → n ∉ rs.map (·.n) → valV ks (Sum.inr n : Key) = none := by
          intro ks rs h
          induction h with
          | nil => intro _; rfl
          | @cons kv r ks rs h1 t ih =>
            intro hn
            have ne : ¬ kv.1 = (Sum.inr n : Key) := fun z => hn (List.mem_map.mpr ⟨r, List.mem_cons_self, Sum.inr.inj (h1.1.symm.trans z)⟩)
            rw [valV_neg ne]
            exact ih fun z => hn (List.mem_cons_of_mem _ z)
        refine go hE3 ?_
        rw [hn]
        intro hm
        obtain ⟨j, hj⟩ := List.mem_iff_getElem?.mp hm
        have hjl : j < i := by
          have := (List.getElem?_eq_some_iff.mp hj).1
          rw [List.length_take] at this
          omega
        rw [List.getElem?_take_of_lt hjl] at hj
        obtain ⟨a1, a2⟩ := List.getElem?_eq_some_iff.mp hni
        obtain ⟨b1, b2⟩ := List.getElem?_eq_some_iff.mp hj
        have ndt : (ns4.take m).Nodup := ns4_nd.sublist (List.take_sublist _ _)
        exact List.pairwise_iff_getElem.mp ndt j i b1 a1 hjl (b2.trans a2.symm)
      rw [putK_new _ hnot]
      have Od := Odd.dk hd3'
      have hd4 : (upd G3 d (.dK (ks ++ [(Sum.inr n, .ref T)]))) d = some (.dK (ks ++ [(Sum.inr n, .ref T)])) := upd_same
      have bd : But d G3 (upd G3 d (.dK (ks ++ [(Sum.inr n, .ref T)]))) := but_new
      have r4 : Drew p H (upd G3 d (.dK (ks ++ [(Sum.inr n, .ref T)]))) := drew_upd' rG3 nd ndp
      generalize (upd G3 d (.dK (ks ++ [(Sum.inr n, .ref T)]))) = G4 at hd4 bd r4 ⊢
      refine ⟨r4, bd _ _ nLd (t13.but _ _ nLp hLG), _, rs ++ [⟨n, sq, cs⟩], _, rfl, hd4, (hE3.imp fun _ _ z => ⟨z.1, Od.run bd z.2⟩).snoc ⟨rfl, Od.run bd rn⟩, ?_, fun r hr' => ?_, fun r hr' => ?_⟩
      · rw [List.map_append, hn, take_snoc hni]
        rfl
      · rcases List.mem_append.mp hr' with h | h
        · exact hok r h
        · rw [List.mem_singleton.mp h]
          exact ⟨ns4_ok n nm, z1.mono (by decide), ok2⟩
      · rcases List.mem_append.mp hr' with h | h
        · exact h3 r h
        · rw [List.mem_singleton.mp h]
          exact l3
    · obtain ⟨rG, hLG, ks, rs, o, rfl, hdG, hAll, hn, hok, h3⟩ := hP
      rw [List.length_take] at hn
      have hn : rs.map (·.n) = ns4.take m := by
        rw [hn]
        exact List.take_of_length_le (by rw [ltm]; show m ≤ min m 4; omega)
      have lrs : rs.length = m := by rw [← List.length_map (f := (·.n)), hn, ltm]
      refine ⟨_, rfl, by show 2 ≤ sizeLine; decide, fun T nT => ?_⟩
      have hT : (upd G T (.tup [.int 5, .int 2])) T = some (.tup [.int 5, .int 2]) := upd_same
      have sT : Same G (upd G T (.tup [.int 5, .int 2])) := same_new nT
      generalize (upd G T (.tup [.int 5, .int 2])) = G1 at hT sT ⊢
      refine ⟨by show 6 ≤ sizeLine; decide, fun M nM => ?_⟩
      have hM : (upd G1 M (.lst [.int 10, .int 7, .int 1, .ref T, .int 12, .int 3])) M = some (.lst [.int 10, .int 7, .int 1, .ref T, .int 12, .int 3]) := upd_same
      have sM : Same G1 (upd G1 M (.lst [.int 10, .int 7, .int 1, .ref T, .int 12, .int 3])) := same_new nM
      have nMp : M ≠ p := fun e => by rw [e] at nM; exact pool_some (drew_same rG sT).pool nM
      generalize (upd G1 M (.lst [.int 10, .int 7, .int 1, .ref T, .int 12, .int 3])) = G2 at hM sM ⊢
      have rG2 := drew_same (drew_same rG sT) sM
      have sG2 := sT.trans sM
      refine ⟨p, M, _, rfl, rG2.pool, .of hM, by show 0 < 6; decide, by show 6 < 1000; decide, fun H' bb => .of (bb _ _ nMp hM), fun x G3 hx t3 => ?_⟩
      have hTT : Rn K G3 (.ref T) q52 := by
        obtain ⟨c5, s5, e5, _⟩ := rG2.pool
        exact rn_but e5 t3.but ⟨T, rfl, .inl (.inl (sM _ _ hT))⟩
      obtain ⟨L, hxL, L0, zL⟩ : ∃ L, Num K G3 x L ∧ 0 < L ∧ Sz 100 L := by
        have gi : ∀ i : Int, 0 < i → i.natAbs < 2 ^ 100 → ∃ L, Num K G3 (.int i) L ∧ 0 < L ∧ Sz 100 L := fun i h0 h1 => ⟨_, num_int i, Rat.intCast_pos.mpr h0, Sz.int (by decide) h1⟩
        simp only [List.mem_cons, List.not_mem_nil, or_false] at hx
        rcases hx with rfl | rfl | rfl | rfl | rfl | rfl
        · exact gi 10 (by decide) (by decide)
        · exact gi 7 (by decide) (by decide)
        · exact gi 1 (by decide) (by decide)
        · exact ⟨q52, hTT.num, num_pos_iff.mp (by decide), by decide, by decide⟩
        · exact gi 12 (by decide) (by decide)
        · exact gi 3 (by decide) (by decide)
      have rG3 := drew_trans rG2 t3
      have hd3' := t3.but _ _ ndp (sG2 _ _ hdG)
      have hE3 : All2 (RnEnt K G3) ks rs := hAll.imp fun _ _ z => ⟨z.1, drew_run rG2.pool t3 (z.2.same sG2)⟩
      refine ⟨_, rfl, fun pr dx nx ndx nex => ?_⟩
      have sI : Same G3 (upd (upd G3 dx (.own pr)) pr (.ins C dx [])) := fun b y e => by rw [upd_ne (ne_of_none e nx), upd_ne (ne_of_none e ndx)]; exact e
      have hI : (upd (upd G3 dx (.own pr)) pr (.ins C dx [])) pr = some (.ins C dx []) := upd_same
      generalize (upd (upd G3 dx (.own pr)) pr (.ins C dx [])) = G4 at sI hI ⊢
      refine ⟨pr, dx, d, x, L, ks, rs, rfl, hI, hxL.same sI, L0, zL, sI _ _ hd3', hE3.imp fun _ _ z => ⟨z.1, z.2.same sI⟩, hok, by rw [hn]; exact ns4_nd.sublist (List.take_sublist _ _), by omega, by omega, fun H' bt hR => ⟨rfl, ?_⟩⟩
      have npr : pr ≠ p := fun e => by rw [e] at nx; exact pool_some rG3.pool nx
      refine q _ L rs H' ?_ hR ⟨L0, zL, hok, by rw [hn]; exact ns4_nd.sublist (List.take_sublist _ _), by omega, by omega⟩ (by omega) h3
      have r5 := drew_same rG3 sI
      refine ⟨fun b y hb e => ?_, ?_⟩
      · have e2 := rG3.but _ _ hb e
        exact bt _ _ (ne_of_none e2 nx) (sI _ _ e2)
      · obtain ⟨c, sd, e, hh⟩ := r5.pool
        exact ⟨c, sd, bt _ _ npr.symm e, hh⟩
end
end LR
set_option Elab.async false
set_option linter.all false
set_option maxRecDepth 100000
set_option maxHeartbeats 4000000
namespace LR
open PySem PySem.Spec PyProof.Rows L2
/-! ### positions, plainly -/
def posGo (t : Rat) : Row → List (Rat × Rat) → Rat
  | r, [] => r.p + r.s * (t - r.b)
  | r, c :: cs => if c.1 ≤ t then posGo t (nextRow r c) cs else r.p + r.s * (t - r.b)
theorem trackGo_b : ∀ (r : Row) (cs : List (Rat × Rat)), (trackGo r cs).map (·.b) = r.b :: cs.map (·.1)
  | _, [] => rfl
  | r, c :: cs => by
    show r.b :: (trackGo (nextRow r c) cs).map (·.b) = _
    rw [trackGo_b (nextRow r c) cs]
    rfl
theorem trackGo_cons : ∀ (r : Row) (cs : List (Rat × Rat)), ∃ tl, trackGo r cs = r :: tl
  | _, [] => ⟨_, rfl⟩
  | _, _ :: _ => ⟨_, rfl⟩
theorem fold_none (t : Rat) : ∀ (rows : List Row) (f : Row), (∀ x ∈ rows, ¬ x.b ≤ t) → rows.foldl (pick t) f = f
  | [], _, _ => rfl
  | r :: rows, f, h => by
    show rows.foldl (pick t) (pick t f r) = f
    rw [show pick t f r = f from if_neg (h r List.mem_cons_self)]
    exact fold_none t rows f fun x hx => h x (List.mem_cons_of_mem _ hx)
abbrev Asc (r : Row) (cs : List (Rat × Rat)) : Prop := (r.b :: cs.map (·.1)).Pairwise (· < ·)
theorem Asc.next {r : Row} {c : Rat × Rat} {cs : List (Rat × Rat)} (h : Asc r (c :: cs)) : Asc (nextRow r c) cs := (List.pairwise_cons.mp h).2
theorem sel_go (t : Rat) : ∀ (cs : List (Rat × Rat)) (r : Row), Asc r cs → r.b ≤ t → (rowSel r (trackGo r cs) t).p + (rowSel r (trackGo r cs) t).s * (t - (rowSel r (trackGo r cs) t).b) = posGo t r cs
  | [], r, _, hb => by
    have e : rowSel r (trackGo r []) t = r := by
      show pick t r r = r
      exact if_pos hb
    rw [e]
    rfl
  | c :: cs, r, ha, hb => by
    have e : rowSel r (trackGo r (c :: cs)) t = (trackGo (nextRow r c) cs).foldl (pick t) r := by
      show (trackGo (nextRow r c) cs).foldl (pick t) (pick t r r) = _
      rw [show pick t r r = r from if_pos hb]
    show _ = if c.1 ≤ t then _ else _
    by_cases h : c.1 ≤ t
    · rw [if_pos h, ← sel_go t cs (nextRow r c) ha.next h]
      have e2 : rowSel r (trackGo r (c :: cs)) t = rowSel (nextRow r c) (trackGo (nextRow r c) cs) t := by
        rw [e]
        obtain ⟨tl, et⟩ := trackGo_cons (nextRow r c) cs
        rw [et]
        show tl.foldl (pick t) (pick t r (nextRow r c)) = tl.foldl (pick t) (pick t (nextRow r c) (nextRow r c))
        rw [show pick t r (nextRow r c) = nextRow r c from if_pos h, show pick t (nextRow r c) (nextRow r c) = nextRow r c from if_pos h]
      rw [e2]
    · rw [if_neg h]
      have e2 : rowSel r (trackGo r (c :: cs)) t = r := by
        rw [e]
        refine fold_none t _ _ fun x hx hxt => ?_
        have hm : x.b ∈ (trackGo (nextRow r c) cs).map (·.b) := List.mem_map.mpr ⟨x, hx, rfl⟩
        rw [trackGo_b] at hm
        have hn := List.pairwise_cons.mp ha.next
        rcases List.mem_cons.mp hm with h2 | h2
        · rw [h2] at hxt
          exact h hxt
        · have h3 := hn.1 _ h2
          have h4 : (nextRow r c).b = c.1 := rfl
          rw [h4] at h3
          grind
      rw [e2]
theorem posAt_go {r : Row} {cs : List (Rat × Rat)} {t : Rat} (ha : Asc r cs) (hb : r.b ≤ t) : posAt (trackGo r cs) t = posGo t r cs := by
  obtain ⟨tl, e⟩ := trackGo_cons r cs
  have := sel_go t cs r ha hb
  rw [e] at this ⊢
  exact this
/-- where the next piece begins at t or later -/
theorem posGo_le {t : Rat} {r : Row} {cs : List (Rat × Rat)} (ha : Asc r cs) (hb : r.b ≤ t) (h : ∀ c cs', cs = c :: cs' → ¬ c.1 < t) : posGo t r cs = r.p + r.s * (t - r.b) := by
  cases cs with
  | nil => rfl
  | cons c cs =>
    have h1 := h c cs rfl
    show (if c.1 ≤ t then _ else _) = _
    by_cases h2 : c.1 ≤ t
    · rw [if_pos h2]
      have e : c.1 = t := by grind
      cases cs with
      | nil =>
        show r.p + r.s * (c.1 - r.b) + c.2 * (t - c.1) = _
        rw [e]
        grind
      | cons d cs =>
        have hd : ¬ d.1 ≤ t := by
          have := (List.pairwise_cons.mp ha.next).1 d.1 List.mem_cons_self
          have h4 : (nextRow r c).b = c.1 := rfl
          rw [h4] at this
          grind
        show (if d.1 ≤ t then _ else _) = _
        rw [if_neg hd]
        show r.p + r.s * (c.1 - r.b) + c.2 * (t - c.1) = _
        rw [e]
        grind
    · rw [if_neg h2]
theorem cmp_lt (p q : Rat) : decide (cmpR p q < 0) = decide (p < q) := by
  unfold cmpR
  by_cases h : p < q
  · rw [if_pos h, decide_eq_true h]
    rfl
  · rw [if_neg h, decide_eq_false h]
    by_cases h2 : q < p
    · rw [if_pos h2]
      rfl
    · rw [if_neg h2]
      rfl
/-! ### what holds of a good race -/
theorem trk_go {s0 : Rat} {cs : List (Rat × Rat)} (h : 0 < cs.length) : ∃ c cs', cs = c :: cs' ∧ trk s0 cs = trackGo ⟨0, c.2, s0⟩ cs' := by
  cases cs with
  | nil => exact absurd h (by simp)
  | cons c cs' => exact ⟨c, cs', rfl, rfl⟩
theorem pcs_asc {cs cs' : List (Rat × Rat)} {c : Rat × Rat} {s0 : Rat} (ok : PcsOk cs) (e : cs = c :: cs') : Asc ⟨0, c.2, s0⟩ cs' := by
  subst e
  have z : c.1 = 0 := by
    have := ok.zero
    exact Option.some.inj this
  have a := ok.asc
  rw [List.map_cons, z] at a
  exact a
theorem Good.tr {L : Rat} {rs : List Rn1} (g : Good L rs) : TrOk (rs.map (Rn1.tr L)) := by
  refine ⟨?_, fun e he => ?_, fun e he r hr => ?_⟩
  · rw [List.map_map]
    exact g.nd
  · obtain ⟨r, hr, rfl⟩ := List.mem_map.mp he
    obtain ⟨c, cs', _, e2⟩ := trk_go (s0 := rem r.q L) (g.ok r hr).pc.ne
    obtain ⟨tl, e3⟩ := trackGo_cons ⟨0, c.2, rem r.q L⟩ cs'
    exact ⟨_, tl, e2.trans e3, rfl⟩
  · obtain ⟨r1, hr1, rfl⟩ := List.mem_map.mp he
    have o := g.ok r1 hr1
    obtain ⟨c, cs', e1, e2⟩ := trk_go (s0 := rem r1.q L) o.pc.ne
    have hr : r ∈ trk (rem r1.q L) r1.cs := hr
    rw [e2] at hr
    obtain ⟨i, hi⟩ := List.mem_iff_getElem?.mp hr
    have il := (List.getElem?_eq_some_iff.mp hi).1
    rw [trackGo_len] at il
    have ll := o.pc.le
    rw [e1, List.length_cons] at ll
    obtain ⟨a1, a2, a3⟩ := trackGo_sz (m := 200) (Sz.int (n := 0) (by decide) (by decide)) ((o.pc.sz c (by rw [e1]; exact List.mem_cons_self)).2) ((o.sz.rem g.zL g.L0).mono (by decide)) (fun d hd => o.pc.sz d (by rw [e1]; exact List.mem_cons_of_mem _ hd)) hi
    exact ⟨a1, a2, a3.mono (by omega)⟩
theorem Good.nn {L : Rat} {rs : List Rn1} (g : Good L rs) : ∀ e ∈ rs.map (Rn1.tr L), ∀ r ∈ e.2, 0 ≤ r.b := by
  intro e he r hr
  obtain ⟨r1, hr1, rfl⟩ := List.mem_map.mp he
  have o := g.ok r1 hr1
  obtain ⟨c, cs', e1, e2⟩ := trk_go (s0 := rem r1.q L) o.pc.ne
  have hr : r ∈ trk (rem r1.q L) r1.cs := hr
  rw [e2] at hr
  have hm : r.b ∈ (trackGo ⟨0, c.2, rem r1.q L⟩ cs').map (·.b) := List.mem_map.mpr ⟨r, hr, rfl⟩
  rw [trackGo_b] at hm
  have a := pcs_asc (s0 := rem r1.q L) o.pc e1
  rcases List.mem_cons.mp hm with h | h
  · rw [h]
    exact Rat.le_refl
  · exact Rat.le_of_lt ((List.pairwise_cons.mp a).1 _ h)
theorem trk_len {s0 : Rat} {cs : List (Rat × Rat)} (h : 0 < cs.length) : (trk s0 cs).length = cs.length := by
  obtain ⟨c, cs', e1, e2⟩ := trk_go (s0 := s0) h
  rw [e2, trackGo_len, e1]
  rfl
end LR
set_option Elab.async false
set_option linter.all false
set_option maxRecDepth 100000
set_option maxHeartbeats 4000000
namespace LR
open PySem PySem.Spec PyProof.Rows L2
abbrev sLine : Stmt := topS 48
theorem scLine : FnScope ["race", "name", "time", "start", "pieces", "found", "at", "stop"] ["race", "name", "time"] (defScope sLine) := ⟨rfl, rfl, rfl, by decide +kernel, rfl, by decide +kernel, by decide +kernel⟩
theorem with_cont4 {D : Ends} {S : V → Hp → Prop} {l : V → L2.St} {g : Prop} (main : (∀ x h, S x h → tNext D (l x) h) → g) (cont : ∀ x h, S x h → tNext D (l x) h) : g := main cont
section
variable {P : Program} {w : World} {K : PySem.W.Frag} {mg : Str → Option Value} {base : Heap}
def spLine (K : PySem.W.Frag) (C : Addr) : Sp := fun vs H Q _ => ∃ (v x : V) (r1 : Rn1) (L : Rat) (rs : List Rn1) (t : Rat), vs = [v, .str r1.n, x] ∧ RaceAt K C H v L (rs.map (Rn1.tr L)) ∧ Good L rs ∧ r1 ∈ rs ∧ Num K H x t ∧ Sz 300 t ∧ 0 ≤ t ∧ ∀ y H', Same H H' → Rn K H' y (posAt (trk (rem r1.q L) r1.cs) t) → Q y H'
theorem ok_Line {f C fS fP fC fL fT fM CN : Addr} {fd dS dP dC dL dT dM : FuncData} (D : DefAt K mg "_law_line" sLine ["race", "name", "time"] f fd) (T : RaceT K C) (MS : Meth K C "start" fS) (bS : Binds K dS ["self", "name"] []) (MP : Meth K C "pieces" fP) (bP : Binds K dP ["self", "name"] []) (DC : DefAt K mg "compare" s_compare ["first", "second"] fC dC) (DL : DefAt K mg "plus" s_plus ["first", "second"] fL dL) (DT : DefAt K mg "times" s_times ["first", "second"] fT dT) (DM : DefAt K mg "minus" s_minus ["first", "second"] fM dM) (ml : mg "len" = none)
    (GS : FnOk P w K mg base (CXl P w) 3 fS dS ["self", "name"] (spStart K C)) (GP : FnOk P w K mg base (CXl P w) 3 fP dP ["self", "name"] (spPcs K C)) (GC : FnOk P w K mg base (CXl P w) 4 fC dC ["first", "second"] (sp_compare K CN)) (GL : FnOk P w K mg base (CXl P w) 4 fL dL ["first", "second"] (sp_plus K CN)) (GT : FnOk P w K mg base (CXl P w) 4 fT dT ["first", "second"] (sp_times K CN)) (GM : FnOk P w K mg base (CXl P w) 4 fM dM ["first", "second"] (sp_minus K CN)) :
    FnOk P w K mg base (CXl P w) 5 f fd ["race", "name", "time"] (spLine K C) := by
  refine D.F.okX scLine (fun vs H Q E h => ?_) (fun cdv A outer s H vs Q E hr h => ?_)
  · obtain ⟨v, x, r1, L, rs, t, rfl, _⟩ := h
    rfl
  · obtain ⟨v, x, r1, L, rs, t, rfl, hR, g, hm, hx, zt, t0, q⟩ := h
    refine ⟨_, pss_cons (ps_par (i := 3) (j := 4) rfl scLine.nd rfl rfl (by decide) rfl rfl (pa_cons (pe_meth (pv 0) T.cl MS GS (hr.mono (by decide)) bS .nil passL (pa_cons (pv 1) pa_nil)) (pa_cons (pe_meth (pv 0) T.cl MP GP (hr.mono (by decide)) bP .nil passL (pa_cons (pv 1) pa_nil)) pa_nil)) (by rfl))
      (pss_cons (ps_par (i := 5) (j := 6) rfl scLine.nd rfl rfl (by decide) rfl rfl (pa_cons (pv 3) (pa_cons pe_int pa_nil)) (by rfl))
      (pss_cons (ps_while (passes_of rfl) (PW.pt (pw_and (pt_cmpR op_lt (pv 6) (pe_callB call_len_seq (by rfl) ml PySem.boot_len (pa_cons (pv 4) pa_nil)) (nomark _)) (pw_and1 (pt_cmpR op_lt (pe_call GC hr (by rfl) DC.g DC.F.kp DC.b .nil passL (pa_cons (pe_ix (r := rIxT K) ix_tup (pe_ix (r := rIxL K) ix_list (pv 4) (pv 6) (fun _ _ => rfl)) pe_int (fun _ _ => rfl)) (pa_cons (pv 2) pa_nil))) pe_int (nomark _)))))
        (pss_cons (ps_set (i := 7) scLine.nd rfl (.inl rfl) (pv 2))
        (pss_cons (ps_if (PW.pt (pw_and (pt_cmpR op_lt (pe_op op_add (pv 6) pe_int) (pe_callB call_len_seq (by rfl) ml PySem.boot_len (pa_cons (pv 4) pa_nil)) (nomark _)) (pw_and1 (pt_cmpR op_lt (pe_call GC hr (by rfl) DC.g DC.F.kp DC.b .nil passL (pa_cons (pe_ix (r := rIxT K) ix_tup (pe_ix (r := rIxL K) ix_list (pv 4) (pe_op op_add (pv 6) pe_int) (fun _ _ => rfl)) pe_int (fun _ _ => rfl)) (pa_cons (pv 2) pa_nil))) pe_int (nomark _)))))
          (pss_one (ps_set (i := 7) scLine.nd rfl (.inl rfl) (pe_ix (r := rIxT K) ix_tup (pe_ix (r := rIxL K) ix_list (pv 4) (pe_op op_add (pv 6) pe_int) (fun _ _ => rfl)) pe_int (fun _ _ => rfl)))) pss_nil)
        (pss_cons (ps_set (i := 5) scLine.nd rfl (.inl rfl) (pe_call GL hr (by rfl) DL.g DL.F.kp DL.b .nil passL (pa_cons (pv 5) (pa_cons (pe_call GT hr (by rfl) DT.g DT.F.kp DT.b .nil passL (pa_cons (pe_ix (r := rIxT K) ix_tup (pe_ix (r := rIxL K) ix_list (pv 4) (pv 6) (fun _ _ => rfl)) pe_int (fun _ _ => rfl)) (pa_cons (pe_call GM hr (by rfl) DM.g DM.F.kp DM.b .nil passL (pa_cons (pv 7) (pa_cons (pe_ix (r := rIxT K) ix_tup (pe_ix (r := rIxL K) ix_list (pv 4) (pv 6) (fun _ _ => rfl)) pe_int (fun _ _ => rfl)) pa_nil))) pa_nil))) pa_nil))))
        (pss_one (ps_set (i := 6) scLine.nd rfl (.inl rfl) (pe_op op_add (pv 6) pe_int)))))))
      (pss_one (ps_ret (pv 5))))), ?_⟩
    have o := g.ok r1 hm
    obtain ⟨c0, cs0, e1, e2⟩ := trk_go (s0 := rem r1.q L) o.pc.ne
    have asc := pcs_asc (s0 := rem r1.q L) o.pc e1
    have hmem : (r1.n, trk (rem r1.q L) r1.cs) ∈ rs.map (Rn1.tr L) := List.mem_map.mpr ⟨r1, hm, rfl⟩
    have sz := g.tr.sz _ hmem
    have lrows : (trk (rem r1.q L) r1.cs).length ≤ 20 := by rw [trk_len o.pc.ne]; exact o.pc.le
    rw [e2] at q hmem sz lrows
    rw [posAt_go asc t0] at q
    obtain ⟨tl, etl⟩ := trackGo_cons ⟨0, c0.2, rem r1.q L⟩ cs0
    obtain ⟨p, dx, vL, vT, rfl, hp, hrest⟩ := id hR
    refine ⟨_, rfl, p, dx, _, rfl, hp, rl_no _ _ (by decide +kernel) (by decide +kernel), _, rfl, .ref p, r1.n, L, _, ⟨0, c0.2, rem r1.q L⟩, tl, rfl, hR, g.tr, by rw [← etl]; exact hmem, fun sv hsv => ?_⟩
    refine ⟨_, rfl, p, dx, _, rfl, hp, rl_no _ _ (by decide +kernel) (by decide +kernel), _, rfl, .ref p, r1.n, L, _, _, rfl, hR, g.tr, hmem, lrows, fun l H1 s1 hpc => ⟨_, _, rfl, ?_⟩⟩
    refine ⟨_, rfl, _, _, rfl, ?_⟩
    obtain ⟨l', xs, e3, hl, hA⟩ := hpc
    cases e3
    have hx1 := hx.same s1
    have hsv1 : Rn K H1 sv (rem r1.q L) := hsv.same s1
    generalize hrows : trackGo ⟨0, c0.2, rem r1.q L⟩ cs0 = rows at *
    have lA := hA.len
    rw [List.length_map] at lA
    have z0 : Sz 300 t := zt
    refine ⟨fun m σ G => ∃ k fv F o, m = rows.length - k ∧ k ≤ rows.length ∧ σ = [some (.ref p), some (.str r1.n), some x, some sv, some (.ref l), some fv, some (.int (k : Nat)), o] ∧ Same H1 G ∧ Rn K G fv F ∧
      ((∃ r cs', rows.drop k = trackGo r cs' ∧ F = r.p ∧ r.b ≤ t ∧ Asc r cs' ∧ posGo t r cs' = posGo t ⟨0, c0.2, rem r1.q L⟩ cs0) ∨ (F = posGo t ⟨0, c0.2, rem r1.q L⟩ cs0 ∧ ∀ y, rows[k]? = some y → ¬ y.b < t)),
      ⟨rows.length - 0, 0, sv, rem r1.q L, none, rfl, Nat.zero_le _, rfl, Same.refl _, hsv1, .inl ⟨⟨0, c0.2, rem r1.q L⟩, cs0, hrows.symm, rfl, t0, asc, rfl⟩⟩, ?_⟩
    rintro m σ G ⟨k, fv, F, o, rfl, hk, rfl, sm, hF, st⟩
    have hlG := sm _ _ hl
    have hxG := hx1.same sm
    have exit : ∀ G', Same G G' → F = posGo t ⟨0, c0.2, rem r1.q L⟩ cs0 → Q fv G' := fun G' s' e => q fv G' ((s1.trans sm).trans s') (by rw [← e]; exact hF.same s')
    by_cases hkl : k < rows.length
    · have hkx : k < xs.length := by omega
      obtain ⟨c', hc', pc⟩ := hA.get (List.getElem?_eq_getElem hkx)
      rw [List.getElem?_map, List.getElem?_eq_getElem hkl] at hc'
      have ec' : c' = (rows[k].b, rows[k].s) := (Option.some.inj hc').symm
      subst ec'
      obtain ⟨b, vt, vs, exk, ht, hn1, hn2⟩ := pc.same sm
      have hxk : xs[k]? = some (.ref b) := by rw [List.getElem?_eq_getElem hkx, exk]
      obtain ⟨zb, zs, zp⟩ := sz _ (List.getElem_mem hkl)
      refine ⟨_, rfl, _, rfl, l, xs, rfl, .inl (.of hlG), _, _, rfl, rfl, _, rfl, ite2 (fun _ => ?_) (fun e => absurd (decide_eq_true (show (k : Int) < (xs.length : Int) by omega)) e)⟩
      refine ⟨_, rfl, _, rfl, l, xs, (k : Int), .ref b, rfl, rfl, .of hlG, atI_nat hxk, b, _, 0, vt, rfl, rfl, ht, atI_nat (j := 0) rfl, x, rfl, vt, x, some rows[k].b, some t, rfl, hn1, hxG, ⟨zb.mono (by decide), zt.mono (by decide)⟩, fun G1 s2 => ⟨_, _, rfl, rfl, _, rfl, ?_⟩⟩
      rw [cmp_lt]
      by_cases hb : rows[k].b < t
      · rw [decide_eq_true hb]
        rcases st with ⟨r, cs', hdrop, hFr, hrt, hasc, hgo⟩ | ⟨_, hn⟩
        rotate_left
        · exact absurd hb (hn _ (List.getElem?_eq_getElem hkl))
        obtain ⟨tl2, et2⟩ := trackGo_cons r cs'
        have hrk : rows[k] = r := by
          have e := List.getElem?_drop (xs := rows) (i := k) (j := 0)
          rw [hdrop, et2, Nat.add_zero, List.getElem?_eq_getElem hkl] at e
          exact (Option.some.inj e).symm
        rw [hrk] at hb hn1 hn2 zb zs zp
        have zp' : Sz 1100 r.p := zp
        refine iteT ⟨fun σ' H' => ∃ m', m' < rows.length - k ∧ (∃ k fv F o, m' = rows.length - k ∧ k ≤ rows.length ∧ σ' = [some (.ref p), some (.str r1.n), some x, some sv, some (.ref l), some fv, some (.int (k : Nat)), o] ∧ Same H1 H' ∧ Rn K H' fv F ∧
          ((∃ r cs', rows.drop k = trackGo r cs' ∧ F = r.p ∧ r.b ≤ t ∧ Asc r cs' ∧ posGo t r cs' = posGo t ⟨0, c0.2, rem r1.q L⟩ cs0) ∨ (F = posGo t ⟨0, c0.2, rem r1.q L⟩ cs0 ∧ ∀ y, rows[k]? = some y → ¬ y.b < t))), fun _ _ h => h, ?_⟩
        refine ⟨_, rfl, ?_⟩
        have sm1 := sm.trans s2
        have hl1 := s2 _ _ hlG
        have hx2 := hxG.same s2
        have next : ∀ c cs'', cs' = c :: cs'' → rows[k + 1]? = some (nextRow r c) := fun c cs'' e => by
          have e4 := List.getElem?_drop (xs := rows) (i := k) (j := 1)
          rw [hdrop, e] at e4
          rw [← e4]
          exact trackGo_zero _ _
        apply with_cont4 (S := fun vS G' => Same G1 G' ∧ ∃ T', Num K G' vS T' ∧ Sz 300 T' ∧ ((∃ c cs'', cs' = c :: cs'' ∧ c.1 < t ∧ T' = c.1) ∨ (T' = t ∧ ∀ c cs'', cs' = c :: cs'' → ¬ c.1 < t))) (l := fun vS => [some (.ref p), some (.str r1.n), some x, some sv, some (.ref l), some fv, some (.int (k : Nat)), some vS])
        · intro cont
          refine ⟨_, rfl, _, 1, rfl, rfl, _, rfl, l, xs, rfl, .inl (.of hl1), _, _, rfl, rfl, _, rfl, ?_⟩
          cases hcs : cs' with
          | nil =>
            have el : rows.length = k + 1 := by
              have := congrArg List.length hdrop
              rw [List.length_drop, hcs] at this
              have e5 : (trackGo r []).length = 1 := rfl
              omega
            refine ite2 (fun e => absurd (of_decide_eq_true e) (by omega)) (fun _ => iteF (cont x G1 ⟨Same.refl _, t, hx2, zt, .inr ⟨rfl, fun c cs'' e => by rw [hcs] at e; cases e⟩⟩))
          | cons c cs'' =>
            have hnx := next c cs'' hcs
            have hk1 : k + 1 < rows.length := (List.getElem?_eq_some_iff.mp hnx).1
            have hkx1 : k + 1 < xs.length := by omega
            obtain ⟨c2, hc2, pc2⟩ := hA.get (List.getElem?_eq_getElem hkx1)
            rw [List.getElem?_map, hnx] at hc2
            have ec2 : c2 = ((nextRow r c).b, (nextRow r c).s) := (Option.some.inj hc2).symm
            subst ec2
            obtain ⟨b2, vt2, vs2, exk2, ht2, hm1, hm2⟩ := pc2.same sm1
            have hxk2 : xs[k + 1]? = some (.ref b2) := by rw [List.getElem?_eq_getElem hkx1, exk2]
            have hm1 : Num K G1 vt2 c.1 := hm1
            obtain ⟨yb, _, _⟩ := sz _ (List.mem_of_getElem? hnx)
            have yb : Sz 12 c.1 := yb
            have hat : atI xs ((k : Int) + 1) = some (.ref b2) := atI_nat (j := k + 1) hxk2
            refine ite2 (fun _ => ?_) (fun e => absurd (decide_eq_true (show (k : Int) + 1 < (xs.length : Int) by omega)) e)
            refine ⟨_, rfl, _, rfl, _, 1, rfl, rfl, l, xs, _, .ref b2, rfl, rfl, .of hl1, hat, b2, _, 0, vt2, rfl, rfl, ht2, atI_nat (j := 0) rfl, x, rfl, vt2, x, some c.1, some t, rfl, hm1, hx2, ⟨yb.mono (by decide), zt.mono (by decide)⟩, fun G2 s3 => ⟨_, _, rfl, rfl, _, rfl, ?_⟩⟩
            rw [cmp_lt]
            by_cases hct : c.1 < t
            · rw [decide_eq_true hct]
              refine iteT ⟨_, rfl, _, rfl, _, 1, rfl, rfl, l, xs, _, .ref b2, rfl, rfl, .of (s3 _ _ hl1), hat, b2, _, 0, vt2, rfl, rfl, same_sqt s3 ht2, atI_nat (j := 0) rfl, cont vt2 G2 ⟨s3, c.1, hm1.same s3, yb.mono (by decide), .inl ⟨c, cs'', hcs, hct, rfl⟩⟩⟩
            · rw [decide_eq_false hct]
              exact iteF (cont x G2 ⟨s3, t, hx2.same s3, zt, .inr ⟨rfl, fun c' cs3 e => by rw [hcs] at e; cases e; exact hct⟩⟩)
        intro vS G2 hS
        obtain ⟨s3, T', hT', zT', cse⟩ := hS
        have sm2 := sm1.trans s3
        have s23 := s2.trans s3
        have hl2 := s3 _ _ hl1
        refine ⟨_, rfl, _, rfl, _, rfl, l, xs, (k : Int), .ref b, rfl, rfl, .of hl2, atI_nat hxk, b, _, 1, vs, rfl, rfl, same_sqt s23 ht, atI_nat (j := 1) rfl, _, rfl, _, rfl, _, rfl, l, xs, (k : Int), .ref b, rfl, rfl, .of hl2, atI_nat hxk, b, _, 0, vt, rfl, rfl, same_sqt s23 ht, atI_nat (j := 0) rfl, ?_⟩
        refine ⟨vS, vt, some T', some r.b, rfl, hT', hn1.same s23, ⟨zT'.mono (by decide), zb.mono (by decide)⟩, fun m1 G3 s4 e4 => ?_⟩
        refine ⟨vs, m1, some r.s, some (T' - r.b), rfl, hn2.same (s23.trans s4), e4.num, ⟨zs.mono (by decide), (zT'.sub zb).mono (by decide)⟩, fun m2 G4 s5 e5 => ?_⟩
        rw [hFr] at hF
        refine ⟨fv, m2, some r.p, some (r.s * (T' - r.b)), rfl, (hF.same ((s23.trans s4).trans s5)).num, e5.num, ⟨zp'.mono (by decide), (zs.mul (zT'.sub zb)).mono (by decide)⟩, fun fv' G5 s6 e6 => ?_⟩
        refine ⟨_, rfl, _, 1, rfl, rfl, ?_⟩
        refine ⟨rows.length - (k + 1), by omega, k + 1, fv', r.p + r.s * (T' - r.b), some vS, rfl, by omega, rfl, ((sm2.trans s4).trans s5).trans s6, e6, ?_⟩
        rcases cse with ⟨c, cs'', ecs, hct, rfl⟩ | ⟨rfl, hno⟩
        · refine .inl ⟨nextRow r c, cs'', ?_, rfl, Rat.le_of_lt hct, ?_, ?_⟩
          · rw [← List.tail_drop, hdrop, ecs]
            rfl
          · rw [ecs] at hasc
            exact hasc.next
          · rw [← hgo, ecs]
            exact (if_pos (Rat.le_of_lt hct)).symm
        · refine .inr ⟨by rw [← hgo, posGo_le hasc hrt hno], fun y hy hyt => ?_⟩
          cases hcs : cs' with
          | nil =>
            have := congrArg List.length hdrop
            rw [List.length_drop, hcs] at this
            have e5 : (trackGo r []).length = 1 := rfl
            have := (List.getElem?_eq_some_iff.mp hy).1
            omega
          | cons c cs'' =>
            rw [next c cs'' hcs] at hy
            have ey := Option.some.inj hy
            rw [← ey] at hyt
            exact hno c cs'' hcs hyt
      · rw [decide_eq_false hb]
        refine iteF ⟨_, rfl, exit G1 s2 ?_⟩
        rcases st with ⟨r, cs', hdrop, hFr, hrt, hasc, hgo⟩ | ⟨e, _⟩
        · obtain ⟨tl2, et2⟩ := trackGo_cons r cs'
          have hrk : rows[k] = r := by
            have e := List.getElem?_drop (xs := rows) (i := k) (j := 0)
            rw [hdrop, et2, Nat.add_zero, List.getElem?_eq_getElem hkl] at e
            exact (Option.some.inj e).symm
          rw [hrk] at hb
          have ebt : r.b = t := by grind
          rw [hFr, ← hgo, posGo_le hasc hrt fun c cs'' e => by
            have := (List.pairwise_cons.mp hasc).1 c.1 (by rw [e]; exact List.mem_cons_self)
            grind, ebt]
          grind
        · exact e
    · refine ⟨_, rfl, _, rfl, l, xs, rfl, .inl (.of hlG), _, _, rfl, rfl, _, rfl, ite2 (fun e => absurd (of_decide_eq_true e) (by omega)) (fun _ => iteF ⟨_, rfl, exit G (Same.refl _) ?_⟩)⟩
      rcases st with ⟨r, cs', hdrop, _⟩ | ⟨e, _⟩
      · obtain ⟨tl2, et2⟩ := trackGo_cons r cs'
        have := congrArg List.length hdrop
        rw [List.length_drop, et2, List.length_cons] at this
        omega
      · exact e
end
end LR
set_option Elab.async false
set_option linter.all false
set_option maxRecDepth 100000
set_option maxHeartbeats 8000000
namespace LR
open PySem PySem.Spec PyProof.Rows L2
abbrev sLaw : Stmt := topS 49
abbrev NL : List Str := ["script", "k", "pool", "race", "pieces", "moments", "moment", "name", "position", "place", "laps", "at"]
theorem scLaw : FnScope NL ["script"] (defScope sLaw) := ⟨rfl, rfl, rfl, by decide +kernel, rfl, by decide +kernel, by decide +kernel⟩
section
variable {P : Program} {w : World} {K : PySem.W.Frag} {mg : Str → Option Value} {base : Heap}
def spLaw (K : PySem.W.Frag) : Sp := fun vs H Q _ => ∃ (a : Addr) (ns : List Int), vs = [.ref a] ∧ SqL K H a (ns.map V.int) ∧ ns.length ≤ 63 ∧ (∀ H', Same H H' → SqL K H' a (ns.map V.int)) ∧ ∀ H', Same H H' → Q (.bl true) H'
/-- the methods and defs that the law calls -/
structure LT (P : Program) (w : World) (K : PySem.W.Frag) (mg : Str → Option Value) (base : Heap) (C CN C2 pL fL fPo fDr fNu fRa fLi fNm fCh fPs fPl fLa fSt fI fR fPlus fTm fCo : Addr) (dL dPo dDr dNu dRa dLi dNm dCh dPs dPl dLa dSt dI dR dPlus dTm dCo : FuncData) : Prop where
  T : RaceT K C
  DPo : DefAt K mg "_law_pool" sPool ["script", "k"] fPo dPo
  GPo : FnOk P w K mg base (CXl P w) 1 fPo dPo ["script", "k"] (spPool K)
  DDr : DefAt K mg "_law_draw" sDraw ["pool", "many"] fDr dDr
  GDr : FnOk P w K mg base (CXl P w) 1 fDr dDr ["pool", "many"] spDraw
  DNu : DefAt K mg "_law_number" sNum ["pool", "low", "high"] fNu dNu
  GNu : FnOk P w K mg base (CXl P w) 3 fNu dNu ["pool", "low", "high"] (spNum K)
  DRa : DefAt K mg "_law_race" sLRace ["pool", "many"] fRa dRa
  GRa : FnOk P w K mg base (CXl P w) 9 fRa dRa ["pool", "many"] (spLRace K C)
  DLi : DefAt K mg "_law_line" sLine ["race", "name", "time"] fLi dLi
  GLi : FnOk P w K mg base (CXl P w) 5 fLi dLi ["race", "name", "time"] (spLine K C)
  PLe : PropOf K C "length" pL fL
  GLe : FnOk P w K mg base (CXl P w) 1 fL dL ["self"] (spLen K C)
  bLe : Binds K dL ["self"] []
  MNm : Meth K C "names" fNm
  GNm : FnOk P w K mg base (CXl P w) 1 fNm dNm ["self"] (spNames K C)
  bNm : Binds K dNm ["self"] []
  MCh : Meth K C "change_times" fCh
  GCh : FnOk P w K mg base (CXl P w) 5 fCh dCh ["self"] (spChg K C)
  bCh : Binds K dCh ["self"] []
  MPs : Meth K C "position" fPs
  GPs : FnOk P w K mg base (CXl P w) 6 fPs dPs ["self", "name", "time"] (spPos K C)
  bPs : Binds K dPs ["self", "name", "time"] []
  MPl : Meth K C "place" fPl
  GPl : FnOk P w K mg base (CXl P w) 7 fPl dPl ["self", "name", "time"] (spPlace K C)
  bPl : Binds K dPl ["self", "name", "time"] []
  MLa : Meth K C "laps" fLa
  GLa : FnOk P w K mg base (CXl P w) 7 fLa dLa ["self", "name", "time"] (spLaps K C)
  bLa : Binds K dLa ["self", "name", "time"] []
  MSt : Meth K C "start" fSt
  GSt : FnOk P w K mg base (CXl P w) 3 fSt dSt ["self", "name"] (spStart K C)
  bSt : Binds K dSt ["self", "name"] []
  MK : Mk K C fI
  mC : mg "Race" = some (.ref C)
  GI : FnOk P w K mg base (CXl P w) 7 fI dI ["self", "length", "runners"] (spInit K C)
  bI : Binds K dI ["self", "length", "runners"] []
  DR : DefD K mg "ratio" sRatio ["numerator", "denominator"] [.int 1] fR dR
  GR : FnOk P w K mg base (CXl P w) 2 fR dR ["numerator", "denominator"] (spRatio K CN C2)
  DPlus : DefAt K mg "plus" s_plus ["first", "second"] fPlus dPlus
  GPlus : FnOk P w K mg base (CXl P w) 4 fPlus dPlus ["first", "second"] (sp_plus K CN)
  DTm : DefAt K mg "times" s_times ["first", "second"] fTm dTm
  GTm : FnOk P w K mg base (CXl P w) 4 fTm dTm ["first", "second"] (sp_times K CN)
  DCo : DefAt K mg "compare" s_compare ["first", "second"] fCo dCo
  GCo : FnOk P w K mg base (CXl P w) 4 fCo dCo ["first", "second"] (sp_compare K CN)
  mrg : mg "range" = none
  ml : mg "len" = none
  mmx : mg "max" = none
  mmn : mg "min" = none
  mls : mg "list" = none
  mi : mg "isinstance" = none
  mtu : mg "tuple" = none
--PRE
theorem with_cont5 {D : Ends} {S : V → Hp → Prop} {l : V → Option V → L2.St} {g : Prop} (main : (∀ x o h, S x h → tNext D (l x o) h) → g) (cont : ∀ x o h, S x h → tNext D (l x o) h) : g := main cont
theorem mm8 (n : Nat) : 0 ≤ (if (if (8 : Int) < (n : Int) then (8 : Int) else (n : Int)) > 1 then (if (8 : Int) < (n : Int) then (8 : Int) else (n : Int)) else 1) ∧ (if (if (8 : Int) < (n : Int) then (8 : Int) else (n : Int)) > 1 then (if (8 : Int) < (n : Int) then (8 : Int) else (n : Int)) else 1) ≤ 8 := by
  split <;> split <;> omega
theorem drew_out {p : Addr} {H1 H2 H3 : Hp} (n : H1 p = none) (s : Same H1 H2) (r : Drew p H2 H3) : Same H1 H3 := fun b o e => r.but b o (ne_of_none e n) (s b o e)
theorem rg20 (i : Nat) (x : V) (h : (rgV 0 20)[i]? = some x) : i < 20 ∧ x = .int (i : Nat) := by
  have hi := (List.getElem?_eq_some_iff.mp h).1
  rw [rgV_length] at hi
  have hi : i < 20 := hi
  refine ⟨hi, ?_⟩
  unfold rgV at h
  rw [List.getElem?_map, List.getElem?_range (by show i < 20; exact hi)] at h
  have := Option.some.inj h
  rw [← this]
  show V.int (0 + (i : Int)) = V.int (i : Int)
  rw [Int.zero_add]
theorem long_ok : NameOk "long" := ⟨by decide, 108, [111, 110, 103], by decide +kernel, by decide +kernel, by decide +kernel⟩
theorem half_lt {i j : Nat} (h : i < j) : Rat.divInt (i : Int) 2 < Rat.divInt (j : Int) 2 := by
  rw [Rat.divInt_eq_div, Rat.divInt_eq_div]
  have h1 : ((i : Int) : Rat) < ((j : Int) : Rat) := Rat.intCast_lt_intCast.mpr (by omega)
  have h2 : ((2 : Int) : Rat) = 2 := rfl
  rw [h2]
  grind
def q73 : Rat := ⟨7, 3, by decide, by decide⟩
theorem All2.app {α β : Type} {R : α → β → Prop} : ∀ {xs : List α} {ys : List β} {xs' : List α} {ys' : List β}, All2 R xs ys → All2 R xs' ys' → All2 R (xs ++ xs') (ys ++ ys')
  | _, _, _, _, .nil, h => h
  | _, _, _, _, .cons a t, h => .cons a (t.app h)
theorem floor_rem {q L : Rat} (h : 0 < L) : rem q L + L * (((q / L).floor : Int) : Rat) = q := by
  unfold rem
  generalize (((q / L).floor : Int) : Rat) = k
  grind
theorem rem_self {q L : Rat} (h : 0 < L) (h0 : 0 ≤ q) (h1 : q < L) : (q / L).floor = 0 ∧ rem q L = q := by
  have hL : L ≠ 0 := Rat.ne_of_gt h
  have e : (q / L).floor = 0 := by
    have a1 : (0 : Rat) ≤ q / L := by
      rw [Rat.div_def]
      exact Rat.mul_nonneg h0 (Rat.le_of_lt (Rat.inv_pos.mpr h))
    have a2 : q / L < 1 := (Rat.div_lt_iff h).mpr (by rw [Rat.one_mul]; exact h1)
    have f1 := Rat.floor_le (q / L)
    have f2 := Rat.lt_floor_add_one (q / L)
    generalize (q / L).floor = k at f1 f2
    have g1 : (k : Rat) < ((1 : Int) : Rat) := by
      have : ((1 : Int) : Rat) = 1 := rfl
      rw [this]
      grind
    have g2 : ((-1 : Int) : Rat) < (k : Rat) := by
      have : ((-1 : Int) : Rat) = -1 := rfl
      rw [this]
      have e3 : (((k + 1 : Int)) : Rat) = (k : Rat) + 1 := by rw [Rat.intCast_add]; rfl
      rw [e3] at f2
      grind
    have h1 := Rat.intCast_lt_intCast.mp g1
    have h2 := Rat.intCast_lt_intCast.mp g2
    omega
  refine ⟨e, ?_⟩
  unfold rem
  rw [e]
  show q - L * ((0 : Int) : Rat) = q
  have : ((0 : Int) : Rat) = 0 := rfl
  rw [this]
  grind
theorem posAt_zero {s0 : Rat} {cs : List (Rat × Rat)} (ok : PcsOk cs) : posAt (trk s0 cs) 0 = s0 := by
  obtain ⟨c, cs', e1, e2⟩ := trk_go (s0 := s0) ok.ne
  have asc := pcs_asc (s0 := s0) ok e1
  rw [e2, posAt_go asc Rat.le_refl, posGo_le asc Rat.le_refl fun d ds e => by
    have := (List.pairwise_cons.mp asc).1 d.1 (by rw [e]; exact List.mem_cons_self)
    have h4 : (0 : Rat) < d.1 := this
    grind]
  show s0 + c.2 * (0 - 0) = s0
  grind
/-- what is known of the race in a turn of the law -/
def GoodAt (K : PySem.W.Frag) (C : Addr) (H : Hp) (v : V) (L : Rat) (rs : List Rn1) (M : Nat) : Prop := RaceAt K C H v L (rs.map (Rn1.tr L)) ∧ Good L rs ∧ (∀ r ∈ rs, r.cs.length ≤ M + 1) ∧ rs.length * M < 63
theorem drew_row {p : Addr} {H G : Hp} {v : V} {r : Row} (hp : PoolAt H p) (d : Drew p H G) (h : RowAt K H v r) : RowAt K G v r := by
  obtain ⟨_, _, e, _⟩ := hp
  exact row_but e d.but h
theorem drew_track {p : Addr} {H G : Hp} {v : V} {rows : List Row} (hp : PoolAt H p) (d : Drew p H G) (h : TrackAt K H v rows) : TrackAt K G v rows := by
  obtain ⟨a, xs, rfl, ha, hA⟩ := h
  refine ⟨a, xs, rfl, d.but _ _ (fun e => ?_) ha, hA.imp fun _ _ z => drew_row hp d z⟩
  obtain ⟨c, s, hp, _⟩ := hp
  subst e
  rw [hp] at ha
  cases ha
  cases hA with
  | cons h _ =>
    obtain ⟨a, _, _, _, e, _⟩ := h
    cases e
theorem drew_race {C p : Addr} {H G : Hp} {v : V} {L : Rat} {tr : List (Str × List Row)} (hp : PoolAt H p) (d : Drew p H G) (h : RaceAt K C H v L tr) : RaceAt K C G v L tr := by
  obtain ⟨q, dx, vL, vT, rfl, h1, h2, dd, kvs, rfl, h3, h4⟩ := h
  obtain ⟨c, s, e, hh⟩ := id hp
  refine ⟨q, dx, vL, .ref dd, rfl, d.but _ _ (fun z => by rw [z, e] at h1; cases h1) h1, rn_but e d.but h2, dd, kvs, rfl, d.but _ _ (fun z => by rw [z, e] at h3; cases h3) h3, h4.imp fun _ _ z => ⟨z.1, drew_track hp d z.2⟩⟩
theorem floor_small {q : Rat} {b : Nat} (h : Sz b q) : q.floor.natAbs < 2 ^ b := by
  rw [Rat.floor_def]
  exact Nat.lt_of_le_of_lt (Int.natAbs_ediv_le_natAbs _ _) h.1
theorem ok_Law {f C CN C2 pL fL fPo fDr fNu fRa fLi fNm fCh fPs fPl fLa fSt fI fR fPlus fTm fCo : Addr} {fd dL dPo dDr dNu dRa dLi dNm dCh dPs dPl dLa dSt dI dR dPlus dTm dCo : FuncData} (D : DefAt K mg "law" sLaw ["script"] f fd) (X : LT P w K mg base C CN C2 pL fL fPo fDr fNu fRa fLi fNm fCh fPs fPl fLa fSt fI fR fPlus fTm fCo dL dPo dDr dNu dRa dLi dNm dCh dPs dPl dLa dSt dI dR dPlus dTm dCo) : FnOk P w K mg base (CXl P w) 10 f fd ["script"] (spLaw K) := by
  refine D.F.okX scLaw (fun vs H Q E h => ?_) (fun cdv A outer s H vs Q E hr h => ?_)
  · obtain ⟨a, ns, rfl, _⟩ := h
    rfl
  · obtain ⟨a0, ns, rfl, hS0, hl, keep, q⟩ := h
    refine ⟨_, (pss_cons (ps_for (passes_of rfl) rfl (pi_range1 rfl X.mrg (pa_cons (pe_callB (call_max2 rfl) (by rfl) X.mmx (by decide +kernel) (pa_cons pe_int (pa_cons (pe_callB (call_min2 rfl) (by rfl) X.mmn (by decide +kernel) (pa_cons (pe_callB call_len_seq (by rfl) X.ml PySem.boot_len (pa_cons (pv 0) pa_nil)) (pa_cons pe_int pa_nil))) pa_nil))) pa_nil)) (pg_name (i := 1) scLaw.nd rfl (.inl rfl)) (pss_cons (ps_set (i := 2) scLaw.nd rfl (.inr rfl) (pe_call X.GPo (hr.mono (by decide)) (by rfl) X.DPo.g X.DPo.F.kp X.DPo.b .nil passL (pa_cons (pv 0) (pa_cons (pv 1) pa_nil))))
        (pss_cons (ps_set (i := 3) scLaw.nd rfl (.inl rfl) (pe_call X.GRa (hr.mono (by decide)) (by rfl) X.DRa.g X.DRa.F.kp X.DRa.b .nil passL (pa_cons (pv 2) (pa_cons (pe_op op_add pe_int (pe_call X.GDr (hr.mono (by decide)) (by rfl) X.DDr.g X.DDr.F.kp X.DDr.b .nil passL (pa_cons (pv 2) (pa_cons pe_int pa_nil)))) pa_nil))))
        (pss_cons (ps_if (pt_cmpR op_eq (pe_op op_modN (pv 1) pe_int) pe_int (nomark _)) (pss_cons (ps_setLc (i := 4) (own := [("at", 11)]) (g := gName 11) (tt := tYes) rfl scLaw.nd rfl rfl (sw_true rfl rfl rfl (by decide +kernel)) (pi_list (pe_listRg rfl (by rfl) X.mls (prg_1 rfl X.mrg pe_int))) (blkOk_by (N := NL) (sc := defScope sLaw) (by decide +kernel)) (fun _ _ _ _ _ => pg_name (i := 11) scLaw.nd rfl (.inl rfl)) (fun _ _ _ _ _ => pts_nil) (fun _ _ _ _ _ => (pe_tup (pa_cons (pe_call X.GR (hr.mono (by decide)) (by rfl) X.DR.g X.DR.F.kp X.DR.b .nil passL (pa_cons (pv 11) (pa_cons pe_int pa_nil))) (pa_cons (pe_call X.GNu (hr.mono (by decide)) (by rfl) X.DNu.g X.DNu.F.kp X.DNu.b .nil passL (pa_cons (pv 2) (pa_cons (pe_un un_neg pe_int) (pa_cons pe_int pa_nil)))) pa_nil)))))
        (pss_one (ps_set (i := 3) scLaw.nd rfl (.inl rfl) (pe_make X.MK X.GI (hr.mono (by decide)) rfl X.mC X.bI .nil passL (pa_cons (pe_prop (pv 3) X.T.cl X.PLe X.GLe (hr.mono (by decide)) X.bLe .nil passL rfl) (pa_cons (pe_disp (pps_cons pe_str (pe_tup (pa_cons (pe_call X.GNu (hr.mono (by decide)) (by rfl) X.DNu.g X.DNu.F.kp X.DNu.b .nil passL (pa_cons (pv 2) (pa_cons pe_int (pa_cons pe_int pa_nil)))) (pa_cons (pv 4) pa_nil))) pps_nil) rfl rfl (by simp) (by decide)) pa_nil)))))) pss_nil)
        (pss_cons (ps_set (i := 5) scLaw.nd rfl (.inl rfl) (pe_lst (pa_cons pe_int (pa_cons (pe_tup (pa_cons pe_int (pa_cons pe_int pa_nil))) (pa_cons pe_int (pa_cons (pe_tup (pa_cons pe_int (pa_cons pe_int pa_nil))) (pa_cons (pe_op op_pow pe_int pe_int) (pa_cons (pe_call X.GR (hr.mono (by decide)) (by rfl) X.DR.g X.DR.F.kp X.DR.b .nil passL (pa_cons (pe_op op_add (pe_op op_pow pe_int pe_int) pe_int) (pa_cons pe_int pa_nil))) (pa_cons (pe_call X.GNu (hr.mono (by decide)) (by rfl) X.DNu.g X.DNu.F.kp X.DNu.b .nil passL (pa_cons (pv 2) (pa_cons pe_int (pa_cons pe_int pa_nil)))) pa_nil)))))))))
        (pss_cons (ps_for (passes_of rfl) rfl (pi_list (pe_op op_cat (pv 5) (pe_meth0 (pv 3) X.T.cl X.MCh X.GCh (hr.mono (by decide)) X.bCh .nil passL))) (pg_name (i := 6) scLaw.nd rfl (.inl rfl)) (pss_one (ps_for (passes_of rfl) rfl (pi_list (pe_meth0 (pv 3) X.T.cl X.MNm X.GNm (hr.mono (by decide)) X.bNm .nil passL)) (pg_name (i := 7) scLaw.nd rfl (.inl rfl)) (pss_cons (ps_set (i := 8) scLaw.nd rfl (.inl rfl) (pe_meth (pv 3) X.T.cl X.MPs X.GPs (hr.mono (by decide)) X.bPs .nil passL (pa_cons (pv 7) (pa_cons (pv 6) pa_nil))))
        (pss_cons (ps_if (pt_cmpR (op_neD hr.units) (pv 8) (pe_call X.GLi (hr.mono (by decide)) (by rfl) X.DLi.g X.DLi.F.kp X.DLi.b .nil passL (pa_cons (pv 3) (pa_cons (pv 7) (pa_cons (pv 6) pa_nil)))) (nomark _)) (pss_one (ps_ret pe_bl)) pss_nil)
        (pss_cons (ps_par (i := 9) (j := 10) rfl scLaw.nd rfl rfl (by decide) rfl rfl (pa_cons (pe_meth (pv 3) X.T.cl X.MPl X.GPl (hr.mono (by decide)) X.bPl .nil passL (pa_cons (pv 7) (pa_cons (pv 6) pa_nil))) (pa_cons (pe_meth (pv 3) X.T.cl X.MLa X.GLa (hr.mono (by decide)) X.bLa .nil passL (pa_cons (pv 7) (pa_cons (pv 6) pa_nil))) pa_nil)) (by rfl))
        (pss_cons (ps_if (PW.pt (pw_or (pt_cmpR op_lt (pe_call X.GCo (hr.mono (by decide)) (by rfl) X.DCo.g X.DCo.F.kp X.DCo.b .nil passL (pa_cons (pv 9) (pa_cons pe_int pa_nil))) pe_int (nomark _)) (pw_or1 (pt_cmpR op_ge (pe_call X.GCo (hr.mono (by decide)) (by rfl) X.DCo.g X.DCo.F.kp X.DCo.b .nil passL (pa_cons (pv 9) (pa_cons (pe_prop (pv 3) X.T.cl X.PLe X.GLe (hr.mono (by decide)) X.bLe .nil passL rfl) pa_nil))) pe_int (nomark _))))) (pss_one (ps_ret pe_bl)) pss_nil)
        (pss_cons (ps_if (pt_val (pe_callB call_isi (by rfl) X.mi (by decide +kernel) (pa_cons (pv 10) (pa_cons (pe_bltn (v := .ty "tuple") (by rfl) X.mtu (by decide +kernel) rfl) pa_nil)))) (pss_one (ps_ret pe_bl)) pss_nil)
        (pss_one (ps_if (pt_cmpR (op_neD hr.units) (pe_call X.GPlus (hr.mono (by decide)) (by rfl) X.DPlus.g X.DPlus.F.kp X.DPlus.b .nil passL (pa_cons (pv 9) (pa_cons (pe_call X.GTm (hr.mono (by decide)) (by rfl) X.DTm.g X.DTm.F.kp X.DTm.b .nil passL (pa_cons (pe_prop (pv 3) X.T.cl X.PLe X.GLe (hr.mono (by decide)) X.bLe .nil passL rfl) (pa_cons (pv 10) pa_nil))) pa_nil))) (pv 8) (nomark _)) (pss_one (ps_ret pe_bl)) pss_nil))))))))))
        (pss_cons (ps_if (pt_cmpR (op_neD hr.units) (pe_meth (pv 3) X.T.cl X.MPs X.GPs (hr.mono (by decide)) X.bPs .nil passL (pa_cons (pe_ix (r := rIxL K) ix_list (pe_meth0 (pv 3) X.T.cl X.MNm X.GNm (hr.mono (by decide)) X.bNm .nil passL) pe_int (fun _ _ => rfl)) (pa_cons pe_int pa_nil))) (pe_meth (pv 3) X.T.cl X.MPs X.GPs (hr.mono (by decide)) X.bPs .nil passL (pa_cons (pe_ix (r := rIxL K) ix_list (pe_meth0 (pv 3) X.T.cl X.MNm X.GNm (hr.mono (by decide)) X.bNm .nil passL) pe_int (fun _ _ => rfl)) (pa_cons (pe_tup (pa_cons pe_int (pa_cons pe_int pa_nil))) pa_nil))) (nomark _)) (pss_one (ps_ret pe_bl)) pss_nil)
        (pss_cons (ps_if (pt_cmpR op_ne (pe_meth (pv 3) X.T.cl X.MLa X.GLa (hr.mono (by decide)) X.bLa .nil passL (pa_cons (pe_ix (r := rIxL K) ix_list (pe_meth0 (pv 3) X.T.cl X.MNm X.GNm (hr.mono (by decide)) X.bNm .nil passL) pe_int (fun _ _ => rfl)) (pa_cons pe_int pa_nil))) pe_int (nomark _)) (pss_one (ps_ret pe_bl)) pss_nil)
        (pss_one (ps_if (pt_cmpR (op_neD hr.units) (pe_meth (pv 3) X.T.cl X.MPl X.GPl (hr.mono (by decide)) X.bPl .nil passL (pa_cons (pe_ix (r := rIxL K) ix_list (pe_meth0 (pv 3) X.T.cl X.MNm X.GNm (hr.mono (by decide)) X.bNm .nil passL) pe_int (fun _ _ => rfl)) (pa_cons pe_int pa_nil))) (pe_meth (pv 3) X.T.cl X.MSt X.GSt (hr.mono (by decide)) X.bSt .nil passL (pa_cons (pe_ix (r := rIxL K) ix_list (pe_meth0 (pv 3) X.T.cl X.MNm X.GNm (hr.mono (by decide)) X.bNm .nil passL) pe_int (fun _ _ => rfl)) pa_nil)) (nomark _)) (pss_one (ps_ret pe_bl)) pss_nil))))))))))
        (pss_one (ps_ret pe_bl))), ?_⟩
    have big : ∀ {n : Nat}, n ≤ 1000 → n ≤ sizeLine := fun h => Nat.le_of_lt (small1000 h)
    have mm := mm8 ns.length
    have lm : (ns.map V.int).length = ns.length := List.length_map _
    rw [← lm] at mm
    refine ⟨.ref a0, rfl, a0, _, rfl, .inl hS0, _, 8, rfl, 1, _, rfl, _, rfl, Int.le_trans (by decide) mm.1, Int.lt_of_le_of_lt mm.2 (by decide), for_range (lo := 0) (fun _ σ H1 => (∃ o1 o2 o3 o4 o5 o6 o7 o8 o9 o10 o11 : Option V, σ = [some (.ref a0), o1, o2, o3, o4, o5, o6, o7, o8, o9, o10, o11]) ∧ Same H H1)
      ⟨⟨none, none, none, none, none, none, none, none, none, none, none, rfl⟩, Same.refl _⟩ (fun i σ H1 hi hP => ?_) (fun σ H1 hP => ?_)⟩
    · obtain ⟨⟨o1, o2, o3, o4, o5, o6, o7, o8, o9, o10, o11, rfl⟩, s1⟩ := hP
      have i8 : i ≤ 8 := by
        have h := mm.2
        generalize (if (if (8 : Int) < ((ns.map V.int).length : Int) then (8 : Int) else ((ns.map V.int).length : Int)) > 1 then (if (8 : Int) < ((ns.map V.int).length : Int) then (8 : Int) else ((ns.map V.int).length : Int)) else 1) = m at h hi
        omega
      refine ⟨.ref a0, rfl, .int (0 + (i : Int)), rfl, a0, ns, i, by rw [Int.zero_add]; rfl, keep _ s1, by omega, fun p H2 s2 np pp => ?_⟩
      refine ⟨_, rfl, _, rfl, p, 3, rfl, pp, by decide, p200 (by decide), fun d H3 d0 d1 r3 => ⟨1, _, rfl, rfl, ?_⟩⟩
      obtain ⟨dn, rfl⟩ : ∃ dn : Nat, d = (dn : Int) := ⟨d.toNat, by omega⟩
      refine ⟨p, 1 + dn, by rw [show ((1 + dn : Nat) : Int) = 1 + (dn : Int) from by omega]; rfl, r3.pool, by omega, by omega, fun v L rs H4 r4 hR g l3 c3 => ?_⟩
      have r24 := drew_trans r3 r4
      apply with_cont5 (S := fun x h => Drew p H2 h ∧ ∃ L rs M, GoodAt K C h x L rs M) (l := fun x o => [some (.ref a0), some (.int (0 + (i : Int))), some (.ref p), some x, o, o5, o6, o7, o8, o9, o10, o11])
      · intro cont
        refine ⟨_, rfl, _, 4, rfl, rfl, show (4 : Int) ≠ 0 by decide, rfl, _, rfl, ite2 (fun _ => ?_) (fun _ => cont v o4 _ ⟨r24, L, rs, 2, hR, g, c3, by omega⟩)⟩
        refine ⟨20, rfl, RgOk.of_le (by decide) (by decide) (by decide) (by decide), fun W nW => ⟨W, rfl, ⟨_, .of upd_same⟩, fun D1 n1 => ?_⟩⟩
        have r25 : Drew p H2 (upd H4 W (.lst (rgV 0 20))) := drew_new r24 nW
        have s45 : Same H4 (upd H4 W (.lst (rgV 0 20))) := same_new nW
        have hW : (upd H4 W (.lst (rgV 0 20))) W = some (.lst (rgV 0 20)) := upd_same
        have nWp : W ≠ p := fun e => by rw [e] at nW; exact pool_some r24.pool nW
        generalize (upd H4 W (.lst (rgV 0 20))) = H5 at n1 r25 s45 hW ⊢
        have nDp : D1 ≠ p := fun e => by rw [e] at n1; exact pool_some r25.pool n1
        have hR5 := hR.same s45
        refine lc_list (xs := rgV 0 20) (fun j G => Drew p H5 G ∧ ∃ acc cs, G D1 = some (.lst acc) ∧ acc.length = j ∧ All2 (PieceAt K G) acc cs ∧ cs.map (·.1) = (List.range j).map (fun a => Rat.divInt (a : Nat) 2) ∧ ∀ c ∈ cs, Sz 12 c.1 ∧ Sz 12 c.2)
          ⟨drew_new (drew_refl r25.pool) n1, [], [], upd_same, rfl, .nil, rfl, fun _ h => by cases h⟩ (fun j G _ hP => .of (hP.1.but _ _ nWp hW)) (fun j x G hx hP => ?_) (fun G hP => ?_)
        · obtain ⟨rG, acc, cs, hD, hla, hAll, hcs, hsz⟩ := hP
          obtain ⟨j20, rfl⟩ := rg20 j x hx
          refine ⟨rfl, _, rfl, _, _, "int", "int", rfl, .int _, .int _, givesR_ok (by decide) (Nat.lt_of_lt_of_le (show ((j : Nat) : Int).natAbs < 2 ^ 12 by omega) (Nat.pow_le_pow_right (by decide) (by decide))) (Nat.lt_of_lt_of_le (show (2 : Int).natAbs < 2 ^ 12 by decide) (Nat.pow_le_pow_right (by decide) (by decide))) fun v1 G1 t1 e1 => ?_⟩
          have zj : Sz 12 (Rat.divInt (j : Nat) 2) := sz_small (by decide) (show ((j : Nat) : Int).natAbs < 2 ^ 12 by omega) (by decide)
          have rG1 := drew_same rG t1
          refine ⟨_, rfl, 9, rfl, p, -9, 9, rfl, rG1.pool, by decide, by decide, by decide, fun v2 q2 G2 r2 n2 z2 _ => ?_⟩
          have rG2 := drew_trans rG1 r2
          refine ⟨by show 2 ≤ sizeLine; decide, fun T nT => ?_⟩
          have hT : (upd G2 T (.tup [v1, v2])) T = some (.tup [v1, v2]) := upd_same
          have sT : Same G2 (upd G2 T (.tup [v1, v2])) := same_new nT
          generalize (upd G2 T (.tup [v1, v2])) = G3 at hT sT ⊢
          have rG3 := drew_same rG2 sT
          have gG3 : Drew p G G3 := drew_same (drew_trans (drew_same (drew_refl rG.pool) t1) r2) sT
          have hD3 := gG3.but _ _ nDp hD
          have pc : PieceAt K G3 (.ref T) (Rat.divInt (j : Nat) 2, q2) := ⟨T, v1, v2, rfl, .inl (.inl hT), (drew_num rG1.pool r2 e1.num).same sT, n2.same sT⟩
          refine ⟨acc, hD3, small1000 (by omega), drew_upd' rG3 n1 nDp, acc ++ [.ref T], cs ++ [(Rat.divInt (j : Nat) 2, q2)], upd_same, by rw [List.length_append, hla]; rfl, ?_, ?_, fun c hc => ?_⟩
          · exact (hAll.imp fun _ _ z => piece_but hD3 but_new (drew_piece rG.pool gG3 z)).snoc (piece_but hD3 but_new pc)
          · rw [List.map_append, hcs, List.range_succ, List.map_append]
            rfl
          · rcases List.mem_append.mp hc with h | h
            · exact hsz c h
            · rw [List.mem_singleton.mp h]
              exact ⟨zj, z2⟩
        · obtain ⟨rG, acc, cs, hD, hla, hAll, hcs, hsz⟩ := hP
          rw [rgV_length] at hcs hla
          have hcs : cs.map (·.1) = (List.range 20).map (fun a => Rat.divInt (a : Nat) 2) := hcs
          have l20 : cs.length = 20 := by
            have := congrArg List.length hcs
            rw [List.length_map, List.length_map, List.length_range] at this
            exact this
          have okc : PcsOk cs := by
            refine ⟨by omega, by omega, ?_, ?_, hsz⟩
            · rw [hcs]
              show some (Rat.divInt ((0 : Nat) : Int) 2) = some 0
              rw [show Rat.divInt ((0 : Nat) : Int) 2 = 0 from Rat.zero_divInt 2]
            · rw [hcs]
              refine List.pairwise_map.mpr (List.Pairwise.imp (fun {a b} hab => half_lt hab) List.pairwise_lt_range)
          have hpcs : PiecesAt K G (.ref D1) cs := ⟨D1, acc, rfl, hD, hAll⟩
          have r2G : Drew p H2 G := drew_trans r25 rG
          have hRG := drew_race r25.pool rG hR5
          obtain ⟨pr, dx, vL, vT, rfl, hpG, _⟩ := id hRG
          refine ⟨_, rfl, pr, dx, _, rfl, hpG, .ref pr, L, _, rfl, hRG, fun y hy => ?_⟩
          intro dc ndc
          have ndp : dc ≠ p := fun e => by rw [e] at ndc; exact pool_some r2G.pool ndc
          have r6 : Drew p H2 (upd G dc (.dK [])) := drew_new r2G ndc
          have s6 : Same G (upd G dc (.dK [])) := same_new ndc
          have hd6 : (upd G dc (.dK [])) dc = some (.dK []) := upd_same
          show tPairs _ _ (upd G dc (.dK [])) _
          generalize (upd G dc (.dK [])) = G6 at r6 s6 hd6 ⊢
          refine ⟨_, rfl, p, 0, 9, rfl, r6.pool, by decide, by decide, by decide, fun v3 q3 G7 r7 n3 z3 _ => ?_⟩
          refine ⟨_, rfl, by show 2 ≤ sizeLine; decide, fun T nT => ?_⟩
          have hT : (upd G7 T (.tup [v3, .ref D1])) T = some (.tup [v3, .ref D1]) := upd_same
          have sT : Same G7 (upd G7 T (.tup [v3, .ref D1])) := same_new nT
          generalize (upd G7 T (.tup [v3, .ref D1])) = G8 at hT sT ⊢
          have r8 : Drew p G6 G8 := drew_same r7 sT
          have hd8 := r8.but _ _ ndp hd6
          have run8 : RunAt K G8 (.ref T) q3 cs := ⟨T, v3, .ref D1, rfl, .inl (.inl hT), n3.same sT, drew_pieces r6.pool r8 (hpcs.same s6)⟩
          have y8 : Num K G8 y L := drew_num r6.pool r8 (hy.same s6).num
          refine ⟨hd8, [(Sum.inr ("long" : Str), .ref T)], rfl, by show 1 ≤ 15; decide, ?_⟩
          have Od := Odd.dk hd8
          have e9 : mergeK [] [((Sum.inr ("long" : Str) : Key), V.ref T)] = [((Sum.inr ("long" : Str) : Key), V.ref T)] := rfl
          rw [e9]
          have b9 : But dc G8 (upd G8 dc (.dK [((Sum.inr ("long" : Str) : Key), V.ref T)])) := but_new
          have hd9 : (upd G8 dc (.dK [((Sum.inr ("long" : Str) : Key), V.ref T)])) dc = some (.dK [((Sum.inr ("long" : Str) : Key), V.ref T)]) := upd_same
          have r68 := drew_trans r6 r8
          have nd2 : H2 dc = none := (drew_none r2G ndc).resolve_right ndp
          have r9 : Drew p H2 (upd G8 dc (.dK [((Sum.inr ("long" : Str) : Key), V.ref T)])) := drew_upd' r68 nd2 ndp
          show ∀ x dx, _
          generalize (upd G8 dc (.dK [((Sum.inr ("long" : Str) : Key), V.ref T)])) = G9 at b9 hd9 r9 ⊢
          intro prn dxn nx ndx nex
          have sI : Same G9 (upd (upd G9 dxn (.own prn)) prn (.ins C dxn [])) := fun b o e => by rw [upd_ne (ne_of_none e nx), upd_ne (ne_of_none e ndx)]; exact e
          have hI : (upd (upd G9 dxn (.own prn)) prn (.ins C dxn [])) prn = some (.ins C dxn []) := upd_same
          have npr : prn ≠ p := fun e => by rw [e] at nx; exact pool_some r9.pool nx
          show spInit K C _ (upd (upd G9 dxn (.own prn)) prn (.ins C dxn [])) _ _
          generalize (upd (upd G9 dxn (.own prn)) prn (.ins C dxn [])) = G10 at sI hI ⊢
          have okr : ∀ r ∈ [Rn1.mk "long" q3 cs], Rn1Ok r := fun r hr' => by
            rw [List.mem_singleton.mp hr']
            exact ⟨long_ok, z3.mono (by decide), okc⟩
          refine ⟨prn, dxn, dc, y, L, [((Sum.inr ("long" : Str) : Key), V.ref T)], [⟨"long", q3, cs⟩], rfl, hI, (Od.num b9 y8).same sI, g.L0, g.zL, sI _ _ hd9, .cons ⟨rfl, (Od.run b9 run8).same sI⟩ .nil, okr, List.pairwise_singleton _ _, by show 0 < 1; decide, by show 1 ≤ 12; decide, fun H' bt hR' => ⟨rfl, ?_⟩⟩
          have r10 := drew_same r9 sI
          refine cont (.ref prn) (some (.ref D1)) H' ⟨⟨fun b o hb e => ?_, ?_⟩, L, [⟨"long", q3, cs⟩], 19, hR', ⟨g.L0, g.zL, okr, List.pairwise_singleton _ _, by show 0 < 1; decide, by show 1 ≤ 12; decide⟩, fun r hr' => ?_, by show 1 * 19 < 63; decide⟩
          · have e2 := r9.but _ _ hb e
            exact bt _ _ (ne_of_none e2 nx) (sI _ _ e2)
          · obtain ⟨c, sd, e, hh⟩ := r10.pool
            exact ⟨c, sd, bt _ _ npr.symm e, hh⟩
          · rw [List.mem_singleton.mp hr']
            show cs.length ≤ 20
            omega
      intro x o G hS
      obtain ⟨rG, L, rs, M, hR, g, hM, hsm⟩ := hS
      -- moments
      refine ⟨by show 2 ≤ sizeLine; decide, fun T1 nT1 => ?_⟩
      have hT1 : (upd G T1 (.tup [.int 0, .int 1])) T1 = some (.tup [.int 0, .int 1]) := upd_same
      have t1 : Same G (upd G T1 (.tup [.int 0, .int 1])) := same_new nT1
      generalize (upd G T1 (.tup [.int 0, .int 1])) = G1 at hT1 t1 ⊢
      refine ⟨by show 2 ≤ sizeLine; decide, fun T2 nT2 => ?_⟩
      have hT2 : (upd G1 T2 (.tup [.int 7, .int 3])) T2 = some (.tup [.int 7, .int 3]) := upd_same
      have t2 : Same G1 (upd G1 T2 (.tup [.int 7, .int 3])) := same_new nT2
      generalize (upd G1 T2 (.tup [.int 7, .int 3])) = G2 at hT2 t2 ⊢
      refine ⟨10, 30, rfl, rfl, ⟨by decide, by decide, by decide⟩, 10, 29, rfl, rfl, ⟨by decide, by decide, by decide⟩, _, 1, rfl, rfl, ?_⟩
      refine ⟨_, _, "int", "int", rfl, .int _, .int _, givesR_ok (by decide) (Nat.lt_of_lt_of_le (show (10 ^ (29 : Int).toNat + 1 : Int).natAbs < 2 ^ 100 by decide) (Nat.pow_le_pow_right (by decide) (by decide))) (Nat.lt_of_lt_of_le (show (7 : Int).natAbs < 2 ^ 12 by decide) (Nat.pow_le_pow_right (by decide) (by decide))) fun v5 G3 t3 e5 => ?_⟩
      have z5 : Sz 300 (Rat.divInt (10 ^ (29 : Int).toNat + 1) 7) := sz_divInt (by decide) (Nat.lt_of_lt_of_le (show (10 ^ (29 : Int).toNat + 1 : Int).natAbs < 2 ^ 100 by decide) (Nat.pow_le_pow_right (by decide) (by decide))) (Nat.lt_of_lt_of_le (show (7 : Int).natAbs < 2 ^ 12 by decide) (Nat.pow_le_pow_right (by decide) (by decide)))
      have nn5 : 0 ≤ Rat.divInt (10 ^ (29 : Int).toNat + 1) 7 := divInt_nn (by decide) (by decide)
      have e5 : Rn K G3 v5 (Rat.divInt (10 ^ (29 : Int).toNat + 1) 7) := e5
      generalize Rat.divInt (10 ^ (29 : Int).toNat + 1) 7 = q5 at z5 nn5 e5
      have rG3 := drew_same (drew_same (drew_same rG t1) t2) t3
      have gG3 : Same G G3 := (t1.trans t2).trans t3
      refine ⟨_, rfl, p, 0, 20, rfl, rG3.pool, by decide, by decide, by decide, fun v6 q6 G4 r4' n6 z6 nn6 => ?_⟩
      have rG4 := drew_trans rG3 r4'
      refine ⟨by show 7 ≤ sizeLine; decide, fun Mm nMm => ?_⟩
      have hMm : (upd G4 Mm (.lst [.int 0, .ref T1, .int 3, .ref T2, .int (10 ^ (30 : Int).toNat), v5, v6])) Mm = some (.lst [.int 0, .ref T1, .int 3, .ref T2, .int (10 ^ (30 : Int).toNat), v5, v6]) := upd_same
      have t5 : Same G4 (upd G4 Mm (.lst [.int 0, .ref T1, .int 3, .ref T2, .int (10 ^ (30 : Int).toNat), v5, v6])) := same_new nMm
      have hms : ∃ ts : List Rat, All2 (Num K (upd G4 Mm (.lst [.int 0, .ref T1, .int 3, .ref T2, .int (10 ^ (30 : Int).toNat), v5, v6]))) [.int 0, .ref T1, .int 3, .ref T2, .int (10 ^ (30 : Int).toNat), v5, v6] ts ∧ ∀ t ∈ ts, 0 ≤ t ∧ Sz 300 t := by
        have a1 : Rn K G3 (.ref T1) 0 := ⟨T1, rfl, .inl (.inl (t3 _ _ (t2 _ _ hT1)))⟩
        have a2 : Rn K G3 (.ref T2) q73 := ⟨T2, rfl, .inl (.inl (t3 _ _ hT2))⟩
        have b1 := (drew_num rG3.pool r4' a1.num).same t5
        have b2 := (drew_num rG3.pool r4' a2.num).same t5
        have b5 := (drew_num rG3.pool r4' e5.num).same t5
        have b6 := n6.same t5
        refine ⟨[((0 : Int) : Rat), 0, ((3 : Int) : Rat), q73, ((10 ^ (30 : Int).toNat : Int) : Rat), q5, q6], .cons (num_int 0) (.cons b1 (.cons (num_int 3) (.cons b2 (.cons (num_int _) (.cons b5 (.cons b6 .nil)))))), fun t ht => ?_⟩
        simp only [List.mem_cons, List.not_mem_nil, or_false] at ht
        rcases ht with rfl | rfl | rfl | rfl | rfl | rfl | rfl
        · exact ⟨Rat.intCast_nonneg.mpr (by decide), Sz.int (by decide) (by decide)⟩
        · exact ⟨Rat.le_refl, Sz.int (n := 0) (by decide) (by decide)⟩
        · exact ⟨Rat.intCast_nonneg.mpr (by decide), Sz.int (by decide) (by decide)⟩
        · exact ⟨Rat.le_of_lt (num_pos_iff.mp (by decide)), (show Sz 10 q73 from ⟨by decide, by decide⟩).mono (by decide)⟩
        · exact ⟨Rat.intCast_nonneg.mpr (by decide), (Sz.int (b := 100) (by decide) (by decide)).mono (by decide)⟩
        · exact ⟨nn5, z5⟩
        · exact ⟨nn6 (by decide), z6.mono (by decide)⟩
      obtain ⟨ts, hts, tsok⟩ := hms
      have rG5 : Drew p H2 (upd G4 Mm (.lst [.int 0, .ref T1, .int 3, .ref T2, .int (10 ^ (30 : Int).toNat), v5, v6])) := drew_same rG4 t5
      have hR5 : RaceAt K C (upd G4 Mm (.lst [.int 0, .ref T1, .int 3, .ref T2, .int (10 ^ (30 : Int).toNat), v5, v6])) x L (rs.map (Rn1.tr L)) := (drew_race rG3.pool r4' (hR.same gG3)).same t5
      generalize (upd G4 Mm (.lst [.int 0, .ref T1, .int 3, .ref T2, .int (10 ^ (30 : Int).toNat), v5, v6])) = G5 at hMm hts rG5 hR5 ⊢
      have s05 : Same H G5 := s1.trans (drew_out np s2 rG5)
      clear hR gG3 t1 t2 t3 t5 e5 hT1 hT2 n6 rG rG3 rG4 r4' nT1 nT2 nMm
      obtain ⟨pr, dx, vL, vT, rfl, hp5, _⟩ := id hR5
      have hpS : ∀ G', Same G5 G' → G' pr = some (.ins C dx (rflds vL vT)) := fun G' s => s _ _ hp5
      have hRS : ∀ G', Same G5 G' → RaceAt K C G' (.ref pr) L (rs.map (Rn1.tr L)) := fun _ s => hR5.same s
      have no1 : ∀ {m : Str}, ¬ m = "_tracks" → ¬ m = "_length" → (rflds vL vT).lookup m = none := fun h1 h2 => rl_no _ _ h1 h2
      have ltr : (rs.map (Rn1.tr L)).length = rs.length := List.length_map _
      have l12 : (rs.map (Rn1.tr L)).length ≤ 12 := by rw [ltr]; exact g.le
      refine ⟨_, rfl, _, rfl, pr, dx, _, rfl, hp5, no1 (by decide +kernel) (by decide +kernel), .ref pr, L, _, M, rfl, hR5, g.tr, g.nn, fun e he => ?_, l12, by rw [ltr]; exact hsm, fun y cs G6 s6 hy hcs lcs => ?_⟩
      · obtain ⟨r, hr', rfl⟩ := List.mem_map.mp he
        show (trk (rem r.q L) r.cs).length ≤ M + 1
        rw [trk_len (g.ok r hr').pc.ne]
        exact hM r hr'
      obtain ⟨pc, ys, rfl, hpc, hys⟩ := hy
      have lys := hys.len
      refine ⟨Mm, pc, _, ys, rfl, rfl, s6 _ _ hMm, hpc, big (show 7 + ys.length ≤ 1000 by omega), fun cat ncat => ?_⟩
      have hcat : (upd G6 cat (.lst ([.int 0, .ref T1, .int 3, .ref T2, .int (10 ^ (30 : Int).toNat), v5, v6] ++ ys))) cat = some (.lst ([.int 0, .ref T1, .int 3, .ref T2, .int (10 ^ (30 : Int).toNat), v5, v6] ++ ys)) := upd_same
      have s67 : Same G6 (upd G6 cat (.lst ([.int 0, .ref T1, .int 3, .ref T2, .int (10 ^ (30 : Int).toNat), v5, v6] ++ ys))) := same_new ncat
      have hall : All2 (Num K (upd G6 cat (.lst ([.int 0, .ref T1, .int 3, .ref T2, .int (10 ^ (30 : Int).toNat), v5, v6] ++ ys)))) ([.int 0, .ref T1, .int 3, .ref T2, .int (10 ^ (30 : Int).toNat), v5, v6] ++ ys) (ts ++ cs) :=
        All2.app (hts.imp fun _ _ z => Arg.same (s6.trans s67) z) (hys.imp fun _ _ z => (z.same s67).num)
      have tok : ∀ t ∈ ts ++ cs, 0 ≤ t ∧ Sz 300 t := fun t ht => by
        rcases List.mem_append.mp ht with h | h
        · exact tsok t h
        · exact ⟨(hcs t h).1, (hcs t h).2.mono (by decide)⟩
      generalize ([.int 0, .ref T1, .int 3, .ref T2, .int (10 ^ (30 : Int).toNat), v5, v6] ++ ys : List V) = ms at hcat s67 hall ⊢
      show ∃ l, _
      generalize (upd G6 cat (.lst ms)) = G7 at hcat s67 hall ⊢
      have s57 := s6.trans s67
      refine ⟨cat, rfl, ⟨_, .of hcat⟩, for_list (xs := ms) (fun _ σ G8 => Same G7 G8 ∧ ∃ u6 u7 u8 u9 u10, σ = [some (.ref a0), some (.int (0 + (i : Int))), some (.ref p), some (.ref pr), o, some (.ref Mm), u6, u7, u8, u9, u10, o11])
        ⟨Same.refl _, o6, o7, o8, o9, o10, rfl⟩ (fun _ _ G8 _ hP => .of (hP.1 _ _ hcat)) (fun j mv σ G8 hj hP => ?_) (fun σ G8 hP => ?_)⟩
      · obtain ⟨sm, u6, u7, u8, u9, u10, rfl⟩ := hP
        obtain ⟨t, ht, hn⟩ := hall.get hj
        obtain ⟨t0, zt⟩ := tok t (List.mem_of_getElem? ht)
        have s58 := s57.trans sm
        refine ⟨_, rfl, pr, dx, _, rfl, hpS _ s58, no1 (by decide +kernel) (by decide +kernel), .ref pr, L, _, rfl, hRS _ s58, l12, fun nm pn G9 s9 pm so _ hpn => ?_⟩
        have s79 := sm.trans s9
        have s59 := s57.trans s79
        refine ⟨pn, rfl, ⟨_, .of hpn⟩, for_list (xs := nm.map V.str) (fun _ σ Gx => Same G9 Gx ∧ ∃ u7 u8 u9 u10, σ = [some (.ref a0), some (.int (0 + (i : Int))), some (.ref p), some (.ref pr), o, some (.ref Mm), some mv, u7, u8, u9, u10, o11])
          ⟨Same.refl _, u7, u8, u9, u10, rfl⟩ (fun _ _ Gx _ hP => .of (hP.1 _ _ hpn)) (fun l nv σ Gx hl' hP => ?_) (fun σ Gx hP => ?_)⟩
        · obtain ⟨sx, u7, u8, u9, u10, rfl⟩ := hP
          rw [List.getElem?_map] at hl'
          obtain ⟨n, hni, rfl⟩ := Option.map_eq_some_iff.mp hl'
          have nm1 : n ∈ (rs.map (Rn1.tr L)).map (·.1) := pm.mem_iff.mp (List.mem_of_getElem? hni)
          rw [List.map_map] at nm1
          obtain ⟨r1, hr1, en⟩ := List.mem_map.mp nm1
          have en : r1.n = n := en
          subst en
          have hmem : (r1.n, trk (rem r1.q L) r1.cs) ∈ rs.map (Rn1.tr L) := List.mem_map.mpr ⟨r1, hr1, rfl⟩
          have hnx : Num K Gx mv t := hn.same (s79.trans sx)
          have s5x := s59.trans sx
          have zpos : Sz 1500 (posAt (trk (rem r1.q L) r1.cs) t) := posAt_sz (g.tr.sz _ hmem) zt
          have zL39 : Sz 3900 L := g.zL.mono (by decide)
          have Ln : L ≠ 0 := Rat.ne_of_gt g.L0
          have zrem : Sz 3900 (rem (posAt (trk (rem r1.q L) r1.cs) t) L) := (zpos.rem g.zL g.L0).mono (by decide)
          have zfl : Sz 1600 (((posAt (trk (rem r1.q L) r1.cs) t / L).floor : Int) : Rat) := Sz.int (by decide) (floor_small (zpos.div g.zL Ln))
          generalize hq : posAt (trk (rem r1.q L) r1.cs) t = qq at zpos zrem zfl
          -- position
          refine ⟨_, rfl, pr, dx, _, rfl, hpS _ s5x, no1 (by decide +kernel) (by decide +kernel), _, rfl, _, rfl, .ref pr, mv, r1.n, L, _, trk (rem r1.q L) r1.cs, t, rfl, hRS _ s5x, g.tr, hmem, hnx, zt, t0, fun y1 K1 k1 e1 => ?_⟩
          rw [hq] at e1
          have a1 := s5x.trans k1
          refine ⟨_, rfl, _, rfl, _, rfl, _, rfl, .ref pr, mv, r1, L, rs, t, rfl, hRS _ a1, g, hr1, hnx.same k1, zt, t0, fun y2 K2 k2 e2 => ?_⟩
          rw [hq] at e2
          refine ⟨_, _, (e1.same k2).dp, e2.dp, shapedR _, shapedR _, _, rfl, ite2 (fun z => absurd z (by rw [eqvR]; decide)) (fun _ => ?_)⟩
          have a2 := a1.trans k2
          have hn2 := hnx.same (k1.trans k2)
          -- place, laps
          refine ⟨_, rfl, pr, dx, _, rfl, hpS _ a2, no1 (by decide +kernel) (by decide +kernel), _, rfl, _, rfl, .ref pr, mv, r1.n, L, _, trk (rem r1.q L) r1.cs, t, rfl, hRS _ a2, g.tr, hmem, hn2, zt, t0, g.L0, g.zL, fun y3 K3 k3 e3 => ?_⟩
          rw [hq] at e3
          have a3 := a2.trans k3
          refine ⟨_, rfl, pr, dx, _, rfl, hpS _ a3, no1 (by decide +kernel) (by decide +kernel), _, rfl, _, rfl, .ref pr, mv, r1.n, L, _, trk (rem r1.q L) r1.cs, t, rfl, hRS _ a3, g.tr, hmem, hn2.same k3, zt, t0, g.L0, g.zL, fun K4 k4 => ⟨_, _, rfl, ?_⟩⟩
          rw [hq]
          have a4 := a3.trans k4
          have e3' := e3.same k4
          -- compare(place, 0) < 0 or compare(place, race.length) >= 0
          refine ⟨_, rfl, y3, .int 0, some (rem qq L), some ((0 : Int) : Rat), rfl, e3'.num, num_int 0, ⟨zrem, z39⟩, fun K5 k5 => ⟨_, _, rfl, rfl, _, rfl, ?_⟩⟩
          rw [cmp0_neg, decide_eq_false (Rat.not_lt.mpr (rem_nonneg g.L0))]
          have a5 := a4.trans k5
          refine iteF ⟨_, rfl, _, rfl, pr, dx, _, rfl, hpS _ a5, .ref pr, L, _, rfl, hRS _ a5, fun yl hyl => ?_⟩
          refine ⟨y3, yl, some (rem qq L), some L, rfl, (e3'.same k5).num, hyl.num, ⟨zrem, zL39⟩, fun K6 k6 => ⟨_, _, rfl, rfl, _, rfl, ite2 (fun z => absurd z ?_) (fun _ => ?_)⟩⟩
          · rw [show cmpR (rem qq L) L = -1 from if_pos (rem_lt g.L0)]
            decide
          have a6 := a5.trans k6
          -- isinstance(laps, tuple)
          refine ⟨_, rfl, .int (qq / L).floor, _, _, _, _, rfl, .ty "tuple", (Kd.int (K := K) (H := K6) (qq / L).floor).ty, kd_tuple (.int (K := K) (H := K6) (qq / L).floor), _, rfl, ite2 (fun z => absurd z (by decide)) (fun _ => ?_)⟩
          -- plus(place, times(race.length, laps)) != position
          refine ⟨_, rfl, _, rfl, pr, dx, _, rfl, hpS _ a6, .ref pr, L, _, rfl, hRS _ a6, fun yl2 hyl2 => ?_⟩
          refine ⟨_, rfl, yl2, _, some L, some (((qq / L).floor : Int) : Rat), rfl, hyl2.num, num_int _, ⟨zL39, zfl.mono (by decide)⟩, fun y7 K7 k7 e7 => ?_⟩
          refine ⟨y3, y7, some (rem qq L), some (L * (((qq / L).floor : Int) : Rat)), rfl, (e3'.same ((k5.trans k6).trans k7)).num, e7.num, ⟨zrem, (g.zL.mul zfl).mono (by decide)⟩, fun y8 K8 k8 e8 => ?_⟩
          have e8 : Rn K K8 y8 (rem qq L + L * (((qq / L).floor : Int) : Rat)) := e8
          rw [floor_rem g.L0] at e8
          have k18 : Same K1 K8 := ((((((k2.trans k3).trans k4).trans k5).trans k6).trans k7).trans k8)
          refine ⟨_, rfl, _, _, e8.dp, (e1.same k18).dp, shapedR _, shapedR _, _, rfl, ite2 (fun z => absurd z (by rw [eqvR]; decide)) (fun _ => ?_)⟩
          exact ⟨(sx.trans k1).trans k18, _, _, _, _, rfl⟩
        · obtain ⟨sx, u7, u8, u9, u10, rfl⟩ := hP
          exact ⟨s79.trans sx, _, _, _, _, _, rfl⟩
      · obtain ⟨sm, u6, u7, u8, u9, u10, rfl⟩ := hP
        have s58 := s57.trans sm
        have five : Sz 300 ((5 : Int) : Rat) := Sz.int (by decide) (by decide)
        have nn5' : (0 : Rat) ≤ ((5 : Int) : Rat) := Rat.intCast_nonneg.mpr (by decide)
        have zero0 : Sz 300 ((0 : Int) : Rat) := Sz.int (by decide) (by decide)
        have nn0 : (0 : Rat) ≤ ((0 : Int) : Rat) := Rat.intCast_nonneg.mpr (by decide)
        refine ⟨_, rfl, pr, dx, _, rfl, hpS _ (s58), no1 (by decide +kernel) (by decide +kernel), _, rfl, pr, dx, _, rfl, hpS _ (s58), no1 (by decide +kernel) (by decide +kernel), .ref pr, L, _, rfl, hRS _ (s58), l12, fun nm1 pn1 B1 b1 pm1 so1 _ hpn1 => ?_⟩
        obtain ⟨n0, tl0, rfl⟩ : ∃ n0 tl0, nm1 = n0 :: tl0 := by
          cases nm1 with
          | nil =>
            have := pm1.length_eq
            rw [List.length_map, ltr] at this
            have := g.ne
            simp at *
            omega
          | cons a l => exact ⟨a, l, rfl⟩
        have nm1' : n0 ∈ (rs.map (Rn1.tr L)).map (·.1) := pm1.mem_iff.mp List.mem_cons_self
        rw [List.map_map] at nm1'
        obtain ⟨r1, hr1, en⟩ := List.mem_map.mp nm1'
        have en : r1.n = n0 := en
        subst en
        have okr := g.ok r1 hr1
        have hmem : (r1.n, trk (rem r1.q L) r1.cs) ∈ rs.map (Rn1.tr L) := List.mem_map.mpr ⟨r1, hr1, rfl⟩
        have c1 := s58.trans b1
        refine ⟨pn1, _, 0, .str r1.n, rfl, rfl, .of hpn1, atI_nat (j := 0) rfl, .ref pr, .int 5, r1.n, L, _, trk (rem r1.q L) r1.cs, ((5 : Int) : Rat), rfl, hRS _ c1, g.tr, hmem, num_int 5, five, nn5', fun y1 K1 k1 e1 => ?_⟩
        have c2 := c1.trans k1
        refine ⟨_, rfl, pr, dx, _, rfl, hpS _ (c2), no1 (by decide +kernel) (by decide +kernel), _, rfl, pr, dx, _, rfl, hpS _ (c2), no1 (by decide +kernel) (by decide +kernel), .ref pr, L, _, rfl, hRS _ (c2), l12, fun nm2 pn2 B2 b2 pm2 so2 _ hpn2 => ?_⟩
        have u2 := sorted_uniq so2 so1 (pm2.trans pm1.symm)
        subst u2
        refine ⟨pn2, _, 0, .str r1.n, rfl, rfl, .of hpn2, atI_nat (j := 0) rfl, by show 2 ≤ sizeLine; decide, fun T nT => ?_⟩
        have hT : (upd B2 T (.tup [.int 5, .int 1])) T = some (.tup [.int 5, .int 1]) := upd_same
        have sT : Same B2 (upd B2 T (.tup [.int 5, .int 1])) := same_new nT
        show spPos K C _ (upd B2 T (.tup [.int 5, .int 1])) _ E0
        generalize (upd B2 T (.tup [.int 5, .int 1])) = K2 at hT sT ⊢
        have c3 := (c2.trans b2).trans sT
        have r5 : Rn K K2 (.ref T) ((5 : Int) : Rat) := ⟨T, rfl, .inl (.inl hT)⟩
        refine ⟨.ref pr, .ref T, r1.n, L, _, trk (rem r1.q L) r1.cs, ((5 : Int) : Rat), rfl, hRS _ c3, g.tr, hmem, r5.num, five, nn5', fun y2 K3 k3 e2 => ?_⟩
        refine ⟨_, _, (e1.same ((b2.trans sT).trans k3)).dp, e2.dp, shapedR _, shapedR _, _, rfl, ite2 (fun z => absurd z (by rw [eqvR]; decide)) (fun _ => ?_)⟩
        have c4 := c3.trans k3
        -- laps(names()[0], 0) != 0
        refine ⟨_, rfl, pr, dx, _, rfl, hpS _ (c4), no1 (by decide +kernel) (by decide +kernel), _, rfl, pr, dx, _, rfl, hpS _ (c4), no1 (by decide +kernel) (by decide +kernel), .ref pr, L, _, rfl, hRS _ (c4), l12, fun nm3 pn3 B3 b3 pm3 so3 _ hpn3 => ?_⟩
        have u3 := sorted_uniq so3 so1 (pm3.trans pm1.symm)
        subst u3
        have c5 := c4.trans b3
        have hz0 : posAt (trk (rem r1.q L) r1.cs) ((0 : Int) : Rat) = rem r1.q L := posAt_zero okr.pc
        have hself := rem_self (q := rem r1.q L) g.L0 (rem_nonneg g.L0) (rem_lt g.L0)
        refine ⟨pn3, _, 0, .str r1.n, rfl, rfl, .of hpn3, atI_nat (j := 0) rfl, .ref pr, .int 0, r1.n, L, _, trk (rem r1.q L) r1.cs, ((0 : Int) : Rat), rfl, hRS _ c5, g.tr, hmem, num_int 0, zero0, nn0, g.L0, g.zL, fun K4 k4 => ?_⟩
        rw [hz0, hself.1]
        refine ⟨rfl, _, rfl, ite2 (fun z => absurd z (by decide)) (fun _ => ?_)⟩
        have c6 := c5.trans k4
        -- place(names()[0], 0) != start(names()[0])
        refine ⟨_, rfl, pr, dx, _, rfl, hpS _ (c6), no1 (by decide +kernel) (by decide +kernel), _, rfl, pr, dx, _, rfl, hpS _ (c6), no1 (by decide +kernel) (by decide +kernel), .ref pr, L, _, rfl, hRS _ (c6), l12, fun nm4 pn4 B4 b4 pm4 so4 _ hpn4 => ?_⟩
        have u4 := sorted_uniq so4 so1 (pm4.trans pm1.symm)
        subst u4
        have c7 := c6.trans b4
        refine ⟨pn4, _, 0, .str r1.n, rfl, rfl, .of hpn4, atI_nat (j := 0) rfl, .ref pr, .int 0, r1.n, L, _, trk (rem r1.q L) r1.cs, ((0 : Int) : Rat), rfl, hRS _ c7, g.tr, hmem, num_int 0, zero0, nn0, g.L0, g.zL, fun y3 K5 k5 e3 => ?_⟩
        rw [hz0, hself.2] at e3
        have c8 := c7.trans k5
        refine ⟨_, rfl, pr, dx, _, rfl, hpS _ (c8), no1 (by decide +kernel) (by decide +kernel), _, rfl, pr, dx, _, rfl, hpS _ (c8), no1 (by decide +kernel) (by decide +kernel), .ref pr, L, _, rfl, hRS _ (c8), l12, fun nm5 pn5 B5 b5 pm5 so5 _ hpn5 => ?_⟩
        have u5 := sorted_uniq so5 so1 (pm5.trans pm1.symm)
        subst u5
        have c9 := c8.trans b5
        obtain ⟨cc, cs', ec1, ec2⟩ := trk_go (s0 := rem r1.q L) okr.pc.ne
        obtain ⟨tl, etl⟩ := trackGo_cons ⟨0, cc.2, rem r1.q L⟩ cs'
        rw [ec2, etl] at hmem
        refine ⟨pn5, _, 0, .str r1.n, rfl, rfl, .of hpn5, atI_nat (j := 0) rfl, .ref pr, r1.n, L, _, ⟨0, cc.2, rem r1.q L⟩, tl, rfl, hRS _ c9, g.tr, hmem, fun y4 e4 => ?_⟩
        have e4 : Rn K B5 y4 (rem r1.q L) := e4
        refine ⟨_, _, (e3.same b5).dp, e4.dp, shapedR _, shapedR _, _, rfl, ite2 (fun z => absurd z (by rw [eqvR]; decide)) (fun _ => ?_)⟩
        exact ⟨⟨_, _, _, _, _, _, _, _, _, _, _, rfl⟩, s05.trans c9⟩
    · obtain ⟨_, s1⟩ := hP
      exact q _ s1
end
end LR
set_option Elab.async false
set_option linter.all false
set_option maxRecDepth 100000
set_option maxHeartbeats 8000000
namespace LR
open PySem PySem.Spec PyProof.Rows L2
theorem all_mk {P : Program} {w : World} {K : PySem.W.Frag} {mg : Str → Option Value} {h : Heap} {fa : Addr} {fII : Addr} {ocII : Value} {odII anII : Option Addr} {slII : Array (Option Value)} {kVII dcII pmII cdII ctII : Value}
    {fIR : Addr} {ocIR : Value} {odIR anIR : Option Addr} {slIR : Array (Option Value)} {kVIR dcIR pmIR cdIR ctIR : Value}
    {fIN : Addr} {ocIN : Value} {odIN anIN : Option Addr} {slIN : Array (Option Value)} {kVIN dcIN pmIN cdIN ctIN : Value}
    {fAR : Addr} {ocAR : Value} {odAR anAR : Option Addr} {slAR : Array (Option Value)} {kVAR dcAR pmAR cdAR ctAR : Value}
    {fPl : Addr} {ocPl : Value} {odPl anPl : Option Addr} {slPl : Array (Option Value)} {kVPl dcPl pmPl cdPl ctPl : Value}
    {fMi : Addr} {ocMi : Value} {odMi anMi : Option Addr} {slMi : Array (Option Value)} {kVMi dcMi pmMi cdMi ctMi : Value}
    {fTi : Addr} {ocTi : Value} {odTi anTi : Option Addr} {slTi : Array (Option Value)} {kVTi dcTi pmTi cdTi ctTi : Value}
    {fDi : Addr} {ocDi : Value} {odDi anDi : Option Addr} {slDi : Array (Option Value)} {kVDi dcDi pmDi cdDi ctDi : Value}
    {fCo : Addr} {ocCo : Value} {odCo anCo : Option Addr} {slCo : Array (Option Value)} {kVCo dcCo pmCo cdCo ctCo : Value}
    {fFl : Addr} {ocFl : Value} {odFl anFl : Option Addr} {slFl : Array (Option Value)} {kVFl dcFl pmFl cdFl ctFl : Value}
    {fRe : Addr} {ocRe : Value} {odRe anRe : Option Addr} {slRe : Array (Option Value)} {kVRe dcRe pmRe cdRe ctRe : Value}
    {fIn : Addr} {ocIn : Value} {odIn anIn : Option Addr} {slIn : Array (Option Value)} {kVIn dcIn pmIn cdIn ctIn : Value}
    {fNm : Addr} {ocNm : Value} {odNm anNm : Option Addr} {slNm : Array (Option Value)} {kVNm dcNm pmNm cdNm ctNm : Value}
    {fPo : Addr} {ocPo : Value} {odPo anPo : Option Addr} {slPo : Array (Option Value)} {kVPo dcPo pmPo cdPo ctPo : Value}
    {fTm : Addr} {ocTm : Value} {odTm anTm : Option Addr} {slTm : Array (Option Value)} {kVTm dcTm pmTm cdTm ctTm : Value}
    {fNe : Addr} {ocNe : Value} {odNe anNe : Option Addr} {slNe : Array (Option Value)} {kVNe dcNe pmNe cdNe ctNe : Value}
    {fRn : Addr} {ocRn : Value} {odRn anRn : Option Addr} {slRn : Array (Option Value)} {kVRn dcRn pmRn cdRn ctRn : Value}
    {fPs : Addr} {ocPs : Value} {odPs anPs : Option Addr} {slPs : Array (Option Value)} {kVPs dcPs pmPs cdPs ctPs : Value}
    {fPc : Addr} {ocPc : Value} {odPc anPc : Option Addr} {slPc : Array (Option Value)} {kVPc dcPc pmPc cdPc ctPc : Value}
    {fTr : Addr} {ocTr : Value} {odTr anTr : Option Addr} {slTr : Array (Option Value)} {kVTr dcTr pmTr cdTr ctTr : Value}
    {fRa : Addr} {ocRa : Value} {odRa anRa : Option Addr} {slRa : Array (Option Value)} {kVRa dcRa pmRa cdRa ctRa : Value}
    {fPn : Addr} {ocPn : Value} {odPn anPn : Option Addr} {slPn : Array (Option Value)} {kVPn dcPn pmPn cdPn ctPn : Value}
    {fLP : Addr} {ocLP : Value} {odLP anLP : Option Addr} {slLP : Array (Option Value)} {kVLP dcLP pmLP cdLP ctLP : Value}
    {fLD : Addr} {ocLD : Value} {odLD anLD : Option Addr} {slLD : Array (Option Value)} {kVLD dcLD pmLD cdLD ctLD : Value}
    {fLC : Addr} {ocLC : Value} {odLC anLC : Option Addr} {slLC : Array (Option Value)} {kVLC dcLC pmLC cdLC ctLC : Value}
    {fLN : Addr} {ocLN : Value} {odLN anLN : Option Addr} {slLN : Array (Option Value)} {kVLN dcLN pmLN cdLN ctLN : Value}
    {fLS : Addr} {ocLS : Value} {odLS anLS : Option Addr} {slLS : Array (Option Value)} {kVLS dcLS pmLS cdLS ctLS : Value}
    {fLR : Addr} {ocLR : Value} {odLR anLR : Option Addr} {slLR : Array (Option Value)} {kVLR dcLR pmLR cdLR ctLR : Value}
    {fLL : Addr} {ocLL : Value} {odLL anLL : Option Addr} {slLL : Array (Option Value)} {kVLL dcLL pmLL cdLL ctLL : Value}
    {fL : Addr} {ocL : Value} {odL anL : Option Addr} {slL : Array (Option Value)} {kVL dcL pmL cdL ctL : Value}
    {C : Addr}
    {fmI : Addr} {ocmI : Value} {odmI anmI : Option Addr} {slmI : Array (Option Value)} {kVmI dcmI pmmI cdmI ctmI : Value}
    {fmC : Addr} {ocmC : Value} {odmC anmC : Option Addr} {slmC : Array (Option Value)} {kVmC dcmC pmmC cdmC ctmC : Value}
    {fmL : Addr} {ocmL : Value} {odmL anmL : Option Addr} {slmL : Array (Option Value)} {kVmL dcmL pmmL cdmL ctmL : Value}
    {pL : Addr} {restL : List Value}
    {fmN : Addr} {ocmN : Value} {odmN anmN : Option Addr} {slmN : Array (Option Value)} {kVmN dcmN pmmN cdmN ctmN : Value}
    {fmS : Addr} {ocmS : Value} {odmS anmS : Option Addr} {slmS : Array (Option Value)} {kVmS dcmS pmmS cdmS ctmS : Value}
    {fmP : Addr} {ocmP : Value} {odmP anmP : Option Addr} {slmP : Array (Option Value)} {kVmP dcmP pmmP cdmP ctmP : Value}
    {fmG : Addr} {ocmG : Value} {odmG anmG : Option Addr} {slmG : Array (Option Value)} {kVmG dcmG pmmG cdmG ctmG : Value}
    {fmQ : Addr} {ocmQ : Value} {odmQ anmQ : Option Addr} {slmQ : Array (Option Value)} {kVmQ dcmQ pmmQ cdmQ ctmQ : Value}
    {fmA : Addr} {ocmA : Value} {odmA anmA : Option Addr} {slmA : Array (Option Value)} {kVmA dcmA pmmA cdmA ctmA : Value}
    {fmB : Addr} {ocmB : Value} {odmB anmB : Option Addr} {slmB : Array (Option Value)} {kVmB dcmB pmmB cdmB ctmB : Value}
    {fR TR : Addr} {ocR ocT : Value} {odR anR odT : Option Addr} {slR slT : Array (Option Value)} {kVR dcR pmR cdR ctR : Value} {tR : Tok} {nTt : Nat}
    {CE1 : Addr}
    {CE2 : Addr}
    {CE3 : Addr}
    {tLe tDi tMl tMp tMr : Tok}
    (X : K.In h) (G : h.Ns mainGlobals mg) (hfa : mg "law" = some (.ref fa))
    (aII : PySem.W.nsIn K mainGlobals "is_integer" = some (some (.ref fII))) (lII : K.lookup fII = some ⟨ocII, odII, .func (PySem.W.fnOf "is_integer" "is_integer" (defArgs (topS 10)) (defBody (topS 10)) (defScope (topS 10)) .none kVII dcII pmII anII cdII ctII), slII⟩) (cII : PySem.W.codeIn K cdII "is_integer" = true) (kII : PySem.W.keepIn K (.ref fII) = true)
    (aIR : PySem.W.nsIn K mainGlobals "is_ratio" = some (some (.ref fIR))) (lIR : K.lookup fIR = some ⟨ocIR, odIR, .func (PySem.W.fnOf "is_ratio" "is_ratio" (defArgs (topS 11)) (defBody (topS 11)) (defScope (topS 11)) .none kVIR dcIR pmIR anIR cdIR ctIR), slIR⟩) (cIR : PySem.W.codeIn K cdIR "is_ratio" = true) (kIR : PySem.W.keepIn K (.ref fIR) = true)
    (aIN : PySem.W.nsIn K mainGlobals "is_number" = some (some (.ref fIN))) (lIN : K.lookup fIN = some ⟨ocIN, odIN, .func (PySem.W.fnOf "is_number" "is_number" (defArgs (topS 12)) (defBody (topS 12)) (defScope (topS 12)) .none kVIN dcIN pmIN anIN cdIN ctIN), slIN⟩) (cIN : PySem.W.codeIn K cdIN "is_number" = true) (kIN : PySem.W.keepIn K (.ref fIN) = true)
    (aAR : PySem.W.nsIn K mainGlobals "as_ratio" = some (some (.ref fAR))) (lAR : K.lookup fAR = some ⟨ocAR, odAR, .func (PySem.W.fnOf "as_ratio" "as_ratio" (defArgs (topS 13)) (defBody (topS 13)) (defScope (topS 13)) .none kVAR dcAR pmAR anAR cdAR ctAR), slAR⟩) (cAR : PySem.W.codeIn K cdAR "as_ratio" = true) (kAR : PySem.W.keepIn K (.ref fAR) = true)
    (aPl : PySem.W.nsIn K mainGlobals "plus" = some (some (.ref fPl))) (lPl : K.lookup fPl = some ⟨ocPl, odPl, .func (PySem.W.fnOf "plus" "plus" (defArgs (topS 15)) (defBody (topS 15)) (defScope (topS 15)) .none kVPl dcPl pmPl anPl cdPl ctPl), slPl⟩) (cPl : PySem.W.codeIn K cdPl "plus" = true) (kPl : PySem.W.keepIn K (.ref fPl) = true)
    (aMi : PySem.W.nsIn K mainGlobals "minus" = some (some (.ref fMi))) (lMi : K.lookup fMi = some ⟨ocMi, odMi, .func (PySem.W.fnOf "minus" "minus" (defArgs (topS 16)) (defBody (topS 16)) (defScope (topS 16)) .none kVMi dcMi pmMi anMi cdMi ctMi), slMi⟩) (cMi : PySem.W.codeIn K cdMi "minus" = true) (kMi : PySem.W.keepIn K (.ref fMi) = true)
    (aTi : PySem.W.nsIn K mainGlobals "times" = some (some (.ref fTi))) (lTi : K.lookup fTi = some ⟨ocTi, odTi, .func (PySem.W.fnOf "times" "times" (defArgs (topS 17)) (defBody (topS 17)) (defScope (topS 17)) .none kVTi dcTi pmTi anTi cdTi ctTi), slTi⟩) (cTi : PySem.W.codeIn K cdTi "times" = true) (kTi : PySem.W.keepIn K (.ref fTi) = true)
    (aDi : PySem.W.nsIn K mainGlobals "divided" = some (some (.ref fDi))) (lDi : K.lookup fDi = some ⟨ocDi, odDi, .func (PySem.W.fnOf "divided" "divided" (defArgs (topS 18)) (defBody (topS 18)) (defScope (topS 18)) .none kVDi dcDi pmDi anDi cdDi ctDi), slDi⟩) (cDi : PySem.W.codeIn K cdDi "divided" = true) (kDi : PySem.W.keepIn K (.ref fDi) = true)
    (aCo : PySem.W.nsIn K mainGlobals "compare" = some (some (.ref fCo))) (lCo : K.lookup fCo = some ⟨ocCo, odCo, .func (PySem.W.fnOf "compare" "compare" (defArgs (topS 19)) (defBody (topS 19)) (defScope (topS 19)) .none kVCo dcCo pmCo anCo cdCo ctCo), slCo⟩) (cCo : PySem.W.codeIn K cdCo "compare" = true) (kCo : PySem.W.keepIn K (.ref fCo) = true)
    (aFl : PySem.W.nsIn K mainGlobals "floor_of" = some (some (.ref fFl))) (lFl : K.lookup fFl = some ⟨ocFl, odFl, .func (PySem.W.fnOf "floor_of" "floor_of" (defArgs (topS 20)) (defBody (topS 20)) (defScope (topS 20)) .none kVFl dcFl pmFl anFl cdFl ctFl), slFl⟩) (cFl : PySem.W.codeIn K cdFl "floor_of" = true) (kFl : PySem.W.keepIn K (.ref fFl) = true)
    (aRe : PySem.W.nsIn K mainGlobals "remainder" = some (some (.ref fRe))) (lRe : K.lookup fRe = some ⟨ocRe, odRe, .func (PySem.W.fnOf "remainder" "remainder" (defArgs (topS 21)) (defBody (topS 21)) (defScope (topS 21)) .none kVRe dcRe pmRe anRe cdRe ctRe), slRe⟩) (cRe : PySem.W.codeIn K cdRe "remainder" = true) (kRe : PySem.W.keepIn K (.ref fRe) = true)
    (aIn : PySem.W.nsIn K mainGlobals "in_order" = some (some (.ref fIn))) (lIn : K.lookup fIn = some ⟨ocIn, odIn, .func (PySem.W.fnOf "in_order" "in_order" (defArgs (topS 22)) (defBody (topS 22)) (defScope (topS 22)) .none kVIn dcIn pmIn anIn cdIn ctIn), slIn⟩) (cIn : PySem.W.codeIn K cdIn "in_order" = true) (kIn : PySem.W.keepIn K (.ref fIn) = true)
    (aNm : PySem.W.nsIn K mainGlobals "is_name" = some (some (.ref fNm))) (lNm : K.lookup fNm = some ⟨ocNm, odNm, .func (PySem.W.fnOf "is_name" "is_name" (defArgs (topS 27)) (defBody (topS 27)) (defScope (topS 27)) .none kVNm dcNm pmNm anNm cdNm ctNm), slNm⟩) (cNm : PySem.W.codeIn K cdNm "is_name" = true) (kNm : PySem.W.keepIn K (.ref fNm) = true)
    (aPo : PySem.W.nsIn K mainGlobals "is_positive" = some (some (.ref fPo))) (lPo : K.lookup fPo = some ⟨ocPo, odPo, .func (PySem.W.fnOf "is_positive" "is_positive" (defArgs (topS 28)) (defBody (topS 28)) (defScope (topS 28)) .none kVPo dcPo pmPo anPo cdPo ctPo), slPo⟩) (cPo : PySem.W.codeIn K cdPo "is_positive" = true) (kPo : PySem.W.keepIn K (.ref fPo) = true)
    (aTm : PySem.W.nsIn K mainGlobals "as_time" = some (some (.ref fTm))) (lTm : K.lookup fTm = some ⟨ocTm, odTm, .func (PySem.W.fnOf "as_time" "as_time" (defArgs (topS 29)) (defBody (topS 29)) (defScope (topS 29)) .none kVTm dcTm pmTm anTm cdTm ctTm), slTm⟩) (cTm : PySem.W.codeIn K cdTm "as_time" = true) (kTm : PySem.W.keepIn K (.ref fTm) = true)
    (aNe : PySem.W.nsIn K mainGlobals "need_name" = some (some (.ref fNe))) (lNe : K.lookup fNe = some ⟨ocNe, odNe, .func (PySem.W.fnOf "need_name" "need_name" (defArgs (topS 30)) (defBody (topS 30)) (defScope (topS 30)) .none kVNe dcNe pmNe anNe cdNe ctNe), slNe⟩) (cNe : PySem.W.codeIn K cdNe "need_name" = true) (kNe : PySem.W.keepIn K (.ref fNe) = true)
    (aRn : PySem.W.nsIn K mainGlobals "_is_runner" = some (some (.ref fRn))) (lRn : K.lookup fRn = some ⟨ocRn, odRn, .func (PySem.W.fnOf "_is_runner" "_is_runner" (defArgs (topS 35)) (defBody (topS 35)) (defScope (topS 35)) .none kVRn dcRn pmRn anRn cdRn ctRn), slRn⟩) (cRn : PySem.W.codeIn K cdRn "_is_runner" = true) (kRn : PySem.W.keepIn K (.ref fRn) = true)
    (aPs : PySem.W.nsIn K mainGlobals "_are_pieces" = some (some (.ref fPs))) (lPs : K.lookup fPs = some ⟨ocPs, odPs, .func (PySem.W.fnOf "_are_pieces" "_are_pieces" (defArgs (topS 36)) (defBody (topS 36)) (defScope (topS 36)) .none kVPs dcPs pmPs anPs cdPs ctPs), slPs⟩) (cPs : PySem.W.codeIn K cdPs "_are_pieces" = true) (kPs : PySem.W.keepIn K (.ref fPs) = true)
    (aPc : PySem.W.nsIn K mainGlobals "_is_piece" = some (some (.ref fPc))) (lPc : K.lookup fPc = some ⟨ocPc, odPc, .func (PySem.W.fnOf "_is_piece" "_is_piece" (defArgs (topS 37)) (defBody (topS 37)) (defScope (topS 37)) .none kVPc dcPc pmPc anPc cdPc ctPc), slPc⟩) (cPc : PySem.W.codeIn K cdPc "_is_piece" = true) (kPc : PySem.W.keepIn K (.ref fPc) = true)
    (aTr : PySem.W.nsIn K mainGlobals "_track" = some (some (.ref fTr))) (lTr : K.lookup fTr = some ⟨ocTr, odTr, .func (PySem.W.fnOf "_track" "_track" (defArgs (topS 38)) (defBody (topS 38)) (defScope (topS 38)) .none kVTr dcTr pmTr anTr cdTr ctTr), slTr⟩) (cTr : PySem.W.codeIn K cdTr "_track" = true) (kTr : PySem.W.keepIn K (.ref fTr) = true)
    (aRa : PySem.W.nsIn K mainGlobals "_row_at" = some (some (.ref fRa))) (lRa : K.lookup fRa = some ⟨ocRa, odRa, .func (PySem.W.fnOf "_row_at" "_row_at" (defArgs (topS 39)) (defBody (topS 39)) (defScope (topS 39)) .none kVRa dcRa pmRa anRa cdRa ctRa), slRa⟩) (cRa : PySem.W.codeIn K cdRa "_row_at" = true) (kRa : PySem.W.keepIn K (.ref fRa) = true)
    (aPn : PySem.W.nsIn K mainGlobals "_position" = some (some (.ref fPn))) (lPn : K.lookup fPn = some ⟨ocPn, odPn, .func (PySem.W.fnOf "_position" "_position" (defArgs (topS 40)) (defBody (topS 40)) (defScope (topS 40)) .none kVPn dcPn pmPn anPn cdPn ctPn), slPn⟩) (cPn : PySem.W.codeIn K cdPn "_position" = true) (kPn : PySem.W.keepIn K (.ref fPn) = true)
    (aLP : PySem.W.nsIn K mainGlobals "_law_pool" = some (some (.ref fLP))) (lLP : K.lookup fLP = some ⟨ocLP, odLP, .func (PySem.W.fnOf "_law_pool" "_law_pool" (defArgs (topS 42)) (defBody (topS 42)) (defScope (topS 42)) .none kVLP dcLP pmLP anLP cdLP ctLP), slLP⟩) (cLP : PySem.W.codeIn K cdLP "_law_pool" = true) (kLP : PySem.W.keepIn K (.ref fLP) = true)
    (aLD : PySem.W.nsIn K mainGlobals "_law_draw" = some (some (.ref fLD))) (lLD : K.lookup fLD = some ⟨ocLD, odLD, .func (PySem.W.fnOf "_law_draw" "_law_draw" (defArgs (topS 43)) (defBody (topS 43)) (defScope (topS 43)) .none kVLD dcLD pmLD anLD cdLD ctLD), slLD⟩) (cLD : PySem.W.codeIn K cdLD "_law_draw" = true) (kLD : PySem.W.keepIn K (.ref fLD) = true)
    (aLC : PySem.W.nsIn K mainGlobals "_law_choose" = some (some (.ref fLC))) (lLC : K.lookup fLC = some ⟨ocLC, odLC, .func (PySem.W.fnOf "_law_choose" "_law_choose" (defArgs (topS 44)) (defBody (topS 44)) (defScope (topS 44)) .none kVLC dcLC pmLC anLC cdLC ctLC), slLC⟩) (cLC : PySem.W.codeIn K cdLC "_law_choose" = true) (kLC : PySem.W.keepIn K (.ref fLC) = true)
    (aLN : PySem.W.nsIn K mainGlobals "_law_number" = some (some (.ref fLN))) (lLN : K.lookup fLN = some ⟨ocLN, odLN, .func (PySem.W.fnOf "_law_number" "_law_number" (defArgs (topS 45)) (defBody (topS 45)) (defScope (topS 45)) .none kVLN dcLN pmLN anLN cdLN ctLN), slLN⟩) (cLN : PySem.W.codeIn K cdLN "_law_number" = true) (kLN : PySem.W.keepIn K (.ref fLN) = true)
    (aLS : PySem.W.nsIn K mainGlobals "_law_pieces" = some (some (.ref fLS))) (lLS : K.lookup fLS = some ⟨ocLS, odLS, .func (PySem.W.fnOf "_law_pieces" "_law_pieces" (defArgs (topS 46)) (defBody (topS 46)) (defScope (topS 46)) .none kVLS dcLS pmLS anLS cdLS ctLS), slLS⟩) (cLS : PySem.W.codeIn K cdLS "_law_pieces" = true) (kLS : PySem.W.keepIn K (.ref fLS) = true)
    (aLR : PySem.W.nsIn K mainGlobals "_law_race" = some (some (.ref fLR))) (lLR : K.lookup fLR = some ⟨ocLR, odLR, .func (PySem.W.fnOf "_law_race" "_law_race" (defArgs (topS 47)) (defBody (topS 47)) (defScope (topS 47)) .none kVLR dcLR pmLR anLR cdLR ctLR), slLR⟩) (cLR : PySem.W.codeIn K cdLR "_law_race" = true) (kLR : PySem.W.keepIn K (.ref fLR) = true)
    (aLL : PySem.W.nsIn K mainGlobals "_law_line" = some (some (.ref fLL))) (lLL : K.lookup fLL = some ⟨ocLL, odLL, .func (PySem.W.fnOf "_law_line" "_law_line" (defArgs (topS 48)) (defBody (topS 48)) (defScope (topS 48)) .none kVLL dcLL pmLL anLL cdLL ctLL), slLL⟩) (cLL : PySem.W.codeIn K cdLL "_law_line" = true) (kLL : PySem.W.keepIn K (.ref fLL) = true)
    (aL : PySem.W.nsIn K mainGlobals "law" = some (some (.ref fL))) (lL : K.lookup fL = some ⟨ocL, odL, .func (PySem.W.fnOf "law" "law" (defArgs (topS 49)) (defBody (topS 49)) (defScope (topS 49)) .none kVL dcL pmL anL cdL ctL), slL⟩) (cL : PySem.W.codeIn K cdL "law" = true) (kL : PySem.W.keepIn K (.ref fL) = true)
    (aC : PySem.W.nsIn K mainGlobals "Race" = some (some (.ref C))) (pg : PySem.W.plainGet K C Str.empty = true) (hd : PySem.W.hasDictIn K C = true) (po : PySem.W.plainOver K C = true) (sa : PySem.W.findIn K (.ref C) "__setattr__" = some (some (.builtin "object.__setattr__"))) (mk : PySem.W.makesIn K C = true) (kc : PySem.W.keepIn K (.ref C) = true) (nL : PySem.W.findIn K (.ref C) "_length" = some none) (nT : PySem.W.findIn K (.ref C) "_tracks" = some none)
    (amI : PySem.W.findIn K (.ref C) "__init__" = some (some (.ref fmI))) (imI : PySem.W.isFn K (.ref fmI) = true) (lmI : K.lookup fmI = some ⟨ocmI, odmI, .func (PySem.W.fnOf "__init__" "Race.__init__" (defArgs (inClass cRace 0)) (defBody (inClass cRace 0)) (defScope (inClass cRace 0)) .none kVmI dcmI pmmI anmI cdmI ctmI), slmI⟩) (cmI : PySem.W.codeIn K cdmI "Race.__init__" = true) (kmI : PySem.W.keepIn K (.ref fmI) = true)
    (amC : PySem.W.findIn K (.ref C) "__contains__" = some (some (.ref fmC))) (imC : PySem.W.isFn K (.ref fmC) = true) (lmC : K.lookup fmC = some ⟨ocmC, odmC, .func (PySem.W.fnOf "__contains__" "Race.__contains__" (defArgs (inClass cRace 3)) (defBody (inClass cRace 3)) (defScope (inClass cRace 3)) .none kVmC dcmC pmmC anmC cdmC ctmC), slmC⟩) (cmC : PySem.W.codeIn K cdmC "Race.__contains__" = true) (kmC : PySem.W.keepIn K (.ref fmC) = true)
    (aL1 : PySem.W.findIn K (.ref C) "length" = some (some (.ref pL))) (aL2 : PySem.W.specialIn K (.ref pL) "__get__" = some (some (.builtin "property.__get__"))) (aL3 : PySem.W.takesIn K (.ref pL) = some true) (aL4 : PySem.W.recIn K pL "property" = some (.ref fmL :: restL)) (lmL : K.lookup fmL = some ⟨ocmL, odmL, .func (PySem.W.fnOf "length" "Race.length" (defArgs (inClass cRace 4)) (defBody (inClass cRace 4)) (defScope (inClass cRace 4)) .none kVmL dcmL pmmL anmL cdmL ctmL), slmL⟩) (cmL : PySem.W.codeIn K cdmL "Race.length" = true) (kmL : PySem.W.keepIn K (.ref fmL) = true)
    (amN : PySem.W.findIn K (.ref C) "names" = some (some (.ref fmN))) (imN : PySem.W.isFn K (.ref fmN) = true) (lmN : K.lookup fmN = some ⟨ocmN, odmN, .func (PySem.W.fnOf "names" "Race.names" (defArgs (inClass cRace 5)) (defBody (inClass cRace 5)) (defScope (inClass cRace 5)) .none kVmN dcmN pmmN anmN cdmN ctmN), slmN⟩) (cmN : PySem.W.codeIn K cdmN "Race.names" = true) (kmN : PySem.W.keepIn K (.ref fmN) = true)
    (amS : PySem.W.findIn K (.ref C) "start" = some (some (.ref fmS))) (imS : PySem.W.isFn K (.ref fmS) = true) (lmS : K.lookup fmS = some ⟨ocmS, odmS, .func (PySem.W.fnOf "start" "Race.start" (defArgs (inClass cRace 6)) (defBody (inClass cRace 6)) (defScope (inClass cRace 6)) .none kVmS dcmS pmmS anmS cdmS ctmS), slmS⟩) (cmS : PySem.W.codeIn K cdmS "Race.start" = true) (kmS : PySem.W.keepIn K (.ref fmS) = true)
    (amP : PySem.W.findIn K (.ref C) "pieces" = some (some (.ref fmP))) (imP : PySem.W.isFn K (.ref fmP) = true) (lmP : K.lookup fmP = some ⟨ocmP, odmP, .func (PySem.W.fnOf "pieces" "Race.pieces" (defArgs (inClass cRace 7)) (defBody (inClass cRace 7)) (defScope (inClass cRace 7)) .none kVmP dcmP pmmP anmP cdmP ctmP), slmP⟩) (cmP : PySem.W.codeIn K cdmP "Race.pieces" = true) (kmP : PySem.W.keepIn K (.ref fmP) = true)
    (amG : PySem.W.findIn K (.ref C) "change_times" = some (some (.ref fmG))) (imG : PySem.W.isFn K (.ref fmG) = true) (lmG : K.lookup fmG = some ⟨ocmG, odmG, .func (PySem.W.fnOf "change_times" "Race.change_times" (defArgs (inClass cRace 8)) (defBody (inClass cRace 8)) (defScope (inClass cRace 8)) .none kVmG dcmG pmmG anmG cdmG ctmG), slmG⟩) (cmG : PySem.W.codeIn K cdmG "Race.change_times" = true) (kmG : PySem.W.keepIn K (.ref fmG) = true)
    (amQ : PySem.W.findIn K (.ref C) "position" = some (some (.ref fmQ))) (imQ : PySem.W.isFn K (.ref fmQ) = true) (lmQ : K.lookup fmQ = some ⟨ocmQ, odmQ, .func (PySem.W.fnOf "position" "Race.position" (defArgs (inClass cRace 9)) (defBody (inClass cRace 9)) (defScope (inClass cRace 9)) .none kVmQ dcmQ pmmQ anmQ cdmQ ctmQ), slmQ⟩) (cmQ : PySem.W.codeIn K cdmQ "Race.position" = true) (kmQ : PySem.W.keepIn K (.ref fmQ) = true)
    (amA : PySem.W.findIn K (.ref C) "place" = some (some (.ref fmA))) (imA : PySem.W.isFn K (.ref fmA) = true) (lmA : K.lookup fmA = some ⟨ocmA, odmA, .func (PySem.W.fnOf "place" "Race.place" (defArgs (inClass cRace 10)) (defBody (inClass cRace 10)) (defScope (inClass cRace 10)) .none kVmA dcmA pmmA anmA cdmA ctmA), slmA⟩) (cmA : PySem.W.codeIn K cdmA "Race.place" = true) (kmA : PySem.W.keepIn K (.ref fmA) = true)
    (amB : PySem.W.findIn K (.ref C) "laps" = some (some (.ref fmB))) (imB : PySem.W.isFn K (.ref fmB) = true) (lmB : K.lookup fmB = some ⟨ocmB, odmB, .func (PySem.W.fnOf "laps" "Race.laps" (defArgs (inClass cRace 11)) (defBody (inClass cRace 11)) (defScope (inClass cRace 11)) .none kVmB dcmB pmmB anmB cdmB ctmB), slmB⟩) (cmB : PySem.W.codeIn K cdmB "Race.laps" = true) (kmB : PySem.W.keepIn K (.ref fmB) = true)
    (aR : PySem.W.nsIn K mainGlobals "ratio" = some (some (.ref fR))) (lR : K.lookup fR = some ⟨ocR, odR, .func (PySem.W.fnOf "ratio" "ratio" (defArgs (topS 14)) (defBody (topS 14)) (defScope (topS 14)) (.ref TR) kVR dcR pmR anR cdR ctR), slR⟩) (cR : PySem.W.codeIn K cdR "ratio" = true) (kR : PySem.W.keepIn K (.ref fR) = true) (lT : K.lookup TR = some ⟨ocT, odT, .seq #[.int 1 tR] nTt, slT⟩)
    (gE1 : PySem.W.nsIn K mainGlobals "InvalidNumber" = some (some (.ref CE1))) (kE1 : PySem.W.keepIn K (.ref CE1) = true) (qE1 : PySem.W.excIn K CE1 BMv "ValueError.__new__" = true) (bE1 : PySem.W.subIn K (.ref CE1) (.type "BaseException") = some true) (tE1 : PySem.W.typeIn K (.ref CE1) = some (.type "type"))
    (gE2 : PySem.W.nsIn K mainGlobals "DivisionByZero" = some (some (.ref CE2))) (kE2 : PySem.W.keepIn K (.ref CE2) = true) (qE2 : PySem.W.excIn K CE2 BMa "ArithmeticError.__new__" = true) (bE2 : PySem.W.subIn K (.ref CE2) (.type "BaseException") = some true) (tE2 : PySem.W.typeIn K (.ref CE2) = some (.type "type"))
    (gE3 : PySem.W.nsIn K mainGlobals "InvalidTime" = some (some (.ref CE3))) (kE3 : PySem.W.keepIn K (.ref CE3) = true) (qE3 : PySem.W.excIn K CE3 BMv "ValueError.__new__" = true) (bE3 : PySem.W.subIn K (.ref CE3) (.type "BaseException") = some true) (tE3 : PySem.W.typeIn K (.ref CE3) = some (.type "type"))
    (vLe : PySem.W.nsIn K mainGlobals "LETTERS" = some (some (.str letters tLe))) (vDi : PySem.W.nsIn K mainGlobals "DIGITS" = some (some (.str digits tDi))) (vMl : PySem.W.nsIn K mainGlobals "MOST_LETTERS" = some (some (.int 8 tMl))) (vMp : PySem.W.nsIn K mainGlobals "MOST_PIECES" = some (some (.int 20 tMp))) (vMr : PySem.W.nsIn K mainGlobals "MOST_RUNNERS" = some (some (.int 12 tMr)))
    (gcd : PySem.W.nsIn K mainGlobals "gcd" = some (some (.builtin "math.gcd")))
    (n_isinstance : PySem.W.nsIn K mainGlobals "isinstance" = some none)
    (n_int : PySem.W.nsIn K mainGlobals "int" = some none)
    (n_bool : PySem.W.nsIn K mainGlobals "bool" = some none)
    (n_tuple : PySem.W.nsIn K mainGlobals "tuple" = some none)
    (n_list : PySem.W.nsIn K mainGlobals "list" = some none)
    (n_len : PySem.W.nsIn K mainGlobals "len" = some none)
    (n_max : PySem.W.nsIn K mainGlobals "max" = some none)
    (n_min : PySem.W.nsIn K mainGlobals "min" = some none)
    (n_sorted : PySem.W.nsIn K mainGlobals "sorted" = some none)
    (n_range : PySem.W.nsIn K mainGlobals "range" = some none)
    (n_str : PySem.W.nsIn K mainGlobals "str" = some none)
    (n_all : PySem.W.nsIn K mainGlobals "all" = some none)
    (n_dict : PySem.W.nsIn K mainGlobals "dict" = some none) :
    ∃ fd : FuncData, (∀ (s : Shared) (u : Value), BindsTo s fd ⟨[u], []⟩ [("script", u)]) ∧ ∀ base : Heap, K.In base → base.Ns mainGlobals mg → LG.FnG P w K mg base (CXl P w) 10 fa fd ["script"] (spLaw K) := by
  have e := hfa.symm.trans (PySem.W.mg_of X G aL)
  cases e
  have FII := fun_mk (st := topS 10) lII cII kII
  have DII : DefAt K mg "is_integer" (topS 10) ["value"] _ _ := ⟨FII, PySem.W.mg_of X G aII, FII.binds (ps := ["value"]) fun _ _ _ _ _ _ us hl => match us, hl with | [_], _ => rfl⟩
  have FIR := fun_mk (st := topS 11) lIR cIR kIR
  have DIR : DefAt K mg "is_ratio" (topS 11) ["value"] _ _ := ⟨FIR, PySem.W.mg_of X G aIR, FIR.binds (ps := ["value"]) fun _ _ _ _ _ _ us hl => match us, hl with | [_], _ => rfl⟩
  have FIN := fun_mk (st := topS 12) lIN cIN kIN
  have DIN : DefAt K mg "is_number" (topS 12) ["value"] _ _ := ⟨FIN, PySem.W.mg_of X G aIN, FIN.binds (ps := ["value"]) fun _ _ _ _ _ _ us hl => match us, hl with | [_], _ => rfl⟩
  have FAR := fun_mk (st := topS 13) lAR cAR kAR
  have DAR : DefAt K mg "as_ratio" (topS 13) ["value"] _ _ := ⟨FAR, PySem.W.mg_of X G aAR, FAR.binds (ps := ["value"]) fun _ _ _ _ _ _ us hl => match us, hl with | [_], _ => rfl⟩
  have FPl := fun_mk (st := topS 15) lPl cPl kPl
  have DPl : DefAt K mg "plus" (topS 15) ["first", "second"] _ _ := ⟨FPl, PySem.W.mg_of X G aPl, FPl.binds (ps := ["first", "second"]) fun _ _ _ _ _ _ us hl => match us, hl with | [_, _], _ => rfl⟩
  have FMi := fun_mk (st := topS 16) lMi cMi kMi
  have DMi : DefAt K mg "minus" (topS 16) ["first", "second"] _ _ := ⟨FMi, PySem.W.mg_of X G aMi, FMi.binds (ps := ["first", "second"]) fun _ _ _ _ _ _ us hl => match us, hl with | [_, _], _ => rfl⟩
  have FTi := fun_mk (st := topS 17) lTi cTi kTi
  have DTi : DefAt K mg "times" (topS 17) ["first", "second"] _ _ := ⟨FTi, PySem.W.mg_of X G aTi, FTi.binds (ps := ["first", "second"]) fun _ _ _ _ _ _ us hl => match us, hl with | [_, _], _ => rfl⟩
  have FDi := fun_mk (st := topS 18) lDi cDi kDi
  have DDi : DefAt K mg "divided" (topS 18) ["first", "second"] _ _ := ⟨FDi, PySem.W.mg_of X G aDi, FDi.binds (ps := ["first", "second"]) fun _ _ _ _ _ _ us hl => match us, hl with | [_, _], _ => rfl⟩
  have FCo := fun_mk (st := topS 19) lCo cCo kCo
  have DCo : DefAt K mg "compare" (topS 19) ["first", "second"] _ _ := ⟨FCo, PySem.W.mg_of X G aCo, FCo.binds (ps := ["first", "second"]) fun _ _ _ _ _ _ us hl => match us, hl with | [_, _], _ => rfl⟩
  have FFl := fun_mk (st := topS 20) lFl cFl kFl
  have DFl : DefAt K mg "floor_of" (topS 20) ["value"] _ _ := ⟨FFl, PySem.W.mg_of X G aFl, FFl.binds (ps := ["value"]) fun _ _ _ _ _ _ us hl => match us, hl with | [_], _ => rfl⟩
  have FRe := fun_mk (st := topS 21) lRe cRe kRe
  have DRe : DefAt K mg "remainder" (topS 21) ["value", "modulus"] _ _ := ⟨FRe, PySem.W.mg_of X G aRe, FRe.binds (ps := ["value", "modulus"]) fun _ _ _ _ _ _ us hl => match us, hl with | [_, _], _ => rfl⟩
  have FIn := fun_mk (st := topS 22) lIn cIn kIn
  have DIn : DefAt K mg "in_order" (topS 22) ["values"] _ _ := ⟨FIn, PySem.W.mg_of X G aIn, FIn.binds (ps := ["values"]) fun _ _ _ _ _ _ us hl => match us, hl with | [_], _ => rfl⟩
  have FNm := fun_mk (st := topS 27) lNm cNm kNm
  have DNm : DefAt K mg "is_name" (topS 27) ["value"] _ _ := ⟨FNm, PySem.W.mg_of X G aNm, FNm.binds (ps := ["value"]) fun _ _ _ _ _ _ us hl => match us, hl with | [_], _ => rfl⟩
  have FPo := fun_mk (st := topS 28) lPo cPo kPo
  have DPo : DefAt K mg "is_positive" (topS 28) ["value"] _ _ := ⟨FPo, PySem.W.mg_of X G aPo, FPo.binds (ps := ["value"]) fun _ _ _ _ _ _ us hl => match us, hl with | [_], _ => rfl⟩
  have FTm := fun_mk (st := topS 29) lTm cTm kTm
  have DTm : DefAt K mg "as_time" (topS 29) ["value"] _ _ := ⟨FTm, PySem.W.mg_of X G aTm, FTm.binds (ps := ["value"]) fun _ _ _ _ _ _ us hl => match us, hl with | [_], _ => rfl⟩
  have FNe := fun_mk (st := topS 30) lNe cNe kNe
  have DNe : DefAt K mg "need_name" (topS 30) ["race", "name"] _ _ := ⟨FNe, PySem.W.mg_of X G aNe, FNe.binds (ps := ["race", "name"]) fun _ _ _ _ _ _ us hl => match us, hl with | [_, _], _ => rfl⟩
  have FRn := fun_mk (st := topS 35) lRn cRn kRn
  have DRn : DefAt K mg "_is_runner" (topS 35) ["value"] _ _ := ⟨FRn, PySem.W.mg_of X G aRn, FRn.binds (ps := ["value"]) fun _ _ _ _ _ _ us hl => match us, hl with | [_], _ => rfl⟩
  have FPs := fun_mk (st := topS 36) lPs cPs kPs
  have DPs : DefAt K mg "_are_pieces" (topS 36) ["value"] _ _ := ⟨FPs, PySem.W.mg_of X G aPs, FPs.binds (ps := ["value"]) fun _ _ _ _ _ _ us hl => match us, hl with | [_], _ => rfl⟩
  have FPc := fun_mk (st := topS 37) lPc cPc kPc
  have DPc : DefAt K mg "_is_piece" (topS 37) ["value"] _ _ := ⟨FPc, PySem.W.mg_of X G aPc, FPc.binds (ps := ["value"]) fun _ _ _ _ _ _ us hl => match us, hl with | [_], _ => rfl⟩
  have FTr := fun_mk (st := topS 38) lTr cTr kTr
  have DTr : DefAt K mg "_track" (topS 38) ["start", "pieces"] _ _ := ⟨FTr, PySem.W.mg_of X G aTr, FTr.binds (ps := ["start", "pieces"]) fun _ _ _ _ _ _ us hl => match us, hl with | [_, _], _ => rfl⟩
  have FRa := fun_mk (st := topS 39) lRa cRa kRa
  have DRa : DefAt K mg "_row_at" (topS 39) ["rows", "time"] _ _ := ⟨FRa, PySem.W.mg_of X G aRa, FRa.binds (ps := ["rows", "time"]) fun _ _ _ _ _ _ us hl => match us, hl with | [_, _], _ => rfl⟩
  have FPn := fun_mk (st := topS 40) lPn cPn kPn
  have DPn : DefAt K mg "_position" (topS 40) ["row", "time"] _ _ := ⟨FPn, PySem.W.mg_of X G aPn, FPn.binds (ps := ["row", "time"]) fun _ _ _ _ _ _ us hl => match us, hl with | [_, _], _ => rfl⟩
  have FLP := fun_mk (st := topS 42) lLP cLP kLP
  have DLP : DefAt K mg "_law_pool" (topS 42) ["script", "k"] _ _ := ⟨FLP, PySem.W.mg_of X G aLP, FLP.binds (ps := ["script", "k"]) fun _ _ _ _ _ _ us hl => match us, hl with | [_, _], _ => rfl⟩
  have FLD := fun_mk (st := topS 43) lLD cLD kLD
  have DLD : DefAt K mg "_law_draw" (topS 43) ["pool", "many"] _ _ := ⟨FLD, PySem.W.mg_of X G aLD, FLD.binds (ps := ["pool", "many"]) fun _ _ _ _ _ _ us hl => match us, hl with | [_, _], _ => rfl⟩
  have FLC := fun_mk (st := topS 44) lLC cLC kLC
  have DLC : DefAt K mg "_law_choose" (topS 44) ["pool", "items"] _ _ := ⟨FLC, PySem.W.mg_of X G aLC, FLC.binds (ps := ["pool", "items"]) fun _ _ _ _ _ _ us hl => match us, hl with | [_, _], _ => rfl⟩
  have FLN := fun_mk (st := topS 45) lLN cLN kLN
  have DLN : DefAt K mg "_law_number" (topS 45) ["pool", "low", "high"] _ _ := ⟨FLN, PySem.W.mg_of X G aLN, FLN.binds (ps := ["pool", "low", "high"]) fun _ _ _ _ _ _ us hl => match us, hl with | [_, _, _], _ => rfl⟩
  have FLS := fun_mk (st := topS 46) lLS cLS kLS
  have DLS : DefAt K mg "_law_pieces" (topS 46) ["pool"] _ _ := ⟨FLS, PySem.W.mg_of X G aLS, FLS.binds (ps := ["pool"]) fun _ _ _ _ _ _ us hl => match us, hl with | [_], _ => rfl⟩
  have FLR := fun_mk (st := topS 47) lLR cLR kLR
  have DLR : DefAt K mg "_law_race" (topS 47) ["pool", "many"] _ _ := ⟨FLR, PySem.W.mg_of X G aLR, FLR.binds (ps := ["pool", "many"]) fun _ _ _ _ _ _ us hl => match us, hl with | [_, _], _ => rfl⟩
  have FLL := fun_mk (st := topS 48) lLL cLL kLL
  have DLL : DefAt K mg "_law_line" (topS 48) ["race", "name", "time"] _ _ := ⟨FLL, PySem.W.mg_of X G aLL, FLL.binds (ps := ["race", "name", "time"]) fun _ _ _ _ _ _ us hl => match us, hl with | [_, _, _], _ => rfl⟩
  have FL := fun_mk (st := topS 49) lL cL kL
  have DL : DefAt K mg "law" (topS 49) ["script"] _ _ := ⟨FL, PySem.W.mg_of X G aL, FL.binds (ps := ["script"]) fun _ _ _ _ _ _ us hl => match us, hl with | [_], _ => rfl⟩
  have T : RaceT K C := ⟨⟨pg, hd, po, sa⟩, nL, nT⟩
  have MmI : Meth K C "__init__" fmI := ⟨amI, imI, kmI⟩
  have FmI := fun_mk (st := inClass cRace 0) lmI cmI kmI
  have bmI := FmI.binds (ps := ["self", "length", "runners"]) fun _ _ _ _ _ _ us hl => match us, hl with | [_, _, _], _ => rfl
  have MmC : Meth K C "__contains__" fmC := ⟨amC, imC, kmC⟩
  have FmC := fun_mk (st := inClass cRace 3) lmC cmC kmC
  have bmC := FmC.binds (ps := ["self", "name"]) fun _ _ _ _ _ _ us hl => match us, hl with | [_, _], _ => rfl
  have FmL := fun_mk (st := inClass cRace 4) lmL cmL kmL
  have bmL := FmL.binds (ps := ["self"]) fun _ _ _ _ _ _ us hl => match us, hl with | [_], _ => rfl
  have MmN : Meth K C "names" fmN := ⟨amN, imN, kmN⟩
  have FmN := fun_mk (st := inClass cRace 5) lmN cmN kmN
  have bmN := FmN.binds (ps := ["self"]) fun _ _ _ _ _ _ us hl => match us, hl with | [_], _ => rfl
  have MmS : Meth K C "start" fmS := ⟨amS, imS, kmS⟩
  have FmS := fun_mk (st := inClass cRace 6) lmS cmS kmS
  have bmS := FmS.binds (ps := ["self", "name"]) fun _ _ _ _ _ _ us hl => match us, hl with | [_, _], _ => rfl
  have MmP : Meth K C "pieces" fmP := ⟨amP, imP, kmP⟩
  have FmP := fun_mk (st := inClass cRace 7) lmP cmP kmP
  have bmP := FmP.binds (ps := ["self", "name"]) fun _ _ _ _ _ _ us hl => match us, hl with | [_, _], _ => rfl
  have MmG : Meth K C "change_times" fmG := ⟨amG, imG, kmG⟩
  have FmG := fun_mk (st := inClass cRace 8) lmG cmG kmG
  have bmG := FmG.binds (ps := ["self"]) fun _ _ _ _ _ _ us hl => match us, hl with | [_], _ => rfl
  have MmQ : Meth K C "position" fmQ := ⟨amQ, imQ, kmQ⟩
  have FmQ := fun_mk (st := inClass cRace 9) lmQ cmQ kmQ
  have bmQ := FmQ.binds (ps := ["self", "name", "time"]) fun _ _ _ _ _ _ us hl => match us, hl with | [_, _, _], _ => rfl
  have MmA : Meth K C "place" fmA := ⟨amA, imA, kmA⟩
  have FmA := fun_mk (st := inClass cRace 10) lmA cmA kmA
  have bmA := FmA.binds (ps := ["self", "name", "time"]) fun _ _ _ _ _ _ us hl => match us, hl with | [_, _, _], _ => rfl
  have MmB : Meth K C "laps" fmB := ⟨amB, imB, kmB⟩
  have FmB := fun_mk (st := inClass cRace 11) lmB cmB kmB
  have bmB := FmB.binds (ps := ["self", "name", "time"]) fun _ _ _ _ _ _ us hl => match us, hl with | [_, _, _], _ => rfl
  have XE1 : ErrAt K mg "InvalidNumber" BMv "ValueError.__new__" CE1 := ⟨PySem.W.mg_of X G gE1, kE1, qE1, bE1, tE1⟩
  have XE2 : ErrAt K mg "DivisionByZero" BMa "ArithmeticError.__new__" CE2 := ⟨PySem.W.mg_of X G gE2, kE2, qE2, bE2, tE2⟩
  have XE3 : ErrAt K mg "InvalidTime" BMv "ValueError.__new__" CE3 := ⟨PySem.W.mg_of X G gE3, kE3, qE3, bE3, tE3⟩
  have mgcd := PySem.W.mg_of X G gcd
  have m_isinstance := PySem.W.mg_none_of X G n_isinstance
  have m_int := PySem.W.mg_none_of X G n_int
  have m_bool := PySem.W.mg_none_of X G n_bool
  have m_tuple := PySem.W.mg_none_of X G n_tuple
  have m_list := PySem.W.mg_none_of X G n_list
  have m_len := PySem.W.mg_none_of X G n_len
  have m_max := PySem.W.mg_none_of X G n_max
  have m_min := PySem.W.mg_none_of X G n_min
  have m_sorted := PySem.W.mg_none_of X G n_sorted
  have m_range := PySem.W.mg_none_of X G n_range
  have m_str := PySem.W.mg_none_of X G n_str
  have m_all := PySem.W.mg_none_of X G n_all
  have m_dict := PySem.W.mg_none_of X G n_dict
  have FR : FunD K "ratio" "ratio" (defArgs (topS 14)) (defBody (topS 14)) (defScope (topS 14)) [.int 1] [] fR _ := ⟨⟨_, _, _, _, _, _, _, _, _, _, rfl, lR, cR, .inr ⟨by simp, TR, _, [.int 1 tR], nTt, rfl, lT, rfl, .cons ⟨_, rfl⟩ .nil⟩, .inl rfl⟩, kR⟩
  obtain ⟨ds2, hds2, bR2⟩ := FR.binds1 (ps := ["numerator", "denominator"]) 2 1 (by simp) rfl fun T kV doc pm an cdv ct us its h1 h2 => match us, h1, its, h2 with | [_, _], _, [_], _ => ⟨_, rfl, rfl⟩
  have hz : ds2 = [] := by cases hds2; rfl
  subst hz
  have DR : DefD K mg "ratio" (topS 14) ["numerator", "denominator"] [.int 1] fR _ := ⟨FR, PySem.W.mg_of X G aR, bR2⟩
  have mC := PySem.W.mg_of X G aC
  have MK : Mk K C fmI := ⟨mk, amI, imI, kc⟩
  have PL : PropOf K C "length" pL fmL := ⟨aL1, aL2, aL3, restL, aL4⟩
  refine ⟨PySem.W.fnOf "law" "law" (defArgs (topS 49)) (defBody (topS 49)) (defScope (topS 49)) .none kVL dcL pmL anL cdL ctL, fun s u => .of_eq rfl, fun base KB GB => ?_⟩
  have GII := ok_II (P := P) (w := w) (mg := mg) (base := base) FII m_isinstance m_int m_bool
  have GIR := ok_IR (P := P) (w := w) (mg := mg) (base := base) FIR DII m_isinstance m_int m_bool m_tuple m_len mgcd
  have GIN := ok_IN (P := P) (w := w) (mg := mg) (base := base) DIN DII DIR GII GIR
  have GAR := ok_AR (P := P) (w := w) (mg := mg) (base := base) FAR DII DIR XE1 GII GIR
  have GR := ok_Ratio (P := P) (w := w) (mg := mg) (base := base) DR DII XE1 XE2 mgcd GII
  have GPl := ok_plus (P := P) (w := w) (mg := mg) (base := base) DPl DAR DR GAR GR
  have GMi := ok_minus (P := P) (w := w) (mg := mg) (base := base) DMi DAR DR GAR GR
  have GTi := ok_times (P := P) (w := w) (mg := mg) (base := base) DTi DAR DR GAR GR
  have GDi := ok_divided (P := P) (w := w) (mg := mg) (base := base) DDi DAR DR GAR GR
  have GCo := ok_compare (P := P) (w := w) (mg := mg) (base := base) DCo DAR GAR
  have GFl := ok_floor (P := P) (w := w) (mg := mg) (base := base) DFl DAR GAR
  have GRe := ok_rem (P := P) (w := w) (mg := mg) (base := base) DRe DAR DR XE2 GAR GR
  have GIn := ok_InO (P := P) (w := w) (mg := mg) (base := base) DIn DAR XE1 m_isinstance m_list m_max m_sorted GAR
  have GNm := ok_Nam (P := P) (w := w) (mg := mg) (base := base) DNm (PySem.W.mg_of X G vLe) (PySem.W.mg_of X G vDi) (PySem.W.mg_of X G vMl) m_isinstance m_str m_len m_all
  have GPo := ok_Posi (P := P) (w := w) (mg := mg) (base := base) DPo DIN DCo GIN GCo
  have GTm := ok_Time (P := P) (w := w) (mg := mg) (base := base) DTm DIN DCo DAR XE3 GIN GCo GAR
  have GPc := ok_IsP (P := P) (w := w) (mg := mg) (base := base) DPc DIN m_isinstance m_tuple m_len GIN
  have GPs := ok_AreP (P := P) (w := w) (mg := mg) (base := base) DPs DPc DCo DIn DAR (PySem.W.mg_of X G vMp) m_isinstance m_list m_tuple m_len m_all GPc GCo GIn GAR
  have GRn := ok_IsRn (P := P) (w := w) (mg := mg) (base := base) DRn DIN DPs m_isinstance m_tuple m_len GIN GPs
  have GPn := ok_Posn (P := P) (w := w) (mg := mg) (base := base) DPn DPl DMi DTi GPl GMi GTi
  have GRa := ok_RowA (P := P) (w := w) (mg := mg) (base := base) DRa DCo GCo
  have GTr := ok_Trk (P := P) (w := w) (mg := mg) (base := base) DTr DAR DPn GAR GPn
  have GmC := ok_Cont (P := P) (w := w) (mg := mg) (base := base) FmC T m_isinstance m_str
  have GNe := ok_Need (P := P) (w := w) (mg := mg) (base := base) DNe MmC bmC GmC
  have GmI := ok_Init (P := P) (w := w) (mg := mg) (base := base) FmI T DPo DNm DAR DRn DTr DRe (PySem.W.mg_of X G vMr) m_isinstance m_dict m_len GPo GNm GAR GRn GTr GRe
  have GmL := ok_Len (P := P) (w := w) (mg := mg) (base := base) FmL T
  have GmN := ok_Names (P := P) (w := w) (mg := mg) (base := base) FmN T m_sorted
  have GmS := ok_Start (P := P) (w := w) (mg := mg) (base := base) FmS T DNe GNe
  have GmP := ok_Pcs (P := P) (w := w) (mg := mg) (base := base) FmP T DNe GNe
  have GmQ := ok_Pos (P := P) (w := w) (mg := mg) (base := base) FmQ T DNe DTm DPn DRa GNe GTm GPn GRa
  have GmA := ok_Place (P := P) (w := w) (mg := mg) (base := base) FmA T MmQ bmQ DRe GmQ GRe
  have GmB := ok_Laps (P := P) (w := w) (mg := mg) (base := base) FmB T MmQ bmQ DDi DFl GmQ GDi GFl
  have GmG := ok_Chg (P := P) (w := w) (mg := mg) (base := base) FmG T MmN bmN DIn GmN GIn
  have GLP := ok_Pool (P := P) (w := w) (mg := mg) (base := base) DLP m_len
  have GLD := ok_Draw (P := P) (w := w) (mg := mg) (base := base) DLD
  have GLC := ok_Choose (P := P) (w := w) (mg := mg) (base := base) DLC DLD m_len GLD
  have GLN := ok_Num (P := P) (w := w) (mg := mg) (base := base) DLN DLD DR GLD GR
  have GLS := ok_LPcs (P := P) (w := w) (mg := mg) (base := base) DLS DLN DPl DLD DR m_range GLN GPl GLD GR
  have GLR := ok_LRace (P := P) (w := w) (mg := mg) (base := base) DLR DLN DLS DLC MK mC bmI GLN GLS GLC GmI
  have GLL := ok_Line (P := P) (w := w) (mg := mg) (base := base) DLL T MmS bmS MmP bmP DCo DPl DTi DMi m_len GmS GmP GCo GPl GTi GMi
  exact (ok_Law DL ⟨T, DLP, GLP, DLD, GLD, DLN, GLN, DLR, GLR, DLL, GLL, PL, GmL, bmL, MmN, GmN, bmN, MmG, GmG, bmG, MmQ, GmQ, bmQ, MmA, GmA, bmA, MmB, GmB, bmB, MmS, GmS, bmS, MK, mC, GmI, bmI, DR, GR, DPl, GPl, DTi, GTi, DCo, GCo, m_range, m_len, m_max, m_min, m_list, m_isinstance, m_tuple⟩).toG
end LR
open PySem PySem.W PyProof.Rows
set_option Elab.async false
set_option linter.all false
set_option maxRecDepth 100000
set_option maxHeartbeats 0 in
theorem PySem.Challenge.cw_laprunners_k06_positions_and_laps_holds : PySem.Challenge.rw_laprunners_k06_positions_and_laps.Holds := by
  w_on; o_law; k_head; (case hw => w_witness2)
  k_fill
  refine LG.walk_G (l := PySem.Challenge.rw_laprunners_k06_positions_and_laps) (n := 63) (k := 10) (x := "script") (CX := fun w => LR.CXl (PySem.Challenge.rw_laprunners_k06_positions_and_laps).prog w) (sp := fun w => LR.spLaw _) rfl (by decide) rfl ⟨rfl, by decide, by decide⟩ (fun w h Y => PySem.W.kIn_of Y) ?F
    (fun w H a ns hl _ hS => ⟨a, ns, rfl, hS, hl, fun H' s => s.seq hS, fun H' _ => rfl⟩) (fun w H s e s' z => ?Z)
  case Z =>
    obtain ⟨_, _, _, _, _, _, _, _, _, _, _, _, z⟩ := z
    exact z
  case F =>
    intro w mg fa h KX G hmg
    refine' LR.all_mk KX G hmg ?aII ?lII ?cII ?kII ?aIR ?lIR ?cIR ?kIR ?aIN ?lIN ?cIN ?kIN ?aAR ?lAR ?cAR ?kAR ?aPl ?lPl ?cPl ?kPl ?aMi ?lMi ?cMi ?kMi ?aTi ?lTi ?cTi ?kTi ?aDi ?lDi ?cDi ?kDi ?aCo ?lCo ?cCo ?kCo ?aFl ?lFl ?cFl ?kFl ?aRe ?lRe ?cRe ?kRe ?aIn ?lIn ?cIn ?kIn ?aNm ?lNm ?cNm ?kNm ?aPo ?lPo ?cPo ?kPo ?aTm ?lTm ?cTm ?kTm ?aNe ?lNe ?cNe ?kNe ?aRn ?lRn ?cRn ?kRn ?aPs ?lPs ?cPs ?kPs ?aPc ?lPc ?cPc ?kPc ?aTr ?lTr ?cTr ?kTr ?aRa ?lRa ?cRa ?kRa ?aPn ?lPn ?cPn ?kPn ?aLP ?lLP ?cLP ?kLP ?aLD ?lLD ?cLD ?kLD ?aLC ?lLC ?cLC ?kLC ?aLN ?lLN ?cLN ?kLN ?aLS ?lLS ?cLS ?kLS ?aLR ?lLR ?cLR ?kLR ?aLL ?lLL ?cLL ?kLL ?aL ?lL ?cL ?kL ?aC ?pg ?hd ?po ?sa ?mk ?kc ?nL ?nT ?amI ?imI ?lmI ?cmI ?kmI ?amC ?imC ?lmC ?cmC ?kmC ?aL1 ?aL2 ?aL3 ?aL4 ?lmL ?cmL ?kmL ?amN ?imN ?lmN ?cmN ?kmN ?amS ?imS ?lmS ?cmS ?kmS ?amP ?imP ?lmP ?cmP ?kmP ?amG ?imG ?lmG ?cmG ?kmG ?amQ ?imQ ?lmQ ?cmQ ?kmQ ?amA ?imA ?lmA ?cmA ?kmA ?amB ?imB ?lmB ?cmB ?kmB ?aR ?lR ?cR ?kR ?lT ?gE1 ?kE1 ?qE1 ?bE1 ?tE1 ?gE2 ?kE2 ?qE2 ?bE2 ?tE2 ?gE3 ?kE3 ?qE3 ?bE3 ?tE3 ?vLe ?vDi ?vMl ?vMp ?vMr ?gcd ?n_isinstance ?n_int ?n_bool ?n_tuple ?n_list ?n_len ?n_max ?n_min ?n_sorted ?n_range ?n_str ?n_all ?n_dict
    (case aII => k_is); (case lII => k_is); (case cII => k_is); (case kII => k_is); (case aIR => k_is); (case lIR => k_is)
    (case cIR => k_is); (case kIR => k_is); (case aIN => k_is); (case lIN => k_is); (case cIN => k_is); (case kIN => k_is)
    (case aAR => k_is); (case lAR => k_is); (case cAR => k_is); (case kAR => k_is); (case aPl => k_is); (case lPl => k_is)
    (case cPl => k_is); (case kPl => k_is); (case aMi => k_is); (case lMi => k_is); (case cMi => k_is); (case kMi => k_is)
    (case aTi => k_is); (case lTi => k_is); (case cTi => k_is); (case kTi => k_is); (case aDi => k_is); (case lDi => k_is)
    (case cDi => k_is); (case kDi => k_is); (case aCo => k_is); (case lCo => k_is); (case cCo => k_is); (case kCo => k_is)
    (case aFl => k_is); (case lFl => k_is); (case cFl => k_is); (case kFl => k_is); (case aRe => k_is); (case lRe => k_is)
    (case cRe => k_is); (case kRe => k_is); (case aIn => k_is); (case lIn => k_is); (case cIn => k_is); (case kIn => k_is)
    (case aNm => k_is); (case lNm => k_is); (case cNm => k_is); (case kNm => k_is); (case aPo => k_is); (case lPo => k_is)
    (case cPo => k_is); (case kPo => k_is); (case aTm => k_is); (case lTm => k_is); (case cTm => k_is); (case kTm => k_is)
    (case aNe => k_is); (case lNe => k_is); (case cNe => k_is); (case kNe => k_is); (case aRn => k_is); (case lRn => k_is)
    (case cRn => k_is); (case kRn => k_is); (case aPs => k_is); (case lPs => k_is); (case cPs => k_is); (case kPs => k_is)
    (case aPc => k_is); (case lPc => k_is); (case cPc => k_is); (case kPc => k_is); (case aTr => k_is); (case lTr => k_is)
    (case cTr => k_is); (case kTr => k_is); (case aRa => k_is); (case lRa => k_is); (case cRa => k_is); (case kRa => k_is)
    (case aPn => k_is); (case lPn => k_is); (case cPn => k_is); (case kPn => k_is); (case aLP => k_is); (case lLP => k_is)
    (case cLP => k_is); (case kLP => k_is); (case aLD => k_is); (case lLD => k_is); (case cLD => k_is); (case kLD => k_is)
    (case aLC => k_is); (case lLC => k_is); (case cLC => k_is); (case kLC => k_is); (case aLN => k_is); (case lLN => k_is)
    (case cLN => k_is); (case kLN => k_is); (case aLS => k_is); (case lLS => k_is); (case cLS => k_is); (case kLS => k_is)
    (case aLR => k_is); (case lLR => k_is); (case cLR => k_is); (case kLR => k_is); (case aLL => k_is); (case lLL => k_is)
    (case cLL => k_is); (case kLL => k_is); (case aL => k_is); (case lL => k_is); (case cL => k_is); (case kL => k_is)
    (case aC => k_is); (case pg => k_is); (case hd => k_is); (case po => k_is); (case sa => k_is); (case mk => k_is)
    (case kc => k_is); (case nL => k_is); (case nT => k_is); (case amI => k_is); (case imI => k_is); (case lmI => k_is)
    (case cmI => k_is); (case kmI => k_is); (case amC => k_is); (case imC => k_is); (case lmC => k_is); (case cmC => k_is)
    (case kmC => k_is); (case aL1 => k_is); (case aL2 => k_is); (case aL3 => k_is); (case aL4 => k_is); (case lmL => k_is)
    (case cmL => k_is); (case kmL => k_is); (case amN => k_is); (case imN => k_is); (case lmN => k_is); (case cmN => k_is)
    (case kmN => k_is); (case amS => k_is); (case imS => k_is); (case lmS => k_is); (case cmS => k_is); (case kmS => k_is)
    (case amP => k_is); (case imP => k_is); (case lmP => k_is); (case cmP => k_is); (case kmP => k_is); (case amG => k_is)
    (case imG => k_is); (case lmG => k_is); (case cmG => k_is); (case kmG => k_is); (case amQ => k_is); (case imQ => k_is)
    (case lmQ => k_is); (case cmQ => k_is); (case kmQ => k_is); (case amA => k_is); (case imA => k_is); (case lmA => k_is)
    (case cmA => k_is); (case kmA => k_is); (case amB => k_is); (case imB => k_is); (case lmB => k_is); (case cmB => k_is)
    (case kmB => k_is); (case aR => k_is); (case lR => k_is); (case cR => k_is); (case kR => k_is); (case lT => k_is)
    (case gE1 => k_is); (case kE1 => k_is); (case qE1 => k_exc); (case bE1 => k_is); (case tE1 => k_is); (case gE2 => k_is)
    (case kE2 => k_is); (case qE2 => k_exc); (case bE2 => k_is); (case tE2 => k_is); (case gE3 => k_is); (case kE3 => k_is)
    (case qE3 => k_exc); (case bE3 => k_is); (case tE3 => k_is); (case vLe => k_is); (case vDi => k_is); (case vMl => k_is)
    (case vMp => k_is); (case vMr => k_is); (case gcd => k_is); (case n_isinstance => k_is); (case n_int => k_is); (case n_bool => k_is)
    (case n_tuple => k_is); (case n_list => k_is); (case n_len => k_is); (case n_max => k_is); (case n_min => k_is); (case n_sorted => k_is)
    (case n_range => k_is); (case n_str => k_is); (case n_all => k_is); (case n_dict => k_is)
