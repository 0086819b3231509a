import PyProof.Rows.All
import Wide.All
import OpenK.AllK
import Wide.FinOn
import HandS.ForMost
import HandS.ForExc
import HandS.Wide
import HandS.WideBits
import HandS.Gcd
import HandS.IsInst
import HandS.More
import HandS.ExcCtx
import HandS.RaiseFrom
import HandS.SuiteRaise
import HandS.Defaults
import HandS.Codes
import HandS.ExcIs
import HandS.Deep
import PyProof.InstEq
import HandS.Ends
import PyProof.ReprRoads
import HandS.Star
import HandS.Property
import HandS.Style
import HandS.Exc
import HandS.TryMany
import PySem.Challenge.RW_laprunners_k50_moments
/-! LRat: exact numbers, plain mathematics over Rat (core Lean alone). -/
namespace LR

/-- numerator and denominator below 2 ^ b -/
def Sz (b : Nat) (q : Rat) : Prop := q.num.natAbs < 2 ^ b ∧ q.den < 2 ^ b

theorem Sz.mono {a b : Nat} {q : Rat} (h : Sz a q) (e : a ≤ b) : Sz b q :=
  ⟨Nat.lt_of_lt_of_le h.1 (Nat.pow_le_pow_right (by decide) e), Nat.lt_of_lt_of_le h.2 (Nat.pow_le_pow_right (by decide) e)⟩

theorem den_pos (q : Rat) : 0 < q.den := Nat.pos_of_ne_zero q.den_nz

/-- the sign of a denominator times the common divisor: what `ratio` divides by -/
def sdiv (n d : Int) : Int := if d < 0 then -((Nat.gcd n.natAbs d.natAbs : Nat) : Int) else ((Nat.gcd n.natAbs d.natAbs : Nat) : Int)

theorem gcd_pos {n d : Int} (hd : d ≠ 0) : 0 < Nat.gcd n.natAbs d.natAbs := Nat.gcd_pos_of_pos_right _ (Int.natAbs_pos.mpr hd)

theorem sdiv_ne {n d : Int} (hd : d ≠ 0) : sdiv n d ≠ 0 := by
  have h := gcd_pos (n := n) hd
  unfold sdiv
  split <;> omega

theorem sdiv_abs (n d : Int) : (sdiv n d).natAbs = Nat.gcd n.natAbs d.natAbs := by
  unfold sdiv
  split <;> omega

theorem fdiv_neg_of_dvd {a g : Int} (h : g ∣ a) : a.fdiv (-g) = -(a / g) := by
  rw [Int.fdiv_eq_ediv_of_dvd (Int.neg_dvd.mpr h), Int.ediv_neg]

theorem sdiv_num {n d : Int} (hd : d ≠ 0) : n.fdiv (sdiv n d) = (Rat.divInt n d).num := by
  have g1 : ((Nat.gcd n.natAbs d.natAbs : Nat) : Int) ∣ n := Int.ofNat_dvd_left.mpr (Nat.gcd_dvd_left _ _)
  have e : (d.gcd n : Int) = ((Nat.gcd n.natAbs d.natAbs : Nat) : Int) := by
    show ((Nat.gcd d.natAbs n.natAbs : Nat) : Int) = _
    rw [Nat.gcd_comm]
  rw [Rat.num_divInt, e]
  unfold sdiv
  split
  · rename_i h
    rw [fdiv_neg_of_dvd g1, Int.sign_eq_neg_one_of_neg h, Int.neg_one_mul, Int.neg_ediv_of_dvd g1]
  · rename_i h
    rw [Int.fdiv_eq_ediv_of_nonneg _ (Int.natCast_nonneg _), Int.sign_eq_one_of_pos (by omega), Int.one_mul]

theorem sdiv_den {n d : Int} (hd : d ≠ 0) : d.fdiv (sdiv n d) = ((Rat.divInt n d).den : Int) := by
  have g1 : ((Nat.gcd n.natAbs d.natAbs : Nat) : Int) ∣ d := Int.ofNat_dvd_left.mpr (Nat.gcd_dvd_right _ _)
  have e : d.gcd n = Nat.gcd n.natAbs d.natAbs := by
    show Nat.gcd d.natAbs n.natAbs = _
    rw [Nat.gcd_comm]
  rw [Rat.den_divInt, if_neg hd, e, Int.natCast_ediv]
  unfold sdiv
  split
  · rename_i h
    rw [fdiv_neg_of_dvd g1, ← Int.neg_ediv_of_dvd g1]
    congr 1
    omega
  · rename_i h
    rw [Int.fdiv_eq_ediv_of_nonneg _ (Int.natCast_nonneg _)]
    congr 1
    omega

theorem num_le (n d : Int) : (Rat.divInt n d).num.natAbs ≤ n.natAbs := by
  by_cases hd : d = 0
  · subst hd
    rw [Rat.divInt_zero]
    exact Nat.zero_le _
  · rw [Rat.num_divInt, Int.natAbs_ediv_of_dvd]
    · rw [Int.natAbs_mul, Int.natAbs_sign_of_ne_zero hd, Nat.one_mul]
      exact Nat.div_le_self _ _
    · refine Int.dvd_mul_of_dvd_right ?_
      exact Int.gcd_dvd_right _ _
theorem den_le {n d : Int} (hd : d ≠ 0) : (Rat.divInt n d).den ≤ d.natAbs := by
  rw [Rat.den_divInt, if_neg hd]
  exact Nat.div_le_self _ _

theorem sz_divInt {n d : Int} {b : Nat} (hd : d ≠ 0) (h1 : n.natAbs < 2 ^ b) (h2 : d.natAbs < 2 ^ b) : Sz b (Rat.divInt n d) :=
  ⟨Nat.lt_of_le_of_lt (num_le n d) h1, Nat.lt_of_le_of_lt (den_le hd) h2⟩

/-! ### the operations, as `ratio` is asked for them -/
theorem add_as (p q : Rat) : p + q = Rat.divInt (p.num * q.den + q.num * p.den) (p.den * q.den) := by
  rw [Rat.add_def', ← Int.natCast_mul, Rat.divInt_ofNat]
theorem sub_as (p q : Rat) : p - q = Rat.divInt (p.num * q.den - q.num * p.den) (p.den * q.den) := by
  rw [Rat.sub_def', ← Int.natCast_mul, Rat.divInt_ofNat]
theorem mul_as (p q : Rat) : p * q = Rat.divInt (p.num * q.num) (p.den * q.den) := by
  rw [Rat.mul_def', ← Int.natCast_mul, Rat.divInt_ofNat]
theorem div_as (p q : Rat) : p / q = Rat.divInt (p.num * q.den) (p.den * q.num) := by
  rw [Rat.div_def, Rat.inv_def]
  conv => lhs; lhs; rw [← Rat.num_divInt_den p]
  rw [Rat.divInt_mul_divInt]

theorem mul_lt {x y : Nat} {a b : Nat} (hx : x < 2 ^ a) (hy : y < 2 ^ b) : x * y < 2 ^ (a + b) := by
  rw [Nat.pow_add]
  exact Nat.mul_lt_mul'' hx hy
theorem add_lt {x y c : Nat} (hx : x < 2 ^ c) (hy : y < 2 ^ c) : x + y < 2 ^ (c + 1) := by
  rw [Nat.pow_succ]
  omega
theorem den_ne (p q : Rat) : ((p.den : Int) * q.den) ≠ 0 := by
  have h1 := den_pos p
  have h2 := den_pos q
  rw [← Int.natCast_mul]
  have h3 := Nat.mul_pos h1 h2
  omega
theorem Sz.add {a b : Nat} {p q : Rat} (hp : Sz a p) (hq : Sz b q) : Sz (a + b + 1) (p + q) := by
  rw [add_as]
  refine sz_divInt (den_ne p q) ?_ ?_
  · refine Nat.lt_of_le_of_lt (Int.natAbs_add_le _ _) (add_lt ?_ ?_)
    · rw [Int.natAbs_mul, Int.natAbs_natCast]
      exact mul_lt hp.1 hq.2
    · rw [Int.natAbs_mul, Int.natAbs_natCast, Nat.add_comm a b]
      exact mul_lt hq.1 hp.2
  · rw [Int.natAbs_mul, Int.natAbs_natCast, Int.natAbs_natCast]
    exact Nat.lt_of_lt_of_le (mul_lt hp.2 hq.2) (Nat.pow_le_pow_right (by decide) (by omega))
theorem Sz.sub {a b : Nat} {p q : Rat} (hp : Sz a p) (hq : Sz b q) : Sz (a + b + 1) (p - q) := by
  rw [sub_as]
  refine sz_divInt (den_ne p q) ?_ ?_
  · refine Nat.lt_of_le_of_lt (by rw [Int.sub_eq_add_neg]; exact Int.natAbs_add_le _ _) (add_lt ?_ ?_)
    · rw [Int.natAbs_mul, Int.natAbs_natCast]
      exact mul_lt hp.1 hq.2
    · rw [Int.natAbs_neg, Int.natAbs_mul, Int.natAbs_natCast, Nat.add_comm a b]
      exact mul_lt hq.1 hp.2
  · rw [Int.natAbs_mul, Int.natAbs_natCast, Int.natAbs_natCast]
    exact Nat.lt_of_lt_of_le (mul_lt hp.2 hq.2) (Nat.pow_le_pow_right (by decide) (by omega))
theorem Sz.mul {a b : Nat} {p q : Rat} (hp : Sz a p) (hq : Sz b q) : Sz (a + b) (p * q) := by
  rw [mul_as]
  refine sz_divInt (den_ne p q) ?_ ?_
  · rw [Int.natAbs_mul]
    exact mul_lt hp.1 hq.1
  · rw [Int.natAbs_mul, Int.natAbs_natCast, Int.natAbs_natCast]
    exact mul_lt hp.2 hq.2
theorem num_ne {q : Rat} (h : q ≠ 0) : q.num ≠ 0 := fun e => h (Rat.num_eq_zero.mp e)
theorem div_den_ne {p q : Rat} (h : q ≠ 0) : ((p.den : Int) * q.num) ≠ 0 := Int.mul_ne_zero (by have := den_pos p; omega) (num_ne h)
theorem Sz.div {a b : Nat} {p q : Rat} (hp : Sz a p) (hq : Sz b q) (h : q ≠ 0) : Sz (a + b) (p / q) := by
  rw [div_as]
  refine sz_divInt (div_den_ne h) ?_ ?_
  · rw [Int.natAbs_mul, Int.natAbs_natCast]
    exact mul_lt hp.1 hq.2
  · rw [Int.natAbs_mul, Int.natAbs_natCast]
    exact mul_lt hp.2 hq.1
theorem Sz.neg {a : Nat} {p : Rat} (hp : Sz a p) : Sz a (-p) := by
  refine ⟨?_, ?_⟩
  · rw [Rat.neg_num, Int.natAbs_neg]; exact hp.1
  · rw [Rat.neg_den]; exact hp.2
theorem Sz.int {b : Nat} {n : Int} (h0 : 0 < b) (h : n.natAbs < 2 ^ b) : Sz b (n : Rat) := ⟨h, Nat.lt_of_lt_of_le (show 1 < 2 ^ 1 by decide) (Nat.pow_le_pow_right (by decide) h0)⟩

/-! ### floors, remainders -/
theorem floor_divInt {a b : Int} (hb : 0 < b) : (Rat.divInt a b).floor = a / b := by
  have h1 := Rat.floor_le (Rat.divInt a b)
  have h2 := Rat.lt_floor_add_one (Rat.divInt a b)
  have hq : (0 : Rat) < (b : Rat) := Rat.intCast_pos.mpr hb
  rw [Rat.divInt_eq_div] at h1 h2 ⊢
  generalize ((a : Rat) / (b : Rat)).floor = k at h1 h2
  have e1 : (k : Rat) * b ≤ a := by
    have := Rat.mul_le_mul_of_nonneg_right h1 (Rat.le_of_lt hq)
    rwa [Rat.div_mul_cancel (Rat.ne_of_gt hq)] at this
  have e2 : (a : Rat) < ((k + 1 : Int) : Rat) * b := (Rat.div_lt_iff hq).mp h2
  rw [← Rat.intCast_mul, Rat.intCast_le_intCast] at e1
  rw [← Rat.intCast_mul, Rat.intCast_lt_intCast] at e2
  have e3 : a / b = k := by
    refine Int.le_antisymm ?_ ?_
    · exact Int.le_of_lt_add_one (Int.ediv_lt_of_lt_mul hb e2)
    · exact (Int.le_ediv_iff_mul_le hb).mpr e1
  exact e3.symm
/-- the number in [0, m) that differs from p by a multiple of m -/
def rem (p m : Rat) : Rat := p - m * ((p / m).floor : Rat)
theorem rem_as {p m : Rat} (hm : 0 < m) : rem p m = Rat.divInt ((p.num * m.den) % (m.num * p.den)) (p.den * m.den) := by
  have hn : 0 < m.num := by
    have h := Rat.num_nonneg.mpr (Rat.le_of_lt hm)
    have h2 := num_ne (Rat.ne_of_gt hm)
    omega
  have d1 : (0 : Int) < p.den := by have := den_pos p; omega
  have d2 : (0 : Int) < m.den := by have := den_pos m; omega
  have hb : (0 : Int) < p.den * m.num := Int.mul_pos d1 hn
  unfold rem
  rw [div_as, floor_divInt hb, Int.emod_def, Int.mul_comm m.num (p.den : Int)]
  generalize (p.num * ↑m.den) / (↑p.den * m.num) = k
  have q1 : (p.den : Rat) ≠ 0 := by
    have := Rat.natCast_pos.mpr (den_pos p)
    exact Rat.ne_of_gt this
  have q2 : (m.den : Rat) ≠ 0 := by
    have := Rat.natCast_pos.mpr (den_pos m)
    exact Rat.ne_of_gt this
  have ep : p = (p.num : Rat) / (p.den : Rat) := by
    conv => lhs; rw [← Rat.num_divInt_den p, Rat.divInt_eq_div]
    rfl
  have em : m = (m.num : Rat) / (m.den : Rat) := by
    conv => lhs; rw [← Rat.num_divInt_den m, Rat.divInt_eq_div]
    rfl
  rw [Rat.divInt_eq_div]
  conv => lhs; rw [ep]
  conv => lhs; rhs; rw [em]
  simp only [Rat.intCast_sub, Rat.intCast_mul, Rat.intCast_natCast]
  grind
theorem rem_nonneg {p m : Rat} (hm : 0 < m) : 0 ≤ rem p m := by
  have h := Rat.floor_le (p / m)
  have h2 := Rat.mul_le_mul_of_nonneg_left h (Rat.le_of_lt hm)
  have e : m * (p / m) = p := by rw [Rat.mul_comm, Rat.div_mul_cancel (Rat.ne_of_gt hm)]
  rw [e] at h2
  unfold rem
  grind
theorem rem_lt {p m : Rat} (hm : 0 < m) : rem p m < m := by
  have h := Rat.lt_floor_add_one (p / m)
  have h2 := Rat.mul_lt_mul_of_pos_left h hm
  have e : m * (p / m) = p := by rw [Rat.mul_comm, Rat.div_mul_cancel (Rat.ne_of_gt hm)]
  rw [e, Rat.intCast_add] at h2
  unfold rem
  grind
theorem pos_num {m : Rat} (hm : 0 < m) : 0 < m.num := by
  have h := Rat.num_nonneg.mpr (Rat.le_of_lt hm)
  have h2 := num_ne (Rat.ne_of_gt hm)
  omega
theorem num_pos_iff {m : Rat} : 0 < m.num ↔ 0 < m := by
  refine ⟨fun h => ?_, pos_num⟩
  refine Rat.lt_of_le_of_ne (Rat.num_nonneg.mp (Int.le_of_lt h)) ?_
  intro e
  rw [← e] at h
  exact absurd h (by decide)
theorem num_neg_iff {m : Rat} : m.num < 0 ↔ m < 0 := by
  rw [← Rat.not_le, ← Rat.num_nonneg]
  omega
theorem Sz.rem {a b : Nat} {p m : Rat} (hp : Sz a p) (hq : Sz b m) (h : 0 < m) : Sz (a + b) (rem p m) := by
  have hn := pos_num h
  have d1 : (0 : Int) < p.den := by have := den_pos p; omega
  have hb : (0 : Int) < m.num * p.den := Int.mul_pos hn d1
  rw [rem_as h]
  refine sz_divInt (den_ne p m) ?_ ?_
  · have h1 := Int.emod_nonneg (p.num * m.den) (Int.ne_of_gt hb)
    have h2 := Int.emod_lt_of_pos (p.num * m.den) hb
    have h3 : (m.num * p.den).natAbs < 2 ^ (a + b) := by
      rw [Int.natAbs_mul, Int.natAbs_natCast, Nat.add_comm]
      exact mul_lt hq.1 hp.2
    omega
  · rw [Int.natAbs_mul, Int.natAbs_natCast, Int.natAbs_natCast]
    exact mul_lt hp.2 hq.2
end LR
set_option Elab.async false
set_option linter.all false
set_option maxRecDepth 100000
set_option maxHeartbeats 4000000
namespace LR
open PySem PySem.Spec PyProof.Rows L2

/-! ### kinds of values, and numbers among them -/
theorem sqt_ty {K : PySem.W.Frag} {H : Hp} {a : Addr} {xs : List V} (h : SqT K H a xs) : TyX K H (.ref a) (.type "tuple") := by
  rcases h with (h | ⟨o, h⟩) | ⟨o, its, m, hk, hc, _⟩
  · exact .base (.tup h)
  · exact .fTuple h
  · exact .kTuple hk hc
theorem sql_ty {K : PySem.W.Frag} {H : Hp} {a : Addr} {xs : List V} (h : SqL K H a xs) : TyX K H (.ref a) (.type "list") := by
  rcases h with (h | ⟨o, h⟩) | ⟨o, its, m, hk, hc, _⟩
  · exact .base (.lst h)
  · exact .base (.frz h)
  · exact .kList hk hc
theorem same_sqt {K : PySem.W.Frag} {H H' : Hp} {a : Addr} {xs : List V} (s : Same H H') (h : SqT K H a xs) : SqT K H' a xs := by
  rcases h with (h | ⟨o, h⟩) | h
  · exact .inl (.inl (s _ _ h))
  · exact .inl (.inr ⟨o, s _ _ h⟩)
  · exact .inr h
inductive Kd (K : PySem.W.Frag) (H : Hp) : V → String → Prop
  | non : Kd K H .non "NoneType"
  | bl (b : Bool) : Kd K H (.bl b) "bool"
  | int (i : Int) : Kd K H (.int i) "int"
  | str (x : Str) : Kd K H (.str x) "str"
  | lst {a : Addr} {xs : List V} (h : SqL K H a xs) : Kd K H (.ref a) "list"
  | tup {a : Addr} {xs : List V} (h : SqT K H a xs) : Kd K H (.ref a) "tuple"
  | dict {a : Addr} {kvs : List (Key × V)} (h : H a = some (.dK kvs)) : Kd K H (.ref a) "dict"
section
variable {K : PySem.W.Frag} {H H' : Hp} {x : V} {n : String}
theorem Kd.ty (h : Kd K H x n) : TyX K H x (.type n) := by
  cases h with
  | non => exact .base .non
  | bl b => exact .base (.bl b)
  | int i => exact .base (.int i)
  | str z => exact .base (.str z)
  | lst h => exact sql_ty h
  | tup h => exact sqt_ty h
  | dict h => exact .base (.dK h)
theorem Kd.tyB (h : Kd K H x n) : TyB K H x n := by
  cases h with
  | non => exact .non
  | bl b => exact .bl b
  | int i => exact .int i
  | str z => exact .str z
  | lst h => exact .lst h
  | tup h => exact .tup h
  | dict h => exact .dK h
def isI : V → Bool | .int _ => true | _ => false
theorem kd_int (h : Kd K H x n) : PySem.W.kitOne K (.type n) (.type "int") = some (n == "int" || n == "bool") := by
  cases h <;> exact kit_ty (by decide +kernel)
theorem kd_bool (h : Kd K H x n) : PySem.W.kitOne K (.type n) (.type "bool") = some (n == "bool") := by
  cases h <;> exact kit_ty (by decide +kernel)
theorem kd_tuple (h : Kd K H x n) : PySem.W.kitOne K (.type n) (.type "tuple") = some (n == "tuple") := by
  cases h <;> exact kit_ty (by decide +kernel)
theorem kd_list (h : Kd K H x n) : PySem.W.kitOne K (.type n) (.type "list") = some (n == "list") := by
  cases h <;> exact kit_ty (by decide +kernel)
theorem kd_dict (h : Kd K H x n) : PySem.W.kitOne K (.type n) (.type "dict") = some (n == "dict") := by
  cases h <;> exact kit_ty (by decide +kernel)
theorem kd_str (h : Kd K H x n) : PySem.W.kitOne K (.type n) (.type "str") = some (n == "str") := by
  cases h <;> exact kit_ty (by decide +kernel)
theorem kd_isI (h : Kd K H x n) : ((n == "int" || n == "bool") && !(n == "bool")) = isI x := by
  cases h <;> rfl
theorem Kd.same (s : Same H H') (h : Kd K H x n) : Kd K H' x n := by
  cases h with
  | non => exact .non
  | bl b => exact .bl b
  | int i => exact .int i
  | str z => exact .str z
  | lst h => exact .lst (s.seq h)
  | tup h => exact .tup (same_sqt s h)
  | dict h => exact .dict (s _ _ h)
theorem same_new {p : Addr} {o : HO} (h : H p = none) : Same H (upd H p o) := fun b y e => by
  rw [upd_ne (ne_of_none e h)]
  exact e

/-- the two places of a number's tuple -/
abbrev rt (q : Rat) : List V := [.int q.num, .int (q.den : Int)]
def ratOf : List V → Option Rat
  | [.int a, .int d] => if 1 ≤ d ∧ Nat.gcd a.natAbs d.natAbs = 1 then some (Rat.divInt a d) else none
  | _ => none
theorem ratOf_rt (q : Rat) : ratOf (rt q) = some q := by
  have h1 : (1 : Int) ≤ (q.den : Int) := by have := den_pos q; omega
  have h2 : Nat.gcd q.num.natAbs ((q.den : Int)).natAbs = 1 := q.reduced
  show (if 1 ≤ (q.den : Int) ∧ Nat.gcd q.num.natAbs ((q.den : Int)).natAbs = 1 then some (Rat.divInt q.num q.den) else none) = some q
  rw [if_pos ⟨h1, h2⟩, Rat.num_divInt_den]
theorem ratOf_some {xs : List V} {q : Rat} (h : ratOf xs = some q) : xs = rt q := by
  unfold ratOf at h
  split at h
  · rename_i a d
    split at h
    · rename_i c
      obtain ⟨c1, c2⟩ := c
      have e := Option.some.inj h
      subst e
      have g : d.gcd a = 1 := by
        show Nat.gcd d.natAbs a.natAbs = 1
        rw [Nat.gcd_comm]
        exact c2
      have e1 : (Rat.divInt a d).num = a := by
        rw [Rat.num_divInt, g, Int.sign_eq_one_of_pos (by omega)]
        simp
      have e2 : ((Rat.divInt a d).den : Int) = d := by
        rw [Rat.den_divInt, if_neg (by omega), g]
        simp
        omega
      show [V.int a, V.int d] = [V.int (Rat.divInt a d).num, V.int ((Rat.divInt a d).den : Int)]
      rw [e1, e2]
    · cases h
  · cases h
/-- an argument in the place of a number: some q where it is one -/
inductive Arg (K : PySem.W.Frag) (H : Hp) : V → Option Rat → Prop
  | int (i : Int) : Arg K H (.int i) (some (i : Rat))
  | tup {a : Addr} {xs : List V} {o : Option Rat} (h : SqT K H a xs) (k : xs.length = 2 → ∀ x ∈ xs, ∃ n, Kd K H x n) (e : ratOf xs = o) : Arg K H (.ref a) o
  | oth {x : V} {n : String} (h : Kd K H x n) (h1 : (n == "int") = false) (h2 : (n == "tuple") = false) : Arg K H x none
abbrev Num (K : PySem.W.Frag) (H : Hp) (x : V) (q : Rat) : Prop := Arg K H x (some q)
/-- a result: a tuple of the number's two places -/
def Rn (K : PySem.W.Frag) (H : Hp) (x : V) (q : Rat) : Prop := ∃ a, x = .ref a ∧ SqT K H a (rt q)
theorem Rn.num {q : Rat} (h : Rn K H x q) : Num K H x q := by
  obtain ⟨a, rfl, h⟩ := h
  refine .tup h (fun _ y hy => ?_) (ratOf_rt q)
  rcases List.mem_cons.mp hy with e | hy
  · exact ⟨"int", by rw [e]; exact .int _⟩
  · rcases List.mem_cons.mp hy with e | hy
    · exact ⟨"int", by rw [e]; exact .int _⟩
    · cases hy
theorem Arg.same {o : Option Rat} (s : Same H H') (h : Arg K H x o) : Arg K H' x o := by
  cases h with
  | int i => exact .int i
  | tup h k e => exact .tup (same_sqt s h) (fun l y hy => let ⟨m, z⟩ := k l y hy; ⟨m, z.same s⟩) e
  | oth h h1 h2 => exact .oth (h.same s) h1 h2
theorem Rn.same {q : Rat} (s : Same H H') (h : Rn K H x q) : Rn K H' x q := let ⟨a, e, z⟩ := h; ⟨a, e, same_sqt s z⟩
theorem Num.kinds {q : Rat} (h : Num K H x q) : (x = .int q.num ∧ q.den = 1) ∨ Rn K H x q := by
  cases h with
  | int i => exact .inl ⟨rfl, rfl⟩
  | tup h k e => exact .inr ⟨_, rfl, ratOf_some e ▸ h⟩
theorem Rn.mk {q : Rat} {p : Addr} : Rn K (upd H p (.tup (rt q))) (.ref p) q := ⟨p, rfl, .inl (.inl upd_same)⟩
theorem num_int (i : Int) : Num K H (.int i) (i : Rat) := .int i
end

/-! ### operations on great ints -/
def CDivA (_ j : Int) : Prop := j ≠ 0 ∧ j.natAbs.log2 < 9000
section
variable {X : Cx}
theorem op_fdivA : OpR X (binaryOp .FloorDiv) (rI CDivA fun i j => .int (i.fdiv j)) := opI fun i j _ _ _ _ _ hc q =>
  floordiv_int hc.1 q (.inl (PyProof.noPylong_of_log2 hc.2))
end
theorem divA {i j : Int} {b : Nat} (h : j ≠ 0) (hb : j.natAbs < 2 ^ b) (h0 : 0 < b) (h9 : b ≤ 9000) : CDivA i j := ⟨h, Nat.lt_of_lt_of_le (PySem.Flt.log2_lt_of h0 hb) h9⟩

/-! ### raise X(), no argument -/
section
variable {X : Cx} {C : Addr} {bmB : List Value} {B newId initId : String}
theorem pmk_own0 {x : Str} {p pos : Pos} (F : ExcBaseFacts B newId initId bmB) (q : PySem.W.excIn X.K C bmB newId = true) (gC : X.mg x = some (.ref C)) (kC : PySem.W.keepIn X.K (.ref C) = true) (r : Raises X (.ref C)) (hg : Gl X x)
    (hdb : (x == ("__debug__" : Str)) = false := by decide) : PMk X (.Call (.Name x p) [] [] pos) (fun _ H Q => Q (.ref C) none H) := by
  intro pins s σ H Q I h
  refine wpAny_Call_Name_kw (ld_glob I hg gC ?_ hdb)
  refine PySem.W.callWith_K0 I.kIn kC ?_
  obtain ⟨bm, N, nm, qn, bs, hdct, sn, sub, ab, col, dd, k0, k1, k2, k3, k5, mN, hC, hN, hni, T⟩ := exc_obj I.kIn q
  refine wpAny_call_exc_subT F T hC hN hni (fun h' e hm => ?_) (Nat.zero_le _)
  exact mk_of I hm r h (I.hok.gone hm.new)
end

/-- the same where the exception's context is told, and its record -/
theorem pmk5_own0 {X : Cx} {C : Addr} {bmB : List Value} {B newId initId : String} {x : Str} {p pos : Pos} (F : ExcBaseFacts B newId initId bmB) (q : PySem.W.excIn X.K C bmB newId = true) (gC : X.mg x = some (.ref C)) (kC : PySem.W.keepIn X.K (.ref C) = true) (r : Raises X (.ref C)) (hg : Gl X x)
    (hdb : (x == ("__debug__" : Str)) = false := by decide) : L2H.PMk5 X (.Call (.Name x p) [] [] pos) (fun _ H Q => Q (.ref C) none H) := by
  intro pins s σ H Q I h
  refine wpAny_Call_Name_kw (ld_glob I hg gC ?_ hdb)
  refine PySem.W.callWith_K0 I.kIn kC ?_
  obtain ⟨bm, N, nm, qn, bs, hdct, sn, sub, ab, col, dd, k0, k1, k2, k3, k5, mN, hC, hN, hni, T⟩ := exc_obj I.kIn q
  exact wpAny_call_exc_subT F T hC hN hni (fun h' e hm => L2H.mk_of5 I hm r h (I.hok.gone hm.new)) (Nat.zero_le _)

/-! ### the text: defs and error classes as the top has left them -/
/-- a def of the text (no defaults) under its name -/
structure DefAt (K : PySem.W.Frag) (mg : Str → Option Value) (x : Str) (st : Stmt) (ps : List Str) (f : Addr) (fd : FuncData) : Prop where
  F : Fun K x x st f fd
  g : mg x = some (.ref f)
  b : Binds K fd ps []
/-- an own error class without __init__ over the built-in class whose new is named, bm its line of bases -/
structure ErrAt (K : PySem.W.Frag) (mg : Str → Option Value) (x : Str) (bm : List Value) (newId : String) (C : Addr) : Prop where
  g : mg x = some (.ref C)
  k : PySem.W.keepIn K (.ref C) = true
  q : PySem.W.excIn K C bm newId = true
  b : PySem.W.subIn K (.ref C) (.type "BaseException") = some true
  t : PySem.W.typeIn K (.ref C) = some (.type "type")
theorem ErrAt.mk0 {X : Cx} {x : Str} {bm : List Value} {B newId initId : String} {C : Addr} {p pos : Pos} (T : ErrAt X.K X.mg x bm newId C) (F : ExcBaseFacts B newId initId bm) (hg : Gl X x) (hdb : (x == ("__debug__" : Str)) = false := by decide) :
    PMk X (.Call (.Name x p) [] [] pos) (fun _ H Q => Q (.ref C) none H) := pmk_own0 F T.q T.g T.k (raises_own T.b T.t) hg hdb
theorem ErrAt.mk5 {X : Cx} {x : Str} {bm : List Value} {B newId initId : String} {C : Addr} {p pos : Pos} (T : ErrAt X.K X.mg x bm newId C) (F : ExcBaseFacts B newId initId bm) (hg : Gl X x) (hdb : (x == ("__debug__" : Str)) = false := by decide) :
    L2H.PMk5 X (.Call (.Name x p) [] [] pos) (fun _ H Q => Q (.ref C) none H) := pmk5_own0 F T.q T.g T.k (raises_own T.b T.t) hg hdb
/-! ### what a def lets out whose exceptions have no context -/
section
variable {P : Program} {w : World} {K : PySem.W.Frag} {mg : Str → Option Value} {base : Heap} {k : Nat} {f : Addr} {fd : FuncData} {ps : List Str} {sp : Sp}
abbrev CXn (P : Program) (w : World) : CXT := L2N.CX P w
theorem cxn_up {outer : List Env} {H : Hp} {s : Shared} {E : XK} {u : Value} {s' : Shared} (h : CXn P w outer H s E u s') : L2.CX P w outer H s E u s' := by
  obtain ⟨a, B, H', cls, d, e, fl, r⟩ := h
  exact ⟨a, B, H', cls, d, e, L2H.flyingZ_imp (fun _ z => z.zc) fl, r⟩
theorem up (F : FnOk P w K mg base (CXn P w) k f fd ps sp) : FnOk P w K mg base (L2.CX P w) k f fd ps sp :=
  ⟨F.len, fun A outer s H args us vs Q E hr e0 hb hv hs => codeAny_mono (F.run A outer s H args us vs Q E hr e0 hb hv hs) fun r s' h => by
    cases r with
    | error e => exact cxn_up h
    | ok fl => cases fl <;> exact h⟩
theorem _root_.L2.Fun.okN {x qual : Str} {st : Stmt} {N : List Str} (F : Fun K x qual st f fd) (S : FnScope N ps (defScope st)) (len : ∀ vs H Q E, sp vs H Q E → vs.length = ps.length)
    (body : ∀ (cdv : Value) (A : Around) (outer : List Env) (s : Shared) (H : Hp) (vs : List V) (Q : VK) (E : XK), Room k (A.deeper (envOfC qual (defScope st) s.heap.objs.size f cdv)) → sp vs H Q E →
      ∃ t, PSs (cxOf (CXn P w) P w K mg base N qual (defScope st) f cdv A outer s H E) (defBody st) t ∧ t { nx := fun _ H' => Q .non H', rt := Q } (start N vs) H) : FnOk P w K mg base (CXn P w) (k + 1) f fd ps sp := by
  obtain ⟨oc, od, kV, doc, pm, an, cdv, ct, osl, rfl, lk, hcd⟩ := F.ex
  exact fn_of lk hcd S len fun A outer s H vs Q E hr hsp => body cdv A outer s H vs Q E hr hsp
end
theorem passN {X : Cx} : Passes (CXn X.prog X.w) X E0 := fun _ _ _ _ _ _ _ h => by
  obtain ⟨_, _, _, _, _, _, _, _, _, _, _, _, z⟩ := h
  exact z.elim
end LR
set_option Elab.async false
set_option linter.all false
set_option maxRecDepth 100000
set_option maxHeartbeats 4000000
namespace LR
open PySem PySem.Spec PyProof.Rows L2
def topS (i : Nat) : Stmt := PySem.Challenge.pw_laprunners_k50_moments.main.body.getD i (.Pass ⟨0, 0, 0, 0⟩)
abbrev s_is_integer : Stmt := topS 8
abbrev s_is_ratio : Stmt := topS 9
abbrev s_is_number : Stmt := topS 10
abbrev s_as_ratio : Stmt := topS 11
abbrev s_reduced : Stmt := topS 12
abbrev s_plus : Stmt := topS 13
abbrev s_minus : Stmt := topS 14
abbrev s_times : Stmt := topS 15
abbrev s_divided : Stmt := topS 16
abbrev s_floor_of : Stmt := topS 17
abbrev s_is_positive : Stmt := topS 19
abbrev s_as_time : Stmt := topS 20
abbrev s_solved : Stmt := topS 22
abbrev s_common0 : Stmt := topS 23
abbrev s_inverse : Stmt := topS 24
abbrev cMom : Stmt := topS 26
abbrev s_common : Stmt := topS 27
abbrev s_in_units : Stmt := topS 28
abbrev s_law_pool : Stmt := topS 30
abbrev s_law_draw : Stmt := topS 31
abbrev s_law_cut : Stmt := topS 32
abbrev s_law_sum : Stmt := topS 33
abbrev s_law_number : Stmt := topS 34
abbrev s_law_list : Stmt := topS 35
abbrev s_law_error : Stmt := topS 36
abbrev s_law_is_before : Stmt := topS 37
abbrev s_law_right : Stmt := topS 38
abbrev s_law : Stmt := topS 39
end LR
set_option Elab.async false
set_option linter.all false
set_option maxRecDepth 100000
set_option maxHeartbeats 4000000
namespace LR
open PySem PySem.Spec PyProof.Rows L2
theorem sc_is_integer : FnScope ["value"] ["value"] (defScope s_is_integer) := ⟨rfl, rfl, rfl, by decide +kernel, rfl, by decide +kernel, by decide +kernel⟩
theorem sc_is_ratio : FnScope ["value", "top", "bottom"] ["value"] (defScope s_is_ratio) := ⟨rfl, rfl, rfl, by decide +kernel, rfl, by decide +kernel, by decide +kernel⟩
theorem sc_is_number : FnScope ["value"] ["value"] (defScope s_is_number) := ⟨rfl, rfl, rfl, by decide +kernel, rfl, by decide +kernel, by decide +kernel⟩
theorem sc_as_ratio : FnScope ["value", "top", "bottom"] ["value"] (defScope s_as_ratio) := ⟨rfl, rfl, rfl, by decide +kernel, rfl, by decide +kernel, by decide +kernel⟩
theorem sc_reduced : FnScope ["top", "bottom", "divisor"] ["top", "bottom"] (defScope s_reduced) := ⟨rfl, rfl, rfl, by decide +kernel, rfl, by decide +kernel, by decide +kernel⟩
section
variable {P : Program} {w : World} {K : PySem.W.Frag} {mg : Str → Option Value} {base : Heap}
abbrev CXl (P : Program) (w : World) : CXT := L2.CX P w
/-! ### is_integer -/
def spII (K : PySem.W.Frag) : Sp := fun vs H Q _ => ∃ (x : V) (n : String), vs = [x] ∧ Kd K H x n ∧ Q (.bl (isI x)) H
theorem ok_II {f : Addr} {fd : FuncData} (F : Fun K "is_integer" "is_integer" s_is_integer f fd) (mi : mg "isinstance" = none) (m1 : mg "int" = none) (m2 : mg "bool" = none) : FnOk P w K mg base (CXn P w) 1 f fd ["value"] (spII K) := by
  refine F.okN sc_is_integer (fun vs H Q E h => ?_) (fun cdv A outer s H vs Q E hr h => ?_)
  · obtain ⟨x, n, rfl, _⟩ := h
    rfl
  · obtain ⟨x, n, rfl, hk, q⟩ := h
    refine ⟨_, pss_one (ps_ret (pe_and (pe_callB call_isi (by rfl) mi (by decide +kernel) (pa_cons (pv 0) (pa_cons (pe_bltn (v := .ty "int") (by rfl) m1 (by decide +kernel) rfl) pa_nil)))
      (pe_one (pe_not (pe_callB call_isi (by rfl) mi (by decide +kernel) (pa_cons (pv 0) (pa_cons (pe_bltn (v := .ty "bool") (by rfl) m2 (by decide +kernel) rfl) pa_nil))))))), ?_⟩
    have e := kd_isI hk
    refine ⟨x, rfl, x, _, _, _, _, rfl, .ty "int", hk.ty, kd_int hk, _, rfl, ite2 (fun c => ?_) (fun c => ?_)⟩
    · refine ⟨x, rfl, x, _, _, _, _, rfl, .ty "bool", hk.ty, kd_bool hk, _, rfl, ?_⟩
      rw [c, Bool.true_and] at e
      rw [e]
      exact q
    · have c' := Bool.not_eq_true _ ▸ c
      rw [c', Bool.false_and] at e
      rw [e]
      exact q
/-! ### is_ratio -/
def isRef : V → Bool | .ref _ => true | _ => false
def spIR (K : PySem.W.Frag) : Sp := fun vs H Q _ => ∃ (x : V) (o : Option Rat), vs = [x] ∧ Arg K H x o ∧ Q (.bl (isRef x && o.isSome)) H
theorem ratOf_len {xs : List V} (h : xs.length ≠ 2) : ratOf xs = none := by
  match xs, h with
  | [], _ => rfl
  | [_], _ => unfold ratOf; split <;> simp_all
  | [_, _], h => exact absurd rfl h
  | _ :: _ :: _ :: _, _ => unfold ratOf; split <;> simp_all
theorem ratOf_no0 {x0 x1 : V} (h : isI x0 = false) : ratOf [x0, x1] = none := by
  unfold ratOf
  split
  · rename_i e
    cases e
    cases h
  · rfl
theorem ratOf_no1 {x0 x1 : V} (h : isI x1 = false) : ratOf [x0, x1] = none := by
  unfold ratOf
  split
  · rename_i e
    cases e
    cases h
  · rfl
theorem ratOf_ii {i j : Int} : (ratOf [.int i, .int j]).isSome = (decide (1 ≤ j) && decide (Nat.gcd i.natAbs j.natAbs = 1)) := by
  show (if 1 ≤ j ∧ Nat.gcd i.natAbs j.natAbs = 1 then some (Rat.divInt i j) else none).isSome = _
  by_cases c : 1 ≤ j
  · by_cases d : Nat.gcd i.natAbs j.natAbs = 1
    · simp [c, d]
    · simp [c, d]
  · simp [c]
theorem isSome_no {o : Option Rat} (h : o.isSome = false) : o = none := by
  cases o with
  | none => rfl
  | some _ => cases h
theorem isI_int {x : V} (h : isI x = true) : ∃ i, x = .int i := by
  cases x <;> first | exact ⟨_, rfl⟩ | cases h
theorem gcd_eq1 {i j : Int} : decide (V.int ((Nat.gcd i.natAbs j.natAbs : Nat) : Int) = V.int 1) = decide (Nat.gcd i.natAbs j.natAbs = 1) := by
  apply decide_eq_decide.mpr
  rw [V.int.injEq]
  omega
theorem len_ne2 {n : Nat} (h : n ≠ 2) : decide (V.int ((n : Nat) : Int) = V.int 2) = false := by
  rw [decide_eq_false]
  rw [V.int.injEq]
  omega
theorem ok_IR {f fI : Addr} {fd dI : FuncData} (F : Fun K "is_ratio" "is_ratio" s_is_ratio f fd) (DI : DefAt K mg "is_integer" s_is_integer ["value"] fI dI) (mi : mg "isinstance" = none) (m3 : mg "tuple" = none)
    (ml : mg "len" = none) (mgc : mg "gcd" = some (.builtin "math.gcd")) (GI : FnOk P w K mg base (CXn P w) 1 fI dI ["value"] (spII K)) : FnOk P w K mg base (CXn P w) 2 f fd ["value"] (spIR K) := by
  refine F.okN sc_is_ratio (fun vs H Q E h => ?_) (fun cdv A outer s H vs Q E hr h => ?_)
  · obtain ⟨x, n, rfl, _⟩ := h
    rfl
  · obtain ⟨x, o, rfl, ha, q⟩ := h
    refine ⟨_, pss_cons (ps_if (PW.pt (pw_or (pt_not (pt_val (pe_callB call_isi (by rfl) mi (by decide +kernel) (pa_cons (pv 0) (pa_cons (pe_bltn (v := .ty "tuple") (by rfl) m3 (by decide +kernel) rfl) pa_nil)))))
        (pw_or1 (pt_cmpR op_ne (pe_callB call_len_seq (by rfl) ml PySem.boot_len (pa_cons (pv 0) pa_nil)) pe_int (nomark _))))) (pss_one (ps_ret pe_bl)) pss_nil)
      (pss_cons (ps_asg (pv 0) (pg_tup rfl (pgs_cons (pg_name (i := 1) sc_is_ratio.nd rfl (.inl rfl)) (pgs_cons (pg_name (i := 2) sc_is_ratio.nd rfl (.inl rfl)) pgs_nil))))
      (pss_one (ps_ret (pe_and (pe_call GI hr (by rfl) DI.g DI.F.kp DI.b .nil passN (pa_cons (pv 1) pa_nil)) (pe_and (pe_call GI hr (by rfl) DI.g DI.F.kp DI.b .nil passN (pa_cons (pv 2) pa_nil))
        (pe_and (pe_cmpR op_ge (pv 2) pe_int (nomark _)) (pe_one (pe_cmpR op_eq (pe_callBfun cr_gcd (by rfl) mgc (pa_cons (pv 1) (pa_cons (pv 2) pa_nil))) pe_int (nomark _))))))))), ?_⟩
    cases ha with
    | int i =>
      refine ⟨_, rfl, _, _, _, _, _, rfl, .ty "tuple", (Kd.int i).ty, kd_tuple (H := H) (.int i), _, rfl, ?_⟩
      exact q
    | oth hk n1 n2 =>
      refine ⟨_, rfl, _, _, _, _, _, rfl, .ty "tuple", hk.ty, kd_tuple hk, _, rfl, ?_⟩
      rw [n2]
      rw [show (isRef x && (none : Option Rat).isSome) = false from Bool.and_false _] at q
      exact q
    | @tup a xs _ ht hk e =>
      refine ⟨_, rfl, _, _, _, _, _, rfl, .ty "tuple", sqt_ty ht, kd_tuple (.tup ht), _, rfl, ?_⟩
      refine ⟨.ref a, rfl, a, xs, rfl, .inr ht, rfl, _, rfl, ?_⟩
      subst e
      by_cases hl : xs.length = 2
      · obtain ⟨x0, x1, rfl⟩ : ∃ x0 x1, xs = [x0, x1] := by
          match xs, hl with
          | [x0, x1], _ => exact ⟨x0, x1, rfl⟩
        obtain ⟨n0, k0⟩ := hk rfl x0 (by simp)
        obtain ⟨n1, k1⟩ := hk rfl x1 (by simp)
        refine iteF ?_
        refine ⟨.ref a, rfl, a, _, rfl, ht, rfl, x0, _, rfl, x1, _, rfl, rfl, ?_⟩
        refine ⟨x0, rfl, x0, n0, rfl, k0, _, rfl, ?_⟩
        refine ite2 (fun c => ?_) (fun c => ?_)
        · refine ⟨x1, rfl, x1, n1, rfl, k1, _, rfl, ?_⟩
          refine ite2 (fun c1 => ?_) (fun c1 => ?_)
          · obtain ⟨i0, rfl⟩ := isI_int c
            obtain ⟨i1, rfl⟩ := isI_int c1
            rw [show isRef (.ref a) = true from rfl, Bool.true_and, ratOf_ii] at q
            refine ⟨_, rfl, i1, 1, rfl, rfl, _, rfl, ite2 (fun c => ?_) (fun c => ?_)⟩
            · have c3 : decide ((1 : Int) ≤ i1) = true := c
              refine ⟨_, rfl, _, rfl, i0, i1, rfl, rfl, ?_⟩
              rw [c3, Bool.true_and] at q
              rw [gcd_eq1]
              exact q
            · have c3 : decide ((1 : Int) ≤ i1) = false := by simpa using c
              rw [c3, Bool.false_and] at q
              exact q
          · have c2 : isI x1 = false := by simpa using c1
            rw [ratOf_no1 c2] at q
            exact q
        · have c2 : isI x0 = false := by simpa using c
          rw [ratOf_no0 c2] at q
          exact q
      · rw [ratOf_len hl] at q
        refine ite2 (fun _ => q) (fun c => absurd (by rw [len_ne2 hl]; rfl) c)
/-! ### is_number -/
def spIN (K : PySem.W.Frag) : Sp := fun vs H Q _ => ∃ (x : V) (o : Option Rat), vs = [x] ∧ Arg K H x o ∧ Q (.bl o.isSome) H
theorem Arg.kd {H : Hp} {x : V} {o : Option Rat} (h : Arg K H x o) : ∃ n, Kd K H x n := by
  cases h with
  | int i => exact ⟨_, .int i⟩
  | tup h _ _ => exact ⟨_, .tup h⟩
  | oth h _ _ => exact ⟨_, h⟩
theorem kd_noI {H : Hp} {x : V} {n : String} (h : Kd K H x n) (e : (n == "int") = false) : isI x = false := by
  cases h <;> first | rfl | cases e
theorem ok_IN {f fI fR : Addr} {fd dI dR : FuncData} (F : Fun K "is_number" "is_number" s_is_number f fd) (DI : DefAt K mg "is_integer" s_is_integer ["value"] fI dI) (DR : DefAt K mg "is_ratio" s_is_ratio ["value"] fR dR)
    (GI : FnOk P w K mg base (CXn P w) 1 fI dI ["value"] (spII K)) (GR : FnOk P w K mg base (CXn P w) 2 fR dR ["value"] (spIR K)) : FnOk P w K mg base (CXn P w) 3 f fd ["value"] (spIN K) := by
  refine F.okN sc_is_number (fun vs H Q E h => ?_) (fun cdv A outer s H vs Q E hr h => ?_)
  · obtain ⟨x, o, rfl, _⟩ := h
    rfl
  · obtain ⟨x, o, rfl, ha, q⟩ := h
    refine ⟨_, pss_one (ps_ret (pe_or (pe_call GI (hr.mono (by decide)) (by rfl) DI.g DI.F.kp DI.b .nil passN (pa_cons (pv 0) pa_nil)) (pe_one (pe_call GR hr (by rfl) DR.g DR.F.kp DR.b .nil passN (pa_cons (pv 0) pa_nil))))), ?_⟩
    obtain ⟨n, hk⟩ := ha.kd
    refine ⟨x, rfl, x, n, rfl, hk, _, rfl, ?_⟩
    cases ha with
    | int i => exact q
    | oth h1 n1 n2 =>
      rw [kd_noI h1 n1]
      refine iteF ⟨x, rfl, x, none, rfl, .oth h1 n1 n2, ?_⟩
      rw [Option.isSome_none, Bool.and_false]
      exact q
    | @tup a xs _ ht hk2 e =>
      refine iteF ⟨_, rfl, _, o, rfl, .tup ht hk2 e, ?_⟩
      rw [show isRef (.ref a) = true from rfl, Bool.true_and]
      exact q
/-! ### as_ratio -/
/-- what is promised of a def that hands back a number, or raises the error at C -/
def Gives (K : PySem.W.Frag) (C : Addr) (o : Option Rat) (H : Hp) (Q : VK) (E : XK) : Prop := match o with
  | some q => ∀ v H', Same H H' → Rn K H' v q → Q v H'
  | none => E (.ref C) none H
def spAR (K : PySem.W.Frag) (C : Addr) : Sp := fun vs H Q E => ∃ (x : V) (o : Option Rat), vs = [x] ∧ Arg K H x o ∧ Gives K C o H Q E
abbrev BMv : List Value := [.type "ValueError", .type "Exception", .type "BaseException", .type "object"]
abbrev BMa : List Value := [.type "ArithmeticError", .type "Exception", .type "BaseException", .type "object"]
theorem kd_tup_ref {H : Hp} {x : V} {n : String} (h : Kd K H x n) : decide (n = "tuple") = (n == "tuple") := by
  cases h <;> rfl
theorem kd_int_ty {H : Hp} {x : V} {n : String} (h : Kd K H x n) : decide (n = "int") = isI x := by
  cases h <;> rfl
theorem ok_AR {f fI fR C : Addr} {fd dI dR : FuncData} (F : Fun K "as_ratio" "as_ratio" s_as_ratio f fd) (DI : DefAt K mg "is_integer" s_is_integer ["value"] fI dI) (DR : DefAt K mg "is_ratio" s_is_ratio ["value"] fR dR) (X : ErrAt K mg "InvalidNumber" BMv "ValueError.__new__" C)
    (mt : mg "type" = none) (m1 : mg "int" = none) (m3 : mg "tuple" = none) (ml : mg "len" = none) (mgc : mg "gcd" = some (.builtin "math.gcd"))
    (GI : FnOk P w K mg base (CXn P w) 1 fI dI ["value"] (spII K)) (GR : FnOk P w K mg base (CXn P w) 2 fR dR ["value"] (spIR K)) : FnOk P w K mg base (CXn P w) 3 f fd ["value"] (spAR K C) := by
  refine F.okN sc_as_ratio (fun vs H Q E h => ?_) (fun cdv A outer s H vs Q E hr h => ?_)
  · obtain ⟨x, o, rfl, _⟩ := h
    rfl
  · obtain ⟨x, o, rfl, ha, q⟩ := h
    refine ⟨_, C8.pss_cut (ps_if (PW.pt (pw_and (pt_cmpR op_isTyB (pe_callTy call_type1 (by rfl) mt (by decide +kernel) (pa_cons (pv 0) pa_nil)) (pe_bltn (v := .ty "tuple") (by rfl) m3 (by decide +kernel) rfl) (nomark _))
          (pw_and1 (pt_cmpR op_eq (pe_callB call_len_seq (by rfl) ml PySem.boot_len (pa_cons (pv 0) pa_nil)) pe_int (nomark _)))))
        (pss_cons (ps_asg (pv 0) (pg_tup rfl (pgs_cons (pg_name (i := 1) sc_as_ratio.nd rfl (.inl rfl)) (pgs_cons (pg_name (i := 2) sc_as_ratio.nd rfl (.inl rfl)) pgs_nil))))
        (pss_one (ps_if (PW.pt (pw_and (pt_cmpR op_isTyB (pe_callTy call_type1 (by rfl) mt (by decide +kernel) (pa_cons (pv 1) pa_nil)) (pe_bltn (v := .ty "int") (by rfl) m1 (by decide +kernel) rfl) (nomark _))
            (pw_and (pt_cmpR op_isTyB (pe_callTy call_type1 (by rfl) mt (by decide +kernel) (pa_cons (pv 2) pa_nil)) (pe_bltn (v := .ty "int") (by rfl) m1 (by decide +kernel) rfl) (nomark _))
            (pw_and (pt_cmpR op_ge (pv 2) pe_int (nomark _)) (pw_and1 (pt_cmpR op_eq (pe_callBfun cr_gcd (by rfl) mgc (pa_cons (pv 1) (pa_cons (pv 2) pa_nil))) pe_int (nomark _)))))))
          (pss_one (ps_ret (pv 0))) pss_nil)))
        (pss_one (ps_if (pt_cmpR op_isTyB (pe_callTy call_type1 (by rfl) mt (by decide +kernel) (pa_cons (pv 0) pa_nil)) (pe_bltn (v := .ty "int") (by rfl) m1 (by decide +kernel) rfl) (nomark _))
          (pss_one (ps_ret (pe_tup (pa_cons (pv 0) (pa_cons pe_int pa_nil))))) pss_nil)))
      (pss_cons (ps_if (pt_val (pe_call GI (hr.mono (by decide)) (by rfl) DI.g DI.F.kp DI.b .nil passN (pa_cons (pv 0) pa_nil))) (pss_one (ps_ret (pe_tup (pa_cons (pv 0) (pa_cons pe_int pa_nil))))) pss_nil)
      (pss_cons (ps_if (pt_val (pe_call GR hr (by rfl) DR.g DR.F.kp DR.b .nil passN (pa_cons (pv 0) pa_nil))) (pss_one (ps_ret (pv 0))) pss_nil)
      (pss_one (L2N.ps_raise rfl (L2N.takes_of rfl rfl rfl rfl) (L2H.PMk5.pmk (X.mk5 PySem.F.excBase_ValueError rfl)))))), ?_⟩
    refine ⟨fun σ' H' => H' = H ∧ isI x = false ∧ o = none ∧ ∃ o1 o2, σ' = [some x, o1, o2], ?_, ?_⟩
    · cases ha with
      | int i =>
        refine ⟨_, rfl, _, _, rfl, (Kd.int (K := K) (H := H) i).tyB, _, _, rfl, rfl, _, rfl, ite2 (fun c => absurd c (by decide)) (fun _ => ?_)⟩
        refine ⟨_, rfl, _, _, rfl, (Kd.int (K := K) (H := H) i).tyB, _, _, rfl, rfl, _, rfl, ite2 (fun _ => ?_) (fun c => absurd (by decide) c)⟩
        refine ⟨_, rfl, by show 2 ≤ sizeLine; decide, fun p np => ?_⟩
        exact q _ _ (same_new np) (Rn.mk (q := (i : Rat)))
      | oth hk n1 n2 =>
        refine ⟨_, rfl, _, _, rfl, hk.tyB, _, _, rfl, rfl, _, rfl, ite2 (fun c => absurd c (by rw [kd_tup_ref hk, n2]; decide)) (fun _ => ?_)⟩
        refine ⟨_, rfl, _, _, rfl, hk.tyB, _, _, rfl, rfl, _, rfl, ite2 (fun c => absurd c (by rw [kd_int_ty hk, kd_noI hk n1]; decide)) (fun _ => ?_)⟩
        exact ⟨rfl, kd_noI hk n1, rfl, none, none, rfl⟩
      | @tup a xs _ ht hk e =>
        refine ⟨_, rfl, _, _, rfl, .tup ht, _, _, rfl, rfl, _, rfl, ite2 (fun _ => ?_) (fun c => absurd (by decide) c)⟩
        refine ⟨.ref a, rfl, a, xs, rfl, .inr ht, rfl, _, rfl, ?_⟩
        subst e
        by_cases hl : xs.length = 2
        · obtain ⟨x0, x1, rfl⟩ : ∃ x0 x1, xs = [x0, x1] := by
            match xs, hl with
            | [x0, x1], _ => exact ⟨x0, x1, rfl⟩
          obtain ⟨n0, k0⟩ := hk rfl x0 (by simp)
          obtain ⟨n1, k1⟩ := hk rfl x1 (by simp)
          refine iteT ?_
          refine ⟨.ref a, rfl, a, _, rfl, ht, rfl, x0, _, rfl, x1, _, rfl, rfl, ?_⟩
          refine ⟨_, rfl, _, _, rfl, k0.tyB, _, _, rfl, rfl, _, rfl, ?_⟩
          rw [kd_int_ty k0]
          refine ite2 (fun c0 => ?_) (fun c0 => ?_)
          · refine ⟨_, rfl, _, _, rfl, k1.tyB, _, _, rfl, rfl, _, rfl, ?_⟩
            rw [kd_int_ty k1]
            refine ite2 (fun c1 => ?_) (fun c1 => ?_)
            · obtain ⟨i0, rfl⟩ := isI_int c0
              obtain ⟨i1, rfl⟩ := isI_int c1
              have e2 := ratOf_ii (i := i0) (j := i1)
              refine ⟨_, rfl, i1, 1, rfl, rfl, _, rfl, ite2 (fun c => ?_) (fun c => ?_)⟩
              · have c3 : decide ((1 : Int) ≤ i1) = true := c
                refine ⟨_, rfl, _, rfl, i0, i1, rfl, rfl, _, rfl, ?_⟩
                rw [gcd_eq1]
                rw [c3, Bool.true_and] at e2
                refine ite2 (fun c => ?_) (fun c => ?_)
                · rw [c] at e2
                  obtain ⟨r, er⟩ := Option.isSome_iff_exists.mp e2
                  refine ⟨.ref a, rfl, ?_⟩
                  rw [er] at q
                  exact q _ _ (Same.refl _) ⟨a, rfl, ratOf_some er ▸ ht⟩
                · rw [Bool.eq_false_iff.mpr c] at e2
                  exact ⟨rfl, rfl, isSome_no e2, _, _, rfl⟩
              · have c3 : decide ((1 : Int) ≤ i1) = false := by simpa using c
                rw [c3, Bool.false_and] at e2
                exact ⟨rfl, rfl, isSome_no e2, _, _, rfl⟩
            · exact ⟨rfl, rfl, ratOf_no1 (by simpa using c1), _, _, rfl⟩
          · exact ⟨rfl, rfl, ratOf_no0 (by simpa using c0), _, _, rfl⟩
        · refine ite2 (fun c => absurd c (by rw [len_ne2 hl]; decide)) (fun _ => ?_)
          exact ⟨_, rfl, _, _, rfl, .tup ht, _, _, rfl, rfl, _, rfl, ite2 (fun c => absurd c (by decide)) (fun _ => ⟨rfl, rfl, ratOf_len hl, none, none, rfl⟩)⟩
    · rintro σ' H' ⟨rfl, e1, rfl, o1, o2, rfl⟩
      obtain ⟨n, hk⟩ := ha.kd
      refine ⟨x, rfl, x, n, rfl, hk, _, rfl, ?_⟩
      rw [e1]
      refine iteF ⟨x, rfl, x, none, rfl, ha, _, rfl, ?_⟩
      exact ite2 (fun c => absurd c (by simp)) (fun _ => q)
end
end LR
set_option Elab.async false
set_option linter.all false
set_option maxRecDepth 100000
set_option maxHeartbeats 4000000
set_option exponentiation.threshold 100000
namespace LR
open PySem PySem.Spec PyProof.Rows L2
/-! ### sizes of products -/
theorem p78 : 2 ^ 7800 < 2 ^ 8000 := Nat.pow_lt_pow_right (by decide) (by decide)
theorem wm {x y : Int} (hx : x.natAbs < 2 ^ 3900) (hy : y.natAbs < 2 ^ 3900) : CMulW x y := wide_mul hx hy (by decide) (by decide) (by decide)
theorem szM {x y : Int} (hx : x.natAbs < 2 ^ 3900) (hy : y.natAbs < 2 ^ 3900) : (x * y).natAbs < 2 ^ 7800 := wide_lt hx hy
theorem szA {x y : Int} (hx : x.natAbs < 2 ^ 7800) (hy : y.natAbs < 2 ^ 7800) : (x + y).natAbs < 2 ^ 8000 :=
  Nat.lt_trans (Nat.lt_of_le_of_lt (Int.natAbs_add_le _ _) (add_lt hx hy)) (Nat.pow_lt_pow_right (by decide) (by decide))
theorem szB {x y : Int} (hx : x.natAbs < 2 ^ 7800) (hy : y.natAbs < 2 ^ 7800) : (x - y).natAbs < 2 ^ 8000 := by
  rw [Int.sub_eq_add_neg]
  exact szA hx (by rw [Int.natAbs_neg]; exact hy)
theorem sdiv_pos {n d : Int} (hd : 0 < d) : sdiv n d = ((Nat.gcd n.natAbs d.natAbs : Nat) : Int) := by
  unfold sdiv
  rw [if_neg (by omega)]
theorem fdiv_one (n : Int) : n.fdiv 1 = n := by
  rw [Int.fdiv_eq_ediv_of_nonneg _ (by decide), Int.ediv_one]
theorem den_pos2 (p q : Rat) : (0 : Int) < (p.den : Int) * q.den := by
  have h1 := den_pos p
  have h2 := den_pos q
  exact Int.mul_pos (by omega) (by omega)
section
variable {P : Program} {w : World} {K : PySem.W.Frag} {mg : Str → Option Value} {base : Heap}
/-! ### reduced -/
def spRd (K : PySem.W.Frag) : Sp := fun vs H Q _ => ∃ n d : Int, vs = [.int n, .int d] ∧ 0 < d ∧ (n.natAbs < 2 ^ 8000 ∧ d.natAbs < 2 ^ 8000) ∧ ∀ v H', Same H H' → Rn K H' v (Rat.divInt n d) → Q v H'
theorem ok_Rd {f : Addr} {fd : FuncData} (F : Fun K "reduced" "reduced" s_reduced f fd) (mgc : mg "gcd" = some (.builtin "math.gcd")) : FnOk P w K mg base (CXn P w) 1 f fd ["top", "bottom"] (spRd K) := by
  refine F.okN sc_reduced (fun vs H Q E h => ?_) (fun cdv A outer s H vs Q E hr h => ?_)
  · obtain ⟨n, d, rfl, _⟩ := h
    rfl
  · obtain ⟨n, d, rfl, hd, ⟨hn, hdd⟩, q⟩ := h
    refine ⟨_, pss_cons (ps_set (i := 2) sc_reduced.nd rfl (.inl rfl) (pe_callBfun cr_gcd (by rfl) mgc (pa_cons (pv 0) (pa_cons (pv 1) pa_nil))))
      (pss_cons (ps_if (pt_cmpR op_eq (pv 2) pe_int (nomark _)) (pss_one (ps_ret (pe_tup (pa_cons (pv 0) (pa_cons (pv 1) pa_nil))))) pss_nil)
      (pss_one (ps_ret (pe_tup (pa_cons (pe_op op_fdivA (pv 0) (pv 2)) (pa_cons (pe_op op_fdivA (pv 1) (pv 2)) pa_nil)))))), ?_⟩
    have hd0 : d ≠ 0 := by omega
    have e1 := sdiv_num (n := n) hd0
    have e2 := sdiv_den (n := n) hd0
    have g0 := gcd_pos (n := n) hd0
    have gl := Nat.gcd_le_right n.natAbs (Int.natAbs_pos.mpr hd0)
    rw [sdiv_pos hd] at e1 e2
    refine ⟨_, rfl, _, rfl, n, d, rfl, ?_⟩
    refine ⟨_, rfl, rfl, _, rfl, ?_⟩
    rw [gcd_eq1]
    refine ite2 (fun c => ?_) (fun c => ?_)
    · have c1 : Nat.gcd n.natAbs d.natAbs = 1 := of_decide_eq_true c
      rw [c1] at e1 e2
      rw [show ((1 : Nat) : Int) = 1 from rfl, fdiv_one] at e1 e2
      refine ⟨_, rfl, _, rfl, by show 2 ≤ sizeLine; decide, fun p np => ?_⟩
      show Q (.ref p) (upd H p (.tup [.int n, .int d]))
      have er : [V.int n, V.int d] = rt (Rat.divInt n d) := by
        show [V.int n, V.int d] = [V.int (Rat.divInt n d).num, V.int ((Rat.divInt n d).den : Int)]
        rw [← e1, ← e2]
      rw [er]
      exact q _ _ (same_new np) Rn.mk
    · have c : ∀ i, CDivA i ((Nat.gcd n.natAbs d.natAbs : Nat) : Int) := fun i => divA (b := 8000) (by omega) (by rw [Int.natAbs_natCast]; omega) (by decide) (by decide)
      refine ⟨_, rfl, _, rfl, n, _, rfl, rfl, c n, _, rfl, _, rfl, d, _, rfl, rfl, c d, by show 2 ≤ sizeLine; decide, fun p np => ?_⟩
      show Q (.ref p) (upd H p (.tup [.int (n.fdiv ((Nat.gcd n.natAbs d.natAbs : Nat) : Int)), .int (d.fdiv ((Nat.gcd n.natAbs d.natAbs : Nat) : Int))]))
      rw [e1, e2]
      exact q _ _ (same_new np) Rn.mk
/-- of two numbers: a number, where they are numbers (and not too great); else the error -/
def Gives2 (K : PySem.W.Frag) (C : Addr) (f : Rat → Rat → Rat) (o1 o2 : Option Rat) (H : Hp) (Q : VK) (E : XK) : Prop := match o1, o2 with
  | some p, some q => (Sz 3900 p ∧ Sz 3900 q) ∧ ∀ v H', Same H H' → Rn K H' v (f p q) → Q v H'
  | _, _ => ∀ H', Same H H' → E (.ref C) none H'
def spTwo (K : PySem.W.Frag) (C : Addr) (f : Rat → Rat → Rat) : Sp := fun vs H Q E => ∃ (x y : V) (o1 o2 : Option Rat), vs = [x, y] ∧ Arg K H x o1 ∧ Arg K H y o2 ∧ Gives2 K C f o1 o2 H Q E

theorem sc_plus : FnScope ["first", "second", "top", "bottom", "other_top", "other_bottom"] ["first", "second"] (defScope s_plus) := ⟨rfl, rfl, rfl, by decide +kernel, rfl, by decide +kernel, by decide +kernel⟩
abbrev sp_plus (K : PySem.W.Frag) (C : Addr) : Sp := spTwo K C (fun p q => p + q)
theorem ok_plus {f fA fR C : Addr} {fd dA dR : FuncData} (D : DefAt K mg "plus" s_plus ["first", "second"] f fd) (DA : DefAt K mg "as_ratio" s_as_ratio ["value"] fA dA) (DR : DefAt K mg "reduced" s_reduced ["top", "bottom"] fR dR)
    (GA : FnOk P w K mg base (CXn P w) 3 fA dA ["value"] (spAR K C)) (GR : FnOk P w K mg base (CXn P w) 1 fR dR ["top", "bottom"] (spRd K)) : FnOk P w K mg base (CXn P w) 4 f fd ["first", "second"] (sp_plus K C) := by
  refine D.F.okN sc_plus (fun vs H Q E h => ?_) (fun cdv A outer s H vs Q E hr h => ?_)
  · obtain ⟨x, y, o1, o2, rfl, _⟩ := h
    rfl
  · obtain ⟨x, y, o1, o2, rfl, h1, h2, q⟩ := h
    refine ⟨_, pss_cons (ps_asg (pe_call GA hr (by rfl) DA.g DA.F.kp DA.b .nil (L2N.passes_call (L2N.takes_of rfl rfl rfl rfl) fun _ _ _ _ h => h) (pa_cons (pv 0) pa_nil)) (pg_tup (by rfl) (pgs_cons (pg_name (i := 2) sc_plus.nd rfl (.inl rfl)) (pgs_cons (pg_name (i := 3) sc_plus.nd rfl (.inl rfl)) pgs_nil))))
      (pss_cons (ps_asg (pe_call GA hr (by rfl) DA.g DA.F.kp DA.b .nil (L2N.passes_call (L2N.takes_of rfl rfl rfl rfl) fun _ _ _ _ h => h) (pa_cons (pv 1) pa_nil)) (pg_tup (by rfl) (pgs_cons (pg_name (i := 4) sc_plus.nd rfl (.inl rfl)) (pgs_cons (pg_name (i := 5) sc_plus.nd rfl (.inl rfl)) pgs_nil))))
      (pss_one (ps_ret (pe_call GR (hr.mono (by decide)) (by rfl) DR.g DR.F.kp DR.b .nil passN (pa_cons (pe_op op_add (pe_op op_mulW (pv 2) (pv 5)) (pe_op op_mulW (pv 4) (pv 3))) (pa_cons (pe_op op_mulW (pv 3) (pv 5)) pa_nil)))))), ?_⟩
    refine ⟨x, rfl, x, o1, rfl, h1, ?_⟩
    cases o1 with
    | none => cases o2 <;> exact q H (Same.refl _)
    | some p =>
      intro v1 H1 s1 r1
      obtain ⟨a, rfl, t1⟩ := r1
      refine ⟨a, rt p, rfl, t1, rfl, .int p.num, _, rfl, .int p.den, _, rfl, rfl, ?_⟩
      refine ⟨y, rfl, y, o2, rfl, h2.same s1, ?_⟩
      cases o2 with
      | none => exact q H1 s1
      | some q' =>
        obtain ⟨⟨hp, hq⟩, q⟩ := q
        intro v2 H2 s2 r2
        obtain ⟨b, rfl, t2⟩ := r2
        refine ⟨b, rt q', rfl, t2, rfl, .int q'.num, _, rfl, .int q'.den, _, rfl, rfl, ?_⟩
        refine ⟨_, rfl, _, rfl, _, _, rfl, rfl, wm hp.1 hq.2, _, rfl, _, rfl, _, _, rfl, rfl, wm hq.1 hp.2, _, _, rfl, rfl, _, rfl, _, rfl, _, _, rfl, rfl, wm hp.2 hq.2, ?_⟩
        refine ⟨_, _, rfl, den_pos2 p q', ⟨?_, Nat.lt_trans (szM hp.2 hq.2) p78⟩, fun v H' s' r => ?_⟩
        · exact szA (szM hp.1 hq.2) (szM hq.1 hp.2)
        · rw [← add_as p q'] at r
          exact q v H' ((s1.trans s2).trans s') r

theorem sc_minus : FnScope ["first", "second", "top", "bottom", "other_top", "other_bottom"] ["first", "second"] (defScope s_minus) := ⟨rfl, rfl, rfl, by decide +kernel, rfl, by decide +kernel, by decide +kernel⟩
abbrev sp_minus (K : PySem.W.Frag) (C : Addr) : Sp := spTwo K C (fun p q => p - q)
theorem ok_minus {f fA fR C : Addr} {fd dA dR : FuncData} (D : DefAt K mg "minus" s_minus ["first", "second"] f fd) (DA : DefAt K mg "as_ratio" s_as_ratio ["value"] fA dA) (DR : DefAt K mg "reduced" s_reduced ["top", "bottom"] fR dR)
    (GA : FnOk P w K mg base (CXn P w) 3 fA dA ["value"] (spAR K C)) (GR : FnOk P w K mg base (CXn P w) 1 fR dR ["top", "bottom"] (spRd K)) : FnOk P w K mg base (CXn P w) 4 f fd ["first", "second"] (sp_minus K C) := by
  refine D.F.okN sc_minus (fun vs H Q E h => ?_) (fun cdv A outer s H vs Q E hr h => ?_)
  · obtain ⟨x, y, o1, o2, rfl, _⟩ := h
    rfl
  · obtain ⟨x, y, o1, o2, rfl, h1, h2, q⟩ := h
    refine ⟨_, pss_cons (ps_asg (pe_call GA hr (by rfl) DA.g DA.F.kp DA.b .nil (L2N.passes_call (L2N.takes_of rfl rfl rfl rfl) fun _ _ _ _ h => h) (pa_cons (pv 0) pa_nil)) (pg_tup (by rfl) (pgs_cons (pg_name (i := 2) sc_minus.nd rfl (.inl rfl)) (pgs_cons (pg_name (i := 3) sc_minus.nd rfl (.inl rfl)) pgs_nil))))
      (pss_cons (ps_asg (pe_call GA hr (by rfl) DA.g DA.F.kp DA.b .nil (L2N.passes_call (L2N.takes_of rfl rfl rfl rfl) fun _ _ _ _ h => h) (pa_cons (pv 1) pa_nil)) (pg_tup (by rfl) (pgs_cons (pg_name (i := 4) sc_minus.nd rfl (.inl rfl)) (pgs_cons (pg_name (i := 5) sc_minus.nd rfl (.inl rfl)) pgs_nil))))
      (pss_one (ps_ret (pe_call GR (hr.mono (by decide)) (by rfl) DR.g DR.F.kp DR.b .nil passN (pa_cons (pe_op op_sub (pe_op op_mulW (pv 2) (pv 5)) (pe_op op_mulW (pv 4) (pv 3))) (pa_cons (pe_op op_mulW (pv 3) (pv 5)) pa_nil)))))), ?_⟩
    refine ⟨x, rfl, x, o1, rfl, h1, ?_⟩
    cases o1 with
    | none => cases o2 <;> exact q H (Same.refl _)
    | some p =>
      intro v1 H1 s1 r1
      obtain ⟨a, rfl, t1⟩ := r1
      refine ⟨a, rt p, rfl, t1, rfl, .int p.num, _, rfl, .int p.den, _, rfl, rfl, ?_⟩
      refine ⟨y, rfl, y, o2, rfl, h2.same s1, ?_⟩
      cases o2 with
      | none => exact q H1 s1
      | some q' =>
        obtain ⟨⟨hp, hq⟩, q⟩ := q
        intro v2 H2 s2 r2
        obtain ⟨b, rfl, t2⟩ := r2
        refine ⟨b, rt q', rfl, t2, rfl, .int q'.num, _, rfl, .int q'.den, _, rfl, rfl, ?_⟩
        refine ⟨_, rfl, _, rfl, _, _, rfl, rfl, wm hp.1 hq.2, _, rfl, _, rfl, _, _, rfl, rfl, wm hq.1 hp.2, _, _, rfl, rfl, _, rfl, _, rfl, _, _, rfl, rfl, wm hp.2 hq.2, ?_⟩
        refine ⟨_, _, rfl, den_pos2 p q', ⟨?_, Nat.lt_trans (szM hp.2 hq.2) p78⟩, fun v H' s' r => ?_⟩
        · exact szB (szM hp.1 hq.2) (szM hq.1 hp.2)
        · rw [← sub_as p q'] at r
          exact q v H' ((s1.trans s2).trans s') r

theorem sc_times : FnScope ["first", "second", "top", "bottom", "other_top", "other_bottom"] ["first", "second"] (defScope s_times) := ⟨rfl, rfl, rfl, by decide +kernel, rfl, by decide +kernel, by decide +kernel⟩
abbrev sp_times (K : PySem.W.Frag) (C : Addr) : Sp := spTwo K C (fun p q => p * q)
theorem ok_times {f fA fR C : Addr} {fd dA dR : FuncData} (D : DefAt K mg "times" s_times ["first", "second"] f fd) (DA : DefAt K mg "as_ratio" s_as_ratio ["value"] fA dA) (DR : DefAt K mg "reduced" s_reduced ["top", "bottom"] fR dR)
    (GA : FnOk P w K mg base (CXn P w) 3 fA dA ["value"] (spAR K C)) (GR : FnOk P w K mg base (CXn P w) 1 fR dR ["top", "bottom"] (spRd K)) : FnOk P w K mg base (CXn P w) 4 f fd ["first", "second"] (sp_times K C) := by
  refine D.F.okN sc_times (fun vs H Q E h => ?_) (fun cdv A outer s H vs Q E hr h => ?_)
  · obtain ⟨x, y, o1, o2, rfl, _⟩ := h
    rfl
  · obtain ⟨x, y, o1, o2, rfl, h1, h2, q⟩ := h
    refine ⟨_, pss_cons (ps_asg (pe_call GA hr (by rfl) DA.g DA.F.kp DA.b .nil (L2N.passes_call (L2N.takes_of rfl rfl rfl rfl) fun _ _ _ _ h => h) (pa_cons (pv 0) pa_nil)) (pg_tup (by rfl) (pgs_cons (pg_name (i := 2) sc_times.nd rfl (.inl rfl)) (pgs_cons (pg_name (i := 3) sc_times.nd rfl (.inl rfl)) pgs_nil))))
      (pss_cons (ps_asg (pe_call GA hr (by rfl) DA.g DA.F.kp DA.b .nil (L2N.passes_call (L2N.takes_of rfl rfl rfl rfl) fun _ _ _ _ h => h) (pa_cons (pv 1) pa_nil)) (pg_tup (by rfl) (pgs_cons (pg_name (i := 4) sc_times.nd rfl (.inl rfl)) (pgs_cons (pg_name (i := 5) sc_times.nd rfl (.inl rfl)) pgs_nil))))
      (pss_one (ps_ret (pe_call GR (hr.mono (by decide)) (by rfl) DR.g DR.F.kp DR.b .nil passN (pa_cons (pe_op op_mulW (pv 2) (pv 4)) (pa_cons (pe_op op_mulW (pv 3) (pv 5)) pa_nil)))))), ?_⟩
    refine ⟨x, rfl, x, o1, rfl, h1, ?_⟩
    cases o1 with
    | none => cases o2 <;> exact q H (Same.refl _)
    | some p =>
      intro v1 H1 s1 r1
      obtain ⟨a, rfl, t1⟩ := r1
      refine ⟨a, rt p, rfl, t1, rfl, .int p.num, _, rfl, .int p.den, _, rfl, rfl, ?_⟩
      refine ⟨y, rfl, y, o2, rfl, h2.same s1, ?_⟩
      cases o2 with
      | none => exact q H1 s1
      | some q' =>
        obtain ⟨⟨hp, hq⟩, q⟩ := q
        intro v2 H2 s2 r2
        obtain ⟨b, rfl, t2⟩ := r2
        refine ⟨b, rt q', rfl, t2, rfl, .int q'.num, _, rfl, .int q'.den, _, rfl, rfl, ?_⟩
        refine ⟨_, rfl, _, rfl, _, _, rfl, rfl, wm hp.1 hq.1, _, rfl, _, rfl, _, _, rfl, rfl, wm hp.2 hq.2, ?_⟩
        refine ⟨_, _, rfl, den_pos2 p q', ⟨?_, Nat.lt_trans (szM hp.2 hq.2) p78⟩, fun v H' s' r => ?_⟩
        · exact Nat.lt_trans (szM hp.1 hq.1) p78
        · rw [← mul_as p q'] at r
          exact q v H' ((s1.trans s2).trans s') r

/-! ### divided -/
theorem sc_divided : FnScope ["first", "second", "top", "bottom", "other_top", "other_bottom"] ["first", "second"] (defScope s_divided) := ⟨rfl, rfl, rfl, by decide +kernel, rfl, by decide +kernel, by decide +kernel⟩
def GivesDiv (K : PySem.W.Frag) (C C2 : Addr) (o1 o2 : Option Rat) (H : Hp) (Q : VK) (E : XK) : Prop := match o1, o2 with
  | some p, some q => (Sz 3900 p ∧ Sz 3900 q) ∧ (q = 0 → ∀ H', Same H H' → E (.ref C2) none H') ∧ (q ≠ 0 → ∀ v H', Same H H' → Rn K H' v (p / q) → Q v H')
  | _, _ => ∀ H', Same H H' → E (.ref C) none H'
def sp_divided (K : PySem.W.Frag) (C C2 : Addr) : Sp := fun vs H Q E => ∃ (x y : V) (o1 o2 : Option Rat), vs = [x, y] ∧ Arg K H x o1 ∧ Arg K H y o2 ∧ GivesDiv K C C2 o1 o2 H Q E
theorem negs {a b : Int} (hb : b ≠ 0) : Rat.divInt (-a) (-b) = Rat.divInt a b := by
  rw [Rat.divInt_eq_div, Rat.divInt_eq_div]
  have h : (b : Rat) ≠ 0 := by
    intro e
    exact hb (Rat.intCast_eq_zero_iff.mp e)
  rw [Rat.intCast_neg, Rat.intCast_neg]
  grind
theorem ok_divided {f fA fR C C2 : Addr} {fd dA dR : FuncData} (D : DefAt K mg "divided" s_divided ["first", "second"] f fd) (DA : DefAt K mg "as_ratio" s_as_ratio ["value"] fA dA) (DR : DefAt K mg "reduced" s_reduced ["top", "bottom"] fR dR) (X2 : ErrAt K mg "DivisionByZero" BMa "ArithmeticError.__new__" C2)
    (GA : FnOk P w K mg base (CXn P w) 3 fA dA ["value"] (spAR K C)) (GR : FnOk P w K mg base (CXn P w) 1 fR dR ["top", "bottom"] (spRd K)) : FnOk P w K mg base (CXn P w) 4 f fd ["first", "second"] (sp_divided K C C2) := by
  refine D.F.okN sc_divided (fun vs H Q E h => ?_) (fun cdv A outer s H vs Q E hr h => ?_)
  · obtain ⟨x, y, o1, o2, rfl, _⟩ := h
    rfl
  · obtain ⟨x, y, o1, o2, rfl, h1, h2, q⟩ := h
    refine ⟨_, pss_cons (ps_asg (pe_call GA hr (by rfl) DA.g DA.F.kp DA.b .nil (L2N.passes_call (L2N.takes_of rfl rfl rfl rfl) fun _ _ _ _ h => h) (pa_cons (pv 0) pa_nil)) (pg_tup (by rfl) (pgs_cons (pg_name (i := 2) sc_divided.nd rfl (.inl rfl)) (pgs_cons (pg_name (i := 3) sc_divided.nd rfl (.inl rfl)) pgs_nil))))
      (pss_cons (ps_asg (pe_call GA hr (by rfl) DA.g DA.F.kp DA.b .nil (L2N.passes_call (L2N.takes_of rfl rfl rfl rfl) fun _ _ _ _ h => h) (pa_cons (pv 1) pa_nil)) (pg_tup (by rfl) (pgs_cons (pg_name (i := 4) sc_divided.nd rfl (.inl rfl)) (pgs_cons (pg_name (i := 5) sc_divided.nd rfl (.inl rfl)) pgs_nil))))
      (pss_cons (ps_if (pt_cmpR op_eq (pv 4) pe_int (nomark _)) (pss_one (L2N.ps_raise rfl (L2N.takes_of rfl rfl rfl rfl) (L2H.PMk5.pmk (X2.mk5 PySem.F.excBase_ArithmeticError rfl)))) pss_nil)
      (pss_cons (ps_if (pt_cmpR op_lt (pv 4) pe_int (nomark _)) (pss_one (ps_ret (pe_call GR (hr.mono (by decide)) (by rfl) DR.g DR.F.kp DR.b .nil passN (pa_cons (pe_op op_mulW (pe_un un_neg (pv 2)) (pv 5)) (pa_cons (pe_op op_mulW (pe_un un_neg (pv 3)) (pv 4)) pa_nil))))) pss_nil)
      (pss_one (ps_ret (pe_call GR (hr.mono (by decide)) (by rfl) DR.g DR.F.kp DR.b .nil passN (pa_cons (pe_op op_mulW (pv 2) (pv 5)) (pa_cons (pe_op op_mulW (pv 3) (pv 4)) pa_nil)))))))), ?_⟩
    refine ⟨x, rfl, x, o1, rfl, h1, ?_⟩
    cases o1 with
    | none => cases o2 <;> exact q H (Same.refl _)
    | some p =>
      intro v1 H1 s1 r1
      obtain ⟨a, rfl, t1⟩ := r1
      refine ⟨a, rt p, rfl, t1, rfl, .int p.num, _, rfl, .int p.den, _, rfl, rfl, ?_⟩
      refine ⟨y, rfl, y, o2, rfl, h2.same s1, ?_⟩
      cases o2 with
      | none => exact q H1 s1
      | some q' =>
        obtain ⟨⟨hp, hq⟩, qz, qn⟩ := q
        intro v2 H2 s2 r2
        obtain ⟨b, rfl, t2⟩ := r2
        refine ⟨b, rt q', rfl, t2, rfl, .int q'.num, _, rfl, .int q'.den, _, rfl, rfl, ?_⟩
        have dp := den_pos p
        have hn3 : (-(p.num)).natAbs < 2 ^ 3900 := by rw [Int.natAbs_neg]; exact hp.1
        have hn4 : (-(p.den : Int)).natAbs < 2 ^ 3900 := by rw [Int.natAbs_neg]; exact hp.2
        refine ⟨_, rfl, rfl, _, rfl, ite2 (fun c => ?_) (fun c => ?_)⟩
        · have c1 : q'.num = 0 := V.int.inj (of_decide_eq_true c)
          exact qz (Rat.num_eq_zero.mp c1) H2 (s1.trans s2)
        · have c1 : q'.num ≠ 0 := fun z => c (decide_eq_true (by rw [z]))
          have hz : q' ≠ 0 := fun z => c1 (by rw [z]; rfl)
          refine ⟨_, rfl, _, _, rfl, rfl, _, rfl, ite2 (fun c => ?_) (fun c => ?_)⟩
          · have c2 : q'.num < 0 := of_decide_eq_true c
            refine ⟨_, rfl, _, rfl, _, rfl, _, _, rfl, rfl, wm hn3 hq.2, _, rfl, _, rfl, _, rfl, _, _, rfl, rfl, wm hn4 hq.1, ?_⟩
            refine ⟨_, _, rfl, ?_, ⟨Nat.lt_trans (szM hn3 hq.2) p78, Nat.lt_trans (szM hn4 hq.1) p78⟩, fun v H' s' r => ?_⟩
            · rw [Int.neg_mul, ← Int.mul_neg]
              exact Int.mul_pos (by omega) (by omega)
            · rw [Int.neg_mul, Int.neg_mul, negs (div_den_ne hz), ← div_as p q'] at r
              exact qn hz v H' ((s1.trans s2).trans s') r
          · have c2 : ¬ q'.num < 0 := fun z => c (decide_eq_true z)
            refine ⟨_, rfl, _, rfl, _, _, rfl, rfl, wm hp.1 hq.2, _, rfl, _, rfl, _, _, rfl, rfl, wm hp.2 hq.1, ?_⟩
            refine ⟨_, _, rfl, Int.mul_pos (by omega) (by omega), ⟨Nat.lt_trans (szM hp.1 hq.2) p78, Nat.lt_trans (szM hp.2 hq.1) p78⟩, fun v H' s' r => ?_⟩
            rw [← div_as p q'] at r
            exact qn hz v H' ((s1.trans s2).trans s') r
/-! ### floor_of -/
theorem sc_floor_of : FnScope ["value", "top", "bottom"] ["value"] (defScope s_floor_of) := ⟨rfl, rfl, rfl, by decide +kernel, rfl, by decide +kernel, by decide +kernel⟩
def GivesF (K : PySem.W.Frag) (C : Addr) (o1 : Option Rat) (H : Hp) (Q : VK) (E : XK) : Prop := match o1 with
  | some p => Sz 8000 p ∧ ∀ H', Same H H' → Q (.int p.floor) H'
  | none => ∀ H', Same H H' → E (.ref C) none H'
def sp_floor (K : PySem.W.Frag) (C : Addr) : Sp := fun vs H Q E => ∃ (x : V) (o1 : Option Rat), vs = [x] ∧ Arg K H x o1 ∧ GivesF K C o1 H Q E
theorem ok_floor {f fA C : Addr} {fd dA : FuncData} (D : DefAt K mg "floor_of" s_floor_of ["value"] f fd) (DA : DefAt K mg "as_ratio" s_as_ratio ["value"] fA dA)
    (GA : FnOk P w K mg base (CXn P w) 3 fA dA ["value"] (spAR K C)) : FnOk P w K mg base (CXn P w) 4 f fd ["value"] (sp_floor K C) := by
  refine D.F.okN sc_floor_of (fun vs H Q E h => ?_) (fun cdv A outer s H vs Q E hr h => ?_)
  · obtain ⟨x, o1, rfl, _⟩ := h
    rfl
  · obtain ⟨x, o1, rfl, h1, q⟩ := h
    refine ⟨_, pss_cons (ps_asg (pe_call GA hr (by rfl) DA.g DA.F.kp DA.b .nil (L2N.passes_call (L2N.takes_of rfl rfl rfl rfl) fun _ _ _ _ h => h) (pa_cons (pv 0) pa_nil)) (pg_tup (by rfl) (pgs_cons (pg_name (i := 1) sc_floor_of.nd rfl (.inl rfl)) (pgs_cons (pg_name (i := 2) sc_floor_of.nd rfl (.inl rfl)) pgs_nil))))
      (pss_one (ps_ret (pe_op op_fdivA (pv 1) (pv 2)))), ?_⟩
    refine ⟨x, rfl, x, o1, rfl, h1, ?_⟩
    cases o1 with
    | none => exact q H (Same.refl _)
    | some p =>
      obtain ⟨hp, q⟩ := q
      intro v1 H1 s1 r1
      obtain ⟨a, rfl, t1⟩ := r1
      refine ⟨a, rt p, rfl, t1, rfl, .int p.num, _, rfl, .int p.den, _, rfl, rfl, ?_⟩
      have d1 := den_pos p
      refine ⟨_, rfl, _, rfl, _, _, rfl, rfl, divA (b := 8000) (by omega) (by rw [Int.natAbs_natCast]; exact hp.2) (by decide) (by decide), ?_⟩
      show Q (.int (p.num.fdiv p.den)) H1
      rw [Int.fdiv_eq_ediv_of_nonneg _ (Int.natCast_nonneg _), ← Rat.floor_def]
      exact q H1 s1
/-! ### is_positive -/
theorem sc_is_positive : FnScope ["value"] ["value"] (defScope s_is_positive) := ⟨rfl, rfl, rfl, by decide +kernel, rfl, by decide +kernel, by decide +kernel⟩
def isPos : Option Rat → Bool | some q => decide (0 < q) | none => false
def spPosi (K : PySem.W.Frag) : Sp := fun vs H Q _ => ∃ (x : V) (o : Option Rat), vs = [x] ∧ Arg K H x o ∧ ∀ H', Same H H' → Q (.bl (isPos o)) H'
theorem ok_Posi {f fN fA C : Addr} {fd dN dA : FuncData} (D : DefAt K mg "is_positive" s_is_positive ["value"] f fd) (DN : DefAt K mg "is_number" s_is_number ["value"] fN dN) (DA : DefAt K mg "as_ratio" s_as_ratio ["value"] fA dA)
    (GN : FnOk P w K mg base (CXn P w) 3 fN dN ["value"] (spIN K)) (GA : FnOk P w K mg base (CXn P w) 3 fA dA ["value"] (spAR K C)) : FnOk P w K mg base (CXn P w) 4 f fd ["value"] (spPosi K) := by
  refine D.F.okN sc_is_positive (fun vs H Q E h => ?_) (fun cdv A outer s H vs Q E hr h => ?_)
  · obtain ⟨x, o, rfl, _⟩ := h
    rfl
  · obtain ⟨x, o, rfl, ha, q⟩ := h
    refine ⟨_, pss_one (ps_ret (pe_and (pe_call GN hr (by rfl) DN.g DN.F.kp DN.b .nil passN (pa_cons (pv 0) pa_nil))
      (pe_one (pe_cmpR op_gt (pe_ix (r := rIxT K) ix_tup (pe_call GA hr (by rfl) DA.g DA.F.kp DA.b .nil passN (pa_cons (pv 0) pa_nil)) pe_int (fun _ _ => rfl)) pe_int (nomark _))))), ?_⟩
    refine ⟨x, rfl, x, o, rfl, ha, _, rfl, ?_⟩
    cases o with
    | none => exact iteF (q H (Same.refl _))
    | some p =>
      refine iteT ⟨x, rfl, x, some p, rfl, ha, fun v1 H1 s1 r1 => ?_⟩
      obtain ⟨a, rfl, t1⟩ := r1
      refine ⟨a, _, 0, .int p.num, rfl, rfl, t1, atI_nat (j := 0) rfl, _, _, rfl, rfl, ?_⟩
      have e : decide ((0 : Int) < p.num) = isPos (some p) := by
        show _ = decide (0 < p)
        rw [decide_eq_decide]
        exact num_pos_iff
      show Q (.bl (decide ((0 : Int) < p.num))) H1
      rw [e]
      exact q H1 s1
/-! ### as_time -/
/-- a class that an except clause names -/
structure ErrM (K : PySem.W.Frag) (C : Addr) : Prop where
  d : PySem.W.hasDictIn K C = true
  s : PySem.W.subIn K (.ref C) (.ref C) = some true
theorem sc_as_time : FnScope ["value", "time"] ["value"] (defScope s_as_time) := ⟨rfl, rfl, rfl, by decide +kernel, rfl, by decide +kernel, by decide +kernel⟩
def GivesT (K : PySem.W.Frag) (C : Addr) (o : Option Rat) (H : Hp) (Q : VK) (E : XK) : Prop := match o with
  | some q => (q < 0 → ∀ H', Same H H' → E (.ref C) none H') ∧ (0 ≤ q → ∀ v H', Same H H' → Rn K H' v q → Q v H')
  | none => ∀ H', Same H H' → E (.ref C) none H'
def spTime (K : PySem.W.Frag) (C : Addr) : Sp := fun vs H Q E => ∃ (x : V) (o : Option Rat), vs = [x] ∧ Arg K H x o ∧ GivesT K C o H Q E
theorem ok_Time {f fA C CT : Addr} {fd dA : FuncData} (D : DefAt K mg "as_time" s_as_time ["value"] f fd) (DA : DefAt K mg "as_ratio" s_as_ratio ["value"] fA dA) (X : ErrAt K mg "InvalidNumber" BMv "ValueError.__new__" C) (XM : ErrM K C) (XT : ErrAt K mg "InvalidTime" BMv "ValueError.__new__" CT)
    (GA : FnOk P w K mg base (CXn P w) 3 fA dA ["value"] (spAR K C)) : FnOk P w K mg base (CXl P w) 4 f fd ["value"] (spTime K CT) := by
  refine D.F.okX sc_as_time (fun vs H Q E h => ?_) (fun cdv A outer s H vs Q E hr h => ?_)
  · obtain ⟨x, o, rfl, _⟩ := h
    rfl
  · obtain ⟨x, o, rfl, ha, q⟩ := h
    refine ⟨_, pss_cons (L2H.ps_try_onlyX (Wout := fun cls d _ H => E cls d H) rfl rfl ⟨rfl, by decide, .inl X.g⟩ (L2H.passesAt_of rfl) (takes_of rfl rfl rfl rfl)
        (fun W pn xe tk _ _ => pss_one (ps_asg (pe_callS GA hr (by rfl) DA.g DA.F.kp DA.b (fun σ => L2N.passAt tk σ) (pa_cons (pv 0) pa_nil)) (pg_name (i := 1) sc_as_time.nd rfl (.inl rfl))))
        (fun a oe cls d pn _ _ tkS hot => pss_one (L2H.ps_raiseHN hot tkS (XT.mk5 PySem.F.excBase_ValueError rfl))))
      (pss_cons (ps_if (pt_cmpR op_lt (pe_ix (r := rIxT K) ix_tup (pv 1) pe_int (fun _ _ => rfl)) pe_int (nomark _)) (pss_one (ps_raise rfl (takes_of rfl rfl rfl rfl) (XT.mk0 PySem.F.excBase_ValueError rfl))) pss_nil)
      (pss_one (ps_ret (pv 1)))), ?_⟩
    refine ⟨x, rfl, x, o, rfl, ha, ?_⟩
    cases o with
    | none => exact ⟨true, PySem.W.exm_ref X.b XM.d X.t XM.s, fun _ a ha => q H (Same.refl _), fun z => nomatch z⟩
    | some p =>
      obtain ⟨qn, qp⟩ := q
      intro v1 H1 s1 r1
      obtain ⟨a, rfl, t1⟩ := id r1
      refine ⟨.ref a, rfl, a, _, 0, .int p.num, rfl, rfl, t1, atI_nat (j := 0) rfl, _, _, rfl, rfl, _, rfl, ite2 (fun c => ?_) (fun c => ?_)⟩
      · exact qn (num_neg_iff.mp (of_decide_eq_true c)) H1 s1
      · have c1 : ¬ p.num < 0 := fun z => c (decide_eq_true z)
        exact ⟨.ref a, rfl, qp (Rat.not_lt.mp fun z => c1 (num_neg_iff.mpr z)) _ H1 s1 r1⟩
end
end LR
set_option Elab.async false
set_option linter.all false
set_option maxRecDepth 100000
set_option maxHeartbeats 4000000
namespace LR
open PySem PySem.Spec PyProof.Rows L2
/-! ### heaps beside one thing that changes -/
/-- all but D is as it was -/
def But (D : Addr) (H H' : Hp) : Prop := ∀ b o, b ≠ D → H b = some o → H' b = some o
theorem same_but {H0 H : Hp} {D : Addr} {o : HO} (s : Same H0 H) (h : H0 D = none) : Same H0 (upd H D o) := fun b y e => by
  rw [upd_ne (ne_of_none e h)]
  exact s b y e
section
variable {K : PySem.W.Frag} {H : Hp} {D : Addr} {o : HO}
theorem sqt_upd {a : Addr} {xs : List V} {u : HO} (hD : H D = some u) (nt : ∀ ys, u ≠ .tup ys) (nf : ∀ ob v, u ≠ .frz ob v) (h : SqT K H a xs) : SqT K (upd H D o) a xs := by
  rcases h with (h | ⟨ob, h⟩) | h
  · exact .inl (.inl (by rw [upd_ne (ne_of h hD (fun e => nt _ e.symm))]; exact h))
  · exact .inl (.inr ⟨ob, by rw [upd_ne (ne_of h hD (fun e => nf _ _ e.symm))]; exact h⟩)
  · exact .inr h
theorem rn_lst {x : V} {q : Rat} {ys : List V} (hD : H D = some (.lst ys)) (h : Rn K H x q) : Rn K (upd H D o) x q := by
  obtain ⟨a, e, h⟩ := h
  exact ⟨a, e, sqt_upd hD (fun _ e => by cases e) (fun _ _ e => by cases e) h⟩
theorem rn_ext {x : V} {q : Rat} {f : Heap → Prop} (hD : H D = some (.ext f)) (h : Rn K H x q) : Rn K (upd H D o) x q := by
  obtain ⟨a, e, h⟩ := h
  exact ⟨a, e, sqt_upd hD (fun _ e => by cases e) (fun _ _ e => by cases e) h⟩
end
/-- lists item by item -/
inductive All2 {α β : Type} (R : α → β → Prop) : List α → List β → Prop
  | nil : All2 R [] []
  | cons {x y xs ys} (h : R x y) (t : All2 R xs ys) : All2 R (x :: xs) (y :: ys)
section
variable {α β : Type} {R S : α → β → Prop}
theorem All2.len : ∀ {xs : List α} {ys : List β}, All2 R xs ys → xs.length = ys.length
  | _, _, .nil => rfl
  | _, _, .cons _ t => congrArg Nat.succ t.len
theorem All2.imp (f : ∀ x y, R x y → S x y) : ∀ {xs : List α} {ys : List β}, All2 R xs ys → All2 S xs ys
  | _, _, .nil => .nil
  | _, _, .cons h t => .cons (f _ _ h) (t.imp f)
theorem All2.snoc {x : α} {y : β} (h : R x y) : ∀ {xs : List α} {ys : List β}, All2 R xs ys → All2 R (xs ++ [x]) (ys ++ [y])
  | _, _, .nil => .cons h .nil
  | _, _, .cons g t => .cons g (t.snoc h)
theorem All2.get : ∀ {xs : List α} {ys : List β} {i : Nat} {x : α}, All2 R xs ys → xs[i]? = some x → ∃ y, ys[i]? = some y ∧ R x y
  | _, _, _, _, .nil, e => by simp at e
  | _, _, 0, _, .cons h _, e => by simp at e; subst e; exact ⟨_, rfl, h⟩
  | _, _, i + 1, x, .cons _ t, e => by
    obtain ⟨y, a, b⟩ := t.get (i := i) (x := x) (by simpa using e)
    exact ⟨y, by simpa using a, b⟩
theorem All2.take (n : Nat) : ∀ {xs : List α} {ys : List β}, All2 R xs ys → All2 R (xs.take n) (ys.take n) := by
  induction n with
  | zero => intro xs ys _; exact .nil
  | succ n ih =>
    intro xs ys h
    cases h with
    | nil => exact .nil
    | cons a t => exact .cons a (ih t)
theorem All2.map_left {γ : Type} {f : γ → α} : ∀ {zs : List γ} {ys : List β}, All2 (fun z y => R (f z) y) zs ys → All2 R (zs.map f) ys
  | _, _, .nil => .nil
  | _, _, .cons h t => .cons h t.map_left
end
theorem take_snoc {α : Type} {l : List α} {i : Nat} {x : α} (h : l[i]? = some x) : l.take (i + 1) = l.take i ++ [x] := by
  rw [List.take_succ, h]
  rfl


theorem but_same {H H' H2 : Hp} {D : Addr} (b : But D H H') (s : Same H' H2) : But D H H2 := fun x o n e => s _ _ (b x o n e)
theorem but_upd {H H' : Hp} {D : Addr} {o : HO} (b : But D H H') : But D H (upd H' D o) := fun x y n e => by rw [upd_ne n]; exact b x y n e
theorem same_but2 {H H' H2 : Hp} {D : Addr} (s : Same H H') (b : But D H' H2) : But D H H2 := fun x o n e => b _ _ n (s _ _ e)
theorem but_trans {H H' H2 : Hp} {D : Addr} (a : But D H H') (b : But D H' H2) : But D H H2 := fun x o n e => b _ _ n (a _ _ n e)
theorem but_of_same {H H' : Hp} {D : Addr} (s : Same H H') : But D H H' := fun x o _ e => s _ _ e
theorem but_new {H : Hp} {D : Addr} {o : HO} : But D H (upd H D o) := fun x y n e => by rw [upd_ne n]; exact e
theorem but_none {H H' : Hp} {D : Addr} (b : But D H H') (h : H D = none) : Same H H' := fun x o e => b x o (ne_of_none e h) e
section
variable {K : PySem.W.Frag} {H H' : Hp} {D : Addr}
/-- D holds neither a tuple nor a list, nor is it locked -/
structure Odd (H : Hp) (D : Addr) : Prop where
  nt : ∀ ys, H D ≠ some (.tup ys)
  nf : ∀ ob ys, H D ≠ some (.frz ob (.tup ys))
theorem Odd.of {u : HO} (h : H D = some u) (h1 : ∀ ys, u ≠ .tup ys) (h2 : ∀ ob ys, u ≠ .frz ob (.tup ys)) : Odd H D :=
  ⟨fun _ e => h1 _ (Option.some.inj (h.symm.trans e)), fun _ _ e => h2 _ _ (Option.some.inj (h.symm.trans e))⟩
theorem Odd.ins {C dx : Addr} {fs : List (Str × V)} (h : H D = some (.ins C dx fs)) : Odd H D := .of h (fun _ e => by cases e) (fun _ _ e => by cases e)
theorem Odd.lst {xs : List V} (h : H D = some (.lst xs)) : Odd H D := .of h (fun _ e => by cases e) (fun _ _ e => by cases e)
theorem Odd.sqt {a : Addr} {xs : List V} (O : Odd H D) (b : But D H H') (h : SqT K H a xs) : SqT K H' a xs := by
  rcases h with (h | ⟨ob, h⟩) | h
  · exact .inl (.inl (b _ _ (fun e => O.nt _ (e ▸ h)) h))
  · exact .inl (.inr ⟨ob, b _ _ (fun e => O.nf _ _ (e ▸ h)) h⟩)
  · exact .inr h
theorem Odd.rn {x : V} {q : Rat} (O : Odd H D) (b : But D H H') (h : Rn K H x q) : Rn K H' x q := let ⟨a, e, h⟩ := h; ⟨a, e, O.sqt b h⟩
theorem Odd.num {x : V} {q : Rat} (O : Odd H D) (b : But D H H') (h : Num K H x q) : Num K H' x q := by
  rcases h.kinds with ⟨rfl, e⟩ | h
  · have e2 : q = ((q.num : Int) : Rat) := Rat.ext rfl e
    have := num_int (K := K) (H := H') q.num
    rw [← e2] at this
    exact this
  · exact (O.rn b h).num
end
/-! ### numbers as data -/
abbrev datR (q : Rat) : PyData := .tuple [.int q.num, .int (q.den : Int)]
section
variable {K : PySem.W.Frag} {H : Hp}
theorem Rn.dp {v : V} {q : Rat} (h : Rn K H v q) : Dp K H v (datR q) := by
  obtain ⟨a, rfl, h⟩ := h
  exact .tup h (.cons (.int _) (.cons (.int _) .nil))
theorem rnl_dp : ∀ {xs : List V} {qs : List Rat}, All2 (Rn K H) xs qs → DpAll K H xs (qs.map datR)
  | _, _, .nil => .nil
  | _, _, .cons h t => .cons h.dp (rnl_dp t)
end
theorem canR (q : Rat) : (datR q).canLay0 = true := by simp [PyData.canLay0, PyData.canLayAll0]
theorem canRs : ∀ qs : List Rat, PyData.canLayAll0 (qs.map datR) = true
  | [] => rfl
  | q :: qs => by
    show ((datR q).canLay0 && PyData.canLayAll0 (qs.map datR)) = true
    rw [canR, canRs qs]
    rfl
theorem depRs : ∀ qs : List Rat, PyData.depthAll (qs.map datR) ≤ 1
  | [] => Nat.zero_le _
  | q :: qs => by
    have := depRs qs
    show max (PyData.depth (datR q)) (PyData.depthAll (qs.map datR)) ≤ 1
    have e : PyData.depth (datR q) = 1 := by simp [PyData.depth, PyData.depthAll]
    omega
theorem shapedR (q : Rat) : SeqAt.shaped (datR q) = true := by
  unfold SeqAt.shaped
  rw [canR]
  simp [PyData.depth, PyData.depthAll]
theorem shapedRs (qs : List Rat) : SeqAt.shaped (.list (qs.map datR)) = true := by
  unfold SeqAt.shaped
  rw [show (PyData.list (qs.map datR)).canLay0 = PyData.canLayAll0 (qs.map datR) from rfl, canRs, Bool.true_and, decide_eq_true_eq]
  have := depRs qs
  show PyData.depthAll (qs.map datR) + 1 ≤ 64
  omega
theorem eqvRR (p q : Rat) : PyData.eqv (datR p) (datR q) = decide (p = q) := by
  have e : (p = q) ↔ (p.num = q.num ∧ p.den = q.den) := ⟨fun e => by rw [e]; exact ⟨rfl, rfl⟩, fun h => Rat.ext h.1 h.2⟩
  have e2 : decide (p = q) = (decide (p.num = q.num) && decide (p.den = q.den)) := by
    rw [← Bool.decide_and, decide_eq_decide]
    exact e
  rw [e2]
  show ((p.num == q.num) && (((p.den : Int) == (q.den : Int)) && true)) = _
  have h1 : ∀ i j : Int, (i == j) = decide (i = j) := fun i j => by
    rw [Bool.eq_iff_iff, beq_iff_eq, decide_eq_true_eq]
  rw [Bool.and_true, h1, h1]
  congr 1
  rw [decide_eq_decide]
  exact Int.natCast_inj
theorem eqvRRs : ∀ ps qs : List Rat, PyData.eqv (.list (ps.map datR)) (.list (qs.map datR)) = decide (ps = qs)
  | [], [] => rfl
  | [], _ :: _ => rfl
  | _ :: _, [] => rfl
  | p :: ps, q :: qs => by
    show (PyData.eqv (datR p) (datR q) && PyData.eqvAll (ps.map datR) (qs.map datR)) = _
    have h : PyData.eqvAll (ps.map datR) (qs.map datR) = decide (ps = qs) := eqvRRs ps qs
    rw [h, eqvRR, ← Bool.decide_and, decide_eq_decide, List.cons.injEq]
theorem anyRR (q : Rat) : ∀ qs : List Rat, ((qs.map datR).any fun z => PyData.eqv z (datR q)) = decide (q ∈ qs)
  | [] => rfl
  | p :: ps => by
    rw [List.map_cons, List.any_cons, anyRR q ps, eqvRR, ← Bool.decide_or, decide_eq_decide, List.mem_cons]
    exact ⟨fun h => h.imp Eq.symm id, fun h => h.imp Eq.symm id⟩
end LR
set_option Elab.async false
set_option linter.all false
set_option maxRecDepth 100000
set_option maxHeartbeats 4000000
/-! x == y, x != y, x[y] where x is an object of a class with its own __eq__, __getitem__ -/
namespace OC
open PySem PySem.Spec PyProof.Rows L2
section
variable {P : Program} {w : World} {A : Around} {E : Value → Shared → Prop} {s : Shared} {K : PySem.W.Frag} {x C f : Addr} {ox : Obj} {od : Option Obj}
/-- a built-in's own method, found at the class -/
theorem bound_builtin {M : Model} {nm : Str} {id : String} {args : List Value} {Q : Option Value → Shared → Prop} (bd : ∀ v, bindSpecial (.builtin id) v = pure (.builtin id, [v])) (X : K.In s.heap) (I : PySem.W.InstAt s.heap x ox C od)
    (at_ : PySem.W.findIn K (.ref C) nm = some (some (.builtin id))) (h : wpAny M A (call (.builtin id) (.ref x :: args)) (fun v t => Q (some v) t) E s) : wpAny M A (callSpecialIfBound? (.ref x) nm args) Q E s := by
  unfold callSpecialIfBound? bindSpecialIfBound?
  refine wpAny_holding (wpAny_bind (wpAny_bind (wpAny_bind (I.type.here ((PySem.W.looks_findIn X at_).here (wpAny_bind (wpAny_askSetting (wpAny_ite ?_))))))))
  rw [bd]
  have after : wpAny M A (call (.builtin id) ([.ref x] ++ args) >>= fun v => pure (some v)) Q E s := wpAny_bind (wpAny_mono h (fun _ _ z => wpAny_pure z) fun _ _ z => z)
  split
  · exact wpAny_bind (wpAny_pure (wpAny_pure after))
  · exact wpAny_tryCatch (wpAny_bind (wpAny_pure (wpAny_pure after)))
/-- x != y by the class's own __eq__, turned about -/
theorem ne_own {b tb : Value} {Q : Value → Shared → Prop} (hu : A.units + 1 < cLine) (X : K.In s.heap) (I : PySem.W.InstAt s.heap x ox C od) (hb : PySem.W.Looks (model P w) s.heap (typeOf b) tb) (first : PySem.W.notFirst K C tb = true)
    (ne : PySem.W.findIn K (.ref C) "__ne__" = some (some (.builtin "object.__ne__"))) (isO : PySem.W.subIn K (.ref C) (.type "object") = some true) (eq : PySem.W.findIn K (.ref C) "__eq__" = some (some (.ref f))) (fn : PySem.W.isFn K (.ref f) = true)
    (h : wpAny (model P w) A.in1 (call (.ref f) [.ref x, b]) (fun r t => ∃ k, r = Value.bool k ∧ Q (.bool (!k)) t) E s) : wpAny (model P w) A (richCompare .NotEq (.ref x) b) Q E s := by
  have entry : wpAny (model P w) A.in1 (Builtin.«object.__ne__» ⟨[.ref x, b], []⟩) (fun fin t => ∃ k, fin = .done (.ret (.bool (!k))) ∧ Q (.bool (!k)) t) E s := by
    unfold Builtin.«object.__ne__»
    refine wpAny_bind ?_
    show wpAny _ _ (slotArgs "__ne__" 1 ⟨[.ref x, b], []⟩) _ _ s
    refine wpAny_pure ?_
    show wpAny _ _ _ _ _ s
    refine wpAny_bind (wpAny_cRoomFor (by show A.units + 1 < cLine; exact hu) ?_)
    refine wpAny_bind (PySem.W.ifBound_K X I eq fn (wpAny_mono h (fun r t z => ?_) fun _ _ z => z))
    obtain ⟨k, rfl, q⟩ := z
    exact wpAny_bind (wpAny_truthy_bool (wpAny_pure ⟨k, rfl, q⟩))
  have one : wpAny (model P w) A (tryCompare (.ref x) "__ne__" b) (fun r t => ∃ k, r = some (Value.bool k) ∧ Q (.bool k) t) E s := by
    unfold tryCompare
    refine wpAny_bind (bound_builtin PySem.F.cmp_object.ne.bind X I ne ?_)
    refine wpAny_call (codeAny_call_builtin PySem.F.cmp_object.ne.plain PySem.F.cmpEntry_ne (PySem.W.check_slot PySem.F.cmpKind_ne PySem.F.cmpSplit_ne (I.type.andThen (PySem.W.looks_subIn X isO)) (PySem.F.cmpArgs_ne _ _) (wpAny_mono entry (fun fin t z => ?_) fun _ _ z => z)))
    obtain ⟨k, rfl, q⟩ := z
    exact wpAny_pure ⟨!k, rfl, q⟩
  unfold richCompare
  simp only [oneThing_ref]
  refine wpAny_holding (wpAny_bind (wpAny_cRoomFor (by omega) (wpAny_bind (I.type.here (wpAny_bind (hb.here ?_))))))
  split
  · rename_i q
    have below : PySem.W.subIn K tb (.ref C) = some false := (Bool.or_eq_true_iff.mp first).elim (fun e => by rw [beq_iff_eq.mp e] at q; simp at q) fun e => beq_iff_eq.mp e
    refine wpAny_bind ((PySem.W.looks_subIn X below).here ?_)
    simp only [Bool.false_eq_true, if_false]
    refine wpAny_bind (wpAny_mono one (fun r t z => ?_) fun _ _ z => z)
    obtain ⟨k, rfl, q⟩ := z
    exact wpAny_pure q
  · refine wpAny_bind (wpAny_pure ?_)
    simp only [Bool.false_eq_true, if_false]
    refine wpAny_bind (wpAny_mono one (fun r t z => ?_) fun _ _ z => z)
    obtain ⟨k, rfl, q⟩ := z
    exact wpAny_pure q
end
section
variable {X : Cx} {CX : CXT} {k : Nat} {C g : Addr} {fd : FuncData} {ps : List Str} {sp : Sp} {E : XK}
/-- the callee runs at any place below -/
theorem run_at {A : Around} {pins : List (Addr × Obj)} {σ : L2.St} {H : Hp} {s : Shared} {Q : VK} {us : List Value} {vs : List V} (F : FnOk X.prog X.w X.K X.mg X.base CX k g fd ps sp) (hr : Room k A) (e0 : Env0 X.prog X.w X.K X.mg X.base A X.stack s H) (hb : Binds X.K fd ps []) (hx : Passes CX X E)
    (I : Inv X pins σ H s) (r : Vals vs us) (h : sp vs H Q E) : codeAny (model X.prog X.w) A (.call (.ref g) ⟨us, []⟩) (fun r t => match r with | .ok (.ret v) => EP X pins σ Q v t | .ok _ => False | .error e => X.xe e t) s := by
  have hl : us.length = ps.length := by rw [← r.length]; exact F.len _ _ _ _ h
  refine codeAny_mono (F.run A X.stack s H ⟨us, []⟩ us vs Q E hr e0 (by have := hb s us I.kIn (by simpa using hl); simpa using this) r h) fun r t z => ?_
  match r, z with
  | .error e, z => exact hx pins σ H s e t I z
  | .ok (.ret u), z => exact I.after z
  | .ok .next, z => exact z.elim
  | .ok .brk, z => exact z.elim
  | .ok .cont, z => exact z.elim
/-- of the class: what == and != ask -/
structure EqC (K : PySem.W.Frag) (C g : Addr) : Prop where
  eq : Meth K C "__eq__" g
  ne : PySem.W.findIn K (.ref C) "__ne__" = some (some (.builtin "object.__ne__"))
  ob : PySem.W.subIn K (.ref C) (.type "object") = some true
def rEq (K : PySem.W.Frag) (C : Addr) (neg : Bool) (sp : Sp) (E : XK) : R2 := fun x y H Q => ∃ a dx fs t, x = .ref a ∧ H a = some (.ins C dx fs) ∧ TyX K H y t ∧ PySem.W.notFirst K C t = true ∧ sp [x, y] H (fun z H' => ∃ b, z = .bl b ∧ Q (.bl (if neg then !b else b)) H') E
theorem op_eqOwn (T : EqC X.K C g) (F : FnOk X.prog X.w X.K X.mg X.base CX k g fd ps sp) (hr : Room k X.A) (hb : Binds X.K fd ps []) (hx : Passes CX X E) : OpR X (compareOp .Eq) (rEq X.K C false sp E) := by
  intro pins s σ H x y v u Q I rx ry h
  obtain ⟨a, dx, fs, t, rfl, ea, ty, nf, q⟩ := h
  cases (show v = Value.ref a from rx)
  obtain ⟨mA, O, _⟩ := ins_get I.hok ea
  obtain ⟨od, J, _⟩ := O.look
  obtain ⟨Z, kz, pz, _⟩ := kit_of I ry ty
  obtain ⟨m, hF⟩ := I.fr
  refine PySem.W.cmp_K (op := .Eq) hr.units0 hF I.ok.mod.kin J (kz.ty _ _ I.kIn pz) nf T.eq.at_ T.eq.fn ?_
  refine wpAny_mono (run_fn (us := [.ref a, u]) (vs := [.ref a, y]) F hr hb .nil hx I (.cons rfl (.cons ry .nil)) q) (fun r t z => ?_) fun _ _ z => z
  obtain ⟨z', H', I', rz, b, rfl, qb⟩ := z
  cases (show r = Value.bool b from rz)
  exact ⟨.bl b, H', I', rfl, qb⟩
theorem op_neOwn (T : EqC X.K C g) (F : FnOk X.prog X.w X.K X.mg X.base CX k g fd ps sp) (hr : Room (k + 1) X.A) (hb : Binds X.K fd ps []) (hx : Passes CX X E) : OpR X (compareOp .NotEq) (rEq X.K C true sp E) := by
  intro pins s σ H x y v u Q I rx ry h
  obtain ⟨a, dx, fs, t, rfl, ea, ty, nf, q⟩ := h
  cases (show v = Value.ref a from rx)
  obtain ⟨mA, O, _⟩ := ins_get I.hok ea
  obtain ⟨od, J, _⟩ := O.look
  obtain ⟨Z, kz, pz, _⟩ := kit_of I ry ty
  show wpAny _ _ (richCompare .NotEq (.ref a) u) _ _ _
  refine ne_own (hu_of hr) I.kIn J (kz.ty _ _ I.kIn pz) nf T.ne T.ob T.eq.at_ T.eq.fn ?_
  refine wpAny_mono (wpAny_call (run_at (us := [.ref a, u]) (vs := [.ref a, y]) F hr.in1 I.env0.in1 hb hx I (.cons rfl (.cons ry .nil)) q)) (fun r t z => ?_) fun _ _ z => z
  obtain ⟨z', H', I', rz, b, rfl, qb⟩ := z
  cases (show r = Value.bool b from rz)
  exact ⟨b, rfl, .bl (!b), H', I', rfl, qb⟩
/-- x[y] by the class's own __getitem__ -/
def tIx (C : Addr) (sp : Sp) (E : XK) (ta tb : TE) : TE := fun σ H Q => ta σ H fun x H1 => tb σ H1 fun y H2 => ∃ a dx fs, x = .ref a ∧ H2 a = some (.ins C dx fs) ∧ sp [x, y] H2 Q E
theorem pe_ixOwn {a b : Expr} {ta tb : TE} {pos : Pos} (hm : Meth X.K C "__getitem__" g) (fi : PySem.W.fnIn X.K g = true) (F : FnOk X.prog X.w X.K X.mg X.base CX k g fd ps sp) (hr : Room (k + 1) X.A) (bd : Binds X.K fd ps []) (hx : Passes CX X E) (ha : PE X a ta) (hb : PE X b tb)
    (hsl : ∀ o i, subscripted b true (.ref o) i = runValue (.builtin "lifetime.subscript" ⟨[.ref o, i], []⟩) := by with_unfolding_all exact fun _ _ => rfl) : PE X (.Subscript a b pos) (tIx C sp E ta tb) := by
  refine ⟨fun pins s σ H Q I h => Subscript_ (binT (R := fun x y H2 => ∃ a dx fs, x = .ref a ∧ H2 a = some (.ins C dx fs) ∧ sp [x, y] H2 Q E) ha hb I h fun v u s2 x y H2 I2 rx ry q => ?_)⟩
  obtain ⟨o, dx, fs, rfl, ea, q⟩ := q
  cases (show v = Value.ref o from rx)
  obtain ⟨mA, O, _⟩ := ins_get I2.hok ea
  obtain ⟨od, J, _⟩ := O.look
  obtain ⟨m, hF⟩ := I2.fr
  refine PySem.W.sub_K hF I2.ok.mod.kin J hm.at_ fi hm.fn ?_ (hsl _ _)
  exact wpAny_call (run_at (us := [.ref o, u]) (vs := [.ref o, y]) F hr.in1 I2.env0.in1 bd hx I2 (.cons rfl (.cons ry .nil)) q)
end
end OC
set_option Elab.async false
set_option linter.all false
set_option maxRecDepth 100000
set_option maxHeartbeats 4000000
/-! Promises of defs that are called while nothing is being shown (no repr runs around them), and repr of data -/
namespace LG
open PySem PySem.Spec PyProof.Rows L2
/-- as a promise, of calls where no repr runs -/
structure FnG (P : Program) (w : World) (K : PySem.W.Frag) (mg : Str → Option Value) (base : Heap) (CX : CXT) (k : Nat) (f : Addr) (fd : FuncData) (ps : List Str) (sp : Sp) : Prop where
  len : ∀ vs H Q E, sp vs H Q E → vs.length = ps.length
  run : ∀ (A : Around) (outer : List Env) (s : Shared) (H : Hp) (args : Args) (us : List Value) (vs : List V) (Q : VK) (E : XK), A.guards = some [] → Room k A → Env0 P w K mg base A outer s H → BindsTo s fd args (ps.zip us) → Vals vs us → sp vs H Q E →
    codeAny (model P w) A (.call (.ref f) args) (CR CX outer P w H s Q E) s
section
variable {P : Program} {w : World} {K : PySem.W.Frag} {mg : Str → Option Value} {base : Heap} {CX : CXT} {k : Nat} {f : Addr} {fd : FuncData} {ps : List Str} {sp : Sp}
theorem _root_.L2.FnOk.toG (F : FnOk P w K mg base CX k f fd ps sp) : FnG P w K mg base CX k f fd ps sp := ⟨F.len, fun A outer s H args us vs Q E _ => F.run A outer s H args us vs Q E⟩
theorem FnG.imp {sp' : Sp} (F : FnG P w K mg base CX k f fd ps sp) (h : ∀ vs H Q E, sp' vs H Q E → sp vs H Q E) : FnG P w K mg base CX k f fd ps sp' :=
  ⟨fun vs H Q E q => F.len vs H Q E (h _ _ _ _ q), fun A outer s H args us vs Q E g hr he hb hv hs => F.run A outer s H args us vs Q E g hr he hb hv (h _ _ _ _ hs)⟩
/-- THE RULE for such a def -/
theorem fun_okG {x qual : Str} {st : Stmt} {N : List Str} (F : Fun K x qual st f fd) (S : FnScope N ps (defScope st)) (len : ∀ vs H Q E, sp vs H Q E → vs.length = ps.length)
    (body : ∀ (cdv : Value) (A : Around) (outer : List Env) (s : Shared) (H : Hp) (vs : List V) (Q : VK) (E : XK), A.guards = some [] → Room k (A.deeper (envOfC qual (defScope st) s.heap.objs.size f cdv)) → sp vs H Q E →
      ∃ t, PSs (cxOf CX P w K mg base N qual (defScope st) f cdv A outer s H E) (defBody st) t ∧ t { nx := fun _ H' => Q .non H', rt := Q } (start N vs) H) : FnG P w K mg base CX (k + 1) f fd ps sp := by
  obtain ⟨oc, od, kV, doc, pm, an, cdv, ct, osl, rfl, lk, hcd⟩ := F.ex
  refine ⟨len, fun A outer s H args us vs Q E g hr e0 hb r hsp => ?_⟩
  have kin : K.In s.heap := e0.mod.kin.keeps fun b o e => (e0.bs b o e).1
  have lim : s.heap.NoLimit := e0.mod.nolimit.keeps fun b o e => (e0.bs b o e).1
  refine codeAny_call_function hr.depth (kin _ _ lk) rfl S.co S.gen rfl (PySem.W.codeRec_of kin hcd) (hb _ _ _ _ ?_)
  refine wpAny_newFunctionEnv_cells S.kind (fun y hy => ?_) fun env he s1 x => ?_
  · rcases S.par y.1 (List.of_mem_zip (a := y.1) (b := y.2) hy).1 with q | q
    · exact .inl q
    · exact .inr ⟨q, PySem.W.cellsFrom_some _ _ _ (.inl q)⟩
  subst he
  refine ⟨lim.keeps x.toInCall.keep, codeAny_func ?_⟩
  obtain ⟨t, ht, hq⟩ := body cdv A outer s H vs Q E g (hr.deeper _) hsp
  have I := inv_start (CX := CX) (N := N) (E := E) S hr.hd e0 (len _ _ _ _ hsp) r x
  refine wpAny_mono (ht.run [] s1 (start N vs) H _ I hq) (fun fl s' hs => ?_) fun e s' hs => hs
  cases fl with
  | ret u => exact let ⟨v, _, H', J, rv, q⟩ := hs; ⟨v, H', J.os, J.bare, J.base, J.hok, rv, q⟩
  | next => exact let ⟨_, H', J, q⟩ := hs; ⟨V.non, H', J.os, J.bare, J.base, J.hok, rfl, q⟩
  | brk => exact let ⟨_, _, _, q⟩ := hs; False.elim q
  | cont => exact let ⟨_, _, _, q⟩ := hs; False.elim q
end
section
variable {X : Cx} {CX : CXT} {k : Nat} {f : Addr} {fd : FuncData} {ps : List Str} {sp : Sp} {dvs : List V} {ds : List Value} {E : XK} {x : Str} {p pos : Pos} {e : Expr} {es : List Expr} {t : TA}
/-- f(e, ..) of such a def -/
theorem pe_callG (F : FnG X.prog X.w X.K X.mg X.base CX k f fd ps sp) (g : X.A.guards = some []) (hr : Room k X.A) (hg : Gl X x) (hm : X.mg x = some (.ref f)) (hk : PySem.W.keepIn X.K (.ref f) = true) (hb : Binds X.K fd ps ds) (hd : Vals dvs ds) (hx : Passes CX X E)
    (ha : PA X (e :: es) t) (hdb : (x == ("__debug__" : Str)) = false := by decide) (he : starEach (e :: es) X.env = (false, eval e X.env) :: starEach es X.env := by rfl) (hpl : (backTo pos (starEach es X.env)).any (·.1) = false := by rfl) :
    PE X (.Call (.Name x p) (e :: es) [] pos) (tCall sp dvs E t) := by
  refine ⟨fun pins s σ H Q I h => wpAny_Call_Name_kw (ld_glob I hg hm ?_ hdb)⟩
  refine PySem.W.callWith_K (h₀ := X.base) I.ok.mod.kin hk (thn (ha.run pos pins s σ H _ I h) fun us s1 ⟨vs, H1, J, r, q⟩ => ⟨J.kIn, ?_⟩) he hpl
  have r2 : Vals (vs ++ dvs) (us ++ ds) := r.append hd
  refine wpAny_call (codeAny_mono (F.run X.A X.stack s1 H1 ⟨us, []⟩ _ _ Q E g hr J.env0 (hb s1 us J.kIn (r2.length.symm.trans (F.len _ _ _ _ q))) r2 q) fun r s' hq => ?_)
  cases r with
  | error e => exact hx pins σ H1 s1 e s' J hq
  | ok fl =>
    cases fl with
    | ret u => exact J.after hq
    | next => exact False.elim hq
    | brk => exact False.elim hq
    | cont => exact False.elim hq
end

/-! ### repr of data -/
/-- what may be shown: no dict, no great int, no long text -/
def Fine (d : PyData) : Prop := d.showable = true ∧ d.hasDict = false ∧ d.depth ≤ 8 ∧ d.shown.length ≤ sizeLine
def rRepr (K : PySem.W.Frag) : List V → Hp → VK → Prop := fun vs H Q => ∃ (a : Addr) (d : PyData), vs = [.ref a] ∧ Dp K H (.ref a) d ∧ Fine d ∧ Q (.str d.shown) H
theorem cr_repr {X : Cx} (g : X.A.guards = some []) (hu : X.A.units + 64 < cLine) : CallR X (.builtin "repr") (rRepr X.K) := by
  intro pins s σ H vs us Q I r h
  obtain ⟨a, d, rfl, hd, ⟨f1, f2, f3, f4⟩, q⟩ := h
  rw [Vals.ref1 r]
  obtain ⟨as, rd⟩ := Dp.reads I d _ _ hd rfl
  exact repr_of_reads' rd f1 (fun h' => absurd (f2.symm.trans h') (by decide)) g (by omega) (fun _ _ e => e) (fun h' u tk k => ⟨.str d.shown, H, I.kept k, ⟨_, rfl⟩, q⟩) f4

/-! ### the law's call -/
/-- the script's heap: nothing else is tracked -/
theorem law_callG {P : Program} {w : World} {K : PySem.W.Frag} {mg mb : Str → Option Value} {CX : CXT} {k : Nat} {fa a : Addr} {fd : FuncData} {x : Str} {sp : Sp} {s1 : Shared} {vs : List Value} {ns : List Int}
    (kin : K.In s1.heap) (hns : s1.heap.Ns mainGlobals mg) (hb : s1.heap.Ns builtinsNs mb) (hbb : ∀ x : Str, x ≠ "__name__" → mb x = bootBuiltins x) (lim : s1.heap.NoLimit) (hg : s1.gens = #[])
    (ha : s1.heap.get? a = some { cls := .type "list", data := .seq vs.toArray }) (hi : IntsAre vs ns) (hl : ns.length ≤ sizeLine) (hr : Room k callerA)
    (F : ∀ base : Heap, K.In base → base.Ns mainGlobals mg → FnG P w K mg base CX k fa fd [x] sp) (bind : ∀ (s : Shared) (u : Value), BindsTo s fd ⟨[u], []⟩ [(x, u)])
    (hsp : ∀ H : Hp, Only H → SqL K H a (ns.map V.int) → sp [.ref a] H (fun v _ => v = .bl true) fun _ _ _ => False) (hCX : ∀ H e s', CX [] H s1 (fun _ _ _ => False) e s' → False) :
    codeAny (model P w) callerA (.call (.ref fa) ⟨[.ref a], []⟩) (fun r s' => r = .ok (.ret (.bool true)) ∧ OldK s1.heap s'.heap ∧ s'.os = s1.os ∧ AllBare s'.gens) s1 := by
  have rv := vals_ints hi
  -- over a heap that tracks the script or nothing
  have go : ∀ H : Hp, Only H → SqL K H a (ns.map V.int) → HOk P w H s1.heap → (∀ b u, H b = some u → b = a ∧ K.lookup a = none) →
      codeAny (model P w) callerA (.call (.ref fa) ⟨[.ref a], []⟩) (fun r s' => r = .ok (.ret (.bool true)) ∧ OldK s1.heap s'.heap ∧ s'.os = s1.os ∧ AllBare s'.gens) s1 := by
    intro H only hS hok one
    have free : ∀ {b : Addr} {o : Obj} {es : Array DictEntry} {ep : Nat}, s1.heap.get? b = some o → o.data = .dict es ep → H b = none := fun {b o es ep} e d => by
      cases q : H b with
      | none => rfl
      | some u =>
        obtain ⟨rfl, _⟩ := one b u q
        have e2 := Option.some.inj (e.symm.trans ha)
        subst e2
        cases d
    have ns1 : ∀ {b : Addr} {m : Str → Option Value}, s1.heap.Ns b m → (hidT s1.heap H).Ns b m := fun {b m} ⟨o, es, ep, e, d, r⟩ => ⟨o, es, ep, hidT_get e (free e d), d, r⟩
    have kin1 : K.In (hidT s1.heap H) := fun b o e => hidT_get (kin b o e) (by
      cases q : H b with
      | none => rfl
      | some u =>
        obtain ⟨rfl, z⟩ := one b u q
        rw [z] at e
        cases e)
    have M : Mod K mg (hidT s1.heap H) := ⟨kin1, ns1 hns, ⟨mb, ns1 hb, hbb⟩, let ⟨mc, h1, h2⟩ := lim; ⟨mc, ns1 h1, h2⟩⟩
    have e0 : Env0 P w K mg (hidT s1.heap H) callerA [] s1 H := ⟨rfl, M, fun b o e => of_hidT e, Nat.le_of_eq (hidT_size _ _), trivial, fun b z => absurd (show b ∈ ([] : List Addr) from z) (by simp), hok, .of_eq hg⟩
    refine codeAny_mono ((F _ kin1 (ns1 hns)).run callerA [] s1 H ⟨[.ref a], []⟩ [.ref a] [.ref a] _ _ rfl hr e0 (bind s1 (.ref a)) (.cons rfl .nil) (hsp H only hS)) fun r s' h => ?_
    match r, h with
    | .error e, h => exact (hCX H e s' h).elim
    | .ok .next, h => exact False.elim h
    | .ok .brk, h => exact False.elim h
    | .ok .cont, h => exact False.elim h
    | .ok (.ret u), h =>
      obtain ⟨v, H', os, bare, un, hok', r', q⟩ := h
      have q' : v = .bl true := q
      subst q'
      have r2 : u = Value.bool true := r'
      subst r2
      refine ⟨rfl, OldK.of_keep fun b o e => ?_, os, bare⟩
      cases z : H b with
      | none => exact un.keep b o e z (fun y => absurd (show b ∈ ([] : List Addr) from y) (by simp)) (by simp)
      | some u =>
        rcases only b with y | ⟨ob, xs, y⟩
        · rw [z] at y
          cases y
        · have e1 := (hok b _ y).1
          rw [e] at e1
          cases e1
          exact (hok' b _ (un.frzs b _ _ y)).1
  cases hk : K.lookup a with
  | some o =>
    have e := kin a o hk
    rw [ha] at e
    cases e
    exact go (fun _ => none) (fun _ => .inl rfl) (.inr ⟨_, vs.toArray, _, hk, rfl, rfl, rfl, by rw [List.size_toArray, hi.length]; exact hl, by simpa using rv⟩) (fun b u z => nomatch z) fun b u z => nomatch z
  | none =>
    have at1 : ∀ b, b ≠ a → (fun b => if b = a then some (HO.frz { cls := .type "list", data := .seq vs.toArray } (.lst (ns.map V.int))) else none : Hp) b = none := fun b h => if_neg h
    have at2 : (fun b => if b = a then some (HO.frz { cls := .type "list", data := .seq vs.toArray } (.lst (ns.map V.int))) else none : Hp) a = some (HO.frz { cls := .type "list", data := .seq vs.toArray } (.lst (ns.map V.int))) := if_pos rfl
    generalize (fun b => if b = a then some (HO.frz { cls := .type "list", data := .seq vs.toArray } (.lst (ns.map V.int))) else none : Hp) = H at at1 at2
    refine go H (fun b => ?_) (.inl (.inr ⟨_, at2⟩)) (fun b u z => ?_) fun b u z => ?_
    · by_cases h : b = a
      · subst h
        exact .inr ⟨_, _, at2⟩
      · exact .inl (at1 b h)
    · by_cases h : b = a
      · subst h
        have := Option.some.inj (z.symm.trans at2)
        subst this
        exact ⟨ha, by rw [List.length_map]; exact hl, vs, _, rv, ha⟩
      · rw [at1 b h] at z
        cases z
    · by_cases h : b = a
      · exact ⟨h, hk⟩
      · rw [at1 b h] at z
        cases z
theorem walk_G {l : PySem.W.OpenLaw} {n k : Nat} {q : Program} {loose : List Str} {XP : (Str → Option Value) → Heap → Prop} {YP : World → Heap → Prop} {d : DefRec} {K : Params → PySem.W.Frag} {CX : World → CXT} {sp : World → Sp} {x : Str}
    (hn : l.most = some n) (hn2 : n ≤ sizeLine) (hdf : d.params.defaults = []) (hr : Room k callerA) (hY : ∀ (w : World) (h : Heap), YP w h → (K w.params).In h)
    (F : ∀ (w : World) (mg : Str → Option Value) (fa : Addr) (h : Heap), (K w.params).In h → h.Ns mainGlobals mg → mg d.name = some (.ref fa) →
      ∃ fd : FuncData, (∀ (s : Shared) (u : Value), BindsTo s fd ⟨[u], []⟩ [(x, u)]) ∧ ∀ base : Heap, (K w.params).In base → base.Ns mainGlobals mg → FnG l.prog w (K w.params) mg base (CX w) k fa fd [x] (sp w))
    (hsp : ∀ (w : World) (H : Hp) (a : Addr) (ns : List Int), ns.length ≤ n → Only H → SqL (K w.params) H a (ns.map V.int) → sp w [.ref a] H (fun v _ => v = .bl true) fun _ _ _ => False)
    (hCX : ∀ (w : World) (H : Hp) (s : Shared) (e : Value) (s' : Shared), CX w [] H s (fun _ _ _ => False) e s' → False) :
    PySem.W.WalkO q loose XP YP l.row.toRowW d [] (fun f vs => PySem.call f vs) := by
  refine Att.attach_call hn hdf fun w s₀ s₁ mg mb fa o pm cd doc a vs ns G Y ho hd hcd hmg hobj hints hlen hg => ?_
  obtain ⟨fd, hb, hF⟩ := F w mg fa _ (hY w _ Y) G.T.g hmg
  exact law_callG (hY w _ Y) G.T.g G.T.b G.T.builtins G.T.nolimit hg hobj hints (Nat.le_trans hlen hn2) hr hF hb (fun H hO hS => hsp w H a ns hlen hO hS) fun H e s' => hCX w H s₁ e s'
end LG
set_option Elab.async false
set_option linter.all false
set_option maxRecDepth 100000
set_option maxHeartbeats 4000000
set_option exponentiation.threshold 100000
namespace LR
open PySem PySem.Spec PyProof.Rows L2
abbrev mInit : Stmt := inClass cMom 0
abbrev mEq : Stmt := inClass cMom 1
abbrev mGet : Stmt := inClass cMom 3
abbrev mIn : Stmt := inClass cMom 4
abbrev mCall : Stmt := inClass cMom 5
abbrev mBegin : Stmt := inClass cMom 9
abbrev mStep : Stmt := inClass cMom 10
abbrev mCount : Stmt := inClass cMom 11
abbrev mAfter : Stmt := inClass cMom 12
abbrev mSteps : Stmt := inClass cMom 13
theorem sc_mInit : FnScope ["self", "begin", "step"] ["self", "begin", "step"] (defScope mInit) := ⟨rfl, rfl, rfl, by decide +kernel, rfl, by decide +kernel, by decide +kernel⟩
theorem sc_mEq : FnScope ["self", "other"] ["self", "other"] (defScope mEq) := ⟨rfl, rfl, rfl, by decide +kernel, rfl, by decide +kernel, by decide +kernel⟩
theorem sc_mGet : FnScope ["self", "at"] ["self", "at"] (defScope mGet) := ⟨rfl, rfl, rfl, by decide +kernel, rfl, by decide +kernel, by decide +kernel⟩
theorem sc_mIn : FnScope ["self", "time", "top", "bottom"] ["self", "time"] (defScope mIn) := ⟨rfl, rfl, rfl, by decide +kernel, rfl, by decide +kernel, by decide +kernel⟩
theorem sc_mCall : FnScope ["self", "time"] ["self", "time"] (defScope mCall) := ⟨rfl, rfl, rfl, by decide +kernel, rfl, by decide +kernel, by decide +kernel⟩
theorem sc_mBegin : FnScope ["self"] ["self"] (defScope mBegin) := ⟨rfl, rfl, rfl, by decide +kernel, rfl, by decide +kernel, by decide +kernel⟩
theorem sc_mStep : FnScope ["self"] ["self"] (defScope mStep) := ⟨rfl, rfl, rfl, by decide +kernel, rfl, by decide +kernel, by decide +kernel⟩
theorem sc_mCount : FnScope ["self", "time"] ["self", "time"] (defScope mCount) := ⟨rfl, rfl, rfl, by decide +kernel, rfl, by decide +kernel, by decide +kernel⟩
theorem sc_mAfter : FnScope ["self", "time"] ["self", "time"] (defScope mAfter) := ⟨rfl, rfl, rfl, by decide +kernel, rfl, by decide +kernel, by decide +kernel⟩
theorem sc_mSteps : FnScope ["self", "time"] ["self", "time"] (defScope mSteps) := ⟨rfl, rfl, rfl, by decide +kernel, rfl, by decide +kernel, by decide +kernel⟩
/-! ### moments as an object -/
def mflds (x y : V) : List (Str × V) := [("_begin", x), ("_step", y)]
theorem mflds_eq (x y : V) : putF "_step" y (putF "_begin" x []) = mflds x y := by
  show (if ("_begin" : Str) = "_step" then _ else (("_begin" : Str), x) :: putF "_step" y []) = _
  rw [if_neg (by decide +kernel)]
  rfl
theorem ml_begin (x y : V) : (mflds x y).lookup ("_begin" : Str) = some x := by
  rw [← mflds_eq, lookup_putF, if_neg (by decide +kernel), lookup_putF, if_pos rfl]
theorem ml_step (x y : V) : (mflds x y).lookup ("_step" : Str) = some y := by
  rw [← mflds_eq, lookup_putF, if_pos rfl]
theorem ml_no (x y : V) {m : Str} (h1 : ¬ m = "_step") (h2 : ¬ m = "_begin") : (mflds x y).lookup m = none := by
  rw [← mflds_eq, lookup_putF, if_neg h1, lookup_putF, if_neg h2]
  rfl
def MomAt (K : PySem.W.Frag) (C : Addr) (H : Hp) (v : V) (b s : Rat) : Prop := ∃ (p dx : Addr) (vb vs : V), v = .ref p ∧ H p = some (.ins C dx (mflds vb vs)) ∧ Rn K H vb b ∧ Rn K H vs s
theorem MomAt.same {K : PySem.W.Frag} {C : Addr} {H H' : Hp} {v : V} {b s : Rat} (e : Same H H') (h : MomAt K C H v b s) : MomAt K C H' v b s :=
  let ⟨p, dx, vb, vs, e1, h1, h2, h3⟩ := h; ⟨p, dx, vb, vs, e1, e _ _ h1, h2.same e, h3.same e⟩
theorem MomAt.but {K : PySem.W.Frag} {C : Addr} {H H' : Hp} {v : V} {b s : Rat} {D : Addr} {xs : List V} (e : But D H H') (hD : H D = some (.lst xs)) (h : MomAt K C H v b s) : MomAt K C H' v b s :=
  let ⟨p, dx, vb, vs, e1, h1, h2, h3⟩ := h; ⟨p, dx, vb, vs, e1, e _ _ (ne_of h1 hD (by intro z; cases z)) h1, (Odd.lst hD).rn e h2, (Odd.lst hD).rn e h3⟩
def kdNames : List String := ["NoneType", "bool", "int", "str", "list", "tuple", "dict"]
theorem Kd.name {K : PySem.W.Frag} {H : Hp} {x : V} {n : String} (h : Kd K H x n) : n ∈ kdNames := by
  cases h <;> decide
/-- what is asked of the class as it stands -/
structure MomC (K : PySem.W.Frag) (C : Addr) : Prop where
  cl : Cls K C
  nB : NoAttr K C "_begin"
  nS : NoAttr K C "_step"
  ca : PySem.W.findIn K (.ref C) "__class__" = some (some (.builtin "object.__class__"))
  cn : PySem.W.specialIn K (.builtin "object.__class__") "__get__" = some (some (.builtin "getset_descriptor.__get__"))
  ct : PySem.W.takesIn K (.builtin "object.__class__") = some true
  cm : PySem.W.mroIn K C (.type "object") = some true
  ks : PySem.W.kitOne K (.ref C) (.ref C) = some true
  kb : ∀ n ∈ kdNames, PySem.W.kitOne K (.type n) (.ref C) = some false ∧ PySem.W.notFirst K C (.type n) = true
theorem MomC.ty {K : PySem.W.Frag} {C : Addr} (T : MomC K C) {H : Hp} {a dx : Addr} {fs : List (Str × V)} (e : H a = some (.ins C dx fs)) : TyX K H (.ref a) (.ref C) := .base (.ins e T.cl T.ca T.cn T.ct T.cm)
section
variable {P : Program} {w : World} {K : PySem.W.Frag} {mg : Str → Option Value} {base : Heap}
/-! ### Moments(begin, step) -/
def GivesMI (K : PySem.W.Frag) (C CT CN p : Addr) (ob os : Option Rat) (H : Hp) (Q : VK) (E : XK) : Prop := match ob with
  | none => ∀ H', Same H H' → E (.ref CT) none H'
  | some b => (b < 0 → ∀ H', Same H H' → E (.ref CT) none H') ∧ (0 ≤ b → match os with
    | none => ∀ H', But p H H' → E (.ref CN) none H'
    | some s => (s ≤ 0 → ∀ H', But p H H' → E (.ref CN) none H') ∧ (0 < s → ∀ H', But p H H' → MomAt K C H' (.ref p) b s → Q .non H'))
def spMI (K : PySem.W.Frag) (C CT CN : Addr) : Sp := fun vs H Q E => ∃ (p dx : Addr) (vb vs' : V) (ob os : Option Rat), vs = [.ref p, vb, vs'] ∧ H p = some (.ins C dx []) ∧ Arg K H vb ob ∧ Arg K H vs' os ∧ GivesMI K C CT CN p ob os H Q E
theorem arg_ins {H H' : Hp} {p C dx : Addr} {x : V} {o : Option Rat} {fs : List (Str × V)} (b : But p H H') (hp : H p = some (.ins C dx fs)) (h : Arg K H x o) : Arg K H' x o := by
  have kd : ∀ {x : V} {n : String}, Kd K H x n → Kd K H' x n := fun {x n} h => by
    cases h with
    | non => exact .non
    | bl b => exact .bl b
    | int i => exact .int i
    | str z => exact .str z
    | @lst _ xs h =>
      refine .lst (xs := xs) ?_
      rcases h with (h | ⟨o, h⟩) | h
      · exact .inl (.inl (b _ _ (fun e => by rw [e, hp] at h; cases h) h))
      · exact .inl (.inr ⟨o, b _ _ (fun e => by rw [e, hp] at h; cases h) h⟩)
      · exact .inr h
    | tup h => exact .tup ((Odd.ins hp).sqt b h)
    | dict h => exact .dict (b _ _ (fun e => by rw [e, hp] at h; cases h) h)
  cases h with
  | int i => exact .int i
  | tup h k e => exact .tup ((Odd.ins hp).sqt b h) (fun l y hy => let ⟨m, z⟩ := k l y hy; ⟨m, kd z⟩) e
  | oth h h1 h2 => exact .oth (kd h) h1 h2
theorem ok_mInit {f C fT fP fA CT CN : Addr} {fd dT dP dA : FuncData} (F : Fun K "__init__" "Moments.__init__" mInit f fd) (T : MomC K C) (DT : DefAt K mg "as_time" s_as_time ["value"] fT dT) (DP : DefAt K mg "is_positive" s_is_positive ["value"] fP dP) (DA : DefAt K mg "as_ratio" s_as_ratio ["value"] fA dA)
    (XN : ErrAt K mg "InvalidNumber" BMv "ValueError.__new__" CN)
    (GT : FnOk P w K mg base (CXl P w) 4 fT dT ["value"] (spTime K CT)) (GP : FnOk P w K mg base (CXl P w) 4 fP dP ["value"] (spPosi K)) (GA : FnOk P w K mg base (CXl P w) 3 fA dA ["value"] (spAR K CN)) : FnOk P w K mg base (CXl P w) 5 f fd ["self", "begin", "step"] (spMI K C CT CN) := by
  refine F.okX sc_mInit (fun vs H Q E h => ?_) (fun cdv A outer s H vs Q E hr h => ?_)
  · obtain ⟨p, dx, vb, vs', ob, os, rfl, _⟩ := h
    rfl
  · obtain ⟨p, dx, vb, vs', ob, os, rfl, hp, hb, hs, q⟩ := h
    refine ⟨_, pss_cons (ps_fld (pv 0) (pe_call GT hr (by rfl) DT.g DT.F.kp DT.b .nil (passes_call (takes_of rfl rfl rfl rfl) fun _ _ _ _ h => h) (pa_cons (pv 1) pa_nil)) rfl)
      (pss_cons (ps_if (pt_not (pt_val (pe_call GP hr (by rfl) DP.g DP.F.kp DP.b .nil passL (pa_cons (pv 2) pa_nil)))) (pss_one (ps_raise rfl (takes_of rfl rfl rfl rfl) (XN.mk0 PySem.F.excBase_ValueError rfl))) pss_nil)
      (pss_one (ps_fld (pv 0) (pe_call GA (hr.mono (by decide)) (by rfl) DA.g DA.F.kp DA.b .nil passL (pa_cons (pv 2) pa_nil)) rfl))), ?_⟩
    refine ⟨vb, rfl, vb, ob, rfl, hb, ?_⟩
    cases ob with
    | none => exact q
    | some b =>
      obtain ⟨q1, q2⟩ := q
      refine ⟨q1, fun b0 v1 H1 s1 r1 => ?_⟩
      have q2 := q2 b0
      have hp1 := s1 _ _ hp
      refine ⟨.ref p, rfl, p, C, dx, [], rfl, hp1, T.cl, T.nB, by show 0 < 1000; decide, ?_⟩
      have b12 : But p H1 (upd H1 p (.ins C dx (putF "_begin" v1 []))) := but_new
      have hp2 : (upd H1 p (.ins C dx (putF "_begin" v1 []))) p = some (.ins C dx (putF "_begin" v1 [])) := upd_same
      generalize (upd H1 p (.ins C dx (putF "_begin" v1 []))) = H2 at b12 hp2 ⊢
      have b02 : But p H H2 := same_but2 s1 b12
      have hs2 : Arg K H2 vs' os := arg_ins b12 hp1 (hs.same s1)
      have r2 : Rn K H2 v1 b := (Odd.ins hp1).rn b12 r1
      refine ⟨vs', rfl, vs', os, rfl, hs2, fun H3 s3 => ⟨_, rfl, ?_⟩⟩
      cases os with
      | none => exact iteT (q2 H3 (but_same b02 s3))
      | some s =>
        obtain ⟨q3, q4⟩ := q2
        show if (!decide (0 < s)) = true then _ else _
        by_cases c : 0 < s
        · rw [decide_eq_true c]
          refine iteF ⟨vs', rfl, vs', some s, rfl, hs2.same s3, fun v4 H4 s4 r4 => ?_⟩
          have hp4 := (s3.trans s4) _ _ hp2
          refine ⟨.ref p, rfl, p, C, dx, _, rfl, hp4, T.cl, T.nS, by show 1 < 1000; decide, ?_⟩
          rw [mflds_eq]
          have b45 : But p H4 (upd H4 p (.ins C dx (mflds v1 v4))) := but_new
          refine q4 c _ (but_trans (but_same b02 (s3.trans s4)) b45) ⟨p, dx, v1, v4, rfl, upd_same, ?_, ?_⟩
          · exact (Odd.ins hp4).rn b45 (r2.same (s3.trans s4))
          · exact (Odd.ins hp4).rn b45 r4
        · rw [decide_eq_false c]
          exact iteT (q3 (Rat.not_lt.mp c) H3 (but_same b02 s3))
/-- Moments(b, s) of two numbers, as its caller sees it -/
theorem make_ok {C CT CN : Addr} {H : Hp} {vb vs : V} {b s : Rat} {R : Addr → Hp → Prop} {E : XK} (hb : Num K H vb b) (hs : Num K H vs s) (b0 : 0 ≤ b) (s0 : 0 < s) (q : ∀ x H', Same H H' → MomAt K C H' (.ref x) b s → R x H') (x dx : Addr) (n1 : H x = none) (n2 : H dx = none) (ne : dx ≠ x) :
    spMI K C CT CN [.ref x, vb, vs] (upd (upd H dx (.own x)) x (.ins C dx [])) (fun v H2 => v = .non ∧ R x H2) E := by
  have n3 : (upd H dx (.own x)) x = none := by rw [upd_ne ne.symm]; exact n1
  have s1 : Same H (upd (upd H dx (.own x)) x (.ins C dx [])) := (same_new n2).trans (same_new n3)
  refine ⟨x, dx, vb, vs, some b, some s, rfl, upd_same, hb.same s1, hs.same s1, fun z => absurd b0 (Rat.not_le.mpr z), fun _ => ⟨fun z => absurd s0 (Rat.not_lt.mpr z), fun _ H' bt m => ⟨rfl, q x H' (fun y o e => ?_) m⟩⟩⟩
  exact bt _ _ (ne_of_none e n1) (s1 _ _ e)
/-! ### begin, step -/
theorem ok_mBegin {f C : Addr} {fd : FuncData} (F : Fun K "begin" "Moments.begin" mBegin f fd) (T : MomC K C) : FnOk P w K mg base (CXl P w) 1 f fd ["self"] (fun vs H Q _ => ∃ v b s, vs = [v] ∧ MomAt K C H v b s ∧ ∀ x, Rn K H x b → Q x H) := by
  refine F.okX sc_mBegin (fun vs H Q E h => ?_) (fun cdv A outer s H vs Q E hr h => ?_)
  · obtain ⟨v, b, s, rfl, _⟩ := h
    rfl
  · obtain ⟨v, b, s, rfl, ⟨p, dx, vb, vs, rfl, hp, hb, hs⟩, q⟩ := h
    exact ⟨_, pss_one (ps_ret (pe_fld (pv 0) rfl)), _, rfl, p, C, dx, _, _, rfl, hp, T.cl, T.nB, ml_begin _ _, q _ hb⟩
theorem ok_mStep {f C : Addr} {fd : FuncData} (F : Fun K "step" "Moments.step" mStep f fd) (T : MomC K C) : FnOk P w K mg base (CXl P w) 1 f fd ["self"] (fun vs H Q _ => ∃ v b s, vs = [v] ∧ MomAt K C H v b s ∧ ∀ x, Rn K H x s → Q x H) := by
  refine F.okX sc_mStep (fun vs H Q E h => ?_) (fun cdv A outer s H vs Q E hr h => ?_)
  · obtain ⟨v, b, s, rfl, _⟩ := h
    rfl
  · obtain ⟨v, b, s, rfl, ⟨p, dx, vb, vs, rfl, hp, hb, hs⟩, q⟩ := h
    exact ⟨_, pss_one (ps_ret (pe_fld (pv 0) rfl)), _, rfl, p, C, dx, _, _, rfl, hp, T.cl, T.nS, ml_step _ _, q _ hs⟩
/-! ### _steps_to -/
abbrev SzM (t b s : Rat) : Prop := Sz 900 t ∧ Sz 900 b ∧ Sz 900 s
def spSteps (K : PySem.W.Frag) (C : Addr) : Sp := fun vs H Q _ => ∃ (v x : V) (b s t : Rat), vs = [v, x] ∧ MomAt K C H v b s ∧ Num K H x t ∧ 0 < s ∧ SzM t b s ∧ ∀ y H', Same H H' → Rn K H' y ((t - b) / s) → Q y H'
theorem ok_mSteps {f C fD fM CN C2 : Addr} {fd dD dM : FuncData} (F : Fun K "_steps_to" "Moments._steps_to" mSteps f fd) (T : MomC K C) (DD : DefAt K mg "divided" s_divided ["first", "second"] fD dD) (DM : DefAt K mg "minus" s_minus ["first", "second"] fM dM)
    (GD : FnOk P w K mg base (CXl P w) 4 fD dD ["first", "second"] (sp_divided K CN C2)) (GM : FnOk P w K mg base (CXl P w) 4 fM dM ["first", "second"] (sp_minus K CN)) : FnOk P w K mg base (CXl P w) 5 f fd ["self", "time"] (spSteps K C) := by
  refine F.okX sc_mSteps (fun vs H Q E h => ?_) (fun cdv A outer s H vs Q E hr h => ?_)
  · obtain ⟨v, x, b, s, t, rfl, _⟩ := h
    rfl
  · obtain ⟨v, x, b, s, t, rfl, ⟨p, dx, vb, vs, rfl, hp, hb, hs⟩, ht, s0, ⟨z1, z2, z3⟩, q⟩ := h
    refine ⟨_, pss_one (ps_ret (pe_call GD hr (by rfl) DD.g DD.F.kp DD.b .nil passL (pa_cons (pe_call GM hr (by rfl) DM.g DM.F.kp DM.b .nil passL (pa_cons (pv 1) (pa_cons (pe_fld (pv 0) rfl) pa_nil))) (pa_cons (pe_fld (pv 0) rfl) pa_nil)))), ?_⟩
    refine ⟨x, rfl, _, rfl, p, C, dx, _, _, rfl, hp, T.cl, T.nB, ml_begin _ _, x, vb, some t, some b, rfl, ht, hb.num, ⟨z1.mono (by decide), z2.mono (by decide)⟩, fun y H1 s1 r1 => ?_⟩
    have hp1 := s1 _ _ hp
    have sne : s ≠ 0 := Rat.ne_of_gt s0
    refine ⟨_, rfl, p, C, dx, _, _, rfl, hp1, T.cl, T.nS, ml_step _ _, y, vs, some (t - b), some s, rfl, r1.num, (hs.same s1).num, ⟨(z1.sub z2).mono (by decide), z3.mono (by decide)⟩, fun z => absurd z sne, fun _ v2 H2 s2 r2 => ?_⟩
    exact q v2 H2 (s1.trans s2) r2
/-! ### count, a call -/
/-- the number of moments up to t -/
def cnt (b s t : Rat) : Int := if ((t - b) / s).floor + 1 > 0 then ((t - b) / s).floor + 1 else 0
def GivesN (K : PySem.W.Frag) (CT : Addr) (b s : Rat) (o : Option Rat) (H : Hp) (Q : VK) (E : XK) : Prop := match o with
  | none => ∀ H', Same H H' → E (.ref CT) none H'
  | some t => (t < 0 → ∀ H', Same H H' → E (.ref CT) none H') ∧ (0 ≤ t → SzM t b s ∧ ∀ H', Same H H' → Q (.int (cnt b s t)) H')
def spCount (K : PySem.W.Frag) (C CT : Addr) : Sp := fun vs H Q E => ∃ (v x : V) (b s : Rat) (o : Option Rat), vs = [v, x] ∧ MomAt K C H v b s ∧ Arg K H x o ∧ 0 < s ∧ GivesN K CT b s o H Q E
theorem ok_mCount {f C fT fF fS CT CN : Addr} {fd dT dF dS : FuncData} (F : Fun K "count" "Moments.count" mCount f fd) (T : MomC K C) (DT : DefAt K mg "as_time" s_as_time ["value"] fT dT) (DF : DefAt K mg "floor_of" s_floor_of ["value"] fF dF) (MS : Meth K C "_steps_to" fS) (bS : Binds K dS ["self", "time"] []) (mmax : mg "max" = none)
    (GT : FnOk P w K mg base (CXl P w) 4 fT dT ["value"] (spTime K CT)) (GF : FnOk P w K mg base (CXl P w) 4 fF dF ["value"] (sp_floor K CN)) (GS : FnOk P w K mg base (CXl P w) 5 fS dS ["self", "time"] (spSteps K C)) : FnOk P w K mg base (CXl P w) 6 f fd ["self", "time"] (spCount K C CT) := by
  refine F.okX sc_mCount (fun vs H Q E h => ?_) (fun cdv A outer s H vs Q E hr h => ?_)
  · obtain ⟨v, x, b, s, o, rfl, _⟩ := h
    rfl
  · obtain ⟨v, x, b, s, o, rfl, hm, hx, s0, q⟩ := h
    refine ⟨_, pss_one (ps_ret (pe_callB (call_max2 rfl) (by rfl) mmax (by decide +kernel) (pa_cons pe_int (pa_cons (pe_op op_add (pe_call GF (hr.mono (by decide)) (by rfl) DF.g DF.F.kp DF.b .nil passL
      (pa_cons (pe_meth (pv 0) T.cl MS GS hr bS .nil passL (pa_cons (pe_call GT (hr.mono (by decide)) (by rfl) DT.g DT.F.kp DT.b .nil (passes_call (takes_of rfl rfl rfl rfl) fun _ _ _ _ h => h) (pa_cons (pv 1) pa_nil)) pa_nil)) pa_nil)) pe_int) pa_nil)))), ?_⟩
    obtain ⟨p, dx, vb, vs, rfl, hp, hb, hs⟩ := id hm
    refine ⟨_, rfl, p, dx, _, rfl, hp, ml_no _ _ (by decide +kernel) (by decide +kernel), x, rfl, x, o, rfl, hx, ?_⟩
    cases o with
    | none => exact q
    | some t =>
      refine ⟨q.1, fun t0 v1 H1 s1 r1 => ?_⟩
      obtain ⟨z, q⟩ := q.2 t0
      refine ⟨_, v1, b, s, t, rfl, hm.same s1, r1.num, s0, z, fun v2 H2 s2 r2 => ?_⟩
      refine ⟨v2, some ((t - b) / s), rfl, r2.num, ((z.1.sub z.2.1).div z.2.2 (Rat.ne_of_gt s0)).mono (by decide), fun H3 s3 => ?_⟩
      exact ⟨_, _, rfl, rfl, 0, ((t - b) / s).floor + 1, rfl, q H3 ((s1.trans s2).trans s3)⟩
theorem ok_mCall {f C fN CT : Addr} {fd dN : FuncData} (F : Fun K "__call__" "Moments.__call__" mCall f fd) (T : MomC K C) (MN : Meth K C "count" fN) (bN : Binds K dN ["self", "time"] [])
    (GN : FnOk P w K mg base (CXl P w) 6 fN dN ["self", "time"] (spCount K C CT)) : FnOk P w K mg base (CXl P w) 7 f fd ["self", "time"] (spCount K C CT) := by
  refine F.okX sc_mCall (fun vs H Q E h => ?_) (fun cdv A outer s H vs Q E hr h => ?_)
  · obtain ⟨v, x, b, s, o, rfl, _⟩ := h
    rfl
  · obtain ⟨v, x, b, s, o, rfl, hm, hx, s0, q⟩ := h
    refine ⟨_, pss_one (ps_ret (pe_meth (pv 0) T.cl MN GN hr bN .nil (passes_call (takes_of rfl rfl rfl rfl) fun _ _ _ _ h => h) (pa_cons (pv 1) pa_nil))), ?_⟩
    obtain ⟨p, dx, vb, vs, rfl, hp, hb, hs⟩ := id hm
    exact ⟨_, rfl, p, dx, _, rfl, hp, ml_no _ _ (by decide +kernel) (by decide +kernel), x, rfl, _, x, b, s, o, rfl, hm, hx, s0, q⟩
/-! ### moments[index], after -/
def GivesG (K : PySem.W.Frag) (CC : Addr) (b s : Rat) (x : V) (H : Hp) (Q : VK) (E : XK) : Prop := match x with
  | .int i => (i < 0 → ∀ H', Same H H' → E (.ref CC) none H') ∧ (0 ≤ i → (Sz 900 (i : Rat) ∧ Sz 900 b ∧ Sz 900 s) ∧ ∀ y H', Same H H' → Rn K H' y (b + (i : Rat) * s) → Q y H')
  | _ => ∀ H', Same H H' → E (.ref CC) none H'
def spGet (K : PySem.W.Frag) (C CC : Addr) : Sp := fun vs H Q E => ∃ (v x : V) (b s : Rat) (n : String), vs = [v, x] ∧ MomAt K C H v b s ∧ Kd K H x n ∧ GivesG K CC b s x H Q E
theorem ok_mGet {f C fI fP fT CC CN : Addr} {fd dI dP dT : FuncData} (F : Fun K "__getitem__" "Moments.__getitem__" mGet f fd) (T : MomC K C) (DI : DefAt K mg "is_integer" s_is_integer ["value"] fI dI) (DP : DefAt K mg "plus" s_plus ["first", "second"] fP dP) (DT : DefAt K mg "times" s_times ["first", "second"] fT dT)
    (XC : ErrAt K mg "InvalidCount" BMv "ValueError.__new__" CC)
    (GI : FnOk P w K mg base (CXl P w) 1 fI dI ["value"] (spII K)) (GP : FnOk P w K mg base (CXl P w) 4 fP dP ["first", "second"] (sp_plus K CN)) (GT : FnOk P w K mg base (CXl P w) 4 fT dT ["first", "second"] (sp_times K CN)) : FnOk P w K mg base (CXl P w) 5 f fd ["self", "at"] (spGet K C CC) := by
  refine F.okX sc_mGet (fun vs H Q E h => ?_) (fun cdv A outer s H vs Q E hr h => ?_)
  · obtain ⟨v, x, b, s, n, rfl, _⟩ := h
    rfl
  · obtain ⟨v, x, b, s, n, rfl, hm, hx, q⟩ := h
    refine ⟨_, pss_cons (ps_if (PW.pt (pw_or (pt_not (pt_val (pe_call GI (hr.mono (by decide)) (by rfl) DI.g DI.F.kp DI.b .nil passL (pa_cons (pv 1) pa_nil)))) (pw_or1 (pt_cmpR op_lt (pv 1) pe_int (nomark _))))) (pss_one (ps_raise rfl (takes_of rfl rfl rfl rfl) (XC.mk0 PySem.F.excBase_ValueError rfl))) pss_nil)
      (pss_one (ps_ret (pe_call GP hr (by rfl) DP.g DP.F.kp DP.b .nil passL (pa_cons (pe_fld (pv 0) rfl) (pa_cons (pe_call GT hr (by rfl) DT.g DT.F.kp DT.b .nil passL (pa_cons (pv 1) (pa_cons (pe_fld (pv 0) rfl) pa_nil))) pa_nil))))), ?_⟩
    obtain ⟨p, dx, vb, vs, rfl, hp, hb, hs⟩ := id hm
    refine ⟨x, rfl, x, n, rfl, hx, _, rfl, ?_⟩
    by_cases hi : isI x = true
    · obtain ⟨i, rfl⟩ := isI_int hi
      obtain ⟨q1, q2⟩ := q
      refine iteF ⟨_, rfl, i, 0, rfl, rfl, _, rfl, ite2 (fun c => ?_) (fun c => ?_)⟩
      · exact q1 (of_decide_eq_true c) H (Same.refl _)
      · have i0 : 0 ≤ i := by
          have : ¬ i < 0 := fun z => c (decide_eq_true z)
          omega
        obtain ⟨⟨z1, z2, z3⟩, q3⟩ := q2 i0
        refine ⟨_, rfl, p, C, dx, _, _, rfl, hp, T.cl, T.nB, ml_begin _ _, _, rfl, _, rfl, p, C, dx, _, _, rfl, hp, T.cl, T.nS, ml_step _ _, _, vs, some (i : Rat), some s, rfl, num_int i, hs.num, ⟨z1.mono (by decide), z3.mono (by decide)⟩, fun y H1 s1 r1 => ?_⟩
        refine ⟨vb, y, some b, some ((i : Rat) * s), rfl, (hb.same s1).num, r1.num, ⟨z2.mono (by decide), (z1.mul z3).mono (by decide)⟩, fun y2 H2 s2 r2 => ?_⟩
        exact q3 y2 H2 (s1.trans s2) r2
    · have c2 : isI x = false := by simpa using hi
      rw [c2]
      refine iteT ?_
      have q' : ∀ H', Same H H' → E (.ref CC) none H' := by
        cases x <;> first | exact q | cases c2
      exact q' H (Same.refl _)
def GivesA (K : PySem.W.Frag) (CT : Addr) (b s : Rat) (o : Option Rat) (H : Hp) (Q : VK) (E : XK) : Prop := match o with
  | none => ∀ H', Same H H' → E (.ref CT) none H'
  | some t => (t < 0 → ∀ H', Same H H' → E (.ref CT) none H') ∧ (0 ≤ t → (SzM t b s ∧ Sz 900 ((cnt b s t : Int) : Rat)) ∧ ∀ y H', Same H H' → Rn K H' y (b + ((cnt b s t : Int) : Rat) * s) → Q y H')
def spAfter (K : PySem.W.Frag) (C CT : Addr) : Sp := fun vs H Q E => ∃ (v x : V) (b s : Rat) (o : Option Rat), vs = [v, x] ∧ MomAt K C H v b s ∧ Arg K H x o ∧ 0 < s ∧ GivesA K CT b s o H Q E
theorem cnt_nonneg (b s t : Rat) : 0 ≤ cnt b s t := by
  unfold cnt
  split <;> omega
theorem ok_mAfter {f C fN fG CT CC : Addr} {fd dN dG : FuncData} (F : Fun K "after" "Moments.after" mAfter f fd) (T : MomC K C) (MN : Meth K C "count" fN) (bN : Binds K dN ["self", "time"] []) (MG : Meth K C "__getitem__" fG) (fi : PySem.W.fnIn K fG = true) (bG : Binds K dG ["self", "at"] [])
    (GN : FnOk P w K mg base (CXl P w) 6 fN dN ["self", "time"] (spCount K C CT)) (GG : FnOk P w K mg base (CXl P w) 5 fG dG ["self", "at"] (spGet K C CC)) : FnOk P w K mg base (CXl P w) 7 f fd ["self", "time"] (spAfter K C CT) := by
  refine F.okX sc_mAfter (fun vs H Q E h => ?_) (fun cdv A outer s H vs Q E hr h => ?_)
  · obtain ⟨v, x, b, s, o, rfl, _⟩ := h
    rfl
  · obtain ⟨v, x, b, s, o, rfl, hm, hx, s0, q⟩ := h
    refine ⟨_, pss_one (ps_ret (OC.pe_ixOwn MG fi GG hr bG passL (pv 0) (pe_meth (pv 0) T.cl MN GN hr bN .nil (passes_call (takes_of rfl rfl rfl rfl) fun _ _ _ _ h => h) (pa_cons (pv 1) pa_nil)))), ?_⟩
    obtain ⟨p, dx, vb, vs, rfl, hp, hb, hs⟩ := id hm
    refine ⟨_, rfl, _, rfl, p, dx, _, rfl, hp, ml_no _ _ (by decide +kernel) (by decide +kernel), x, rfl, _, x, b, s, o, rfl, hm, hx, s0, ?_⟩
    cases o with
    | none => exact q
    | some t =>
      refine ⟨q.1, fun t0 => ?_⟩
      obtain ⟨⟨z1, z2⟩, q⟩ := q.2 t0
      refine ⟨z1, fun H1 s1 => ⟨p, dx, _, rfl, s1 _ _ hp, _, _, b, s, "int", rfl, hm.same s1, .int _, fun z => absurd (cnt_nonneg b s t) (by omega), fun _ => ⟨⟨z2, z1.2.1, z1.2.2⟩, fun y H2 s2 r2 => q y H2 (s1.trans s2) r2⟩⟩⟩
/-! ### time in moments -/
def isMom (b s : Rat) : Option Rat → Bool
  | none => false
  | some t => decide (0 ≤ ((t - b) / s).num) && decide (((t - b) / s).den = 1)
def spMIn (K : PySem.W.Frag) (C : Addr) : Sp := fun vs H Q _ => ∃ (v x : V) (b s : Rat) (o : Option Rat), vs = [v, x] ∧ MomAt K C H v b s ∧ Arg K H x o ∧ 0 < s ∧ (∀ t, o = some t → SzM t b s) ∧ ∀ H', Same H H' → Q (.bl (isMom b s o)) H'
theorem ok_mIn {f C fN fS : Addr} {fd dN dS : FuncData} (F : Fun K "__contains__" "Moments.__contains__" mIn f fd) (T : MomC K C) (DN : DefAt K mg "is_number" s_is_number ["value"] fN dN) (MS : Meth K C "_steps_to" fS) (bS : Binds K dS ["self", "time"] [])
    (GN : FnOk P w K mg base (CXl P w) 3 fN dN ["value"] (spIN K)) (GS : FnOk P w K mg base (CXl P w) 5 fS dS ["self", "time"] (spSteps K C)) : FnOk P w K mg base (CXl P w) 6 f fd ["self", "time"] (spMIn K C) := by
  refine F.okX sc_mIn (fun vs H Q E h => ?_) (fun cdv A outer s H vs Q E hr h => ?_)
  · obtain ⟨v, x, b, s, o, rfl, _⟩ := h
    rfl
  · obtain ⟨v, x, b, s, o, rfl, hm, hx, s0, zz, q⟩ := h
    refine ⟨_, pss_cons (ps_if (pt_not (pt_val (pe_call GN (hr.mono (by decide)) (by rfl) DN.g DN.F.kp DN.b .nil passL (pa_cons (pv 1) pa_nil)))) (pss_one (ps_ret pe_bl)) pss_nil)
      (pss_cons (ps_asg (pe_meth (pv 0) T.cl MS GS hr bS .nil passL (pa_cons (pv 1) pa_nil)) (pg_tup rfl (pgs_cons (pg_name (i := 2) sc_mIn.nd rfl (.inl rfl)) (pgs_cons (pg_name (i := 3) sc_mIn.nd rfl (.inl rfl)) pgs_nil))))
      (pss_one (ps_ret (pe_and (pe_cmpR op_ge (pv 2) pe_int (nomark _)) (pe_one (pe_cmpR op_eq (pv 3) pe_int (nomark _))))))), ?_⟩
    obtain ⟨p, dx, vb, vs, rfl, hp, hb, hs⟩ := id hm
    refine ⟨x, rfl, x, o, rfl, hx, _, rfl, ?_⟩
    cases o with
    | none => exact iteT (q H (Same.refl _))
    | some t =>
      refine iteF ⟨_, rfl, p, dx, _, rfl, hp, ml_no _ _ (by decide +kernel) (by decide +kernel), x, rfl, _, x, b, s, t, rfl, hm, hx, s0, zz t rfl, fun y H1 s1 r1 => ?_⟩
      obtain ⟨a, rfl, h1⟩ := r1
      have e1 : decide (V.int ((((t - b) / s).den : Nat) : Int) = V.int 1) = decide (((t - b) / s).den = 1) := by
        rw [decide_eq_decide, V.int.injEq]
        omega
      refine ⟨a, _, rfl, h1, rfl, _, _, rfl, _, _, rfl, rfl, _, rfl, _, _, rfl, rfl, _, rfl, ite2 (fun c => ?_) (fun c => ?_)⟩
      · refine ⟨_, rfl, rfl, ?_⟩
        have q : Q (.bl (decide (0 ≤ ((t - b) / s).num) && decide (((t - b) / s).den = 1))) H1 := q H1 s1
        rw [show decide (0 ≤ ((t - b) / s).num) = true from c, Bool.true_and, ← e1] at q
        exact q
      · have q : Q (.bl (decide (0 ≤ ((t - b) / s).num) && decide (((t - b) / s).den = 1))) H1 := q H1 s1
        rw [show decide (0 ≤ ((t - b) / s).num) = false by simpa using c, Bool.false_and] at q
        exact q
/-! ### == -/
def spEq (K : PySem.W.Frag) (C : Addr) : Sp := fun vs H Q _ => ∃ (v y : V) (b s : Rat), vs = [v, y] ∧ MomAt K C H v b s ∧ ((∃ n, Kd K H y n ∧ Q (.bl false) H) ∨ ∃ b' s', MomAt K C H y b' s' ∧ Q (.bl (decide (b = b') && decide (s = s'))) H)
theorem ok_mEq {f C : Addr} {fd : FuncData} (F : Fun K "__eq__" "Moments.__eq__" mEq f fd) (T : MomC K C) (gM : mg "Moments" = some (.ref C)) (mi : mg "isinstance" = none) : FnOk P w K mg base (CXl P w) 1 f fd ["self", "other"] (spEq K C) := by
  refine F.okX sc_mEq (fun vs H Q E h => ?_) (fun cdv A outer s H vs Q E hr h => ?_)
  · obtain ⟨v, y, b, s, rfl, _⟩ := h
    rfl
  · obtain ⟨v, y, b, s, rfl, ⟨p, dx, vb, vs, rfl, hp, hb, hs⟩, q⟩ := h
    refine ⟨_, pss_one (ps_ret (pe_and (pe_callB call_isi (by rfl) mi (by decide +kernel) (pa_cons (pv 1) (pa_cons (pe_glob (v := .ref C) rfl gM rfl) pa_nil)))
      (pe_and (pe_cmpR (op_eqD hr.units) (pe_fld (pv 0) rfl) (pe_fld (pv 1) rfl) (nomark _)) (pe_one (pe_cmpR (op_eqD hr.units) (pe_fld (pv 0) rfl) (pe_fld (pv 1) rfl) (nomark _)))))), ?_⟩
    rcases q with ⟨n, hk, q⟩ | ⟨b', s', ⟨p', dx', vb', vs', rfl, hp', hb', hs'⟩, q⟩
    · exact ⟨y, rfl, y, _, _, _, _, rfl, .own C, hk.ty, (T.kb n hk.name).1, _, rfl, iteF q⟩
    · refine ⟨_, rfl, _, _, _, _, _, rfl, .own C, T.ty hp', T.ks, _, rfl, iteT ?_⟩
      refine ⟨_, rfl, p, C, dx, _, _, rfl, hp, T.cl, T.nB, ml_begin _ _, _, rfl, p', C, dx', _, _, rfl, hp', T.cl, T.nB, ml_begin _ _, _, _, hb.dp, hb'.dp, shapedR _, shapedR _, _, rfl, ?_⟩
      rw [eqvRR]
      refine ite2 (fun c => ?_) (fun c => ?_)
      · refine ⟨_, rfl, p, C, dx, _, _, rfl, hp, T.cl, T.nS, ml_step _ _, _, rfl, p', C, dx', _, _, rfl, hp', T.cl, T.nS, ml_step _ _, _, _, hs.dp, hs'.dp, shapedR _, shapedR _, ?_⟩
        rw [eqvRR]
        rw [c, Bool.true_and] at q
        exact q
      · rw [Bool.eq_false_iff.mpr c, Bool.false_and] at q
        exact q
end
end LR
/-! LOrd: ranks of exact numbers by scaled floors; lists in order. Core Lean alone. -/
namespace LR
/-- the whole part of q * 2 ^ (2 * m) -/
def rank (m : Nat) (q : Rat) : Int := (q.num * 2 ^ (2 * m)) / (q.den : Int)
theorem rank_lt {m : Nat} {p q : Rat} (hp : p.den < 2 ^ m) (hq : q.den < 2 ^ m) (h : p < q) : rank m p < rank m q := by
  unfold rank
  have d1 : (0 : Int) < p.den := by have := den_pos p; omega
  have d2 : (0 : Int) < q.den := by have := den_pos q; omega
  have hl := (Rat.lt_iff p q).mp h
  have hD : (p.den : Int) * q.den ≤ 2 ^ (2 * m) := by
    have e : (2 : Int) ^ (2 * m) = ((2 ^ m * 2 ^ m : Nat) : Int) := by
      rw [← Nat.pow_add, show m + m = 2 * m by omega, Int.natCast_pow]
      rfl
    rw [e, ← Int.natCast_mul]
    exact Int.ofNat_le.mpr (Nat.mul_le_mul (Nat.le_of_lt hp) (Nat.le_of_lt hq))
  generalize (2 : Int) ^ (2 * m) = D at hD
  have hD0 : 0 < D := Int.lt_of_lt_of_le (Int.mul_pos d1 d2) hD
  have hx : p.num * D / p.den * p.den ≤ p.num * D := Int.ediv_mul_le _ (Int.ne_of_gt d1)
  generalize p.num * D / (p.den : Int) = x at hx ⊢
  have key : (x + 1) * q.den ≤ q.num * D := by
    refine Int.le_of_mul_le_mul_right (a := (p.den : Int)) ?_ d1
    have e1 : (x + 1) * q.den * p.den = x * p.den * q.den + p.den * q.den := by
      rw [Int.add_mul, Int.add_mul, Int.one_mul, Int.mul_right_comm, Int.mul_comm (q.den : Int) p.den]
    have e2 : x * p.den * q.den ≤ p.num * D * q.den := Int.mul_le_mul_of_nonneg_right hx (Int.le_of_lt d2)
    have e3 : p.num * q.den + 1 ≤ q.num * p.den := hl
    have e4 : (p.num * q.den + 1) * D ≤ q.num * p.den * D := Int.mul_le_mul_of_nonneg_right e3 (Int.le_of_lt hD0)
    rw [Int.add_mul, Int.one_mul] at e4
    have e5 : p.num * D * q.den = p.num * q.den * D := Int.mul_right_comm _ _ _
    have e6 : q.num * D * p.den = q.num * p.den * D := Int.mul_right_comm _ _ _
    omega
  have := (Int.le_ediv_iff_mul_le d2).mpr key
  omega
theorem rank_inj {m : Nat} {p q : Rat} (hp : p.den < 2 ^ m) (hq : q.den < 2 ^ m) (h : rank m p = rank m q) : p = q := by
  by_cases c : p < q
  · have := rank_lt hp hq c
    omega
  · by_cases d : q < p
    · have := rank_lt hq hp d
      omega
    · exact Rat.le_antisymm (Rat.not_lt.mp d) (Rat.not_lt.mp c)
theorem rank_le {m : Nat} {p q : Rat} (hp : p.den < 2 ^ m) (hq : q.den < 2 ^ m) (h : rank m p ≤ rank m q) : p ≤ q := by
  rw [← Rat.not_lt]
  intro c
  have := rank_lt hq hp c
  omega
theorem rank_abs {m b : Nat} {q : Rat} (h : q.num.natAbs < 2 ^ b) : (q.num * 2 ^ (2 * m)).natAbs < 2 ^ (b + 2 * m) := by
  rw [Int.natAbs_mul, Nat.pow_add, Int.natAbs_pow]
  exact Nat.mul_lt_mul_of_pos_right h (Nat.pow_pos (by decide))
theorem perm_map_inv {α β : Type} {f : α → β} : ∀ {l : List β} {m : List α}, l.Perm (m.map f) → ∃ m' : List α, l = m'.map f ∧ m'.Perm m
  | [], m, h => by
    have : m.map f = [] := (List.nil_perm.mp h)
    exact ⟨[], rfl, by rw [List.map_eq_nil_iff.mp this]⟩
  | x :: l, m, h => by
    have hx : x ∈ m.map f := h.mem_iff.mp List.mem_cons_self
    obtain ⟨a, ha, rfl⟩ := List.mem_map.mp hx
    obtain ⟨s, t, rfl⟩ := List.append_of_mem ha
    have h2 : l.Perm ((s ++ t).map f) := by
      rw [List.map_append, List.map_cons] at h
      have h3 := h.trans List.perm_middle
      rw [List.map_append]
      exact h3.cons_inv
    obtain ⟨m', e, p⟩ := perm_map_inv h2
    exact ⟨a :: m', by rw [List.map_cons, e], (p.cons a).trans List.perm_middle.symm⟩
/-- a list of numbers in order, without duplicates, of the members of another -/
def InOrder (qs rs : List Rat) : Prop := rs.Pairwise (· < ·) ∧ ∀ r, r ∈ rs ↔ r ∈ qs
theorem nodup_one {α β : Type} {f : α → β} : ∀ {l : List α}, (l.map f).Nodup → ∀ x ∈ l, ∀ y ∈ l, f x = f y → x = y
  | [], _, _, h, _, _, _ => by cases h
  | a :: l, hn, x, hx, y, hy, e => by
    obtain ⟨h1, h2⟩ := List.nodup_cons.mp hn
    by_cases ex : x = a
    · by_cases ey : y = a
      · rw [ex, ey]
      · have hy' : y ∈ l := (List.mem_cons.mp hy).resolve_left ey
        exact absurd (List.mem_map.mpr ⟨y, hy', by rw [← e, ex]⟩) h1
    · have hx' : x ∈ l := (List.mem_cons.mp hx).resolve_left ex
      by_cases ey : y = a
      · exact absurd (List.mem_map.mpr ⟨x, hx', by rw [e, ey]⟩) h1
      · exact nodup_one h2 x hx' y ((List.mem_cons.mp hy).resolve_left ey) e
end LR
namespace LR
theorem gcd_step {a b : Int} (hb : 0 ≤ b) (hb0 : b ≠ 0) : Nat.gcd b.natAbs (a % b).natAbs = Nat.gcd a.natAbs b.natAbs := by
  have d := Int.emod_add_mul_ediv a b
  refine Nat.dvd_antisymm (Nat.dvd_gcd ?_ (Nat.gcd_dvd_left _ _)) (Nat.dvd_gcd (Nat.gcd_dvd_right _ _) ?_)
  · have h1 : ((Nat.gcd b.natAbs (a % b).natAbs : Nat) : Int) ∣ b := Int.ofNat_dvd_left.mpr (Nat.gcd_dvd_left _ _)
    have h2 : ((Nat.gcd b.natAbs (a % b).natAbs : Nat) : Int) ∣ a % b := Int.ofNat_dvd_left.mpr (Nat.gcd_dvd_right _ _)
    have h3 := Int.dvd_add h2 (Int.dvd_trans h1 (Int.dvd_mul_right b (a / b)))
    rw [d] at h3
    exact Int.ofNat_dvd_left.mp h3
  · have h1 : ((Nat.gcd a.natAbs b.natAbs : Nat) : Int) ∣ b := Int.ofNat_dvd_left.mpr (Nat.gcd_dvd_right _ _)
    have h2 : ((Nat.gcd a.natAbs b.natAbs : Nat) : Int) ∣ a := Int.ofNat_dvd_left.mpr (Nat.gcd_dvd_left _ _)
    have h3 := Int.dvd_sub h2 (Int.dvd_trans h1 (Int.dvd_mul_right b (a / b)))
    rw [show a - b * (a / b) = a % b by omega] at h3
    exact Int.ofNat_dvd_left.mp h3
end LR
set_option Elab.async false
set_option linter.all false
set_option maxRecDepth 100000
set_option maxHeartbeats 4000000
set_option exponentiation.threshold 100000
namespace LR
open PySem PySem.Spec PyProof.Rows L2
theorem sc_law_pool : FnScope ["script"] ["script"] (defScope s_law_pool) := ⟨rfl, rfl, rfl, by decide +kernel, rfl, by decide +kernel, by decide +kernel⟩
theorem sc_law_draw : FnScope ["pool", "many", "found", "cells", "cell", "mixed"] ["pool", "many"] (defScope s_law_draw) := ⟨rfl, rfl, rfl, by decide +kernel, rfl, by decide +kernel, by decide +kernel⟩
theorem sc_law_cut : FnScope ["top", "bottom", "first", "second"] ["top", "bottom"] (defScope s_law_cut) := ⟨rfl, rfl, rfl, by decide +kernel, rfl, by decide +kernel, by decide +kernel⟩
theorem sc_law_sum : FnScope ["one", "other"] ["one", "other"] (defScope s_law_sum) := ⟨rfl, rfl, rfl, by decide +kernel, rfl, by decide +kernel, by decide +kernel⟩
theorem sc_law_number : FnScope ["pool", "size"] ["pool", "size"] (defScope s_law_number) := ⟨rfl, rfl, rfl, by decide +kernel, rfl, by decide +kernel, by decide +kernel⟩
theorem sc_law_list : FnScope ["begin", "step", "many", "found", "time", "turn"] ["begin", "step", "many"] (defScope s_law_list) := ⟨rfl, rfl, rfl, by decide +kernel, rfl, by decide +kernel, by decide +kernel⟩
theorem sc_law_is_before : FnScope ["one", "other"] ["one", "other"] (defScope s_law_is_before) := ⟨rfl, rfl, rfl, by decide +kernel, rfl, by decide +kernel, by decide +kernel⟩
/-- a pool stands at p: its cells, a place in them, what is left of a great one, a count -/
def PoolAt (H : Hp) (p : Addr) : Prop := ∃ (l : Addr) (ns : List Int) (a b c : Int), H p = some (.lst [.ref l, .int a, .int b, .int c]) ∧ H l = some (.lst (ns.map V.int)) ∧ ns.length ≤ 63
theorem pool_ne {H : Hp} {p l : Addr} {ns : List Int} {a b c : Int} (h1 : H p = some (.lst [.ref l, .int a, .int b, .int c])) (h2 : H l = some (.lst (ns.map V.int))) : l ≠ p := by
  intro e
  rw [e, h1] at h2
  have h3 := HO.lst.inj (Option.some.inj h2)
  cases ns with
  | nil => cases h3
  | cons n ns => cases h3
theorem PoolAt.same {H H' : Hp} {p : Addr} (s : Same H H') (h : PoolAt H p) : PoolAt H' p := let ⟨l, ns, a, b, c, h1, h2, h3⟩ := h; ⟨l, ns, a, b, c, s _ _ h1, s _ _ h2, h3⟩
theorem PoolAt.lst {H : Hp} {p : Addr} (h : PoolAt H p) : ∃ xs, H p = some (.lst xs) := let ⟨l, ns, a, b, c, h1, _⟩ := h; ⟨_, h1⟩
/-- behind a draw: only the pool has changed -/
structure Drew (p : Addr) (H H' : Hp) : Prop where
  but : But p H H'
  pool : PoolAt H' p
theorem Drew.trans {p : Addr} {H H1 H2 : Hp} (a : Drew p H H1) (b : Drew p H1 H2) : Drew p H H2 := ⟨but_trans a.but b.but, b.pool⟩
theorem Drew.same {p : Addr} {H H1 H2 : Hp} (a : Drew p H H1) (b : Same H1 H2) : Drew p H H2 := ⟨but_same a.but b, a.pool.same b⟩
theorem drew_of {p : Addr} {H H1 H2 : Hp} (a : Same H H1) (b : Drew p H1 H2) : Drew p H H2 := ⟨same_but2 a b.but, b.pool⟩
section
variable {P : Program} {w : World} {K : PySem.W.Frag} {mg : Str → Option Value} {base : Heap}
theorem mod_in {x m : Int} (hm : 0 < m) : 0 ≤ x.fmod m ∧ x.fmod m < m := by
  rw [Int.fmod_eq_emod_of_nonneg _ (Int.le_of_lt hm)]
  exact ⟨Int.emod_nonneg _ (Int.ne_of_gt hm), Int.emod_lt_of_pos _ hm⟩
/-! ### _law_pool -/
theorem cut_ints (ns : List Int) (lo hi : Option Int) : ∃ ms : List Int, cutV (ns.map V.int) lo hi = ms.map V.int ∧ ms.length ≤ ns.length := by
  refine ⟨(ns.drop (HT.sIx (ns.map V.int).length 0 lo)).take (HT.sIx (ns.map V.int).length (ns.map V.int).length hi - HT.sIx (ns.map V.int).length 0 lo), ?_, ?_⟩
  · unfold cutV
    rw [List.map_take, List.map_drop]
  · rw [List.length_take, List.length_drop]
    omega
def spPool (K : PySem.W.Frag) : Sp := fun vs H Q _ => ∃ (a : Addr) (ns : List Int), vs = [.ref a] ∧ SqL K H a (ns.map V.int) ∧ ns.length ≤ 63 ∧ ∀ p H', Same H H' → PoolAt H' p → Q (.ref p) H'
theorem ok_Pool {f : Addr} {fd : FuncData} (D : DefAt K mg "_law_pool" s_law_pool ["script"] f fd) : FnOk P w K mg base (CXl P w) 1 f fd ["script"] (spPool K) := by
  refine D.F.okX sc_law_pool (fun vs H Q E h => ?_) (fun cdv A outer s H vs Q E hr h => ?_)
  · obtain ⟨a, ns, rfl, _⟩ := h
    rfl
  · obtain ⟨a, ns, rfl, hS, hl, q⟩ := h
    refine ⟨_, pss_one (ps_ret (pe_lst (pa_cons (pe_slice sl_list (pv 0) po_none (po_some pe_int)) (pa_cons pe_int (pa_cons pe_int (pa_cons pe_int pa_nil)))))), ?_⟩
    refine ⟨.ref a, rfl, _, rfl, a, _, rfl, hS, fun l nl => ?_⟩
    obtain ⟨ms, e, hm⟩ := cut_ints ns none (some 63)
    show [V.ref l, V.int 0, V.int 0, V.int 0].length ≤ sizeLine ∧ ∀ p, (upd H l (.lst (cutV (ns.map V.int) none (some 63)))) p = none → Q (.ref p) (upd (upd H l (.lst (cutV (ns.map V.int) none (some 63)))) p (.lst [.ref l, .int 0, .int 0, .int 0]))
    rw [e]
    refine ⟨by show 4 ≤ sizeLine; decide, fun p np => q p _ ((same_new nl).trans (same_new np)) ⟨l, ms, 0, 0, 0, upd_same, ?_, Nat.le_trans hm hl⟩⟩
    rw [upd_ne (fun e => by rw [← e, upd_same] at np; cases np), upd_same]
/-! ### _law_draw -/
theorem p10 (z : Int) : CPow 10 18 := ⟨by decide, by decide, by decide⟩
abbrev datI (i : Int) : PyData := .int i
theorem canIs : ∀ ns : List Int, PyData.canLayAll0 (ns.map datI) = true
  | [] => rfl
  | n :: ns => by
    show (true && PyData.canLayAll0 (ns.map datI)) = true
    rw [canIs ns]
    rfl
theorem depIs : ∀ ns : List Int, PyData.depthAll (ns.map datI) = 0
  | [] => rfl
  | n :: ns => by
    have := depIs ns
    show max 0 (PyData.depthAll (ns.map datI)) = 0
    omega
theorem shapedIs (ns : List Int) : SeqAt.shaped (.list (ns.map datI)) = true := by
  unfold SeqAt.shaped
  rw [show (PyData.list (ns.map datI)).canLay0 = PyData.canLayAll0 (ns.map datI) from rfl, canIs, Bool.true_and, decide_eq_true_eq]
  have := depIs ns
  show PyData.depthAll (ns.map datI) + 1 ≤ 64
  omega
theorem dpIs {H : Hp} : ∀ ns : List Int, DpAll K H (ns.map V.int) (ns.map datI)
  | [] => .nil
  | n :: ns => .cons (.int n) (dpIs ns)
theorem eqvNil : ∀ ns : List Int, PyData.eqv (.list (ns.map datI)) (.list []) = ns.isEmpty
  | [] => rfl
  | _ :: _ => rfl
def spDraw : Sp := fun vs H Q _ => ∃ (p : Addr) (m : Int), vs = [.ref p, .int m] ∧ PoolAt H p ∧ 0 < m ∧ m.natAbs < 2 ^ 200 ∧ ∀ d H', 0 ≤ d → d < m → Drew p H H' → Q (.int d) H'
theorem ok_Draw {f : Addr} {fd : FuncData} (D : DefAt K mg "_law_draw" s_law_draw ["pool", "many"] f fd) (mi : mg "int" = none) (ml : mg "len" = none) : FnOk P w K mg base (CXl P w) 1 f fd ["pool", "many"] spDraw := by
  refine D.F.okX sc_law_draw (fun vs H Q E h => ?_) (fun cdv A outer s H vs Q E hr h => ?_)
  · obtain ⟨p, m, rfl, _⟩ := h
    rfl
  · obtain ⟨p, m, rfl, ⟨l, ns, a, b, c, hp, hl, ln⟩, m0, mb, q⟩ := h
    refine ⟨_, pss_cons (ps_asg (pe_op op_add (pe_ix ix_list (pv 0) pe_int (fun _ _ => rfl)) pe_int) (pg_sub (pv 0) pe_int set_list))
      (pss_cons (ps_if (pt_cmpR op_gt (pe_ix ix_list (pv 0) pe_int (fun _ _ => rfl)) pe_int (nomark _))
        (pss_cons (ps_set (i := 2) sc_law_draw.nd rfl (.inl rfl) (pe_op op_modN (pe_ix ix_list (pv 0) pe_int (fun _ _ => rfl)) (pv 1)))
        (pss_cons (ps_asg (pe_op op_fdivA (pe_ix ix_list (pv 0) pe_int (fun _ _ => rfl)) (pv 1)) (pg_sub (pv 0) pe_int set_list))
        (pss_one (ps_ret (pv 2))))) pss_nil)
      (pss_cons (ps_set (i := 3) sc_law_draw.nd rfl (.inl rfl) (pe_op op_cat (pe_ix ix_list (pv 0) pe_int (fun _ _ => rfl)) (pe_op op_rep (pe_lst (pa_cons pe_int pa_nil)) (pe_callTy call_int1 (by rfl) mi (by decide +kernel) (pa_cons (pe_cmpR (op_eqD hr.units) (pe_ix ix_list (pv 0) pe_int (fun _ _ => rfl)) (pe_lst pa_nil) (nomark _)) pa_nil)))))
      (pss_cons (ps_set (i := 4) sc_law_draw.nd rfl (.inl rfl) (pe_ix ix_list (pv 3) (pe_op op_modN (pe_ix ix_list (pv 0) pe_int (fun _ _ => rfl)) (pe_callB call_len_seq (by rfl) ml PySem.boot_len (pa_cons (pv 3) pa_nil))) (fun _ _ => rfl)))
      (pss_cons (ps_asg (pe_op op_add (pe_ix ix_list (pv 0) pe_int (fun _ _ => rfl)) pe_int) (pg_sub (pv 0) pe_int set_list))
      (pss_cons (ps_if (pt_cmpR op_ge (pv 4) (pe_op op_pow pe_int pe_int) (nomark _))
        (pss_cons (ps_asg (pe_op op_fdivA (pv 4) (pv 1)) (pg_sub (pv 0) pe_int set_list)) (pss_one (ps_ret (pe_op op_modN (pv 4) (pv 1))))) pss_nil)
      (pss_cons (ps_set (i := 5) sc_law_draw.nd rfl (.inl rfl) (pe_op op_modN (pe_op op_add (pv 4) (pe_op op_mul pe_int (pe_ix ix_list (pv 0) pe_int (fun _ _ => rfl)))) pe_int))
      (pss_one (ps_ret (pe_op op_modN (pe_op op_fdivN (pe_op op_modN (pe_op op_mul (pe_op op_pow (pv 5) pe_int) pe_int) pe_int) pe_int) (pv 1)))))))))), ?_⟩
    have lp := pool_ne hp hl
    -- pool[3] = pool[3] + 1
    refine ⟨.ref p, rfl, p, _, 3, _, rfl, rfl, .of hp, atI_nat (j := 3) rfl, c, 1, rfl, rfl, ?_⟩
    refine ⟨.ref p, rfl, p, _, 3, 3, rfl, rfl, hp, rfl, ?_⟩
    have b1 : But p H (upd H p (.lst [.ref l, .int a, .int b, .int (c + 1)])) := but_new
    have h1 : (upd H p (.lst [.ref l, .int a, .int b, .int (c + 1)])) p = some (.lst [.ref l, .int a, .int b, .int (c + 1)]) := upd_same
    show tNext _ _ (upd H p (.lst [.ref l, .int a, .int b, .int (c + 1)]))
    generalize (upd H p (.lst [.ref l, .int a, .int b, .int (c + 1)])) = H1 at b1 h1 ⊢
    have l1 := b1 _ _ lp hl
    refine ⟨.ref p, rfl, p, _, 2, _, rfl, rfl, .of h1, atI_nat (j := 2) rfl, b, 0, rfl, rfl, _, rfl, ite2 (fun _ => ?_) (fun _ => ?_)⟩
    · have md := mod_in (x := b) m0
      refine ⟨.ref p, rfl, p, _, 2, _, rfl, rfl, .of h1, atI_nat (j := 2) rfl, _, rfl, b, m, rfl, rfl, show m ≠ 0 by omega, ?_⟩
      refine ⟨.ref p, rfl, p, _, 2, _, rfl, rfl, .of h1, atI_nat (j := 2) rfl, _, rfl, b, m, rfl, rfl, divA (b := 200) (by omega) mb (by decide) (by decide), ?_⟩
      refine ⟨.ref p, rfl, p, _, 2, 2, rfl, rfl, h1, rfl, ?_⟩
      refine ⟨_, rfl, ?_⟩
      exact q _ _ md.1 md.2 ⟨but_upd b1, l, ns, _, _, _, upd_same, by rw [upd_ne lp]; exact l1, ln⟩
    · -- cells
      refine ⟨.ref p, rfl, p, _, 0, _, rfl, rfl, .of h1, atI_nat (j := 0) rfl, ?_⟩
      refine ⟨by show 1 ≤ sizeLine; decide, fun e1 ne1 => ?_⟩
      have s2 : Same H1 (upd H1 e1 (.lst [.int 0])) := same_new ne1
      have he1 : (upd H1 e1 (.lst [.int 0])) e1 = some (.lst [.int 0]) := upd_same
      show tOp _ _ _ _ (upd H1 e1 (.lst [.int 0])) _
      generalize (upd H1 e1 (.lst [.int 0])) = H2 at s2 he1 ⊢
      refine ⟨.ref p, rfl, p, _, 0, _, rfl, rfl, .of (s2 _ _ h1), atI_nat (j := 0) rfl, by show 0 ≤ sizeLine; decide, fun e2 ne2 => ?_⟩
      have s3 : Same H2 (upd H2 e2 (.lst [])) := same_new ne2
      have he2 : (upd H2 e2 (.lst [])) e2 = some (.lst []) := upd_same
      show rEqD _ _ _ (upd H2 e2 (.lst [])) _
      generalize (upd H2 e2 (.lst [])) = H3 at s3 he2 ⊢
      have l3 := (s2.trans s3) _ _ l1
      refine ⟨_, _, .lst (.of l3) (dpIs ns), .lst (.of he2) .nil, shapedIs ns, by decide, ?_⟩
      rw [eqvNil]
      refine .inr ⟨_, rfl, e1, _, [.int 0], rfl, rfl, s3 _ _ he1, by cases ns.isEmpty <;> decide, by cases ns.isEmpty <;> decide, by cases ns.isEmpty <;> decide, fun e3 ne3 => ?_⟩
      obtain ⟨ms, hms, hml, hm0⟩ : ∃ ms : List Int, ns.map V.int ++ (List.replicate (if ns.isEmpty = true then (1 : Int) else 0).toNat [V.int 0]).flatten = ms.map V.int ∧ ms.length ≤ 64 ∧ 0 < ms.length := by
        cases ns with
        | nil => exact ⟨[0], rfl, by decide, by decide⟩
        | cons n ns => exact ⟨n :: ns, by simp, by simp at ln ⊢; omega, by simp⟩
      have s4 : Same H3 (upd H3 e3 (.lst (List.replicate (if ns.isEmpty = true then (1 : Int) else 0).toNat [V.int 0]).flatten)) := same_new ne3
      have he3 : (upd H3 e3 (.lst (List.replicate (if ns.isEmpty = true then (1 : Int) else 0).toNat [V.int 0]).flatten)) e3 = some (.lst (List.replicate (if ns.isEmpty = true then (1 : Int) else 0).toNat [V.int 0]).flatten) := upd_same
      have hle : (List.replicate (if ns.isEmpty = true then (1 : Int) else 0).toNat [V.int 0]).flatten.length ≤ 1 := by cases ns.isEmpty <;> decide
      show rCat _ _ (upd H3 e3 (.lst (List.replicate (if ns.isEmpty = true then (1 : Int) else 0).toNat [V.int 0]).flatten)) _
      generalize (upd H3 e3 (.lst (List.replicate (if ns.isEmpty = true then (1 : Int) else 0).toNat [V.int 0]).flatten)) = H4 at s4 he3 ⊢
      generalize (List.replicate (if ns.isEmpty = true then (1 : Int) else 0).toNat [V.int 0]).flatten = zz at he3 hms hle
      refine ⟨l, e3, _, zz, rfl, rfl, s4 _ _ l3, he3, Nat.le_trans (show (ns.map V.int).length + zz.length ≤ 1000 by rw [List.length_map]; omega) (Nat.le_of_lt (small1000 (Nat.le_refl _))), fun e4 ne4 => ?_⟩
      rw [hms]
      have s5 : Same H4 (upd H4 e4 (.lst (ms.map V.int))) := same_new ne4
      have he4 : (upd H4 e4 (.lst (ms.map V.int))) e4 = some (.lst (ms.map V.int)) := upd_same
      show tNext _ _ (upd H4 e4 (.lst (ms.map V.int)))
      generalize (upd H4 e4 (.lst (ms.map V.int))) = H5 at s5 he4 ⊢
      have s15 := (((s2.trans s3).trans s4).trans s5)
      have h5 := s15 _ _ h1
      have l5 := s15 _ _ l1
      have b5 : But p H H5 := but_same b1 s15
      -- cell
      have ml0 : (0 : Int) < (((ms.map V.int).length : Nat) : Int) := by rw [List.length_map]; omega
      have mm := mod_in (x := a) ml0
      obtain ⟨z, hz⟩ : ∃ z : Int, (ms.map V.int)[(a.fmod (((ms.map V.int).length : Nat) : Int)).toNat]? = some (.int z) := by
        have hi : (a.fmod (((ms.map V.int).length : Nat) : Int)).toNat < ms.length := by rw [List.length_map] at mm ⊢; omega
        exact ⟨ms[(a.fmod (((ms.map V.int).length : Nat) : Int)).toNat]'hi, by rw [List.getElem?_map, List.getElem?_eq_getElem hi]; rfl⟩
      refine ⟨.ref e4, rfl, .ref p, rfl, p, _, 1, _, rfl, rfl, .of h5, atI_nat (j := 1) rfl, .ref e4, rfl, e4, _, rfl, .inl (.of he4), a, _, rfl, rfl, Int.ne_of_gt ml0, e4, _, _, .int z, rfl, rfl, .of he4, at_of (j := (a.fmod (((ms.map V.int).length : Nat) : Int)).toNat) (by omega) hz, ?_⟩
      -- pool[1] = pool[1] + 1
      refine ⟨.ref p, rfl, p, _, 1, _, rfl, rfl, .of h5, atI_nat (j := 1) rfl, a, 1, rfl, rfl, ?_⟩
      refine ⟨.ref p, rfl, p, _, 1, 1, rfl, rfl, h5, rfl, ?_⟩
      have b6 : But p H5 (upd H5 p (.lst [.ref l, .int (a + 1), .int b, .int (c + 1)])) := but_new
      have h6 : (upd H5 p (.lst [.ref l, .int (a + 1), .int b, .int (c + 1)])) p = some (.lst [.ref l, .int (a + 1), .int b, .int (c + 1)]) := upd_same
      show tNext _ _ (upd H5 p (.lst [.ref l, .int (a + 1), .int b, .int (c + 1)]))
      generalize (upd H5 p (.lst [.ref l, .int (a + 1), .int b, .int (c + 1)])) = H6 at b6 h6 ⊢
      have l6 := b6 _ _ lp l5
      have b06 := but_trans b5 b6
      refine ⟨_, rfl, 10, 18, rfl, rfl, p10 0, z, _, rfl, rfl, _, rfl, ite2 (fun _ => ?_) (fun _ => ?_)⟩
      · have md := mod_in (x := z) m0
        refine ⟨_, rfl, _, rfl, z, m, rfl, rfl, divA (b := 200) (by omega) mb (by decide) (by decide), ?_⟩
        refine ⟨.ref p, rfl, p, _, 2, 2, rfl, rfl, h6, rfl, ?_⟩
        refine ⟨_, rfl, _, rfl, z, m, rfl, rfl, show m ≠ 0 by omega, ?_⟩
        exact q _ _ md.1 md.2 ⟨but_upd b06, l, ns, _, _, _, upd_same, by rw [upd_ne lp]; exact l6, ln⟩
      · refine ⟨_, rfl, _, rfl, p, _, 3, _, rfl, rfl, .of h6, atI_nat (j := 3) rfl, 7919, _, rfl, rfl, .inl ⟨by decide, by decide⟩, z, _, rfl, rfl, _, 2147483647, rfl, rfl, show (2147483647 : Int) ≠ 0 by decide, ?_⟩
        have m2 := mod_in (x := z + 7919 * (c + 1)) (m := 2147483647) (by decide)
        refine ⟨_, rfl, _, 5, rfl, rfl, ⟨by decide, by decide, by omega⟩, _, 48271, rfl, rfl, .inr ⟨by decide, by decide⟩, _, 2147483629, rfl, rfl, show (2147483629 : Int) ≠ 0 by decide, _, 16, rfl, rfl, ⟨by decide, by decide⟩, _, rfl, _, m, rfl, rfl, show m ≠ 0 by omega, ?_⟩
        have md := mod_in (x := ((((z + 7919 * (c + 1)).fmod 2147483647) ^ (5 : Int).toNat * 48271).fmod 2147483629).fdiv 16) m0
        exact q _ _ md.1 md.2 ⟨b06, l, ns, _, _, _, h6, l6, ln⟩
/-! ### _law_cut -/
def spCut (K : PySem.W.Frag) : Sp := fun vs H Q _ => ∃ n d : Int, vs = [.int n, .int d] ∧ 0 < d ∧ d.natAbs < 2 ^ 8000 ∧ ∀ v H', Same H H' → Rn K H' v (Rat.divInt n d) → Q v H'
def szOf4 : L2.St → Nat
  | [_, _, _, some (.int b)] => b.natAbs
  | _ => 0
theorem ok_Cut {f : Addr} {fd : FuncData} (D : DefAt K mg "_law_cut" s_law_cut ["top", "bottom"] f fd) (ma : mg "abs" = none) : FnOk P w K mg base (CXl P w) 1 f fd ["top", "bottom"] (spCut K) := by
  refine D.F.okX sc_law_cut (fun vs H Q E h => ?_) (fun cdv A outer s H vs Q E hr h => ?_)
  · obtain ⟨n, d, rfl, _⟩ := h
    rfl
  · obtain ⟨n, d, rfl, hd, hdd, q⟩ := h
    refine ⟨_, pss_cons (ps_par (i := 2) (j := 3) rfl sc_law_cut.nd rfl rfl (by decide) rfl rfl (pa_cons (pe_callB call_abs (by rfl) ma (by decide +kernel) (pa_cons (pv 0) pa_nil)) (pa_cons (pv 1) pa_nil)) (by rfl))
      (pss_cons (ps_while (passes_of rfl) (pt_cmpR op_gt (pv 3) pe_int (nomark _)) (pss_one (ps_par (i := 2) (j := 3) rfl sc_law_cut.nd rfl rfl (by decide) rfl rfl (pa_cons (pv 3) (pa_cons (pe_op op_modN (pv 2) (pv 3)) pa_nil)) (by rfl))))
      (pss_one (ps_ret (pe_tup (pa_cons (pe_op op_fdivA (pv 0) (pv 2)) (pa_cons (pe_op op_fdivA (pv 1) (pv 2)) pa_nil)))))), ?_⟩
    refine ⟨_, rfl, n, rfl, _, rfl, _, _, rfl, ?_⟩
    have hd0 : d ≠ 0 := by omega
    have g0 := gcd_pos (n := n) hd0
    have gl := Nat.gcd_le_right n.natAbs (Int.natAbs_pos.mpr hd0)
    refine while_by (fun σ H' => H' = H ∧ ∃ a b : Int, σ = [some (.int n), some (.int d), some (.int a), some (.int b)] ∧ 0 ≤ a ∧ 0 ≤ b ∧ Nat.gcd a.natAbs b.natAbs = Nat.gcd n.natAbs d.natAbs) (fun σ _ => szOf4 σ) ⟨rfl, _, d, rfl, ?_, by omega, ?_⟩ (fun σ H' hP => ?_) (fun σ H' Q Q' f hq => ?_)
    · split <;> omega
    · congr 1
      split <;> omega
    · obtain ⟨rfl, a, b, rfl, a0, b0, hg⟩ := hP
      refine ⟨_, rfl, _, _, rfl, rfl, _, rfl, ?_⟩
      by_cases e : 0 < b
      · refine ite2 (fun _ => ?_) (fun c => absurd (decide_eq_true e) c)
        have em : a.fmod b = a % b := Int.fmod_eq_emod_of_nonneg _ b0
        have m0 := Int.emod_nonneg a (Int.ne_of_gt e)
        have m1 := Int.emod_lt_of_pos a e
        refine ⟨_, rfl, _, rfl, _, rfl, a, b, rfl, rfl, Int.ne_of_gt e, _, _, rfl, ⟨rfl, b, a.fmod b, rfl, b0, by omega, ?_⟩, ?_⟩
        · rw [em, gcd_step b0 (Int.ne_of_gt e), hg]
        · show (a.fmod b).natAbs < b.natAbs
          omega
      · refine ite2 (fun c => absurd (of_decide_eq_true c) e) (fun _ => ?_)
        have eb : b = 0 := by omega
        subst eb
        have ea : a = ((Nat.gcd n.natAbs d.natAbs : Nat) : Int) := by
          rw [← hg]
          simp
          omega
        have e1 := sdiv_num (n := n) hd0
        have e2 := sdiv_den (n := n) hd0
        rw [sdiv_pos hd, ← ea] at e1 e2
        have c : ∀ i, CDivA i a := fun i => divA (b := 8000) (by omega) (by omega) (by decide) (by decide)
        refine ⟨_, rfl, _, rfl, n, a, rfl, rfl, c n, _, rfl, _, rfl, d, a, rfl, rfl, c d, by show 2 ≤ sizeLine; decide, fun p np => ?_⟩
        show Q (.ref p) (upd H' p (.tup [.int (n.fdiv a), .int (d.fdiv a)]))
        rw [e1, e2]
        exact q _ _ (same_new np) Rn.mk
    · obtain ⟨v, hv, i, j, hi, hj, k, hk, hq⟩ := hq
      exact ⟨v, hv, i, j, hi, hj, k, hk, f _ _ hq⟩
/-! ### _law_sum, _law_is_before -/
def spSum (K : PySem.W.Frag) : Sp := fun vs H Q _ => ∃ (x y : V) (p q : Rat), vs = [x, y] ∧ Rn K H x p ∧ Rn K H y q ∧ Sz 3900 p ∧ Sz 3900 q ∧ ∀ v H', Same H H' → Rn K H' v (p + q) → Q v H'
theorem ok_Sum {f fC : Addr} {fd dC : FuncData} (D : DefAt K mg "_law_sum" s_law_sum ["one", "other"] f fd) (DC : DefAt K mg "_law_cut" s_law_cut ["top", "bottom"] fC dC) (GC : FnOk P w K mg base (CXl P w) 1 fC dC ["top", "bottom"] (spCut K)) : FnOk P w K mg base (CXl P w) 2 f fd ["one", "other"] (spSum K) := by
  refine D.F.okX sc_law_sum (fun vs H Q E h => ?_) (fun cdv A outer s H vs Q E hr h => ?_)
  · obtain ⟨x, y, p, q, rfl, _⟩ := h
    rfl
  · obtain ⟨x, y, p, q, rfl, ⟨a, rfl, ha⟩, ⟨b, rfl, hb⟩, hp, hq, k⟩ := h
    refine ⟨_, pss_one (ps_ret (pe_call GC hr (by rfl) DC.g DC.F.kp DC.b .nil passL (pa_cons (pe_op op_add (pe_op op_mulW (pe_ix (r := rIxT K) ix_tup (pv 0) pe_int (fun _ _ => rfl)) (pe_ix (r := rIxT K) ix_tup (pv 1) pe_int (fun _ _ => rfl))) (pe_op op_mulW (pe_ix (r := rIxT K) ix_tup (pv 1) pe_int (fun _ _ => rfl)) (pe_ix (r := rIxT K) ix_tup (pv 0) pe_int (fun _ _ => rfl))))
      (pa_cons (pe_op op_mulW (pe_ix (r := rIxT K) ix_tup (pv 0) pe_int (fun _ _ => rfl)) (pe_ix (r := rIxT K) ix_tup (pv 1) pe_int (fun _ _ => rfl))) pa_nil)))), ?_⟩
    refine ⟨_, rfl, a, _, 0, _, rfl, rfl, ha, atI_nat (j := 0) rfl, _, rfl, b, _, 1, _, rfl, rfl, hb, atI_nat (j := 1) rfl, _, _, rfl, rfl, wm hp.1 hq.2, ?_⟩
    refine ⟨_, rfl, b, _, 0, _, rfl, rfl, hb, atI_nat (j := 0) rfl, _, rfl, a, _, 1, _, rfl, rfl, ha, atI_nat (j := 1) rfl, _, _, rfl, rfl, wm hq.1 hp.2, _, _, rfl, rfl, ?_⟩
    refine ⟨_, rfl, a, _, 1, _, rfl, rfl, ha, atI_nat (j := 1) rfl, _, rfl, b, _, 1, _, rfl, rfl, hb, atI_nat (j := 1) rfl, _, _, rfl, rfl, wm hp.2 hq.2, ?_⟩
    refine ⟨_, _, rfl, den_pos2 p q, Nat.lt_trans (szM hp.2 hq.2) p78, fun v H' s' r => ?_⟩
    rw [← add_as p q] at r
    exact k v H' s' r
def spBef (K : PySem.W.Frag) : Sp := fun vs H Q _ => ∃ (x y : V) (p q : Rat), vs = [x, y] ∧ Rn K H x p ∧ Rn K H y q ∧ Sz 3900 p ∧ Sz 3900 q ∧ Q (.bl (decide (p < q))) H
theorem ok_Bef {f : Addr} {fd : FuncData} (D : DefAt K mg "_law_is_before" s_law_is_before ["one", "other"] f fd) : FnOk P w K mg base (CXl P w) 1 f fd ["one", "other"] (spBef K) := by
  refine D.F.okX sc_law_is_before (fun vs H Q E h => ?_) (fun cdv A outer s H vs Q E hr h => ?_)
  · obtain ⟨x, y, p, q, rfl, _⟩ := h
    rfl
  · obtain ⟨x, y, p, q, rfl, ⟨a, rfl, ha⟩, ⟨b, rfl, hb⟩, hp, hq, k⟩ := h
    refine ⟨_, pss_one (ps_ret (pe_cmpR op_lt (pe_op op_mulW (pe_ix (r := rIxT K) ix_tup (pv 0) pe_int (fun _ _ => rfl)) (pe_ix (r := rIxT K) ix_tup (pv 1) pe_int (fun _ _ => rfl))) (pe_op op_mulW (pe_ix (r := rIxT K) ix_tup (pv 1) pe_int (fun _ _ => rfl)) (pe_ix (r := rIxT K) ix_tup (pv 0) pe_int (fun _ _ => rfl))) (nomark _))), ?_⟩
    refine ⟨_, rfl, a, _, 0, _, rfl, rfl, ha, atI_nat (j := 0) rfl, _, rfl, b, _, 1, _, rfl, rfl, hb, atI_nat (j := 1) rfl, _, _, rfl, rfl, wm hp.1 hq.2, ?_⟩
    refine ⟨_, rfl, b, _, 0, _, rfl, rfl, hb, atI_nat (j := 0) rfl, _, rfl, a, _, 1, _, rfl, rfl, ha, atI_nat (j := 1) rfl, _, _, rfl, rfl, wm hq.1 hp.2, _, _, rfl, rfl, ?_⟩
    show Q (.bl (decide (p.num * (q.den : Int) < q.num * (p.den : Int)))) H
    rw [show decide (p.num * (q.den : Int) < q.num * (p.den : Int)) = decide (p < q) by rw [decide_eq_decide]; exact (Rat.lt_iff p q).symm]
    exact k
/-! ### _law_number -/
def spNum (K : PySem.W.Frag) : Sp := fun vs H Q _ => ∃ (p : Addr) (m : Int), vs = [.ref p, .int m] ∧ PoolAt H p ∧ 0 < m ∧ m.natAbs < 2 ^ 200 ∧ ∀ v q H', 0 ≤ q → Sz 200 q → Rn K H' v q → Drew p H H' → Q v H'
theorem divInt_nonneg {a b : Int} (ha : 0 ≤ a) (hb : 0 < b) : 0 ≤ Rat.divInt a b := by
  rw [← Rat.num_nonneg, Rat.num_divInt, Int.sign_eq_one_of_pos hb, Int.one_mul]
  exact Int.ediv_nonneg ha (Int.natCast_nonneg _)
theorem ok_Num {f fD fC : Addr} {fd dD dC : FuncData} (D : DefAt K mg "_law_number" s_law_number ["pool", "size"] f fd) (DD : DefAt K mg "_law_draw" s_law_draw ["pool", "many"] fD dD) (DC : DefAt K mg "_law_cut" s_law_cut ["top", "bottom"] fC dC)
    (GD : FnOk P w K mg base (CXl P w) 1 fD dD ["pool", "many"] spDraw) (GC : FnOk P w K mg base (CXl P w) 1 fC dC ["top", "bottom"] (spCut K)) : FnOk P w K mg base (CXl P w) 2 f fd ["pool", "size"] (spNum K) := by
  refine D.F.okX sc_law_number (fun vs H Q E h => ?_) (fun cdv A outer s H vs Q E hr h => ?_)
  · obtain ⟨p, m, rfl, _⟩ := h
    rfl
  · obtain ⟨p, m, rfl, hp, m0, mb, q⟩ := h
    refine ⟨_, pss_one (ps_ret (pe_call GC hr (by rfl) DC.g DC.F.kp DC.b .nil passL (pa_cons (pe_call GD hr (by rfl) DD.g DD.F.kp DD.b .nil passL (pa_cons (pv 0) (pa_cons (pv 1) pa_nil))) (pa_cons (pe_op op_add pe_int (pe_call GD hr (by rfl) DD.g DD.F.kp DD.b .nil passL (pa_cons (pv 0) (pa_cons pe_int pa_nil)))) pa_nil)))), ?_⟩
    refine ⟨_, rfl, _, rfl, p, m, rfl, hp, m0, mb, fun d H1 d0 d1 dr1 => ?_⟩
    refine ⟨_, rfl, p, 6, rfl, dr1.pool, by decide, by decide, fun e H2 e0 e1 dr2 => ?_⟩
    have pe : (0 : Int) < 1 + e := by omega
    refine ⟨1, e, rfl, rfl, d, 1 + e, rfl, pe, ?_, fun v H3 s3 r3 => ?_⟩
    · exact Nat.lt_of_lt_of_le (show (1 + e).natAbs < 2 ^ 10 by omega) (Nat.pow_le_pow_right (by decide) (by decide))
    · refine q v _ H3 (divInt_nonneg d0 pe) (sz_divInt (by omega) ?_ ?_) r3 ((dr1.trans dr2).same s3)
      · omega
      · exact Nat.lt_of_lt_of_le (show (1 + e).natAbs < 2 ^ 10 by omega) (Nat.pow_le_pow_right (by decide) (by decide))
/-! ### _law_list -/
/-- a list of ratios -/
def RnL (K : PySem.W.Frag) (H : Hp) (v : V) (rs : List Rat) : Prop := ∃ p xs, v = .ref p ∧ H p = some (.lst xs) ∧ All2 (Rn K H) xs rs
theorem RnL.same {H H' : Hp} {v : V} {rs : List Rat} (s : Same H H') (h : RnL K H v rs) : RnL K H' v rs := let ⟨p, xs, e, h1, h2⟩ := h; ⟨p, xs, e, s _ _ h1, h2.imp fun _ _ z => z.same s⟩
def mom (b s : Rat) (k : Nat) : Rat := b + (((k : Nat) : Int) : Rat) * s
def moms (b s : Rat) (n : Nat) : List Rat := (List.range n).map (mom b s)
theorem moms_succ (b s : Rat) (n : Nat) : moms b s (n + 1) = moms b s n ++ [mom b s n] := by
  unfold moms
  rw [List.range_succ, List.map_append]
  rfl
theorem mom_zero (b s : Rat) : mom b s 0 = b := by
  unfold mom
  rw [show (((0 : Nat) : Int) : Rat) = 0 from rfl]
  grind
theorem mom_succ (b s : Rat) (k : Nat) : mom b s (k + 1) = mom b s k + s := by
  unfold mom
  rw [show (((k + 1 : Nat) : Int) : Rat) = ((k : Int) : Rat) + 1 by rw [Int.natCast_add, Rat.intCast_add]; rfl]
  grind
theorem mom_sz {b s : Rat} {k : Nat} (hk : k ≤ 64) (h1 : Sz 200 b) (h2 : Sz 200 s) : Sz 420 (mom b s k) := by
  have h3 : Sz 8 (((k : Nat) : Int) : Rat) := Sz.int (by decide) (by rw [Int.natAbs_natCast]; omega)
  exact (h1.add (h3.mul h2)).mono (by decide)
def spList (K : PySem.W.Frag) : Sp := fun vs H Q _ => ∃ (x y : V) (b s : Rat) (n : Nat), vs = [x, y, .int n] ∧ Rn K H x b ∧ Rn K H y s ∧ Sz 200 b ∧ Sz 200 s ∧ n ≤ 64 ∧ ∀ v H', Same H H' → RnL K H' v (moms b s n) → Q v H'
theorem ok_List {f fS : Addr} {fd dS : FuncData} (D : DefAt K mg "_law_list" s_law_list ["begin", "step", "many"] f fd) (DS : DefAt K mg "_law_sum" s_law_sum ["one", "other"] fS dS) (mr : mg "range" = none) (GS : FnOk P w K mg base (CXl P w) 2 fS dS ["one", "other"] (spSum K)) : FnOk P w K mg base (CXl P w) 3 f fd ["begin", "step", "many"] (spList K) := by
  refine D.F.okX sc_law_list (fun vs H Q E h => ?_) (fun cdv A outer s H vs Q E hr h => ?_)
  · obtain ⟨x, y, b, s, n, rfl, _⟩ := h
    rfl
  · obtain ⟨x, y, b, s, n, rfl, hx, hy, zb, zs, hn, q⟩ := h
    refine ⟨_, pss_cons (ps_par (i := 3) (j := 4) rfl sc_law_list.nd rfl rfl (by decide) rfl rfl (pa_cons (pe_lst pa_nil) (pa_cons (pv 0) pa_nil)) (by rfl))
      (pss_cons (ps_for (passes_of rfl) rfl (pi_range1 rfl mr (pa_cons (pv 2) pa_nil)) (pg_name (i := 5) sc_law_list.nd rfl (.inl rfl))
        (pss_cons (ps_expr (pe_bm PySem.F.plainAttrs_list PySem.F.slot_list_append PySem.F.type_list_append mt_append (pv 3) (pa_cons (pv 4) pa_nil)))
        (pss_one (ps_set (i := 4) sc_law_list.nd rfl (.inl rfl) (pe_call GS hr (by rfl) DS.g DS.F.kp DS.b .nil passL (pa_cons (pv 4) (pa_cons (pv 1) pa_nil)))))))
      (pss_one (ps_ret (pv 3)))), ?_⟩
    refine ⟨by show 0 ≤ sizeLine; decide, fun l nl => ⟨_, rfl, _, _, rfl, ?_⟩⟩
    refine ⟨_, rfl, (n : Int), rfl, by omega, by omega, for_range (lo := 0) (n := ((n : Int)).toNat) (fun i σ H' => Same H H' ∧ i ≤ n ∧ ∃ t o xs, σ = [some x, some y, some (.int n), some (.ref l), some t, o] ∧ Rn K H' t (mom b s i) ∧ H' l = some (.lst xs) ∧ All2 (Rn K H') xs (moms b s i)) ?_ (fun i σ H' hi hP => ?_) (fun σ H' hP => ?_)⟩
    · refine ⟨same_new nl, Nat.zero_le _, x, none, [], rfl, ?_, upd_same, .nil⟩
      rw [mom_zero]
      exact hx.same (same_new nl)
    · obtain ⟨sm, _, t, o, xs, rfl, ht, hl, hA⟩ := hP
      have hin : i < n := by omega
      have hlen : xs.length = i := by rw [hA.len]; simp [moms]
      refine ⟨_, rfl, .inl ⟨rfl, _, .of hl⟩, _, rfl, l, xs, t, rfl, rfl, hl, Nat.lt_trans (show xs.length < 1000 by omega) (small1000 (Nat.le_refl _)), ?_⟩
      have hl2 : (upd H' l (.lst (xs ++ [t]))) l = some (.lst (xs ++ [t])) := upd_same
      have sm2 : Same H (upd H' l (.lst (xs ++ [t]))) := same_but sm nl
      have ht2 : Rn K (upd H' l (.lst (xs ++ [t]))) t (mom b s i) := rn_lst hl ht
      have hA2 : All2 (Rn K (upd H' l (.lst (xs ++ [t])))) (xs ++ [t]) (moms b s (i + 1)) := by
        rw [moms_succ]
        exact (hA.imp fun _ _ z => rn_lst hl z).snoc ht2
      generalize (upd H' l (.lst (xs ++ [t]))) = H2 at hl2 sm2 ht2 hA2 ⊢
      refine ⟨_, rfl, _, rfl, t, y, _, s, rfl, ht2, hy.same sm2, (mom_sz (by omega) zb zs).mono (by decide), zs.mono (by decide), fun v H3 s3 r3 => ?_⟩
      rw [← mom_succ] at r3
      exact ⟨sm2.trans s3, hin, v, _, _, rfl, r3, s3 _ _ hl2, hA2.imp fun _ _ z => z.same s3⟩
    · obtain ⟨sm, _, t, o, xs, rfl, ht, hl, hA⟩ := hP
      rw [Int.toNat_natCast] at hA
      exact ⟨_, rfl, q _ H' sm ⟨l, xs, rfl, hl, hA⟩⟩
end
end LR
set_option Elab.async false
set_option linter.all false
set_option maxRecDepth 100000
set_option maxHeartbeats 4000000
namespace LR
/-! ### mathematics of moments -/
theorem mom_le {b s t : Rat} (s0 : 0 < s) (k : Nat) : mom b s k ≤ t ↔ (k : Int) ≤ ((t - b) / s).floor := by
  rw [Rat.le_floor_iff]
  have e : (t - b) / s * s = t - b := Rat.div_mul_cancel (Rat.ne_of_gt s0)
  generalize (t - b) / s = x at e ⊢
  unfold mom
  constructor
  · intro h
    rw [← Rat.not_lt]
    intro c
    have := Rat.mul_lt_mul_of_pos_right c s0
    grind
  · intro h
    have := Rat.mul_le_mul_of_nonneg_right h (Rat.le_of_lt s0)
    grind
theorem mom_lt {b s t : Rat} (s0 : 0 < s) (k : Nat) : t < mom b s k ↔ ¬ (k : Int) ≤ ((t - b) / s).floor := by
  rw [← mom_le s0, Rat.not_le]
theorem cnt_lt {b s t : Rat} (k : Nat) : (k : Int) ≤ ((t - b) / s).floor ↔ k < (cnt b s t).toNat := by
  unfold cnt
  split <;> omega
/-- how many of the first n are not after t -/
def upTo (b s t : Rat) (n : Nat) : Nat := ((moms b s n).filter fun q => !decide (t < q)).length
theorem upTo_eq {b s t : Rat} (s0 : 0 < s) : ∀ n : Nat, upTo b s t n = min n (cnt b s t).toNat
  | 0 => by
    unfold upTo moms
    simp
  | n + 1 => by
    have ih := upTo_eq (t := t) (b := b) s0 n
    unfold upTo at ih ⊢
    rw [moms_succ, List.filter_append, List.length_append, ih]
    by_cases c : t < mom b s n
    · have c2 := (mom_lt s0 n).mp c
      rw [cnt_lt] at c2
      rw [List.filter_cons_of_neg (by simp [c])]
      simp
      omega
    · have c2 : (n : Int) ≤ ((t - b) / s).floor := Decidable.of_not_not fun z => c ((mom_lt s0 n).mpr z)
      rw [cnt_lt] at c2
      rw [List.filter_cons_of_pos (by simp [c])]
      simp
      omega
theorem cnt_most {b s t : Rat} (s0 : 0 < s) {n : Nat} (h : t ≤ mom b s n) : (cnt b s t).toNat ≤ n + 1 := by
  have h1 : ¬ mom b s (n + 1) ≤ t := by
    intro z
    have := mom_succ b s n
    have h2 := Rat.le_trans z h
    rw [this] at h2
    grind
  rw [mom_le s0, cnt_lt] at h1
  omega
theorem upTo_cnt {b s t : Rat} (s0 : 0 < s) (h : t ≤ mom b s 39) : ((upTo b s t 40 : Nat) : Int) = cnt b s t := by
  have h1 := cnt_most s0 h
  have h2 := upTo_eq (b := b) (t := t) s0 40
  have h3 := cnt_nonneg b s t
  omega
theorem den_one {q : Rat} (h : q.den = 1) : q = ((q.num : Int) : Rat) := Rat.ext rfl h
theorem isMom_iff {b s t : Rat} (s0 : 0 < s) : isMom b s (some t) = true ↔ ∃ k : Nat, t = mom b s k := by
  have sne := Rat.ne_of_gt s0
  constructor
  · intro h
    have h' : (decide (0 ≤ ((t - b) / s).num) && decide (((t - b) / s).den = 1)) = true := h
    rw [Bool.and_eq_true, decide_eq_true_eq, decide_eq_true_eq] at h'
    obtain ⟨h1, h2⟩ := h'
    have h3 := den_one h2
    refine ⟨((t - b) / s).num.toNat, ?_⟩
    unfold mom
    rw [Int.toNat_of_nonneg h1, ← h3]
    grind
  · rintro ⟨k, rfl⟩
    have e : (mom b s k - b) / s = ((k : Int) : Rat) := by
      unfold mom
      grind
    show (decide (0 ≤ ((mom b s k - b) / s).num) && decide (((mom b s k - b) / s).den = 1)) = true
    rw [e, Bool.and_eq_true, decide_eq_true_eq, decide_eq_true_eq]
    exact ⟨Int.natCast_nonneg _, rfl⟩
theorem mem_moms {b s t : Rat} {n : Nat} : t ∈ moms b s n ↔ ∃ k, k < n ∧ t = mom b s k := by
  unfold moms
  rw [List.mem_map]
  exact ⟨fun ⟨k, h1, h2⟩ => ⟨k, List.mem_range.mp h1, h2.symm⟩, fun ⟨k, h1, h2⟩ => ⟨k, List.mem_range.mpr h1, h2.symm⟩⟩
theorem isMom_mem {b s t : Rat} (s0 : 0 < s) (h : t ≤ mom b s 39) : isMom b s (some t) = decide (t ∈ moms b s 40) := by
  rw [Bool.eq_iff_iff, isMom_iff s0, decide_eq_true_eq, mem_moms]
  refine ⟨fun ⟨k, e⟩ => ⟨k, ?_, e⟩, fun ⟨k, _, e⟩ => ⟨k, e⟩⟩
  have h1 : mom b s k ≤ t := by rw [e]; exact Rat.le_refl
  rw [mom_le s0, cnt_lt] at h1
  have := cnt_most s0 h
  omega
theorem cnt_mom {b s : Rat} (s0 : 0 < s) (k : Nat) : cnt b s (mom b s k) = (k : Int) + 1 := by
  have sne := Rat.ne_of_gt s0
  have e : (mom b s k - b) / s = ((k : Int) : Rat) := by
    unfold mom
    grind
  unfold cnt
  rw [e, Rat.floor_intCast]
  split <;> omega
theorem moms_get {b s : Rat} {n k : Nat} (h : k < n) : (moms b s n)[k]? = some (mom b s k) := by
  unfold moms
  rw [List.getElem?_map, List.getElem?_range h]
  rfl
theorem moms_len (b s : Rat) (n : Nat) : (moms b s n).length = n := by
  unfold moms
  rw [List.length_map, List.length_range]
theorem mom_int {b s : Rat} {i : Int} (h : 0 ≤ i) : b + (i : Rat) * s = mom b s i.toNat := by
  unfold mom
  rw [Int.toNat_of_nonneg h]
theorem isMom_before {b s t : Rat} (s0 : 0 < s) (h : t < b) : isMom b s (some t) = false := by
  rw [Bool.eq_false_iff]
  intro z
  obtain ⟨k, e⟩ := (isMom_iff s0).mp z
  have h1 : (0 : Rat) ≤ ((k : Int) : Rat) := by
    rw [show (0 : Rat) = ((0 : Int) : Rat) from rfl, Rat.intCast_le_intCast]
    exact Int.natCast_nonneg _
  have h2 : 0 ≤ ((k : Int) : Rat) * s := Rat.mul_nonneg h1 (Rat.le_of_lt s0)
  unfold mom at e
  grind
end LR
set_option Elab.async false
set_option linter.all false
set_option maxRecDepth 100000
set_option maxHeartbeats 4000000
/-! try: .. with several clauses `except X as n`, all with one name -/
namespace TA
open PySem PySem.Spec PyProof.Rows L2
abbrev Sui := Addr → Value → Option Addr → TS
/-- behind a suite the name is gone -/
def unset (i : Nat) (D : Ends) : Ends := ⟨fun u G => D.nx (u.set i none) G, D.rt, fun u G => D.bk (u.set i none) G, fun u G => D.ct (u.set i none) G⟩
/-- what the clauses wish, from the first on -/
def wAll (K : PySem.W.Frag) (i : Nat) (Wo : WX) (D : Ends) : List (Value × Sui) → WX
  | [] => Wo
  | p :: more => fun C dd u G => ∃ yes, PySem.W.exmOne K C p.1 = some yes ∧ (yes = true → ∀ x, G x = none → p.2 x C dd (unset i D) (u.set i (some (.ref x))) G) ∧ (yes = false → wAll K i Wo D more C dd u G)
inductive Clauses (X : Cx) (n : Str) : List ExceptHandler → List (Value × Sui) → Prop
  | nil : Clauses X n [] []
  | cons {y : Str} {c : Value} {ts : Sui} {b : Stmt} {bs : List Stmt} {p1 p2 : Pos} {hs : List ExceptHandler} {l : List (Value × Sui)} (names : Names X y c)
      (su : ∀ (x : Addr) (ox : Obj) (C : Value) (dd : Option Addr) (pn : List (Addr × Obj)), Zc C dd ox → (∃ vs, ox.data = .fields vs) → PSs (X.suite x ((x, ox) :: pn)) (b :: bs) (ts x C dd)) (more : Clauses X n hs l) :
      Clauses X n (.ExceptHandler (some (.Name y p1)) (some n) (b :: bs) p2 :: hs) ((c, ts) :: l)
section
variable {X : Cx} {n : Str} {i : Nat} {body : List Stmt} {h1 : ExceptHandler} {hs : List ExceptHandler} {l : List (Value × Sui)} {pos : Pos} {tb : WX → TS} {Wo : WX}
theorem ps_tryAs (e1 : X.stack = X.env :: X.outer) (e2 : X.env.frame = some X.env.locals) (nd : X.N.Nodup) (at_ : X.N[i]? = some n) (lo : X.env.kindOf n = some .local) (tk : Takes X Wo)
    (hb : ∀ (W : WX) (pn : List (Addr × Obj)) (xe : Value → Shared → Prop), Takes (X.tr pn xe) W → PassesOwn (model X.prog X.w) X.A X.env xe → PSs (X.tr pn xe) body (tb W)) (hh : Clauses X n (h1 :: hs) l) :
    PS X (.Try body (h1 :: hs) [] [] pos) (fun D u G => tb (wAll X.K i Wo D l) D u G) := by
  refine ⟨fun pins s u G D I r => ?_⟩
  have ok := I.ok
  have frames : X.A.frames = some (X.env :: X.outer) := by rw [ok.frames, e1]
  have vis : Loc X.env.scope n := .inl lo
  refine wpAny_Try_except ?_
  refine wpAny_mono ((hb (wAll X.K i Wo D l) (X.pn ++ pins) (fun x t1 => wpAny (model X.prog X.w) X.A (noteFrame x X.env)
      (fun _ t2 => wpAny (model X.prog X.w) X.A (setFlight x none) (fun _ t3 => wpAny (model X.prog X.w) X.A (handleBy x X.env (h1 :: hs)) (SP X pins D) X.xe t3) X.xe t2) X.xe t1)
      (fun v t z => ?_) PassesOwn.looking).run [] s u G D (I.toTry _) r) (fun fl t z => ?_) (fun _ _ z => z)
  · obtain ⟨x, B, t0, pins', u', G', C, dd, rfl, Jt, nb, upt, sky, nx, os, bare, wish⟩ := z
    have J : Inv X pins u' G' t0 := Jt.ofTry ok
    have sky2 : Sky B (X.env :: X.outer) x (Zc C dd) X.env.locals t.heap := e1 ▸ sky
    show wpAny (model X.prog X.w) X.A (noteFrame (.ref x) X.env) _ _ _
    refine Sky.land Zc.steady frames e2 sky2 fun g3 fly up3 => ?_
    have J3 : Inv X pins u' G' { t with heap := g3 } := J.landed nb fly.1 (upt.trans up3) os bare
    obtain ⟨ox, vx, hx, zx, dx⟩ := fly.there
    have out : x ∉ frs (X.env :: X.outer) := fun m => by
      obtain ⟨_, ob, eb, no⟩ := fly.2.2.1.mem m
      cases hx.symm.trans eb
      exact no _ dx
    have notL : x ≠ X.env.locals := fun z => out (List.mem_filterMap.mpr ⟨X.env, List.mem_cons_self, by rw [e2, z]⟩)
    have notF : x ∉ X.fs := fun m => let ⟨v, hv, q⟩ := List.mem_filterMap.mp m; out (List.mem_filterMap.mpr ⟨v, List.mem_cons_of_mem _ hv, q⟩)
    have S3 := J3.suite hx dx nx notL notF
    have ty : PySem.W.Looks (model X.prog X.w) g3 (typeOf (.ref x)) C := fun _ _ _ _ keep q => wpAny_typeOf_ref (keep _ _ hx) (by rw [zx.1]; exact q)
    have go : ∀ {hs' : List ExceptHandler} {l' : List (Value × Sui)}, Clauses X n hs' l' → wAll X.K i Wo D l' C dd u' G' →
        wpAny (model X.prog X.w) X.A (handleBy (.ref x) X.env hs') (SP X pins D) X.xe { t with heap := g3 } := by
      intro hs' l' cl
      induction cl with
      | nil =>
        intro wish
        refine wpAny_handleBy_nil ?_
        obtain ⟨k1, k2, k3, o9, v9, T, oT, tT, a9, z9, d9, f9, r9⟩ := id fly
        unfold PySem.passOn
        refine wpAny_bind (wpAny_field a9 d9 f9 ?_)
        rw [if_neg (show ¬ ((Value.ref T == Value.none) = true) by simp)]
        have fin : wpAny (model X.prog X.w) X.A (setFlight (.ref x) X.env.frame) (fun _ t4 => wpAny (model X.prog X.w) X.A (throw (.ref x) : Sem Flow) (SP X pins D) X.xe t4) X.xe { t with heap := g3 } := by
          rw [e2]
          exact HandSPX.setFlight_upZ fly fun g4 held up4 => wpAny_throw (tk _ _ ⟨x, B, t0, pins, u', G', C, dd, rfl, J, nb, (upt.trans up3).trans up4, .inr (.inr (e1.symm ▸ held)), nx, os, bare, wish⟩)
        first | exact wpAny_bind (wpAny_pure (wpAny_bind fin)) | exact wpAny_bind fin
      | @cons y c ts b bs p1 p2 hs2 l2 names su more ih =>
        intro wish
        obtain ⟨yes, m1, onYes, onNo⟩ := wish
        refine wpAny_handleBy_cons (codeAny_handlers_test ?_) (fun z => by cases z)
        have names' := names
        have clause : ∀ {Q : Value → Shared → Prop} {E : Value → Shared → Prop}, Q c { t with heap := g3 } → wpAny (model X.prog X.w) (X.A.mark (some (.ref x))) (eval (.Name y p1) X.env) Q E { t with heap := g3 } := fun q => by
          obtain ⟨gl, dbg, m | ⟨m, bv, nn⟩⟩ := names'
          · exact ld_glob (X := X.suite x ((x, ox) :: (X.pn ++ pins))) S3 gl m q dbg
          · exact ld_blt (X := X.suite x ((x, ox) :: (X.pn ++ pins))) S3 gl m bv q nn dbg
        refine clause ((PySem.W.exm_one (M := model X.prog X.w) J3.kIn ty m1).here ?_)
        cases yes with
        | false => exact ih (onNo rfl)
        | true =>
          refine codeAny_handlers_suite_as (HandSPX.lands_againZ fly fun g4 fly4 up4 => ?_)
          have J4 : Inv X pins u' G' { t with heap := g4 } := J.landed nb fly4.1 ((upt.trans up3).trans up4) os bare
          obtain ⟨o4, v4, h4, z4, d4⟩ := fly4.there
          refine store_ok (X := X.suite x ((x, o4) :: (X.pn ++ pins))) (v := .ref x) (J4.suite h4 d4 nx notL notF) nd at_ vis rfl (fun t5 S5 => ?_) (.inr lo)
          refine wpAny_mono ((su x o4 C dd (X.pn ++ pins) z4 ⟨_, d4⟩).run [] t5 _ G' _ S5 (onYes rfl x nx)) (fun fl t6 z => ?_) (fun _ _ z => z.elim)
          have last : ∀ {u6 : L2.St} {G6 : Hp} {Q : Shared → Prop}, Inv (X.suite x ((x, o4) :: (X.pn ++ pins))) [] u6 G6 t6 → (∀ t7, Inv X pins (u6.set i none) G6 t7 → Q t7) →
              wpAny (model X.prog X.w) X.A (do bindName X.env n .none; unbindBehindTheSuite X.env n p2) (fun _ t7 => Q t7) X.xe t6 := fun S6 q => gone_ok (S6.unsuite ok) nd at_ lo q
          cases fl with
          | ret u9 => exact let ⟨_, _, _, S6, rv, q⟩ := z; last S6 fun _ J7 => ⟨_, _, _, J7, rv, q⟩
          | next => exact let ⟨_, _, S6, q⟩ := z; last S6 fun _ J7 => ⟨_, _, J7, q⟩
          | brk => exact let ⟨_, _, S6, q⟩ := z; last S6 fun _ J7 => ⟨_, _, J7, q⟩
          | cont => exact let ⟨_, _, S6, q⟩ := z; last S6 fun _ J7 => ⟨_, _, J7, q⟩
    exact go hh wish
  · cases fl with
    | ret u9 => exact let ⟨_, _, _, J, rv, q⟩ := z; ⟨_, _, _, J.ofTry ok, rv, q⟩
    | next => exact let ⟨_, _, J, q⟩ := z; wpAny_execs_nil ⟨_, _, J.ofTry ok, q⟩
    | brk => exact let ⟨_, _, J, q⟩ := z; ⟨_, _, J.ofTry ok, q⟩
    | cont => exact let ⟨_, _, J, q⟩ := z; ⟨_, _, J.ofTry ok, q⟩
end
/-- isinstance(e, c) of the exception that a suite holds, its class told by the reading -/
theorem call_isE2 {X : Cx} {a D : Addr} {oe : Obj} {cls : Value} {d : Option Addr} {pn : List (Addr × Obj)} (C : ExcC X.K D) (hz : Zc cls d oe) (hf : ∃ vs, oe.data = .fields vs) :
    CallR (X.suite a ((a, oe) :: pn)) (.builtin "isinstance") (fun xs H Q => cls = .ref D ∧ d = none ∧ rIsE X.K D a xs H Q) := by
  intro pins s σ H xs us Q I r h
  obtain ⟨rfl, rfl, q⟩ := h
  exact call_isE C hz hf pins s σ H xs us Q I r q
end TA
set_option Elab.async false
set_option linter.all false
set_option maxRecDepth 100000
set_option maxHeartbeats 4000000
/-! y in x, y not in x, where x is an object of a class with its own __contains__ -/
namespace OI
open PySem PySem.Spec PyProof.Rows L2
theorem contains_fn {M : Model} {A : Around} {s : Shared} {K : PySem.W.Frag} {x C f : Addr} {y : Value} {E : Value → Shared → Prop} {ox : Obj} {od : Option Obj} {Q : Bool → Shared → Prop} (X : K.In s.heap) (I : PySem.W.InstAt s.heap x ox C od)
    (hs : PySem.W.findIn K (.ref C) "__contains__" = some (some (.ref f))) (hf : PySem.W.typeIn K (.ref f) = some (.type "function")) (h : wpAny M A (call (.ref f) [.ref x, y]) (fun r s' => ∃ b, r = Value.bool b ∧ Q b s') E s) :
    wpAny M A (contains (.ref x) y) Q E s := by
  unfold contains
  refine wpAny_holding ?_
  show wpAny M A (specialOf (.ref x) "__contains__" >>= _) Q E s
  have sp : ∀ {Q' : Option Value → Shared → Prop}, Q' (some (.ref f)) s → wpAny M A (specialOf (.ref x) "__contains__") Q' E s := fun q => wpAny_bind (I.type.here ((PySem.W.looks_findIn X hs).here q))
  refine wpAny_bind (sp ?_)
  show wpAny M A (if (some (Value.ref f) == some Value.none) = true then _ else _) Q E s
  rw [if_neg (show ¬ (some (Value.ref f) == some Value.none) = true from fun z => by cases z)]
  refine wpAny_bind ?_
  unfold callSpecialUnlessNone?
  refine wpAny_bind (sp (wpAny_holding (wpAny_bind ((PySem.W.bind_fn X _ hf).here ?_))))
  show wpAny M A (if (Value.ref f == Value.none) = true then _ else _) _ E s
  rw [if_neg (show ¬ (Value.ref f == Value.none) = true from fun z => by cases z)]
  refine wpAny_bind (wpAny_mono h (fun r s' z => ?_) fun _ _ z => z)
  obtain ⟨b, rfl, q⟩ := z
  exact wpAny_pure (wpAny_truthy_bool q)
section
variable {X : Cx} {CX : CXT} {k : Nat} {C g : Addr} {fd : FuncData} {ps : List Str} {sp : Sp} {E : XK}
/-- y in x: what the class's own answer says -/
def rOwnIn (C : Addr) (neg : Bool) (sp : Sp) (E : XK) : R2 := fun y x H Q => ∃ a dx fs, x = .ref a ∧ H a = some (.ins C dx fs) ∧ sp [.ref a, y] H (fun z H' => ∃ b, z = .bl b ∧ Q (.bl (if neg then !b else b)) H') E
theorem own_in {pins : List (Addr × Obj)} {σ : L2.St} {H : Hp} {s : Shared} {y : V} {v : Value} {a dx : Addr} {fs : List (Str × V)} {Q : Bool → Hp → Prop} (hm : Meth X.K C "__contains__" g) (F : FnOk X.prog X.w X.K X.mg X.base CX k g fd ps sp) (hr : Room k X.A) (hb : Binds X.K fd ps []) (hx : Passes CX X E)
    (I : Inv X pins σ H s) (ry : RelV y v) (ea : H a = some (.ins C dx fs)) (q : sp [.ref a, y] H (fun z H' => ∃ b, z = .bl b ∧ Q b H') E) :
    wpAny (model X.prog X.w) X.A (contains (.ref a) v) (fun b s' => ∃ H', Inv X pins σ H' s' ∧ Q b H') X.xe s := by
  obtain ⟨mA, O, r, _, _, _⟩ := ins_get I.hok ea
  obtain ⟨od, J, hl⟩ := O.look
  refine contains_fn I.kIn J hm.at_ (beq_iff_eq.mp hm.fn) (wpAny_mono (run_fn (us := [.ref a, v]) (vs := [.ref a, y]) F hr hb .nil hx I (.cons rfl (.cons ry .nil)) q) (fun r s' z => ?_) fun _ _ z => z)
  obtain ⟨z', H', I', rz, b, eb, qb⟩ := z
  subst eb
  exact ⟨b, rz, H', I', qb⟩
theorem op_notin_own (hm : Meth X.K C "__contains__" g) (F : FnOk X.prog X.w X.K X.mg X.base CX k g fd ps sp) (hr : Room k X.A) (hb : Binds X.K fd ps []) (hx : Passes CX X E) : OpR X (compareOp .NotIn) (rOwnIn C true sp E) := by
  intro pins s σ H y x v u Q I ry rx h
  obtain ⟨a, dx, fs, rfl, ea, q⟩ := h
  cases (show u = Value.ref a from rx)
  show wpAny _ _ (contains (.ref a) v >>= fun b => pure (Value.bool (!b))) _ _ _
  refine wpAny_bind (wpAny_mono (own_in (Q := fun b H' => Q (.bl (!b)) H') hm F hr hb hx I ry ea q) (fun b s' z => ?_) fun _ _ z => z)
  obtain ⟨H', I', q'⟩ := z
  exact wpAny_pure ⟨.bl (!b), H', I', rfl, q'⟩
theorem op_in_own (hm : Meth X.K C "__contains__" g) (F : FnOk X.prog X.w X.K X.mg X.base CX k g fd ps sp) (hr : Room k X.A) (hb : Binds X.K fd ps []) (hx : Passes CX X E) : OpR X (compareOp .In) (rOwnIn C false sp E) := by
  intro pins s σ H y x v u Q I ry rx h
  obtain ⟨a, dx, fs, rfl, ea, q⟩ := h
  cases (show u = Value.ref a from rx)
  show wpAny _ _ (contains (.ref a) v >>= fun b => pure (Value.bool b)) _ _ _
  refine wpAny_bind (wpAny_mono (own_in (Q := fun b H' => Q (.bl b) H') hm F hr hb hx I ry ea q) (fun b s' z => ?_) fun _ _ z => z)
  obtain ⟨H', I', q'⟩ := z
  exact wpAny_pure ⟨.bl b, H', I', rfl, q'⟩
end
end OI
set_option Elab.async false
set_option linter.all false
set_option maxRecDepth 100000
set_option maxHeartbeats 4000000
set_option exponentiation.threshold 100000
namespace LR
open PySem PySem.Spec PyProof.Rows L2
theorem sc_law_error : FnScope ["kind", "one", "value", "e"] ["kind", "one", "value"] (defScope s_law_error) := ⟨rfl, rfl, rfl, by decide +kernel, rfl, by decide +kernel, by decide +kernel⟩
theorem sc_law_right : FnScope ["pool", "one", "known", "turn", "time", "many", "other"] ["pool", "one", "known"] (defScope s_law_right) := ⟨rfl, rfl, rfl, by decide +kernel, rfl, by decide +kernel, by decide +kernel⟩
/-- what is wished of an exception at whatever slots -/
abbrev EW (W : WX) (n : Nat) : XK := fun cls d H => ∀ σ : L2.St, σ.length = n → W cls d σ H
theorem passW {X : Cx} {W : WX} {n : Nat} (tk : Takes X W) (hn : X.N.length = n) : Passes (L2.CX X.prog X.w) X (EW W n) := fun pins σ H s e s' I c => tk e s' (XE.of_call I (fun cls d H' h => h σ (I.len.trans hn)) c)
/-- an own error class over ValueError that an except clause names and that is asked for -/
structure ErrE (K : PySem.W.Frag) (mg : Str → Option Value) (x : Str) (C : Addr) : Prop where
  T : ErrAt K mg x BMv "ValueError.__new__" C
  M : ErrM K C
  X : ExcC K C
  v : PySem.W.kitOne K (.ref C) (.type "ValueError") = some true
theorem set3 {σ : L2.St} {y : Option V} (h : σ.length = 4) : (σ.set 3 y)[3]? = some y := by
  rw [List.getElem?_set_self (by omega)]
/-- x(y), both in slots, x an instance of C -/
def tCallI (C : Addr) (sp : Sp) (E : XK) (i j : Nat) : TE := fun σ H Q => ∃ a v dx fs, σ[i]? = some (some (.ref a)) ∧ σ[j]? = some (some v) ∧ H a = some (.ins C dx fs) ∧ sp [.ref a, v] H Q E
theorem pe_callI {X : Cx} {CX : CXT} {k : Nat} {C g : Addr} {sp : Sp} {E : XK} {x y : Str} {p1 p2 pos : Pos} (i j : Nat) (hf : PE X (.Name x p1) (tVar i)) (hy : PE X (.Name y p2) (tVar j)) (c : StX.CallO X.K C g) (F : FnR X.prog X.w X.K X.mg X.base CX k g sp) (hr : Room k X.A) (hx : Passes CX X E)
    (ht : eval (.Call (.Name x p1) [.Name y p2] [] pos) X.env = (do callWith pos (← eval (.Name x p1) X.env) [] (backTo pos (starEach [.Name y p2] X.env)) (backToKw pos (keywordEach [] X.env))) := by rfl) (he : starEach [.Name y p2] X.env = (false, eval (.Name y p2) X.env) :: starEach [] X.env := by rfl) :
    PE X (.Call (.Name x p1) [.Name y p2] [] pos) (tCallI C sp E i j) := by
  refine ⟨fun pins s σ H Q I h => ?_⟩
  obtain ⟨a, v, dx, fs, h1, h2, h3, h4⟩ := h
  exact (StX.pe_callO hf c F hr hx (pa_cons hy pa_nil) ht he rfl).run pins s σ H Q I ⟨_, h1, a, rfl, _, h2, .inr ⟨dx, fs, h3⟩, h4⟩
/-- the facts of Moments' defs -/
structure MomG (P : Program) (w : World) (K : PySem.W.Frag) (mg : Str → Option Value) (base : Heap) (C CT CN CC : Addr) : Prop where
  T : MomC K C
  gM : mg "Moments" = some (.ref C)
  I : ∃ f fd, Mk K C f ∧ Binds K fd ["self", "begin", "step"] [] ∧ FnOk P w K mg base (CXl P w) 5 f fd ["self", "begin", "step"] (spMI K C CT CN)
  G : ∃ f fd, Meth K C "__getitem__" f ∧ PySem.W.fnIn K f = true ∧ Binds K fd ["self", "at"] [] ∧ FnOk P w K mg base (CXl P w) 5 f fd ["self", "at"] (spGet K C CC)
  N : ∃ f fd, Meth K C "count" f ∧ Binds K fd ["self", "time"] [] ∧ FnOk P w K mg base (CXl P w) 6 f fd ["self", "time"] (spCount K C CT)
  A : ∃ f fd, Meth K C "after" f ∧ Binds K fd ["self", "time"] [] ∧ FnOk P w K mg base (CXl P w) 7 f fd ["self", "time"] (spAfter K C CT)
  L : ∃ f fd, StX.CallO K C f ∧ Binds K fd ["self", "time"] [] ∧ FnOk P w K mg base (CXl P w) 7 f fd ["self", "time"] (spCount K C CT)
  In : ∃ f fd, Meth K C "__contains__" f ∧ Binds K fd ["self", "time"] [] ∧ FnOk P w K mg base (CXl P w) 6 f fd ["self", "time"] (spMIn K C)
section
variable {P : Program} {w : World} {K : PySem.W.Frag} {mg : Str → Option Value} {base : Heap}
theorem with_cont {S T : Hp → Prop} {g : Prop} (main : (∀ h, S h → T h) → g) (cont : ∀ h, S h → T h) : g := main cont
/-- which error _law_error tells -/
inductive ErrCase : Int → V → Option Rat → Str → Prop
  | t0 {x : V} {o : Option Rat} (h : ∀ t, o = some t → t < 0) : ErrCase 0 x o "time"
  | t3 {x : V} {o : Option Rat} (h : ∀ t, o = some t → t < 0) : ErrCase 3 x o "time"
  | t4 {x : V} {o : Option Rat} (h : ∀ t, o = some t → t < 0) : ErrCase 4 x o "time"
  | t5 {x : V} {o : Option Rat} (h : ∀ t, o = some t → t < 0) : ErrCase 5 x o "time"
  | n1 {x : V} {o : Option Rat} (h : ∀ t, o = some t → t ≤ 0) : ErrCase 1 x o "number"
  | c2 {x : V} {o : Option Rat} (h : ∀ i, x = .int i → i < 0) : ErrCase 2 x o "count"
def spErr (K : PySem.W.Frag) (C : Addr) : Sp := fun vs H Q _ => ∃ (k : Int) (v x : V) (b s : Rat) (o : Option Rat) (r : Str), vs = [.int k, v, x] ∧ MomAt K C H v b s ∧ 0 < s ∧ Arg K H x o ∧ ErrCase k x o r ∧ ∀ H', Same H H' → Q (.str r) H'
theorem keq {i j : Int} : decide (V.int i = V.int j) = decide (i = j) := by
  rw [decide_eq_decide, V.int.injEq]
theorem ok_Err {f C CT CN CC : Addr} {fd : FuncData} (D : DefAt K mg "_law_error" s_law_error ["kind", "one", "value"] f fd) (M : MomG P w K mg base C CT CN CC) (XT : ErrE K mg "InvalidTime" CT) (XN : ErrE K mg "InvalidNumber" CN) (XC : ErrE K mg "InvalidCount" CC)
    (nNT : PySem.W.subIn K (.ref CN) (.ref CT) = some false) (nCT : PySem.W.subIn K (.ref CC) (.ref CT) = some false) (nCN : PySem.W.subIn K (.ref CC) (.ref CN) = some false) (mi : mg "isinstance" = none) (mv : mg "ValueError" = none) :
    FnOk P w K mg base (CXl P w) 8 f fd ["kind", "one", "value"] (spErr K C) := by
  obtain ⟨fI, dI, MI, bI, GI⟩ := M.I
  obtain ⟨fG, dG, MG, fi, bG, GG⟩ := M.G
  obtain ⟨fN, dN, MN, bN, GN⟩ := M.N
  obtain ⟨fA, dA, MA, bA, GA⟩ := M.A
  obtain ⟨fL, dL, ML, bL, GL⟩ := M.L
  refine D.F.okX sc_law_error (fun vs H Q E h => ?_) (fun cdv A outer s H vs Q E hr h => ?_)
  · obtain ⟨k, v, x, b, s, o, r, rfl, _⟩ := h
    rfl
  · obtain ⟨k, v, x, b, s, o, r, rfl, hm, s0, hx, ec, q⟩ := h
    refine ⟨_, pss_cons (TA.ps_tryAs (n := "e") (i := 3) (Wo := fun _ _ _ _ => False) rfl rfl sc_law_error.nd rfl rfl takes0
        (fun W pn xe tk _ => pss_one (ps_if (pt_cmpR op_eq (pv 0) pe_int (nomark _))
            (pss_one (ps_expr (pe_make (E := EW W 4) MI GI (hr.mono (by decide)) (by rfl) M.gM bI .nil (passW tk rfl) (pa_cons (pv 2) (pa_cons pe_int pa_nil)))))
          (pss_one (ps_if (pt_cmpR op_eq (pv 0) pe_int (nomark _))
            (pss_one (ps_expr (pe_make (E := EW W 4) MI GI (hr.mono (by decide)) (by rfl) M.gM bI .nil (passW tk rfl) (pa_cons pe_int (pa_cons (pv 2) pa_nil)))))
          (pss_one (ps_if (pt_cmpR op_eq (pv 0) pe_int (nomark _))
            (pss_one (ps_ret (OC.pe_ixOwn (E := EW W 4) MG fi GG (hr.mono (by decide)) bG (passW tk rfl) (pv 1) (pv 2))))
          (pss_one (ps_if (pt_cmpR op_eq (pv 0) pe_int (nomark _))
            (pss_one (ps_expr (pe_meth (E := EW W 4) (pv 1) M.T.cl MN GN (hr.mono (by decide)) bN .nil (passW tk rfl) (pa_cons (pv 2) pa_nil))))
          (pss_one (ps_if (pt_cmpR op_eq (pv 0) pe_int (nomark _))
            (pss_one (ps_expr (pe_meth (E := EW W 4) (pv 1) M.T.cl MA GA hr bA .nil (passW tk rfl) (pa_cons (pv 2) pa_nil))))
            (pss_one (ps_ret (pe_callI (E := EW W 4) 1 2 (pv 1) (pv 2) ML (GL.raw bL .nil) hr (passW tk rfl))))))))))))))
        (.cons (c := .ref CT) ⟨rfl, by decide, .inl XT.T.g⟩ (fun a oe cls d pn hz hf => pss_one (ps_ret (pe_ifExp (pt_val (pe_callB (TA.call_isE2 XT.X hz hf) (by rfl) mi (by decide +kernel) (pa_cons (pv 3) (pa_cons (pe_bltn (v := .ty "ValueError") (by rfl) mv (by decide +kernel) rfl) pa_nil)))) pe_str pe_str)))
        (.cons (c := .ref CN) ⟨rfl, by decide, .inl XN.T.g⟩ (fun a oe cls d pn hz hf => pss_one (ps_ret (pe_ifExp (pt_val (pe_callB (TA.call_isE2 XN.X hz hf) (by rfl) mi (by decide +kernel) (pa_cons (pv 3) (pa_cons (pe_bltn (v := .ty "ValueError") (by rfl) mv (by decide +kernel) rfl) pa_nil)))) pe_str pe_str)))
        (.cons (c := .ref CC) ⟨rfl, by decide, .inl XC.T.g⟩ (fun a oe cls d pn hz hf => pss_one (ps_ret (pe_ifExp (pt_val (pe_callB (TA.call_isE2 XC.X hz hf) (by rfl) mi (by decide +kernel) (pa_cons (pv 3) (pa_cons (pe_bltn (v := .ty "ValueError") (by rfl) mv (by decide +kernel) rfl) pa_nil)))) pe_str pe_str))) .nil))))
      (pss_one (ps_ret pe_non)), ?_⟩
    have tt := PySem.W.exm_ref XT.T.b XT.M.d XT.T.t XT.M.s
    have nn := PySem.W.exm_ref XN.T.b XN.M.d XN.T.t XN.M.s
    have cc := PySem.W.exm_ref XC.T.b XC.M.d XC.T.t XC.M.s
    have nt := PySem.W.exm_ref XT.T.b XT.M.d XT.T.t nNT
    have ct := PySem.W.exm_ref XT.T.b XT.M.d XT.T.t nCT
    have cn := PySem.W.exm_ref XN.T.b XN.M.d XN.T.t nCN
    obtain ⟨p, dx, vb, vs, rfl, hp, hb, hs⟩ := id hm
    cases ec with
    | t0 h =>
      apply with_cont (S := Same H)
      · intro fin
        refine ⟨_, rfl, rfl, _, rfl, ?_⟩
        rw [keq]
        refine ite2 (fun _ => ?_) (fun c => absurd (by decide) c)
        refine ⟨x, rfl, fun y dy n1 n2 ne => ?_⟩
        have n3 : (upd H dy (.own y)) y = none := by rw [upd_ne ne.symm]; exact n1
        have s1 : Same H (upd (upd H dy (.own y)) y (.ins C dy [])) := (same_new n2).trans (same_new n3)
        refine ⟨y, dy, x, .int 1, o, some 1, rfl, upd_same, hx.same s1, num_int 1, ?_⟩
        cases o with
        | none => exact fun H' s' => fin H' (s1.trans s')
        | some t => exact ⟨fun _ H' s' => fin H' (s1.trans s'), fun z => absurd (h t rfl) (Rat.not_lt.mpr z)⟩
      · intro H' s' σ hσ
        exact ⟨true, tt, fun _ a na => ⟨_, set3 hσ, rfl, rfl, .ty "ValueError", _, _, rfl, fun u z => z, XT.v, _, rfl, iteT (q H' s')⟩, fun z => nomatch z⟩
    | n1 h =>
      apply with_cont (S := Same H)
      · intro fin
        refine ⟨_, rfl, rfl, _, rfl, ?_⟩
        rw [keq]
        refine ite2 (fun c => absurd c (by decide)) (fun _ => ⟨_, rfl, rfl, _, rfl, ?_⟩)
        rw [keq]
        refine ite2 (fun _ => ?_) (fun c => absurd (by decide) c)
        refine ⟨x, rfl, fun y dy n1 n2 ne => ?_⟩
        have n3 : (upd H dy (.own y)) y = none := by rw [upd_ne ne.symm]; exact n1
        have s1 : Same H (upd (upd H dy (.own y)) y (.ins C dy [])) := (same_new n2).trans (same_new n3)
        have fin2 := fun H' (b' : But y (upd (upd H dy (.own y)) y (.ins C dy [])) H') => fin H' (fun z o e => b' _ _ (ne_of_none e n1) (s1 _ _ e))
        refine ⟨y, dy, .int 0, x, some 0, o, rfl, upd_same, num_int 0, hx.same s1, fun z => absurd z (by decide), fun _ => ?_⟩
        cases o with
        | none => exact fin2
        | some t => exact ⟨fun _ => fin2, fun z => absurd (h t rfl) (Rat.not_le.mpr z)⟩
      · intro H' s' σ hσ
        exact ⟨false, nt, (fun z => nomatch z), fun _ => ⟨true, nn, fun _ a na => ⟨_, set3 hσ, rfl, rfl, .ty "ValueError", _, _, rfl, fun u z => z, XN.v, _, rfl, iteT (q H' s')⟩, fun z => nomatch z⟩⟩
    | c2 h =>
      apply with_cont (S := Same H)
      · intro fin
        refine ⟨_, rfl, rfl, _, rfl, ?_⟩
        rw [keq]
        refine ite2 (fun c => absurd c (by decide)) (fun _ => ⟨_, rfl, rfl, _, rfl, ?_⟩)
        rw [keq]
        refine ite2 (fun c => absurd c (by decide)) (fun _ => ⟨_, rfl, rfl, _, rfl, ?_⟩)
        rw [keq]
        refine ite2 (fun _ => ?_) (fun c => absurd (by decide) c)
        obtain ⟨n, hk⟩ := hx.kd
        refine ⟨_, rfl, x, rfl, p, dx, _, rfl, hp, _, x, b, s, n, rfl, hm, hk, ?_⟩
        by_cases hi : isI x = true
        · obtain ⟨i, rfl⟩ := isI_int hi
          exact ⟨fun _ => fin, fun z => absurd (h i rfl) (by omega)⟩
        · cases x <;> first | exact fin | exact absurd rfl hi
      · intro H' s' σ hσ
        exact ⟨false, ct, (fun z => nomatch z), fun _ => ⟨false, cn, (fun z => nomatch z), fun _ => ⟨true, cc, fun _ a na => ⟨_, set3 hσ, rfl, rfl, .ty "ValueError", _, _, rfl, fun u z => z, XC.v, _, rfl, iteT (q H' s')⟩, fun z => nomatch z⟩⟩⟩
    | t3 h =>
      apply with_cont (S := Same H)
      · intro fin
        refine ⟨_, rfl, rfl, _, rfl, ?_⟩
        rw [keq]
        refine ite2 (fun c => absurd c (by decide)) (fun _ => ⟨_, rfl, rfl, _, rfl, ?_⟩)
        rw [keq]
        refine ite2 (fun c => absurd c (by decide)) (fun _ => ⟨_, rfl, rfl, _, rfl, ?_⟩)
        rw [keq]
        refine ite2 (fun c => absurd c (by decide)) (fun _ => ⟨_, rfl, rfl, _, rfl, ?_⟩)
        rw [keq]
        refine ite2 (fun _ => ?_) (fun c => absurd (by decide) c)
        refine ⟨_, rfl, p, dx, _, rfl, hp, ml_no _ _ (by decide +kernel) (by decide +kernel), x, rfl, _, x, b, s, o, rfl, hm, hx, s0, ?_⟩
        cases o with
        | none => exact fin
        | some t => exact ⟨fun _ => fin, fun z => absurd (h t rfl) (Rat.not_lt.mpr z)⟩
      · intro H' s' σ hσ
        exact ⟨true, tt, fun _ a na => ⟨_, set3 hσ, rfl, rfl, .ty "ValueError", _, _, rfl, fun u z => z, XT.v, _, rfl, iteT (q H' s')⟩, fun z => nomatch z⟩
    | t4 h =>
      apply with_cont (S := Same H)
      · intro fin
        refine ⟨_, rfl, rfl, _, rfl, ?_⟩
        rw [keq]
        refine ite2 (fun c => absurd c (by decide)) (fun _ => ⟨_, rfl, rfl, _, rfl, ?_⟩)
        rw [keq]
        refine ite2 (fun c => absurd c (by decide)) (fun _ => ⟨_, rfl, rfl, _, rfl, ?_⟩)
        rw [keq]
        refine ite2 (fun c => absurd c (by decide)) (fun _ => ⟨_, rfl, rfl, _, rfl, ?_⟩)
        rw [keq]
        refine ite2 (fun c => absurd c (by decide)) (fun _ => ⟨_, rfl, rfl, _, rfl, ?_⟩)
        rw [keq]
        refine ite2 (fun _ => ?_) (fun c => absurd (by decide) c)
        refine ⟨_, rfl, p, dx, _, rfl, hp, ml_no _ _ (by decide +kernel) (by decide +kernel), x, rfl, _, x, b, s, o, rfl, hm, hx, s0, ?_⟩
        cases o with
        | none => exact fin
        | some t => exact ⟨fun _ => fin, fun z => absurd (h t rfl) (Rat.not_lt.mpr z)⟩
      · intro H' s' σ hσ
        exact ⟨true, tt, fun _ a na => ⟨_, set3 hσ, rfl, rfl, .ty "ValueError", _, _, rfl, fun u z => z, XT.v, _, rfl, iteT (q H' s')⟩, fun z => nomatch z⟩
    | t5 h =>
      apply with_cont (S := Same H)
      · intro fin
        refine ⟨_, rfl, rfl, _, rfl, ?_⟩
        rw [keq]
        refine ite2 (fun c => absurd c (by decide)) (fun _ => ⟨_, rfl, rfl, _, rfl, ?_⟩)
        rw [keq]
        refine ite2 (fun c => absurd c (by decide)) (fun _ => ⟨_, rfl, rfl, _, rfl, ?_⟩)
        rw [keq]
        refine ite2 (fun c => absurd c (by decide)) (fun _ => ⟨_, rfl, rfl, _, rfl, ?_⟩)
        rw [keq]
        refine ite2 (fun c => absurd c (by decide)) (fun _ => ⟨_, rfl, rfl, _, rfl, ?_⟩)
        rw [keq]
        refine ite2 (fun c => absurd c (by decide)) (fun _ => ?_)
        refine ⟨p, x, dx, _, rfl, rfl, hp, _, x, b, s, o, rfl, hm, hx, s0, ?_⟩
        cases o with
        | none => exact fin
        | some t => exact ⟨fun _ => fin, fun z => absurd (h t rfl) (Rat.not_lt.mpr z)⟩
      · intro H' s' σ hσ
        exact ⟨true, tt, fun _ a na => ⟨_, set3 hσ, rfl, rfl, .ty "ValueError", _, _, rfl, fun u z => z, XT.v, _, rfl, iteT (q H' s')⟩, fun z => nomatch z⟩
end
end LR
set_option Elab.async false
set_option linter.all false
set_option maxRecDepth 100000
set_option maxHeartbeats 4000000
set_option exponentiation.threshold 100000
namespace LR
open PySem PySem.Spec PyProof.Rows L2
theorem RnL.but {K : PySem.W.Frag} {H H' : Hp} {p : Addr} {v : V} {rs : List Rat} (h : RnL K H v rs) (hp : PoolAt H p) (b : But p H H') : RnL K H' v rs := by
  obtain ⟨q, xs, rfl, hq, hA⟩ := h
  obtain ⟨l, ns, a, c, d, h1, _⟩ := hp
  have ne : q ≠ p := by
    rintro rfl
    have e := HO.lst.inj (Option.some.inj (hq.symm.trans h1))
    subst e
    cases hA with
    | cons _ t =>
      cases t with
      | cons h _ =>
        obtain ⟨_, e, _⟩ := h
        cases e
  exact ⟨q, xs, rfl, b _ _ ne hq, hA.imp fun _ _ z => (Odd.lst h1).rn b z⟩
theorem Drew.refl {H : Hp} {p : Addr} (h : PoolAt H p) : Drew p H H := ⟨fun _ _ _ e => e, h⟩
theorem mom_nonneg {b s : Rat} (b0 : 0 ≤ b) (s0 : 0 < s) (k : Nat) : 0 ≤ mom b s k := by
  have h1 : (0 : Rat) ≤ ((k : Int) : Rat) := by
    rw [show (0 : Rat) = ((0 : Int) : Rat) from rfl, Rat.intCast_le_intCast]
    exact Int.natCast_nonneg _
  have h2 : 0 ≤ ((k : Int) : Rat) * s := Rat.mul_nonneg h1 (Rat.le_of_lt s0)
  unfold mom
  grind
theorem at_last {α : Type} {xs : List α} {n : Nat} {v : α} (hl : xs.length = n + 1) (h : xs[n]? = some v) : atI xs (-1) = some v := by
  unfold atI ixN
  rw [if_neg (by decide), if_pos (by omega)]
  have e : (-1 + (xs.length : Int)).toNat = n := by omega
  rw [e]
  exact h
theorem All2.get2 {α β : Type} {R : α → β → Prop} : ∀ {xs : List α} {ys : List β} {i : Nat} {y : β}, All2 R xs ys → ys[i]? = some y → ∃ x, xs[i]? = some x ∧ R x y
  | _, _, _, _, .nil, e => by simp at e
  | _, _, 0, _, .cons h _, e => by simp at e; subst e; exact ⟨_, rfl, h⟩
  | _, _, i + 1, y, .cons _ t, e => by
    obtain ⟨x, a, b⟩ := t.get2 (i := i) (y := y) (by simpa using e)
    exact ⟨x, by simpa using a, b⟩
theorem cnt_sz {b s t : Rat} (s0 : 0 < s) (h : t ≤ mom b s 39) : Sz 900 ((cnt b s t : Int) : Rat) := by
  have h1 := cnt_most s0 h
  have h2 := cnt_nonneg b s t
  exact (Sz.int (b := 10) (by decide) (by omega)).mono (by decide)
section
variable {P : Program} {w : World} {K : PySem.W.Frag} {mg : Str → Option Value} {base : Heap}
def spRight (K : PySem.W.Frag) (C : Addr) : Sp := fun vs H Q _ => ∃ (p : Addr) (v kv : V) (b s : Rat), vs = [.ref p, v, kv] ∧ PoolAt H p ∧ MomAt K C H v b s ∧ 0 ≤ b ∧ 0 < s ∧ Sz 200 b ∧ Sz 200 s ∧ RnL K H kv (moms b s 40) ∧ ∀ H', Drew p H H' → Q (.bl true) H'
theorem ok_Right {f C CT CN CC fN fB : Addr} {fd dN dB : FuncData} (D : DefAt K mg "_law_right" s_law_right ["pool", "one", "known"] f fd) (M : MomG P w K mg base C CT CN CC) (DN : DefAt K mg "_law_number" s_law_number ["pool", "size"] fN dN) (DB : DefAt K mg "_law_is_before" s_law_is_before ["one", "other"] fB dB)
    (mr : mg "range" = none) (ml : mg "len" = none) (GNu : FnOk P w K mg base (CXl P w) 2 fN dN ["pool", "size"] (spNum K)) (GB : FnOk P w K mg base (CXl P w) 1 fB dB ["one", "other"] (spBef K)) : FnOk P w K mg base (CXl P w) 8 f fd ["pool", "one", "known"] (spRight K C) := by
  obtain ⟨fC, dC, MC, bC, GC⟩ := M.N
  obtain ⟨fA, dA, MA, bA, GA⟩ := M.A
  obtain ⟨fL, dL, ML, bL, GL⟩ := M.L
  obtain ⟨fI, dI, MI, bI, GI⟩ := M.In
  refine D.F.okX sc_law_right (fun vs H Q E h => ?_) (fun cdv A outer s H vs Q E hr h => ?_)
  · obtain ⟨p, v, kv, b, s, rfl, _⟩ := h
    rfl
  · obtain ⟨p, v, kv, b, s, rfl, hp, hm, b0, s0, zb, zs, hk, q⟩ := h
    have nd := sc_law_right.nd
    refine ⟨_, pss_cons (ps_for (passes_of rfl) rfl (pi_range1 rfl mr (pa_cons pe_int pa_nil)) (pg_name (i := 3) nd rfl (.inl rfl))
        (pss_cons (ps_set (i := 4) nd rfl (.inr rfl) (pe_call GNu (hr.mono (by decide)) (by rfl) DN.g DN.F.kp DN.b .nil passL (pa_cons (pv 0) (pa_cons pe_int pa_nil))))
        (C8.pss_cut (ps_if (pt_val (pe_call GB (hr.mono (by decide)) (by rfl) DB.g DB.F.kp DB.b .nil passL (pa_cons (pe_ix (r := rIxL K) ix_list (pv 2) (pe_un un_neg pe_int) (fun _ _ => rfl)) (pa_cons (pv 4) pa_nil)))) (pss_one (ps_set (i := 4) nd rfl (.inr rfl) (pe_ix (r := rIxL K) ix_list (pv 2) (pe_un un_neg pe_int) (fun _ _ => rfl)))) pss_nil)
        (pss_cons (ps_set (i := 5) nd rfl (.inl rfl) (pe_callB call_len_seq (by rfl) ml PySem.boot_len (pa_cons (pe_lc (wi := iList K (tVar 2)) (own := [("other", 6)]) (g := gName 6) (by rfl) nd (pi_list (pv 2)) (blkOk_by (N := ["pool", "one", "known", "turn", "time", "many", "other"]) (sc := defScope s_law_right) (by decide +kernel)) (fun _ _ _ _ _ => pg_name (i := 6) nd rfl (.inl rfl))
            (fun _ _ _ _ _ => pts_one (pt_not (pt_val (pe_call GB (hr.mono (by decide)) (by rfl) DB.g DB.F.kp DB.b .nil passL (pa_cons (pv 4) (pa_cons (pv 6) pa_nil)))))) (fun _ _ _ _ _ => pv 6)) pa_nil)))
        (pss_cons (ps_if (PW.pt (pw_or (pt_cmpR op_ne (pe_meth (pv 1) M.T.cl MC GC (hr.mono (by decide)) bC .nil passL (pa_cons (pv 4) pa_nil)) (pv 5) (nomark _))
            (pw_or (pt_cmpR op_ne (pe_callI 1 4 (pv 1) (pv 4) ML (GL.raw bL .nil) hr passL) (pv 5) (nomark _))
            (pw_or1 (pt_cmpR op_ne (pe_cmpR (OI.op_in_own MI GI (hr.mono (by decide)) bI passL) (pv 4) (pv 1) (by rfl)) (pe_cmpR (op_inD hr.in1.units) (pv 4) (pv 2) (by rfl)) (nomark _)))))) (pss_one (ps_ret pe_bl)) pss_nil)
        (pss_one (ps_if (PW.pt (pw_and (pt_cmpR op_lt (pv 5) (pe_callB call_len_seq (by rfl) ml PySem.boot_len (pa_cons (pv 2) pa_nil)) (nomark _)) (pw_and1 (pt_cmpR (op_neD hr.units) (pe_meth (pv 1) M.T.cl MA GA hr bA .nil passL (pa_cons (pv 4) pa_nil)) (pe_ix (r := rIxL K) ix_list (pv 2) (pv 5) (fun _ _ => rfl)) (nomark _))))) (pss_one (ps_ret pe_bl)) pss_nil)))))))
      (pss_one (ps_ret pe_bl)), ?_⟩
    refine ⟨_, rfl, by decide, by decide, for_range (lo := 0) (n := 6) (fun i σ H' => Drew p H H' ∧ ∃ o3 o4 o5 o6, σ = [some (.ref p), some v, some kv, o3, o4, o5, o6]) ⟨Drew.refl hp, none, none, none, none, rfl⟩ (fun i σ H' hi hP => ?_) (fun σ H' hP => q H' hP.1)⟩
    obtain ⟨dr, o3, o4, o5, o6, rfl⟩ := hP
    refine ⟨_, rfl, p, 900, rfl, dr.pool, by decide, by decide, fun t0v t0 H1 t00 zt0 rt0 dr1 => ?_⟩
    have dr01 := dr.trans dr1
    obtain ⟨xp, hxp⟩ := hp.lst
    have hm1 : MomAt K C H1 v b s := hm.but dr01.but hxp
    have hk1 : RnL K H1 kv (moms b s 40) := hk.but hp dr01.but
    obtain ⟨kp, xs, rfl, hkp, hA⟩ := id hk1
    have xl : xs.length = 40 := by rw [hA.len, moms_len]
    obtain ⟨x39, h39, r39⟩ := hA.get2 (moms_get (b := b) (s := s) (show 39 < 40 by decide))
    have z39 : Sz 420 (mom b s 39) := mom_sz (by decide) zb zs
    refine ⟨fun σ' H' => H' = H1 ∧ ∃ tv t o, σ' = [some (.ref p), some v, some (.ref kp), o, some tv, o5, o6] ∧ Rn K H1 tv t ∧ t ≤ mom b s 39 ∧ 0 ≤ t ∧ Sz 420 t, ?_, ?_⟩
    · refine ⟨_, rfl, 1, rfl, kp, _, _, x39, rfl, rfl, .of hkp, at_last xl h39, _, rfl, x39, t0v, mom b s 39, t0, rfl, r39, rt0, z39.mono (by decide), zt0.mono (by decide), _, rfl, ite2 (fun c => ?_) (fun c => ?_)⟩
      · exact ⟨_, rfl, 1, rfl, kp, _, _, x39, rfl, rfl, .of hkp, at_last xl h39, rfl, x39, mom b s 39, _, rfl, r39, Rat.le_refl, mom_nonneg b0 s0 39, z39⟩
      · exact ⟨rfl, t0v, t0, _, rfl, rt0, Rat.not_lt.mp fun z => c (decide_eq_true z), t00, zt0.mono (by decide)⟩
    · rintro σ' H' ⟨rfl, tv, t, o, rfl, rt, tle, t0', zt⟩
      have zM : SzM t b s := ⟨zt.mono (by decide), zb.mono (by decide), zs.mono (by decide)⟩
      obtain ⟨mp, dx, vb, vs, rfl, hmp, _, _⟩ := id hm1
      have upc := upTo_cnt (b := b) (t := t) s0 tle
      -- many
      refine ⟨.ref kp, rfl, kp, rfl, ⟨_, .of hkp⟩, fun D nD => lc_list (xs := xs) (fun j H2 => Same H' H2 ∧ ∃ acc, H2 D = some (.lst acc) ∧ acc.length = (((moms b s 40).take j).filter fun q => !decide (t < q)).length) ⟨same_new nD, [], upd_same, rfl⟩ (fun j H2 _ hP => hP.1.seq (.of hkp)) (fun j x H2 hx hP => ?_) (fun H2 hP => ?_)⟩
      · obtain ⟨sm, acc, hD, hl⟩ := hP
        obtain ⟨y, hy, ry⟩ := hA.get hx
        have hj : j < 40 := by
          have := (List.getElem?_eq_some_iff.mp hx).1
          omega
        have ey : y = mom b s j := Option.some.inj (hy.symm.trans (moms_get hj))
        subst ey
        have zy : Sz 420 (mom b s j) := mom_sz (by omega) zb zs
        refine ⟨rfl, tv, rfl, x, rfl, tv, x, t, mom b s j, rfl, rt.same sm, ry.same sm, zt.mono (by decide), zy.mono (by decide), _, rfl, ?_⟩
        have tk : ((moms b s 40).take (j + 1)).filter (fun q => !decide (t < q)) = ((moms b s 40).take j).filter (fun q => !decide (t < q)) ++ [mom b s j].filter (fun q => !decide (t < q)) := by
          rw [take_snoc (moms_get hj), List.filter_append]
        have al : acc.length < 1000 := by
          have h1 := List.length_filter_le (fun q => !decide (t < q)) ((moms b s 40).take j)
          rw [List.length_take, moms_len] at h1
          omega
        refine ite2 (fun c => ?_) (fun c => ?_)
        · refine ⟨x, rfl, acc, hD, Nat.lt_trans al (small1000 (Nat.le_refl _)), same_but sm nD, _, upd_same, ?_⟩
          rw [tk, List.filter_cons_of_pos (p := fun q => !decide (t < q)) c, List.length_append, List.length_append, hl]
          rfl
        · refine ⟨sm, acc, hD, ?_⟩
          rw [tk, List.filter_cons_of_neg (p := fun q => !decide (t < q)) c, List.length_append, hl]
          rfl
      · obtain ⟨sm, acc, hD, hl⟩ := hP
        have hl2 : ((acc.length : Nat) : Int) = cnt b s t := by
          rw [← upc, hl]
          rw [List.take_of_length_le (by rw [moms_len, xl]; exact Nat.le_refl _)]
          rfl
        refine ⟨D, acc, rfl, .inl (.of hD), ?_⟩
        show tSeq _ _ _ (List.set _ 5 (some (.int ((acc.length : Nat) : Int)))) H2
        rw [hl2]
        have hm2 := hm1.same sm
        have rt2 := rt.same sm
        have hk2 := hk1.same sm
        have hmp2 := sm _ _ hmp
        refine ⟨_, rfl, mp, dx, _, rfl, hmp2, ml_no _ _ (by decide +kernel) (by decide +kernel), tv, rfl, _, tv, b, s, some t, rfl, hm2, rt2.num, s0, fun z => absurd t0' (Rat.not_le.mpr z), fun _ => ⟨zM, fun H3 s3 => ?_⟩⟩
        refine ⟨_, rfl, rfl, _, rfl, ite2 (fun c => absurd c (by simp)) (fun _ => ?_)⟩
        refine ⟨mp, tv, dx, _, rfl, rfl, s3 _ _ hmp2, _, tv, b, s, some t, rfl, hm2.same s3, (rt2.same s3).num, s0, fun z => absurd t0' (Rat.not_le.mpr z), fun _ => ⟨zM, fun H4 s4 => ?_⟩⟩
        refine ⟨_, rfl, rfl, _, rfl, ite2 (fun c => absurd c (by simp)) (fun _ => ?_)⟩
        have s24 := s3.trans s4
        refine ⟨tv, rfl, _, rfl, mp, dx, _, rfl, s24 _ _ hmp2, _, tv, b, s, some t, rfl, hm2.same s24, (rt2.same s24).num, s0, fun _ e => by cases e; exact zM, fun H5 s5 => ⟨_, rfl, ?_⟩⟩
        have s25 := s24.trans s5
        obtain ⟨kp', xs', ek, hkp5, hA5⟩ := hk2.same s25
        cases ek
        refine ⟨tv, rfl, _, rfl, datR t, (moms b s 40).map datR, (rt2.same s25).dp, .lst (.of hkp5) (rnl_dp hA5), shapedR _, shapedRs _, ?_⟩
        rw [anyRR, isMom_mem s0 tle]
        refine ⟨rfl, _, rfl, ite2 (fun c => absurd c (by simp)) (fun _ => ?_)⟩
        have xl5 : xs'.length = 40 := by rw [hA5.len, moms_len]
        refine ⟨_, rfl, _, rfl, kp, _, rfl, .inl (.of hkp5), _, _, rfl, rfl, _, rfl, ite2 (fun c => ?_) (fun _ => ?_)⟩
        · have c1 : cnt b s t < ((xs'.length : Nat) : Int) := of_decide_eq_true c
          have c0 := cnt_nonneg b s t
          have hc : (cnt b s t).toNat < 40 := by omega
          refine ⟨_, rfl, mp, dx, _, rfl, s25 _ _ hmp2, ml_no _ _ (by decide +kernel) (by decide +kernel), tv, rfl, _, tv, b, s, some t, rfl, hm2.same s25, (rt2.same s25).num, s0, fun z => absurd t0' (Rat.not_le.mpr z), fun _ => ⟨⟨zM, cnt_sz s0 tle⟩, fun y H6 s6 r6 => ?_⟩⟩
          rw [mom_int c0] at r6
          obtain ⟨kp', xs6, ek, hkp6, hA6⟩ := (hk2.same s25).same s6
          cases ek
          obtain ⟨xc, hxc, rxc⟩ := hA6.get2 (moms_get (b := b) (s := s) hc)
          refine ⟨_, rfl, _, rfl, kp, _, _, xc, rfl, rfl, .of hkp6, at_of (j := (cnt b s t).toNat) (by omega) hxc, datR _, datR _, r6.dp, rxc.dp, shapedR _, shapedR _, _, rfl, ?_⟩
          rw [eqvRR]
          refine ite2 (fun c => absurd c (by simp)) (fun _ => ?_)
          exact ⟨(((((dr01.same sm).same s3).same s4).same s5).same s6), _, _, _, _, rfl⟩
        · exact ⟨(((dr01.same sm).same s3).same s4).same s5, _, _, _, _, rfl⟩
end
end LR
set_option Elab.async false
set_option linter.all false
set_option maxRecDepth 100000
set_option maxHeartbeats 8000000
set_option exponentiation.threshold 100000
namespace LR
open PySem PySem.Spec PyProof.Rows L2
theorem sc_law : FnScope ["script", "pool", "begin", "step", "one", "known", "far", "high", "value", "k"] ["script"] (defScope s_law) := ⟨rfl, rfl, rfl, by decide +kernel, rfl, by decide +kernel, by decide +kernel⟩
abbrev NL : List Str := ["script", "pool", "begin", "step", "one", "known", "far", "high", "value", "k"]
/-- the further facts of Moments' defs -/
structure MomE (P : Program) (w : World) (K : PySem.W.Frag) (mg : Str → Option Value) (base : Heap) (C : Addr) : Prop where
  E : ∃ f fd, OC.EqC K C f ∧ Binds K fd ["self", "other"] [] ∧ FnOk P w K mg base (CXl P w) 1 f fd ["self", "other"] (spEq K C)
  B : ∃ p f fd, PropOf K C "begin" p f ∧ Binds K fd ["self"] [] ∧ FnOk P w K mg base (CXl P w) 1 f fd ["self"] (fun vs H Q _ => ∃ v b s, vs = [v] ∧ MomAt K C H v b s ∧ ∀ x, Rn K H x b → Q x H)
  S : ∃ p f fd, PropOf K C "step" p f ∧ Binds K fd ["self"] [] ∧ FnOk P w K mg base (CXl P w) 1 f fd ["self"] (fun vs H Q _ => ∃ v b s, vs = [v] ∧ MomAt K C H v b s ∧ ∀ x, Rn K H x s → Q x H)
theorem nf_self {K : PySem.W.Frag} {C : Addr} : PySem.W.notFirst K C (.ref C) = true := by
  unfold PySem.W.notFirst
  simp
/-! ### written tuples -/
theorem no24 : ratOf [.int 2, .int 4] = none := by
  simp [ratOf]
theorem no10 : ratOf [.int 1, .int 0] = none := by
  simp [ratOf]
theorem rat_of {a d : Int} (h : 1 ≤ d ∧ Nat.gcd a.natAbs d.natAbs = 1) : ratOf [.int a, .int d] = some (Rat.divInt a d) := by
  simp only [ratOf]
  rw [if_pos h]
theorem rt_of {a d : Int} (h : 1 ≤ d ∧ Nat.gcd a.natAbs d.natAbs = 1) : [V.int a, V.int d] = rt (Rat.divInt a d) := ratOf_some (rat_of h)
section
variable {K : PySem.W.Frag} {H : Hp}
theorem rn_new {t : Addr} {a d : Int} (h : 1 ≤ d ∧ Nat.gcd a.natAbs d.natAbs = 1) (e : H t = some (.tup [.int a, .int d])) : Rn K H (.ref t) (Rat.divInt a d) := ⟨t, rfl, .inl (.inl (by rw [e, rt_of h]))⟩
theorem ki (i j : Int) : [V.int i, V.int j].length = 2 → ∀ x ∈ [V.int i, V.int j], ∃ n, Kd K H x n := fun _ x hx => by
  rcases List.mem_cons.mp hx with e | hx
  · exact ⟨"int", by rw [e]; exact .int _⟩
  · rcases List.mem_cons.mp hx with e | hx
    · exact ⟨"int", by rw [e]; exact .int _⟩
    · cases hx
theorem arg_tup {t : Addr} {i j : Int} {o : Option Rat} (e : H t = some (.tup [.int i, .int j])) (h : ratOf [.int i, .int j] = o) : Arg K H (.ref t) o := .tup (.inl (.inl e)) (ki i j) h
end
/-! ### lists of one text -/
theorem dpStrs {K : PySem.W.Frag} {H : Hp} (x : Str) : ∀ n : Nat, DpAll K H (List.replicate n (V.str x)) (List.replicate n (PyData.str x))
  | 0 => .nil
  | n + 1 => .cons (.str x) (dpStrs x n)
theorem canStrs (x : Str) (hx : (PyData.str x).canLay0 = true) : ∀ n : Nat, PyData.canLayAll0 (List.replicate n (PyData.str x)) = true
  | 0 => rfl
  | n + 1 => by
    show ((PyData.str x).canLay0 && PyData.canLayAll0 (List.replicate n (PyData.str x))) = true
    rw [canStrs x hx n, hx]
    rfl
theorem depStrs (x : Str) : ∀ n : Nat, PyData.depthAll (List.replicate n (PyData.str x)) = 0
  | 0 => rfl
  | n + 1 => by
    have := depStrs x n
    show max 0 (PyData.depthAll (List.replicate n (PyData.str x))) = 0
    omega
theorem shapedStrs (x : Str) (hx : (PyData.str x).canLay0 = true) (n : Nat) : SeqAt.shaped (.list (List.replicate n (PyData.str x))) = true := by
  unfold SeqAt.shaped
  rw [show (PyData.list (List.replicate n (PyData.str x))).canLay0 = PyData.canLayAll0 (List.replicate n (PyData.str x)) from rfl, canStrs x hx, Bool.true_and, decide_eq_true_eq]
  have := depStrs x n
  show PyData.depthAll (List.replicate n (PyData.str x)) + 1 ≤ 64
  omega
theorem eqvStrs (x : Str) (hx : (PyData.str x).canLay0 = true) (n : Nat) : PyData.eqv (.list (List.replicate n (PyData.str x))) (.list (List.replicate n (PyData.str x))) = true := SeqAt.eqv_refl _ (canStrs x hx n)
theorem flat1 (x : V) : ∀ n : Nat, (List.replicate n [x]).flatten = List.replicate n x
  | 0 => rfl
  | n + 1 => by
    show [x] ++ (List.replicate n [x]).flatten = x :: List.replicate n x
    rw [flat1 x n]
    rfl
theorem repl_snoc (x : V) (n : Nat) : List.replicate n x ++ [x] = List.replicate (n + 1) x := by
  rw [List.replicate_succ']
/-! ### what is tried -/
theorem far_sz {d : Int} (h0 : 0 ≤ d) (h1 : d < 10 ^ 30 + 2) : Sz 200 (d : Rat) := Sz.int (by decide) (Nat.lt_of_lt_of_le (show d.natAbs < 2 ^ 100 by omega) (Nat.pow_le_pow_right (by decide) (by decide)))
theorem neg_int : (((-1 : Int)) : Rat) < 0 := by decide
theorem neg_half : Rat.divInt (-1) 2 < 0 := by decide
section
variable {P : Program} {w : World} {K : PySem.W.Frag} {mg : Str → Option Value} {base : Heap}
def spLaw (K : PySem.W.Frag) : Sp := fun vs H Q _ => ∃ (a : Addr) (ns : List Int), vs = [.ref a] ∧ SqL K H a (ns.map V.int) ∧ ns.length ≤ 63 ∧ ∀ H', Q (.bl true) H'
theorem ok_Law {f C CT CN CC fP fD fC fS fN fL fE fR : Addr} {fd dP dD dC dS dN dL dE dR : FuncData} (D : DefAt K mg "law" s_law ["script"] f fd) (M : MomG P w K mg base C CT CN CC) (M2 : MomE P w K mg base C)
    (DP : DefAt K mg "_law_pool" s_law_pool ["script"] fP dP) (DD : DefAt K mg "_law_draw" s_law_draw ["pool", "many"] fD dD) (DC : DefAt K mg "_law_cut" s_law_cut ["top", "bottom"] fC dC) (DS : DefAt K mg "_law_sum" s_law_sum ["one", "other"] fS dS)
    (DN : DefAt K mg "_law_number" s_law_number ["pool", "size"] fN dN) (DL : DefAt K mg "_law_list" s_law_list ["begin", "step", "many"] fL dL) (DE : DefAt K mg "_law_error" s_law_error ["kind", "one", "value"] fE dE) (DR : DefAt K mg "_law_right" s_law_right ["pool", "one", "known"] fR dR) (mr : mg "range" = none)
    (GP : FnOk P w K mg base (CXl P w) 1 fP dP ["script"] (spPool K)) (GD : FnOk P w K mg base (CXl P w) 1 fD dD ["pool", "many"] spDraw) (GC : FnOk P w K mg base (CXl P w) 1 fC dC ["top", "bottom"] (spCut K)) (GS : FnOk P w K mg base (CXl P w) 2 fS dS ["one", "other"] (spSum K))
    (GN : FnOk P w K mg base (CXl P w) 2 fN dN ["pool", "size"] (spNum K)) (GL : FnOk P w K mg base (CXl P w) 3 fL dL ["begin", "step", "many"] (spList K)) (GE : FnOk P w K mg base (CXl P w) 8 fE dE ["kind", "one", "value"] (spErr K C)) (GR : FnOk P w K mg base (CXl P w) 8 fR dR ["pool", "one", "known"] (spRight K C)) :
    FnOk P w K mg base (CXl P w) 9 f fd ["script"] (spLaw K) := by
  obtain ⟨gI, eI, MI, bI, GI⟩ := M.I
  obtain ⟨gG, eG, MG, fi, bG, GG⟩ := M.G
  obtain ⟨gC, eC, MC, bC, GCo⟩ := M.N
  obtain ⟨gA, eA, MA, bA, GA⟩ := M.A
  obtain ⟨gIn, eIn, MIn, bIn, GIn⟩ := M.In
  obtain ⟨gE, eE, ME, bE, GEq⟩ := M2.E
  obtain ⟨pB, gB, eB, MB, bB, GB⟩ := M2.B
  obtain ⟨pS, gS, eS, MS, bS, GSt⟩ := M2.S
  have T := M.T
  refine D.F.okX sc_law (fun vs H Q E h => ?_) (fun cdv A outer s H vs Q E hr h => ?_)
  · obtain ⟨a, ns, rfl, _⟩ := h
    rfl
  · obtain ⟨a0, ns, rfl, hS, hl, q⟩ := h
    have nd := sc_law.nd
    have h6 : Room 6 _ := hr.mono (by decide)
    have h2 : Room 2 _ := hr.mono (by decide)
    refine ⟨_, pss_cons (ps_set (i := 1) nd rfl (.inl rfl) (pe_call GP (hr.mono (by decide)) (by rfl) DP.g DP.F.kp DP.b .nil passL (pa_cons (pv 0) pa_nil)))
      (pss_cons (ps_par (i := 2) (j := 3) rfl nd rfl rfl (by decide) rfl rfl (pa_cons (pe_call GN (hr.mono (by decide)) (by rfl) DN.g DN.F.kp DN.b .nil passL (pa_cons (pv 1) (pa_cons pe_int pa_nil))) (pa_cons (pe_call GN (hr.mono (by decide)) (by rfl) DN.g DN.F.kp DN.b .nil passL (pa_cons (pv 1) (pa_cons pe_int pa_nil))) pa_nil)) (by rfl))
      (C8.pss_cut (ps_set (i := 3) nd rfl (.inl rfl) (pe_ifExp (pt_cmpR op_eq (pe_ix (r := rIxT K) ix_tup (pv 3) pe_int (fun _ _ => rfl)) pe_int (nomark _)) (pe_tup (pa_cons pe_int (pa_cons pe_int pa_nil))) (pv 3)))
      (pss_cons (ps_asg (pe_tup (pa_cons (pe_make MI GI h6 (by rfl) M.gM bI .nil passL (pa_cons (pv 2) (pa_cons (pv 3) pa_nil))) (pa_cons (pe_call GL (hr.mono (by decide)) (by rfl) DL.g DL.F.kp DL.b .nil passL (pa_cons (pv 2) (pa_cons (pv 3) (pa_cons pe_int pa_nil)))) pa_nil)))
          (pg_tup rfl (pgs_cons (pg_name (i := 4) nd rfl (.inr rfl)) (pgs_cons (pg_name (i := 5) nd rfl (.inl rfl)) pgs_nil))))
      (pss_cons (ps_if (PW.pt (pw_or (pt_cmpR (op_neD hr.units) (pe_prop (pv 4) T.cl MB GB h2 bB .nil passL rfl) (pv 2) (nomark _)) (pw_or (pt_cmpR (op_neD hr.units) (pe_prop (pv 4) T.cl MS GSt h2 bS .nil passL rfl) (pv 3) (nomark _))
          (pw_or1 (pt_cmpR (op_neD hr.units) (pe_lc (own := [("k", 9)]) (g := gName 9) (tt := tYes) (by rfl) nd (pi_range1 rfl mr (pa_cons pe_int pa_nil)) (blkOk_by (N := NL) (sc := defScope s_law) (by decide +kernel)) (fun _ _ _ _ _ => pg_name (i := 9) nd rfl (.inl rfl)) (fun _ _ _ _ _ => pts_nil)
            (fun _ _ _ _ _ => OC.pe_ixOwn MG fi GG h6 bG passL (pv 4) (pv 9))) (pv 5) (nomark _)))))) (pss_one (ps_ret pe_bl)) pss_nil)
      (pss_cons (ps_if (pt_not (pt_val (pe_call GR hr (by rfl) DR.g DR.F.kp DR.b .nil passL (pa_cons (pv 1) (pa_cons (pv 4) (pa_cons (pv 5) pa_nil)))))) (pss_one (ps_ret pe_bl)) pss_nil)
      (pss_cons (ps_set (i := 6) nd rfl (.inl rfl) (pe_call GD (hr.mono (by decide)) (by rfl) DD.g DD.F.kp DD.b .nil passL (pa_cons (pv 1) (pa_cons (pe_op op_pow pe_int pe_int) pa_nil))))
      (pss_cons (ps_set (i := 7) nd rfl (.inl rfl) (pe_call GS (hr.mono (by decide)) (by rfl) DS.g DS.F.kp DS.b .nil passL (pa_cons (pv 2) (pa_cons (pe_call GC (hr.mono (by decide)) (by rfl) DC.g DC.F.kp DC.b .nil passL (pa_cons (pe_op op_mulW (pe_ix (r := rIxT K) ix_tup (pv 3) pe_int (fun _ _ => rfl)) (pv 6)) (pa_cons (pe_ix (r := rIxT K) ix_tup (pv 3) pe_int (fun _ _ => rfl)) pa_nil))) pa_nil))))
      (pss_cons (ps_if (PW.pt (pw_or (pt_cmpR (op_neD hr.units) (OC.pe_ixOwn MG fi GG h6 bG passL (pv 4) (pv 6)) (pv 7) (nomark _)) (pw_or (pt_cmpR op_ne (pe_meth (pv 4) T.cl MC GCo (hr.mono (by decide)) bC .nil passL (pa_cons (pv 7) pa_nil)) (pe_op op_add (pv 6) pe_int) (nomark _))
          (pw_or (pt_cmpR (OI.op_notin_own MIn GIn (hr.mono (by decide)) bIn passL) (pv 7) (pv 4) (by rfl)) (pw_or1 (pt_cmpR (op_neD hr.units) (pe_meth (pv 4) T.cl MA GA (hr.mono (by decide)) bA .nil passL (pa_cons (pv 7) pa_nil)) (OC.pe_ixOwn MG fi GG h6 bG passL (pv 4) (pe_op op_add (pv 6) pe_int)) (nomark _))))))) (pss_one (ps_ret pe_bl)) pss_nil)
      (pss_cons (ps_if (PW.pt (pw_or (pt_cmpR (OC.op_neOwn ME GEq h2 bE passL) (pe_make MI GI h6 (by rfl) M.gM bI .nil passL (pa_cons (pe_ix (r := rIxT K) ix_tup (pv 2) pe_int (fun _ _ => rfl)) (pa_cons pe_int pa_nil))) (pe_make MI GI h6 (by rfl) M.gM bI .nil passL (pa_cons (pe_tup (pa_cons (pe_ix (r := rIxT K) ix_tup (pv 2) pe_int (fun _ _ => rfl)) (pa_cons pe_int pa_nil))) (pa_cons (pe_tup (pa_cons pe_int (pa_cons pe_int pa_nil))) pa_nil))) (nomark _))
          (pw_or1 (pt_cmpR (OC.op_eqOwn ME GEq (hr.mono (by decide)) bE passL) (pv 4) (pe_make MI GI h6 (by rfl) M.gM bI .nil passL (pa_cons (pv 2) (pa_cons (pe_call GS (hr.mono (by decide)) (by rfl) DS.g DS.F.kp DS.b .nil passL (pa_cons (pv 3) (pa_cons (pe_tup (pa_cons pe_int (pa_cons pe_int pa_nil))) pa_nil))) pa_nil))) (nomark _))))) (pss_one (ps_ret pe_bl)) pss_nil)
      (pss_cons (ps_if (PW.pt (pw_or (pt_cmpR (OC.op_eqOwn ME GEq (hr.mono (by decide)) bE passL) (pv 4) (pe_make MI GI h6 (by rfl) M.gM bI .nil passL (pa_cons (pe_call GS (hr.mono (by decide)) (by rfl) DS.g DS.F.kp DS.b .nil passL (pa_cons (pv 2) (pa_cons (pe_tup (pa_cons pe_int (pa_cons pe_int pa_nil))) pa_nil))) (pa_cons (pv 3) pa_nil))) (nomark _))
          (pw_or (pt_cmpR (OC.op_eqOwn ME GEq (hr.mono (by decide)) bE passL) (pv 4) (pe_tup (pa_cons (pv 2) (pa_cons (pv 3) pa_nil))) (nomark _)) (pw_or (pt_cmpR (OC.op_eqOwn ME GEq (hr.mono (by decide)) bE passL) (pv 4) pe_non (nomark _))
          (pw_or1 (pt_cmpR (OI.op_in_own MIn GIn (hr.mono (by decide)) bIn passL) pe_int (pe_make MI GI h6 (by rfl) M.gM bI .nil passL (pa_cons pe_int (pa_cons pe_int pa_nil))) (by rfl))))))) (pss_one (ps_ret pe_bl)) pss_nil)
      (pss_cons (ps_if (pt_cmpR (op_neD hr.units) (pe_lc (wi := iList K _) (own := [("value", 8)]) (g := gName 8) (by rfl) nd (pi_list (pe_lst (pa_cons pe_int (pa_cons pe_str (pa_cons (pe_lst (pa_cons (pv 4) pa_nil)) (pa_cons (pe_tup (pa_cons (pv 4) pa_nil)) (pa_cons pe_dnewK (pa_cons pe_bl (pa_cons (pe_lst (pa_cons (pv 2) (pa_cons (pv 3) pa_nil))) pa_nil)))))))))
            (blkOk_by (N := NL) (sc := defScope s_law) (by decide +kernel)) (fun _ _ _ _ _ => pg_name (i := 8) nd rfl (.inl rfl)) (fun _ _ _ _ _ => pts_one (pt_cmpR (r := OC.rEq K C false (spEq K C) E0) (by exact OC.op_eqOwn ME GEq (hr.mono (by decide)) bE passL) (pv 4) (pv 8) (nomark _))) (fun _ _ _ _ _ => pv 8)) (pe_lst pa_nil) (nomark _)) (pss_one (ps_ret pe_bl)) pss_nil)
      (pss_cons (ps_for (passes_of rfl) rfl (pi_list (pe_lst (pa_cons pe_non (pa_cons pe_str (pa_cons pe_bl (pa_cons (pe_tup (pa_cons pe_int (pa_cons pe_int pa_nil))) (pa_cons (pe_tup (pa_cons pe_int (pa_cons pe_int pa_nil))) (pa_cons (pe_lst (pa_cons pe_int (pa_cons pe_int pa_nil))) (pa_cons (pe_un un_neg pe_int) (pa_cons (pe_tup (pa_cons (pe_un un_neg pe_int) (pa_cons pe_int pa_nil))) pa_nil)))))))))) (pg_name (i := 8) nd rfl (.inr rfl))
          (pss_one (ps_if (PW.pt (pw_or (pt_cmpR (OI.op_in_own MIn GIn (hr.mono (by decide)) bIn passL) (pv 8) (pv 4) (by rfl)) (pw_or1 (pt_cmpR (op_neD hr.units) (pe_lc (wi := iList K _) (own := [("k", 9)]) (g := gName 9) (tt := tYes) (by rfl) nd (pi_list (pe_lst (pa_cons pe_int (pa_cons pe_int (pa_cons pe_int (pa_cons pe_int pa_nil))))))
            (blkOk_by (N := NL) (sc := defScope s_law) (by decide +kernel)) (fun _ _ _ _ _ => pg_name (i := 9) nd rfl (.inl rfl)) (fun _ _ _ _ _ => pts_nil) (fun _ _ _ _ _ => pe_call GE hr (by rfl) DE.g DE.F.kp DE.b .nil passL (pa_cons (pv 9) (pa_cons (pv 4) (pa_cons (pv 8) pa_nil))))) (pe_op op_rep (pe_lst (pa_cons pe_str pa_nil)) pe_int) (nomark _))))) (pss_one (ps_ret pe_bl)) pss_nil)))
      (pss_cons (ps_for (passes_of rfl) rfl (pi_list (pe_lst (pa_cons pe_non (pa_cons pe_str (pa_cons pe_bl (pa_cons (pe_tup (pa_cons pe_int (pa_cons pe_int pa_nil))) (pa_cons pe_int (pa_cons (pe_un un_neg pe_int) (pa_cons (pe_tup (pa_cons pe_int (pa_cons pe_int pa_nil))) (pa_cons (pe_tup (pa_cons (pe_un un_neg pe_int) (pa_cons pe_int pa_nil))) pa_nil)))))))))) (pg_name (i := 8) nd rfl (.inr rfl))
          (pss_one (ps_if (pt_cmpR op_ne (pe_call GE hr (by rfl) DE.g DE.F.kp DE.b .nil passL (pa_cons pe_int (pa_cons (pv 4) (pa_cons (pv 8) pa_nil)))) pe_str (nomark _)) (pss_one (ps_ret pe_bl)) pss_nil)))
      (pss_one (ps_ret (pe_cmpR (op_eqD hr.units) (pe_lc (wi := iList K _) (own := [("value", 8)]) (g := gName 8) (tt := tYes) (by rfl) nd (pi_list (pe_lst (pa_cons pe_non (pa_cons pe_str (pa_cons pe_bl (pa_cons (pe_tup (pa_cons pe_int (pa_cons pe_int pa_nil))) (pa_cons (pe_un un_neg pe_int) (pa_cons (pe_tup (pa_cons pe_int (pa_cons pe_int pa_nil))) pa_nil))))))))
            (blkOk_by (N := NL) (sc := defScope s_law) (by decide +kernel)) (fun _ _ _ _ _ => pg_name (i := 8) nd rfl (.inl rfl)) (fun _ _ _ _ _ => pts_nil) (fun _ _ _ _ _ => pe_call GE hr (by rfl) DE.g DE.F.kp DE.b .nil passL (pa_cons pe_int (pa_cons (pv 4) (pa_cons (pv 8) pa_nil))))) (pe_op op_rep (pe_lst (pa_cons pe_str pa_nil)) pe_int) (nomark _))))))))))))))))), ?_⟩
    -- the pool
    refine ⟨_, rfl, a0, ns, rfl, hS, hl, fun p H1 s1 hp1 => ?_⟩
    -- begin, step
    refine ⟨_, rfl, p, 60, rfl, hp1, by decide, by decide, fun bv b H2 b0 zb rb dr2 => ?_⟩
    refine ⟨_, rfl, p, 40, rfl, dr2.pool, by decide, by decide, fun sv0 st0 H3 st00 zs0 rs0 dr3 => ?_⟩
    refine ⟨_, _, rfl, ?_⟩
    obtain ⟨xp2, hxp2⟩ := dr2.pool.lst
    have rb3 : Rn K H3 bv b := (Odd.lst hxp2).rn dr3.but rb
    have hp3 := dr3.pool
    clear dr2 dr3 hp1 hxp2 rb
    refine ⟨fun σ' H' => Same H3 H' ∧ ∃ sv s, σ' = [some (.ref a0), some (.ref p), some bv, some sv, none, none, none, none, none, none] ∧ Rn K H' sv s ∧ 0 < s ∧ Sz 200 s, ?_, ?_⟩
    · obtain ⟨sa, rfl, hsa⟩ := id rs0
      refine ⟨_, rfl, sa, _, 0, _, rfl, rfl, hsa, atI_nat (j := 0) rfl, rfl, _, rfl, ite2 (fun c => ?_) (fun c => ?_)⟩
      · refine ⟨by show 2 ≤ sizeLine; decide, fun t nt => ⟨same_new nt, .ref t, Rat.divInt 1 3, rfl, rn_new (by decide) upd_same, by decide, ?_⟩⟩
        exact sz_divInt (by decide) (by decide) (by decide)
      · have hn : st0.num ≠ 0 := fun z => c (by rw [z]; rfl)
        exact ⟨_, rfl, Same.refl _, .ref sa, st0, rfl, rs0, Rat.lt_of_le_of_ne st00 (fun e => hn (by rw [← e]; rfl)), zs0⟩
    rintro σ4 H4 ⟨s34, sv, s, rfl, rs, s0, zs⟩
    have rb4 := rb3.same s34
    have hp4 := hp3.same s34
    clear rs0 rb3 hp3
    -- one, known
    refine ⟨_, rfl, _, rfl, ?_⟩
    refine make_ok rb4.num rs.num b0 s0 fun x5 H5 s45 m5 => ?_
    refine ⟨_, rfl, _, rfl, bv, sv, b, s, 40, rfl, rb4.same s45, rs.same s45, zb, zs, by decide, fun kv H6 s56 hk6 => ?_⟩
    refine ⟨by show 2 ≤ sizeLine; decide, fun t nt => ?_⟩
    refine ⟨t, _, rfl, .inl (.inl upd_same), rfl, _, _, rfl, _, _, rfl, rfl, ?_⟩
    have s67 : Same H6 (upd H6 t (.tup [.ref x5, kv])) := same_new nt
    show tSeq _ _ _ _ (upd H6 t (.tup [.ref x5, kv]))
    generalize (upd H6 t (.tup [.ref x5, kv])) = H7 at s67 ⊢
    have s47 := (s45.trans s56).trans s67
    have m7 := (m5.same s56).same s67
    have hk7 := hk6.same s67
    have rb7 := rb4.same s47
    have rs7 := rs.same s47
    have hp7 := hp4.same s47
    clear m5 hk6 rb4 rs hp4 s34 s45 s56 s67 s47 nt
    obtain ⟨mp, dx, vb, vs, ex, hmp7, hvb, hvs⟩ := id m7
    have em : mp = x5 := (V.ref.inj ex).symm
    subst em
    have z1 : Sz 900 b := zb.mono (by decide)
    have z2 : Sz 900 s := zs.mono (by decide)
    -- begin, step, the first forty
    refine ⟨_, rfl, mp, dx, _, rfl, hmp7, _, b, s, rfl, m7, fun y ry => ⟨_, rfl, datR b, datR b, ry.dp, rb7.dp, shapedR _, shapedR _, _, rfl, ?_⟩⟩
    rw [eqvRR]
    refine ite2 (fun c => absurd c (by simp)) (fun _ => ?_)
    refine ⟨_, rfl, mp, dx, _, rfl, hmp7, _, b, s, rfl, m7, fun y ry => ⟨_, rfl, datR s, datR s, ry.dp, rs7.dp, shapedR _, shapedR _, _, rfl, ?_⟩⟩
    rw [eqvRR]
    refine ite2 (fun c => absurd c (by simp)) (fun _ => ?_)
    refine ⟨40, rfl, by decide, by decide, fun D nD => lc_range (lo := 0) (n := 40) (fun i H' => Same H7 H' ∧ i ≤ 40 ∧ ∃ acc, H' D = some (.lst acc) ∧ All2 (Rn K H') acc (moms b s i)) ⟨same_new nD, by decide, [], upd_same, .nil⟩ (fun i H' hi hP => ?_) (fun H8 hP => ?_)⟩
    · obtain ⟨sm, _, acc, hD, hA⟩ := hP
      have al : acc.length = i := by rw [hA.len, moms_len]
      refine ⟨rfl, _, rfl, _, rfl, mp, dx, _, rfl, sm _ _ hmp7, _, _, b, s, "int", rfl, m7.same sm, .int _, fun z => absurd z (by omega), fun z0 => ⟨⟨?_, z1, z2⟩, fun y H9 s9 r9 => ?_⟩⟩
      · exact Sz.int (by decide) (Nat.lt_of_lt_of_le (show (0 + (i : Int)).natAbs < 2 ^ 10 by omega) (Nat.pow_le_pow_right (by decide) (by decide)))
      · rw [mom_int z0, show (0 + (i : Int)).toNat = i by omega] at r9
        refine ⟨acc, s9 _ _ hD, Nat.lt_trans (show acc.length < 1000 by omega) (small1000 (Nat.le_refl _)), same_but (sm.trans s9) nD, hi, _, upd_same, ?_⟩
        rw [moms_succ]
        exact (hA.imp fun _ _ z => rn_lst (s9 _ _ hD) (z.same s9)).snoc (rn_lst (s9 _ _ hD) r9)
    obtain ⟨sm, _, acc, hD, hA⟩ := hP
    obtain ⟨kp, xs, rfl, hkp, hAk⟩ := hk7.same sm
    refine ⟨_, rfl, _, _, .lst (.of hD) (rnl_dp hA), .lst (.of hkp) (rnl_dp hAk), shapedRs _, shapedRs _, _, rfl, ?_⟩
    rw [eqvRRs]
    refine ite2 (fun c => absurd c (by simp)) (fun _ => ?_)
    clear hA hD acc hkp hAk
    -- _law_right
    refine ⟨_, rfl, _, rfl, _, rfl, p, .ref mp, .ref kp, b, s, rfl, hp7.same sm, m7.same sm, b0, s0, zb, zs, hk7.same sm, fun H9 dr9 => ⟨_, rfl, iteF ?_⟩⟩
    obtain ⟨xp8, hxp8⟩ := (hp7.same sm).lst
    have m9 := (m7.same sm).but dr9.but hxp8
    have rb9 := (Odd.lst hxp8).rn dr9.but (rb7.same sm)
    have rs9 := (Odd.lst hxp8).rn dr9.but (rs7.same sm)
    clear m7 rb7 rs7 hk7 hp7 hmp7 hvb hvs
    -- far, high
    refine ⟨_, rfl, 10, 30, rfl, rfl, ⟨by decide, by decide, by decide⟩, p, _, rfl, dr9.pool, by decide, by decide, fun d H10 d0 d1 dr10 => ?_⟩
    have d1' : d < 10 ^ 30 := d1
    obtain ⟨xp9, hxp9⟩ := dr9.pool.lst
    have m10 := m9.but dr10.but hxp9
    have rb10 := (Odd.lst hxp9).rn dr10.but rb9
    have rs10 := (Odd.lst hxp9).rn dr10.but rs9
    clear m9 rb9 rs9 dr9 dr10 hxp8 hxp9 sm
    obtain ⟨sa, rfl, hsa⟩ := id rs10
    have zd : Sz 200 ((d : Int) : Rat) := far_sz d0 (by omega)
    have wd : CMulW s.num d := wide_mul (Nat.lt_of_lt_of_le zs.1 (Nat.pow_le_pow_right (by decide) (show 200 ≤ 3900 by decide))) (Nat.lt_of_lt_of_le zd.1 (Nat.pow_le_pow_right (by decide) (show 200 ≤ 3900 by decide))) (by decide) (by decide) (by decide)
    refine ⟨_, rfl, _, rfl, sa, _, 0, _, rfl, rfl, hsa, atI_nat (j := 0) rfl, _, rfl, s.num, d, rfl, rfl, wd, ?_⟩
    refine ⟨_, rfl, sa, _, 1, _, rfl, rfl, hsa, atI_nat (j := 1) rfl, ?_⟩
    refine ⟨_, _, rfl, by have := den_pos s; omega, by rw [Int.natAbs_natCast]; exact Nat.lt_of_lt_of_le zs.2 (Nat.pow_le_pow_right (by decide) (by decide)), fun y11 H11 s11 r11 => ?_⟩
    have esd : Rat.divInt (s.num * d) (s.den : Int) = (d : Rat) * s := by
      conv => rhs; rw [show s = Rat.divInt s.num s.den from (Rat.num_divInt_den s).symm]
      rw [Rat.divInt_eq_div, Rat.divInt_eq_div, Rat.intCast_mul]
      grind
    rw [esd] at r11
    refine ⟨bv, y11, b, (d : Rat) * s, rfl, rb10.same s11, r11, z1.mono (by decide), (zd.mul zs).mono (by decide), fun hv H12 s12 rh12 => ?_⟩
    rw [mom_int d0] at rh12
    have s1012 := s11.trans s12
    have m12 := m10.same s1012
    have rb12 := rb10.same s1012
    have rs12 := rs10.same s1012
    clear m10 rb10 rs10 hsa r11 s11 s12 s1012
    obtain ⟨mp', dx, vb, vs, ex, hmp12, hvb, hvs⟩ := id m12
    cases ex
    have hk : d.toNat < 10 ^ 30 := by omega
    have zh : Sz 900 (mom b s d.toNat) := by
      rw [← mom_int d0]
      exact (zb.add (zd.mul zs)).mono (by decide)
    have h0 : 0 ≤ mom b s d.toNat := mom_nonneg b0 s0 _
    have zM : SzM (mom b s d.toNat) b s := ⟨zh, z1, z2⟩
    have ecnt : cnt b s (mom b s d.toNat) = d + 1 := by rw [cnt_mom s0, Int.toNat_of_nonneg d0]
    have zd1 : Sz 200 (((d + 1 : Int)) : Rat) := far_sz (by omega) (by omega)
    -- one[far] != high
    refine ⟨_, rfl, _, rfl, mp, dx, _, rfl, hmp12, _, _, b, s, "int", rfl, m12, .int _, fun z => absurd z (by omega), fun _ => ⟨⟨zd.mono (by decide), z1, z2⟩, fun y H13 s13 r13 => ?_⟩⟩
    rw [mom_int d0] at r13
    refine ⟨_, rfl, datR _, datR _, r13.dp, (rh12.same s13).dp, shapedR _, shapedR _, _, rfl, ?_⟩
    rw [eqvRR]
    refine ite2 (fun c => absurd c (by simp)) (fun _ => ?_)
    -- one.count(high) != far + 1
    refine ⟨_, rfl, mp, dx, _, rfl, s13 _ _ hmp12, ml_no _ _ (by decide +kernel) (by decide +kernel), hv, rfl, _, hv, b, s, some (mom b s d.toNat), rfl, m12.same s13, (rh12.same s13).num, s0, fun z => absurd h0 (Rat.not_le.mpr z), fun _ => ⟨zM, fun H14 s14 => ?_⟩⟩
    rw [ecnt]
    refine ⟨_, rfl, d, 1, rfl, rfl, rfl, _, rfl, ite2 (fun c => absurd c (by simp)) (fun _ => ?_)⟩
    have s1214 := s13.trans s14
    -- high not in one
    refine ⟨hv, rfl, _, rfl, mp, dx, _, rfl, s1214 _ _ hmp12, _, hv, b, s, some (mom b s d.toNat), rfl, m12.same s1214, (rh12.same s1214).num, s0, fun _ e => by cases e; exact zM, fun H15 s15 => ⟨_, rfl, ?_⟩⟩
    rw [(isMom_iff s0).mpr ⟨_, rfl⟩]
    refine ⟨_, rfl, iteF ?_⟩
    have s1215 := s1214.trans s15
    -- one.after(high) != one[far + 1]
    refine ⟨_, rfl, mp, dx, _, rfl, s1215 _ _ hmp12, ml_no _ _ (by decide +kernel) (by decide +kernel), hv, rfl, _, hv, b, s, some (mom b s d.toNat), rfl, m12.same s1215, (rh12.same s1215).num, s0, fun z => absurd h0 (Rat.not_le.mpr z), fun _ => ⟨⟨zM, by rw [ecnt]; exact zd1.mono (by decide)⟩, fun y16 H16 s16 r16 => ?_⟩⟩
    rw [ecnt] at r16
    have s1216 := s1215.trans s16
    refine ⟨_, rfl, _, rfl, d, 1, rfl, rfl, mp, dx, _, rfl, s1216 _ _ hmp12, _, _, b, s, "int", rfl, m12.same s1216, .int _, fun z => absurd z (by omega), fun _ => ⟨⟨zd1.mono (by decide), z1, z2⟩, fun y17 H17 s17 r17 => ?_⟩⟩
    refine ⟨datR _, datR _, (r16.same s17).dp, r17.dp, shapedR _, shapedR _, _, rfl, ?_⟩
    rw [eqvRR]
    refine ite2 (fun c => absurd c (by simp)) (fun _ => ?_)
    have s1217 := s1216.trans s17
    have m17 := m12.same s1217
    have rb17 := rb12.same s1217
    have rs17 := rs12.same s1217
    have hmp17 := s1217 _ _ hmp12
    clear m12 rb12 rs12 hmp12 rh12 r13 r16 r17 s13 s14 s15 s16 s17 s1214 s1215 s1216 s1217 hvb hvs
    -- Moments(begin[0], 3) != Moments((begin[0], 1), (3, 1))
    obtain ⟨ba, rfl, hba⟩ := id rb17
    have n0 : (0 : Rat) ≤ ((b.num : Int) : Rat) := by
      rw [show (0 : Rat) = ((0 : Int) : Rat) from rfl, Rat.intCast_le_intCast]
      exact Rat.num_nonneg.mpr b0
    refine ⟨_, rfl, ba, _, 0, _, rfl, rfl, hba, atI_nat (j := 0) rfl, ?_⟩
    refine make_ok (num_int b.num) (num_int 3) n0 (by decide) fun xA HA sA mA => ?_
    refine ⟨_, rfl, ba, _, 0, _, rfl, rfl, same_sqt sA hba, atI_nat (j := 0) rfl, by show 2 ≤ sizeLine; decide, fun t1 nt1 => ?_⟩
    have rt1 : Rn K (upd HA t1 (.tup [.int b.num, .int 1])) (.ref t1) ((b.num : Int) : Rat) := ⟨t1, rfl, .inl (.inl upd_same)⟩
    have sB : Same HA (upd HA t1 (.tup [.int b.num, .int 1])) := same_new nt1
    refine ⟨by show 2 ≤ sizeLine; decide, fun t2 nt2 => ?_⟩
    have rt2 : Rn K (upd (upd HA t1 (.tup [.int b.num, .int 1])) t2 (.tup [.int 3, .int 1])) (.ref t2) ((3 : Int) : Rat) := ⟨t2, rfl, .inl (.inl upd_same)⟩
    have sC : Same (upd HA t1 (.tup [.int b.num, .int 1])) (upd (upd HA t1 (.tup [.int b.num, .int 1])) t2 (.tup [.int 3, .int 1])) := same_new nt2
    refine make_ok (rt1.same sC).num rt2.num n0 (by decide) fun xB HB sD mB => ?_
    have s1720 := ((sA.trans sB).trans sC).trans sD
    have mA' := ((mA.same sB).same sC).same sD
    obtain ⟨pA, dA, _, _, eA, hpA, _, _⟩ := id mA'
    obtain ⟨pB, dB, _, _, eB, hpB, _, _⟩ := id mB
    refine ⟨pA, dA, _, _, eA, hpA, by rw [eB]; exact T.ty hpB, nf_self, _, _, _, _, rfl, mA', .inr ⟨_, _, mB, _, rfl, ?_⟩⟩
    refine ⟨_, rfl, ite2 (fun c => absurd c (by simp)) (fun _ => ?_)⟩
    have m20 := m17.same s1720
    have rb20 := rb17.same s1720
    have rs20 := rs17.same s1720
    have hmp20 := s1720 _ _ hmp17
    clear mA mA' mB hpA hpB rt1 rt2 sA sB sC sD s1720 m17 rb17 rs17 hmp17 hba eA eB
    -- one == Moments(begin, step + 1)
    refine ⟨_, rfl, _, rfl, _, rfl, by show 2 ≤ sizeLine; decide, fun t1 nt1 => ?_⟩
    have sA : Same HB (upd HB t1 (.tup [.int 1, .int 1])) := same_new nt1
    have rt1 : Rn K (upd HB t1 (.tup [.int 1, .int 1])) (.ref t1) 1 := ⟨t1, rfl, .inl (.inl upd_same)⟩
    refine ⟨_, _, s, 1, rfl, rs20.same sA, rt1, zs.mono (by decide), ⟨by decide, by decide⟩, fun y21 H21 s21 r21 => ?_⟩
    have s2021 := sA.trans s21
    have sp1 : 0 < s + 1 := by grind
    refine make_ok (rb20.same s2021).num r21.num b0 sp1 fun x22 H22 s22 m22 => ?_
    have s2022 := s2021.trans s22
    obtain ⟨p22, d22, _, _, e22, hp22, _, _⟩ := id m22
    refine ⟨mp, _, _, _, rfl, s2022 _ _ hmp20, by rw [e22]; exact T.ty hp22, nf_self, _, _, b, s, rfl, m20.same s2022, .inr ⟨_, _, m22, _, rfl, ?_⟩⟩
    have ne1 : ¬ s = s + 1 := by grind
    refine ⟨_, rfl, ite2 (fun c => absurd c (by simp [ne1])) (fun _ => ?_)⟩
    have m22' := m20.same s2022
    have rb22 := rb20.same s2022
    have rs22 := rs20.same s2022
    have hmp22 := s2022 _ _ hmp20
    clear m22 hp22 e22 r21 rt1 sA s21 s22 s2021 s2022 m20 rb20 rs20 hmp20
    -- one == Moments(begin + 1/7, step)
    refine ⟨_, rfl, _, rfl, by show 2 ≤ sizeLine; decide, fun t1 nt1 => ?_⟩
    have sA : Same H22 (upd H22 t1 (.tup [.int 1, .int 7])) := same_new nt1
    have rt1 : Rn K (upd H22 t1 (.tup [.int 1, .int 7])) (.ref t1) (Rat.divInt 1 7) := rn_new (by decide) upd_same
    refine ⟨_, _, b, _, rfl, rb22.same sA, rt1, zb.mono (by decide), sz_divInt (by decide) (by decide) (by decide), fun y23 H23 s23 r23 => ?_⟩
    have s2223 := sA.trans s23
    have bp1 : 0 ≤ b + Rat.divInt 1 7 := by
      have : (0 : Rat) ≤ Rat.divInt 1 7 := by decide
      grind
    refine ⟨_, rfl, ?_⟩
    refine make_ok r23.num (rs22.same s2223).num bp1 s0 fun x24 H24 s24 m24 => ?_
    have s2224 := s2223.trans s24
    obtain ⟨p24, d24, _, _, e24, hp24, _, _⟩ := id m24
    refine ⟨mp, _, _, _, rfl, s2224 _ _ hmp22, by rw [e24]; exact T.ty hp24, nf_self, _, _, b, s, rfl, m22'.same s2224, .inr ⟨_, _, m24, _, rfl, ?_⟩⟩
    have ne2 : ¬ b = b + Rat.divInt 1 7 := by
      have : (0 : Rat) < Rat.divInt 1 7 := by decide
      grind
    refine ⟨_, rfl, ite2 (fun c => absurd c (by simp [ne2])) (fun _ => ?_)⟩
    have m24' := m22'.same s2224
    have rb24 := rb22.same s2224
    have rs24 := rs22.same s2224
    have hmp24 := s2224 _ _ hmp22
    clear m24 hp24 e24 r23 rt1 sA s23 s24 s2223 s2224 m22' rb22 rs22 hmp22
    -- one == (begin, step)
    refine ⟨_, rfl, _, rfl, _, rfl, by show 2 ≤ sizeLine; decide, fun t1 nt1 => ?_⟩
    have sA : Same H24 (upd H24 t1 (.tup [.ref ba, .ref sa])) := same_new nt1
    have kt : Kd K (upd H24 t1 (.tup [.ref ba, .ref sa])) (.ref t1) "tuple" := .tup (.inl (.inl upd_same))
    refine ⟨mp, _, _, _, rfl, sA _ _ hmp24, kt.ty, (T.kb _ kt.name).2, _, _, b, s, rfl, m24'.same sA, .inl ⟨_, kt, _, rfl, _, rfl, iteF ?_⟩⟩
    -- one == None
    refine ⟨_, rfl, mp, _, _, _, rfl, sA _ _ hmp24, (Kd.non (K := K)).ty, (T.kb _ (by decide)).2, _, _, b, s, rfl, m24'.same sA, .inl ⟨_, .non, _, rfl, _, rfl, iteF ?_⟩⟩
    -- 5 in Moments(6, 1)
    refine make_ok (num_int 6) (num_int 1) (by decide) (by decide) fun x25 H25 s25 m25 => ?_
    obtain ⟨p25, d25, _, _, e25, hp25, _, _⟩ := id m25
    refine ⟨p25, _, _, e25, hp25, _, _, _, _, some ((5 : Int) : Rat), rfl, e25 ▸ m25, num_int 5, by decide, fun t e => ?_, fun H26 s26 => ⟨_, rfl, ?_⟩⟩
    · cases e
      exact ⟨⟨by decide, by decide⟩, ⟨by decide, by decide⟩, ⟨by decide, by decide⟩⟩
    rw [isMom_before (by decide) (by decide)]
    refine ⟨_, rfl, iteF ?_⟩
    have s2426 := (sA.trans s25).trans s26
    have m26 := m24'.same s2426
    have rb26 := rb24.same s2426
    have rs26 := rs24.same s2426
    have hmp26 := s2426 _ _ hmp24
    clear m25 hp25 e25 kt sA s25 s26 s2426 m24' rb24 rs24 hmp24
    -- values of other kinds
    refine ⟨_, rfl, by show 1 ≤ sizeLine; decide, fun l1 nl1 => ?_⟩
    have sA : Same H26 (upd H26 l1 (.lst [.ref mp])) := same_new nl1
    have hl1 : (upd H26 l1 (.lst [.ref mp])) l1 = some (.lst [.ref mp]) := upd_same
    generalize (upd H26 l1 (.lst [.ref mp])) = HA at sA hl1 ⊢
    refine ⟨_, rfl, by show 1 ≤ sizeLine; decide, fun t1 nt1 => ?_⟩
    have sB : Same HA (upd HA t1 (.tup [.ref mp])) := same_new nt1
    have ht1 : (upd HA t1 (.tup [.ref mp])) t1 = some (.tup [.ref mp]) := upd_same
    generalize (upd HA t1 (.tup [.ref mp])) = HB' at sB ht1 ⊢
    refine fun d1 nd1 => ?_
    have sC : Same HB' (upd HB' d1 (.dK [])) := same_new nd1
    have hd1 : (upd HB' d1 (.dK [])) d1 = some (.dK []) := upd_same
    generalize (upd HB' d1 (.dK [])) = HC at sC hd1 ⊢
    refine ⟨_, rfl, _, rfl, by show 2 ≤ sizeLine; decide, fun l2 nl2 => ?_⟩
    have sD : Same HC (upd HC l2 (.lst [.ref ba, .ref sa])) := same_new nl2
    have hl2 : (upd HC l2 (.lst [.ref ba, .ref sa])) l2 = some (.lst [.ref ba, .ref sa]) := upd_same
    generalize (upd HC l2 (.lst [.ref ba, .ref sa])) = HD at sD hl2 ⊢
    refine ⟨by show 7 ≤ sizeLine; decide, fun L nL => ?_⟩
    have sE : Same HD (upd HD L (.lst [.int 5, .str "one", .ref l1, .ref t1, .ref d1, .bl true, .ref l2])) := same_new nL
    have hL : (upd HD L (.lst [.int 5, .str "one", .ref l1, .ref t1, .ref d1, .bl true, .ref l2])) L = some (.lst [.int 5, .str "one", .ref l1, .ref t1, .ref d1, .bl true, .ref l2]) := upd_same
    show ∃ _, _
    generalize (upd HD L (.lst [.int 5, .str "one", .ref l1, .ref t1, .ref d1, .bl true, .ref l2])) = HE at sE hL ⊢
    have s26E := (((sA.trans sB).trans sC).trans sD).trans sE
    have kds : ∀ x ∈ [V.int 5, .str "one", .ref l1, .ref t1, .ref d1, .bl true, .ref l2], ∃ n, Kd K HE x n := by
      intro x hx
      simp only [List.mem_cons, List.not_mem_nil, or_false] at hx
      rcases hx with rfl | rfl | rfl | rfl | rfl | rfl | rfl
      · exact ⟨_, .int 5⟩
      · exact ⟨_, .str _⟩
      · exact ⟨_, .lst (.of ((((sB.trans sC).trans sD).trans sE) _ _ hl1))⟩
      · exact ⟨_, .tup (.inl (.inl (((sC.trans sD).trans sE) _ _ ht1)))⟩
      · exact ⟨_, .dict ((sD.trans sE) _ _ hd1)⟩
      · exact ⟨_, .bl true⟩
      · exact ⟨_, .lst (.of (sE _ _ hl2))⟩
    refine ⟨L, rfl, ⟨_, .of hL⟩, fun D nD => lc_list (xs := [V.int 5, .str "one", .ref l1, .ref t1, .ref d1, .bl true, .ref l2]) (fun i H' => Same HE H' ∧ H' D = some (.lst [])) ⟨same_new nD, upd_same⟩ (fun i H' _ hP => hP.1.seq (.of hL)) (fun i x H' hx hP => ?_) (fun H27 hP => ?_)⟩
    · obtain ⟨sm, hD⟩ := hP
      obtain ⟨n, kx⟩ := kds x (List.mem_of_getElem? hx)
      have kx' := kx.same sm
      exact ⟨rfl, _, rfl, x, rfl, mp, _, _, _, rfl, sm _ _ (s26E _ _ hmp26), kx'.ty, (T.kb _ kx'.name).2, _, _, b, s, rfl, (m26.same s26E).same sm, .inl ⟨_, kx', _, rfl, _, rfl, iteF ⟨sm, hD⟩⟩⟩
    obtain ⟨sm, hD⟩ := hP
    refine ⟨by show 0 ≤ sizeLine; decide, fun e1 ne1 => ?_⟩
    have sF : Same H27 (upd H27 e1 (.lst [])) := same_new ne1
    have he1 : (upd H27 e1 (.lst [])) e1 = some (.lst []) := upd_same
    generalize (upd H27 e1 (.lst [])) = H28 at sF he1 ⊢
    refine ⟨.list [], .list [], .lst (.of (sF _ _ hD)) .nil, .lst (.of he1) .nil, by decide, by decide, _, rfl, iteF ?_⟩
    have s2628 := (s26E.trans sm).trans sF
    have m28 := m26.same s2628
    have hmp28 := s2628 _ _ hmp26
    clear m26 rb26 rs26 hmp26 sA sB sC sD sE s26E sm sF kds hl1 ht1 hd1 hl2 hL hD he1 nl1 nt1 nd1 nl2 nL ne1
    -- values that are no times
    refine ⟨by show 2 ≤ sizeLine; decide, fun t1 nt1 => ?_⟩
    have sA : Same H28 (upd H28 t1 (.tup [.int 2, .int 4])) := same_new nt1
    have ht1 : (upd H28 t1 (.tup [.int 2, .int 4])) t1 = some (.tup [.int 2, .int 4]) := upd_same
    generalize (upd H28 t1 (.tup [.int 2, .int 4])) = HA at sA ht1 ⊢
    refine ⟨by show 2 ≤ sizeLine; decide, fun t2 nt2 => ?_⟩
    have sB : Same HA (upd HA t2 (.tup [.int 1, .int 0])) := same_new nt2
    have ht2 : (upd HA t2 (.tup [.int 1, .int 0])) t2 = some (.tup [.int 1, .int 0]) := upd_same
    generalize (upd HA t2 (.tup [.int 1, .int 0])) = HB' at sB ht2 ⊢
    refine ⟨by show 2 ≤ sizeLine; decide, fun l3 nl3 => ?_⟩
    have sC : Same HB' (upd HB' l3 (.lst [.int 1, .int 1])) := same_new nl3
    have hl3 : (upd HB' l3 (.lst [.int 1, .int 1])) l3 = some (.lst [.int 1, .int 1]) := upd_same
    generalize (upd HB' l3 (.lst [.int 1, .int 1])) = HC at sC hl3 ⊢
    refine ⟨1, rfl, 1, rfl, by show 2 ≤ sizeLine; decide, fun t4 nt4 => ?_⟩
    have sD : Same HC (upd HC t4 (.tup [.int (-1), .int 2])) := same_new nt4
    have ht4 : (upd HC t4 (.tup [.int (-1), .int 2])) t4 = some (.tup [.int (-1), .int 2]) := upd_same
    generalize (upd HC t4 (.tup [.int (-1), .int 2])) = HD at sD ht4 ⊢
    refine ⟨by show 8 ≤ sizeLine; decide, fun L nL => ?_⟩
    have sE : Same HD (upd HD L (.lst [.non, .str "1", .bl true, .ref t1, .ref t2, .ref l3, .int (-1), .ref t4])) := same_new nL
    have hL : (upd HD L (.lst [.non, .str "1", .bl true, .ref t1, .ref t2, .ref l3, .int (-1), .ref t4])) L = some (.lst [.non, .str "1", .bl true, .ref t1, .ref t2, .ref l3, .int (-1), .ref t4]) := upd_same
    show ∃ _, _
    generalize (upd HD L (.lst [.non, .str "1", .bl true, .ref t1, .ref t2, .ref l3, .int (-1), .ref t4])) = HE at sE hL ⊢
    have s28E := (((sA.trans sB).trans sC).trans sD).trans sE
    have kds : ∀ x ∈ [V.non, .str "1", .bl true, .ref t1, .ref t2, .ref l3, .int (-1), .ref t4], ∃ o, Arg K HE x o ∧ ∀ t, o = some t → t < 0 ∧ Sz 900 t := by
      intro x hx
      simp only [List.mem_cons, List.not_mem_nil, or_false] at hx
      rcases hx with rfl | rfl | rfl | rfl | rfl | rfl | rfl | rfl
      · exact ⟨_, .oth .non rfl rfl, fun t e => nomatch e⟩
      · exact ⟨_, .oth (.str _) rfl rfl, fun t e => nomatch e⟩
      · exact ⟨_, .oth (.bl true) rfl rfl, fun t e => nomatch e⟩
      · exact ⟨_, arg_tup ((((sB.trans sC).trans sD).trans sE) _ _ ht1) no24, fun t e => nomatch e⟩
      · exact ⟨_, arg_tup (((sC.trans sD).trans sE) _ _ ht2) no10, fun t e => nomatch e⟩
      · exact ⟨_, .oth (.lst (.of ((sD.trans sE) _ _ hl3))) rfl rfl, fun t e => nomatch e⟩
      · exact ⟨_, .int (-1), fun t e => by cases e; exact ⟨neg_int, ⟨by decide, by decide⟩⟩⟩
      · exact ⟨_, arg_tup (sE _ _ ht4) (rat_of (by decide)), fun t e => by cases e; exact ⟨neg_half, sz_divInt (by decide) (by decide) (by decide)⟩⟩
    refine ⟨L, rfl, ⟨_, .of hL⟩, for_list (xs := [V.non, .str "1", .bl true, .ref t1, .ref t2, .ref l3, .int (-1), .ref t4]) (fun i σ H' => Same HE H' ∧ ∃ o8, σ = [some (.ref a0), some (.ref p), some (.ref ba), some (.ref sa), some (.ref mp), some (.ref kp), some (.int d), some hv, o8, none]) ⟨Same.refl _, none, rfl⟩ (fun i σ H' _ hP => hP.1.seq (.of hL)) (fun i x σ H' hx hP => ?_) (fun σ H29 hP => ?_)⟩
    · obtain ⟨sm, o8, rfl⟩ := hP
      obtain ⟨o, ax, bad⟩ := kds x (List.mem_of_getElem? hx)
      have m' := (m28.same s28E).same sm
      refine ⟨x, rfl, _, rfl, mp, _, _, rfl, sm _ _ (s28E _ _ hmp28), _, x, b, s, o, rfl, m', ax.same sm, s0, fun t e => ⟨(bad t e).2, z1, z2⟩, fun H1' s1' => ⟨_, rfl, ?_⟩⟩
      have im : isMom b s o = false := by
        cases o with
        | none => rfl
        | some t => exact isMom_before s0 (by have := (bad t rfl).1; grind)
      rw [im]
      refine ⟨_, rfl, iteF ?_⟩
      refine ⟨by show 4 ≤ sizeLine; decide, fun L2 nL2 => ?_⟩
      have sF : Same H1' (upd H1' L2 (.lst [.int 0, .int 3, .int 4, .int 5])) := same_new nL2
      have hL2 : (upd H1' L2 (.lst [.int 0, .int 3, .int 4, .int 5])) L2 = some (.lst [.int 0, .int 3, .int 4, .int 5]) := upd_same
      show ∃ _, _
      generalize (upd H1' L2 (.lst [.int 0, .int 3, .int 4, .int 5])) = H2' at sF hL2 ⊢
      have smF := (sm.trans s1').trans sF
      refine ⟨L2, rfl, ⟨_, .of hL2⟩, fun D nD => lc_list (xs := [V.int 0, .int 3, .int 4, .int 5]) (fun j H'' => Same H2' H'' ∧ j ≤ 4 ∧ H'' D = some (.lst (List.replicate j (V.str "time")))) ⟨same_new nD, by decide, upd_same⟩ (fun j H'' _ hP => hP.1.seq (.of hL2)) (fun j y H'' hy hP => ?_) (fun H3' hP => ?_)⟩
      · obtain ⟨sm2, j4, hD⟩ := hP
        have jl : j < 4 := (List.getElem?_eq_some_iff.mp hy).1
        obtain ⟨k, rfl, ec⟩ : ∃ k, y = .int k ∧ ErrCase k x o "time" := by
          have hy' := List.mem_of_getElem? hy
          simp only [List.mem_cons, List.not_mem_nil, or_false] at hy'
          have bd : ∀ t, o = some t → t < 0 := fun t e => (bad t e).1
          rcases hy' with rfl | rfl | rfl | rfl
          · exact ⟨_, rfl, .t0 bd⟩
          · exact ⟨_, rfl, .t3 bd⟩
          · exact ⟨_, rfl, .t4 bd⟩
          · exact ⟨_, rfl, .t5 bd⟩
        refine ⟨rfl, _, rfl, _, rfl, x, rfl, k, .ref mp, x, b, s, o, "time", rfl, ((m28.same s28E).same smF).same sm2, s0, (ax.same smF).same sm2, ec, fun H4' s4' => ?_⟩
        refine ⟨_, s4' _ _ hD, Nat.lt_trans (show (List.replicate j (V.str "time")).length < 1000 by rw [List.length_replicate]; omega) (small1000 (Nat.le_refl _)), same_but (sm2.trans s4') nD, jl, ?_⟩
        rw [repl_snoc]
        exact upd_same
      obtain ⟨sm2, _, hD⟩ := hP
      refine ⟨by show 1 ≤ sizeLine; decide, fun e1 ne1 => ?_⟩
      have sG : Same H3' (upd H3' e1 (.lst [.str "time"])) := same_new ne1
      have he1 : (upd H3' e1 (.lst [.str "time"])) e1 = some (.lst [.str "time"]) := upd_same
      generalize (upd H3' e1 (.lst [.str "time"])) = H4' at sG he1 ⊢
      refine ⟨e1, 4, _, rfl, rfl, he1, by decide, by decide, by show 4 ≤ sizeLine; decide, fun e2 ne2 => ?_⟩
      have sI : Same H4' (upd H4' e2 (.lst (List.replicate (4 : Int).toNat [V.str "time"]).flatten)) := same_new ne2
      have he2 : (upd H4' e2 (.lst (List.replicate (4 : Int).toNat [V.str "time"]).flatten)) e2 = some (.lst (List.replicate 4 (V.str "time"))) := by rw [upd_same]; rfl
      generalize (upd H4' e2 (.lst (List.replicate (4 : Int).toNat [V.str "time"]).flatten)) = H5' at sI he2 ⊢
      refine ⟨.list (List.replicate 4 (.str "time")), .list (List.replicate 4 (.str "time")), .lst (.of ((sG.trans sI) _ _ hD)) (dpStrs _ 4), .lst (.of he2) (dpStrs _ 4), shapedStrs _ (by decide +kernel) 4, shapedStrs _ (by decide +kernel) 4, _, rfl, ?_⟩
      rw [eqvStrs _ (by decide +kernel)]
      exact iteF ⟨((smF.trans sm2).trans sG).trans sI, _, rfl⟩
    obtain ⟨sm, o8, rfl⟩ := hP
    have s2829 := s28E.trans sm
    have m29 := m28.same s2829
    have hmp29 := s2829 _ _ hmp28
    clear m28 hmp28 sA sB sC sD sE s28E sm kds ht1 ht2 hl3 ht4 hL nt1 nt2 nl3 nt4 nL s2829
    -- values that are no steps
    refine ⟨by show 2 ≤ sizeLine; decide, fun t1 nt1 => ?_⟩
    have sA : Same H29 (upd H29 t1 (.tup [.int 2, .int 4])) := same_new nt1
    have ht1 : (upd H29 t1 (.tup [.int 2, .int 4])) t1 = some (.tup [.int 2, .int 4]) := upd_same
    generalize (upd H29 t1 (.tup [.int 2, .int 4])) = HA at sA ht1 ⊢
    refine ⟨1, rfl, by show 2 ≤ sizeLine; decide, fun t2 nt2 => ?_⟩
    have sB : Same HA (upd HA t2 (.tup [.int 0, .int 1])) := same_new nt2
    have ht2 : (upd HA t2 (.tup [.int 0, .int 1])) t2 = some (.tup [.int 0, .int 1]) := upd_same
    generalize (upd HA t2 (.tup [.int 0, .int 1])) = HB' at sB ht2 ⊢
    refine ⟨1, rfl, by show 2 ≤ sizeLine; decide, fun t4 nt4 => ?_⟩
    have sD : Same HB' (upd HB' t4 (.tup [.int (-1), .int 2])) := same_new nt4
    have ht4 : (upd HB' t4 (.tup [.int (-1), .int 2])) t4 = some (.tup [.int (-1), .int 2]) := upd_same
    generalize (upd HB' t4 (.tup [.int (-1), .int 2])) = HD at sD ht4 ⊢
    refine ⟨by show 8 ≤ sizeLine; decide, fun L nL => ?_⟩
    have sE : Same HD (upd HD L (.lst [.non, .str "1", .bl true, .ref t1, .int 0, .int (-1), .ref t2, .ref t4])) := same_new nL
    have hL : (upd HD L (.lst [.non, .str "1", .bl true, .ref t1, .int 0, .int (-1), .ref t2, .ref t4])) L = some (.lst [.non, .str "1", .bl true, .ref t1, .int 0, .int (-1), .ref t2, .ref t4]) := upd_same
    show ∃ _, _
    generalize (upd HD L (.lst [.non, .str "1", .bl true, .ref t1, .int 0, .int (-1), .ref t2, .ref t4])) = HE at sE hL ⊢
    have s29E := ((sA.trans sB).trans sD).trans sE
    have kds : ∀ x ∈ [V.non, .str "1", .bl true, .ref t1, .int 0, .int (-1), .ref t2, .ref t4], ∃ o, Arg K HE x o ∧ ∀ t, o = some t → t ≤ 0 := by
      intro x hx
      simp only [List.mem_cons, List.not_mem_nil, or_false] at hx
      rcases hx with rfl | rfl | rfl | rfl | rfl | rfl | rfl | rfl
      · exact ⟨_, .oth .non rfl rfl, fun t e => nomatch e⟩
      · exact ⟨_, .oth (.str _) rfl rfl, fun t e => nomatch e⟩
      · exact ⟨_, .oth (.bl true) rfl rfl, fun t e => nomatch e⟩
      · exact ⟨_, arg_tup (((sB.trans sD).trans sE) _ _ ht1) no24, fun t e => nomatch e⟩
      · exact ⟨_, .int 0, fun t e => by cases e; decide⟩
      · exact ⟨_, .int (-1), fun t e => by cases e; decide⟩
      · exact ⟨_, arg_tup ((sD.trans sE) _ _ ht2) (rat_of (by decide)), fun t e => by cases e; decide⟩
      · exact ⟨_, arg_tup (sE _ _ ht4) (rat_of (by decide)), fun t e => by cases e; decide⟩
    refine ⟨L, rfl, ⟨_, .of hL⟩, for_list (xs := [V.non, .str "1", .bl true, .ref t1, .int 0, .int (-1), .ref t2, .ref t4]) (fun i σ H' => Same HE H' ∧ ∃ o8, σ = [some (.ref a0), some (.ref p), some (.ref ba), some (.ref sa), some (.ref mp), some (.ref kp), some (.int d), some hv, o8, none]) ⟨Same.refl _, _, rfl⟩ (fun i σ H' _ hP => hP.1.seq (.of hL)) (fun i x σ H' hx hP => ?_) (fun σ H30 hP => ?_)⟩
    · obtain ⟨sm, o8, rfl⟩ := hP
      obtain ⟨o, ax, bad⟩ := kds x (List.mem_of_getElem? hx)
      refine ⟨_, rfl, x, rfl, 1, .ref mp, x, b, s, o, "number", rfl, (m29.same s29E).same sm, s0, ax.same sm, .n1 bad, fun H4' s4' => ?_⟩
      refine ⟨rfl, _, rfl, ite2 (fun c => absurd c (by simp)) (fun _ => ⟨sm.trans s4', _, rfl⟩)⟩
    obtain ⟨sm, o8, rfl⟩ := hP
    have s2930 := s29E.trans sm
    have m30 := m29.same s2930
    clear m29 hmp29 sA sB sD sE s29E sm kds ht1 ht2 ht4 hL nt1 nt2 nt4 nL s2930
    -- values that are no indexes
    refine ⟨by show 2 ≤ sizeLine; decide, fun t1 nt1 => ?_⟩
    have sA : Same H30 (upd H30 t1 (.tup [.int 1, .int 1])) := same_new nt1
    have ht1 : (upd H30 t1 (.tup [.int 1, .int 1])) t1 = some (.tup [.int 1, .int 1]) := upd_same
    generalize (upd H30 t1 (.tup [.int 1, .int 1])) = HA at sA ht1 ⊢
    refine ⟨1, rfl, by show 2 ≤ sizeLine; decide, fun t2 nt2 => ?_⟩
    have sB : Same HA (upd HA t2 (.tup [.int 2, .int 4])) := same_new nt2
    have ht2 : (upd HA t2 (.tup [.int 2, .int 4])) t2 = some (.tup [.int 2, .int 4]) := upd_same
    generalize (upd HA t2 (.tup [.int 2, .int 4])) = HB' at sB ht2 ⊢
    refine ⟨by show 6 ≤ sizeLine; decide, fun L nL => ?_⟩
    have sE : Same HB' (upd HB' L (.lst [.non, .str "1", .bl true, .ref t1, .int (-1), .ref t2])) := same_new nL
    have hL : (upd HB' L (.lst [.non, .str "1", .bl true, .ref t1, .int (-1), .ref t2])) L = some (.lst [.non, .str "1", .bl true, .ref t1, .int (-1), .ref t2]) := upd_same
    show ∃ _, _
    generalize (upd HB' L (.lst [.non, .str "1", .bl true, .ref t1, .int (-1), .ref t2])) = HE at sE hL ⊢
    have s30E := (sA.trans sB).trans sE
    have kds : ∀ x ∈ [V.non, .str "1", .bl true, .ref t1, .int (-1), .ref t2], ∃ o, Arg K HE x o ∧ ∀ i, x = .int i → i < 0 := by
      intro x hx
      simp only [List.mem_cons, List.not_mem_nil, or_false] at hx
      rcases hx with rfl | rfl | rfl | rfl | rfl | rfl
      · exact ⟨_, .oth .non rfl rfl, fun t e => nomatch e⟩
      · exact ⟨_, .oth (.str _) rfl rfl, fun t e => nomatch e⟩
      · exact ⟨_, .oth (.bl true) rfl rfl, fun t e => nomatch e⟩
      · exact ⟨_, arg_tup ((sB.trans sE) _ _ ht1) (rat_of (by decide)), fun t e => nomatch e⟩
      · exact ⟨_, .int (-1), fun t e => by cases e; decide⟩
      · exact ⟨_, arg_tup (sE _ _ ht2) no24, fun t e => nomatch e⟩
    refine ⟨L, rfl, ⟨_, .of hL⟩, fun D nD => lc_list (xs := [V.non, .str "1", .bl true, .ref t1, .int (-1), .ref t2]) (fun j H'' => Same HE H'' ∧ j ≤ 6 ∧ H'' D = some (.lst (List.replicate j (V.str "count")))) ⟨same_new nD, by decide, upd_same⟩ (fun j H'' _ hP => hP.1.seq (.of hL)) (fun j x H'' hx hP => ?_) (fun H31 hP => ?_)⟩
    · obtain ⟨sm, j6, hD⟩ := hP
      have jl : j < 6 := (List.getElem?_eq_some_iff.mp hx).1
      obtain ⟨o, ax, bad⟩ := kds x (List.mem_of_getElem? hx)
      refine ⟨rfl, _, rfl, x, rfl, 2, .ref mp, x, b, s, o, "count", rfl, (m30.same s30E).same sm, s0, ax.same sm, .c2 bad, fun H4' s4' => ?_⟩
      refine ⟨_, s4' _ _ hD, Nat.lt_trans (show (List.replicate j (V.str "count")).length < 1000 by rw [List.length_replicate]; omega) (small1000 (Nat.le_refl _)), same_but (sm.trans s4') nD, jl, ?_⟩
      rw [repl_snoc]
      exact upd_same
    obtain ⟨sm, _, hD⟩ := hP
    refine ⟨by show 1 ≤ sizeLine; decide, fun e1 ne1 => ?_⟩
    have sG : Same H31 (upd H31 e1 (.lst [.str "count"])) := same_new ne1
    have he1 : (upd H31 e1 (.lst [.str "count"])) e1 = some (.lst [.str "count"]) := upd_same
    generalize (upd H31 e1 (.lst [.str "count"])) = H32 at sG he1 ⊢
    refine ⟨e1, 6, _, rfl, rfl, he1, by decide, by decide, by show 6 ≤ sizeLine; decide, fun e2 ne2 => ?_⟩
    have sI : Same H32 (upd H32 e2 (.lst (List.replicate (6 : Int).toNat [V.str "count"]).flatten)) := same_new ne2
    have he2 : (upd H32 e2 (.lst (List.replicate (6 : Int).toNat [V.str "count"]).flatten)) e2 = some (.lst (List.replicate 6 (V.str "count"))) := by rw [upd_same]; rfl
    generalize (upd H32 e2 (.lst (List.replicate (6 : Int).toNat [V.str "count"]).flatten)) = H33 at sI he2 ⊢
    refine ⟨.list (List.replicate 6 (.str "count")), .list (List.replicate 6 (.str "count")), .lst (.of ((sG.trans sI) _ _ hD)) (dpStrs _ 6), .lst (.of he2) (dpStrs _ 6), shapedStrs _ (by decide +kernel) 6, shapedStrs _ (by decide +kernel) 6, ?_⟩
    rw [eqvStrs _ (by decide +kernel)]
    exact q _
end
end LR
set_option Elab.async false
set_option linter.all false
set_option maxRecDepth 100000
/-! isinstance's own answers from the answers of issubclass -/
namespace KL
open PySem
theorem kit_self {K : PySem.W.Frag} {t : Value} : PySem.W.kitOne K t t = some true := by
  unfold PySem.W.kitOne
  rw [if_pos (beq_self_eq_true t)]
theorem kit_ref {K : PySem.W.Frag} {C : Addr} {n : String} {b : Bool} (hd : PySem.W.hasDictIn K C = true) (ht : PySem.W.typeIn K (.ref C) = some (.type "type")) (h : PySem.W.subIn K (.type n) (.ref C) = some b) : PySem.W.kitOne K (.type n) (.ref C) = some b := by
  have hc : (PySem.W.clsIn K C).isSome = true := by
    obtain ⟨cd, hc, _⟩ := PySem.W.any_some hd
    rw [hc]
    rfl
  unfold PySem.W.kitOne
  rw [if_neg (show ¬ (Value.type n == Value.ref C) = true from fun z => by cases z)]
  show (if ((PySem.W.clsIn K C).isSome && PySem.W.typeIn K (.ref C) == some (.type "type")) = true then PySem.W.subIn K (.type n) (.ref C) else none) = some b
  rw [if_pos (by rw [hc, ht]; exact (beq_self_eq_true (some (Value.type "type"))))]
  exact h
theorem kit_val {K : PySem.W.Frag} {C : Addr} {T : String} {b : Bool} (m : PySem.W.kitMeta T = true) (h : PySem.W.subIn K (.ref C) (.type T) = some b) : PySem.W.kitOne K (.ref C) (.type T) = some b := by
  unfold PySem.W.kitOne
  rw [if_neg (show ¬ (Value.ref C == Value.type T) = true from fun z => by cases z)]
  show (if PySem.W.kitMeta T = true then PySem.W.subIn K (.ref C) (.type T) else none) = some b
  rw [if_pos m]
  exact h
theorem nf_sub {K : PySem.W.Frag} {C : Addr} {t : Value} (h : PySem.W.subIn K t (.ref C) = some false) : PySem.W.notFirst K C t = true := by
  unfold PySem.W.notFirst
  rw [h]
  simp
end KL
set_option Elab.async false
set_option linter.all false
set_option maxRecDepth 100000
set_option maxHeartbeats 8000000
namespace LR
open PySem PySem.Spec PyProof.Rows L2
theorem all_mk {P : Program} {w : World} {K : PySem.W.Frag} {mg : Str → Option Value} {h : Heap} {fa : Addr} {fII : Addr} {ocII : Value} {odII anII : Option Addr} {slII : Array (Option Value)} {kVII dcII pmII cdII ctII : Value}
    {fIR : Addr} {ocIR : Value} {odIR anIR : Option Addr} {slIR : Array (Option Value)} {kVIR dcIR pmIR cdIR ctIR : Value}
    {fIN : Addr} {ocIN : Value} {odIN anIN : Option Addr} {slIN : Array (Option Value)} {kVIN dcIN pmIN cdIN ctIN : Value}
    {fAR : Addr} {ocAR : Value} {odAR anAR : Option Addr} {slAR : Array (Option Value)} {kVAR dcAR pmAR cdAR ctAR : Value}
    {fRd : Addr} {ocRd : Value} {odRd anRd : Option Addr} {slRd : Array (Option Value)} {kVRd dcRd pmRd cdRd ctRd : Value}
    {fPl : Addr} {ocPl : Value} {odPl anPl : Option Addr} {slPl : Array (Option Value)} {kVPl dcPl pmPl cdPl ctPl : Value}
    {fMi : Addr} {ocMi : Value} {odMi anMi : Option Addr} {slMi : Array (Option Value)} {kVMi dcMi pmMi cdMi ctMi : Value}
    {fTi : Addr} {ocTi : Value} {odTi anTi : Option Addr} {slTi : Array (Option Value)} {kVTi dcTi pmTi cdTi ctTi : Value}
    {fDi : Addr} {ocDi : Value} {odDi anDi : Option Addr} {slDi : Array (Option Value)} {kVDi dcDi pmDi cdDi ctDi : Value}
    {fFl : Addr} {ocFl : Value} {odFl anFl : Option Addr} {slFl : Array (Option Value)} {kVFl dcFl pmFl cdFl ctFl : Value}
    {fPo : Addr} {ocPo : Value} {odPo anPo : Option Addr} {slPo : Array (Option Value)} {kVPo dcPo pmPo cdPo ctPo : Value}
    {fTm : Addr} {ocTm : Value} {odTm anTm : Option Addr} {slTm : Array (Option Value)} {kVTm dcTm pmTm cdTm ctTm : Value}
    {fLP : Addr} {ocLP : Value} {odLP anLP : Option Addr} {slLP : Array (Option Value)} {kVLP dcLP pmLP cdLP ctLP : Value}
    {fLD : Addr} {ocLD : Value} {odLD anLD : Option Addr} {slLD : Array (Option Value)} {kVLD dcLD pmLD cdLD ctLD : Value}
    {fLC : Addr} {ocLC : Value} {odLC anLC : Option Addr} {slLC : Array (Option Value)} {kVLC dcLC pmLC cdLC ctLC : Value}
    {fLS : Addr} {ocLS : Value} {odLS anLS : Option Addr} {slLS : Array (Option Value)} {kVLS dcLS pmLS cdLS ctLS : Value}
    {fLN : Addr} {ocLN : Value} {odLN anLN : Option Addr} {slLN : Array (Option Value)} {kVLN dcLN pmLN cdLN ctLN : Value}
    {fLL : Addr} {ocLL : Value} {odLL anLL : Option Addr} {slLL : Array (Option Value)} {kVLL dcLL pmLL cdLL ctLL : Value}
    {fLE : Addr} {ocLE : Value} {odLE anLE : Option Addr} {slLE : Array (Option Value)} {kVLE dcLE pmLE cdLE ctLE : Value}
    {fLB : Addr} {ocLB : Value} {odLB anLB : Option Addr} {slLB : Array (Option Value)} {kVLB dcLB pmLB cdLB ctLB : Value}
    {fLR : Addr} {ocLR : Value} {odLR anLR : Option Addr} {slLR : Array (Option Value)} {kVLR dcLR pmLR cdLR ctLR : Value}
    {fL : Addr} {ocL : Value} {odL anL : Option Addr} {slL : Array (Option Value)} {kVL dcL pmL cdL ctL : Value}
    {C : Addr}
    {fmI : Addr} {ocmI : Value} {odmI anmI : Option Addr} {slmI : Array (Option Value)} {kVmI dcmI pmmI cdmI ctmI : Value}
    {fmE : Addr} {ocmE : Value} {odmE anmE : Option Addr} {slmE : Array (Option Value)} {kVmE dcmE pmmE cdmE ctmE : Value}
    {fmG : Addr} {ocmG : Value} {odmG anmG : Option Addr} {slmG : Array (Option Value)} {kVmG dcmG pmmG cdmG ctmG : Value}
    {fmC : Addr} {ocmC : Value} {odmC anmC : Option Addr} {slmC : Array (Option Value)} {kVmC dcmC pmmC cdmC ctmC : Value}
    {fmK : Addr} {ocmK : Value} {odmK anmK : Option Addr} {slmK : Array (Option Value)} {kVmK dcmK pmmK cdmK ctmK : Value}
    {fmN : Addr} {ocmN : Value} {odmN anmN : Option Addr} {slmN : Array (Option Value)} {kVmN dcmN pmmN cdmN ctmN : Value}
    {fmA : Addr} {ocmA : Value} {odmA anmA : Option Addr} {slmA : Array (Option Value)} {kVmA dcmA pmmA cdmA ctmA : Value}
    {fmS : Addr} {ocmS : Value} {odmS anmS : Option Addr} {slmS : Array (Option Value)} {kVmS dcmS pmmS cdmS ctmS : Value}
    {fpB : Addr} {ocpB : Value} {odpB anpB : Option Addr} {slpB : Array (Option Value)} {kVpB dcpB pmpB cdpB ctpB : Value} {ppB : Addr} {restpB : List Value}
    {fpS : Addr} {ocpS : Value} {odpS anpS : Option Addr} {slpS : Array (Option Value)} {kVpS dcpS pmpS cdpS ctpS : Value} {ppS : Addr} {restpS : List Value}
    {CE1 : Addr}
    {CE2 : Addr}
    {CE3 : Addr}
    {CE5 : Addr}
    (X : K.In h) (G : h.Ns mainGlobals mg) (hfa : mg "law" = some (.ref fa))
    (aII : PySem.W.nsIn K mainGlobals "is_integer" = some (some (.ref fII))) (lII : K.lookup fII = some ⟨ocII, odII, .func (PySem.W.fnOf "is_integer" "is_integer" (defArgs (topS 8)) (defBody (topS 8)) (defScope (topS 8)) .none kVII dcII pmII anII cdII ctII), slII⟩) (cII : PySem.W.codeIn K cdII "is_integer" = true) (kII : PySem.W.keepIn K (.ref fII) = true)
    (aIR : PySem.W.nsIn K mainGlobals "is_ratio" = some (some (.ref fIR))) (lIR : K.lookup fIR = some ⟨ocIR, odIR, .func (PySem.W.fnOf "is_ratio" "is_ratio" (defArgs (topS 9)) (defBody (topS 9)) (defScope (topS 9)) .none kVIR dcIR pmIR anIR cdIR ctIR), slIR⟩) (cIR : PySem.W.codeIn K cdIR "is_ratio" = true) (kIR : PySem.W.keepIn K (.ref fIR) = true)
    (aIN : PySem.W.nsIn K mainGlobals "is_number" = some (some (.ref fIN))) (lIN : K.lookup fIN = some ⟨ocIN, odIN, .func (PySem.W.fnOf "is_number" "is_number" (defArgs (topS 10)) (defBody (topS 10)) (defScope (topS 10)) .none kVIN dcIN pmIN anIN cdIN ctIN), slIN⟩) (cIN : PySem.W.codeIn K cdIN "is_number" = true) (kIN : PySem.W.keepIn K (.ref fIN) = true)
    (aAR : PySem.W.nsIn K mainGlobals "as_ratio" = some (some (.ref fAR))) (lAR : K.lookup fAR = some ⟨ocAR, odAR, .func (PySem.W.fnOf "as_ratio" "as_ratio" (defArgs (topS 11)) (defBody (topS 11)) (defScope (topS 11)) .none kVAR dcAR pmAR anAR cdAR ctAR), slAR⟩) (cAR : PySem.W.codeIn K cdAR "as_ratio" = true) (kAR : PySem.W.keepIn K (.ref fAR) = true)
    (aRd : PySem.W.nsIn K mainGlobals "reduced" = some (some (.ref fRd))) (lRd : K.lookup fRd = some ⟨ocRd, odRd, .func (PySem.W.fnOf "reduced" "reduced" (defArgs (topS 12)) (defBody (topS 12)) (defScope (topS 12)) .none kVRd dcRd pmRd anRd cdRd ctRd), slRd⟩) (cRd : PySem.W.codeIn K cdRd "reduced" = true) (kRd : PySem.W.keepIn K (.ref fRd) = true)
    (aPl : PySem.W.nsIn K mainGlobals "plus" = some (some (.ref fPl))) (lPl : K.lookup fPl = some ⟨ocPl, odPl, .func (PySem.W.fnOf "plus" "plus" (defArgs (topS 13)) (defBody (topS 13)) (defScope (topS 13)) .none kVPl dcPl pmPl anPl cdPl ctPl), slPl⟩) (cPl : PySem.W.codeIn K cdPl "plus" = true) (kPl : PySem.W.keepIn K (.ref fPl) = true)
    (aMi : PySem.W.nsIn K mainGlobals "minus" = some (some (.ref fMi))) (lMi : K.lookup fMi = some ⟨ocMi, odMi, .func (PySem.W.fnOf "minus" "minus" (defArgs (topS 14)) (defBody (topS 14)) (defScope (topS 14)) .none kVMi dcMi pmMi anMi cdMi ctMi), slMi⟩) (cMi : PySem.W.codeIn K cdMi "minus" = true) (kMi : PySem.W.keepIn K (.ref fMi) = true)
    (aTi : PySem.W.nsIn K mainGlobals "times" = some (some (.ref fTi))) (lTi : K.lookup fTi = some ⟨ocTi, odTi, .func (PySem.W.fnOf "times" "times" (defArgs (topS 15)) (defBody (topS 15)) (defScope (topS 15)) .none kVTi dcTi pmTi anTi cdTi ctTi), slTi⟩) (cTi : PySem.W.codeIn K cdTi "times" = true) (kTi : PySem.W.keepIn K (.ref fTi) = true)
    (aDi : PySem.W.nsIn K mainGlobals "divided" = some (some (.ref fDi))) (lDi : K.lookup fDi = some ⟨ocDi, odDi, .func (PySem.W.fnOf "divided" "divided" (defArgs (topS 16)) (defBody (topS 16)) (defScope (topS 16)) .none kVDi dcDi pmDi anDi cdDi ctDi), slDi⟩) (cDi : PySem.W.codeIn K cdDi "divided" = true) (kDi : PySem.W.keepIn K (.ref fDi) = true)
    (aFl : PySem.W.nsIn K mainGlobals "floor_of" = some (some (.ref fFl))) (lFl : K.lookup fFl = some ⟨ocFl, odFl, .func (PySem.W.fnOf "floor_of" "floor_of" (defArgs (topS 17)) (defBody (topS 17)) (defScope (topS 17)) .none kVFl dcFl pmFl anFl cdFl ctFl), slFl⟩) (cFl : PySem.W.codeIn K cdFl "floor_of" = true) (kFl : PySem.W.keepIn K (.ref fFl) = true)
    (aPo : PySem.W.nsIn K mainGlobals "is_positive" = some (some (.ref fPo))) (lPo : K.lookup fPo = some ⟨ocPo, odPo, .func (PySem.W.fnOf "is_positive" "is_positive" (defArgs (topS 19)) (defBody (topS 19)) (defScope (topS 19)) .none kVPo dcPo pmPo anPo cdPo ctPo), slPo⟩) (cPo : PySem.W.codeIn K cdPo "is_positive" = true) (kPo : PySem.W.keepIn K (.ref fPo) = true)
    (aTm : PySem.W.nsIn K mainGlobals "as_time" = some (some (.ref fTm))) (lTm : K.lookup fTm = some ⟨ocTm, odTm, .func (PySem.W.fnOf "as_time" "as_time" (defArgs (topS 20)) (defBody (topS 20)) (defScope (topS 20)) .none kVTm dcTm pmTm anTm cdTm ctTm), slTm⟩) (cTm : PySem.W.codeIn K cdTm "as_time" = true) (kTm : PySem.W.keepIn K (.ref fTm) = true)
    (aLP : PySem.W.nsIn K mainGlobals "_law_pool" = some (some (.ref fLP))) (lLP : K.lookup fLP = some ⟨ocLP, odLP, .func (PySem.W.fnOf "_law_pool" "_law_pool" (defArgs (topS 30)) (defBody (topS 30)) (defScope (topS 30)) .none kVLP dcLP pmLP anLP cdLP ctLP), slLP⟩) (cLP : PySem.W.codeIn K cdLP "_law_pool" = true) (kLP : PySem.W.keepIn K (.ref fLP) = true)
    (aLD : PySem.W.nsIn K mainGlobals "_law_draw" = some (some (.ref fLD))) (lLD : K.lookup fLD = some ⟨ocLD, odLD, .func (PySem.W.fnOf "_law_draw" "_law_draw" (defArgs (topS 31)) (defBody (topS 31)) (defScope (topS 31)) .none kVLD dcLD pmLD anLD cdLD ctLD), slLD⟩) (cLD : PySem.W.codeIn K cdLD "_law_draw" = true) (kLD : PySem.W.keepIn K (.ref fLD) = true)
    (aLC : PySem.W.nsIn K mainGlobals "_law_cut" = some (some (.ref fLC))) (lLC : K.lookup fLC = some ⟨ocLC, odLC, .func (PySem.W.fnOf "_law_cut" "_law_cut" (defArgs (topS 32)) (defBody (topS 32)) (defScope (topS 32)) .none kVLC dcLC pmLC anLC cdLC ctLC), slLC⟩) (cLC : PySem.W.codeIn K cdLC "_law_cut" = true) (kLC : PySem.W.keepIn K (.ref fLC) = true)
    (aLS : PySem.W.nsIn K mainGlobals "_law_sum" = some (some (.ref fLS))) (lLS : K.lookup fLS = some ⟨ocLS, odLS, .func (PySem.W.fnOf "_law_sum" "_law_sum" (defArgs (topS 33)) (defBody (topS 33)) (defScope (topS 33)) .none kVLS dcLS pmLS anLS cdLS ctLS), slLS⟩) (cLS : PySem.W.codeIn K cdLS "_law_sum" = true) (kLS : PySem.W.keepIn K (.ref fLS) = true)
    (aLN : PySem.W.nsIn K mainGlobals "_law_number" = some (some (.ref fLN))) (lLN : K.lookup fLN = some ⟨ocLN, odLN, .func (PySem.W.fnOf "_law_number" "_law_number" (defArgs (topS 34)) (defBody (topS 34)) (defScope (topS 34)) .none kVLN dcLN pmLN anLN cdLN ctLN), slLN⟩) (cLN : PySem.W.codeIn K cdLN "_law_number" = true) (kLN : PySem.W.keepIn K (.ref fLN) = true)
    (aLL : PySem.W.nsIn K mainGlobals "_law_list" = some (some (.ref fLL))) (lLL : K.lookup fLL = some ⟨ocLL, odLL, .func (PySem.W.fnOf "_law_list" "_law_list" (defArgs (topS 35)) (defBody (topS 35)) (defScope (topS 35)) .none kVLL dcLL pmLL anLL cdLL ctLL), slLL⟩) (cLL : PySem.W.codeIn K cdLL "_law_list" = true) (kLL : PySem.W.keepIn K (.ref fLL) = true)
    (aLE : PySem.W.nsIn K mainGlobals "_law_error" = some (some (.ref fLE))) (lLE : K.lookup fLE = some ⟨ocLE, odLE, .func (PySem.W.fnOf "_law_error" "_law_error" (defArgs (topS 36)) (defBody (topS 36)) (defScope (topS 36)) .none kVLE dcLE pmLE anLE cdLE ctLE), slLE⟩) (cLE : PySem.W.codeIn K cdLE "_law_error" = true) (kLE : PySem.W.keepIn K (.ref fLE) = true)
    (aLB : PySem.W.nsIn K mainGlobals "_law_is_before" = some (some (.ref fLB))) (lLB : K.lookup fLB = some ⟨ocLB, odLB, .func (PySem.W.fnOf "_law_is_before" "_law_is_before" (defArgs (topS 37)) (defBody (topS 37)) (defScope (topS 37)) .none kVLB dcLB pmLB anLB cdLB ctLB), slLB⟩) (cLB : PySem.W.codeIn K cdLB "_law_is_before" = true) (kLB : PySem.W.keepIn K (.ref fLB) = true)
    (aLR : PySem.W.nsIn K mainGlobals "_law_right" = some (some (.ref fLR))) (lLR : K.lookup fLR = some ⟨ocLR, odLR, .func (PySem.W.fnOf "_law_right" "_law_right" (defArgs (topS 38)) (defBody (topS 38)) (defScope (topS 38)) .none kVLR dcLR pmLR anLR cdLR ctLR), slLR⟩) (cLR : PySem.W.codeIn K cdLR "_law_right" = true) (kLR : PySem.W.keepIn K (.ref fLR) = true)
    (aL : PySem.W.nsIn K mainGlobals "law" = some (some (.ref fL))) (lL : K.lookup fL = some ⟨ocL, odL, .func (PySem.W.fnOf "law" "law" (defArgs (topS 39)) (defBody (topS 39)) (defScope (topS 39)) .none kVL dcL pmL anL cdL ctL), slL⟩) (cL : PySem.W.codeIn K cdL "law" = true) (kL : PySem.W.keepIn K (.ref fL) = true)
    (aC : PySem.W.nsIn K mainGlobals "Moments" = some (some (.ref C)))
    (pg : PySem.W.plainGet K C Str.empty = true)
    (hd : PySem.W.hasDictIn K C = true)
    (po : PySem.W.plainOver K C = true)
    (sa : PySem.W.findIn K (.ref C) "__setattr__" = some (some (.builtin "object.__setattr__")))
    (mk : PySem.W.makesIn K C = true)
    (kc : PySem.W.keepIn K (.ref C) = true)
    (nB : PySem.W.findIn K (.ref C) "_begin" = some none)
    (nS : PySem.W.findIn K (.ref C) "_step" = some none)
    (ca : PySem.W.findIn K (.ref C) "__class__" = some (some (.builtin "object.__class__")))
    (cn : PySem.W.specialIn K (.builtin "object.__class__") "__get__" = some (some (.builtin "getset_descriptor.__get__")))
    (ct : PySem.W.takesIn K (.builtin "object.__class__") = some true)
    (cm : PySem.W.mroIn K C (.type "object") = some true)
    (tyC : PySem.W.typeIn K (.ref C) = some (.type "type"))
    (ne : PySem.W.findIn K (.ref C) "__ne__" = some (some (.builtin "object.__ne__")))
    (ob : PySem.W.subIn K (.ref C) (.type "object") = some true)
    (kk_NoneType : PySem.W.subIn K (.type "NoneType") (.ref C) = some false)
    (kk_bool : PySem.W.subIn K (.type "bool") (.ref C) = some false)
    (kk_int : PySem.W.subIn K (.type "int") (.ref C) = some false)
    (kk_str : PySem.W.subIn K (.type "str") (.ref C) = some false)
    (kk_list : PySem.W.subIn K (.type "list") (.ref C) = some false)
    (kk_tuple : PySem.W.subIn K (.type "tuple") (.ref C) = some false)
    (kk_dict : PySem.W.subIn K (.type "dict") (.ref C) = some false)
    (amI : PySem.W.findIn K (.ref C) "__init__" = some (some (.ref fmI))) (imI : PySem.W.isFn K (.ref fmI) = true)
    (lmI : K.lookup fmI = some ⟨ocmI, odmI, .func (PySem.W.fnOf "__init__" "Moments.__init__" (defArgs (inClass cMom 0)) (defBody (inClass cMom 0)) (defScope (inClass cMom 0)) .none kVmI dcmI pmmI anmI cdmI ctmI), slmI⟩) (cmI : PySem.W.codeIn K cdmI "Moments.__init__" = true) (kmI : PySem.W.keepIn K (.ref fmI) = true)
    (amE : PySem.W.findIn K (.ref C) "__eq__" = some (some (.ref fmE))) (imE : PySem.W.isFn K (.ref fmE) = true)
    (lmE : K.lookup fmE = some ⟨ocmE, odmE, .func (PySem.W.fnOf "__eq__" "Moments.__eq__" (defArgs (inClass cMom 1)) (defBody (inClass cMom 1)) (defScope (inClass cMom 1)) .none kVmE dcmE pmmE anmE cdmE ctmE), slmE⟩) (cmE : PySem.W.codeIn K cdmE "Moments.__eq__" = true) (kmE : PySem.W.keepIn K (.ref fmE) = true)
    (amG : PySem.W.findIn K (.ref C) "__getitem__" = some (some (.ref fmG))) (imG : PySem.W.isFn K (.ref fmG) = true)
    (lmG : K.lookup fmG = some ⟨ocmG, odmG, .func (PySem.W.fnOf "__getitem__" "Moments.__getitem__" (defArgs (inClass cMom 3)) (defBody (inClass cMom 3)) (defScope (inClass cMom 3)) .none kVmG dcmG pmmG anmG cdmG ctmG), slmG⟩) (cmG : PySem.W.codeIn K cdmG "Moments.__getitem__" = true) (kmG : PySem.W.keepIn K (.ref fmG) = true)
    (amC : PySem.W.findIn K (.ref C) "__contains__" = some (some (.ref fmC))) (imC : PySem.W.isFn K (.ref fmC) = true)
    (lmC : K.lookup fmC = some ⟨ocmC, odmC, .func (PySem.W.fnOf "__contains__" "Moments.__contains__" (defArgs (inClass cMom 4)) (defBody (inClass cMom 4)) (defScope (inClass cMom 4)) .none kVmC dcmC pmmC anmC cdmC ctmC), slmC⟩) (cmC : PySem.W.codeIn K cdmC "Moments.__contains__" = true) (kmC : PySem.W.keepIn K (.ref fmC) = true)
    (amK : PySem.W.findIn K (.ref C) "__call__" = some (some (.ref fmK))) (imK : PySem.W.isFn K (.ref fmK) = true)
    (lmK : K.lookup fmK = some ⟨ocmK, odmK, .func (PySem.W.fnOf "__call__" "Moments.__call__" (defArgs (inClass cMom 5)) (defBody (inClass cMom 5)) (defScope (inClass cMom 5)) .none kVmK dcmK pmmK anmK cdmK ctmK), slmK⟩) (cmK : PySem.W.codeIn K cdmK "Moments.__call__" = true) (kmK : PySem.W.keepIn K (.ref fmK) = true)
    (amN : PySem.W.findIn K (.ref C) "count" = some (some (.ref fmN))) (imN : PySem.W.isFn K (.ref fmN) = true)
    (lmN : K.lookup fmN = some ⟨ocmN, odmN, .func (PySem.W.fnOf "count" "Moments.count" (defArgs (inClass cMom 11)) (defBody (inClass cMom 11)) (defScope (inClass cMom 11)) .none kVmN dcmN pmmN anmN cdmN ctmN), slmN⟩) (cmN : PySem.W.codeIn K cdmN "Moments.count" = true) (kmN : PySem.W.keepIn K (.ref fmN) = true)
    (amA : PySem.W.findIn K (.ref C) "after" = some (some (.ref fmA))) (imA : PySem.W.isFn K (.ref fmA) = true)
    (lmA : K.lookup fmA = some ⟨ocmA, odmA, .func (PySem.W.fnOf "after" "Moments.after" (defArgs (inClass cMom 12)) (defBody (inClass cMom 12)) (defScope (inClass cMom 12)) .none kVmA dcmA pmmA anmA cdmA ctmA), slmA⟩) (cmA : PySem.W.codeIn K cdmA "Moments.after" = true) (kmA : PySem.W.keepIn K (.ref fmA) = true)
    (amS : PySem.W.findIn K (.ref C) "_steps_to" = some (some (.ref fmS))) (imS : PySem.W.isFn K (.ref fmS) = true)
    (lmS : K.lookup fmS = some ⟨ocmS, odmS, .func (PySem.W.fnOf "_steps_to" "Moments._steps_to" (defArgs (inClass cMom 13)) (defBody (inClass cMom 13)) (defScope (inClass cMom 13)) .none kVmS dcmS pmmS anmS cdmS ctmS), slmS⟩) (cmS : PySem.W.codeIn K cdmS "Moments._steps_to" = true) (kmS : PySem.W.keepIn K (.ref fmS) = true)
    (fmG1 : PySem.W.fnIn K fmG = true)
    (fmK1 : PySem.W.fnIn K fmK = true)
    (apB1 : PySem.W.findIn K (.ref C) "begin" = some (some (.ref ppB))) (apB2 : PySem.W.specialIn K (.ref ppB) "__get__" = some (some (.builtin "property.__get__"))) (apB3 : PySem.W.takesIn K (.ref ppB) = some true) (apB4 : PySem.W.recIn K ppB "property" = some (.ref fpB :: restpB))
    (lpB : K.lookup fpB = some ⟨ocpB, odpB, .func (PySem.W.fnOf "begin" "Moments.begin" (defArgs (inClass cMom 9)) (defBody (inClass cMom 9)) (defScope (inClass cMom 9)) .none kVpB dcpB pmpB anpB cdpB ctpB), slpB⟩) (cpB : PySem.W.codeIn K cdpB "Moments.begin" = true) (kpB : PySem.W.keepIn K (.ref fpB) = true)
    (apS1 : PySem.W.findIn K (.ref C) "step" = some (some (.ref ppS))) (apS2 : PySem.W.specialIn K (.ref ppS) "__get__" = some (some (.builtin "property.__get__"))) (apS3 : PySem.W.takesIn K (.ref ppS) = some true) (apS4 : PySem.W.recIn K ppS "property" = some (.ref fpS :: restpS))
    (lpS : K.lookup fpS = some ⟨ocpS, odpS, .func (PySem.W.fnOf "step" "Moments.step" (defArgs (inClass cMom 10)) (defBody (inClass cMom 10)) (defScope (inClass cMom 10)) .none kVpS dcpS pmpS anpS cdpS ctpS), slpS⟩) (cpS : PySem.W.codeIn K cdpS "Moments.step" = true) (kpS : PySem.W.keepIn K (.ref fpS) = true)
    (gE1 : PySem.W.nsIn K mainGlobals "InvalidNumber" = some (some (.ref CE1))) (kE1 : PySem.W.keepIn K (.ref CE1) = true) (qE1 : PySem.W.excIn K CE1 BMv "ValueError.__new__" = true) (bE1 : PySem.W.subIn K (.ref CE1) (.type "BaseException") = some true) (tE1 : PySem.W.typeIn K (.ref CE1) = some (.type "type"))
    (gE2 : PySem.W.nsIn K mainGlobals "DivisionByZero" = some (some (.ref CE2))) (kE2 : PySem.W.keepIn K (.ref CE2) = true) (qE2 : PySem.W.excIn K CE2 BMa "ArithmeticError.__new__" = true) (bE2 : PySem.W.subIn K (.ref CE2) (.type "BaseException") = some true) (tE2 : PySem.W.typeIn K (.ref CE2) = some (.type "type"))
    (gE3 : PySem.W.nsIn K mainGlobals "InvalidTime" = some (some (.ref CE3))) (kE3 : PySem.W.keepIn K (.ref CE3) = true) (qE3 : PySem.W.excIn K CE3 BMv "ValueError.__new__" = true) (bE3 : PySem.W.subIn K (.ref CE3) (.type "BaseException") = some true) (tE3 : PySem.W.typeIn K (.ref CE3) = some (.type "type"))
    (gE5 : PySem.W.nsIn K mainGlobals "InvalidCount" = some (some (.ref CE5))) (kE5 : PySem.W.keepIn K (.ref CE5) = true) (qE5 : PySem.W.excIn K CE5 BMv "ValueError.__new__" = true) (bE5 : PySem.W.subIn K (.ref CE5) (.type "BaseException") = some true) (tE5 : PySem.W.typeIn K (.ref CE5) = some (.type "type"))
    (dE1 : PySem.W.hasDictIn K CE1 = true)
    (sE1 : PySem.W.subIn K (.ref CE1) (.ref CE1) = some true)
    (h1E1 : PySem.W.findIn K (.ref CE1) "__getattribute__" = some (some (.builtin "BaseException.__getattribute__")))
    (h2E1 : PySem.W.findIn K (.ref CE1) "__getattr__" = some none)
    (h3E1 : PySem.W.findIn K (.ref CE1) "__class__" = some (some (.builtin "object.__class__")))
    (h4E1 : PySem.W.mroIn K CE1 (.type "object") = some true)
    (vE1 : PySem.W.subIn K (.ref CE1) (.type "ValueError") = some true)
    (dE3 : PySem.W.hasDictIn K CE3 = true)
    (sE3 : PySem.W.subIn K (.ref CE3) (.ref CE3) = some true)
    (h1E3 : PySem.W.findIn K (.ref CE3) "__getattribute__" = some (some (.builtin "BaseException.__getattribute__")))
    (h2E3 : PySem.W.findIn K (.ref CE3) "__getattr__" = some none)
    (h3E3 : PySem.W.findIn K (.ref CE3) "__class__" = some (some (.builtin "object.__class__")))
    (h4E3 : PySem.W.mroIn K CE3 (.type "object") = some true)
    (vE3 : PySem.W.subIn K (.ref CE3) (.type "ValueError") = some true)
    (dE5 : PySem.W.hasDictIn K CE5 = true)
    (sE5 : PySem.W.subIn K (.ref CE5) (.ref CE5) = some true)
    (h1E5 : PySem.W.findIn K (.ref CE5) "__getattribute__" = some (some (.builtin "BaseException.__getattribute__")))
    (h2E5 : PySem.W.findIn K (.ref CE5) "__getattr__" = some none)
    (h3E5 : PySem.W.findIn K (.ref CE5) "__class__" = some (some (.builtin "object.__class__")))
    (h4E5 : PySem.W.mroIn K CE5 (.type "object") = some true)
    (vE5 : PySem.W.subIn K (.ref CE5) (.type "ValueError") = some true)
    (nNT : PySem.W.subIn K (.ref CE1) (.ref CE3) = some false)
    (nCT : PySem.W.subIn K (.ref CE5) (.ref CE3) = some false)
    (nCN : PySem.W.subIn K (.ref CE5) (.ref CE1) = some false)
    (gcd : PySem.W.nsIn K mainGlobals "gcd" = some (some (.builtin "math.gcd")))
    (n_isinstance : PySem.W.nsIn K mainGlobals "isinstance" = some none)
    (n_int : PySem.W.nsIn K mainGlobals "int" = some none)
    (n_bool : PySem.W.nsIn K mainGlobals "bool" = some none)
    (n_tuple : PySem.W.nsIn K mainGlobals "tuple" = some none)
    (n_len : PySem.W.nsIn K mainGlobals "len" = some none)
    (n_type : PySem.W.nsIn K mainGlobals "type" = some none)
    (n_max : PySem.W.nsIn K mainGlobals "max" = some none)
    (n_abs : PySem.W.nsIn K mainGlobals "abs" = some none)
    (n_range : PySem.W.nsIn K mainGlobals "range" = some none)
    (n_ValueError : PySem.W.nsIn K mainGlobals "ValueError" = some none) :
    ∃ fd : FuncData, (∀ (s : Shared) (u : Value), BindsTo s fd ⟨[u], []⟩ [("script", u)]) ∧ ∀ base : Heap, K.In base → base.Ns mainGlobals mg → LG.FnG P w K mg base (CXl P w) 9 fa fd ["script"] (spLaw K) := by
  have e := hfa.symm.trans (PySem.W.mg_of X G aL)
  cases e
  have FII := fun_mk (st := topS 8) lII cII kII
  have DII : DefAt K mg "is_integer" (topS 8) ["value"] _ _ := ⟨FII, PySem.W.mg_of X G aII, FII.binds (ps := ["value"]) fun _ _ _ _ _ _ us hl => match us, hl with | [_], _ => rfl⟩
  have FIR := fun_mk (st := topS 9) lIR cIR kIR
  have DIR : DefAt K mg "is_ratio" (topS 9) ["value"] _ _ := ⟨FIR, PySem.W.mg_of X G aIR, FIR.binds (ps := ["value"]) fun _ _ _ _ _ _ us hl => match us, hl with | [_], _ => rfl⟩
  have FIN := fun_mk (st := topS 10) lIN cIN kIN
  have DIN : DefAt K mg "is_number" (topS 10) ["value"] _ _ := ⟨FIN, PySem.W.mg_of X G aIN, FIN.binds (ps := ["value"]) fun _ _ _ _ _ _ us hl => match us, hl with | [_], _ => rfl⟩
  have FAR := fun_mk (st := topS 11) lAR cAR kAR
  have DAR : DefAt K mg "as_ratio" (topS 11) ["value"] _ _ := ⟨FAR, PySem.W.mg_of X G aAR, FAR.binds (ps := ["value"]) fun _ _ _ _ _ _ us hl => match us, hl with | [_], _ => rfl⟩
  have FRd := fun_mk (st := topS 12) lRd cRd kRd
  have DRd : DefAt K mg "reduced" (topS 12) ["top", "bottom"] _ _ := ⟨FRd, PySem.W.mg_of X G aRd, FRd.binds (ps := ["top", "bottom"]) fun _ _ _ _ _ _ us hl => match us, hl with | [_, _], _ => rfl⟩
  have FPl := fun_mk (st := topS 13) lPl cPl kPl
  have DPl : DefAt K mg "plus" (topS 13) ["first", "second"] _ _ := ⟨FPl, PySem.W.mg_of X G aPl, FPl.binds (ps := ["first", "second"]) fun _ _ _ _ _ _ us hl => match us, hl with | [_, _], _ => rfl⟩
  have FMi := fun_mk (st := topS 14) lMi cMi kMi
  have DMi : DefAt K mg "minus" (topS 14) ["first", "second"] _ _ := ⟨FMi, PySem.W.mg_of X G aMi, FMi.binds (ps := ["first", "second"]) fun _ _ _ _ _ _ us hl => match us, hl with | [_, _], _ => rfl⟩
  have FTi := fun_mk (st := topS 15) lTi cTi kTi
  have DTi : DefAt K mg "times" (topS 15) ["first", "second"] _ _ := ⟨FTi, PySem.W.mg_of X G aTi, FTi.binds (ps := ["first", "second"]) fun _ _ _ _ _ _ us hl => match us, hl with | [_, _], _ => rfl⟩
  have FDi := fun_mk (st := topS 16) lDi cDi kDi
  have DDi : DefAt K mg "divided" (topS 16) ["first", "second"] _ _ := ⟨FDi, PySem.W.mg_of X G aDi, FDi.binds (ps := ["first", "second"]) fun _ _ _ _ _ _ us hl => match us, hl with | [_, _], _ => rfl⟩
  have FFl := fun_mk (st := topS 17) lFl cFl kFl
  have DFl : DefAt K mg "floor_of" (topS 17) ["value"] _ _ := ⟨FFl, PySem.W.mg_of X G aFl, FFl.binds (ps := ["value"]) fun _ _ _ _ _ _ us hl => match us, hl with | [_], _ => rfl⟩
  have FPo := fun_mk (st := topS 19) lPo cPo kPo
  have DPo : DefAt K mg "is_positive" (topS 19) ["value"] _ _ := ⟨FPo, PySem.W.mg_of X G aPo, FPo.binds (ps := ["value"]) fun _ _ _ _ _ _ us hl => match us, hl with | [_], _ => rfl⟩
  have FTm := fun_mk (st := topS 20) lTm cTm kTm
  have DTm : DefAt K mg "as_time" (topS 20) ["value"] _ _ := ⟨FTm, PySem.W.mg_of X G aTm, FTm.binds (ps := ["value"]) fun _ _ _ _ _ _ us hl => match us, hl with | [_], _ => rfl⟩
  have FLP := fun_mk (st := topS 30) lLP cLP kLP
  have DLP : DefAt K mg "_law_pool" (topS 30) ["script"] _ _ := ⟨FLP, PySem.W.mg_of X G aLP, FLP.binds (ps := ["script"]) fun _ _ _ _ _ _ us hl => match us, hl with | [_], _ => rfl⟩
  have FLD := fun_mk (st := topS 31) lLD cLD kLD
  have DLD : DefAt K mg "_law_draw" (topS 31) ["pool", "many"] _ _ := ⟨FLD, PySem.W.mg_of X G aLD, FLD.binds (ps := ["pool", "many"]) fun _ _ _ _ _ _ us hl => match us, hl with | [_, _], _ => rfl⟩
  have FLC := fun_mk (st := topS 32) lLC cLC kLC
  have DLC : DefAt K mg "_law_cut" (topS 32) ["top", "bottom"] _ _ := ⟨FLC, PySem.W.mg_of X G aLC, FLC.binds (ps := ["top", "bottom"]) fun _ _ _ _ _ _ us hl => match us, hl with | [_, _], _ => rfl⟩
  have FLS := fun_mk (st := topS 33) lLS cLS kLS
  have DLS : DefAt K mg "_law_sum" (topS 33) ["one", "other"] _ _ := ⟨FLS, PySem.W.mg_of X G aLS, FLS.binds (ps := ["one", "other"]) fun _ _ _ _ _ _ us hl => match us, hl with | [_, _], _ => rfl⟩
  have FLN := fun_mk (st := topS 34) lLN cLN kLN
  have DLN : DefAt K mg "_law_number" (topS 34) ["pool", "size"] _ _ := ⟨FLN, PySem.W.mg_of X G aLN, FLN.binds (ps := ["pool", "size"]) fun _ _ _ _ _ _ us hl => match us, hl with | [_, _], _ => rfl⟩
  have FLL := fun_mk (st := topS 35) lLL cLL kLL
  have DLL : DefAt K mg "_law_list" (topS 35) ["begin", "step", "many"] _ _ := ⟨FLL, PySem.W.mg_of X G aLL, FLL.binds (ps := ["begin", "step", "many"]) fun _ _ _ _ _ _ us hl => match us, hl with | [_, _, _], _ => rfl⟩
  have FLE := fun_mk (st := topS 36) lLE cLE kLE
  have DLE : DefAt K mg "_law_error" (topS 36) ["kind", "one", "value"] _ _ := ⟨FLE, PySem.W.mg_of X G aLE, FLE.binds (ps := ["kind", "one", "value"]) fun _ _ _ _ _ _ us hl => match us, hl with | [_, _, _], _ => rfl⟩
  have FLB := fun_mk (st := topS 37) lLB cLB kLB
  have DLB : DefAt K mg "_law_is_before" (topS 37) ["one", "other"] _ _ := ⟨FLB, PySem.W.mg_of X G aLB, FLB.binds (ps := ["one", "other"]) fun _ _ _ _ _ _ us hl => match us, hl with | [_, _], _ => rfl⟩
  have FLR := fun_mk (st := topS 38) lLR cLR kLR
  have DLR : DefAt K mg "_law_right" (topS 38) ["pool", "one", "known"] _ _ := ⟨FLR, PySem.W.mg_of X G aLR, FLR.binds (ps := ["pool", "one", "known"]) fun _ _ _ _ _ _ us hl => match us, hl with | [_, _, _], _ => rfl⟩
  have FL := fun_mk (st := topS 39) lL cL kL
  have DL : DefAt K mg "law" (topS 39) ["script"] _ _ := ⟨FL, PySem.W.mg_of X G aL, FL.binds (ps := ["script"]) fun _ _ _ _ _ _ us hl => match us, hl with | [_], _ => rfl⟩
  have T : MomC K C := ⟨⟨pg, hd, po, sa⟩, nB, nS, ca, cn, ct, cm, KL.kit_self, fun n hn => by
    simp only [kdNames, List.mem_cons, List.not_mem_nil, or_false] at hn
    rcases hn with rfl | rfl | rfl | rfl | rfl | rfl | rfl
    · exact ⟨KL.kit_ref hd tyC kk_NoneType, KL.nf_sub kk_NoneType⟩
    · exact ⟨KL.kit_ref hd tyC kk_bool, KL.nf_sub kk_bool⟩
    · exact ⟨KL.kit_ref hd tyC kk_int, KL.nf_sub kk_int⟩
    · exact ⟨KL.kit_ref hd tyC kk_str, KL.nf_sub kk_str⟩
    · exact ⟨KL.kit_ref hd tyC kk_list, KL.nf_sub kk_list⟩
    · exact ⟨KL.kit_ref hd tyC kk_tuple, KL.nf_sub kk_tuple⟩
    · exact ⟨KL.kit_ref hd tyC kk_dict, KL.nf_sub kk_dict⟩⟩
  have FmI := fun_mk (st := inClass cMom 0) lmI cmI kmI
  have bmI := FmI.binds (ps := ["self", "begin", "step"]) fun _ _ _ _ _ _ us hl => match us, hl with | [_, _, _], _ => rfl
  have MmI : Meth K C "__init__" fmI := ⟨amI, imI, kmI⟩
  have FmE := fun_mk (st := inClass cMom 1) lmE cmE kmE
  have bmE := FmE.binds (ps := ["self", "other"]) fun _ _ _ _ _ _ us hl => match us, hl with | [_, _], _ => rfl
  have MmE : Meth K C "__eq__" fmE := ⟨amE, imE, kmE⟩
  have FmG := fun_mk (st := inClass cMom 3) lmG cmG kmG
  have bmG := FmG.binds (ps := ["self", "at"]) fun _ _ _ _ _ _ us hl => match us, hl with | [_, _], _ => rfl
  have MmG : Meth K C "__getitem__" fmG := ⟨amG, imG, kmG⟩
  have FmC := fun_mk (st := inClass cMom 4) lmC cmC kmC
  have bmC := FmC.binds (ps := ["self", "time"]) fun _ _ _ _ _ _ us hl => match us, hl with | [_, _], _ => rfl
  have MmC : Meth K C "__contains__" fmC := ⟨amC, imC, kmC⟩
  have FmK := fun_mk (st := inClass cMom 5) lmK cmK kmK
  have bmK := FmK.binds (ps := ["self", "time"]) fun _ _ _ _ _ _ us hl => match us, hl with | [_, _], _ => rfl
  have MmK : Meth K C "__call__" fmK := ⟨amK, imK, kmK⟩
  have FmN := fun_mk (st := inClass cMom 11) lmN cmN kmN
  have bmN := FmN.binds (ps := ["self", "time"]) fun _ _ _ _ _ _ us hl => match us, hl with | [_, _], _ => rfl
  have MmN : Meth K C "count" fmN := ⟨amN, imN, kmN⟩
  have FmA := fun_mk (st := inClass cMom 12) lmA cmA kmA
  have bmA := FmA.binds (ps := ["self", "time"]) fun _ _ _ _ _ _ us hl => match us, hl with | [_, _], _ => rfl
  have MmA : Meth K C "after" fmA := ⟨amA, imA, kmA⟩
  have FmS := fun_mk (st := inClass cMom 13) lmS cmS kmS
  have bmS := FmS.binds (ps := ["self", "time"]) fun _ _ _ _ _ _ us hl => match us, hl with | [_, _], _ => rfl
  have MmS : Meth K C "_steps_to" fmS := ⟨amS, imS, kmS⟩
  have FpB := fun_mk (st := inClass cMom 9) lpB cpB kpB
  have bpB := FpB.binds (ps := ["self"]) fun _ _ _ _ _ _ us hl => match us, hl with | [_], _ => rfl
  have PpB : PropOf K C "begin" ppB fpB := ⟨apB1, apB2, apB3, restpB, apB4⟩
  have FpS := fun_mk (st := inClass cMom 10) lpS cpS kpS
  have bpS := FpS.binds (ps := ["self"]) fun _ _ _ _ _ _ us hl => match us, hl with | [_], _ => rfl
  have PpS : PropOf K C "step" ppS fpS := ⟨apS1, apS2, apS3, restpS, apS4⟩
  have XE1 : ErrAt K mg "InvalidNumber" BMv "ValueError.__new__" CE1 := ⟨PySem.W.mg_of X G gE1, kE1, qE1, bE1, tE1⟩
  have XE2 : ErrAt K mg "DivisionByZero" BMa "ArithmeticError.__new__" CE2 := ⟨PySem.W.mg_of X G gE2, kE2, qE2, bE2, tE2⟩
  have XE3 : ErrAt K mg "InvalidTime" BMv "ValueError.__new__" CE3 := ⟨PySem.W.mg_of X G gE3, kE3, qE3, bE3, tE3⟩
  have XE5 : ErrAt K mg "InvalidCount" BMv "ValueError.__new__" CE5 := ⟨PySem.W.mg_of X G gE5, kE5, qE5, bE5, tE5⟩
  have YE1 : ErrE K mg "InvalidNumber" CE1 := ⟨XE1, ⟨dE1, sE1⟩, ⟨h1E1, h2E1, bE1, dE1, h3E1, cn, ct, h4E1⟩, KL.kit_val (by decide +kernel) vE1⟩
  have YE3 : ErrE K mg "InvalidTime" CE3 := ⟨XE3, ⟨dE3, sE3⟩, ⟨h1E3, h2E3, bE3, dE3, h3E3, cn, ct, h4E3⟩, KL.kit_val (by decide +kernel) vE3⟩
  have YE5 : ErrE K mg "InvalidCount" CE5 := ⟨XE5, ⟨dE5, sE5⟩, ⟨h1E5, h2E5, bE5, dE5, h3E5, cn, ct, h4E5⟩, KL.kit_val (by decide +kernel) vE5⟩
  have mgcd := PySem.W.mg_of X G gcd
  have m_isinstance := PySem.W.mg_none_of X G n_isinstance
  have m_int := PySem.W.mg_none_of X G n_int
  have m_bool := PySem.W.mg_none_of X G n_bool
  have m_tuple := PySem.W.mg_none_of X G n_tuple
  have m_len := PySem.W.mg_none_of X G n_len
  have m_type := PySem.W.mg_none_of X G n_type
  have m_max := PySem.W.mg_none_of X G n_max
  have m_abs := PySem.W.mg_none_of X G n_abs
  have m_range := PySem.W.mg_none_of X G n_range
  have m_ValueError := PySem.W.mg_none_of X G n_ValueError
  refine ⟨PySem.W.fnOf "law" "law" (defArgs (topS 39)) (defBody (topS 39)) (defScope (topS 39)) .none kVL dcL pmL anL cdL ctL, fun s u => .of_eq rfl, fun base KB GB => ?_⟩
  have GII := ok_II (P := P) (w := w) (mg := mg) (base := base) FII m_isinstance m_int m_bool
  have GIR := ok_IR (P := P) (w := w) (mg := mg) (base := base) FIR DII m_isinstance m_tuple m_len mgcd GII
  have GIN := ok_IN (P := P) (w := w) (mg := mg) (base := base) FIN DII DIR GII GIR
  have GAR := ok_AR (P := P) (w := w) (mg := mg) (base := base) FAR DII DIR XE1 m_type m_int m_tuple m_len mgcd GII GIR
  have GRd := ok_Rd (P := P) (w := w) (mg := mg) (base := base) FRd mgcd
  have GPl := ok_plus (P := P) (w := w) (mg := mg) (base := base) DPl DAR DRd GAR GRd
  have GMi := ok_minus (P := P) (w := w) (mg := mg) (base := base) DMi DAR DRd GAR GRd
  have GTi := ok_times (P := P) (w := w) (mg := mg) (base := base) DTi DAR DRd GAR GRd
  have GDi := ok_divided (P := P) (w := w) (mg := mg) (base := base) DDi DAR DRd XE2 GAR GRd
  have GFl := ok_floor (P := P) (w := w) (mg := mg) (base := base) DFl DAR GAR
  have GPo := ok_Posi (P := P) (w := w) (mg := mg) (base := base) DPo DIN DAR GIN GAR
  have GTm := ok_Time (P := P) (w := w) (mg := mg) (base := base) DTm DAR XE1 ⟨dE1, sE1⟩ XE3 GAR
  have MK : Mk K C fmI := ⟨mk, amI, imI, kc⟩
  have GmI := ok_mInit (P := P) (w := w) (mg := mg) (base := base) FmI T DTm DPo DAR XE1 GTm (up GPo) (up GAR)
  have GmB := ok_mBegin (P := P) (w := w) (mg := mg) (base := base) FpB T
  have GmSt := ok_mStep (P := P) (w := w) (mg := mg) (base := base) FpS T
  have GmS := ok_mSteps (P := P) (w := w) (mg := mg) (base := base) FmS T DDi DMi (up GDi) (up GMi)
  have GmN := ok_mCount (P := P) (w := w) (mg := mg) (base := base) FmN T DTm DFl MmS bmS m_max GTm (up GFl) GmS
  have GmK := ok_mCall (P := P) (w := w) (mg := mg) (base := base) FmK T MmN bmN GmN
  have GmG := ok_mGet (P := P) (w := w) (mg := mg) (base := base) FmG T DII DPl DTi XE5 (up GII) (up GPl) (up GTi)
  have GmA := ok_mAfter (P := P) (w := w) (mg := mg) (base := base) FmA T MmN bmN MmG fmG1 bmG GmN GmG
  have GmC := ok_mIn (P := P) (w := w) (mg := mg) (base := base) FmC T DIN MmS bmS (up GIN) GmS
  have gM := PySem.W.mg_of X G aC
  have GmE := ok_mEq (P := P) (w := w) (mg := mg) (base := base) FmE T gM m_isinstance
  have M : MomG P w K mg base C CE3 CE1 CE5 := ⟨T, gM, ⟨_, _, MK, bmI, GmI⟩, ⟨_, _, MmG, fmG1, bmG, GmG⟩, ⟨_, _, MmN, bmN, GmN⟩, ⟨_, _, MmA, bmA, GmA⟩, ⟨_, _, ⟨amK, imK, fmK1⟩, bmK, GmK⟩, ⟨_, _, MmC, bmC, GmC⟩⟩
  have M2 : MomE P w K mg base C := ⟨⟨_, _, ⟨MmE, ne, ob⟩, bmE, GmE⟩, ⟨_, _, _, PpB, bpB, GmB⟩, ⟨_, _, _, PpS, bpS, GmSt⟩⟩
  have GLP := ok_Pool (P := P) (w := w) (mg := mg) (base := base) DLP
  have GLD := ok_Draw (P := P) (w := w) (mg := mg) (base := base) DLD m_int m_len
  have GLC := ok_Cut (P := P) (w := w) (mg := mg) (base := base) DLC m_abs
  have GLS := ok_Sum (P := P) (w := w) (mg := mg) (base := base) DLS DLC GLC
  have GLN := ok_Num (P := P) (w := w) (mg := mg) (base := base) DLN DLD DLC GLD GLC
  have GLL := ok_List (P := P) (w := w) (mg := mg) (base := base) DLL DLS m_range GLS
  have GLE := ok_Err (P := P) (w := w) (mg := mg) (base := base) DLE M YE3 YE1 YE5 nNT nCT nCN m_isinstance m_ValueError
  have GLB := ok_Bef (P := P) (w := w) (mg := mg) (base := base) DLB
  have GLR := ok_Right (P := P) (w := w) (mg := mg) (base := base) DLR M DLN DLB m_range m_len GLN GLB
  exact (ok_Law DL M M2 DLP DLD DLC DLS DLN DLL DLE DLR m_range GLP GLD GLC GLS GLN GLL GLE GLR).toG
end LR
open PySem PySem.W PyProof.Rows
set_option Elab.async false
set_option linter.all false
set_option maxRecDepth 100000
set_option maxHeartbeats 0 in
theorem PySem.Challenge.cw_laprunners_k50_moments_holds : PySem.Challenge.rw_laprunners_k50_moments.Holds := by
  w_on; o_law; k_head; (case hw => w_witness2)
  k_fill
  refine LG.walk_G (l := PySem.Challenge.rw_laprunners_k50_moments) (n := 63) (k := 9) (x := "script") (CX := fun w => LR.CXl (PySem.Challenge.rw_laprunners_k50_moments).prog w) (sp := fun w => LR.spLaw _) rfl (by decide) rfl ⟨rfl, by decide, by decide⟩ (fun w h Y => PySem.W.kIn_of Y) ?F
    (fun w H a ns hl _ hS => ⟨a, ns, rfl, hS, hl, fun H' => rfl⟩) (fun w H s e s' z => ?Z)
  case Z =>
    obtain ⟨_, _, _, _, _, _, _, _, _, _, _, _, z⟩ := z
    exact z
  case F =>
    intro w mg fa h KX G hmg
    refine' LR.all_mk KX G hmg ?aII ?lII ?cII ?kII ?aIR ?lIR ?cIR ?kIR ?aIN ?lIN ?cIN ?kIN ?aAR ?lAR ?cAR ?kAR ?aRd ?lRd ?cRd ?kRd ?aPl ?lPl ?cPl ?kPl ?aMi ?lMi ?cMi ?kMi ?aTi ?lTi ?cTi ?kTi ?aDi ?lDi ?cDi ?kDi ?aFl ?lFl ?cFl ?kFl ?aPo ?lPo ?cPo ?kPo ?aTm ?lTm ?cTm ?kTm ?aLP ?lLP ?cLP ?kLP ?aLD ?lLD ?cLD ?kLD ?aLC ?lLC ?cLC ?kLC ?aLS ?lLS ?cLS ?kLS ?aLN ?lLN ?cLN ?kLN ?aLL ?lLL ?cLL ?kLL ?aLE ?lLE ?cLE ?kLE ?aLB ?lLB ?cLB ?kLB ?aLR ?lLR ?cLR ?kLR ?aL ?lL ?cL ?kL ?aC ?pg ?hd ?po ?sa ?mk ?kc ?nB ?nS ?ca ?cn ?ct ?cm ?tyC ?ne ?ob ?kk_NoneType ?kk_bool ?kk_int ?kk_str ?kk_list ?kk_tuple ?kk_dict ?amI ?imI ?lmI ?cmI ?kmI ?amE ?imE ?lmE ?cmE ?kmE ?amG ?imG ?lmG ?cmG ?kmG ?amC ?imC ?lmC ?cmC ?kmC ?amK ?imK ?lmK ?cmK ?kmK ?amN ?imN ?lmN ?cmN ?kmN ?amA ?imA ?lmA ?cmA ?kmA ?amS ?imS ?lmS ?cmS ?kmS ?fmG1 ?fmK1 ?apB1 ?apB2 ?apB3 ?apB4 ?lpB ?cpB ?kpB ?apS1 ?apS2 ?apS3 ?apS4 ?lpS ?cpS ?kpS ?gE1 ?kE1 ?qE1 ?bE1 ?tE1 ?gE2 ?kE2 ?qE2 ?bE2 ?tE2 ?gE3 ?kE3 ?qE3 ?bE3 ?tE3 ?gE5 ?kE5 ?qE5 ?bE5 ?tE5 ?dE1 ?sE1 ?h1E1 ?h2E1 ?h3E1 ?h4E1 ?vE1 ?dE3 ?sE3 ?h1E3 ?h2E3 ?h3E3 ?h4E3 ?vE3 ?dE5 ?sE5 ?h1E5 ?h2E5 ?h3E5 ?h4E5 ?vE5 ?nNT ?nCT ?nCN ?gcd ?n_isinstance ?n_int ?n_bool ?n_tuple ?n_len ?n_type ?n_max ?n_abs ?n_range ?n_ValueError
    (case aII => k_is); (case lII => k_is); (case cII => k_is); (case kII => k_is); (case aIR => k_is); (case lIR => k_is)
    (case cIR => k_is); (case kIR => k_is); (case aIN => k_is); (case lIN => k_is); (case cIN => k_is); (case kIN => k_is)
    (case aAR => k_is); (case lAR => k_is); (case cAR => k_is); (case kAR => k_is); (case aRd => k_is); (case lRd => k_is)
    (case cRd => k_is); (case kRd => k_is); (case aPl => k_is); (case lPl => k_is); (case cPl => k_is); (case kPl => k_is)
    (case aMi => k_is); (case lMi => k_is); (case cMi => k_is); (case kMi => k_is); (case aTi => k_is); (case lTi => k_is)
    (case cTi => k_is); (case kTi => k_is); (case aDi => k_is); (case lDi => k_is); (case cDi => k_is); (case kDi => k_is)
    (case aFl => k_is); (case lFl => k_is); (case cFl => k_is); (case kFl => k_is); (case aPo => k_is); (case lPo => k_is)
    (case cPo => k_is); (case kPo => k_is); (case aTm => k_is); (case lTm => k_is); (case cTm => k_is); (case kTm => k_is)
    (case aLP => k_is); (case lLP => k_is); (case cLP => k_is); (case kLP => k_is); (case aLD => k_is); (case lLD => k_is)
    (case cLD => k_is); (case kLD => k_is); (case aLC => k_is); (case lLC => k_is); (case cLC => k_is); (case kLC => k_is)
    (case aLS => k_is); (case lLS => k_is); (case cLS => k_is); (case kLS => k_is); (case aLN => k_is); (case lLN => k_is)
    (case cLN => k_is); (case kLN => k_is); (case aLL => k_is); (case lLL => k_is); (case cLL => k_is); (case kLL => k_is)
    (case aLE => k_is); (case lLE => k_is); (case cLE => k_is); (case kLE => k_is); (case aLB => k_is); (case lLB => k_is)
    (case cLB => k_is); (case kLB => k_is); (case aLR => k_is); (case lLR => k_is); (case cLR => k_is); (case kLR => k_is)
    (case aL => k_is); (case lL => k_is); (case cL => k_is); (case kL => k_is); (case aC => k_is); (case pg => k_is)
    (case hd => k_is); (case po => k_is); (case sa => k_is); (case mk => k_is); (case kc => k_is); (case nB => k_is)
    (case nS => k_is); (case ca => k_is); (case cn => k_is); (case ct => k_is); (case cm => k_is); (case tyC => k_is)
    (case ne => k_is); (case ob => k_is); (case kk_NoneType => k_is); (case kk_bool => k_is); (case kk_int => k_is); (case kk_str => k_is)
    (case kk_list => k_is); (case kk_tuple => k_is); (case kk_dict => k_is); (case amI => k_is); (case imI => k_is); (case lmI => k_is)
    (case cmI => k_is); (case kmI => k_is); (case amE => k_is); (case imE => k_is); (case lmE => k_is); (case cmE => k_is)
    (case kmE => k_is); (case amG => k_is); (case imG => k_is); (case lmG => k_is); (case cmG => k_is); (case kmG => k_is)
    (case amC => k_is); (case imC => k_is); (case lmC => k_is); (case cmC => k_is); (case kmC => k_is); (case amK => k_is)
    (case imK => k_is); (case lmK => k_is); (case cmK => k_is); (case kmK => k_is); (case amN => k_is); (case imN => k_is)
    (case lmN => k_is); (case cmN => k_is); (case kmN => k_is); (case amA => k_is); (case imA => k_is); (case lmA => k_is)
    (case cmA => k_is); (case kmA => k_is); (case amS => k_is); (case imS => k_is); (case lmS => k_is); (case cmS => k_is)
    (case kmS => k_is); (case fmG1 => k_is); (case fmK1 => k_is); (case apB1 => k_is); (case apB2 => k_is); (case apB3 => k_is)
    (case apB4 => k_is); (case lpB => k_is); (case cpB => k_is); (case kpB => k_is); (case apS1 => k_is); (case apS2 => k_is)
    (case apS3 => k_is); (case apS4 => k_is); (case lpS => k_is); (case cpS => k_is); (case kpS => k_is); (case gE1 => k_is)
    (case kE1 => k_is); (case qE1 => k_exc); (case bE1 => k_is); (case tE1 => k_is); (case gE2 => k_is); (case kE2 => k_is)
    (case qE2 => k_exc); (case bE2 => k_is); (case tE2 => k_is); (case gE3 => k_is); (case kE3 => k_is); (case qE3 => k_exc)
    (case bE3 => k_is); (case tE3 => k_is); (case gE5 => k_is); (case kE5 => k_is); (case qE5 => k_exc); (case bE5 => k_is)
    (case tE5 => k_is); (case dE1 => k_is); (case sE1 => k_is); (case h1E1 => k_is); (case h2E1 => k_is); (case h3E1 => k_is)
    (case h4E1 => k_is); (case vE1 => k_is); (case dE3 => k_is); (case sE3 => k_is); (case h1E3 => k_is); (case h2E3 => k_is)
    (case h3E3 => k_is); (case h4E3 => k_is); (case vE3 => k_is); (case dE5 => k_is); (case sE5 => k_is); (case h1E5 => k_is)
    (case h2E5 => k_is); (case h3E5 => k_is); (case h4E5 => k_is); (case vE5 => k_is); (case nNT => k_is); (case nCT => k_is)
    (case nCN => k_is); (case gcd => k_is); (case n_isinstance => k_is); (case n_int => k_is); (case n_bool => k_is); (case n_tuple => k_is)
    (case n_len => k_is); (case n_type => k_is); (case n_max => k_is); (case n_abs => k_is); (case n_range => k_is); (case n_ValueError => k_is)
