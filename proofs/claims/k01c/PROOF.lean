import PyProof.Rows.All
import Wide.All
import OpenK.AllK
import Wide.FinOn
import HandS.ForMost
import HandS.ForExc
import HandS.Wide
import HandS.WideBits
import HandS.Gcd
import HandS.IsInst
import HandS.More
import HandS.ExcCtx
import HandS.RaiseFrom
import HandS.SuiteRaise
import HandS.Defaults
import HandS.Codes
import HandS.ExcIs
import HandS.Deep
import HandS.Style
import HandS.Ends
import PyProof.ReprRoads
import HandS.TupSets
import HandS.SetBool
import HandS.SortOrd
import HandS.SortRule
import KE.KeyNested
import PyProof.ReprBulk
import PySem.Challenge.RW_laprunners_k01_arithmetic
/-! LRat: exact numbers, plain mathematics over Rat (core Lean alone). -/
namespace LR

/-- numerator and denominator below 2 ^ b -/
def Sz (b : Nat) (q : Rat) : Prop := q.num.natAbs < 2 ^ b ∧ q.den < 2 ^ b

theorem Sz.mono {a b : Nat} {q : Rat} (h : Sz a q) (e : a ≤ b) : Sz b q :=
  ⟨Nat.lt_of_lt_of_le h.1 (Nat.pow_le_pow_right (by decide) e), Nat.lt_of_lt_of_le h.2 (Nat.pow_le_pow_right (by decide) e)⟩

theorem den_pos (q : Rat) : 0 < q.den := Nat.pos_of_ne_zero q.den_nz

/-- the sign of a denominator times the common divisor: what `ratio` divides by -/
def sdiv (n d : Int) : Int := if d < 0 then -((Nat.gcd n.natAbs d.natAbs : Nat) : Int) else ((Nat.gcd n.natAbs d.natAbs : Nat) : Int)

theorem gcd_pos {n d : Int} (hd : d ≠ 0) : 0 < Nat.gcd n.natAbs d.natAbs := Nat.gcd_pos_of_pos_right _ (Int.natAbs_pos.mpr hd)

theorem sdiv_ne {n d : Int} (hd : d ≠ 0) : sdiv n d ≠ 0 := by
  have h := gcd_pos (n := n) hd
  unfold sdiv
  split <;> omega

theorem sdiv_abs (n d : Int) : (sdiv n d).natAbs = Nat.gcd n.natAbs d.natAbs := by
  unfold sdiv
  split <;> omega

theorem fdiv_neg_of_dvd {a g : Int} (h : g ∣ a) : a.fdiv (-g) = -(a / g) := by
  rw [Int.fdiv_eq_ediv_of_dvd (Int.neg_dvd.mpr h), Int.ediv_neg]

theorem sdiv_num {n d : Int} (hd : d ≠ 0) : n.fdiv (sdiv n d) = (Rat.divInt n d).num := by
  have g1 : ((Nat.gcd n.natAbs d.natAbs : Nat) : Int) ∣ n := Int.ofNat_dvd_left.mpr (Nat.gcd_dvd_left _ _)
  have e : (d.gcd n : Int) = ((Nat.gcd n.natAbs d.natAbs : Nat) : Int) := by
    show ((Nat.gcd d.natAbs n.natAbs : Nat) : Int) = _
    rw [Nat.gcd_comm]
  rw [Rat.num_divInt, e]
  unfold sdiv
  split
  · rename_i h
    rw [fdiv_neg_of_dvd g1, Int.sign_eq_neg_one_of_neg h, Int.neg_one_mul, Int.neg_ediv_of_dvd g1]
  · rename_i h
    rw [Int.fdiv_eq_ediv_of_nonneg _ (Int.natCast_nonneg _), Int.sign_eq_one_of_pos (by omega), Int.one_mul]

theorem sdiv_den {n d : Int} (hd : d ≠ 0) : d.fdiv (sdiv n d) = ((Rat.divInt n d).den : Int) := by
  have g1 : ((Nat.gcd n.natAbs d.natAbs : Nat) : Int) ∣ d := Int.ofNat_dvd_left.mpr (Nat.gcd_dvd_right _ _)
  have e : d.gcd n = Nat.gcd n.natAbs d.natAbs := by
    show Nat.gcd d.natAbs n.natAbs = _
    rw [Nat.gcd_comm]
  rw [Rat.den_divInt, if_neg hd, e, Int.natCast_ediv]
  unfold sdiv
  split
  · rename_i h
    rw [fdiv_neg_of_dvd g1, ← Int.neg_ediv_of_dvd g1]
    congr 1
    omega
  · rename_i h
    rw [Int.fdiv_eq_ediv_of_nonneg _ (Int.natCast_nonneg _)]
    congr 1
    omega

theorem num_le (n d : Int) : (Rat.divInt n d).num.natAbs ≤ n.natAbs := by
  by_cases hd : d = 0
  · subst hd
    rw [Rat.divInt_zero]
    exact Nat.zero_le _
  · rw [Rat.num_divInt, Int.natAbs_ediv_of_dvd]
    · rw [Int.natAbs_mul, Int.natAbs_sign_of_ne_zero hd, Nat.one_mul]
      exact Nat.div_le_self _ _
    · refine Int.dvd_mul_of_dvd_right ?_
      exact Int.gcd_dvd_right _ _
theorem den_le {n d : Int} (hd : d ≠ 0) : (Rat.divInt n d).den ≤ d.natAbs := by
  rw [Rat.den_divInt, if_neg hd]
  exact Nat.div_le_self _ _

theorem sz_divInt {n d : Int} {b : Nat} (hd : d ≠ 0) (h1 : n.natAbs < 2 ^ b) (h2 : d.natAbs < 2 ^ b) : Sz b (Rat.divInt n d) :=
  ⟨Nat.lt_of_le_of_lt (num_le n d) h1, Nat.lt_of_le_of_lt (den_le hd) h2⟩

/-! ### the operations, as `ratio` is asked for them -/
theorem add_as (p q : Rat) : p + q = Rat.divInt (p.num * q.den + q.num * p.den) (p.den * q.den) := by
  rw [Rat.add_def', ← Int.natCast_mul, Rat.divInt_ofNat]
theorem sub_as (p q : Rat) : p - q = Rat.divInt (p.num * q.den - q.num * p.den) (p.den * q.den) := by
  rw [Rat.sub_def', ← Int.natCast_mul, Rat.divInt_ofNat]
theorem mul_as (p q : Rat) : p * q = Rat.divInt (p.num * q.num) (p.den * q.den) := by
  rw [Rat.mul_def', ← Int.natCast_mul, Rat.divInt_ofNat]
theorem div_as (p q : Rat) : p / q = Rat.divInt (p.num * q.den) (p.den * q.num) := by
  rw [Rat.div_def, Rat.inv_def]
  conv => lhs; lhs; rw [← Rat.num_divInt_den p]
  rw [Rat.divInt_mul_divInt]

theorem mul_lt {x y : Nat} {a b : Nat} (hx : x < 2 ^ a) (hy : y < 2 ^ b) : x * y < 2 ^ (a + b) := by
  rw [Nat.pow_add]
  exact Nat.mul_lt_mul'' hx hy
theorem add_lt {x y c : Nat} (hx : x < 2 ^ c) (hy : y < 2 ^ c) : x + y < 2 ^ (c + 1) := by
  rw [Nat.pow_succ]
  omega
theorem den_ne (p q : Rat) : ((p.den : Int) * q.den) ≠ 0 := by
  have h1 := den_pos p
  have h2 := den_pos q
  rw [← Int.natCast_mul]
  have h3 := Nat.mul_pos h1 h2
  omega
theorem Sz.add {a b : Nat} {p q : Rat} (hp : Sz a p) (hq : Sz b q) : Sz (a + b + 1) (p + q) := by
  rw [add_as]
  refine sz_divInt (den_ne p q) ?_ ?_
  · refine Nat.lt_of_le_of_lt (Int.natAbs_add_le _ _) (add_lt ?_ ?_)
    · rw [Int.natAbs_mul, Int.natAbs_natCast]
      exact mul_lt hp.1 hq.2
    · rw [Int.natAbs_mul, Int.natAbs_natCast, Nat.add_comm a b]
      exact mul_lt hq.1 hp.2
  · rw [Int.natAbs_mul, Int.natAbs_natCast, Int.natAbs_natCast]
    exact Nat.lt_of_lt_of_le (mul_lt hp.2 hq.2) (Nat.pow_le_pow_right (by decide) (by omega))
theorem Sz.sub {a b : Nat} {p q : Rat} (hp : Sz a p) (hq : Sz b q) : Sz (a + b + 1) (p - q) := by
  rw [sub_as]
  refine sz_divInt (den_ne p q) ?_ ?_
  · refine Nat.lt_of_le_of_lt (by rw [Int.sub_eq_add_neg]; exact Int.natAbs_add_le _ _) (add_lt ?_ ?_)
    · rw [Int.natAbs_mul, Int.natAbs_natCast]
      exact mul_lt hp.1 hq.2
    · rw [Int.natAbs_neg, Int.natAbs_mul, Int.natAbs_natCast, Nat.add_comm a b]
      exact mul_lt hq.1 hp.2
  · rw [Int.natAbs_mul, Int.natAbs_natCast, Int.natAbs_natCast]
    exact Nat.lt_of_lt_of_le (mul_lt hp.2 hq.2) (Nat.pow_le_pow_right (by decide) (by omega))
theorem Sz.mul {a b : Nat} {p q : Rat} (hp : Sz a p) (hq : Sz b q) : Sz (a + b) (p * q) := by
  rw [mul_as]
  refine sz_divInt (den_ne p q) ?_ ?_
  · rw [Int.natAbs_mul]
    exact mul_lt hp.1 hq.1
  · rw [Int.natAbs_mul, Int.natAbs_natCast, Int.natAbs_natCast]
    exact mul_lt hp.2 hq.2
theorem num_ne {q : Rat} (h : q ≠ 0) : q.num ≠ 0 := fun e => h (Rat.num_eq_zero.mp e)
theorem div_den_ne {p q : Rat} (h : q ≠ 0) : ((p.den : Int) * q.num) ≠ 0 := Int.mul_ne_zero (by have := den_pos p; omega) (num_ne h)
theorem Sz.div {a b : Nat} {p q : Rat} (hp : Sz a p) (hq : Sz b q) (h : q ≠ 0) : Sz (a + b) (p / q) := by
  rw [div_as]
  refine sz_divInt (div_den_ne h) ?_ ?_
  · rw [Int.natAbs_mul, Int.natAbs_natCast]
    exact mul_lt hp.1 hq.2
  · rw [Int.natAbs_mul, Int.natAbs_natCast]
    exact mul_lt hp.2 hq.1
theorem Sz.neg {a : Nat} {p : Rat} (hp : Sz a p) : Sz a (-p) := by
  refine ⟨?_, ?_⟩
  · rw [Rat.neg_num, Int.natAbs_neg]; exact hp.1
  · rw [Rat.neg_den]; exact hp.2
theorem Sz.int {b : Nat} {n : Int} (h0 : 0 < b) (h : n.natAbs < 2 ^ b) : Sz b (n : Rat) := ⟨h, Nat.lt_of_lt_of_le (show 1 < 2 ^ 1 by decide) (Nat.pow_le_pow_right (by decide) h0)⟩

/-! ### floors, remainders -/
theorem floor_divInt {a b : Int} (hb : 0 < b) : (Rat.divInt a b).floor = a / b := by
  have h1 := Rat.floor_le (Rat.divInt a b)
  have h2 := Rat.lt_floor_add_one (Rat.divInt a b)
  have hq : (0 : Rat) < (b : Rat) := Rat.intCast_pos.mpr hb
  rw [Rat.divInt_eq_div] at h1 h2 ⊢
  generalize ((a : Rat) / (b : Rat)).floor = k at h1 h2
  have e1 : (k : Rat) * b ≤ a := by
    have := Rat.mul_le_mul_of_nonneg_right h1 (Rat.le_of_lt hq)
    rwa [Rat.div_mul_cancel (Rat.ne_of_gt hq)] at this
  have e2 : (a : Rat) < ((k + 1 : Int) : Rat) * b := (Rat.div_lt_iff hq).mp h2
  rw [← Rat.intCast_mul, Rat.intCast_le_intCast] at e1
  rw [← Rat.intCast_mul, Rat.intCast_lt_intCast] at e2
  have e3 : a / b = k := by
    refine Int.le_antisymm ?_ ?_
    · exact Int.le_of_lt_add_one (Int.ediv_lt_of_lt_mul hb e2)
    · exact (Int.le_ediv_iff_mul_le hb).mpr e1
  exact e3.symm
/-- the number in [0, m) that differs from p by a multiple of m -/
def rem (p m : Rat) : Rat := p - m * ((p / m).floor : Rat)
theorem rem_as {p m : Rat} (hm : 0 < m) : rem p m = Rat.divInt ((p.num * m.den) % (m.num * p.den)) (p.den * m.den) := by
  have hn : 0 < m.num := by
    have h := Rat.num_nonneg.mpr (Rat.le_of_lt hm)
    have h2 := num_ne (Rat.ne_of_gt hm)
    omega
  have d1 : (0 : Int) < p.den := by have := den_pos p; omega
  have d2 : (0 : Int) < m.den := by have := den_pos m; omega
  have hb : (0 : Int) < p.den * m.num := Int.mul_pos d1 hn
  unfold rem
  rw [div_as, floor_divInt hb, Int.emod_def, Int.mul_comm m.num (p.den : Int)]
  generalize (p.num * ↑m.den) / (↑p.den * m.num) = k
  have q1 : (p.den : Rat) ≠ 0 := by
    have := Rat.natCast_pos.mpr (den_pos p)
    exact Rat.ne_of_gt this
  have q2 : (m.den : Rat) ≠ 0 := by
    have := Rat.natCast_pos.mpr (den_pos m)
    exact Rat.ne_of_gt this
  have ep : p = (p.num : Rat) / (p.den : Rat) := by
    conv => lhs; rw [← Rat.num_divInt_den p, Rat.divInt_eq_div]
    rfl
  have em : m = (m.num : Rat) / (m.den : Rat) := by
    conv => lhs; rw [← Rat.num_divInt_den m, Rat.divInt_eq_div]
    rfl
  rw [Rat.divInt_eq_div]
  conv => lhs; rw [ep]
  conv => lhs; rhs; rw [em]
  simp only [Rat.intCast_sub, Rat.intCast_mul, Rat.intCast_natCast]
  grind
theorem rem_nonneg {p m : Rat} (hm : 0 < m) : 0 ≤ rem p m := by
  have h := Rat.floor_le (p / m)
  have h2 := Rat.mul_le_mul_of_nonneg_left h (Rat.le_of_lt hm)
  have e : m * (p / m) = p := by rw [Rat.mul_comm, Rat.div_mul_cancel (Rat.ne_of_gt hm)]
  rw [e] at h2
  unfold rem
  grind
theorem rem_lt {p m : Rat} (hm : 0 < m) : rem p m < m := by
  have h := Rat.lt_floor_add_one (p / m)
  have h2 := Rat.mul_lt_mul_of_pos_left h hm
  have e : m * (p / m) = p := by rw [Rat.mul_comm, Rat.div_mul_cancel (Rat.ne_of_gt hm)]
  rw [e, Rat.intCast_add] at h2
  unfold rem
  grind
theorem pos_num {m : Rat} (hm : 0 < m) : 0 < m.num := by
  have h := Rat.num_nonneg.mpr (Rat.le_of_lt hm)
  have h2 := num_ne (Rat.ne_of_gt hm)
  omega
theorem num_pos_iff {m : Rat} : 0 < m.num ↔ 0 < m := by
  refine ⟨fun h => ?_, pos_num⟩
  refine Rat.lt_of_le_of_ne (Rat.num_nonneg.mp (Int.le_of_lt h)) ?_
  intro e
  rw [← e] at h
  exact absurd h (by decide)
theorem num_neg_iff {m : Rat} : m.num < 0 ↔ m < 0 := by
  rw [← Rat.not_le, ← Rat.num_nonneg]
  omega
theorem Sz.rem {a b : Nat} {p m : Rat} (hp : Sz a p) (hq : Sz b m) (h : 0 < m) : Sz (a + b) (rem p m) := by
  have hn := pos_num h
  have d1 : (0 : Int) < p.den := by have := den_pos p; omega
  have hb : (0 : Int) < m.num * p.den := Int.mul_pos hn d1
  rw [rem_as h]
  refine sz_divInt (den_ne p m) ?_ ?_
  · have h1 := Int.emod_nonneg (p.num * m.den) (Int.ne_of_gt hb)
    have h2 := Int.emod_lt_of_pos (p.num * m.den) hb
    have h3 : (m.num * p.den).natAbs < 2 ^ (a + b) := by
      rw [Int.natAbs_mul, Int.natAbs_natCast, Nat.add_comm]
      exact mul_lt hq.1 hp.2
    omega
  · rw [Int.natAbs_mul, Int.natAbs_natCast, Int.natAbs_natCast]
    exact mul_lt hp.2 hq.2
end LR
set_option Elab.async false
set_option linter.all false
set_option maxRecDepth 100000
set_option maxHeartbeats 4000000
namespace LR
open PySem PySem.Spec PyProof.Rows L2

/-! ### kinds of values, and numbers among them -/
theorem sqt_ty {K : PySem.W.Frag} {H : Hp} {a : Addr} {xs : List V} (h : SqT K H a xs) : TyX K H (.ref a) (.type "tuple") := by
  rcases h with (h | ⟨o, h⟩) | ⟨o, its, m, hk, hc, _⟩
  · exact .base (.tup h)
  · exact .fTuple h
  · exact .kTuple hk hc
theorem sql_ty {K : PySem.W.Frag} {H : Hp} {a : Addr} {xs : List V} (h : SqL K H a xs) : TyX K H (.ref a) (.type "list") := by
  rcases h with (h | ⟨o, h⟩) | ⟨o, its, m, hk, hc, _⟩
  · exact .base (.lst h)
  · exact .base (.frz h)
  · exact .kList hk hc
theorem same_sqt {K : PySem.W.Frag} {H H' : Hp} {a : Addr} {xs : List V} (s : Same H H') (h : SqT K H a xs) : SqT K H' a xs := by
  rcases h with (h | ⟨o, h⟩) | h
  · exact .inl (.inl (s _ _ h))
  · exact .inl (.inr ⟨o, s _ _ h⟩)
  · exact .inr h
inductive Kd (K : PySem.W.Frag) (H : Hp) : V → String → Prop
  | non : Kd K H .non "NoneType"
  | bl (b : Bool) : Kd K H (.bl b) "bool"
  | int (i : Int) : Kd K H (.int i) "int"
  | str (x : Str) : Kd K H (.str x) "str"
  | lst {a : Addr} {xs : List V} (h : SqL K H a xs) : Kd K H (.ref a) "list"
  | tup {a : Addr} {xs : List V} (h : SqT K H a xs) : Kd K H (.ref a) "tuple"
  | dict {a : Addr} {kvs : List (Key × V)} (h : H a = some (.dK kvs)) : Kd K H (.ref a) "dict"
section
variable {K : PySem.W.Frag} {H H' : Hp} {x : V} {n : String}
theorem Kd.ty (h : Kd K H x n) : TyX K H x (.type n) := by
  cases h with
  | non => exact .base .non
  | bl b => exact .base (.bl b)
  | int i => exact .base (.int i)
  | str z => exact .base (.str z)
  | lst h => exact sql_ty h
  | tup h => exact sqt_ty h
  | dict h => exact .base (.dK h)
theorem Kd.tyB (h : Kd K H x n) : TyB K H x n := by
  cases h with
  | non => exact .non
  | bl b => exact .bl b
  | int i => exact .int i
  | str z => exact .str z
  | lst h => exact .lst h
  | tup h => exact .tup h
  | dict h => exact .dK h
def isI : V → Bool | .int _ => true | _ => false
theorem kd_int (h : Kd K H x n) : PySem.W.kitOne K (.type n) (.type "int") = some (n == "int" || n == "bool") := by
  cases h <;> exact kit_ty (by decide +kernel)
theorem kd_bool (h : Kd K H x n) : PySem.W.kitOne K (.type n) (.type "bool") = some (n == "bool") := by
  cases h <;> exact kit_ty (by decide +kernel)
theorem kd_tuple (h : Kd K H x n) : PySem.W.kitOne K (.type n) (.type "tuple") = some (n == "tuple") := by
  cases h <;> exact kit_ty (by decide +kernel)
theorem kd_list (h : Kd K H x n) : PySem.W.kitOne K (.type n) (.type "list") = some (n == "list") := by
  cases h <;> exact kit_ty (by decide +kernel)
theorem kd_dict (h : Kd K H x n) : PySem.W.kitOne K (.type n) (.type "dict") = some (n == "dict") := by
  cases h <;> exact kit_ty (by decide +kernel)
theorem kd_str (h : Kd K H x n) : PySem.W.kitOne K (.type n) (.type "str") = some (n == "str") := by
  cases h <;> exact kit_ty (by decide +kernel)
theorem kd_isI (h : Kd K H x n) : ((n == "int" || n == "bool") && !(n == "bool")) = isI x := by
  cases h <;> rfl
theorem Kd.same (s : Same H H') (h : Kd K H x n) : Kd K H' x n := by
  cases h with
  | non => exact .non
  | bl b => exact .bl b
  | int i => exact .int i
  | str z => exact .str z
  | lst h => exact .lst (s.seq h)
  | tup h => exact .tup (same_sqt s h)
  | dict h => exact .dict (s _ _ h)
theorem same_new {p : Addr} {o : HO} (h : H p = none) : Same H (upd H p o) := fun b y e => by
  rw [upd_ne (ne_of_none e h)]
  exact e

/-- the two places of a number's tuple -/
abbrev rt (q : Rat) : List V := [.int q.num, .int (q.den : Int)]
def ratOf : List V → Option Rat
  | [.int a, .int d] => if 1 ≤ d ∧ Nat.gcd a.natAbs d.natAbs = 1 then some (Rat.divInt a d) else none
  | _ => none
theorem ratOf_rt (q : Rat) : ratOf (rt q) = some q := by
  have h1 : (1 : Int) ≤ (q.den : Int) := by have := den_pos q; omega
  have h2 : Nat.gcd q.num.natAbs ((q.den : Int)).natAbs = 1 := q.reduced
  show (if 1 ≤ (q.den : Int) ∧ Nat.gcd q.num.natAbs ((q.den : Int)).natAbs = 1 then some (Rat.divInt q.num q.den) else none) = some q
  rw [if_pos ⟨h1, h2⟩, Rat.num_divInt_den]
theorem ratOf_some {xs : List V} {q : Rat} (h : ratOf xs = some q) : xs = rt q := by
  unfold ratOf at h
  split at h
  · rename_i a d
    split at h
    · rename_i c
      obtain ⟨c1, c2⟩ := c
      have e := Option.some.inj h
      subst e
      have g : d.gcd a = 1 := by
        show Nat.gcd d.natAbs a.natAbs = 1
        rw [Nat.gcd_comm]
        exact c2
      have e1 : (Rat.divInt a d).num = a := by
        rw [Rat.num_divInt, g, Int.sign_eq_one_of_pos (by omega)]
        simp
      have e2 : ((Rat.divInt a d).den : Int) = d := by
        rw [Rat.den_divInt, if_neg (by omega), g]
        simp
        omega
      show [V.int a, V.int d] = [V.int (Rat.divInt a d).num, V.int ((Rat.divInt a d).den : Int)]
      rw [e1, e2]
    · cases h
  · cases h
/-- an argument in the place of a number: some q where it is one -/
inductive Arg (K : PySem.W.Frag) (H : Hp) : V → Option Rat → Prop
  | int (i : Int) : Arg K H (.int i) (some (i : Rat))
  | tup {a : Addr} {xs : List V} {o : Option Rat} (h : SqT K H a xs) (k : xs.length = 2 → ∀ x ∈ xs, ∃ n, Kd K H x n) (e : ratOf xs = o) : Arg K H (.ref a) o
  | oth {x : V} {n : String} (h : Kd K H x n) (h1 : (n == "int") = false) (h2 : (n == "tuple") = false) : Arg K H x none
abbrev Num (K : PySem.W.Frag) (H : Hp) (x : V) (q : Rat) : Prop := Arg K H x (some q)
/-- a result: a tuple of the number's two places -/
def Rn (K : PySem.W.Frag) (H : Hp) (x : V) (q : Rat) : Prop := ∃ a, x = .ref a ∧ SqT K H a (rt q)
theorem Rn.num {q : Rat} (h : Rn K H x q) : Num K H x q := by
  obtain ⟨a, rfl, h⟩ := h
  refine .tup h (fun _ y hy => ?_) (ratOf_rt q)
  rcases List.mem_cons.mp hy with e | hy
  · exact ⟨"int", by rw [e]; exact .int _⟩
  · rcases List.mem_cons.mp hy with e | hy
    · exact ⟨"int", by rw [e]; exact .int _⟩
    · cases hy
theorem Arg.same {o : Option Rat} (s : Same H H') (h : Arg K H x o) : Arg K H' x o := by
  cases h with
  | int i => exact .int i
  | tup h k e => exact .tup (same_sqt s h) (fun l y hy => let ⟨m, z⟩ := k l y hy; ⟨m, z.same s⟩) e
  | oth h h1 h2 => exact .oth (h.same s) h1 h2
theorem Rn.same {q : Rat} (s : Same H H') (h : Rn K H x q) : Rn K H' x q := let ⟨a, e, z⟩ := h; ⟨a, e, same_sqt s z⟩
theorem Num.kinds {q : Rat} (h : Num K H x q) : (x = .int q.num ∧ q.den = 1) ∨ Rn K H x q := by
  cases h with
  | int i => exact .inl ⟨rfl, rfl⟩
  | tup h k e => exact .inr ⟨_, rfl, ratOf_some e ▸ h⟩
theorem Rn.mk {q : Rat} {p : Addr} : Rn K (upd H p (.tup (rt q))) (.ref p) q := ⟨p, rfl, .inl (.inl upd_same)⟩
theorem num_int (i : Int) : Num K H (.int i) (i : Rat) := .int i
end

/-! ### operations on great ints -/
def CDivA (_ j : Int) : Prop := j ≠ 0 ∧ j.natAbs.log2 < 9000
section
variable {X : Cx}
theorem op_fdivA : OpR X (binaryOp .FloorDiv) (rI CDivA fun i j => .int (i.fdiv j)) := opI fun i j _ _ _ _ _ hc q =>
  floordiv_int hc.1 q (.inl (PyProof.noPylong_of_log2 hc.2))
end
theorem divA {i j : Int} {b : Nat} (h : j ≠ 0) (hb : j.natAbs < 2 ^ b) (h0 : 0 < b) (h9 : b ≤ 9000) : CDivA i j := ⟨h, Nat.lt_of_lt_of_le (PySem.Flt.log2_lt_of h0 hb) h9⟩

/-! ### raise X(), no argument -/
section
variable {X : Cx} {C : Addr} {bmB : List Value} {B newId initId : String}
theorem pmk_own0 {x : Str} {p pos : Pos} (F : ExcBaseFacts B newId initId bmB) (q : PySem.W.excIn X.K C bmB newId = true) (gC : X.mg x = some (.ref C)) (kC : PySem.W.keepIn X.K (.ref C) = true) (r : Raises X (.ref C)) (hg : Gl X x)
    (hdb : (x == ("__debug__" : Str)) = false := by decide) : PMk X (.Call (.Name x p) [] [] pos) (fun _ H Q => Q (.ref C) none H) := by
  intro pins s σ H Q I h
  refine wpAny_Call_Name_kw (ld_glob I hg gC ?_ hdb)
  refine PySem.W.callWith_K0 I.kIn kC ?_
  obtain ⟨bm, N, nm, qn, bs, hdct, sn, sub, ab, col, dd, k0, k1, k2, k3, k5, mN, hC, hN, hni, T⟩ := exc_obj I.kIn q
  refine wpAny_call_exc_subT F T hC hN hni (fun h' e hm => ?_) (Nat.zero_le _)
  exact mk_of I hm r h (I.hok.gone hm.new)
end

/-- the same where the exception's context is told, and its record -/
theorem pmk5_own0 {X : Cx} {C : Addr} {bmB : List Value} {B newId initId : String} {x : Str} {p pos : Pos} (F : ExcBaseFacts B newId initId bmB) (q : PySem.W.excIn X.K C bmB newId = true) (gC : X.mg x = some (.ref C)) (kC : PySem.W.keepIn X.K (.ref C) = true) (r : Raises X (.ref C)) (hg : Gl X x)
    (hdb : (x == ("__debug__" : Str)) = false := by decide) : L2H.PMk5 X (.Call (.Name x p) [] [] pos) (fun _ H Q => Q (.ref C) none H) := by
  intro pins s σ H Q I h
  refine wpAny_Call_Name_kw (ld_glob I hg gC ?_ hdb)
  refine PySem.W.callWith_K0 I.kIn kC ?_
  obtain ⟨bm, N, nm, qn, bs, hdct, sn, sub, ab, col, dd, k0, k1, k2, k3, k5, mN, hC, hN, hni, T⟩ := exc_obj I.kIn q
  exact wpAny_call_exc_subT F T hC hN hni (fun h' e hm => L2H.mk_of5 I hm r h (I.hok.gone hm.new)) (Nat.zero_le _)

/-! ### the text: defs and error classes as the top has left them -/
/-- a def of the text (no defaults) under its name -/
structure DefAt (K : PySem.W.Frag) (mg : Str → Option Value) (x : Str) (st : Stmt) (ps : List Str) (f : Addr) (fd : FuncData) : Prop where
  F : Fun K x x st f fd
  g : mg x = some (.ref f)
  b : Binds K fd ps []
/-- an own error class without __init__ over the built-in class whose new is named, bm its line of bases -/
structure ErrAt (K : PySem.W.Frag) (mg : Str → Option Value) (x : Str) (bm : List Value) (newId : String) (C : Addr) : Prop where
  g : mg x = some (.ref C)
  k : PySem.W.keepIn K (.ref C) = true
  q : PySem.W.excIn K C bm newId = true
  b : PySem.W.subIn K (.ref C) (.type "BaseException") = some true
  t : PySem.W.typeIn K (.ref C) = some (.type "type")
theorem ErrAt.mk0 {X : Cx} {x : Str} {bm : List Value} {B newId initId : String} {C : Addr} {p pos : Pos} (T : ErrAt X.K X.mg x bm newId C) (F : ExcBaseFacts B newId initId bm) (hg : Gl X x) (hdb : (x == ("__debug__" : Str)) = false := by decide) :
    PMk X (.Call (.Name x p) [] [] pos) (fun _ H Q => Q (.ref C) none H) := pmk_own0 F T.q T.g T.k (raises_own T.b T.t) hg hdb
theorem ErrAt.mk5 {X : Cx} {x : Str} {bm : List Value} {B newId initId : String} {C : Addr} {p pos : Pos} (T : ErrAt X.K X.mg x bm newId C) (F : ExcBaseFacts B newId initId bm) (hg : Gl X x) (hdb : (x == ("__debug__" : Str)) = false := by decide) :
    L2H.PMk5 X (.Call (.Name x p) [] [] pos) (fun _ H Q => Q (.ref C) none H) := pmk5_own0 F T.q T.g T.k (raises_own T.b T.t) hg hdb
/-! ### what a def lets out whose exceptions have no context -/
section
variable {P : Program} {w : World} {K : PySem.W.Frag} {mg : Str → Option Value} {base : Heap} {k : Nat} {f : Addr} {fd : FuncData} {ps : List Str} {sp : Sp}
abbrev CXn (P : Program) (w : World) : CXT := L2N.CX P w
theorem cxn_up {outer : List Env} {H : Hp} {s : Shared} {E : XK} {u : Value} {s' : Shared} (h : CXn P w outer H s E u s') : L2.CX P w outer H s E u s' := by
  obtain ⟨a, B, H', cls, d, e, fl, r⟩ := h
  exact ⟨a, B, H', cls, d, e, L2H.flyingZ_imp (fun _ z => z.zc) fl, r⟩
theorem up (F : FnOk P w K mg base (CXn P w) k f fd ps sp) : FnOk P w K mg base (L2.CX P w) k f fd ps sp :=
  ⟨F.len, fun A outer s H args us vs Q E hr e0 hb hv hs => codeAny_mono (F.run A outer s H args us vs Q E hr e0 hb hv hs) fun r s' h => by
    cases r with
    | error e => exact cxn_up h
    | ok fl => cases fl <;> exact h⟩
theorem _root_.L2.Fun.okN {x qual : Str} {st : Stmt} {N : List Str} (F : Fun K x qual st f fd) (S : FnScope N ps (defScope st)) (len : ∀ vs H Q E, sp vs H Q E → vs.length = ps.length)
    (body : ∀ (cdv : Value) (A : Around) (outer : List Env) (s : Shared) (H : Hp) (vs : List V) (Q : VK) (E : XK), Room k (A.deeper (envOfC qual (defScope st) s.heap.objs.size f cdv)) → sp vs H Q E →
      ∃ t, PSs (cxOf (CXn P w) P w K mg base N qual (defScope st) f cdv A outer s H E) (defBody st) t ∧ t { nx := fun _ H' => Q .non H', rt := Q } (start N vs) H) : FnOk P w K mg base (CXn P w) (k + 1) f fd ps sp := by
  obtain ⟨oc, od, kV, doc, pm, an, cdv, ct, osl, rfl, lk, hcd⟩ := F.ex
  exact fn_of lk hcd S len fun A outer s H vs Q E hr hsp => body cdv A outer s H vs Q E hr hsp
end
theorem passN {X : Cx} : Passes (CXn X.prog X.w) X E0 := fun _ _ _ _ _ _ _ h => by
  obtain ⟨_, _, _, _, _, _, _, _, _, _, _, _, z⟩ := h
  exact z.elim
end LR
set_option Elab.async false
set_option linter.all false
set_option maxRecDepth 100000
set_option maxHeartbeats 4000000
namespace LR
open PySem PySem.Spec PyProof.Rows L2
def topS (i : Nat) : Stmt := PySem.Challenge.pw_laprunners_k01_arithmetic.main.body.getD i (.Pass ⟨0, 0, 0, 0⟩)
abbrev s_is_integer : Stmt := topS 6
abbrev s_is_ratio : Stmt := topS 7
abbrev s_as_ratio : Stmt := topS 8
abbrev s_reduced : Stmt := topS 9
abbrev s_ratio : Stmt := topS 10
abbrev s_plus : Stmt := topS 11
abbrev s_minus : Stmt := topS 12
abbrev s_times : Stmt := topS 13
abbrev s_divided : Stmt := topS 14
abbrev s_compare : Stmt := topS 15
abbrev s_floor_of : Stmt := topS 16
abbrev s_remainder : Stmt := topS 17
abbrev s_in_order : Stmt := topS 18
abbrev s_ascending : Stmt := topS 19
abbrev s_inserted : Stmt := topS 20
abbrev s_ranked : Stmt := topS 21
abbrev s_law_pool : Stmt := topS 23
abbrev s_law_draw : Stmt := topS 24
abbrev s_law_choose : Stmt := topS 25
abbrev s_law_divisor : Stmt := topS 26
abbrev s_law_integer : Stmt := topS 27
abbrev s_law_pair : Stmt := topS 28
abbrev s_law_value : Stmt := topS 29
abbrev s_law_is : Stmt := topS 30
abbrev s_law_sorted_right : Stmt := topS 31
abbrev s_law : Stmt := topS 32
end LR
set_option Elab.async false
set_option linter.all false
set_option maxRecDepth 100000
set_option maxHeartbeats 4000000
namespace LR
open PySem PySem.Spec PyProof.Rows L2
theorem sc_is_integer : FnScope ["value"] ["value"] (defScope s_is_integer) := ⟨rfl, rfl, rfl, by decide +kernel, rfl, by decide +kernel, by decide +kernel⟩
theorem sc_is_ratio : FnScope ["value", "top", "bottom"] ["value"] (defScope s_is_ratio) := ⟨rfl, rfl, rfl, by decide +kernel, rfl, by decide +kernel, by decide +kernel⟩
theorem sc_as_ratio : FnScope ["value", "top", "bottom"] ["value"] (defScope s_as_ratio) := ⟨rfl, rfl, rfl, by decide +kernel, rfl, by decide +kernel, by decide +kernel⟩
theorem sc_reduced : FnScope ["top", "bottom", "divisor"] ["top", "bottom"] (defScope s_reduced) := ⟨rfl, rfl, rfl, by decide +kernel, rfl, by decide +kernel, by decide +kernel⟩
section
variable {P : Program} {w : World} {K : PySem.W.Frag} {mg : Str → Option Value} {base : Heap}
abbrev CXl (P : Program) (w : World) : CXT := L2.CX P w
/-! ### is_integer -/
def spII (K : PySem.W.Frag) : Sp := fun vs H Q _ => ∃ (x : V) (n : String), vs = [x] ∧ Kd K H x n ∧ Q (.bl (isI x)) H
theorem ok_II {f : Addr} {fd : FuncData} (F : Fun K "is_integer" "is_integer" s_is_integer f fd) (mi : mg "isinstance" = none) (m1 : mg "int" = none) (m2 : mg "bool" = none) : FnOk P w K mg base (CXn P w) 1 f fd ["value"] (spII K) := by
  refine F.okN sc_is_integer (fun vs H Q E h => ?_) (fun cdv A outer s H vs Q E hr h => ?_)
  · obtain ⟨x, n, rfl, _⟩ := h
    rfl
  · obtain ⟨x, n, rfl, hk, q⟩ := h
    refine ⟨_, pss_one (ps_ret (pe_and (pe_callB call_isi (by rfl) mi (by decide +kernel) (pa_cons (pv 0) (pa_cons (pe_bltn (v := .ty "int") (by rfl) m1 (by decide +kernel) rfl) pa_nil)))
      (pe_one (pe_not (pe_callB call_isi (by rfl) mi (by decide +kernel) (pa_cons (pv 0) (pa_cons (pe_bltn (v := .ty "bool") (by rfl) m2 (by decide +kernel) rfl) pa_nil))))))), ?_⟩
    have e := kd_isI hk
    refine ⟨x, rfl, x, _, _, _, _, rfl, .ty "int", hk.ty, kd_int hk, _, rfl, ite2 (fun c => ?_) (fun c => ?_)⟩
    · refine ⟨x, rfl, x, _, _, _, _, rfl, .ty "bool", hk.ty, kd_bool hk, _, rfl, ?_⟩
      rw [c, Bool.true_and] at e
      rw [e]
      exact q
    · have c' := Bool.not_eq_true _ ▸ c
      rw [c', Bool.false_and] at e
      rw [e]
      exact q
/-! ### is_ratio -/
def isRef : V → Bool | .ref _ => true | _ => false
def spIR (K : PySem.W.Frag) : Sp := fun vs H Q _ => ∃ (x : V) (o : Option Rat), vs = [x] ∧ Arg K H x o ∧ Q (.bl (isRef x && o.isSome)) H
theorem ratOf_len {xs : List V} (h : xs.length ≠ 2) : ratOf xs = none := by
  match xs, h with
  | [], _ => rfl
  | [_], _ => unfold ratOf; split <;> simp_all
  | [_, _], h => exact absurd rfl h
  | _ :: _ :: _ :: _, _ => unfold ratOf; split <;> simp_all
theorem ratOf_no0 {x0 x1 : V} (h : isI x0 = false) : ratOf [x0, x1] = none := by
  unfold ratOf
  split
  · rename_i e
    cases e
    cases h
  · rfl
theorem ratOf_no1 {x0 x1 : V} (h : isI x1 = false) : ratOf [x0, x1] = none := by
  unfold ratOf
  split
  · rename_i e
    cases e
    cases h
  · rfl
theorem ratOf_ii {i j : Int} : (ratOf [.int i, .int j]).isSome = (decide (1 ≤ j) && decide (Nat.gcd i.natAbs j.natAbs = 1)) := by
  show (if 1 ≤ j ∧ Nat.gcd i.natAbs j.natAbs = 1 then some (Rat.divInt i j) else none).isSome = _
  by_cases c : 1 ≤ j
  · by_cases d : Nat.gcd i.natAbs j.natAbs = 1
    · simp [c, d]
    · simp [c, d]
  · simp [c]
theorem isSome_no {o : Option Rat} (h : o.isSome = false) : o = none := by
  cases o with
  | none => rfl
  | some _ => cases h
theorem isI_int {x : V} (h : isI x = true) : ∃ i, x = .int i := by
  cases x <;> first | exact ⟨_, rfl⟩ | cases h
theorem gcd_eq1 {i j : Int} : decide (V.int ((Nat.gcd i.natAbs j.natAbs : Nat) : Int) = V.int 1) = decide (Nat.gcd i.natAbs j.natAbs = 1) := by
  apply decide_eq_decide.mpr
  rw [V.int.injEq]
  omega
theorem len_ne2 {n : Nat} (h : n ≠ 2) : decide (V.int ((n : Nat) : Int) = V.int 2) = false := by
  rw [decide_eq_false]
  rw [V.int.injEq]
  omega
theorem ok_IR {f fI : Addr} {fd dI : FuncData} (F : Fun K "is_ratio" "is_ratio" s_is_ratio f fd) (DI : DefAt K mg "is_integer" s_is_integer ["value"] fI dI) (mi : mg "isinstance" = none) (m3 : mg "tuple" = none)
    (ml : mg "len" = none) (mgc : mg "gcd" = some (.builtin "math.gcd")) (GI : FnOk P w K mg base (CXn P w) 1 fI dI ["value"] (spII K)) : FnOk P w K mg base (CXn P w) 2 f fd ["value"] (spIR K) := by
  refine F.okN sc_is_ratio (fun vs H Q E h => ?_) (fun cdv A outer s H vs Q E hr h => ?_)
  · obtain ⟨x, n, rfl, _⟩ := h
    rfl
  · obtain ⟨x, o, rfl, ha, q⟩ := h
    refine ⟨_, pss_cons (ps_if (PW.pt (pw_or (pt_not (pt_val (pe_callB call_isi (by rfl) mi (by decide +kernel) (pa_cons (pv 0) (pa_cons (pe_bltn (v := .ty "tuple") (by rfl) m3 (by decide +kernel) rfl) pa_nil)))))
        (pw_or1 (pt_cmpR op_ne (pe_callB call_len_seq (by rfl) ml PySem.boot_len (pa_cons (pv 0) pa_nil)) pe_int (nomark _))))) (pss_one (ps_ret pe_bl)) pss_nil)
      (pss_cons (ps_asg (pv 0) (pg_tup rfl (pgs_cons (pg_name (i := 1) sc_is_ratio.nd rfl (.inl rfl)) (pgs_cons (pg_name (i := 2) sc_is_ratio.nd rfl (.inl rfl)) pgs_nil))))
      (pss_one (ps_ret (pe_and (pe_call GI hr (by rfl) DI.g DI.F.kp DI.b .nil passN (pa_cons (pv 1) pa_nil)) (pe_and (pe_call GI hr (by rfl) DI.g DI.F.kp DI.b .nil passN (pa_cons (pv 2) pa_nil))
        (pe_and (pe_cmpR op_ge (pv 2) pe_int (nomark _)) (pe_one (pe_cmpR op_eq (pe_callBfun cr_gcd (by rfl) mgc (pa_cons (pv 1) (pa_cons (pv 2) pa_nil))) pe_int (nomark _))))))))), ?_⟩
    cases ha with
    | int i =>
      refine ⟨_, rfl, _, _, _, _, _, rfl, .ty "tuple", (Kd.int i).ty, kd_tuple (H := H) (.int i), _, rfl, ?_⟩
      exact q
    | oth hk n1 n2 =>
      refine ⟨_, rfl, _, _, _, _, _, rfl, .ty "tuple", hk.ty, kd_tuple hk, _, rfl, ?_⟩
      rw [n2]
      rw [show (isRef x && (none : Option Rat).isSome) = false from Bool.and_false _] at q
      exact q
    | @tup a xs _ ht hk e =>
      refine ⟨_, rfl, _, _, _, _, _, rfl, .ty "tuple", sqt_ty ht, kd_tuple (.tup ht), _, rfl, ?_⟩
      refine ⟨.ref a, rfl, a, xs, rfl, .inr ht, rfl, _, rfl, ?_⟩
      subst e
      by_cases hl : xs.length = 2
      · obtain ⟨x0, x1, rfl⟩ : ∃ x0 x1, xs = [x0, x1] := by
          match xs, hl with
          | [x0, x1], _ => exact ⟨x0, x1, rfl⟩
        obtain ⟨n0, k0⟩ := hk rfl x0 (by simp)
        obtain ⟨n1, k1⟩ := hk rfl x1 (by simp)
        refine iteF ?_
        refine ⟨.ref a, rfl, a, _, rfl, ht, rfl, x0, _, rfl, x1, _, rfl, rfl, ?_⟩
        refine ⟨x0, rfl, x0, n0, rfl, k0, _, rfl, ?_⟩
        refine ite2 (fun c => ?_) (fun c => ?_)
        · refine ⟨x1, rfl, x1, n1, rfl, k1, _, rfl, ?_⟩
          refine ite2 (fun c1 => ?_) (fun c1 => ?_)
          · obtain ⟨i0, rfl⟩ := isI_int c
            obtain ⟨i1, rfl⟩ := isI_int c1
            rw [show isRef (.ref a) = true from rfl, Bool.true_and, ratOf_ii] at q
            refine ⟨_, rfl, i1, 1, rfl, rfl, _, rfl, ite2 (fun c => ?_) (fun c => ?_)⟩
            · have c3 : decide ((1 : Int) ≤ i1) = true := c
              refine ⟨_, rfl, _, rfl, i0, i1, rfl, rfl, ?_⟩
              rw [c3, Bool.true_and] at q
              rw [gcd_eq1]
              exact q
            · have c3 : decide ((1 : Int) ≤ i1) = false := by simpa using c
              rw [c3, Bool.false_and] at q
              exact q
          · have c2 : isI x1 = false := by simpa using c1
            rw [ratOf_no1 c2] at q
            exact q
        · have c2 : isI x0 = false := by simpa using c
          rw [ratOf_no0 c2] at q
          exact q
      · rw [ratOf_len hl] at q
        refine ite2 (fun _ => q) (fun c => absurd (by rw [len_ne2 hl]; rfl) c)
/-! ### is_number -/
def spIN (K : PySem.W.Frag) : Sp := fun vs H Q _ => ∃ (x : V) (o : Option Rat), vs = [x] ∧ Arg K H x o ∧ Q (.bl o.isSome) H
theorem Arg.kd {H : Hp} {x : V} {o : Option Rat} (h : Arg K H x o) : ∃ n, Kd K H x n := by
  cases h with
  | int i => exact ⟨_, .int i⟩
  | tup h _ _ => exact ⟨_, .tup h⟩
  | oth h _ _ => exact ⟨_, h⟩
theorem kd_noI {H : Hp} {x : V} {n : String} (h : Kd K H x n) (e : (n == "int") = false) : isI x = false := by
  cases h <;> first | rfl | cases e
/-! ### as_ratio -/
/-- what is promised of a def that hands back a number, or raises the error at C -/
def Gives (K : PySem.W.Frag) (C : Addr) (o : Option Rat) (H : Hp) (Q : VK) (E : XK) : Prop := match o with
  | some q => ∀ v H', Same H H' → Rn K H' v q → Q v H'
  | none => E (.ref C) none H
def spAR (K : PySem.W.Frag) (C : Addr) : Sp := fun vs H Q E => ∃ (x : V) (o : Option Rat), vs = [x] ∧ Arg K H x o ∧ Gives K C o H Q E
abbrev BMv : List Value := [.type "ValueError", .type "Exception", .type "BaseException", .type "object"]
abbrev BMa : List Value := [.type "ArithmeticError", .type "Exception", .type "BaseException", .type "object"]
theorem kd_tup_ref {H : Hp} {x : V} {n : String} (h : Kd K H x n) : decide (n = "tuple") = (n == "tuple") := by
  cases h <;> rfl
theorem kd_int_ty {H : Hp} {x : V} {n : String} (h : Kd K H x n) : decide (n = "int") = isI x := by
  cases h <;> rfl
theorem ok_AR {f fI fR C : Addr} {fd dI dR : FuncData} (F : Fun K "as_ratio" "as_ratio" s_as_ratio f fd) (DI : DefAt K mg "is_integer" s_is_integer ["value"] fI dI) (DR : DefAt K mg "is_ratio" s_is_ratio ["value"] fR dR) (X : ErrAt K mg "InvalidNumber" BMv "ValueError.__new__" C)
    (mt : mg "type" = none) (m1 : mg "int" = none) (m3 : mg "tuple" = none) (ml : mg "len" = none) (mgc : mg "gcd" = some (.builtin "math.gcd"))
    (GI : FnOk P w K mg base (CXn P w) 1 fI dI ["value"] (spII K)) (GR : FnOk P w K mg base (CXn P w) 2 fR dR ["value"] (spIR K)) : FnOk P w K mg base (CXn P w) 3 f fd ["value"] (spAR K C) := by
  refine F.okN sc_as_ratio (fun vs H Q E h => ?_) (fun cdv A outer s H vs Q E hr h => ?_)
  · obtain ⟨x, o, rfl, _⟩ := h
    rfl
  · obtain ⟨x, o, rfl, ha, q⟩ := h
    refine ⟨_, C8.pss_cut (ps_if (PW.pt (pw_and (pt_cmpR op_isTyB (pe_callTy call_type1 (by rfl) mt (by decide +kernel) (pa_cons (pv 0) pa_nil)) (pe_bltn (v := .ty "tuple") (by rfl) m3 (by decide +kernel) rfl) (nomark _))
          (pw_and1 (pt_cmpR op_eq (pe_callB call_len_seq (by rfl) ml PySem.boot_len (pa_cons (pv 0) pa_nil)) pe_int (nomark _)))))
        (pss_cons (ps_asg (pv 0) (pg_tup rfl (pgs_cons (pg_name (i := 1) sc_as_ratio.nd rfl (.inl rfl)) (pgs_cons (pg_name (i := 2) sc_as_ratio.nd rfl (.inl rfl)) pgs_nil))))
        (pss_one (ps_if (PW.pt (pw_and (pt_cmpR op_isTyB (pe_callTy call_type1 (by rfl) mt (by decide +kernel) (pa_cons (pv 1) pa_nil)) (pe_bltn (v := .ty "int") (by rfl) m1 (by decide +kernel) rfl) (nomark _))
            (pw_and (pt_cmpR op_isTyB (pe_callTy call_type1 (by rfl) mt (by decide +kernel) (pa_cons (pv 2) pa_nil)) (pe_bltn (v := .ty "int") (by rfl) m1 (by decide +kernel) rfl) (nomark _))
            (pw_and (pt_cmpR op_ge (pv 2) pe_int (nomark _)) (pw_and1 (pt_cmpR op_eq (pe_callBfun cr_gcd (by rfl) mgc (pa_cons (pv 1) (pa_cons (pv 2) pa_nil))) pe_int (nomark _)))))))
          (pss_one (ps_ret (pv 0))) pss_nil)))
        (pss_one (ps_if (pt_cmpR op_isTyB (pe_callTy call_type1 (by rfl) mt (by decide +kernel) (pa_cons (pv 0) pa_nil)) (pe_bltn (v := .ty "int") (by rfl) m1 (by decide +kernel) rfl) (nomark _))
          (pss_one (ps_ret (pe_tup (pa_cons (pv 0) (pa_cons pe_int pa_nil))))) pss_nil)))
      (pss_cons (ps_if (pt_val (pe_call GI (hr.mono (by decide)) (by rfl) DI.g DI.F.kp DI.b .nil passN (pa_cons (pv 0) pa_nil))) (pss_one (ps_ret (pe_tup (pa_cons (pv 0) (pa_cons pe_int pa_nil))))) pss_nil)
      (pss_cons (ps_if (pt_val (pe_call GR hr (by rfl) DR.g DR.F.kp DR.b .nil passN (pa_cons (pv 0) pa_nil))) (pss_one (ps_ret (pv 0))) pss_nil)
      (pss_one (L2N.ps_raise rfl (L2N.takes_of rfl rfl rfl rfl) (L2H.PMk5.pmk (X.mk5 PySem.F.excBase_ValueError rfl)))))), ?_⟩
    refine ⟨fun σ' H' => H' = H ∧ isI x = false ∧ o = none ∧ ∃ o1 o2, σ' = [some x, o1, o2], ?_, ?_⟩
    · cases ha with
      | int i =>
        refine ⟨_, rfl, _, _, rfl, (Kd.int (K := K) (H := H) i).tyB, _, _, rfl, rfl, _, rfl, ite2 (fun c => absurd c (by decide)) (fun _ => ?_)⟩
        refine ⟨_, rfl, _, _, rfl, (Kd.int (K := K) (H := H) i).tyB, _, _, rfl, rfl, _, rfl, ite2 (fun _ => ?_) (fun c => absurd (by decide) c)⟩
        refine ⟨_, rfl, by show 2 ≤ sizeLine; decide, fun p np => ?_⟩
        exact q _ _ (same_new np) (Rn.mk (q := (i : Rat)))
      | oth hk n1 n2 =>
        refine ⟨_, rfl, _, _, rfl, hk.tyB, _, _, rfl, rfl, _, rfl, ite2 (fun c => absurd c (by rw [kd_tup_ref hk, n2]; decide)) (fun _ => ?_)⟩
        refine ⟨_, rfl, _, _, rfl, hk.tyB, _, _, rfl, rfl, _, rfl, ite2 (fun c => absurd c (by rw [kd_int_ty hk, kd_noI hk n1]; decide)) (fun _ => ?_)⟩
        exact ⟨rfl, kd_noI hk n1, rfl, none, none, rfl⟩
      | @tup a xs _ ht hk e =>
        refine ⟨_, rfl, _, _, rfl, .tup ht, _, _, rfl, rfl, _, rfl, ite2 (fun _ => ?_) (fun c => absurd (by decide) c)⟩
        refine ⟨.ref a, rfl, a, xs, rfl, .inr ht, rfl, _, rfl, ?_⟩
        subst e
        by_cases hl : xs.length = 2
        · obtain ⟨x0, x1, rfl⟩ : ∃ x0 x1, xs = [x0, x1] := by
            match xs, hl with
            | [x0, x1], _ => exact ⟨x0, x1, rfl⟩
          obtain ⟨n0, k0⟩ := hk rfl x0 (by simp)
          obtain ⟨n1, k1⟩ := hk rfl x1 (by simp)
          refine iteT ?_
          refine ⟨.ref a, rfl, a, _, rfl, ht, rfl, x0, _, rfl, x1, _, rfl, rfl, ?_⟩
          refine ⟨_, rfl, _, _, rfl, k0.tyB, _, _, rfl, rfl, _, rfl, ?_⟩
          rw [kd_int_ty k0]
          refine ite2 (fun c0 => ?_) (fun c0 => ?_)
          · refine ⟨_, rfl, _, _, rfl, k1.tyB, _, _, rfl, rfl, _, rfl, ?_⟩
            rw [kd_int_ty k1]
            refine ite2 (fun c1 => ?_) (fun c1 => ?_)
            · obtain ⟨i0, rfl⟩ := isI_int c0
              obtain ⟨i1, rfl⟩ := isI_int c1
              have e2 := ratOf_ii (i := i0) (j := i1)
              refine ⟨_, rfl, i1, 1, rfl, rfl, _, rfl, ite2 (fun c => ?_) (fun c => ?_)⟩
              · have c3 : decide ((1 : Int) ≤ i1) = true := c
                refine ⟨_, rfl, _, rfl, i0, i1, rfl, rfl, _, rfl, ?_⟩
                rw [gcd_eq1]
                rw [c3, Bool.true_and] at e2
                refine ite2 (fun c => ?_) (fun c => ?_)
                · rw [c] at e2
                  obtain ⟨r, er⟩ := Option.isSome_iff_exists.mp e2
                  refine ⟨.ref a, rfl, ?_⟩
                  rw [er] at q
                  exact q _ _ (Same.refl _) ⟨a, rfl, ratOf_some er ▸ ht⟩
                · rw [Bool.eq_false_iff.mpr c] at e2
                  exact ⟨rfl, rfl, isSome_no e2, _, _, rfl⟩
              · have c3 : decide ((1 : Int) ≤ i1) = false := by simpa using c
                rw [c3, Bool.false_and] at e2
                exact ⟨rfl, rfl, isSome_no e2, _, _, rfl⟩
            · exact ⟨rfl, rfl, ratOf_no1 (by simpa using c1), _, _, rfl⟩
          · exact ⟨rfl, rfl, ratOf_no0 (by simpa using c0), _, _, rfl⟩
        · refine ite2 (fun c => absurd c (by rw [len_ne2 hl]; decide)) (fun _ => ?_)
          exact ⟨_, rfl, _, _, rfl, .tup ht, _, _, rfl, rfl, _, rfl, ite2 (fun c => absurd c (by decide)) (fun _ => ⟨rfl, rfl, ratOf_len hl, none, none, rfl⟩)⟩
    · rintro σ' H' ⟨rfl, e1, rfl, o1, o2, rfl⟩
      obtain ⟨n, hk⟩ := ha.kd
      refine ⟨x, rfl, x, n, rfl, hk, _, rfl, ?_⟩
      rw [e1]
      refine iteF ⟨x, rfl, x, none, rfl, ha, _, rfl, ?_⟩
      exact ite2 (fun c => absurd c (by simp)) (fun _ => q)
end
end LR
set_option Elab.async false
set_option linter.all false
set_option maxRecDepth 100000
set_option maxHeartbeats 4000000
set_option exponentiation.threshold 100000
namespace LR
open PySem PySem.Spec PyProof.Rows L2
/-! ### sizes of products -/
theorem p78 : 2 ^ 7800 < 2 ^ 8000 := Nat.pow_lt_pow_right (by decide) (by decide)
theorem wm {x y : Int} (hx : x.natAbs < 2 ^ 3900) (hy : y.natAbs < 2 ^ 3900) : CMulW x y := wide_mul hx hy (by decide) (by decide) (by decide)
theorem szM {x y : Int} (hx : x.natAbs < 2 ^ 3900) (hy : y.natAbs < 2 ^ 3900) : (x * y).natAbs < 2 ^ 7800 := wide_lt hx hy
theorem szA {x y : Int} (hx : x.natAbs < 2 ^ 7800) (hy : y.natAbs < 2 ^ 7800) : (x + y).natAbs < 2 ^ 8000 :=
  Nat.lt_trans (Nat.lt_of_le_of_lt (Int.natAbs_add_le _ _) (add_lt hx hy)) (Nat.pow_lt_pow_right (by decide) (by decide))
theorem szB {x y : Int} (hx : x.natAbs < 2 ^ 7800) (hy : y.natAbs < 2 ^ 7800) : (x - y).natAbs < 2 ^ 8000 := by
  rw [Int.sub_eq_add_neg]
  exact szA hx (by rw [Int.natAbs_neg]; exact hy)
theorem sdiv_pos {n d : Int} (hd : 0 < d) : sdiv n d = ((Nat.gcd n.natAbs d.natAbs : Nat) : Int) := by
  unfold sdiv
  rw [if_neg (by omega)]
theorem fdiv_one (n : Int) : n.fdiv 1 = n := by
  rw [Int.fdiv_eq_ediv_of_nonneg _ (by decide), Int.ediv_one]
theorem den_pos2 (p q : Rat) : (0 : Int) < (p.den : Int) * q.den := by
  have h1 := den_pos p
  have h2 := den_pos q
  exact Int.mul_pos (by omega) (by omega)
section
variable {P : Program} {w : World} {K : PySem.W.Frag} {mg : Str → Option Value} {base : Heap}
/-! ### reduced -/
def spRd (K : PySem.W.Frag) : Sp := fun vs H Q _ => ∃ n d : Int, vs = [.int n, .int d] ∧ 0 < d ∧ (n.natAbs < 2 ^ 8000 ∧ d.natAbs < 2 ^ 8000) ∧ ∀ v H', Same H H' → Rn K H' v (Rat.divInt n d) → Q v H'
theorem ok_Rd {f : Addr} {fd : FuncData} (F : Fun K "reduced" "reduced" s_reduced f fd) (mgc : mg "gcd" = some (.builtin "math.gcd")) : FnOk P w K mg base (CXn P w) 1 f fd ["top", "bottom"] (spRd K) := by
  refine F.okN sc_reduced (fun vs H Q E h => ?_) (fun cdv A outer s H vs Q E hr h => ?_)
  · obtain ⟨n, d, rfl, _⟩ := h
    rfl
  · obtain ⟨n, d, rfl, hd, ⟨hn, hdd⟩, q⟩ := h
    refine ⟨_, pss_cons (ps_set (i := 2) sc_reduced.nd rfl (.inl rfl) (pe_callBfun cr_gcd (by rfl) mgc (pa_cons (pv 0) (pa_cons (pv 1) pa_nil))))
      (pss_cons (ps_if (pt_cmpR op_eq (pv 2) pe_int (nomark _)) (pss_one (ps_ret (pe_tup (pa_cons (pv 0) (pa_cons (pv 1) pa_nil))))) pss_nil)
      (pss_one (ps_ret (pe_tup (pa_cons (pe_op op_fdivA (pv 0) (pv 2)) (pa_cons (pe_op op_fdivA (pv 1) (pv 2)) pa_nil)))))), ?_⟩
    have hd0 : d ≠ 0 := by omega
    have e1 := sdiv_num (n := n) hd0
    have e2 := sdiv_den (n := n) hd0
    have g0 := gcd_pos (n := n) hd0
    have gl := Nat.gcd_le_right n.natAbs (Int.natAbs_pos.mpr hd0)
    rw [sdiv_pos hd] at e1 e2
    refine ⟨_, rfl, _, rfl, n, d, rfl, ?_⟩
    refine ⟨_, rfl, rfl, _, rfl, ?_⟩
    rw [gcd_eq1]
    refine ite2 (fun c => ?_) (fun c => ?_)
    · have c1 : Nat.gcd n.natAbs d.natAbs = 1 := of_decide_eq_true c
      rw [c1] at e1 e2
      rw [show ((1 : Nat) : Int) = 1 from rfl, fdiv_one] at e1 e2
      refine ⟨_, rfl, _, rfl, by show 2 ≤ sizeLine; decide, fun p np => ?_⟩
      show Q (.ref p) (upd H p (.tup [.int n, .int d]))
      have er : [V.int n, V.int d] = rt (Rat.divInt n d) := by
        show [V.int n, V.int d] = [V.int (Rat.divInt n d).num, V.int ((Rat.divInt n d).den : Int)]
        rw [← e1, ← e2]
      rw [er]
      exact q _ _ (same_new np) Rn.mk
    · have c : ∀ i, CDivA i ((Nat.gcd n.natAbs d.natAbs : Nat) : Int) := fun i => divA (b := 8000) (by omega) (by rw [Int.natAbs_natCast]; omega) (by decide) (by decide)
      refine ⟨_, rfl, _, rfl, n, _, rfl, rfl, c n, _, rfl, _, rfl, d, _, rfl, rfl, c d, by show 2 ≤ sizeLine; decide, fun p np => ?_⟩
      show Q (.ref p) (upd H p (.tup [.int (n.fdiv ((Nat.gcd n.natAbs d.natAbs : Nat) : Int)), .int (d.fdiv ((Nat.gcd n.natAbs d.natAbs : Nat) : Int))]))
      rw [e1, e2]
      exact q _ _ (same_new np) Rn.mk
/-- of two numbers: a number, where they are numbers (and not too great); else the error -/
def Gives2 (K : PySem.W.Frag) (C : Addr) (f : Rat → Rat → Rat) (o1 o2 : Option Rat) (H : Hp) (Q : VK) (E : XK) : Prop := match o1, o2 with
  | some p, some q => (Sz 3900 p ∧ Sz 3900 q) ∧ ∀ v H', Same H H' → Rn K H' v (f p q) → Q v H'
  | _, _ => ∀ H', Same H H' → E (.ref C) none H'
def spTwo (K : PySem.W.Frag) (C : Addr) (f : Rat → Rat → Rat) : Sp := fun vs H Q E => ∃ (x y : V) (o1 o2 : Option Rat), vs = [x, y] ∧ Arg K H x o1 ∧ Arg K H y o2 ∧ Gives2 K C f o1 o2 H Q E

theorem sc_plus : FnScope ["first", "second", "top", "bottom", "other_top", "other_bottom"] ["first", "second"] (defScope s_plus) := ⟨rfl, rfl, rfl, by decide +kernel, rfl, by decide +kernel, by decide +kernel⟩
abbrev sp_plus (K : PySem.W.Frag) (C : Addr) : Sp := spTwo K C (fun p q => p + q)
theorem ok_plus {f fA fR C : Addr} {fd dA dR : FuncData} (D : DefAt K mg "plus" s_plus ["first", "second"] f fd) (DA : DefAt K mg "as_ratio" s_as_ratio ["value"] fA dA) (DR : DefAt K mg "reduced" s_reduced ["top", "bottom"] fR dR)
    (GA : FnOk P w K mg base (CXn P w) 3 fA dA ["value"] (spAR K C)) (GR : FnOk P w K mg base (CXn P w) 1 fR dR ["top", "bottom"] (spRd K)) : FnOk P w K mg base (CXn P w) 4 f fd ["first", "second"] (sp_plus K C) := by
  refine D.F.okN sc_plus (fun vs H Q E h => ?_) (fun cdv A outer s H vs Q E hr h => ?_)
  · obtain ⟨x, y, o1, o2, rfl, _⟩ := h
    rfl
  · obtain ⟨x, y, o1, o2, rfl, h1, h2, q⟩ := h
    refine ⟨_, pss_cons (ps_asg (pe_call GA hr (by rfl) DA.g DA.F.kp DA.b .nil (L2N.passes_call (L2N.takes_of rfl rfl rfl rfl) fun _ _ _ _ h => h) (pa_cons (pv 0) pa_nil)) (pg_tup (by rfl) (pgs_cons (pg_name (i := 2) sc_plus.nd rfl (.inl rfl)) (pgs_cons (pg_name (i := 3) sc_plus.nd rfl (.inl rfl)) pgs_nil))))
      (pss_cons (ps_asg (pe_call GA hr (by rfl) DA.g DA.F.kp DA.b .nil (L2N.passes_call (L2N.takes_of rfl rfl rfl rfl) fun _ _ _ _ h => h) (pa_cons (pv 1) pa_nil)) (pg_tup (by rfl) (pgs_cons (pg_name (i := 4) sc_plus.nd rfl (.inl rfl)) (pgs_cons (pg_name (i := 5) sc_plus.nd rfl (.inl rfl)) pgs_nil))))
      (pss_one (ps_ret (pe_call GR (hr.mono (by decide)) (by rfl) DR.g DR.F.kp DR.b .nil passN (pa_cons (pe_op op_add (pe_op op_mulW (pv 2) (pv 5)) (pe_op op_mulW (pv 4) (pv 3))) (pa_cons (pe_op op_mulW (pv 3) (pv 5)) pa_nil)))))), ?_⟩
    refine ⟨x, rfl, x, o1, rfl, h1, ?_⟩
    cases o1 with
    | none => cases o2 <;> exact q H (Same.refl _)
    | some p =>
      intro v1 H1 s1 r1
      obtain ⟨a, rfl, t1⟩ := r1
      refine ⟨a, rt p, rfl, t1, rfl, .int p.num, _, rfl, .int p.den, _, rfl, rfl, ?_⟩
      refine ⟨y, rfl, y, o2, rfl, h2.same s1, ?_⟩
      cases o2 with
      | none => exact q H1 s1
      | some q' =>
        obtain ⟨⟨hp, hq⟩, q⟩ := q
        intro v2 H2 s2 r2
        obtain ⟨b, rfl, t2⟩ := r2
        refine ⟨b, rt q', rfl, t2, rfl, .int q'.num, _, rfl, .int q'.den, _, rfl, rfl, ?_⟩
        refine ⟨_, rfl, _, rfl, _, _, rfl, rfl, wm hp.1 hq.2, _, rfl, _, rfl, _, _, rfl, rfl, wm hq.1 hp.2, _, _, rfl, rfl, _, rfl, _, rfl, _, _, rfl, rfl, wm hp.2 hq.2, ?_⟩
        refine ⟨_, _, rfl, den_pos2 p q', ⟨?_, Nat.lt_trans (szM hp.2 hq.2) p78⟩, fun v H' s' r => ?_⟩
        · exact szA (szM hp.1 hq.2) (szM hq.1 hp.2)
        · rw [← add_as p q'] at r
          exact q v H' ((s1.trans s2).trans s') r

theorem sc_minus : FnScope ["first", "second", "top", "bottom", "other_top", "other_bottom"] ["first", "second"] (defScope s_minus) := ⟨rfl, rfl, rfl, by decide +kernel, rfl, by decide +kernel, by decide +kernel⟩
abbrev sp_minus (K : PySem.W.Frag) (C : Addr) : Sp := spTwo K C (fun p q => p - q)
theorem ok_minus {f fA fR C : Addr} {fd dA dR : FuncData} (D : DefAt K mg "minus" s_minus ["first", "second"] f fd) (DA : DefAt K mg "as_ratio" s_as_ratio ["value"] fA dA) (DR : DefAt K mg "reduced" s_reduced ["top", "bottom"] fR dR)
    (GA : FnOk P w K mg base (CXn P w) 3 fA dA ["value"] (spAR K C)) (GR : FnOk P w K mg base (CXn P w) 1 fR dR ["top", "bottom"] (spRd K)) : FnOk P w K mg base (CXn P w) 4 f fd ["first", "second"] (sp_minus K C) := by
  refine D.F.okN sc_minus (fun vs H Q E h => ?_) (fun cdv A outer s H vs Q E hr h => ?_)
  · obtain ⟨x, y, o1, o2, rfl, _⟩ := h
    rfl
  · obtain ⟨x, y, o1, o2, rfl, h1, h2, q⟩ := h
    refine ⟨_, pss_cons (ps_asg (pe_call GA hr (by rfl) DA.g DA.F.kp DA.b .nil (L2N.passes_call (L2N.takes_of rfl rfl rfl rfl) fun _ _ _ _ h => h) (pa_cons (pv 0) pa_nil)) (pg_tup (by rfl) (pgs_cons (pg_name (i := 2) sc_minus.nd rfl (.inl rfl)) (pgs_cons (pg_name (i := 3) sc_minus.nd rfl (.inl rfl)) pgs_nil))))
      (pss_cons (ps_asg (pe_call GA hr (by rfl) DA.g DA.F.kp DA.b .nil (L2N.passes_call (L2N.takes_of rfl rfl rfl rfl) fun _ _ _ _ h => h) (pa_cons (pv 1) pa_nil)) (pg_tup (by rfl) (pgs_cons (pg_name (i := 4) sc_minus.nd rfl (.inl rfl)) (pgs_cons (pg_name (i := 5) sc_minus.nd rfl (.inl rfl)) pgs_nil))))
      (pss_one (ps_ret (pe_call GR (hr.mono (by decide)) (by rfl) DR.g DR.F.kp DR.b .nil passN (pa_cons (pe_op op_sub (pe_op op_mulW (pv 2) (pv 5)) (pe_op op_mulW (pv 4) (pv 3))) (pa_cons (pe_op op_mulW (pv 3) (pv 5)) pa_nil)))))), ?_⟩
    refine ⟨x, rfl, x, o1, rfl, h1, ?_⟩
    cases o1 with
    | none => cases o2 <;> exact q H (Same.refl _)
    | some p =>
      intro v1 H1 s1 r1
      obtain ⟨a, rfl, t1⟩ := r1
      refine ⟨a, rt p, rfl, t1, rfl, .int p.num, _, rfl, .int p.den, _, rfl, rfl, ?_⟩
      refine ⟨y, rfl, y, o2, rfl, h2.same s1, ?_⟩
      cases o2 with
      | none => exact q H1 s1
      | some q' =>
        obtain ⟨⟨hp, hq⟩, q⟩ := q
        intro v2 H2 s2 r2
        obtain ⟨b, rfl, t2⟩ := r2
        refine ⟨b, rt q', rfl, t2, rfl, .int q'.num, _, rfl, .int q'.den, _, rfl, rfl, ?_⟩
        refine ⟨_, rfl, _, rfl, _, _, rfl, rfl, wm hp.1 hq.2, _, rfl, _, rfl, _, _, rfl, rfl, wm hq.1 hp.2, _, _, rfl, rfl, _, rfl, _, rfl, _, _, rfl, rfl, wm hp.2 hq.2, ?_⟩
        refine ⟨_, _, rfl, den_pos2 p q', ⟨?_, Nat.lt_trans (szM hp.2 hq.2) p78⟩, fun v H' s' r => ?_⟩
        · exact szB (szM hp.1 hq.2) (szM hq.1 hp.2)
        · rw [← sub_as p q'] at r
          exact q v H' ((s1.trans s2).trans s') r

theorem sc_times : FnScope ["first", "second", "top", "bottom", "other_top", "other_bottom"] ["first", "second"] (defScope s_times) := ⟨rfl, rfl, rfl, by decide +kernel, rfl, by decide +kernel, by decide +kernel⟩
abbrev sp_times (K : PySem.W.Frag) (C : Addr) : Sp := spTwo K C (fun p q => p * q)
theorem ok_times {f fA fR C : Addr} {fd dA dR : FuncData} (D : DefAt K mg "times" s_times ["first", "second"] f fd) (DA : DefAt K mg "as_ratio" s_as_ratio ["value"] fA dA) (DR : DefAt K mg "reduced" s_reduced ["top", "bottom"] fR dR)
    (GA : FnOk P w K mg base (CXn P w) 3 fA dA ["value"] (spAR K C)) (GR : FnOk P w K mg base (CXn P w) 1 fR dR ["top", "bottom"] (spRd K)) : FnOk P w K mg base (CXn P w) 4 f fd ["first", "second"] (sp_times K C) := by
  refine D.F.okN sc_times (fun vs H Q E h => ?_) (fun cdv A outer s H vs Q E hr h => ?_)
  · obtain ⟨x, y, o1, o2, rfl, _⟩ := h
    rfl
  · obtain ⟨x, y, o1, o2, rfl, h1, h2, q⟩ := h
    refine ⟨_, pss_cons (ps_asg (pe_call GA hr (by rfl) DA.g DA.F.kp DA.b .nil (L2N.passes_call (L2N.takes_of rfl rfl rfl rfl) fun _ _ _ _ h => h) (pa_cons (pv 0) pa_nil)) (pg_tup (by rfl) (pgs_cons (pg_name (i := 2) sc_times.nd rfl (.inl rfl)) (pgs_cons (pg_name (i := 3) sc_times.nd rfl (.inl rfl)) pgs_nil))))
      (pss_cons (ps_asg (pe_call GA hr (by rfl) DA.g DA.F.kp DA.b .nil (L2N.passes_call (L2N.takes_of rfl rfl rfl rfl) fun _ _ _ _ h => h) (pa_cons (pv 1) pa_nil)) (pg_tup (by rfl) (pgs_cons (pg_name (i := 4) sc_times.nd rfl (.inl rfl)) (pgs_cons (pg_name (i := 5) sc_times.nd rfl (.inl rfl)) pgs_nil))))
      (pss_one (ps_ret (pe_call GR (hr.mono (by decide)) (by rfl) DR.g DR.F.kp DR.b .nil passN (pa_cons (pe_op op_mulW (pv 2) (pv 4)) (pa_cons (pe_op op_mulW (pv 3) (pv 5)) pa_nil)))))), ?_⟩
    refine ⟨x, rfl, x, o1, rfl, h1, ?_⟩
    cases o1 with
    | none => cases o2 <;> exact q H (Same.refl _)
    | some p =>
      intro v1 H1 s1 r1
      obtain ⟨a, rfl, t1⟩ := r1
      refine ⟨a, rt p, rfl, t1, rfl, .int p.num, _, rfl, .int p.den, _, rfl, rfl, ?_⟩
      refine ⟨y, rfl, y, o2, rfl, h2.same s1, ?_⟩
      cases o2 with
      | none => exact q H1 s1
      | some q' =>
        obtain ⟨⟨hp, hq⟩, q⟩ := q
        intro v2 H2 s2 r2
        obtain ⟨b, rfl, t2⟩ := r2
        refine ⟨b, rt q', rfl, t2, rfl, .int q'.num, _, rfl, .int q'.den, _, rfl, rfl, ?_⟩
        refine ⟨_, rfl, _, rfl, _, _, rfl, rfl, wm hp.1 hq.1, _, rfl, _, rfl, _, _, rfl, rfl, wm hp.2 hq.2, ?_⟩
        refine ⟨_, _, rfl, den_pos2 p q', ⟨?_, Nat.lt_trans (szM hp.2 hq.2) p78⟩, fun v H' s' r => ?_⟩
        · exact Nat.lt_trans (szM hp.1 hq.1) p78
        · rw [← mul_as p q'] at r
          exact q v H' ((s1.trans s2).trans s') r

/-! ### divided -/
theorem sc_divided : FnScope ["first", "second", "top", "bottom", "other_top", "other_bottom"] ["first", "second"] (defScope s_divided) := ⟨rfl, rfl, rfl, by decide +kernel, rfl, by decide +kernel, by decide +kernel⟩
def GivesDiv (K : PySem.W.Frag) (C C2 : Addr) (o1 o2 : Option Rat) (H : Hp) (Q : VK) (E : XK) : Prop := match o1, o2 with
  | some p, some q => (Sz 3900 p ∧ Sz 3900 q) ∧ (q = 0 → ∀ H', Same H H' → E (.ref C2) none H') ∧ (q ≠ 0 → ∀ v H', Same H H' → Rn K H' v (p / q) → Q v H')
  | _, _ => ∀ H', Same H H' → E (.ref C) none H'
def sp_divided (K : PySem.W.Frag) (C C2 : Addr) : Sp := fun vs H Q E => ∃ (x y : V) (o1 o2 : Option Rat), vs = [x, y] ∧ Arg K H x o1 ∧ Arg K H y o2 ∧ GivesDiv K C C2 o1 o2 H Q E
theorem negs {a b : Int} (hb : b ≠ 0) : Rat.divInt (-a) (-b) = Rat.divInt a b := by
  rw [Rat.divInt_eq_div, Rat.divInt_eq_div]
  have h : (b : Rat) ≠ 0 := by
    intro e
    exact hb (Rat.intCast_eq_zero_iff.mp e)
  rw [Rat.intCast_neg, Rat.intCast_neg]
  grind
theorem ok_divided {f fA fR C C2 : Addr} {fd dA dR : FuncData} (D : DefAt K mg "divided" s_divided ["first", "second"] f fd) (DA : DefAt K mg "as_ratio" s_as_ratio ["value"] fA dA) (DR : DefAt K mg "reduced" s_reduced ["top", "bottom"] fR dR) (X2 : ErrAt K mg "DivisionByZero" BMa "ArithmeticError.__new__" C2)
    (GA : FnOk P w K mg base (CXn P w) 3 fA dA ["value"] (spAR K C)) (GR : FnOk P w K mg base (CXn P w) 1 fR dR ["top", "bottom"] (spRd K)) : FnOk P w K mg base (CXn P w) 4 f fd ["first", "second"] (sp_divided K C C2) := by
  refine D.F.okN sc_divided (fun vs H Q E h => ?_) (fun cdv A outer s H vs Q E hr h => ?_)
  · obtain ⟨x, y, o1, o2, rfl, _⟩ := h
    rfl
  · obtain ⟨x, y, o1, o2, rfl, h1, h2, q⟩ := h
    refine ⟨_, pss_cons (ps_asg (pe_call GA hr (by rfl) DA.g DA.F.kp DA.b .nil (L2N.passes_call (L2N.takes_of rfl rfl rfl rfl) fun _ _ _ _ h => h) (pa_cons (pv 0) pa_nil)) (pg_tup (by rfl) (pgs_cons (pg_name (i := 2) sc_divided.nd rfl (.inl rfl)) (pgs_cons (pg_name (i := 3) sc_divided.nd rfl (.inl rfl)) pgs_nil))))
      (pss_cons (ps_asg (pe_call GA hr (by rfl) DA.g DA.F.kp DA.b .nil (L2N.passes_call (L2N.takes_of rfl rfl rfl rfl) fun _ _ _ _ h => h) (pa_cons (pv 1) pa_nil)) (pg_tup (by rfl) (pgs_cons (pg_name (i := 4) sc_divided.nd rfl (.inl rfl)) (pgs_cons (pg_name (i := 5) sc_divided.nd rfl (.inl rfl)) pgs_nil))))
      (pss_cons (ps_if (pt_cmpR op_eq (pv 4) pe_int (nomark _)) (pss_one (L2N.ps_raise rfl (L2N.takes_of rfl rfl rfl rfl) (L2H.PMk5.pmk (X2.mk5 PySem.F.excBase_ArithmeticError rfl)))) pss_nil)
      (pss_cons (ps_if (pt_cmpR op_lt (pv 4) pe_int (nomark _)) (pss_one (ps_ret (pe_call GR (hr.mono (by decide)) (by rfl) DR.g DR.F.kp DR.b .nil passN (pa_cons (pe_op op_mulW (pe_un un_neg (pv 2)) (pv 5)) (pa_cons (pe_op op_mulW (pe_un un_neg (pv 3)) (pv 4)) pa_nil))))) pss_nil)
      (pss_one (ps_ret (pe_call GR (hr.mono (by decide)) (by rfl) DR.g DR.F.kp DR.b .nil passN (pa_cons (pe_op op_mulW (pv 2) (pv 5)) (pa_cons (pe_op op_mulW (pv 3) (pv 4)) pa_nil)))))))), ?_⟩
    refine ⟨x, rfl, x, o1, rfl, h1, ?_⟩
    cases o1 with
    | none => cases o2 <;> exact q H (Same.refl _)
    | some p =>
      intro v1 H1 s1 r1
      obtain ⟨a, rfl, t1⟩ := r1
      refine ⟨a, rt p, rfl, t1, rfl, .int p.num, _, rfl, .int p.den, _, rfl, rfl, ?_⟩
      refine ⟨y, rfl, y, o2, rfl, h2.same s1, ?_⟩
      cases o2 with
      | none => exact q H1 s1
      | some q' =>
        obtain ⟨⟨hp, hq⟩, qz, qn⟩ := q
        intro v2 H2 s2 r2
        obtain ⟨b, rfl, t2⟩ := r2
        refine ⟨b, rt q', rfl, t2, rfl, .int q'.num, _, rfl, .int q'.den, _, rfl, rfl, ?_⟩
        have dp := den_pos p
        have hn3 : (-(p.num)).natAbs < 2 ^ 3900 := by rw [Int.natAbs_neg]; exact hp.1
        have hn4 : (-(p.den : Int)).natAbs < 2 ^ 3900 := by rw [Int.natAbs_neg]; exact hp.2
        refine ⟨_, rfl, rfl, _, rfl, ite2 (fun c => ?_) (fun c => ?_)⟩
        · have c1 : q'.num = 0 := V.int.inj (of_decide_eq_true c)
          exact qz (Rat.num_eq_zero.mp c1) H2 (s1.trans s2)
        · have c1 : q'.num ≠ 0 := fun z => c (decide_eq_true (by rw [z]))
          have hz : q' ≠ 0 := fun z => c1 (by rw [z]; rfl)
          refine ⟨_, rfl, _, _, rfl, rfl, _, rfl, ite2 (fun c => ?_) (fun c => ?_)⟩
          · have c2 : q'.num < 0 := of_decide_eq_true c
            refine ⟨_, rfl, _, rfl, _, rfl, _, _, rfl, rfl, wm hn3 hq.2, _, rfl, _, rfl, _, rfl, _, _, rfl, rfl, wm hn4 hq.1, ?_⟩
            refine ⟨_, _, rfl, ?_, ⟨Nat.lt_trans (szM hn3 hq.2) p78, Nat.lt_trans (szM hn4 hq.1) p78⟩, fun v H' s' r => ?_⟩
            · rw [Int.neg_mul, ← Int.mul_neg]
              exact Int.mul_pos (by omega) (by omega)
            · rw [Int.neg_mul, Int.neg_mul, negs (div_den_ne hz), ← div_as p q'] at r
              exact qn hz v H' ((s1.trans s2).trans s') r
          · have c2 : ¬ q'.num < 0 := fun z => c (decide_eq_true z)
            refine ⟨_, rfl, _, rfl, _, _, rfl, rfl, wm hp.1 hq.2, _, rfl, _, rfl, _, _, rfl, rfl, wm hp.2 hq.1, ?_⟩
            refine ⟨_, _, rfl, Int.mul_pos (by omega) (by omega), ⟨Nat.lt_trans (szM hp.1 hq.2) p78, Nat.lt_trans (szM hp.2 hq.1) p78⟩, fun v H' s' r => ?_⟩
            rw [← div_as p q'] at r
            exact qn hz v H' ((s1.trans s2).trans s') r
/-! ### floor_of -/
theorem sc_floor_of : FnScope ["value", "top", "bottom"] ["value"] (defScope s_floor_of) := ⟨rfl, rfl, rfl, by decide +kernel, rfl, by decide +kernel, by decide +kernel⟩
def GivesF (K : PySem.W.Frag) (C : Addr) (o1 : Option Rat) (H : Hp) (Q : VK) (E : XK) : Prop := match o1 with
  | some p => Sz 8000 p ∧ ∀ H', Same H H' → Q (.int p.floor) H'
  | none => ∀ H', Same H H' → E (.ref C) none H'
def sp_floor (K : PySem.W.Frag) (C : Addr) : Sp := fun vs H Q E => ∃ (x : V) (o1 : Option Rat), vs = [x] ∧ Arg K H x o1 ∧ GivesF K C o1 H Q E
theorem ok_floor {f fA C : Addr} {fd dA : FuncData} (D : DefAt K mg "floor_of" s_floor_of ["value"] f fd) (DA : DefAt K mg "as_ratio" s_as_ratio ["value"] fA dA)
    (GA : FnOk P w K mg base (CXn P w) 3 fA dA ["value"] (spAR K C)) : FnOk P w K mg base (CXn P w) 4 f fd ["value"] (sp_floor K C) := by
  refine D.F.okN sc_floor_of (fun vs H Q E h => ?_) (fun cdv A outer s H vs Q E hr h => ?_)
  · obtain ⟨x, o1, rfl, _⟩ := h
    rfl
  · obtain ⟨x, o1, rfl, h1, q⟩ := h
    refine ⟨_, pss_cons (ps_asg (pe_call GA hr (by rfl) DA.g DA.F.kp DA.b .nil (L2N.passes_call (L2N.takes_of rfl rfl rfl rfl) fun _ _ _ _ h => h) (pa_cons (pv 0) pa_nil)) (pg_tup (by rfl) (pgs_cons (pg_name (i := 1) sc_floor_of.nd rfl (.inl rfl)) (pgs_cons (pg_name (i := 2) sc_floor_of.nd rfl (.inl rfl)) pgs_nil))))
      (pss_one (ps_ret (pe_op op_fdivA (pv 1) (pv 2)))), ?_⟩
    refine ⟨x, rfl, x, o1, rfl, h1, ?_⟩
    cases o1 with
    | none => exact q H (Same.refl _)
    | some p =>
      obtain ⟨hp, q⟩ := q
      intro v1 H1 s1 r1
      obtain ⟨a, rfl, t1⟩ := r1
      refine ⟨a, rt p, rfl, t1, rfl, .int p.num, _, rfl, .int p.den, _, rfl, rfl, ?_⟩
      have d1 := den_pos p
      refine ⟨_, rfl, _, rfl, _, _, rfl, rfl, divA (b := 8000) (by omega) (by rw [Int.natAbs_natCast]; exact hp.2) (by decide) (by decide), ?_⟩
      show Q (.int (p.num.fdiv p.den)) H1
      rw [Int.fdiv_eq_ediv_of_nonneg _ (Int.natCast_nonneg _), ← Rat.floor_def]
      exact q H1 s1
/-! ### is_positive -/
def isPos : Option Rat → Bool | some q => decide (0 < q) | none => false
def spPosi (K : PySem.W.Frag) : Sp := fun vs H Q _ => ∃ (x : V) (o : Option Rat), vs = [x] ∧ Arg K H x o ∧ ∀ H', Same H H' → Q (.bl (isPos o)) H'
/-! ### as_time -/
/-- a class that an except clause names -/
structure ErrM (K : PySem.W.Frag) (C : Addr) : Prop where
  d : PySem.W.hasDictIn K C = true
  s : PySem.W.subIn K (.ref C) (.ref C) = some true
def GivesT (K : PySem.W.Frag) (C : Addr) (o : Option Rat) (H : Hp) (Q : VK) (E : XK) : Prop := match o with
  | some q => (q < 0 → ∀ H', Same H H' → E (.ref C) none H') ∧ (0 ≤ q → ∀ v H', Same H H' → Rn K H' v q → Q v H')
  | none => ∀ H', Same H H' → E (.ref C) none H'
def spTime (K : PySem.W.Frag) (C : Addr) : Sp := fun vs H Q E => ∃ (x : V) (o : Option Rat), vs = [x] ∧ Arg K H x o ∧ GivesT K C o H Q E
end
end LR
set_option Elab.async false
set_option linter.all false
set_option maxRecDepth 100000
set_option maxHeartbeats 4000000
namespace LR
open PySem PySem.Spec PyProof.Rows L2
theorem sc_ratio : FnScope ["numerator", "denominator"] ["numerator", "denominator"] (defScope s_ratio) := ⟨rfl, rfl, rfl, by decide +kernel, rfl, by decide +kernel, by decide +kernel⟩
section
variable {P : Program} {w : World} {K : PySem.W.Frag} {mg : Str → Option Value} {base : Heap}
/-! ### ratio -/
/-- a def with defaults, its positional binding -/
structure DefD (K : PySem.W.Frag) (mg : Str → Option Value) (x : Str) (st : Stmt) (ps : List Str) (dvs : List V) (f : Addr) (fd : FuncData) : Prop where
  F : FunD K x x (defArgs st) (defBody st) (defScope st) dvs [] f fd
  g : mg x = some (.ref f)
  b : Binds K fd ps []
/-- what is promised of ratio(x, y) -/
def GivesR (K : PySem.W.Frag) (C1 C2 : Addr) (x y : V) (H : Hp) (Q : VK) (E : XK) : Prop := match x, y with
  | .int n, .int d => if d = 0 then E (.ref C2) none H else (n.natAbs < 2 ^ 8000 ∧ d.natAbs < 2 ^ 8000) ∧ ∀ v H', Same H H' → Rn K H' v (Rat.divInt n d) → Q v H'
  | _, _ => E (.ref C1) none H
def spRatio (K : PySem.W.Frag) (C1 C2 : Addr) : Sp := fun vs H Q E => ∃ (x y : V) (n m : String), vs = [x, y] ∧ Kd K H x n ∧ Kd K H y m ∧ GivesR K C1 C2 x y H Q E
theorem givesR_ok {C1 C2 : Addr} {n d : Int} {H : Hp} {Q : VK} {E : XK} (hd : d ≠ 0) (h1 : n.natAbs < 2 ^ 8000) (h2 : d.natAbs < 2 ^ 8000) (q : ∀ v H', Same H H' → Rn K H' v (Rat.divInt n d) → Q v H') : GivesR K C1 C2 (.int n) (.int d) H Q E := by
  show if d = 0 then _ else _
  rw [if_neg hd]
  exact ⟨⟨h1, h2⟩, q⟩
theorem givesR_z {C1 C2 : Addr} {n d : Int} {H : Hp} {Q : VK} {E : XK} (hd : d = 0) (q : E (.ref C2) none H) : GivesR K C1 C2 (.int n) (.int d) H Q E := by
  show if d = 0 then _ else _
  rw [if_pos hd]
  exact q
theorem givesR_l {C1 C2 : Addr} {x y : V} {H : Hp} {Q : VK} {E : XK} (h : isI x = false) (q : GivesR K C1 C2 x y H Q E) : E (.ref C1) none H := by
  cases x <;> first | exact q | cases h
theorem givesR_r {C1 C2 : Addr} {x y : V} {H : Hp} {Q : VK} {E : XK} (h : isI y = false) (q : GivesR K C1 C2 x y H Q E) : E (.ref C1) none H := by
  cases x <;> first | exact q | (cases y <;> first | exact q | cases h)
theorem ok_Ratio {f fI fR C1 C2 : Addr} {fd dI dR : FuncData} (D : DefD K mg "ratio" s_ratio ["numerator", "denominator"] [.int 1] f fd) (DI : DefAt K mg "is_integer" s_is_integer ["value"] fI dI) (DR : DefAt K mg "reduced" s_reduced ["top", "bottom"] fR dR) (X1 : ErrAt K mg "InvalidNumber" BMv "ValueError.__new__" C1) (X2 : ErrAt K mg "DivisionByZero" BMa "ArithmeticError.__new__" C2)
    (GI : FnOk P w K mg base (CXl P w) 1 fI dI ["value"] (spII K)) (GR : FnOk P w K mg base (CXl P w) 1 fR dR ["top", "bottom"] (spRd K)) : FnOk P w K mg base (CXl P w) 2 f fd ["numerator", "denominator"] (spRatio K C1 C2) := by
  refine D.F.ok sc_ratio (fun vs H Q E h => ?_) (fun cdv A outer s H vs Q E hr h => ?_)
  · obtain ⟨x, y, _, _, rfl, _⟩ := h
    rfl
  · obtain ⟨x, y, kn, km, rfl, k1, k2, q⟩ := h
    refine ⟨_, pss_cons (ps_if (PW.pt (pw_or (pt_not (pt_val (pe_call GI hr (by rfl) DI.g DI.F.kp DI.b .nil passL (pa_cons (pv 0) pa_nil))))
        (pw_or1 (pt_not (pt_val (pe_call GI hr (by rfl) DI.g DI.F.kp DI.b .nil passL (pa_cons (pv 1) pa_nil))))))) (pss_one (ps_raise rfl (takes_of rfl rfl rfl rfl) (X1.mk0 PySem.F.excBase_ValueError rfl))) pss_nil)
      (pss_cons (ps_if (pt_cmpR op_eq (pv 1) pe_int (nomark _)) (pss_one (ps_raise rfl (takes_of rfl rfl rfl rfl) (X2.mk0 PySem.F.excBase_ArithmeticError rfl))) pss_nil)
      (pss_cons (ps_if (pt_cmpR op_lt (pv 1) pe_int (nomark _)) (pss_one (ps_ret (pe_call GR hr (by rfl) DR.g DR.F.kp DR.b .nil passL (pa_cons (pe_un un_neg (pv 0)) (pa_cons (pe_un un_neg (pv 1)) pa_nil))))) pss_nil)
      (pss_one (ps_ret (pe_call GR hr (by rfl) DR.g DR.F.kp DR.b .nil passL (pa_cons (pv 0) (pa_cons (pv 1) pa_nil))))))), ?_⟩
    refine ⟨_, rfl, _, kn, rfl, k1, _, rfl, ?_⟩
    by_cases i1 : isI x = true
    · obtain ⟨n, rfl⟩ := isI_int i1
      refine iteF ⟨_, rfl, _, km, rfl, k2, _, rfl, ?_⟩
      by_cases i2 : isI y = true
      · obtain ⟨d, rfl⟩ := isI_int i2
        refine iteF ⟨_, rfl, rfl, _, rfl, ?_⟩
        by_cases hd : d = 0
        · subst hd
          refine ite2 (fun _ => q) (fun c => absurd (decide_eq_true rfl) c)
        have q' : (n.natAbs < 2 ^ 8000 ∧ d.natAbs < 2 ^ 8000) ∧ ∀ v H', Same H H' → Rn K H' v (Rat.divInt n d) → Q v H' := by
          have q0 : if d = 0 then _ else _ := q
          rw [if_neg hd] at q0
          exact q0
        obtain ⟨⟨hn, hdd⟩, q⟩ := q'
        refine ite2 (fun c => absurd (V.int.inj (of_decide_eq_true c)) hd) (fun _ => ⟨_, rfl, d, 0, rfl, rfl, _, rfl, ite2 (fun c => ?_) (fun c => ?_)⟩)
        · have c1 : d < 0 := of_decide_eq_true c
          refine ⟨_, rfl, n, rfl, _, rfl, d, rfl, _, _, rfl, by omega, ⟨by rw [Int.natAbs_neg]; exact hn, by rw [Int.natAbs_neg]; exact hdd⟩, fun v H' s' r => ?_⟩
          rw [negs hd] at r
          exact q v H' s' r
        · have c1 : ¬ d < 0 := fun z => c (decide_eq_true z)
          exact ⟨_, rfl, _, rfl, n, d, rfl, by omega, ⟨hn, hdd⟩, q⟩
      · have c2 : isI y = false := by simpa using i2
        rw [c2]
        exact iteT (givesR_r c2 q)
    · have c2 : isI x = false := by simpa using i1
      rw [c2]
      exact iteT (givesR_l c2 q)
/-! ### compare -/
theorem sc_compare : FnScope ["first", "second", "top", "bottom", "other_top", "other_bottom", "left", "right"] ["first", "second"] (defScope s_compare) := ⟨rfl, rfl, rfl, by decide +kernel, rfl, by decide +kernel, by decide +kernel⟩
/-- -1, 0 or 1 -/
def cmpR (p q : Rat) : Int := if p < q then -1 else if q < p then 1 else 0
def GivesCmp (K : PySem.W.Frag) (C : Addr) (o1 o2 : Option Rat) (H : Hp) (Q : VK) (E : XK) : Prop := match o1, o2 with
  | some p, some q => (Sz 3900 p ∧ Sz 3900 q) ∧ ∀ H', Same H H' → Q (.int (cmpR p q)) H'
  | _, _ => ∀ H', Same H H' → E (.ref C) none H'
def sp_compare (K : PySem.W.Frag) (C : Addr) : Sp := fun vs H Q E => ∃ (x y : V) (o1 o2 : Option Rat), vs = [x, y] ∧ Arg K H x o1 ∧ Arg K H y o2 ∧ GivesCmp K C o1 o2 H Q E
theorem ok_compare {f fA C : Addr} {fd dA : FuncData} (D : DefAt K mg "compare" s_compare ["first", "second"] f fd) (DA : DefAt K mg "as_ratio" s_as_ratio ["value"] fA dA)
    (GA : FnOk P w K mg base (CXl P w) 3 fA dA ["value"] (spAR K C)) : FnOk P w K mg base (CXl P w) 4 f fd ["first", "second"] (sp_compare K C) := by
  refine D.F.okX sc_compare (fun vs H Q E h => ?_) (fun cdv A outer s H vs Q E hr h => ?_)
  · obtain ⟨x, y, o1, o2, rfl, _⟩ := h
    rfl
  · obtain ⟨x, y, o1, o2, rfl, h1, h2, q⟩ := h
    refine ⟨_, pss_cons (ps_asg (pe_call GA hr (by rfl) DA.g DA.F.kp DA.b .nil (passes_call (takes_of rfl rfl rfl rfl) fun _ _ _ _ h => h) (pa_cons (pv 0) pa_nil)) (pg_tup (by rfl) (pgs_cons (pg_name (i := 2) sc_compare.nd rfl (.inl rfl)) (pgs_cons (pg_name (i := 3) sc_compare.nd rfl (.inl rfl)) pgs_nil))))
      (pss_cons (ps_asg (pe_call GA hr (by rfl) DA.g DA.F.kp DA.b .nil (passes_call (takes_of rfl rfl rfl rfl) fun _ _ _ _ h => h) (pa_cons (pv 1) pa_nil)) (pg_tup (by rfl) (pgs_cons (pg_name (i := 4) sc_compare.nd rfl (.inl rfl)) (pgs_cons (pg_name (i := 5) sc_compare.nd rfl (.inl rfl)) pgs_nil))))
      (pss_cons (ps_par (i := 6) (j := 7) rfl sc_compare.nd rfl rfl (by decide) rfl rfl (pa_cons (pe_op op_mulW (pv 2) (pv 5)) (pa_cons (pe_op op_mulW (pv 4) (pv 3)) pa_nil)) (by rfl))
      (pss_cons (ps_if (pt_cmpR op_lt (pv 6) (pv 7) (nomark _)) (pss_one (ps_ret (pe_un un_neg pe_int))) pss_nil)
      (pss_one (ps_ret (pe_ifExp (pt_cmpR op_gt (pv 6) (pv 7) (nomark _)) pe_int pe_int)))))), ?_⟩
    refine ⟨x, rfl, x, o1, rfl, h1, ?_⟩
    cases o1 with
    | none => cases o2 <;> exact q H (Same.refl _)
    | some p =>
      intro v1 H1 s1 r1
      obtain ⟨a, rfl, t1⟩ := r1
      refine ⟨a, rt p, rfl, t1, rfl, .int p.num, _, rfl, .int p.den, _, rfl, rfl, ?_⟩
      refine ⟨y, rfl, y, o2, rfl, h2.same s1, ?_⟩
      cases o2 with
      | none => exact q H1 s1
      | some q' =>
        obtain ⟨⟨hp, hq⟩, q⟩ := q
        intro v2 H2 s2 r2
        obtain ⟨b, rfl, t2⟩ := r2
        refine ⟨b, rt q', rfl, t2, rfl, .int q'.num, _, rfl, .int q'.den, _, rfl, rfl, ?_⟩
        refine ⟨_, rfl, _, rfl, _, _, rfl, rfl, wm hp.1 hq.2, _, rfl, _, rfl, _, _, rfl, rfl, wm hq.1 hp.2, _, _, rfl, ?_⟩
        have qq := q H2 (s1.trans s2)
        unfold cmpR at qq
        simp only [Rat.lt_iff] at qq
        refine ⟨_, rfl, _, rfl, _, _, rfl, rfl, _, rfl, ite2 (fun c => ?_) (fun c => ?_)⟩
        · rw [if_pos (of_decide_eq_true c)] at qq
          exact ⟨_, rfl, qq⟩
        · rw [if_neg (fun z => c (decide_eq_true z))] at qq
          refine ⟨_, rfl, _, rfl, _, _, rfl, rfl, _, rfl, ite2 (fun c => ?_) (fun c => ?_)⟩
          · rw [if_pos (of_decide_eq_true c)] at qq
            exact qq
          · rw [if_neg (fun z => c (decide_eq_true z))] at qq
            exact qq

/-! ### remainder -/
theorem sc_rem : FnScope ["value", "modulus", "top", "bottom", "other_top", "other_bottom"] ["value", "modulus"] (defScope s_remainder) := ⟨rfl, rfl, rfl, by decide +kernel, rfl, by decide +kernel, by decide +kernel⟩
def GivesM (K : PySem.W.Frag) (C C2 : Addr) (o1 o2 : Option Rat) (H : Hp) (Q : VK) (E : XK) : Prop := match o1, o2 with
  | some p, some q => (Sz 3900 p ∧ Sz 3900 q) ∧ (q ≤ 0 → ∀ H', Same H H' → E (.ref C2) none H') ∧ (0 < q → ∀ v H', Same H H' → Rn K H' v (rem p q) → Q v H')
  | _, _ => ∀ H', Same H H' → E (.ref C) none H'
def sp_rem (K : PySem.W.Frag) (C C2 : Addr) : Sp := fun vs H Q E => ∃ (x y : V) (o1 o2 : Option Rat), vs = [x, y] ∧ Arg K H x o1 ∧ Arg K H y o2 ∧ GivesM K C C2 o1 o2 H Q E
theorem ok_rem {f fA fR C C2 : Addr} {fd dA dR : FuncData} (D : DefAt K mg "remainder" s_remainder ["value", "modulus"] f fd) (DA : DefAt K mg "as_ratio" s_as_ratio ["value"] fA dA) (DR : DefAt K mg "reduced" s_reduced ["top", "bottom"] fR dR) (X2 : ErrAt K mg "DivisionByZero" BMa "ArithmeticError.__new__" C2)
    (GA : FnOk P w K mg base (CXl P w) 3 fA dA ["value"] (spAR K C)) (GR : FnOk P w K mg base (CXl P w) 1 fR dR ["top", "bottom"] (spRd K)) : FnOk P w K mg base (CXl P w) 4 f fd ["value", "modulus"] (sp_rem K C C2) := by
  refine D.F.okX sc_rem (fun vs H Q E h => ?_) (fun cdv A outer s H vs Q E hr h => ?_)
  · obtain ⟨x, y, o1, o2, rfl, _⟩ := h
    rfl
  · obtain ⟨x, y, o1, o2, rfl, h1, h2, q⟩ := h
    refine ⟨_, pss_cons (ps_asg (pe_call GA hr (by rfl) DA.g DA.F.kp DA.b .nil (passes_call (takes_of rfl rfl rfl rfl) fun _ _ _ _ h => h) (pa_cons (pv 0) pa_nil)) (pg_tup (by rfl) (pgs_cons (pg_name (i := 2) sc_rem.nd rfl (.inl rfl)) (pgs_cons (pg_name (i := 3) sc_rem.nd rfl (.inl rfl)) pgs_nil))))
      (pss_cons (ps_asg (pe_call GA hr (by rfl) DA.g DA.F.kp DA.b .nil (passes_call (takes_of rfl rfl rfl rfl) fun _ _ _ _ h => h) (pa_cons (pv 1) pa_nil)) (pg_tup (by rfl) (pgs_cons (pg_name (i := 4) sc_rem.nd rfl (.inl rfl)) (pgs_cons (pg_name (i := 5) sc_rem.nd rfl (.inl rfl)) pgs_nil))))
      (pss_cons (ps_if (pt_cmpR op_le (pv 4) pe_int (nomark _)) (pss_one (ps_raise rfl (takes_of rfl rfl rfl rfl) (X2.mk0 PySem.F.excBase_ArithmeticError rfl))) pss_nil)
      (pss_one (ps_ret (pe_call GR (hr.mono (by decide)) (by rfl) DR.g DR.F.kp DR.b .nil (passes_call (takes_of rfl rfl rfl rfl) fun _ _ _ _ h => h) (pa_cons (pe_op op_modN (pe_op op_mulW (pv 2) (pv 5)) (pe_op op_mulW (pv 4) (pv 3))) (pa_cons (pe_op op_mulW (pv 3) (pv 5)) pa_nil))))))), ?_⟩
    refine ⟨x, rfl, x, o1, rfl, h1, ?_⟩
    cases o1 with
    | none => cases o2 <;> exact q H (Same.refl _)
    | some p =>
      intro v1 H1 s1 r1
      obtain ⟨a, rfl, t1⟩ := r1
      refine ⟨a, rt p, rfl, t1, rfl, .int p.num, _, rfl, .int p.den, _, rfl, rfl, ?_⟩
      refine ⟨y, rfl, y, o2, rfl, h2.same s1, ?_⟩
      cases o2 with
      | none => exact q H1 s1
      | some q' =>
        obtain ⟨⟨hp, hq⟩, qz, qn⟩ := q
        intro v2 H2 s2 r2
        obtain ⟨b, rfl, t2⟩ := r2
        refine ⟨b, rt q', rfl, t2, rfl, .int q'.num, _, rfl, .int q'.den, _, rfl, rfl, ?_⟩
        refine ⟨_, rfl, _, _, rfl, rfl, _, rfl, ite2 (fun c => ?_) (fun c => ?_)⟩
        · have c1 : q'.num ≤ 0 := of_decide_eq_true c
          refine qz ?_ H2 (s1.trans s2)
          rw [← Rat.not_lt]
          intro z
          have := pos_num z
          omega
        · have c1 : 0 < q'.num := by
            have : ¬ q'.num ≤ 0 := fun z => c (decide_eq_true z)
            omega
          have hz : 0 < q' := num_pos_iff.mp c1
          have d1 : (0 : Int) < p.den := by have := den_pos p; omega
          have hm : (0 : Int) < q'.num * p.den := Int.mul_pos c1 d1
          refine ⟨_, rfl, _, rfl, _, _, rfl, rfl, wm hp.1 hq.2, _, rfl, _, rfl, _, _, rfl, rfl, wm hq.1 hp.2, _, _, rfl, rfl, Int.ne_of_gt hm, _, rfl, _, rfl, _, _, rfl, rfl, wm hp.2 hq.2, ?_⟩
          have e1 : (p.num * q'.den).fmod (q'.num * p.den) = (p.num * q'.den) % (q'.num * p.den) := Int.fmod_eq_emod_of_nonneg _ (Int.le_of_lt hm)
          have l1 := Int.emod_nonneg (p.num * q'.den) (Int.ne_of_gt hm)
          have l2 := Int.emod_lt_of_pos (p.num * q'.den) hm
          have l3 : (q'.num * p.den).natAbs < 2 ^ 7800 := szM hq.1 hp.2
          refine ⟨_, _, rfl, den_pos2 p q', ⟨?_, Nat.lt_trans (szM hp.2 hq.2) p78⟩, fun v H' s' r => ?_⟩
          · refine Nat.lt_trans ?_ p78
            rw [e1]
            omega
          · have r := r
            rw [e1, ← rem_as hz] at r
            exact qn hz v H' ((s1.trans s2).trans s') r
end
end LR
set_option Elab.async false
set_option linter.all false
set_option maxRecDepth 100000
set_option maxHeartbeats 4000000
namespace LR
open PySem PySem.Spec PyProof.Rows L2
/-! ### heaps beside one thing that changes -/
/-- all but D is as it was -/
def But (D : Addr) (H H' : Hp) : Prop := ∀ b o, b ≠ D → H b = some o → H' b = some o
theorem same_but {H0 H : Hp} {D : Addr} {o : HO} (s : Same H0 H) (h : H0 D = none) : Same H0 (upd H D o) := fun b y e => by
  rw [upd_ne (ne_of_none e h)]
  exact s b y e
section
variable {K : PySem.W.Frag} {H : Hp} {D : Addr} {o : HO}
theorem sqt_upd {a : Addr} {xs : List V} {u : HO} (hD : H D = some u) (nt : ∀ ys, u ≠ .tup ys) (nf : ∀ ob v, u ≠ .frz ob v) (h : SqT K H a xs) : SqT K (upd H D o) a xs := by
  rcases h with (h | ⟨ob, h⟩) | h
  · exact .inl (.inl (by rw [upd_ne (ne_of h hD (fun e => nt _ e.symm))]; exact h))
  · exact .inl (.inr ⟨ob, by rw [upd_ne (ne_of h hD (fun e => nf _ _ e.symm))]; exact h⟩)
  · exact .inr h
theorem rn_lst {x : V} {q : Rat} {ys : List V} (hD : H D = some (.lst ys)) (h : Rn K H x q) : Rn K (upd H D o) x q := by
  obtain ⟨a, e, h⟩ := h
  exact ⟨a, e, sqt_upd hD (fun _ e => by cases e) (fun _ _ e => by cases e) h⟩
theorem rn_ext {x : V} {q : Rat} {f : Heap → Prop} (hD : H D = some (.ext f)) (h : Rn K H x q) : Rn K (upd H D o) x q := by
  obtain ⟨a, e, h⟩ := h
  exact ⟨a, e, sqt_upd hD (fun _ e => by cases e) (fun _ _ e => by cases e) h⟩
end
/-- lists item by item -/
inductive All2 {α β : Type} (R : α → β → Prop) : List α → List β → Prop
  | nil : All2 R [] []
  | cons {x y xs ys} (h : R x y) (t : All2 R xs ys) : All2 R (x :: xs) (y :: ys)
section
variable {α β : Type} {R S : α → β → Prop}
theorem All2.len : ∀ {xs : List α} {ys : List β}, All2 R xs ys → xs.length = ys.length
  | _, _, .nil => rfl
  | _, _, .cons _ t => congrArg Nat.succ t.len
theorem All2.imp (f : ∀ x y, R x y → S x y) : ∀ {xs : List α} {ys : List β}, All2 R xs ys → All2 S xs ys
  | _, _, .nil => .nil
  | _, _, .cons h t => .cons (f _ _ h) (t.imp f)
theorem All2.snoc {x : α} {y : β} (h : R x y) : ∀ {xs : List α} {ys : List β}, All2 R xs ys → All2 R (xs ++ [x]) (ys ++ [y])
  | _, _, .nil => .cons h .nil
  | _, _, .cons g t => .cons g (t.snoc h)
theorem All2.get : ∀ {xs : List α} {ys : List β} {i : Nat} {x : α}, All2 R xs ys → xs[i]? = some x → ∃ y, ys[i]? = some y ∧ R x y
  | _, _, _, _, .nil, e => by simp at e
  | _, _, 0, _, .cons h _, e => by simp at e; subst e; exact ⟨_, rfl, h⟩
  | _, _, i + 1, x, .cons _ t, e => by
    obtain ⟨y, a, b⟩ := t.get (i := i) (x := x) (by simpa using e)
    exact ⟨y, by simpa using a, b⟩
theorem All2.take (n : Nat) : ∀ {xs : List α} {ys : List β}, All2 R xs ys → All2 R (xs.take n) (ys.take n) := by
  induction n with
  | zero => intro xs ys _; exact .nil
  | succ n ih =>
    intro xs ys h
    cases h with
    | nil => exact .nil
    | cons a t => exact .cons a (ih t)
theorem All2.map_left {γ : Type} {f : γ → α} : ∀ {zs : List γ} {ys : List β}, All2 (fun z y => R (f z) y) zs ys → All2 R (zs.map f) ys
  | _, _, .nil => .nil
  | _, _, .cons h t => .cons h t.map_left
end
theorem take_snoc {α : Type} {l : List α} {i : Nat} {x : α} (h : l[i]? = some x) : l.take (i + 1) = l.take i ++ [x] := by
  rw [List.take_succ, h]
  rfl


theorem but_same {H H' H2 : Hp} {D : Addr} (b : But D H H') (s : Same H' H2) : But D H H2 := fun x o n e => s _ _ (b x o n e)
theorem but_upd {H H' : Hp} {D : Addr} {o : HO} (b : But D H H') : But D H (upd H' D o) := fun x y n e => by rw [upd_ne n]; exact b x y n e
theorem same_but2 {H H' H2 : Hp} {D : Addr} (s : Same H H') (b : But D H' H2) : But D H H2 := fun x o n e => b _ _ n (s _ _ e)
theorem but_trans {H H' H2 : Hp} {D : Addr} (a : But D H H') (b : But D H' H2) : But D H H2 := fun x o n e => b _ _ n (a _ _ n e)
theorem but_of_same {H H' : Hp} {D : Addr} (s : Same H H') : But D H H' := fun x o _ e => s _ _ e
theorem but_new {H : Hp} {D : Addr} {o : HO} : But D H (upd H D o) := fun x y n e => by rw [upd_ne n]; exact e
theorem but_none {H H' : Hp} {D : Addr} (b : But D H H') (h : H D = none) : Same H H' := fun x o e => b x o (ne_of_none e h) e
section
variable {K : PySem.W.Frag} {H H' : Hp} {D : Addr}
/-- D holds neither a tuple nor a list, nor is it locked -/
structure Odd (H : Hp) (D : Addr) : Prop where
  nt : ∀ ys, H D ≠ some (.tup ys)
  nf : ∀ ob ys, H D ≠ some (.frz ob (.tup ys))
theorem Odd.of {u : HO} (h : H D = some u) (h1 : ∀ ys, u ≠ .tup ys) (h2 : ∀ ob ys, u ≠ .frz ob (.tup ys)) : Odd H D :=
  ⟨fun _ e => h1 _ (Option.some.inj (h.symm.trans e)), fun _ _ e => h2 _ _ (Option.some.inj (h.symm.trans e))⟩
theorem Odd.ins {C dx : Addr} {fs : List (Str × V)} (h : H D = some (.ins C dx fs)) : Odd H D := .of h (fun _ e => by cases e) (fun _ _ e => by cases e)
theorem Odd.lst {xs : List V} (h : H D = some (.lst xs)) : Odd H D := .of h (fun _ e => by cases e) (fun _ _ e => by cases e)
theorem Odd.sqt {a : Addr} {xs : List V} (O : Odd H D) (b : But D H H') (h : SqT K H a xs) : SqT K H' a xs := by
  rcases h with (h | ⟨ob, h⟩) | h
  · exact .inl (.inl (b _ _ (fun e => O.nt _ (e ▸ h)) h))
  · exact .inl (.inr ⟨ob, b _ _ (fun e => O.nf _ _ (e ▸ h)) h⟩)
  · exact .inr h
theorem Odd.rn {x : V} {q : Rat} (O : Odd H D) (b : But D H H') (h : Rn K H x q) : Rn K H' x q := let ⟨a, e, h⟩ := h; ⟨a, e, O.sqt b h⟩
theorem Odd.num {x : V} {q : Rat} (O : Odd H D) (b : But D H H') (h : Num K H x q) : Num K H' x q := by
  rcases h.kinds with ⟨rfl, e⟩ | h
  · have e2 : q = ((q.num : Int) : Rat) := Rat.ext rfl e
    have := num_int (K := K) (H := H') q.num
    rw [← e2] at this
    exact this
  · exact (O.rn b h).num
end
/-! ### numbers as data -/
abbrev datR (q : Rat) : PyData := .tuple [.int q.num, .int (q.den : Int)]
section
variable {K : PySem.W.Frag} {H : Hp}
theorem Rn.dp {v : V} {q : Rat} (h : Rn K H v q) : Dp K H v (datR q) := by
  obtain ⟨a, rfl, h⟩ := h
  exact .tup h (.cons (.int _) (.cons (.int _) .nil))
theorem rnl_dp : ∀ {xs : List V} {qs : List Rat}, All2 (Rn K H) xs qs → DpAll K H xs (qs.map datR)
  | _, _, .nil => .nil
  | _, _, .cons h t => .cons h.dp (rnl_dp t)
end
theorem canR (q : Rat) : (datR q).canLay0 = true := by simp [PyData.canLay0, PyData.canLayAll0]
theorem canRs : ∀ qs : List Rat, PyData.canLayAll0 (qs.map datR) = true
  | [] => rfl
  | q :: qs => by
    show ((datR q).canLay0 && PyData.canLayAll0 (qs.map datR)) = true
    rw [canR, canRs qs]
    rfl
theorem depRs : ∀ qs : List Rat, PyData.depthAll (qs.map datR) ≤ 1
  | [] => Nat.zero_le _
  | q :: qs => by
    have := depRs qs
    show max (PyData.depth (datR q)) (PyData.depthAll (qs.map datR)) ≤ 1
    have e : PyData.depth (datR q) = 1 := by simp [PyData.depth, PyData.depthAll]
    omega
theorem shapedR (q : Rat) : SeqAt.shaped (datR q) = true := by
  unfold SeqAt.shaped
  rw [canR]
  simp [PyData.depth, PyData.depthAll]
theorem shapedRs (qs : List Rat) : SeqAt.shaped (.list (qs.map datR)) = true := by
  unfold SeqAt.shaped
  rw [show (PyData.list (qs.map datR)).canLay0 = PyData.canLayAll0 (qs.map datR) from rfl, canRs, Bool.true_and, decide_eq_true_eq]
  have := depRs qs
  show PyData.depthAll (qs.map datR) + 1 ≤ 64
  omega
theorem eqvRR (p q : Rat) : PyData.eqv (datR p) (datR q) = decide (p = q) := by
  have e : (p = q) ↔ (p.num = q.num ∧ p.den = q.den) := ⟨fun e => by rw [e]; exact ⟨rfl, rfl⟩, fun h => Rat.ext h.1 h.2⟩
  have e2 : decide (p = q) = (decide (p.num = q.num) && decide (p.den = q.den)) := by
    rw [← Bool.decide_and, decide_eq_decide]
    exact e
  rw [e2]
  show ((p.num == q.num) && (((p.den : Int) == (q.den : Int)) && true)) = _
  have h1 : ∀ i j : Int, (i == j) = decide (i = j) := fun i j => by
    rw [Bool.eq_iff_iff, beq_iff_eq, decide_eq_true_eq]
  rw [Bool.and_true, h1, h1]
  congr 1
  rw [decide_eq_decide]
  exact Int.natCast_inj
theorem eqvRRs : ∀ ps qs : List Rat, PyData.eqv (.list (ps.map datR)) (.list (qs.map datR)) = decide (ps = qs)
  | [], [] => rfl
  | [], _ :: _ => rfl
  | _ :: _, [] => rfl
  | p :: ps, q :: qs => by
    show (PyData.eqv (datR p) (datR q) && PyData.eqvAll (ps.map datR) (qs.map datR)) = _
    have h : PyData.eqvAll (ps.map datR) (qs.map datR) = decide (ps = qs) := eqvRRs ps qs
    rw [h, eqvRR, ← Bool.decide_and, decide_eq_decide, List.cons.injEq]
theorem anyRR (q : Rat) : ∀ qs : List Rat, ((qs.map datR).any fun z => PyData.eqv z (datR q)) = decide (q ∈ qs)
  | [] => rfl
  | p :: ps => by
    rw [List.map_cons, List.any_cons, anyRR q ps, eqvRR, ← Bool.decide_or, decide_eq_decide, List.mem_cons]
    exact ⟨fun h => h.imp Eq.symm id, fun h => h.imp Eq.symm id⟩
end LR
/-! LOrd: ranks of exact numbers by scaled floors; lists in order. Core Lean alone. -/
namespace LR
/-- the whole part of q * 2 ^ (2 * m) -/
def rank (m : Nat) (q : Rat) : Int := (q.num * 2 ^ (2 * m)) / (q.den : Int)
theorem rank_lt {m : Nat} {p q : Rat} (hp : p.den < 2 ^ m) (hq : q.den < 2 ^ m) (h : p < q) : rank m p < rank m q := by
  unfold rank
  have d1 : (0 : Int) < p.den := by have := den_pos p; omega
  have d2 : (0 : Int) < q.den := by have := den_pos q; omega
  have hl := (Rat.lt_iff p q).mp h
  have hD : (p.den : Int) * q.den ≤ 2 ^ (2 * m) := by
    have e : (2 : Int) ^ (2 * m) = ((2 ^ m * 2 ^ m : Nat) : Int) := by
      rw [← Nat.pow_add, show m + m = 2 * m by omega, Int.natCast_pow]
      rfl
    rw [e, ← Int.natCast_mul]
    exact Int.ofNat_le.mpr (Nat.mul_le_mul (Nat.le_of_lt hp) (Nat.le_of_lt hq))
  generalize (2 : Int) ^ (2 * m) = D at hD
  have hD0 : 0 < D := Int.lt_of_lt_of_le (Int.mul_pos d1 d2) hD
  have hx : p.num * D / p.den * p.den ≤ p.num * D := Int.ediv_mul_le _ (Int.ne_of_gt d1)
  generalize p.num * D / (p.den : Int) = x at hx ⊢
  have key : (x + 1) * q.den ≤ q.num * D := by
    refine Int.le_of_mul_le_mul_right (a := (p.den : Int)) ?_ d1
    have e1 : (x + 1) * q.den * p.den = x * p.den * q.den + p.den * q.den := by
      rw [Int.add_mul, Int.add_mul, Int.one_mul, Int.mul_right_comm, Int.mul_comm (q.den : Int) p.den]
    have e2 : x * p.den * q.den ≤ p.num * D * q.den := Int.mul_le_mul_of_nonneg_right hx (Int.le_of_lt d2)
    have e3 : p.num * q.den + 1 ≤ q.num * p.den := hl
    have e4 : (p.num * q.den + 1) * D ≤ q.num * p.den * D := Int.mul_le_mul_of_nonneg_right e3 (Int.le_of_lt hD0)
    rw [Int.add_mul, Int.one_mul] at e4
    have e5 : p.num * D * q.den = p.num * q.den * D := Int.mul_right_comm _ _ _
    have e6 : q.num * D * p.den = q.num * p.den * D := Int.mul_right_comm _ _ _
    omega
  have := (Int.le_ediv_iff_mul_le d2).mpr key
  omega
theorem rank_inj {m : Nat} {p q : Rat} (hp : p.den < 2 ^ m) (hq : q.den < 2 ^ m) (h : rank m p = rank m q) : p = q := by
  by_cases c : p < q
  · have := rank_lt hp hq c
    omega
  · by_cases d : q < p
    · have := rank_lt hq hp d
      omega
    · exact Rat.le_antisymm (Rat.not_lt.mp d) (Rat.not_lt.mp c)
theorem rank_le {m : Nat} {p q : Rat} (hp : p.den < 2 ^ m) (hq : q.den < 2 ^ m) (h : rank m p ≤ rank m q) : p ≤ q := by
  rw [← Rat.not_lt]
  intro c
  have := rank_lt hq hp c
  omega
theorem rank_abs {m b : Nat} {q : Rat} (h : q.num.natAbs < 2 ^ b) : (q.num * 2 ^ (2 * m)).natAbs < 2 ^ (b + 2 * m) := by
  rw [Int.natAbs_mul, Nat.pow_add, Int.natAbs_pow]
  exact Nat.mul_lt_mul_of_pos_right h (Nat.pow_pos (by decide))
theorem perm_map_inv {α β : Type} {f : α → β} : ∀ {l : List β} {m : List α}, l.Perm (m.map f) → ∃ m' : List α, l = m'.map f ∧ m'.Perm m
  | [], m, h => by
    have : m.map f = [] := (List.nil_perm.mp h)
    exact ⟨[], rfl, by rw [List.map_eq_nil_iff.mp this]⟩
  | x :: l, m, h => by
    have hx : x ∈ m.map f := h.mem_iff.mp List.mem_cons_self
    obtain ⟨a, ha, rfl⟩ := List.mem_map.mp hx
    obtain ⟨s, t, rfl⟩ := List.append_of_mem ha
    have h2 : l.Perm ((s ++ t).map f) := by
      rw [List.map_append, List.map_cons] at h
      have h3 := h.trans List.perm_middle
      rw [List.map_append]
      exact h3.cons_inv
    obtain ⟨m', e, p⟩ := perm_map_inv h2
    exact ⟨a :: m', by rw [List.map_cons, e], (p.cons a).trans List.perm_middle.symm⟩
/-- a list of numbers in order, without duplicates, of the members of another -/
def InOrder (qs rs : List Rat) : Prop := rs.Pairwise (· < ·) ∧ ∀ r, r ∈ rs ↔ r ∈ qs
theorem nodup_one {α β : Type} {f : α → β} : ∀ {l : List α}, (l.map f).Nodup → ∀ x ∈ l, ∀ y ∈ l, f x = f y → x = y
  | [], _, _, h, _, _, _ => by cases h
  | a :: l, hn, x, hx, y, hy, e => by
    obtain ⟨h1, h2⟩ := List.nodup_cons.mp hn
    by_cases ex : x = a
    · by_cases ey : y = a
      · rw [ex, ey]
      · have hy' : y ∈ l := (List.mem_cons.mp hy).resolve_left ey
        exact absurd (List.mem_map.mpr ⟨y, hy', by rw [← e, ex]⟩) h1
    · have hx' : x ∈ l := (List.mem_cons.mp hx).resolve_left ex
      by_cases ey : y = a
      · exact absurd (List.mem_map.mpr ⟨x, hx', by rw [e, ey]⟩) h1
      · exact nodup_one h2 x hx' y ((List.mem_cons.mp hy).resolve_left ey) e
end LR
namespace LR
theorem gcd_step {a b : Int} (hb : 0 ≤ b) (hb0 : b ≠ 0) : Nat.gcd b.natAbs (a % b).natAbs = Nat.gcd a.natAbs b.natAbs := by
  have d := Int.emod_add_mul_ediv a b
  refine Nat.dvd_antisymm (Nat.dvd_gcd ?_ (Nat.gcd_dvd_left _ _)) (Nat.dvd_gcd (Nat.gcd_dvd_right _ _) ?_)
  · have h1 : ((Nat.gcd b.natAbs (a % b).natAbs : Nat) : Int) ∣ b := Int.ofNat_dvd_left.mpr (Nat.gcd_dvd_left _ _)
    have h2 : ((Nat.gcd b.natAbs (a % b).natAbs : Nat) : Int) ∣ a % b := Int.ofNat_dvd_left.mpr (Nat.gcd_dvd_right _ _)
    have h3 := Int.dvd_add h2 (Int.dvd_trans h1 (Int.dvd_mul_right b (a / b)))
    rw [d] at h3
    exact Int.ofNat_dvd_left.mp h3
  · have h1 : ((Nat.gcd a.natAbs b.natAbs : Nat) : Int) ∣ b := Int.ofNat_dvd_left.mpr (Nat.gcd_dvd_right _ _)
    have h2 : ((Nat.gcd a.natAbs b.natAbs : Nat) : Int) ∣ a := Int.ofNat_dvd_left.mpr (Nat.gcd_dvd_left _ _)
    have h3 := Int.dvd_sub h2 (Int.dvd_trans h1 (Int.dvd_mul_right b (a / b)))
    rw [show a - b * (a / b) = a % b by omega] at h3
    exact Int.ofNat_dvd_left.mp h3
end LR
set_option Elab.async false
set_option linter.all false
set_option maxRecDepth 100000
set_option maxHeartbeats 4000000
namespace LR
open PySem PySem.Spec PyProof.Rows L2
theorem sc_inserted : FnScope ["rows", "found", "row", "top", "bottom", "at"] ["rows"] (defScope s_inserted) := ⟨rfl, rfl, rfl, by decide +kernel, rfl, by decide +kernel, by decide +kernel⟩
theorem sc_ranked : FnScope ["rows"] ["rows"] (defScope s_ranked) := ⟨rfl, rfl, rfl, by decide +kernel, rfl, by decide +kernel, by decide +kernel⟩
theorem sc_ascending : FnScope ["rows"] ["rows"] (defScope s_ascending) := ⟨rfl, rfl, rfl, by decide +kernel, rfl, by decide +kernel, by decide +kernel⟩
theorem sc_in_order : FnScope ["values", "value"] ["values"] (defScope s_in_order) := ⟨rfl, rfl, rfl, by decide +kernel, rfl, by decide +kernel, by decide +kernel⟩
/-- a list of numbers -/
def Nums (K : PySem.W.Frag) (H : Hp) (a : Addr) (qs : List Rat) : Prop := ∃ xs, SqL K H a xs ∧ All2 (Num K H) xs qs
/-- a list of ratios -/
def RnL (K : PySem.W.Frag) (H : Hp) (v : V) (rs : List Rat) : Prop := ∃ p xs, v = .ref p ∧ H p = some (.lst xs) ∧ All2 (Rn K H) xs rs
/-! ### one number put into a list in order -/
/-- the numbers of rs from k on are above q -/
def Above (q : Rat) (rs : List Rat) (k : Nat) : Prop := ∀ j r, k ≤ j → rs[j]? = some r → q < r
theorem pw_get {rs : List Rat} (h : rs.Pairwise (· < ·)) : ∀ {i j : Nat} {a b : Rat}, i < j → rs[i]? = some a → rs[j]? = some b → a < b := by
  intro i j a b ij h1 h2
  have hj := (List.getElem?_eq_some_iff.mp h2)
  have hi := (List.getElem?_eq_some_iff.mp h1)
  obtain ⟨j1, e2⟩ := hj
  obtain ⟨i1, e1⟩ := hi
  rw [← e1, ← e2]
  exact List.pairwise_iff_getElem.mp h i j i1 j1 ij
/-- put at k -/
theorem put_order {qs rs : List Rat} {q : Rat} {k : Nat} (o : InOrder qs rs) (hk : k ≤ rs.length) (ab : Above q rs k) (be : ∀ j r, j < k → rs[j]? = some r → r < q) : InOrder (qs ++ [q]) (rs.take k ++ [q] ++ rs.drop k) := by
  obtain ⟨pw, mem⟩ := o
  refine ⟨?_, fun r => ?_⟩
  · have h1 : ∀ x ∈ rs.take k, x < q := fun x hx => by
      obtain ⟨i, hi, e⟩ := List.mem_iff_getElem.mp hx
      rw [List.length_take] at hi
      exact be i x (by omega) (by rw [List.getElem?_eq_getElem (by omega)]; rw [List.getElem_take] at e; rw [e])
    have h2 : ∀ x ∈ rs.drop k, q < x := fun x hx => by
      obtain ⟨i, hi, e⟩ := List.mem_iff_getElem.mp hx
      rw [List.length_drop] at hi
      exact ab (k + i) x (by omega) (by rw [List.getElem?_eq_getElem (by omega)]; rw [List.getElem_drop] at e; rw [e])
    have pt : (rs.take k).Pairwise (· < ·) := pw.sublist (List.take_sublist _ _)
    have pd : (rs.drop k).Pairwise (· < ·) := pw.sublist (List.drop_sublist _ _)
    rw [List.append_assoc]
    refine List.pairwise_append.mpr ⟨pt, List.pairwise_cons.mpr ⟨h2, pd⟩, fun a ha b hb => ?_⟩
    rcases List.mem_cons.mp hb with e | hb
    · rw [e]
      exact h1 a ha
    · have := h1 a ha
      have := h2 b hb
      grind
  · rw [List.append_assoc, List.mem_append, List.mem_append, List.mem_append, List.mem_singleton]
    have e := mem r
    have t : r ∈ rs ↔ r ∈ rs.take k ∨ r ∈ rs.drop k := by
      rw [← List.mem_append, List.take_append_drop]
    constructor
    · rintro (h | h | h)
      · exact .inl (e.mp (t.mpr (.inl h)))
      · exact .inr h
      · exact .inl (e.mp (t.mpr (.inr h)))
    · rintro (h | h)
      · rcases t.mp (e.mpr h) with h | h
        · exact .inl h
        · exact .inr (.inr h)
      · exact .inr (.inl h)
theorem same_order {qs rs : List Rat} {q : Rat} (o : InOrder qs rs) (h : q ∈ rs) : InOrder (qs ++ [q]) rs := by
  refine ⟨o.1, fun r => ?_⟩
  rw [List.mem_append, List.mem_singleton, o.2 r]
  exact ⟨.inl, fun z => z.elim id fun e => by rw [e]; exact (o.2 q).mp h⟩
theorem All2.drop {α β : Type} {R : α → β → Prop} : ∀ (n : Nat) {xs : List α} {ys : List β}, All2 R xs ys → All2 R (xs.drop n) (ys.drop n)
  | 0, _, _, h => h
  | n + 1, _, _, .nil => .nil
  | n + 1, _, _, .cons _ t => t.drop n
theorem All2.append {α β : Type} {R : α → β → Prop} : ∀ {xs : List α} {ys : List β} {us : List α} {vs : List β}, All2 R xs ys → All2 R us vs → All2 R (xs ++ us) (ys ++ vs)
  | _, _, _, _, .nil, h => h
  | _, _, _, _, .cons a t, h => .cons a (t.append h)
theorem All2.get2 {α β : Type} {R : α → β → Prop} : ∀ {xs : List α} {ys : List β} {i : Nat} {y : β}, All2 R xs ys → ys[i]? = some y → ∃ x, xs[i]? = some x ∧ R x y
  | _, _, _, _, .nil, e => by simp at e
  | _, _, 0, _, .cons h _, e => by simp at e; subst e; exact ⟨_, rfl, h⟩
  | _, _, i + 1, y, .cons _ t, e => by
    obtain ⟨x, a, b⟩ := t.get2 (i := i) (y := y) (by simpa using e)
    exact ⟨x, by simpa using a, b⟩
section
variable {P : Program} {w : World} {K : PySem.W.Frag} {mg : Str → Option Value} {base : Heap}
/-! ### _inserted -/
def szOf6 : L2.St → Nat
  | [_, _, _, _, _, some (.int k)] => k.toNat
  | _ => 0
def spIns (K : PySem.W.Frag) : Sp := fun vs H Q _ => ∃ (a : Addr) (xs : List V) (qs : List Rat), vs = [.ref a] ∧ SqL K H a xs ∧ All2 (Rn K H) xs qs ∧ qs.length ≤ 63 ∧ (∀ q ∈ qs, Sz 3900 q) ∧ ∀ rs v H', InOrder qs rs → Same H H' → RnL K H' v rs → Q v H'
theorem ok_Ins {f : Addr} {fd : FuncData} (D : DefAt K mg "_inserted" s_inserted ["rows"] f fd) (ml : mg "len" = none) : FnOk P w K mg base (CXl P w) 1 f fd ["rows"] (spIns K) := by
  refine D.F.okX sc_inserted (fun vs H Q E h => ?_) (fun cdv A outer s H vs Q E hr h => ?_)
  · obtain ⟨a, xs, qs, rfl, _⟩ := h
    rfl
  · obtain ⟨a, xs, qs, rfl, hS, hA, hlen, hz, q⟩ := h
    have nd := sc_inserted.nd
    refine ⟨_, pss_cons (ps_set (i := 1) nd rfl (.inl rfl) (pe_lst pa_nil))
      (pss_cons (ps_for (passes_of rfl) rfl (pi_list (pv 0)) (pg_name (i := 2) nd rfl (.inl rfl))
        (pss_cons (ps_asg (pv 2) (pg_tup rfl (pgs_cons (pg_name (i := 3) nd rfl (.inl rfl)) (pgs_cons (pg_name (i := 4) nd rfl (.inl rfl)) pgs_nil))))
        (pss_cons (ps_set (i := 5) nd rfl (.inl rfl) (pe_callB call_len_seq (by rfl) ml PySem.boot_len (pa_cons (pv 1) pa_nil)))
        (C8.pss_cut (ps_while (passes_of rfl) (PW.pt (pw_and (pt_truth (pv 5) (fun _ => rfl)) (pw_and1 (pt_cmpR op_lt (pe_op op_mulW (pv 3) (pe_ix (r := rIxT K) ix_tup (pe_ix (r := rIxL K) ix_list (pv 1) (pe_op op_sub (pv 5) pe_int) (fun _ _ => rfl)) pe_int (fun _ _ => rfl))) (pe_op op_mulW (pe_ix (r := rIxT K) ix_tup (pe_ix (r := rIxL K) ix_list (pv 1) (pe_op op_sub (pv 5) pe_int) (fun _ _ => rfl)) pe_int (fun _ _ => rfl)) (pv 4)) (nomark _)))))
            (pss_one (ps_aug (i := 5) nd rfl (.inl rfl) pe_int ip_sub)))
        (pss_one (ps_if (PW.pt (pw_or (pt_not (pt_truth (pv 5) (fun _ => rfl))) (pw_or1 (pt_cmpR (op_neD hr.units) (pe_ix (r := rIxL K) ix_list (pv 1) (pe_op op_sub (pv 5) pe_int) (fun _ _ => rfl)) (pv 2) (nomark _)))))
            (pss_one (ps_expr (pe_bm PySem.F.plainAttrs_list PySem.F.slot_list_insert PySem.F.type_list_insert mt_insert (pv 1) (pa_cons (pv 5) (pa_cons (pv 2) pa_nil))))) pss_nil))))))
      (pss_one (ps_ret (pv 1)))), ?_⟩
    refine ⟨by show 0 ≤ sizeLine; decide, fun L nL => ?_⟩
    have s0 : Same H (upd H L (.lst [])) := same_new nL
    have hL0 : (upd H L (.lst [])) L = some (.lst []) := upd_same
    show tNext _ _ (upd H L (.lst []))
    generalize (upd H L (.lst [])) = H0 at s0 hL0 ⊢
    refine ⟨.ref a, rfl, a, rfl, ⟨_, s0.seq hS⟩, for_list (xs := xs) (fun i σ H' => Same H H' ∧ i ≤ qs.length ∧ ∃ o2 o3 o4 o5 fs rs, σ = [some (.ref a), some (.ref L), o2, o3, o4, o5] ∧ H' L = some (.lst fs) ∧ All2 (Rn K H') fs rs ∧ InOrder (qs.take i) rs ∧ rs.length ≤ i) ⟨s0, Nat.zero_le _, none, none, none, none, [], [], rfl, hL0, .nil, ⟨.nil, fun r => by simp⟩, Nat.le_refl _⟩ (fun i σ H' _ hP => hP.1.seq hS) (fun i x σ H' hx hP => ?_) (fun σ H' hP => ?_)⟩
    · obtain ⟨sm, _, o2, o3, o4, o5, fs, rs, rfl, hL, hF, ord, rl⟩ := hP
      obtain ⟨p, hp, rp⟩ := hA.get hx
      have il : i < qs.length := (List.getElem?_eq_some_iff.mp hp).1
      obtain ⟨b, rfl, hb⟩ := rp.same sm
      have pq : p ∈ qs := List.mem_of_getElem? hp
      have zp := hz p pq
      have fl := hF.len
      have dp := den_pos p
      have rsz : ∀ r ∈ rs, Sz 3900 r := fun r hr => hz r (List.mem_of_mem_take ((ord.2 r).mp hr))
      refine ⟨.ref b, rfl, b, _, rfl, hb, rfl, .int p.num, _, rfl, .int p.den, _, rfl, rfl, ?_⟩
      refine ⟨.ref L, rfl, L, fs, rfl, .inl (.of hL), ?_⟩
      -- the entry before k
      have ent : ∀ k : Nat, 0 < k → k ≤ rs.length → ∃ (c : Addr) (r : Rat), fs[k - 1]? = some (.ref c) ∧ rs[k - 1]? = some r ∧ SqT K H' c (rt r) ∧ Sz 3900 r := by
        intro k k0 kl
        have h1 : rs[k - 1]? = some (rs[k - 1]'(by omega)) := List.getElem?_eq_getElem (by omega)
        obtain ⟨x, hx, c, rfl, hc⟩ := hF.get2 h1
        exact ⟨c, _, hx, h1, hc, rsz _ (List.mem_of_getElem? h1)⟩
      refine ⟨fun σ' H'' => H'' = H' ∧ ∃ k : Nat, σ' = [some (.ref a), some (.ref L), some (.ref b), some (.int p.num), some (.int p.den), some (.int k)] ∧ k ≤ rs.length ∧ Above p rs k ∧ (k = 0 ∨ ∃ r, rs[k - 1]? = some r ∧ ¬ p < r), ?_, ?_⟩
      · refine while_by (fun σ' H'' => H'' = H' ∧ ∃ k : Nat, σ' = [some (.ref a), some (.ref L), some (.ref b), some (.int p.num), some (.int p.den), some (.int k)] ∧ k ≤ rs.length ∧ Above p rs k) (fun σ' _ => szOf6 σ') ⟨rfl, fs.length, rfl, by omega, fun j r hj e => absurd (List.getElem?_eq_some_iff.mp e).1 (by omega)⟩ (fun σ' H'' hP => ?_) (fun σ' H'' Q Q' f hq => ?_)
        · obtain ⟨rfl, k, rfl, kl, ab⟩ := hP
          refine ⟨_, rfl, _, rfl, ?_⟩
          by_cases k0 : k = 0
          · subst k0
            exact iteF (iteF ⟨rfl, 0, rfl, kl, ab, .inl rfl⟩)
          · obtain ⟨c, r, hc, hr', tc, zr⟩ := ent k (by omega) kl
            have kt : ((k : Int) != 0) = true := by simp; omega
            rw [kt]
            refine iteT ?_
            have ik : (k : Int) - 1 = ((k - 1 : Nat) : Int) := by omega
            refine ⟨_, rfl, .ref L, rfl, _, rfl, (k : Int), 1, rfl, rfl, L, fs, (k : Int) - 1, .ref c, rfl, rfl, .of hL, by rw [ik]; exact atI_nat hc, c, _, 1, _, rfl, rfl, tc, atI_nat (j := 1) rfl, _, _, rfl, rfl, wm zp.1 (by rw [Int.natAbs_natCast]; exact zr.2), ?_⟩
            refine ⟨.ref L, rfl, _, rfl, (k : Int), 1, rfl, rfl, L, fs, (k : Int) - 1, .ref c, rfl, rfl, .of hL, by rw [ik]; exact atI_nat hc, c, _, 0, _, rfl, rfl, tc, atI_nat (j := 0) rfl, _, rfl, _, _, rfl, rfl, wm zr.1 (by rw [Int.natAbs_natCast]; exact zp.2), ?_⟩
            refine ⟨_, _, rfl, rfl, _, rfl, ite2 (fun c => ?_) (fun c => ?_)⟩
            · have lt : p < r := (Rat.lt_iff p r).mpr (of_decide_eq_true c)
              refine ⟨_, rfl, (k : Int), 1, rfl, rfl, ⟨rfl, k - 1, by rw [← ik]; rfl, by omega, fun j t hj e => ?_⟩, ?_⟩
              · by_cases ej : j = k - 1
                · subst ej
                  rw [hr'] at e
                  cases e
                  exact lt
                · exact ab j t (by omega) e
              · show ((k : Int) - 1).toNat < (k : Int).toNat
                omega
            · exact ⟨rfl, k, rfl, kl, ab, .inr ⟨r, hr', fun z => c (decide_eq_true ((Rat.lt_iff p r).mp z))⟩⟩
        · obtain ⟨x, hx, k, hk, hq⟩ := hq
          refine ⟨x, hx, k, hk, ?_⟩
          cases k with
          | false => exact f _ _ hq
          | true =>
            obtain ⟨a1, b1, a2, b2, a3, b3, a4, a5, b4, b5, a6, a7, a8, a9, b6, b7, b8, b9, a10, a11, a12, a13, b10, b11, b12, b13, a14, a15, b14, b15, b16, hq⟩ := hq
            obtain ⟨c1, d1, c2, d2, c3, c4, d3, d4, c5, c6, c7, c8, d5, d6, d7, d8, c9, c10, c11, c12, d9, d10, d11, d12, c13, d13, c14, c15, d14, d15, d16, hq⟩ := hq
            obtain ⟨g1, g2, g3, g4, g5, g6, hq⟩ := hq
            exact ⟨a1, b1, a2, b2, a3, b3, a4, a5, b4, b5, a6, a7, a8, a9, b6, b7, b8, b9, a10, a11, a12, a13, b10, b11, b12, b13, a14, a15, b14, b15, b16, c1, d1, c2, d2, c3, c4, d3, d4, c5, c6, c7, c8, d5, d6, d7, d8, c9, c10, c11, c12, d9, d10, d11, d12, c13, d13, c14, c15, d14, d15, d16, g1, g2, g3, g4, g5, g6, f _ _ hq⟩
      · rintro σ' H'' ⟨rfl, k, rfl, kl, ab, last⟩
        have tq := take_snoc hp
        -- the number is put at k
        have big : fs.length < sizeLine := Nat.lt_trans (show fs.length < 1000 by omega) (small1000 (Nat.le_refl _))
        have su : Same H (upd H'' L (.lst (fs.take (k : Int).toNat ++ [.ref b] ++ fs.drop (k : Int).toNat))) := same_but sm nL
        have put : (∀ j r, j < k → rs[j]? = some r → r < p) → ∃ fs' rs', (upd H'' L (.lst (fs.take (k : Int).toNat ++ [.ref b] ++ fs.drop (k : Int).toNat))) L = some (.lst fs') ∧ All2 (Rn K (upd H'' L (.lst (fs.take (k : Int).toNat ++ [.ref b] ++ fs.drop (k : Int).toNat)))) fs' rs' ∧ InOrder (qs.take (i + 1)) rs' ∧ rs'.length ≤ i + 1 := fun be => by
          refine ⟨_, rs.take k ++ [p] ++ rs.drop k, upd_same, ?_, ?_, ?_⟩
          · rw [Int.toNat_natCast]
            have h1 := hF.imp fun _ _ z => rn_lst (o := .lst (fs.take k ++ [.ref b] ++ fs.drop k)) hL z
            exact ((h1.take k).append (.cons (rn_lst hL ⟨b, rfl, hb⟩) .nil)).append (h1.drop k)
          · rw [tq]
            exact put_order ord kl ab be
          · rw [List.length_append, List.length_append, List.length_take, List.length_drop, List.length_singleton]
            omega
        refine ⟨_, rfl, _, rfl, ?_⟩
        by_cases k0 : k = 0
        · subst k0
          obtain ⟨fs', rs', h1, h2, h3, h4⟩ := put (fun j r hj => by omega)
          exact iteT (iteT ⟨.ref L, rfl, .inl ⟨rfl, _, .of hL⟩, _, rfl, _, rfl, L, fs, ((0 : Nat) : Int), .ref b, rfl, rfl, hL, big, by omega, by omega, su, il, _, _, _, _, fs', rs', rfl, h1, h2, h3, h4⟩)
        · have kt : ((k : Int) != 0) = true := by simp; omega
          rw [kt]
          refine iteF ?_
          obtain ⟨c, r, hc, hr', tc, zr⟩ := ent k (by omega) kl
          have ik : (k : Int) - 1 = ((k - 1 : Nat) : Int) := by omega
          obtain ⟨r2, hr2, nlt⟩ := last.resolve_left k0
          rw [hr'] at hr2
          cases hr2
          refine ⟨.ref L, rfl, _, rfl, (k : Int), 1, rfl, rfl, L, fs, (k : Int) - 1, .ref c, rfl, rfl, .of hL, by rw [ik]; exact atI_nat hc, .ref b, rfl, datR r, datR p, Rn.dp ⟨c, rfl, tc⟩, Rn.dp ⟨b, rfl, hb⟩, shapedR _, shapedR _, _, rfl, ?_⟩
          rw [eqvRR]
          by_cases e : r = p
          · rw [decide_eq_true e]
            refine iteF ⟨sm, il, _, _, _, _, fs, rs, rfl, hL, hF, ?_, by omega⟩
            rw [tq]
            exact same_order ord (e ▸ List.mem_of_getElem? hr')
          · rw [decide_eq_false e]
            have rp' : r < p := by grind
            obtain ⟨fs', rs', h1, h2, h3, h4⟩ := put (fun j t hj et => by
              by_cases ej : j = k - 1
              · subst ej
                rw [hr'] at et
                cases et
                exact rp'
              · have := pw_get ord.1 (show j < k - 1 by omega) et hr'
                grind)
            exact iteT ⟨.ref L, rfl, .inl ⟨rfl, _, .of hL⟩, _, rfl, _, rfl, L, fs, (k : Int), .ref b, rfl, rfl, hL, big, by omega, by omega, su, il, _, _, _, _, fs', rs', rfl, h1, h2, h3, h4⟩
    · obtain ⟨sm, _, o2, o3, o4, o5, fs, rs, rfl, hL, hF, ord, rl⟩ := hP
      have e : qs.take xs.length = qs := List.take_of_length_le (by rw [hA.len]; exact Nat.le_refl _)
      rw [e] at ord
      exact ⟨_, rfl, q rs _ H' ord sm ⟨L, fs, rfl, hL, hF⟩⟩
/-! ### _ranked, not reached here; ascending -/
theorem ok_Rkd {f : Addr} {fd : FuncData} (D : DefAt K mg "_ranked" s_ranked ["rows"] f fd) : FnOk P w K mg base (CXl P w) 1 f fd ["rows"] (fun _ _ _ _ => False) :=
  D.F.okX sc_ranked (fun _ _ _ _ h => h.elim) (fun _ _ _ _ _ _ _ _ _ h => h.elim)
def spAsc (K : PySem.W.Frag) : Sp := fun vs H Q _ => ∃ (a : Addr) (xs : List V) (qs : List Rat), vs = [.ref a] ∧ SqL K H a xs ∧ All2 (Rn K H) xs qs ∧ qs.length ≤ 8 ∧ (∀ q ∈ qs, Sz 3900 q) ∧ ∀ rs v H', InOrder qs rs → Same H H' → RnL K H' v rs → Q v H'
theorem ok_Asc {f fR fI : Addr} {fd dR dI : FuncData} {t8 : Tok} (D : DefAt K mg "ascending" s_ascending ["rows"] f fd) (DR : DefAt K mg "_ranked" s_ranked ["rows"] fR dR) (DI : DefAt K mg "_inserted" s_inserted ["rows"] fI dI) (m8 : mg "FEW" = some (.int 8 t8)) (ml : mg "len" = none)
    (GR : FnOk P w K mg base (CXl P w) 1 fR dR ["rows"] (fun _ _ _ _ => False)) (GI : FnOk P w K mg base (CXl P w) 1 fI dI ["rows"] (spIns K)) : FnOk P w K mg base (CXl P w) 2 f fd ["rows"] (spAsc K) := by
  refine D.F.okX sc_ascending (fun vs H Q E h => ?_) (fun cdv A outer s H vs Q E hr h => ?_)
  · obtain ⟨a, xs, qs, rfl, _⟩ := h
    rfl
  · obtain ⟨a, xs, qs, rfl, hS, hA, hlen, hz, q⟩ := h
    refine ⟨_, pss_one (ps_ret (pe_ifExp (pt_cmpR op_gt (pe_callB call_len_seq (by rfl) ml PySem.boot_len (pa_cons (pv 0) pa_nil)) (pe_glob (v := .int 8) rfl m8 ⟨t8, rfl⟩) (nomark _)) (pe_call GR hr (by rfl) DR.g DR.F.kp DR.b .nil passL (pa_cons (pv 0) pa_nil)) (pe_call GI hr (by rfl) DI.g DI.F.kp DI.b .nil passL (pa_cons (pv 0) pa_nil)))), ?_⟩
    have xl := hA.len
    refine ⟨.ref a, rfl, a, xs, rfl, .inl hS, (xs.length : Int), 8, rfl, rfl, _, rfl, ite2 (fun c => ?_) (fun _ => ?_)⟩
    · have : (8 : Int) < (xs.length : Int) := of_decide_eq_true c
      omega
    · exact ⟨_, rfl, a, xs, qs, rfl, hS, hA, by omega, hz, q⟩
/-! ### in_order -/
def spInO (K : PySem.W.Frag) (C : Addr) : Sp := fun vs H Q E => ∃ x, vs = [x] ∧
  ((∃ a qs, x = .ref a ∧ Nums K H a qs ∧ qs.length ≤ 8 ∧ (∀ q ∈ qs, Sz 3900 q) ∧ ∀ rs v H', InOrder qs rs → Same H H' → RnL K H' v rs → Q v H') ∨ (∃ n, Kd K H x n ∧ (n == "list") = false ∧ E (.ref C) none H))
theorem ok_InO {f fA fS C : Addr} {fd dA dS : FuncData} (D : DefAt K mg "in_order" s_in_order ["values"] f fd) (DA : DefAt K mg "as_ratio" s_as_ratio ["value"] fA dA) (DS : DefAt K mg "ascending" s_ascending ["rows"] fS dS) (X : ErrAt K mg "InvalidNumber" BMv "ValueError.__new__" C) (mi : mg "isinstance" = none) (ml : mg "list" = none) (mt : mg "type" = none) (m1 : mg "int" = none)
    (GA : FnOk P w K mg base (CXl P w) 3 fA dA ["value"] (spAR K C)) (GS : FnOk P w K mg base (CXl P w) 2 fS dS ["rows"] (spAsc K)) : FnOk P w K mg base (CXl P w) 4 f fd ["values"] (spInO K C) := by
  refine D.F.okX sc_in_order (fun vs H Q E h => ?_) (fun cdv A outer s H vs Q E hr h => ?_)
  · obtain ⟨x, rfl, _⟩ := h
    rfl
  · obtain ⟨x, rfl, h⟩ := h
    refine ⟨_, pss_cons (ps_if (pt_not (pt_val (pe_callB call_isi (by rfl) mi (by decide +kernel) (pa_cons (pv 0) (pa_cons (pe_bltn (v := .ty "list") (by rfl) ml (by decide +kernel) rfl) pa_nil))))) (pss_one (ps_raise rfl (takes_of rfl rfl rfl rfl) (X.mk0 PySem.F.excBase_ValueError rfl))) pss_nil)
      (pss_one (ps_ret (pe_call GS (hr.mono (by decide)) (by rfl) DS.g DS.F.kp DS.b .nil passL (pa_cons (pe_lc (own := [("value", 1)]) (g := gName 1) (tt := tYes) (by rfl) sc_in_order.nd (pi_list (pv 0)) (blkOk_by (N := ["values", "value"]) (sc := defScope s_in_order) (by decide +kernel)) (fun _ _ _ _ _ => pg_name (i := 1) sc_in_order.nd rfl (.inl rfl)) (fun _ _ _ _ _ => pts_nil)
        (fun _ _ _ _ _ => pe_ifExp (pt_cmpR op_isTyB (pe_callTy (T := "type") (r := rTyp K) (by exact call_type1) (by rfl) mt (by decide +kernel) (pa_cons (pv 1) pa_nil)) (pe_bltn (v := .ty "int") (by rfl) m1 (by decide +kernel) rfl) (nomark _)) (pe_tup (pa_cons (pv 1) (pa_cons pe_int pa_nil))) (pe_call GA hr (by rfl) DA.g DA.F.kp DA.b .nil passL (pa_cons (pv 1) pa_nil)))) pa_nil)))), ?_⟩
    rcases h with ⟨a, qs, rfl, ⟨xs, hS, hN⟩, hlen, hsz, q⟩ | ⟨n, hk, hn, e⟩
    · refine ⟨.ref a, rfl, .ref a, _, _, _, _, rfl, .ty "list", sql_ty hS, kd_list (.lst hS), _, rfl, iteF ?_⟩
      have len := hN.len
      refine ⟨.ref a, rfl, a, rfl, ⟨_, hS⟩, fun D1 n1 => lc_list (xs := xs) (fun i H' => Same H H' ∧ ∃ acc, H' D1 = some (.lst acc) ∧ acc.length = i ∧ All2 (Rn K H') acc (qs.take i)) ⟨same_new n1, [], upd_same, rfl, .nil⟩ (fun i H' _ hP => hP.1.seq hS) (fun i x H' hx hP => ?_) (fun H1 hP => ?_)⟩
      · obtain ⟨sm, acc, hD, hl, hA⟩ := hP
        obtain ⟨p, hp, np⟩ := hN.get hx
        have il : i < xs.length := (List.getElem?_eq_some_iff.mp hx).1
        have big : acc.length < sizeLine := Nat.lt_trans (show acc.length < 1000 by omega) (small1000 (Nat.le_refl _))
        have np' := np.same sm
        obtain ⟨n, hk⟩ := Arg.kd np'
        have fin : ∀ v H2, Same H' H2 → Rn K H2 v p → ∃ acc2, H2 D1 = some (.lst acc2) ∧ acc2.length < sizeLine ∧ Same H (upd H2 D1 (.lst (acc2 ++ [v]))) ∧ ∃ acc3, (upd H2 D1 (.lst (acc2 ++ [v]))) D1 = some (.lst acc3) ∧ acc3.length = i + 1 ∧ All2 (Rn K (upd H2 D1 (.lst (acc2 ++ [v])))) acc3 (qs.take (i + 1)) := fun v H2 s2 r2 => by
          refine ⟨acc, s2 _ _ hD, big, same_but (sm.trans s2) n1, _, upd_same, by rw [List.length_append, hl]; rfl, ?_⟩
          rw [take_snoc hp]
          exact (hA.imp fun _ _ z => rn_lst (s2 _ _ hD) (z.same s2)).snoc (rn_lst (s2 _ _ hD) r2)
        refine ⟨rfl, x, rfl, _, _, rfl, hk.tyB, _, _, rfl, rfl, _, rfl, ?_⟩
        rw [kd_int_ty hk]
        refine ite2 (fun c => ?_) (fun c => ?_)
        · obtain ⟨j, rfl⟩ := isI_int c
          refine ⟨_, rfl, by show 2 ≤ sizeLine; decide, fun t nt => ?_⟩
          have ep : p = ((j : Int) : Rat) := by
            cases np'
            rfl
          subst ep
          exact fin (.ref t) _ (same_new nt) (Rn.mk (q := (j : Rat)))
        · exact ⟨_, rfl, x, some p, rfl, np', fun v H2 s2 r2 => fin v H2 s2 r2⟩
      obtain ⟨s1, rows, hD1, hl1, hR⟩ := hP
      rw [List.take_of_length_le (by omega)] at hR
      exact ⟨D1, rows, qs, rfl, .of hD1, hR, hlen, hsz, fun rs v H' o s' r => q rs v H' o (s1.trans s') r⟩
    · have e1 : ∀ H', H' = H → E (.ref C) none H' := fun H' z => z ▸ e
      refine ⟨x, rfl, x, _, _, _, _, rfl, .ty "list", hk.ty, kd_list hk, _, rfl, ?_⟩
      rw [hn]
      exact iteT e
end
end LR
set_option Elab.async false
set_option linter.all false
set_option maxRecDepth 100000
set_option maxHeartbeats 4000000
/-! Promises of defs that are called while nothing is being shown (no repr runs around them), and repr of data -/
namespace LG
open PySem PySem.Spec PyProof.Rows L2
/-- as a promise, of calls where no repr runs -/
structure FnG (P : Program) (w : World) (K : PySem.W.Frag) (mg : Str → Option Value) (base : Heap) (CX : CXT) (k : Nat) (f : Addr) (fd : FuncData) (ps : List Str) (sp : Sp) : Prop where
  len : ∀ vs H Q E, sp vs H Q E → vs.length = ps.length
  run : ∀ (A : Around) (outer : List Env) (s : Shared) (H : Hp) (args : Args) (us : List Value) (vs : List V) (Q : VK) (E : XK), A.guards = some [] → Room k A → Env0 P w K mg base A outer s H → BindsTo s fd args (ps.zip us) → Vals vs us → sp vs H Q E →
    codeAny (model P w) A (.call (.ref f) args) (CR CX outer P w H s Q E) s
section
variable {P : Program} {w : World} {K : PySem.W.Frag} {mg : Str → Option Value} {base : Heap} {CX : CXT} {k : Nat} {f : Addr} {fd : FuncData} {ps : List Str} {sp : Sp}
theorem _root_.L2.FnOk.toG (F : FnOk P w K mg base CX k f fd ps sp) : FnG P w K mg base CX k f fd ps sp := ⟨F.len, fun A outer s H args us vs Q E _ => F.run A outer s H args us vs Q E⟩
theorem FnG.imp {sp' : Sp} (F : FnG P w K mg base CX k f fd ps sp) (h : ∀ vs H Q E, sp' vs H Q E → sp vs H Q E) : FnG P w K mg base CX k f fd ps sp' :=
  ⟨fun vs H Q E q => F.len vs H Q E (h _ _ _ _ q), fun A outer s H args us vs Q E g hr he hb hv hs => F.run A outer s H args us vs Q E g hr he hb hv (h _ _ _ _ hs)⟩
/-- THE RULE for such a def -/
theorem fun_okG {x qual : Str} {st : Stmt} {N : List Str} (F : Fun K x qual st f fd) (S : FnScope N ps (defScope st)) (len : ∀ vs H Q E, sp vs H Q E → vs.length = ps.length)
    (body : ∀ (cdv : Value) (A : Around) (outer : List Env) (s : Shared) (H : Hp) (vs : List V) (Q : VK) (E : XK), A.guards = some [] → Room k (A.deeper (envOfC qual (defScope st) s.heap.objs.size f cdv)) → sp vs H Q E →
      ∃ t, PSs (cxOf CX P w K mg base N qual (defScope st) f cdv A outer s H E) (defBody st) t ∧ t { nx := fun _ H' => Q .non H', rt := Q } (start N vs) H) : FnG P w K mg base CX (k + 1) f fd ps sp := by
  obtain ⟨oc, od, kV, doc, pm, an, cdv, ct, osl, rfl, lk, hcd⟩ := F.ex
  refine ⟨len, fun A outer s H args us vs Q E g hr e0 hb r hsp => ?_⟩
  have kin : K.In s.heap := e0.mod.kin.keeps fun b o e => (e0.bs b o e).1
  have lim : s.heap.NoLimit := e0.mod.nolimit.keeps fun b o e => (e0.bs b o e).1
  refine codeAny_call_function hr.depth (kin _ _ lk) rfl S.co S.gen rfl (PySem.W.codeRec_of kin hcd) (hb _ _ _ _ ?_)
  refine wpAny_newFunctionEnv_cells S.kind (fun y hy => ?_) fun env he s1 x => ?_
  · rcases S.par y.1 (List.of_mem_zip (a := y.1) (b := y.2) hy).1 with q | q
    · exact .inl q
    · exact .inr ⟨q, PySem.W.cellsFrom_some _ _ _ (.inl q)⟩
  subst he
  refine ⟨lim.keeps x.toInCall.keep, codeAny_func ?_⟩
  obtain ⟨t, ht, hq⟩ := body cdv A outer s H vs Q E g (hr.deeper _) hsp
  have I := inv_start (CX := CX) (N := N) (E := E) S hr.hd e0 (len _ _ _ _ hsp) r x
  refine wpAny_mono (ht.run [] s1 (start N vs) H _ I hq) (fun fl s' hs => ?_) fun e s' hs => hs
  cases fl with
  | ret u => exact let ⟨v, _, H', J, rv, q⟩ := hs; ⟨v, H', J.os, J.bare, J.base, J.hok, rv, q⟩
  | next => exact let ⟨_, H', J, q⟩ := hs; ⟨V.non, H', J.os, J.bare, J.base, J.hok, rfl, q⟩
  | brk => exact let ⟨_, _, _, q⟩ := hs; False.elim q
  | cont => exact let ⟨_, _, _, q⟩ := hs; False.elim q
end
section
variable {X : Cx} {CX : CXT} {k : Nat} {f : Addr} {fd : FuncData} {ps : List Str} {sp : Sp} {dvs : List V} {ds : List Value} {E : XK} {x : Str} {p pos : Pos} {e : Expr} {es : List Expr} {t : TA}
/-- f(e, ..) of such a def -/
theorem pe_callG (F : FnG X.prog X.w X.K X.mg X.base CX k f fd ps sp) (g : X.A.guards = some []) (hr : Room k X.A) (hg : Gl X x) (hm : X.mg x = some (.ref f)) (hk : PySem.W.keepIn X.K (.ref f) = true) (hb : Binds X.K fd ps ds) (hd : Vals dvs ds) (hx : Passes CX X E)
    (ha : PA X (e :: es) t) (hdb : (x == ("__debug__" : Str)) = false := by decide) (he : starEach (e :: es) X.env = (false, eval e X.env) :: starEach es X.env := by rfl) (hpl : (backTo pos (starEach es X.env)).any (·.1) = false := by rfl) :
    PE X (.Call (.Name x p) (e :: es) [] pos) (tCall sp dvs E t) := by
  refine ⟨fun pins s σ H Q I h => wpAny_Call_Name_kw (ld_glob I hg hm ?_ hdb)⟩
  refine PySem.W.callWith_K (h₀ := X.base) I.ok.mod.kin hk (thn (ha.run pos pins s σ H _ I h) fun us s1 ⟨vs, H1, J, r, q⟩ => ⟨J.kIn, ?_⟩) he hpl
  have r2 : Vals (vs ++ dvs) (us ++ ds) := r.append hd
  refine wpAny_call (codeAny_mono (F.run X.A X.stack s1 H1 ⟨us, []⟩ _ _ Q E g hr J.env0 (hb s1 us J.kIn (r2.length.symm.trans (F.len _ _ _ _ q))) r2 q) fun r s' hq => ?_)
  cases r with
  | error e => exact hx pins σ H1 s1 e s' J hq
  | ok fl =>
    cases fl with
    | ret u => exact J.after hq
    | next => exact False.elim hq
    | brk => exact False.elim hq
    | cont => exact False.elim hq
end

/-! ### repr of data -/
/-- what may be shown: no dict, no great int, no long text -/
def Fine (d : PyData) : Prop := d.showable = true ∧ d.hasDict = false ∧ d.depth ≤ 8 ∧ d.shown.length ≤ sizeLine
def rRepr (K : PySem.W.Frag) : List V → Hp → VK → Prop := fun vs H Q => ∃ (a : Addr) (d : PyData), vs = [.ref a] ∧ Dp K H (.ref a) d ∧ Fine d ∧ Q (.str d.shown) H
theorem cr_repr {X : Cx} (g : X.A.guards = some []) (hu : X.A.units + 64 < cLine) : CallR X (.builtin "repr") (rRepr X.K) := by
  intro pins s σ H vs us Q I r h
  obtain ⟨a, d, rfl, hd, ⟨f1, f2, f3, f4⟩, q⟩ := h
  rw [Vals.ref1 r]
  obtain ⟨as, rd⟩ := Dp.reads I d _ _ hd rfl
  exact repr_of_reads' rd f1 (fun h' => absurd (f2.symm.trans h') (by decide)) g (by omega) (fun _ _ e => e) (fun h' u tk k => ⟨.str d.shown, H, I.kept k, ⟨_, rfl⟩, q⟩) f4

/-! ### the law's call -/
/-- the script's heap: nothing else is tracked -/
theorem law_callG {P : Program} {w : World} {K : PySem.W.Frag} {mg mb : Str → Option Value} {CX : CXT} {k : Nat} {fa a : Addr} {fd : FuncData} {x : Str} {sp : Sp} {s1 : Shared} {vs : List Value} {ns : List Int}
    (kin : K.In s1.heap) (hns : s1.heap.Ns mainGlobals mg) (hb : s1.heap.Ns builtinsNs mb) (hbb : ∀ x : Str, x ≠ "__name__" → mb x = bootBuiltins x) (lim : s1.heap.NoLimit) (hg : s1.gens = #[])
    (ha : s1.heap.get? a = some { cls := .type "list", data := .seq vs.toArray }) (hi : IntsAre vs ns) (hl : ns.length ≤ sizeLine) (hr : Room k callerA)
    (F : ∀ base : Heap, K.In base → base.Ns mainGlobals mg → FnG P w K mg base CX k fa fd [x] sp) (bind : ∀ (s : Shared) (u : Value), BindsTo s fd ⟨[u], []⟩ [(x, u)])
    (hsp : ∀ H : Hp, Only H → SqL K H a (ns.map V.int) → sp [.ref a] H (fun v _ => v = .bl true) fun _ _ _ => False) (hCX : ∀ H e s', CX [] H s1 (fun _ _ _ => False) e s' → False) :
    codeAny (model P w) callerA (.call (.ref fa) ⟨[.ref a], []⟩) (fun r s' => r = .ok (.ret (.bool true)) ∧ OldK s1.heap s'.heap ∧ s'.os = s1.os ∧ AllBare s'.gens) s1 := by
  have rv := vals_ints hi
  -- over a heap that tracks the script or nothing
  have go : ∀ H : Hp, Only H → SqL K H a (ns.map V.int) → HOk P w H s1.heap → (∀ b u, H b = some u → b = a ∧ K.lookup a = none) →
      codeAny (model P w) callerA (.call (.ref fa) ⟨[.ref a], []⟩) (fun r s' => r = .ok (.ret (.bool true)) ∧ OldK s1.heap s'.heap ∧ s'.os = s1.os ∧ AllBare s'.gens) s1 := by
    intro H only hS hok one
    have free : ∀ {b : Addr} {o : Obj} {es : Array DictEntry} {ep : Nat}, s1.heap.get? b = some o → o.data = .dict es ep → H b = none := fun {b o es ep} e d => by
      cases q : H b with
      | none => rfl
      | some u =>
        obtain ⟨rfl, _⟩ := one b u q
        have e2 := Option.some.inj (e.symm.trans ha)
        subst e2
        cases d
    have ns1 : ∀ {b : Addr} {m : Str → Option Value}, s1.heap.Ns b m → (hidT s1.heap H).Ns b m := fun {b m} ⟨o, es, ep, e, d, r⟩ => ⟨o, es, ep, hidT_get e (free e d), d, r⟩
    have kin1 : K.In (hidT s1.heap H) := fun b o e => hidT_get (kin b o e) (by
      cases q : H b with
      | none => rfl
      | some u =>
        obtain ⟨rfl, z⟩ := one b u q
        rw [z] at e
        cases e)
    have M : Mod K mg (hidT s1.heap H) := ⟨kin1, ns1 hns, ⟨mb, ns1 hb, hbb⟩, let ⟨mc, h1, h2⟩ := lim; ⟨mc, ns1 h1, h2⟩⟩
    have e0 : Env0 P w K mg (hidT s1.heap H) callerA [] s1 H := ⟨rfl, M, fun b o e => of_hidT e, Nat.le_of_eq (hidT_size _ _), trivial, fun b z => absurd (show b ∈ ([] : List Addr) from z) (by simp), hok, .of_eq hg⟩
    refine codeAny_mono ((F _ kin1 (ns1 hns)).run callerA [] s1 H ⟨[.ref a], []⟩ [.ref a] [.ref a] _ _ rfl hr e0 (bind s1 (.ref a)) (.cons rfl .nil) (hsp H only hS)) fun r s' h => ?_
    match r, h with
    | .error e, h => exact (hCX H e s' h).elim
    | .ok .next, h => exact False.elim h
    | .ok .brk, h => exact False.elim h
    | .ok .cont, h => exact False.elim h
    | .ok (.ret u), h =>
      obtain ⟨v, H', os, bare, un, hok', r', q⟩ := h
      have q' : v = .bl true := q
      subst q'
      have r2 : u = Value.bool true := r'
      subst r2
      refine ⟨rfl, OldK.of_keep fun b o e => ?_, os, bare⟩
      cases z : H b with
      | none => exact un.keep b o e z (fun y => absurd (show b ∈ ([] : List Addr) from y) (by simp)) (by simp)
      | some u =>
        rcases only b with y | ⟨ob, xs, y⟩
        · rw [z] at y
          cases y
        · have e1 := (hok b _ y).1
          rw [e] at e1
          cases e1
          exact (hok' b _ (un.frzs b _ _ y)).1
  cases hk : K.lookup a with
  | some o =>
    have e := kin a o hk
    rw [ha] at e
    cases e
    exact go (fun _ => none) (fun _ => .inl rfl) (.inr ⟨_, vs.toArray, _, hk, rfl, rfl, rfl, by rw [List.size_toArray, hi.length]; exact hl, by simpa using rv⟩) (fun b u z => nomatch z) fun b u z => nomatch z
  | none =>
    have at1 : ∀ b, b ≠ a → (fun b => if b = a then some (HO.frz { cls := .type "list", data := .seq vs.toArray } (.lst (ns.map V.int))) else none : Hp) b = none := fun b h => if_neg h
    have at2 : (fun b => if b = a then some (HO.frz { cls := .type "list", data := .seq vs.toArray } (.lst (ns.map V.int))) else none : Hp) a = some (HO.frz { cls := .type "list", data := .seq vs.toArray } (.lst (ns.map V.int))) := if_pos rfl
    generalize (fun b => if b = a then some (HO.frz { cls := .type "list", data := .seq vs.toArray } (.lst (ns.map V.int))) else none : Hp) = H at at1 at2
    refine go H (fun b => ?_) (.inl (.inr ⟨_, at2⟩)) (fun b u z => ?_) fun b u z => ?_
    · by_cases h : b = a
      · subst h
        exact .inr ⟨_, _, at2⟩
      · exact .inl (at1 b h)
    · by_cases h : b = a
      · subst h
        have := Option.some.inj (z.symm.trans at2)
        subst this
        exact ⟨ha, by rw [List.length_map]; exact hl, vs, _, rv, ha⟩
      · rw [at1 b h] at z
        cases z
    · by_cases h : b = a
      · exact ⟨h, hk⟩
      · rw [at1 b h] at z
        cases z
theorem walk_G {l : PySem.W.OpenLaw} {n k : Nat} {q : Program} {loose : List Str} {XP : (Str → Option Value) → Heap → Prop} {YP : World → Heap → Prop} {d : DefRec} {K : Params → PySem.W.Frag} {CX : World → CXT} {sp : World → Sp} {x : Str}
    (hn : l.most = some n) (hn2 : n ≤ sizeLine) (hdf : d.params.defaults = []) (hr : Room k callerA) (hY : ∀ (w : World) (h : Heap), YP w h → (K w.params).In h)
    (F : ∀ (w : World) (mg : Str → Option Value) (fa : Addr) (h : Heap), (K w.params).In h → h.Ns mainGlobals mg → mg d.name = some (.ref fa) →
      ∃ fd : FuncData, (∀ (s : Shared) (u : Value), BindsTo s fd ⟨[u], []⟩ [(x, u)]) ∧ ∀ base : Heap, (K w.params).In base → base.Ns mainGlobals mg → FnG l.prog w (K w.params) mg base (CX w) k fa fd [x] (sp w))
    (hsp : ∀ (w : World) (H : Hp) (a : Addr) (ns : List Int), ns.length ≤ n → Only H → SqL (K w.params) H a (ns.map V.int) → sp w [.ref a] H (fun v _ => v = .bl true) fun _ _ _ => False)
    (hCX : ∀ (w : World) (H : Hp) (s : Shared) (e : Value) (s' : Shared), CX w [] H s (fun _ _ _ => False) e s' → False) :
    PySem.W.WalkO q loose XP YP l.row.toRowW d [] (fun f vs => PySem.call f vs) := by
  refine Att.attach_call hn hdf fun w s₀ s₁ mg mb fa o pm cd doc a vs ns G Y ho hd hcd hmg hobj hints hlen hg => ?_
  obtain ⟨fd, hb, hF⟩ := F w mg fa _ (hY w _ Y) G.T.g hmg
  exact law_callG (hY w _ Y) G.T.g G.T.b G.T.builtins G.T.nolimit hg hobj hints (Nat.le_trans hlen hn2) hr hF hb (fun H hO hS => hsp w H a ns hlen hO hS) fun H e s' => hCX w H s₁ e s'
end LG
set_option Elab.async false
set_option linter.all false
set_option maxRecDepth 100000
set_option maxHeartbeats 4000000
namespace LR
open PySem PySem.Spec PyProof.Rows L2
/-! ### the law's own: pools and draws -/
theorem scPool : FnScope ["script", "k", "cell", "seed"] ["script", "k"] (defScope s_law_pool) := ⟨rfl, rfl, rfl, by decide +kernel, rfl, by decide +kernel, by decide +kernel⟩
theorem scDraw : FnScope ["pool", "many", "digit"] ["pool", "many"] (defScope s_law_draw) := ⟨rfl, rfl, rfl, by decide +kernel, rfl, by decide +kernel, by decide +kernel⟩
theorem scChoose : FnScope ["pool", "items"] ["pool", "items"] (defScope s_law_choose) := ⟨rfl, rfl, rfl, by decide +kernel, rfl, by decide +kernel, by decide +kernel⟩
/-- a pool stands at p -/
def PoolAt (H : Hp) (p : Addr) : Prop := ∃ c s : Int, H p = some (.lst [.int c, .int s]) ∧ 0 ≤ s ∧ s < 2147483647
section
variable {P : Program} {w : World} {K : PySem.W.Frag} {mg : Str → Option Value} {base : Heap}
theorem mod_in {x m : Int} (hm : 0 < m) : 0 ≤ x.fmod m ∧ x.fmod m < m := by
  rw [Int.fmod_eq_emod_of_nonneg _ (Int.le_of_lt hm)]
  exact ⟨Int.emod_nonneg _ (Int.ne_of_gt hm), Int.emod_lt_of_pos _ hm⟩
def spPool (K : PySem.W.Frag) : Sp := fun vs H Q _ => ∃ (a : Addr) (ns : List Int) (k : Nat), vs = [.ref a, .int k] ∧ SqL K H a (ns.map V.int) ∧ k ≤ 63 ∧ ∀ p H', Same H H' → H p = none → PoolAt H' p → Q (.ref p) H'
theorem ok_Pool {f : Addr} {fd : FuncData} (D : DefAt K mg "_law_pool" s_law_pool ["script", "k"] f fd) (ml : mg "len" = none) : FnOk P w K mg base (CXl P w) 1 f fd ["script", "k"] (spPool K) := by
  refine D.F.okX scPool (fun vs H Q E h => ?_) (fun cdv A outer s H vs Q E hr h => ?_)
  · obtain ⟨a, ns, k, rfl, _⟩ := h
    rfl
  · obtain ⟨a, ns, k, rfl, hS, hk, q⟩ := h
    refine ⟨_, pss_cons (ps_set (i := 2) scPool.nd rfl (.inl rfl) pe_int)
      (pss_cons (ps_if (pt_cmpR op_lt (pv 1) (pe_callB call_len_seq (by rfl) ml PySem.boot_len (pa_cons (pv 0) pa_nil)) (nomark _)) (pss_one (ps_set (i := 2) scPool.nd rfl (.inl rfl) (pe_ix ix_list (pv 0) (pv 1) (fun _ _ => rfl)))) pss_nil)
      (pss_cons (ps_set (i := 3) scPool.nd rfl (.inl rfl) (pe_op op_modN (pe_op op_pow (pe_op op_add (pe_op op_add (pe_op op_modN (pv 2) pe_int) (pe_op op_mul (pe_op op_mul pe_int (pv 1)) (pv 1))) pe_int) pe_int) pe_int))
      (pss_cons (ps_if (pt_cmpR op_lt (pv 2) (pe_op op_pow pe_int pe_int) (nomark _)) (pss_one (ps_set (i := 2) scPool.nd rfl (.inl rfl) pe_int)) pss_nil)
      (pss_one (ps_ret (pe_lst (pa_cons (pv 2) (pa_cons (pv 3) pa_nil)))))))), ?_⟩
    have fin : ∀ c s : Int, 0 ≤ s → s < 2147483647 → [V.int c, V.int s].length ≤ sizeLine ∧ ∀ p, H p = none → Q (.ref p) (upd H p (.lst [.int c, .int s])) := fun c s h1 h2 =>
      ⟨by show 2 ≤ sizeLine; decide, fun p np => q p _ (same_new np) np ⟨c, s, upd_same, h1, h2⟩⟩
    have rest : ∀ c : Int, (tSeq (tAsg (tOp (rI (fun _ j => j ≠ 0) fun i j => V.int (i.fmod j)) (tOp (rI CPow fun i j => V.int (i ^ j.toNat)) (tOp (rI0 fun i j => V.int (i + j)) (tOp (rI0 fun i j => V.int (i + j)) (tOp (rI (fun _ j => j ≠ 0) fun i j => V.int (i.fmod j)) (tVar 2) (tC (.int 2147483629))) (tOp (rI CMul fun i j => V.int (i * j)) (tOp (rI CMul fun i j => V.int (i * j)) (tC (.int 7919)) (tVar 1)) (tVar 1))) (tC (.int 31))) (tC (.int 3))) (tC (.int 2147483647))) (gName 3))
        (tSeq (tIfS (tTest (tOp (rI0 fun i j => V.bl (decide (i < j))) (tVar 2) (tOp (rI CPow fun i j => V.int (i ^ j.toNat)) (tC (.int 10)) (tC (.int 18))))) (tAsg (tC (.int 0)) (gName 2)) tNext) (tRet (tLst (tCons (tVar 2) (tCons (tVar 3) tNil)))))) { nx := fun _ H' => Q .non H', rt := Q } [some (.ref a), some (.int k), some (.int c), none] H := by
      intro c
      have m1 := mod_in (x := c) (m := 2147483629) (by decide)
      have kk : (k : Int) * 7919 ≤ 63 * 7919 := by omega
      have k2 : 7919 * (k : Int) * k ≤ 63 * 7919 * 63 := by
        have e : 7919 * (k : Int) * k = ((7919 * k * k : Nat) : Int) := by simp
        have : 7919 * k * k ≤ 7919 * 63 * 63 := Nat.mul_le_mul (Nat.mul_le_mul_left _ hk) hk
        omega
      have k0 : 0 ≤ 7919 * (k : Int) * k := by
        have e : 7919 * (k : Int) * k = ((7919 * k * k : Nat) : Int) := by simp
        omega
      refine ⟨_, rfl, c, 2147483629, rfl, rfl, show (2147483629 : Int) ≠ 0 by decide, _, rfl, 7919, (k : Int), rfl, rfl, .inl ⟨by decide, by decide⟩, _, rfl, _, (k : Int), rfl, rfl, .inr ⟨by omega, by omega⟩, _, _, rfl, rfl, _, 31, rfl, rfl, _, 3, rfl, rfl, ⟨by decide, by decide, by omega⟩, _, 2147483647, rfl, rfl, show (2147483647 : Int) ≠ 0 by decide, ?_⟩
      have m2 := mod_in (x := (c.fmod 2147483629 + 7919 * (k : Int) * k + 31) ^ (3 : Int).toNat) (m := 2147483647) (by decide)
      refine ⟨_, rfl, 10, 18, rfl, rfl, ⟨by decide, by decide, by decide⟩, c, _, rfl, rfl, _, rfl, ite2 (fun _ => ?_) (fun _ => ?_)⟩
      · exact ⟨_, rfl, _, rfl, fin _ _ m2.1 m2.2⟩
      · exact ⟨_, rfl, _, rfl, fin _ _ m2.1 m2.2⟩
    by_cases lt : (k : Int) < ((ns.map V.int).length : Int)
    · refine ⟨_, rfl, .ref a, rfl, a, _, rfl, .inl hS, (k : Int), _, rfl, rfl, _, rfl, ?_⟩
      have hi : k < ns.length := by rw [List.length_map] at lt; omega
      have g : (ns.map V.int)[k]? = some (.int ns[k]) := by rw [List.getElem?_map, List.getElem?_eq_getElem hi]; rfl
      refine ite2 (fun _ => ⟨.ref a, rfl, _, rfl, a, _, (k : Int), _, rfl, rfl, hS, atI_nat g, ?_⟩) (fun c => absurd (decide_eq_true lt) c)
      exact rest _
    · refine ⟨_, rfl, .ref a, rfl, a, _, rfl, .inl hS, (k : Int), _, rfl, rfl, _, rfl, ite2 (fun c => absurd (of_decide_eq_true c) lt) (fun _ => ?_)⟩
      exact rest _

/-! ### draws -/
/-- behind a draw: only the pool has changed -/
structure Drew (p : Addr) (H H' : Hp) : Prop where
  but : But p H H'
  pool : PoolAt H' p
def spDraw : Sp := fun vs H Q _ => ∃ (p : Addr) (m : Int), vs = [.ref p, .int m] ∧ PoolAt H p ∧ 0 < m ∧ m.natAbs < 2 ^ 200 ∧ ∀ d H', 0 ≤ d → d < m → Drew p H H' → Q (.int d) H'
theorem drew_upd {p : Addr} {H : Hp} {c s : Int} (h1 : 0 ≤ s) (h2 : s < 2147483647) : Drew p H (upd H p (.lst [.int c, .int s])) :=
  ⟨fun b o hb e => by rw [upd_ne hb]; exact e, c, s, upd_same, h1, h2⟩
theorem ok_Draw {f : Addr} {fd : FuncData} (D : DefAt K mg "_law_draw" s_law_draw ["pool", "many"] f fd) : FnOk P w K mg base (CXl P w) 1 f fd ["pool", "many"] spDraw := by
  refine D.F.okX scDraw (fun vs H Q E h => ?_) (fun cdv A outer s H vs Q E hr h => ?_)
  · obtain ⟨p, m, rfl, _⟩ := h
    rfl
  · obtain ⟨p, m, rfl, ⟨c, sd, hp, s0, s1⟩, m0, mb, q⟩ := h
    refine ⟨_, pss_cons (ps_if (pt_cmpR op_gt (pe_ix ix_list (pv 0) pe_int (fun _ _ => rfl)) pe_int (nomark _))
        (pss_cons (ps_set (i := 2) scDraw.nd rfl (.inl rfl) (pe_op op_modN (pe_ix ix_list (pv 0) pe_int (fun _ _ => rfl)) (pv 1)))
        (pss_cons (ps_asg (pe_op op_fdivA (pe_ix ix_list (pv 0) pe_int (fun _ _ => rfl)) (pv 1)) (pg_sub (pv 0) pe_int set_list))
        (pss_one (ps_ret (pv 2))))) pss_nil)
      (pss_cons (ps_asg (pe_op op_modN (pe_op op_add (pe_op op_mul (pe_ix ix_list (pv 0) pe_int (fun _ _ => rfl)) pe_int) pe_int) pe_int) (pg_sub (pv 0) pe_int set_list))
      (pss_one (ps_ret (pe_op op_modN (pe_op op_fdivN (pe_op op_modN (pe_op op_mul (pe_ix ix_list (pv 0) pe_int (fun _ _ => rfl)) (pe_ix ix_list (pv 0) pe_int (fun _ _ => rfl))) pe_int) pe_int) (pv 1))))), ?_⟩
    refine ⟨.ref p, rfl, p, _, 0, _, rfl, rfl, .of hp, atI_nat (j := 0) rfl, c, 0, rfl, rfl, _, rfl, ite2 (fun _ => ?_) (fun _ => ?_)⟩
    · have md := mod_in (x := c) m0
      refine ⟨.ref p, rfl, p, _, 0, _, rfl, rfl, .of hp, atI_nat (j := 0) rfl, _, rfl, c, m, rfl, rfl, show m ≠ 0 by omega, ?_⟩
      refine ⟨.ref p, rfl, p, _, 0, _, rfl, rfl, .of hp, atI_nat (j := 0) rfl, _, rfl, c, m, rfl, rfl, divA (b := 200) (by omega) mb (by decide) (by decide), ?_⟩
      refine ⟨.ref p, rfl, p, _, 0, 0, rfl, rfl, hp, rfl, ?_⟩
      refine ⟨_, rfl, ?_⟩
      exact q _ _ md.1 md.2 (drew_upd s0 s1)
    · refine ⟨.ref p, rfl, p, _, 1, _, rfl, rfl, .of hp, atI_nat (j := 1) rfl, sd, 48271, rfl, rfl, .inl ⟨by omega, by omega⟩, _, 11, rfl, rfl, _, 2147483647, rfl, rfl, show (2147483647 : Int) ≠ 0 by decide, ?_⟩
      have m2 := mod_in (x := sd * 48271 + 11) (m := 2147483647) (by decide)
      refine ⟨.ref p, rfl, p, _, 1, 1, rfl, rfl, hp, rfl, ?_⟩
      have hz : (upd H p (.lst [.int c, .int ((sd * 48271 + 11).fmod 2147483647)])) p = some (.lst [.int c, .int ((sd * 48271 + 11).fmod 2147483647)]) := upd_same
      have md := mod_in (x := (((sd * 48271 + 11).fmod 2147483647 * (sd * 48271 + 11).fmod 2147483647).fmod 2147483629).fdiv 64) m0
      refine ⟨.ref p, rfl, p, _, 1, _, rfl, rfl, .of hz, atI_nat (j := 1) rfl, .ref p, rfl, p, _, 1, _, rfl, rfl, .of hz, atI_nat (j := 1) rfl, _, _, rfl, rfl, .inl ⟨by omega, by omega⟩, _, 2147483629, rfl, rfl, show (2147483629 : Int) ≠ 0 by decide,
        _, 64, rfl, rfl, ⟨by decide, by decide⟩, _, rfl, _, m, rfl, rfl, show m ≠ 0 by omega, ?_⟩
      exact q _ _ md.1 md.2 (drew_upd m2.1 m2.2)
/-! ### choices -/
def spChoose (K : PySem.W.Frag) : Sp := fun vs H Q _ => ∃ (p a : Addr) (xs : List V), vs = [.ref p, .ref a] ∧ PoolAt H p ∧ SqL K H a xs ∧ 0 < xs.length ∧ xs.length < 1000 ∧ (∀ H', But p H H' → SqL K H' a xs) ∧ ∀ x H', x ∈ xs → Drew p H H' → Q x H'
theorem ok_Choose {f fD : Addr} {fd dD : FuncData} (D : DefAt K mg "_law_choose" s_law_choose ["pool", "items"] f fd) (DD : DefAt K mg "_law_draw" s_law_draw ["pool", "many"] fD dD) (ml : mg "len" = none) (GD : FnOk P w K mg base (CXl P w) 1 fD dD ["pool", "many"] spDraw) :
    FnOk P w K mg base (CXl P w) 2 f fd ["pool", "items"] (spChoose K) := by
  refine D.F.okX scChoose (fun vs H Q E h => ?_) (fun cdv A outer s H vs Q E hr h => ?_)
  · obtain ⟨p, a, xs, rfl, _⟩ := h
    rfl
  · obtain ⟨p, a, xs, rfl, hp, hS, l0, l1, st, q⟩ := h
    refine ⟨_, pss_one (ps_ret (pe_ix ix_list (pv 1) (pe_call GD hr (by rfl) DD.g DD.F.kp DD.b .nil passL (pa_cons (pv 0) (pa_cons (pe_callB call_len_seq (by rfl) ml PySem.boot_len (pa_cons (pv 1) pa_nil)) pa_nil))) (fun _ _ => rfl))), ?_⟩
    refine ⟨.ref a, rfl, .ref p, rfl, .ref a, rfl, a, _, rfl, .inl hS, p, _, rfl, hp, by omega, ?_, fun d H' d0 d1 dr => ?_⟩
    · refine Nat.lt_of_lt_of_le (show ((xs.length : Nat) : Int).natAbs < 2 ^ 10 by omega) (Nat.pow_le_pow_right (by decide) (by decide))
    · have hi : d.toNat < xs.length := by omega
      refine ⟨a, _, d, xs[d.toNat], rfl, rfl, st H' dr.but, at_of (j := d.toNat) (by omega) (List.getElem?_eq_getElem hi), q _ _ (List.getElem_mem hi) dr⟩
end
end LR
set_option Elab.async false
set_option linter.all false
set_option maxRecDepth 100000
set_option maxHeartbeats 4000000
namespace LR
open PySem PySem.Spec PyProof.Rows L2
theorem scDivi : FnScope ["one", "two"] ["one", "two"] (defScope s_law_divisor) := ⟨rfl, rfl, rfl, by decide +kernel, rfl, by decide +kernel, by decide +kernel⟩
theorem scInte : FnScope ["pool", "value"] ["pool"] (defScope s_law_integer) := ⟨rfl, rfl, rfl, by decide +kernel, rfl, by decide +kernel, by decide +kernel⟩
theorem scPair : FnScope ["pool", "top", "bottom", "common"] ["pool"] (defScope s_law_pair) := ⟨rfl, rfl, rfl, by decide +kernel, rfl, by decide +kernel, by decide +kernel⟩
theorem scValu : FnScope ["pool", "pair"] ["pool", "pair"] (defScope s_law_value) := ⟨rfl, rfl, rfl, by decide +kernel, rfl, by decide +kernel, by decide +kernel⟩
theorem scIs : FnScope ["found", "top", "bottom"] ["found", "top", "bottom"] (defScope s_law_is) := ⟨rfl, rfl, rfl, by decide +kernel, rfl, by decide +kernel, by decide +kernel⟩
section
variable {P : Program} {w : World} {K : PySem.W.Frag} {mg : Str → Option Value} {base : Heap}
/-! ### the common divisor -/
def spDivi : Sp := fun vs H Q _ => ∃ a b : Int, vs = [.int a, .int b] ∧ 0 ≤ b ∧ Q (.int ((Nat.gcd a.natAbs b.natAbs : Nat) : Int)) H
def szOf : L2.St → Nat
  | [_, some (.int b)] => b.natAbs
  | _ => 0
theorem ok_Divi {f : Addr} {fd : FuncData} (D : DefAt K mg "_law_divisor" s_law_divisor ["one", "two"] f fd) (ma : mg "abs" = none) : FnOk P w K mg base (CXl P w) 1 f fd ["one", "two"] spDivi := by
  refine D.F.okX scDivi (fun vs H Q E h => ?_) (fun cdv A outer s H vs Q E hr h => ?_)
  · obtain ⟨a, b, rfl, _⟩ := h
    rfl
  · obtain ⟨a0, b0, rfl, hb, q⟩ := h
    refine ⟨_, pss_cons (ps_while (passes_of rfl) (pt_cmpR op_ne (pv 1) pe_int (nomark _)) (pss_one (ps_par (i := 0) (j := 1) rfl scDivi.nd rfl rfl (by decide) rfl rfl (pa_cons (pv 1) (pa_cons (pe_op op_modN (pv 0) (pv 1)) pa_nil)) (by rfl))))
      (pss_one (ps_ret (pe_callB call_abs (by rfl) ma (by decide +kernel) (pa_cons (pv 0) pa_nil)))), ?_⟩
    refine while_by (fun σ H' => H' = H ∧ ∃ a b : Int, σ = [some (.int a), some (.int b)] ∧ 0 ≤ b ∧ Nat.gcd a.natAbs b.natAbs = Nat.gcd a0.natAbs b0.natAbs) (fun σ _ => szOf σ) ⟨rfl, a0, b0, rfl, hb, rfl⟩ (fun σ H' hP => ?_) (fun σ H' Q Q' f hq => ?_)
    · obtain ⟨rfl, a, b, rfl, h0, hg⟩ := hP
      refine ⟨_, rfl, rfl, _, rfl, ?_⟩
      by_cases e : b = 0
      · subst e
        refine ite2 (fun c => absurd c (by simp)) (fun _ => ?_)
        have ea : (if a < 0 then -a else a) = ((Nat.gcd a0.natAbs b0.natAbs : Nat) : Int) := by
          rw [← hg]
          simp
          split <;> omega
        refine ⟨_, rfl, _, rfl, ?_⟩
        rw [ea]
        exact q
      · refine ite2 (fun _ => ?_) (fun c => absurd (by simp [e]) c)
        have em : a.fmod b = a % b := Int.fmod_eq_emod_of_nonneg _ h0
        have m0 := Int.emod_nonneg a e
        have m1 := Int.emod_lt_of_pos a (show 0 < b by omega)
        refine ⟨_, rfl, _, rfl, _, rfl, a, b, rfl, rfl, e, _, _, rfl, ⟨rfl, b, a.fmod b, rfl, by omega, ?_⟩, ?_⟩
        · rw [em, gcd_step h0 e, hg]
        · show (a.fmod b).natAbs < b.natAbs
          omega
    · obtain ⟨v, hv, hs, k, hk, hq⟩ := hq
      exact ⟨v, hv, hs, k, hk, f _ _ hq⟩

/-! ### drawn ints -/
theorem But.trans {p : Addr} {H H1 H2 : Hp} (a : But p H H1) (b : But p H1 H2) : But p H H2 := fun c o h e => b c o h (a c o h e)
theorem Drew.trans {p : Addr} {H H1 H2 : Hp} (a : Drew p H H1) (b : Drew p H1 H2) : Drew p H H2 := ⟨a.but.trans b.but, b.pool⟩
theorem p200 {z : Int} (h : z.natAbs < 1024) : z.natAbs < 2 ^ 200 := Nat.lt_of_lt_of_le (show z.natAbs < 2 ^ 10 by omega) (Nat.pow_le_pow_right (by decide) (by decide))
def spInte : Sp := fun vs H Q _ => ∃ p : Addr, vs = [.ref p] ∧ PoolAt H p ∧ ∀ (z : Int) H', z.natAbs < 2 ^ 100 → Drew p H H' → Q (.int z) H'
theorem ok_Inte {f fD : Addr} {fd dD : FuncData} (D : DefAt K mg "_law_integer" s_law_integer ["pool"] f fd) (DD : DefAt K mg "_law_draw" s_law_draw ["pool", "many"] fD dD) (GD : FnOk P w K mg base (CXl P w) 1 fD dD ["pool", "many"] spDraw) :
    FnOk P w K mg base (CXl P w) 2 f fd ["pool"] spInte := by
  refine D.F.okX scInte (fun vs H Q E h => ?_) (fun cdv A outer s H vs Q E hr h => ?_)
  · obtain ⟨p, rfl, _⟩ := h
    rfl
  · obtain ⟨p, rfl, hp, q⟩ := h
    refine ⟨_, pss_cons (ps_set (i := 1) scInte.nd rfl (.inl rfl) (pe_op op_sub (pe_call GD hr (by rfl) DD.g DD.F.kp DD.b .nil passL (pa_cons (pv 0) (pa_cons pe_int pa_nil))) pe_int))
      (pss_one (ps_ret (pe_ifExp (pt_cmpR op_eq (pe_call GD hr (by rfl) DD.g DD.F.kp DD.b .nil passL (pa_cons (pv 0) (pa_cons pe_int pa_nil))) pe_int (nomark _))
        (pe_op op_add (pe_op op_mul (pv 1) (pe_op op_pow pe_int pe_int)) (pe_call GD hr (by rfl) DD.g DD.F.kp DD.b .nil passL (pa_cons (pv 0) (pa_cons pe_int pa_nil)))) (pv 1)))), ?_⟩
    refine ⟨.ref p, rfl, p, 41, rfl, hp, by decide, p200 (by decide), fun d1 H1 a0 a1 r1 => ⟨d1, 20, rfl, rfl, ?_⟩⟩
    refine ⟨.ref p, rfl, p, 5, rfl, r1.pool, by decide, p200 (by decide), fun d2 H2 b0 b1 r2 => ⟨rfl, _, rfl, ite2 (fun _ => ?_) (fun _ => ?_)⟩⟩
    · refine ⟨_, rfl, 10, 28, rfl, rfl, ⟨by decide, by decide, by decide⟩, _, _, rfl, rfl, .inl ⟨by omega, by omega⟩, .ref p, rfl, p, 1000, rfl, r2.pool, by decide, p200 (by decide), fun d3 H3 c0 c1 r3 => ⟨_, _, rfl, rfl, q _ _ ?_ ((r1.trans r2).trans r3)⟩⟩
      have e : (10 : Int) ^ (28 : Int).toNat = 10000000000000000000000000000 := by decide
      rw [e]
      refine Nat.lt_of_lt_of_le (show _ < 400000000000000000000000000000 by omega) (by decide)
    · refine ⟨_, rfl, q _ _ ?_ (r1.trans r2)⟩
      refine Nat.lt_of_lt_of_le (show _ < 1024 by omega) (by decide)
/-! ### drawn pairs -/
abbrev ql (q : Rat) : HO := .lst [.int q.num, .int (q.den : Int)]
def spPair : Sp := fun vs H Q _ => ∃ p : Addr, vs = [.ref p] ∧ PoolAt H p ∧ ∀ (l : Addr) (z : Rat) H', Sz 101 z → Drew p H H' → l ≠ p → H l = none → H' l = some (ql z) → Q (.ref l) H'
theorem ok_Pair {f fI fV : Addr} {fd dI dV : FuncData} (D : DefAt K mg "_law_pair" s_law_pair ["pool"] f fd) (DI : DefAt K mg "_law_integer" s_law_integer ["pool"] fI dI) (DV : DefAt K mg "_law_divisor" s_law_divisor ["one", "two"] fV dV) (ma : mg "abs" = none)
    (GI : FnOk P w K mg base (CXl P w) 2 fI dI ["pool"] spInte) (GV : FnOk P w K mg base (CXl P w) 1 fV dV ["one", "two"] spDivi) : FnOk P w K mg base (CXl P w) 3 f fd ["pool"] spPair := by
  refine D.F.okX scPair (fun vs H Q E h => ?_) (fun cdv A outer s H vs Q E hr h => ?_)
  · obtain ⟨p, rfl, _⟩ := h
    rfl
  · obtain ⟨p, rfl, hp, q⟩ := h
    refine ⟨_, pss_cons (ps_par (i := 1) (j := 2) rfl scPair.nd rfl rfl (by decide) rfl rfl (pa_cons (pe_call GI hr (by rfl) DI.g DI.F.kp DI.b .nil passL (pa_cons (pv 0) pa_nil)) (pa_cons (pe_op op_add pe_int (pe_callB call_abs (by rfl) ma (by decide +kernel) (pa_cons (pe_call GI hr (by rfl) DI.g DI.F.kp DI.b .nil passL (pa_cons (pv 0) pa_nil)) pa_nil))) pa_nil)) (by rfl))
      (pss_cons (ps_set (i := 3) scPair.nd rfl (.inl rfl) (pe_call GV (hr.mono (by decide)) (by rfl) DV.g DV.F.kp DV.b .nil passL (pa_cons (pv 1) (pa_cons (pv 2) pa_nil))))
      (pss_one (ps_ret (pe_lst (pa_cons (pe_op op_fdivA (pv 1) (pv 3)) (pa_cons (pe_op op_fdivA (pv 2) (pv 3)) pa_nil)))))), ?_⟩
    refine ⟨.ref p, rfl, p, rfl, hp, fun x H1 hx r1 => ?_⟩
    refine ⟨.ref p, rfl, p, rfl, r1.pool, fun y H2 hy r2 => ⟨y, rfl, 1, _, rfl, rfl, _, _, rfl, ?_⟩⟩
    have ey : (if y < 0 then -y else y) = (y.natAbs : Int) := by split <;> omega
    refine ⟨_, rfl, _, rfl, x, 1 + (if y < 0 then -y else y), rfl, by rw [ey]; omega, ?_⟩
    rw [ey]
    have hb : (1 + (y.natAbs : Int)) ≠ 0 := by omega
    have hbs : (1 + (y.natAbs : Int)).natAbs < 2 ^ 101 := by
      have : (2 : Nat) ^ 101 = 2 ^ 100 * 2 := rfl
      omega
    have hxs : x.natAbs < 2 ^ 101 := Nat.lt_trans hx (by decide)
    have g0 := gcd_pos (n := x) hb
    have gl : Nat.gcd x.natAbs (1 + (y.natAbs : Int)).natAbs ≤ (1 + (y.natAbs : Int)).natAbs := Nat.gcd_le_right _ (by omega)
    have es : sdiv x (1 + (y.natAbs : Int)) = ((Nat.gcd x.natAbs (1 + (y.natAbs : Int)).natAbs : Nat) : Int) := if_neg (by omega)
    have e1 := sdiv_num (n := x) hb
    have e2 := sdiv_den (n := x) hb
    rw [es] at e1 e2
    have c : ∀ i, CDivA i ((Nat.gcd x.natAbs (1 + (y.natAbs : Int)).natAbs : Nat) : Int) := fun i => divA (b := 101) (by omega) (by omega) (by decide) (by decide)
    refine ⟨_, rfl, _, rfl, _, _, rfl, rfl, c _, _, rfl, _, rfl, _, _, rfl, rfl, c _, by show 2 ≤ sizeLine; decide, fun l nl => ?_⟩
    show Q (.ref l) (upd H2 l (.lst [.int (x.fdiv ((Nat.gcd x.natAbs (1 + (y.natAbs : Int)).natAbs : Nat) : Int)), .int ((1 + (y.natAbs : Int)).fdiv ((Nat.gcd x.natAbs (1 + (y.natAbs : Int)).natAbs : Nat) : Int))]))
    rw [e1, e2]
    obtain ⟨cc, ss, hpool, hs⟩ := r2.pool
    have np : p ≠ l := ne_of_none hpool nl
    refine q l _ _ (sz_divInt hb hxs hbs) ((r1.trans r2).trans ⟨fun b o hb e => ?_, cc, ss, by rw [upd_ne np]; exact hpool, hs⟩) np.symm ?_ upd_same
    · rw [upd_ne (ne_of_none e nl)]
      exact e
    · cases e : H l with
      | none => rfl
      | some o =>
        rw [(r1.trans r2).but l o np.symm e] at nl
        cases nl
end
end LR
set_option Elab.async false
set_option linter.all false
set_option maxRecDepth 100000
set_option maxHeartbeats 4000000
namespace LR
open PySem PySem.Spec PyProof.Rows L2
section
variable {P : Program} {w : World} {K : PySem.W.Frag} {mg : Str → Option Value} {base : Heap}
/-! ### a pair as a value -/
def spValu (K : PySem.W.Frag) : Sp := fun vs H Q _ => ∃ (p l : Addr) (z : Rat), vs = [.ref p, .ref l] ∧ PoolAt H p ∧ l ≠ p ∧ H l = some (ql z) ∧ ∀ v H', Drew p H H' → Num K H' v z → Q v H'
theorem ok_Valu {f fD : Addr} {fd dD : FuncData} (D : DefAt K mg "_law_value" s_law_value ["pool", "pair"] f fd) (DD : DefAt K mg "_law_draw" s_law_draw ["pool", "many"] fD dD) (GD : FnOk P w K mg base (CXl P w) 1 fD dD ["pool", "many"] spDraw) :
    FnOk P w K mg base (CXl P w) 2 f fd ["pool", "pair"] (spValu K) := by
  refine D.F.okX scValu (fun vs H Q E h => ?_) (fun cdv A outer s H vs Q E hr h => ?_)
  · obtain ⟨p, l, z, rfl, _⟩ := h
    rfl
  · obtain ⟨p, l, z, rfl, hp, nlp, hl, q⟩ := h
    refine ⟨_, pss_one (ps_ret (pe_ifExp (PW.pt (pw_and (pt_cmpR op_eq (pe_ix ix_list (pv 1) pe_int (fun _ _ => rfl)) pe_int (nomark _)) (pw_and1 (pt_cmpR op_eq (pe_call GD hr (by rfl) DD.g DD.F.kp DD.b .nil passL (pa_cons (pv 0) (pa_cons pe_int pa_nil))) pe_int (nomark _)))))
      (pe_ix ix_list (pv 1) pe_int (fun _ _ => rfl)) (pe_tup (pa_cons (pe_ix ix_list (pv 1) pe_int (fun _ _ => rfl)) (pa_cons (pe_ix ix_list (pv 1) pe_int (fun _ _ => rfl)) pa_nil))))), ?_⟩
    have tupled : ∀ H1, Drew p H H1 → ∃ v, [some (V.ref p), some (V.ref l)][1]? = some (some v) ∧ rIxL K v (.int 0) H1 fun x H2 => ∃ v2, [some (V.ref p), some (V.ref l)][1]? = some (some v2) ∧ rIxL K v2 (.int 1) H2 fun y H3 => [x, y].length ≤ sizeLine ∧ ∀ t, H3 t = none → Q (.ref t) (upd H3 t (.tup [x, y])) := by
      intro H1 r1
      have hl1 := r1.but _ _ nlp hl
      refine ⟨_, rfl, l, _, 0, _, rfl, rfl, .of hl1, atI_nat (j := 0) rfl, _, rfl, l, _, 1, _, rfl, rfl, .of hl1, atI_nat (j := 1) rfl, by show 2 ≤ sizeLine; decide, fun t nt => ?_⟩
      obtain ⟨c, sd, hpool, hs⟩ := r1.pool
      refine q _ _ ⟨fun b o hb e => ?_, c, sd, by rw [upd_ne (ne_of_none hpool nt)]; exact hpool, hs⟩ (Rn.num Rn.mk)
      have e1 := r1.but b o hb e
      rw [upd_ne (ne_of_none e1 nt)]
      exact e1
    have r0 : Drew p H H := ⟨fun _ _ _ e => e, hp⟩
    refine ⟨.ref l, rfl, l, _, 1, _, rfl, rfl, .of hl, atI_nat (j := 1) rfl, rfl, _, rfl, ?_⟩
    by_cases d : z.den = 1
    · refine ite2 (fun _ => ?_) (fun c => absurd (by simp [d]) c)
      refine ⟨.ref p, rfl, p, 2, rfl, hp, by decide, p200 (by decide), fun x H1 a0 a1 r1 => ⟨rfl, _, rfl, ite2 (fun _ => ?_) (fun _ => ?_)⟩⟩
      · refine ⟨.ref l, rfl, l, _, 0, _, rfl, rfl, .of (r1.but _ _ nlp hl), atI_nat (j := 0) rfl, q _ _ r1 ?_⟩
        have e : z = ((z.num : Int) : Rat) := Rat.ext rfl d
        have := num_int (K := K) (H := H1) z.num
        rw [← e] at this
        exact this
      · exact tupled H1 r1
    · refine ite2 (fun c => absurd (V.int.inj (of_decide_eq_true c)) (by omega)) (fun _ => ?_)
      exact tupled H r0
/-! ### a check by cross products -/
def spIs (K : PySem.W.Frag) : Sp := fun vs H Q _ => ∃ (v : V) (z : Rat) (t b : Int), vs = [v, .int t, .int b] ∧ Rn K H v z ∧ Sz 3900 z ∧ t.natAbs < 2 ^ 3900 ∧ b.natAbs < 2 ^ 3900 ∧ z.num * b = t * z.den ∧ Q (.bl true) H
theorem ok_Is {f fR : Addr} {fd dR : FuncData} (D : DefAt K mg "_law_is" s_law_is ["found", "top", "bottom"] f fd) (DR : DefAt K mg "is_ratio" s_is_ratio ["value"] fR dR) (GR : FnOk P w K mg base (CXl P w) 2 fR dR ["value"] (spIR K)) :
    FnOk P w K mg base (CXl P w) 3 f fd ["found", "top", "bottom"] (spIs K) := by
  refine D.F.okX scIs (fun vs H Q E h => ?_) (fun cdv A outer s H vs Q E hr h => ?_)
  · obtain ⟨v, z, t, b, rfl, _⟩ := h
    rfl
  · obtain ⟨v, z, t, b, rfl, hv, hz, ht, hb, he, q⟩ := h
    refine ⟨_, pss_one (ps_ret (pe_and (pe_call GR hr (by rfl) DR.g DR.F.kp DR.b .nil passL (pa_cons (pv 0) pa_nil)) (pe_one (pe_cmpR op_eq (pe_op op_mulW (pe_ix ix_tup (pv 0) pe_int (fun _ _ => rfl)) (pv 2)) (pe_op op_mulW (pv 1) (pe_ix ix_tup (pv 0) pe_int (fun _ _ => rfl))) (nomark _))))), ?_⟩
    obtain ⟨a, rfl, ha⟩ := id hv
    refine ⟨_, rfl, _, some z, rfl, hv.num, _, rfl, iteT ?_⟩
    refine ⟨.ref a, rfl, a, _, 0, _, rfl, rfl, ha, atI_nat (j := 0) rfl, _, rfl, _, _, rfl, rfl, wm hz.1 hb, _, rfl, .ref a, rfl, a, _, 1, _, rfl, rfl, ha, atI_nat (j := 1) rfl, _, _, rfl, rfl, wm ht hz.2, rfl, ?_⟩
    show Q (.bl (decide (V.int (z.num * b) = V.int (t * z.den)))) H
    rw [he, decide_eq_true rfl]
    exact q
end
end LR
set_option Elab.async false
set_option linter.all false
set_option maxRecDepth 100000
set_option maxHeartbeats 4000000
/-! Sets of trees of ints (tuples of ints and of such tuples): adding one, and what the set holds. -/
namespace NS
open PySem PySem.Spec PyProof.Rows L2

/-! ### keys: whole numbers and tuples of such -/
mutual
def ok : NestedKey → Bool
  | .num _ => true
  | .tup ks => okAll ks
  | .none => false
  | .text _ => false
def okAll : List NestedKey → Bool
  | [] => true
  | k :: ks => ok k && okAll ks
end
section
variable {P : Program} {w : World} {A : Around} {E : Value → Shared → Prop} {s : Shared}
def ClsNo (P : Program) (w : World) (n : Nat) (s : Shared) (v : Value) : Prop := ∀ (A : Around) (E : Value → Shared → Prop) (Q : Bool → Shared → Prop), Q false s → wpAny (model P w) A (ofAClassStatement n v) Q E s
def HasV (P : Program) (w : World) (n : Nat) (s : Shared) (v : Value) : Prop := ∀ (A : Around) (E : Value → Shared → Prop) (Q : Bool → Shared → Prop), Q true s → wpAny (model P w) A (hashByValue n v) Q E s
theorem clsNo_tup {n m : Nat} {a : Addr} {o : Obj} {vs : Array Value} (ho : s.heap.get? a = some o) (hc : o.cls = .type "tuple") (hd : o.data = .seq vs m) (hq : ∀ v ∈ vs.toList, ClsNo P w n s v) : ClsNo P w (n + 1) s (.ref a) := fun A E Q h => by
  have hT : s.TypeIs (.ref a) "tuple" := ⟨o, ho, hc⟩
  unfold ofAClassStatement
  refine wpAny_bind (wpAny_typeOf hT ?_)
  simp only [show (("tuple" : String) == "tuple") = true by decide, if_true, Bool.not_true, Bool.false_eq_true, if_false]
  show wpAny _ _ (seqItems? (.ref a) >>= _) _ _ s
  refine wpAny_bind (wpAny_seqItems ho hd (wpAny_bind ?_))
  show wpAny _ _ (forIn vs _ _) _ _ s
  rw [← Array.forIn_toList]
  refine wpAny_forIn_list _ (fun left r s' => (r.1 = none ∧ s' = s) ∧ ∀ v ∈ left, ClsNo P w n s v) _ (fun v left r s' J => ?_) (fun r s' J => ?_) _ _ ⟨⟨rfl, rfl⟩, hq⟩
  · obtain ⟨⟨hr, e⟩, all⟩ := J
    subst e
    refine wpAny_bind (all v List.mem_cons_self _ _ _ ?_)
    simp only [Bool.false_eq_true, if_false]
    exact wpAny_pure ⟨⟨rfl, rfl⟩, fun u hu => all u (List.mem_cons_of_mem _ hu)⟩
  · obtain ⟨r1, r2⟩ := r
    obtain ⟨⟨hr, e⟩, _⟩ := J
    subst e
    cases hr
    exact wpAny_pure h
theorem hasV_tup {n m : Nat} {a : Addr} {o : Obj} {vs : Array Value} (ho : s.heap.get? a = some o) (hc : o.cls = .type "tuple") (hd : o.data = .seq vs m) (hq : ∀ v ∈ vs.toList, HasV P w n s v) : HasV P w (n + 1) s (.ref a) := fun A E Q h => by
  unfold hashByValue
  refine wpAny_bind (wpAny_specialOf ⟨o, ho, hc⟩ F.slot_tuple_hash.lookup ?_)
  show wpAny _ _ (seqItems? (.ref a) >>= _) _ _ s
  refine wpAny_bind (wpAny_seqItems ho hd (wpAny_bind ?_))
  show wpAny _ _ (forIn vs _ _) _ _ s
  rw [← Array.forIn_toList]
  refine wpAny_forIn_list _ (fun left r s' => (r.1 = none ∧ s' = s) ∧ ∀ v ∈ left, HasV P w n s v) _ (fun v left r s' J => ?_) (fun r s' J => ?_) _ _ ⟨⟨rfl, rfl⟩, hq⟩
  · obtain ⟨⟨hr, e⟩, all⟩ := J
    subst e
    refine wpAny_bind (all v List.mem_cons_self _ _ _ ?_)
    simp only [Bool.not_true, Bool.false_eq_true, if_false]
    exact wpAny_pure ⟨⟨rfl, rfl⟩, fun u hu => all u (List.mem_cons_of_mem _ hu)⟩
  · obtain ⟨r1, r2⟩ := r
    obtain ⟨⟨hr, e⟩, _⟩ := J
    subst e
    cases hr
    exact wpAny_pure h
mutual
theorem clsNo : ∀ (k : NestedKey) (v : Value) (n : Nat) (s : Shared), NestedIs s.heap k v → k.depth ≤ n → ok k = true → ClsNo P w n s v
  | .none, _, _, _, _, _, h => by cases h
  | .text _, _, _, _, _, _, h => by cases h
  | .num i, _, n, s, x, _, _ => fun A E Q h => by
    cases x with
    | int _ t => rw [ofAClass_int]; exact wpAny_pure h
    | bool e => cases n <;> exact wpAny_pure h
  | .tup ks, _, n, s, x, hn, hk => by
    cases x with
    | tup hg hc hd hx =>
      simp only [NestedKey.depth] at hn
      obtain ⟨m, rfl⟩ : ∃ m, n = m + 1 := ⟨n - 1, by omega⟩
      exact clsNo_tup hg hc hd (clsNos ks _ m s hx (by omega) hk)
theorem clsNos : ∀ (ks : List NestedKey) (vs : List Value) (n : Nat) (s : Shared), NestedAll s.heap ks vs → NestedKey.depthAll ks ≤ n → okAll ks = true → ∀ v ∈ vs, ClsNo P w n s v
  | [], _, _, _, x, _, _, v, hv => by cases x; cases hv
  | k :: ks, _, n, s, x, hn, hk, v, hv => by
    cases x with
    | cons x1 x2 =>
      simp only [NestedKey.depthAll] at hn
      rw [okAll, Bool.and_eq_true] at hk
      rcases List.mem_cons.mp hv with e | hv
      · rw [e]
        exact clsNo k _ n s x1 (by omega) hk.1
      · exact clsNos ks _ n s x2 (by omega) hk.2 v hv
end
mutual
theorem hasV : ∀ (k : NestedKey) (v : Value) (n : Nat) (s : Shared), NestedIs s.heap k v → k.depth ≤ n → ok k = true → HasV P w n s v
  | .none, _, _, _, _, _, h => by cases h
  | .text _, _, _, _, _, _, h => by cases h
  | .num i, _, n, s, x, _, _ => fun A E Q h => by
    cases x with
    | int _ t => rw [hashBy_int]; exact wpAny_pure h
    | bool e => cases n <;> exact wpAny_pure h
  | .tup ks, _, n, s, x, hn, hk => by
    cases x with
    | tup hg hc hd hx =>
      simp only [NestedKey.depth] at hn
      obtain ⟨m, rfl⟩ : ∃ m, n = m + 1 := ⟨n - 1, by omega⟩
      exact hasV_tup hg hc hd (hasVs ks _ m s hx (by omega) hk)
theorem hasVs : ∀ (ks : List NestedKey) (vs : List Value) (n : Nat) (s : Shared), NestedAll s.heap ks vs → NestedKey.depthAll ks ≤ n → okAll ks = true → ∀ v ∈ vs, HasV P w n s v
  | [], _, _, _, x, _, _, v, hv => by cases x; cases hv
  | k :: ks, _, n, s, x, hn, hk, v, hv => by
    cases x with
    | cons x1 x2 =>
      simp only [NestedKey.depthAll] at hn
      rw [okAll, Bool.and_eq_true] at hk
      rcases List.mem_cons.mp hv with e | hv
      · rw [e]
        exact hasV k _ n s x1 (by omega) hk.1
      · exact hasVs ks _ n s x2 (by omega) hk.2 v hv
end

/-- the tuple at a is the key k -/
def At (h : Heap) (k : NestedKey) (a : Addr) : Prop := NestedIs h k (.ref a) ∧ k.depth ≤ 8 ∧ ok k = true
theorem At.kind {h : Heap} {k : NestedKey} {a : Addr} (x : At h k a) : (nestedKind P w).is h k a := ⟨x.1, x.2.1⟩
theorem At.keep {h h' : Heap} {k : NestedKey} {a : Addr} (x : At h k a) (kp : ∀ b o vs n, h.get? b = some o → o.data = .seq vs n → h'.get? b = some o) : At h' k a := ⟨x.1.at kp _ _, x.2⟩
theorem At.quiet {k : NestedKey} {a : Addr} (x : At s.heap k a) {Q : Bool → Shared → Prop} (h : Q true s) : wpAny (model P w) A (eqIsQuiet 8 (.ref a)) Q E s := (nestedKind P w).quiet x.kind h
theorem At.cls {k : NestedKey} {a : Addr} (x : At s.heap k a) {Q : Bool → Shared → Prop} (h : Q false s) : wpAny (model P w) A (ofAClassStatement 8 (.ref a)) Q E s := clsNo k _ 8 s x.1 x.2.1 x.2.2 A E Q h
theorem At.byV {k : NestedKey} {a : Addr} (x : At s.heap k a) {Q : Bool → Shared → Prop} (h : Q true s) : wpAny (model P w) A (hashByValue 8 (.ref a)) Q E s := hasV k _ 8 s x.1 x.2.1 x.2.2 A E Q h
theorem At.beside {h h' : Heap} {k : NestedKey} {a b : Addr} {o : Obj} {es : Array (Int × Value)} {ep : Nat} {t : SetTable} (x : At h k b) (ho : h.get? a = some o) (hd : o.data = .set es ep t) (sb : Heap.SameBut a h h') : At h' k b :=
  x.keep fun c u vs n e z => (sb.2 c (fun q => by
    subst q
    have e2 : u = o := Option.some.inj (e.symm.trans ho)
    rw [e2, hd] at z
    cases z)).trans e

/-- nothing of a search among such keys is seen -/
theorem unseen {k : NestedKey} {b : Addr} {Q : Bool → Shared → Prop} (x : At s.heap k b) {ys : List Value} (hy : ∀ y ∈ ys, ∃ k' c, y = Value.ref c ∧ At s.heap k' c) (h : Q false s) : wpAny (model P w) A (searchCouldBeSeen (.ref b) ys) Q E s := by
  unfold searchCouldBeSeen
  refine wpAny_bind (wpAny_forIn_list _ (fun left r s' => (r.1 = none ∧ s' = s) ∧ ∀ y ∈ left, ∃ k' c, y = Value.ref c ∧ At s.heap k' c) _ (fun v left r s' J => ?_) (fun r s' J => ?_) _ _ ⟨⟨rfl, rfl⟩, hy⟩)
  · obtain ⟨⟨hr, e⟩, all⟩ := J
    subst e
    obtain ⟨k', c, rfl, xc⟩ := all v List.mem_cons_self
    have more : ∀ y ∈ left, ∃ k' c, y = Value.ref c ∧ At s'.heap k' c := fun u hu => all u (List.mem_cons_of_mem _ hu)
    dsimp only
    by_cases hv : (b == c || (carriedByValue (.ref b) && carriedByValue (.ref c))) = true
    · exact wp_if_pos hv (wpAny_pure ⟨⟨rfl, rfl⟩, more⟩)
    · refine wp_if_neg hv (wpAny_bind (x.quiet ?_))
      simp only [Bool.not_true, Bool.false_eq_true, if_false]
      refine wpAny_bind (xc.quiet ?_)
      simp only [Bool.not_true, Bool.false_eq_true, if_false]
      refine wpAny_bind (x.cls ?_)
      simp only [Bool.false_eq_true, if_false]
      refine wpAny_bind (xc.cls ?_)
      simp only [Bool.false_eq_true, if_false]
      exact wpAny_pure ⟨⟨rfl, rfl⟩, more⟩
  · obtain ⟨r1, r2⟩ := r
    obtain ⟨⟨hr, e⟩, _⟩ := J
    subst e
    cases hr
    exact wpAny_pure h
end
end NS
set_option Elab.async false
set_option linter.all false
set_option maxRecDepth 100000
set_option maxHeartbeats 4000000
namespace NS
open PySem PySem.Spec PyProof.Rows L2
abbrev Ent := Addr × NestedKey
/-- hash of an entry's key -/
abbrev hk (w : World) (p : Ent) : Int := p.2.hash w
def rows (w : World) (L : List Ent) : List (Int × Value) := L.map fun p => (hk w p, Value.ref p.1)
/-- at a stands a set whose entries are L, in the order of the table -/
structure SetAt (w : World) (h : Heap) (a : Addr) (L : List Ent) (es : Array (Int × Value)) (ep : Nat) (t : SetTable) : Prop where
  obj : ∃ o, h.get? a = some o ∧ o.ExactSet ∧ o.data = .set es ep t
  ent : es.toList = rows w L
  tab : TabOk t (L.map (hk w))
  uniq : (L.map (·.2)).Nodup
  plain : t.plain = true
  led : w.params.followText "set-order" = true ∨ t.led = true
  room : L.length * 5 < t.mask * 3
  few : L.length < 64
section
variable {P : Program} {w : World} {A : Around} {E : Value → Shared → Prop} {s : Shared} {a : Addr} {L : List Ent} {es : Array (Int × Value)} {ep : Nat} {t : SetTable} {h : Heap}
theorem rows_len (e : es.toList = rows w L) : es.size = L.length := by
  rw [← Array.length_toList, e, rows, List.length_map]
theorem rows_at (e : es.toList = rows w L) {i : Nat} {p : Ent} (hp : L[i]? = some p) : es[i]? = some (hk w p, Value.ref p.1) := by
  rw [← Array.getElem?_toList, e, rows, List.getElem?_map, hp]
  all_goals rfl
theorem fits_of (T : TabOk t (L.map (hk w))) (e : es.toList = rows w L) (r : L.length ≤ t.mask) : t.fits es.size = true := by
  have z := T.sz
  rw [List.length_map] at z
  have n := rows_len e
  simp only [SetTable.fits, SetTable.fill, T.dm, Bool.and_eq_true, beq_iff_eq, decide_eq_true_eq]
  refine ⟨z.trans n.symm, ?_⟩
  show t.place.size + 0 ≤ t.mask
  omega
theorem SetAt.fits (R : SetAt w h a L es ep t) : t.fits es.size = true := fits_of R.tab R.ent (by have := R.room; omega)

theorem nodummy (m : Nat) : ∀ (n : Nat) (p : SetTable.Probe), p.dummy = none → (nth m p n).dummy = none
  | 0, _, e => e
  | n + 1, p, e => nodummy m n (adv m p) (by unfold adv; split <;> exact e)
/-- from the c-th stop of the key's way on, the search ends at K, or where the key stands before -/
theorem search (R : SetAt w s.heap a L es ep t) (hL : ∀ p ∈ L, At s.heap p.2 p.1) {x : Addr} {k : NestedKey} (hx : At s.heap k x) (hu : A.units + 8 < cLine) {K : Nat} (hf : K < 10 * SetTable.turns t.mask)
    (free : way t.mask (k.hash w) K ∉ t.place.toList) (taken : ∀ c, c < K → way t.mask (k.hash w) c ∈ t.place.toList) {Q : SetFound → Shared → Prop} (yes : k ∈ L.map (·.2) → Q (.there none) s)
    (no : k ∉ L.map (·.2) → Q (.free (way t.mask (k.hash w) K) false) s) (fuel : Nat) : ∀ (c : Nat) (stand : Option SetTable.Probe),
      stand.getD (t.probeStart (k.hash w)) = nth t.mask (runAt t.mask (SetTable.bits (k.hash w) % (t.mask + 1)) (SetTable.bits (k.hash w))) c → c ≤ K → K < c + fuel →
      (∀ (i : Nat) p, L[i]? = some p → p.2 = k → ∃ d, (c ≤ d ∧ d < K) ∧ t.place.toList[i]? = some (way t.mask (k.hash w) d)) →
      wpAny (model P w) A (setSearchFrom a (.ref x) (k.hash w) true fuel stand) Q E s := by
  induction fuel with
  | zero => intro c _ _ h1 h2; omega
  | succ fuel ih =>
    intro c stand start hcK hlt stay
    obtain ⟨o, ho, hex, hd⟩ := R.obj
    rw [setSearchFrom_succ]
    refine wpAny_bind (wpAny_setState_of ho hd R.fits ?_)
    dsimp only
    refine wp_if_neg (by simp [SetTable.gaveWay, mask_odd R.tab.mok]) ?_
    try refine wpAny_bind (wpAny_pure ?_)
    generalize hr : runAt t.mask (SetTable.bits (k.hash w) % (t.mask + 1)) (SetTable.bits (k.hash w)) = r0 at *
    have wy : ∀ d, way t.mask (k.hash w) d = (nth t.mask r0 d).j := fun d => by rw [← hr]
    have step : ∀ q, nth t.mask (nth t.mask r0 c) q = nth t.mask r0 (c + q) := fun q => (nth_add t.mask c r0 q).symm
    have stepj : ∀ q, (nth t.mask (nth t.mask r0 c) q).j = way t.mask (k.hash w) (c + q) := fun q => by rw [step, wy]
    have nod : (nth t.mask r0 c).dummy = none := by rw [← hr]; exact nodummy t.mask c _ rfl
    have hat : ∀ (i : Nat) p, L[i]? = some p → (fun i => (es[i]?.map (·.1)).getD 0) i = hk w p := fun i p hp => by
      show (es[i]?.map (·.1)).getD 0 = _
      rw [rows_at R.ent hp]
      all_goals rfl
    have spec := go_spec t R.tab.ris R.tab.dm (fun i => (es[i]?.map (·.1)).getD 0) (k.hash w) (10 * SetTable.turns t.mask) (K - c) (nth t.mask r0 c) nod (by omega)
      (fun q hq => by rw [stepj]; exact taken (c + q) (by omega)) (by rw [stepj, Nat.add_sub_cancel' hcK]; exact free)
    rw [start]
    rcases spec with ⟨q, i, hq, hi, hh, before, found⟩ | ⟨before, found⟩
    · -- an entry of the same hash
      rw [stepj] at hi found
      rw [step] at found
      rw [show t.probe (fun i => (es[i]?.map (·.1)).getD 0) (k.hash w) (nth t.mask r0 c) = some (.candidate (way t.mask (k.hash w) (c + q)) i (nth t.mask r0 (c + (q + 1)))) from found]
      dsimp only
      have il : i < L.length := by
        have z := R.tab.sz
        have y := (List.getElem?_eq_some_iff.mp hi).1
        rw [List.length_map] at z
        rw [Array.length_toList] at y
        omega
      obtain ⟨p, hp⟩ : ∃ p, L[i]? = some p := ⟨_, List.getElem?_eq_getElem il⟩
      have pm : p ∈ L := List.mem_of_getElem? hp
      have live := slot_live R.tab.ris hi
      have rest : wpAny (model P w) A (searchRest a (.ref x) (k.hash w) true fuel es t (way t.mask (k.hash w) (c + q)) i (nth t.mask r0 (c + (q + 1)))) Q E s := by
        unfold searchRest
        rw [rows_at R.ent hp]
        dsimp only
        refine wpAny_bind (wpAny_holding ((nestedKind P w).eqBool hu (hL p pm).kind hx.kind ?_))
        refine wpAny_bind (wpAny_setState_of ho hd R.fits ?_)
        dsimp only
        by_cases same : p.2 = k
        · refine wp_if_pos (by simp [same]) (wpAny_pure (yes (List.mem_map.mpr ⟨p, pm, same⟩)))
        · refine wp_if_neg (by simp [same]) ?_
          try refine wpAny_bind (wpAny_pure ?_)
          rw [sameMem]
          dsimp only
          simp only [if_true, live, rows_at R.ent hp]
          refine wpAny_bind (wpAny_isSame_ref_self (wpAny_bind (wpAny_pure ?_)))
          simp only [if_true]
          refine wp_if_neg (by simp [same]) ?_
          refine ih (c + (q + 1)) _ rfl (by omega) (by omega) fun j u hj hu' => ?_
          obtain ⟨d, ⟨d1, d2⟩, d3⟩ := stay j u hj hu'
          refine ⟨d, ⟨?_, d2⟩, d3⟩
          -- it was not passed: neither ahead of this entry, nor is it this one
          have ne : ¬ d < c + q := fun z => by
            refine before (d - c) j (by omega) (by rw [stepj, Nat.add_sub_cancel' d1]; exact d3) ?_
            exact (hat j u hj).trans (by rw [hk, hu'])
          have ne2 : d ≠ c + q := fun z => by
            rw [z] at d3
            have two := (slot_live R.tab.ris d3).symm.trans live
            injection two with two
            subst two
            rw [hp] at hj
            cases hj
            exact same hu'
          omega
      by_cases ld : t.led = true
      · refine wp_if_neg (by simp [ld]) ?_
        try refine wpAny_bind (wpAny_pure ?_)
        exact rest
      · refine wp_if_pos (by simp [ld]) (wpAny_bind (unseen hx (fun y hy => ?_) ?_))
        · obtain ⟨e, he, rfl⟩ := List.mem_map.mp hy
          have he2 : e ∈ es.toList := by
            have z : e ∈ es ∧ e.1 = k.hash w := by simpa using he
            simpa using z.1
          rw [R.ent] at he2
          obtain ⟨p2, hp2, rfl⟩ := List.mem_map.mp he2
          exact ⟨_, _, rfl, hL p2 hp2⟩
        · refine wp_if_neg (by decide) ?_
          try refine wpAny_bind (wpAny_pure ?_)
          exact rest
    · -- the empty slot
      rw [stepj, Nat.add_sub_cancel' hcK] at found
      rw [show t.probe (fun i => (es[i]?.map (·.1)).getD 0) (k.hash w) (nth t.mask r0 c) = some (.empty (way t.mask (k.hash w) K) none) from found]
      dsimp only
      refine wpAny_pure (no fun m => ?_)
      obtain ⟨u, hu', e⟩ := List.mem_map.mp m
      obtain ⟨j, hj⟩ := List.mem_iff_getElem?.mp hu'
      obtain ⟨d, ⟨d1, d2⟩, d3⟩ := stay j u hj e
      refine before (d - c) j (by omega) (by rw [stepj, Nat.add_sub_cancel' d1]; exact d3) ?_
      exact (hat j u hj).trans (by rw [hk, e])
/-- the search that adding makes -/
theorem search_top (R : SetAt w s.heap a L es ep t) (hL : ∀ p ∈ L, At s.heap p.2 p.1) {x : Addr} {k : NestedKey} (hx : At s.heap k x) (hu : A.units + 8 < cLine) {Q : SetFound → Shared → Prop} (yes : k ∈ L.map (·.2) → Q (.there none) s)
    (no : ∀ K, k ∉ L.map (·.2) → way t.mask (k.hash w) K ∉ t.place.toList → (∀ c, c < K → way t.mask (k.hash w) c ∈ t.place.toList) → Q (.free (way t.mask (k.hash w) K) false) s) :
    wpAny (model P w) A (setSearch a (.ref x) (k.hash w) true) Q E s := by
  have rm := R.room
  obtain ⟨K, h1, h2, h3⟩ := R.tab.first (by rw [List.length_map]; omega) (k.hash w)
  have small : K < 100000 := by
    have z : 10 * SetTable.turns t.mask ≤ 1420 := by
      unfold SetTable.turns
      rcases R.tab.mok with e | e | e <;> omega
    omega
  refine search R hL hx hu h1 h2 h3 yes (fun m => no K m h2 h3) 100000 0 none rfl (Nat.zero_le _) (by omega) fun i p hp e => ?_
  have hi : (L.map (hk w))[i]? = some (k.hash w) := by
    rw [List.getElem?_map, hp, ← e]
    all_goals rfl
  have il : i < t.place.toList.length := by
    have z := R.tab.sz
    have y := (List.getElem?_eq_some_iff.mp hp).1
    rw [List.length_map] at z
    rw [Array.length_toList]
    omega
  obtain ⟨d, d1, d2⟩ := R.tab.before h2 hi (List.getElem?_eq_getElem il)
  exact ⟨d, ⟨Nat.zero_le _, d1⟩, by rw [List.getElem?_eq_getElem il, d2]⟩

/-! ### the table laid anew, and adding -/
theorem rows_ins (p : Nat) (e : Ent) : rows w (L.take p ++ e :: L.drop p) = (rows w L).take p ++ (hk w e, Value.ref e.1) :: (rows w L).drop p := by
  simp only [rows, List.map_append, List.map_cons, List.map_take, List.map_drop]
theorem pick_all {α : Type} (l : List α) : (List.range l.length).filterMap (fun i => l[i]?) = l := by
  have key : ∀ n, n ≤ l.length → (List.range n).filterMap (fun i => l[i]?) = l.take n := by
    intro n
    induction n with
    | zero => intro _; rfl
    | succ n ih =>
      intro hn
      rw [List.range_succ, List.filterMap_append, ih (by omega), List.take_succ, List.getElem?_eq_getElem (show n < l.length by omega)]
      rw [List.filterMap_cons_some (List.getElem?_eq_getElem (show n < l.length by omega))]
      all_goals rfl
  rw [key _ (Nat.le_refl _), List.take_length]
/-- the entries in a new order -/
theorem rows_order (order : Array Nat) (e : es.toList = rows w L) (hp : order.toList.Perm (List.range L.length)) :
    ∃ L', (order.filterMap (es[·]?)).toList = rows w L' ∧ L'.Perm L ∧ L'.map (hk w) = order.toList.map fun i => (es.map (·.1)).getD i 0 := by
  have key : ∀ l : List Nat, (∀ i ∈ l, i < L.length) → l.filterMap (fun i => es[i]?) = rows w (l.filterMap fun i => L[i]?) ∧ (l.filterMap fun i => L[i]?).map (hk w) = l.map fun i => (es.map (·.1)).getD i 0 := by
    intro l
    induction l with
    | nil => intro _; exact ⟨rfl, rfl⟩
    | cons i l ih =>
      intro hl
      have il := hl i List.mem_cons_self
      obtain ⟨e1, e2⟩ := ih fun j hj => hl j (List.mem_cons_of_mem _ hj)
      have at1 := List.getElem?_eq_getElem il
      have at2 := rows_at e at1
      have at3 : (es.map (·.1)).getD i 0 = hk w L[i] := by
        have z : (es.map (·.1))[i]? = some (hk w L[i]) := by
          rw [Array.getElem?_map, at2]
          all_goals rfl
        simp [Array.getD_eq_getD_getElem?, z]
      rw [List.filterMap_cons_some at2, List.filterMap_cons_some at1, e1, List.map_cons, e2, List.map_cons, at3]
      exact ⟨rfl, rfl⟩
  obtain ⟨e1, e2⟩ := key order.toList fun i hi => List.mem_range.mp (hp.mem_iff.mp hi)
  refine ⟨_, ?_, ?_, e2⟩
  · rw [← e1]
    simp
  · have z : (order.toList.filterMap fun i => L[i]?).Perm ((List.range L.length).filterMap fun i => L[i]?) := hp.filterMap _
    rw [pick_all] at z
    exact z
/-- laid anew, larger -/
theorem relay {o : Obj} (ho : s.heap.get? a = some o) (hex : o.ExactSet) (hd : o.data = .set es ep t) (e : es.toList = rows w L) (T : TabOk t (L.map (hk w))) (le : L.length ≤ t.mask) (nd : (L.map (·.2)).Nodup) (pl : t.plain = true)
    (ld : w.params.followText "set-order" = true ∨ t.led = true) (few : L.length < 64) {wanted M : Nat} (hw : SetTable.sizeAbove wanted - 1 = M) (hM : MaskOk M) (hw2 : SetTable.sizeAbove wanted ≤ 128) (hn : L.length * 5 < M * 3) {Q : Unit → Shared → Prop}
    (hQ : ∀ h' L' es' ep' t', Heap.SameBut a s.heap h' → SetAt w h' a L' es' ep' t' → L'.Perm L → Q () { s with heap := h' }) : wpAny (model P w) A (setRelay a wanted) Q E s := by
  have n := rows_len e
  obtain ⟨t', order, e1, hp, T', em, el, epl, _⟩ := relaid_ok t (hs := es.map (·.1)) (wanted := wanted) hw hM (by rw [Array.size_map, n]; omega)
  rw [Array.size_map, n] at hp
  obtain ⟨L', r1, r2, r3⟩ := rows_order order e hp
  rw [← r3] at T'
  have n2 : (order.filterMap (es[·]?)).size = es.size := by rw [rows_len r1, r2.length_eq, n]
  rw [setRelay_eq]
  refine wpAny_bind (wpAny_setState_of ho hd (fits_of T e le) ?_)
  dsimp only
  refine wp_if_neg (by rw [sizeLine_eq]; omega) ?_
  try refine wpAny_bind (wpAny_pure ?_)
  rw [e1]
  dsimp only
  refine wpAny_bind (wp_if_neg (by rw [n2]; simp) ?_)
  try refine wpAny_bind (wpAny_pure ?_)
  refine wpAny_pure ?_
  dsimp only
  refine wpAny_storeSet_of ho hd ?_ (by rw [n2, n, sizeLine_eq]; omega)
  exact hQ _ L' _ (ep + 1) t' (Heap.SameBut.update ..) ⟨⟨_, store_at ho hd, ⟨hex.1, hex.2.1, hex.2.2⟩, rfl⟩, r1, T', (r2.map (·.2)).nodup_iff.mpr nd, by rw [epl]; exact pl, by rw [el]; exact ld, by rw [r2.length_eq, em]; exact hn, by rw [r2.length_eq]; exact few⟩ r2
/-- a tree is added: the set has it once -/
theorem add (R : SetAt w s.heap a L es ep t) (hL : ∀ p ∈ L, At s.heap p.2 p.1) {x : Addr} {k : NestedKey} (hx : At s.heap k x) (hu : A.units + 8 < cLine) (hfew : L.length + 1 < 64) {Q : Bool → Shared → Prop}
    (hQ : ∀ b h' L' es' ep' t', Heap.SameBut a s.heap h' → SetAt w h' a L' es' ep' t' → (k ∈ L.map (·.2) → L' = L) → (k ∉ L.map (·.2) → L'.Perm ((x, k) :: L)) → Q b { s with heap := h' }) :
    wpAny (model P w) A (setAddHashed a (.ref x) (k.hash w)) Q E s := by
  obtain ⟨o, ho, hex, hd⟩ := R.obj
  have n := rows_len R.ent
  have rm := R.room
  unfold setAddHashed
  refine wpAny_holding ?_
  rw [show (100000 : Nat) = 99999 + 1 from rfl, setAddHashedIn_succ]
  refine wpAny_bind (wpAny_setState_of ho hd R.fits ?_)
  dsimp only
  refine wp_if_neg (by simp [byScan, Value.scannable]) ?_
  try refine wpAny_bind (wpAny_pure ?_)
  refine wpAny_bind (search_top R hL hx hu (fun m => ?_) fun K m free taken => ?_)
  · dsimp only
    exact wpAny_pure (hQ false s.heap L es ep t (Heap.SameBut.refl a s.heap) R (fun _ => rfl) fun z => absurd m z)
  · dsimp only
    refine wpAny_bind (wpAny_setState_of ho hd R.fits ?_)
    dsimp only
    obtain ⟨q1, q2, q3, q4, q5, q6, q7, q8, q9⟩ := R.tab.put free taken
    have pl1 : (t.put (way t.mask (k.hash w) K)).1.plain = true := by rw [q6]; exact R.plain
    generalize (t.put (way t.mask (k.hash w) K)) = pt at q1 q3 q4 q5 q6 q7 q8 q9 pl1 ⊢
    obtain ⟨t1, p⟩ := pt
    dsimp only at q1 q3 q4 q5 q6 q7 q8 q9 pl1 ⊢
    subst q1
    first
      | (refine wpAny_bind (wp_if_pos pl1 (hx.byV ?_)))
      | refine wp_if_pos pl1 (wpAny_bind (hx.byV ?_))
    simp only [if_true]
    have i1 : (SetTable.insertAt es (SetTable.below t.place (way t.mask (k.hash w) K)) (k.hash w, Value.ref x)).toList = rows w (L.take (SetTable.below t.place (way t.mask (k.hash w) K)) ++ (x, k) :: L.drop (SetTable.below t.place (way t.mask (k.hash w) K))) := by
      rw [SetTable.toList_insertAt, rows_ins, R.ent]
    generalize SetTable.below t.place (way t.mask (k.hash w) K) = b at q2 q3 i1 ⊢
    have pm := put_perm L b (x, k)
    have len := pm.length_eq
    rw [List.length_cons] at len
    have T1 : TabOk t1 ((L.take b ++ (x, k) :: L.drop b).map (hk w)) := by
      rw [List.map_append, List.map_cons, List.map_take, List.map_drop]
      exact q3
    have nd1 : ((L.take b ++ (x, k) :: L.drop b).map (·.2)).Nodup := (pm.map (·.2)).nodup_iff.mpr (List.nodup_cons.mpr ⟨m, R.uniq⟩)
    have n1 := (rows_len i1).trans len
    generalize SetTable.insertAt es b (k.hash w, Value.ref x) = es1 at i1 n1 ⊢
    generalize L.take b ++ (x, k) :: L.drop b = L1 at pm len T1 nd1 i1
    have ld1 : w.params.followText "set-order" = true ∨ t1.led = true := by rw [q5]; exact R.led
    refine wpAny_bind (wpAny_storeSet_of ho hd ?_ (by rw [n1, sizeLine_eq]; omega))
    have sb : Heap.SameBut a s.heap (s.heap.update a (Obj.putSet es1 t1)) := Heap.SameBut.update ..
    have ho1 := store_at (es' := es1) (t' := t1) ho hd
    generalize s.heap.update a (Obj.putSet es1 t1) = h1 at sb ho1 ⊢
    have mk : t1.mask = t.mask := q4
    by_cases full : t1.tooFull = true
    · have bound : (L.length + 1) * 5 ≥ t1.mask * 3 := by
        have z := full
        simp only [SetTable.tooFull, decide_eq_true_eq, q9, List.length_map] at z
        exact z
      have two : (t.mask = 7 ∧ L.length = 4) ∨ (t.mask = 31 ∧ L.length = 18) := by
        rcases R.tab.mok with z | z | z
        · exact .inl ⟨z, by omega⟩
        · exact .inr ⟨z, by omega⟩
        · omega
      have go : ∀ M, SetTable.sizeAbove (SetTable.grown (L.length + 1)) - 1 = M → MaskOk M → SetTable.sizeAbove (SetTable.grown (L.length + 1)) ≤ 128 → (L.length + 1) * 5 < M * 3 →
          wpAny (model P w) A (setRelay a (SetTable.grown (L.length + 1))) (fun _ s' => wpAny (model P w) A (pure true) Q E s') E { s with heap := h1 } := fun M z1 z2 z3 z4 =>
        relay (s := { s with heap := h1 }) ho1 ⟨hex.1, hex.2.1, hex.2.2⟩ rfl i1 T1 (by rw [mk]; omega) nd1 pl1 ld1 (by omega) z1 z2 z3 (by omega) fun h2 L2 es2 ep2 t2 sb2 R2 pm2 =>
          wpAny_pure (hQ true h2 L2 es2 ep2 t2 (sb.trans sb2) R2 (fun z => absurd z m) fun _ => pm2.trans pm)
      rw [n]
      first
        | refine wpAny_bind (wp_if_pos (by simp [full]) ?_)
        | refine wp_if_pos (by simp [full]) (wpAny_bind ?_)
      rcases two with ⟨_, z⟩ | ⟨_, z⟩
      · exact go 31 (by rw [z, size_20]) (.inr (.inl rfl)) (by rw [z, size_20]; decide) (by omega)
      · exact go 127 (by rw [z, size_76]) (.inr (.inr rfl)) (by rw [z, size_76]; decide) (by omega)
    · have bound : ¬ (L.length + 1) * 5 ≥ t1.mask * 3 := fun z => full (by
        simp only [SetTable.tooFull, decide_eq_true_eq, q9, List.length_map]
        exact z)
      first
        | refine wp_if_neg (by simp [full]) ?_
        | refine wpAny_bind (wp_if_neg (by simp [full]) (wpAny_pure ?_))
      exact wpAny_pure (hQ true h1 L1 es1 (ep + 1) t1 sb ⟨⟨_, ho1, ⟨hex.1, hex.2.1, hex.2.2⟩, rfl⟩, i1, T1, nd1, pl1, ld1, by omega, by omega⟩ (fun z => absurd z m) fun _ => pm)
end
end NS
set_option Elab.async false
set_option linter.all false
set_option maxRecDepth 100000
set_option maxHeartbeats 4000000
namespace NS
open PySem PySem.Spec PyProof.Rows L2

/-! ### keys in the layer -/
mutual
inductive KeyV (K : PySem.W.Frag) (H : Hp) : V → NestedKey → Prop
  | int (i : Int) : KeyV K H (.int i) (.num i)
  | tup {a : Addr} {xs : List V} {ks : List NestedKey} (h : SqT K H a xs) (r : KeyVs K H xs ks) : KeyV K H (.ref a) (.tup ks)
inductive KeyVs (K : PySem.W.Frag) (H : Hp) : List V → List NestedKey → Prop
  | nil : KeyVs K H [] []
  | cons {x : V} {k : NestedKey} {xs : List V} {ks : List NestedKey} (h : KeyV K H x k) (r : KeyVs K H xs ks) : KeyVs K H (x :: xs) (k :: ks)
end
/-- at a stands the key k (not too deep) -/
def Key (K : PySem.W.Frag) (H : Hp) (a : Addr) (k : NestedKey) : Prop := KeyV K H (.ref a) k ∧ k.depth ≤ 8
section
variable {X : Cx} {pins : List (Addr × Obj)} {σ : L2.St} {H : Hp} {s : Shared}
mutual
theorem key_is (I : Inv X pins σ H s) : ∀ (k : NestedKey) (v : V) (u : Value), KeyV X.K H v k → RelV v u → NestedIs s.heap k u ∧ ok k = true
  | .num i, _, u, x, r => by
    cases x
    obtain ⟨t, rfl⟩ := r
    exact ⟨.int i t, rfl⟩
  | .tup ks, _, u, x, r => by
    cases x with
    | @tup a xs _ h q =>
      cases (show u = Value.ref a from r)
      obtain ⟨its, rv, ⟨o, ho, hc, n, hd⟩, _⟩ := I.tuple h
      obtain ⟨e1, e2⟩ := keys_is I ks xs its q rv
      exact ⟨.tup ho hc hd (by simpa using e1), e2⟩
  | .none, _, _, x, _ => nomatch x
  | .text _, _, _, x, _ => nomatch x
theorem keys_is (I : Inv X pins σ H s) : ∀ (ks : List NestedKey) (vs : List V) (us : List Value), KeyVs X.K H vs ks → Vals vs us → NestedAll s.heap ks us ∧ okAll ks = true
  | [], _, us, x, r => by
    cases x
    cases r
    exact ⟨.nil, rfl⟩
  | k :: ks, _, us, x, r => by
    cases x with
    | cons h q =>
      cases r with
      | cons rh rq =>
        obtain ⟨a1, a2⟩ := key_is I k _ _ h rh
        obtain ⟨b1, b2⟩ := keys_is I ks _ _ q rq
        exact ⟨.cons a1 b1, by rw [okAll, a2, b2]; rfl⟩
end
theorem Key.at (I : Inv X pins σ H s) {a : Addr} {k : NestedKey} (x : Key X.K H a k) : At s.heap k a := by
  obtain ⟨e1, e2⟩ := key_is I k _ _ x.1 rfl
  exact ⟨e1, x.2, e2⟩
end
mutual
theorem KeyV.same {K : PySem.W.Frag} {H H' : Hp} (s : Same H H') : ∀ (k : NestedKey) (v : V), KeyV K H v k → KeyV K H' v k
  | .num i, _, x => by cases x; exact .int i
  | .tup ks, _, x => by
    cases x with
    | tup h q =>
      refine .tup ?_ (KeyVs.same s ks _ q)
      rcases h with (h | ⟨o, h⟩) | h
      · exact .inl (.inl (s _ _ h))
      · exact .inl (.inr ⟨o, s _ _ h⟩)
      · exact .inr h
  | .none, _, x => nomatch x
  | .text _, _, x => nomatch x
theorem KeyVs.same {K : PySem.W.Frag} {H H' : Hp} (s : Same H H') : ∀ (ks : List NestedKey) (vs : List V), KeyVs K H vs ks → KeyVs K H' vs ks
  | [], _, x => by cases x; exact .nil
  | k :: ks, _, x => by
    cases x with
    | cons h q => exact .cons (KeyV.same s k _ h) (KeyVs.same s ks _ q)
end
theorem Key.same {K : PySem.W.Frag} {H H' : Hp} (s : Same H H') {a : Addr} {k : NestedKey} (x : Key K H a k) : Key K H' a k := ⟨KeyV.same s k _ x.1, x.2⟩

/-! ### the set as a tracked thing -/
/-- at a: the set of L -/
def SetO (w : World) (a : Addr) (L : List Ent) : HO := .ext fun h => ∃ es ep t, SetAt w h a L es ep t
theorem SetAt.move {w : World} {h h' : Heap} {a : Addr} {L : List Ent} {es : Array (Int × Value)} {ep : Nat} {t : SetTable} (R : SetAt w h a L es ep t) (k : ∀ o, h.get? a = some o → h'.get? a = some o) : SetAt w h' a L es ep t :=
  ⟨let ⟨o, ho, r⟩ := R.obj; ⟨o, k o ho, r⟩, R.ent, R.tab, R.uniq, R.plain, R.led, R.room, R.few⟩
theorem setO_ok {P : Program} {w : World} {H : Hp} {h : Heap} {a : Addr} {L : List Ent} {es : Array (Int × Value)} {ep : Nat} {t : SetTable} (R : SetAt w h a L es ep t) : ObjOk P w H h a (SetO w a L) := by
  obtain ⟨o, ho, _⟩ := R.obj
  exact ⟨⟨es, ep, t, R⟩, ⟨o, ho⟩, fun h1 h2 ⟨es, ep, t, p⟩ k => ⟨es, ep, t, p.move k⟩⟩
theorem setAt_new {h : Heap} {a : Addr} {w : World} (ho : h.get? a = some { cls := .type "set", dict := none, data := .set #[] 0 (.fresh 0 0 (!w.params.followText "set-order")) }) : SetAt w h a [] #[] 0 (.fresh 0 0 (!w.params.followText "set-order")) where
  obj := ⟨_, ho, ⟨rfl, rfl, rfl⟩, rfl⟩
  ent := rfl
  tab := ⟨List.Pairwise.nil, rfl, rfl, .inl rfl, fun x hx => (by cases hx), fun i h j hi => (by simp at hi)⟩
  uniq := List.nodup_nil
  plain := rfl
  led := by
    show w.params.followText "set-order" = true ∨ (!w.params.followText "set-order") = true
    cases w.params.followText "set-order" <;> simp
  room := show 0 * 5 < 7 * 3 by decide
  few := show 0 < 64 by decide
section
variable {X : Cx} {pins : List (Addr × Obj)} {σ : L2.St} {H : Hp} {s : Shared}
/-- D.add(x), x a key -/
theorem add_call {E : Value → Shared → Prop} {D x : Addr} {k : NestedKey} {L : List Ent} {Q : Value → Shared → Prop} (I : Inv X pins σ H s) (hD : H D = some (SetO X.w D L)) (hx : Key X.K H x k) (hL : ∀ p ∈ L, Key X.K H p.1 p.2) (few : L.length + 1 < 64) (hu : X.A.units + 64 < cLine)
    (h : ∀ s' L', Inv X pins σ (upd H D (SetO X.w D L')) s' → (k ∈ L.map (·.2) → L' = L) → (k ∉ L.map (·.2) → L'.Perm ((x, k) :: L)) → Q .none s') : wpAny (model X.prog X.w) X.A (call (.builtin "set.add") [.ref D, .ref x]) Q E s := by
  obtain ⟨⟨es, ep, t, R⟩, _⟩ : ObjOk X.prog X.w H s.heap D (SetO X.w D L) := I.hok D _ hD
  obtain ⟨o, ho, hex, hd⟩ := R.obj
  refine wpAny_call_entry F.slot_set_add ⟨o, ho, hex.1⟩ F.entry_set_add ?_ (F.args_set_add_2 _ _)
  unfold Builtin.«set.add» Builtin.Frozenset.oneOther
  simp only [List.isEmpty_nil, bind_assoc]
  unfold Builtin.Frozenset.addrOf setAdd
  refine wpAny_bind (wpAny_pure ?_)
  try dsimp only
  refine wpAny_bind (wpAny_pure ?_)
  try dsimp only
  refine wpAny_bind (wpAny_holding (wpAny_bind ((nestedKind X.prog X.w).pyHash (k := k) (by show X.A.in1.units + 8 < cLine; rw [Around.in1_units]; omega) (hx.at I).kind ?_)))
  refine add (s := { s with toks := s.toks + k.draws }) R (fun p hp => (hL p hp).at I) (hx.at I) (by rw [Around.in1_units]; omega) few fun b h' L' es' ep' t' sb R' c1 c2 => ?_
  show wpAny _ _ (ret Value.none) _ _ _
  refine wpAny_pure ⟨_, rfl, h _ L' (I.write (e := D) (t' := s.toks + k.draws) (by rw [hD]; trivial) (.inl rfl) (fun b u hb hu' => (sb.2 b hb).trans hu') (let ⟨o, z, _⟩ := R'.obj; ⟨o, z⟩) (setO_ok R')) c1 c2⟩
end

/-! ### {elt for target in iter}, the elements keys -/
/-- what one turn adds -/
def Adds (w : World) (K : PySem.W.Frag) (D : Addr) (y : V) (H : Hp) (N : Hp → Prop) : Prop := ∃ (x : Addr) (k : NestedKey) (L : List Ent), y = .ref x ∧ H D = some (SetO w D L) ∧ Key K H x k ∧ (∀ p ∈ L, Key K H p.1 p.2) ∧ L.length + 1 < 64 ∧
  ∀ L', (k ∈ L.map (·.2) → L' = L) → (k ∉ L.map (·.2) → L'.Perm ((x, k) :: L)) → N (upd H D (SetO w D L'))
def tSk (w : World) (K : PySem.W.Frag) (wi : TI) (g : TG) (te : TE) (vs : List Nat) : TE := fun σ H Q => wi σ H fun J H1 => ∀ D, H1 D = none → ∃ W : Nat → Nat → Hp → Prop, (∃ m, W 0 m (upd H1 D (SetO w D []))) ∧ ∀ i m H, W i m H →
  (J.stop i H ∧ Q (.ref D) H) ∨ (J.go i H ∧ ∃ Nx : Hp → Prop, (∀ H', Nx H' → ∃ m', m' < m ∧ W (i + 1) m' H') ∧ ∀ x H', J.yld i H x H' → g x (wipe σ vs) H' fun σ2 H2 => wipe σ2 vs = wipe σ vs ∧ te σ2 H2 fun y H4 => Adds w K D y H4 Nx)
section
variable {X : Cx}
theorem pe_sk {elt tg iter : Expr} {scope : Scope} {own : List (PySem.Str × Nat)} {pos : Pos} {wi : TI} {g : TG} {te : TE} (hc : X.calm = true) (hu : X.A.units + 64 < cLine) (hN : X.N.Nodup) (hi : PI X tg iter wi) (ok : BlkOk X.N X.env.scope scope own)
    (hg : ∀ (s : Shared) (H : Hp) (C : Addr) (cl : List (PySem.Str × Addr)) (fp : List Addr), PG (X.blk s H scope (compEnvC scope cl C X.env) fp) tg g)
    (he : ∀ (s : Shared) (H : Hp) (C : Addr) (cl : List (PySem.Str × Addr)) (fp : List Addr), PE (X.blk s H scope (compEnvC scope cl C X.env) fp) elt te) (hs : ∀ x, foldedSetIterable iter X.env x = pure x := by intro _; rfl) :
    PE X (.SetComp elt [⟨tg, iter, [], 0⟩] scope pos) (tSk X.w X.K wi g te (own.map (·.2))) := by
  refine ⟨fun pins s σ H Q I h => ?_⟩
  rw [PpSet.eval_SetComp]
  have cells : ∀ y ∈ scope.names, y.2 = .free → ∃ c, X.env.cells.lookup y.1 = some c := fun y hy e => by
    rcases ok.free y hy e with z | z
    · exact I.ok.has _ (.inl z)
    · exact I.ok.has _ (.inr z)
  refine wpAny_comprehension_free rfl hs (closure_ok cells) ok.kind (fun y hy e => by rw [ok.uniq y hy, e]) (thn (hi.run pins s σ H _ I h) fun xv s1 hx => thn hx fun itv s2 z2 => ?_)
  obtain ⟨it, fp, tn, J, H2, rfl, I2, T, st2, f2, q⟩ := z2
  refine PpSet.newSet_ok (newEnv_comp ?_)
  generalize eD : s2.heap.objs.size = D
  have hDn : H2 D = none := I2.hok.fresh (Nat.le_of_eq eD)
  obtain ⟨W, ⟨m0, w0⟩, turn⟩ := q D hDn
  generalize e3 : ({ s2 with heap := s2.heap.push { cls := .type "set", dict := none, data := .set #[] 0 (.fresh 0 0 (!X.w.params.followText "set-order")) } } : Shared) = s3
  have hp3 : s3.heap = s2.heap.push { cls := .type "set", dict := none, data := .set #[] 0 (.fresh 0 0 (!X.w.params.followText "set-order")) } := by rw [← e3]
  have I3 : Inv X pins σ (upd H2 D (SetO X.w D [])) s3 := by
    rw [← e3, ← eD]
    exact I2.laid (t' := s2.toks) (fun b o e => Heap.get?_push_of_some _ e) (Nat.le_refl _) (setO_ok (setAt_new (Heap.get?_push_size _ rfl)))
  have below : ∀ b ∈ fp, b < s2.heap.objs.size := fun b hb => let ⟨o, e, _⟩ := T.obj _ _ st2 b hb; Heap.lt_size e
  have f3 : ∀ b ∈ fp, FpOk X pins (upd H2 D (SetO X.w D [])) b ∧ b < s3.heap.objs.size := fun b hb => by
    have lt := below b hb
    refine ⟨⟨?_, (f2 b hb).2⟩, by rw [hp3, Heap.size_push]; exact Nat.lt_succ_of_lt lt⟩
    rw [upd_ne (by rw [← eD]; exact Nat.ne_of_lt lt)]
    exact (f2 b hb).1
  have st3 : tn 0 s3.heap := T.keep _ _ _ st2 fun b _ o e => by rw [hp3]; exact Heap.get?_push_of_some _ e
  have I4 := block_start I3 ok hN f3
  have pg := hg s3 (upd H2 D (SetO X.w D [])) s3.heap.objs.size (cellsFrom (s3.heap.objs.size + 1) scope.names (cloFrom X.env.cells scope.names [])) fp
  have pe := he s3 (upd H2 D (SetO X.w D [])) s3.heap.objs.size (cellsFrom (s3.heap.objs.size + 1) scope.names (cloFrom X.env.cells scope.names [])) fp
  show codeAny _ _ (.compStart (.SetComp elt [⟨tg, iter, [], 0⟩] scope pos) 0 (.ref it) (.ref D) (compEnvC scope (cellsFrom (s3.heap.objs.size + 1) scope.names (cloFrom X.env.cells scope.names [])) s3.heap.objs.size X.env)) (compPost (model X.prog X.w) X.A X.xe none _ (.ref D) s3.heap.objs.size) { s3 with heap := pushCells (s3.heap.push { cls := .type "dict", data := .dict #[] }) scope.names }
  have nfp : ∀ b ∈ fp, (upd H2 D (SetO X.w D [])) b = none := fun b hb => (f3 b hb).1.1
  generalize ec : compEnvC scope (cellsFrom (s3.heap.objs.size + 1) scope.names (cloFrom X.env.cells scope.names [])) s3.heap.objs.size X.env = ce at I4 pg pe ⊢
  have cL : ce.locals = s3.heap.objs.size := by subst ec; rfl
  generalize upd H2 D (SetO X.w D []) = H3 at I3 I4 pg pe w0 nfp f3
  generalize e4 : ({ s3 with heap := pushCells (s3.heap.push { cls := .type "dict", data := .dict #[] }) scope.names } : Shared) = s4 at I4 ⊢
  have st4 : tn 0 s4.heap := T.keep _ _ _ st3 fun b _ o e => by rw [← e4]; exact pushCells_keeps _ _ _ _ (Heap.get?_push_of_some _ e)
  have stays : ∀ {σ' : L2.St} {H' : Hp} {s' : Shared}, Inv (X.blk s3 H3 scope ce fp) [] σ' H' s' → (∀ b ∈ fp, H' b = none) → ∀ b ∈ fp, FpOk (X.blk s3 H3 scope ce fp) [] H' b := fun {σ' H' s'} J' n b hb =>
    ⟨n b hb, (J'.ok.exf b hb).1, J'.ok.exfs b hb, .inl hb, fun x c e => (J'.ok.exf b hb).2 x c e, fun p hp => absurd (show p ∈ ([] : List (Addr × Obj)) ++ [] from hp) (by simp)⟩
  have loop : codeAny (model X.prog X.w) X.A (.compLoop (.SetComp elt [⟨tg, iter, [], 0⟩] scope pos) 0 (.ref it) (.ref D) ce) (compPost (model X.prog X.w) X.A X.xe none (EP X pins σ Q) (.ref D) s3.heap.objs.size) s4 := by
    refine PpSet.compLoopS_any (fun n s' => ∃ i H', Inv (X.blk s3 H3 scope ce fp) [] (wipe σ (own.map (·.2))) H' s' ∧ tn i s'.heap ∧ (∀ b ∈ fp, H' b = none) ∧ W i n H') (fun n s5 hyp => ?_) m0 ⟨0, H3, I4, st4, nfp, w0⟩
    obtain ⟨i, H5, I5, st5, n5, w5⟩ := hyp
    rcases turn i n H5 w5 with ⟨stop, qq⟩ | ⟨go, Nx, hNx, step⟩
    · refine thnF (T.done (X.blk s3 H3 scope ce fp) rfl rfl rfl hc i [] s5 _ H5 (fun _ _ => False) I5 (stays I5 n5) st5 stop) fun r s6 ⟨hr, I6⟩ => ?_
      subst hr
      have I7 : Inv X pins σ H5 s6 := I3.call' (ch := fp) I6.os I6.base I6.hok I6.bare fun b hb => ⟨(f3 b hb).1.2.2.2.1, (f3 b hb).1.2.1, (f3 b hb).1.2.2.2.2.1, (f3 b hb).1.2.2.2.2.2⟩
      have nC : H5 s3.heap.objs.size = none := by rw [← cL]; exact I6.free
      obtain ⟨m, hn, _⟩ := I6.loc
      have hn : s6.heap.Ns s3.heap.objs.size m := by rw [← cL]; exact hn
      refine ⟨m, hn, fun h'' sb => ?_⟩
      obtain ⟨g0, g1, g2, g3, g4, g5⟩ := I3.fpOk (Nat.le_refl _) nC
      exact ⟨.ref D, H5, I7.turned (t' := s6.toks) (fun b o hb e => (sb.2 b hb).trans e) g0 g1 g3 g4 g5, rfl, qq⟩
    · refine thnF (T.item (X.blk s3 H3 scope ce fp) rfl rfl rfl hc i [] s5 _ H5 (fun _ _ => False) I5 (stays I5 n5) st5 go) fun r s6 ⟨u, hr, h6⟩ => ?_
      subst hr
      refine thnF h6 fun _ s7 ⟨x, H7, I7, r7, y7, st7, n7⟩ => ?_
      refine thnF (pg.run _ s7 _ H7 x u _ (I7.pinned (stays I7 n7) (T.obj _ _ st7)) r7 (step x H7 y7)) fun _ s8 ⟨σ8, H8, I8, hw8, q8⟩ => ?_
      rw [List.forIn_nil]
      refine wpAny_pure ?_
      simp only [if_true]
      refine thnF (pe.run _ s8 σ8 H8 _ I8 q8) fun z s10 ⟨yv, H10, I10, r10, xa, k, L, ey, hD10, kx, kL, fw, nx⟩ => ?_
      subst ey
      cases (show z = Value.ref xa from r10)
      refine add_call (X := X.blk s3 H3 scope ce fp) I10 hD10 kx kL fw hu fun s11 L' I11 c1 c2 => ?_
      obtain ⟨m', hm, w'⟩ := hNx _ (nx L' c1 c2)
      have pin' : ∀ b ∈ fp, ∀ o, s7.heap.get? b = some o → s11.heap.get? b = some o ∧ (upd H10 D (SetO X.w D L')) b = none := fun b hb o e =>
        let z := I11.pin (b, o) (List.mem_append_right _ (List.mem_append_right _ (mem_pinsAt hb e)))
        ⟨z.1, z.2.1⟩
      have hl : (wipe σ (own.map (·.2))).length = σ8.length := by rw [← hw8, wipe_length]
      refine ⟨m', hm, i + 1, _, (I11.unpinned (pins := [])).weak hl (fun j v e => ?_), T.keep _ _ _ st7 fun b hb o e => (pin' b hb o e).1, fun b hb => ?_, w'⟩
      · rw [← hw8] at e
        exact (wipe_some e).1
      · obtain ⟨o, e, _⟩ := T.obj _ _ st7 b hb
        exact (pin' b hb o e).2
  exact PpSet.codeAny_compStart_set loop (T.self X.A 0 _ _ _ st4 loop)
end
/-- such a comprehension over a list that stays -/
theorem sk_list {w : World} {K : PySem.W.Frag} {a : Addr} {xs : List V} {g : TG} {te : TE} {vs : List Nat} {σ : L2.St} {H1 : Hp} {D : Addr} {Qd : Hp → Prop} (Pv : Nat → Hp → Prop) (h0 : Pv 0 (upd H1 D (SetO w D []))) (hl : ∀ i H, i ≤ xs.length → Pv i H → SqL K H a xs)
    (hs : ∀ i x H, xs[i]? = some x → Pv i H → g x (wipe σ vs) H fun σ2 H2 => wipe σ2 vs = wipe σ vs ∧ te σ2 H2 fun y H4 => Adds w K D y H4 (Pv (i + 1))) (hd : ∀ H, Pv xs.length H → Qd H) :
    ∃ W : Nat → Nat → Hp → Prop, (∃ m, W 0 m (upd H1 D (SetO w D []))) ∧ ∀ i m H, W i m H →
      ((Itl K a).stop i H ∧ Qd H) ∨ ((Itl K a).go i H ∧ ∃ Nx : Hp → Prop, (∀ H', Nx H' → ∃ m', m' < m ∧ W (i + 1) m' H') ∧ ∀ x H', (Itl K a).yld i H x H' → g x (wipe σ vs) H' fun σ2 H2 => wipe σ2 vs = wipe σ vs ∧ te σ2 H2 fun y H4 => Adds w K D y H4 Nx) := by
  refine ⟨fun i m H => m + i = xs.length ∧ Pv i H, ⟨xs.length, rfl, h0⟩, fun i m H hyp => ?_⟩
  obtain ⟨e, p⟩ := hyp
  have q := hl i H (by omega) p
  by_cases lt : i < xs.length
  · refine .inr ⟨⟨xs, xs[i], q, List.getElem?_eq_getElem lt⟩, Pv (i + 1), fun H' p' => ⟨m - 1, by omega, by omega, p'⟩, fun x H' y => ?_⟩
    obtain ⟨e2, y⟩ := y
    subst e2
    exact hs i x _ (y xs q) p
  · have e2 : i = xs.length := by omega
    subst e2
    exact .inl ⟨⟨xs, q, Nat.le_refl _⟩, hd H p⟩
end NS
set_option Elab.async false
set_option linter.all false
set_option maxRecDepth 100000
set_option maxHeartbeats 4000000
namespace NS
open PySem PySem.Spec PyProof.Rows L2 SrtO

/-! ### sorted(a set) -/
section
variable {P : Program} {w : World} {A : Around} {E : Value → Shared → Prop} {s : Shared}
theorem sorted_raw {a : Addr} {as : List Addr} {es : Array (Int × Value)} {ep : Nat} {t : SetTable} {ltv : Value → Value → Bool} {Q : Value → Shared → Prop} (ob : ∃ o, s.heap.get? a = some o ∧ o.ExactSet ∧ o.data = .set es ep t) (ev : es.toList.map (·.2) = as.map Value.ref) (few : as.length < 64)
    (hf : t.fits es.size = true) (ris : Ris t.place.toList) (led : w.params.followText "set-order" = true ∨ t.led = true) (hh : A.handled = none) (O : Swo ltv)
    (hS : ∀ (vs : List Value), vs.Perm (as.map Value.ref) → 2 ≤ vs.length → ∀ (A' : Around) (s1 : Shared) (l : Addr), (∀ o, s1.heap.get? l = some o → o.cls ≠ .type "tuple") → (∀ b o, s.heap.get? b = some o → s1.heap.get? b = some o) → SortableO P w A' s1 l vs ltv)
    (hQ : ∀ s' p (out : List Value) (c : Nat), (∀ b o, s.heap.get? b = some o → s'.heap.get? b = some o) → s'.gens = s.gens → s'.os = s.os → s.heap.objs.size ≤ p → s'.heap.get? p = some (seqObj "list" out.toArray c) → Srtd ltv out → out.Perm (as.map Value.ref) → Q (.ref p) s') :
    wpAny (model P w) A (call (.builtin "sorted") [.ref a]) Q E s := by
  obtain ⟨o, ho, hex, hd⟩ := ob
  have n : es.size = as.length := by
    have z := congrArg List.length ev
    rw [List.length_map, List.length_map, Array.length_toList] at z
    exact z
  refine Calls.call_function_entry kind_sorted plain_sorted entry_sorted (args_sorted1 _) ?_
  unfold Builtin.«sorted»
  refine wpAny_bind (m := checkCount "sorted" 1 1 _) (wpAny_pure ?_)
  refine wpAny_bind (collect_set (A := A.in1) hh ⟨o, ho, hex.1, hd⟩ hf (by unfold scanBound; omega) ris led fun s1 vs k1 hz g1 o1 pm => ?_)
  rw [ev] at pm
  have vl : vs.length < 64 := by rw [pm.length_eq, List.length_map]; exact few
  refine wpAny_bind (wpAny_newList ?_ (by rw [sizeLine_eq]; omega))
  have hoL : (s1.heap.push (seqObj "list" vs.toArray 0)).get? s1.heap.objs.size = some (seqObj "list" vs.toArray 0) := Heap.get?_push_size _ rfl
  refine wpAny_bind (wpAny_holding (wpAny_call_entry (s := { s1 with heap := s1.heap.push (seqObj "list" vs.toArray 0) }) slot_list_sort ⟨_, hoL, rfl⟩ entry_list_sort
    (list_sort_ord O hoL (by rw [sizeLine_eq]; omega) (fun h2 => hS vs pm h2 _ _ _ (fun u e => ?_) fun b u e => Heap.get?_push_of_some _ (k1 b u e)) fun out hs hb => ⟨_, rfl, ?_⟩) (args_list_sort _)))
  · have e' : some u = some (seqObj "list" vs.toArray 0) := e.symm.trans hoL
    cases e'
    intro c
    exact absurd (Value.type.inj c) (by decide)
  · obtain ⟨c, hc⟩ := sortedHeap_at (vs := vs) (out := out.toArray) hoL
    refine wpAny_pure ⟨_, rfl, hQ _ s1.heap.objs.size out c (fun b u e => ?_) g1 o1 hz hc hs (hb.perm.trans pm)⟩
    have q := k1 b u e
    have lt := Heap.lt_size q
    show (sortedHeap (s1.heap.push (seqObj "list" vs.toArray 0)) s1.heap.objs.size vs out.toArray).get? b = some u
    rw [sortedHeap_old (Nat.ne_of_lt lt) (by rw [size_push']; exact Nat.lt_succ_of_lt lt)]
    exact Heap.get?_push_of_some _ q

theorem sorted_any {a : Addr} {L : List Ent} {es : Array (Int × Value)} {ep : Nat} {t : SetTable} {ltv : Value → Value → Bool} {Q : Value → Shared → Prop} (R : SetAt w s.heap a L es ep t) (hh : A.handled = none) (O : Swo ltv)
    (hS : ∀ (vs : List Value), vs.Perm ((L.map (·.1)).map Value.ref) → 2 ≤ vs.length → ∀ (A' : Around) (s1 : Shared) (l : Addr), (∀ o, s1.heap.get? l = some o → o.cls ≠ .type "tuple") → (∀ b o, s.heap.get? b = some o → s1.heap.get? b = some o) → SortableO P w A' s1 l vs ltv)
    (hQ : ∀ s' p (out : List Value) (c : Nat), (∀ b o, s.heap.get? b = some o → s'.heap.get? b = some o) → s'.gens = s.gens → s'.os = s.os → s.heap.objs.size ≤ p → s'.heap.get? p = some (seqObj "list" out.toArray c) → Srtd ltv out → out.Perm ((L.map (·.1)).map Value.ref) → Q (.ref p) s') :
    wpAny (model P w) A (call (.builtin "sorted") [.ref a]) Q E s :=
  sorted_raw R.obj (by rw [R.ent, rows, List.map_map, List.map_map]; rfl) (by rw [List.length_map]; exact R.few) R.fits R.tab.ris R.led hh O hS hQ

/-- a pair whose first is the int x, its second any value -/
def FstAt (h : Heap) (v : Value) (x : Int) : Prop := ∃ a o t u n, v = .ref a ∧ h.get? a = some o ∧ o.cls = .type "tuple" ∧ o.data = .seq #[.int x t, u] n
theorem FstAt.keeps {h h' : Heap} {v : Value} {x : Int} (p : FstAt h v x) (k : ∀ b o, h.get? b = some o → o.cls = .type "tuple" → h'.get? b = some o) : FstAt h' v x := by
  obtain ⟨a, o, t, u, n, e, ho, hc, hd⟩ := p
  exact ⟨a, o, t, u, n, e, k a o ho hc, hc, hd⟩
theorem fsts_of {h : Heap} {f : Value → Int} : ∀ {vs : List Value}, (∀ v ∈ vs, FstAt h v (f v)) → ∃ fs : List Value, PySem.W.KatTups h vs fs ∧ fs.length = vs.length ∧ ∀ y ∈ fs, ∃ x t, y = Value.int x t
  | [], _ => ⟨[], .nil, rfl, fun _ m => by cases m⟩
  | v :: vs, hp => by
    obtain ⟨fs, h1, h2, h3⟩ := fsts_of (vs := vs) fun y m => hp y (List.mem_cons_of_mem _ m)
    obtain ⟨a, o, t, u, n, e, ho, hc, hd⟩ := hp v List.mem_cons_self
    rw [e]
    refine ⟨.int (f v) t :: fs, PySem.W.KatTups.cons ho hc hd rfl h1, by rw [List.length_cons, List.length_cons, h2], fun y m => ?_⟩
    rcases List.mem_cons.mp m with q | m
    · exact ⟨_, _, q⟩
    · exact h3 y m
/-- such pairs, no two of one first, are sorted by it -/
theorem fst_sortable {a : Addr} {vs : List Value} {f : Value → Int} (h0 : 0 < vs.length) (hp : ∀ v ∈ vs, FstAt s.heap v (f v)) (one : ∀ v ∈ vs, ∀ u ∈ vs, f v = f u → v = u) (ha : ∀ o, s.heap.get? a = some o → o.cls ≠ .type "tuple") :
    SortableO P w A s a vs fun v u => lexB (f v, 0) (f u, 0) := by
  intro h' keep
  have hp' : ∀ v ∈ vs, FstAt h' v (f v) := fun v m => (hp v m).keeps fun b o e c => keep b o (fun z => by subst z; exact ha o e c) e
  obtain ⟨fs, h1, h2, h3⟩ := fsts_of hp'
  refine ⟨tuples' true, fun Q E hq => ?_, fun p q hm hm' => ?_⟩
  · refine PySem.W.kat_kind (T := .type "int") h1 (by omega) (fun y m => ?_) (by rfl) ?_
    · obtain ⟨x, t, rfl⟩ := h3 y m
      exact PySem.W.Looks.now
    · rw [show (Value.type "int" != Value.type "tuple") = true by first | decide +kernel | rfl | decide]
      exact hq
  · show wpAny (model P w) A (keyLt' (tuples' true) p.1 q.1) (fun r s' => s' = { s with heap := h' } ∧ r = lexB (f p.1, 0) (f q.1, 0)) (fun _ _ => False) { s with heap := h' }
    have h1 := hp' _ hm
    have h2 := hp' _ hm'
    by_cases same : f p.1 = f q.1
    · have e := one _ hm _ hm' same
      have e3 : lexB (f p.1, 0) (f q.1, 0) = false := by
        unfold lexB
        rw [if_pos same]
        rfl
      rw [e3, e]
      obtain ⟨b, o, t, u, n, eb, ho, hc, hd⟩ := h2
      rw [eb]
      refine PySem.W.kat_lt ho hd ho hd ?_
      refine PySem.W.kat_cons (SeqAt.EqAt.same _ P w _ _ (PySem.W.kat_yes (PySem.W.kat_cons (SeqAt.EqAt.same _ P w _ _ (PySem.W.kat_yes (PySem.W.kat_nil ⟨rfl, ?_⟩))))))
      exact decide_eq_false (Nat.lt_irrefl _)
    · have e3 : lexB (f p.1, 0) (f q.1, 0) = decide (f p.1 < f q.1) := if_neg same
      rw [e3]
      obtain ⟨b, o, t, u, n, eb, ho, hc, hd⟩ := h1
      obtain ⟨b', o', t', u', n', eb', ho', hc', hd'⟩ := h2
      generalize f p.1 = x at *
      generalize f q.1 = x' at *
      rw [eb, eb']
      refine PySem.W.kat_lt ho hd ho' hd' ?_
      refine PySem.W.kat_cons (SeqAt.EqAt.int_int x t x' t' P w _ _ ?_)
      rw [show (x == x') = false by simpa using same]
      exact PySem.W.kat_no (oneLt_int ⟨rfl, rfl⟩)
end

/-! ### in the layer -/
/-- the entries of L stand as pairs: of two ints, or with firsts of their own -/
def Ranked (K : PySem.W.Frag) (H : Hp) (L : List Ent) (k : Addr → Int × Int) : Prop :=
  (∀ q ∈ L, SqT K H q.1 [.int (k q.1).1, .int (k q.1).2]) ∨
  ((∀ q ∈ L, ∃ y, SqT K H q.1 [.int (k q.1).1, y] ∧ (k q.1).2 = 0) ∧ ∀ q ∈ L, ∀ r ∈ L, (k q.1).1 = (k r.1).1 → q.1 = r.1)
def rSortS (K : PySem.W.Frag) (w : World) : List V → Hp → VK → Prop := fun vs H Q => ∃ (a : Addr) (L : List Ent) (k : Addr → Int × Int), vs = [.ref a] ∧ H a = some (SetO w a L) ∧ Ranked K H L k ∧
  ∀ (L' : List Addr) (p : Addr), L'.Perm (L.map (·.1)) → L'.Pairwise (fun q r => lexB (k r) (k q) = false) → H p = none → Q (.ref p) (upd H p (.lst (L'.map V.ref)))
theorem refs_perm : ∀ (vs : List Value) (as : List Addr), vs.Perm (as.map Value.ref) → ∃ bs : List Addr, vs = bs.map Value.ref ∧ bs.Perm as := by
  intro vs as h
  have key : ∀ vs : List Value, (∀ v ∈ vs, ∃ b, v = Value.ref b) → ∃ bs : List Addr, vs = bs.map Value.ref := by
    intro vs
    induction vs with
    | nil => intro _; exact ⟨[], rfl⟩
    | cons v vs ih =>
      intro hv
      obtain ⟨b, e⟩ := hv v List.mem_cons_self
      obtain ⟨bs, e2⟩ := ih fun u hu => hv u (List.mem_cons_of_mem _ hu)
      exact ⟨b :: bs, by rw [List.map_cons, e, e2]⟩
  obtain ⟨bs, rfl⟩ := key vs fun v m => by
    obtain ⟨b, _, e⟩ := List.mem_map.mp (h.mem_iff.mp m)
    exact ⟨b, e.symm⟩
  refine ⟨bs, rfl, ?_⟩
  have z := h.map (fun v : Value => match v with | .ref b => b | _ => 0)
  rw [List.map_map, List.map_map] at z
  have e : ((fun v : Value => match v with | .ref b => b | _ => (0 : Addr)) ∘ Value.ref) = id := rfl
  rw [e, List.map_id, List.map_id] at z
  exact z
def adr : Value → Addr | .ref b => b | _ => 0
section
variable {X : Cx}
theorem cr_sortS (hc : X.calm = true) : CallR X (.builtin "sorted") (rSortS X.K X.w) := by
  intro pins s σ H vs us Q I r h
  obtain ⟨a, L, k, rfl, ha, rk, q⟩ := h
  rw [Vals.ref1 r]
  obtain ⟨⟨es, ep, t, R⟩, _⟩ : ObjOk X.prog X.w H s.heap a (SetO X.w a L) := I.hok a _ ha
  have mem : ∀ {vs : List Value}, vs.Perm ((L.map (·.1)).map Value.ref) → ∀ v ∈ vs, ∃ q ∈ L, v = Value.ref q.1 := fun pm v m => by
    rw [List.map_map] at pm
    obtain ⟨q, hq, e⟩ := List.mem_map.mp (pm.mem_iff.mp m)
    exact ⟨q, hq, e.symm⟩
  refine sorted_any (ltv := fun v u => lexB (k (adr v)) (k (adr u))) R (I.ok.hd hc) (swo_lex fun v => k (adr v)) (fun vs pm h2 A' s1 l hl kp => ?_) fun s' p out c kp g o hp hg hs pm => ?_
  · rcases rk with pr | ⟨fs, one⟩
    · refine pairs_sortableO (k := fun v => k (adr v)) (by omega) (fun v m => ?_) hl
      obtain ⟨q, hq, rfl⟩ := mem pm v m
      obtain ⟨its, rv, ⟨o, ho, hc', n, hd⟩, _⟩ := I.tuple (pr q hq)
      obtain ⟨u1, u2, rfl, ⟨t1, rfl⟩, ⟨t2, rfl⟩⟩ := vals2 rv
      exact ⟨q.1, o, t1, t2, n, rfl, kp _ _ ho, hc', hd⟩
    · have e : ∀ v ∈ vs, k (adr v) = ((k (adr v)).1, 0) := fun v m => by
        obtain ⟨q, hq, rfl⟩ := mem pm v m
        obtain ⟨y, _, z⟩ := fs q hq
        exact Prod.ext rfl z
      have S := fst_sortable (P := X.prog) (w := X.w) (A := A') (s := s1) (a := l) (vs := vs) (f := fun v => (k (adr v)).1) (by omega) (fun v m => by
        obtain ⟨q, hq, rfl⟩ := mem pm v m
        obtain ⟨y, hy, _⟩ := fs q hq
        obtain ⟨its, rv, ⟨o, ho, hc', n, hd⟩, _⟩ := I.tuple hy
        obtain ⟨u1, u2, rfl, ⟨t1, rfl⟩, _⟩ := vals2 rv
        exact ⟨q.1, o, t1, u2, n, rfl, kp _ _ ho, hc', hd⟩) (fun v m u m' e => by
        obtain ⟨q, hq, rfl⟩ := mem pm v m
        obtain ⟨r, hr, rfl⟩ := mem pm u m'
        rw [one q hq r hr e]) hl
      intro h' keep
      obtain ⟨κ, hk, hcmp⟩ := S h' keep
      refine ⟨κ, hk, fun p q hm hm' => ?_⟩
      have z := hcmp p q hm hm'
      have e1 : lexB (k (adr p.1)) (k (adr q.1)) = lexB ((k (adr p.1)).1, 0) ((k (adr q.1)).1, 0) := by rw [e _ hm, e _ hm']
      have e2 : lt2 (fun v u => lexB (k (adr v)) (k (adr u))) p q = lt2 (fun v u => lexB ((k (adr v)).1, 0) ((k (adr u)).1, 0)) p q := e1
      rw [e2]
      exact z
  · obtain ⟨bs, rfl, pb⟩ := refs_perm out (L.map (·.1)) pm
    have len : (bs.map V.ref).length ≤ sizeLine := by
      have few := R.few
      rw [List.length_map, pb.length_eq, List.length_map, sizeLine_eq]
      omega
    have hn : H p = none := I.hok.fresh hp
    have hv : ∀ bs : List Addr, Vals (bs.map V.ref) (bs.map Value.ref) := fun bs => by
      induction bs with
      | nil => exact .nil
      | cons b bs ih => exact .cons rfl ih
    have J : Inv X pins σ (upd H p (.lst (bs.map V.ref))) { s with heap := s'.heap, gens := s'.gens, drawn := s'.drawn, toks := s'.toks } :=
      I.call (ch := []) (Un.laid kp hp hn) (I.hok.laid kp hp ⟨len, bs.map Value.ref, c, hv bs, hg⟩) (by rw [g]; exact I.bare) (fun _ z => nomatch z)
    have e : s' = { s with heap := s'.heap, gens := s'.gens, drawn := s'.drawn, toks := s'.toks } := by
      cases s'
      cases s
      cases o
      rfl
    rw [e]
    refine ⟨.ref p, _, J, rfl, q bs p pb ?_ hn⟩
    have z := List.pairwise_map.mp hs
    exact z

end
end NS
set_option Elab.async false
set_option linter.all false
set_option maxRecDepth 100000
set_option maxHeartbeats 4000000
/-! numbers as data: shown, compared, sorted -/
namespace LR
open PySem PySem.Spec PyProof.Rows L2
section
variable {K : PySem.W.Frag} {H : Hp}
/-- the data of a number: an int, or a tuple -/
def datN (v : V) (q : Rat) : PyData := match v with
  | .int i => .int i
  | _ => datR q
theorem Num.dp {v : V} {q : Rat} (h : Num K H v q) : Dp K H v (datN v q) := by
  rcases h.kinds with ⟨rfl, _⟩ | h
  · exact .int _
  · obtain ⟨a, rfl, h2⟩ := id h
    exact Rn.dp h
end
theorem eqvR (q : Rat) : PyData.eqv (datR q) (datR q) = true := SeqAt.eqv_refl _ (canR q)
theorem eqvRs (qs : List Rat) : PyData.eqv (.list (qs.map datR)) (.list (qs.map datR)) = true := SeqAt.eqv_refl _ (canRs qs)
abbrev datI (i : Int) : PyData := .int i
theorem canIs : ∀ ns : List Int, PyData.canLayAll0 (ns.map datI) = true
  | [] => rfl
  | n :: ns => by
    show (true && PyData.canLayAll0 (ns.map datI)) = true
    rw [canIs ns]
    rfl
theorem depIs : ∀ ns : List Int, PyData.depthAll (ns.map datI) = 0
  | [] => rfl
  | n :: ns => by
    have := depIs ns
    show max 0 (PyData.depthAll (ns.map datI)) = 0
    omega
theorem shapedIs (ns : List Int) : SeqAt.shaped (.list (ns.map datI)) = true := by
  unfold SeqAt.shaped
  rw [show (PyData.list (ns.map datI)).canLay0 = PyData.canLayAll0 (ns.map datI) from rfl, canIs, Bool.true_and, decide_eq_true_eq]
  have := depIs ns
  show PyData.depthAll (ns.map datI) + 1 ≤ 64
  omega
theorem eqvIs (ns : List Int) : PyData.eqv (.list (ns.map datI)) (.list (ns.map datI)) = true := SeqAt.eqv_refl _ (canIs ns)
theorem dpIs {K : PySem.W.Frag} {H : Hp} : ∀ ns : List Int, DpAll K H (ns.map V.int) (ns.map datI)
  | [] => .nil
  | n :: ns => .cons (.int n) (dpIs ns)

/-! ### order by the two places -/
abbrev nd2 (q : Rat) : Int × Int := (q.num, (q.den : Int))
theorem nd2_inj {p q : Rat} (h : nd2 p = nd2 q) : p = q := Rat.ext (congrArg Prod.fst h) (by have := congrArg Prod.snd h; exact Int.ofNat.inj this)
/-- sorted by the two places, without duplicates -/
def LexOrd (rs : List Rat) : Prop := rs.Pairwise (fun p q => SrtO.lexB (nd2 q) (nd2 p) = false) ∧ rs.Nodup
theorem lex_uniq : ∀ {rs ts : List Rat}, LexOrd rs → LexOrd ts → (∀ r, r ∈ rs ↔ r ∈ ts) → rs = ts
  | [], [], _, _, _ => rfl
  | [], t :: ts, _, _, h => absurd ((h t).mpr List.mem_cons_self) (by simp)
  | r :: rs, [], _, _, h => absurd ((h r).mp List.mem_cons_self) (by simp)
  | r :: rs, t :: ts, ⟨a1, a2⟩, ⟨b1, b2⟩, h => by
    obtain ⟨a3, a4⟩ := List.pairwise_cons.mp a1
    obtain ⟨b3, b4⟩ := List.pairwise_cons.mp b1
    obtain ⟨a5, a6⟩ := List.nodup_cons.mp a2
    obtain ⟨b5, b6⟩ := List.nodup_cons.mp b2
    have e : r = t := by
      by_cases c : r = t
      · exact c
      · have h1 : t ∈ rs := (List.mem_cons.mp ((h t).mpr List.mem_cons_self)).resolve_left (fun z => c z.symm)
        have h2 : r ∈ ts := (List.mem_cons.mp ((h r).mp List.mem_cons_self)).resolve_left c
        have l1 := SrtO.lexB_no.mp (a3 t h1)
        have l2 := SrtO.lexB_no.mp (b3 r h2)
        refine nd2_inj (Prod.ext ?_ ?_)
        · show r.num = t.num
          have u1 : ¬ t.num < r.num := fun z => l1 (.inl z)
          have u2 : ¬ r.num < t.num := fun z => l2 (.inl z)
          omega
        · have u0 : r.num = t.num := by
            have u1 : ¬ t.num < r.num := fun z => l1 (.inl z)
            have u2 : ¬ r.num < t.num := fun z => l2 (.inl z)
            omega
          show (r.den : Int) = t.den
          have u1 : ¬ (t.den : Int) < r.den := fun z => l1 (.inr ⟨u0.symm, z⟩)
          have u2 : ¬ (r.den : Int) < t.den := fun z => l2 (.inr ⟨u0, z⟩)
          omega
    subst e
    rw [lex_uniq ⟨a4, a6⟩ ⟨b4, b6⟩ fun z => ⟨fun hz => ?_, fun hz => ?_⟩]
    · exact (List.mem_cons.mp ((h z).mp (List.mem_cons_of_mem _ hz))).resolve_left fun e => a5 (e ▸ hz)
    · exact (List.mem_cons.mp ((h z).mpr (List.mem_cons_of_mem _ hz))).resolve_left fun e => b5 (e ▸ hz)
/-! ### sorted(a list of ratios) -/
theorem refs_of_rn {K : PySem.W.Frag} {H : Hp} : ∀ {xs : List V} {qs : List Rat}, All2 (Rn K H) xs qs → ∃ es : List (Addr × Rat), xs = es.map (fun e => V.ref e.1) ∧ qs = es.map (·.2) ∧ ∀ e ∈ es, SqT K H e.1 (rt e.2)
  | _, _, .nil => ⟨[], rfl, rfl, fun _ h => by cases h⟩
  | _, _, .cons h t => by
    obtain ⟨es, rfl, rfl, h2⟩ := refs_of_rn t
    obtain ⟨a, rfl, h⟩ := h
    refine ⟨(a, _) :: es, rfl, rfl, fun e he => ?_⟩
    rcases List.mem_cons.mp he with rfl | he
    · exact h
    · exact h2 e he
def rSortR (K : PySem.W.Frag) : List V → Hp → VK → Prop := fun vs H Q => ∃ (v : V) (a : Addr) (xs : List V) (qs : List Rat), vs = [v] ∧ v = .ref a ∧ SqL K H a xs ∧ All2 (Rn K H) xs qs ∧
  ∀ ys rs p, rs.Perm qs → rs.Pairwise (fun p q => SrtO.lexB (nd2 q) (nd2 p) = false) → All2 (Rn K H) ys rs → H p = none → Q (.ref p) (upd H p (.lst ys))
open Classical in
/-- the places of the ratio at a -/
noncomputable def plc (K : PySem.W.Frag) (H : Hp) (a : Addr) : Int × Int := if h : ∃ q, SqT K H a (rt q) then nd2 h.choose else (0, 0)
section
variable {X : Cx} {pins : List (Addr × Obj)} {σ : L2.St} {H : Hp} {s : Shared}
theorem plc_is (I : Inv X pins σ H s) {a : Addr} {q : Rat} (h : SqT X.K H a (rt q)) : plc X.K H a = nd2 q := by
  have hx : ∃ q, SqT X.K H a (rt q) := ⟨q, h⟩
  unfold plc
  rw [dif_pos hx]
  have e := I.tuple_inj hx.choose_spec h
  simp only [List.cons.injEq, V.int.injEq, and_true] at e
  exact Prod.ext e.1 e.2
theorem cr_sortR : CallR X (.builtin "sorted") (rSortR X.K) := by
  intro pins s σ H vs us Q I r h
  obtain ⟨v, a, xs, qs, rfl, rfl, hS, hA, q⟩ := h
  rw [Vals.ref1 r]
  obtain ⟨es, rfl, rfl, hE⟩ := refs_of_rn hA
  obtain ⟨its, rv, hl, hz⟩ := I.list hS
  have ei : its = (es.map (·.1)).map Value.ref := by
    have go : ∀ (l : List (Addr × Rat)) (us : List Value), Vals (l.map fun e => V.ref e.1) us → us = (l.map (·.1)).map Value.ref := by
      intro l
      induction l with
      | nil => intro us h; cases h; rfl
      | cons e l ih =>
        intro us h
        cases h with
        | cons h1 h2 =>
          cases h1
          rw [ih _ h2]
          rfl
    exact go es its rv
  have pr : ∀ v ∈ its, Srt.IsPair s.heap v (plc X.K H (NS.adr v)).1 (plc X.K H (NS.adr v)).2 := fun v hv => by
    rw [ei, List.map_map] at hv
    obtain ⟨e, he, rfl⟩ := List.mem_map.mp hv
    obtain ⟨its2, rv2, ⟨o, ho, hc, n, hd⟩, _⟩ := I.tuple (hE e he)
    obtain ⟨u1, u2, rfl, ⟨t1, rfl⟩, ⟨t2, rfl⟩⟩ := vals2 rv2
    show Srt.IsPair s.heap (.ref e.1) (plc X.K H e.1).1 (plc X.K H e.1).2
    rw [plc_is I (hE e he)]
    exact ⟨e.1, o, t1, t2, n, rfl, ho, hc, hd⟩
  refine SrtO.sorted_pairsO (k := fun v => plc X.K H (NS.adr v)) hl.isList (by rw [← rv.length]; exact hz) pr fun h' d out h1 h2 kp hd hn => ?_
  have pm := h2.perm
  rw [ei, List.map_map] at pm
  obtain ⟨es', rfl, pe⟩ := perm_map_inv pm
  have hE' : ∀ e ∈ es', SqT X.K H e.1 (rt e.2) := fun e he => hE e (pe.mem_iff.mp he)
  have hv : ∀ l : List (Addr × Rat), Vals (l.map fun e => V.ref e.1) (l.map (Value.ref ∘ fun e => e.1)) := fun l => by
    induction l with
    | nil => exact .nil
    | cons b bs ih => exact .cons rfl ih
  have ha : ∀ l : List (Addr × Rat), (∀ e ∈ l, SqT X.K H e.1 (rt e.2)) → All2 (Rn X.K H) (l.map fun e => V.ref e.1) (l.map (·.2)) := fun l => by
    induction l with
    | nil => intro _; exact .nil
    | cons b bs ih => intro h; exact .cons ⟨b.1, rfl, h b List.mem_cons_self⟩ (ih fun e he => h e (List.mem_cons_of_mem _ he))
  obtain ⟨n, hn⟩ := hn
  refine ⟨.ref d, upd H d (.lst (es'.map fun e => V.ref e.1)), I.laid (t' := s.toks) kp hd ⟨?_, _, n, hv es', hn⟩, rfl, q _ _ d (pe.map (·.2)) ?_ (ha es' hE') (I.hok.fresh hd)⟩
  · rw [List.length_map, pe.length_eq]
    rw [List.length_map] at hz
    exact hz
  · have z := List.pairwise_map.mp h1
    refine List.pairwise_map.mpr (List.Pairwise.imp_of_mem (fun {e e'} he he' hh => ?_) z)
    have hh2 : SrtO.lexB (plc X.K H e'.1) (plc X.K H e.1) = false := hh
    rw [plc_is I (hE' e he), plc_is I (hE' e' he')] at hh2
    exact hh2

/-! ### sorted(a set of ratios) -/
abbrev entI (e : Addr × Rat) : Addr × List Int := (e.1, [e.2.num, (e.2.den : Int)])
def rSortT (K : PySem.W.Frag) (P : Program) (w : World) : List V → Hp → VK → Prop := fun vs H Q => ∃ (a : Addr) (es : List (Addr × Rat)), vs = [.ref a] ∧ H a = some (SetTO P w a (es.map entI)) ∧ (∀ e ∈ es, SqT K H e.1 (rt e.2)) ∧
  ∀ (es' : List (Addr × Rat)) (p : Addr), es'.Perm es → LexOrd (es'.map (·.2)) → H p = none → Q (.ref p) (upd H p (.lst (es'.map fun e => V.ref e.1)))
theorem cr_sortT (hc : X.calm = true) : CallR X (.builtin "sorted") (rSortT X.K X.prog X.w) := by
  intro pins s σ H vs us Q I r h
  obtain ⟨a, es0, rfl, ha, hk, q⟩ := h
  rw [Vals.ref1 r]
  have R0 : SetT0 X.prog X.w s.heap a (es0.map entI) := (I.hok a _ ha).1
  obtain ⟨es, ep, t, R⟩ := R0.full fun p hp => by
    obtain ⟨e, he, rfl⟩ := List.mem_map.mp hp
    exact I.isT (k := [e.2.num, (e.2.den : Int)]) (hk e he)
  have few : es0.length < 64 := by have := R.few; rw [List.length_map] at this; exact this
  refine NS.sorted_raw (as := es0.map (·.1)) (ltv := fun v u => SrtO.lexB (plc X.K H (NS.adr v)) (plc X.K H (NS.adr u))) R.ob (by rw [R.rows, rowsOf, List.map_map, List.map_map, List.map_map]; rfl) (by rw [List.length_map]; exact few) R.fits R.tab.ris R.led (I.ok.hd hc)
    (SrtO.swo_lex fun v => plc X.K H (NS.adr v)) (fun vs pm h2 A' s1 l hl kp => ?_) fun s' p out c kp g o hp hg hs pm => ?_
  · refine SrtO.pairs_sortableO (k := fun v => plc X.K H (NS.adr v)) (by omega) (fun v m => ?_) hl
    rw [List.map_map] at pm
    obtain ⟨e, he, rfl⟩ := List.mem_map.mp (pm.mem_iff.mp m)
    obtain ⟨its, rv, ⟨o, ho, hc', n, hd⟩, _⟩ := I.tuple (hk e he)
    obtain ⟨u1, u2, rfl, ⟨t1, rfl⟩, ⟨t2, rfl⟩⟩ := vals2 rv
    show Srt.IsPair s1.heap (.ref e.1) (plc X.K H e.1).1 (plc X.K H e.1).2
    rw [plc_is I (hk e he)]
    exact ⟨e.1, o, t1, t2, n, rfl, kp _ _ ho, hc', hd⟩
  · rw [List.map_map] at pm
    obtain ⟨es', rfl, pe⟩ := perm_map_inv pm
    have hk' : ∀ e ∈ es', SqT X.K H e.1 (rt e.2) := fun e he => hk e (pe.mem_iff.mp he)
    have len : (es'.map fun e => V.ref e.1).length ≤ sizeLine := by
      rw [List.length_map, pe.length_eq, sizeLine_eq]
      omega
    have hn : H p = none := I.hok.fresh hp
    have hv : ∀ l : List (Addr × Rat), Vals (l.map fun e => V.ref e.1) (l.map (Value.ref ∘ fun e => e.1)) := fun l => by
      induction l with
      | nil => exact .nil
      | cons b bs ih => exact .cons rfl ih
    have J : Inv X pins σ (upd H p (.lst (es'.map fun e => V.ref e.1))) { s with heap := s'.heap, gens := s'.gens, drawn := s'.drawn, toks := s'.toks } :=
      I.call (ch := []) (Un.laid kp hp hn) (I.hok.laid kp hp ⟨len, _, c, hv es', hg⟩) (by rw [g]; exact I.bare) (fun _ z => nomatch z)
    have e : s' = { s with heap := s'.heap, gens := s'.gens, drawn := s'.drawn, toks := s'.toks } := by
      cases s'
      cases s
      cases o
      rfl
    rw [e]
    have nd : (es0.map (·.2)).Nodup := by
      have z := R.nd
      rw [List.map_map] at z
      exact List.pairwise_map.mpr ((List.pairwise_map.mp z).imp fun {x y} hne e => hne (by show [x.2.num, (x.2.den : Int)] = [y.2.num, (y.2.den : Int)]; rw [e]))
    refine ⟨.ref p, _, J, rfl, q es' p pe ⟨List.pairwise_map.mpr (List.Pairwise.imp_of_mem (fun {e e'} he he' hh => ?_) (List.pairwise_map.mp hs)), (pe.map (·.2)).nodup_iff.mpr nd⟩ hn⟩
    have hh2 : SrtO.lexB (plc X.K H e'.1) (plc X.K H e.1) = false := hh
    rw [plc_is I (hk' e he), plc_is I (hk' e' he')] at hh2
    exact hh2
end
/-! ### what may be shown -/
theorem fine_ints {i : Int} (h : i.natAbs < 2 ^ 250) : PyData.showable (.int i) = true ∧ PyData.leavesShort 260 (.int i) = true := by
  have l : i.natAbs.log2 < 250 := by
    by_cases z : i.natAbs = 0
    · rw [z]; decide
    · exact (Nat.log2_lt z).mpr h
  refine ⟨decide_eq_true (by omega), decide_eq_true ?_⟩
  have := int_text_length_le (k := 250) (by decide) l
  show (Str.ofString (toString i)).length ≤ 260
  rw [PySem.ofString_length]
  omega
/-- a short list of numbers may be shown -/
theorem fine_list {ds : List PyData} (h1 : PyData.showableAll ds = true) (h2 : PyData.hasDictAll ds = false) (h3 : PyData.leavesShortAll 260 ds = true) (h4 : PyData.depthAll ds ≤ 7) (h5 : PyData.bulkAll ds ≤ 10000) : LG.Fine (.list ds) := by
  refine ⟨h1, h2, ?_, ?_⟩
  · show PyData.depthAll ds + 1 ≤ 8
    omega
  · have := PyData.shown_le_bulk 260 (by decide) (.list ds) h3
    have e : (PyData.list ds).bulk = PyData.bulkAll ds := rfl
    rw [e] at this
    have : (260 + 2) * PyData.bulkAll ds ≤ (260 + 2) * 10000 := Nat.mul_le_mul_left _ h5
    rw [sizeLine_eq]
    omega
/-- one number's data -/
theorem fine_num {v : V} {q : Rat} {K : PySem.W.Frag} {H : Hp} (hv : Num K H v q) (h : Sz 250 q) : PyData.showable (datN v q) = true ∧ PyData.hasDict (datN v q) = false ∧ PyData.leavesShort 260 (datN v q) = true ∧ PyData.depth (datN v q) ≤ 1 ∧ PyData.bulk (datN v q) ≤ 2 := by
  obtain ⟨a1, a2⟩ := fine_ints h.1
  obtain ⟨b1, b2⟩ := fine_ints (i := (q.den : Int)) (by rw [Int.natAbs_natCast]; exact h.2)
  have tup : PyData.showable (datR q) = true ∧ PyData.hasDict (datR q) = false ∧ PyData.leavesShort 260 (datR q) = true ∧ PyData.depth (datR q) ≤ 1 ∧ PyData.bulk (datR q) ≤ 2 := by
    refine ⟨?_, rfl, ?_, by simp [PyData.depth, PyData.depthAll], by simp [PyData.bulk, PyData.bulkAll]⟩
    · show (PyData.showable (.int q.num) && (PyData.showable (.int (q.den : Int)) && true)) = true
      rw [a1, b1]
      rfl
    · show (PyData.leavesShort 260 (.int q.num) && (PyData.leavesShort 260 (.int (q.den : Int)) && true)) = true
      rw [a2, b2]
      rfl
  rcases hv.kinds with ⟨rfl, e⟩ | ⟨a, rfl, _⟩
  · exact ⟨a1, rfl, a2, Nat.zero_le _, Nat.zero_le _⟩
  · exact tup
end LR
set_option Elab.async false
set_option linter.all false
set_option maxRecDepth 100000
set_option maxHeartbeats 4000000
namespace LR
open PySem PySem.Spec PyProof.Rows L2
theorem scSR : FnScope ["a", "b", "c", "given", "shown", "rows", "at"] ["a", "b", "c"] (defScope s_law_sorted_right) := ⟨rfl, rfl, rfl, by decide +kernel, rfl, by decide +kernel, by decide +kernel⟩
section
variable {P : Program} {w : World} {K : PySem.W.Frag} {mg : Str → Option Value} {base : Heap}
def spSR (K : PySem.W.Frag) : Sp := fun vs H Q _ => ∃ (x y z : V) (qa qb qc : Rat), vs = [x, y, z] ∧ (Num K H x qa ∧ Num K H y qb ∧ Num K H z qc) ∧ (Sz 120 qa ∧ Sz 120 qb ∧ Sz 120 qc) ∧ ∀ H', Same H H' → Q (.bl true) H'
theorem sz0 : Sz 120 ((0 : Int) : Rat) := Sz.int (by decide) (by decide)
theorem zero_rat (q : Rat) : q + ((0 : Int) : Rat) = q := by
  rw [show ((0 : Int) : Rat) = 0 from rfl, Rat.add_zero]
theorem flat_one (n : Nat) (x : V) : (List.replicate n [x]).flatten = List.replicate n x := by
  induction n with
  | zero => rfl
  | succ n ih => rw [List.replicate_succ, List.flatten_cons, ih, List.replicate_succ]; rfl
theorem nodup_len {α : Type} [BEq α] [LawfulBEq α] : ∀ {l m : List α}, l.Nodup → (∀ x ∈ l, x ∈ m) → l.length ≤ m.length
  | [], _, _, _ => Nat.zero_le _
  | x :: l, m, h, s => by
    obtain ⟨h1, h2⟩ := List.nodup_cons.mp h
    have hx : x ∈ m := s x List.mem_cons_self
    have ih := nodup_len (l := l) (m := m.erase x) h2 fun y hy => (List.mem_erase_of_ne (fun e => h1 (by rw [← e]; exact hy))).mpr (s y (List.mem_cons_of_mem _ hy))
    rw [List.length_erase_of_mem hx] at ih
    have : 0 < m.length := List.length_pos_of_mem hx
    rw [List.length_cons]
    omega
theorem asc_nodup {l : List Rat} (h : l.Pairwise (· < ·)) : l.Nodup := List.Pairwise.imp (fun {a b} (hh : a < b) (e : a = b) => Rat.lt_irrefl (by rw [e] at hh; exact hh)) h
theorem at_z {α : Type} {xs : List α} {j : Nat} {v : α} (h : xs[j]? = some v) : atI xs (0 + (j : Int)) = some v := by
  rw [Int.zero_add]
  exact atI_nat h
theorem at_z1 {α : Type} {xs : List α} {j : Nat} {v : α} (h : xs[j + 1]? = some v) : atI xs (0 + (j : Int) + 1) = some v := by
  rw [Int.zero_add]
  exact atI_nat (j := j + 1) h
theorem sub_map {α β : Type} {f : α → β} {m : List α} : ∀ {L : List β}, (∀ p ∈ L, p ∈ m.map f) → ∃ es : List α, L = es.map f ∧ ∀ e ∈ es, e ∈ m
  | [], _ => ⟨[], rfl, fun _ h => by cases h⟩
  | p :: L, h => by
    obtain ⟨e, he, rfl⟩ := List.mem_map.mp (h p List.mem_cons_self)
    obtain ⟨es, rfl, hs⟩ := sub_map (L := L) fun q hq => h q (List.mem_cons_of_mem _ hq)
    exact ⟨e :: es, rfl, fun x hx => (List.mem_cons.mp hx).elim (fun z => z ▸ he) (hs x)⟩
theorem entI_inj {d e : Addr × Rat} (h : (entI d).2 = (entI e).2) : d.2 = e.2 := by
  simp only [entI, List.cons.injEq, and_true] at h
  exact Rat.ext h.1 (by omega)
theorem rn_of_es {K : PySem.W.Frag} {H : Hp} : ∀ {es : List (Addr × Rat)}, (∀ e ∈ es, SqT K H e.1 (rt e.2)) → All2 (Rn K H) (es.map fun e => V.ref e.1) (es.map (·.2))
  | [], _ => .nil
  | e :: es, h => .cons ⟨e.1, rfl, h e List.mem_cons_self⟩ (rn_of_es fun d hd => h d (List.mem_cons_of_mem _ hd))
theorem ok_SR {f fP fC fO C : Addr} {fd dP dC dO : FuncData} (D : DefAt K mg "_law_sorted_right" s_law_sorted_right ["a", "b", "c"] f fd) (DP : DefAt K mg "plus" s_plus ["first", "second"] fP dP) (DC : DefAt K mg "compare" s_compare ["first", "second"] fC dC) (DO : DefAt K mg "in_order" s_in_order ["values"] fO dO)
    (mr : mg "repr" = none) (mrg : mg "range" = none) (ml : mg "len" = none) (ms : mg "sorted" = none) (mset : mg "set" = none)
    (GP : FnOk P w K mg base (CXl P w) 4 fP dP ["first", "second"] (sp_plus K C)) (GC : FnOk P w K mg base (CXl P w) 4 fC dC ["first", "second"] (sp_compare K C)) (GO : FnOk P w K mg base (CXl P w) 4 fO dO ["values"] (spInO K C)) :
    LG.FnG P w K mg base (CXl P w) 5 f fd ["a", "b", "c"] (spSR K) := by
  refine LG.fun_okG D.F scSR (fun vs H Q E h => ?_) (fun cdv A outer s H vs Q E g hr h => ?_)
  · obtain ⟨x, y, z, _, _, _, rfl, _⟩ := h
    rfl
  · obtain ⟨x, y, z, qa, qb, qc, rfl, ⟨nx, ny, nz⟩, ⟨za, zb, zc⟩, q⟩ := h
    refine ⟨_, pss_cons (ps_set (i := 3) scSR.nd rfl (.inl rfl) (pe_lst (pa_cons (pv 0) (pa_cons (pv 1) (pa_cons (pv 2) (pa_cons (pv 0) (pa_cons (pe_call GP hr (by rfl) DP.g DP.F.kp DP.b .nil passL (pa_cons (pv 1) (pa_cons pe_int pa_nil))) pa_nil)))))))
      (pss_cons (ps_set (i := 4) scSR.nd rfl (.inl rfl) (pe_callB (LG.cr_repr g hr.units) (by rfl) mr (by decide +kernel) (pa_cons (pv 3) pa_nil)))
      (pss_cons (ps_set (i := 5) scSR.nd rfl (.inr rfl) (pe_call GO hr (by rfl) DO.g DO.F.kp DO.b .nil passL (pa_cons (pv 3) pa_nil)))
      (pss_cons (ps_if (pt_cmpR op_ne (pe_callB (LG.cr_repr g hr.units) (by rfl) mr (by decide +kernel) (pa_cons (pv 3) pa_nil)) (pv 4) (nomark _)) (pss_one (ps_ret pe_bl)) pss_nil)
      (pss_cons (ps_if (pt_cmpR (op_neD hr.units) (pe_lc (own := [("at", 6)]) (g := gName 6) (tt := tYes) rfl scSR.nd (pi_range1 rfl mrg (pa_cons (pe_op op_sub (pe_callB call_len_seq (by rfl) ml PySem.boot_len (pa_cons (pv 5) pa_nil)) pe_int) pa_nil)) (blkOk_by (N := ["a", "b", "c", "given", "shown", "rows", "at"]) (sc := defScope s_law_sorted_right) (by decide +kernel)) (fun _ _ _ _ _ => pg_name (i := 6) scSR.nd rfl (.inl rfl)) (fun _ _ _ _ _ => pts_nil)
          (fun _ _ _ _ _ => pe_call GC hr (by rfl) DC.g DC.F.kp DC.b .nil passL (pa_cons (pe_ix (r := rIxL K) ix_list (pv 5) (pv 6) (fun _ _ => rfl)) (pa_cons (pe_ix (r := rIxL K) ix_list (pv 5) (pe_op op_add (pv 6) pe_int) (fun _ _ => rfl)) pa_nil))))
          (pe_op op_rep (pe_lst (pa_cons (pe_un un_neg pe_int) pa_nil)) (pe_op op_sub (pe_callB call_len_seq (by rfl) ml PySem.boot_len (pa_cons (pv 5) pa_nil)) pe_int)) (nomark _)) (pss_one (ps_ret pe_bl)) pss_nil)
      (pss_cons (ps_if (pt_cmpR (op_neD hr.units) (pe_callB LR.cr_sortR (by rfl) ms (by decide +kernel) (pa_cons (pv 5) pa_nil))
          (pe_callB (LR.cr_sortT rfl) (by rfl) ms (by decide +kernel) (pa_cons (pe_callTy (cr_setOfT rfl hr.units) (by rfl) mset (by decide +kernel) (pa_cons (pe_lst (pa_cons (pe_call GP hr (by rfl) DP.g DP.F.kp DP.b .nil passL (pa_cons (pv 0) (pa_cons pe_int pa_nil))) (pa_cons (pe_call GP hr (by rfl) DP.g DP.F.kp DP.b .nil passL (pa_cons (pv 1) (pa_cons pe_int pa_nil))) (pa_cons (pe_call GP hr (by rfl) DP.g DP.F.kp DP.b .nil passL (pa_cons (pv 2) (pa_cons pe_int pa_nil))) pa_nil)))) pa_nil)) pa_nil)) (nomark _)) (pss_one (ps_ret pe_bl)) pss_nil)
      (pss_one (ps_ret pe_bl))))))), ?_⟩
    have z0 : Sz 3900 ((0 : Int) : Rat) := sz0.mono (by decide)
    have big : ∀ {n : Nat}, n ≤ 1000 → n ≤ sizeLine := fun h => Nat.le_of_lt (small1000 h)
    have big2 : ∀ {n : Nat}, n ≤ 1000 → n < sizeLine := fun h => small1000 h
    -- given = [a, b, c, a, plus(b, 0)]
    refine ⟨x, rfl, y, rfl, z, rfl, x, rfl, y, rfl, y, .int 0, some qb, some ((0 : Int) : Rat), rfl, ny, num_int 0, ⟨zb.mono (by decide), z0⟩, fun v1 H1 s1 r1 => ⟨big (show 5 ≤ 1000 by decide), fun G nG => ?_⟩⟩
    have r1 : Rn K H1 v1 (qb + ((0 : Int) : Rat)) := r1
    rw [zero_rat] at r1
    have sG : Same H1 (upd H1 G (.lst [x, y, z, x, v1])) := same_new nG
    have hG : (upd H1 G (.lst [x, y, z, x, v1])) G = some (.lst [x, y, z, x, v1]) := upd_same
    have s2 : Same H (upd H1 G (.lst [x, y, z, x, v1])) := s1.trans sG
    have r2 : Rn K (upd H1 G (.lst [x, y, z, x, v1])) v1 qb := r1.same sG
    generalize (upd H1 G (.lst [x, y, z, x, v1])) = H2 at hG s2 r2 ⊢
    have dat : ∀ H', Same H2 H' → Dp K H' (.ref G) (.list [datN x qa, datN y qb, datN z qc, datN x qa, datR qb]) := fun H' s' =>
      .lst (.of (s' _ _ hG)) (.cons (Num.dp (nx.same (s2.trans s'))) (.cons (Num.dp (ny.same (s2.trans s'))) (.cons (Num.dp (nz.same (s2.trans s'))) (.cons (Num.dp (nx.same (s2.trans s'))) (.cons (r2.same s').dp .nil)))))
    have fine : LG.Fine (.list [datN x qa, datN y qb, datN z qc, datN x qa, datR qb]) := by
      obtain ⟨a1, a2, a3, a4, a5⟩ := fine_num nx (za.mono (by decide))
      obtain ⟨b1, b2, b3, b4, b5⟩ := fine_num ny (zb.mono (by decide))
      obtain ⟨c1, c2, c3, c4, c5⟩ := fine_num nz (zc.mono (by decide))
      obtain ⟨v, r2v⟩ := id r2
      obtain ⟨d1, d2, d3, d4, d5⟩ := fine_num r2.num (zb.mono (show 120 ≤ 250 by decide))
      have ed : datN v1 qb = datR qb := by rw [r2v.1]; rfl
      rw [ed] at d1 d2 d3 d4 d5
      refine fine_list ?_ ?_ ?_ ?_ ?_
      · simp only [PyData.showableAll, a1, b1, c1, d1, Bool.and_true]
      · simp only [PyData.hasDictAll, a2, b2, c2, d2, Bool.or_false]
      · simp only [PyData.leavesShortAll, a3, b3, c3, d3, Bool.and_true]
      · simp only [PyData.depthAll]
        omega
      · simp only [PyData.bulkAll]
        omega
    -- shown = repr(given)
    refine ⟨.ref G, rfl, G, _, rfl, dat _ (Same.refl _), fine, ?_⟩
    -- rows = in_order(given)
    refine ⟨.ref G, rfl, .ref G, rfl, .inl ⟨G, [qa, qb, qc, qa, qb], rfl, ⟨_, .of hG, .cons (nx.same s2) (.cons (ny.same s2) (.cons (nz.same s2) (.cons (nx.same s2) (.cons r2.num .nil))))⟩, by show 5 ≤ 8; decide, fun q' hq' => ?_, fun rs v3 H3 ord s3 r3 => ?_⟩⟩
    · simp only [List.mem_cons, List.not_mem_nil, or_false] at hq'
      rcases hq' with rfl | rfl | rfl | rfl | rfl
      · exact za.mono (by decide)
      · exact zb.mono (by decide)
      · exact zc.mono (by decide)
      · exact za.mono (by decide)
      · exact zb.mono (by decide)
    obtain ⟨R, rows, rfl, hR, hA⟩ := r3
    -- if repr(given) != shown
    refine ⟨.ref G, rfl, G, _, rfl, dat _ s3, fine, _, rfl, rfl, _, rfl, ite2 (fun c => absurd c (by simp)) (fun _ => ?_)⟩
    have mem : ∀ r ∈ rs, r = qa ∨ r = qb ∨ r = qc := fun r hr => by
      have := (ord.2 r).mp hr
      simp only [List.mem_cons, List.not_mem_nil, or_false] at this
      rcases this with h | h | h | h | h
      · exact .inl h
      · exact .inr (.inl h)
      · exact .inr (.inr h)
      · exact .inl h
      · exact .inr (.inl h)
    have szr : ∀ r ∈ rs, Sz 3900 r := fun r hr => by
      rcases mem r hr with rfl | rfl | rfl
      · exact za.mono (by decide)
      · exact zb.mono (by decide)
      · exact zc.mono (by decide)
    have len := hA.len
    have len5 : rows.length ≤ 5 := by
      rw [len]
      exact nodup_len (asc_nodup ord.1) fun r hr => (ord.2 r).mp hr
    have iR : SqL K H3 R rows := .inl (.inl hR)
    -- [compare(..) ..] != [-1] * (len(rows) - 1)
    refine ⟨.ref R, rfl, R, rows, rfl, .inl iR, _, _, rfl, rfl, ?_⟩
    refine ⟨(rows.length : Int) - 1, rfl, by omega, by omega, fun D4 n4 => lc_range (lo := 0) (n := ((rows.length : Int) - 1).toNat) (fun i H' => Same H3 H' ∧ H' D4 = some (.lst (List.replicate i (.int (-1))))) ⟨same_new n4, upd_same⟩ (fun i H' hi hP => ?_) (fun H4 hP => ?_)⟩
    · obtain ⟨sm, hD⟩ := hP
      have i1 : i < rows.length := by omega
      have i2 : i + 1 < rows.length := by omega
      obtain ⟨p1, e1, n1⟩ := hA.get (List.getElem?_eq_getElem i1)
      obtain ⟨p2, e2, n2⟩ := hA.get (List.getElem?_eq_getElem i2)
      have lt : p1 < p2 := by
        obtain ⟨l1, rfl⟩ := List.getElem?_eq_some_iff.mp e1
        obtain ⟨l2, rfl⟩ := List.getElem?_eq_some_iff.mp e2
        exact List.pairwise_iff_getElem.mp ord.1 _ _ _ _ (Nat.lt_succ_self _)
      have sR : SqL K H' R rows := .inl (.inl (sm _ _ hR))
      refine ⟨rfl, .ref R, rfl, .int (0 + (i : Int)), rfl, R, rows, (0 + (i : Int)), _, rfl, rfl, sR, at_z (List.getElem?_eq_getElem i1), .ref R, rfl, .int (0 + (i : Int)), rfl, _, _, rfl, rfl, R, rows, (0 + (i : Int) + 1), _, rfl, rfl, sR, at_z1 (List.getElem?_eq_getElem i2), ?_⟩
      refine ⟨_, _, some p1, some p2, rfl, (n1.same sm).num, (n2.same sm).num, ⟨szr p1 (List.mem_of_getElem? e1), szr p2 (List.mem_of_getElem? e2)⟩, ?_⟩
      intro H5 s5
      have ec : cmpR p1 p2 = -1 := if_pos lt
      refine ⟨_, s5 _ _ hD, big2 (by rw [List.length_replicate]; omega), same_but (sm.trans s5) n4, ?_⟩
      rw [upd_same, ec, List.replicate_succ']
    · obtain ⟨sm, hD⟩ := hP
      refine ⟨1, rfl, big (show 1 ≤ 1000 by decide), fun L nL => ?_⟩
      have sL : Same H4 (upd H4 L (.lst [.int (-1)])) := same_new nL
      have hL : (upd H4 L (.lst [.int (-1)])) L = some (.lst [.int (-1)]) := upd_same
      generalize (upd H4 L (.lst [.int (-1)])) = H5 at sL hL ⊢
      have sR : SqL K H5 R rows := .inl (.inl (sL _ _ (sm _ _ hR)))
      refine ⟨.ref R, rfl, R, rows, rfl, .inl sR, _, _, rfl, rfl, L, (rows.length : Int) - 1, _, rfl, rfl, hL, by omega, by omega, big (show 1 * ((rows.length : Int) - 1).toNat ≤ 1000 by omega), fun M nM => ?_⟩
      rw [flat_one]
      have hM : (upd H5 M (.lst (List.replicate ((rows.length : Int) - 1).toNat (.int (-1))))) M = some (.lst (List.replicate ((rows.length : Int) - 1).toNat (.int (-1)))) := upd_same
      have sM : Same H5 (upd H5 M (.lst (List.replicate ((rows.length : Int) - 1).toNat (.int (-1))))) := same_new nM
      generalize (upd H5 M (.lst (List.replicate ((rows.length : Int) - 1).toNat (.int (-1))))) = H6 at hM sM ⊢
      have dl : ∀ a, H6 a = some (.lst (List.replicate ((rows.length : Int) - 1).toNat (.int (-1)))) → Dp K H6 (.ref a) (.list ((List.replicate ((rows.length : Int) - 1).toNat (-1)).map datI)) := fun a h => .lst (.of (by rw [h, List.map_replicate])) (dpIs _)
      refine ⟨_, _, dl D4 (sM _ _ (sL _ _ hD)), dl M hM, shapedIs _, shapedIs _, _, rfl, ite2 (fun c => absurd c (by rw [eqvIs]; decide)) (fun _ => ?_)⟩
      have s6 : Same H3 H6 := (sm.trans sL).trans sM
      have iR6 : SqL K H6 R rows := .inl (.inl (s6 _ _ hR))
      -- sorted(rows) != sorted(set([..]))
      refine ⟨.ref R, rfl, .ref R, R, rows, rs, rfl, rfl, iR6, hA.imp fun _ _ h => h.same s6, fun ys ts S pm pw hY nS => ?_⟩
      have sS : Same H6 (upd H6 S (.lst ys)) := same_new nS
      have hS : (upd H6 S (.lst ys)) S = some (.lst ys) := upd_same
      generalize (upd H6 S (.lst ys)) = H7 at sS hS ⊢
      have s7 : Same H H7 := ((s2.trans s3).trans s6).trans sS
      refine ⟨x, rfl, x, .int 0, some qa, some ((0 : Int) : Rat), rfl, nx.same s7, num_int 0, ⟨za.mono (by decide), z0⟩, fun u1 G1 t1 w1 => ?_⟩
      have w1 : Rn K G1 u1 (qa + ((0 : Int) : Rat)) := w1
      rw [zero_rat] at w1
      refine ⟨y, rfl, y, .int 0, some qb, some ((0 : Int) : Rat), rfl, ny.same (s7.trans t1), num_int 0, ⟨zb.mono (by decide), z0⟩, fun u2 G2 t2 w2 => ?_⟩
      have w2 : Rn K G2 u2 (qb + ((0 : Int) : Rat)) := w2
      rw [zero_rat] at w2
      refine ⟨z, rfl, z, .int 0, some qc, some ((0 : Int) : Rat), rfl, nz.same ((s7.trans t1).trans t2), num_int 0, ⟨zc.mono (by decide), z0⟩, fun u3 G3 t3 w3 => ?_⟩
      have w3 : Rn K G3 u3 (qc + ((0 : Int) : Rat)) := w3
      rw [zero_rat] at w3
      refine ⟨big (show 3 ≤ 1000 by decide), fun T nT => ?_⟩
      obtain ⟨a1, rfl, h1⟩ := w1.same (t2.trans t3)
      obtain ⟨a2, rfl, h2⟩ := w2.same t3
      obtain ⟨a3, rfl, h3⟩ := w3
      have sT : Same G3 (upd G3 T (.lst [.ref a1, .ref a2, .ref a3])) := same_new nT
      have hT : (upd G3 T (.lst [.ref a1, .ref a2, .ref a3])) T = some (.lst [.ref a1, .ref a2, .ref a3]) := upd_same
      have h1 := same_sqt sT h1
      have h2 := same_sqt sT h2
      have h3 := same_sqt sT h3
      have s8 : Same H7 (upd G3 T (.lst [.ref a1, .ref a2, .ref a3])) := ((t1.trans t2).trans t3).trans sT
      generalize (upd G3 T (.lst [.ref a1, .ref a2, .ref a3])) = H8 at hT h1 h2 h3 s8 ⊢
      have hk0 : ∀ e ∈ [(a1, qa), (a2, qb), (a3, qc)], SqT K H8 e.1 (rt e.2) := fun e he => by
        simp only [List.mem_cons, List.not_mem_nil, or_false] at he
        rcases he with rfl | rfl | rfl
        · exact h1
        · exact h2
        · exact h3
      refine ⟨T, [(a1, qa), (a2, qb), (a3, qc)].map entI, rfl, .inl (.inl hT), fun p hp => ?_, by show 3 < 64; decide, fun W L nW sub cov => ?_⟩
      · obtain ⟨e, he, rfl⟩ := List.mem_map.mp hp
        exact hk0 e he
      obtain ⟨es, rfl, he0⟩ := sub_map sub
      have sW : Same H8 (upd H8 W (SetTO P w W (es.map entI))) := same_new nW
      have hW : (upd H8 W (SetTO P w W (es.map entI))) W = some (SetTO P w W (es.map entI)) := upd_same
      generalize hg9 : (upd H8 W (SetTO P w W (es.map entI))) = H9 at sW hW
      show tNil _ (upd H8 W (SetTO P w W (es.map entI))) _
      rw [hg9]
      refine ⟨W, es, rfl, hW, fun e he => same_sqt sW (hk0 e (he0 e he)), fun es' p pm' lo np => ?_⟩
      have sp' : Same H9 (upd H9 p (.lst (es'.map fun e => V.ref e.1))) := same_new np
      have hp : (upd H9 p (.lst (es'.map fun e => V.ref e.1))) p = some (.lst (es'.map fun e => V.ref e.1)) := upd_same
      generalize (upd H9 p (.lst (es'.map fun e => V.ref e.1))) = HF at sp' hp ⊢
      have s79 : Same H7 HF := (s8.trans sW).trans sp'
      have eq : ts = es'.map (·.2) := by
        refine lex_uniq ⟨pw, pm.nodup_iff.mpr (asc_nodup ord.1)⟩ lo fun r => ?_
        have key : ∀ e ∈ [(a1, qa), (a2, qb), (a3, qc)], e.2 ∈ es'.map (·.2) := fun e he => by
          obtain ⟨b, hb, eb⟩ := List.mem_map.mp (cov (entI e) (List.mem_map.mpr ⟨e, he, rfl⟩))
          obtain ⟨d, hd, rfl⟩ := List.mem_map.mp hb
          exact List.mem_map.mpr ⟨d, pm'.mem_iff.mpr hd, entI_inj eb⟩
        constructor
        · intro hr'
          rcases mem r (pm.mem_iff.mp hr') with rfl | rfl | rfl
          · exact key (a1, r) (by simp)
          · exact key (a2, r) (by simp)
          · exact key (a3, r) (by simp)
        · intro hr'
          obtain ⟨e, he, rfl⟩ := List.mem_map.mp hr'
          refine pm.mem_iff.mpr ((ord.2 e.2).mpr ?_)
          have := he0 e (pm'.mem_iff.mp he)
          simp only [List.mem_cons, List.not_mem_nil, or_false] at this
          rcases this with rfl | rfl | rfl <;> simp
      have hE' : ∀ e ∈ es', SqT K HF e.1 (rt e.2) := fun e he => same_sqt (sW.trans sp') (hk0 e (he0 e (pm'.mem_iff.mp he)))
      refine ⟨_, _, .lst (.of (s79 _ _ hS)) (rnl_dp (hY.imp fun _ _ h => Rn.same (sS.trans s79) h)), .lst (.of hp) (rnl_dp (rn_of_es hE')), shapedRs _, shapedRs _, _, rfl, ite2 (fun c => absurd c (by rw [eq, eqvRs]; decide)) (fun _ => ?_)⟩
      exact q _ (s7.trans s79)
end
end LR
set_option Elab.async false
set_option linter.all false
set_option maxRecDepth 100000
set_option maxHeartbeats 8000000
namespace LR
open PySem PySem.Spec PyProof.Rows L2
theorem scLaw : FnScope ["script", "k", "pool", "one", "two", "three", "a", "b", "c", "sign", "bottom", "apart", "whole", "rest", "many"] ["script"] (defScope s_law) := ⟨rfl, rfl, rfl, by decide +kernel, rfl, by decide +kernel, by decide +kernel⟩
theorem but_rn {K : PySem.W.Frag} {p : Addr} {H H' : Hp} {x : V} {q : Rat} (hp : PoolAt H p) (b : But p H H') (h : Rn K H x q) : Rn K H' x q := by
  obtain ⟨c, s, hp, _⟩ := hp
  obtain ⟨a, rfl, h⟩ := h
  refine ⟨a, rfl, ?_⟩
  rcases h with (h | ⟨ob, h⟩) | h
  · exact .inl (.inl (b _ _ (ne_of h hp (fun e => by cases e)) h))
  · exact .inl (.inr ⟨ob, b _ _ (ne_of h hp (fun e => by cases e)) h⟩)
  · exact .inr h
theorem but_num {K : PySem.W.Frag} {p : Addr} {H H' : Hp} {x : V} {q : Rat} (hp : PoolAt H p) (b : But p H H') (h : Num K H x q) : Num K H' x q := by
  rcases h.kinds with ⟨rfl, e⟩ | h
  · have e2 : q = ((q.num : Int) : Rat) := Rat.ext rfl e
    have := num_int (K := K) (H := H') q.num
    rw [← e2] at this
    exact this
  · exact (but_rn hp b h).num
theorem drew_out {p : Addr} {H1 H2 H3 : Hp} (n : H1 p = none) (s : Same H1 H2) (r : Drew p H2 H3) : Same H1 H3 := fun b o e => r.but b o (ne_of_none e n) (s b o e)
theorem pool_new {p A : Addr} {H : Hp} {o : HO} (h : PoolAt H p) (n : H A = none) : PoolAt (upd H A o) p := by
  obtain ⟨c, s, h, h2⟩ := h
  exact ⟨c, s, by rw [upd_ne (ne_of_none h n)]; exact h, h2⟩
theorem signs {x : V} (h : x ∈ [V.int 1, V.int (-1), V.int 3, V.int (-6)]) : ∃ s : Int, x = .int s ∧ s ≠ 0 ∧ s.natAbs < 2 ^ 3 := by
  simp only [List.mem_cons, List.not_mem_nil, or_false] at h
  rcases h with rfl | rfl | rfl | rfl
  · exact ⟨_, rfl, by decide, by decide⟩
  · exact ⟨_, rfl, by decide, by decide⟩
  · exact ⟨_, rfl, by decide, by decide⟩
  · exact ⟨_, rfl, by decide, by decide⟩
theorem cross {z : Rat} {t b : Int} (hb : b ≠ 0) (h : z = Rat.divInt t b) : z.num * b = t * z.den := by
  have hd : (z.den : Int) ≠ 0 := by have := den_pos z; omega
  have e : Rat.divInt z.num z.den = Rat.divInt t b := by rw [Rat.num_divInt_den]; exact h
  exact (Rat.divInt_eq_divInt_iff hd hb).mp e
theorem scaled {q : Rat} {s : Int} (hs : s ≠ 0) : Rat.divInt (q.num * s) (q.den * s) = q := by
  rw [Rat.divInt_mul_right hs, Rat.num_divInt_den]
theorem cmp_cross (p q : Rat) : cmpR p q = (if decide (p.num * q.den - q.num * p.den > 0) = true then 1 else 0) - (if decide (p.num * q.den - q.num * p.den < 0) = true then 1 else 0) := by
  have h1 : p < q ↔ p.num * q.den < q.num * p.den := Rat.lt_iff p q
  have h2 : q < p ↔ q.num * p.den < p.num * q.den := Rat.lt_iff q p
  unfold cmpR
  simp only [h1, h2, decide_eq_true_eq]
  generalize p.num * q.den = x
  generalize q.num * p.den = y
  split <;> split <;> split <;> omega
theorem floor_le' (q : Rat) : q.floor * q.den ≤ q.num := by
  have d1 := den_pos q
  rw [Rat.floor_def]
  exact Int.ediv_mul_le _ (by omega)
theorem lt_floor' (q : Rat) : q.num < (q.floor + 1) * q.den := by
  have d1 := den_pos q
  rw [Rat.floor_def]
  exact Int.lt_ediv_add_one_mul_self _ (by omega)
theorem floor_small {q : Rat} {b : Nat} (h : Sz b q) : q.floor.natAbs < 2 ^ b := by
  rw [Rat.floor_def]
  exact Nat.lt_of_le_of_lt (Int.natAbs_ediv_le_natAbs _ _) h.1
theorem many_int {p m : Rat} (hm : 0 < m) : (p - rem p m) / m = (((p / m).floor : Int) : Rat) := by
  have hne := Rat.ne_of_gt hm
  unfold rem
  generalize (((p / m).floor : Int) : Rat) = k
  grind
theorem mm_bound (n : Nat) : 0 ≤ (if (if (20 : Int) < (n : Int) then (20 : Int) else (n : Int)) > 1 then (if (20 : Int) < (n : Int) then (20 : Int) else (n : Int)) else 1) ∧ (if (if (20 : Int) < (n : Int) then (20 : Int) else (n : Int)) > 1 then (if (20 : Int) < (n : Int) then (20 : Int) else (n : Int)) else 1) ≤ 20 := by
  split <;> split <;> omega
theorem with_cont {S T : Hp → Prop} {g : Prop} (main : (∀ h, S h → T h) → g) (cont : ∀ h, S h → T h) : g := main cont
theorem with_cont2 {S : Hp → Prop} {T : Option V → Option V → Hp → Prop} {g : Prop} (main : (∀ x y h, S h → T x y h) → g) (cont : ∀ x y h, S h → T x y h) : g := main cont
theorem with_cont3 {D : Ends} {S : Hp → Prop} {l : Option V → Option V → L2.St} {g : Prop} (main : (∀ x y h, S h → tNext D (l x y) h) → g) (cont : ∀ x y h, S h → tNext D (l x y) h) : g := main cont
section
variable {P : Program} {w : World} {K : PySem.W.Frag} {mg : Str → Option Value} {base : Heap}
def spLaw (K : PySem.W.Frag) : Sp := fun vs H Q _ => ∃ (a : Addr) (ns : List Int), vs = [.ref a] ∧ SqL K H a (ns.map V.int) ∧ ns.length ≤ 63 ∧ (∀ H', Same H H' → SqL K H' a (ns.map V.int)) ∧ ∀ H', Same H H' → Q (.bl true) H'
theorem ok_Law {f fR fSR C C2 fPo fPa fVa fCh fIs fPl fMi fTi fDi fCo fFl fRe fIn : Addr} {fd dR dSR dPo dPa dVa dCh dIs dPl dMi dTi dDi dCo dFl dRe dIn : FuncData} (D : DefAt K mg "law" s_law ["script"] f fd)
    (DPo : DefAt K mg "_law_pool" s_law_pool ["script", "k"] fPo dPo) (GPo : FnOk P w K mg base (CXl P w) 1 fPo dPo ["script", "k"] (spPool K))
    (DPa : DefAt K mg "_law_pair" s_law_pair ["pool"] fPa dPa) (GPa : FnOk P w K mg base (CXl P w) 3 fPa dPa ["pool"] spPair)
    (DVa : DefAt K mg "_law_value" s_law_value ["pool", "pair"] fVa dVa) (GVa : FnOk P w K mg base (CXl P w) 2 fVa dVa ["pool", "pair"] (spValu K))
    (DCh : DefAt K mg "_law_choose" s_law_choose ["pool", "items"] fCh dCh) (GCh : FnOk P w K mg base (CXl P w) 2 fCh dCh ["pool", "items"] (spChoose K))
    (DIs : DefAt K mg "_law_is" s_law_is ["found", "top", "bottom"] fIs dIs) (GIs : FnOk P w K mg base (CXl P w) 3 fIs dIs ["found", "top", "bottom"] (spIs K))
    (DPl : DefAt K mg "plus" s_plus ["first", "second"] fPl dPl) (GPl : FnOk P w K mg base (CXl P w) 4 fPl dPl ["first", "second"] (sp_plus K C))
    (DMi : DefAt K mg "minus" s_minus ["first", "second"] fMi dMi) (GMi : FnOk P w K mg base (CXl P w) 4 fMi dMi ["first", "second"] (sp_minus K C))
    (DTi : DefAt K mg "times" s_times ["first", "second"] fTi dTi) (GTi : FnOk P w K mg base (CXl P w) 4 fTi dTi ["first", "second"] (sp_times K C))
    (DDi : DefAt K mg "divided" s_divided ["first", "second"] fDi dDi) (GDi : FnOk P w K mg base (CXl P w) 4 fDi dDi ["first", "second"] (sp_divided K C C2))
    (DCo : DefAt K mg "compare" s_compare ["first", "second"] fCo dCo) (GCo : FnOk P w K mg base (CXl P w) 4 fCo dCo ["first", "second"] (sp_compare K C))
    (DFl : DefAt K mg "floor_of" s_floor_of ["value"] fFl dFl) (GFl : FnOk P w K mg base (CXl P w) 4 fFl dFl ["value"] (sp_floor K C))
    (DRe : DefAt K mg "remainder" s_remainder ["value", "modulus"] fRe dRe) (GRe : FnOk P w K mg base (CXl P w) 4 fRe dRe ["value", "modulus"] (sp_rem K C C2))
    (DIn : DefAt K mg "in_order" s_in_order ["values"] fIn dIn) (GIn : FnOk P w K mg base (CXl P w) 4 fIn dIn ["values"] (spInO K C))
    (DR : DefD K mg "ratio" s_ratio ["numerator", "denominator"] [.int 1] fR dR) (GR : FnOk P w K mg base (CXl P w) 2 fR dR ["numerator", "denominator"] (spRatio K C C2)) {ds : List Value} (hds : Vals [.int 1] ds) (bR1 : Binds K dR ["numerator", "denominator"] ds)
    (DSR : DefAt K mg "_law_sorted_right" s_law_sorted_right ["a", "b", "c"] fSR dSR) (GSR : LG.FnG P w K mg base (CXl P w) 5 fSR dSR ["a", "b", "c"] (spSR K))
    (mrg : mg "range" = none) (ml : mg "len" = none) (mmx : mg "max" = none) (mmn : mg "min" = none) (mint : mg "int" = none) (mi : mg "isinstance" = none) (mtu : mg "tuple" = none) :
    LG.FnG P w K mg base (CXl P w) 6 f fd ["script"] (spLaw K) := by
  refine LG.fun_okG D.F scLaw (fun vs H Q E h => ?_) (fun cdv A outer s H vs Q E g hr h => ?_)
  · obtain ⟨a, ns, rfl, _⟩ := h
    rfl
  · obtain ⟨a0, ns, rfl, hS0, hl, keep, q⟩ := h
    refine ⟨_, (pss_cons (ps_for (passes_of rfl) rfl (pi_range1 rfl mrg (pa_cons (pe_callB (call_max2 rfl) (by rfl) mmx (by decide +kernel) (pa_cons pe_int (pa_cons (pe_callB (call_min2 rfl) (by rfl) mmn (by decide +kernel) (pa_cons (pe_callB call_len_seq (by rfl) ml PySem.boot_len (pa_cons (pv 0) pa_nil)) (pa_cons pe_int pa_nil))) pa_nil))) pa_nil)) (pg_name (i := 1) scLaw.nd rfl (.inl rfl)) (pss_cons (ps_set (i := 2) scLaw.nd rfl (.inl rfl) (pe_call GPo (hr.mono (by decide)) (by rfl) DPo.g DPo.F.kp DPo.b .nil passL (pa_cons (pv 0) (pa_cons (pv 1) pa_nil))))
        (pss_cons (ps_par3 (i := 3) (j := 4) (l := 5) rfl scLaw.nd rfl rfl rfl (by decide) (by decide) (by decide) rfl rfl rfl (pa_cons (pe_call GPa (hr.mono (by decide)) (by rfl) DPa.g DPa.F.kp DPa.b .nil passL (pa_cons (pv 2) pa_nil)) (pa_cons (pe_call GPa (hr.mono (by decide)) (by rfl) DPa.g DPa.F.kp DPa.b .nil passL (pa_cons (pv 2) pa_nil)) (pa_cons (pe_call GPa (hr.mono (by decide)) (by rfl) DPa.g DPa.F.kp DPa.b .nil passL (pa_cons (pv 2) pa_nil)) pa_nil))) (by rfl))
        (pss_cons (ps_par3 (i := 6) (j := 7) (l := 8) rfl scLaw.nd rfl rfl rfl (by decide) (by decide) (by decide) rfl rfl rfl (pa_cons (pe_call GVa (hr.mono (by decide)) (by rfl) DVa.g DVa.F.kp DVa.b .nil passL (pa_cons (pv 2) (pa_cons (pv 3) pa_nil))) (pa_cons (pe_call GVa (hr.mono (by decide)) (by rfl) DVa.g DVa.F.kp DVa.b .nil passL (pa_cons (pv 2) (pa_cons (pv 4) pa_nil))) (pa_cons (pe_call GVa (hr.mono (by decide)) (by rfl) DVa.g DVa.F.kp DVa.b .nil passL (pa_cons (pv 2) (pa_cons (pv 5) pa_nil))) pa_nil))) (by rfl))
        (pss_cons (ps_set (i := 9) scLaw.nd rfl (.inl rfl) (pe_call GCh (hr.mono (by decide)) (by rfl) DCh.g DCh.F.kp DCh.b .nil passL (pa_cons (pv 2) (pa_cons (pe_lst (pa_cons pe_int (pa_cons (pe_un un_neg pe_int) (pa_cons pe_int (pa_cons (pe_un un_neg pe_int) pa_nil))))) pa_nil))))
        (pss_cons (ps_if (pt_not (pt_val (pe_call GIs (hr.mono (by decide)) (by rfl) DIs.g DIs.F.kp DIs.b .nil passL (pa_cons (pe_call GR (hr.mono (by decide)) (by rfl) DR.g DR.F.kp DR.b .nil passL (pa_cons (pe_op op_mulW (pe_ix (r := rIxL K) ix_list (pv 3) pe_int (fun _ _ => rfl)) (pv 9)) (pa_cons (pe_op op_mulW (pe_ix (r := rIxL K) ix_list (pv 3) pe_int (fun _ _ => rfl)) (pv 9)) pa_nil))) (pa_cons (pe_ix (r := rIxL K) ix_list (pv 3) pe_int (fun _ _ => rfl)) (pa_cons (pe_ix (r := rIxL K) ix_list (pv 3) pe_int (fun _ _ => rfl)) pa_nil)))))) (pss_one (ps_ret pe_bl)) pss_nil)
        (pss_cons (ps_if (pt_cmpR (op_neD hr.units) (pe_call GR (hr.mono (by decide)) (by rfl) DR.g DR.F.kp bR1 hds passL (pa_cons (pe_ix (r := rIxL K) ix_list (pv 3) pe_int (fun _ _ => rfl)) pa_nil)) (pe_tup (pa_cons (pe_ix (r := rIxL K) ix_list (pv 3) pe_int (fun _ _ => rfl)) (pa_cons pe_int pa_nil))) (nomark _)) (pss_one (ps_ret pe_bl)) pss_nil)
        (pss_cons (ps_set (i := 10) scLaw.nd rfl (.inl rfl) (pe_op op_mulW (pe_ix (r := rIxL K) ix_list (pv 3) pe_int (fun _ _ => rfl)) (pe_ix (r := rIxL K) ix_list (pv 4) pe_int (fun _ _ => rfl))))
        (pss_cons (ps_if (pt_not (pt_val (pe_call GIs (hr.mono (by decide)) (by rfl) DIs.g DIs.F.kp DIs.b .nil passL (pa_cons (pe_call GPl (hr.mono (by decide)) (by rfl) DPl.g DPl.F.kp DPl.b .nil passL (pa_cons (pv 6) (pa_cons (pv 7) pa_nil))) (pa_cons (pe_op op_add (pe_op op_mulW (pe_ix (r := rIxL K) ix_list (pv 3) pe_int (fun _ _ => rfl)) (pe_ix (r := rIxL K) ix_list (pv 4) pe_int (fun _ _ => rfl))) (pe_op op_mulW (pe_ix (r := rIxL K) ix_list (pv 4) pe_int (fun _ _ => rfl)) (pe_ix (r := rIxL K) ix_list (pv 3) pe_int (fun _ _ => rfl)))) (pa_cons (pv 10) pa_nil)))))) (pss_one (ps_ret pe_bl)) pss_nil)
        (pss_cons (ps_if (pt_not (pt_val (pe_call GIs (hr.mono (by decide)) (by rfl) DIs.g DIs.F.kp DIs.b .nil passL (pa_cons (pe_call GMi (hr.mono (by decide)) (by rfl) DMi.g DMi.F.kp DMi.b .nil passL (pa_cons (pv 6) (pa_cons (pv 7) pa_nil))) (pa_cons (pe_op op_sub (pe_op op_mulW (pe_ix (r := rIxL K) ix_list (pv 3) pe_int (fun _ _ => rfl)) (pe_ix (r := rIxL K) ix_list (pv 4) pe_int (fun _ _ => rfl))) (pe_op op_mulW (pe_ix (r := rIxL K) ix_list (pv 4) pe_int (fun _ _ => rfl)) (pe_ix (r := rIxL K) ix_list (pv 3) pe_int (fun _ _ => rfl)))) (pa_cons (pv 10) pa_nil)))))) (pss_one (ps_ret pe_bl)) pss_nil)
        (pss_cons (ps_if (pt_not (pt_val (pe_call GIs (hr.mono (by decide)) (by rfl) DIs.g DIs.F.kp DIs.b .nil passL (pa_cons (pe_call GTi (hr.mono (by decide)) (by rfl) DTi.g DTi.F.kp DTi.b .nil passL (pa_cons (pv 6) (pa_cons (pv 7) pa_nil))) (pa_cons (pe_op op_mulW (pe_ix (r := rIxL K) ix_list (pv 3) pe_int (fun _ _ => rfl)) (pe_ix (r := rIxL K) ix_list (pv 4) pe_int (fun _ _ => rfl))) (pa_cons (pv 10) pa_nil)))))) (pss_one (ps_ret pe_bl)) pss_nil)
        (pss_cons (ps_if (PW.pt (pw_and (pt_cmpR op_ne (pe_ix (r := rIxL K) ix_list (pv 4) pe_int (fun _ _ => rfl)) pe_int (nomark _)) (pw_and1 (pt_cmpR (op_neD hr.units) (pe_call GTi (hr.mono (by decide)) (by rfl) DTi.g DTi.F.kp DTi.b .nil passL (pa_cons (pe_call GDi (hr.mono (by decide)) (by rfl) DDi.g DDi.F.kp DDi.b .nil passL (pa_cons (pv 6) (pa_cons (pv 7) pa_nil))) (pa_cons (pv 7) pa_nil))) (pe_call GPl (hr.mono (by decide)) (by rfl) DPl.g DPl.F.kp DPl.b .nil passL (pa_cons (pv 6) (pa_cons pe_int pa_nil))) (nomark _))))) (pss_one (ps_ret pe_bl)) pss_nil)
        (pss_cons (ps_set (i := 11) scLaw.nd rfl (.inl rfl) (pe_op op_sub (pe_op op_mulW (pe_ix (r := rIxL K) ix_list (pv 3) pe_int (fun _ _ => rfl)) (pe_ix (r := rIxL K) ix_list (pv 4) pe_int (fun _ _ => rfl))) (pe_op op_mulW (pe_ix (r := rIxL K) ix_list (pv 4) pe_int (fun _ _ => rfl)) (pe_ix (r := rIxL K) ix_list (pv 3) pe_int (fun _ _ => rfl)))))
        (pss_cons (ps_if (pt_cmpR op_ne (pe_call GCo (hr.mono (by decide)) (by rfl) DCo.g DCo.F.kp DCo.b .nil passL (pa_cons (pv 6) (pa_cons (pv 7) pa_nil))) (pe_op op_sub (pe_callTy call_int1 (by rfl) mint (by decide +kernel) (pa_cons (pe_cmpR op_gt (pv 11) pe_int (nomark _)) pa_nil)) (pe_callTy call_int1 (by rfl) mint (by decide +kernel) (pa_cons (pe_cmpR op_lt (pv 11) pe_int (nomark _)) pa_nil))) (nomark _)) (pss_one (ps_ret pe_bl)) pss_nil)
        (pss_cons (ps_set (i := 12) scLaw.nd rfl (.inl rfl) (pe_call GFl (hr.mono (by decide)) (by rfl) DFl.g DFl.F.kp DFl.b .nil passL (pa_cons (pv 6) pa_nil)))
        (pss_cons (ps_if (pt_not (pt_chain op_le op_lt (pe_op op_mulW (pv 12) (pe_ix (r := rIxL K) ix_list (pv 3) pe_int (fun _ _ => rfl))) (pe_ix (r := rIxL K) ix_list (pv 3) pe_int (fun _ _ => rfl)) (pe_op op_mulW (pe_op op_add (pv 12) pe_int) (pe_ix (r := rIxL K) ix_list (pv 3) pe_int (fun _ _ => rfl))))) (pss_one (ps_ret pe_bl)) pss_nil)
        (pss_cons (ps_if (pt_val (pe_callB call_isi (by rfl) mi (by decide +kernel) (pa_cons (pv 12) (pa_cons (pe_bltn (v := .ty "tuple") (by rfl) mtu (by decide +kernel) rfl) pa_nil)))) (pss_one (ps_ret pe_bl)) pss_nil)
        (pss_cons (ps_if (pt_cmpR op_gt (pe_ix (r := rIxL K) ix_list (pv 4) pe_int (fun _ _ => rfl)) pe_int (nomark _)) (pss_cons (ps_set (i := 13) scLaw.nd rfl (.inl rfl) (pe_call GRe (hr.mono (by decide)) (by rfl) DRe.g DRe.F.kp DRe.b .nil passL (pa_cons (pv 6) (pa_cons (pv 7) pa_nil))))
        (pss_cons (ps_set (i := 14) scLaw.nd rfl (.inl rfl) (pe_call GDi (hr.mono (by decide)) (by rfl) DDi.g DDi.F.kp DDi.b .nil passL (pa_cons (pe_call GMi (hr.mono (by decide)) (by rfl) DMi.g DMi.F.kp DMi.b .nil passL (pa_cons (pv 6) (pa_cons (pv 13) pa_nil))) (pa_cons (pv 7) pa_nil))))
        (pss_one (ps_if (PW.pt (pw_or (pt_cmpR op_lt (pe_ix (r := rIxT K) ix_tup (pv 13) pe_int (fun _ _ => rfl)) pe_int (nomark _)) (pw_or (pt_cmpR op_ge (pe_call GCo (hr.mono (by decide)) (by rfl) DCo.g DCo.F.kp DCo.b .nil passL (pa_cons (pv 13) (pa_cons (pv 7) pa_nil))) pe_int (nomark _)) (pw_or1 (pt_cmpR op_ne (pe_ix (r := rIxT K) ix_tup (pv 14) pe_int (fun _ _ => rfl)) pe_int (nomark _)))))) (pss_one (ps_ret pe_bl)) pss_nil)))) pss_nil)
        (pss_one (ps_if (pt_not (pt_val (LG.pe_callG GSR g (hr.mono (by decide)) (by rfl) DSR.g DSR.F.kp DSR.b .nil passL (pa_cons (pv 6) (pa_cons (pv 7) (pa_cons (pv 8) pa_nil)))))) (pss_one (ps_ret pe_bl)) pss_nil))))))))))))))))))))
        (pss_one (ps_ret (pe_cmpR (op_eqD hr.units) (pe_call GIn (hr.mono (by decide)) (by rfl) DIn.g DIn.F.kp DIn.b .nil passL (pa_cons (pe_lst pa_nil) pa_nil)) (pe_lst pa_nil) (nomark _))))), ?_⟩
    have big : ∀ {n : Nat}, n ≤ 1000 → n ≤ sizeLine := fun h => Nat.le_of_lt (small1000 h)
    have mm := mm_bound ns.length
    have lm : (ns.map V.int).length = ns.length := List.length_map _
    rw [← lm] at mm
    refine ⟨.ref a0, rfl, a0, _, rfl, .inl hS0, _, 20, rfl, 1, _, rfl, _, rfl, Int.le_trans (by decide) mm.1, Int.lt_of_le_of_lt mm.2 (by decide), for_range (lo := 0) (fun _ σ H1 => (∃ o1 o2 o3 o4 o5 o6 o7 o8 o9 o10 o11 o12 o13 o14 : Option V, σ = [some (.ref a0), o1, o2, o3, o4, o5, o6, o7, o8, o9, o10, o11, o12, o13, o14]) ∧ Same H H1)
      ⟨⟨none, none, none, none, none, none, none, none, none, none, none, none, none, none, rfl⟩, Same.refl _⟩ (fun i σ H1 hi hP => ?_) (fun σ H1 hP => ?_)⟩
    · obtain ⟨⟨o1, o2, o3, o4, o5, o6, o7, o8, o9, o10, o11, o12, o13, o14, rfl⟩, s1⟩ := hP
      have i20 : i ≤ 20 := by
        have h := mm.2
        generalize (if (if (20 : Int) < ((ns.map V.int).length : Int) then (20 : Int) else ((ns.map V.int).length : Int)) > 1 then (if (20 : Int) < ((ns.map V.int).length : Int) then (20 : Int) else ((ns.map V.int).length : Int)) else 1) = m at h hi
        omega
      -- the draws
      refine ⟨.ref a0, rfl, .int (0 + (i : Int)), rfl, a0, ns, i, by rw [Int.zero_add]; rfl, keep _ s1, by omega, fun p H2 s2 np pp => ?_⟩
      refine ⟨.ref p, rfl, p, rfl, pp, fun l1 q1 H3 z1 r1 n1 f1 h1 => ?_⟩
      refine ⟨.ref p, rfl, p, rfl, r1.pool, fun l2 q2 H4 z2 r2 n2 f2 h2 => ?_⟩
      refine ⟨.ref p, rfl, p, rfl, r2.pool, fun l3 q3 H5 z3 r3 n3 f3 h3 => ⟨.ref l1, .ref l2, .ref l3, rfl, ?_⟩⟩
      have g1 : H5 l1 = some (ql q1) := r3.but _ _ n1 (r2.but _ _ n1 h1)
      have g2 : H5 l2 = some (ql q2) := r3.but _ _ n2 h2
      refine ⟨.ref p, rfl, .ref l1, rfl, p, l1, q1, rfl, r3.pool, n1, g1, fun a H6 r4 na => ?_⟩
      refine ⟨.ref p, rfl, .ref l2, rfl, p, l2, q2, rfl, r4.pool, n2, r4.but _ _ n2 g2, fun b H7 r5 nb => ?_⟩
      refine ⟨.ref p, rfl, .ref l3, rfl, p, l3, q3, rfl, r5.pool, n3, r5.but _ _ n3 (r4.but _ _ n3 h3), fun c H8 r6 nc => ⟨a, b, c, rfl, ?_⟩⟩
      refine ⟨.ref p, rfl, 1, rfl, 6, rfl, big (show 4 ≤ 1000 by decide), fun W nW => ?_⟩
      have hW : (upd H8 W (.lst [.int 1, .int (-1), .int 3, .int (-6)])) W = some (.lst [.int 1, .int (-1), .int 3, .int (-6)]) := upd_same
      have pW : PoolAt (upd H8 W (.lst [.int 1, .int (-1), .int 3, .int (-6)])) p := pool_new r6.pool nW
      have wne : W ≠ p := by
        obtain ⟨cc, ss, e, _⟩ := r6.pool
        exact fun z => ne_of_none e nW z.symm
      have sW : Same H8 (upd H8 W (.lst [.int 1, .int (-1), .int 3, .int (-6)])) := same_new nW
      generalize (upd H8 W (.lst [.int 1, .int (-1), .int 3, .int (-6)])) = H9 at hW pW sW ⊢
      refine ⟨p, W, _, rfl, pW, .of hW, by show 0 < 4; decide, by show 4 < 1000; decide, fun H' bb => .of (bb _ _ wne hW), fun x G hx r7 => ?_⟩
      obtain ⟨sg, rfl, sg0, sgb⟩ := signs hx
      -- as it stands behind the draws
      have k1 : G l1 = some (ql q1) := r7.but _ _ n1 (sW _ _ (r6.but _ _ n1 (r5.but _ _ n1 (r4.but _ _ n1 g1))))
      have k2 : G l2 = some (ql q2) := r7.but _ _ n2 (sW _ _ (r6.but _ _ n2 (r5.but _ _ n2 (r4.but _ _ n2 g2))))
      have na : Num K G a q1 := but_num pW r7.but ((but_num r5.pool r6.but (but_num r4.pool r5.but na)).same sW)
      have nb : Num K G b q2 := but_num pW r7.but ((but_num r5.pool r6.but nb).same sW)
      have nc : Num K G c q3 := but_num pW r7.but (nc.same sW)
      have s19 : Same H1 G := drew_out np ((drew_out np (drew_out np (drew_out np (drew_out np (drew_out np (drew_out np s2 r1) r2) r3) r4) r5) r6).trans sW) r7
      have sG : Same H G := s1.trans s19
      clear hW pW wne sW r1 r2 r3 r4 r5 r6 r7 f1 f2 f3 h1 h2 h3 g1 g2 pp np s2 s19 s1 hx
      have d1 := den_pos q1
      have d2 := den_pos q2
      have y1 : Sz 3900 q1 := z1.mono (by decide)
      have y2 : Sz 3900 q2 := z2.mono (by decide)
      have w1 : (q1.den : Int).natAbs < 2 ^ 3900 := by rw [Int.natAbs_natCast]; exact y1.2
      have w2 : (q2.den : Int).natAbs < 2 ^ 3900 := by rw [Int.natAbs_natCast]; exact y2.2
      have dd : ((q1.den : Int) * q2.den).natAbs < 2 ^ 3900 := by
        rw [Int.natAbs_mul, Int.natAbs_natCast, Int.natAbs_natCast]
        exact Nat.lt_of_lt_of_le (mul_lt z1.2 z2.2) (Nat.pow_le_pow_right (by decide) (by decide))
      have ad : (q1.num * q2.den).natAbs < 2 ^ 202 := by
        rw [Int.natAbs_mul, Int.natAbs_natCast]
        exact mul_lt z1.1 z2.2
      have da : (q2.num * q1.den).natAbs < 2 ^ 202 := by
        rw [Int.natAbs_mul, Int.natAbs_natCast]
        exact mul_lt z2.1 z1.2
      have aa : (q1.num * q2.num).natAbs < 2 ^ 3900 := by
        rw [Int.natAbs_mul]
        exact Nat.lt_of_lt_of_le (mul_lt z1.1 z2.1) (Nat.pow_le_pow_right (by decide) (by decide))
      have p203 : 2 ^ 203 ≤ 2 ^ 3900 := Nat.pow_le_pow_right (by decide) (by decide)
      have add' : (q1.num * q2.den + q2.num * q1.den).natAbs < 2 ^ 3900 := Nat.lt_of_lt_of_le (Nat.lt_of_le_of_lt (Int.natAbs_add_le _ _) (add_lt ad da)) p203
      have sub' : (q1.num * q2.den - q2.num * q1.den).natAbs < 2 ^ 3900 := Nat.lt_of_lt_of_le (Nat.lt_of_le_of_lt (by rw [Int.sub_eq_add_neg]; exact Int.natAbs_add_le _ _) (add_lt ad (by rw [Int.natAbs_neg]; exact da))) p203
      have sgb' : sg.natAbs < 2 ^ 3900 := Nat.lt_of_lt_of_le sgb (Nat.pow_le_pow_right (by decide) (by decide))
      -- ratio(one[0] * sign, one[1] * sign)
      refine ⟨.ref l1, rfl, l1, _, 0, _, rfl, rfl, .of k1, atI_nat (j := 0) rfl, _, rfl, _, _, rfl, rfl, wm y1.1 sgb', .ref l1, rfl, l1, _, 1, _, rfl, rfl, .of k1, atI_nat (j := 1) rfl, _, rfl, _, _, rfl, rfl, wm w1 sgb', ?_⟩
      refine ⟨_, _, "int", "int", rfl, .int _, .int _, givesR_ok (Int.mul_ne_zero (by omega) sg0) ?_ ?_ fun v1 G1 t1 e1 => ?_⟩
      · rw [Int.natAbs_mul]
        exact Nat.lt_of_lt_of_le (mul_lt z1.1 sgb) (Nat.pow_le_pow_right (by decide) (by decide))
      · rw [Int.natAbs_mul, Int.natAbs_natCast]
        exact Nat.lt_of_lt_of_le (mul_lt z1.2 sgb) (Nat.pow_le_pow_right (by decide) (by decide))
      rw [scaled sg0] at e1
      refine ⟨.ref l1, rfl, l1, _, 0, _, rfl, rfl, .of (t1 _ _ k1), atI_nat (j := 0) rfl, .ref l1, rfl, l1, _, 1, _, rfl, rfl, .of (t1 _ _ k1), atI_nat (j := 1) rfl, v1, q1, _, _, rfl, e1, y1, y1.1, w1, rfl, _, rfl, ite2 (fun z => absurd z (by decide)) (fun _ => ?_)⟩
      -- ratio(one[0]) != (one[0], 1)
      refine ⟨.ref l1, rfl, l1, _, 0, _, rfl, rfl, .of (t1 _ _ k1), atI_nat (j := 0) rfl, _, _, "int", "int", rfl, .int _, .int _, givesR_ok (by decide) (Nat.lt_of_lt_of_le z1.1 (Nat.pow_le_pow_right (by decide) (by decide))) (Nat.lt_of_lt_of_le (show (1 : Int).natAbs < 2 ^ 1 by decide) (Nat.pow_le_pow_right (by decide) (by decide))) fun v2 G2 t2 e2 => ?_⟩
      rw [show Rat.divInt q1.num 1 = ((q1.num : Int) : Rat) from Rat.num_divInt_den ((q1.num : Int) : Rat)] at e2
      refine ⟨.ref l1, rfl, l1, _, 0, _, rfl, rfl, .of (t2 _ _ (t1 _ _ k1)), atI_nat (j := 0) rfl, big (show 2 ≤ 1000 by decide), fun T nT => ?_⟩
      have sT : Same G2 (upd G2 T (.tup [.int q1.num, .int 1])) := same_new nT
      have hT : (upd G2 T (.tup [.int q1.num, .int 1])) T = some (.tup [.int q1.num, .int 1]) := upd_same
      have s3 : Same G (upd G2 T (.tup [.int q1.num, .int 1])) := (t1.trans t2).trans sT
      have e2 := e2.same sT
      show rNeD K v2 (.ref T) (upd G2 T (.tup [.int q1.num, .int 1])) _
      generalize (upd G2 T (.tup [.int q1.num, .int 1])) = G3 at hT s3 e2 ⊢
      have dT : Dp K G3 (.ref T) (datR ((q1.num : Int) : Rat)) := .tup (.inl (.inl hT)) (.cons (.int _) (.cons (.int _) .nil))
      refine ⟨_, _, e2.dp, dT, shapedR _, shapedR _, _, rfl, ite2 (fun z => absurd z (by rw [eqvR]; decide)) (fun _ => ?_)⟩
      -- bottom
      refine ⟨.ref l1, rfl, l1, _, 1, _, rfl, rfl, .of (s3 _ _ k1), atI_nat (j := 1) rfl, .ref l2, rfl, l2, _, 1, _, rfl, rfl, .of (s3 _ _ k2), atI_nat (j := 1) rfl, _, _, rfl, rfl, wm w1 w2, ?_⟩
      -- plus
      refine ⟨a, rfl, b, rfl, a, b, some q1, some q2, rfl, na.same s3, nb.same s3, ⟨y1, y2⟩, fun v3 G4 t4 e3 => ?_⟩
      have s4 := s3.trans t4
      refine ⟨.ref l1, rfl, l1, _, 0, _, rfl, rfl, .of (s4 _ _ k1), atI_nat (j := 0) rfl, .ref l2, rfl, l2, _, 1, _, rfl, rfl, .of (s4 _ _ k2), atI_nat (j := 1) rfl, _, _, rfl, rfl, wm y1.1 w2, .ref l2, rfl, l2, _, 0, _, rfl, rfl, .of (s4 _ _ k2), atI_nat (j := 0) rfl, .ref l1, rfl, l1, _, 1, _, rfl, rfl, .of (s4 _ _ k1), atI_nat (j := 1) rfl, _, _, rfl, rfl, wm y2.1 w1, _, _, rfl, rfl, _, rfl, ?_⟩
      refine ⟨v3, q1 + q2, _, _, rfl, e3, (z1.add z2).mono (by decide), add', dd, cross (den_ne q1 q2) (add_as q1 q2), _, rfl, ite2 (fun z => absurd z (by decide)) (fun _ => ?_)⟩
      -- minus
      refine ⟨a, rfl, b, rfl, a, b, some q1, some q2, rfl, na.same s4, nb.same s4, ⟨y1, y2⟩, fun v4 G5 t5 e4 => ?_⟩
      have s5 := s4.trans t5
      refine ⟨.ref l1, rfl, l1, _, 0, _, rfl, rfl, .of (s5 _ _ k1), atI_nat (j := 0) rfl, .ref l2, rfl, l2, _, 1, _, rfl, rfl, .of (s5 _ _ k2), atI_nat (j := 1) rfl, _, _, rfl, rfl, wm y1.1 w2, .ref l2, rfl, l2, _, 0, _, rfl, rfl, .of (s5 _ _ k2), atI_nat (j := 0) rfl, .ref l1, rfl, l1, _, 1, _, rfl, rfl, .of (s5 _ _ k1), atI_nat (j := 1) rfl, _, _, rfl, rfl, wm y2.1 w1, _, _, rfl, rfl, _, rfl, ?_⟩
      refine ⟨v4, q1 - q2, _, _, rfl, e4, (z1.sub z2).mono (by decide), sub', dd, cross (den_ne q1 q2) (sub_as q1 q2), _, rfl, ite2 (fun z => absurd z (by decide)) (fun _ => ?_)⟩
      -- times
      refine ⟨a, rfl, b, rfl, a, b, some q1, some q2, rfl, na.same s5, nb.same s5, ⟨y1, y2⟩, fun v5 G6 t6 e5 => ?_⟩
      have s6 := s5.trans t6
      refine ⟨.ref l1, rfl, l1, _, 0, _, rfl, rfl, .of (s6 _ _ k1), atI_nat (j := 0) rfl, .ref l2, rfl, l2, _, 0, _, rfl, rfl, .of (s6 _ _ k2), atI_nat (j := 0) rfl, _, _, rfl, rfl, wm y1.1 y2.1, _, rfl, ?_⟩
      refine ⟨v5, q1 * q2, _, _, rfl, e5, (z1.mul z2).mono (by decide), aa, dd, cross (den_ne q1 q2) (mul_as q1 q2), _, rfl, ite2 (fun z => absurd z (by decide)) (fun _ => ?_)⟩
      -- two[0] != 0 and ..
      apply with_cont (S := Same G)
      · intro cont
        refine ⟨.ref l2, rfl, l2, _, 0, _, rfl, rfl, .of (s6 _ _ k2), atI_nat (j := 0) rfl, rfl, _, rfl, ?_⟩
        by_cases e0 : q2.num = 0
        · exact ite2 (fun z => absurd z (by rw [e0]; decide)) (fun _ => iteF (cont _ s6))
        · refine ite2 (fun _ => ?_) (fun z => absurd (show (!decide (V.int q2.num = V.int 0)) = true by simp [e0]) z)
          have hq2 : q2 ≠ 0 := fun z => e0 (by rw [z]; rfl)
          refine ⟨a, rfl, b, rfl, a, b, some q1, some q2, rfl, na.same s6, nb.same s6, ⟨y1, y2⟩, fun z => absurd z hq2, fun _ v6 G7 t7 e6 => ?_⟩
          have s7 := s6.trans t7
          refine ⟨b, rfl, v6, b, some (q1 / q2), some q2, rfl, e6.num, nb.same s7, ⟨(z1.div z2 hq2).mono (by decide), y2⟩, fun v7 G8 t8 e7 => ?_⟩
          have e7 : Rn K G8 v7 (q1 / q2 * q2) := e7
          rw [Rat.div_mul_cancel hq2] at e7
          have s8 := s7.trans t8
          refine ⟨a, rfl, a, .int 0, some q1, some ((0 : Int) : Rat), rfl, na.same s8, num_int 0, ⟨y1, sz0.mono (by decide)⟩, fun v8 G9 t9 e8 => ?_⟩
          have e8 : Rn K G9 v8 (q1 + ((0 : Int) : Rat)) := e8
          rw [zero_rat] at e8
          exact ⟨_, _, (e7.same t9).dp, e8.dp, shapedR _, shapedR _, _, rfl, ite2 (fun z => absurd z (by rw [eqvR]; decide)) (fun _ => cont _ (s8.trans t9))⟩
      intro G7 s7
      -- apart
      refine ⟨.ref l1, rfl, l1, _, 0, _, rfl, rfl, .of (s7 _ _ k1), atI_nat (j := 0) rfl, .ref l2, rfl, l2, _, 1, _, rfl, rfl, .of (s7 _ _ k2), atI_nat (j := 1) rfl, _, _, rfl, rfl, wm y1.1 w2, .ref l2, rfl, l2, _, 0, _, rfl, rfl, .of (s7 _ _ k2), atI_nat (j := 0) rfl, .ref l1, rfl, l1, _, 1, _, rfl, rfl, .of (s7 _ _ k1), atI_nat (j := 1) rfl, _, _, rfl, rfl, wm y2.1 w1, _, _, rfl, rfl, ?_⟩
      -- compare
      refine ⟨a, rfl, b, rfl, a, b, some q1, some q2, rfl, na.same s7, nb.same s7, ⟨y1, y2⟩, fun G8 t8 => ?_⟩
      have s8 := s7.trans t8
      refine ⟨_, rfl, _, _, rfl, rfl, .inr ⟨_, rfl, _, rfl, _, _, rfl, rfl, .inr ⟨_, rfl, _, _, rfl, rfl, rfl, _, rfl, ite2 (fun z => absurd z ?_) (fun _ => ?_)⟩⟩⟩
      · rw [cmp_cross]
        simp
      -- floor_of
      refine ⟨a, rfl, a, some q1, rfl, na.same s8, ⟨z1.mono (by decide), fun G9 t9 => ?_⟩⟩
      have s9 := s8.trans t9
      have fl := floor_small z1
      have fl' : q1.floor.natAbs < 2 ^ 3900 := Nat.lt_of_lt_of_le fl (Nat.pow_le_pow_right (by decide) (by decide))
      have fl1 : (q1.floor + 1).natAbs < 2 ^ 3900 := by
        have : 2 ^ 102 ≤ 2 ^ 3900 := Nat.pow_le_pow_right (by decide) (by decide)
        refine Nat.lt_of_lt_of_le ?_ this
        have e : 2 ^ 102 = 2 ^ 101 + 2 ^ 101 := by decide
        have e2 : 1 ≤ 2 ^ 101 := by decide
        omega
      refine ⟨.int q1.floor, rfl, .ref l1, rfl, l1, _, 1, _, rfl, rfl, .of (s9 _ _ k1), atI_nat (j := 1) rfl, _, _, rfl, rfl, wm fl' w1, .ref l1, rfl, l1, _, 0, _, rfl, rfl, .of (s9 _ _ k1), atI_nat (j := 0) rfl, _, _, rfl, rfl, _, rfl, ite2 (fun _ => ?_) (fun z => absurd (decide_eq_true (floor_le' q1)) z)⟩
      refine ⟨.int q1.floor, rfl, _, _, rfl, rfl, .ref l1, rfl, l1, _, 1, _, rfl, rfl, .of (s9 _ _ k1), atI_nat (j := 1) rfl, _, _, rfl, rfl, wm fl1 w1, _, _, rfl, rfl, _, rfl, ite2 (fun z => absurd z ?_) (fun _ => ?_)⟩
      · rw [decide_eq_true (lt_floor' q1)]
        decide
      -- isinstance(whole, tuple)
      refine ⟨.int q1.floor, rfl, .int q1.floor, _, _, _, _, rfl, .ty "tuple", (Kd.int (K := K) (H := G9) q1.floor).ty, kd_tuple (.int (K := K) (H := G9) q1.floor), _, rfl, ite2 (fun z => absurd z (by decide)) (fun _ => ?_)⟩
      -- if two[0] > 0
      apply with_cont3 (S := Same G) (l := fun x y => [some (.ref a0), some (.int (0 + (i : Int))), some (.ref p), some (.ref l1), some (.ref l2), some (.ref l3), some a, some b, some c, some (.int sg), some (.int ((q1.den : Int) * q2.den)), some (.int (q1.num * q2.den - q2.num * q1.den)), some (.int q1.floor), x, y])
      · intro cont
        refine ⟨.ref l2, rfl, l2, _, 0, _, rfl, rfl, .of (s9 _ _ k2), atI_nat (j := 0) rfl, _, _, rfl, rfl, _, rfl, ite2 (fun z => ?_) (fun _ => cont o13 o14 _ s9)⟩
        have n2p : 0 < q2.num := of_decide_eq_true z
        have p2 : 0 < q2 := num_pos_iff.mp n2p
        have hq2 : q2 ≠ 0 := fun e => by rw [e] at n2p; exact absurd n2p (by decide)
        have zr : Sz 202 (rem q1 q2) := z1.rem z2 p2
        refine ⟨a, rfl, b, rfl, a, b, some q1, some q2, rfl, na.same s9, nb.same s9, ⟨y1, y2⟩, fun z => absurd p2 (Rat.not_lt.mpr z), fun _ v9 G10 t10 e9 => ?_⟩
        have s10 := s9.trans t10
        obtain ⟨ar, rfl, tr⟩ := id e9
        refine ⟨a, rfl, .ref ar, rfl, a, .ref ar, some q1, some (rem q1 q2), rfl, na.same s10, e9.num, ⟨y1, zr.mono (by decide)⟩, fun v10 G11 t11 e10 => ?_⟩
        have s11 := s10.trans t11
        have zs : Sz 304 (q1 - rem q1 q2) := z1.sub zr
        refine ⟨b, rfl, v10, b, some (q1 - rem q1 q2), some q2, rfl, e10.num, nb.same s11, ⟨zs.mono (by decide), y2⟩, fun z => absurd z hq2, fun _ v11 G12 t12 e11 => ?_⟩
        have e11 : Rn K G12 v11 ((q1 - rem q1 q2) / q2) := e11
        rw [many_int p2] at e11
        have s12 := s11.trans t12
        obtain ⟨am, rfl, tm⟩ := id e11
        have e9' := e9.same (t11.trans t12)
        refine ⟨.ref ar, rfl, ar, _, 0, _, rfl, rfl, same_sqt (t11.trans t12) tr, atI_nat (j := 0) rfl, _, _, rfl, rfl, _, rfl, ite2 (fun z => absurd (num_neg_iff.mp (of_decide_eq_true z)) (Rat.not_lt.mpr (rem_nonneg p2))) (fun _ => ?_)⟩
        refine ⟨.ref ar, rfl, b, rfl, .ref ar, b, some (rem q1 q2), some q2, rfl, e9'.num, nb.same s12, ⟨zr.mono (by decide), y2⟩, fun G13 t13 => ?_⟩
        have ec : cmpR (rem q1 q2) q2 = -1 := if_pos (rem_lt p2)
        refine ⟨_, _, rfl, rfl, _, rfl, ite2 (fun z => absurd z (by rw [ec]; decide)) (fun _ => ?_)⟩
        refine ⟨.ref am, rfl, am, _, 1, _, rfl, rfl, same_sqt t13 tm, atI_nat (j := 1) rfl, rfl, _, rfl, ite2 (fun z => absurd z (by show ¬ (!decide (V.int ((1 : Nat) : Int) = V.int 1)) = true; decide)) (fun _ => cont (some (.ref ar)) (some (.ref am)) _ (s12.trans t13))⟩
      intro x13 x14 H10 s10
      -- _law_sorted_right
      refine ⟨a, rfl, b, rfl, c, rfl, a, b, c, q1, q2, q3, rfl, ⟨na.same s10, nb.same s10, nc.same s10⟩, ⟨z1.mono (by decide), z2.mono (by decide), z3.mono (by decide)⟩, fun G14 t14 => ⟨_, rfl, ite2 (fun z => absurd z (by decide)) (fun _ => ?_)⟩⟩
      exact ⟨⟨_, _, _, _, _, _, _, _, _, _, _, _, _, _, rfl⟩, sG.trans (s10.trans t14)⟩
    · obtain ⟨⟨o1, o2, o3, o4, o5, o6, o7, o8, o9, o10, o11, o12, o13, o14, rfl⟩, s1⟩ := hP
      refine ⟨big (show 0 ≤ 1000 by decide), fun U nU => ?_⟩
      have hU : (upd H1 U (.lst [])) U = some (.lst []) := upd_same
      have sU : Same H1 (upd H1 U (.lst [])) := same_new nU
      generalize (upd H1 U (.lst [])) = H2 at hU sU ⊢
      refine ⟨.ref U, rfl, .inl ⟨U, [], rfl, ⟨[], .of hU, .nil⟩, by show 0 ≤ 8; decide, (fun _ h => by cases h), fun rs v3 H3 ord s3 r3 => ?_⟩⟩
      obtain ⟨R, rows, rfl, hR, hA⟩ := r3
      have rs0 : rs = [] := List.eq_nil_iff_forall_not_mem.mpr fun r hr => by
        have := (ord.2 r).mp hr
        cases this
      subst rs0
      have rows0 : rows = [] := List.eq_nil_of_length_eq_zero hA.len
      subst rows0
      refine ⟨big (show 0 ≤ 1000 by decide), fun M nM => ?_⟩
      have sM : Same H3 (upd H3 M (.lst [])) := same_new nM
      have hM : (upd H3 M (.lst [])) M = some (.lst []) := upd_same
      show rEqD K (.ref R) (.ref M) (upd H3 M (.lst [])) _
      generalize (upd H3 M (.lst [])) = H4 at sM hM ⊢
      exact ⟨.list [], .list [], .lst (.of (sM _ _ hR)) .nil, .lst (.of hM) .nil, by decide, by decide, q _ (((s1.trans sU).trans s3).trans sM)⟩
end
end LR
set_option Elab.async false
set_option linter.all false
set_option maxRecDepth 100000
set_option maxHeartbeats 8000000
namespace LR
open PySem PySem.Spec PyProof.Rows L2
theorem all_mk {P : Program} {w : World} {K : PySem.W.Frag} {mg : Str → Option Value} {h : Heap} {fa : Addr} {fII : Addr} {ocII : Value} {odII anII : Option Addr} {slII : Array (Option Value)} {kVII dcII pmII cdII ctII : Value}
    {fIR : Addr} {ocIR : Value} {odIR anIR : Option Addr} {slIR : Array (Option Value)} {kVIR dcIR pmIR cdIR ctIR : Value}
    {fAR : Addr} {ocAR : Value} {odAR anAR : Option Addr} {slAR : Array (Option Value)} {kVAR dcAR pmAR cdAR ctAR : Value}
    {fRd : Addr} {ocRd : Value} {odRd anRd : Option Addr} {slRd : Array (Option Value)} {kVRd dcRd pmRd cdRd ctRd : Value}
    {fPl : Addr} {ocPl : Value} {odPl anPl : Option Addr} {slPl : Array (Option Value)} {kVPl dcPl pmPl cdPl ctPl : Value}
    {fMi : Addr} {ocMi : Value} {odMi anMi : Option Addr} {slMi : Array (Option Value)} {kVMi dcMi pmMi cdMi ctMi : Value}
    {fTi : Addr} {ocTi : Value} {odTi anTi : Option Addr} {slTi : Array (Option Value)} {kVTi dcTi pmTi cdTi ctTi : Value}
    {fDi : Addr} {ocDi : Value} {odDi anDi : Option Addr} {slDi : Array (Option Value)} {kVDi dcDi pmDi cdDi ctDi : Value}
    {fCo : Addr} {ocCo : Value} {odCo anCo : Option Addr} {slCo : Array (Option Value)} {kVCo dcCo pmCo cdCo ctCo : Value}
    {fFl : Addr} {ocFl : Value} {odFl anFl : Option Addr} {slFl : Array (Option Value)} {kVFl dcFl pmFl cdFl ctFl : Value}
    {fRe : Addr} {ocRe : Value} {odRe anRe : Option Addr} {slRe : Array (Option Value)} {kVRe dcRe pmRe cdRe ctRe : Value}
    {fIn : Addr} {ocIn : Value} {odIn anIn : Option Addr} {slIn : Array (Option Value)} {kVIn dcIn pmIn cdIn ctIn : Value}
    {fAs : Addr} {ocAs : Value} {odAs anAs : Option Addr} {slAs : Array (Option Value)} {kVAs dcAs pmAs cdAs ctAs : Value}
    {fIs2 : Addr} {ocIs2 : Value} {odIs2 anIs2 : Option Addr} {slIs2 : Array (Option Value)} {kVIs2 dcIs2 pmIs2 cdIs2 ctIs2 : Value}
    {fRk : Addr} {ocRk : Value} {odRk anRk : Option Addr} {slRk : Array (Option Value)} {kVRk dcRk pmRk cdRk ctRk : Value}
    {fPo : Addr} {ocPo : Value} {odPo anPo : Option Addr} {slPo : Array (Option Value)} {kVPo dcPo pmPo cdPo ctPo : Value}
    {fDr : Addr} {ocDr : Value} {odDr anDr : Option Addr} {slDr : Array (Option Value)} {kVDr dcDr pmDr cdDr ctDr : Value}
    {fCh : Addr} {ocCh : Value} {odCh anCh : Option Addr} {slCh : Array (Option Value)} {kVCh dcCh pmCh cdCh ctCh : Value}
    {fDv : Addr} {ocDv : Value} {odDv anDv : Option Addr} {slDv : Array (Option Value)} {kVDv dcDv pmDv cdDv ctDv : Value}
    {fIt : Addr} {ocIt : Value} {odIt anIt : Option Addr} {slIt : Array (Option Value)} {kVIt dcIt pmIt cdIt ctIt : Value}
    {fPa : Addr} {ocPa : Value} {odPa anPa : Option Addr} {slPa : Array (Option Value)} {kVPa dcPa pmPa cdPa ctPa : Value}
    {fVa : Addr} {ocVa : Value} {odVa anVa : Option Addr} {slVa : Array (Option Value)} {kVVa dcVa pmVa cdVa ctVa : Value}
    {fIs : Addr} {ocIs : Value} {odIs anIs : Option Addr} {slIs : Array (Option Value)} {kVIs dcIs pmIs cdIs ctIs : Value}
    {fSR : Addr} {ocSR : Value} {odSR anSR : Option Addr} {slSR : Array (Option Value)} {kVSR dcSR pmSR cdSR ctSR : Value}
    {fL : Addr} {ocL : Value} {odL anL : Option Addr} {slL : Array (Option Value)} {kVL dcL pmL cdL ctL : Value}
    {fR TR : Addr} {ocR ocT : Value} {odR anR odT : Option Addr} {slR slT : Array (Option Value)} {kVR dcR pmR cdR ctR : Value} {tR t8 : Tok} {nT : Nat}
    {CE1 : Addr}
    {CE2 : Addr}
    (X : K.In h) (G : h.Ns mainGlobals mg) (hfa : mg "law" = some (.ref fa))
    (aII : PySem.W.nsIn K mainGlobals "is_integer" = some (some (.ref fII))) (lII : K.lookup fII = some ⟨ocII, odII, .func (PySem.W.fnOf "is_integer" "is_integer" (defArgs (topS 6)) (defBody (topS 6)) (defScope (topS 6)) .none kVII dcII pmII anII cdII ctII), slII⟩) (cII : PySem.W.codeIn K cdII "is_integer" = true) (kII : PySem.W.keepIn K (.ref fII) = true)
    (aIR : PySem.W.nsIn K mainGlobals "is_ratio" = some (some (.ref fIR))) (lIR : K.lookup fIR = some ⟨ocIR, odIR, .func (PySem.W.fnOf "is_ratio" "is_ratio" (defArgs (topS 7)) (defBody (topS 7)) (defScope (topS 7)) .none kVIR dcIR pmIR anIR cdIR ctIR), slIR⟩) (cIR : PySem.W.codeIn K cdIR "is_ratio" = true) (kIR : PySem.W.keepIn K (.ref fIR) = true)
    (aAR : PySem.W.nsIn K mainGlobals "as_ratio" = some (some (.ref fAR))) (lAR : K.lookup fAR = some ⟨ocAR, odAR, .func (PySem.W.fnOf "as_ratio" "as_ratio" (defArgs (topS 8)) (defBody (topS 8)) (defScope (topS 8)) .none kVAR dcAR pmAR anAR cdAR ctAR), slAR⟩) (cAR : PySem.W.codeIn K cdAR "as_ratio" = true) (kAR : PySem.W.keepIn K (.ref fAR) = true)
    (aRd : PySem.W.nsIn K mainGlobals "reduced" = some (some (.ref fRd))) (lRd : K.lookup fRd = some ⟨ocRd, odRd, .func (PySem.W.fnOf "reduced" "reduced" (defArgs (topS 9)) (defBody (topS 9)) (defScope (topS 9)) .none kVRd dcRd pmRd anRd cdRd ctRd), slRd⟩) (cRd : PySem.W.codeIn K cdRd "reduced" = true) (kRd : PySem.W.keepIn K (.ref fRd) = true)
    (aPl : PySem.W.nsIn K mainGlobals "plus" = some (some (.ref fPl))) (lPl : K.lookup fPl = some ⟨ocPl, odPl, .func (PySem.W.fnOf "plus" "plus" (defArgs (topS 11)) (defBody (topS 11)) (defScope (topS 11)) .none kVPl dcPl pmPl anPl cdPl ctPl), slPl⟩) (cPl : PySem.W.codeIn K cdPl "plus" = true) (kPl : PySem.W.keepIn K (.ref fPl) = true)
    (aMi : PySem.W.nsIn K mainGlobals "minus" = some (some (.ref fMi))) (lMi : K.lookup fMi = some ⟨ocMi, odMi, .func (PySem.W.fnOf "minus" "minus" (defArgs (topS 12)) (defBody (topS 12)) (defScope (topS 12)) .none kVMi dcMi pmMi anMi cdMi ctMi), slMi⟩) (cMi : PySem.W.codeIn K cdMi "minus" = true) (kMi : PySem.W.keepIn K (.ref fMi) = true)
    (aTi : PySem.W.nsIn K mainGlobals "times" = some (some (.ref fTi))) (lTi : K.lookup fTi = some ⟨ocTi, odTi, .func (PySem.W.fnOf "times" "times" (defArgs (topS 13)) (defBody (topS 13)) (defScope (topS 13)) .none kVTi dcTi pmTi anTi cdTi ctTi), slTi⟩) (cTi : PySem.W.codeIn K cdTi "times" = true) (kTi : PySem.W.keepIn K (.ref fTi) = true)
    (aDi : PySem.W.nsIn K mainGlobals "divided" = some (some (.ref fDi))) (lDi : K.lookup fDi = some ⟨ocDi, odDi, .func (PySem.W.fnOf "divided" "divided" (defArgs (topS 14)) (defBody (topS 14)) (defScope (topS 14)) .none kVDi dcDi pmDi anDi cdDi ctDi), slDi⟩) (cDi : PySem.W.codeIn K cdDi "divided" = true) (kDi : PySem.W.keepIn K (.ref fDi) = true)
    (aCo : PySem.W.nsIn K mainGlobals "compare" = some (some (.ref fCo))) (lCo : K.lookup fCo = some ⟨ocCo, odCo, .func (PySem.W.fnOf "compare" "compare" (defArgs (topS 15)) (defBody (topS 15)) (defScope (topS 15)) .none kVCo dcCo pmCo anCo cdCo ctCo), slCo⟩) (cCo : PySem.W.codeIn K cdCo "compare" = true) (kCo : PySem.W.keepIn K (.ref fCo) = true)
    (aFl : PySem.W.nsIn K mainGlobals "floor_of" = some (some (.ref fFl))) (lFl : K.lookup fFl = some ⟨ocFl, odFl, .func (PySem.W.fnOf "floor_of" "floor_of" (defArgs (topS 16)) (defBody (topS 16)) (defScope (topS 16)) .none kVFl dcFl pmFl anFl cdFl ctFl), slFl⟩) (cFl : PySem.W.codeIn K cdFl "floor_of" = true) (kFl : PySem.W.keepIn K (.ref fFl) = true)
    (aRe : PySem.W.nsIn K mainGlobals "remainder" = some (some (.ref fRe))) (lRe : K.lookup fRe = some ⟨ocRe, odRe, .func (PySem.W.fnOf "remainder" "remainder" (defArgs (topS 17)) (defBody (topS 17)) (defScope (topS 17)) .none kVRe dcRe pmRe anRe cdRe ctRe), slRe⟩) (cRe : PySem.W.codeIn K cdRe "remainder" = true) (kRe : PySem.W.keepIn K (.ref fRe) = true)
    (aIn : PySem.W.nsIn K mainGlobals "in_order" = some (some (.ref fIn))) (lIn : K.lookup fIn = some ⟨ocIn, odIn, .func (PySem.W.fnOf "in_order" "in_order" (defArgs (topS 18)) (defBody (topS 18)) (defScope (topS 18)) .none kVIn dcIn pmIn anIn cdIn ctIn), slIn⟩) (cIn : PySem.W.codeIn K cdIn "in_order" = true) (kIn : PySem.W.keepIn K (.ref fIn) = true)
    (aAs : PySem.W.nsIn K mainGlobals "ascending" = some (some (.ref fAs))) (lAs : K.lookup fAs = some ⟨ocAs, odAs, .func (PySem.W.fnOf "ascending" "ascending" (defArgs (topS 19)) (defBody (topS 19)) (defScope (topS 19)) .none kVAs dcAs pmAs anAs cdAs ctAs), slAs⟩) (cAs : PySem.W.codeIn K cdAs "ascending" = true) (kAs : PySem.W.keepIn K (.ref fAs) = true)
    (aIs2 : PySem.W.nsIn K mainGlobals "_inserted" = some (some (.ref fIs2))) (lIs2 : K.lookup fIs2 = some ⟨ocIs2, odIs2, .func (PySem.W.fnOf "_inserted" "_inserted" (defArgs (topS 20)) (defBody (topS 20)) (defScope (topS 20)) .none kVIs2 dcIs2 pmIs2 anIs2 cdIs2 ctIs2), slIs2⟩) (cIs2 : PySem.W.codeIn K cdIs2 "_inserted" = true) (kIs2 : PySem.W.keepIn K (.ref fIs2) = true)
    (aRk : PySem.W.nsIn K mainGlobals "_ranked" = some (some (.ref fRk))) (lRk : K.lookup fRk = some ⟨ocRk, odRk, .func (PySem.W.fnOf "_ranked" "_ranked" (defArgs (topS 21)) (defBody (topS 21)) (defScope (topS 21)) .none kVRk dcRk pmRk anRk cdRk ctRk), slRk⟩) (cRk : PySem.W.codeIn K cdRk "_ranked" = true) (kRk : PySem.W.keepIn K (.ref fRk) = true)
    (aPo : PySem.W.nsIn K mainGlobals "_law_pool" = some (some (.ref fPo))) (lPo : K.lookup fPo = some ⟨ocPo, odPo, .func (PySem.W.fnOf "_law_pool" "_law_pool" (defArgs (topS 23)) (defBody (topS 23)) (defScope (topS 23)) .none kVPo dcPo pmPo anPo cdPo ctPo), slPo⟩) (cPo : PySem.W.codeIn K cdPo "_law_pool" = true) (kPo : PySem.W.keepIn K (.ref fPo) = true)
    (aDr : PySem.W.nsIn K mainGlobals "_law_draw" = some (some (.ref fDr))) (lDr : K.lookup fDr = some ⟨ocDr, odDr, .func (PySem.W.fnOf "_law_draw" "_law_draw" (defArgs (topS 24)) (defBody (topS 24)) (defScope (topS 24)) .none kVDr dcDr pmDr anDr cdDr ctDr), slDr⟩) (cDr : PySem.W.codeIn K cdDr "_law_draw" = true) (kDr : PySem.W.keepIn K (.ref fDr) = true)
    (aCh : PySem.W.nsIn K mainGlobals "_law_choose" = some (some (.ref fCh))) (lCh : K.lookup fCh = some ⟨ocCh, odCh, .func (PySem.W.fnOf "_law_choose" "_law_choose" (defArgs (topS 25)) (defBody (topS 25)) (defScope (topS 25)) .none kVCh dcCh pmCh anCh cdCh ctCh), slCh⟩) (cCh : PySem.W.codeIn K cdCh "_law_choose" = true) (kCh : PySem.W.keepIn K (.ref fCh) = true)
    (aDv : PySem.W.nsIn K mainGlobals "_law_divisor" = some (some (.ref fDv))) (lDv : K.lookup fDv = some ⟨ocDv, odDv, .func (PySem.W.fnOf "_law_divisor" "_law_divisor" (defArgs (topS 26)) (defBody (topS 26)) (defScope (topS 26)) .none kVDv dcDv pmDv anDv cdDv ctDv), slDv⟩) (cDv : PySem.W.codeIn K cdDv "_law_divisor" = true) (kDv : PySem.W.keepIn K (.ref fDv) = true)
    (aIt : PySem.W.nsIn K mainGlobals "_law_integer" = some (some (.ref fIt))) (lIt : K.lookup fIt = some ⟨ocIt, odIt, .func (PySem.W.fnOf "_law_integer" "_law_integer" (defArgs (topS 27)) (defBody (topS 27)) (defScope (topS 27)) .none kVIt dcIt pmIt anIt cdIt ctIt), slIt⟩) (cIt : PySem.W.codeIn K cdIt "_law_integer" = true) (kIt : PySem.W.keepIn K (.ref fIt) = true)
    (aPa : PySem.W.nsIn K mainGlobals "_law_pair" = some (some (.ref fPa))) (lPa : K.lookup fPa = some ⟨ocPa, odPa, .func (PySem.W.fnOf "_law_pair" "_law_pair" (defArgs (topS 28)) (defBody (topS 28)) (defScope (topS 28)) .none kVPa dcPa pmPa anPa cdPa ctPa), slPa⟩) (cPa : PySem.W.codeIn K cdPa "_law_pair" = true) (kPa : PySem.W.keepIn K (.ref fPa) = true)
    (aVa : PySem.W.nsIn K mainGlobals "_law_value" = some (some (.ref fVa))) (lVa : K.lookup fVa = some ⟨ocVa, odVa, .func (PySem.W.fnOf "_law_value" "_law_value" (defArgs (topS 29)) (defBody (topS 29)) (defScope (topS 29)) .none kVVa dcVa pmVa anVa cdVa ctVa), slVa⟩) (cVa : PySem.W.codeIn K cdVa "_law_value" = true) (kVa : PySem.W.keepIn K (.ref fVa) = true)
    (aIs : PySem.W.nsIn K mainGlobals "_law_is" = some (some (.ref fIs))) (lIs : K.lookup fIs = some ⟨ocIs, odIs, .func (PySem.W.fnOf "_law_is" "_law_is" (defArgs (topS 30)) (defBody (topS 30)) (defScope (topS 30)) .none kVIs dcIs pmIs anIs cdIs ctIs), slIs⟩) (cIs : PySem.W.codeIn K cdIs "_law_is" = true) (kIs : PySem.W.keepIn K (.ref fIs) = true)
    (aSR : PySem.W.nsIn K mainGlobals "_law_sorted_right" = some (some (.ref fSR))) (lSR : K.lookup fSR = some ⟨ocSR, odSR, .func (PySem.W.fnOf "_law_sorted_right" "_law_sorted_right" (defArgs (topS 31)) (defBody (topS 31)) (defScope (topS 31)) .none kVSR dcSR pmSR anSR cdSR ctSR), slSR⟩) (cSR : PySem.W.codeIn K cdSR "_law_sorted_right" = true) (kSR : PySem.W.keepIn K (.ref fSR) = true)
    (aL : PySem.W.nsIn K mainGlobals "law" = some (some (.ref fL))) (lL : K.lookup fL = some ⟨ocL, odL, .func (PySem.W.fnOf "law" "law" (defArgs (topS 32)) (defBody (topS 32)) (defScope (topS 32)) .none kVL dcL pmL anL cdL ctL), slL⟩) (cL : PySem.W.codeIn K cdL "law" = true) (kL : PySem.W.keepIn K (.ref fL) = true)
    (aR : PySem.W.nsIn K mainGlobals "ratio" = some (some (.ref fR))) (lR : K.lookup fR = some ⟨ocR, odR, .func (PySem.W.fnOf "ratio" "ratio" (defArgs (topS 10)) (defBody (topS 10)) (defScope (topS 10)) (.ref TR) kVR dcR pmR anR cdR ctR), slR⟩) (cR : PySem.W.codeIn K cdR "ratio" = true) (kR : PySem.W.keepIn K (.ref fR) = true) (lT : K.lookup TR = some ⟨ocT, odT, .seq #[.int 1 tR] nT, slT⟩)
    (few : PySem.W.nsIn K mainGlobals "FEW" = some (some (.int 8 t8)))
    (gE1 : PySem.W.nsIn K mainGlobals "InvalidNumber" = some (some (.ref CE1))) (kE1 : PySem.W.keepIn K (.ref CE1) = true) (qE1 : PySem.W.excIn K CE1 BMv "ValueError.__new__" = true) (bE1 : PySem.W.subIn K (.ref CE1) (.type "BaseException") = some true) (tE1 : PySem.W.typeIn K (.ref CE1) = some (.type "type"))
    (gE2 : PySem.W.nsIn K mainGlobals "DivisionByZero" = some (some (.ref CE2))) (kE2 : PySem.W.keepIn K (.ref CE2) = true) (qE2 : PySem.W.excIn K CE2 BMa "ArithmeticError.__new__" = true) (bE2 : PySem.W.subIn K (.ref CE2) (.type "BaseException") = some true) (tE2 : PySem.W.typeIn K (.ref CE2) = some (.type "type"))
    (gcd : PySem.W.nsIn K mainGlobals "gcd" = some (some (.builtin "math.gcd")))
    (n_isinstance : PySem.W.nsIn K mainGlobals "isinstance" = some none)
    (n_int : PySem.W.nsIn K mainGlobals "int" = some none)
    (n_bool : PySem.W.nsIn K mainGlobals "bool" = some none)
    (n_tuple : PySem.W.nsIn K mainGlobals "tuple" = some none)
    (n_list : PySem.W.nsIn K mainGlobals "list" = some none)
    (n_len : PySem.W.nsIn K mainGlobals "len" = some none)
    (n_type : PySem.W.nsIn K mainGlobals "type" = some none)
    (n_max : PySem.W.nsIn K mainGlobals "max" = some none)
    (n_min : PySem.W.nsIn K mainGlobals "min" = some none)
    (n_sorted : PySem.W.nsIn K mainGlobals "sorted" = some none)
    (n_abs : PySem.W.nsIn K mainGlobals "abs" = some none)
    (n_repr : PySem.W.nsIn K mainGlobals "repr" = some none)
    (n_range : PySem.W.nsIn K mainGlobals "range" = some none)
    (n_set : PySem.W.nsIn K mainGlobals "set" = some none) :
    ∃ fd : FuncData, (∀ (s : Shared) (u : Value), BindsTo s fd ⟨[u], []⟩ [("script", u)]) ∧ ∀ base : Heap, K.In base → base.Ns mainGlobals mg → LG.FnG P w K mg base (CXl P w) 6 fa fd ["script"] (spLaw K) := by
  have e := hfa.symm.trans (PySem.W.mg_of X G aL)
  cases e
  have FII := fun_mk (st := topS 6) lII cII kII
  have DII : DefAt K mg "is_integer" (topS 6) ["value"] _ _ := ⟨FII, PySem.W.mg_of X G aII, FII.binds (ps := ["value"]) fun _ _ _ _ _ _ us hl => match us, hl with | [_], _ => rfl⟩
  have FIR := fun_mk (st := topS 7) lIR cIR kIR
  have DIR : DefAt K mg "is_ratio" (topS 7) ["value"] _ _ := ⟨FIR, PySem.W.mg_of X G aIR, FIR.binds (ps := ["value"]) fun _ _ _ _ _ _ us hl => match us, hl with | [_], _ => rfl⟩
  have FAR := fun_mk (st := topS 8) lAR cAR kAR
  have DAR : DefAt K mg "as_ratio" (topS 8) ["value"] _ _ := ⟨FAR, PySem.W.mg_of X G aAR, FAR.binds (ps := ["value"]) fun _ _ _ _ _ _ us hl => match us, hl with | [_], _ => rfl⟩
  have FRd := fun_mk (st := topS 9) lRd cRd kRd
  have DRd : DefAt K mg "reduced" (topS 9) ["top", "bottom"] _ _ := ⟨FRd, PySem.W.mg_of X G aRd, FRd.binds (ps := ["top", "bottom"]) fun _ _ _ _ _ _ us hl => match us, hl with | [_, _], _ => rfl⟩
  have FPl := fun_mk (st := topS 11) lPl cPl kPl
  have DPl : DefAt K mg "plus" (topS 11) ["first", "second"] _ _ := ⟨FPl, PySem.W.mg_of X G aPl, FPl.binds (ps := ["first", "second"]) fun _ _ _ _ _ _ us hl => match us, hl with | [_, _], _ => rfl⟩
  have FMi := fun_mk (st := topS 12) lMi cMi kMi
  have DMi : DefAt K mg "minus" (topS 12) ["first", "second"] _ _ := ⟨FMi, PySem.W.mg_of X G aMi, FMi.binds (ps := ["first", "second"]) fun _ _ _ _ _ _ us hl => match us, hl with | [_, _], _ => rfl⟩
  have FTi := fun_mk (st := topS 13) lTi cTi kTi
  have DTi : DefAt K mg "times" (topS 13) ["first", "second"] _ _ := ⟨FTi, PySem.W.mg_of X G aTi, FTi.binds (ps := ["first", "second"]) fun _ _ _ _ _ _ us hl => match us, hl with | [_, _], _ => rfl⟩
  have FDi := fun_mk (st := topS 14) lDi cDi kDi
  have DDi : DefAt K mg "divided" (topS 14) ["first", "second"] _ _ := ⟨FDi, PySem.W.mg_of X G aDi, FDi.binds (ps := ["first", "second"]) fun _ _ _ _ _ _ us hl => match us, hl with | [_, _], _ => rfl⟩
  have FCo := fun_mk (st := topS 15) lCo cCo kCo
  have DCo : DefAt K mg "compare" (topS 15) ["first", "second"] _ _ := ⟨FCo, PySem.W.mg_of X G aCo, FCo.binds (ps := ["first", "second"]) fun _ _ _ _ _ _ us hl => match us, hl with | [_, _], _ => rfl⟩
  have FFl := fun_mk (st := topS 16) lFl cFl kFl
  have DFl : DefAt K mg "floor_of" (topS 16) ["value"] _ _ := ⟨FFl, PySem.W.mg_of X G aFl, FFl.binds (ps := ["value"]) fun _ _ _ _ _ _ us hl => match us, hl with | [_], _ => rfl⟩
  have FRe := fun_mk (st := topS 17) lRe cRe kRe
  have DRe : DefAt K mg "remainder" (topS 17) ["value", "modulus"] _ _ := ⟨FRe, PySem.W.mg_of X G aRe, FRe.binds (ps := ["value", "modulus"]) fun _ _ _ _ _ _ us hl => match us, hl with | [_, _], _ => rfl⟩
  have FIn := fun_mk (st := topS 18) lIn cIn kIn
  have DIn : DefAt K mg "in_order" (topS 18) ["values"] _ _ := ⟨FIn, PySem.W.mg_of X G aIn, FIn.binds (ps := ["values"]) fun _ _ _ _ _ _ us hl => match us, hl with | [_], _ => rfl⟩
  have FAs := fun_mk (st := topS 19) lAs cAs kAs
  have DAs : DefAt K mg "ascending" (topS 19) ["rows"] _ _ := ⟨FAs, PySem.W.mg_of X G aAs, FAs.binds (ps := ["rows"]) fun _ _ _ _ _ _ us hl => match us, hl with | [_], _ => rfl⟩
  have FIs2 := fun_mk (st := topS 20) lIs2 cIs2 kIs2
  have DIs2 : DefAt K mg "_inserted" (topS 20) ["rows"] _ _ := ⟨FIs2, PySem.W.mg_of X G aIs2, FIs2.binds (ps := ["rows"]) fun _ _ _ _ _ _ us hl => match us, hl with | [_], _ => rfl⟩
  have FRk := fun_mk (st := topS 21) lRk cRk kRk
  have DRk : DefAt K mg "_ranked" (topS 21) ["rows"] _ _ := ⟨FRk, PySem.W.mg_of X G aRk, FRk.binds (ps := ["rows"]) fun _ _ _ _ _ _ us hl => match us, hl with | [_], _ => rfl⟩
  have FPo := fun_mk (st := topS 23) lPo cPo kPo
  have DPo : DefAt K mg "_law_pool" (topS 23) ["script", "k"] _ _ := ⟨FPo, PySem.W.mg_of X G aPo, FPo.binds (ps := ["script", "k"]) fun _ _ _ _ _ _ us hl => match us, hl with | [_, _], _ => rfl⟩
  have FDr := fun_mk (st := topS 24) lDr cDr kDr
  have DDr : DefAt K mg "_law_draw" (topS 24) ["pool", "many"] _ _ := ⟨FDr, PySem.W.mg_of X G aDr, FDr.binds (ps := ["pool", "many"]) fun _ _ _ _ _ _ us hl => match us, hl with | [_, _], _ => rfl⟩
  have FCh := fun_mk (st := topS 25) lCh cCh kCh
  have DCh : DefAt K mg "_law_choose" (topS 25) ["pool", "items"] _ _ := ⟨FCh, PySem.W.mg_of X G aCh, FCh.binds (ps := ["pool", "items"]) fun _ _ _ _ _ _ us hl => match us, hl with | [_, _], _ => rfl⟩
  have FDv := fun_mk (st := topS 26) lDv cDv kDv
  have DDv : DefAt K mg "_law_divisor" (topS 26) ["one", "two"] _ _ := ⟨FDv, PySem.W.mg_of X G aDv, FDv.binds (ps := ["one", "two"]) fun _ _ _ _ _ _ us hl => match us, hl with | [_, _], _ => rfl⟩
  have FIt := fun_mk (st := topS 27) lIt cIt kIt
  have DIt : DefAt K mg "_law_integer" (topS 27) ["pool"] _ _ := ⟨FIt, PySem.W.mg_of X G aIt, FIt.binds (ps := ["pool"]) fun _ _ _ _ _ _ us hl => match us, hl with | [_], _ => rfl⟩
  have FPa := fun_mk (st := topS 28) lPa cPa kPa
  have DPa : DefAt K mg "_law_pair" (topS 28) ["pool"] _ _ := ⟨FPa, PySem.W.mg_of X G aPa, FPa.binds (ps := ["pool"]) fun _ _ _ _ _ _ us hl => match us, hl with | [_], _ => rfl⟩
  have FVa := fun_mk (st := topS 29) lVa cVa kVa
  have DVa : DefAt K mg "_law_value" (topS 29) ["pool", "pair"] _ _ := ⟨FVa, PySem.W.mg_of X G aVa, FVa.binds (ps := ["pool", "pair"]) fun _ _ _ _ _ _ us hl => match us, hl with | [_, _], _ => rfl⟩
  have FIs := fun_mk (st := topS 30) lIs cIs kIs
  have DIs : DefAt K mg "_law_is" (topS 30) ["found", "top", "bottom"] _ _ := ⟨FIs, PySem.W.mg_of X G aIs, FIs.binds (ps := ["found", "top", "bottom"]) fun _ _ _ _ _ _ us hl => match us, hl with | [_, _, _], _ => rfl⟩
  have FSR := fun_mk (st := topS 31) lSR cSR kSR
  have DSR : DefAt K mg "_law_sorted_right" (topS 31) ["a", "b", "c"] _ _ := ⟨FSR, PySem.W.mg_of X G aSR, FSR.binds (ps := ["a", "b", "c"]) fun _ _ _ _ _ _ us hl => match us, hl with | [_, _, _], _ => rfl⟩
  have FL := fun_mk (st := topS 32) lL cL kL
  have DL : DefAt K mg "law" (topS 32) ["script"] _ _ := ⟨FL, PySem.W.mg_of X G aL, FL.binds (ps := ["script"]) fun _ _ _ _ _ _ us hl => match us, hl with | [_], _ => rfl⟩
  have FR : FunD K "ratio" "ratio" (defArgs (topS 10)) (defBody (topS 10)) (defScope (topS 10)) [.int 1] [] fR _ := ⟨⟨_, _, _, _, _, _, _, _, _, _, rfl, lR, cR, .inr ⟨by simp, TR, _, [.int 1 tR], nT, rfl, lT, rfl, .cons ⟨_, rfl⟩ .nil⟩, .inl rfl⟩, kR⟩
  obtain ⟨ds2, hds2, bR2⟩ := FR.binds1 (ps := ["numerator", "denominator"]) 2 1 (by simp) rfl fun T kV doc pm an cdv ct us its h1 h2 => match us, h1, its, h2 with | [_, _], _, [_], _ => ⟨_, rfl, rfl⟩
  have hz : ds2 = [] := by cases hds2; rfl
  subst hz
  have DR : DefD K mg "ratio" (topS 10) ["numerator", "denominator"] [.int 1] fR _ := ⟨FR, PySem.W.mg_of X G aR, bR2⟩
  obtain ⟨ds, hds, bR1⟩ := FR.binds1 (ps := ["numerator", "denominator"]) 1 0 (by simp) rfl fun T kV doc pm an cdv ct us its h1 h2 => match us, h1, its, h2 with | [_], _, [_], _ => ⟨_, rfl, rfl⟩
  have m8 := PySem.W.mg_of X G few
  have XE1 : ErrAt K mg "InvalidNumber" BMv "ValueError.__new__" CE1 := ⟨PySem.W.mg_of X G gE1, kE1, qE1, bE1, tE1⟩
  have XE2 : ErrAt K mg "DivisionByZero" BMa "ArithmeticError.__new__" CE2 := ⟨PySem.W.mg_of X G gE2, kE2, qE2, bE2, tE2⟩
  have mgcd := PySem.W.mg_of X G gcd
  have m_isinstance := PySem.W.mg_none_of X G n_isinstance
  have m_int := PySem.W.mg_none_of X G n_int
  have m_bool := PySem.W.mg_none_of X G n_bool
  have m_tuple := PySem.W.mg_none_of X G n_tuple
  have m_list := PySem.W.mg_none_of X G n_list
  have m_len := PySem.W.mg_none_of X G n_len
  have m_type := PySem.W.mg_none_of X G n_type
  have m_max := PySem.W.mg_none_of X G n_max
  have m_min := PySem.W.mg_none_of X G n_min
  have m_sorted := PySem.W.mg_none_of X G n_sorted
  have m_abs := PySem.W.mg_none_of X G n_abs
  have m_repr := PySem.W.mg_none_of X G n_repr
  have m_range := PySem.W.mg_none_of X G n_range
  have m_set := PySem.W.mg_none_of X G n_set
  refine ⟨PySem.W.fnOf "law" "law" (defArgs (topS 32)) (defBody (topS 32)) (defScope (topS 32)) .none kVL dcL pmL anL cdL ctL, fun s u => .of_eq rfl, fun base KB GB => ?_⟩
  have GII := ok_II (P := P) (w := w) (mg := mg) (base := base) FII m_isinstance m_int m_bool
  have GIR := ok_IR (P := P) (w := w) (mg := mg) (base := base) FIR DII m_isinstance m_tuple m_len mgcd GII
  have GAR := ok_AR (P := P) (w := w) (mg := mg) (base := base) FAR DII DIR XE1 m_type m_int m_tuple m_len mgcd GII GIR
  have GRd := ok_Rd (P := P) (w := w) (mg := mg) (base := base) FRd mgcd
  have GR := ok_Ratio (P := P) (w := w) (mg := mg) (base := base) DR DII DRd XE1 XE2 (up GII) (up GRd)
  have GPl := ok_plus (P := P) (w := w) (mg := mg) (base := base) DPl DAR DRd GAR GRd
  have GMi := ok_minus (P := P) (w := w) (mg := mg) (base := base) DMi DAR DRd GAR GRd
  have GTi := ok_times (P := P) (w := w) (mg := mg) (base := base) DTi DAR DRd GAR GRd
  have GDi := ok_divided (P := P) (w := w) (mg := mg) (base := base) DDi DAR DRd XE2 GAR GRd
  have GCo := ok_compare (P := P) (w := w) (mg := mg) (base := base) DCo DAR (up GAR)
  have GFl := ok_floor (P := P) (w := w) (mg := mg) (base := base) DFl DAR GAR
  have GRe := ok_rem (P := P) (w := w) (mg := mg) (base := base) DRe DAR DRd XE2 (up GAR) (up GRd)
  have GIs2 := ok_Ins (P := P) (w := w) (mg := mg) (base := base) DIs2 m_len
  have GRk := ok_Rkd (P := P) (w := w) (mg := mg) (base := base) DRk
  have GAs := ok_Asc (P := P) (w := w) (mg := mg) (base := base) DAs DRk DIs2 m8 m_len GRk GIs2
  have GIn := ok_InO (P := P) (w := w) (mg := mg) (base := base) DIn DAR DAs XE1 m_isinstance m_list m_type m_int (up GAR) GAs
  have GPo := ok_Pool (P := P) (w := w) (mg := mg) (base := base) DPo m_len
  have GDr := ok_Draw (P := P) (w := w) (mg := mg) (base := base) DDr
  have GCh := ok_Choose (P := P) (w := w) (mg := mg) (base := base) DCh DDr m_len GDr
  have GDv := ok_Divi (P := P) (w := w) (mg := mg) (base := base) DDv m_abs
  have GIt := ok_Inte (P := P) (w := w) (mg := mg) (base := base) DIt DDr GDr
  have GPa := ok_Pair (P := P) (w := w) (mg := mg) (base := base) DPa DIt DDv m_abs GIt GDv
  have GVa := ok_Valu (P := P) (w := w) (mg := mg) (base := base) DVa DDr GDr
  have GIs := ok_Is (P := P) (w := w) (mg := mg) (base := base) DIs DIR (up GIR)
  have GSR := ok_SR (P := P) (w := w) (mg := mg) (base := base) DSR DPl DCo DIn m_repr m_range m_len m_sorted m_set (up GPl) GCo GIn
  exact ok_Law DL DPo GPo DPa GPa DVa GVa DCh GCh DIs GIs DPl (up GPl) DMi (up GMi) DTi (up GTi) DDi (up GDi) DCo GCo DFl (up GFl) DRe GRe DIn GIn DR GR hds bR1 DSR GSR m_range m_len m_max m_min m_int m_isinstance m_tuple
end LR
open PySem PySem.W PyProof.Rows
set_option Elab.async false
set_option linter.all false
set_option maxRecDepth 100000
set_option maxHeartbeats 0 in
theorem PySem.Challenge.cw_laprunners_k01_arithmetic_holds : PySem.Challenge.rw_laprunners_k01_arithmetic.Holds := by
  w_on; o_law; k_head; (case hw => w_witness2)
  k_fill
  refine LG.walk_G (l := PySem.Challenge.rw_laprunners_k01_arithmetic) (n := 63) (k := 6) (x := "script") (CX := fun w => LR.CXl (PySem.Challenge.rw_laprunners_k01_arithmetic).prog w) (sp := fun w => LR.spLaw _) rfl (by decide) rfl ⟨rfl, by decide, by decide⟩ (fun w h Y => PySem.W.kIn_of Y) ?F
    (fun w H a ns hl _ hS => ⟨a, ns, rfl, hS, hl, fun H' s => s.seq hS, fun H' _ => rfl⟩) (fun w H s e s' z => ?Z)
  case Z =>
    obtain ⟨_, _, _, _, _, _, _, _, _, _, _, _, z⟩ := z
    exact z
  case F =>
    intro w mg fa h KX G hmg
    refine' LR.all_mk KX G hmg ?aII ?lII ?cII ?kII ?aIR ?lIR ?cIR ?kIR ?aAR ?lAR ?cAR ?kAR ?aRd ?lRd ?cRd ?kRd ?aPl ?lPl ?cPl ?kPl ?aMi ?lMi ?cMi ?kMi ?aTi ?lTi ?cTi ?kTi ?aDi ?lDi ?cDi ?kDi ?aCo ?lCo ?cCo ?kCo ?aFl ?lFl ?cFl ?kFl ?aRe ?lRe ?cRe ?kRe ?aIn ?lIn ?cIn ?kIn ?aAs ?lAs ?cAs ?kAs ?aIs2 ?lIs2 ?cIs2 ?kIs2 ?aRk ?lRk ?cRk ?kRk ?aPo ?lPo ?cPo ?kPo ?aDr ?lDr ?cDr ?kDr ?aCh ?lCh ?cCh ?kCh ?aDv ?lDv ?cDv ?kDv ?aIt ?lIt ?cIt ?kIt ?aPa ?lPa ?cPa ?kPa ?aVa ?lVa ?cVa ?kVa ?aIs ?lIs ?cIs ?kIs ?aSR ?lSR ?cSR ?kSR ?aL ?lL ?cL ?kL ?aR ?lR ?cR ?kR ?lT ?few ?gE1 ?kE1 ?qE1 ?bE1 ?tE1 ?gE2 ?kE2 ?qE2 ?bE2 ?tE2 ?gcd ?n_isinstance ?n_int ?n_bool ?n_tuple ?n_list ?n_len ?n_type ?n_max ?n_min ?n_sorted ?n_abs ?n_repr ?n_range ?n_set
    (case aII => k_is); (case lII => k_is); (case cII => k_is); (case kII => k_is); (case aIR => k_is); (case lIR => k_is)
    (case cIR => k_is); (case kIR => k_is); (case aAR => k_is); (case lAR => k_is); (case cAR => k_is); (case kAR => k_is)
    (case aRd => k_is); (case lRd => k_is); (case cRd => k_is); (case kRd => k_is); (case aPl => k_is); (case lPl => k_is)
    (case cPl => k_is); (case kPl => k_is); (case aMi => k_is); (case lMi => k_is); (case cMi => k_is); (case kMi => k_is)
    (case aTi => k_is); (case lTi => k_is); (case cTi => k_is); (case kTi => k_is); (case aDi => k_is); (case lDi => k_is)
    (case cDi => k_is); (case kDi => k_is); (case aCo => k_is); (case lCo => k_is); (case cCo => k_is); (case kCo => k_is)
    (case aFl => k_is); (case lFl => k_is); (case cFl => k_is); (case kFl => k_is); (case aRe => k_is); (case lRe => k_is)
    (case cRe => k_is); (case kRe => k_is); (case aIn => k_is); (case lIn => k_is); (case cIn => k_is); (case kIn => k_is)
    (case aAs => k_is); (case lAs => k_is); (case cAs => k_is); (case kAs => k_is); (case aIs2 => k_is); (case lIs2 => k_is)
    (case cIs2 => k_is); (case kIs2 => k_is); (case aRk => k_is); (case lRk => k_is); (case cRk => k_is); (case kRk => k_is)
    (case aPo => k_is); (case lPo => k_is); (case cPo => k_is); (case kPo => k_is); (case aDr => k_is); (case lDr => k_is)
    (case cDr => k_is); (case kDr => k_is); (case aCh => k_is); (case lCh => k_is); (case cCh => k_is); (case kCh => k_is)
    (case aDv => k_is); (case lDv => k_is); (case cDv => k_is); (case kDv => k_is); (case aIt => k_is); (case lIt => k_is)
    (case cIt => k_is); (case kIt => k_is); (case aPa => k_is); (case lPa => k_is); (case cPa => k_is); (case kPa => k_is)
    (case aVa => k_is); (case lVa => k_is); (case cVa => k_is); (case kVa => k_is); (case aIs => k_is); (case lIs => k_is)
    (case cIs => k_is); (case kIs => k_is); (case aSR => k_is); (case lSR => k_is); (case cSR => k_is); (case kSR => k_is)
    (case aL => k_is); (case lL => k_is); (case cL => k_is); (case kL => k_is); (case aR => k_is); (case lR => k_is)
    (case cR => k_is); (case kR => k_is); (case lT => k_is); (case few => k_is); (case gE1 => k_is); (case kE1 => k_is)
    (case qE1 => k_exc); (case bE1 => k_is); (case tE1 => k_is); (case gE2 => k_is); (case kE2 => k_is); (case qE2 => k_exc)
    (case bE2 => k_is); (case tE2 => k_is); (case gcd => k_is); (case n_isinstance => k_is); (case n_int => k_is); (case n_bool => k_is)
    (case n_tuple => k_is); (case n_list => k_is); (case n_len => k_is); (case n_type => k_is); (case n_max => k_is); (case n_min => k_is)
    (case n_sorted => k_is); (case n_abs => k_is); (case n_repr => k_is); (case n_range => k_is); (case n_set => k_is)
