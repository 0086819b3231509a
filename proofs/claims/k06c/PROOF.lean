import PyProof.Rows.All
import Wide.All
import OpenK.AllK
import Wide.FinOn
import HandS.ForMost
import HandS.ForExc
import HandS.Wide
import HandS.WideBits
import HandS.Gcd
import HandS.IsInst
import HandS.More
import HandS.ExcCtx
import HandS.RaiseFrom
import HandS.SuiteRaise
import HandS.Defaults
import HandS.Codes
import HandS.ExcIs
import HandS.Deep
import HandS.Style
import HandS.Star
import HandS.Conv
import HandS.StrMore
import HandS.Text
import HandS.Iter
import HandS.Walk
import HandS.Exc
import HandS.Ends
import PyProof.ReprRoads
import HandS.Property
import HandS.ForDict
import HandS.WordsDict
import HandS.DictComp
import PySem.Challenge.RW_laprunners_k06_positions_and_laps
/-! LRat: exact numbers, plain mathematics over Rat (core Lean alone). -/
namespace LR

/-- numerator and denominator below 2 ^ b -/
def Sz (b : Nat) (q : Rat) : Prop := q.num.natAbs < 2 ^ b ∧ q.den < 2 ^ b

theorem Sz.mono {a b : Nat} {q : Rat} (h : Sz a q) (e : a ≤ b) : Sz b q :=
  ⟨Nat.lt_of_lt_of_le h.1 (Nat.pow_le_pow_right (by decide) e), Nat.lt_of_lt_of_le h.2 (Nat.pow_le_pow_right (by decide) e)⟩

theorem den_pos (q : Rat) : 0 < q.den := Nat.pos_of_ne_zero q.den_nz

/-- the sign of a denominator times the common divisor: what `ratio` divides by -/
def sdiv (n d : Int) : Int := if d < 0 then -((Nat.gcd n.natAbs d.natAbs : Nat) : Int) else ((Nat.gcd n.natAbs d.natAbs : Nat) : Int)

theorem gcd_pos {n d : Int} (hd : d ≠ 0) : 0 < Nat.gcd n.natAbs d.natAbs := Nat.gcd_pos_of_pos_right _ (Int.natAbs_pos.mpr hd)

theorem sdiv_ne {n d : Int} (hd : d ≠ 0) : sdiv n d ≠ 0 := by
  have h := gcd_pos (n := n) hd
  unfold sdiv
  split <;> omega

theorem sdiv_abs (n d : Int) : (sdiv n d).natAbs = Nat.gcd n.natAbs d.natAbs := by
  unfold sdiv
  split <;> omega

theorem fdiv_neg_of_dvd {a g : Int} (h : g ∣ a) : a.fdiv (-g) = -(a / g) := by
  rw [Int.fdiv_eq_ediv_of_dvd (Int.neg_dvd.mpr h), Int.ediv_neg]

theorem sdiv_num {n d : Int} (hd : d ≠ 0) : n.fdiv (sdiv n d) = (Rat.divInt n d).num := by
  have g1 : ((Nat.gcd n.natAbs d.natAbs : Nat) : Int) ∣ n := Int.ofNat_dvd_left.mpr (Nat.gcd_dvd_left _ _)
  have e : (d.gcd n : Int) = ((Nat.gcd n.natAbs d.natAbs : Nat) : Int) := by
    show ((Nat.gcd d.natAbs n.natAbs : Nat) : Int) = _
    rw [Nat.gcd_comm]
  rw [Rat.num_divInt, e]
  unfold sdiv
  split
  · rename_i h
    rw [fdiv_neg_of_dvd g1, Int.sign_eq_neg_one_of_neg h, Int.neg_one_mul, Int.neg_ediv_of_dvd g1]
  · rename_i h
    rw [Int.fdiv_eq_ediv_of_nonneg _ (Int.natCast_nonneg _), Int.sign_eq_one_of_pos (by omega), Int.one_mul]

theorem sdiv_den {n d : Int} (hd : d ≠ 0) : d.fdiv (sdiv n d) = ((Rat.divInt n d).den : Int) := by
  have g1 : ((Nat.gcd n.natAbs d.natAbs : Nat) : Int) ∣ d := Int.ofNat_dvd_left.mpr (Nat.gcd_dvd_right _ _)
  have e : d.gcd n = Nat.gcd n.natAbs d.natAbs := by
    show Nat.gcd d.natAbs n.natAbs = _
    rw [Nat.gcd_comm]
  rw [Rat.den_divInt, if_neg hd, e, Int.natCast_ediv]
  unfold sdiv
  split
  · rename_i h
    rw [fdiv_neg_of_dvd g1, ← Int.neg_ediv_of_dvd g1]
    congr 1
    omega
  · rename_i h
    rw [Int.fdiv_eq_ediv_of_nonneg _ (Int.natCast_nonneg _)]
    congr 1
    omega

theorem num_le (n d : Int) : (Rat.divInt n d).num.natAbs ≤ n.natAbs := by
  by_cases hd : d = 0
  · subst hd
    rw [Rat.divInt_zero]
    exact Nat.zero_le _
  · rw [Rat.num_divInt, Int.natAbs_ediv_of_dvd]
    · rw [Int.natAbs_mul, Int.natAbs_sign_of_ne_zero hd, Nat.one_mul]
      exact Nat.div_le_self _ _
    · refine Int.dvd_mul_of_dvd_right ?_
      exact Int.gcd_dvd_right _ _
theorem den_le {n d : Int} (hd : d ≠ 0) : (Rat.divInt n d).den ≤ d.natAbs := by
  rw [Rat.den_divInt, if_neg hd]
  exact Nat.div_le_self _ _

theorem sz_divInt {n d : Int} {b : Nat} (hd : d ≠ 0) (h1 : n.natAbs < 2 ^ b) (h2 : d.natAbs < 2 ^ b) : Sz b (Rat.divInt n d) :=
  ⟨Nat.lt_of_le_of_lt (num_le n d) h1, Nat.lt_of_le_of_lt (den_le hd) h2⟩

/-! ### the operations, as `ratio` is asked for them -/
theorem add_as (p q : Rat) : p + q = Rat.divInt (p.num * q.den + q.num * p.den) (p.den * q.den) := by
  rw [Rat.add_def', ← Int.natCast_mul, Rat.divInt_ofNat]
theorem sub_as (p q : Rat) : p - q = Rat.divInt (p.num * q.den - q.num * p.den) (p.den * q.den) := by
  rw [Rat.sub_def', ← Int.natCast_mul, Rat.divInt_ofNat]
theorem mul_as (p q : Rat) : p * q = Rat.divInt (p.num * q.num) (p.den * q.den) := by
  rw [Rat.mul_def', ← Int.natCast_mul, Rat.divInt_ofNat]
theorem div_as (p q : Rat) : p / q = Rat.divInt (p.num * q.den) (p.den * q.num) := by
  rw [Rat.div_def, Rat.inv_def]
  conv => lhs; lhs; rw [← Rat.num_divInt_den p]
  rw [Rat.divInt_mul_divInt]

theorem mul_lt {x y : Nat} {a b : Nat} (hx : x < 2 ^ a) (hy : y < 2 ^ b) : x * y < 2 ^ (a + b) := by
  rw [Nat.pow_add]
  exact Nat.mul_lt_mul'' hx hy
theorem add_lt {x y c : Nat} (hx : x < 2 ^ c) (hy : y < 2 ^ c) : x + y < 2 ^ (c + 1) := by
  rw [Nat.pow_succ]
  omega
theorem den_ne (p q : Rat) : ((p.den : Int) * q.den) ≠ 0 := by
  have h1 := den_pos p
  have h2 := den_pos q
  rw [← Int.natCast_mul]
  have h3 := Nat.mul_pos h1 h2
  omega
theorem Sz.add {a b : Nat} {p q : Rat} (hp : Sz a p) (hq : Sz b q) : Sz (a + b + 1) (p + q) := by
  rw [add_as]
  refine sz_divInt (den_ne p q) ?_ ?_
  · refine Nat.lt_of_le_of_lt (Int.natAbs_add_le _ _) (add_lt ?_ ?_)
    · rw [Int.natAbs_mul, Int.natAbs_natCast]
      exact mul_lt hp.1 hq.2
    · rw [Int.natAbs_mul, Int.natAbs_natCast, Nat.add_comm a b]
      exact mul_lt hq.1 hp.2
  · rw [Int.natAbs_mul, Int.natAbs_natCast, Int.natAbs_natCast]
    exact Nat.lt_of_lt_of_le (mul_lt hp.2 hq.2) (Nat.pow_le_pow_right (by decide) (by omega))
theorem Sz.sub {a b : Nat} {p q : Rat} (hp : Sz a p) (hq : Sz b q) : Sz (a + b + 1) (p - q) := by
  rw [sub_as]
  refine sz_divInt (den_ne p q) ?_ ?_
  · refine Nat.lt_of_le_of_lt (by rw [Int.sub_eq_add_neg]; exact Int.natAbs_add_le _ _) (add_lt ?_ ?_)
    · rw [Int.natAbs_mul, Int.natAbs_natCast]
      exact mul_lt hp.1 hq.2
    · rw [Int.natAbs_neg, Int.natAbs_mul, Int.natAbs_natCast, Nat.add_comm a b]
      exact mul_lt hq.1 hp.2
  · rw [Int.natAbs_mul, Int.natAbs_natCast, Int.natAbs_natCast]
    exact Nat.lt_of_lt_of_le (mul_lt hp.2 hq.2) (Nat.pow_le_pow_right (by decide) (by omega))
theorem Sz.mul {a b : Nat} {p q : Rat} (hp : Sz a p) (hq : Sz b q) : Sz (a + b) (p * q) := by
  rw [mul_as]
  refine sz_divInt (den_ne p q) ?_ ?_
  · rw [Int.natAbs_mul]
    exact mul_lt hp.1 hq.1
  · rw [Int.natAbs_mul, Int.natAbs_natCast, Int.natAbs_natCast]
    exact mul_lt hp.2 hq.2
theorem num_ne {q : Rat} (h : q ≠ 0) : q.num ≠ 0 := fun e => h (Rat.num_eq_zero.mp e)
theorem div_den_ne {p q : Rat} (h : q ≠ 0) : ((p.den : Int) * q.num) ≠ 0 := Int.mul_ne_zero (by have := den_pos p; omega) (num_ne h)
theorem Sz.div {a b : Nat} {p q : Rat} (hp : Sz a p) (hq : Sz b q) (h : q ≠ 0) : Sz (a + b) (p / q) := by
  rw [div_as]
  refine sz_divInt (div_den_ne h) ?_ ?_
  · rw [Int.natAbs_mul, Int.natAbs_natCast]
    exact mul_lt hp.1 hq.2
  · rw [Int.natAbs_mul, Int.natAbs_natCast]
    exact mul_lt hp.2 hq.1
theorem Sz.neg {a : Nat} {p : Rat} (hp : Sz a p) : Sz a (-p) := by
  refine ⟨?_, ?_⟩
  · rw [Rat.neg_num, Int.natAbs_neg]; exact hp.1
  · rw [Rat.neg_den]; exact hp.2
theorem Sz.int {b : Nat} {n : Int} (h0 : 0 < b) (h : n.natAbs < 2 ^ b) : Sz b (n : Rat) := ⟨h, Nat.lt_of_lt_of_le (show 1 < 2 ^ 1 by decide) (Nat.pow_le_pow_right (by decide) h0)⟩

/-! ### floors, remainders -/
theorem floor_divInt {a b : Int} (hb : 0 < b) : (Rat.divInt a b).floor = a / b := by
  have h1 := Rat.floor_le (Rat.divInt a b)
  have h2 := Rat.lt_floor_add_one (Rat.divInt a b)
  have hq : (0 : Rat) < (b : Rat) := Rat.intCast_pos.mpr hb
  rw [Rat.divInt_eq_div] at h1 h2 ⊢
  generalize ((a : Rat) / (b : Rat)).floor = k at h1 h2
  have e1 : (k : Rat) * b ≤ a := by
    have := Rat.mul_le_mul_of_nonneg_right h1 (Rat.le_of_lt hq)
    rwa [Rat.div_mul_cancel (Rat.ne_of_gt hq)] at this
  have e2 : (a : Rat) < ((k + 1 : Int) : Rat) * b := (Rat.div_lt_iff hq).mp h2
  rw [← Rat.intCast_mul, Rat.intCast_le_intCast] at e1
  rw [← Rat.intCast_mul, Rat.intCast_lt_intCast] at e2
  have e3 : a / b = k := by
    refine Int.le_antisymm ?_ ?_
    · exact Int.le_of_lt_add_one (Int.ediv_lt_of_lt_mul hb e2)
    · exact (Int.le_ediv_iff_mul_le hb).mpr e1
  exact e3.symm
/-- the number in [0, m) that differs from p by a multiple of m -/
def rem (p m : Rat) : Rat := p - m * ((p / m).floor : Rat)
theorem rem_as {p m : Rat} (hm : 0 < m) : rem p m = Rat.divInt ((p.num * m.den) % (m.num * p.den)) (p.den * m.den) := by
  have hn : 0 < m.num := by
    have h := Rat.num_nonneg.mpr (Rat.le_of_lt hm)
    have h2 := num_ne (Rat.ne_of_gt hm)
    omega
  have d1 : (0 : Int) < p.den := by have := den_pos p; omega
  have d2 : (0 : Int) < m.den := by have := den_pos m; omega
  have hb : (0 : Int) < p.den * m.num := Int.mul_pos d1 hn
  unfold rem
  rw [div_as, floor_divInt hb, Int.emod_def, Int.mul_comm m.num (p.den : Int)]
  generalize (p.num * ↑m.den) / (↑p.den * m.num) = k
  have q1 : (p.den : Rat) ≠ 0 := by
    have := Rat.natCast_pos.mpr (den_pos p)
    exact Rat.ne_of_gt this
  have q2 : (m.den : Rat) ≠ 0 := by
    have := Rat.natCast_pos.mpr (den_pos m)
    exact Rat.ne_of_gt this
  have ep : p = (p.num : Rat) / (p.den : Rat) := by
    conv => lhs; rw [← Rat.num_divInt_den p, Rat.divInt_eq_div]
    rfl
  have em : m = (m.num : Rat) / (m.den : Rat) := by
    conv => lhs; rw [← Rat.num_divInt_den m, Rat.divInt_eq_div]
    rfl
  rw [Rat.divInt_eq_div]
  conv => lhs; rw [ep]
  conv => lhs; rhs; rw [em]
  simp only [Rat.intCast_sub, Rat.intCast_mul, Rat.intCast_natCast]
  grind
theorem rem_nonneg {p m : Rat} (hm : 0 < m) : 0 ≤ rem p m := by
  have h := Rat.floor_le (p / m)
  have h2 := Rat.mul_le_mul_of_nonneg_left h (Rat.le_of_lt hm)
  have e : m * (p / m) = p := by rw [Rat.mul_comm, Rat.div_mul_cancel (Rat.ne_of_gt hm)]
  rw [e] at h2
  unfold rem
  grind
theorem rem_lt {p m : Rat} (hm : 0 < m) : rem p m < m := by
  have h := Rat.lt_floor_add_one (p / m)
  have h2 := Rat.mul_lt_mul_of_pos_left h hm
  have e : m * (p / m) = p := by rw [Rat.mul_comm, Rat.div_mul_cancel (Rat.ne_of_gt hm)]
  rw [e, Rat.intCast_add] at h2
  unfold rem
  grind
theorem pos_num {m : Rat} (hm : 0 < m) : 0 < m.num := by
  have h := Rat.num_nonneg.mpr (Rat.le_of_lt hm)
  have h2 := num_ne (Rat.ne_of_gt hm)
  omega
theorem num_pos_iff {m : Rat} : 0 < m.num ↔ 0 < m := by
  refine ⟨fun h => ?_, pos_num⟩
  refine Rat.lt_of_le_of_ne (Rat.num_nonneg.mp (Int.le_of_lt h)) ?_
  intro e
  rw [← e] at h
  exact absurd h (by decide)
theorem num_neg_iff {m : Rat} : m.num < 0 ↔ m < 0 := by
  rw [← Rat.not_le, ← Rat.num_nonneg]
  omega
theorem Sz.rem {a b : Nat} {p m : Rat} (hp : Sz a p) (hq : Sz b m) (h : 0 < m) : Sz (a + b) (rem p m) := by
  have hn := pos_num h
  have d1 : (0 : Int) < p.den := by have := den_pos p; omega
  have hb : (0 : Int) < m.num * p.den := Int.mul_pos hn d1
  rw [rem_as h]
  refine sz_divInt (den_ne p m) ?_ ?_
  · have h1 := Int.emod_nonneg (p.num * m.den) (Int.ne_of_gt hb)
    have h2 := Int.emod_lt_of_pos (p.num * m.den) hb
    have h3 : (m.num * p.den).natAbs < 2 ^ (a + b) := by
      rw [Int.natAbs_mul, Int.natAbs_natCast, Nat.add_comm]
      exact mul_lt hq.1 hp.2
    omega
  · rw [Int.natAbs_mul, Int.natAbs_natCast, Int.natAbs_natCast]
    exact mul_lt hp.2 hq.2
end LR
set_option Elab.async false
set_option linter.all false
set_option maxRecDepth 100000
set_option maxHeartbeats 4000000
namespace LR
open PySem PySem.Spec PyProof.Rows L2

/-! ### kinds of values, and numbers among them -/
theorem sqt_ty {K : PySem.W.Frag} {H : Hp} {a : Addr} {xs : List V} (h : SqT K H a xs) : TyX K H (.ref a) (.type "tuple") := by
  rcases h with (h | ⟨o, h⟩) | ⟨o, its, m, hk, hc, _⟩
  · exact .base (.tup h)
  · exact .fTuple h
  · exact .kTuple hk hc
theorem sql_ty {K : PySem.W.Frag} {H : Hp} {a : Addr} {xs : List V} (h : SqL K H a xs) : TyX K H (.ref a) (.type "list") := by
  rcases h with (h | ⟨o, h⟩) | ⟨o, its, m, hk, hc, _⟩
  · exact .base (.lst h)
  · exact .base (.frz h)
  · exact .kList hk hc
theorem same_sqt {K : PySem.W.Frag} {H H' : Hp} {a : Addr} {xs : List V} (s : Same H H') (h : SqT K H a xs) : SqT K H' a xs := by
  rcases h with (h | ⟨o, h⟩) | h
  · exact .inl (.inl (s _ _ h))
  · exact .inl (.inr ⟨o, s _ _ h⟩)
  · exact .inr h
inductive Kd (K : PySem.W.Frag) (H : Hp) : V → String → Prop
  | non : Kd K H .non "NoneType"
  | bl (b : Bool) : Kd K H (.bl b) "bool"
  | int (i : Int) : Kd K H (.int i) "int"
  | str (x : Str) : Kd K H (.str x) "str"
  | lst {a : Addr} {xs : List V} (h : SqL K H a xs) : Kd K H (.ref a) "list"
  | tup {a : Addr} {xs : List V} (h : SqT K H a xs) : Kd K H (.ref a) "tuple"
  | dict {a : Addr} {kvs : List (Key × V)} (h : H a = some (.dK kvs)) : Kd K H (.ref a) "dict"
section
variable {K : PySem.W.Frag} {H H' : Hp} {x : V} {n : String}
theorem Kd.ty (h : Kd K H x n) : TyX K H x (.type n) := by
  cases h with
  | non => exact .base .non
  | bl b => exact .base (.bl b)
  | int i => exact .base (.int i)
  | str z => exact .base (.str z)
  | lst h => exact sql_ty h
  | tup h => exact sqt_ty h
  | dict h => exact .base (.dK h)
theorem Kd.tyB (h : Kd K H x n) : TyB K H x n := by
  cases h with
  | non => exact .non
  | bl b => exact .bl b
  | int i => exact .int i
  | str z => exact .str z
  | lst h => exact .lst h
  | tup h => exact .tup h
  | dict h => exact .dK h
def isI : V → Bool | .int _ => true | _ => false
theorem kd_int (h : Kd K H x n) : PySem.W.kitOne K (.type n) (.type "int") = some (n == "int" || n == "bool") := by
  cases h <;> exact kit_ty (by decide +kernel)
theorem kd_bool (h : Kd K H x n) : PySem.W.kitOne K (.type n) (.type "bool") = some (n == "bool") := by
  cases h <;> exact kit_ty (by decide +kernel)
theorem kd_tuple (h : Kd K H x n) : PySem.W.kitOne K (.type n) (.type "tuple") = some (n == "tuple") := by
  cases h <;> exact kit_ty (by decide +kernel)
theorem kd_list (h : Kd K H x n) : PySem.W.kitOne K (.type n) (.type "list") = some (n == "list") := by
  cases h <;> exact kit_ty (by decide +kernel)
theorem kd_dict (h : Kd K H x n) : PySem.W.kitOne K (.type n) (.type "dict") = some (n == "dict") := by
  cases h <;> exact kit_ty (by decide +kernel)
theorem kd_str (h : Kd K H x n) : PySem.W.kitOne K (.type n) (.type "str") = some (n == "str") := by
  cases h <;> exact kit_ty (by decide +kernel)
theorem kd_isI (h : Kd K H x n) : ((n == "int" || n == "bool") && !(n == "bool")) = isI x := by
  cases h <;> rfl
theorem Kd.same (s : Same H H') (h : Kd K H x n) : Kd K H' x n := by
  cases h with
  | non => exact .non
  | bl b => exact .bl b
  | int i => exact .int i
  | str z => exact .str z
  | lst h => exact .lst (s.seq h)
  | tup h => exact .tup (same_sqt s h)
  | dict h => exact .dict (s _ _ h)
theorem same_new {p : Addr} {o : HO} (h : H p = none) : Same H (upd H p o) := fun b y e => by
  rw [upd_ne (ne_of_none e h)]
  exact e

/-- the two places of a number's tuple -/
abbrev rt (q : Rat) : List V := [.int q.num, .int (q.den : Int)]
def ratOf : List V → Option Rat
  | [.int a, .int d] => if 1 ≤ d ∧ Nat.gcd a.natAbs d.natAbs = 1 then some (Rat.divInt a d) else none
  | _ => none
theorem ratOf_rt (q : Rat) : ratOf (rt q) = some q := by
  have h1 : (1 : Int) ≤ (q.den : Int) := by have := den_pos q; omega
  have h2 : Nat.gcd q.num.natAbs ((q.den : Int)).natAbs = 1 := q.reduced
  show (if 1 ≤ (q.den : Int) ∧ Nat.gcd q.num.natAbs ((q.den : Int)).natAbs = 1 then some (Rat.divInt q.num q.den) else none) = some q
  rw [if_pos ⟨h1, h2⟩, Rat.num_divInt_den]
theorem ratOf_some {xs : List V} {q : Rat} (h : ratOf xs = some q) : xs = rt q := by
  unfold ratOf at h
  split at h
  · rename_i a d
    split at h
    · rename_i c
      obtain ⟨c1, c2⟩ := c
      have e := Option.some.inj h
      subst e
      have g : d.gcd a = 1 := by
        show Nat.gcd d.natAbs a.natAbs = 1
        rw [Nat.gcd_comm]
        exact c2
      have e1 : (Rat.divInt a d).num = a := by
        rw [Rat.num_divInt, g, Int.sign_eq_one_of_pos (by omega)]
        simp
      have e2 : ((Rat.divInt a d).den : Int) = d := by
        rw [Rat.den_divInt, if_neg (by omega), g]
        simp
        omega
      show [V.int a, V.int d] = [V.int (Rat.divInt a d).num, V.int ((Rat.divInt a d).den : Int)]
      rw [e1, e2]
    · cases h
  · cases h
/-- an argument in the place of a number: some q where it is one -/
inductive Arg (K : PySem.W.Frag) (H : Hp) : V → Option Rat → Prop
  | int (i : Int) : Arg K H (.int i) (some (i : Rat))
  | tup {a : Addr} {xs : List V} {o : Option Rat} (h : SqT K H a xs) (k : xs.length = 2 → ∀ x ∈ xs, ∃ n, Kd K H x n) (e : ratOf xs = o) : Arg K H (.ref a) o
  | oth {x : V} {n : String} (h : Kd K H x n) (h1 : (n == "int") = false) (h2 : (n == "tuple") = false) : Arg K H x none
abbrev Num (K : PySem.W.Frag) (H : Hp) (x : V) (q : Rat) : Prop := Arg K H x (some q)
/-- a result: a tuple of the number's two places -/
def Rn (K : PySem.W.Frag) (H : Hp) (x : V) (q : Rat) : Prop := ∃ a, x = .ref a ∧ SqT K H a (rt q)
theorem Rn.num {q : Rat} (h : Rn K H x q) : Num K H x q := by
  obtain ⟨a, rfl, h⟩ := h
  refine .tup h (fun _ y hy => ?_) (ratOf_rt q)
  rcases List.mem_cons.mp hy with e | hy
  · exact ⟨"int", by rw [e]; exact .int _⟩
  · rcases List.mem_cons.mp hy with e | hy
    · exact ⟨"int", by rw [e]; exact .int _⟩
    · cases hy
theorem Arg.same {o : Option Rat} (s : Same H H') (h : Arg K H x o) : Arg K H' x o := by
  cases h with
  | int i => exact .int i
  | tup h k e => exact .tup (same_sqt s h) (fun l y hy => let ⟨m, z⟩ := k l y hy; ⟨m, z.same s⟩) e
  | oth h h1 h2 => exact .oth (h.same s) h1 h2
theorem Rn.same {q : Rat} (s : Same H H') (h : Rn K H x q) : Rn K H' x q := let ⟨a, e, z⟩ := h; ⟨a, e, same_sqt s z⟩
theorem Num.kinds {q : Rat} (h : Num K H x q) : (x = .int q.num ∧ q.den = 1) ∨ Rn K H x q := by
  cases h with
  | int i => exact .inl ⟨rfl, rfl⟩
  | tup h k e => exact .inr ⟨_, rfl, ratOf_some e ▸ h⟩
theorem Rn.mk {q : Rat} {p : Addr} : Rn K (upd H p (.tup (rt q))) (.ref p) q := ⟨p, rfl, .inl (.inl upd_same)⟩
theorem num_int (i : Int) : Num K H (.int i) (i : Rat) := .int i
end

/-! ### operations on great ints -/
def CDivA (_ j : Int) : Prop := j ≠ 0 ∧ j.natAbs.log2 < 9000
section
variable {X : Cx}
theorem op_fdivA : OpR X (binaryOp .FloorDiv) (rI CDivA fun i j => .int (i.fdiv j)) := opI fun i j _ _ _ _ _ hc q =>
  floordiv_int hc.1 q (.inl (PyProof.noPylong_of_log2 hc.2))
end
theorem divA {i j : Int} {b : Nat} (h : j ≠ 0) (hb : j.natAbs < 2 ^ b) (h0 : 0 < b) (h9 : b ≤ 9000) : CDivA i j := ⟨h, Nat.lt_of_lt_of_le (PySem.Flt.log2_lt_of h0 hb) h9⟩

/-! ### raise X(), no argument -/
section
variable {X : Cx} {C : Addr} {bmB : List Value} {B newId initId : String}
theorem pmk_own0 {x : Str} {p pos : Pos} (F : ExcBaseFacts B newId initId bmB) (q : PySem.W.excIn X.K C bmB newId = true) (gC : X.mg x = some (.ref C)) (kC : PySem.W.keepIn X.K (.ref C) = true) (r : Raises X (.ref C)) (hg : Gl X x)
    (hdb : (x == ("__debug__" : Str)) = false := by decide) : PMk X (.Call (.Name x p) [] [] pos) (fun _ H Q => Q (.ref C) none H) := by
  intro pins s σ H Q I h
  refine wpAny_Call_Name_kw (ld_glob I hg gC ?_ hdb)
  refine PySem.W.callWith_K0 I.kIn kC ?_
  obtain ⟨bm, N, nm, qn, bs, hdct, sn, sub, ab, col, dd, k0, k1, k2, k3, k5, mN, hC, hN, hni, T⟩ := exc_obj I.kIn q
  refine wpAny_call_exc_subT F T hC hN hni (fun h' e hm => ?_) (Nat.zero_le _)
  exact mk_of I hm r h (I.hok.gone hm.new)
end

/-- the same where the exception's context is told, and its record -/
theorem pmk5_own0 {X : Cx} {C : Addr} {bmB : List Value} {B newId initId : String} {x : Str} {p pos : Pos} (F : ExcBaseFacts B newId initId bmB) (q : PySem.W.excIn X.K C bmB newId = true) (gC : X.mg x = some (.ref C)) (kC : PySem.W.keepIn X.K (.ref C) = true) (r : Raises X (.ref C)) (hg : Gl X x)
    (hdb : (x == ("__debug__" : Str)) = false := by decide) : L2H.PMk5 X (.Call (.Name x p) [] [] pos) (fun _ H Q => Q (.ref C) none H) := by
  intro pins s σ H Q I h
  refine wpAny_Call_Name_kw (ld_glob I hg gC ?_ hdb)
  refine PySem.W.callWith_K0 I.kIn kC ?_
  obtain ⟨bm, N, nm, qn, bs, hdct, sn, sub, ab, col, dd, k0, k1, k2, k3, k5, mN, hC, hN, hni, T⟩ := exc_obj I.kIn q
  exact wpAny_call_exc_subT F T hC hN hni (fun h' e hm => L2H.mk_of5 I hm r h (I.hok.gone hm.new)) (Nat.zero_le _)

/-! ### the text: defs and error classes as the top has left them -/
/-- a def of the text (no defaults) under its name -/
structure DefAt (K : PySem.W.Frag) (mg : Str → Option Value) (x : Str) (st : Stmt) (ps : List Str) (f : Addr) (fd : FuncData) : Prop where
  F : Fun K x x st f fd
  g : mg x = some (.ref f)
  b : Binds K fd ps []
/-- an own error class without __init__ over the built-in class whose new is named, bm its line of bases -/
structure ErrAt (K : PySem.W.Frag) (mg : Str → Option Value) (x : Str) (bm : List Value) (newId : String) (C : Addr) : Prop where
  g : mg x = some (.ref C)
  k : PySem.W.keepIn K (.ref C) = true
  q : PySem.W.excIn K C bm newId = true
  b : PySem.W.subIn K (.ref C) (.type "BaseException") = some true
  t : PySem.W.typeIn K (.ref C) = some (.type "type")
theorem ErrAt.mk0 {X : Cx} {x : Str} {bm : List Value} {B newId initId : String} {C : Addr} {p pos : Pos} (T : ErrAt X.K X.mg x bm newId C) (F : ExcBaseFacts B newId initId bm) (hg : Gl X x) (hdb : (x == ("__debug__" : Str)) = false := by decide) :
    PMk X (.Call (.Name x p) [] [] pos) (fun _ H Q => Q (.ref C) none H) := pmk_own0 F T.q T.g T.k (raises_own T.b T.t) hg hdb
theorem ErrAt.mk5 {X : Cx} {x : Str} {bm : List Value} {B newId initId : String} {C : Addr} {p pos : Pos} (T : ErrAt X.K X.mg x bm newId C) (F : ExcBaseFacts B newId initId bm) (hg : Gl X x) (hdb : (x == ("__debug__" : Str)) = false := by decide) :
    L2H.PMk5 X (.Call (.Name x p) [] [] pos) (fun _ H Q => Q (.ref C) none H) := pmk5_own0 F T.q T.g T.k (raises_own T.b T.t) hg hdb
/-! ### what a def lets out whose exceptions have no context -/
section
variable {P : Program} {w : World} {K : PySem.W.Frag} {mg : Str → Option Value} {base : Heap} {k : Nat} {f : Addr} {fd : FuncData} {ps : List Str} {sp : Sp}
abbrev CXn (P : Program) (w : World) : CXT := L2N.CX P w
theorem cxn_up {outer : List Env} {H : Hp} {s : Shared} {E : XK} {u : Value} {s' : Shared} (h : CXn P w outer H s E u s') : L2.CX P w outer H s E u s' := by
  obtain ⟨a, B, H', cls, d, e, fl, r⟩ := h
  exact ⟨a, B, H', cls, d, e, L2H.flyingZ_imp (fun _ z => z.zc) fl, r⟩
theorem up (F : FnOk P w K mg base (CXn P w) k f fd ps sp) : FnOk P w K mg base (L2.CX P w) k f fd ps sp :=
  ⟨F.len, fun A outer s H args us vs Q E hr e0 hb hv hs => codeAny_mono (F.run A outer s H args us vs Q E hr e0 hb hv hs) fun r s' h => by
    cases r with
    | error e => exact cxn_up h
    | ok fl => cases fl <;> exact h⟩
theorem _root_.L2.Fun.okN {x qual : Str} {st : Stmt} {N : List Str} (F : Fun K x qual st f fd) (S : FnScope N ps (defScope st)) (len : ∀ vs H Q E, sp vs H Q E → vs.length = ps.length)
    (body : ∀ (cdv : Value) (A : Around) (outer : List Env) (s : Shared) (H : Hp) (vs : List V) (Q : VK) (E : XK), Room k (A.deeper (envOfC qual (defScope st) s.heap.objs.size f cdv)) → sp vs H Q E →
      ∃ t, PSs (cxOf (CXn P w) P w K mg base N qual (defScope st) f cdv A outer s H E) (defBody st) t ∧ t { nx := fun _ H' => Q .non H', rt := Q } (start N vs) H) : FnOk P w K mg base (CXn P w) (k + 1) f fd ps sp := by
  obtain ⟨oc, od, kV, doc, pm, an, cdv, ct, osl, rfl, lk, hcd⟩ := F.ex
  exact fn_of lk hcd S len fun A outer s H vs Q E hr hsp => body cdv A outer s H vs Q E hr hsp
end
theorem passN {X : Cx} : Passes (CXn X.prog X.w) X E0 := fun _ _ _ _ _ _ _ h => by
  obtain ⟨_, _, _, _, _, _, _, _, _, _, _, _, z⟩ := h
  exact z.elim
end LR
set_option Elab.async false
set_option linter.all false
set_option maxRecDepth 100000
set_option maxHeartbeats 4000000
namespace LR
open PySem PySem.Spec PyProof.Rows L2
def topS (i : Nat) : Stmt := PySem.Challenge.pw_laprunners_k06_positions_and_laps.main.body.getD i (.Pass ⟨0, 0, 0, 0⟩)
abbrev s_wall : Stmt := topS 1
abbrev s_is_integer : Stmt := topS 11
abbrev s_is_ratio : Stmt := topS 12
abbrev s_is_number : Stmt := topS 13
abbrev s_as_ratio : Stmt := topS 14
abbrev s_reduced : Stmt := topS 15
abbrev s_ratio : Stmt := topS 16
abbrev s_plus : Stmt := topS 17
abbrev s_minus : Stmt := topS 18
abbrev s_times : Stmt := topS 19
abbrev s_compare : Stmt := topS 20
abbrev s_remainder : Stmt := topS 21
abbrev s_in_order : Stmt := topS 22
abbrev s_ascending : Stmt := topS 23
abbrev s_inserted : Stmt := topS 24
abbrev s_ranked : Stmt := topS 25
abbrev s_is_name : Stmt := topS 28
abbrev s_is_positive : Stmt := topS 29
abbrev s_as_time : Stmt := topS 30
abbrev s_track_of : Stmt := topS 32
abbrev s_line : Stmt := topS 33
abbrev s_row_at : Stmt := topS 34
abbrev s_position_in : Stmt := topS 35
abbrev s_place_in : Stmt := topS 36
abbrev s_laps_in : Stmt := topS 37
abbrev cRace : Stmt := topS 41
abbrev s_track : Stmt := topS 42
abbrev s_is_runner : Stmt := topS 43
abbrev s_are_ascending : Stmt := topS 44
abbrev s_law_pool : Stmt := topS 46
abbrev s_law_draw : Stmt := topS 47
abbrev s_law_choose : Stmt := topS 48
abbrev s_law_number : Stmt := topS 49
abbrev s_law_pieces : Stmt := topS 50
abbrev s_law_race : Stmt := topS 51
abbrev s_law_line : Stmt := topS 52
abbrev s_law : Stmt := topS 53
end LR
set_option Elab.async false
set_option linter.all false
set_option maxRecDepth 100000
set_option maxHeartbeats 4000000
namespace LR
open PySem PySem.Spec PyProof.Rows L2
theorem sc_is_integer : FnScope ["value"] ["value"] (defScope s_is_integer) := ⟨rfl, rfl, rfl, by decide +kernel, rfl, by decide +kernel, by decide +kernel⟩
theorem sc_is_ratio : FnScope ["value", "top", "bottom"] ["value"] (defScope s_is_ratio) := ⟨rfl, rfl, rfl, by decide +kernel, rfl, by decide +kernel, by decide +kernel⟩
theorem sc_is_number : FnScope ["value"] ["value"] (defScope s_is_number) := ⟨rfl, rfl, rfl, by decide +kernel, rfl, by decide +kernel, by decide +kernel⟩
theorem sc_as_ratio : FnScope ["value", "top", "bottom"] ["value"] (defScope s_as_ratio) := ⟨rfl, rfl, rfl, by decide +kernel, rfl, by decide +kernel, by decide +kernel⟩
theorem sc_reduced : FnScope ["top", "bottom", "divisor"] ["top", "bottom"] (defScope s_reduced) := ⟨rfl, rfl, rfl, by decide +kernel, rfl, by decide +kernel, by decide +kernel⟩
section
variable {P : Program} {w : World} {K : PySem.W.Frag} {mg : Str → Option Value} {base : Heap}
abbrev CXl (P : Program) (w : World) : CXT := L2.CX P w
/-! ### is_integer -/
def spII (K : PySem.W.Frag) : Sp := fun vs H Q _ => ∃ (x : V) (n : String), vs = [x] ∧ Kd K H x n ∧ Q (.bl (isI x)) H
theorem ok_II {f : Addr} {fd : FuncData} (F : Fun K "is_integer" "is_integer" s_is_integer f fd) (mi : mg "isinstance" = none) (m1 : mg "int" = none) (m2 : mg "bool" = none) : FnOk P w K mg base (CXn P w) 1 f fd ["value"] (spII K) := by
  refine F.okN sc_is_integer (fun vs H Q E h => ?_) (fun cdv A outer s H vs Q E hr h => ?_)
  · obtain ⟨x, n, rfl, _⟩ := h
    rfl
  · obtain ⟨x, n, rfl, hk, q⟩ := h
    refine ⟨_, pss_one (ps_ret (pe_and (pe_callB call_isi (by rfl) mi (by decide +kernel) (pa_cons (pv 0) (pa_cons (pe_bltn (v := .ty "int") (by rfl) m1 (by decide +kernel) rfl) pa_nil)))
      (pe_one (pe_not (pe_callB call_isi (by rfl) mi (by decide +kernel) (pa_cons (pv 0) (pa_cons (pe_bltn (v := .ty "bool") (by rfl) m2 (by decide +kernel) rfl) pa_nil))))))), ?_⟩
    have e := kd_isI hk
    refine ⟨x, rfl, x, _, _, _, _, rfl, .ty "int", hk.ty, kd_int hk, _, rfl, ite2 (fun c => ?_) (fun c => ?_)⟩
    · refine ⟨x, rfl, x, _, _, _, _, rfl, .ty "bool", hk.ty, kd_bool hk, _, rfl, ?_⟩
      rw [c, Bool.true_and] at e
      rw [e]
      exact q
    · have c' := Bool.not_eq_true _ ▸ c
      rw [c', Bool.false_and] at e
      rw [e]
      exact q
/-! ### is_ratio -/
def isRef : V → Bool | .ref _ => true | _ => false
def spIR (K : PySem.W.Frag) : Sp := fun vs H Q _ => ∃ (x : V) (o : Option Rat), vs = [x] ∧ Arg K H x o ∧ Q (.bl (isRef x && o.isSome)) H
theorem ratOf_len {xs : List V} (h : xs.length ≠ 2) : ratOf xs = none := by
  match xs, h with
  | [], _ => rfl
  | [_], _ => unfold ratOf; split <;> simp_all
  | [_, _], h => exact absurd rfl h
  | _ :: _ :: _ :: _, _ => unfold ratOf; split <;> simp_all
theorem ratOf_no0 {x0 x1 : V} (h : isI x0 = false) : ratOf [x0, x1] = none := by
  unfold ratOf
  split
  · rename_i e
    cases e
    cases h
  · rfl
theorem ratOf_no1 {x0 x1 : V} (h : isI x1 = false) : ratOf [x0, x1] = none := by
  unfold ratOf
  split
  · rename_i e
    cases e
    cases h
  · rfl
theorem ratOf_ii {i j : Int} : (ratOf [.int i, .int j]).isSome = (decide (1 ≤ j) && decide (Nat.gcd i.natAbs j.natAbs = 1)) := by
  show (if 1 ≤ j ∧ Nat.gcd i.natAbs j.natAbs = 1 then some (Rat.divInt i j) else none).isSome = _
  by_cases c : 1 ≤ j
  · by_cases d : Nat.gcd i.natAbs j.natAbs = 1
    · simp [c, d]
    · simp [c, d]
  · simp [c]
theorem isSome_no {o : Option Rat} (h : o.isSome = false) : o = none := by
  cases o with
  | none => rfl
  | some _ => cases h
theorem isI_int {x : V} (h : isI x = true) : ∃ i, x = .int i := by
  cases x <;> first | exact ⟨_, rfl⟩ | cases h
theorem gcd_eq1 {i j : Int} : decide (V.int ((Nat.gcd i.natAbs j.natAbs : Nat) : Int) = V.int 1) = decide (Nat.gcd i.natAbs j.natAbs = 1) := by
  apply decide_eq_decide.mpr
  rw [V.int.injEq]
  omega
theorem len_ne2 {n : Nat} (h : n ≠ 2) : decide (V.int ((n : Nat) : Int) = V.int 2) = false := by
  rw [decide_eq_false]
  rw [V.int.injEq]
  omega
theorem ok_IR {f fI : Addr} {fd dI : FuncData} (F : Fun K "is_ratio" "is_ratio" s_is_ratio f fd) (DI : DefAt K mg "is_integer" s_is_integer ["value"] fI dI) (mi : mg "isinstance" = none) (m3 : mg "tuple" = none)
    (ml : mg "len" = none) (mgc : mg "gcd" = some (.builtin "math.gcd")) (GI : FnOk P w K mg base (CXn P w) 1 fI dI ["value"] (spII K)) : FnOk P w K mg base (CXn P w) 2 f fd ["value"] (spIR K) := by
  refine F.okN sc_is_ratio (fun vs H Q E h => ?_) (fun cdv A outer s H vs Q E hr h => ?_)
  · obtain ⟨x, n, rfl, _⟩ := h
    rfl
  · obtain ⟨x, o, rfl, ha, q⟩ := h
    refine ⟨_, pss_cons (ps_if (PW.pt (pw_or (pt_not (pt_val (pe_callB call_isi (by rfl) mi (by decide +kernel) (pa_cons (pv 0) (pa_cons (pe_bltn (v := .ty "tuple") (by rfl) m3 (by decide +kernel) rfl) pa_nil)))))
        (pw_or1 (pt_cmpR op_ne (pe_callB call_len_seq (by rfl) ml PySem.boot_len (pa_cons (pv 0) pa_nil)) pe_int (nomark _))))) (pss_one (ps_ret pe_bl)) pss_nil)
      (pss_cons (ps_asg (pv 0) (pg_tup rfl (pgs_cons (pg_name (i := 1) sc_is_ratio.nd rfl (.inl rfl)) (pgs_cons (pg_name (i := 2) sc_is_ratio.nd rfl (.inl rfl)) pgs_nil))))
      (pss_one (ps_ret (pe_and (pe_call GI hr (by rfl) DI.g DI.F.kp DI.b .nil passN (pa_cons (pv 1) pa_nil)) (pe_and (pe_call GI hr (by rfl) DI.g DI.F.kp DI.b .nil passN (pa_cons (pv 2) pa_nil))
        (pe_and (pe_cmpR op_ge (pv 2) pe_int (nomark _)) (pe_one (pe_cmpR op_eq (pe_callBfun cr_gcd (by rfl) mgc (pa_cons (pv 1) (pa_cons (pv 2) pa_nil))) pe_int (nomark _))))))))), ?_⟩
    cases ha with
    | int i =>
      refine ⟨_, rfl, _, _, _, _, _, rfl, .ty "tuple", (Kd.int i).ty, kd_tuple (H := H) (.int i), _, rfl, ?_⟩
      exact q
    | oth hk n1 n2 =>
      refine ⟨_, rfl, _, _, _, _, _, rfl, .ty "tuple", hk.ty, kd_tuple hk, _, rfl, ?_⟩
      rw [n2]
      rw [show (isRef x && (none : Option Rat).isSome) = false from Bool.and_false _] at q
      exact q
    | @tup a xs _ ht hk e =>
      refine ⟨_, rfl, _, _, _, _, _, rfl, .ty "tuple", sqt_ty ht, kd_tuple (.tup ht), _, rfl, ?_⟩
      refine ⟨.ref a, rfl, a, xs, rfl, .inr ht, rfl, _, rfl, ?_⟩
      subst e
      by_cases hl : xs.length = 2
      · obtain ⟨x0, x1, rfl⟩ : ∃ x0 x1, xs = [x0, x1] := by
          match xs, hl with
          | [x0, x1], _ => exact ⟨x0, x1, rfl⟩
        obtain ⟨n0, k0⟩ := hk rfl x0 (by simp)
        obtain ⟨n1, k1⟩ := hk rfl x1 (by simp)
        refine iteF ?_
        refine ⟨.ref a, rfl, a, _, rfl, ht, rfl, x0, _, rfl, x1, _, rfl, rfl, ?_⟩
        refine ⟨x0, rfl, x0, n0, rfl, k0, _, rfl, ?_⟩
        refine ite2 (fun c => ?_) (fun c => ?_)
        · refine ⟨x1, rfl, x1, n1, rfl, k1, _, rfl, ?_⟩
          refine ite2 (fun c1 => ?_) (fun c1 => ?_)
          · obtain ⟨i0, rfl⟩ := isI_int c
            obtain ⟨i1, rfl⟩ := isI_int c1
            rw [show isRef (.ref a) = true from rfl, Bool.true_and, ratOf_ii] at q
            refine ⟨_, rfl, i1, 1, rfl, rfl, _, rfl, ite2 (fun c => ?_) (fun c => ?_)⟩
            · have c3 : decide ((1 : Int) ≤ i1) = true := c
              refine ⟨_, rfl, _, rfl, i0, i1, rfl, rfl, ?_⟩
              rw [c3, Bool.true_and] at q
              rw [gcd_eq1]
              exact q
            · have c3 : decide ((1 : Int) ≤ i1) = false := by simpa using c
              rw [c3, Bool.false_and] at q
              exact q
          · have c2 : isI x1 = false := by simpa using c1
            rw [ratOf_no1 c2] at q
            exact q
        · have c2 : isI x0 = false := by simpa using c
          rw [ratOf_no0 c2] at q
          exact q
      · rw [ratOf_len hl] at q
        refine ite2 (fun _ => q) (fun c => absurd (by rw [len_ne2 hl]; rfl) c)
/-! ### is_number -/
def spIN (K : PySem.W.Frag) : Sp := fun vs H Q _ => ∃ (x : V) (o : Option Rat), vs = [x] ∧ Arg K H x o ∧ Q (.bl o.isSome) H
theorem Arg.kd {H : Hp} {x : V} {o : Option Rat} (h : Arg K H x o) : ∃ n, Kd K H x n := by
  cases h with
  | int i => exact ⟨_, .int i⟩
  | tup h _ _ => exact ⟨_, .tup h⟩
  | oth h _ _ => exact ⟨_, h⟩
theorem kd_noI {H : Hp} {x : V} {n : String} (h : Kd K H x n) (e : (n == "int") = false) : isI x = false := by
  cases h <;> first | rfl | cases e
theorem ok_IN {f fI fR : Addr} {fd dI dR : FuncData} (F : Fun K "is_number" "is_number" s_is_number f fd) (DI : DefAt K mg "is_integer" s_is_integer ["value"] fI dI) (DR : DefAt K mg "is_ratio" s_is_ratio ["value"] fR dR)
    (GI : FnOk P w K mg base (CXn P w) 1 fI dI ["value"] (spII K)) (GR : FnOk P w K mg base (CXn P w) 2 fR dR ["value"] (spIR K)) : FnOk P w K mg base (CXn P w) 3 f fd ["value"] (spIN K) := by
  refine F.okN sc_is_number (fun vs H Q E h => ?_) (fun cdv A outer s H vs Q E hr h => ?_)
  · obtain ⟨x, o, rfl, _⟩ := h
    rfl
  · obtain ⟨x, o, rfl, ha, q⟩ := h
    refine ⟨_, pss_one (ps_ret (pe_or (pe_call GI (hr.mono (by decide)) (by rfl) DI.g DI.F.kp DI.b .nil passN (pa_cons (pv 0) pa_nil)) (pe_one (pe_call GR hr (by rfl) DR.g DR.F.kp DR.b .nil passN (pa_cons (pv 0) pa_nil))))), ?_⟩
    obtain ⟨n, hk⟩ := ha.kd
    refine ⟨x, rfl, x, n, rfl, hk, _, rfl, ?_⟩
    cases ha with
    | int i => exact q
    | oth h1 n1 n2 =>
      rw [kd_noI h1 n1]
      refine iteF ⟨x, rfl, x, none, rfl, .oth h1 n1 n2, ?_⟩
      rw [Option.isSome_none, Bool.and_false]
      exact q
    | @tup a xs _ ht hk2 e =>
      refine iteF ⟨_, rfl, _, o, rfl, .tup ht hk2 e, ?_⟩
      rw [show isRef (.ref a) = true from rfl, Bool.true_and]
      exact q
/-! ### as_ratio -/
/-- what is promised of a def that hands back a number, or raises the error at C -/
def Gives (K : PySem.W.Frag) (C : Addr) (o : Option Rat) (H : Hp) (Q : VK) (E : XK) : Prop := match o with
  | some q => ∀ v H', Same H H' → Rn K H' v q → Q v H'
  | none => E (.ref C) none H
def spAR (K : PySem.W.Frag) (C : Addr) : Sp := fun vs H Q E => ∃ (x : V) (o : Option Rat), vs = [x] ∧ Arg K H x o ∧ Gives K C o H Q E
abbrev BMv : List Value := [.type "ValueError", .type "Exception", .type "BaseException", .type "object"]
abbrev BMa : List Value := [.type "ArithmeticError", .type "Exception", .type "BaseException", .type "object"]
theorem kd_tup_ref {H : Hp} {x : V} {n : String} (h : Kd K H x n) : decide (n = "tuple") = (n == "tuple") := by
  cases h <;> rfl
theorem kd_int_ty {H : Hp} {x : V} {n : String} (h : Kd K H x n) : decide (n = "int") = isI x := by
  cases h <;> rfl
theorem ok_AR {f fI fR C : Addr} {fd dI dR : FuncData} (F : Fun K "as_ratio" "as_ratio" s_as_ratio f fd) (DI : DefAt K mg "is_integer" s_is_integer ["value"] fI dI) (DR : DefAt K mg "is_ratio" s_is_ratio ["value"] fR dR) (X : ErrAt K mg "InvalidNumber" BMv "ValueError.__new__" C)
    (mt : mg "type" = none) (m1 : mg "int" = none) (m3 : mg "tuple" = none) (ml : mg "len" = none) (mgc : mg "gcd" = some (.builtin "math.gcd"))
    (GI : FnOk P w K mg base (CXn P w) 1 fI dI ["value"] (spII K)) (GR : FnOk P w K mg base (CXn P w) 2 fR dR ["value"] (spIR K)) : FnOk P w K mg base (CXn P w) 3 f fd ["value"] (spAR K C) := by
  refine F.okN sc_as_ratio (fun vs H Q E h => ?_) (fun cdv A outer s H vs Q E hr h => ?_)
  · obtain ⟨x, o, rfl, _⟩ := h
    rfl
  · obtain ⟨x, o, rfl, ha, q⟩ := h
    refine ⟨_, C8.pss_cut (ps_if (PW.pt (pw_and (pt_cmpR op_isTyB (pe_callTy call_type1 (by rfl) mt (by decide +kernel) (pa_cons (pv 0) pa_nil)) (pe_bltn (v := .ty "tuple") (by rfl) m3 (by decide +kernel) rfl) (nomark _))
          (pw_and1 (pt_cmpR op_eq (pe_callB call_len_seq (by rfl) ml PySem.boot_len (pa_cons (pv 0) pa_nil)) pe_int (nomark _)))))
        (pss_cons (ps_asg (pv 0) (pg_tup rfl (pgs_cons (pg_name (i := 1) sc_as_ratio.nd rfl (.inl rfl)) (pgs_cons (pg_name (i := 2) sc_as_ratio.nd rfl (.inl rfl)) pgs_nil))))
        (pss_one (ps_if (PW.pt (pw_and (pt_cmpR op_isTyB (pe_callTy call_type1 (by rfl) mt (by decide +kernel) (pa_cons (pv 1) pa_nil)) (pe_bltn (v := .ty "int") (by rfl) m1 (by decide +kernel) rfl) (nomark _))
            (pw_and (pt_cmpR op_isTyB (pe_callTy call_type1 (by rfl) mt (by decide +kernel) (pa_cons (pv 2) pa_nil)) (pe_bltn (v := .ty "int") (by rfl) m1 (by decide +kernel) rfl) (nomark _))
            (pw_and (pt_cmpR op_ge (pv 2) pe_int (nomark _)) (pw_and1 (pt_cmpR op_eq (pe_callBfun cr_gcd (by rfl) mgc (pa_cons (pv 1) (pa_cons (pv 2) pa_nil))) pe_int (nomark _)))))))
          (pss_one (ps_ret (pv 0))) pss_nil)))
        (pss_one (ps_if (pt_cmpR op_isTyB (pe_callTy call_type1 (by rfl) mt (by decide +kernel) (pa_cons (pv 0) pa_nil)) (pe_bltn (v := .ty "int") (by rfl) m1 (by decide +kernel) rfl) (nomark _))
          (pss_one (ps_ret (pe_tup (pa_cons (pv 0) (pa_cons pe_int pa_nil))))) pss_nil)))
      (pss_cons (ps_if (pt_val (pe_call GI (hr.mono (by decide)) (by rfl) DI.g DI.F.kp DI.b .nil passN (pa_cons (pv 0) pa_nil))) (pss_one (ps_ret (pe_tup (pa_cons (pv 0) (pa_cons pe_int pa_nil))))) pss_nil)
      (pss_cons (ps_if (pt_val (pe_call GR hr (by rfl) DR.g DR.F.kp DR.b .nil passN (pa_cons (pv 0) pa_nil))) (pss_one (ps_ret (pv 0))) pss_nil)
      (pss_one (L2N.ps_raise rfl (L2N.takes_of rfl rfl rfl rfl) (L2H.PMk5.pmk (X.mk5 PySem.F.excBase_ValueError rfl)))))), ?_⟩
    refine ⟨fun σ' H' => H' = H ∧ isI x = false ∧ o = none ∧ ∃ o1 o2, σ' = [some x, o1, o2], ?_, ?_⟩
    · cases ha with
      | int i =>
        refine ⟨_, rfl, _, _, rfl, (Kd.int (K := K) (H := H) i).tyB, _, _, rfl, rfl, _, rfl, ite2 (fun c => absurd c (by decide)) (fun _ => ?_)⟩
        refine ⟨_, rfl, _, _, rfl, (Kd.int (K := K) (H := H) i).tyB, _, _, rfl, rfl, _, rfl, ite2 (fun _ => ?_) (fun c => absurd (by decide) c)⟩
        refine ⟨_, rfl, by show 2 ≤ sizeLine; decide, fun p np => ?_⟩
        exact q _ _ (same_new np) (Rn.mk (q := (i : Rat)))
      | oth hk n1 n2 =>
        refine ⟨_, rfl, _, _, rfl, hk.tyB, _, _, rfl, rfl, _, rfl, ite2 (fun c => absurd c (by rw [kd_tup_ref hk, n2]; decide)) (fun _ => ?_)⟩
        refine ⟨_, rfl, _, _, rfl, hk.tyB, _, _, rfl, rfl, _, rfl, ite2 (fun c => absurd c (by rw [kd_int_ty hk, kd_noI hk n1]; decide)) (fun _ => ?_)⟩
        exact ⟨rfl, kd_noI hk n1, rfl, none, none, rfl⟩
      | @tup a xs _ ht hk e =>
        refine ⟨_, rfl, _, _, rfl, .tup ht, _, _, rfl, rfl, _, rfl, ite2 (fun _ => ?_) (fun c => absurd (by decide) c)⟩
        refine ⟨.ref a, rfl, a, xs, rfl, .inr ht, rfl, _, rfl, ?_⟩
        subst e
        by_cases hl : xs.length = 2
        · obtain ⟨x0, x1, rfl⟩ : ∃ x0 x1, xs = [x0, x1] := by
            match xs, hl with
            | [x0, x1], _ => exact ⟨x0, x1, rfl⟩
          obtain ⟨n0, k0⟩ := hk rfl x0 (by simp)
          obtain ⟨n1, k1⟩ := hk rfl x1 (by simp)
          refine iteT ?_
          refine ⟨.ref a, rfl, a, _, rfl, ht, rfl, x0, _, rfl, x1, _, rfl, rfl, ?_⟩
          refine ⟨_, rfl, _, _, rfl, k0.tyB, _, _, rfl, rfl, _, rfl, ?_⟩
          rw [kd_int_ty k0]
          refine ite2 (fun c0 => ?_) (fun c0 => ?_)
          · refine ⟨_, rfl, _, _, rfl, k1.tyB, _, _, rfl, rfl, _, rfl, ?_⟩
            rw [kd_int_ty k1]
            refine ite2 (fun c1 => ?_) (fun c1 => ?_)
            · obtain ⟨i0, rfl⟩ := isI_int c0
              obtain ⟨i1, rfl⟩ := isI_int c1
              have e2 := ratOf_ii (i := i0) (j := i1)
              refine ⟨_, rfl, i1, 1, rfl, rfl, _, rfl, ite2 (fun c => ?_) (fun c => ?_)⟩
              · have c3 : decide ((1 : Int) ≤ i1) = true := c
                refine ⟨_, rfl, _, rfl, i0, i1, rfl, rfl, _, rfl, ?_⟩
                rw [gcd_eq1]
                rw [c3, Bool.true_and] at e2
                refine ite2 (fun c => ?_) (fun c => ?_)
                · rw [c] at e2
                  obtain ⟨r, er⟩ := Option.isSome_iff_exists.mp e2
                  refine ⟨.ref a, rfl, ?_⟩
                  rw [er] at q
                  exact q _ _ (Same.refl _) ⟨a, rfl, ratOf_some er ▸ ht⟩
                · rw [Bool.eq_false_iff.mpr c] at e2
                  exact ⟨rfl, rfl, isSome_no e2, _, _, rfl⟩
              · have c3 : decide ((1 : Int) ≤ i1) = false := by simpa using c
                rw [c3, Bool.false_and] at e2
                exact ⟨rfl, rfl, isSome_no e2, _, _, rfl⟩
            · exact ⟨rfl, rfl, ratOf_no1 (by simpa using c1), _, _, rfl⟩
          · exact ⟨rfl, rfl, ratOf_no0 (by simpa using c0), _, _, rfl⟩
        · refine ite2 (fun c => absurd c (by rw [len_ne2 hl]; decide)) (fun _ => ?_)
          exact ⟨_, rfl, _, _, rfl, .tup ht, _, _, rfl, rfl, _, rfl, ite2 (fun c => absurd c (by decide)) (fun _ => ⟨rfl, rfl, ratOf_len hl, none, none, rfl⟩)⟩
    · rintro σ' H' ⟨rfl, e1, rfl, o1, o2, rfl⟩
      obtain ⟨n, hk⟩ := ha.kd
      refine ⟨x, rfl, x, n, rfl, hk, _, rfl, ?_⟩
      rw [e1]
      refine iteF ⟨x, rfl, x, none, rfl, ha, _, rfl, ?_⟩
      exact ite2 (fun c => absurd c (by simp)) (fun _ => q)
end
end LR
set_option Elab.async false
set_option linter.all false
set_option maxRecDepth 100000
set_option maxHeartbeats 4000000
set_option exponentiation.threshold 100000
namespace LR
open PySem PySem.Spec PyProof.Rows L2
/-! ### sizes of products -/
theorem p78 : 2 ^ 7800 < 2 ^ 8000 := Nat.pow_lt_pow_right (by decide) (by decide)
theorem wm {x y : Int} (hx : x.natAbs < 2 ^ 3900) (hy : y.natAbs < 2 ^ 3900) : CMulW x y := wide_mul hx hy (by decide) (by decide) (by decide)
theorem szM {x y : Int} (hx : x.natAbs < 2 ^ 3900) (hy : y.natAbs < 2 ^ 3900) : (x * y).natAbs < 2 ^ 7800 := wide_lt hx hy
theorem szA {x y : Int} (hx : x.natAbs < 2 ^ 7800) (hy : y.natAbs < 2 ^ 7800) : (x + y).natAbs < 2 ^ 8000 :=
  Nat.lt_trans (Nat.lt_of_le_of_lt (Int.natAbs_add_le _ _) (add_lt hx hy)) (Nat.pow_lt_pow_right (by decide) (by decide))
theorem szB {x y : Int} (hx : x.natAbs < 2 ^ 7800) (hy : y.natAbs < 2 ^ 7800) : (x - y).natAbs < 2 ^ 8000 := by
  rw [Int.sub_eq_add_neg]
  exact szA hx (by rw [Int.natAbs_neg]; exact hy)
theorem sdiv_pos {n d : Int} (hd : 0 < d) : sdiv n d = ((Nat.gcd n.natAbs d.natAbs : Nat) : Int) := by
  unfold sdiv
  rw [if_neg (by omega)]
theorem fdiv_one (n : Int) : n.fdiv 1 = n := by
  rw [Int.fdiv_eq_ediv_of_nonneg _ (by decide), Int.ediv_one]
theorem den_pos2 (p q : Rat) : (0 : Int) < (p.den : Int) * q.den := by
  have h1 := den_pos p
  have h2 := den_pos q
  exact Int.mul_pos (by omega) (by omega)
section
variable {P : Program} {w : World} {K : PySem.W.Frag} {mg : Str → Option Value} {base : Heap}
/-! ### reduced -/
def spRd (K : PySem.W.Frag) : Sp := fun vs H Q _ => ∃ n d : Int, vs = [.int n, .int d] ∧ 0 < d ∧ (n.natAbs < 2 ^ 8000 ∧ d.natAbs < 2 ^ 8000) ∧ ∀ v H', Same H H' → Rn K H' v (Rat.divInt n d) → Q v H'
theorem ok_Rd {f : Addr} {fd : FuncData} (F : Fun K "reduced" "reduced" s_reduced f fd) (mgc : mg "gcd" = some (.builtin "math.gcd")) : FnOk P w K mg base (CXn P w) 1 f fd ["top", "bottom"] (spRd K) := by
  refine F.okN sc_reduced (fun vs H Q E h => ?_) (fun cdv A outer s H vs Q E hr h => ?_)
  · obtain ⟨n, d, rfl, _⟩ := h
    rfl
  · obtain ⟨n, d, rfl, hd, ⟨hn, hdd⟩, q⟩ := h
    refine ⟨_, pss_cons (ps_set (i := 2) sc_reduced.nd rfl (.inl rfl) (pe_callBfun cr_gcd (by rfl) mgc (pa_cons (pv 0) (pa_cons (pv 1) pa_nil))))
      (pss_cons (ps_if (pt_cmpR op_eq (pv 2) pe_int (nomark _)) (pss_one (ps_ret (pe_tup (pa_cons (pv 0) (pa_cons (pv 1) pa_nil))))) pss_nil)
      (pss_one (ps_ret (pe_tup (pa_cons (pe_op op_fdivA (pv 0) (pv 2)) (pa_cons (pe_op op_fdivA (pv 1) (pv 2)) pa_nil)))))), ?_⟩
    have hd0 : d ≠ 0 := by omega
    have e1 := sdiv_num (n := n) hd0
    have e2 := sdiv_den (n := n) hd0
    have g0 := gcd_pos (n := n) hd0
    have gl := Nat.gcd_le_right n.natAbs (Int.natAbs_pos.mpr hd0)
    rw [sdiv_pos hd] at e1 e2
    refine ⟨_, rfl, _, rfl, n, d, rfl, ?_⟩
    refine ⟨_, rfl, rfl, _, rfl, ?_⟩
    rw [gcd_eq1]
    refine ite2 (fun c => ?_) (fun c => ?_)
    · have c1 : Nat.gcd n.natAbs d.natAbs = 1 := of_decide_eq_true c
      rw [c1] at e1 e2
      rw [show ((1 : Nat) : Int) = 1 from rfl, fdiv_one] at e1 e2
      refine ⟨_, rfl, _, rfl, by show 2 ≤ sizeLine; decide, fun p np => ?_⟩
      show Q (.ref p) (upd H p (.tup [.int n, .int d]))
      have er : [V.int n, V.int d] = rt (Rat.divInt n d) := by
        show [V.int n, V.int d] = [V.int (Rat.divInt n d).num, V.int ((Rat.divInt n d).den : Int)]
        rw [← e1, ← e2]
      rw [er]
      exact q _ _ (same_new np) Rn.mk
    · have c : ∀ i, CDivA i ((Nat.gcd n.natAbs d.natAbs : Nat) : Int) := fun i => divA (b := 8000) (by omega) (by rw [Int.natAbs_natCast]; omega) (by decide) (by decide)
      refine ⟨_, rfl, _, rfl, n, _, rfl, rfl, c n, _, rfl, _, rfl, d, _, rfl, rfl, c d, by show 2 ≤ sizeLine; decide, fun p np => ?_⟩
      show Q (.ref p) (upd H p (.tup [.int (n.fdiv ((Nat.gcd n.natAbs d.natAbs : Nat) : Int)), .int (d.fdiv ((Nat.gcd n.natAbs d.natAbs : Nat) : Int))]))
      rw [e1, e2]
      exact q _ _ (same_new np) Rn.mk
/-- of two numbers: a number, where they are numbers (and not too great); else the error -/
def Gives2 (K : PySem.W.Frag) (C : Addr) (f : Rat → Rat → Rat) (o1 o2 : Option Rat) (H : Hp) (Q : VK) (E : XK) : Prop := match o1, o2 with
  | some p, some q => (Sz 3900 p ∧ Sz 3900 q) ∧ ∀ v H', Same H H' → Rn K H' v (f p q) → Q v H'
  | _, _ => ∀ H', Same H H' → E (.ref C) none H'
def spTwo (K : PySem.W.Frag) (C : Addr) (f : Rat → Rat → Rat) : Sp := fun vs H Q E => ∃ (x y : V) (o1 o2 : Option Rat), vs = [x, y] ∧ Arg K H x o1 ∧ Arg K H y o2 ∧ Gives2 K C f o1 o2 H Q E

theorem sc_plus : FnScope ["first", "second", "top", "bottom", "other_top", "other_bottom"] ["first", "second"] (defScope s_plus) := ⟨rfl, rfl, rfl, by decide +kernel, rfl, by decide +kernel, by decide +kernel⟩
abbrev sp_plus (K : PySem.W.Frag) (C : Addr) : Sp := spTwo K C (fun p q => p + q)
theorem ok_plus {f fA fR C : Addr} {fd dA dR : FuncData} (D : DefAt K mg "plus" s_plus ["first", "second"] f fd) (DA : DefAt K mg "as_ratio" s_as_ratio ["value"] fA dA) (DR : DefAt K mg "reduced" s_reduced ["top", "bottom"] fR dR)
    (GA : FnOk P w K mg base (CXn P w) 3 fA dA ["value"] (spAR K C)) (GR : FnOk P w K mg base (CXn P w) 1 fR dR ["top", "bottom"] (spRd K)) : FnOk P w K mg base (CXn P w) 4 f fd ["first", "second"] (sp_plus K C) := by
  refine D.F.okN sc_plus (fun vs H Q E h => ?_) (fun cdv A outer s H vs Q E hr h => ?_)
  · obtain ⟨x, y, o1, o2, rfl, _⟩ := h
    rfl
  · obtain ⟨x, y, o1, o2, rfl, h1, h2, q⟩ := h
    refine ⟨_, pss_cons (ps_asg (pe_call GA hr (by rfl) DA.g DA.F.kp DA.b .nil (L2N.passes_call (L2N.takes_of rfl rfl rfl rfl) fun _ _ _ _ h => h) (pa_cons (pv 0) pa_nil)) (pg_tup (by rfl) (pgs_cons (pg_name (i := 2) sc_plus.nd rfl (.inl rfl)) (pgs_cons (pg_name (i := 3) sc_plus.nd rfl (.inl rfl)) pgs_nil))))
      (pss_cons (ps_asg (pe_call GA hr (by rfl) DA.g DA.F.kp DA.b .nil (L2N.passes_call (L2N.takes_of rfl rfl rfl rfl) fun _ _ _ _ h => h) (pa_cons (pv 1) pa_nil)) (pg_tup (by rfl) (pgs_cons (pg_name (i := 4) sc_plus.nd rfl (.inl rfl)) (pgs_cons (pg_name (i := 5) sc_plus.nd rfl (.inl rfl)) pgs_nil))))
      (pss_one (ps_ret (pe_call GR (hr.mono (by decide)) (by rfl) DR.g DR.F.kp DR.b .nil passN (pa_cons (pe_op op_add (pe_op op_mulW (pv 2) (pv 5)) (pe_op op_mulW (pv 4) (pv 3))) (pa_cons (pe_op op_mulW (pv 3) (pv 5)) pa_nil)))))), ?_⟩
    refine ⟨x, rfl, x, o1, rfl, h1, ?_⟩
    cases o1 with
    | none => cases o2 <;> exact q H (Same.refl _)
    | some p =>
      intro v1 H1 s1 r1
      obtain ⟨a, rfl, t1⟩ := r1
      refine ⟨a, rt p, rfl, t1, rfl, .int p.num, _, rfl, .int p.den, _, rfl, rfl, ?_⟩
      refine ⟨y, rfl, y, o2, rfl, h2.same s1, ?_⟩
      cases o2 with
      | none => exact q H1 s1
      | some q' =>
        obtain ⟨⟨hp, hq⟩, q⟩ := q
        intro v2 H2 s2 r2
        obtain ⟨b, rfl, t2⟩ := r2
        refine ⟨b, rt q', rfl, t2, rfl, .int q'.num, _, rfl, .int q'.den, _, rfl, rfl, ?_⟩
        refine ⟨_, rfl, _, rfl, _, _, rfl, rfl, wm hp.1 hq.2, _, rfl, _, rfl, _, _, rfl, rfl, wm hq.1 hp.2, _, _, rfl, rfl, _, rfl, _, rfl, _, _, rfl, rfl, wm hp.2 hq.2, ?_⟩
        refine ⟨_, _, rfl, den_pos2 p q', ⟨?_, Nat.lt_trans (szM hp.2 hq.2) p78⟩, fun v H' s' r => ?_⟩
        · exact szA (szM hp.1 hq.2) (szM hq.1 hp.2)
        · rw [← add_as p q'] at r
          exact q v H' ((s1.trans s2).trans s') r

theorem sc_minus : FnScope ["first", "second", "top", "bottom", "other_top", "other_bottom"] ["first", "second"] (defScope s_minus) := ⟨rfl, rfl, rfl, by decide +kernel, rfl, by decide +kernel, by decide +kernel⟩
abbrev sp_minus (K : PySem.W.Frag) (C : Addr) : Sp := spTwo K C (fun p q => p - q)
theorem ok_minus {f fA fR C : Addr} {fd dA dR : FuncData} (D : DefAt K mg "minus" s_minus ["first", "second"] f fd) (DA : DefAt K mg "as_ratio" s_as_ratio ["value"] fA dA) (DR : DefAt K mg "reduced" s_reduced ["top", "bottom"] fR dR)
    (GA : FnOk P w K mg base (CXn P w) 3 fA dA ["value"] (spAR K C)) (GR : FnOk P w K mg base (CXn P w) 1 fR dR ["top", "bottom"] (spRd K)) : FnOk P w K mg base (CXn P w) 4 f fd ["first", "second"] (sp_minus K C) := by
  refine D.F.okN sc_minus (fun vs H Q E h => ?_) (fun cdv A outer s H vs Q E hr h => ?_)
  · obtain ⟨x, y, o1, o2, rfl, _⟩ := h
    rfl
  · obtain ⟨x, y, o1, o2, rfl, h1, h2, q⟩ := h
    refine ⟨_, pss_cons (ps_asg (pe_call GA hr (by rfl) DA.g DA.F.kp DA.b .nil (L2N.passes_call (L2N.takes_of rfl rfl rfl rfl) fun _ _ _ _ h => h) (pa_cons (pv 0) pa_nil)) (pg_tup (by rfl) (pgs_cons (pg_name (i := 2) sc_minus.nd rfl (.inl rfl)) (pgs_cons (pg_name (i := 3) sc_minus.nd rfl (.inl rfl)) pgs_nil))))
      (pss_cons (ps_asg (pe_call GA hr (by rfl) DA.g DA.F.kp DA.b .nil (L2N.passes_call (L2N.takes_of rfl rfl rfl rfl) fun _ _ _ _ h => h) (pa_cons (pv 1) pa_nil)) (pg_tup (by rfl) (pgs_cons (pg_name (i := 4) sc_minus.nd rfl (.inl rfl)) (pgs_cons (pg_name (i := 5) sc_minus.nd rfl (.inl rfl)) pgs_nil))))
      (pss_one (ps_ret (pe_call GR (hr.mono (by decide)) (by rfl) DR.g DR.F.kp DR.b .nil passN (pa_cons (pe_op op_sub (pe_op op_mulW (pv 2) (pv 5)) (pe_op op_mulW (pv 4) (pv 3))) (pa_cons (pe_op op_mulW (pv 3) (pv 5)) pa_nil)))))), ?_⟩
    refine ⟨x, rfl, x, o1, rfl, h1, ?_⟩
    cases o1 with
    | none => cases o2 <;> exact q H (Same.refl _)
    | some p =>
      intro v1 H1 s1 r1
      obtain ⟨a, rfl, t1⟩ := r1
      refine ⟨a, rt p, rfl, t1, rfl, .int p.num, _, rfl, .int p.den, _, rfl, rfl, ?_⟩
      refine ⟨y, rfl, y, o2, rfl, h2.same s1, ?_⟩
      cases o2 with
      | none => exact q H1 s1
      | some q' =>
        obtain ⟨⟨hp, hq⟩, q⟩ := q
        intro v2 H2 s2 r2
        obtain ⟨b, rfl, t2⟩ := r2
        refine ⟨b, rt q', rfl, t2, rfl, .int q'.num, _, rfl, .int q'.den, _, rfl, rfl, ?_⟩
        refine ⟨_, rfl, _, rfl, _, _, rfl, rfl, wm hp.1 hq.2, _, rfl, _, rfl, _, _, rfl, rfl, wm hq.1 hp.2, _, _, rfl, rfl, _, rfl, _, rfl, _, _, rfl, rfl, wm hp.2 hq.2, ?_⟩
        refine ⟨_, _, rfl, den_pos2 p q', ⟨?_, Nat.lt_trans (szM hp.2 hq.2) p78⟩, fun v H' s' r => ?_⟩
        · exact szB (szM hp.1 hq.2) (szM hq.1 hp.2)
        · rw [← sub_as p q'] at r
          exact q v H' ((s1.trans s2).trans s') r

theorem sc_times : FnScope ["first", "second", "top", "bottom", "other_top", "other_bottom"] ["first", "second"] (defScope s_times) := ⟨rfl, rfl, rfl, by decide +kernel, rfl, by decide +kernel, by decide +kernel⟩
abbrev sp_times (K : PySem.W.Frag) (C : Addr) : Sp := spTwo K C (fun p q => p * q)
theorem ok_times {f fA fR C : Addr} {fd dA dR : FuncData} (D : DefAt K mg "times" s_times ["first", "second"] f fd) (DA : DefAt K mg "as_ratio" s_as_ratio ["value"] fA dA) (DR : DefAt K mg "reduced" s_reduced ["top", "bottom"] fR dR)
    (GA : FnOk P w K mg base (CXn P w) 3 fA dA ["value"] (spAR K C)) (GR : FnOk P w K mg base (CXn P w) 1 fR dR ["top", "bottom"] (spRd K)) : FnOk P w K mg base (CXn P w) 4 f fd ["first", "second"] (sp_times K C) := by
  refine D.F.okN sc_times (fun vs H Q E h => ?_) (fun cdv A outer s H vs Q E hr h => ?_)
  · obtain ⟨x, y, o1, o2, rfl, _⟩ := h
    rfl
  · obtain ⟨x, y, o1, o2, rfl, h1, h2, q⟩ := h
    refine ⟨_, pss_cons (ps_asg (pe_call GA hr (by rfl) DA.g DA.F.kp DA.b .nil (L2N.passes_call (L2N.takes_of rfl rfl rfl rfl) fun _ _ _ _ h => h) (pa_cons (pv 0) pa_nil)) (pg_tup (by rfl) (pgs_cons (pg_name (i := 2) sc_times.nd rfl (.inl rfl)) (pgs_cons (pg_name (i := 3) sc_times.nd rfl (.inl rfl)) pgs_nil))))
      (pss_cons (ps_asg (pe_call GA hr (by rfl) DA.g DA.F.kp DA.b .nil (L2N.passes_call (L2N.takes_of rfl rfl rfl rfl) fun _ _ _ _ h => h) (pa_cons (pv 1) pa_nil)) (pg_tup (by rfl) (pgs_cons (pg_name (i := 4) sc_times.nd rfl (.inl rfl)) (pgs_cons (pg_name (i := 5) sc_times.nd rfl (.inl rfl)) pgs_nil))))
      (pss_one (ps_ret (pe_call GR (hr.mono (by decide)) (by rfl) DR.g DR.F.kp DR.b .nil passN (pa_cons (pe_op op_mulW (pv 2) (pv 4)) (pa_cons (pe_op op_mulW (pv 3) (pv 5)) pa_nil)))))), ?_⟩
    refine ⟨x, rfl, x, o1, rfl, h1, ?_⟩
    cases o1 with
    | none => cases o2 <;> exact q H (Same.refl _)
    | some p =>
      intro v1 H1 s1 r1
      obtain ⟨a, rfl, t1⟩ := r1
      refine ⟨a, rt p, rfl, t1, rfl, .int p.num, _, rfl, .int p.den, _, rfl, rfl, ?_⟩
      refine ⟨y, rfl, y, o2, rfl, h2.same s1, ?_⟩
      cases o2 with
      | none => exact q H1 s1
      | some q' =>
        obtain ⟨⟨hp, hq⟩, q⟩ := q
        intro v2 H2 s2 r2
        obtain ⟨b, rfl, t2⟩ := r2
        refine ⟨b, rt q', rfl, t2, rfl, .int q'.num, _, rfl, .int q'.den, _, rfl, rfl, ?_⟩
        refine ⟨_, rfl, _, rfl, _, _, rfl, rfl, wm hp.1 hq.1, _, rfl, _, rfl, _, _, rfl, rfl, wm hp.2 hq.2, ?_⟩
        refine ⟨_, _, rfl, den_pos2 p q', ⟨?_, Nat.lt_trans (szM hp.2 hq.2) p78⟩, fun v H' s' r => ?_⟩
        · exact Nat.lt_trans (szM hp.1 hq.1) p78
        · rw [← mul_as p q'] at r
          exact q v H' ((s1.trans s2).trans s') r

/-! ### divided -/
def GivesDiv (K : PySem.W.Frag) (C C2 : Addr) (o1 o2 : Option Rat) (H : Hp) (Q : VK) (E : XK) : Prop := match o1, o2 with
  | some p, some q => (Sz 3900 p ∧ Sz 3900 q) ∧ (q = 0 → ∀ H', Same H H' → E (.ref C2) none H') ∧ (q ≠ 0 → ∀ v H', Same H H' → Rn K H' v (p / q) → Q v H')
  | _, _ => ∀ H', Same H H' → E (.ref C) none H'
def sp_divided (K : PySem.W.Frag) (C C2 : Addr) : Sp := fun vs H Q E => ∃ (x y : V) (o1 o2 : Option Rat), vs = [x, y] ∧ Arg K H x o1 ∧ Arg K H y o2 ∧ GivesDiv K C C2 o1 o2 H Q E
theorem negs {a b : Int} (hb : b ≠ 0) : Rat.divInt (-a) (-b) = Rat.divInt a b := by
  rw [Rat.divInt_eq_div, Rat.divInt_eq_div]
  have h : (b : Rat) ≠ 0 := by
    intro e
    exact hb (Rat.intCast_eq_zero_iff.mp e)
  rw [Rat.intCast_neg, Rat.intCast_neg]
  grind
/-! ### floor_of -/
def GivesF (K : PySem.W.Frag) (C : Addr) (o1 : Option Rat) (H : Hp) (Q : VK) (E : XK) : Prop := match o1 with
  | some p => Sz 8000 p ∧ ∀ H', Same H H' → Q (.int p.floor) H'
  | none => ∀ H', Same H H' → E (.ref C) none H'
def sp_floor (K : PySem.W.Frag) (C : Addr) : Sp := fun vs H Q E => ∃ (x : V) (o1 : Option Rat), vs = [x] ∧ Arg K H x o1 ∧ GivesF K C o1 H Q E
/-! ### is_positive -/
theorem sc_is_positive : FnScope ["value"] ["value"] (defScope s_is_positive) := ⟨rfl, rfl, rfl, by decide +kernel, rfl, by decide +kernel, by decide +kernel⟩
def isPos : Option Rat → Bool | some q => decide (0 < q) | none => false
def spPosi (K : PySem.W.Frag) : Sp := fun vs H Q _ => ∃ (x : V) (o : Option Rat), vs = [x] ∧ Arg K H x o ∧ ∀ H', Same H H' → Q (.bl (isPos o)) H'
theorem ok_Posi {f fN fA C : Addr} {fd dN dA : FuncData} (D : DefAt K mg "is_positive" s_is_positive ["value"] f fd) (DN : DefAt K mg "is_number" s_is_number ["value"] fN dN) (DA : DefAt K mg "as_ratio" s_as_ratio ["value"] fA dA)
    (GN : FnOk P w K mg base (CXn P w) 3 fN dN ["value"] (spIN K)) (GA : FnOk P w K mg base (CXn P w) 3 fA dA ["value"] (spAR K C)) : FnOk P w K mg base (CXn P w) 4 f fd ["value"] (spPosi K) := by
  refine D.F.okN sc_is_positive (fun vs H Q E h => ?_) (fun cdv A outer s H vs Q E hr h => ?_)
  · obtain ⟨x, o, rfl, _⟩ := h
    rfl
  · obtain ⟨x, o, rfl, ha, q⟩ := h
    refine ⟨_, pss_one (ps_ret (pe_and (pe_call GN hr (by rfl) DN.g DN.F.kp DN.b .nil passN (pa_cons (pv 0) pa_nil))
      (pe_one (pe_cmpR op_gt (pe_ix (r := rIxT K) ix_tup (pe_call GA hr (by rfl) DA.g DA.F.kp DA.b .nil passN (pa_cons (pv 0) pa_nil)) pe_int (fun _ _ => rfl)) pe_int (nomark _))))), ?_⟩
    refine ⟨x, rfl, x, o, rfl, ha, _, rfl, ?_⟩
    cases o with
    | none => exact iteF (q H (Same.refl _))
    | some p =>
      refine iteT ⟨x, rfl, x, some p, rfl, ha, fun v1 H1 s1 r1 => ?_⟩
      obtain ⟨a, rfl, t1⟩ := r1
      refine ⟨a, _, 0, .int p.num, rfl, rfl, t1, atI_nat (j := 0) rfl, _, _, rfl, rfl, ?_⟩
      have e : decide ((0 : Int) < p.num) = isPos (some p) := by
        show _ = decide (0 < p)
        rw [decide_eq_decide]
        exact num_pos_iff
      show Q (.bl (decide ((0 : Int) < p.num))) H1
      rw [e]
      exact q H1 s1
/-! ### as_time -/
/-- a class that an except clause names -/
structure ErrM (K : PySem.W.Frag) (C : Addr) : Prop where
  d : PySem.W.hasDictIn K C = true
  s : PySem.W.subIn K (.ref C) (.ref C) = some true
theorem sc_as_time : FnScope ["value", "time"] ["value"] (defScope s_as_time) := ⟨rfl, rfl, rfl, by decide +kernel, rfl, by decide +kernel, by decide +kernel⟩
def GivesT (K : PySem.W.Frag) (C : Addr) (o : Option Rat) (H : Hp) (Q : VK) (E : XK) : Prop := match o with
  | some q => (q < 0 → ∀ H', Same H H' → E (.ref C) none H') ∧ (0 ≤ q → ∀ v H', Same H H' → Rn K H' v q → Q v H')
  | none => ∀ H', Same H H' → E (.ref C) none H'
def spTime (K : PySem.W.Frag) (C : Addr) : Sp := fun vs H Q E => ∃ (x : V) (o : Option Rat), vs = [x] ∧ Arg K H x o ∧ GivesT K C o H Q E
theorem ok_Time {f fA C CT : Addr} {fd dA : FuncData} (D : DefAt K mg "as_time" s_as_time ["value"] f fd) (DA : DefAt K mg "as_ratio" s_as_ratio ["value"] fA dA) (X : ErrAt K mg "InvalidNumber" BMv "ValueError.__new__" C) (XM : ErrM K C) (XT : ErrAt K mg "InvalidTime" BMv "ValueError.__new__" CT)
    (GA : FnOk P w K mg base (CXn P w) 3 fA dA ["value"] (spAR K C)) : FnOk P w K mg base (CXl P w) 4 f fd ["value"] (spTime K CT) := by
  refine D.F.okX sc_as_time (fun vs H Q E h => ?_) (fun cdv A outer s H vs Q E hr h => ?_)
  · obtain ⟨x, o, rfl, _⟩ := h
    rfl
  · obtain ⟨x, o, rfl, ha, q⟩ := h
    refine ⟨_, pss_cons (L2H.ps_try_onlyX (Wout := fun cls d _ H => E cls d H) rfl rfl ⟨rfl, by decide, .inl X.g⟩ (L2H.passesAt_of rfl) (takes_of rfl rfl rfl rfl)
        (fun W pn xe tk _ _ => pss_one (ps_asg (pe_callS GA hr (by rfl) DA.g DA.F.kp DA.b (fun σ => L2N.passAt tk σ) (pa_cons (pv 0) pa_nil)) (pg_name (i := 1) sc_as_time.nd rfl (.inl rfl))))
        (fun a oe cls d pn _ _ tkS hot => pss_one (L2H.ps_raiseHN hot tkS (XT.mk5 PySem.F.excBase_ValueError rfl))))
      (pss_cons (ps_if (pt_cmpR op_lt (pe_ix (r := rIxT K) ix_tup (pv 1) pe_int (fun _ _ => rfl)) pe_int (nomark _)) (pss_one (ps_raise rfl (takes_of rfl rfl rfl rfl) (XT.mk0 PySem.F.excBase_ValueError rfl))) pss_nil)
      (pss_one (ps_ret (pv 1)))), ?_⟩
    refine ⟨x, rfl, x, o, rfl, ha, ?_⟩
    cases o with
    | none => exact ⟨true, PySem.W.exm_ref X.b XM.d X.t XM.s, fun _ a ha => q H (Same.refl _), fun z => nomatch z⟩
    | some p =>
      obtain ⟨qn, qp⟩ := q
      intro v1 H1 s1 r1
      obtain ⟨a, rfl, t1⟩ := id r1
      refine ⟨.ref a, rfl, a, _, 0, .int p.num, rfl, rfl, t1, atI_nat (j := 0) rfl, _, _, rfl, rfl, _, rfl, ite2 (fun c => ?_) (fun c => ?_)⟩
      · exact qn (num_neg_iff.mp (of_decide_eq_true c)) H1 s1
      · have c1 : ¬ p.num < 0 := fun z => c (decide_eq_true z)
        exact ⟨.ref a, rfl, qp (Rat.not_lt.mp fun z => c1 (num_neg_iff.mpr z)) _ H1 s1 r1⟩
end
end LR
set_option Elab.async false
set_option linter.all false
set_option maxRecDepth 100000
set_option maxHeartbeats 4000000
namespace LR
open PySem PySem.Spec PyProof.Rows L2
theorem sc_ratio : FnScope ["numerator", "denominator"] ["numerator", "denominator"] (defScope s_ratio) := ⟨rfl, rfl, rfl, by decide +kernel, rfl, by decide +kernel, by decide +kernel⟩
section
variable {P : Program} {w : World} {K : PySem.W.Frag} {mg : Str → Option Value} {base : Heap}
/-! ### ratio -/
/-- a def with defaults, its positional binding -/
structure DefD (K : PySem.W.Frag) (mg : Str → Option Value) (x : Str) (st : Stmt) (ps : List Str) (dvs : List V) (f : Addr) (fd : FuncData) : Prop where
  F : FunD K x x (defArgs st) (defBody st) (defScope st) dvs [] f fd
  g : mg x = some (.ref f)
  b : Binds K fd ps []
/-- what is promised of ratio(x, y) -/
def GivesR (K : PySem.W.Frag) (C1 C2 : Addr) (x y : V) (H : Hp) (Q : VK) (E : XK) : Prop := match x, y with
  | .int n, .int d => if d = 0 then E (.ref C2) none H else (n.natAbs < 2 ^ 8000 ∧ d.natAbs < 2 ^ 8000) ∧ ∀ v H', Same H H' → Rn K H' v (Rat.divInt n d) → Q v H'
  | _, _ => E (.ref C1) none H
def spRatio (K : PySem.W.Frag) (C1 C2 : Addr) : Sp := fun vs H Q E => ∃ (x y : V) (n m : String), vs = [x, y] ∧ Kd K H x n ∧ Kd K H y m ∧ GivesR K C1 C2 x y H Q E
theorem givesR_ok {C1 C2 : Addr} {n d : Int} {H : Hp} {Q : VK} {E : XK} (hd : d ≠ 0) (h1 : n.natAbs < 2 ^ 8000) (h2 : d.natAbs < 2 ^ 8000) (q : ∀ v H', Same H H' → Rn K H' v (Rat.divInt n d) → Q v H') : GivesR K C1 C2 (.int n) (.int d) H Q E := by
  show if d = 0 then _ else _
  rw [if_neg hd]
  exact ⟨⟨h1, h2⟩, q⟩
theorem givesR_z {C1 C2 : Addr} {n d : Int} {H : Hp} {Q : VK} {E : XK} (hd : d = 0) (q : E (.ref C2) none H) : GivesR K C1 C2 (.int n) (.int d) H Q E := by
  show if d = 0 then _ else _
  rw [if_pos hd]
  exact q
theorem givesR_l {C1 C2 : Addr} {x y : V} {H : Hp} {Q : VK} {E : XK} (h : isI x = false) (q : GivesR K C1 C2 x y H Q E) : E (.ref C1) none H := by
  cases x <;> first | exact q | cases h
theorem givesR_r {C1 C2 : Addr} {x y : V} {H : Hp} {Q : VK} {E : XK} (h : isI y = false) (q : GivesR K C1 C2 x y H Q E) : E (.ref C1) none H := by
  cases x <;> first | exact q | (cases y <;> first | exact q | cases h)
theorem ok_Ratio {f fI fR C1 C2 : Addr} {fd dI dR : FuncData} (D : DefD K mg "ratio" s_ratio ["numerator", "denominator"] [.int 1] f fd) (DI : DefAt K mg "is_integer" s_is_integer ["value"] fI dI) (DR : DefAt K mg "reduced" s_reduced ["top", "bottom"] fR dR) (X1 : ErrAt K mg "InvalidNumber" BMv "ValueError.__new__" C1) (X2 : ErrAt K mg "DivisionByZero" BMa "ArithmeticError.__new__" C2)
    (GI : FnOk P w K mg base (CXl P w) 1 fI dI ["value"] (spII K)) (GR : FnOk P w K mg base (CXl P w) 1 fR dR ["top", "bottom"] (spRd K)) : FnOk P w K mg base (CXl P w) 2 f fd ["numerator", "denominator"] (spRatio K C1 C2) := by
  refine D.F.ok sc_ratio (fun vs H Q E h => ?_) (fun cdv A outer s H vs Q E hr h => ?_)
  · obtain ⟨x, y, _, _, rfl, _⟩ := h
    rfl
  · obtain ⟨x, y, kn, km, rfl, k1, k2, q⟩ := h
    refine ⟨_, pss_cons (ps_if (PW.pt (pw_or (pt_not (pt_val (pe_call GI hr (by rfl) DI.g DI.F.kp DI.b .nil passL (pa_cons (pv 0) pa_nil))))
        (pw_or1 (pt_not (pt_val (pe_call GI hr (by rfl) DI.g DI.F.kp DI.b .nil passL (pa_cons (pv 1) pa_nil))))))) (pss_one (ps_raise rfl (takes_of rfl rfl rfl rfl) (X1.mk0 PySem.F.excBase_ValueError rfl))) pss_nil)
      (pss_cons (ps_if (pt_cmpR op_eq (pv 1) pe_int (nomark _)) (pss_one (ps_raise rfl (takes_of rfl rfl rfl rfl) (X2.mk0 PySem.F.excBase_ArithmeticError rfl))) pss_nil)
      (pss_cons (ps_if (pt_cmpR op_lt (pv 1) pe_int (nomark _)) (pss_one (ps_ret (pe_call GR hr (by rfl) DR.g DR.F.kp DR.b .nil passL (pa_cons (pe_un un_neg (pv 0)) (pa_cons (pe_un un_neg (pv 1)) pa_nil))))) pss_nil)
      (pss_one (ps_ret (pe_call GR hr (by rfl) DR.g DR.F.kp DR.b .nil passL (pa_cons (pv 0) (pa_cons (pv 1) pa_nil))))))), ?_⟩
    refine ⟨_, rfl, _, kn, rfl, k1, _, rfl, ?_⟩
    by_cases i1 : isI x = true
    · obtain ⟨n, rfl⟩ := isI_int i1
      refine iteF ⟨_, rfl, _, km, rfl, k2, _, rfl, ?_⟩
      by_cases i2 : isI y = true
      · obtain ⟨d, rfl⟩ := isI_int i2
        refine iteF ⟨_, rfl, rfl, _, rfl, ?_⟩
        by_cases hd : d = 0
        · subst hd
          refine ite2 (fun _ => q) (fun c => absurd (decide_eq_true rfl) c)
        have q' : (n.natAbs < 2 ^ 8000 ∧ d.natAbs < 2 ^ 8000) ∧ ∀ v H', Same H H' → Rn K H' v (Rat.divInt n d) → Q v H' := by
          have q0 : if d = 0 then _ else _ := q
          rw [if_neg hd] at q0
          exact q0
        obtain ⟨⟨hn, hdd⟩, q⟩ := q'
        refine ite2 (fun c => absurd (V.int.inj (of_decide_eq_true c)) hd) (fun _ => ⟨_, rfl, d, 0, rfl, rfl, _, rfl, ite2 (fun c => ?_) (fun c => ?_)⟩)
        · have c1 : d < 0 := of_decide_eq_true c
          refine ⟨_, rfl, n, rfl, _, rfl, d, rfl, _, _, rfl, by omega, ⟨by rw [Int.natAbs_neg]; exact hn, by rw [Int.natAbs_neg]; exact hdd⟩, fun v H' s' r => ?_⟩
          rw [negs hd] at r
          exact q v H' s' r
        · have c1 : ¬ d < 0 := fun z => c (decide_eq_true z)
          exact ⟨_, rfl, _, rfl, n, d, rfl, by omega, ⟨hn, hdd⟩, q⟩
      · have c2 : isI y = false := by simpa using i2
        rw [c2]
        exact iteT (givesR_r c2 q)
    · have c2 : isI x = false := by simpa using i1
      rw [c2]
      exact iteT (givesR_l c2 q)
/-! ### compare -/
theorem sc_compare : FnScope ["first", "second", "top", "bottom", "other_top", "other_bottom", "left", "right"] ["first", "second"] (defScope s_compare) := ⟨rfl, rfl, rfl, by decide +kernel, rfl, by decide +kernel, by decide +kernel⟩
/-- -1, 0 or 1 -/
def cmpR (p q : Rat) : Int := if p < q then -1 else if q < p then 1 else 0
def GivesCmp (K : PySem.W.Frag) (C : Addr) (o1 o2 : Option Rat) (H : Hp) (Q : VK) (E : XK) : Prop := match o1, o2 with
  | some p, some q => (Sz 3900 p ∧ Sz 3900 q) ∧ ∀ H', Same H H' → Q (.int (cmpR p q)) H'
  | _, _ => ∀ H', Same H H' → E (.ref C) none H'
def sp_compare (K : PySem.W.Frag) (C : Addr) : Sp := fun vs H Q E => ∃ (x y : V) (o1 o2 : Option Rat), vs = [x, y] ∧ Arg K H x o1 ∧ Arg K H y o2 ∧ GivesCmp K C o1 o2 H Q E
theorem ok_compare {f fA C : Addr} {fd dA : FuncData} (D : DefAt K mg "compare" s_compare ["first", "second"] f fd) (DA : DefAt K mg "as_ratio" s_as_ratio ["value"] fA dA)
    (GA : FnOk P w K mg base (CXl P w) 3 fA dA ["value"] (spAR K C)) : FnOk P w K mg base (CXl P w) 4 f fd ["first", "second"] (sp_compare K C) := by
  refine D.F.okX sc_compare (fun vs H Q E h => ?_) (fun cdv A outer s H vs Q E hr h => ?_)
  · obtain ⟨x, y, o1, o2, rfl, _⟩ := h
    rfl
  · obtain ⟨x, y, o1, o2, rfl, h1, h2, q⟩ := h
    refine ⟨_, pss_cons (ps_asg (pe_call GA hr (by rfl) DA.g DA.F.kp DA.b .nil (passes_call (takes_of rfl rfl rfl rfl) fun _ _ _ _ h => h) (pa_cons (pv 0) pa_nil)) (pg_tup (by rfl) (pgs_cons (pg_name (i := 2) sc_compare.nd rfl (.inl rfl)) (pgs_cons (pg_name (i := 3) sc_compare.nd rfl (.inl rfl)) pgs_nil))))
      (pss_cons (ps_asg (pe_call GA hr (by rfl) DA.g DA.F.kp DA.b .nil (passes_call (takes_of rfl rfl rfl rfl) fun _ _ _ _ h => h) (pa_cons (pv 1) pa_nil)) (pg_tup (by rfl) (pgs_cons (pg_name (i := 4) sc_compare.nd rfl (.inl rfl)) (pgs_cons (pg_name (i := 5) sc_compare.nd rfl (.inl rfl)) pgs_nil))))
      (pss_cons (ps_par (i := 6) (j := 7) rfl sc_compare.nd rfl rfl (by decide) rfl rfl (pa_cons (pe_op op_mulW (pv 2) (pv 5)) (pa_cons (pe_op op_mulW (pv 4) (pv 3)) pa_nil)) (by rfl))
      (pss_cons (ps_if (pt_cmpR op_lt (pv 6) (pv 7) (nomark _)) (pss_one (ps_ret (pe_un un_neg pe_int))) pss_nil)
      (pss_one (ps_ret (pe_ifExp (pt_cmpR op_gt (pv 6) (pv 7) (nomark _)) pe_int pe_int)))))), ?_⟩
    refine ⟨x, rfl, x, o1, rfl, h1, ?_⟩
    cases o1 with
    | none => cases o2 <;> exact q H (Same.refl _)
    | some p =>
      intro v1 H1 s1 r1
      obtain ⟨a, rfl, t1⟩ := r1
      refine ⟨a, rt p, rfl, t1, rfl, .int p.num, _, rfl, .int p.den, _, rfl, rfl, ?_⟩
      refine ⟨y, rfl, y, o2, rfl, h2.same s1, ?_⟩
      cases o2 with
      | none => exact q H1 s1
      | some q' =>
        obtain ⟨⟨hp, hq⟩, q⟩ := q
        intro v2 H2 s2 r2
        obtain ⟨b, rfl, t2⟩ := r2
        refine ⟨b, rt q', rfl, t2, rfl, .int q'.num, _, rfl, .int q'.den, _, rfl, rfl, ?_⟩
        refine ⟨_, rfl, _, rfl, _, _, rfl, rfl, wm hp.1 hq.2, _, rfl, _, rfl, _, _, rfl, rfl, wm hq.1 hp.2, _, _, rfl, ?_⟩
        have qq := q H2 (s1.trans s2)
        unfold cmpR at qq
        simp only [Rat.lt_iff] at qq
        refine ⟨_, rfl, _, rfl, _, _, rfl, rfl, _, rfl, ite2 (fun c => ?_) (fun c => ?_)⟩
        · rw [if_pos (of_decide_eq_true c)] at qq
          exact ⟨_, rfl, qq⟩
        · rw [if_neg (fun z => c (decide_eq_true z))] at qq
          refine ⟨_, rfl, _, rfl, _, _, rfl, rfl, _, rfl, ite2 (fun c => ?_) (fun c => ?_)⟩
          · rw [if_pos (of_decide_eq_true c)] at qq
            exact qq
          · rw [if_neg (fun z => c (decide_eq_true z))] at qq
            exact qq

/-! ### remainder -/
theorem sc_rem : FnScope ["value", "modulus", "top", "bottom", "other_top", "other_bottom"] ["value", "modulus"] (defScope s_remainder) := ⟨rfl, rfl, rfl, by decide +kernel, rfl, by decide +kernel, by decide +kernel⟩
def GivesM (K : PySem.W.Frag) (C C2 : Addr) (o1 o2 : Option Rat) (H : Hp) (Q : VK) (E : XK) : Prop := match o1, o2 with
  | some p, some q => (Sz 3900 p ∧ Sz 3900 q) ∧ (q ≤ 0 → ∀ H', Same H H' → E (.ref C2) none H') ∧ (0 < q → ∀ v H', Same H H' → Rn K H' v (rem p q) → Q v H')
  | _, _ => ∀ H', Same H H' → E (.ref C) none H'
def sp_rem (K : PySem.W.Frag) (C C2 : Addr) : Sp := fun vs H Q E => ∃ (x y : V) (o1 o2 : Option Rat), vs = [x, y] ∧ Arg K H x o1 ∧ Arg K H y o2 ∧ GivesM K C C2 o1 o2 H Q E
theorem ok_rem {f fA fR C C2 : Addr} {fd dA dR : FuncData} (D : DefAt K mg "remainder" s_remainder ["value", "modulus"] f fd) (DA : DefAt K mg "as_ratio" s_as_ratio ["value"] fA dA) (DR : DefAt K mg "reduced" s_reduced ["top", "bottom"] fR dR) (X2 : ErrAt K mg "DivisionByZero" BMa "ArithmeticError.__new__" C2)
    (GA : FnOk P w K mg base (CXl P w) 3 fA dA ["value"] (spAR K C)) (GR : FnOk P w K mg base (CXl P w) 1 fR dR ["top", "bottom"] (spRd K)) : FnOk P w K mg base (CXl P w) 4 f fd ["value", "modulus"] (sp_rem K C C2) := by
  refine D.F.okX sc_rem (fun vs H Q E h => ?_) (fun cdv A outer s H vs Q E hr h => ?_)
  · obtain ⟨x, y, o1, o2, rfl, _⟩ := h
    rfl
  · obtain ⟨x, y, o1, o2, rfl, h1, h2, q⟩ := h
    refine ⟨_, pss_cons (ps_asg (pe_call GA hr (by rfl) DA.g DA.F.kp DA.b .nil (passes_call (takes_of rfl rfl rfl rfl) fun _ _ _ _ h => h) (pa_cons (pv 0) pa_nil)) (pg_tup (by rfl) (pgs_cons (pg_name (i := 2) sc_rem.nd rfl (.inl rfl)) (pgs_cons (pg_name (i := 3) sc_rem.nd rfl (.inl rfl)) pgs_nil))))
      (pss_cons (ps_asg (pe_call GA hr (by rfl) DA.g DA.F.kp DA.b .nil (passes_call (takes_of rfl rfl rfl rfl) fun _ _ _ _ h => h) (pa_cons (pv 1) pa_nil)) (pg_tup (by rfl) (pgs_cons (pg_name (i := 4) sc_rem.nd rfl (.inl rfl)) (pgs_cons (pg_name (i := 5) sc_rem.nd rfl (.inl rfl)) pgs_nil))))
      (pss_cons (ps_if (pt_cmpR op_le (pv 4) pe_int (nomark _)) (pss_one (ps_raise rfl (takes_of rfl rfl rfl rfl) (X2.mk0 PySem.F.excBase_ArithmeticError rfl))) pss_nil)
      (pss_one (ps_ret (pe_call GR (hr.mono (by decide)) (by rfl) DR.g DR.F.kp DR.b .nil (passes_call (takes_of rfl rfl rfl rfl) fun _ _ _ _ h => h) (pa_cons (pe_op op_modN (pe_op op_mulW (pv 2) (pv 5)) (pe_op op_mulW (pv 4) (pv 3))) (pa_cons (pe_op op_mulW (pv 3) (pv 5)) pa_nil))))))), ?_⟩
    refine ⟨x, rfl, x, o1, rfl, h1, ?_⟩
    cases o1 with
    | none => cases o2 <;> exact q H (Same.refl _)
    | some p =>
      intro v1 H1 s1 r1
      obtain ⟨a, rfl, t1⟩ := r1
      refine ⟨a, rt p, rfl, t1, rfl, .int p.num, _, rfl, .int p.den, _, rfl, rfl, ?_⟩
      refine ⟨y, rfl, y, o2, rfl, h2.same s1, ?_⟩
      cases o2 with
      | none => exact q H1 s1
      | some q' =>
        obtain ⟨⟨hp, hq⟩, qz, qn⟩ := q
        intro v2 H2 s2 r2
        obtain ⟨b, rfl, t2⟩ := r2
        refine ⟨b, rt q', rfl, t2, rfl, .int q'.num, _, rfl, .int q'.den, _, rfl, rfl, ?_⟩
        refine ⟨_, rfl, _, _, rfl, rfl, _, rfl, ite2 (fun c => ?_) (fun c => ?_)⟩
        · have c1 : q'.num ≤ 0 := of_decide_eq_true c
          refine qz ?_ H2 (s1.trans s2)
          rw [← Rat.not_lt]
          intro z
          have := pos_num z
          omega
        · have c1 : 0 < q'.num := by
            have : ¬ q'.num ≤ 0 := fun z => c (decide_eq_true z)
            omega
          have hz : 0 < q' := num_pos_iff.mp c1
          have d1 : (0 : Int) < p.den := by have := den_pos p; omega
          have hm : (0 : Int) < q'.num * p.den := Int.mul_pos c1 d1
          refine ⟨_, rfl, _, rfl, _, _, rfl, rfl, wm hp.1 hq.2, _, rfl, _, rfl, _, _, rfl, rfl, wm hq.1 hp.2, _, _, rfl, rfl, Int.ne_of_gt hm, _, rfl, _, rfl, _, _, rfl, rfl, wm hp.2 hq.2, ?_⟩
          have e1 : (p.num * q'.den).fmod (q'.num * p.den) = (p.num * q'.den) % (q'.num * p.den) := Int.fmod_eq_emod_of_nonneg _ (Int.le_of_lt hm)
          have l1 := Int.emod_nonneg (p.num * q'.den) (Int.ne_of_gt hm)
          have l2 := Int.emod_lt_of_pos (p.num * q'.den) hm
          have l3 : (q'.num * p.den).natAbs < 2 ^ 7800 := szM hq.1 hp.2
          refine ⟨_, _, rfl, den_pos2 p q', ⟨?_, Nat.lt_trans (szM hp.2 hq.2) p78⟩, fun v H' s' r => ?_⟩
          · refine Nat.lt_trans ?_ p78
            rw [e1]
            omega
          · have r := r
            rw [e1, ← rem_as hz] at r
            exact qn hz v H' ((s1.trans s2).trans s') r
end
end LR
set_option Elab.async false
set_option linter.all false
set_option maxRecDepth 100000
set_option maxHeartbeats 4000000
namespace LR
open PySem PySem.Spec PyProof.Rows L2
/-! ### heaps beside one thing that changes -/
/-- all but D is as it was -/
def But (D : Addr) (H H' : Hp) : Prop := ∀ b o, b ≠ D → H b = some o → H' b = some o
theorem same_but {H0 H : Hp} {D : Addr} {o : HO} (s : Same H0 H) (h : H0 D = none) : Same H0 (upd H D o) := fun b y e => by
  rw [upd_ne (ne_of_none e h)]
  exact s b y e
section
variable {K : PySem.W.Frag} {H : Hp} {D : Addr} {o : HO}
theorem sqt_upd {a : Addr} {xs : List V} {u : HO} (hD : H D = some u) (nt : ∀ ys, u ≠ .tup ys) (nf : ∀ ob v, u ≠ .frz ob v) (h : SqT K H a xs) : SqT K (upd H D o) a xs := by
  rcases h with (h | ⟨ob, h⟩) | h
  · exact .inl (.inl (by rw [upd_ne (ne_of h hD (fun e => nt _ e.symm))]; exact h))
  · exact .inl (.inr ⟨ob, by rw [upd_ne (ne_of h hD (fun e => nf _ _ e.symm))]; exact h⟩)
  · exact .inr h
theorem rn_lst {x : V} {q : Rat} {ys : List V} (hD : H D = some (.lst ys)) (h : Rn K H x q) : Rn K (upd H D o) x q := by
  obtain ⟨a, e, h⟩ := h
  exact ⟨a, e, sqt_upd hD (fun _ e => by cases e) (fun _ _ e => by cases e) h⟩
theorem rn_ext {x : V} {q : Rat} {f : Heap → Prop} (hD : H D = some (.ext f)) (h : Rn K H x q) : Rn K (upd H D o) x q := by
  obtain ⟨a, e, h⟩ := h
  exact ⟨a, e, sqt_upd hD (fun _ e => by cases e) (fun _ _ e => by cases e) h⟩
end
/-- lists item by item -/
inductive All2 {α β : Type} (R : α → β → Prop) : List α → List β → Prop
  | nil : All2 R [] []
  | cons {x y xs ys} (h : R x y) (t : All2 R xs ys) : All2 R (x :: xs) (y :: ys)
section
variable {α β : Type} {R S : α → β → Prop}
theorem All2.len : ∀ {xs : List α} {ys : List β}, All2 R xs ys → xs.length = ys.length
  | _, _, .nil => rfl
  | _, _, .cons _ t => congrArg Nat.succ t.len
theorem All2.imp (f : ∀ x y, R x y → S x y) : ∀ {xs : List α} {ys : List β}, All2 R xs ys → All2 S xs ys
  | _, _, .nil => .nil
  | _, _, .cons h t => .cons (f _ _ h) (t.imp f)
theorem All2.snoc {x : α} {y : β} (h : R x y) : ∀ {xs : List α} {ys : List β}, All2 R xs ys → All2 R (xs ++ [x]) (ys ++ [y])
  | _, _, .nil => .cons h .nil
  | _, _, .cons g t => .cons g (t.snoc h)
theorem All2.get : ∀ {xs : List α} {ys : List β} {i : Nat} {x : α}, All2 R xs ys → xs[i]? = some x → ∃ y, ys[i]? = some y ∧ R x y
  | _, _, _, _, .nil, e => by simp at e
  | _, _, 0, _, .cons h _, e => by simp at e; subst e; exact ⟨_, rfl, h⟩
  | _, _, i + 1, x, .cons _ t, e => by
    obtain ⟨y, a, b⟩ := t.get (i := i) (x := x) (by simpa using e)
    exact ⟨y, by simpa using a, b⟩
theorem All2.take (n : Nat) : ∀ {xs : List α} {ys : List β}, All2 R xs ys → All2 R (xs.take n) (ys.take n) := by
  induction n with
  | zero => intro xs ys _; exact .nil
  | succ n ih =>
    intro xs ys h
    cases h with
    | nil => exact .nil
    | cons a t => exact .cons a (ih t)
theorem All2.map_left {γ : Type} {f : γ → α} : ∀ {zs : List γ} {ys : List β}, All2 (fun z y => R (f z) y) zs ys → All2 R (zs.map f) ys
  | _, _, .nil => .nil
  | _, _, .cons h t => .cons h t.map_left
end
theorem take_snoc {α : Type} {l : List α} {i : Nat} {x : α} (h : l[i]? = some x) : l.take (i + 1) = l.take i ++ [x] := by
  rw [List.take_succ, h]
  rfl


theorem but_same {H H' H2 : Hp} {D : Addr} (b : But D H H') (s : Same H' H2) : But D H H2 := fun x o n e => s _ _ (b x o n e)
theorem but_upd {H H' : Hp} {D : Addr} {o : HO} (b : But D H H') : But D H (upd H' D o) := fun x y n e => by rw [upd_ne n]; exact b x y n e
theorem same_but2 {H H' H2 : Hp} {D : Addr} (s : Same H H') (b : But D H' H2) : But D H H2 := fun x o n e => b _ _ n (s _ _ e)
theorem but_trans {H H' H2 : Hp} {D : Addr} (a : But D H H') (b : But D H' H2) : But D H H2 := fun x o n e => b _ _ n (a _ _ n e)
theorem but_of_same {H H' : Hp} {D : Addr} (s : Same H H') : But D H H' := fun x o _ e => s _ _ e
theorem but_new {H : Hp} {D : Addr} {o : HO} : But D H (upd H D o) := fun x y n e => by rw [upd_ne n]; exact e
theorem but_none {H H' : Hp} {D : Addr} (b : But D H H') (h : H D = none) : Same H H' := fun x o e => b x o (ne_of_none e h) e
section
variable {K : PySem.W.Frag} {H H' : Hp} {D : Addr}
/-- D holds neither a tuple nor a list, nor is it locked -/
structure Odd (H : Hp) (D : Addr) : Prop where
  nt : ∀ ys, H D ≠ some (.tup ys)
  nf : ∀ ob ys, H D ≠ some (.frz ob (.tup ys))
theorem Odd.of {u : HO} (h : H D = some u) (h1 : ∀ ys, u ≠ .tup ys) (h2 : ∀ ob ys, u ≠ .frz ob (.tup ys)) : Odd H D :=
  ⟨fun _ e => h1 _ (Option.some.inj (h.symm.trans e)), fun _ _ e => h2 _ _ (Option.some.inj (h.symm.trans e))⟩
theorem Odd.ins {C dx : Addr} {fs : List (Str × V)} (h : H D = some (.ins C dx fs)) : Odd H D := .of h (fun _ e => by cases e) (fun _ _ e => by cases e)
theorem Odd.lst {xs : List V} (h : H D = some (.lst xs)) : Odd H D := .of h (fun _ e => by cases e) (fun _ _ e => by cases e)
theorem Odd.sqt {a : Addr} {xs : List V} (O : Odd H D) (b : But D H H') (h : SqT K H a xs) : SqT K H' a xs := by
  rcases h with (h | ⟨ob, h⟩) | h
  · exact .inl (.inl (b _ _ (fun e => O.nt _ (e ▸ h)) h))
  · exact .inl (.inr ⟨ob, b _ _ (fun e => O.nf _ _ (e ▸ h)) h⟩)
  · exact .inr h
theorem Odd.rn {x : V} {q : Rat} (O : Odd H D) (b : But D H H') (h : Rn K H x q) : Rn K H' x q := let ⟨a, e, h⟩ := h; ⟨a, e, O.sqt b h⟩
theorem Odd.num {x : V} {q : Rat} (O : Odd H D) (b : But D H H') (h : Num K H x q) : Num K H' x q := by
  rcases h.kinds with ⟨rfl, e⟩ | h
  · have e2 : q = ((q.num : Int) : Rat) := Rat.ext rfl e
    have := num_int (K := K) (H := H') q.num
    rw [← e2] at this
    exact this
  · exact (O.rn b h).num
end
/-! ### numbers as data -/
abbrev datR (q : Rat) : PyData := .tuple [.int q.num, .int (q.den : Int)]
section
variable {K : PySem.W.Frag} {H : Hp}
theorem Rn.dp {v : V} {q : Rat} (h : Rn K H v q) : Dp K H v (datR q) := by
  obtain ⟨a, rfl, h⟩ := h
  exact .tup h (.cons (.int _) (.cons (.int _) .nil))
theorem rnl_dp : ∀ {xs : List V} {qs : List Rat}, All2 (Rn K H) xs qs → DpAll K H xs (qs.map datR)
  | _, _, .nil => .nil
  | _, _, .cons h t => .cons h.dp (rnl_dp t)
end
theorem canR (q : Rat) : (datR q).canLay0 = true := by simp [PyData.canLay0, PyData.canLayAll0]
theorem canRs : ∀ qs : List Rat, PyData.canLayAll0 (qs.map datR) = true
  | [] => rfl
  | q :: qs => by
    show ((datR q).canLay0 && PyData.canLayAll0 (qs.map datR)) = true
    rw [canR, canRs qs]
    rfl
theorem depRs : ∀ qs : List Rat, PyData.depthAll (qs.map datR) ≤ 1
  | [] => Nat.zero_le _
  | q :: qs => by
    have := depRs qs
    show max (PyData.depth (datR q)) (PyData.depthAll (qs.map datR)) ≤ 1
    have e : PyData.depth (datR q) = 1 := by simp [PyData.depth, PyData.depthAll]
    omega
theorem shapedR (q : Rat) : SeqAt.shaped (datR q) = true := by
  unfold SeqAt.shaped
  rw [canR]
  simp [PyData.depth, PyData.depthAll]
theorem shapedRs (qs : List Rat) : SeqAt.shaped (.list (qs.map datR)) = true := by
  unfold SeqAt.shaped
  rw [show (PyData.list (qs.map datR)).canLay0 = PyData.canLayAll0 (qs.map datR) from rfl, canRs, Bool.true_and, decide_eq_true_eq]
  have := depRs qs
  show PyData.depthAll (qs.map datR) + 1 ≤ 64
  omega
theorem eqvRR (p q : Rat) : PyData.eqv (datR p) (datR q) = decide (p = q) := by
  have e : (p = q) ↔ (p.num = q.num ∧ p.den = q.den) := ⟨fun e => by rw [e]; exact ⟨rfl, rfl⟩, fun h => Rat.ext h.1 h.2⟩
  have e2 : decide (p = q) = (decide (p.num = q.num) && decide (p.den = q.den)) := by
    rw [← Bool.decide_and, decide_eq_decide]
    exact e
  rw [e2]
  show ((p.num == q.num) && (((p.den : Int) == (q.den : Int)) && true)) = _
  have h1 : ∀ i j : Int, (i == j) = decide (i = j) := fun i j => by
    rw [Bool.eq_iff_iff, beq_iff_eq, decide_eq_true_eq]
  rw [Bool.and_true, h1, h1]
  congr 1
  rw [decide_eq_decide]
  exact Int.natCast_inj
theorem eqvRRs : ∀ ps qs : List Rat, PyData.eqv (.list (ps.map datR)) (.list (qs.map datR)) = decide (ps = qs)
  | [], [] => rfl
  | [], _ :: _ => rfl
  | _ :: _, [] => rfl
  | p :: ps, q :: qs => by
    show (PyData.eqv (datR p) (datR q) && PyData.eqvAll (ps.map datR) (qs.map datR)) = _
    have h : PyData.eqvAll (ps.map datR) (qs.map datR) = decide (ps = qs) := eqvRRs ps qs
    rw [h, eqvRR, ← Bool.decide_and, decide_eq_decide, List.cons.injEq]
theorem anyRR (q : Rat) : ∀ qs : List Rat, ((qs.map datR).any fun z => PyData.eqv z (datR q)) = decide (q ∈ qs)
  | [] => rfl
  | p :: ps => by
    rw [List.map_cons, List.any_cons, anyRR q ps, eqvRR, ← Bool.decide_or, decide_eq_decide, List.mem_cons]
    exact ⟨fun h => h.imp Eq.symm id, fun h => h.imp Eq.symm id⟩
end LR
/-! LOrd: ranks of exact numbers by scaled floors; lists in order. Core Lean alone. -/
namespace LR
/-- the whole part of q * 2 ^ (2 * m) -/
def rank (m : Nat) (q : Rat) : Int := (q.num * 2 ^ (2 * m)) / (q.den : Int)
theorem rank_lt {m : Nat} {p q : Rat} (hp : p.den < 2 ^ m) (hq : q.den < 2 ^ m) (h : p < q) : rank m p < rank m q := by
  unfold rank
  have d1 : (0 : Int) < p.den := by have := den_pos p; omega
  have d2 : (0 : Int) < q.den := by have := den_pos q; omega
  have hl := (Rat.lt_iff p q).mp h
  have hD : (p.den : Int) * q.den ≤ 2 ^ (2 * m) := by
    have e : (2 : Int) ^ (2 * m) = ((2 ^ m * 2 ^ m : Nat) : Int) := by
      rw [← Nat.pow_add, show m + m = 2 * m by omega, Int.natCast_pow]
      rfl
    rw [e, ← Int.natCast_mul]
    exact Int.ofNat_le.mpr (Nat.mul_le_mul (Nat.le_of_lt hp) (Nat.le_of_lt hq))
  generalize (2 : Int) ^ (2 * m) = D at hD
  have hD0 : 0 < D := Int.lt_of_lt_of_le (Int.mul_pos d1 d2) hD
  have hx : p.num * D / p.den * p.den ≤ p.num * D := Int.ediv_mul_le _ (Int.ne_of_gt d1)
  generalize p.num * D / (p.den : Int) = x at hx ⊢
  have key : (x + 1) * q.den ≤ q.num * D := by
    refine Int.le_of_mul_le_mul_right (a := (p.den : Int)) ?_ d1
    have e1 : (x + 1) * q.den * p.den = x * p.den * q.den + p.den * q.den := by
      rw [Int.add_mul, Int.add_mul, Int.one_mul, Int.mul_right_comm, Int.mul_comm (q.den : Int) p.den]
    have e2 : x * p.den * q.den ≤ p.num * D * q.den := Int.mul_le_mul_of_nonneg_right hx (Int.le_of_lt d2)
    have e3 : p.num * q.den + 1 ≤ q.num * p.den := hl
    have e4 : (p.num * q.den + 1) * D ≤ q.num * p.den * D := Int.mul_le_mul_of_nonneg_right e3 (Int.le_of_lt hD0)
    rw [Int.add_mul, Int.one_mul] at e4
    have e5 : p.num * D * q.den = p.num * q.den * D := Int.mul_right_comm _ _ _
    have e6 : q.num * D * p.den = q.num * p.den * D := Int.mul_right_comm _ _ _
    omega
  have := (Int.le_ediv_iff_mul_le d2).mpr key
  omega
theorem rank_inj {m : Nat} {p q : Rat} (hp : p.den < 2 ^ m) (hq : q.den < 2 ^ m) (h : rank m p = rank m q) : p = q := by
  by_cases c : p < q
  · have := rank_lt hp hq c
    omega
  · by_cases d : q < p
    · have := rank_lt hq hp d
      omega
    · exact Rat.le_antisymm (Rat.not_lt.mp d) (Rat.not_lt.mp c)
theorem rank_le {m : Nat} {p q : Rat} (hp : p.den < 2 ^ m) (hq : q.den < 2 ^ m) (h : rank m p ≤ rank m q) : p ≤ q := by
  rw [← Rat.not_lt]
  intro c
  have := rank_lt hq hp c
  omega
theorem rank_abs {m b : Nat} {q : Rat} (h : q.num.natAbs < 2 ^ b) : (q.num * 2 ^ (2 * m)).natAbs < 2 ^ (b + 2 * m) := by
  rw [Int.natAbs_mul, Nat.pow_add, Int.natAbs_pow]
  exact Nat.mul_lt_mul_of_pos_right h (Nat.pow_pos (by decide))
theorem perm_map_inv {α β : Type} {f : α → β} : ∀ {l : List β} {m : List α}, l.Perm (m.map f) → ∃ m' : List α, l = m'.map f ∧ m'.Perm m
  | [], m, h => by
    have : m.map f = [] := (List.nil_perm.mp h)
    exact ⟨[], rfl, by rw [List.map_eq_nil_iff.mp this]⟩
  | x :: l, m, h => by
    have hx : x ∈ m.map f := h.mem_iff.mp List.mem_cons_self
    obtain ⟨a, ha, rfl⟩ := List.mem_map.mp hx
    obtain ⟨s, t, rfl⟩ := List.append_of_mem ha
    have h2 : l.Perm ((s ++ t).map f) := by
      rw [List.map_append, List.map_cons] at h
      have h3 := h.trans List.perm_middle
      rw [List.map_append]
      exact h3.cons_inv
    obtain ⟨m', e, p⟩ := perm_map_inv h2
    exact ⟨a :: m', by rw [List.map_cons, e], (p.cons a).trans List.perm_middle.symm⟩
/-- a list of numbers in order, without duplicates, of the members of another -/
def InOrder (qs rs : List Rat) : Prop := rs.Pairwise (· < ·) ∧ ∀ r, r ∈ rs ↔ r ∈ qs
theorem nodup_one {α β : Type} {f : α → β} : ∀ {l : List α}, (l.map f).Nodup → ∀ x ∈ l, ∀ y ∈ l, f x = f y → x = y
  | [], _, _, h, _, _, _ => by cases h
  | a :: l, hn, x, hx, y, hy, e => by
    obtain ⟨h1, h2⟩ := List.nodup_cons.mp hn
    by_cases ex : x = a
    · by_cases ey : y = a
      · rw [ex, ey]
      · have hy' : y ∈ l := (List.mem_cons.mp hy).resolve_left ey
        exact absurd (List.mem_map.mpr ⟨y, hy', by rw [← e, ex]⟩) h1
    · have hx' : x ∈ l := (List.mem_cons.mp hx).resolve_left ex
      by_cases ey : y = a
      · exact absurd (List.mem_map.mpr ⟨x, hx', by rw [e, ey]⟩) h1
      · exact nodup_one h2 x hx' y ((List.mem_cons.mp hy).resolve_left ey) e
end LR
namespace LR
theorem gcd_step {a b : Int} (hb : 0 ≤ b) (hb0 : b ≠ 0) : Nat.gcd b.natAbs (a % b).natAbs = Nat.gcd a.natAbs b.natAbs := by
  have d := Int.emod_add_mul_ediv a b
  refine Nat.dvd_antisymm (Nat.dvd_gcd ?_ (Nat.gcd_dvd_left _ _)) (Nat.dvd_gcd (Nat.gcd_dvd_right _ _) ?_)
  · have h1 : ((Nat.gcd b.natAbs (a % b).natAbs : Nat) : Int) ∣ b := Int.ofNat_dvd_left.mpr (Nat.gcd_dvd_left _ _)
    have h2 : ((Nat.gcd b.natAbs (a % b).natAbs : Nat) : Int) ∣ a % b := Int.ofNat_dvd_left.mpr (Nat.gcd_dvd_right _ _)
    have h3 := Int.dvd_add h2 (Int.dvd_trans h1 (Int.dvd_mul_right b (a / b)))
    rw [d] at h3
    exact Int.ofNat_dvd_left.mp h3
  · have h1 : ((Nat.gcd a.natAbs b.natAbs : Nat) : Int) ∣ b := Int.ofNat_dvd_left.mpr (Nat.gcd_dvd_right _ _)
    have h2 : ((Nat.gcd a.natAbs b.natAbs : Nat) : Int) ∣ a := Int.ofNat_dvd_left.mpr (Nat.gcd_dvd_left _ _)
    have h3 := Int.dvd_sub h2 (Int.dvd_trans h1 (Int.dvd_mul_right b (a / b)))
    rw [show a - b * (a / b) = a % b by omega] at h3
    exact Int.ofNat_dvd_left.mp h3
end LR
set_option Elab.async false
set_option linter.all false
set_option maxRecDepth 100000
set_option maxHeartbeats 4000000
namespace LR
open PySem PySem.Spec PyProof.Rows L2
theorem sc_inserted : FnScope ["rows", "found", "row", "top", "bottom", "at"] ["rows"] (defScope s_inserted) := ⟨rfl, rfl, rfl, by decide +kernel, rfl, by decide +kernel, by decide +kernel⟩
theorem sc_ranked : FnScope ["rows"] ["rows"] (defScope s_ranked) := ⟨rfl, rfl, rfl, by decide +kernel, rfl, by decide +kernel, by decide +kernel⟩
theorem sc_ascending : FnScope ["rows"] ["rows"] (defScope s_ascending) := ⟨rfl, rfl, rfl, by decide +kernel, rfl, by decide +kernel, by decide +kernel⟩
theorem sc_in_order : FnScope ["values", "value"] ["values"] (defScope s_in_order) := ⟨rfl, rfl, rfl, by decide +kernel, rfl, by decide +kernel, by decide +kernel⟩
/-- a list of numbers -/
def Nums (K : PySem.W.Frag) (H : Hp) (a : Addr) (qs : List Rat) : Prop := ∃ xs, SqL K H a xs ∧ All2 (Num K H) xs qs
/-- a list of ratios -/
def RnL (K : PySem.W.Frag) (H : Hp) (v : V) (rs : List Rat) : Prop := ∃ p xs, v = .ref p ∧ H p = some (.lst xs) ∧ All2 (Rn K H) xs rs
/-! ### one number put into a list in order -/
/-- the numbers of rs from k on are above q -/
def Above (q : Rat) (rs : List Rat) (k : Nat) : Prop := ∀ j r, k ≤ j → rs[j]? = some r → q < r
theorem pw_get {rs : List Rat} (h : rs.Pairwise (· < ·)) : ∀ {i j : Nat} {a b : Rat}, i < j → rs[i]? = some a → rs[j]? = some b → a < b := by
  intro i j a b ij h1 h2
  have hj := (List.getElem?_eq_some_iff.mp h2)
  have hi := (List.getElem?_eq_some_iff.mp h1)
  obtain ⟨j1, e2⟩ := hj
  obtain ⟨i1, e1⟩ := hi
  rw [← e1, ← e2]
  exact List.pairwise_iff_getElem.mp h i j i1 j1 ij
/-- put at k -/
theorem put_order {qs rs : List Rat} {q : Rat} {k : Nat} (o : InOrder qs rs) (hk : k ≤ rs.length) (ab : Above q rs k) (be : ∀ j r, j < k → rs[j]? = some r → r < q) : InOrder (qs ++ [q]) (rs.take k ++ [q] ++ rs.drop k) := by
  obtain ⟨pw, mem⟩ := o
  refine ⟨?_, fun r => ?_⟩
  · have h1 : ∀ x ∈ rs.take k, x < q := fun x hx => by
      obtain ⟨i, hi, e⟩ := List.mem_iff_getElem.mp hx
      rw [List.length_take] at hi
      exact be i x (by omega) (by rw [List.getElem?_eq_getElem (by omega)]; rw [List.getElem_take] at e; rw [e])
    have h2 : ∀ x ∈ rs.drop k, q < x := fun x hx => by
      obtain ⟨i, hi, e⟩ := List.mem_iff_getElem.mp hx
      rw [List.length_drop] at hi
      exact ab (k + i) x (by omega) (by rw [List.getElem?_eq_getElem (by omega)]; rw [List.getElem_drop] at e; rw [e])
    have pt : (rs.take k).Pairwise (· < ·) := pw.sublist (List.take_sublist _ _)
    have pd : (rs.drop k).Pairwise (· < ·) := pw.sublist (List.drop_sublist _ _)
    rw [List.append_assoc]
    refine List.pairwise_append.mpr ⟨pt, List.pairwise_cons.mpr ⟨h2, pd⟩, fun a ha b hb => ?_⟩
    rcases List.mem_cons.mp hb with e | hb
    · rw [e]
      exact h1 a ha
    · have := h1 a ha
      have := h2 b hb
      grind
  · rw [List.append_assoc, List.mem_append, List.mem_append, List.mem_append, List.mem_singleton]
    have e := mem r
    have t : r ∈ rs ↔ r ∈ rs.take k ∨ r ∈ rs.drop k := by
      rw [← List.mem_append, List.take_append_drop]
    constructor
    · rintro (h | h | h)
      · exact .inl (e.mp (t.mpr (.inl h)))
      · exact .inr h
      · exact .inl (e.mp (t.mpr (.inr h)))
    · rintro (h | h)
      · rcases t.mp (e.mpr h) with h | h
        · exact .inl h
        · exact .inr (.inr h)
      · exact .inr (.inl h)
theorem same_order {qs rs : List Rat} {q : Rat} (o : InOrder qs rs) (h : q ∈ rs) : InOrder (qs ++ [q]) rs := by
  refine ⟨o.1, fun r => ?_⟩
  rw [List.mem_append, List.mem_singleton, o.2 r]
  exact ⟨.inl, fun z => z.elim id fun e => by rw [e]; exact (o.2 q).mp h⟩
theorem All2.drop {α β : Type} {R : α → β → Prop} : ∀ (n : Nat) {xs : List α} {ys : List β}, All2 R xs ys → All2 R (xs.drop n) (ys.drop n)
  | 0, _, _, h => h
  | n + 1, _, _, .nil => .nil
  | n + 1, _, _, .cons _ t => t.drop n
theorem All2.append {α β : Type} {R : α → β → Prop} : ∀ {xs : List α} {ys : List β} {us : List α} {vs : List β}, All2 R xs ys → All2 R us vs → All2 R (xs ++ us) (ys ++ vs)
  | _, _, _, _, .nil, h => h
  | _, _, _, _, .cons a t, h => .cons a (t.append h)
theorem All2.get2 {α β : Type} {R : α → β → Prop} : ∀ {xs : List α} {ys : List β} {i : Nat} {y : β}, All2 R xs ys → ys[i]? = some y → ∃ x, xs[i]? = some x ∧ R x y
  | _, _, _, _, .nil, e => by simp at e
  | _, _, 0, _, .cons h _, e => by simp at e; subst e; exact ⟨_, rfl, h⟩
  | _, _, i + 1, y, .cons _ t, e => by
    obtain ⟨x, a, b⟩ := t.get2 (i := i) (y := y) (by simpa using e)
    exact ⟨x, by simpa using a, b⟩
section
variable {P : Program} {w : World} {K : PySem.W.Frag} {mg : Str → Option Value} {base : Heap}
/-! ### _inserted -/
def szOf6 : L2.St → Nat
  | [_, _, _, _, _, some (.int k)] => k.toNat
  | _ => 0
def spIns (K : PySem.W.Frag) : Sp := fun vs H Q _ => ∃ (a : Addr) (xs : List V) (qs : List Rat), vs = [.ref a] ∧ SqL K H a xs ∧ All2 (Rn K H) xs qs ∧ qs.length ≤ 63 ∧ (∀ q ∈ qs, Sz 3900 q) ∧ ∀ rs v H', InOrder qs rs → Same H H' → RnL K H' v rs → Q v H'
theorem ok_Ins {f : Addr} {fd : FuncData} (D : DefAt K mg "_inserted" s_inserted ["rows"] f fd) (ml : mg "len" = none) : FnOk P w K mg base (CXl P w) 1 f fd ["rows"] (spIns K) := by
  refine D.F.okX sc_inserted (fun vs H Q E h => ?_) (fun cdv A outer s H vs Q E hr h => ?_)
  · obtain ⟨a, xs, qs, rfl, _⟩ := h
    rfl
  · obtain ⟨a, xs, qs, rfl, hS, hA, hlen, hz, q⟩ := h
    have nd := sc_inserted.nd
    refine ⟨_, pss_cons (ps_set (i := 1) nd rfl (.inl rfl) (pe_lst pa_nil))
      (pss_cons (ps_for (passes_of rfl) rfl (pi_list (pv 0)) (pg_name (i := 2) nd rfl (.inl rfl))
        (pss_cons (ps_asg (pv 2) (pg_tup rfl (pgs_cons (pg_name (i := 3) nd rfl (.inl rfl)) (pgs_cons (pg_name (i := 4) nd rfl (.inl rfl)) pgs_nil))))
        (pss_cons (ps_set (i := 5) nd rfl (.inl rfl) (pe_callB call_len_seq (by rfl) ml PySem.boot_len (pa_cons (pv 1) pa_nil)))
        (C8.pss_cut (ps_while (passes_of rfl) (PW.pt (pw_and (pt_truth (pv 5) (fun _ => rfl)) (pw_and1 (pt_cmpR op_lt (pe_op op_mulW (pv 3) (pe_ix (r := rIxT K) ix_tup (pe_ix (r := rIxL K) ix_list (pv 1) (pe_op op_sub (pv 5) pe_int) (fun _ _ => rfl)) pe_int (fun _ _ => rfl))) (pe_op op_mulW (pe_ix (r := rIxT K) ix_tup (pe_ix (r := rIxL K) ix_list (pv 1) (pe_op op_sub (pv 5) pe_int) (fun _ _ => rfl)) pe_int (fun _ _ => rfl)) (pv 4)) (nomark _)))))
            (pss_one (ps_aug (i := 5) nd rfl (.inl rfl) pe_int ip_sub)))
        (pss_one (ps_if (PW.pt (pw_or (pt_not (pt_truth (pv 5) (fun _ => rfl))) (pw_or1 (pt_cmpR (op_neD hr.units) (pe_ix (r := rIxL K) ix_list (pv 1) (pe_op op_sub (pv 5) pe_int) (fun _ _ => rfl)) (pv 2) (nomark _)))))
            (pss_one (ps_expr (pe_bm PySem.F.plainAttrs_list PySem.F.slot_list_insert PySem.F.type_list_insert mt_insert (pv 1) (pa_cons (pv 5) (pa_cons (pv 2) pa_nil))))) pss_nil))))))
      (pss_one (ps_ret (pv 1)))), ?_⟩
    refine ⟨by show 0 ≤ sizeLine; decide, fun L nL => ?_⟩
    have s0 : Same H (upd H L (.lst [])) := same_new nL
    have hL0 : (upd H L (.lst [])) L = some (.lst []) := upd_same
    show tNext _ _ (upd H L (.lst []))
    generalize (upd H L (.lst [])) = H0 at s0 hL0 ⊢
    refine ⟨.ref a, rfl, a, rfl, ⟨_, s0.seq hS⟩, for_list (xs := xs) (fun i σ H' => Same H H' ∧ i ≤ qs.length ∧ ∃ o2 o3 o4 o5 fs rs, σ = [some (.ref a), some (.ref L), o2, o3, o4, o5] ∧ H' L = some (.lst fs) ∧ All2 (Rn K H') fs rs ∧ InOrder (qs.take i) rs ∧ rs.length ≤ i) ⟨s0, Nat.zero_le _, none, none, none, none, [], [], rfl, hL0, .nil, ⟨.nil, fun r => by simp⟩, Nat.le_refl _⟩ (fun i σ H' _ hP => hP.1.seq hS) (fun i x σ H' hx hP => ?_) (fun σ H' hP => ?_)⟩
    · obtain ⟨sm, _, o2, o3, o4, o5, fs, rs, rfl, hL, hF, ord, rl⟩ := hP
      obtain ⟨p, hp, rp⟩ := hA.get hx
      have il : i < qs.length := (List.getElem?_eq_some_iff.mp hp).1
      obtain ⟨b, rfl, hb⟩ := rp.same sm
      have pq : p ∈ qs := List.mem_of_getElem? hp
      have zp := hz p pq
      have fl := hF.len
      have dp := den_pos p
      have rsz : ∀ r ∈ rs, Sz 3900 r := fun r hr => hz r (List.mem_of_mem_take ((ord.2 r).mp hr))
      refine ⟨.ref b, rfl, b, _, rfl, hb, rfl, .int p.num, _, rfl, .int p.den, _, rfl, rfl, ?_⟩
      refine ⟨.ref L, rfl, L, fs, rfl, .inl (.of hL), ?_⟩
      -- the entry before k
      have ent : ∀ k : Nat, 0 < k → k ≤ rs.length → ∃ (c : Addr) (r : Rat), fs[k - 1]? = some (.ref c) ∧ rs[k - 1]? = some r ∧ SqT K H' c (rt r) ∧ Sz 3900 r := by
        intro k k0 kl
        have h1 : rs[k - 1]? = some (rs[k - 1]'(by omega)) := List.getElem?_eq_getElem (by omega)
        obtain ⟨x, hx, c, rfl, hc⟩ := hF.get2 h1
        exact ⟨c, _, hx, h1, hc, rsz _ (List.mem_of_getElem? h1)⟩
      refine ⟨fun σ' H'' => H'' = H' ∧ ∃ k : Nat, σ' = [some (.ref a), some (.ref L), some (.ref b), some (.int p.num), some (.int p.den), some (.int k)] ∧ k ≤ rs.length ∧ Above p rs k ∧ (k = 0 ∨ ∃ r, rs[k - 1]? = some r ∧ ¬ p < r), ?_, ?_⟩
      · refine while_by (fun σ' H'' => H'' = H' ∧ ∃ k : Nat, σ' = [some (.ref a), some (.ref L), some (.ref b), some (.int p.num), some (.int p.den), some (.int k)] ∧ k ≤ rs.length ∧ Above p rs k) (fun σ' _ => szOf6 σ') ⟨rfl, fs.length, rfl, by omega, fun j r hj e => absurd (List.getElem?_eq_some_iff.mp e).1 (by omega)⟩ (fun σ' H'' hP => ?_) (fun σ' H'' Q Q' f hq => ?_)
        · obtain ⟨rfl, k, rfl, kl, ab⟩ := hP
          refine ⟨_, rfl, _, rfl, ?_⟩
          by_cases k0 : k = 0
          · subst k0
            exact iteF (iteF ⟨rfl, 0, rfl, kl, ab, .inl rfl⟩)
          · obtain ⟨c, r, hc, hr', tc, zr⟩ := ent k (by omega) kl
            have kt : ((k : Int) != 0) = true := by simp; omega
            rw [kt]
            refine iteT ?_
            have ik : (k : Int) - 1 = ((k - 1 : Nat) : Int) := by omega
            refine ⟨_, rfl, .ref L, rfl, _, rfl, (k : Int), 1, rfl, rfl, L, fs, (k : Int) - 1, .ref c, rfl, rfl, .of hL, by rw [ik]; exact atI_nat hc, c, _, 1, _, rfl, rfl, tc, atI_nat (j := 1) rfl, _, _, rfl, rfl, wm zp.1 (by rw [Int.natAbs_natCast]; exact zr.2), ?_⟩
            refine ⟨.ref L, rfl, _, rfl, (k : Int), 1, rfl, rfl, L, fs, (k : Int) - 1, .ref c, rfl, rfl, .of hL, by rw [ik]; exact atI_nat hc, c, _, 0, _, rfl, rfl, tc, atI_nat (j := 0) rfl, _, rfl, _, _, rfl, rfl, wm zr.1 (by rw [Int.natAbs_natCast]; exact zp.2), ?_⟩
            refine ⟨_, _, rfl, rfl, _, rfl, ite2 (fun c => ?_) (fun c => ?_)⟩
            · have lt : p < r := (Rat.lt_iff p r).mpr (of_decide_eq_true c)
              refine ⟨_, rfl, (k : Int), 1, rfl, rfl, ⟨rfl, k - 1, by rw [← ik]; rfl, by omega, fun j t hj e => ?_⟩, ?_⟩
              · by_cases ej : j = k - 1
                · subst ej
                  rw [hr'] at e
                  cases e
                  exact lt
                · exact ab j t (by omega) e
              · show ((k : Int) - 1).toNat < (k : Int).toNat
                omega
            · exact ⟨rfl, k, rfl, kl, ab, .inr ⟨r, hr', fun z => c (decide_eq_true ((Rat.lt_iff p r).mp z))⟩⟩
        · obtain ⟨x, hx, k, hk, hq⟩ := hq
          refine ⟨x, hx, k, hk, ?_⟩
          cases k with
          | false => exact f _ _ hq
          | true =>
            obtain ⟨a1, b1, a2, b2, a3, b3, a4, a5, b4, b5, a6, a7, a8, a9, b6, b7, b8, b9, a10, a11, a12, a13, b10, b11, b12, b13, a14, a15, b14, b15, b16, hq⟩ := hq
            obtain ⟨c1, d1, c2, d2, c3, c4, d3, d4, c5, c6, c7, c8, d5, d6, d7, d8, c9, c10, c11, c12, d9, d10, d11, d12, c13, d13, c14, c15, d14, d15, d16, hq⟩ := hq
            obtain ⟨g1, g2, g3, g4, g5, g6, hq⟩ := hq
            exact ⟨a1, b1, a2, b2, a3, b3, a4, a5, b4, b5, a6, a7, a8, a9, b6, b7, b8, b9, a10, a11, a12, a13, b10, b11, b12, b13, a14, a15, b14, b15, b16, c1, d1, c2, d2, c3, c4, d3, d4, c5, c6, c7, c8, d5, d6, d7, d8, c9, c10, c11, c12, d9, d10, d11, d12, c13, d13, c14, c15, d14, d15, d16, g1, g2, g3, g4, g5, g6, f _ _ hq⟩
      · rintro σ' H'' ⟨rfl, k, rfl, kl, ab, last⟩
        have tq := take_snoc hp
        -- the number is put at k
        have big : fs.length < sizeLine := Nat.lt_trans (show fs.length < 1000 by omega) (small1000 (Nat.le_refl _))
        have su : Same H (upd H'' L (.lst (fs.take (k : Int).toNat ++ [.ref b] ++ fs.drop (k : Int).toNat))) := same_but sm nL
        have put : (∀ j r, j < k → rs[j]? = some r → r < p) → ∃ fs' rs', (upd H'' L (.lst (fs.take (k : Int).toNat ++ [.ref b] ++ fs.drop (k : Int).toNat))) L = some (.lst fs') ∧ All2 (Rn K (upd H'' L (.lst (fs.take (k : Int).toNat ++ [.ref b] ++ fs.drop (k : Int).toNat)))) fs' rs' ∧ InOrder (qs.take (i + 1)) rs' ∧ rs'.length ≤ i + 1 := fun be => by
          refine ⟨_, rs.take k ++ [p] ++ rs.drop k, upd_same, ?_, ?_, ?_⟩
          · rw [Int.toNat_natCast]
            have h1 := hF.imp fun _ _ z => rn_lst (o := .lst (fs.take k ++ [.ref b] ++ fs.drop k)) hL z
            exact ((h1.take k).append (.cons (rn_lst hL ⟨b, rfl, hb⟩) .nil)).append (h1.drop k)
          · rw [tq]
            exact put_order ord kl ab be
          · rw [List.length_append, List.length_append, List.length_take, List.length_drop, List.length_singleton]
            omega
        refine ⟨_, rfl, _, rfl, ?_⟩
        by_cases k0 : k = 0
        · subst k0
          obtain ⟨fs', rs', h1, h2, h3, h4⟩ := put (fun j r hj => by omega)
          exact iteT (iteT ⟨.ref L, rfl, .inl ⟨rfl, _, .of hL⟩, _, rfl, _, rfl, L, fs, ((0 : Nat) : Int), .ref b, rfl, rfl, hL, big, by omega, by omega, su, il, _, _, _, _, fs', rs', rfl, h1, h2, h3, h4⟩)
        · have kt : ((k : Int) != 0) = true := by simp; omega
          rw [kt]
          refine iteF ?_
          obtain ⟨c, r, hc, hr', tc, zr⟩ := ent k (by omega) kl
          have ik : (k : Int) - 1 = ((k - 1 : Nat) : Int) := by omega
          obtain ⟨r2, hr2, nlt⟩ := last.resolve_left k0
          rw [hr'] at hr2
          cases hr2
          refine ⟨.ref L, rfl, _, rfl, (k : Int), 1, rfl, rfl, L, fs, (k : Int) - 1, .ref c, rfl, rfl, .of hL, by rw [ik]; exact atI_nat hc, .ref b, rfl, datR r, datR p, Rn.dp ⟨c, rfl, tc⟩, Rn.dp ⟨b, rfl, hb⟩, shapedR _, shapedR _, _, rfl, ?_⟩
          rw [eqvRR]
          by_cases e : r = p
          · rw [decide_eq_true e]
            refine iteF ⟨sm, il, _, _, _, _, fs, rs, rfl, hL, hF, ?_, by omega⟩
            rw [tq]
            exact same_order ord (e ▸ List.mem_of_getElem? hr')
          · rw [decide_eq_false e]
            have rp' : r < p := by grind
            obtain ⟨fs', rs', h1, h2, h3, h4⟩ := put (fun j t hj et => by
              by_cases ej : j = k - 1
              · subst ej
                rw [hr'] at et
                cases et
                exact rp'
              · have := pw_get ord.1 (show j < k - 1 by omega) et hr'
                grind)
            exact iteT ⟨.ref L, rfl, .inl ⟨rfl, _, .of hL⟩, _, rfl, _, rfl, L, fs, (k : Int), .ref b, rfl, rfl, hL, big, by omega, by omega, su, il, _, _, _, _, fs', rs', rfl, h1, h2, h3, h4⟩
    · obtain ⟨sm, _, o2, o3, o4, o5, fs, rs, rfl, hL, hF, ord, rl⟩ := hP
      have e : qs.take xs.length = qs := List.take_of_length_le (by rw [hA.len]; exact Nat.le_refl _)
      rw [e] at ord
      exact ⟨_, rfl, q rs _ H' ord sm ⟨L, fs, rfl, hL, hF⟩⟩
/-! ### _ranked, not reached here; ascending -/
theorem ok_Rkd {f : Addr} {fd : FuncData} (D : DefAt K mg "_ranked" s_ranked ["rows"] f fd) : FnOk P w K mg base (CXl P w) 1 f fd ["rows"] (fun _ _ _ _ => False) :=
  D.F.okX sc_ranked (fun _ _ _ _ h => h.elim) (fun _ _ _ _ _ _ _ _ _ h => h.elim)
def spAsc (K : PySem.W.Frag) : Sp := fun vs H Q _ => ∃ (a : Addr) (xs : List V) (qs : List Rat), vs = [.ref a] ∧ SqL K H a xs ∧ All2 (Rn K H) xs qs ∧ qs.length ≤ 8 ∧ (∀ q ∈ qs, Sz 3900 q) ∧ ∀ rs v H', InOrder qs rs → Same H H' → RnL K H' v rs → Q v H'
theorem ok_Asc {f fR fI : Addr} {fd dR dI : FuncData} {t8 : Tok} (D : DefAt K mg "ascending" s_ascending ["rows"] f fd) (DR : DefAt K mg "_ranked" s_ranked ["rows"] fR dR) (DI : DefAt K mg "_inserted" s_inserted ["rows"] fI dI) (m8 : mg "FEW" = some (.int 8 t8)) (ml : mg "len" = none)
    (GR : FnOk P w K mg base (CXl P w) 1 fR dR ["rows"] (fun _ _ _ _ => False)) (GI : FnOk P w K mg base (CXl P w) 1 fI dI ["rows"] (spIns K)) : FnOk P w K mg base (CXl P w) 2 f fd ["rows"] (spAsc K) := by
  refine D.F.okX sc_ascending (fun vs H Q E h => ?_) (fun cdv A outer s H vs Q E hr h => ?_)
  · obtain ⟨a, xs, qs, rfl, _⟩ := h
    rfl
  · obtain ⟨a, xs, qs, rfl, hS, hA, hlen, hz, q⟩ := h
    refine ⟨_, pss_one (ps_ret (pe_ifExp (pt_cmpR op_gt (pe_callB call_len_seq (by rfl) ml PySem.boot_len (pa_cons (pv 0) pa_nil)) (pe_glob (v := .int 8) rfl m8 ⟨t8, rfl⟩) (nomark _)) (pe_call GR hr (by rfl) DR.g DR.F.kp DR.b .nil passL (pa_cons (pv 0) pa_nil)) (pe_call GI hr (by rfl) DI.g DI.F.kp DI.b .nil passL (pa_cons (pv 0) pa_nil)))), ?_⟩
    have xl := hA.len
    refine ⟨.ref a, rfl, a, xs, rfl, .inl hS, (xs.length : Int), 8, rfl, rfl, _, rfl, ite2 (fun c => ?_) (fun _ => ?_)⟩
    · have : (8 : Int) < (xs.length : Int) := of_decide_eq_true c
      omega
    · exact ⟨_, rfl, a, xs, qs, rfl, hS, hA, by omega, hz, q⟩
/-! ### in_order -/
def spInO (K : PySem.W.Frag) (C : Addr) : Sp := fun vs H Q E => ∃ x, vs = [x] ∧
  ((∃ a qs, x = .ref a ∧ Nums K H a qs ∧ qs.length ≤ 8 ∧ (∀ q ∈ qs, Sz 3900 q) ∧ ∀ rs v H', InOrder qs rs → Same H H' → RnL K H' v rs → Q v H') ∨ (∃ n, Kd K H x n ∧ (n == "list") = false ∧ E (.ref C) none H))
theorem ok_InO {f fA fS C : Addr} {fd dA dS : FuncData} (D : DefAt K mg "in_order" s_in_order ["values"] f fd) (DA : DefAt K mg "as_ratio" s_as_ratio ["value"] fA dA) (DS : DefAt K mg "ascending" s_ascending ["rows"] fS dS) (X : ErrAt K mg "InvalidNumber" BMv "ValueError.__new__" C) (mi : mg "isinstance" = none) (ml : mg "list" = none) (mt : mg "type" = none) (m1 : mg "int" = none)
    (GA : FnOk P w K mg base (CXl P w) 3 fA dA ["value"] (spAR K C)) (GS : FnOk P w K mg base (CXl P w) 2 fS dS ["rows"] (spAsc K)) : FnOk P w K mg base (CXl P w) 4 f fd ["values"] (spInO K C) := by
  refine D.F.okX sc_in_order (fun vs H Q E h => ?_) (fun cdv A outer s H vs Q E hr h => ?_)
  · obtain ⟨x, rfl, _⟩ := h
    rfl
  · obtain ⟨x, rfl, h⟩ := h
    refine ⟨_, pss_cons (ps_if (pt_not (pt_val (pe_callB call_isi (by rfl) mi (by decide +kernel) (pa_cons (pv 0) (pa_cons (pe_bltn (v := .ty "list") (by rfl) ml (by decide +kernel) rfl) pa_nil))))) (pss_one (ps_raise rfl (takes_of rfl rfl rfl rfl) (X.mk0 PySem.F.excBase_ValueError rfl))) pss_nil)
      (pss_one (ps_ret (pe_call GS (hr.mono (by decide)) (by rfl) DS.g DS.F.kp DS.b .nil passL (pa_cons (pe_lc (own := [("value", 1)]) (g := gName 1) (tt := tYes) (by rfl) sc_in_order.nd (pi_list (pv 0)) (blkOk_by (N := ["values", "value"]) (sc := defScope s_in_order) (by decide +kernel)) (fun _ _ _ _ _ => pg_name (i := 1) sc_in_order.nd rfl (.inl rfl)) (fun _ _ _ _ _ => pts_nil)
        (fun _ _ _ _ _ => pe_ifExp (pt_cmpR op_isTyB (pe_callTy (T := "type") (r := rTyp K) (by exact call_type1) (by rfl) mt (by decide +kernel) (pa_cons (pv 1) pa_nil)) (pe_bltn (v := .ty "int") (by rfl) m1 (by decide +kernel) rfl) (nomark _)) (pe_tup (pa_cons (pv 1) (pa_cons pe_int pa_nil))) (pe_call GA hr (by rfl) DA.g DA.F.kp DA.b .nil passL (pa_cons (pv 1) pa_nil)))) pa_nil)))), ?_⟩
    rcases h with ⟨a, qs, rfl, ⟨xs, hS, hN⟩, hlen, hsz, q⟩ | ⟨n, hk, hn, e⟩
    · refine ⟨.ref a, rfl, .ref a, _, _, _, _, rfl, .ty "list", sql_ty hS, kd_list (.lst hS), _, rfl, iteF ?_⟩
      have len := hN.len
      refine ⟨.ref a, rfl, a, rfl, ⟨_, hS⟩, fun D1 n1 => lc_list (xs := xs) (fun i H' => Same H H' ∧ ∃ acc, H' D1 = some (.lst acc) ∧ acc.length = i ∧ All2 (Rn K H') acc (qs.take i)) ⟨same_new n1, [], upd_same, rfl, .nil⟩ (fun i H' _ hP => hP.1.seq hS) (fun i x H' hx hP => ?_) (fun H1 hP => ?_)⟩
      · obtain ⟨sm, acc, hD, hl, hA⟩ := hP
        obtain ⟨p, hp, np⟩ := hN.get hx
        have il : i < xs.length := (List.getElem?_eq_some_iff.mp hx).1
        have big : acc.length < sizeLine := Nat.lt_trans (show acc.length < 1000 by omega) (small1000 (Nat.le_refl _))
        have np' := np.same sm
        obtain ⟨n, hk⟩ := Arg.kd np'
        have fin : ∀ v H2, Same H' H2 → Rn K H2 v p → ∃ acc2, H2 D1 = some (.lst acc2) ∧ acc2.length < sizeLine ∧ Same H (upd H2 D1 (.lst (acc2 ++ [v]))) ∧ ∃ acc3, (upd H2 D1 (.lst (acc2 ++ [v]))) D1 = some (.lst acc3) ∧ acc3.length = i + 1 ∧ All2 (Rn K (upd H2 D1 (.lst (acc2 ++ [v])))) acc3 (qs.take (i + 1)) := fun v H2 s2 r2 => by
          refine ⟨acc, s2 _ _ hD, big, same_but (sm.trans s2) n1, _, upd_same, by rw [List.length_append, hl]; rfl, ?_⟩
          rw [take_snoc hp]
          exact (hA.imp fun _ _ z => rn_lst (s2 _ _ hD) (z.same s2)).snoc (rn_lst (s2 _ _ hD) r2)
        refine ⟨rfl, x, rfl, _, _, rfl, hk.tyB, _, _, rfl, rfl, _, rfl, ?_⟩
        rw [kd_int_ty hk]
        refine ite2 (fun c => ?_) (fun c => ?_)
        · obtain ⟨j, rfl⟩ := isI_int c
          refine ⟨_, rfl, by show 2 ≤ sizeLine; decide, fun t nt => ?_⟩
          have ep : p = ((j : Int) : Rat) := by
            cases np'
            rfl
          subst ep
          exact fin (.ref t) _ (same_new nt) (Rn.mk (q := (j : Rat)))
        · exact ⟨_, rfl, x, some p, rfl, np', fun v H2 s2 r2 => fin v H2 s2 r2⟩
      obtain ⟨s1, rows, hD1, hl1, hR⟩ := hP
      rw [List.take_of_length_le (by omega)] at hR
      exact ⟨D1, rows, qs, rfl, .of hD1, hR, hlen, hsz, fun rs v H' o s' r => q rs v H' o (s1.trans s') r⟩
    · have e1 : ∀ H', H' = H → E (.ref C) none H' := fun H' z => z ▸ e
      refine ⟨x, rfl, x, _, _, _, _, rfl, .ty "list", hk.ty, kd_list hk, _, rfl, ?_⟩
      rw [hn]
      exact iteT e
end
end LR
set_option linter.all false
/-! rows of a track: plain mathematics -/
namespace LR
structure Row where
  b : Rat
  s : Rat
  p : Rat
/-- where a row's line is at 0, and at t -/
def Row.base (r : Row) : Rat := r.p - r.s * r.b
def Row.at_ (r : Row) (t : Rat) : Rat := r.p + r.s * (t - r.b)
theorem Row.at_eq (r : Row) (t : Rat) : r.at_ t = r.s * t + r.base := by
  unfold Row.at_ Row.base
  grind
/-- q in units of 1/u -/
def Uq (u : Int) (q : Rat) (B : Int) : Prop := q * (u : Rat) = (B : Rat)
theorem cast_ne {u : Int} (h : 0 < u) : ((u : Int) : Rat) ≠ 0 := fun e => by
  have := Rat.intCast_inj.mp (show ((u : Int) : Rat) = ((0 : Int) : Rat) from e)
  omega
theorem uq_div {u B : Int} {q : Rat} (h : 0 < u) (e : Uq u q B) : q = Rat.divInt B u := by
  have h2 := cast_ne h
  unfold Uq at e
  rw [Rat.divInt_eq_div, ← e]
  grind
theorem uq_of {u B : Int} (h : 0 < u) : Uq u (Rat.divInt B u) B := by
  unfold Uq
  rw [Rat.divInt_eq_div]
  have := cast_ne h
  grind
theorem uq_self (q : Rat) : Uq (q.den : Int) q q.num := by
  have d0 : (0 : Int) < q.den := by have := den_pos q; omega
  have := uq_of (B := q.num) d0
  rw [Rat.num_divInt_den] at this
  exact this
/-- a unit that divides nothing of both: no greater than the product of the bottoms -/
theorem unit_le {u R B : Int} {s c : Rat} (h0 : 0 < u) (g : Nat.gcd (Nat.gcd R.natAbs B.natAbs) u.natAbs = 1) (h1 : Uq u s R) (h2 : Uq u c B) : u ≤ (s.den : Int) * c.den := by
  have e1 := uq_self s
  have e2 := uq_self c
  have d1 := den_pos s
  have d2 := den_pos c
  unfold Uq at *
  have k1 : R * (s.den : Int) = s.num * u := by
    apply Rat.intCast_inj.mp
    rw [Rat.intCast_mul, Rat.intCast_mul, ← h1, ← e1]
    grind
  have k2 : B * (c.den : Int) = c.num * u := by
    apply Rat.intCast_inj.mp
    rw [Rat.intCast_mul, Rat.intCast_mul, ← h2, ← e2]
    grind
  have D : 0 < (s.den : Int) * c.den := Int.mul_pos (by omega) (by omega)
  have v1 : u ∣ R * ((s.den : Int) * c.den) := ⟨s.num * c.den, by rw [← Int.mul_assoc, k1]; grind⟩
  have v2 : u ∣ B * ((s.den : Int) * c.den) := ⟨c.num * s.den, by rw [Int.mul_comm (s.den : Int), ← Int.mul_assoc, k2]; grind⟩
  generalize (s.den : Int) * c.den = d at D v1 v2 ⊢
  have n1 : u.natAbs ∣ R.natAbs * d.natAbs := by rw [← Int.natAbs_mul]; exact Int.natAbs_dvd_natAbs.mpr v1
  have n2 : u.natAbs ∣ B.natAbs * d.natAbs := by rw [← Int.natAbs_mul]; exact Int.natAbs_dvd_natAbs.mpr v2
  have n3 : u.natAbs ∣ Nat.gcd R.natAbs B.natAbs * d.natAbs := by
    rw [← Nat.gcd_mul_right]
    exact Nat.dvd_gcd n1 n2
  have n4 : u.natAbs ∣ Nat.gcd (Nat.gcd R.natAbs B.natAbs) u.natAbs * d.natAbs := by
    rw [← Nat.gcd_mul_right]
    exact Nat.dvd_gcd n3 (Nat.dvd_mul_right _ _)
  rw [g, Nat.one_mul] at n4
  have := Nat.le_of_dvd (by omega) n4
  omega
theorem uq_abs {u B : Int} {q : Rat} {a b : Nat} (h0 : 0 < u) (e : Uq u q B) (hq : Sz a q) (hu : u.natAbs < 2 ^ b) : B.natAbs < 2 ^ (a + b) := by
  have e1 := uq_self q
  have d1 := den_pos q
  unfold Uq at *
  have k1 : B * (q.den : Int) = q.num * u := by
    apply Rat.intCast_inj.mp
    rw [Rat.intCast_mul, Rat.intCast_mul, ← e, ← e1]
    grind
  have k2 : B.natAbs * q.den = q.num.natAbs * u.natAbs := by
    have := congrArg Int.natAbs k1
    rw [Int.natAbs_mul, Int.natAbs_mul, Int.natAbs_natCast] at this
    exact this
  have k3 : B.natAbs ≤ B.natAbs * q.den := Nat.le_mul_of_pos_right _ d1
  have k4 := mul_lt hq.1 hu
  omega
/-! ### the row that a time stands in: behind it stops the first one that begins later -/
def rowGo (t : Rat) : Row → List Row → Row
  | f, [] => f
  | f, r :: rs => if t < r.b then f else rowGo t r rs
def nextRow (r : Row) (c : Rat × Rat) : Row := ⟨c.1, c.2, r.at_ c.1⟩
def trackGo (r : Row) : List (Rat × Rat) → List Row
  | [] => [r]
  | c :: cs => r :: trackGo (nextRow r c) cs
theorem rowGo_mem (t : Rat) : ∀ (f : Row) (rs : List Row), rowGo t f rs = f ∨ rowGo t f rs ∈ rs
  | f, [] => .inl rfl
  | f, r :: rs => by
    unfold rowGo
    split
    · exact .inl rfl
    · rcases rowGo_mem t r rs with h | h
      · rw [h]
        exact .inr List.mem_cons_self
      · exact .inr (List.mem_cons_of_mem _ h)
/-- whole laps and the rest, from a top and a bottom -/
theorem floor_of_uq {P L : Rat} {u T : Int} (hu : 0 < u) (e : Uq u P T) (hL : 0 < L) : (P / L).floor = (T * L.den) / (L.num * u) := by
  have n0 := pos_num hL
  have d0 : (0 : Int) < L.den := by have := den_pos L; omega
  have e1 := uq_div hu e
  have e2 : P / L = Rat.divInt (T * L.den) (L.num * u) := by
    rw [e1]
    conv => lhs; rw [show L = Rat.divInt L.num L.den from (Rat.num_divInt_den L).symm]
    rw [Rat.divInt_eq_div, Rat.divInt_eq_div, Rat.divInt_eq_div, Rat.intCast_mul, Rat.intCast_mul]
    have := cast_ne hu
    have := cast_ne d0
    have := cast_ne n0
    grind
  rw [e2, floor_divInt (Int.mul_pos n0 hu)]
theorem rem_of_uq {P L : Rat} {u T : Int} (hu : 0 < u) (e : Uq u P T) (hL : 0 < L) : rem P L = Rat.divInt ((T * L.den) % (L.num * u)) (u * L.den) := by
  have n0 := pos_num hL
  have d0 : (0 : Int) < L.den := by have := den_pos L; omega
  have f := floor_of_uq hu e hL
  unfold rem
  rw [f]
  have em := Int.mul_ediv_add_emod (T * L.den) (L.num * u)
  generalize (T * L.den) / (L.num * u) = z at em ⊢
  have er : (T * L.den) % (L.num * u) = T * L.den - L.num * u * z := by omega
  rw [er]
  have e1 := uq_div hu e
  rw [e1]
  conv => lhs; rw [show L = Rat.divInt L.num L.den from (Rat.num_divInt_den L).symm]
  rw [Rat.divInt_eq_div, Rat.divInt_eq_div, Rat.divInt_eq_div, Rat.intCast_sub, Rat.intCast_mul, Rat.intCast_mul, Rat.intCast_mul, Rat.intCast_mul]
  have := cast_ne hu
  have := cast_ne d0
  grind
/-! ### _line -/
/-- the three ints of a line, cut by their divisor -/
theorem line_of {b s P : Rat} {T u R B U g : Int} (hu : 0 < u) (e : Uq u P T) (eR : R = s.num * b.den * u) (eB : B = T * b.den * s.den - s.num * b.num * u) (eU : U = b.den * s.den * u) (eg : g = ((Nat.gcd (Nat.gcd R.natAbs B.natAbs) U.natAbs : Nat) : Int)) :
    0 < g ∧ 0 < U.fdiv g ∧ Nat.gcd (Nat.gcd (R.fdiv g).natAbs (B.fdiv g).natAbs) (U.fdiv g).natAbs = 1 ∧ Uq (U.fdiv g) s (R.fdiv g) ∧ Uq (U.fdiv g) (P - s * b) (B.fdiv g) := by
  have db : (0 : Int) < b.den := by have := den_pos b; omega
  have ds : (0 : Int) < s.den := by have := den_pos s; omega
  have U0 : 0 < U := by rw [eU]; exact Int.mul_pos (Int.mul_pos db ds) hu
  have g0 : 0 < g := by
    rw [eg]
    have := Nat.gcd_pos_of_pos_right (Nat.gcd R.natAbs B.natAbs) (show 0 < U.natAbs by omega)
    omega
  have gd := Nat.gcd_dvd_left (Nat.gcd R.natAbs B.natAbs) U.natAbs
  have g3 := Nat.gcd_dvd_right (Nat.gcd R.natAbs B.natAbs) U.natAbs
  have gR : g ∣ R := by
    rw [eg]
    exact Int.natAbs_dvd_natAbs.mp (by rw [Int.natAbs_natCast]; exact Nat.dvd_trans gd (Nat.gcd_dvd_left _ _))
  have gB : g ∣ B := by
    rw [eg]
    exact Int.natAbs_dvd_natAbs.mp (by rw [Int.natAbs_natCast]; exact Nat.dvd_trans gd (Nat.gcd_dvd_right _ _))
  have gU : g ∣ U := by
    rw [eg]
    exact Int.natAbs_dvd_natAbs.mp (by rw [Int.natAbs_natCast]; exact g3)
  have uR : Uq U s R := by
    have := uq_self s
    unfold Uq at *
    rw [eR, eU, Rat.intCast_mul, Rat.intCast_mul, Rat.intCast_mul, Rat.intCast_mul]
    grind
  have uB : Uq U (P - s * b) B := by
    have h1 := uq_self s
    have h2 := uq_self b
    unfold Uq at *
    rw [eB, eU, Rat.intCast_sub, Rat.intCast_mul, Rat.intCast_mul, Rat.intCast_mul, Rat.intCast_mul, Rat.intCast_mul, Rat.intCast_mul]
    grind
  have ng : g.natAbs = Nat.gcd (Nat.gcd R.natAbs B.natAbs) U.natAbs := by rw [eg, Int.natAbs_natCast]
  obtain ⟨r, er⟩ := gR
  obtain ⟨c, ec⟩ := gB
  obtain ⟨v, ev⟩ := gU
  have fd : ∀ z, (g * z).fdiv g = z := fun z => by rw [Int.fdiv_eq_ediv_of_nonneg _ (Int.le_of_lt g0), Int.mul_ediv_cancel_left _ (Int.ne_of_gt g0)]
  rw [er, ec, ev, fd, fd, fd]
  have v0 : 0 < v := by rw [ev] at U0; exact Int.pos_of_mul_pos_right U0 g0
  have cg := cast_ne g0
  refine ⟨g0, v0, ?_, ?_, ?_⟩
  · rw [er, ec, ev, Int.natAbs_mul, Int.natAbs_mul, Int.natAbs_mul, Nat.gcd_mul_left, Nat.gcd_mul_left] at ng
    have : 0 < g.natAbs := by omega
    exact (Nat.eq_of_mul_eq_mul_left this (by omega)).symm
  · unfold Uq at *
    rw [er, ev, Rat.intCast_mul, Rat.intCast_mul] at uR
    grind
  · unfold Uq at *
    rw [ec, ev, Rat.intCast_mul, Rat.intCast_mul] at uB
    grind
end LR
set_option Elab.async false
set_option linter.all false
set_option maxRecDepth 100000
set_option maxHeartbeats 4000000
/-! math.gcd of three -/
namespace G3
open PySem PySem.Spec PySem.Calls PyProof.Rows L2
theorem args3 (a b c : Value) : argsOk "math.gcd" ⟨[a, b, c], []⟩ := by unfold argsOk; kernel_rfl
theorem run3 (a : Int) (t : Tok) (b : Int) (u : Tok) (c : Int) (v : Tok) : Gives (Builtin.«math.gcd» ⟨[.int a t, .int b u, .int c v], []⟩) (.int ((((Nat.gcd 0 a.natAbs).gcd b.natAbs).gcd c.natAbs : Nat) : Int)) := by
  refine .of_wp fun M A E s Q h => ?_
  obtain ⟨hp, g, dd, tk, os⟩ := s
  wp_walk
  exact ⟨_, rfl, h⟩
section
variable {X : Cx}
def rGcd3 : List V → Hp → VK → Prop := fun vs H Q => ∃ a b c : Int, vs = [.int a, .int b, .int c] ∧ Q (.int (((Nat.gcd a.natAbs b.natAbs).gcd c.natAbs : Nat) : Int)) H
theorem cr_gcd3 : CallR X (.builtin "math.gcd") rGcd3 := by
  intro pins s σ H vs us Q I r h
  obtain ⟨a, b, c, rfl, q⟩ := h
  cases r with
  | cons r1 r =>
  cases r with
  | cons r2 r =>
  cases r with
  | cons r3 r =>
  cases r
  obtain ⟨t1, e⟩ := (show ∃ t, _ = Value.int a t from r1); subst e
  obtain ⟨t2, e⟩ := (show ∃ t, _ = Value.int b t from r2); subst e
  obtain ⟨t3, e⟩ := (show ∃ t, _ = Value.int c t from r3); subst e
  have g := run3 a t1 b t2 c t3
  rw [Nat.gcd_zero_left] at g
  exact call_function_meets PySem.W.MGF.kind_gcd PySem.W.MGF.plain_gcd PySem.W.MGF.entry_gcd (args3 _ _ _) g.meets ⟨.int _, H, I.tok _, ⟨_, rfl⟩, q⟩
end
end G3
set_option Elab.async false
set_option linter.all false
set_option maxRecDepth 100000
set_option maxHeartbeats 4000000
set_option exponentiation.threshold 100000
namespace LR
open PySem PySem.Spec PyProof.Rows L2
theorem sc_line : FnScope ["begin", "speed", "top", "bottom", "begin_top", "begin_bottom", "speed_top", "speed_bottom", "rate", "base", "unit", "divisor"] ["begin", "speed", "top", "bottom"] (defScope s_line) := ⟨rfl, rfl, rfl, by decide +kernel, rfl, by decide +kernel, by decide +kernel⟩
theorem sc_row_at : FnScope ["track", "time", "top", "bottom", "found", "row", "begin_top", "begin_bottom"] ["track", "time"] (defScope s_row_at) := ⟨rfl, rfl, rfl, by decide +kernel, rfl, by decide +kernel, by decide +kernel⟩
theorem sc_position_in : FnScope ["row", "time", "top", "bottom", "_", "rate", "base", "unit"] ["row", "time"] (defScope s_position_in) := ⟨rfl, rfl, rfl, by decide +kernel, rfl, by decide +kernel, by decide +kernel⟩
theorem sc_place_in : FnScope ["row", "time", "length", "top", "bottom", "length_top", "length_bottom"] ["row", "time", "length"] (defScope s_place_in) := ⟨rfl, rfl, rfl, by decide +kernel, rfl, by decide +kernel, by decide +kernel⟩
theorem sc_laps_in : FnScope ["row", "time", "length", "top", "bottom", "length_top", "length_bottom"] ["row", "time", "length"] (defScope s_laps_in) := ⟨rfl, rfl, rfl, by decide +kernel, rfl, by decide +kernel, by decide +kernel⟩
theorem sc_track_of : FnScope ["start", "pieces", "top", "bottom", "rows", "begin", "speed"] ["start", "pieces"] (defScope s_track_of) := ⟨rfl, rfl, rfl, by decide +kernel, rfl, by decide +kernel, by decide +kernel⟩
/-- the ints of a row's line -/
structure LineZ (r : Row) (R B U : Int) : Prop where
  u0 : 0 < U
  g : Nat.gcd (Nat.gcd R.natAbs B.natAbs) U.natAbs = 1
  s : Uq U r.s R
  b : Uq U r.base B
/-- a row as a tuple -/
def RowAt (K : PySem.W.Frag) (H : Hp) (v : V) (r : Row) : Prop := ∃ (a : Addr) (vb vs : V) (R B U : Int), v = .ref a ∧ SqT K H a [vb, vs, .int R, .int B, .int U] ∧ Rn K H vb r.b ∧ Rn K H vs r.s ∧ LineZ r R B U
/-- how great a row's numbers may be -/
structure RowZ (r : Row) : Prop where
  b : Sz 100 r.b
  s : Sz 100 r.s
  c : Sz 1400 r.base
section
variable {K : PySem.W.Frag} {H H' : Hp} {v : V} {r : Row}
theorem RowAt.same (s : Same H H') (h : RowAt K H v r) : RowAt K H' v r := let ⟨a, vb, vs, R, B, U, e, h1, h2, h3, z⟩ := h; ⟨a, vb, vs, R, B, U, e, same_sqt s h1, h2.same s, h3.same s, z⟩
theorem RowAt.but {D : Addr} (O : Odd H D) (b : But D H H') (h : RowAt K H v r) : RowAt K H' v r := let ⟨a, vb, vs, R, B, U, e, h1, h2, h3, z⟩ := h; ⟨a, vb, vs, R, B, U, e, O.sqt b h1, O.rn b h2, O.rn b h3, z⟩
theorem row_upd {D : Addr} {ys : List V} {o : HO} (hD : H D = some (.lst ys)) (h : RowAt K H v r) : RowAt K (upd H D o) v r := h.but (.lst hD) but_new
theorem LineZ.sizes {R B U : Int} (z : LineZ r R B U) (h : RowZ r) : U.natAbs < 2 ^ 1500 ∧ R.natAbs < 2 ^ 1600 ∧ B.natAbs < 2 ^ 2900 := by
  have h1 := unit_le z.u0 z.g z.s z.b
  have h2 : U.natAbs < 2 ^ 1500 := by
    have := mul_lt h.s.2 h.c.2
    have u0 := z.u0
    have e : ((r.s.den : Int) * r.base.den) = ((r.s.den * r.base.den : Nat) : Int) := by rw [Int.natCast_mul]
    rw [e] at h1
    omega
  exact ⟨h2, uq_abs z.u0 z.s h.s h2, uq_abs z.u0 z.b h.c h2⟩
end
section
variable {P : Program} {w : World} {K : PySem.W.Frag} {mg : Str → Option Value} {base : Heap}
theorem fmod_in {x m : Int} (hm : 0 < m) : 0 ≤ x.fmod m ∧ x.fmod m < m := by
  rw [Int.fmod_eq_emod_of_nonneg _ (Int.le_of_lt hm)]
  exact ⟨Int.emod_nonneg _ (Int.ne_of_gt hm), Int.emod_lt_of_pos _ hm⟩
theorem up39 {n b : Nat} (h : n < 2 ^ b) (e : b ≤ 3900) : n < 2 ^ 3900 := Nat.lt_of_lt_of_le h (Nat.pow_le_pow_right (by decide) e)
theorem mulz {x y : Int} {a b : Nat} (h1 : x.natAbs < 2 ^ a) (h2 : y.natAbs < 2 ^ b) : (x * y).natAbs < 2 ^ (a + b) := by
  rw [Int.natAbs_mul]
  exact mul_lt h1 h2
/-! ### position_in -/
def spPin (K : PySem.W.Frag) : Sp := fun vs H Q _ => ∃ (v x : V) (r : Row) (t : Rat), vs = [v, x] ∧ RowAt K H v r ∧ Rn K H x t ∧ RowZ r ∧ Sz 300 t ∧
  ∀ (T u : Int) (a : Addr) H', Same H H' → 0 < u → Uq u (r.at_ t) T → T.natAbs < 2 ^ 3300 → u.natAbs < 2 ^ 1900 → SqT K H' a [.int T, .int u] → Q (.ref a) H'
theorem ok_Pin {f : Addr} {fd : FuncData} (D : DefAt K mg "position_in" s_position_in ["row", "time"] f fd) : FnOk P w K mg base (CXl P w) 1 f fd ["row", "time"] (spPin K) := by
  refine D.F.okX sc_position_in (fun vs H Q E h => ?_) (fun cdv A outer s H vs Q E hr h => ?_)
  · obtain ⟨v, x, r, t, rfl, _⟩ := h
    rfl
  · obtain ⟨v, x, r, t, rfl, ⟨a, vb, vs, R, B, U, rfl, ha, hb, hs, z⟩, ⟨c, rfl, hc⟩, rz, zt, q⟩ := h
    have nd := sc_position_in.nd
    refine ⟨_, pss_cons (ps_asg (pv 1) (pg_tup rfl (pgs_cons (pg_name (i := 2) nd rfl (.inl rfl)) (pgs_cons (pg_name (i := 3) nd rfl (.inl rfl)) pgs_nil))))
      (pss_cons (ps_asg (pv 0) (pg_tup rfl (pgs_cons (pg_name (i := 4) nd rfl (.inl rfl)) (pgs_cons (pg_name (i := 4) nd rfl (.inl rfl)) (pgs_cons (pg_name (i := 5) nd rfl (.inl rfl)) (pgs_cons (pg_name (i := 6) nd rfl (.inl rfl)) (pgs_cons (pg_name (i := 7) nd rfl (.inl rfl)) pgs_nil)))))))
      (pss_one (ps_ret (pe_tup (pa_cons (pe_op op_add (pe_op op_mulW (pv 5) (pv 2)) (pe_op op_mulW (pv 6) (pv 3))) (pa_cons (pe_op op_mulW (pv 7) (pv 3)) pa_nil)))))), ?_⟩
    obtain ⟨z1, z2, z3⟩ := z.sizes rz
    have d0 : (0 : Int) < t.den := by have := den_pos t; omega
    have zd : ((t.den : Nat) : Int).natAbs < 2 ^ 300 := by rw [Int.natAbs_natCast]; exact zt.2
    refine ⟨.ref c, rfl, c, _, rfl, hc, rfl, _, _, rfl, _, _, rfl, rfl, ?_⟩
    refine ⟨.ref a, rfl, a, _, rfl, ha, rfl, _, _, rfl, _, _, rfl, _, _, rfl, _, _, rfl, _, _, rfl, rfl, ?_⟩
    refine ⟨_, rfl, _, rfl, R, t.num, rfl, rfl, wm (up39 z2 (by decide)) (up39 zt.1 (by decide)), _, rfl, _, rfl, B, (t.den : Int), rfl, rfl, wm (up39 z3 (by decide)) (up39 zd (by decide)), _, _, rfl, rfl, _, rfl, _, rfl, U, (t.den : Int), rfl, rfl, wm (up39 z1 (by decide)) (up39 zd (by decide)), by show 2 ≤ sizeLine; decide, fun p np => ?_⟩
    refine q (R * t.num + B * t.den) (U * t.den) p _ (same_new np) (Int.mul_pos z.u0 d0) ?_ ?_ (Nat.lt_of_lt_of_le (mulz z1 zd) (Nat.pow_le_pow_right (by decide) (by decide))) (.inl (.inl upd_same))
    · have h1 := uq_self t
      have h2 := z.s
      have h3 := z.b
      rw [r.at_eq]
      unfold Uq at *
      rw [Rat.intCast_add, Rat.intCast_mul, Rat.intCast_mul, Rat.intCast_mul, ← h1, ← h2, ← h3]
      grind
    · have h1 := mulz z2 zt.1
      have h2 := mulz z3 zd
      have h1' : (R * t.num).natAbs < 2 ^ 3200 := Nat.lt_of_lt_of_le h1 (Nat.pow_le_pow_right (by decide) (by decide))
      have h3 := Int.natAbs_add_le (R * t.num) (B * (t.den : Int))
      refine Nat.lt_of_lt_of_le (show _ < 2 ^ 3201 from ?_) (Nat.pow_le_pow_right (by decide) (by decide))
      rw [show 3201 = 3200 + 1 from rfl, Nat.pow_succ]
      have h2' : (B * (t.den : Int)).natAbs < 2 ^ 3200 := h2
      omega
/-! ### _line -/
def spLine (K : PySem.W.Frag) : Sp := fun vs H Q _ => ∃ (vb vs' : V) (b s P : Rat) (T u : Int), vs = [vb, vs', .int T, .int u] ∧ Rn K H vb b ∧ Rn K H vs' s ∧ 0 < u ∧ Uq u P T ∧ Sz 100 b ∧ Sz 100 s ∧ T.natAbs < 2 ^ 3300 ∧ u.natAbs < 2 ^ 1900 ∧
  ∀ (R B U : Int) (a : Addr) H', Same H H' → LineZ ⟨b, s, P⟩ R B U → SqT K H' a [.int R, .int B, .int U] → Q (.ref a) H'
theorem ok_Line {f : Addr} {fd : FuncData} (D : DefAt K mg "_line" s_line ["begin", "speed", "top", "bottom"] f fd) (mgc : mg "gcd" = some (.builtin "math.gcd")) : FnOk P w K mg base (CXl P w) 1 f fd ["begin", "speed", "top", "bottom"] (spLine K) := by
  refine D.F.okX sc_line (fun vs H Q E h => ?_) (fun cdv A outer s H vs Q E hr h => ?_)
  · obtain ⟨vb, vs', b, s, P, T, u, rfl, _⟩ := h
    rfl
  · obtain ⟨vb, vs', b, st, Pt, T, u, rfl, ⟨ab, rfl, hb⟩, ⟨as, rfl, hs⟩, u0, eP, zb, zs, zT, zu, q⟩ := h
    have nd := sc_line.nd
    refine ⟨_, pss_cons (ps_asg (pv 0) (pg_tup rfl (pgs_cons (pg_name (i := 4) nd rfl (.inl rfl)) (pgs_cons (pg_name (i := 5) nd rfl (.inl rfl)) pgs_nil))))
      (pss_cons (ps_asg (pv 1) (pg_tup rfl (pgs_cons (pg_name (i := 6) nd rfl (.inl rfl)) (pgs_cons (pg_name (i := 7) nd rfl (.inl rfl)) pgs_nil))))
      (pss_cons (ps_set (i := 8) nd rfl (.inl rfl) (pe_op op_mulW (pe_op op_mulW (pv 6) (pv 5)) (pv 3)))
      (pss_cons (ps_set (i := 9) nd rfl (.inl rfl) (pe_op op_sub (pe_op op_mulW (pe_op op_mulW (pv 2) (pv 5)) (pv 7)) (pe_op op_mulW (pe_op op_mulW (pv 6) (pv 4)) (pv 3))))
      (pss_cons (ps_set (i := 10) nd rfl (.inl rfl) (pe_op op_mulW (pe_op op_mulW (pv 5) (pv 7)) (pv 3)))
      (pss_cons (ps_set (i := 11) nd rfl (.inl rfl) (pe_callBfun G3.cr_gcd3 (by rfl) mgc (pa_cons (pv 8) (pa_cons (pv 9) (pa_cons (pv 10) pa_nil)))))
      (pss_one (ps_ret (pe_tup (pa_cons (pe_op op_fdivA (pv 8) (pv 11)) (pa_cons (pe_op op_fdivA (pv 9) (pv 11)) (pa_cons (pe_op op_fdivA (pv 10) (pv 11)) pa_nil))))))))))), ?_⟩
    have zbd : ((b.den : Nat) : Int).natAbs < 2 ^ 100 := by rw [Int.natAbs_natCast]; exact zb.2
    have zsd : ((st.den : Nat) : Int).natAbs < 2 ^ 100 := by rw [Int.natAbs_natCast]; exact zs.2
    refine ⟨.ref ab, rfl, ab, _, rfl, hb, rfl, _, _, rfl, _, _, rfl, rfl, ?_⟩
    refine ⟨.ref as, rfl, as, _, rfl, hs, rfl, _, _, rfl, _, _, rfl, rfl, ?_⟩
    refine ⟨_, rfl, _, rfl, st.num, (b.den : Int), rfl, rfl, wm (up39 zs.1 (by decide)) (up39 zbd (by decide)), _, rfl, _, u, rfl, rfl, wm (up39 (mulz zs.1 zbd) (by decide)) (up39 zu (by decide)), ?_⟩
    refine ⟨_, rfl, _, rfl, T, (b.den : Int), rfl, rfl, wm (up39 zT (by decide)) (up39 zbd (by decide)), _, rfl, _, (st.den : Int), rfl, rfl, wm (up39 (mulz zT zbd) (by decide)) (up39 zsd (by decide)), _, rfl, _, rfl, st.num, b.num, rfl, rfl, wm (up39 zs.1 (by decide)) (up39 zb.1 (by decide)), _, rfl, _, u, rfl, rfl, wm (up39 (mulz zs.1 zb.1) (by decide)) (up39 zu (by decide)), _, _, rfl, rfl, ?_⟩
    refine ⟨_, rfl, _, rfl, (b.den : Int), (st.den : Int), rfl, rfl, wm (up39 zbd (by decide)) (up39 zsd (by decide)), _, rfl, _, u, rfl, rfl, wm (up39 (mulz zbd zsd) (by decide)) (up39 zu (by decide)), ?_⟩
    obtain ⟨g0, U0, gg, e1, e2⟩ := line_of (b := b) (s := st) u0 eP rfl rfl rfl rfl
    have zU : ((b.den : Int) * st.den * u).natAbs < 2 ^ 2100 := Nat.lt_of_lt_of_le (mulz (mulz zbd zsd) zu) (Nat.pow_le_pow_right (by decide) (by decide))
    have zg : (((Nat.gcd (Nat.gcd (st.num * b.den * u).natAbs (T * b.den * st.den - st.num * b.num * u).natAbs) ((b.den : Int) * st.den * u).natAbs : Nat) : Int)).natAbs < 2 ^ 2100 := by
      rw [Int.natAbs_natCast]
      refine Nat.lt_of_le_of_lt (Nat.gcd_le_right _ ?_) zU
      have d1 := den_pos b
      have d2 := den_pos st
      have := Int.mul_pos (Int.mul_pos (show (0 : Int) < b.den by omega) (show (0 : Int) < st.den by omega)) u0
      omega
    refine ⟨_, rfl, _, rfl, _, rfl, _, _, _, rfl, ?_⟩
    have c : ∀ z : Int, CDivA z (((Nat.gcd (Nat.gcd (st.num * b.den * u).natAbs (T * b.den * st.den - st.num * b.num * u).natAbs) ((b.den : Int) * st.den * u).natAbs : Nat) : Int)) := fun z => divA (b := 2100) (by omega) zg (by decide) (by decide)
    refine ⟨_, rfl, _, rfl, _, _, rfl, rfl, c _, _, rfl, _, rfl, _, _, rfl, rfl, c _, _, rfl, _, rfl, _, _, rfl, rfl, c _, by show 3 ≤ sizeLine; decide, fun p np => ?_⟩
    exact q _ _ _ p _ (same_new np) ⟨U0, gg, e1, e2⟩ (.inl (.inl upd_same))
/-! ### place_in, laps_in -/
def spPlc (K : PySem.W.Frag) : Sp := fun vs H Q _ => ∃ (v x y : V) (r : Row) (t L : Rat), vs = [v, x, y] ∧ RowAt K H v r ∧ Rn K H x t ∧ Rn K H y L ∧ RowZ r ∧ Sz 300 t ∧ 0 < L ∧ Sz 100 L ∧ ∀ z H', Same H H' → Rn K H' z (rem (r.at_ t) L) → Q z H'
theorem ok_Plc {f fP fR : Addr} {fd dP dR : FuncData} (D : DefAt K mg "place_in" s_place_in ["row", "time", "length"] f fd) (DP : DefAt K mg "position_in" s_position_in ["row", "time"] fP dP) (DR : DefAt K mg "reduced" s_reduced ["top", "bottom"] fR dR)
    (GP : FnOk P w K mg base (CXl P w) 1 fP dP ["row", "time"] (spPin K)) (GR : FnOk P w K mg base (CXl P w) 1 fR dR ["top", "bottom"] (spRd K)) : FnOk P w K mg base (CXl P w) 2 f fd ["row", "time", "length"] (spPlc K) := by
  refine D.F.okX sc_place_in (fun vs H Q E h => ?_) (fun cdv A outer s H vs Q E hr h => ?_)
  · obtain ⟨v, x, y, r, t, L, rfl, _⟩ := h
    rfl
  · obtain ⟨v, x, y, r, t, L, rfl, hv, hx, ⟨al, rfl, hl⟩, rz, zt, L0, zL, q⟩ := h
    have nd := sc_place_in.nd
    refine ⟨_, pss_cons (ps_asg (pe_call GP hr (by rfl) DP.g DP.F.kp DP.b .nil passL (pa_cons (pv 0) (pa_cons (pv 1) pa_nil))) (pg_tup (by rfl) (pgs_cons (pg_name (i := 3) nd rfl (.inl rfl)) (pgs_cons (pg_name (i := 4) nd rfl (.inl rfl)) pgs_nil))))
      (pss_cons (ps_asg (pv 2) (pg_tup rfl (pgs_cons (pg_name (i := 5) nd rfl (.inl rfl)) (pgs_cons (pg_name (i := 6) nd rfl (.inl rfl)) pgs_nil))))
      (pss_one (ps_ret (pe_call GR hr (by rfl) DR.g DR.F.kp DR.b .nil passL (pa_cons (pe_op op_modN (pe_op op_mulW (pv 3) (pv 6)) (pe_op op_mulW (pv 5) (pv 4))) (pa_cons (pe_op op_mulW (pv 4) (pv 6)) pa_nil)))))), ?_⟩
    refine ⟨_, rfl, _, rfl, v, x, r, t, rfl, hv, hx, rz, zt, fun T u a H1 s1 u0 eT zT zu ha => ?_⟩
    have n0 := pos_num L0
    have d0 : (0 : Int) < L.den := by have := den_pos L; omega
    have zld : ((L.den : Nat) : Int).natAbs < 2 ^ 100 := by rw [Int.natAbs_natCast]; exact zL.2
    have m0 : 0 < L.num * u := Int.mul_pos n0 u0
    refine ⟨a, _, rfl, ha, rfl, _, _, rfl, _, _, rfl, rfl, ?_⟩
    refine ⟨.ref al, rfl, al, _, rfl, same_sqt s1 hl, rfl, _, _, rfl, _, _, rfl, rfl, ?_⟩
    refine ⟨_, rfl, _, rfl, T, (L.den : Int), rfl, rfl, wm (up39 zT (by decide)) (up39 zld (by decide)), _, rfl, _, rfl, L.num, u, rfl, rfl, wm (up39 zL.1 (by decide)) (up39 zu (by decide)), _, _, rfl, rfl, Int.ne_of_gt m0, _, rfl, _, rfl, u, (L.den : Int), rfl, rfl, wm (up39 zu (by decide)) (up39 zld (by decide)), ?_⟩
    have md := fmod_in (x := T * L.den) m0
    have zm : (L.num * u).natAbs < 2 ^ 2000 := mulz zL.1 zu
    have zw : (u * (L.den : Int)).natAbs < 2 ^ 2000 := mulz zu zld
    refine ⟨_, _, rfl, Int.mul_pos u0 d0, ⟨Nat.lt_of_lt_of_le (show _ < 2 ^ 2000 from ?_) (Nat.pow_le_pow_right (by decide) (by decide)), Nat.lt_of_lt_of_le zw (Nat.pow_le_pow_right (by decide) (by decide))⟩, fun z H' s' k => ?_⟩
    · have l1 := md.1
      have l2 := md.2
      have : ((T * (L.den : Int)).fmod (L.num * u)).natAbs < 2 ^ 2000 := by omega
      exact this
    · have e : (T * (L.den : Int)).fmod (L.num * u) = (T * (L.den : Int)) % (L.num * u) := Int.fmod_eq_emod_of_nonneg _ (Int.le_of_lt m0)
      have k : Rn K H' z (Rat.divInt ((T * (L.den : Int)).fmod (L.num * u)) (u * (L.den : Int))) := k
      rw [e, ← rem_of_uq u0 eT L0] at k
      exact q z H' (s1.trans s') k
def spLps (K : PySem.W.Frag) : Sp := fun vs H Q _ => ∃ (v x y : V) (r : Row) (t L : Rat), vs = [v, x, y] ∧ RowAt K H v r ∧ Rn K H x t ∧ Rn K H y L ∧ RowZ r ∧ Sz 300 t ∧ 0 < L ∧ Sz 100 L ∧ ∀ H', Same H H' → Q (.int (r.at_ t / L).floor) H'
theorem ok_Lps {f fP : Addr} {fd dP : FuncData} (D : DefAt K mg "laps_in" s_laps_in ["row", "time", "length"] f fd) (DP : DefAt K mg "position_in" s_position_in ["row", "time"] fP dP) (GP : FnOk P w K mg base (CXl P w) 1 fP dP ["row", "time"] (spPin K)) : FnOk P w K mg base (CXl P w) 2 f fd ["row", "time", "length"] (spLps K) := by
  refine D.F.okX sc_laps_in (fun vs H Q E h => ?_) (fun cdv A outer s H vs Q E hr h => ?_)
  · obtain ⟨v, x, y, r, t, L, rfl, _⟩ := h
    rfl
  · obtain ⟨v, x, y, r, t, L, rfl, hv, hx, ⟨al, rfl, hl⟩, rz, zt, L0, zL, q⟩ := h
    have nd := sc_laps_in.nd
    refine ⟨_, pss_cons (ps_asg (pe_call GP hr (by rfl) DP.g DP.F.kp DP.b .nil passL (pa_cons (pv 0) (pa_cons (pv 1) pa_nil))) (pg_tup (by rfl) (pgs_cons (pg_name (i := 3) nd rfl (.inl rfl)) (pgs_cons (pg_name (i := 4) nd rfl (.inl rfl)) pgs_nil))))
      (pss_cons (ps_asg (pv 2) (pg_tup rfl (pgs_cons (pg_name (i := 5) nd rfl (.inl rfl)) (pgs_cons (pg_name (i := 6) nd rfl (.inl rfl)) pgs_nil))))
      (pss_one (ps_ret (pe_op op_fdivA (pe_op op_mulW (pv 3) (pv 6)) (pe_op op_mulW (pv 5) (pv 4)))))), ?_⟩
    refine ⟨_, rfl, _, rfl, v, x, r, t, rfl, hv, hx, rz, zt, fun T u a H1 s1 u0 eT zT zu ha => ?_⟩
    have n0 := pos_num L0
    have zld : ((L.den : Nat) : Int).natAbs < 2 ^ 100 := by rw [Int.natAbs_natCast]; exact zL.2
    have m0 : 0 < L.num * u := Int.mul_pos n0 u0
    refine ⟨a, _, rfl, ha, rfl, _, _, rfl, _, _, rfl, rfl, ?_⟩
    refine ⟨.ref al, rfl, al, _, rfl, same_sqt s1 hl, rfl, _, _, rfl, _, _, rfl, rfl, ?_⟩
    refine ⟨_, rfl, _, rfl, T, (L.den : Int), rfl, rfl, wm (up39 zT (by decide)) (up39 zld (by decide)), _, rfl, _, rfl, L.num, u, rfl, rfl, wm (up39 zL.1 (by decide)) (up39 zu (by decide)), _, _, rfl, rfl, divA (b := 2000) (Int.ne_of_gt m0) (mulz zL.1 zu) (by decide) (by decide), ?_⟩
    show Q (.int ((T * (L.den : Int)).fdiv (L.num * u))) H1
    rw [Int.fdiv_eq_ediv_of_nonneg _ (Int.le_of_lt m0), ← floor_of_uq u0 eT L0]
    exact q H1 s1
end
end LR
set_option Elab.async false
set_option linter.all false
set_option maxRecDepth 100000
set_option maxHeartbeats 4000000
set_option exponentiation.threshold 100000
namespace LR
open PySem PySem.Spec PyProof.Rows L2
/-- a track: a tuple of rows -/
def TrackAt (K : PySem.W.Frag) (H : Hp) (v : V) (tr : List Row) : Prop := ∃ (a : Addr) (xs : List V), v = .ref a ∧ SqT K H a xs ∧ All2 (RowAt K H) xs tr
/-- a piece: a time and a speed, both ratios -/
def PieceR (K : PySem.W.Frag) (H : Hp) (v : V) (c : Rat × Rat) : Prop := ∃ (a : Addr) (vt vs : V), v = .ref a ∧ SqT K H a [vt, vs] ∧ Rn K H vt c.1 ∧ Rn K H vs c.2
section
variable {K : PySem.W.Frag} {H H' : Hp} {v : V}
theorem TrackAt.same {tr : List Row} (s : Same H H') (h : TrackAt K H v tr) : TrackAt K H' v tr := let ⟨a, xs, e, h1, h2⟩ := h; ⟨a, xs, e, same_sqt s h1, h2.imp fun _ _ z => z.same s⟩
theorem TrackAt.but {tr : List Row} {D : Addr} (O : Odd H D) (b : But D H H') (h : TrackAt K H v tr) : TrackAt K H' v tr := let ⟨a, xs, e, h1, h2⟩ := h; ⟨a, xs, e, O.sqt b h1, h2.imp fun _ _ z => z.but O b⟩
theorem PieceR.same {c : Rat × Rat} (s : Same H H') (h : PieceR K H v c) : PieceR K H' v c := let ⟨a, vt, vs, e, h1, h2, h3⟩ := h; ⟨a, vt, vs, e, same_sqt s h1, h2.same s, h3.same s⟩
end
theorem iteT' {b : Bool} {A B : Prop} (e : b = true) (h : A) : if b = true then A else B := by
  rw [if_pos e]
  exact h
theorem last_at {α : Type} {xs : List α} {n : Nat} {v : α} (hl : xs.length = n + 1) (h : xs[n]? = some v) : atI xs (-1) = some v := by
  unfold atI ixN
  rw [if_neg (by decide), if_pos (by omega)]
  have e : (-1 + (xs.length : Int)).toNat = n := by omega
  rw [e]
  exact h
theorem trackGo_len : ∀ (r : Row) (cs : List (Rat × Rat)), (trackGo r cs).length = cs.length + 1
  | _, [] => rfl
  | r, c :: cs => congrArg Nat.succ (trackGo_len (nextRow r c) cs)
theorem trackGo_zero : ∀ (r : Row) (cs : List (Rat × Rat)), (trackGo r cs)[0]? = some r
  | _, [] => rfl
  | _, _ :: _ => rfl
theorem trackGo_succ : ∀ {r : Row} {cs : List (Rat × Rat)} {i : Nat} {c : Rat × Rat} {x : Row}, cs[i]? = some c → (trackGo r cs)[i]? = some x → (trackGo r cs)[i + 1]? = some (nextRow x c)
  | r, [], i, c, x, h, _ => by simp at h
  | r, d :: cs, 0, c, x, h, h2 => by
    have e1 : d = c := by simpa using h
    have e2 : r = x := by simpa [trackGo] using h2
    subst e1 e2
    show (trackGo (nextRow r d) cs)[0]? = _
    exact trackGo_zero _ _
  | r, d :: cs, i + 1, c, x, h, h2 => by
    have h' : cs[i]? = some c := by simpa using h
    have h2' : (trackGo (nextRow r d) cs)[i]? = some x := by simpa [trackGo] using h2
    have := trackGo_succ h' h2'
    simpa [trackGo] using this
section
variable {P : Program} {w : World} {K : PySem.W.Frag} {mg : Str → Option Value} {base : Heap}
/-! ### row_at -/
def spRA (K : PySem.W.Frag) : Sp := fun vs H Q _ => ∃ (v x : V) (r0 : Row) (tr : List Row) (t : Rat), vs = [v, x] ∧ TrackAt K H v (r0 :: tr) ∧ Rn K H x t ∧ (∀ r ∈ r0 :: tr, Sz 100 r.b) ∧ Sz 300 t ∧ ∀ y, RowAt K H y (rowGo t r0 (r0 :: tr)) → Q y H
theorem ok_RA {f : Addr} {fd : FuncData} (D : DefAt K mg "row_at" s_row_at ["track", "time"] f fd) : FnOk P w K mg base (CXl P w) 1 f fd ["track", "time"] (spRA K) := by
  refine D.F.okX sc_row_at (fun vs H Q E h => ?_) (fun cdv A outer s H vs Q E hr h => ?_)
  · obtain ⟨v, x, r0, tr, t, rfl, _⟩ := h
    rfl
  · obtain ⟨v, x, r0, tr, t, rfl, ⟨a, xs, rfl, ha, hA⟩, ⟨c, rfl, hc⟩, hz, zt, q⟩ := h
    have nd := sc_row_at.nd
    refine ⟨_, pss_cons (ps_asg (pv 1) (pg_tup rfl (pgs_cons (pg_name (i := 2) nd rfl (.inl rfl)) (pgs_cons (pg_name (i := 3) nd rfl (.inl rfl)) pgs_nil))))
      (pss_cons (ps_set (i := 4) nd rfl (.inl rfl) (pe_ix (r := rIxT K) ix_tup (pv 0) pe_int (fun _ _ => rfl)))
      (pss_cons (ps_for (passes_of rfl) rfl (pi_tup (pv 0)) (pg_name (i := 5) nd rfl (.inl rfl))
        (pss_cons (ps_asg (pe_ix (r := rIxT K) ix_tup (pv 5) pe_int (fun _ _ => rfl)) (pg_tup rfl (pgs_cons (pg_name (i := 6) nd rfl (.inl rfl)) (pgs_cons (pg_name (i := 7) nd rfl (.inl rfl)) pgs_nil))))
        (pss_cons (ps_if (pt_cmpR op_gt (pe_op op_mulW (pv 6) (pv 3)) (pe_op op_mulW (pv 2) (pv 7)) (nomark _)) (pss_one ps_break) pss_nil)
        (pss_one (ps_set (i := 4) nd rfl (.inl rfl) (pv 5))))))
      (pss_one (ps_ret (pv 4))))), ?_⟩
    obtain ⟨x0, xs', rfl⟩ : ∃ x0 xs', xs = x0 :: xs' := by
      cases hA with
      | cons _ _ => exact ⟨_, _, rfl⟩
    have h0 : RowAt K H x0 r0 := by
      cases hA with
      | cons h _ => exact h
    have zd : ((t.den : Nat) : Int).natAbs < 2 ^ 300 := by rw [Int.natAbs_natCast]; exact zt.2
    refine ⟨.ref c, rfl, c, _, rfl, hc, rfl, _, _, rfl, _, _, rfl, rfl, ?_⟩
    refine ⟨.ref a, rfl, a, _, 0, x0, rfl, rfl, ha, atI_nat (j := 0) rfl, ?_⟩
    refine ⟨.ref a, rfl, a, rfl, ⟨_, ha⟩, for_tup (xs := x0 :: xs') (fun i σ H' => H' = H ∧ ∃ fv g o5 o6 o7, σ = [some (.ref a), some (.ref c), some (.int t.num), some (.int (t.den : Int)), some fv, o5, o6, o7] ∧ RowAt K H fv g ∧ rowGo t r0 (r0 :: tr) = rowGo t g ((r0 :: tr).drop i)) ⟨rfl, x0, r0, none, none, none, rfl, h0, rfl⟩ (fun i σ H' _ hP => hP.1 ▸ ha) (fun i y σ H' hy hP => ?_) (fun σ H' hP => ?_)⟩
    · obtain ⟨rfl, fv, g, o5, o6, o7, rfl, hg, eg⟩ := hP
      obtain ⟨r, hr', b, vb, vs, R, B, U, rfl, hb, ⟨cb, rfl, hcb⟩, hs, z⟩ := hA.get hy
      have zb := hz r (List.mem_of_getElem? hr')
      have zbd : ((r.b.den : Nat) : Int).natAbs < 2 ^ 100 := by rw [Int.natAbs_natCast]; exact zb.2
      have dr : (r0 :: tr).drop i = r :: (r0 :: tr).drop (i + 1) := by
        obtain ⟨hi, e⟩ := List.getElem?_eq_some_iff.mp hr'
        rw [List.drop_eq_getElem_cons hi, e]
      rw [dr] at eg
      refine ⟨.ref b, rfl, b, _, 0, _, rfl, rfl, hb, atI_nat (j := 0) rfl, cb, _, rfl, hcb, rfl, _, _, rfl, _, _, rfl, rfl, ?_⟩
      refine ⟨_, rfl, _, rfl, r.b.num, (t.den : Int), rfl, rfl, wm (up39 zb.1 (by decide)) (up39 zd (by decide)), _, rfl, _, rfl, t.num, (r.b.den : Int), rfl, rfl, wm (up39 zt.1 (by decide)) (up39 zbd (by decide)), _, _, rfl, rfl, _, rfl, ite2 (fun c => ?_) (fun c => ?_)⟩
      · have lt : t < r.b := (Rat.lt_iff t r.b).mpr (of_decide_eq_true c)
        have e2 : rowGo t g (r :: (r0 :: tr).drop (i + 1)) = g := by
          show (if t < r.b then g else _) = g
          rw [if_pos lt]
        rw [e2] at eg
        exact ⟨_, rfl, q fv (eg ▸ hg)⟩
      · have nlt : ¬ t < r.b := fun z => c (decide_eq_true ((Rat.lt_iff t r.b).mp z))
        refine ⟨_, rfl, rfl, _, r, _, _, _, rfl, ⟨b, _, vs, R, B, U, rfl, hb, ⟨cb, rfl, hcb⟩, hs, z⟩, ?_⟩
        rw [eg]
        show (if t < r.b then g else _) = _
        rw [if_neg nlt]
    · obtain ⟨rfl, fv, g, o5, o6, o7, rfl, hg, eg⟩ := hP
      have e : (r0 :: tr).drop (x0 :: xs').length = [] := List.drop_eq_nil_of_le (by rw [hA.len]; exact Nat.le_refl _)
      rw [e] at eg
      have e2 : rowGo t r0 (r0 :: tr) = g := eg
      exact ⟨fv, rfl, q fv (e2 ▸ hg)⟩
/-! ### track_of -/
def spTo (K : PySem.W.Frag) : Sp := fun vs H Q _ => ∃ (x v : V) (s0 : Rat) (c : Rat × Rat) (cs : List (Rat × Rat)) (a : Addr) (xs : List V), vs = [x, v] ∧ v = .ref a ∧ Rn K H x s0 ∧ SqL K H a xs ∧ All2 (PieceR K H) xs (c :: cs) ∧ Sz 300 s0 ∧ (∀ r ∈ trackGo ⟨c.1, c.2, s0⟩ cs, RowZ r) ∧ cs.length < 60 ∧
  ∀ p H', Same H H' → H p = none → TrackAt K H' (.ref p) (trackGo ⟨c.1, c.2, s0⟩ cs) → Q (.ref p) H'
theorem ok_To {f fP fL : Addr} {fd dP dL : FuncData} (D : DefAt K mg "track_of" s_track_of ["start", "pieces"] f fd) (DP : DefAt K mg "position_in" s_position_in ["row", "time"] fP dP) (DL : DefAt K mg "_line" s_line ["begin", "speed", "top", "bottom"] fL dL) (mt : mg "tuple" = none)
    (GP : FnOk P w K mg base (CXl P w) 1 fP dP ["row", "time"] (spPin K)) (GL : FnOk P w K mg base (CXl P w) 1 fL dL ["begin", "speed", "top", "bottom"] (spLine K)) : FnOk P w K mg base (CXl P w) 2 f fd ["start", "pieces"] (spTo K) := by
  refine D.F.okX sc_track_of (fun vs H Q E h => ?_) (fun cdv A outer s H vs Q E hr h => ?_)
  · obtain ⟨x, v, s0, c, cs, a, xs, rfl, _⟩ := h
    rfl
  · obtain ⟨x, v, s0, c, cs, a, xs, rfl, rfl, ⟨ax, rfl, hx⟩, ha, hA, z0, hz, hl, q⟩ := h
    have nd := sc_track_of.nd
    refine ⟨_, pss_cons (ps_asg (pv 0) (pg_tup rfl (pgs_cons (pg_name (i := 2) nd rfl (.inl rfl)) (pgs_cons (pg_name (i := 3) nd rfl (.inl rfl)) pgs_nil))))
      (pss_cons (ps_set (i := 4) nd rfl (.inl rfl) (pe_lst pa_nil))
      (pss_cons (ps_for (passes_of rfl) rfl (pi_list (pv 1)) (pg_tup rfl (pgs_cons (pg_name (i := 5) nd rfl (.inl rfl)) (pgs_cons (pg_name (i := 6) nd rfl (.inl rfl)) pgs_nil)))
        (C8.pss_cut (ps_if (pt_truth (pv 4) (fun _ => rfl)) (pss_one (ps_asg (pe_call GP hr (by rfl) DP.g DP.F.kp DP.b .nil passL (pa_cons (pe_ix (r := rIxL K) ix_list (pv 4) (pe_un un_neg pe_int) (fun _ _ => rfl)) (pa_cons (pv 5) pa_nil))) (pg_tup (by rfl) (pgs_cons (pg_name (i := 2) nd rfl (.inl rfl)) (pgs_cons (pg_name (i := 3) nd rfl (.inl rfl)) pgs_nil))))) pss_nil)
        (pss_one (ps_expr (pe_bm PySem.F.plainAttrs_list PySem.F.slot_list_append PySem.F.type_list_append mt_append (pv 4) (pa_cons (pe_tup (pa_cons (pv 5) (pa_cons (pv 6) (StX.pa_star (pe_call GL hr (by rfl) DL.g DL.F.kp DL.b .nil passL (pa_cons (pv 5) (pa_cons (pv 6) (pa_cons (pv 2) (pa_cons (pv 3) pa_nil))))) pa_nil)))) pa_nil))))))
      (pss_one (ps_ret (pe_tupleOf (by rfl) mt (pv 4)))))), ?_⟩
    have d0 : (0 : Int) < s0.den := by have := den_pos s0; omega
    refine ⟨.ref ax, rfl, ax, _, rfl, hx, rfl, _, _, rfl, _, _, rfl, rfl, ?_⟩
    refine ⟨by show 0 ≤ sizeLine; decide, fun L nL => ?_⟩
    have sL : Same H (upd H L (.lst [])) := same_new nL
    have hL0 : (upd H L (.lst [])) L = some (.lst []) := upd_same
    show tNext _ _ (upd H L (.lst []))
    generalize (upd H L (.lst [])) = H0 at sL hL0 ⊢
    have len : xs.length = cs.length + 1 := hA.len
    refine ⟨.ref a, rfl, a, rfl, ⟨_, sL.seq ha⟩, for_list (xs := xs) (fun i σ H' => Same H H' ∧ ∃ o2 o3 o5 o6 acc, σ = [some (.ref ax), some (.ref a), o2, o3, some (.ref L), o5, o6] ∧ H' L = some (.lst acc) ∧ acc.length = i ∧ All2 (RowAt K H') acc ((trackGo ⟨c.1, c.2, s0⟩ cs).take i) ∧ (i = 0 → o2 = some (.int s0.num) ∧ o3 = some (.int (s0.den : Int)))) ⟨sL, _, _, none, none, [], rfl, hL0, rfl, .nil, fun _ => ⟨rfl, rfl⟩⟩ (fun i σ H' _ hP => hP.1.seq ha) (fun i y σ H' hy hP => ?_) (fun σ H' hP => ?_)⟩
    · obtain ⟨sm, o2, o3, o5, o6, acc, rfl, hL, al, hR, first⟩ := hP
      obtain ⟨d, hd, hp⟩ := hA.get hy
      obtain ⟨b, vt, vs, rfl, hb, ht, hs⟩ := hp.same sm
      have il : i < xs.length := (List.getElem?_eq_some_iff.mp hy).1
      -- the row that is made now
      obtain ⟨r, hr', eb, es⟩ : ∃ r, (trackGo ⟨c.1, c.2, s0⟩ cs)[i]? = some r ∧ r.b = d.1 ∧ r.s = d.2 := by
        cases i with
        | zero =>
          have : c = d := by simpa using hd
          subst this
          exact ⟨_, trackGo_zero _ _, rfl, rfl⟩
        | succ i =>
          have hd' : cs[i]? = some d := by simpa using hd
          have hi : i < (trackGo ⟨c.1, c.2, s0⟩ cs).length := by
            rw [trackGo_len]
            have := (List.getElem?_eq_some_iff.mp hd').1
            omega
          exact ⟨_, trackGo_succ hd' (List.getElem?_eq_getElem hi), rfl, rfl⟩
      have rz := hz r (List.mem_of_getElem? hr')
      refine ⟨b, _, rfl, hb, rfl, _, _, rfl, _, _, rfl, rfl, ?_⟩
      refine ⟨fun σ' H1 => ∃ T u : Int, σ' = [some (.ref ax), some (.ref a), some (.int T), some (.int u), some (.ref L), some vt, some vs] ∧ Same H' H1 ∧ 0 < u ∧ Uq u r.p T ∧ T.natAbs < 2 ^ 3300 ∧ u.natAbs < 2 ^ 1900, ?_, ?_⟩
      · refine ⟨_, rfl, _, .inl ⟨acc, .of hL, rfl⟩, ?_⟩
        cases i with
        | zero =>
          have e : acc = [] := List.eq_nil_of_length_eq_zero al
          subst e
          obtain ⟨rfl, rfl⟩ := first rfl
          have e2 : r = ⟨c.1, c.2, s0⟩ := by
            rw [trackGo_zero] at hr'
            exact (Option.some.inj hr').symm
          refine iteF ⟨_, _, rfl, Same.refl _, d0, ?_, Nat.lt_of_lt_of_le z0.1 (Nat.pow_le_pow_right (by decide) (by decide)), ?_⟩
          · rw [e2]
            exact uq_self s0
          · rw [Int.natAbs_natCast]
            exact Nat.lt_of_lt_of_le z0.2 (Nat.pow_le_pow_right (by decide) (by decide))
        | succ i =>
          have hi : i < (trackGo ⟨c.1, c.2, s0⟩ cs).length := by
            have := (List.getElem?_eq_some_iff.mp hr').1
            omega
          have hprev := List.getElem?_eq_getElem hi
          obtain ⟨w', hw, rw'⟩ := hR.get2 (i := i) (y := (trackGo ⟨c.1, c.2, s0⟩ cs)[i]) (by rw [List.getElem?_take_of_lt (by omega)]; exact hprev)
          have hd' : cs[i]? = some d := by simpa using hd
          have er : r = nextRow (trackGo ⟨c.1, c.2, s0⟩ cs)[i] d := Option.some.inj (hr'.symm.trans (trackGo_succ hd' hprev))
          have ne : acc.isEmpty = false := by
            cases acc with
            | nil => cases al
            | cons _ _ => rfl
          have ne' : (!acc.isEmpty) = true := by rw [ne]; rfl
          refine (iteT' ne' ?_)
          refine ⟨_, rfl, 1, rfl, L, _, _, w', rfl, rfl, .of hL, last_at al hw, _, rfl, w', vt, _, d.1, rfl, rw', ht, hz _ (List.getElem_mem hi), ?_, fun T u t H1 s1 u0 eT zT zu htt => ?_⟩
          · have := rz.b
            rw [eb] at this
            exact this.mono (by decide)
          · refine ⟨t, _, rfl, htt, rfl, _, _, rfl, _, _, rfl, rfl, T, u, rfl, s1, u0, ?_, zT, zu⟩
            rw [er]
            exact eT
      · rintro σ' H1 ⟨T, u, rfl, s1, u0, eT, zT, zu⟩
        refine ⟨.ref L, rfl, .inl ⟨rfl, _, .of (s1 _ _ hL)⟩, _, rfl, _, rfl, _, rfl, _, rfl, _, rfl, _, rfl, vt, vs, d.1, d.2, r.p, T, u, rfl, ht.same s1, hs.same s1, u0, eT, by rw [← eb]; exact rz.b, by rw [← es]; exact rz.s, zT, zu, fun R B U t H2 s2 zl htt => ?_⟩
        refine ⟨t, _, rfl, .inl htt, by show 5 ≤ sizeLine; decide, fun n nn => ?_⟩
        have s3 : Same H2 (upd H2 n (.tup (vt :: vs :: ([V.int R, V.int B, V.int U] ++ [])))) := same_new nn
        have ht3 : (upd H2 n (.tup (vt :: vs :: ([V.int R, V.int B, V.int U] ++ [])))) n = some (.tup [vt, vs, .int R, .int B, .int U]) := upd_same
        show ∃ _, _
        generalize (upd H2 n (.tup (vt :: vs :: ([V.int R, V.int B, V.int U] ++ [])))) = H3 at s3 ht3 ⊢
        have s13 := (s1.trans s2).trans s3
        have hL3 := s13 _ _ hL
        refine ⟨L, acc, .ref n, rfl, rfl, hL3, Nat.lt_trans (show acc.length < 1000 by omega) (small1000 (Nat.le_refl _)), same_but (sm.trans s13) nL, _, _, _, _, _, rfl, upd_same, by rw [List.length_append, al]; rfl, ?_, fun z => absurd z (by omega)⟩
        rw [take_snoc hr']
        refine (hR.imp fun _ _ z => row_upd hL3 (z.same s13)).snoc (row_upd hL3 ⟨n, vt, vs, R, B, U, rfl, .inl (.inl ht3), ?_, ?_, ?_⟩)
        · rw [eb]
          exact ht.same s13
        · rw [es]
          exact hs.same s13
        · have e : r = ⟨d.1, d.2, r.p⟩ := by
            cases r
            cases eb
            cases es
            rfl
          rw [e]
          exact zl
    · obtain ⟨sm, o2, o3, o5, o6, acc, rfl, hL, al, hR, _⟩ := hP
      rw [List.take_of_length_le (by rw [trackGo_len, len]; exact Nat.le_refl _)] at hR
      refine ⟨_, rfl, .inl ⟨L, acc, rfl, .of hL, fun p np => q p _ (sm.trans (same_new np)) ?_ ⟨p, acc, rfl, .inl (.inl upd_same), hR.imp fun _ _ z => z.same (same_new np)⟩⟩⟩
      cases e : H p with
      | none => rfl
      | some o => rw [sm _ _ e] at np; cases np
end
end LR
set_option Elab.async false
set_option linter.all false
set_option maxRecDepth 100000
set_option maxHeartbeats 4000000
set_option exponentiation.threshold 100000
namespace LR
open PySem PySem.Spec PyProof.Rows L2
/-- a statement that is never reached -/
theorem ps_dead {X : Cx} {st : Stmt} : PS X st (fun _ _ _ => False) := ⟨fun _ _ _ _ _ _ h => h.elim⟩
theorem sc_is_name : FnScope ["value"] ["value"] (defScope s_is_name) := ⟨rfl, rfl, rfl, by decide +kernel, rfl, by decide +kernel, by decide +kernel⟩
theorem sc_is_runner : FnScope ["value", "pieces", "piece"] ["value"] (defScope s_is_runner) := ⟨rfl, rfl, rfl, by decide +kernel, rfl, by decide +kernel, by decide +kernel⟩
theorem sc_are_ascending : FnScope ["begins", "one", "two"] ["begins"] (defScope s_are_ascending) := ⟨rfl, rfl, rfl, by decide +kernel, rfl, by decide +kernel, by decide +kernel⟩
theorem sc_track : FnScope ["name", "runner", "length", "start", "pieces", "time", "speed", "_"] ["name", "runner", "length"] (defScope s_track) := ⟨rfl, rfl, rfl, by decide +kernel, rfl, by decide +kernel, by decide +kernel⟩
/-- a name -/
structure NameOk (z : Str) : Prop where
  l1 : 1 ≤ z.length
  l8 : z.length ≤ 8
  as : Txt.isascii z = true
  an : Txt.isalnum z = true
  lo : Txt.islower z = true
  al : ∃ c, z.cps.toList[0]? = some c ∧ Txt.isalpha ⟨#[c]⟩ = true
def PieceAt (K : PySem.W.Frag) (H : Hp) (v : V) (c : Rat × Rat) : Prop := ∃ (a : Addr) (vt vs : V), v = .ref a ∧ SqT K H a [vt, vs] ∧ Num K H vt c.1 ∧ Num K H vs c.2
theorem PieceAt.same {K : PySem.W.Frag} {H H' : Hp} {v : V} {c : Rat × Rat} (s : Same H H') (h : PieceAt K H v c) : PieceAt K H' v c := let ⟨a, vt, vs, e, h1, h2, h3⟩ := h; ⟨a, vt, vs, e, same_sqt s h1, h2.same s, h3.same s⟩
def PiecesAt (K : PySem.W.Frag) (H : Hp) (v : V) (cs : List (Rat × Rat)) : Prop := ∃ (a : Addr) (xs : List V), v = .ref a ∧ H a = some (.lst xs) ∧ All2 (PieceAt K H) xs cs
theorem PiecesAt.same {K : PySem.W.Frag} {H H' : Hp} {v : V} {cs : List (Rat × Rat)} (s : Same H H') (h : PiecesAt K H v cs) : PiecesAt K H' v cs := let ⟨a, xs, e, h1, h2⟩ := h; ⟨a, xs, e, s _ _ h1, h2.imp fun _ _ z => z.same s⟩
def RunAt (K : PySem.W.Frag) (H : Hp) (v : V) (q : Rat) (cs : List (Rat × Rat)) : Prop := ∃ (a : Addr) (vs vp : V), v = .ref a ∧ SqT K H a [vs, vp] ∧ Num K H vs q ∧ PiecesAt K H vp cs
theorem RunAt.same {K : PySem.W.Frag} {H H' : Hp} {v : V} {q : Rat} {cs : List (Rat × Rat)} (s : Same H H') (h : RunAt K H v q cs) : RunAt K H' v q cs := let ⟨a, vs, vp, e, h1, h2, h3⟩ := h; ⟨a, vs, vp, e, same_sqt s h1, h2.same s, h3.same s⟩
section
variable {P : Program} {w : World} {K : PySem.W.Frag} {mg : Str → Option Value} {base : Heap}
/-! ### is_name, of a name -/
def spNam : Sp := fun vs H Q _ => ∃ z : Str, vs = [.str z] ∧ NameOk z ∧ Q (.bl true) H
theorem ok_Nam {f : Addr} {fd : FuncData} {tm : Tok} (D : DefAt K mg "is_name" s_is_name ["value"] f fd) (gm : mg "MOST_LETTERS" = some (.int 8 tm)) (mi : mg "isinstance" = none) (ms : mg "str" = none) (ml : mg "len" = none) : FnOk P w K mg base (CXl P w) 1 f fd ["value"] spNam := by
  refine D.F.okX sc_is_name (fun vs H Q E h => ?_) (fun cdv A outer s H vs Q E hr h => ?_)
  · obtain ⟨z, rfl, _⟩ := h
    rfl
  · obtain ⟨z, rfl, ok, q⟩ := h
    refine ⟨_, pss_cons (ps_if (PW.pt (pw_or (pt_not (pt_val (pe_callB call_isi (by rfl) mi (by decide +kernel) (pa_cons (pv 0) (pa_cons (pe_bltn (v := .ty "str") (by rfl) ms (by decide +kernel) rfl) pa_nil))))) (pw_or1 (pt_not (pt_chain op_le op_le pe_int (pe_callB call_len_str (by rfl) ml PySem.boot_len (pa_cons (pv 0) pa_nil)) (pe_glob (v := .int 8) rfl gm ⟨_, rfl⟩)))))) (pss_one (ps_ret pe_bl)) pss_nil)
      (pss_one (ps_ret (pe_and (pe_bm0 PySem.F.plainAttrs_str PySem.F.slot_str_isascii PySem.F.type_str_isascii mt_isascii (pv 0)) (pe_and (pe_bm0 PySem.F.plainAttrs_str PySem.F.slot_str_isalnum PySem.F.type_str_isalnum mt_isalnum (pv 0)) (pe_and (pe_bm0 PySem.F.plainAttrs_str PySem.F.slot_str_islower PySem.F.type_str_islower mt_islower (pv 0))
        (pe_one (pe_bm0 PySem.F.plainAttrs_str PySem.F.slot_str_isalpha PySem.F.type_str_isalpha mt_isalpha (pe_ix (r := rIxS) ix_str (pv 0) pe_int (fun _ _ => rfl))))))))), ?_⟩
    have kz : Kd K H (.str z) "str" := .str z
    obtain ⟨l1, l8, as, an, lo, c, hc, al⟩ := ok
    have zs : z.length ≤ sizeLine := Nat.le_trans l8 (by decide)
    refine ⟨_, rfl, _, _, _, _, _, rfl, .ty "str", kz.ty, kd_str kz, _, rfl, iteF ?_⟩
    refine ⟨_, rfl, z, rfl, zs, _, _, rfl, rfl, _, rfl, ite2 (fun _ => ?_) (fun e => absurd (decide_eq_true (show (1 : Int) ≤ (z.length : Int) by omega)) e)⟩
    refine ⟨_, _, rfl, rfl, _, rfl, ite2 (fun e => absurd e ?_) (fun _ => ?_)⟩
    · rw [decide_eq_true (show (z.length : Int) ≤ 8 by omega)]
      decide
    refine ⟨_, rfl, rfl, z, rfl, rfl, trivial, _, rfl, ?_⟩
    rw [as]
    refine iteT ⟨_, rfl, rfl, z, rfl, rfl, trivial, _, rfl, ?_⟩
    rw [an]
    refine iteT ⟨_, rfl, rfl, z, rfl, rfl, trivial, _, rfl, ?_⟩
    rw [lo]
    refine iteT ⟨_, rfl, z, 0, c, rfl, rfl, zs, atI_nat (j := 0) hc, rfl, ⟨#[c]⟩, rfl, rfl, trivial, ?_⟩
    rw [al]
    exact q
/-! ### _is_runner, of a runner -/
def rLenSq (K : PySem.W.Frag) : List V → Hp → VK → Prop := fun xs H Q => ∃ p ys, xs = [.ref p] ∧ (SqL K H p ys ∨ SqT K H p ys) ∧ Q (.int ys.length) H
def spIsRn (K : PySem.W.Frag) : Sp := fun vs H Q _ => ∃ (v : V) (q : Rat) (cs : List (Rat × Rat)), vs = [v] ∧ RunAt K H v q cs ∧ 0 < cs.length ∧ cs.length ≤ 20 ∧ ∀ H', Same H H' → Q (.bl true) H'
theorem ok_IsRn {f : Addr} {fd : FuncData} {tm : Tok} (D : DefAt K mg "_is_runner" s_is_runner ["value"] f fd) (gm : mg "MOST_PIECES" = some (.int 20 tm)) (mi : mg "isinstance" = none) (mt : mg "tuple" = none) (mls : mg "list" = none) (ml : mg "len" = none) (ma : mg "all" = none) :
    FnOk P w K mg base (CXl P w) 1 f fd ["value"] (spIsRn K) := by
  refine D.F.okX sc_is_runner (fun vs H Q E h => ?_) (fun cdv A outer s H vs Q E hr h => ?_)
  · obtain ⟨v, q, cs, rfl, _⟩ := h
    rfl
  · obtain ⟨v, q0, cs, rfl, ⟨a, vs, vp, rfl, ht, hn, b, xs, rfl, hb, hA⟩, c1, c2, q⟩ := h
    have nd := sc_is_runner.nd
    refine ⟨_, pss_cons (ps_if (PW.pt (pw_or (pt_not (pt_val (pe_callB call_isi (by rfl) mi (by decide +kernel) (pa_cons (pv 0) (pa_cons (pe_bltn (v := .ty "tuple") (by rfl) mt (by decide +kernel) rfl) pa_nil)))))
        (pw_or1 (pt_cmpR op_ne (pe_callB call_len_seq (by rfl) ml PySem.boot_len (pa_cons (pv 0) pa_nil)) pe_int (nomark _))))) (pss_one (ps_ret pe_bl)) pss_nil)
      (pss_cons (ps_set (i := 1) nd rfl (.inl rfl) (pe_ix (r := rIxT K) ix_tup (pv 0) pe_int (fun _ _ => rfl)))
      (pss_cons (ps_if (PW.pt (pw_or (pt_not (pt_val (pe_callB call_isiT (by rfl) mi (by decide +kernel) (pa_cons (pv 1) (pa_cons (pe_tup (pa_cons (pe_bltn (v := .ty "list") (by rfl) mls (by decide +kernel) rfl) (pa_cons (pe_bltn (v := .ty "tuple") (by rfl) mt (by decide +kernel) rfl) pa_nil))) pa_nil))))) (pw_or1 (pt_not (pt_chain op_le op_le pe_int (pe_callB call_len_seq (by rfl) ml PySem.boot_len (pa_cons (pv 1) pa_nil)) (pe_glob (v := .int 20) rfl gm ⟨_, rfl⟩)))))) (pss_one (ps_ret pe_bl)) pss_nil)
      (pss_one (ps_ret (pe_callB (cr_all rfl) (by rfl) ma (by decide +kernel) (pa_cons (pe_lc (wi := iList K (tVar 1)) (own := [("piece", 2)]) (g := gName 2) (tt := tYes) (by rfl) nd (pi_list (pv 1)) (blkOk_by (N := ["value", "pieces", "piece"]) (sc := defScope s_is_runner) (by decide +kernel)) (fun _ _ _ _ _ => pg_name (i := 2) nd rfl (.inl rfl)) (fun _ _ _ _ _ => pts_nil)
          (fun _ _ _ _ _ => pe_and (pe_callB (id := "isinstance") (r := rIsi K) (by exact call_isi) (by rfl) mi (by decide +kernel) (pa_cons (pv 2) (pa_cons (pe_bltn (v := .ty "tuple") (by rfl) mt (by decide +kernel) rfl) pa_nil))) (pe_one (pe_cmpR op_eq (pe_callB (id := "len") (r := rLenSq K) (by exact call_len_seq) (by rfl) ml PySem.boot_len (pa_cons (pv 2) pa_nil)) pe_int (nomark _))))) pa_nil)))))), ?_⟩
    have lenA := hA.len
    have big : ∀ {n : Nat}, n ≤ 1000 → n < sizeLine := fun h => small1000 h
    refine ⟨_, rfl, _, _, _, _, _, rfl, .ty "tuple", sqt_ty ht, kd_tuple (.tup ht), _, rfl, iteF ?_⟩
    refine ⟨_, rfl, a, _, rfl, .inr ht, rfl, _, rfl, ite2 (fun e => absurd e (by simp)) (fun _ => ?_)⟩
    refine ⟨_, rfl, a, _, 1, _, rfl, rfl, ht, atI_nat (j := 1) rfl, ?_⟩
    refine ⟨_, rfl, by show 2 ≤ sizeLine; decide, fun T nT => ?_⟩
    have sT : Same H (upd H T (.tup [.ty "list", .ty "tuple"])) := same_new nT
    have hT : (upd H T (.tup [.ty "list", .ty "tuple"])) T = some (.tup [.ty "list", .ty "tuple"]) := upd_same
    generalize (upd H T (.tup [.ty "list", .ty "tuple"])) = H1 at sT hT ⊢
    have iS : SqL K H1 b xs := .of (sT _ _ hb)
    refine ⟨.ref b, T, _, .type "list", [.type "list", .type "tuple"], true, rfl, hT, .cons (.ty _) (.cons (.ty _) .nil), sql_ty iS, kitAny_cons (b := true) (kit_ty (by decide +kernel)) (fun e => by cases e) (fun _ => rfl), _, rfl, iteF ?_⟩
    refine ⟨.ref b, rfl, b, _, rfl, .inl iS, _, _, rfl, rfl, _, rfl, ite2 (fun _ => ?_) (fun e => absurd (decide_eq_true (show (1 : Int) ≤ (xs.length : Int) by omega)) e)⟩
    refine ⟨_, _, rfl, rfl, _, rfl, ite2 (fun e => absurd e ?_) (fun _ => ?_)⟩
    · rw [decide_eq_true (show (xs.length : Int) ≤ 20 by omega)]
      decide
    refine ⟨.ref b, rfl, b, rfl, ⟨_, iS⟩, fun D1 n1 => lc_list (xs := xs) (fun i H' => Same H1 H' ∧ H' D1 = some (.lst (List.replicate i (.bl true)))) ⟨same_new n1, upd_same⟩ (fun i H' _ hP => hP.1.seq iS) (fun i x H' hx hP => ?_) (fun H2 hP => ?_)⟩
    · obtain ⟨sm, hD⟩ := hP
      obtain ⟨c, _, pc⟩ := hA.get hx
      have il : i < xs.length := (List.getElem?_eq_some_iff.mp hx).1
      obtain ⟨e, vt, vs', rfl, he, _, _⟩ := pc.same (sT.trans sm)
      refine ⟨rfl, _, rfl, _, _, _, _, _, rfl, .ty "tuple", sqt_ty he, kd_tuple (.tup he), _, rfl, iteT ?_⟩
      refine ⟨_, rfl, e, _, rfl, .inr he, rfl, ?_⟩
      refine ⟨_, hD, big (by rw [List.length_replicate]; omega), same_but sm n1, ?_⟩
      rw [upd_same, List.replicate_succ']
      rw [show decide (V.int (([vt, vs'].length : Nat) : Int) = V.int 2) = true from decide_eq_true rfl]
    obtain ⟨s2, hD1⟩ := hP
    refine ⟨D1, List.replicate xs.length true, rfl, .of (by rw [hD1, List.map_replicate]), ?_⟩
    rw [show (List.replicate xs.length true).all id = true from by simp]
    exact q H2 (sT.trans s2)
end
end LR
set_option Elab.async false
set_option linter.all false
set_option maxRecDepth 100000
set_option maxHeartbeats 4000000
set_option exponentiation.threshold 100000
namespace LR
open PySem PySem.Spec PyProof.Rows L2
theorem cut1 (x : V) (xs : List V) : cutV (x :: xs) (some 1) none = xs := by
  have e : HT.sIx (x :: xs).length 0 (some 1) = 1 := by
    rw [show (some 1 : Option Int) = some ((1 : Nat) : Int) from rfl, HT.sIx_nat]
    simp
  unfold cutV
  rw [e, HT.sIx_none]
  simp
section
variable {P : Program} {w : World} {K : PySem.W.Frag} {mg : Str → Option Value} {base : Heap}
/-! ### _are_ascending, of times in order from 0 on -/
def spAsc2 (K : PySem.W.Frag) : Sp := fun vs H Q _ => ∃ (a : Addr) (xs : List V) (t : Rat) (ts : List Rat), vs = [.ref a] ∧ SqL K H a xs ∧ All2 (Rn K H) xs (t :: ts) ∧ t = 0 ∧ (t :: ts).Pairwise (· < ·) ∧ ts.length < 60 ∧ (∀ z ∈ t :: ts, Sz 100 z) ∧ ∀ H', Same H H' → Q (.bl true) H'
theorem ok_Asc2 {f : Addr} {fd : FuncData} (D : DefAt K mg "_are_ascending" s_are_ascending ["begins"] f fd) (ma : mg "all" = none) (mz : mg "zip" = none) : FnOk P w K mg base (CXl P w) 1 f fd ["begins"] (spAsc2 K) := by
  refine D.F.okX sc_are_ascending (fun vs H Q E h => ?_) (fun cdv A outer s H vs Q E hr h => ?_)
  · obtain ⟨a, xs, t, ts, rfl, _⟩ := h
    rfl
  · obtain ⟨a, xs, t, ts, rfl, hS, hA, rfl, pw, hl, hz, q⟩ := h
    have nd := sc_are_ascending.nd
    refine ⟨_, pss_cons (ps_if (pt_cmpR (op_neD hr.units) (pe_ix (r := rIxL K) ix_list (pv 0) pe_int (fun _ _ => rfl)) (pe_tup (pa_cons pe_int (pa_cons pe_int pa_nil))) (nomark _)) (pss_one (ps_ret pe_bl)) pss_nil)
      (pss_one (ps_ret (pe_callB (cr_all rfl) (by rfl) ma (by decide +kernel) (pa_cons (pe_lc (own := [("one", 1), ("two", 2)]) (g := gTup K 2 (gCons (gName 1) (gCons (gName 2) gNil))) (tt := tYes) (by rfl) nd (pi_zip (by rfl) mz (pa_cons (pv 0) (pa_cons (pe_slice sl_list (pv 0) (po_some pe_int) po_none) pa_nil))) (blkOk_by (N := ["begins", "one", "two"]) (sc := defScope s_are_ascending) (by decide +kernel)) (fun _ _ _ _ _ => by exact pg_tup rfl (pgs_cons (pg_name (i := 1) nd rfl (.inl rfl)) (pgs_cons (pg_name (i := 2) nd rfl (.inl rfl)) pgs_nil))) (fun _ _ _ _ _ => pts_nil)
        (fun _ _ _ _ _ => pe_cmpR op_lt (pe_op op_mulW (pe_ix (r := rIxT K) ix_tup (pv 1) pe_int (fun _ _ => rfl)) (pe_ix (r := rIxT K) ix_tup (pv 2) pe_int (fun _ _ => rfl))) (pe_op op_mulW (pe_ix (r := rIxT K) ix_tup (pv 2) pe_int (fun _ _ => rfl)) (pe_ix (r := rIxT K) ix_tup (pv 1) pe_int (fun _ _ => rfl))) (nomark _))) pa_nil)))), ?_⟩
    obtain ⟨x0, xs', rfl⟩ : ∃ x0 xs', xs = x0 :: xs' := by
      cases hA with
      | cons _ _ => exact ⟨_, _, rfl⟩
    have h0 : Rn K H x0 0 := by
      cases hA with
      | cons h _ => exact h
    have len : xs'.length = ts.length := by
      have := hA.len
      simpa using this
    refine ⟨.ref a, rfl, a, _, 0, x0, rfl, rfl, hS, atI_nat (j := 0) rfl, by show 2 ≤ sizeLine; decide, fun t nt => ?_⟩
    have s1 : Same H (upd H t (.tup [.int 0, .int 1])) := same_new nt
    have rt0 : Rn K (upd H t (.tup [.int 0, .int 1])) (.ref t) 0 := ⟨t, rfl, .inl (.inl upd_same)⟩
    show rNeD _ _ _ (upd H t (.tup [.int 0, .int 1])) _
    generalize (upd H t (.tup [.int 0, .int 1])) = H1 at s1 rt0 ⊢
    refine ⟨datR 0, datR 0, (h0.same s1).dp, rt0.dp, shapedR _, shapedR _, _, rfl, ?_⟩
    rw [eqvRR]
    refine ite2 (fun c => absurd c (by simp)) (fun _ => ?_)
    have iS := s1.seq hS
    refine ⟨.ref a, rfl, .ref a, rfl, 1, rfl, a, _, rfl, iS, fun l nl => ?_⟩
    have s2 : Same H1 (upd H1 l (.lst (cutV (x0 :: xs') (some 1) none))) := same_new nl
    have hl2 : (upd H1 l (.lst (cutV (x0 :: xs') (some 1) none))) l = some (.lst xs') := by rw [upd_same, cut1]
    show ∃ _, _
    generalize (upd H1 l (.lst (cutV (x0 :: xs') (some 1) none))) = H2 at s2 hl2 ⊢
    have iS2 := s2.seq iS
    refine ⟨a, l, _, _, rfl, iS2, .of hl2, fun D1 n1 => lc_it (walk_zip (xs := x0 :: xs') (ys := xs') rfl) (fun i H' => Same H2 H' ∧ H' D1 = some (.lst (List.replicate i (.bl true)))) ⟨same_new n1, upd_same⟩ (fun i H' _ hP => ⟨hP.1.seq iS2, hP.1.seq (.of hl2)⟩) (fun i x H' H'' hi hP hy => ?_) (fun H3 hP => ?_)⟩
    · obtain ⟨sm, hD⟩ := hP
      obtain ⟨T0, y1, y2, rfl, nT, rfl, ex, ey⟩ := hy
      have A' : All2 (Rn K H') (x0 :: xs') (0 :: ts) := hA.imp fun _ _ z => z.same ((s1.trans s2).trans sm)
      have ex : (x0 :: xs')[i]? = some y1 := ex
      have ey : xs'[i]? = some y2 := ey
      obtain ⟨p1, hp1, r1⟩ := A'.get ex
      have ey1 : (x0 :: xs')[i + 1]? = some y2 := by simpa using ey
      obtain ⟨p2, hp2, r2⟩ := A'.get ey1
      have lt : p1 < p2 := pw_get pw (Nat.lt_succ_self i) hp1 hp2
      have z1 := hz p1 (List.mem_of_getElem? hp1)
      have z2 := hz p2 (List.mem_of_getElem? hp2)
      have sT : Same H' (upd H' T0 (.tup [y1, y2])) := same_new nT
      have hT : (upd H' T0 (.tup [y1, y2])) T0 = some (.tup [y1, y2]) := upd_same
      show gTup _ _ _ _ _ (upd H' T0 (.tup [y1, y2])) _
      generalize (upd H' T0 (.tup [y1, y2])) = G1 at sT hT ⊢
      obtain ⟨a1, rfl, t1⟩ := r1.same sT
      obtain ⟨a2, rfl, t2⟩ := r2.same sT
      have zd1 : ((p1.den : Nat) : Int).natAbs < 2 ^ 100 := by rw [Int.natAbs_natCast]; exact z1.2
      have zd2 : ((p2.den : Nat) : Int).natAbs < 2 ^ 100 := by rw [Int.natAbs_natCast]; exact z2.2
      have il : i < ts.length := by
        have := (List.getElem?_eq_some_iff.mp ey).1
        omega
      refine ⟨T0, _, rfl, .inl (.inl hT), rfl, _, _, rfl, _, _, rfl, rfl, rfl, ?_⟩
      refine ⟨_, rfl, a1, _, 0, _, rfl, rfl, t1, atI_nat (j := 0) rfl, _, rfl, a2, _, 1, _, rfl, rfl, t2, atI_nat (j := 1) rfl, p1.num, (p2.den : Int), rfl, rfl, wm (up39 z1.1 (by decide)) (up39 zd2 (by decide)), _, rfl, a2, _, 0, _, rfl, rfl, t2, atI_nat (j := 0) rfl, _, rfl, a1, _, 1, _, rfl, rfl, t1, atI_nat (j := 1) rfl, p2.num, (p1.den : Int), rfl, rfl, wm (up39 z2.1 (by decide)) (up39 zd1 (by decide)), _, _, rfl, rfl, ?_⟩
      refine ⟨_, sT _ _ hD, Nat.lt_trans (show (List.replicate i (V.bl true)).length < 1000 by rw [List.length_replicate]; omega) (small1000 (Nat.le_refl _)), same_but (sm.trans sT) n1, ?_⟩
      rw [upd_same, List.replicate_succ']
      show some (HO.lst (List.replicate i (V.bl true) ++ [V.bl (decide (p1.num * (p2.den : Int) < p2.num * (p1.den : Int)))])) = _
      rw [show decide (p1.num * (p2.den : Int) < p2.num * (p1.den : Int)) = true from decide_eq_true ((Rat.lt_iff p1 p2).mp lt)]
    · obtain ⟨sm, hD1⟩ := hP
      refine ⟨D1, List.replicate (min (x0 :: xs').length xs'.length) true, rfl, .of (by rw [hD1, List.map_replicate]), ?_⟩
      rw [show (List.replicate (min (x0 :: xs').length xs'.length) true).all id = true from by simp]
      exact q H3 ((s1.trans s2).trans sm)
end
end LR
set_option Elab.async false
set_option linter.all false
set_option maxRecDepth 100000
set_option maxHeartbeats 4000000
set_option exponentiation.threshold 100000
namespace LR
open PySem PySem.Spec PyProof.Rows L2
/-- a runner's track -/
def trk (s0 : Rat) : List (Rat × Rat) → List Row
  | [] => []
  | c :: cs => trackGo ⟨c.1, c.2, s0⟩ cs
/-- valid pieces, and rows that are not too great -/
structure PcsOk (s0 : Rat) (cs : List (Rat × Rat)) : Prop where
  ne : 0 < cs.length
  le : cs.length ≤ 20
  zero : (cs.map (·.1)).head? = some 0
  asc : (cs.map (·.1)).Pairwise (· < ·)
  sz : ∀ c ∈ cs, Sz 100 c.1 ∧ Sz 100 c.2
  rz : ∀ r ∈ trk s0 cs, RowZ r
section
variable {P : Program} {w : World} {K : PySem.W.Frag} {mg : Str → Option Value} {base : Heap}
theorem pieceR_upd {H : Hp} {D : Addr} {ys : List V} {o : HO} {v : V} {c : Rat × Rat} (hD : H D = some (.lst ys)) (h : PieceR K H v c) : PieceR K (upd H D o) v c := by
  obtain ⟨a, vt, vs, rfl, h1, h2, h3⟩ := h
  exact ⟨a, vt, vs, rfl, sqt_upd hD (fun _ e => by cases e) (fun _ _ e => by cases e) h1, rn_lst hD h2, rn_lst hD h3⟩
def spTrk (K : PySem.W.Frag) : Sp := fun vs H Q _ => ∃ (n : Str) (v vl : V) (q L : Rat) (cs : List (Rat × Rat)), vs = [.str n, v, vl] ∧ NameOk n ∧ RunAt K H v q cs ∧ Num K H vl L ∧ 0 < L ∧ Sz 100 L ∧ Sz 100 q ∧ PcsOk (rem q L) cs ∧
  ∀ p H', Same H H' → TrackAt K H' (.ref p) (trk (rem q L) cs) → Q (.ref p) H'
theorem ok_Trk {f fN fI fA fR fS fT CN C2 : Addr} {fd dN dI dA dR dS dT : FuncData} (D : DefAt K mg "_track" s_track ["name", "runner", "length"] f fd) (DN : DefAt K mg "is_name" s_is_name ["value"] fN dN) (DI : DefAt K mg "_is_runner" s_is_runner ["value"] fI dI) (DA : DefAt K mg "as_ratio" s_as_ratio ["value"] fA dA) (DR : DefAt K mg "remainder" s_remainder ["value", "modulus"] fR dR) (DS : DefAt K mg "_are_ascending" s_are_ascending ["begins"] fS dS) (DT : DefAt K mg "track_of" s_track_of ["start", "pieces"] fT dT)
    (GN : FnOk P w K mg base (CXl P w) 1 fN dN ["value"] spNam) (GI : FnOk P w K mg base (CXl P w) 1 fI dI ["value"] (spIsRn K)) (GA : FnOk P w K mg base (CXl P w) 3 fA dA ["value"] (spAR K CN)) (GR : FnOk P w K mg base (CXl P w) 4 fR dR ["value", "modulus"] (sp_rem K CN C2)) (GS : FnOk P w K mg base (CXl P w) 1 fS dS ["begins"] (spAsc2 K)) (GT : FnOk P w K mg base (CXl P w) 2 fT dT ["start", "pieces"] (spTo K)) :
    FnOk P w K mg base (CXl P w) 5 f fd ["name", "runner", "length"] (spTrk K) := by
  refine D.F.okX sc_track (fun vs H Q E h => ?_) (fun cdv A outer s H vs Q E hr h => ?_)
  · obtain ⟨n, v, vl, q, L, cs, rfl, _⟩ := h
    rfl
  · obtain ⟨n, v, vl, q0, L, cs, rfl, nm, hR, hL, L0, zL, zq, ok, q⟩ := h
    have nd := sc_track.nd
    have h1 : Room 1 _ := hr.mono (by decide)
    have h2 : Room 2 _ := hr.mono (by decide)
    have h3 : Room 3 _ := hr.mono (by decide)
    refine ⟨_, pss_cons (ps_if (PW.pt (pw_or (pt_not (pt_val (pe_call GN h1 (by rfl) DN.g DN.F.kp DN.b .nil passL (pa_cons (pv 0) pa_nil)))) (pw_or1 (pt_not (pt_val (pe_call GI h1 (by rfl) DI.g DI.F.kp DI.b .nil passL (pa_cons (pv 1) pa_nil))))))) (pss_one ps_dead) pss_nil)
      (pss_cons (ps_try_thru0 (pss_cons (ps_set (i := 3) nd rfl (.inl rfl) (pe_call GR hr (by rfl) DR.g DR.F.kp DR.b .nil passL (pa_cons (pe_ix (r := rIxT K) ix_tup (pv 1) pe_int (fun _ _ => rfl)) (pa_cons (pv 2) pa_nil))))
          (pss_one (ps_setLc (i := 4) (own := [("time", 5), ("speed", 6)]) (g := gTup K 2 (gCons (gName 5) (gCons (gName 6) gNil))) (tt := tYes) (by rfl) nd rfl rfl (sw_true rfl rfl rfl (by decide +kernel)) (pi_list (pe_ix (r := rIxT K) ix_tup (pv 1) pe_int (fun _ _ => rfl))) (blkOk_by (N := ["name", "runner", "length", "start", "pieces", "time", "speed", "_"]) (sc := defScope s_track) (by decide +kernel)) (fun _ _ _ _ _ => by exact pg_tup rfl (pgs_cons (pg_name (i := 5) nd rfl (.inl rfl)) (pgs_cons (pg_name (i := 6) nd rfl (.inl rfl)) pgs_nil))) (fun _ _ _ _ _ => pts_nil)
            (fun _ _ _ _ _ => pe_tup (pa_cons (pe_call GA h3 (by rfl) DA.g DA.F.kp DA.b .nil passL (pa_cons (pv 5) pa_nil)) (pa_cons (pe_call GA h3 (by rfl) DA.g DA.F.kp DA.b .nil passL (pa_cons (pv 6) pa_nil)) pa_nil)))))))
      (pss_cons (ps_if (pt_not (pt_val (pe_call GS h1 (by rfl) DS.g DS.F.kp DS.b .nil passL (pa_cons (pe_lc (wi := iList K (tVar 4)) (own := [("time", 5), ("_", 7)]) (g := gTup K 2 (gCons (gName 5) (gCons (gName 7) gNil))) (tt := tYes) (by rfl) nd (pi_list (pv 4)) (blkOk_by (N := ["name", "runner", "length", "start", "pieces", "time", "speed", "_"]) (sc := defScope s_track) (by decide +kernel)) (fun _ _ _ _ _ => by exact pg_tup rfl (pgs_cons (pg_name (i := 5) nd rfl (.inl rfl)) (pgs_cons (pg_name (i := 7) nd rfl (.inl rfl)) pgs_nil))) (fun _ _ _ _ _ => pts_nil) (fun _ _ _ _ _ => pv 5)) pa_nil)))) (pss_one ps_dead) pss_nil)
      (pss_one (ps_ret (pe_call GT h2 (by rfl) DT.g DT.F.kp DT.b .nil passL (pa_cons (pv 3) (pa_cons (pv 4) pa_nil))))))), ?_⟩
    have big : ∀ {m : Nat}, m ≤ 1000 → m < sizeLine := fun h => small1000 h
    have cl := ok.le
    refine ⟨_, rfl, n, rfl, nm, _, rfl, iteF ⟨_, rfl, v, q0, cs, rfl, hR, ok.ne, ok.le, fun H1 s1 => ⟨_, rfl, iteF ?_⟩⟩⟩
    obtain ⟨a, vs, vp, rfl, ht, hn, b, xs, rfl, hb, hA⟩ := hR.same s1
    have lenA := hA.len
    -- start
    refine ⟨_, rfl, a, _, 0, _, rfl, rfl, ht, atI_nat (j := 0) rfl, vl, rfl, vs, vl, some q0, some L, rfl, hn, hL.same s1, ⟨zq.mono (by decide), zL.mono (by decide)⟩, fun z => absurd L0 (Rat.not_lt.mpr z), fun _ v4 H2 s2 r4 => ?_⟩
    have hA2 : All2 (PieceAt K H2) xs cs := hA.imp fun _ _ z => z.same s2
    have hb2 := s2 _ _ hb
    -- pieces
    refine ⟨_, rfl, a, _, 1, _, rfl, rfl, same_sqt s2 ht, atI_nat (j := 1) rfl, b, rfl, ⟨_, .of hb2⟩, fun D1 n1 => lc_list (xs := xs) (fun i H' => Same H2 H' ∧ ∃ acc, H' D1 = some (.lst acc) ∧ acc.length = i ∧ All2 (PieceR K H') acc (cs.take i)) ⟨same_new n1, [], upd_same, rfl, .nil⟩ (fun i H' _ hP => hP.1.seq (.of hb2)) (fun i x H' hx hP => ?_) (fun H3 hP => ?_)⟩
    · obtain ⟨sm, acc, hD, al, hAll⟩ := hP
      obtain ⟨c, hc, pc⟩ := hA2.get hx
      have il : i < xs.length := (List.getElem?_eq_some_iff.mp hx).1
      obtain ⟨e, vt, vs', rfl, he, k1, k2⟩ := pc.same sm
      refine ⟨e, _, rfl, he, rfl, _, _, rfl, _, _, rfl, rfl, rfl, vt, rfl, vt, some c.1, rfl, k1, fun v1 H3 s3 j1 => ⟨vs', rfl, vs', some c.2, rfl, k2.same s3, fun v2 H4 s4 j2 => ⟨by show 2 ≤ sizeLine; decide, fun t nt => ?_⟩⟩⟩
      have s5 : Same H4 (upd H4 t (.tup [v1, v2])) := same_new nt
      have ht5 : (upd H4 t (.tup [v1, v2])) t = some (.tup [v1, v2]) := upd_same
      show ∃ _, _
      generalize (upd H4 t (.tup [v1, v2])) = H5 at s5 ht5 ⊢
      have s35 := (s3.trans s4).trans s5
      have hD5 := s35 _ _ hD
      refine ⟨acc, hD5, big (by omega), same_but (sm.trans s35) n1, _, upd_same, by rw [List.length_append, al]; rfl, ?_⟩
      rw [take_snoc hc]
      exact (hAll.imp fun _ _ z => pieceR_upd hD5 (z.same s35)).snoc (pieceR_upd hD5 ⟨t, v1, v2, rfl, .inl (.inl ht5), j1.same (s4.trans s5), j2.same s5⟩)
    obtain ⟨s23, ps, hD1, pl, hP1⟩ := hP
    rw [List.take_of_length_le (by omega)] at hP1
    have r43 := r4.same s23
    -- times in order
    refine ⟨_, rfl, D1, rfl, ⟨_, .of hD1⟩, fun D2 n2 => lc_list (xs := ps) (fun i H' => Same H3 H' ∧ ∃ acc, H' D2 = some (.lst acc) ∧ acc.length = i ∧ All2 (Rn K H') acc ((cs.map (·.1)).take i)) ⟨same_new n2, [], upd_same, rfl, .nil⟩ (fun i H' _ hP => hP.1.seq (.of hD1)) (fun i x H' hx hP => ?_) (fun H4 hP => ?_)⟩
    · obtain ⟨sm, acc, hD, al, hAll⟩ := hP
      obtain ⟨c, hc, pc⟩ := hP1.get hx
      have il : i < ps.length := (List.getElem?_eq_some_iff.mp hx).1
      obtain ⟨e, vt, vs', rfl, he, k1, k2⟩ := pc.same sm
      have hc' : (cs.map (·.1))[i]? = some c.1 := by rw [List.getElem?_map, hc]; rfl
      refine ⟨e, _, rfl, he, rfl, _, _, rfl, _, _, rfl, rfl, rfl, vt, rfl, acc, hD, big (by omega), same_but sm n2, _, upd_same, by rw [List.length_append, al]; rfl, ?_⟩
      rw [take_snoc hc']
      exact (hAll.imp fun _ _ z => rn_lst hD z).snoc (rn_lst hD k1)
    obtain ⟨s34, ts, hD2, tl, hT⟩ := hP
    rw [List.take_of_length_le (by rw [List.length_map]; omega)] at hT
    obtain ⟨c, cs', rfl⟩ : ∃ c cs', cs = c :: cs' := by
      cases e : cs with
      | nil => exact absurd ok.ne (by rw [e]; simp)
      | cons c cs' => exact ⟨c, cs', rfl⟩
    have c0 : c.1 = 0 := by
      have := ok.zero
      simpa using this
    have cl' : cs'.length + 1 ≤ 20 := cl
    refine ⟨D2, ts, c.1, cs'.map (fun x : Rat × Rat => x.1), rfl, .of hD2, hT, c0, ok.asc, by rw [List.length_map]; omega, fun z hz => ?_, fun H5 s45 => ⟨_, rfl, iteF ?_⟩⟩
    · obtain ⟨d, hd, rfl⟩ := List.mem_map.mp (show z ∈ (c :: cs').map (·.1) from hz)
      exact (ok.sz d hd).1
    have s35 := s34.trans s45
    refine ⟨_, rfl, _, rfl, v4, .ref D1, rem q0 L, c, cs', D1, ps, rfl, rfl, r43.same s35, .of (s35 _ _ hD1), hP1.imp fun _ _ z => z.same s35, (zq.rem zL L0).mono (by decide), ok.rz, by omega, fun p H' s' _ tt => ?_⟩
    exact q p H' ((((s1.trans s2).trans s23).trans s35).trans s') tt
end
end LR
set_option Elab.async false
set_option linter.all false
set_option maxRecDepth 100000
set_option maxHeartbeats 4000000
/-! Promises of defs that are called while nothing is being shown (no repr runs around them), and repr of data -/
namespace LG
open PySem PySem.Spec PyProof.Rows L2
/-- as a promise, of calls where no repr runs -/
structure FnG (P : Program) (w : World) (K : PySem.W.Frag) (mg : Str → Option Value) (base : Heap) (CX : CXT) (k : Nat) (f : Addr) (fd : FuncData) (ps : List Str) (sp : Sp) : Prop where
  len : ∀ vs H Q E, sp vs H Q E → vs.length = ps.length
  run : ∀ (A : Around) (outer : List Env) (s : Shared) (H : Hp) (args : Args) (us : List Value) (vs : List V) (Q : VK) (E : XK), A.guards = some [] → Room k A → Env0 P w K mg base A outer s H → BindsTo s fd args (ps.zip us) → Vals vs us → sp vs H Q E →
    codeAny (model P w) A (.call (.ref f) args) (CR CX outer P w H s Q E) s
section
variable {P : Program} {w : World} {K : PySem.W.Frag} {mg : Str → Option Value} {base : Heap} {CX : CXT} {k : Nat} {f : Addr} {fd : FuncData} {ps : List Str} {sp : Sp}
theorem _root_.L2.FnOk.toG (F : FnOk P w K mg base CX k f fd ps sp) : FnG P w K mg base CX k f fd ps sp := ⟨F.len, fun A outer s H args us vs Q E _ => F.run A outer s H args us vs Q E⟩
theorem FnG.imp {sp' : Sp} (F : FnG P w K mg base CX k f fd ps sp) (h : ∀ vs H Q E, sp' vs H Q E → sp vs H Q E) : FnG P w K mg base CX k f fd ps sp' :=
  ⟨fun vs H Q E q => F.len vs H Q E (h _ _ _ _ q), fun A outer s H args us vs Q E g hr he hb hv hs => F.run A outer s H args us vs Q E g hr he hb hv (h _ _ _ _ hs)⟩
/-- THE RULE for such a def -/
theorem fun_okG {x qual : Str} {st : Stmt} {N : List Str} (F : Fun K x qual st f fd) (S : FnScope N ps (defScope st)) (len : ∀ vs H Q E, sp vs H Q E → vs.length = ps.length)
    (body : ∀ (cdv : Value) (A : Around) (outer : List Env) (s : Shared) (H : Hp) (vs : List V) (Q : VK) (E : XK), A.guards = some [] → Room k (A.deeper (envOfC qual (defScope st) s.heap.objs.size f cdv)) → sp vs H Q E →
      ∃ t, PSs (cxOf CX P w K mg base N qual (defScope st) f cdv A outer s H E) (defBody st) t ∧ t { nx := fun _ H' => Q .non H', rt := Q } (start N vs) H) : FnG P w K mg base CX (k + 1) f fd ps sp := by
  obtain ⟨oc, od, kV, doc, pm, an, cdv, ct, osl, rfl, lk, hcd⟩ := F.ex
  refine ⟨len, fun A outer s H args us vs Q E g hr e0 hb r hsp => ?_⟩
  have kin : K.In s.heap := e0.mod.kin.keeps fun b o e => (e0.bs b o e).1
  have lim : s.heap.NoLimit := e0.mod.nolimit.keeps fun b o e => (e0.bs b o e).1
  refine codeAny_call_function hr.depth (kin _ _ lk) rfl S.co S.gen rfl (PySem.W.codeRec_of kin hcd) (hb _ _ _ _ ?_)
  refine wpAny_newFunctionEnv_cells S.kind (fun y hy => ?_) fun env he s1 x => ?_
  · rcases S.par y.1 (List.of_mem_zip (a := y.1) (b := y.2) hy).1 with q | q
    · exact .inl q
    · exact .inr ⟨q, PySem.W.cellsFrom_some _ _ _ (.inl q)⟩
  subst he
  refine ⟨lim.keeps x.toInCall.keep, codeAny_func ?_⟩
  obtain ⟨t, ht, hq⟩ := body cdv A outer s H vs Q E g (hr.deeper _) hsp
  have I := inv_start (CX := CX) (N := N) (E := E) S hr.hd e0 (len _ _ _ _ hsp) r x
  refine wpAny_mono (ht.run [] s1 (start N vs) H _ I hq) (fun fl s' hs => ?_) fun e s' hs => hs
  cases fl with
  | ret u => exact let ⟨v, _, H', J, rv, q⟩ := hs; ⟨v, H', J.os, J.bare, J.base, J.hok, rv, q⟩
  | next => exact let ⟨_, H', J, q⟩ := hs; ⟨V.non, H', J.os, J.bare, J.base, J.hok, rfl, q⟩
  | brk => exact let ⟨_, _, _, q⟩ := hs; False.elim q
  | cont => exact let ⟨_, _, _, q⟩ := hs; False.elim q
end
section
variable {X : Cx} {CX : CXT} {k : Nat} {f : Addr} {fd : FuncData} {ps : List Str} {sp : Sp} {dvs : List V} {ds : List Value} {E : XK} {x : Str} {p pos : Pos} {e : Expr} {es : List Expr} {t : TA}
/-- f(e, ..) of such a def -/
theorem pe_callG (F : FnG X.prog X.w X.K X.mg X.base CX k f fd ps sp) (g : X.A.guards = some []) (hr : Room k X.A) (hg : Gl X x) (hm : X.mg x = some (.ref f)) (hk : PySem.W.keepIn X.K (.ref f) = true) (hb : Binds X.K fd ps ds) (hd : Vals dvs ds) (hx : Passes CX X E)
    (ha : PA X (e :: es) t) (hdb : (x == ("__debug__" : Str)) = false := by decide) (he : starEach (e :: es) X.env = (false, eval e X.env) :: starEach es X.env := by rfl) (hpl : (backTo pos (starEach es X.env)).any (·.1) = false := by rfl) :
    PE X (.Call (.Name x p) (e :: es) [] pos) (tCall sp dvs E t) := by
  refine ⟨fun pins s σ H Q I h => wpAny_Call_Name_kw (ld_glob I hg hm ?_ hdb)⟩
  refine PySem.W.callWith_K (h₀ := X.base) I.ok.mod.kin hk (thn (ha.run pos pins s σ H _ I h) fun us s1 ⟨vs, H1, J, r, q⟩ => ⟨J.kIn, ?_⟩) he hpl
  have r2 : Vals (vs ++ dvs) (us ++ ds) := r.append hd
  refine wpAny_call (codeAny_mono (F.run X.A X.stack s1 H1 ⟨us, []⟩ _ _ Q E g hr J.env0 (hb s1 us J.kIn (r2.length.symm.trans (F.len _ _ _ _ q))) r2 q) fun r s' hq => ?_)
  cases r with
  | error e => exact hx pins σ H1 s1 e s' J hq
  | ok fl =>
    cases fl with
    | ret u => exact J.after hq
    | next => exact False.elim hq
    | brk => exact False.elim hq
    | cont => exact False.elim hq
end

/-! ### repr of data -/
/-- what may be shown: no dict, no great int, no long text -/
def Fine (d : PyData) : Prop := d.showable = true ∧ d.hasDict = false ∧ d.depth ≤ 8 ∧ d.shown.length ≤ sizeLine
def rRepr (K : PySem.W.Frag) : List V → Hp → VK → Prop := fun vs H Q => ∃ (a : Addr) (d : PyData), vs = [.ref a] ∧ Dp K H (.ref a) d ∧ Fine d ∧ Q (.str d.shown) H
theorem cr_repr {X : Cx} (g : X.A.guards = some []) (hu : X.A.units + 64 < cLine) : CallR X (.builtin "repr") (rRepr X.K) := by
  intro pins s σ H vs us Q I r h
  obtain ⟨a, d, rfl, hd, ⟨f1, f2, f3, f4⟩, q⟩ := h
  rw [Vals.ref1 r]
  obtain ⟨as, rd⟩ := Dp.reads I d _ _ hd rfl
  exact repr_of_reads' rd f1 (fun h' => absurd (f2.symm.trans h') (by decide)) g (by omega) (fun _ _ e => e) (fun h' u tk k => ⟨.str d.shown, H, I.kept k, ⟨_, rfl⟩, q⟩) f4

/-! ### the law's call -/
/-- the script's heap: nothing else is tracked -/
theorem law_callG {P : Program} {w : World} {K : PySem.W.Frag} {mg mb : Str → Option Value} {CX : CXT} {k : Nat} {fa a : Addr} {fd : FuncData} {x : Str} {sp : Sp} {s1 : Shared} {vs : List Value} {ns : List Int}
    (kin : K.In s1.heap) (hns : s1.heap.Ns mainGlobals mg) (hb : s1.heap.Ns builtinsNs mb) (hbb : ∀ x : Str, x ≠ "__name__" → mb x = bootBuiltins x) (lim : s1.heap.NoLimit) (hg : s1.gens = #[])
    (ha : s1.heap.get? a = some { cls := .type "list", data := .seq vs.toArray }) (hi : IntsAre vs ns) (hl : ns.length ≤ sizeLine) (hr : Room k callerA)
    (F : ∀ base : Heap, K.In base → base.Ns mainGlobals mg → FnG P w K mg base CX k fa fd [x] sp) (bind : ∀ (s : Shared) (u : Value), BindsTo s fd ⟨[u], []⟩ [(x, u)])
    (hsp : ∀ H : Hp, Only H → SqL K H a (ns.map V.int) → sp [.ref a] H (fun v _ => v = .bl true) fun _ _ _ => False) (hCX : ∀ H e s', CX [] H s1 (fun _ _ _ => False) e s' → False) :
    codeAny (model P w) callerA (.call (.ref fa) ⟨[.ref a], []⟩) (fun r s' => r = .ok (.ret (.bool true)) ∧ OldK s1.heap s'.heap ∧ s'.os = s1.os ∧ AllBare s'.gens) s1 := by
  have rv := vals_ints hi
  -- over a heap that tracks the script or nothing
  have go : ∀ H : Hp, Only H → SqL K H a (ns.map V.int) → HOk P w H s1.heap → (∀ b u, H b = some u → b = a ∧ K.lookup a = none) →
      codeAny (model P w) callerA (.call (.ref fa) ⟨[.ref a], []⟩) (fun r s' => r = .ok (.ret (.bool true)) ∧ OldK s1.heap s'.heap ∧ s'.os = s1.os ∧ AllBare s'.gens) s1 := by
    intro H only hS hok one
    have free : ∀ {b : Addr} {o : Obj} {es : Array DictEntry} {ep : Nat}, s1.heap.get? b = some o → o.data = .dict es ep → H b = none := fun {b o es ep} e d => by
      cases q : H b with
      | none => rfl
      | some u =>
        obtain ⟨rfl, _⟩ := one b u q
        have e2 := Option.some.inj (e.symm.trans ha)
        subst e2
        cases d
    have ns1 : ∀ {b : Addr} {m : Str → Option Value}, s1.heap.Ns b m → (hidT s1.heap H).Ns b m := fun {b m} ⟨o, es, ep, e, d, r⟩ => ⟨o, es, ep, hidT_get e (free e d), d, r⟩
    have kin1 : K.In (hidT s1.heap H) := fun b o e => hidT_get (kin b o e) (by
      cases q : H b with
      | none => rfl
      | some u =>
        obtain ⟨rfl, z⟩ := one b u q
        rw [z] at e
        cases e)
    have M : Mod K mg (hidT s1.heap H) := ⟨kin1, ns1 hns, ⟨mb, ns1 hb, hbb⟩, let ⟨mc, h1, h2⟩ := lim; ⟨mc, ns1 h1, h2⟩⟩
    have e0 : Env0 P w K mg (hidT s1.heap H) callerA [] s1 H := ⟨rfl, M, fun b o e => of_hidT e, Nat.le_of_eq (hidT_size _ _), trivial, fun b z => absurd (show b ∈ ([] : List Addr) from z) (by simp), hok, .of_eq hg⟩
    refine codeAny_mono ((F _ kin1 (ns1 hns)).run callerA [] s1 H ⟨[.ref a], []⟩ [.ref a] [.ref a] _ _ rfl hr e0 (bind s1 (.ref a)) (.cons rfl .nil) (hsp H only hS)) fun r s' h => ?_
    match r, h with
    | .error e, h => exact (hCX H e s' h).elim
    | .ok .next, h => exact False.elim h
    | .ok .brk, h => exact False.elim h
    | .ok .cont, h => exact False.elim h
    | .ok (.ret u), h =>
      obtain ⟨v, H', os, bare, un, hok', r', q⟩ := h
      have q' : v = .bl true := q
      subst q'
      have r2 : u = Value.bool true := r'
      subst r2
      refine ⟨rfl, OldK.of_keep fun b o e => ?_, os, bare⟩
      cases z : H b with
      | none => exact un.keep b o e z (fun y => absurd (show b ∈ ([] : List Addr) from y) (by simp)) (by simp)
      | some u =>
        rcases only b with y | ⟨ob, xs, y⟩
        · rw [z] at y
          cases y
        · have e1 := (hok b _ y).1
          rw [e] at e1
          cases e1
          exact (hok' b _ (un.frzs b _ _ y)).1
  cases hk : K.lookup a with
  | some o =>
    have e := kin a o hk
    rw [ha] at e
    cases e
    exact go (fun _ => none) (fun _ => .inl rfl) (.inr ⟨_, vs.toArray, _, hk, rfl, rfl, rfl, by rw [List.size_toArray, hi.length]; exact hl, by simpa using rv⟩) (fun b u z => nomatch z) fun b u z => nomatch z
  | none =>
    have at1 : ∀ b, b ≠ a → (fun b => if b = a then some (HO.frz { cls := .type "list", data := .seq vs.toArray } (.lst (ns.map V.int))) else none : Hp) b = none := fun b h => if_neg h
    have at2 : (fun b => if b = a then some (HO.frz { cls := .type "list", data := .seq vs.toArray } (.lst (ns.map V.int))) else none : Hp) a = some (HO.frz { cls := .type "list", data := .seq vs.toArray } (.lst (ns.map V.int))) := if_pos rfl
    generalize (fun b => if b = a then some (HO.frz { cls := .type "list", data := .seq vs.toArray } (.lst (ns.map V.int))) else none : Hp) = H at at1 at2
    refine go H (fun b => ?_) (.inl (.inr ⟨_, at2⟩)) (fun b u z => ?_) fun b u z => ?_
    · by_cases h : b = a
      · subst h
        exact .inr ⟨_, _, at2⟩
      · exact .inl (at1 b h)
    · by_cases h : b = a
      · subst h
        have := Option.some.inj (z.symm.trans at2)
        subst this
        exact ⟨ha, by rw [List.length_map]; exact hl, vs, _, rv, ha⟩
      · rw [at1 b h] at z
        cases z
    · by_cases h : b = a
      · exact ⟨h, hk⟩
      · rw [at1 b h] at z
        cases z
theorem walk_G {l : PySem.W.OpenLaw} {n k : Nat} {q : Program} {loose : List Str} {XP : (Str → Option Value) → Heap → Prop} {YP : World → Heap → Prop} {d : DefRec} {K : Params → PySem.W.Frag} {CX : World → CXT} {sp : World → Sp} {x : Str}
    (hn : l.most = some n) (hn2 : n ≤ sizeLine) (hdf : d.params.defaults = []) (hr : Room k callerA) (hY : ∀ (w : World) (h : Heap), YP w h → (K w.params).In h)
    (F : ∀ (w : World) (mg : Str → Option Value) (fa : Addr) (h : Heap), (K w.params).In h → h.Ns mainGlobals mg → mg d.name = some (.ref fa) →
      ∃ fd : FuncData, (∀ (s : Shared) (u : Value), BindsTo s fd ⟨[u], []⟩ [(x, u)]) ∧ ∀ base : Heap, (K w.params).In base → base.Ns mainGlobals mg → FnG l.prog w (K w.params) mg base (CX w) k fa fd [x] (sp w))
    (hsp : ∀ (w : World) (H : Hp) (a : Addr) (ns : List Int), ns.length ≤ n → Only H → SqL (K w.params) H a (ns.map V.int) → sp w [.ref a] H (fun v _ => v = .bl true) fun _ _ _ => False)
    (hCX : ∀ (w : World) (H : Hp) (s : Shared) (e : Value) (s' : Shared), CX w [] H s (fun _ _ _ => False) e s' → False) :
    PySem.W.WalkO q loose XP YP l.row.toRowW d [] (fun f vs => PySem.call f vs) := by
  refine Att.attach_call hn hdf fun w s₀ s₁ mg mb fa o pm cd doc a vs ns G Y ho hd hcd hmg hobj hints hlen hg => ?_
  obtain ⟨fd, hb, hF⟩ := F w mg fa _ (hY w _ Y) G.T.g hmg
  exact law_callG (hY w _ Y) G.T.g G.T.b G.T.builtins G.T.nolimit hg hobj hints (Nat.le_trans hlen hn2) hr hF hb (fun H hO hS => hsp w H a ns hlen hO hS) fun H e s' => hCX w H s₁ e s'
end LG
set_option Elab.async false
set_option linter.all false
set_option maxRecDepth 100000
set_option maxHeartbeats 4000000
/-! y in x, y not in x, where x is an object of a class with its own __contains__ -/
namespace OI
open PySem PySem.Spec PyProof.Rows L2
theorem contains_fn {M : Model} {A : Around} {s : Shared} {K : PySem.W.Frag} {x C f : Addr} {y : Value} {E : Value → Shared → Prop} {ox : Obj} {od : Option Obj} {Q : Bool → Shared → Prop} (X : K.In s.heap) (I : PySem.W.InstAt s.heap x ox C od)
    (hs : PySem.W.findIn K (.ref C) "__contains__" = some (some (.ref f))) (hf : PySem.W.typeIn K (.ref f) = some (.type "function")) (h : wpAny M A (call (.ref f) [.ref x, y]) (fun r s' => ∃ b, r = Value.bool b ∧ Q b s') E s) :
    wpAny M A (contains (.ref x) y) Q E s := by
  unfold contains
  refine wpAny_holding ?_
  show wpAny M A (specialOf (.ref x) "__contains__" >>= _) Q E s
  have sp : ∀ {Q' : Option Value → Shared → Prop}, Q' (some (.ref f)) s → wpAny M A (specialOf (.ref x) "__contains__") Q' E s := fun q => wpAny_bind (I.type.here ((PySem.W.looks_findIn X hs).here q))
  refine wpAny_bind (sp ?_)
  show wpAny M A (if (some (Value.ref f) == some Value.none) = true then _ else _) Q E s
  rw [if_neg (show ¬ (some (Value.ref f) == some Value.none) = true from fun z => by cases z)]
  refine wpAny_bind ?_
  unfold callSpecialUnlessNone?
  refine wpAny_bind (sp (wpAny_holding (wpAny_bind ((PySem.W.bind_fn X _ hf).here ?_))))
  show wpAny M A (if (Value.ref f == Value.none) = true then _ else _) _ E s
  rw [if_neg (show ¬ (Value.ref f == Value.none) = true from fun z => by cases z)]
  refine wpAny_bind (wpAny_mono h (fun r s' z => ?_) fun _ _ z => z)
  obtain ⟨b, rfl, q⟩ := z
  exact wpAny_pure (wpAny_truthy_bool q)
section
variable {X : Cx} {CX : CXT} {k : Nat} {C g : Addr} {fd : FuncData} {ps : List Str} {sp : Sp} {E : XK}
/-- y in x: what the class's own answer says -/
def rOwnIn (C : Addr) (neg : Bool) (sp : Sp) (E : XK) : R2 := fun y x H Q => ∃ a dx fs, x = .ref a ∧ H a = some (.ins C dx fs) ∧ sp [.ref a, y] H (fun z H' => ∃ b, z = .bl b ∧ Q (.bl (if neg then !b else b)) H') E
theorem own_in {pins : List (Addr × Obj)} {σ : L2.St} {H : Hp} {s : Shared} {y : V} {v : Value} {a dx : Addr} {fs : List (Str × V)} {Q : Bool → Hp → Prop} (hm : Meth X.K C "__contains__" g) (F : FnOk X.prog X.w X.K X.mg X.base CX k g fd ps sp) (hr : Room k X.A) (hb : Binds X.K fd ps []) (hx : Passes CX X E)
    (I : Inv X pins σ H s) (ry : RelV y v) (ea : H a = some (.ins C dx fs)) (q : sp [.ref a, y] H (fun z H' => ∃ b, z = .bl b ∧ Q b H') E) :
    wpAny (model X.prog X.w) X.A (contains (.ref a) v) (fun b s' => ∃ H', Inv X pins σ H' s' ∧ Q b H') X.xe s := by
  obtain ⟨mA, O, r, _, _, _⟩ := ins_get I.hok ea
  obtain ⟨od, J, hl⟩ := O.look
  refine contains_fn I.kIn J hm.at_ (beq_iff_eq.mp hm.fn) (wpAny_mono (run_fn (us := [.ref a, v]) (vs := [.ref a, y]) F hr hb .nil hx I (.cons rfl (.cons ry .nil)) q) (fun r s' z => ?_) fun _ _ z => z)
  obtain ⟨z', H', I', rz, b, eb, qb⟩ := z
  subst eb
  exact ⟨b, rz, H', I', qb⟩
theorem op_notin_own (hm : Meth X.K C "__contains__" g) (F : FnOk X.prog X.w X.K X.mg X.base CX k g fd ps sp) (hr : Room k X.A) (hb : Binds X.K fd ps []) (hx : Passes CX X E) : OpR X (compareOp .NotIn) (rOwnIn C true sp E) := by
  intro pins s σ H y x v u Q I ry rx h
  obtain ⟨a, dx, fs, rfl, ea, q⟩ := h
  cases (show u = Value.ref a from rx)
  show wpAny _ _ (contains (.ref a) v >>= fun b => pure (Value.bool (!b))) _ _ _
  refine wpAny_bind (wpAny_mono (own_in (Q := fun b H' => Q (.bl (!b)) H') hm F hr hb hx I ry ea q) (fun b s' z => ?_) fun _ _ z => z)
  obtain ⟨H', I', q'⟩ := z
  exact wpAny_pure ⟨.bl (!b), H', I', rfl, q'⟩
theorem op_in_own (hm : Meth X.K C "__contains__" g) (F : FnOk X.prog X.w X.K X.mg X.base CX k g fd ps sp) (hr : Room k X.A) (hb : Binds X.K fd ps []) (hx : Passes CX X E) : OpR X (compareOp .In) (rOwnIn C false sp E) := by
  intro pins s σ H y x v u Q I ry rx h
  obtain ⟨a, dx, fs, rfl, ea, q⟩ := h
  cases (show u = Value.ref a from rx)
  show wpAny _ _ (contains (.ref a) v >>= fun b => pure (Value.bool b)) _ _ _
  refine wpAny_bind (wpAny_mono (own_in (Q := fun b H' => Q (.bl b) H') hm F hr hb hx I ry ea q) (fun b s' z => ?_) fun _ _ z => z)
  obtain ⟨H', I', q'⟩ := z
  exact wpAny_pure ⟨.bl b, H', I', rfl, q'⟩
end
end OI
set_option Elab.async false
set_option linter.all false
set_option maxRecDepth 100000
set_option maxHeartbeats 4000000
set_option exponentiation.threshold 100000
namespace LR
open PySem PySem.Spec PyProof.Rows L2
/-- a dict comprehension over what is walked -/
theorem dc_it {J : It} {n : Nat} {G : Hp → Prop} {Y : Nat → Hp → V → Hp → Prop} (w : Walk J n G Y) {g : TG} {tt : TT} {tk tv : TE} {vs : List Nat} {σ : L2.St} {H1 : Hp} {D : Addr} {Qd : Hp → Prop} (Pv : Nat → Hp → Prop) (h0 : Pv 0 (upd H1 D (.dK []))) (hG : ∀ i H, i ≤ n → Pv i H → G H)
    (hs : ∀ i x H H', i < n → Pv i H → Y i H x H' → g x (wipe σ vs) H' fun σ2 H2 => wipe σ2 vs = wipe σ vs ∧ tt σ2 H2 fun b H3 =>
      if b = true then tk σ2 H3 fun y H4 => tv σ2 H4 fun z H5 => ∃ kvs k, y = kV k ∧ H5 D = some (.dK kvs) ∧ kvs.length < sizeLine ∧ Pv (i + 1) (upd H5 D (.dK (putK kvs k z))) else Pv (i + 1) H3) (hd : ∀ H, Pv n H → Qd H) :
    ∃ W : Nat → Nat → Hp → Prop, (∃ m, W 0 m (upd H1 D (.dK []))) ∧ ∀ i m H, W i m H →
      (J.stop i H ∧ Qd H) ∨ (J.go i H ∧ ∃ Nx : Hp → Prop, (∀ H', Nx H' → ∃ m', m' < m ∧ W (i + 1) m' H') ∧ ∀ x H', J.yld i H x H' → g x (wipe σ vs) H' fun σ2 H2 => wipe σ2 vs = wipe σ vs ∧ tt σ2 H2 fun b H3 =>
        if b = true then tk σ2 H3 fun y H4 => tv σ2 H4 fun z H5 => ∃ kvs k, y = kV k ∧ H5 D = some (.dK kvs) ∧ kvs.length < sizeLine ∧ Nx (upd H5 D (.dK (putK kvs k z))) else Nx H3) := by
  refine ⟨fun i m H => m = n - i ∧ i ≤ n ∧ Pv i H, ⟨n, by simp, Nat.zero_le _, h0⟩, ?_⟩
  rintro i m H ⟨rfl, hi, p⟩
  have q := hG i H hi p
  by_cases lt : i < n
  · exact .inr ⟨w.goes i H lt q, Pv (i + 1), fun H' p' => ⟨n - (i + 1), by omega, rfl, lt, p'⟩, fun x H' y => hs i x H H' lt p (w.yields i H x H' lt q y)⟩
  · have e : i = n := by omega
    subst e
    exact .inl ⟨w.stops H q, hd H p⟩
abbrev sInit : Stmt := inClass cRace 0
theorem scInit : FnScope ["self", "length", "runners", "tracks", "name", "runner"] ["self", "length", "runners"] (defScope sInit) := ⟨rfl, rfl, rfl, by decide +kernel, rfl, by decide +kernel, by decide +kernel⟩
/-! ### a race as an object -/
def rflds (x y : V) : List (Str × V) := [("_length", x), ("_tracks", y)]
theorem rflds_eq (x y : V) : putF "_tracks" y (putF "_length" x []) = rflds x y := by
  show (if ("_length" : Str) = "_tracks" then _ else (("_length" : Str), x) :: putF "_tracks" y []) = _
  rw [if_neg (by decide +kernel)]
  rfl
theorem rl_length (x y : V) : (rflds x y).lookup ("_length" : Str) = some x := by
  rw [← rflds_eq, lookup_putF, if_neg (by decide +kernel), lookup_putF, if_pos rfl]
theorem rl_tracks (x y : V) : (rflds x y).lookup ("_tracks" : Str) = some y := by
  rw [← rflds_eq, lookup_putF, if_pos rfl]
theorem rl_no (x y : V) {m : Str} (h1 : ¬ m = "_tracks") (h2 : ¬ m = "_length") : (rflds x y).lookup m = none := by
  rw [← rflds_eq, lookup_putF, if_neg h1, lookup_putF, if_neg h2]
  rfl
abbrev TrEnt (K : PySem.W.Frag) (H : Hp) (kv : Key × V) (nt : Str × List Row) : Prop := kv.1 = Sum.inr nt.1 ∧ TrackAt K H kv.2 nt.2
def TracksAt (K : PySem.W.Frag) (H : Hp) (v : V) (tr : List (Str × List Row)) : Prop := ∃ (d : Addr) (kvs : List (Key × V)), v = .ref d ∧ H d = some (.dK kvs) ∧ All2 (TrEnt K H) kvs tr
theorem TracksAt.same {K : PySem.W.Frag} {H H' : Hp} {v : V} {tr : List (Str × List Row)} (s : Same H H') (h : TracksAt K H v tr) : TracksAt K H' v tr :=
  let ⟨d, kvs, e, h1, h2⟩ := h; ⟨d, kvs, e, s _ _ h1, h2.imp fun _ _ z => ⟨z.1, z.2.same s⟩⟩
def RaceAt (K : PySem.W.Frag) (C : Addr) (H : Hp) (v : V) (L : Rat) (tr : List (Str × List Row)) : Prop := ∃ (p dx : Addr) (vL vT : V), v = .ref p ∧ H p = some (.ins C dx (rflds vL vT)) ∧ Rn K H vL L ∧ TracksAt K H vT tr
theorem RaceAt.same {K : PySem.W.Frag} {C : Addr} {H H' : Hp} {v : V} {L : Rat} {tr : List (Str × List Row)} (s : Same H H') (h : RaceAt K C H v L tr) : RaceAt K C H' v L tr :=
  let ⟨p, dx, vL, vT, e, h1, h2, h3⟩ := h; ⟨p, dx, vL, vT, e, s _ _ h1, h2.same s, h3.same s⟩
theorem ent_val {K : PySem.W.Frag} {H : Hp} {n : Str} {rows : List Row} : ∀ {kvs : List (Key × V)} {tr : List (Str × List Row)}, All2 (TrEnt K H) kvs tr → (tr.map (·.1)).Nodup → (n, rows) ∈ tr → ∃ v, valV kvs (Sum.inr n : Key) = some v ∧ TrackAt K H v rows
  | _, _, .nil, _, h => by cases h
  | (k, v) :: kvs, (m, rs) :: tr, .cons ⟨e, ht⟩ t, nd, h => by
    obtain ⟨n1, n2⟩ := List.nodup_cons.mp nd
    rcases List.mem_cons.mp h with e2 | h
    · cases e2
      exact ⟨v, valV_pos e, ht⟩
    · have ne : ¬ k = (Sum.inr n : Key) := fun z => by
        have e3 : (Sum.inr m : Key) = Sum.inr n := e.symm.trans z
        have e4 : m = n := Sum.inr.inj e3
        subst e4
        exact n1 (List.mem_map.mpr ⟨_, h, rfl⟩)
      obtain ⟨v', h1, h2⟩ := ent_val t n2 h
      exact ⟨v', by rw [valV_neg ne]; exact h1, h2⟩
theorem ent_none {K : PySem.W.Frag} {H : Hp} {n : Str} : ∀ {kvs : List (Key × V)} {tr : List (Str × List Row)}, All2 (TrEnt K H) kvs tr → n ∉ tr.map (·.1) → valV kvs (Sum.inr n : Key) = none
  | _, _, .nil, _ => rfl
  | (k, v) :: kvs, (m, rs) :: tr, .cons ⟨e, ht⟩ t, h => by
    have ne : ¬ k = (Sum.inr n : Key) := fun z => by
      have e3 : (Sum.inr m : Key) = Sum.inr n := e.symm.trans z
      exact h (List.mem_map.mpr ⟨(m, rs), List.mem_cons_self, Sum.inr.inj e3⟩)
    rw [valV_neg ne]
    exact ent_none t fun z => h (List.mem_cons_of_mem _ z)
theorem ent_keys {K : PySem.W.Frag} {H : Hp} : ∀ {kvs : List (Key × V)} {tr : List (Str × List Row)}, All2 (TrEnt K H) kvs tr → kvs.map (·.1) = (tr.map (·.1)).map Sum.inr
  | _, _, .nil => rfl
  | (k, v) :: kvs, (m, rs) :: tr, .cons ⟨e, _⟩ t => by
    rw [List.map_cons, List.map_cons, List.map_cons, ent_keys t, show k = Sum.inr m from e]
/-- a name that stands at i does not stand before i -/
theorem new_at {l : List Str} (nd : l.Nodup) {i : Nat} {n : Str} (h : l[i]? = some n) : n ∉ l.take i := by
  intro hm
  obtain ⟨j, hj⟩ := List.mem_iff_getElem?.mp hm
  have jl : j < i := by
    have := (List.getElem?_eq_some_iff.mp hj).1
    rw [List.length_take] at this
    omega
  rw [List.getElem?_take_of_lt jl] at hj
  obtain ⟨il, ei⟩ := List.getElem?_eq_some_iff.mp h
  obtain ⟨jl', ej⟩ := List.getElem?_eq_some_iff.mp hj
  exact List.pairwise_iff_getElem.mp nd j i jl' il jl (ej.trans ei.symm)
/-- what is asked of the class as it stands -/
structure RaceT (K : PySem.W.Frag) (C : Addr) : Prop where
  cl : Cls K C
  nL : NoAttr K C "_length"
  nT : NoAttr K C "_tracks"
/-! ### Race(length, runners) -/
structure Rn1 where
  n : Str
  q : Rat
  cs : List (Rat × Rat)
def Rn1.tr (L : Rat) (r : Rn1) : Str × List Row := (r.n, trk (rem r.q L) r.cs)
structure Rn1Ok (L : Rat) (r : Rn1) : Prop where
  nm : NameOk r.n
  sz : Sz 100 r.q
  pc : PcsOk (rem r.q L) r.cs
abbrev RnEnt (K : PySem.W.Frag) (H : Hp) (kv : Key × V) (r : Rn1) : Prop := kv.1 = Sum.inr r.n ∧ RunAt K H kv.2 r.q r.cs
section
variable {K : PySem.W.Frag} {H H' : Hp} {D : Addr}
/-- D holds no list either -/
structure OddL (H : Hp) (D : Addr) : Prop where
  o : Odd H D
  nl : ∀ ys, H D ≠ some (.lst ys)
theorem OddL.of {u : HO} (h : H D = some u) (h1 : ∀ ys, u ≠ .tup ys) (h2 : ∀ ob ys, u ≠ .frz ob (.tup ys)) (h3 : ∀ ys, u ≠ .lst ys) : OddL H D := ⟨.of h h1 h2, fun _ e => h3 _ (Option.some.inj (h.symm.trans e))⟩
theorem OddL.dk {kvs : List (Key × V)} (h : H D = some (.dK kvs)) : OddL H D := .of h (fun _ e => by cases e) (fun _ _ e => by cases e) (fun _ e => by cases e)
theorem OddL.fz {od : Obj} {kvs : List (Key × V)} (h : H D = some (.frz od (.dK kvs))) : OddL H D := .of h (fun _ e => by cases e) (fun _ _ e => by cases e) (fun _ e => by cases e)
theorem OddL.ins {C dx : Addr} {fs : List (Str × V)} (h : H D = some (.ins C dx fs)) : OddL H D := .of h (fun _ e => by cases e) (fun _ _ e => by cases e) (fun _ e => by cases e)
theorem OddL.piece {v : V} {c : Rat × Rat} (O : OddL H D) (b : But D H H') (h : PieceAt K H v c) : PieceAt K H' v c := let ⟨a, vt, vs, e, h1, h2, h3⟩ := h; ⟨a, vt, vs, e, O.o.sqt b h1, O.o.num b h2, O.o.num b h3⟩
theorem OddL.run {v : V} {q : Rat} {cs : List (Rat × Rat)} (O : OddL H D) (b : But D H H') (h : RunAt K H v q cs) : RunAt K H' v q cs := by
  obtain ⟨a, vs, vp, rfl, h1, h2, e, xs, rfl, h3, h4⟩ := h
  exact ⟨a, vs, _, rfl, O.o.sqt b h1, O.o.num b h2, e, xs, rfl, b _ _ (fun z => O.nl _ (z ▸ h3)) h3, h4.imp fun _ _ z => O.piece b z⟩
end
section
variable {P : Program} {w : World} {K : PySem.W.Frag} {mg : Str → Option Value} {base : Heap}
def spInit (K : PySem.W.Frag) (C : Addr) : Sp := fun vs H Q _ => ∃ (p dx d0 : Addr) (vl : V) (L : Rat) (kvs : List (Key × V)) (rs : List Rn1), vs = [.ref p, vl, .ref d0] ∧ H p = some (.ins C dx []) ∧ Num K H vl L ∧ 0 < L ∧ Sz 100 L ∧ H d0 = some (.dK kvs) ∧ All2 (RnEnt K H) kvs rs ∧ (∀ r ∈ rs, Rn1Ok L r) ∧ (rs.map (·.n)).Nodup ∧ 0 < rs.length ∧ rs.length ≤ 12 ∧
  ∀ tr H', tr.Perm (rs.map (Rn1.tr L)) → sortedS (tr.map (·.1)) = true → But p H H' → RaceAt K C H' (.ref p) L tr → Q .non H'
theorem ok_Init {f C fP fA fT CN : Addr} {fd dP dA dT : FuncData} {tm : Tok} (F : Fun K "__init__" "Race.__init__" sInit f fd) (T : RaceT K C) (DP : DefAt K mg "is_positive" s_is_positive ["value"] fP dP) (DA : DefAt K mg "as_ratio" s_as_ratio ["value"] fA dA) (DT : DefAt K mg "_track" s_track ["name", "runner", "length"] fT dT)
    (gm : mg "MOST_RUNNERS" = some (.int 12 tm)) (mi : mg "isinstance" = none) (md : mg "dict" = none) (ml : mg "len" = none) (ms : mg "sorted" = none)
    (GP : FnOk P w K mg base (CXl P w) 4 fP dP ["value"] (spPosi K)) (GA : FnOk P w K mg base (CXl P w) 3 fA dA ["value"] (spAR K CN)) (GT : FnOk P w K mg base (CXl P w) 5 fT dT ["name", "runner", "length"] (spTrk K)) :
    FnOk P w K mg base (CXl P w) 6 f fd ["self", "length", "runners"] (spInit K C) := by
  refine F.okX scInit (fun vs H Q E h => ?_) (fun cdv A outer s H vs Q E hr h => ?_)
  · obtain ⟨p, dx, d0, vl, L, kvs, rs, rfl, _⟩ := h
    rfl
  · obtain ⟨p, dx, d0, vl, L, kvs, rs, rfl, hp, hL, L0, zL, hd0, hE, ok, nd, le1, le2, q⟩ := h
    have nds := scInit.nd
    refine ⟨_, pss_cons (ps_if (pt_not (pt_val (pe_call GP (hr.mono (by decide)) (by rfl) DP.g DP.F.kp DP.b .nil passL (pa_cons (pv 1) pa_nil)))) (pss_one ps_dead) pss_nil)
      (pss_cons (ps_if (PW.pt (pw_or (pt_not (pt_val (pe_callB call_isi (by rfl) mi (by decide +kernel) (pa_cons (pv 2) (pa_cons (pe_bltn (v := .ty "dict") (by rfl) md (by decide +kernel) rfl) pa_nil))))) (pw_or1 (pt_not (pt_chain op_le op_le pe_int (pe_callB call_lenD (by rfl) ml PySem.boot_len (pa_cons (pv 2) pa_nil)) (pe_glob (v := .int 12) rfl gm ⟨_, rfl⟩)))))) (pss_one ps_dead) pss_nil)
      (pss_cons (ps_fld (pv 0) (pe_call GA (hr.mono (by decide)) (by rfl) DA.g DA.F.kp DA.b .nil passL (pa_cons (pv 1) pa_nil)) rfl)
      (pss_cons (ps_lock (ps_set (i := 3) nds rfl (.inr rfl) (pe_dc (own := [("name", 4), ("runner", 5)]) (g := gTup K 2 (gCons (gName 4) (gCons (gName 5) gNil))) (tt := tYes) (by rfl) nds (pi_items (pv 2)) (blkOk_by (N := ["self", "length", "runners", "tracks", "name", "runner"]) (sc := defScope sInit) (by decide +kernel)) (fun _ _ _ _ _ => by exact pg_tup rfl (pgs_cons (pg_name (i := 4) nds rfl (.inl rfl)) (pgs_cons (pg_name (i := 5) nds rfl (.inl rfl)) pgs_nil))) (fun _ _ _ _ _ => pts_nil) (fun _ _ _ _ _ => pv 4)
          (fun _ _ _ _ _ => pe_call GT hr (by rfl) DT.g DT.F.kp DT.b .nil passL (pa_cons (pv 4) (pa_cons (pv 5) (pa_cons (pv 1) pa_nil)))))))
      (pss_one (ps_fld (pv 0) (pe_dc (wi := iList K _) (own := [("name", 4)]) (g := gName 4) (tt := tYes) (by rfl) nds (pi_list (pe_callB (call_sortedD rfl) (by rfl) ms (by decide +kernel) (pa_cons (pv 3) pa_nil))) (blkOk_by (N := ["self", "length", "runners", "tracks", "name", "runner"]) (sc := defScope sInit) (by decide +kernel)) (fun _ _ _ _ _ => pg_name (i := 4) nds rfl (.inl rfl)) (fun _ _ _ _ _ => pts_nil) (fun _ _ _ _ _ => pv 4)
          (fun _ _ _ _ _ => pe_dget (hu_of hr) (pv 3) (pv 4) (fun _ _ => rfl))) rfl))))), ?_⟩
    have lenE := hE.len
    refine ⟨vl, rfl, vl, some L, rfl, hL, fun H1 s1 => ⟨_, rfl, ite2 (fun e => absurd e (by show ¬ (!decide (0 < L)) = true; rw [decide_eq_true L0]; decide)) (fun _ => ?_)⟩⟩
    have hd1 := s1 _ _ hd0
    refine ⟨.ref d0, rfl, _, _, _, _, _, rfl, .ty "dict", .base (.dK hd1), kd_dict (.dict hd1), _, rfl, iteF ?_⟩
    refine ⟨.ref d0, rfl, d0, kvs, rfl, hd1, _, _, rfl, rfl, _, rfl, ite2 (fun _ => ?_) (fun e => absurd (decide_eq_true (show (1 : Int) ≤ (kvs.length : Int) by omega)) e)⟩
    refine ⟨_, _, rfl, rfl, _, rfl, ite2 (fun e => absurd e ?_) (fun _ => ?_)⟩
    · rw [decide_eq_true (show (kvs.length : Int) ≤ 12 by omega)]
      decide
    -- self._length = as_ratio(length)
    refine ⟨vl, rfl, vl, some L, rfl, hL.same s1, fun v2 H2 s2 r2 => ?_⟩
    have s02 := s1.trans s2
    have hp2 := s02 _ _ hp
    have hE2 : All2 (RnEnt K H2) kvs rs := hE.imp fun _ _ z => ⟨z.1, z.2.same s02⟩
    have hL2 := hL.same s02
    have hd2 := s02 _ _ hd0
    refine ⟨.ref p, rfl, p, C, dx, [], rfl, hp2, T.cl, T.nL, by show 0 < 1000; decide, ?_⟩
    have npd0 : p ≠ d0 := fun e => by rw [e, hd2] at hp2; cases hp2
    have b23 : But p H2 (upd H2 p (.ins C dx (putF "_length" v2 []))) := but_new
    have hp3 : (upd H2 p (.ins C dx (putF "_length" v2 []))) p = some (.ins C dx (putF "_length" v2 [])) := upd_same
    show tNext _ _ (upd H2 p (.ins C dx (putF "_length" v2 [])))
    generalize (upd H2 p (.ins C dx (putF "_length" v2 []))) = H3 at b23 hp3 ⊢
    have O2 := OddL.ins hp2
    have hd3 := b23 _ _ npd0.symm hd2
    have r3 := O2.o.rn b23 r2
    have hL3 := O2.o.num b23 hL2
    have hE3 : All2 (RnEnt K H3) kvs rs := hE2.imp fun _ _ z => ⟨z.1, O2.run b23 z.2⟩
    -- tracks
    refine ⟨d0, .dK kvs, hd3, trivial, fun od => ?_⟩
    have O3 := OddL.dk hd3
    have b34 : But d0 H3 (upd H3 d0 (.frz od (.dK kvs))) := but_new
    have hd4 : (upd H3 d0 (.frz od (.dK kvs))) d0 = some (.frz od (.dK kvs)) := upd_same
    generalize (upd H3 d0 (.frz od (.dK kvs))) = H4 at b34 hd4 ⊢
    have hp4 := b34 _ _ npd0 hp3
    have r4 := O3.o.rn b34 r3
    have hL4 := O3.o.num b34 hL3
    have hE4 : All2 (RnEnt K H4) kvs rs := hE3.imp fun _ _ z => ⟨z.1, O3.run b34 z.2⟩
    refine ⟨.ref d0, rfl, d0, od, kvs, rfl, hd4, fun D nD => dc_it walk_items (fun i G => Same H4 G ∧ ∃ ks, G D = some (.dK ks) ∧ All2 (TrEnt K G) ks ((rs.take i).map (Rn1.tr L))) ⟨same_new nD, [], upd_same, .nil⟩ (fun i G _ hP => hP.1 _ _ hd4) (fun i x G G' hi hP hy => ?_) (fun G hP => ?_)⟩
    · obtain ⟨sm, ks, hG, hAll⟩ := hP
      obtain ⟨T0, x0, y0, rfl, nT, rfl, ex, ey⟩ := hy
      obtain ⟨⟨k, y⟩, hk, rfl⟩ := Option.map_eq_some_iff.mp ex
      have hy' : (Option.map Prod.snd kvs[i]?) = some y0 := ey
      rw [hk] at hy'
      have ey2 : y = y0 := Option.some.inj hy'
      subst ey2
      obtain ⟨r, hr', ⟨kn, ry⟩⟩ := hE4.get hk
      have kn : k = Sum.inr r.n := kn
      subst kn
      have okr := ok r (List.mem_of_getElem? hr')
      have hT : (upd G T0 (.tup [.str r.n, y])) T0 = some (.tup [.str r.n, y]) := upd_same
      have sT : Same G (upd G T0 (.tup [.str r.n, y])) := same_new nT
      show gTup _ _ _ _ _ (upd G T0 (.tup [.str r.n, y])) _
      generalize (upd G T0 (.tup [.str r.n, y])) = G1 at hT sT ⊢
      have sm1 := sm.trans sT
      refine ⟨T0, [.str r.n, y], rfl, .inl (.inl hT), rfl, _, _, rfl, _, _, rfl, rfl, rfl, ?_⟩
      refine ⟨_, rfl, _, rfl, _, rfl, vl, rfl, r.n, y, vl, r.q, L, r.cs, rfl, okr.nm, ry.same sm1, hL4.same sm1, L0, zL, okr.sz, okr.pc, fun t G2 s2' tt => ?_⟩
      have sG := sT.trans s2'
      have hG2 := sG _ _ hG
      have kl : ks.length < 1000 := by
        rw [hAll.len, List.length_map, List.length_take]
        omega
      have hnot : valV ks (Sum.inr r.n : Key) = none := ent_none hAll (by
        rw [List.map_map]
        have := new_at nd (i := i) (n := r.n) (by rw [List.getElem?_map, hr']; rfl)
        rw [← List.map_take] at this
        exact this)
      refine ⟨ks, Sum.inr r.n, rfl, hG2, Nat.lt_trans kl (small1000 (Nat.le_refl _)), same_but (sm.trans sG) nD, _, upd_same, ?_⟩
      rw [putK_new _ hnot, take_snoc hr', List.map_append]
      have OD := OddL.dk hG2
      exact (hAll.imp fun _ _ z => ⟨z.1, (z.2.same sG).but OD.o but_new⟩).snoc ⟨rfl, tt.but OD.o but_new⟩
    obtain ⟨s4G, ks, hGD, hAll⟩ := hP
    rw [List.take_of_length_le (by omega)] at hAll
    have hG0 := s4G _ _ hd4
    refine ⟨hG0, ?_⟩
    have ndD : D ≠ d0 := fun e => by rw [e, hd4] at nD; cases nD
    have npD : p ≠ D := fun e => by rw [← e, hp4] at nD; cases nD
    have bG5 : But d0 G (upd G d0 (.dK kvs)) := but_new
    have hd5 : (upd G d0 (.dK kvs)) d0 = some (.dK kvs) := upd_same
    show tNext _ _ (upd G d0 (.dK kvs))
    generalize (upd G d0 (.dK kvs)) = H5 at bG5 hd5 ⊢
    have OG := OddL.fz hG0
    have hp5 := bG5 _ _ npd0 (s4G _ _ hp4)
    have hD5 := bG5 _ _ ndD hGD
    have r5 := OG.o.rn bG5 (r4.same s4G)
    have hA5 : All2 (TrEnt K H5) ks (rs.map (Rn1.tr L)) := hAll.imp fun _ _ z => ⟨z.1, z.2.but OG.o bG5⟩
    have kl : ks.length ≤ 12 := by rw [hAll.len, List.length_map]; exact le2
    have nd2 : ((rs.map (Rn1.tr L)).map (·.1)).Nodup := by
      rw [List.map_map]
      exact nd
    -- self._tracks
    refine ⟨_, rfl, D, ks, (rs.map (Rn1.tr L)).map (·.1), rfl, .inl hD5, ent_keys hA5, by rw [List.length_map, List.length_map]; omega, fun ys l perm srt nl => ?_⟩
    obtain ⟨tr, etr, ptr⟩ := perm_map_inv perm
    have s56 : Same H5 (upd H5 l (.lst (ys.map V.str))) := same_new nl
    have hl6 : (upd H5 l (.lst (ys.map V.str))) l = some (.lst (ys.map V.str)) := upd_same
    generalize (upd H5 l (.lst (ys.map V.str))) = H6 at s56 hl6 ⊢
    have hD6 := s56 _ _ hD5
    have hA6 : All2 (TrEnt K H6) ks (rs.map (Rn1.tr L)) := hA5.imp fun _ _ z => ⟨z.1, z.2.same s56⟩
    have nd3 : (tr.map (·.1)).Nodup := (ptr.map (·.1)).nodup_iff.mpr nd2
    have trl : tr.length ≤ 12 := by rw [ptr.length_eq, List.length_map]; exact le2
    have ysl : (ys.map V.str).length = tr.length := by rw [etr, List.length_map, List.length_map]
    refine ⟨l, rfl, ⟨_, .of hl6⟩, fun D2 n2 => dc_it walk_list (fun i G => Same H6 G ∧ ∃ ks2, G D2 = some (.dK ks2) ∧ All2 (TrEnt K G) ks2 (tr.take i)) ⟨same_new n2, [], upd_same, .nil⟩ (fun i G _ hP => hP.1.seq (.of hl6)) (fun i x G G' hi hP hy => ?_) (fun G hP => ?_)⟩
    · obtain ⟨sm, ks2, hG, hAll⟩ := hP
      obtain ⟨rfl, hx⟩ := hy
      have it : i < tr.length := by rw [← ysl]; exact hi
      have ht : tr[i]? = some tr[i] := List.getElem?_eq_getElem it
      have ex : x = .str (tr[i]).1 := by
        have e : (ys.map V.str)[i]? = some (.str (tr[i]).1) := by rw [etr, List.getElem?_map, List.getElem?_map, ht]; rfl
        exact Option.some.inj (hx.symm.trans e)
      subst ex
      have mem : ((tr[i]).1, (tr[i]).2) ∈ rs.map (Rn1.tr L) := ptr.mem_iff.mp (List.getElem_mem it)
      obtain ⟨v, hv, tv⟩ := ent_val (hA6.imp fun _ _ z => (⟨z.1, z.2.same sm⟩ : TrEnt K G' _ _)) nd2 mem
      have hD' := sm _ _ hD6
      have kl2 : ks2.length < 1000 := by
        rw [hAll.len, List.length_take]
        omega
      have hnot : valV ks2 (Sum.inr (tr[i]).1 : Key) = none := ent_none hAll (by
        have := new_at nd3 (i := i) (n := (tr[i]).1) (by rw [List.getElem?_map, ht]; rfl)
        rw [← List.map_take] at this
        exact this)
      refine ⟨rfl, _, rfl, _, rfl, _, rfl, D, v, rfl, (by have h := DGet.k (k := Sum.inr (tr[i]).1) hD'; rw [hv] at h; exact h), ks2, Sum.inr (tr[i]).1, rfl, hG, Nat.lt_trans kl2 (small1000 (Nat.le_refl _)), same_but sm n2, _, upd_same, ?_⟩
      rw [putK_new _ hnot, take_snoc ht]
      have OD := OddL.dk hG
      exact (hAll.imp fun _ _ z => ⟨z.1, z.2.but OD.o but_new⟩).snoc ⟨rfl, tv.but OD.o but_new⟩
    obtain ⟨s67, ks2, hG2, hAll2⟩ := hP
    rw [List.take_of_length_le (by omega)] at hAll2
    have s57 := s56.trans s67
    have hp7 := s57 _ _ hp5
    refine ⟨.ref p, rfl, p, C, dx, _, rfl, hp7, T.cl, T.nT, by show 1 < 1000; decide, ?_⟩
    rw [rflds_eq]
    have b78 : But p G (upd G p (.ins C dx (rflds v2 (.ref D2)))) := but_new
    have hp8 : (upd G p (.ins C dx (rflds v2 (.ref D2)))) p = some (.ins C dx (rflds v2 (.ref D2))) := upd_same
    generalize (upd G p (.ins C dx (rflds v2 (.ref D2)))) = H8 at b78 hp8 ⊢
    have O7 := OddL.ins hp7
    have np2 : D2 ≠ p := fun e => by rw [e, s56 _ _ hp5] at n2; cases n2
    refine q tr H8 ptr (by rw [← etr]; exact srt) (fun b o hb e => ?_) ⟨p, dx, v2, .ref D2, rfl, hp8, O7.o.rn b78 (r5.same s57), D2, ks2, rfl, b78 _ _ np2 hG2, hAll2.imp fun _ _ z => ⟨z.1, z.2.but O7.o b78⟩⟩
    have e2 := s02 _ _ e
    refine b78 _ _ hb (s57 _ _ ?_)
    by_cases c : b = d0
    · subst c
      rw [hd0] at e
      rw [hd5]
      exact e
    · exact bG5 _ _ c (s4G _ _ (b34 _ _ c (b23 _ _ hb e2)))
end
end LR
set_option Elab.async false
set_option linter.all false
set_option maxRecDepth 100000
set_option maxHeartbeats 4000000
set_option exponentiation.threshold 100000
namespace LR
open PySem PySem.Spec PyProof.Rows L2
abbrev rCont : Stmt := inClass cRace 3
abbrev rLen : Stmt := inClass cRace 4
abbrev rNames : Stmt := inClass cRace 5
abbrev rTrack : Stmt := inClass cRace 6
abbrev rStart : Stmt := inClass cRace 8
abbrev rPieces : Stmt := inClass cRace 9
abbrev rPos : Stmt := inClass cRace 11
abbrev rPlace : Stmt := inClass cRace 12
abbrev rLaps : Stmt := inClass cRace 13
theorem sc_rCont : FnScope ["self", "name"] ["self", "name"] (defScope rCont) := ⟨rfl, rfl, rfl, by decide +kernel, rfl, by decide +kernel, by decide +kernel⟩
theorem sc_rLen : FnScope ["self"] ["self"] (defScope rLen) := ⟨rfl, rfl, rfl, by decide +kernel, rfl, by decide +kernel, by decide +kernel⟩
theorem sc_rNames : FnScope ["self"] ["self"] (defScope rNames) := ⟨rfl, rfl, rfl, by decide +kernel, rfl, by decide +kernel, by decide +kernel⟩
theorem sc_rTrack : FnScope ["self", "name"] ["self", "name"] (defScope rTrack) := ⟨rfl, rfl, rfl, by decide +kernel, rfl, by decide +kernel, by decide +kernel⟩
theorem sc_rStart : FnScope ["self", "name", "_", "base", "unit"] ["self", "name"] (defScope rStart) := ⟨rfl, rfl, rfl, by decide +kernel, rfl, by decide +kernel, by decide +kernel⟩
theorem sc_rPieces : FnScope ["self", "name", "row"] ["self", "name"] (defScope rPieces) := ⟨rfl, rfl, rfl, by decide +kernel, rfl, by decide +kernel, by decide +kernel⟩
theorem sc_rPos : FnScope ["self", "name", "time", "track", "moment", "top", "bottom"] ["self", "name", "time"] (defScope rPos) := ⟨rfl, rfl, rfl, by decide +kernel, rfl, by decide +kernel, by decide +kernel⟩
theorem sc_rPlace : FnScope ["self", "name", "time", "track", "moment"] ["self", "name", "time"] (defScope rPlace) := ⟨rfl, rfl, rfl, by decide +kernel, rfl, by decide +kernel, by decide +kernel⟩
theorem sc_rLaps : FnScope ["self", "name", "time", "track", "moment"] ["self", "name", "time"] (defScope rLaps) := ⟨rfl, rfl, rfl, by decide +kernel, rfl, by decide +kernel, by decide +kernel⟩
/-- a race with a runner of this name and these rows -/
structure Has (K : PySem.W.Frag) (C : Addr) (H : Hp) (v : V) (n : Str) (L : Rat) (r0 : Row) (rs : List Row) (tr : List (Str × List Row)) : Prop where
  at_ : RaceAt K C H v L tr
  nd : (tr.map (·.1)).Nodup
  mem : (n, r0 :: rs) ∈ tr
theorem Has.same {K : PySem.W.Frag} {C : Addr} {H H' : Hp} {v : V} {n : Str} {L : Rat} {r0 : Row} {rs : List Row} {tr : List (Str × List Row)} (s : Same H H') (h : Has K C H v n L r0 rs tr) : Has K C H' v n L r0 rs tr := ⟨h.at_.same s, h.nd, h.mem⟩
section
variable {P : Program} {w : World} {K : PySem.W.Frag} {mg : Str → Option Value} {base : Heap}
def spCont (K : PySem.W.Frag) (C : Addr) : Sp := fun vs H Q _ => ∃ (v : V) (n : Str) (L : Rat) (r0 : Row) (rs : List Row) (tr : List (Str × List Row)), vs = [v, .str n] ∧ Has K C H v n L r0 rs tr ∧ Q (.bl true) H
theorem ok_Cont {f C : Addr} {fd : FuncData} (F : Fun K "__contains__" "Race.__contains__" rCont f fd) (T : RaceT K C) (mi : mg "isinstance" = none) (ms : mg "str" = none) : FnOk P w K mg base (CXl P w) 1 f fd ["self", "name"] (spCont K C) := by
  refine F.okX sc_rCont (fun vs H Q E h => ?_) (fun cdv A outer s H vs Q E hr h => ?_)
  · obtain ⟨v, n, L, r0, rs, tr, rfl, _⟩ := h
    rfl
  · obtain ⟨v, n, L, r0, rs, tr, rfl, ⟨⟨p, dx, vL, vT, rfl, hp, hL, d, kvs, rfl, hd, hA⟩, nd, hm⟩, q⟩ := h
    refine ⟨_, pss_one (ps_ret (pe_and (pe_callB call_isi (by rfl) mi (by decide +kernel) (pa_cons (pv 1) (pa_cons (pe_bltn (v := .ty "str") (by rfl) ms (by decide +kernel) rfl) pa_nil))) (pe_one (pe_cmp (pc_din (hu_of hr) (pv 1) (pe_fld (pv 0) rfl)))))), ?_⟩
    have kz : Kd K H (.str n) "str" := .str n
    obtain ⟨v, hv, _⟩ := ent_val hA nd hm
    refine ⟨_, rfl, _, _, _, _, _, rfl, .ty "str", kz.ty, kd_str kz, _, rfl, iteT ?_⟩
    refine ⟨_, rfl, _, rfl, p, C, dx, _, _, rfl, hp, T.cl, T.nT, rl_tracks _ _, d, _, rfl, DGet.k (k := Sum.inr n) hd, ?_⟩
    rw [hv]
    exact q
/-! ### track(name), length, names() -/
def spTr (K : PySem.W.Frag) (C : Addr) : Sp := fun vs H Q _ => ∃ (v : V) (n : Str) (L : Rat) (r0 : Row) (rs : List Row) (tr : List (Str × List Row)), vs = [v, .str n] ∧ Has K C H v n L r0 rs tr ∧ ∀ y, TrackAt K H y (r0 :: rs) → Q y H
theorem ok_Tr {f fC C : Addr} {fd dC : FuncData} (F : Fun K "track" "Race.track" rTrack f fd) (T : RaceT K C) (hm : Meth K C "__contains__" fC) (hb : Binds K dC ["self", "name"] []) (GC : FnOk P w K mg base (CXl P w) 1 fC dC ["self", "name"] (spCont K C)) : FnOk P w K mg base (CXl P w) 2 f fd ["self", "name"] (spTr K C) := by
  refine F.okX sc_rTrack (fun vs H Q E h => ?_) (fun cdv A outer s H vs Q E hr h => ?_)
  · obtain ⟨v, n, L, r0, rs, tr, rfl, _⟩ := h
    rfl
  · obtain ⟨v, n, L, r0, rs, tr, rfl, hh, q⟩ := h
    refine ⟨_, pss_cons (ps_if (pt_cmpR (OI.op_notin_own hm GC hr hb passL) (pv 1) (pv 0) (by rfl)) (pss_one ps_dead) pss_nil) (pss_one (ps_ret (pe_dget (hu_of hr) (pe_fld (pv 0) rfl) (pv 1) (fun _ _ => rfl)))), ?_⟩
    obtain ⟨⟨p, dx, vL, vT, rfl, hp, hL, d, kvs, rfl, hd, hA⟩, nd, hmem⟩ := id hh
    obtain ⟨y, hv, ty⟩ := ent_val hA nd hmem
    refine ⟨_, rfl, _, rfl, p, dx, _, rfl, hp, .ref p, n, L, r0, rs, tr, rfl, hh, _, rfl, _, rfl, iteF ?_⟩
    exact ⟨_, rfl, p, C, dx, _, _, rfl, hp, T.cl, T.nT, rl_tracks _ _, _, rfl, d, y, rfl, (by have h := DGet.k (k := Sum.inr n) hd; rw [hv] at h; exact h), q y ty⟩
def spLn (K : PySem.W.Frag) (C : Addr) : Sp := fun vs H Q _ => ∃ (v : V) (L : Rat) (tr : List (Str × List Row)), vs = [v] ∧ RaceAt K C H v L tr ∧ ∀ y, Rn K H y L → Q y H
theorem ok_Ln {f C : Addr} {fd : FuncData} (F : Fun K "length" "Race.length" rLen f fd) (T : RaceT K C) : FnOk P w K mg base (CXl P w) 1 f fd ["self"] (spLn K C) := by
  refine F.okX sc_rLen (fun vs H Q E h => ?_) (fun cdv A outer s H vs Q E hr h => ?_)
  · obtain ⟨v, L, tr, rfl, _⟩ := h
    rfl
  · obtain ⟨v, L, tr, rfl, ⟨p, dx, vL, vT, rfl, hp, hL, _⟩, q⟩ := h
    exact ⟨_, pss_one (ps_ret (pe_fld (pv 0) rfl)), _, rfl, p, C, dx, _, _, rfl, hp, T.cl, T.nL, rl_length _ _, q _ hL⟩
def spNms (K : PySem.W.Frag) (C : Addr) : Sp := fun vs H Q _ => ∃ (v : V) (L : Rat) (tr : List (Str × List Row)), vs = [v] ∧ RaceAt K C H v L tr ∧ ∀ l H', Same H H' → H l = none → H' l = some (.lst ((tr.map (·.1)).map V.str)) → Q (.ref l) H'
theorem ok_Nms {f C : Addr} {fd : FuncData} (F : Fun K "names" "Race.names" rNames f fd) (T : RaceT K C) (ml : mg "list" = none) : FnOk P w K mg base (CXl P w) 1 f fd ["self"] (spNms K C) := by
  refine F.okX sc_rNames (fun vs H Q E h => ?_) (fun cdv A outer s H vs Q E hr h => ?_)
  · obtain ⟨v, L, tr, rfl, _⟩ := h
    rfl
  · obtain ⟨v, L, tr, rfl, ⟨p, dx, vL, vT, rfl, hp, hL, d, kvs, rfl, hd, hA⟩, q⟩ := h
    refine ⟨_, pss_one (ps_ret (pe_callTy (call_listD rfl) (by rfl) ml (by decide +kernel) (pa_cons (pe_fld (pv 0) rfl) pa_nil))), ?_⟩
    refine ⟨_, rfl, p, C, dx, _, _, rfl, hp, T.cl, T.nT, rl_tracks _ _, d, kvs, rfl, .inl hd, fun l nl => ?_⟩
    have e : (kvs.map fun kv => kV kv.1) = (tr.map (·.1)).map V.str := by
      have := congrArg (List.map kV) (ent_keys hA)
      rw [List.map_map, List.map_map] at this
      exact this
    show Q (.ref l) (upd H l (.lst (kvs.map fun kv => kV kv.1)))
    rw [e]
    exact q l _ (same_new nl) nl upd_same
/-! ### start, pieces -/
def spStart (K : PySem.W.Frag) (C : Addr) : Sp := fun vs H Q _ => ∃ (v : V) (n : Str) (L : Rat) (r0 : Row) (rs : List Row) (tr : List (Str × List Row)), vs = [v, .str n] ∧ Has K C H v n L r0 rs tr ∧ RowZ r0 ∧ ∀ y H', Same H H' → Rn K H' y r0.base → Q y H'
theorem ok_Start {f fT fR C : Addr} {fd dT dR : FuncData} (F : Fun K "start" "Race.start" rStart f fd) (T : RaceT K C) (hm : Meth K C "track" fT) (hb : Binds K dT ["self", "name"] []) (DR : DefAt K mg "reduced" s_reduced ["top", "bottom"] fR dR) (GT : FnOk P w K mg base (CXl P w) 2 fT dT ["self", "name"] (spTr K C)) (GR : FnOk P w K mg base (CXl P w) 1 fR dR ["top", "bottom"] (spRd K)) :
    FnOk P w K mg base (CXl P w) 3 f fd ["self", "name"] (spStart K C) := by
  refine F.okX sc_rStart (fun vs H Q E h => ?_) (fun cdv A outer s H vs Q E hr h => ?_)
  · obtain ⟨v, n, L, r0, rs, tr, rfl, _⟩ := h
    rfl
  · obtain ⟨v, n, L, r0, rs, tr, rfl, hh, rz, q⟩ := h
    have nd := sc_rStart.nd
    refine ⟨_, pss_cons (ps_asg (pe_ix (r := rIxT K) ix_tup (pe_meth (pv 0) T.cl hm GT hr hb .nil passL (pa_cons (pv 1) pa_nil)) pe_int (fun _ _ => rfl)) (pg_tup (by rfl) (pgs_cons (pg_name (i := 2) nd rfl (.inl rfl)) (pgs_cons (pg_name (i := 2) nd rfl (.inl rfl)) (pgs_cons (pg_name (i := 2) nd rfl (.inl rfl)) (pgs_cons (pg_name (i := 3) nd rfl (.inl rfl)) (pgs_cons (pg_name (i := 4) nd rfl (.inl rfl)) pgs_nil)))))))
      (pss_one (ps_ret (pe_call GR (hr.mono (by decide)) (by rfl) DR.g DR.F.kp DR.b .nil passL (pa_cons (pv 3) (pa_cons (pv 4) pa_nil))))), ?_⟩
    obtain ⟨⟨p, dx, vL, vT, rfl, hp, hx⟩, nd', hmem⟩ := id hh
    refine ⟨_, rfl, p, dx, _, rfl, hp, rl_no _ _ (by decide +kernel) (by decide +kernel), _, rfl, .ref p, n, L, r0, rs, tr, rfl, hh, fun y ty => ?_⟩
    obtain ⟨a, xs, rfl, ha, hA⟩ := ty
    obtain ⟨x0, xs', rfl⟩ : ∃ x0 xs', xs = x0 :: xs' := by
      cases hA with
      | cons _ _ => exact ⟨_, _, rfl⟩
    have h0 : RowAt K H x0 r0 := by
      cases hA with
      | cons h _ => exact h
    obtain ⟨b, vb, vs, R, B, U, rfl, hb', hvb, hvs, z⟩ := h0
    obtain ⟨z1, z2, z3⟩ := z.sizes rz
    refine ⟨a, _, 0, _, rfl, rfl, ha, atI_nat (j := 0) rfl, b, _, rfl, hb', rfl, _, _, rfl, _, _, rfl, _, _, rfl, _, _, rfl, _, _, rfl, rfl, ?_⟩
    refine ⟨_, rfl, _, rfl, B, U, rfl, z.u0, ⟨Nat.lt_of_lt_of_le z3 (Nat.pow_le_pow_right (by decide) (by decide)), Nat.lt_of_lt_of_le z1 (Nat.pow_le_pow_right (by decide) (by decide))⟩, fun y H' s' ry => ?_⟩
    rw [← uq_div z.u0 z.b] at ry
    exact q y H' s' ry
def spPieces (K : PySem.W.Frag) (C : Addr) : Sp := fun vs H Q _ => ∃ (v : V) (n : Str) (L : Rat) (r0 : Row) (rs : List Row) (tr : List (Str × List Row)), vs = [v, .str n] ∧ Has K C H v n L r0 rs tr ∧ rs.length < 60 ∧
  ∀ l xs H', Same H H' → H l = none → H' l = some (.lst xs) → All2 (PieceR K H') xs ((r0 :: rs).map fun r => (r.b, r.s)) → Q (.ref l) H'
theorem ok_Pieces {f fT C : Addr} {fd dT : FuncData} (F : Fun K "pieces" "Race.pieces" rPieces f fd) (T : RaceT K C) (hm : Meth K C "track" fT) (hb : Binds K dT ["self", "name"] []) (GT : FnOk P w K mg base (CXl P w) 2 fT dT ["self", "name"] (spTr K C)) :
    FnOk P w K mg base (CXl P w) 3 f fd ["self", "name"] (spPieces K C) := by
  refine F.okX sc_rPieces (fun vs H Q E h => ?_) (fun cdv A outer s H vs Q E hr h => ?_)
  · obtain ⟨v, n, L, r0, rs, tr, rfl, _⟩ := h
    rfl
  · obtain ⟨v, n, L, r0, rs, tr, rfl, hh, hl, q⟩ := h
    have nd := sc_rPieces.nd
    refine ⟨_, pss_one (ps_ret (pe_lc (wi := iTup K _) (own := [("row", 2)]) (g := gName 2) (tt := tYes) (by rfl) nd (pi_tup (pe_meth (pv 0) T.cl hm GT hr hb .nil passL (pa_cons (pv 1) pa_nil))) (blkOk_by (N := ["self", "name", "row"]) (sc := defScope rPieces) (by decide +kernel)) (fun _ _ _ _ _ => pg_name (i := 2) nd rfl (.inl rfl)) (fun _ _ _ _ _ => pts_nil)
      (fun _ _ _ _ _ => pe_tup (pa_cons (pe_ix (r := rIxT K) ix_tup (pv 2) pe_int (fun _ _ => rfl)) (pa_cons (pe_ix (r := rIxT K) ix_tup (pv 2) pe_int (fun _ _ => rfl)) pa_nil))))), ?_⟩
    obtain ⟨⟨p, dx, vL, vT, rfl, hp, hx⟩, nd', hmem⟩ := id hh
    refine ⟨_, rfl, p, dx, _, rfl, hp, rl_no _ _ (by decide +kernel) (by decide +kernel), _, rfl, .ref p, n, L, r0, rs, tr, rfl, hh, fun y ty => ?_⟩
    obtain ⟨a, xs, rfl, ha, hA⟩ := ty
    have lenA := hA.len
    have lenA : xs.length = rs.length + 1 := lenA
    refine ⟨a, rfl, ⟨_, ha⟩, fun D nD => lc_it walk_tup (fun i H' => Same H H' ∧ ∃ acc, H' D = some (.lst acc) ∧ acc.length = i ∧ All2 (PieceR K H') acc (((r0 :: rs).map fun r => (r.b, r.s)).take i)) ⟨same_new nD, [], upd_same, rfl, .nil⟩ (fun i H' _ hP => same_sqt hP.1 ha) (fun i x H' H'' hi hP hy => ?_) (fun H' hP => ?_)⟩
    · obtain ⟨sm, acc, hD, al, hAll⟩ := hP
      obtain ⟨rfl, hx'⟩ := hy
      obtain ⟨r, hr', hrow⟩ := hA.get hx'
      obtain ⟨b, vb, vs, R, B, U, rfl, hb', hvb, hvs, z⟩ := hrow.same sm
      refine ⟨rfl, _, rfl, b, _, 0, _, rfl, rfl, hb', atI_nat (j := 0) rfl, _, rfl, b, _, 1, _, rfl, rfl, hb', atI_nat (j := 1) rfl, by show 2 ≤ sizeLine; decide, fun t nt => ?_⟩
      have s5 : Same H'' (upd H'' t (.tup [vb, vs])) := same_new nt
      have ht5 : (upd H'' t (.tup [vb, vs])) t = some (.tup [vb, vs]) := upd_same
      show ∃ _, _
      generalize (upd H'' t (.tup [vb, vs])) = H5 at s5 ht5 ⊢
      have hD5 := s5 _ _ hD
      have hr2 : ((r0 :: rs).map fun r => (r.b, r.s))[i]? = some (r.b, r.s) := by rw [List.getElem?_map, hr']; rfl
      refine ⟨acc, hD5, Nat.lt_trans (show acc.length < 1000 by omega) (small1000 (Nat.le_refl _)), same_but (sm.trans s5) nD, _, upd_same, by rw [List.length_append, al]; rfl, ?_⟩
      rw [take_snoc hr2]
      exact (hAll.imp fun _ _ z => pieceR_upd hD5 (z.same s5)).snoc (pieceR_upd hD5 ⟨t, vb, vs, rfl, .inl (.inl ht5), hvb.same s5, hvs.same s5⟩)
    obtain ⟨sm, acc, hD, al, hAll⟩ := hP
    rw [List.take_of_length_le (by rw [List.length_map, List.length_cons]; omega)] at hAll
    exact q D acc H' sm nD hD hAll
/-! ### position, place, laps -/
structure AtTime (K : PySem.W.Frag) (C : Addr) (H : Hp) (v : V) (n : Str) (x : V) (L t : Rat) (r0 : Row) (rs : List Row) (tr : List (Str × List Row)) : Prop where
  has : Has K C H v n L r0 rs tr
  num : Num K H x t
  t0 : 0 ≤ t
  zt : Sz 300 t
  rz : ∀ r ∈ r0 :: rs, RowZ r
  L0 : 0 < L
  zL : Sz 100 L
theorem rowGo_mem2 (t : Rat) (r0 : Row) (rs : List Row) : rowGo t r0 (r0 :: rs) ∈ r0 :: rs := by
  rcases rowGo_mem t r0 (r0 :: rs) with h | h
  · rw [h]
    exact List.mem_cons_self
  · exact h
def spPos (K : PySem.W.Frag) (C : Addr) : Sp := fun vs H Q _ => ∃ (v x : V) (n : Str) (L t : Rat) (r0 : Row) (rs : List Row) (tr : List (Str × List Row)), vs = [v, .str n, x] ∧ AtTime K C H v n x L t r0 rs tr ∧ ∀ y H', Same H H' → Rn K H' y ((rowGo t r0 (r0 :: rs)).at_ t) → Q y H'
theorem ok_Pos {f fT fM fA fP fR C CT : Addr} {fd dT dM dA dP dR : FuncData} (F : Fun K "position" "Race.position" rPos f fd) (T : RaceT K C) (hm : Meth K C "track" fT) (hb : Binds K dT ["self", "name"] []) (DM : DefAt K mg "as_time" s_as_time ["value"] fM dM) (DA : DefAt K mg "row_at" s_row_at ["track", "time"] fA dA) (DP : DefAt K mg "position_in" s_position_in ["row", "time"] fP dP) (DR : DefAt K mg "reduced" s_reduced ["top", "bottom"] fR dR)
    (GT : FnOk P w K mg base (CXl P w) 2 fT dT ["self", "name"] (spTr K C)) (GM : FnOk P w K mg base (CXl P w) 4 fM dM ["value"] (spTime K CT)) (GA : FnOk P w K mg base (CXl P w) 1 fA dA ["track", "time"] (spRA K)) (GP : FnOk P w K mg base (CXl P w) 1 fP dP ["row", "time"] (spPin K)) (GR : FnOk P w K mg base (CXl P w) 1 fR dR ["top", "bottom"] (spRd K)) :
    FnOk P w K mg base (CXl P w) 5 f fd ["self", "name", "time"] (spPos K C) := by
  refine F.okX sc_rPos (fun vs H Q E h => ?_) (fun cdv A outer s H vs Q E hr h => ?_)
  · obtain ⟨v, x, n, L, t, r0, rs, tr, rfl, _⟩ := h
    rfl
  · obtain ⟨v, x, n, L, t, r0, rs, tr, rfl, ⟨hh, hx, t0, zt, rz, L0, zL⟩, q⟩ := h
    have nd := sc_rPos.nd
    have h1 : Room 1 _ := hr.mono (by decide)
    refine ⟨_, pss_cons (ps_par (i := 3) (j := 4) rfl nd rfl rfl (by decide) rfl rfl (pa_cons (pe_meth (pv 0) T.cl hm GT (hr.mono (by decide)) hb .nil passL (pa_cons (pv 1) pa_nil)) (pa_cons (pe_call GM hr (by rfl) DM.g DM.F.kp DM.b .nil passL (pa_cons (pv 2) pa_nil)) pa_nil)) (by rfl))
      (pss_cons (ps_asg (pe_call GP h1 (by rfl) DP.g DP.F.kp DP.b .nil passL (pa_cons (pe_call GA h1 (by rfl) DA.g DA.F.kp DA.b .nil passL (pa_cons (pv 3) (pa_cons (pv 4) pa_nil))) (pa_cons (pv 4) pa_nil))) (pg_tup (by rfl) (pgs_cons (pg_name (i := 5) nd rfl (.inl rfl)) (pgs_cons (pg_name (i := 6) nd rfl (.inl rfl)) pgs_nil))))
      (pss_one (ps_ret (pe_call GR h1 (by rfl) DR.g DR.F.kp DR.b .nil passL (pa_cons (pv 5) (pa_cons (pv 6) pa_nil)))))), ?_⟩
    obtain ⟨⟨p, dx, vL, vT, rfl, hp, hxx⟩, nd', hmem⟩ := id hh
    refine ⟨_, rfl, p, dx, _, rfl, hp, rl_no _ _ (by decide +kernel) (by decide +kernel), _, rfl, .ref p, n, L, r0, rs, tr, rfl, hh, fun y ty => ?_⟩
    refine ⟨x, rfl, x, some t, rfl, hx, fun z => absurd t0 (Rat.not_le.mpr z), fun _ m H1 s1 rm => ⟨_, _, rfl, ?_⟩⟩
    have gz := rz _ (rowGo_mem2 t r0 rs)
    refine ⟨_, rfl, _, rfl, y, m, r0, rs, t, rfl, ty.same s1, rm, fun r hr => (rz r hr).b, zt, fun g hg => ?_⟩
    refine ⟨_, rfl, g, m, _, t, rfl, hg, rm, gz, zt, fun N u a H2 s2 u0 eN zN zu ha => ?_⟩
    refine ⟨a, _, rfl, ha, rfl, _, _, rfl, _, _, rfl, rfl, ?_⟩
    refine ⟨_, rfl, _, rfl, N, u, rfl, u0, ⟨Nat.lt_of_lt_of_le zN (Nat.pow_le_pow_right (by decide) (by decide)), Nat.lt_of_lt_of_le zu (Nat.pow_le_pow_right (by decide) (by decide))⟩, fun z H3 s3 rz' => ?_⟩
    rw [← uq_div u0 eN] at rz'
    exact q z H3 ((s1.trans s2).trans s3) rz'
def spPlace (K : PySem.W.Frag) (C : Addr) : Sp := fun vs H Q _ => ∃ (v x : V) (n : Str) (L t : Rat) (r0 : Row) (rs : List Row) (tr : List (Str × List Row)), vs = [v, .str n, x] ∧ AtTime K C H v n x L t r0 rs tr ∧ ∀ y H', Same H H' → Rn K H' y (rem ((rowGo t r0 (r0 :: rs)).at_ t) L) → Q y H'
def spLaps (K : PySem.W.Frag) (C : Addr) : Sp := fun vs H Q _ => ∃ (v x : V) (n : Str) (L t : Rat) (r0 : Row) (rs : List Row) (tr : List (Str × List Row)), vs = [v, .str n, x] ∧ AtTime K C H v n x L t r0 rs tr ∧ ∀ H', Same H H' → Q (.int ((rowGo t r0 (r0 :: rs)).at_ t / L).floor) H'
theorem ok_Place {f fT fM fA fP C CT : Addr} {fd dT dM dA dP : FuncData} (F : Fun K "place" "Race.place" rPlace f fd) (T : RaceT K C) (hm : Meth K C "track" fT) (hb : Binds K dT ["self", "name"] []) (DM : DefAt K mg "as_time" s_as_time ["value"] fM dM) (DA : DefAt K mg "row_at" s_row_at ["track", "time"] fA dA) (DP : DefAt K mg "place_in" s_place_in ["row", "time", "length"] fP dP)
    (GT : FnOk P w K mg base (CXl P w) 2 fT dT ["self", "name"] (spTr K C)) (GM : FnOk P w K mg base (CXl P w) 4 fM dM ["value"] (spTime K CT)) (GA : FnOk P w K mg base (CXl P w) 1 fA dA ["track", "time"] (spRA K)) (GP : FnOk P w K mg base (CXl P w) 2 fP dP ["row", "time", "length"] (spPlc K)) :
    FnOk P w K mg base (CXl P w) 5 f fd ["self", "name", "time"] (spPlace K C) := by
  refine F.okX sc_rPlace (fun vs H Q E h => ?_) (fun cdv A outer s H vs Q E hr h => ?_)
  · obtain ⟨v, x, n, L, t, r0, rs, tr, rfl, _⟩ := h
    rfl
  · obtain ⟨v, x, n, L, t, r0, rs, tr, rfl, ⟨hh, hx, t0, zt, rz, L0, zL⟩, q⟩ := h
    have nd := sc_rPlace.nd
    have h1 : Room 1 _ := hr.mono (by decide)
    have h2 : Room 2 _ := hr.mono (by decide)
    refine ⟨_, pss_cons (ps_par (i := 3) (j := 4) rfl nd rfl rfl (by decide) rfl rfl (pa_cons (pe_meth (pv 0) T.cl hm GT (hr.mono (by decide)) hb .nil passL (pa_cons (pv 1) pa_nil)) (pa_cons (pe_call GM hr (by rfl) DM.g DM.F.kp DM.b .nil passL (pa_cons (pv 2) pa_nil)) pa_nil)) (by rfl))
      (pss_one (ps_ret (pe_call GP h2 (by rfl) DP.g DP.F.kp DP.b .nil passL (pa_cons (pe_call GA h1 (by rfl) DA.g DA.F.kp DA.b .nil passL (pa_cons (pv 3) (pa_cons (pv 4) pa_nil))) (pa_cons (pv 4) (pa_cons (pe_fld (pv 0) rfl) pa_nil)))))), ?_⟩
    obtain ⟨⟨p, dx, vL, vT, rfl, hp, hLL, hxx⟩, nd', hmem⟩ := id hh
    refine ⟨_, rfl, p, dx, _, rfl, hp, rl_no _ _ (by decide +kernel) (by decide +kernel), _, rfl, .ref p, n, L, r0, rs, tr, rfl, hh, fun y ty => ?_⟩
    refine ⟨x, rfl, x, some t, rfl, hx, fun z => absurd t0 (Rat.not_le.mpr z), fun _ m H1 s1 rm => ⟨_, _, rfl, ?_⟩⟩
    have gz := rz _ (rowGo_mem2 t r0 rs)
    refine ⟨_, rfl, _, rfl, y, m, r0, rs, t, rfl, ty.same s1, rm, fun r hr => (rz r hr).b, zt, fun g hg => ?_⟩
    exact ⟨_, rfl, _, rfl, p, C, dx, _, _, rfl, s1 _ _ hp, T.cl, T.nL, rl_length _ _, g, m, vL, _, t, L, rfl, hg, rm, hLL.same s1, gz, zt, L0, zL, fun z H2 s2 k => q z H2 (s1.trans s2) k⟩
theorem ok_Laps {f fT fM fA fP C CT : Addr} {fd dT dM dA dP : FuncData} (F : Fun K "laps" "Race.laps" rLaps f fd) (T : RaceT K C) (hm : Meth K C "track" fT) (hb : Binds K dT ["self", "name"] []) (DM : DefAt K mg "as_time" s_as_time ["value"] fM dM) (DA : DefAt K mg "row_at" s_row_at ["track", "time"] fA dA) (DP : DefAt K mg "laps_in" s_laps_in ["row", "time", "length"] fP dP)
    (GT : FnOk P w K mg base (CXl P w) 2 fT dT ["self", "name"] (spTr K C)) (GM : FnOk P w K mg base (CXl P w) 4 fM dM ["value"] (spTime K CT)) (GA : FnOk P w K mg base (CXl P w) 1 fA dA ["track", "time"] (spRA K)) (GP : FnOk P w K mg base (CXl P w) 2 fP dP ["row", "time", "length"] (spLps K)) :
    FnOk P w K mg base (CXl P w) 5 f fd ["self", "name", "time"] (spLaps K C) := by
  refine F.okX sc_rLaps (fun vs H Q E h => ?_) (fun cdv A outer s H vs Q E hr h => ?_)
  · obtain ⟨v, x, n, L, t, r0, rs, tr, rfl, _⟩ := h
    rfl
  · obtain ⟨v, x, n, L, t, r0, rs, tr, rfl, ⟨hh, hx, t0, zt, rz, L0, zL⟩, q⟩ := h
    have nd := sc_rLaps.nd
    have h1 : Room 1 _ := hr.mono (by decide)
    have h2 : Room 2 _ := hr.mono (by decide)
    refine ⟨_, pss_cons (ps_par (i := 3) (j := 4) rfl nd rfl rfl (by decide) rfl rfl (pa_cons (pe_meth (pv 0) T.cl hm GT (hr.mono (by decide)) hb .nil passL (pa_cons (pv 1) pa_nil)) (pa_cons (pe_call GM hr (by rfl) DM.g DM.F.kp DM.b .nil passL (pa_cons (pv 2) pa_nil)) pa_nil)) (by rfl))
      (pss_one (ps_ret (pe_call GP h2 (by rfl) DP.g DP.F.kp DP.b .nil passL (pa_cons (pe_call GA h1 (by rfl) DA.g DA.F.kp DA.b .nil passL (pa_cons (pv 3) (pa_cons (pv 4) pa_nil))) (pa_cons (pv 4) (pa_cons (pe_fld (pv 0) rfl) pa_nil)))))), ?_⟩
    obtain ⟨⟨p, dx, vL, vT, rfl, hp, hLL, hxx⟩, nd', hmem⟩ := id hh
    refine ⟨_, rfl, p, dx, _, rfl, hp, rl_no _ _ (by decide +kernel) (by decide +kernel), _, rfl, .ref p, n, L, r0, rs, tr, rfl, hh, fun y ty => ?_⟩
    refine ⟨x, rfl, x, some t, rfl, hx, fun z => absurd t0 (Rat.not_le.mpr z), fun _ m H1 s1 rm => ⟨_, _, rfl, ?_⟩⟩
    have gz := rz _ (rowGo_mem2 t r0 rs)
    refine ⟨_, rfl, _, rfl, y, m, r0, rs, t, rfl, ty.same s1, rm, fun r hr => (rz r hr).b, zt, fun g hg => ?_⟩
    exact ⟨_, rfl, _, rfl, p, C, dx, _, _, rfl, s1 _ _ hp, T.cl, T.nL, rl_length _ _, g, m, vL, _, t, L, rfl, hg, rm, hLL.same s1, gz, zt, L0, zL, fun H2 s2 => q H2 (s1.trans s2)⟩
end
end LR
set_option Elab.async false
set_option linter.all false
set_option maxRecDepth 100000
set_option maxHeartbeats 4000000
set_option exponentiation.threshold 100000
namespace LR
open PySem PySem.Spec PyProof.Rows L2
/-- a dict comprehension over a list that stays -/
theorem dcL {K : PySem.W.Frag} {a : Addr} {xs : List V} {g : TG} {tt : TT} {tk tv : TE} {vs : List Nat} {σ : L2.St} {H1 : Hp} {D : Addr} {Qd : Hp → Prop} (Pv : Nat → Hp → Prop) (h0 : Pv 0 (upd H1 D (.dK []))) (hl : ∀ i H, i ≤ xs.length → Pv i H → SqL K H a xs)
    (hs : ∀ i x H, xs[i]? = some x → Pv i H → g x (wipe σ vs) H fun σ2 H2 => wipe σ2 vs = wipe σ vs ∧ tt σ2 H2 fun b H3 =>
      if b = true then tk σ2 H3 fun y H4 => tv σ2 H4 fun z H5 => ∃ kvs k, y = kV k ∧ H5 D = some (.dK kvs) ∧ kvs.length < sizeLine ∧ Pv (i + 1) (upd H5 D (.dK (putK kvs k z))) else Pv (i + 1) H3) (hd : ∀ H, Pv xs.length H → Qd H) :
    ∃ W : Nat → Nat → Hp → Prop, (∃ m, W 0 m (upd H1 D (.dK []))) ∧ ∀ i m H, W i m H →
      ((Itl K a).stop i H ∧ Qd H) ∨ ((Itl K a).go i H ∧ ∃ Nx : Hp → Prop, (∀ H', Nx H' → ∃ m', m' < m ∧ W (i + 1) m' H') ∧ ∀ x H', (Itl K a).yld i H x H' → g x (wipe σ vs) H' fun σ2 H2 => wipe σ2 vs = wipe σ vs ∧ tt σ2 H2 fun b H3 =>
        if b = true then tk σ2 H3 fun y H4 => tv σ2 H4 fun z H5 => ∃ kvs k, y = kV k ∧ H5 D = some (.dK kvs) ∧ kvs.length < sizeLine ∧ Nx (upd H5 D (.dK (putK kvs k z))) else Nx H3) := by
  refine ⟨fun i m H => m = xs.length - i ∧ i ≤ xs.length ∧ Pv i H, ⟨xs.length, by simp, Nat.zero_le _, h0⟩, ?_⟩
  rintro i m H ⟨rfl, hi, p⟩
  have q := hl i H hi p
  by_cases lt : i < xs.length
  · refine .inr ⟨⟨xs, xs[i], q, by simp [lt]⟩, Pv (i + 1), fun H' p' => ⟨xs.length - (i + 1), by omega, rfl, lt, p'⟩, fun x H' y => ?_⟩
    obtain ⟨e, y⟩ := y
    subst e
    exact hs i x _ (y xs q) p
  · have e : i = xs.length := by omega
    subst e
    exact .inl ⟨⟨xs, q, Nat.le_refl _⟩, hd H p⟩
theorem sc_ranked7 : FnScope ["rows", "bits", "ranked", "_", "bottom", "row", "part"] ["rows"] (defScope s_ranked) := ⟨rfl, rfl, rfl, by decide +kernel, rfl, by decide +kernel, by decide +kernel⟩
/-- an entry: the rank of a number, and the number -/
def RkEnt (K : PySem.W.Frag) (M : Nat) (H : Hp) (kv : Key × V) (p : Rat) : Prop := kv.1 = Sum.inl (rank M p) ∧ Rn K H kv.2 p ∧ p.den < 2 ^ M
section
variable {K : PySem.W.Frag} {M : Nat} {H : Hp}
theorem rk_none {q : Rat} (hq : q.den < 2 ^ M) : ∀ {ks : List (Key × V)} {ps : List Rat}, All2 (RkEnt K M H) ks ps → q ∉ ps → valV ks (Sum.inl (rank M q) : Key) = none
  | _, _, .nil, _ => rfl
  | (k, v) :: ks, p :: ps, .cons ⟨e, _, d⟩ t, h => by
    have ne : ¬ k = (Sum.inl (rank M q) : Key) := fun z => by
      have e3 : (Sum.inl (rank M p) : Key) = Sum.inl (rank M q) := e.symm.trans z
      exact h (by rw [rank_inj hq d (Sum.inl.inj e3).symm]; exact List.mem_cons_self)
    rw [valV_neg ne]
    exact rk_none hq t fun z => h (List.mem_cons_of_mem _ z)
theorem rk_val {q : Rat} (hq : q.den < 2 ^ M) : ∀ {ks : List (Key × V)} {ps : List Rat}, All2 (RkEnt K M H) ks ps → q ∈ ps → ∃ v, valV ks (Sum.inl (rank M q) : Key) = some v ∧ Rn K H v q
  | _, _, .nil, h => by cases h
  | (k, v) :: ks, p :: ps, .cons ⟨e, r, d⟩ t, h => by
    have e : k = Sum.inl (rank M p) := e
    by_cases z : k = (Sum.inl (rank M q) : Key)
    · have e3 : (Sum.inl (rank M p) : Key) = Sum.inl (rank M q) := e.symm.trans z
      have e4 := rank_inj d hq (Sum.inl.inj e3)
      exact ⟨v, valV_pos z, e4 ▸ r⟩
    · rcases List.mem_cons.mp h with e2 | h
      · exact absurd (by rw [e, e2]) z
      · obtain ⟨v', h1, h2⟩ := rk_val hq t h
        exact ⟨v', by rw [valV_neg z]; exact h1, h2⟩
theorem rk_old {q : Rat} {v : V} (hq : q.den < 2 ^ M) (hv : Rn K H v q) {ks : List (Key × V)} {ps : List Rat} (hA : All2 (RkEnt K M H) ks ps) (h : q ∈ ps) : All2 (RkEnt K M H) (putK ks (Sum.inl (rank M q) : Key) v) ps := by
  obtain ⟨v0, h1, _⟩ := rk_val hq hA h
  unfold putK
  rw [valV_any, h1]
  rw [if_pos (show (some v0).isSome = true from rfl)]
  refine All2.map_left (hA.imp fun kv p r => ?_)
  by_cases z : kv.1 = (Sum.inl (rank M q) : Key)
  · rw [if_pos z]
    have e3 : (Sum.inl (rank M p) : Key) = Sum.inl (rank M q) := r.1.symm.trans z
    have e4 := rank_inj r.2.2 hq (Sum.inl.inj e3)
    exact ⟨r.1, e4 ▸ hv, r.2.2⟩
  · rw [if_neg z]
    exact r
theorem rk_keys : ∀ {ks : List (Key × V)} {ps : List Rat}, All2 (RkEnt K M H) ks ps → ks.map (·.1) = (ps.map (rank M)).map Sum.inl
  | _, _, .nil => rfl
  | (k, v) :: ks, p :: ps, .cons ⟨e, _⟩ t => by
    rw [List.map_cons, List.map_cons, List.map_cons, rk_keys t, show k = Sum.inl (rank M p) from e]
end
theorem rank_order {M : Nat} {rs : List Rat} (hd : ∀ r ∈ rs, r.den < 2 ^ M) (nd : rs.Nodup) (h : (rs.map (rank M)).Pairwise (· ≤ ·)) : rs.Pairwise (· < ·) := by
  rw [List.pairwise_iff_getElem]
  intro i j hi hj ij
  have h1 := List.pairwise_iff_getElem.mp h i j (by rw [List.length_map]; exact hi) (by rw [List.length_map]; exact hj) ij
  rw [List.getElem_map, List.getElem_map] at h1
  have h2 := rank_le (hd _ (List.getElem_mem hi)) (hd _ (List.getElem_mem hj)) h1
  have h3 := List.pairwise_iff_getElem.mp nd i j hi hj ij
  exact Rat.lt_of_le_of_ne h2 h3
section
variable {P : Program} {w : World} {K : PySem.W.Frag} {mg : Str → Option Value} {base : Heap}
def spRk (K : PySem.W.Frag) : Sp := fun vs H Q _ => ∃ (a : Addr) (xs : List V) (qs : List Rat), vs = [.ref a] ∧ SqL K H a xs ∧ All2 (Rn K H) xs qs ∧ 0 < qs.length ∧ qs.length < 63 ∧ (∀ q ∈ qs, Sz 3900 q) ∧ ∀ rs v H', InOrder qs rs → Same H H' → RnL K H' v rs → Q v H'
theorem ok_Rk {f : Addr} {fd : FuncData} (D : DefAt K mg "_ranked" s_ranked ["rows"] f fd) (mm : mg "max" = none) (ms : mg "sorted" = none) : FnOk P w K mg base (CXl P w) 1 f fd ["rows"] (spRk K) := by
  refine D.F.okX sc_ranked7 (fun vs H Q E h => ?_) (fun cdv A outer s H vs Q E hr h => ?_)
  · obtain ⟨a, xs, qs, rfl, _⟩ := h
    rfl
  · obtain ⟨a, xs, qs, rfl, hS, hA, l0, l63, hz, q⟩ := h
    have nd := sc_ranked7.nd
    refine ⟨_, pss_cons (ps_set (i := 1) nd rfl (.inr rfl) (pe_op op_mul pe_int (pe_bits (pe_callB (cr_max rfl) (by rfl) mm (by decide +kernel) (pa_cons (pe_lc (wi := iList K (tVar 0)) (own := [("_", 3), ("bottom", 4)]) (g := gTup K 2 (gCons (gName 3) (gCons (gName 4) gNil))) (tt := tYes) (by rfl) nd (pi_list (pv 0)) (blkOk_by (N := ["rows", "bits", "ranked", "_", "bottom", "row", "part"]) (sc := defScope s_ranked) (by decide +kernel)) (fun _ _ _ _ _ => by exact pg_tup rfl (pgs_cons (pg_name (i := 3) nd rfl (.inl rfl)) (pgs_cons (pg_name (i := 4) nd rfl (.inl rfl)) pgs_nil))) (fun _ _ _ _ _ => pts_nil) (fun _ _ _ _ _ => pv 4)) pa_nil)))))
      (pss_cons (ps_set (i := 2) nd rfl (.inr rfl) (pe_dc (wi := iList K (tVar 0)) (own := [("row", 5)]) (g := gName 5) (tt := tYes) (by rfl) nd (pi_list (pv 0)) (blkOk_by (N := ["rows", "bits", "ranked", "_", "bottom", "row", "part"]) (sc := defScope s_ranked) (by decide +kernel)) (fun _ _ _ _ _ => pg_name (i := 5) nd rfl (.inl rfl)) (fun _ _ _ _ _ => pts_nil)
          (fun _ _ _ _ _ => pe_op op_fdivA (pe_op op_shlN (pe_ix (r := rIxT K) ix_tup (pv 5) pe_int (fun _ _ => rfl)) (pv 1)) (pe_ix (r := rIxT K) ix_tup (pv 5) pe_int (fun _ _ => rfl))) (fun _ _ _ _ _ => pv 5)))
      (pss_one (ps_ret (pe_lc (wi := iList K _) (own := [("part", 6)]) (g := gName 6) (tt := tYes) (by rfl) nd (pi_list (pe_callB (call_sortedDI rfl) (by rfl) ms (by decide +kernel) (pa_cons (pv 2) pa_nil))) (blkOk_by (N := ["rows", "bits", "ranked", "_", "bottom", "row", "part"]) (sc := defScope s_ranked) (by decide +kernel)) (fun _ _ _ _ _ => pg_name (i := 6) nd rfl (.inl rfl)) (fun _ _ _ _ _ => pts_nil)
          (fun _ _ _ _ _ => pe_dget (hu_of hr) (pv 2) (pv 6) (fun _ _ => rfl)))))), ?_⟩
    have len := hA.len
    have big : ∀ {n : Nat}, n ≤ 100 → n < sizeLine := fun h => Nat.lt_trans (show _ < 1000 by omega) (small1000 (Nat.le_refl _))
    -- bits
    refine ⟨.ref a, rfl, a, rfl, ⟨_, hS⟩, fun D1 n1 => lc_list (xs := xs) (fun i H' => Same H H' ∧ H' D1 = some (.lst ((qs.take i).map fun q => V.int (q.den : Int)))) ⟨same_new n1, upd_same⟩ (fun i H' _ hP => hP.1.seq hS) (fun i x H' hx hP => ?_) (fun H1 hP => ?_)⟩
    · obtain ⟨sm, hD⟩ := hP
      obtain ⟨p, hp, rp⟩ := hA.get hx
      obtain ⟨b, rfl, hb⟩ := rp.same sm
      refine ⟨b, _, rfl, hb, rfl, _, _, rfl, _, _, rfl, rfl, rfl, _, rfl, _, hD, big (by rw [List.length_map, List.length_take]; omega), same_but sm n1, ?_⟩
      rw [upd_same, take_snoc hp, List.map_append]
      rfl
    obtain ⟨s1, hD1⟩ := hP
    rw [List.take_of_length_le (by omega)] at hD1
    have eD : (qs.map fun q => V.int (q.den : Int)) = (qs.map fun q : Rat => ((q.den : Nat) : Int)).map V.int := by rw [List.map_map]; rfl
    refine ⟨D1, qs.map fun q : Rat => ((q.den : Nat) : Int), rfl, .of (by rw [hD1, eD]), by rw [List.length_map]; exact l0, fun m0 hm hmax => ⟨m0, rfl, ?_⟩⟩
    obtain ⟨qm, hqm, em⟩ := List.mem_map.mp hm
    obtain ⟨M, eM⟩ : ∃ M, M = Builtin.Int.intBits m0 := ⟨_, rfl⟩
    have dM : ∀ q ∈ qs, q.den < 2 ^ M := fun p hp => by
      have h1 := hmax _ (List.mem_map.mpr ⟨p, hp, rfl⟩)
      have d := den_pos qm
      have e : Builtin.Int.intBits m0 = m0.natAbs.log2 + 1 := by
        unfold Builtin.Int.intBits
        rw [if_neg (by rw [← em]; simp; omega)]
      rw [eM, e]
      have h2 : p.den ≤ m0.natAbs := by omega
      exact Nat.lt_of_le_of_lt h2 Nat.lt_log2_self
    have hMb : M ≤ 3901 := by
      have hb := (hz qm hqm).2
      have := PyProof.Rows.intBits_le (a := m0) (k := 3900) (by rw [← em, Int.natAbs_natCast]; exact hb)
      omega
    rw [← eM]
    refine ⟨2, (M : Int), rfl, rfl, .inl ⟨by decide, by decide⟩, ?_⟩
    -- ranked
    have iS1 := s1.seq hS
    have hA1 : All2 (Rn K H1) xs qs := hA.imp fun _ _ z => z.same s1
    refine ⟨.ref a, rfl, a, rfl, ⟨_, iS1⟩, fun D2 n2 => dcL (xs := xs) (fun i G => Same H1 G ∧ ∃ ks ps, G D2 = some (.dK ks) ∧ All2 (RkEnt K M G) ks ps ∧ ps.Nodup ∧ (∀ p ∈ ps, p ∈ qs) ∧ (∀ q ∈ qs.take i, q ∈ ps) ∧ ps.length ≤ i) ⟨same_new n2, [], [], upd_same, .nil, .nil, (fun _ h => by cases h), (fun _ h => by simp at h), Nat.le_refl _⟩ (fun i G _ hP => hP.1.seq iS1) (fun i x G hx hP => ?_) (fun H2 hP => ?_)⟩
    · obtain ⟨sm, ks, ps, hG, hAll, pn, pq, qp, pl⟩ := hP
      obtain ⟨p, hp, rp⟩ := hA1.get hx
      have il : i < qs.length := (List.getElem?_eq_some_iff.mp hp).1
      obtain ⟨b, rfl, hb⟩ := id (rp.same sm)
      have pm := List.mem_of_getElem? hp
      obtain ⟨z1, z2⟩ := hz p pm
      have dp := den_pos p
      refine ⟨rfl, .ref b, rfl, b, _, 0, _, rfl, rfl, hb, atI_nat (j := 0) rfl, _, rfl, p.num, 2 * M, rfl, congrArg V.int (by omega), shl_ok z1 (by omega), .ref b, rfl, b, _, 1, _, rfl, rfl, hb, atI_nat (j := 1) rfl, _, _, rfl, rfl,
        divA (b := 3900) (by omega) (by rw [Int.natAbs_natCast]; exact z2) (by decide) (by decide), .ref b, rfl, ?_⟩
      have ev : (p.num * 2 ^ (2 * M)).fdiv (p.den : Int) = rank M p := Int.fdiv_eq_ediv_of_nonneg _ (Int.natCast_nonneg _)
      have kl : ks.length ≤ 63 := by rw [hAll.len]; omega
      refine ⟨ks, Sum.inl (rank M p), by rw [← ev]; rfl, hG, big (by omega), same_but sm n2, ?_⟩
      have OD : Odd G D2 := .of hG (fun _ e => by cases e) (fun _ _ e => by cases e)
      have rpb : Rn K G (.ref b) p := ⟨b, rfl, hb⟩
      have mv : ∀ {kvs : List (Key × V)} {ts : List Rat} {o : HO}, All2 (RkEnt K M G) kvs ts → All2 (RkEnt K M (upd G D2 o)) kvs ts := fun h => h.imp fun _ _ z => ⟨z.1, OD.rn but_new z.2.1, z.2.2⟩
      by_cases c : p ∈ ps
      · refine ⟨_, ps, upd_same, mv (rk_old (dM p pm) rpb hAll c), pn, pq, fun q' h => ?_, by omega⟩
        rw [take_snoc hp] at h
        rcases List.mem_append.mp h with h | h
        · exact qp _ h
        · rw [List.mem_singleton.mp h]
          exact c
      · rw [putK_new _ (rk_none (dM p pm) hAll c)]
        refine ⟨_, ps ++ [p], upd_same, mv (hAll.snoc ⟨rfl, rpb, dM p pm⟩), ?_, ?_, ?_, by rw [List.length_append, List.length_singleton]; omega⟩
        · refine List.nodup_append.mpr ⟨pn, List.pairwise_singleton _ _, fun x hx y hy => ?_⟩
          rw [List.mem_singleton.mp hy]
          exact fun e => c (e ▸ hx)
        · intro x hx
          rcases List.mem_append.mp hx with h | h
          · exact pq _ h
          · rw [List.mem_singleton.mp h]
            exact pm
        · intro x hx
          rw [take_snoc hp] at hx
          rcases List.mem_append.mp hx with h | h
          · exact List.mem_append_left _ (qp _ h)
          · exact List.mem_append_right _ h
    obtain ⟨s2, ks, ps, hD2, hAll, pn, pq, qp, pl⟩ := hP
    rw [List.take_of_length_le (by omega)] at qp
    have pd : ∀ p ∈ ps, p.den < 2 ^ M := fun p hp => dM p (pq p hp)
    -- the answer
    refine ⟨_, rfl, D2, ks, ps.map (rank M), rfl, .inl hD2, rk_keys hAll, by rw [List.length_map]; omega, fun ys l perm srt nl => ?_⟩
    obtain ⟨rs, ers, prs⟩ := perm_map_inv perm
    have s3 : Same H2 (upd H2 l (.lst (ys.map V.int))) := same_new nl
    have hl3 : (upd H2 l (.lst (ys.map V.int))) l = some (.lst (ys.map V.int)) := upd_same
    generalize (upd H2 l (.lst (ys.map V.int))) = H3 at s3 hl3 ⊢
    have hD3 := s3 _ _ hD2
    have hA3 : All2 (RkEnt K M H3) ks ps := hAll.imp fun _ _ z => ⟨z.1, z.2.1.same s3, z.2.2⟩
    have rsl : rs.length ≤ 63 := by rw [prs.length_eq]; omega
    have ysl : (ys.map V.int).length = rs.length := by rw [ers, List.length_map, List.length_map]
    refine ⟨l, rfl, ⟨_, .of hl3⟩, fun D3 n3 => lc_list (xs := ys.map V.int) (fun i G => Same H3 G ∧ ∃ acc, G D3 = some (.lst acc) ∧ acc.length = i ∧ All2 (Rn K G) acc (rs.take i)) ⟨same_new n3, [], upd_same, rfl, .nil⟩ (fun i G _ hP => hP.1.seq (.of hl3)) (fun i x G hx hP => ?_) (fun G hP => ?_)⟩
    · obtain ⟨sm, acc, hG, al, hAcc⟩ := hP
      have it : i < rs.length := by rw [← ysl]; exact (List.getElem?_eq_some_iff.mp hx).1
      have ht : rs[i]? = some rs[i] := List.getElem?_eq_getElem it
      have ex : x = .int (rank M rs[i]) := by
        have e : (ys.map V.int)[i]? = some (.int (rank M rs[i])) := by rw [ers, List.getElem?_map, List.getElem?_map, ht]; rfl
        exact Option.some.inj (hx.symm.trans e)
      subst ex
      have mem : rs[i] ∈ ps := prs.mem_iff.mp (List.getElem_mem it)
      obtain ⟨v, hv, rv⟩ := rk_val (pd _ mem) (hA3.imp fun _ _ z => (⟨z.1, z.2.1.same sm, z.2.2⟩ : RkEnt K M G _ _)) mem
      have hDG := sm _ _ hD3
      refine ⟨rfl, _, rfl, _, rfl, D2, v, rfl, (by have h := DGet.k (k := Sum.inl (rank M rs[i])) hDG; rw [hv] at h; exact h), acc, hG, big (by omega), same_but sm n3, _, upd_same, by rw [List.length_append, al]; rfl, ?_⟩
      rw [take_snoc ht]
      exact (hAcc.imp fun _ _ z => rn_lst hG z).snoc (rn_lst hG rv)
    obtain ⟨s4, acc, hG, al, hAcc⟩ := hP
    rw [List.take_of_length_le (by omega)] at hAcc
    refine q rs _ G ⟨?_, fun r => ?_⟩ (((s1.trans s2).trans s3).trans s4) ⟨D3, acc, rfl, hG, hAcc⟩
    · refine rank_order (fun r hr => pd r (prs.mem_iff.mp hr)) (prs.nodup_iff.mpr pn) ?_
      rw [← ers]
      exact srt
    · rw [prs.mem_iff]
      exact ⟨pq r, qp r⟩
/-! ### ascending, in_order: up to 62 values -/
def spAscL (K : PySem.W.Frag) : Sp := fun vs H Q _ => ∃ (a : Addr) (xs : List V) (qs : List Rat), vs = [.ref a] ∧ SqL K H a xs ∧ All2 (Rn K H) xs qs ∧ qs.length < 63 ∧ (∀ q ∈ qs, Sz 3900 q) ∧ ∀ rs v H', InOrder qs rs → Same H H' → RnL K H' v rs → Q v H'
theorem ok_AscL {f fR fI : Addr} {fd dR dI : FuncData} {t8 : Tok} (D : DefAt K mg "ascending" s_ascending ["rows"] f fd) (DR : DefAt K mg "_ranked" s_ranked ["rows"] fR dR) (DI : DefAt K mg "_inserted" s_inserted ["rows"] fI dI) (m8 : mg "FEW" = some (.int 8 t8)) (ml : mg "len" = none)
    (GR : FnOk P w K mg base (CXl P w) 1 fR dR ["rows"] (spRk K)) (GI : FnOk P w K mg base (CXl P w) 1 fI dI ["rows"] (spIns K)) : FnOk P w K mg base (CXl P w) 2 f fd ["rows"] (spAscL K) := by
  refine D.F.okX sc_ascending (fun vs H Q E h => ?_) (fun cdv A outer s H vs Q E hr h => ?_)
  · obtain ⟨a, xs, qs, rfl, _⟩ := h
    rfl
  · obtain ⟨a, xs, qs, rfl, hS, hA, hlen, hz, q⟩ := h
    refine ⟨_, pss_one (ps_ret (pe_ifExp (pt_cmpR op_gt (pe_callB call_len_seq (by rfl) ml PySem.boot_len (pa_cons (pv 0) pa_nil)) (pe_glob (v := .int 8) rfl m8 ⟨t8, rfl⟩) (nomark _)) (pe_call GR hr (by rfl) DR.g DR.F.kp DR.b .nil passL (pa_cons (pv 0) pa_nil)) (pe_call GI hr (by rfl) DI.g DI.F.kp DI.b .nil passL (pa_cons (pv 0) pa_nil)))), ?_⟩
    have xl := hA.len
    refine ⟨.ref a, rfl, a, xs, rfl, .inl hS, (xs.length : Int), 8, rfl, rfl, _, rfl, ite2 (fun c => ?_) (fun _ => ?_)⟩
    · have c : (8 : Int) < (xs.length : Int) := of_decide_eq_true c
      exact ⟨_, rfl, a, xs, qs, rfl, hS, hA, by omega, hlen, hz, q⟩
    · exact ⟨_, rfl, a, xs, qs, rfl, hS, hA, by omega, hz, q⟩
/-! ### in_order -/
def spInOL (K : PySem.W.Frag) (C : Addr) : Sp := fun vs H Q E => ∃ x, vs = [x] ∧
  ((∃ a qs, x = .ref a ∧ Nums K H a qs ∧ qs.length < 63 ∧ (∀ q ∈ qs, Sz 3900 q) ∧ ∀ rs v H', InOrder qs rs → Same H H' → RnL K H' v rs → Q v H') ∨ (∃ n, Kd K H x n ∧ (n == "list") = false ∧ E (.ref C) none H))
theorem ok_InOL {f fA fS C : Addr} {fd dA dS : FuncData} (D : DefAt K mg "in_order" s_in_order ["values"] f fd) (DA : DefAt K mg "as_ratio" s_as_ratio ["value"] fA dA) (DS : DefAt K mg "ascending" s_ascending ["rows"] fS dS) (X : ErrAt K mg "InvalidNumber" BMv "ValueError.__new__" C) (mi : mg "isinstance" = none) (ml : mg "list" = none) (mt : mg "type" = none) (m1 : mg "int" = none)
    (GA : FnOk P w K mg base (CXl P w) 3 fA dA ["value"] (spAR K C)) (GS : FnOk P w K mg base (CXl P w) 2 fS dS ["rows"] (spAscL K)) : FnOk P w K mg base (CXl P w) 4 f fd ["values"] (spInOL K C) := by
  refine D.F.okX sc_in_order (fun vs H Q E h => ?_) (fun cdv A outer s H vs Q E hr h => ?_)
  · obtain ⟨x, rfl, _⟩ := h
    rfl
  · obtain ⟨x, rfl, h⟩ := h
    refine ⟨_, pss_cons (ps_if (pt_not (pt_val (pe_callB call_isi (by rfl) mi (by decide +kernel) (pa_cons (pv 0) (pa_cons (pe_bltn (v := .ty "list") (by rfl) ml (by decide +kernel) rfl) pa_nil))))) (pss_one (ps_raise rfl (takes_of rfl rfl rfl rfl) (X.mk0 PySem.F.excBase_ValueError rfl))) pss_nil)
      (pss_one (ps_ret (pe_call GS (hr.mono (by decide)) (by rfl) DS.g DS.F.kp DS.b .nil passL (pa_cons (pe_lc (own := [("value", 1)]) (g := gName 1) (tt := tYes) (by rfl) sc_in_order.nd (pi_list (pv 0)) (blkOk_by (N := ["values", "value"]) (sc := defScope s_in_order) (by decide +kernel)) (fun _ _ _ _ _ => pg_name (i := 1) sc_in_order.nd rfl (.inl rfl)) (fun _ _ _ _ _ => pts_nil)
        (fun _ _ _ _ _ => pe_ifExp (pt_cmpR op_isTyB (pe_callTy (T := "type") (r := rTyp K) (by exact call_type1) (by rfl) mt (by decide +kernel) (pa_cons (pv 1) pa_nil)) (pe_bltn (v := .ty "int") (by rfl) m1 (by decide +kernel) rfl) (nomark _)) (pe_tup (pa_cons (pv 1) (pa_cons pe_int pa_nil))) (pe_call GA hr (by rfl) DA.g DA.F.kp DA.b .nil passL (pa_cons (pv 1) pa_nil)))) pa_nil)))), ?_⟩
    rcases h with ⟨a, qs, rfl, ⟨xs, hS, hN⟩, hlen, hsz, q⟩ | ⟨n, hk, hn, e⟩
    · refine ⟨.ref a, rfl, .ref a, _, _, _, _, rfl, .ty "list", sql_ty hS, kd_list (.lst hS), _, rfl, iteF ?_⟩
      have len := hN.len
      refine ⟨.ref a, rfl, a, rfl, ⟨_, hS⟩, fun D1 n1 => lc_list (xs := xs) (fun i H' => Same H H' ∧ ∃ acc, H' D1 = some (.lst acc) ∧ acc.length = i ∧ All2 (Rn K H') acc (qs.take i)) ⟨same_new n1, [], upd_same, rfl, .nil⟩ (fun i H' _ hP => hP.1.seq hS) (fun i x H' hx hP => ?_) (fun H1 hP => ?_)⟩
      · obtain ⟨sm, acc, hD, hl, hA⟩ := hP
        obtain ⟨p, hp, np⟩ := hN.get hx
        have il : i < xs.length := (List.getElem?_eq_some_iff.mp hx).1
        have big : acc.length < sizeLine := Nat.lt_trans (show acc.length < 1000 by omega) (small1000 (Nat.le_refl _))
        have np' := np.same sm
        obtain ⟨n, hk⟩ := Arg.kd np'
        have fin : ∀ v H2, Same H' H2 → Rn K H2 v p → ∃ acc2, H2 D1 = some (.lst acc2) ∧ acc2.length < sizeLine ∧ Same H (upd H2 D1 (.lst (acc2 ++ [v]))) ∧ ∃ acc3, (upd H2 D1 (.lst (acc2 ++ [v]))) D1 = some (.lst acc3) ∧ acc3.length = i + 1 ∧ All2 (Rn K (upd H2 D1 (.lst (acc2 ++ [v])))) acc3 (qs.take (i + 1)) := fun v H2 s2 r2 => by
          refine ⟨acc, s2 _ _ hD, big, same_but (sm.trans s2) n1, _, upd_same, by rw [List.length_append, hl]; rfl, ?_⟩
          rw [take_snoc hp]
          exact (hA.imp fun _ _ z => rn_lst (s2 _ _ hD) (z.same s2)).snoc (rn_lst (s2 _ _ hD) r2)
        refine ⟨rfl, x, rfl, _, _, rfl, hk.tyB, _, _, rfl, rfl, _, rfl, ?_⟩
        rw [kd_int_ty hk]
        refine ite2 (fun c => ?_) (fun c => ?_)
        · obtain ⟨j, rfl⟩ := isI_int c
          refine ⟨_, rfl, by show 2 ≤ sizeLine; decide, fun t nt => ?_⟩
          have ep : p = ((j : Int) : Rat) := by
            cases np'
            rfl
          subst ep
          exact fin (.ref t) _ (same_new nt) (Rn.mk (q := (j : Rat)))
        · exact ⟨_, rfl, x, some p, rfl, np', fun v H2 s2 r2 => fin v H2 s2 r2⟩
      obtain ⟨s1, rows, hD1, hl1, hR⟩ := hP
      rw [List.take_of_length_le (by omega)] at hR
      exact ⟨D1, rows, qs, rfl, .of hD1, hR, hlen, hsz, fun rs v H' o s' r => q rs v H' o (s1.trans s') r⟩
    · have e1 : ∀ H', H' = H → E (.ref C) none H' := fun H' z => z ▸ e
      refine ⟨x, rfl, x, _, _, _, _, rfl, .ty "list", hk.ty, kd_list hk, _, rfl, ?_⟩
      rw [hn]
      exact iteT e
end
end LR
set_option Elab.async false
set_option linter.all false
set_option maxRecDepth 100000
set_option maxHeartbeats 4000000
set_option exponentiation.threshold 100000
namespace LR
open PySem PySem.Spec PyProof.Rows L2
/-- the walk of a comprehension's part, whatever is done with each item -/
theorem it_it {J : It} {n : Nat} {G : Hp → Prop} {Y : Nat → Hp → V → Hp → Prop} (w : Walk J n G Y) {Qd : Hp → Prop} {H0 : Hp} {Body : V → Hp → (Hp → Prop) → Prop} (Pv : Nat → Hp → Prop) (h0 : Pv 0 H0) (hG : ∀ i H, i ≤ n → Pv i H → G H)
    (hs : ∀ i x H H', i < n → Pv i H → Y i H x H' → Body x H' (Pv (i + 1))) (hd : ∀ H, Pv n H → Qd H) :
    ∃ W : Nat → Nat → Hp → Prop, (∃ m, W 0 m H0) ∧ ∀ i m H, W i m H → (J.stop i H ∧ Qd H) ∨ (J.go i H ∧ ∃ Nx : Hp → Prop, (∀ H', Nx H' → ∃ m', m' < m ∧ W (i + 1) m' H') ∧ ∀ x H', J.yld i H x H' → Body x H' Nx) := by
  refine ⟨fun i m H => m = n - i ∧ i ≤ n ∧ Pv i H, ⟨n, by simp, Nat.zero_le _, h0⟩, ?_⟩
  rintro i m H ⟨rfl, hi, p⟩
  have q := hG i H hi p
  by_cases lt : i < n
  · exact .inr ⟨w.goes i H lt q, Pv (i + 1), fun H' p' => ⟨n - (i + 1), by omega, rfl, lt, p'⟩, fun x H' y => hs i x H H' lt p (w.yields i H x H' lt q y)⟩
  · have e : i = n := by omega
    subst e
    exact .inl ⟨w.stops H q, hd H p⟩
abbrev rChg : Stmt := inClass cRace 10
theorem sc_rChg : FnScope ["self", "name", "row"] ["self"] (defScope rChg) := ⟨rfl, rfl, rfl, by decide +kernel, rfl, by decide +kernel, by decide +kernel⟩
/-- the times behind the first of each runner -/
def later (e : Str × List Row) : List Rat := (e.2.drop 1).map (·.b)
section
variable {P : Program} {w : World} {K : PySem.W.Frag} {mg : Str → Option Value} {base : Heap}
def spChg (K : PySem.W.Frag) (C : Addr) : Sp := fun vs H Q _ => ∃ (v : V) (L : Rat) (tr : List (Str × List Row)), vs = [v] ∧ RaceAt K C H v L tr ∧ (tr.map (·.1)).Nodup ∧ tr.length ≤ 12 ∧ (∀ e ∈ tr, 0 < e.2.length ∧ e.2.length ≤ 21 ∧ ∀ r ∈ e.2, Sz 100 r.b) ∧ (tr.flatMap later).length < 63 ∧
  ∀ rs y H', InOrder (tr.flatMap later) rs → Same H H' → RnL K H' y rs → Q y H'
theorem ok_Chg {f C fO CN : Addr} {fd dO : FuncData} (F : Fun K "change_times" "Race.change_times" rChg f fd) (T : RaceT K C) (DO : DefAt K mg "in_order" s_in_order ["values"] fO dO) (GO : FnOk P w K mg base (CXl P w) 4 fO dO ["values"] (spInOL K CN)) : FnOk P w K mg base (CXl P w) 5 f fd ["self"] (spChg K C) := by
  refine F.okX sc_rChg (fun vs H Q E h => ?_) (fun cdv A outer s H vs Q E hr h => ?_)
  · obtain ⟨v, L, tr, rfl, _⟩ := h
    rfl
  · obtain ⟨v, L, tr, rfl, ⟨p, dx, vL, vT, rfl, hp, hL, d, kvs, rfl, hd, hA⟩, nd, l12, hrows, l63, q⟩ := h
    have nds := sc_rChg.nd
    refine ⟨_, pss_one (ps_ret (pe_call GO hr (by rfl) DO.g DO.F.kp DO.b .nil passL (pa_cons (pe_lock (pe_lc2 (own := [("name", 1), ("row", 2)]) (vs1 := [2]) (g := gName 1) (g1 := gName 2) (tt := tYes) (tt1 := tYes) (wi1 := iTup K (tSl (rSlT K) (tDGet (tFld K (tVar 0) "_tracks") (tVar 1)) _ _)) rfl nds (pi_keys (pe_fld (pv 0) rfl)) (blkOk_by (N := ["self", "name", "row"]) (sc := defScope rChg) (by decide +kernel)) (by decide)
        (fun _ _ _ _ _ => pg_name (i := 1) nds rfl (.inl rfl)) (fun _ _ _ _ _ => pts_nil)
        (fun _ _ _ _ _ => by exact pi_tup (pe_slice (r := rSlT K) sl_tup (pe_dget (hu_of hr) (pe_fld (pv 0) rfl) (pv 1) (fun _ _ => rfl)) (po_some pe_int) po_none))
        (fun _ _ _ _ _ => pg_name (i := 2) nds rfl (.inl rfl)) (fun _ _ _ _ _ => pts_nil)
        (fun _ _ _ _ _ => pe_ix (r := rIxT K) ix_tup (pv 2) pe_int (fun _ _ => rfl)))) pa_nil))), ?_⟩
    refine ⟨d, .dK kvs, hd, trivial, fun od => ?_⟩
    have bd : But d H (upd H d (.frz od (.dK kvs))) := but_new
    have hd1 : (upd H d (.frz od (.dK kvs))) d = some (.frz od (.dK kvs)) := upd_same
    generalize (upd H d (.frz od (.dK kvs))) = H1 at bd hd1 ⊢
    have O := OddL.dk hd
    have npd : p ≠ d := fun e => by rw [e, hd] at hp; cases hp
    have hp1 := bd _ _ npd hp
    have hA1 : All2 (TrEnt K H1) kvs tr := hA.imp fun _ _ z => ⟨z.1, z.2.but O.o bd⟩
    have lk := hA.len
    refine ⟨_, rfl, p, C, dx, _, _, rfl, hp1, T.cl, T.nT, rl_tracks _ _, d, od, rfl, .inl ⟨kvs, hd1, fun D nD => ?_⟩⟩
    refine it_it walk_keys (fun i G => Same H1 G ∧ ∃ acc, G D = some (.lst acc) ∧ acc.length ≤ 20 * i ∧ All2 (Rn K G) acc ((tr.take i).flatMap later)) ⟨same_new nD, [], upd_same, Nat.zero_le _, .nil⟩ (fun i G _ hP => hP.1 _ _ hd1) (fun i x G G' hi hP hy => ?_) (fun G hP => ?_)
    · obtain ⟨sm, acc, hD, hla, hAll⟩ := hP
      obtain ⟨rfl, k, v, hk, rfl⟩ := hy
      obtain ⟨⟨n, rows⟩, ht, ⟨ek, _⟩⟩ := hA1.get hk
      have ek : k = Sum.inr n := ek
      subst ek
      have mem : (n, rows) ∈ tr := List.mem_of_getElem? ht
      obtain ⟨r1, r2, r3⟩ := hrows _ mem
      obtain ⟨y, hv, a, xs, rfl, ha, hxs⟩ := ent_val (hA1.imp fun _ _ z => (⟨z.1, z.2.same sm⟩ : TrEnt K G' _ _)) nd mem
      have hdG := sm _ _ hd1
      obtain ⟨x0, xs', rfl⟩ : ∃ x0 xs', xs = x0 :: xs' := by
        cases xs with
        | nil => exact absurd hxs.len (by simp at r1 ⊢; omega)
        | cons x xs => exact ⟨x, xs, rfl⟩
      have hl : (x0 :: xs').length = rows.length := hxs.len
      have hl' : xs'.length + 1 = rows.length := hl
      have r2' : rows.length ≤ 21 := r2
      refine ⟨rfl, _, rfl, p, C, dx, _, _, rfl, sm _ _ hp1, T.cl, T.nT, rl_tracks _ _, _, rfl, d, _, rfl, (.inl ⟨kvs, Sum.inr n, .inr ⟨od, hdG⟩, rfl, hv.symm⟩), 1, rfl, a, _, rfl, ha, ?_, fun L2 nL2 => ?_⟩
      · have e : HT.sIx (x0 :: xs').length 0 (some 1) = 1 := by
          rw [show (some 1 : Option Int) = some ((1 : Nat) : Int) from rfl, HT.sIx_nat]
          simp
        rw [e]
        exact fun z => absurd z.1 (by decide)
      have hL2 : (upd G' L2 (.tup (cutV (x0 :: xs') (some 1) none))) L2 = some (.tup xs') := by rw [upd_same, cut1]
      have sL2 : Same G' (upd G' L2 (.tup (cutV (x0 :: xs') (some 1) none))) := same_new nL2
      show ∃ l, _
      generalize (upd G' L2 (.tup (cutV (x0 :: xs') (some 1) none))) = G1 at hL2 sL2 ⊢
      have hD1 := sL2 _ _ hD
      have nDL : L2 ≠ D := fun e => by rw [e, hD] at nL2; cases nL2
      have hr1 : All2 (RowAt K G1) xs' (rows.drop 1) := by
        cases hxs with
        | cons _ t => exact t.imp fun _ _ z => z.same sL2
      have OD := Odd.lst hD1
      refine ⟨L2, rfl, ⟨_, .inl (.inl hL2)⟩, it_it walk_tup (fun j G2 => But D G1 G2 ∧ ∃ acc2, G2 D = some (.lst acc2) ∧ acc2.length ≤ 20 * i + j ∧ All2 (Rn K G2) acc2 ((tr.take i).flatMap later ++ ((rows.drop 1).take j).map (·.b))) ⟨fun _ _ _ e => e, acc, hD1, by omega, by rw [List.take_zero, List.map_nil, List.append_nil]; exact hAll.imp fun _ _ z => z.same sL2⟩ (fun j G2 _ hP => .inl (.inl (hP.1 _ _ nDL hL2))) (fun j x G2 G2' hj hP hy => ?_) (fun G2 hP => ?_)⟩
      · obtain ⟨bt, acc2, hD2, hl2, hAll2⟩ := hP
        obtain ⟨rfl, hx⟩ := hy
        obtain ⟨r, hri, hrow⟩ := hr1.get hx
        obtain ⟨b, vb, vs, R, B, U, rfl, hb', hvb, hvs, z⟩ := hrow.but OD bt
        refine ⟨rfl, .ref b, rfl, b, _, 0, vb, rfl, rfl, hb', atI_nat (j := 0) rfl, acc2, hD2, Nat.lt_trans (show acc2.length < 1000 by omega) (small1000 (Nat.le_refl _)), but_upd bt, _, upd_same, by rw [List.length_append]; show acc2.length + 1 ≤ _; omega, ?_⟩
        rw [take_snoc hri, List.map_append, ← List.append_assoc]
        exact (hAll2.imp fun _ _ z => rn_lst hD2 z).snoc (rn_lst hD2 hvb)
      · obtain ⟨bt, acc2, hD2, hl2, hAll2⟩ := hP
        refine ⟨fun b o e => bt _ _ (ne_of_none e nD) (sL2 _ _ (sm _ _ e)), acc2, hD2, by omega, ?_⟩
        rw [take_snoc ht, List.flatMap_append]
        have eT : (rows.drop 1).take xs'.length = rows.drop 1 := List.take_of_length_le (by rw [List.length_drop]; omega)
        rw [eT] at hAll2
        simpa [later] using hAll2
    · obtain ⟨sm, acc, hD, hla, hAll⟩ := hP
      rw [List.take_of_length_le (by omega)] at hAll
      have hdG := sm _ _ hd1
      refine ⟨hdG, ?_⟩
      have bG : But d G (upd G d (.dK kvs)) := but_new
      have hd2 : (upd G d (.dK kvs)) d = some (.dK kvs) := upd_same
      show ∃ _, _
      generalize (upd G d (.dK kvs)) = G3 at bG hd2 ⊢
      have OG := OddL.fz hdG
      have ndD : D ≠ d := fun e => by rw [e, hd1] at nD; cases nD
      have hD3 := bG _ _ ndD hD
      have sH : Same H G3 := fun b o e => by
        by_cases c : b = d
        · subst c
          rw [hd] at e
          rw [hd2]
          exact e
        · exact bG _ _ c (sm _ _ (bd _ _ c e))
      refine ⟨.ref D, rfl, .inl ⟨D, tr.flatMap later, rfl, ⟨acc, .of hD3, hAll.imp fun _ _ z => (OG.o.rn bG z).num⟩, l63, fun r hr' => ?_, fun rs v H' o s' k => q rs v H' o (sH.trans s') k⟩⟩
      obtain ⟨e, he, hr'⟩ := List.mem_flatMap.mp hr'
      obtain ⟨r0, hr0, rfl⟩ := List.mem_map.mp hr'
      exact ((hrows e he).2.2 r0 (List.mem_of_mem_drop hr0)).mono (by decide)
end
end LR
set_option Elab.async false
set_option linter.all false
set_option maxRecDepth 100000
set_option maxHeartbeats 4000000
namespace LR
open PySem PySem.Spec PyProof.Rows L2
/-! ### the law's own: pools and draws -/
theorem scPool : FnScope ["script", "k", "cell", "seed"] ["script", "k"] (defScope s_law_pool) := ⟨rfl, rfl, rfl, by decide +kernel, rfl, by decide +kernel, by decide +kernel⟩
theorem scDraw : FnScope ["pool", "many", "digit"] ["pool", "many"] (defScope s_law_draw) := ⟨rfl, rfl, rfl, by decide +kernel, rfl, by decide +kernel, by decide +kernel⟩
theorem scChoose : FnScope ["pool", "items"] ["pool", "items"] (defScope s_law_choose) := ⟨rfl, rfl, rfl, by decide +kernel, rfl, by decide +kernel, by decide +kernel⟩
/-- a pool stands at p -/
def PoolAt (H : Hp) (p : Addr) : Prop := ∃ c s : Int, H p = some (.lst [.int c, .int s]) ∧ 0 ≤ s ∧ s < 2147483647
section
variable {P : Program} {w : World} {K : PySem.W.Frag} {mg : Str → Option Value} {base : Heap}
theorem mod_in {x m : Int} (hm : 0 < m) : 0 ≤ x.fmod m ∧ x.fmod m < m := by
  rw [Int.fmod_eq_emod_of_nonneg _ (Int.le_of_lt hm)]
  exact ⟨Int.emod_nonneg _ (Int.ne_of_gt hm), Int.emod_lt_of_pos _ hm⟩
def spPool (K : PySem.W.Frag) : Sp := fun vs H Q _ => ∃ (a : Addr) (ns : List Int) (k : Nat), vs = [.ref a, .int k] ∧ SqL K H a (ns.map V.int) ∧ k ≤ 63 ∧ ∀ p H', Same H H' → H p = none → PoolAt H' p → Q (.ref p) H'
theorem ok_Pool {f : Addr} {fd : FuncData} (D : DefAt K mg "_law_pool" s_law_pool ["script", "k"] f fd) (ml : mg "len" = none) : FnOk P w K mg base (CXl P w) 1 f fd ["script", "k"] (spPool K) := by
  refine D.F.okX scPool (fun vs H Q E h => ?_) (fun cdv A outer s H vs Q E hr h => ?_)
  · obtain ⟨a, ns, k, rfl, _⟩ := h
    rfl
  · obtain ⟨a, ns, k, rfl, hS, hk, q⟩ := h
    refine ⟨_, pss_cons (ps_set (i := 2) scPool.nd rfl (.inl rfl) pe_int)
      (pss_cons (ps_if (pt_cmpR op_lt (pv 1) (pe_callB call_len_seq (by rfl) ml PySem.boot_len (pa_cons (pv 0) pa_nil)) (nomark _)) (pss_one (ps_set (i := 2) scPool.nd rfl (.inl rfl) (pe_ix ix_list (pv 0) (pv 1) (fun _ _ => rfl)))) pss_nil)
      (pss_cons (ps_set (i := 3) scPool.nd rfl (.inl rfl) (pe_op op_modN (pe_op op_pow (pe_op op_add (pe_op op_add (pe_op op_modN (pv 2) pe_int) (pe_op op_mul (pe_op op_mul pe_int (pv 1)) (pv 1))) pe_int) pe_int) pe_int))
      (pss_cons (ps_if (pt_cmpR op_lt (pv 2) (pe_op op_pow pe_int pe_int) (nomark _)) (pss_one (ps_set (i := 2) scPool.nd rfl (.inl rfl) pe_int)) pss_nil)
      (pss_one (ps_ret (pe_lst (pa_cons (pv 2) (pa_cons (pv 3) pa_nil)))))))), ?_⟩
    have fin : ∀ c s : Int, 0 ≤ s → s < 2147483647 → [V.int c, V.int s].length ≤ sizeLine ∧ ∀ p, H p = none → Q (.ref p) (upd H p (.lst [.int c, .int s])) := fun c s h1 h2 =>
      ⟨by show 2 ≤ sizeLine; decide, fun p np => q p _ (same_new np) np ⟨c, s, upd_same, h1, h2⟩⟩
    have rest : ∀ c : Int, (tSeq (tAsg (tOp (rI (fun _ j => j ≠ 0) fun i j => V.int (i.fmod j)) (tOp (rI CPow fun i j => V.int (i ^ j.toNat)) (tOp (rI0 fun i j => V.int (i + j)) (tOp (rI0 fun i j => V.int (i + j)) (tOp (rI (fun _ j => j ≠ 0) fun i j => V.int (i.fmod j)) (tVar 2) (tC (.int 2147483629))) (tOp (rI CMul fun i j => V.int (i * j)) (tOp (rI CMul fun i j => V.int (i * j)) (tC (.int 7919)) (tVar 1)) (tVar 1))) (tC (.int 31))) (tC (.int 3))) (tC (.int 2147483647))) (gName 3))
        (tSeq (tIfS (tTest (tOp (rI0 fun i j => V.bl (decide (i < j))) (tVar 2) (tOp (rI CPow fun i j => V.int (i ^ j.toNat)) (tC (.int 10)) (tC (.int 18))))) (tAsg (tC (.int 0)) (gName 2)) tNext) (tRet (tLst (tCons (tVar 2) (tCons (tVar 3) tNil)))))) { nx := fun _ H' => Q .non H', rt := Q } [some (.ref a), some (.int k), some (.int c), none] H := by
      intro c
      have m1 := mod_in (x := c) (m := 2147483629) (by decide)
      have kk : (k : Int) * 7919 ≤ 63 * 7919 := by omega
      have k2 : 7919 * (k : Int) * k ≤ 63 * 7919 * 63 := by
        have e : 7919 * (k : Int) * k = ((7919 * k * k : Nat) : Int) := by simp
        have : 7919 * k * k ≤ 7919 * 63 * 63 := Nat.mul_le_mul (Nat.mul_le_mul_left _ hk) hk
        omega
      have k0 : 0 ≤ 7919 * (k : Int) * k := by
        have e : 7919 * (k : Int) * k = ((7919 * k * k : Nat) : Int) := by simp
        omega
      refine ⟨_, rfl, c, 2147483629, rfl, rfl, show (2147483629 : Int) ≠ 0 by decide, _, rfl, 7919, (k : Int), rfl, rfl, .inl ⟨by decide, by decide⟩, _, rfl, _, (k : Int), rfl, rfl, .inr ⟨by omega, by omega⟩, _, _, rfl, rfl, _, 31, rfl, rfl, _, 3, rfl, rfl, ⟨by decide, by decide, by omega⟩, _, 2147483647, rfl, rfl, show (2147483647 : Int) ≠ 0 by decide, ?_⟩
      have m2 := mod_in (x := (c.fmod 2147483629 + 7919 * (k : Int) * k + 31) ^ (3 : Int).toNat) (m := 2147483647) (by decide)
      refine ⟨_, rfl, 10, 18, rfl, rfl, ⟨by decide, by decide, by decide⟩, c, _, rfl, rfl, _, rfl, ite2 (fun _ => ?_) (fun _ => ?_)⟩
      · exact ⟨_, rfl, _, rfl, fin _ _ m2.1 m2.2⟩
      · exact ⟨_, rfl, _, rfl, fin _ _ m2.1 m2.2⟩
    by_cases lt : (k : Int) < ((ns.map V.int).length : Int)
    · refine ⟨_, rfl, .ref a, rfl, a, _, rfl, .inl hS, (k : Int), _, rfl, rfl, _, rfl, ?_⟩
      have hi : k < ns.length := by rw [List.length_map] at lt; omega
      have g : (ns.map V.int)[k]? = some (.int ns[k]) := by rw [List.getElem?_map, List.getElem?_eq_getElem hi]; rfl
      refine ite2 (fun _ => ⟨.ref a, rfl, _, rfl, a, _, (k : Int), _, rfl, rfl, hS, atI_nat g, ?_⟩) (fun c => absurd (decide_eq_true lt) c)
      exact rest _
    · refine ⟨_, rfl, .ref a, rfl, a, _, rfl, .inl hS, (k : Int), _, rfl, rfl, _, rfl, ite2 (fun c => absurd (of_decide_eq_true c) lt) (fun _ => ?_)⟩
      exact rest _

/-! ### draws -/
/-- behind a draw: only the pool has changed -/
structure Drew (p : Addr) (H H' : Hp) : Prop where
  but : But p H H'
  pool : PoolAt H' p
def spDraw : Sp := fun vs H Q _ => ∃ (p : Addr) (m : Int), vs = [.ref p, .int m] ∧ PoolAt H p ∧ 0 < m ∧ m.natAbs < 2 ^ 200 ∧ ∀ d H', 0 ≤ d → d < m → Drew p H H' → Q (.int d) H'
theorem drew_upd {p : Addr} {H : Hp} {c s : Int} (h1 : 0 ≤ s) (h2 : s < 2147483647) : Drew p H (upd H p (.lst [.int c, .int s])) :=
  ⟨fun b o hb e => by rw [upd_ne hb]; exact e, c, s, upd_same, h1, h2⟩
theorem ok_Draw {f : Addr} {fd : FuncData} (D : DefAt K mg "_law_draw" s_law_draw ["pool", "many"] f fd) : FnOk P w K mg base (CXl P w) 1 f fd ["pool", "many"] spDraw := by
  refine D.F.okX scDraw (fun vs H Q E h => ?_) (fun cdv A outer s H vs Q E hr h => ?_)
  · obtain ⟨p, m, rfl, _⟩ := h
    rfl
  · obtain ⟨p, m, rfl, ⟨c, sd, hp, s0, s1⟩, m0, mb, q⟩ := h
    refine ⟨_, pss_cons (ps_if (pt_cmpR op_gt (pe_ix ix_list (pv 0) pe_int (fun _ _ => rfl)) pe_int (nomark _))
        (pss_cons (ps_set (i := 2) scDraw.nd rfl (.inl rfl) (pe_op op_modN (pe_ix ix_list (pv 0) pe_int (fun _ _ => rfl)) (pv 1)))
        (pss_cons (ps_asg (pe_op op_fdivA (pe_ix ix_list (pv 0) pe_int (fun _ _ => rfl)) (pv 1)) (pg_sub (pv 0) pe_int set_list))
        (pss_one (ps_ret (pv 2))))) pss_nil)
      (pss_cons (ps_asg (pe_op op_modN (pe_op op_add (pe_op op_mul (pe_ix ix_list (pv 0) pe_int (fun _ _ => rfl)) pe_int) pe_int) pe_int) (pg_sub (pv 0) pe_int set_list))
      (pss_one (ps_ret (pe_op op_modN (pe_op op_fdivN (pe_op op_modN (pe_op op_mul (pe_ix ix_list (pv 0) pe_int (fun _ _ => rfl)) (pe_ix ix_list (pv 0) pe_int (fun _ _ => rfl))) pe_int) pe_int) (pv 1))))), ?_⟩
    refine ⟨.ref p, rfl, p, _, 0, _, rfl, rfl, .of hp, atI_nat (j := 0) rfl, c, 0, rfl, rfl, _, rfl, ite2 (fun _ => ?_) (fun _ => ?_)⟩
    · have md := mod_in (x := c) m0
      refine ⟨.ref p, rfl, p, _, 0, _, rfl, rfl, .of hp, atI_nat (j := 0) rfl, _, rfl, c, m, rfl, rfl, show m ≠ 0 by omega, ?_⟩
      refine ⟨.ref p, rfl, p, _, 0, _, rfl, rfl, .of hp, atI_nat (j := 0) rfl, _, rfl, c, m, rfl, rfl, divA (b := 200) (by omega) mb (by decide) (by decide), ?_⟩
      refine ⟨.ref p, rfl, p, _, 0, 0, rfl, rfl, hp, rfl, ?_⟩
      refine ⟨_, rfl, ?_⟩
      exact q _ _ md.1 md.2 (drew_upd s0 s1)
    · refine ⟨.ref p, rfl, p, _, 1, _, rfl, rfl, .of hp, atI_nat (j := 1) rfl, sd, 48271, rfl, rfl, .inl ⟨by omega, by omega⟩, _, 11, rfl, rfl, _, 2147483647, rfl, rfl, show (2147483647 : Int) ≠ 0 by decide, ?_⟩
      have m2 := mod_in (x := sd * 48271 + 11) (m := 2147483647) (by decide)
      refine ⟨.ref p, rfl, p, _, 1, 1, rfl, rfl, hp, rfl, ?_⟩
      have hz : (upd H p (.lst [.int c, .int ((sd * 48271 + 11).fmod 2147483647)])) p = some (.lst [.int c, .int ((sd * 48271 + 11).fmod 2147483647)]) := upd_same
      have md := mod_in (x := (((sd * 48271 + 11).fmod 2147483647 * (sd * 48271 + 11).fmod 2147483647).fmod 2147483629).fdiv 64) m0
      refine ⟨.ref p, rfl, p, _, 1, _, rfl, rfl, .of hz, atI_nat (j := 1) rfl, .ref p, rfl, p, _, 1, _, rfl, rfl, .of hz, atI_nat (j := 1) rfl, _, _, rfl, rfl, .inl ⟨by omega, by omega⟩, _, 2147483629, rfl, rfl, show (2147483629 : Int) ≠ 0 by decide,
        _, 64, rfl, rfl, ⟨by decide, by decide⟩, _, rfl, _, m, rfl, rfl, show m ≠ 0 by omega, ?_⟩
      exact q _ _ md.1 md.2 (drew_upd m2.1 m2.2)
/-! ### choices -/
def spChoose (K : PySem.W.Frag) : Sp := fun vs H Q _ => ∃ (p a : Addr) (xs : List V), vs = [.ref p, .ref a] ∧ PoolAt H p ∧ SqL K H a xs ∧ 0 < xs.length ∧ xs.length < 1000 ∧ (∀ H', But p H H' → SqL K H' a xs) ∧ ∀ x H', x ∈ xs → Drew p H H' → Q x H'
theorem ok_Choose {f fD : Addr} {fd dD : FuncData} (D : DefAt K mg "_law_choose" s_law_choose ["pool", "items"] f fd) (DD : DefAt K mg "_law_draw" s_law_draw ["pool", "many"] fD dD) (ml : mg "len" = none) (GD : FnOk P w K mg base (CXl P w) 1 fD dD ["pool", "many"] spDraw) :
    FnOk P w K mg base (CXl P w) 2 f fd ["pool", "items"] (spChoose K) := by
  refine D.F.okX scChoose (fun vs H Q E h => ?_) (fun cdv A outer s H vs Q E hr h => ?_)
  · obtain ⟨p, a, xs, rfl, _⟩ := h
    rfl
  · obtain ⟨p, a, xs, rfl, hp, hS, l0, l1, st, q⟩ := h
    refine ⟨_, pss_one (ps_ret (pe_ix ix_list (pv 1) (pe_call GD hr (by rfl) DD.g DD.F.kp DD.b .nil passL (pa_cons (pv 0) (pa_cons (pe_callB call_len_seq (by rfl) ml PySem.boot_len (pa_cons (pv 1) pa_nil)) pa_nil))) (fun _ _ => rfl))), ?_⟩
    refine ⟨.ref a, rfl, .ref p, rfl, .ref a, rfl, a, _, rfl, .inl hS, p, _, rfl, hp, by omega, ?_, fun d H' d0 d1 dr => ?_⟩
    · refine Nat.lt_of_lt_of_le (show ((xs.length : Nat) : Int).natAbs < 2 ^ 10 by omega) (Nat.pow_le_pow_right (by decide) (by decide))
    · have hi : d.toNat < xs.length := by omega
      refine ⟨a, _, d, xs[d.toNat], rfl, rfl, st H' dr.but, at_of (j := d.toNat) (by omega) (List.getElem?_eq_getElem hi), q _ _ (List.getElem_mem hi) dr⟩
end
end LR
set_option Elab.async false
set_option linter.all false
set_option maxRecDepth 100000
set_option maxHeartbeats 4000000
set_option exponentiation.threshold 100000
namespace LR
open PySem PySem.Spec PyProof.Rows L2
/-- valid pieces of small numbers -/
structure PcsB (cs : List (Rat × Rat)) : Prop where
  ne : 0 < cs.length
  le : cs.length ≤ 20
  zero : (cs.map (·.1)).head? = some 0
  asc : (cs.map (·.1)).Pairwise (· < ·)
  sz : ∀ c ∈ cs, Sz 12 c.1 ∧ Sz 12 c.2
theorem trackGo_sz : ∀ {r : Row} {cs : List (Rat × Rat)} {m i : Nat} {x : Row}, Sz 12 r.b → Sz 12 r.s → Sz m r.p → (∀ c ∈ cs, Sz 12 c.1 ∧ Sz 12 c.2) → (trackGo r cs)[i]? = some x → Sz 12 x.b ∧ Sz 12 x.s ∧ Sz (m + 38 * i) x.p
  | r, [], m, 0, x, h1, h2, h3, _, h => by
    have e : r = x := by simpa [trackGo] using h
    subst e
    exact ⟨h1, h2, h3⟩
  | r, [], m, i + 1, x, _, _, _, _, h => by simp [trackGo] at h
  | r, c :: cs, m, 0, x, h1, h2, h3, _, h => by
    have e : r = x := by simpa [trackGo] using h
    subst e
    exact ⟨h1, h2, h3⟩
  | r, c :: cs, m, i + 1, x, h1, h2, h3, hc, h => by
    have h' : (trackGo (nextRow r c) cs)[i]? = some x := by simpa [trackGo] using h
    obtain ⟨c1, c2⟩ := hc c List.mem_cons_self
    have hp : Sz (m + 38) (nextRow r c).p := (h3.add (h2.mul (c1.sub h1))).mono (by omega)
    obtain ⟨a1, a2, a3⟩ := trackGo_sz (r := nextRow r c) (m := m + 38) c1 c2 hp (fun d hd => hc d (List.mem_cons_of_mem _ hd)) h'
    exact ⟨a1, a2, a3.mono (by omega)⟩
/-- rows of small pieces are not too great -/
theorem PcsB.ok {s0 : Rat} {cs : List (Rat × Rat)} (h : PcsB cs) (z : Sz 300 s0) : PcsOk s0 cs := by
  refine ⟨h.ne, h.le, h.zero, h.asc, fun c hc => ⟨(h.sz c hc).1.mono (by decide), (h.sz c hc).2.mono (by decide)⟩, fun r hr => ?_⟩
  match cs, h, hr with
  | [], h, _ => exact absurd h.ne (by decide)
  | c :: cs, h, hr =>
    obtain ⟨i, hi⟩ := List.mem_iff_getElem?.mp (show r ∈ trackGo ⟨c.1, c.2, s0⟩ cs from hr)
    obtain ⟨c1, c2⟩ := h.sz c List.mem_cons_self
    have il : i < 20 := by
      have := (List.getElem?_eq_some_iff.mp hi).1
      rw [trackGo_len] at this
      have := h.le
      simp at this
      omega
    obtain ⟨z1, z2, z3⟩ := trackGo_sz (r := ⟨c.1, c.2, s0⟩) c1 c2 z (fun d hd => h.sz d (List.mem_cons_of_mem _ hd)) hi
    exact ⟨z1.mono (by decide), z2.mono (by decide), (z3.sub (z2.mul z1)).mono (by omega)⟩
section
variable {K : PySem.W.Frag}
theorem sqt_but {H H' : Hp} {D a : Addr} {xs ys : List V} (hD : H D = some (.lst ys)) (b : But D H H') (h : SqT K H a xs) : SqT K H' a xs := (Odd.lst hD).sqt b h
theorem rn_but {H H' : Hp} {D : Addr} {ys : List V} {x : V} {q : Rat} (hD : H D = some (.lst ys)) (b : But D H H') (h : Rn K H x q) : Rn K H' x q := (Odd.lst hD).rn b h
theorem num_but {H H' : Hp} {D : Addr} {ys : List V} {x : V} {q : Rat} (hD : H D = some (.lst ys)) (b : But D H H') (h : Num K H x q) : Num K H' x q := (Odd.lst hD).num b h
theorem piece_but {H H' : Hp} {D : Addr} {ys : List V} {v : V} {c : Rat × Rat} (hD : H D = some (.lst ys)) (b : But D H H') (h : PieceAt K H v c) : PieceAt K H' v c := let ⟨a, vt, vs, e, h1, h2, h3⟩ := h; ⟨a, vt, vs, e, sqt_but hD b h1, num_but hD b h2, num_but hD b h3⟩
end
end LR
set_option Elab.async false
set_option linter.all false
set_option maxRecDepth 100000
set_option maxHeartbeats 4000000
namespace LR
open PySem PySem.Spec PyProof.Rows L2
theorem scNum : FnScope ["pool", "low", "high", "value"] ["pool", "low", "high"] (defScope s_law_number) := ⟨rfl, rfl, rfl, by decide +kernel, rfl, by decide +kernel, by decide +kernel⟩
theorem scLPcs : FnScope ["pool", "pieces", "time", "turn"] ["pool"] (defScope s_law_pieces) := ⟨rfl, rfl, rfl, by decide +kernel, rfl, by decide +kernel, by decide +kernel⟩
theorem p200 {n : Nat} (h : n < 2 ^ 10) : n < 2 ^ 200 := Nat.lt_of_lt_of_le h (Nat.pow_le_pow_right (by decide) (by decide))
theorem drew_new {p t : Addr} {H G : Hp} {o : HO} (r : Drew p H G) (n : G t = none) : Drew p H (upd G t o) := by
  obtain ⟨c, s, e, h⟩ := r.pool
  exact ⟨fun b y hb z => by rw [upd_ne (ne_of_none (r.but b y hb z) n)]; exact r.but b y hb z, c, s, by rw [upd_ne (ne_of_none e n)]; exact e, h⟩
theorem drew_same {p : Addr} {H G G' : Hp} (r : Drew p H G) (s : Same G G') : Drew p H G' := by
  obtain ⟨c, sd, e, h⟩ := r.pool
  exact ⟨fun b y hb z => s _ _ (r.but b y hb z), c, sd, s _ _ e, h⟩
theorem drew_trans {p : Addr} {H G G' : Hp} (r : Drew p H G) (s : Drew p G G') : Drew p H G' := ⟨fun b y hb z => s.but _ _ hb (r.but b y hb z), s.pool⟩
theorem drew_refl {p : Addr} {H : Hp} (h : PoolAt H p) : Drew p H H := ⟨fun _ _ _ e => e, h⟩
theorem sz_small {n d : Int} (hd : 0 < d) (h1 : n.natAbs < 2 ^ 12) (h2 : d.natAbs < 2 ^ 12) : Sz 12 (Rat.divInt n d) := sz_divInt (by omega) h1 h2
theorem divInt_nn {n d : Int} (hd : 0 < d) (hn : 0 ≤ n) : 0 ≤ Rat.divInt n d := by
  rw [Rat.divInt_nonneg_iff_of_pos_right hd]
  exact hn
section
variable {P : Program} {w : World} {K : PySem.W.Frag} {mg : Str → Option Value} {base : Heap}
def spNum (K : PySem.W.Frag) : Sp := fun vs H Q _ => ∃ (p : Addr) (lo hi : Int), vs = [.ref p, .int lo, .int hi] ∧ PoolAt H p ∧ lo ≤ hi ∧ -100 ≤ lo ∧ hi ≤ 100 ∧ ∀ v q H', Drew p H H' → Num K H' v q → Sz 12 q → (0 ≤ lo → 0 ≤ q) → Q v H'
theorem ok_Num {f fD fR C C2 : Addr} {fd dD dR : FuncData} (D : DefAt K mg "_law_number" s_law_number ["pool", "low", "high"] f fd) (DD : DefAt K mg "_law_draw" s_law_draw ["pool", "many"] fD dD) (DR : DefD K mg "ratio" s_ratio ["numerator", "denominator"] [.int 1] fR dR)
    (GD : FnOk P w K mg base (CXl P w) 1 fD dD ["pool", "many"] spDraw) (GR : FnOk P w K mg base (CXl P w) 2 fR dR ["numerator", "denominator"] (spRatio K C C2)) : FnOk P w K mg base (CXl P w) 3 f fd ["pool", "low", "high"] (spNum K) := by
  refine D.F.okX scNum (fun vs H Q E h => ?_) (fun cdv A outer s H vs Q E hr h => ?_)
  · obtain ⟨p, lo, hi, rfl, _⟩ := h
    rfl
  · obtain ⟨p, lo, hi, rfl, hp, h1, h2, h3, q⟩ := h
    refine ⟨_, pss_cons (ps_set (i := 3) scNum.nd rfl (.inl rfl) (pe_op op_add (pv 1) (pe_call GD (hr.mono (by decide)) (by rfl) DD.g DD.F.kp DD.b .nil passL (pa_cons (pv 0) (pa_cons (pe_op op_add (pe_op op_sub (pv 2) (pv 1)) pe_int) pa_nil)))))
      (pss_cons (ps_if (pt_cmpR op_gt (pe_call GD (hr.mono (by decide)) (by rfl) DD.g DD.F.kp DD.b .nil passL (pa_cons (pv 0) (pa_cons pe_int pa_nil))) pe_int (nomark _)) (pss_one (ps_ret (pv 3))) pss_nil)
      (pss_one (ps_ret (pe_call GR hr (by rfl) DR.g DR.F.kp DR.b .nil passL (pa_cons (pe_op op_add (pe_op op_mul (pv 3) pe_int) (pe_call GD (hr.mono (by decide)) (by rfl) DD.g DD.F.kp DD.b .nil passL (pa_cons (pv 0) (pa_cons pe_int pa_nil)))) (pa_cons (pe_op op_add pe_int (pe_call GD (hr.mono (by decide)) (by rfl) DD.g DD.F.kp DD.b .nil passL (pa_cons (pv 0) (pa_cons pe_int pa_nil)))) pa_nil)))))), ?_⟩
    refine ⟨_, rfl, _, rfl, _, rfl, _, rfl, _, _, rfl, rfl, _, _, rfl, rfl, p, _, rfl, hp, by omega, Nat.lt_of_lt_of_le (show (hi - lo + 1).natAbs < 2 ^ 10 by omega) (Nat.pow_le_pow_right (by decide) (by decide)), fun d H1 d0 d1 r1 => ?_⟩
    refine ⟨_, _, rfl, rfl, ?_⟩
    refine ⟨_, rfl, p, 3, rfl, r1.pool, by decide, p200 (by decide), fun e H2 e0 e1 r2 => ?_⟩
    have r12 := drew_trans r1 r2
    refine ⟨_, _, rfl, rfl, _, rfl, ite2 (fun _ => ?_) (fun _ => ?_)⟩
    · refine ⟨_, rfl, q _ ((lo + d : Int) : Rat) H2 r12 (num_int _) (Sz.int (by decide) ?_) fun h0 => ?_⟩
      · exact Nat.lt_of_lt_of_le (show (lo + d).natAbs < 2 ^ 10 by omega) (by decide)
      · exact Rat.intCast_nonneg.mpr (by omega)
    · refine ⟨_, rfl, _, 2, rfl, rfl, .inl ⟨by omega, by omega⟩, _, rfl, p, 3, rfl, r2.pool, by decide, p200 (by decide), fun a H3 a0 a1 r3 => ⟨_, _, rfl, rfl, ?_⟩⟩
      refine ⟨_, rfl, p, 2, rfl, r3.pool, by decide, p200 (by decide), fun b H4 b0 b1 r4 => ⟨2, _, rfl, rfl, ?_⟩⟩
      have r14 := drew_trans (drew_trans r12 r3) r4
      refine ⟨_, _, "int", "int", rfl, .int _, .int _, givesR_ok (by omega) (Nat.lt_of_lt_of_le (show ((lo + d) * 2 + a).natAbs < 2 ^ 12 by omega) (Nat.pow_le_pow_right (by decide) (by decide))) (Nat.lt_of_lt_of_le (show (2 + b).natAbs < 2 ^ 12 by omega) (Nat.pow_le_pow_right (by decide) (by decide))) fun v H5 s5 r5 => ?_⟩
      exact q v _ H5 (drew_same r14 s5) r5.num (sz_small (by omega) (show ((lo + d) * 2 + a).natAbs < 2 ^ 12 by omega) (show (2 + b).natAbs < 2 ^ 12 by omega)) fun h0 => divInt_nn (by omega) (by omega)
theorem drew_piece {p : Addr} {H G : Hp} {v : V} {c : Rat × Rat} (hp : PoolAt H p) (r : Drew p H G) (h : PieceAt K H v c) : PieceAt K G v c := by
  obtain ⟨_, _, e, _⟩ := hp
  exact piece_but e r.but h
theorem drew_num {p : Addr} {H G : Hp} {v : V} {q : Rat} (hp : PoolAt H p) (r : Drew p H G) (h : Num K H v q) : Num K G v q := by
  obtain ⟨_, _, e, _⟩ := hp
  exact num_but e r.but h
theorem drew_none {p l : Addr} {H G : Hp} (r : Drew p H G) (n : G l = none) : H l = none ∨ l = p := by
  by_cases e : l = p
  · exact .inr e
  · cases h : H l with
    | none => exact .inl rfl
    | some o => rw [r.but _ _ e h] at n; cases n
theorem pool_some {p : Addr} {H : Hp} (h : PoolAt H p) : H p ≠ none := by
  obtain ⟨_, _, e, _⟩ := h
  rw [e]
  simp
theorem drew_upd' {p l : Addr} {H G : Hp} {o : HO} (r : Drew p H G) (n : H l = none) (ne : l ≠ p) : Drew p H (upd G l o) := by
  obtain ⟨c, s, e, h⟩ := r.pool
  exact ⟨fun b y hb z => by rw [upd_ne (ne_of_none z n)]; exact r.but b y hb z, c, s, by rw [upd_ne ne.symm]; exact e, h⟩
/-! ### pieces drawn -/
def spLPcs (K : PySem.W.Frag) : Sp := fun vs H Q _ => ∃ p : Addr, vs = [.ref p] ∧ PoolAt H p ∧ ∀ (l : Addr) cs H', Drew p H H' → PiecesAt K H' (.ref l) cs → PcsB cs → cs.length ≤ 3 → Q (.ref l) H'
theorem ok_LPcs {f fN fP fD fR C C2 : Addr} {fd dN dP dD dR : FuncData} (D : DefAt K mg "_law_pieces" s_law_pieces ["pool"] f fd) (DN : DefAt K mg "_law_number" s_law_number ["pool", "low", "high"] fN dN) (DP : DefAt K mg "plus" s_plus ["first", "second"] fP dP) (DD : DefAt K mg "_law_draw" s_law_draw ["pool", "many"] fD dD) (DR : DefD K mg "ratio" s_ratio ["numerator", "denominator"] [.int 1] fR dR) (mr : mg "range" = none)
    (GN : FnOk P w K mg base (CXl P w) 3 fN dN ["pool", "low", "high"] (spNum K)) (GP : FnOk P w K mg base (CXl P w) 4 fP dP ["first", "second"] (sp_plus K C)) (GD : FnOk P w K mg base (CXl P w) 1 fD dD ["pool", "many"] spDraw) (GR : FnOk P w K mg base (CXl P w) 2 fR dR ["numerator", "denominator"] (spRatio K C C2)) : FnOk P w K mg base (CXl P w) 5 f fd ["pool"] (spLPcs K) := by
  refine D.F.okX scLPcs (fun vs H Q E h => ?_) (fun cdv A outer s H vs Q E hr h => ?_)
  · obtain ⟨p, rfl, _⟩ := h
    rfl
  · obtain ⟨p, rfl, hp, q⟩ := h
    refine ⟨_, pss_cons (ps_par (i := 1) (j := 2) rfl scLPcs.nd rfl rfl (by decide) rfl rfl (pa_cons (pe_lst (pa_cons (pe_tup (pa_cons pe_int (pa_cons (pe_call GN (hr.mono (by decide)) (by rfl) DN.g DN.F.kp DN.b .nil passL (pa_cons (pv 0) (pa_cons (pe_un un_neg pe_int) (pa_cons pe_int pa_nil)))) pa_nil))) pa_nil)) (pa_cons pe_int pa_nil)) (by rfl))
      (pss_cons (ps_for (passes_of rfl) rfl (pi_range1 rfl mr (pa_cons (pe_call GD (hr.mono (by decide)) (by rfl) DD.g DD.F.kp DD.b .nil passL (pa_cons (pv 0) (pa_cons pe_int pa_nil))) pa_nil)) (pg_name (i := 3) scLPcs.nd rfl (.inl rfl))
        (pss_cons (ps_set (i := 2) scLPcs.nd rfl (.inl rfl) (pe_call GP hr (by rfl) DP.g DP.F.kp DP.b .nil passL (pa_cons (pv 2) (pa_cons (pe_call GR (hr.mono (by decide)) (by rfl) DR.g DR.F.kp DR.b .nil passL (pa_cons (pe_op op_add pe_int (pe_call GD (hr.mono (by decide)) (by rfl) DD.g DD.F.kp DD.b .nil passL (pa_cons (pv 0) (pa_cons pe_int pa_nil)))) (pa_cons (pe_op op_add pe_int (pe_call GD (hr.mono (by decide)) (by rfl) DD.g DD.F.kp DD.b .nil passL (pa_cons (pv 0) (pa_cons pe_int pa_nil)))) pa_nil))) pa_nil))))
        (pss_one (ps_expr (pe_bm PySem.F.plainAttrs_list PySem.F.slot_list_append PySem.F.type_list_append mt_append (pv 1) (pa_cons (pe_tup (pa_cons (pv 2) (pa_cons (pe_call GN (hr.mono (by decide)) (by rfl) DN.g DN.F.kp DN.b .nil passL (pa_cons (pv 0) (pa_cons (pe_un un_neg pe_int) (pa_cons pe_int pa_nil)))) pa_nil))) pa_nil))))))
      (pss_one (ps_ret (pv 1)))), ?_⟩
    refine ⟨_, rfl, 4, rfl, p, -4, 4, rfl, hp, by decide, by decide, by decide, fun v0 q0 H1 r1 n1 z1 _ => ?_⟩
    refine ⟨by show 2 ≤ sizeLine; decide, fun T0 nT0 => ?_⟩
    have hT0 : (upd H1 T0 (.tup [.int 0, v0])) T0 = some (.tup [.int 0, v0]) := upd_same
    have rT : Drew p H (upd H1 T0 (.tup [.int 0, v0])) := drew_new r1 nT0
    have sT : Same H1 (upd H1 T0 (.tup [.int 0, v0])) := same_new nT0
    generalize (upd H1 T0 (.tup [.int 0, v0])) = H2 at hT0 rT sT ⊢
    refine ⟨by show 1 ≤ sizeLine; decide, fun l nl => ⟨_, _, rfl, ?_⟩⟩
    have nlp : l ≠ p := fun e => by rw [e] at nl; exact pool_some rT.pool nl
    have nl0 : H l = none := (drew_none rT nl).resolve_right nlp
    have hl : (upd H2 l (.lst [.ref T0])) l = some (.lst [.ref T0]) := upd_same
    have r2 : Drew p H (upd H2 l (.lst [.ref T0])) := drew_upd' rT nl0 nlp
    have s2 : Same H2 (upd H2 l (.lst [.ref T0])) := same_new nl
    have pc0 : PieceAt K (upd H2 l (.lst [.ref T0])) (.ref T0) (((0 : Int) : Rat), q0) := ⟨T0, .int 0, v0, rfl, .inl (.inl (s2 _ _ hT0)), num_int 0, (n1.same sT).same s2⟩
    generalize (upd H2 l (.lst [.ref T0])) = H3 at hl r2 s2 pc0 ⊢
    refine ⟨_, rfl, p, 3, rfl, r2.pool, by decide, p200 (by decide), fun m H4 m0 m1 r4 => ?_⟩
    refine ⟨m, rfl, by omega, by omega, for_range (lo := 0) (fun i σ G => Drew p H G ∧ ∃ tv T cs acc o, σ = [some (.ref p), some (.ref l), some tv, o] ∧ G l = some (.lst acc) ∧ All2 (PieceAt K G) acc cs ∧ PcsB cs ∧ cs.length = i + 1 ∧ Num K G tv T ∧ (∀ c ∈ cs, c.1 ≤ T) ∧ Sz (1 + 4 * i) T)
      ⟨drew_trans r2 r4, .int 0, ((0 : Int) : Rat), [(((0 : Int) : Rat), q0)], [.ref T0], none, rfl, r4.but _ _ nlp hl, .cons (drew_piece r2.pool r4 pc0) .nil, ⟨by show 0 < 1; decide, by show 1 ≤ 20; decide, rfl, List.pairwise_singleton _ _, ?_⟩, rfl, num_int 0, ?_, Sz.int (by decide) (by decide)⟩ (fun i σ G hi hP => ?_) (fun σ G hP => ?_)⟩
    · intro c hc
      rw [List.mem_singleton.mp hc]
      exact ⟨Sz.int (by decide) (by decide), z1⟩
    · intro c hc
      rw [List.mem_singleton.mp hc]
      exact Rat.le_refl
    · obtain ⟨rG, tv, T, cs, acc, o, rfl, hG, hAll, ok, lcs, hT, hle, zT⟩ := hP
      have i2 : i ≤ 1 := by omega
      refine ⟨tv, rfl, _, rfl, p, 6, rfl, rG.pool, by decide, p200 (by decide), fun a G1 a0 a1 t1 => ⟨1, _, rfl, rfl, ?_⟩⟩
      refine ⟨_, rfl, p, 3, rfl, t1.pool, by decide, p200 (by decide), fun b G2 b0 b1 t2 => ⟨1, _, rfl, rfl, ?_⟩⟩
      have zr : Sz 3 (Rat.divInt (1 + a) (1 + b)) := sz_divInt (by omega) (by show (1 + a).natAbs < 8; omega) (by show (1 + b).natAbs < 8; omega)
      have pr : 0 < Rat.divInt (1 + a) (1 + b) := by
        have hn : (0 : Rat) < ((1 + a : Int) : Rat) := Rat.intCast_pos.mpr (by omega)
        have hd : (0 : Rat) < ((1 + b : Int) : Rat) := Rat.intCast_pos.mpr (by omega)
        rw [Rat.divInt_eq_div, Rat.div_def]
        exact Rat.mul_pos hn (Rat.inv_pos.mpr hd)
      refine ⟨_, _, "int", "int", rfl, .int _, .int _, givesR_ok (by omega) (Nat.lt_of_lt_of_le (show (1 + a).natAbs < 2 ^ 12 by omega) (Nat.pow_le_pow_right (by decide) (by decide))) (Nat.lt_of_lt_of_le (show (1 + b).natAbs < 2 ^ 12 by omega) (Nat.pow_le_pow_right (by decide) (by decide))) fun v G3 s3 e3 => ?_⟩
      generalize Rat.divInt (1 + a) (1 + b) = ra at zr pr e3
      have t12 := drew_trans t1 t2
      have hT3 : Num K G3 tv T := (drew_num t1.pool t2 (drew_num rG.pool t1 hT)).same s3
      refine ⟨tv, v, some T, some ra, rfl, hT3, e3.num, ⟨zT.mono (by omega), zr.mono (by decide)⟩, fun tv' G4 s4 e4 => ?_⟩
      have e4 : Rn K G4 tv' (T + ra) := e4
      have rG4 : Drew p G G4 := drew_same (drew_same t12 s3) s4
      have zT' : Sz (1 + 4 * (i + 1)) (T + ra) := (zT.add zr).mono (by omega)
      refine ⟨.ref l, rfl, .inl ⟨rfl, _, .of (rG4.but _ _ nlp hG)⟩, tv', rfl, _, rfl, 4, rfl, p, -4, 4, rfl, rG4.pool, by decide, by decide, by decide, fun sv sq G5 r5 n5 z5 _ => ?_⟩
      have rG5 := drew_trans rG4 r5
      have e5 : Num K G5 tv' (T + ra) := drew_num rG4.pool r5 e4.num
      refine ⟨by show 2 ≤ sizeLine; decide, fun T2 nT2 => ?_⟩
      have hT2 : (upd G5 T2 (.tup [tv', sv])) T2 = some (.tup [tv', sv]) := upd_same
      have sT2 : Same G5 (upd G5 T2 (.tup [tv', sv])) := same_new nT2
      generalize (upd G5 T2 (.tup [tv', sv])) = G6 at hT2 sT2 ⊢
      have rG6 := drew_same rG5 sT2
      have hG6 := sT2 _ _ (rG5.but _ _ nlp hG)
      have al := hAll.len
      refine ⟨l, acc, .ref T2, rfl, rfl, hG6, small1000 (by omega), ?_⟩
      have pcN : PieceAt K G6 (.ref T2) (T + ra, sq) := ⟨T2, tv', sv, rfl, .inl (.inl hT2), e5.same sT2, n5.same sT2⟩
      have b6 : But l G6 (upd G6 l (.lst (acc ++ [.ref T2]))) := but_new
      have hl7 : (upd G6 l (.lst (acc ++ [.ref T2]))) l = some (.lst (acc ++ [.ref T2])) := upd_same
      have r7 : Drew p H (upd G6 l (.lst (acc ++ [.ref T2]))) := drew_upd' (drew_trans rG rG6) nl0 nlp
      generalize (upd G6 l (.lst (acc ++ [.ref T2]))) = G7 at b6 hl7 r7 ⊢
      refine ⟨r7, tv', T + ra, cs ++ [(T + ra, sq)], _, _, rfl, hl7, ?_, ?_, by rw [List.length_append, lcs]; rfl, num_but hG6 b6 (e5.same sT2), ?_, zT'⟩
      · exact (hAll.imp fun _ _ z => piece_but hG6 b6 ((drew_piece rG.pool rG5 z).same sT2)).snoc (piece_but hG6 b6 pcN)
      · refine ⟨by rw [List.length_append]; show 0 < cs.length + 1; omega, by rw [List.length_append]; show cs.length + 1 ≤ 20; omega, ?_, ?_, ?_⟩
        · have z := ok.zero
          cases cs with
          | nil => cases z
          | cons c cs => exact z
        · rw [List.map_append]
          refine List.pairwise_append.mpr ⟨ok.asc, List.pairwise_singleton _ _, fun x hx y hy => ?_⟩
          rw [List.mem_singleton.mp hy]
          obtain ⟨c, hc, rfl⟩ := List.mem_map.mp hx
          have := hle c hc
          show c.1 < T + ra
          grind
        · intro c hc
          rcases List.mem_append.mp hc with h | h
          · exact ok.sz c h
          · rw [List.mem_singleton.mp h]
            exact ⟨zT'.mono (by omega), z5⟩
      · intro c hc
        rcases List.mem_append.mp hc with h | h
        · have := hle c h
          grind
        · rw [List.mem_singleton.mp h]
          exact Rat.le_refl
    · obtain ⟨rG, tv, T, cs, acc, o, rfl, hG, hAll, ok, lcs, _⟩ := hP
      exact ⟨.ref l, rfl, q l cs G rG ⟨l, acc, rfl, hG, hAll⟩ ok (by omega)⟩
end
end LR
set_option Elab.async false
set_option linter.all false
set_option maxRecDepth 100000
set_option maxHeartbeats 4000000
namespace LR
open PySem PySem.Spec PyProof.Rows L2
theorem scLRace : FnScope ["pool", "many", "runners", "name"] ["pool", "many"] (defScope s_law_race) := ⟨rfl, rfl, rfl, by decide +kernel, rfl, by decide +kernel, by decide +kernel⟩
abbrev ns4 : List Str := ["a", "b", "c", "d"]
theorem ns4_ok : ∀ n ∈ ns4, NameOk n := by
  intro n hn
  simp only [List.mem_cons, List.not_mem_nil, or_false] at hn
  rcases hn with rfl | rfl | rfl | rfl
  · exact ⟨by decide, by decide, by decide +kernel, by decide +kernel, by decide +kernel, 97, by decide +kernel, by decide +kernel⟩
  · exact ⟨by decide, by decide, by decide +kernel, by decide +kernel, by decide +kernel, 98, by decide +kernel, by decide +kernel⟩
  · exact ⟨by decide, by decide, by decide +kernel, by decide +kernel, by decide +kernel, 99, by decide +kernel, by decide +kernel⟩
  · exact ⟨by decide, by decide, by decide +kernel, by decide +kernel, by decide +kernel, 100, by decide +kernel, by decide +kernel⟩
theorem ns4_nd : ns4.Nodup := by decide +kernel
def q52 : Rat := ⟨5, 2, by decide, by decide⟩
theorem cut_to (xs : List V) (m : Nat) : cutV xs none (some (m : Int)) = xs.take m := by
  unfold cutV
  rw [HT.sIx_none, HT.sIx_nat]
  simp
/-- a runner of small numbers -/
structure Rn1B (r : Rn1) : Prop where
  nm : NameOk r.n
  sz : Sz 100 r.q
  pc : PcsB r.cs
theorem Rn1B.ok {r : Rn1} {L : Rat} (h : Rn1B r) (L0 : 0 < L) (zL : Sz 100 L) : Rn1Ok L r := ⟨h.nm, h.sz, h.pc.ok ((h.sz.rem zL L0).mono (by decide))⟩
/-- a race that was made of valid runners -/
structure Good (L : Rat) (rs : List Rn1) : Prop where
  L0 : 0 < L
  zL : Sz 100 L
  ok : ∀ r ∈ rs, Rn1B r
  nd : (rs.map (·.n)).Nodup
  ne : 0 < rs.length
  le : rs.length ≤ 12
section
variable {P : Program} {w : World} {K : PySem.W.Frag} {mg : Str → Option Value} {base : Heap}
theorem pieces_ne {p l : Addr} {G : Hp} {cs : List (Rat × Rat)} (hp : PoolAt G p) (h : PiecesAt K G (.ref l) cs) : l ≠ p := by
  intro e
  obtain ⟨c, s, hp, _⟩ := hp
  obtain ⟨a, xs, e2, ha, hA⟩ := h
  cases e2
  subst e
  rw [hp] at ha
  cases ha
  cases hA with
  | cons h _ =>
    obtain ⟨a, _, _, e, _⟩ := h
    cases e
theorem drew_pieces {p : Addr} {H G : Hp} {v : V} {cs : List (Rat × Rat)} (hp : PoolAt H p) (r : Drew p H G) (h : PiecesAt K H v cs) : PiecesAt K G v cs := by
  obtain ⟨a, xs, rfl, ha, hA⟩ := id h
  exact ⟨a, xs, rfl, r.but _ _ (pieces_ne hp h) ha, hA.imp fun _ _ z => drew_piece hp r z⟩
theorem drew_run {p : Addr} {H G : Hp} {v : V} {q : Rat} {cs : List (Rat × Rat)} (hp : PoolAt H p) (r : Drew p H G) (h : RunAt K H v q cs) : RunAt K G v q cs := by
  obtain ⟨a, vs, vp, rfl, h1, h2, h3⟩ := h
  obtain ⟨_, _, e, _⟩ := id hp
  exact ⟨a, vs, vp, rfl, sqt_but e r.but h1, drew_num hp r h2, drew_pieces hp r h3⟩
def spLRace (K : PySem.W.Frag) (C : Addr) : Sp := fun vs H Q _ => ∃ (p : Addr) (m : Nat), vs = [.ref p, .int m] ∧ PoolAt H p ∧ 1 ≤ m ∧ m ≤ 3 ∧ ∀ (v : V) (L : Rat) (rs : List Rn1) (tr : List (Str × List Row)) H', Drew p H H' → tr.Perm (rs.map (Rn1.tr L)) → RaceAt K C H' v L tr → Good L rs → rs.length ≤ 3 → (∀ r ∈ rs, r.cs.length ≤ 3) → Q v H'
theorem ok_LRace {f C fN fP fC fI : Addr} {fd dN dP dC dI : FuncData} (D : DefAt K mg "_law_race" s_law_race ["pool", "many"] f fd) (DN : DefAt K mg "_law_number" s_law_number ["pool", "low", "high"] fN dN) (DP : DefAt K mg "_law_pieces" s_law_pieces ["pool"] fP dP) (DC : DefAt K mg "_law_choose" s_law_choose ["pool", "items"] fC dC) (MK : Mk K C fI) (mC : mg "Race" = some (.ref C)) (bI : Binds K dI ["self", "length", "runners"] [])
    (GN : FnOk P w K mg base (CXl P w) 3 fN dN ["pool", "low", "high"] (spNum K)) (GP : FnOk P w K mg base (CXl P w) 5 fP dP ["pool"] (spLPcs K)) (GC : FnOk P w K mg base (CXl P w) 2 fC dC ["pool", "items"] (spChoose K)) (GI : FnOk P w K mg base (CXl P w) 6 fI dI ["self", "length", "runners"] (spInit K C)) :
    FnOk P w K mg base (CXl P w) 9 f fd ["pool", "many"] (spLRace K C) := by
  refine D.F.okX scLRace (fun vs H Q E h => ?_) (fun cdv A outer s H vs Q E hr h => ?_)
  · obtain ⟨p, m, rfl, _⟩ := h
    rfl
  · obtain ⟨p, m, rfl, hp, m1, m3, q⟩ := h
    refine ⟨_, pss_cons (ps_set (i := 2) scLRace.nd rfl (.inl rfl) pe_dnewK)
      (pss_cons (ps_for (passes_of rfl) rfl (pi_list (pe_slice sl_list (pe_lst (pa_cons pe_str (pa_cons pe_str (pa_cons pe_str (pa_cons pe_str pa_nil))))) po_none (po_some (pv 1)))) (pg_name (i := 3) scLRace.nd rfl (.inl rfl))
        (pss_one (ps_dput (hu_of hr) (pv 2) (pv 3) (pe_tup (pa_cons (pe_call GN (hr.mono (by decide)) (by rfl) DN.g DN.F.kp DN.b .nil passL (pa_cons (pv 0) (pa_cons (pe_un un_neg pe_int) (pa_cons pe_int pa_nil)))) (pa_cons (pe_call GP (hr.mono (by decide)) (by rfl) DP.g DP.F.kp DP.b .nil passL (pa_cons (pv 0) pa_nil)) pa_nil))) rfl)))
      (pss_one (ps_ret (pe_make MK GI (hr.mono (by decide)) rfl mC bI .nil passL (pa_cons (pe_call GC (hr.mono (by decide)) (by rfl) DC.g DC.F.kp DC.b .nil passL (pa_cons (pv 0) (pa_cons (pe_lst (pa_cons pe_int (pa_cons pe_int (pa_cons pe_int (pa_cons (pe_tup (pa_cons pe_int (pa_cons pe_int pa_nil))) (pa_cons pe_int (pa_cons pe_int pa_nil))))))) pa_nil))) (pa_cons (pv 2) pa_nil)))))), ?_⟩
    intro d nd
    have ndp : d ≠ p := fun e => by rw [e] at nd; exact pool_some hp nd
    have r1 : Drew p H (upd H d (.dK [])) := drew_new (drew_refl hp) nd
    have hd1 : (upd H d (.dK [])) d = some (.dK []) := upd_same
    refine ⟨by show 4 ≤ sizeLine; decide, fun W nW => ?_⟩
    have s2 : Same (upd H d (.dK [])) (upd (upd H d (.dK [])) W (.lst ([.str "a", .str "b", .str "c", .str "d"] : List V))) := same_new nW
    have hW : (upd (upd H d (.dK [])) W (.lst ([.str "a", .str "b", .str "c", .str "d"] : List V))) W = some (.lst ([.str "a", .str "b", .str "c", .str "d"] : List V)) := upd_same
    have r2 := drew_same r1 s2
    have hd2 := s2 _ _ hd1
    refine ⟨_, rfl, (m : Int), rfl, W, ([.str "a", .str "b", .str "c", .str "d"] : List V), rfl, .of hW, fun L0 nL0 => ?_⟩
    rw [cut_to]
    have s3 := same_new (o := .lst (([.str "a", .str "b", .str "c", .str "d"] : List V).take m)) nL0
    have hL3 : (upd (upd (upd H d (.dK [])) W (.lst ([.str "a", .str "b", .str "c", .str "d"] : List V))) L0 (.lst (([.str "a", .str "b", .str "c", .str "d"] : List V).take m))) L0 = some (.lst (([.str "a", .str "b", .str "c", .str "d"] : List V).take m)) := upd_same
    have r3 := drew_same r2 s3
    have hd3 := s3 _ _ hd2
    show ∃ l, _
    generalize (upd (upd (upd H d (.dK [])) W (.lst ([.str "a", .str "b", .str "c", .str "d"] : List V))) L0 (.lst (([.str "a", .str "b", .str "c", .str "d"] : List V).take m))) = H3 at s3 hL3 r3 hd3 ⊢
    have nLp : L0 ≠ p := fun e => by rw [e] at nL0; exact pool_some r2.pool nL0
    have nLd : L0 ≠ d := fun e => by
      have z : (upd (upd H d (.dK [])) W (.lst ([.str "a", .str "b", .str "c", .str "d"] : List V))) L0 = none := nL0
      rw [e, hd2] at z
      cases z
    have ntm : ([.str "a", .str "b", .str "c", .str "d"] : List V).take m = (ns4.take m).map V.str := by rw [List.map_take]; rfl
    have ltm : (ns4.take m).length = m := by rw [List.length_take]; show min m 4 = m; omega
    refine ⟨L0, rfl, ⟨_, .of hL3⟩, for_list (xs := ([.str "a", .str "b", .str "c", .str "d"] : List V).take m) (fun i σ G => Drew p H G ∧ G L0 = some (.lst (([.str "a", .str "b", .str "c", .str "d"] : List V).take m)) ∧ ∃ ks rs o, σ = [some (.ref p), some (.int m), some (.ref d), o] ∧ G d = some (.dK ks) ∧ All2 (RnEnt K G) ks rs ∧ rs.map (·.n) = (ns4.take m).take i ∧ (∀ r ∈ rs, Rn1B r) ∧ ∀ r ∈ rs, r.cs.length ≤ 3)
      ⟨r3, hL3, [], [], none, rfl, hd3, .nil, rfl, (fun _ h => by cases h), fun _ h => by cases h⟩ (fun i σ G _ hP => .of hP.2.1) (fun i x σ G hx hP => ?_) (fun σ G hP => ?_)⟩
    · obtain ⟨rG, hLG, ks, rs, o, rfl, hdG, hAll, hn, hok, h3⟩ := hP
      rw [ntm, List.getElem?_map] at hx
      obtain ⟨n, hni, rfl⟩ := Option.map_eq_some_iff.mp hx
      have il : i < m := by
        have := (List.getElem?_eq_some_iff.mp hni).1
        rw [ltm] at this
        exact this
      have nm : n ∈ ns4 := List.mem_of_mem_take (List.mem_of_getElem? hni)
      refine ⟨_, rfl, 3, rfl, p, -3, 9, rfl, rG.pool, by decide, by decide, by decide, fun v sq G1 t1 e1 z1 _ => ?_⟩
      refine ⟨_, rfl, p, rfl, t1.pool, fun l cs G2 t2 hcs ok2 l3 => ?_⟩
      have t12 := drew_trans t1 t2
      refine ⟨by show 2 ≤ sizeLine; decide, fun T nT => ?_⟩
      have hT : (upd G2 T (.tup [v, .ref l])) T = some (.tup [v, .ref l]) := upd_same
      have sT : Same G2 (upd G2 T (.tup [v, .ref l])) := same_new nT
      generalize (upd G2 T (.tup [v, .ref l])) = G3 at hT sT ⊢
      have t13 := drew_same t12 sT
      have rG3 := drew_trans rG t13
      have hd3' := t13.but _ _ ndp hdG
      have hE3 : All2 (RnEnt K G3) ks rs := hAll.imp fun _ _ z => ⟨z.1, (drew_run rG.pool t12 z.2).same sT⟩
      have rn : RunAt K G3 (.ref T) sq cs := ⟨T, v, .ref l, rfl, .inl (.inl hT), (drew_num t1.pool t2 e1).same sT, hcs.same sT⟩
      have kl : ks.length ≤ 1000 := by
        have a1 := hAll.len
        have a2 : rs.length = ((ns4.take m).take i).length := by rw [← hn, List.length_map]
        rw [List.length_take, ltm] at a2
        omega
      refine ⟨_, rfl, _, rfl, d, _, rfl, DPut.k (k := Sum.inr n) hd3' (small1000 kl), ?_⟩
      have hnot : valV ks (Sum.inr n : Key) = none := by
        have go : ∀ {ks : List (Key × V)} {rs : List Rn1}, All2 (RnEnt K G3) ks rs → n ∉ rs.map (·.n) → valV ks (Sum.inr n : Key) = none := by
          intro ks rs h
          induction h with
          | nil => intro _; rfl
          | @cons kv r ks rs h1 t ih =>
            intro hn
            have ne : ¬ kv.1 = (Sum.inr n : Key) := fun z => hn (List.mem_map.mpr ⟨r, List.mem_cons_self, Sum.inr.inj (h1.1.symm.trans z)⟩)
            rw [valV_neg ne]
            exact ih fun z => hn (List.mem_cons_of_mem _ z)
        refine go hE3 ?_
        rw [hn]
        intro hm
        obtain ⟨j, hj⟩ := List.mem_iff_getElem?.mp hm
        have hjl : j < i := by
          have := (List.getElem?_eq_some_iff.mp hj).1
          rw [List.length_take] at this
          omega
        rw [List.getElem?_take_of_lt hjl] at hj
        obtain ⟨a1, a2⟩ := List.getElem?_eq_some_iff.mp hni
        obtain ⟨b1, b2⟩ := List.getElem?_eq_some_iff.mp hj
        have ndt : (ns4.take m).Nodup := ns4_nd.sublist (List.take_sublist _ _)
        exact List.pairwise_iff_getElem.mp ndt j i b1 a1 hjl (b2.trans a2.symm)
      rw [putK_new _ hnot]
      have Od := OddL.dk hd3'
      have hd4 : (upd G3 d (.dK (ks ++ [(Sum.inr n, .ref T)]))) d = some (.dK (ks ++ [(Sum.inr n, .ref T)])) := upd_same
      have bd : But d G3 (upd G3 d (.dK (ks ++ [(Sum.inr n, .ref T)]))) := but_new
      have r4 : Drew p H (upd G3 d (.dK (ks ++ [(Sum.inr n, .ref T)]))) := drew_upd' rG3 nd ndp
      generalize (upd G3 d (.dK (ks ++ [(Sum.inr n, .ref T)]))) = G4 at hd4 bd r4 ⊢
      refine ⟨r4, bd _ _ nLd (t13.but _ _ nLp hLG), _, rs ++ [⟨n, sq, cs⟩], _, rfl, hd4, (hE3.imp fun _ _ z => ⟨z.1, Od.run bd z.2⟩).snoc ⟨rfl, Od.run bd rn⟩, ?_, fun r hr' => ?_, fun r hr' => ?_⟩
      · rw [List.map_append, hn, take_snoc hni]
        rfl
      · rcases List.mem_append.mp hr' with h | h
        · exact hok r h
        · rw [List.mem_singleton.mp h]
          exact ⟨ns4_ok n nm, z1.mono (by decide), ok2⟩
      · rcases List.mem_append.mp hr' with h | h
        · exact h3 r h
        · rw [List.mem_singleton.mp h]
          exact l3
    · obtain ⟨rG, hLG, ks, rs, o, rfl, hdG, hAll, hn, hok, h3⟩ := hP
      rw [List.length_take] at hn
      have hn : rs.map (·.n) = ns4.take m := by
        rw [hn]
        exact List.take_of_length_le (by rw [ltm]; show m ≤ min m 4; omega)
      have lrs : rs.length = m := by rw [← List.length_map (f := (·.n)), hn, ltm]
      refine ⟨_, rfl, by show 2 ≤ sizeLine; decide, fun T nT => ?_⟩
      have hT : (upd G T (.tup [.int 5, .int 2])) T = some (.tup [.int 5, .int 2]) := upd_same
      have sT : Same G (upd G T (.tup [.int 5, .int 2])) := same_new nT
      generalize (upd G T (.tup [.int 5, .int 2])) = G1 at hT sT ⊢
      refine ⟨by show 6 ≤ sizeLine; decide, fun M nM => ?_⟩
      have hM : (upd G1 M (.lst [.int 10, .int 7, .int 1, .ref T, .int 12, .int 3])) M = some (.lst [.int 10, .int 7, .int 1, .ref T, .int 12, .int 3]) := upd_same
      have sM : Same G1 (upd G1 M (.lst [.int 10, .int 7, .int 1, .ref T, .int 12, .int 3])) := same_new nM
      have nMp : M ≠ p := fun e => by rw [e] at nM; exact pool_some (drew_same rG sT).pool nM
      generalize (upd G1 M (.lst [.int 10, .int 7, .int 1, .ref T, .int 12, .int 3])) = G2 at hM sM ⊢
      have rG2 := drew_same (drew_same rG sT) sM
      have sG2 := sT.trans sM
      refine ⟨p, M, _, rfl, rG2.pool, .of hM, by show 0 < 6; decide, by show 6 < 1000; decide, fun H' bb => .of (bb _ _ nMp hM), fun x G3 hx t3 => ?_⟩
      have hTT : Rn K G3 (.ref T) q52 := by
        obtain ⟨c5, s5, e5, _⟩ := rG2.pool
        exact rn_but e5 t3.but ⟨T, rfl, .inl (.inl (sM _ _ hT))⟩
      obtain ⟨L, hxL, L0, zL⟩ : ∃ L, Num K G3 x L ∧ 0 < L ∧ Sz 100 L := by
        have gi : ∀ i : Int, 0 < i → i.natAbs < 2 ^ 100 → ∃ L, Num K G3 (.int i) L ∧ 0 < L ∧ Sz 100 L := fun i h0 h1 => ⟨_, num_int i, Rat.intCast_pos.mpr h0, Sz.int (by decide) h1⟩
        simp only [List.mem_cons, List.not_mem_nil, or_false] at hx
        rcases hx with rfl | rfl | rfl | rfl | rfl | rfl
        · exact gi 10 (by decide) (by decide)
        · exact gi 7 (by decide) (by decide)
        · exact gi 1 (by decide) (by decide)
        · exact ⟨q52, hTT.num, num_pos_iff.mp (by decide), by decide, by decide⟩
        · exact gi 12 (by decide) (by decide)
        · exact gi 3 (by decide) (by decide)
      have rG3 := drew_trans rG2 t3
      have hd3' := t3.but _ _ ndp (sG2 _ _ hdG)
      have hE3 : All2 (RnEnt K G3) ks rs := hAll.imp fun _ _ z => ⟨z.1, drew_run rG2.pool t3 (z.2.same sG2)⟩
      refine ⟨_, rfl, fun pr dx nx ndx nex => ?_⟩
      have sI : Same G3 (upd (upd G3 dx (.own pr)) pr (.ins C dx [])) := fun b y e => by rw [upd_ne (ne_of_none e nx), upd_ne (ne_of_none e ndx)]; exact e
      have hI : (upd (upd G3 dx (.own pr)) pr (.ins C dx [])) pr = some (.ins C dx []) := upd_same
      generalize (upd (upd G3 dx (.own pr)) pr (.ins C dx [])) = G4 at sI hI ⊢
      refine ⟨pr, dx, d, x, L, ks, rs, rfl, hI, hxL.same sI, L0, zL, sI _ _ hd3', hE3.imp fun _ _ z => ⟨z.1, z.2.same sI⟩, fun r hr' => (hok r hr').ok L0 zL, by rw [hn]; exact ns4_nd.sublist (List.take_sublist _ _), by omega, by omega, fun tr H' pm _ bt hR => ⟨rfl, ?_⟩⟩
      have npr : pr ≠ p := fun e => by rw [e] at nx; exact pool_some rG3.pool nx
      refine q _ L rs tr H' ?_ pm hR ⟨L0, zL, hok, by rw [hn]; exact ns4_nd.sublist (List.take_sublist _ _), by omega, by omega⟩ (by omega) h3
      have r5 := drew_same rG3 sI
      refine ⟨fun b y hb e => ?_, ?_⟩
      · have e2 := rG3.but _ _ hb e
        exact bt _ _ (ne_of_none e2 nx) (sI _ _ e2)
      · obtain ⟨c, sd, e, hh⟩ := r5.pool
        exact ⟨c, sd, bt _ _ npr.symm e, hh⟩
end
end LR
set_option Elab.async false
set_option linter.all false
set_option maxRecDepth 100000
set_option maxHeartbeats 4000000
namespace LR
open PySem PySem.Spec PyProof.Rows L2
/-! ### positions, plainly -/
def posGo (t : Rat) : Row → List (Rat × Rat) → Rat
  | r, [] => r.p + r.s * (t - r.b)
  | r, c :: cs => if c.1 ≤ t then posGo t (nextRow r c) cs else r.p + r.s * (t - r.b)
theorem trackGo_b : ∀ (r : Row) (cs : List (Rat × Rat)), (trackGo r cs).map (·.b) = r.b :: cs.map (·.1)
  | _, [] => rfl
  | r, c :: cs => by
    show r.b :: (trackGo (nextRow r c) cs).map (·.b) = _
    rw [trackGo_b (nextRow r c) cs]
    rfl
theorem trackGo_cons : ∀ (r : Row) (cs : List (Rat × Rat)), ∃ tl, trackGo r cs = r :: tl
  | _, [] => ⟨_, rfl⟩
  | _, _ :: _ => ⟨_, rfl⟩
abbrev Asc (r : Row) (cs : List (Rat × Rat)) : Prop := (r.b :: cs.map (·.1)).Pairwise (· < ·)
theorem Asc.next {r : Row} {c : Rat × Rat} {cs : List (Rat × Rat)} (h : Asc r (c :: cs)) : Asc (nextRow r c) cs := (List.pairwise_cons.mp h).2
/-- the row that is found gives the position -/
theorem go_at (t : Rat) : ∀ (cs : List (Rat × Rat)) (r g : Row), r.b ≤ t → (rowGo t g (trackGo r cs)).at_ t = posGo t r cs
  | [], r, g, hb => by
    show (if t < r.b then g else rowGo t r []).at_ t = _
    rw [if_neg (Rat.not_lt.mpr hb)]
    rfl
  | c :: cs, r, g, hb => by
    show (if t < r.b then g else rowGo t r (trackGo (nextRow r c) cs)).at_ t = if c.1 ≤ t then _ else _
    rw [if_neg (Rat.not_lt.mpr hb)]
    by_cases h : c.1 ≤ t
    · rw [if_pos h]
      exact go_at t cs (nextRow r c) r h
    · rw [if_neg h]
      obtain ⟨tl, e⟩ := trackGo_cons (nextRow r c) cs
      rw [e]
      show (if t < c.1 then r else _).at_ t = _
      rw [if_pos (Rat.not_le.mp h)]
      rfl
/-- where the next piece begins at t or later -/
theorem posGo_le {t : Rat} {r : Row} {cs : List (Rat × Rat)} (ha : Asc r cs) (hb : r.b ≤ t) (h : ∀ c cs', cs = c :: cs' → ¬ c.1 < t) : posGo t r cs = r.p + r.s * (t - r.b) := by
  cases cs with
  | nil => rfl
  | cons c cs =>
    have h1 := h c cs rfl
    show (if c.1 ≤ t then _ else _) = _
    by_cases h2 : c.1 ≤ t
    · rw [if_pos h2]
      have e : c.1 = t := by grind
      cases cs with
      | nil =>
        show r.p + r.s * (c.1 - r.b) + c.2 * (t - c.1) = _
        rw [e]
        grind
      | cons d cs =>
        have hd : ¬ d.1 ≤ t := by
          have := (List.pairwise_cons.mp ha.next).1 d.1 List.mem_cons_self
          have h4 : (nextRow r c).b = c.1 := rfl
          rw [h4] at this
          grind
        show (if d.1 ≤ t then _ else _) = _
        rw [if_neg hd]
        show r.p + r.s * (c.1 - r.b) + c.2 * (t - c.1) = _
        rw [e]
        grind
    · rw [if_neg h2]
theorem cmp_lt (p q : Rat) : decide (cmpR p q < 0) = decide (p < q) := by
  unfold cmpR
  by_cases h : p < q
  · rw [if_pos h, decide_eq_true h]
    rfl
  · rw [if_neg h, decide_eq_false h]
    by_cases h2 : q < p
    · rw [if_pos h2]
      rfl
    · rw [if_neg h2]
      rfl
/-! ### what holds of a good race -/
theorem trk_go {s0 : Rat} {cs : List (Rat × Rat)} (h : 0 < cs.length) : ∃ c cs', cs = c :: cs' ∧ trk s0 cs = trackGo ⟨c.1, c.2, s0⟩ cs' := by
  cases cs with
  | nil => exact absurd h (by simp)
  | cons c cs' => exact ⟨c, cs', rfl, rfl⟩
theorem PcsB.first {cs cs' : List (Rat × Rat)} {c : Rat × Rat} (ok : PcsB cs) (e : cs = c :: cs') : c.1 = 0 := by
  subst e
  exact Option.some.inj ok.zero
theorem pcs_asc {cs cs' : List (Rat × Rat)} {c : Rat × Rat} {s0 : Rat} (ok : PcsB cs) (e : cs = c :: cs') : Asc ⟨c.1, c.2, s0⟩ cs' := by
  subst e
  exact ok.asc
theorem Good.nd2 {L : Rat} {rs : List Rn1} {tr : List (Str × List Row)} (g : Good L rs) (pm : tr.Perm (rs.map (Rn1.tr L))) : (tr.map (·.1)).Nodup := by
  refine (pm.map (·.1)).nodup_iff.mpr ?_
  rw [List.map_map]
  exact g.nd
/-- a runner of a good race, as the race's methods need it -/
theorem Good.has {K : PySem.W.Frag} {C : Addr} {H : Hp} {v : V} {L : Rat} {rs : List Rn1} {tr : List (Str × List Row)} (g : Good L rs) (pm : tr.Perm (rs.map (Rn1.tr L))) (hR : RaceAt K C H v L tr) {r1 : Rn1} (h : r1 ∈ rs) :
    ∃ r0 rows, trk (rem r1.q L) r1.cs = r0 :: rows ∧ r0.b = 0 ∧ Has K C H v r1.n L r0 rows tr ∧ (∀ r ∈ r0 :: rows, RowZ r) ∧ rows.length < 20 := by
  have o := g.ok r1 h
  obtain ⟨c, cs', e1, e2⟩ := trk_go (s0 := rem r1.q L) o.pc.ne
  obtain ⟨tl, e3⟩ := trackGo_cons ⟨c.1, c.2, rem r1.q L⟩ cs'
  have e := e2.trans e3
  have ll := o.pc.le
  rw [e1, List.length_cons] at ll
  have lt : tl.length + 1 = cs'.length + 1 := by
    have := trackGo_len ⟨c.1, c.2, rem r1.q L⟩ cs'
    rw [e3] at this
    exact this
  refine ⟨_, tl, e, o.pc.first e1, ⟨hR, g.nd2 pm, ?_⟩, fun r hr => (o.ok g.L0 g.zL).pc.rz r (by rw [e]; exact hr), by omega⟩
  refine pm.mem_iff.mpr (List.mem_map.mpr ⟨r1, h, ?_⟩)
  show (r1.n, trk (rem r1.q L) r1.cs) = _
  rw [e]
end LR
set_option Elab.async false
set_option linter.all false
set_option maxRecDepth 100000
set_option maxHeartbeats 4000000
namespace LR
open PySem PySem.Spec PyProof.Rows L2
theorem scLine : FnScope ["race", "name", "time", "start", "pieces", "found", "at", "stop"] ["race", "name", "time"] (defScope s_law_line) := ⟨rfl, rfl, rfl, by decide +kernel, rfl, by decide +kernel, by decide +kernel⟩
theorem with_cont4 {D : Ends} {S : V → Hp → Prop} {l : V → L2.St} {g : Prop} (main : (∀ x h, S x h → tNext D (l x) h) → g) (cont : ∀ x h, S x h → tNext D (l x) h) : g := main cont
section
variable {P : Program} {w : World} {K : PySem.W.Frag} {mg : Str → Option Value} {base : Heap}
def spLLine (K : PySem.W.Frag) (C : Addr) : Sp := fun vs H Q _ => ∃ (v x : V) (r1 : Rn1) (L : Rat) (rs : List Rn1) (tr : List (Str × List Row)) (t : Rat), vs = [v, .str r1.n, x] ∧ RaceAt K C H v L tr ∧ tr.Perm (rs.map (Rn1.tr L)) ∧ Good L rs ∧ r1 ∈ rs ∧ Num K H x t ∧ Sz 300 t ∧ 0 ≤ t ∧ ∀ y H' r0 rows, Same H H' → trk (rem r1.q L) r1.cs = r0 :: rows → Rn K H' y ((rowGo t r0 (r0 :: rows)).at_ t) → Q y H'
theorem ok_LLine {f C fS fP fC fL fT fM CN : Addr} {fd dS dP dC dL dT dM : FuncData} (D : DefAt K mg "_law_line" s_law_line ["race", "name", "time"] f fd) (T : RaceT K C) (MS : Meth K C "start" fS) (bS : Binds K dS ["self", "name"] []) (MP : Meth K C "pieces" fP) (bP : Binds K dP ["self", "name"] []) (DC : DefAt K mg "compare" s_compare ["first", "second"] fC dC) (DL : DefAt K mg "plus" s_plus ["first", "second"] fL dL) (DT : DefAt K mg "times" s_times ["first", "second"] fT dT) (DM : DefAt K mg "minus" s_minus ["first", "second"] fM dM) (ml : mg "len" = none)
    (GS : FnOk P w K mg base (CXl P w) 3 fS dS ["self", "name"] (spStart K C)) (GP : FnOk P w K mg base (CXl P w) 3 fP dP ["self", "name"] (spPieces K C)) (GC : FnOk P w K mg base (CXl P w) 4 fC dC ["first", "second"] (sp_compare K CN)) (GL : FnOk P w K mg base (CXl P w) 4 fL dL ["first", "second"] (sp_plus K CN)) (GT : FnOk P w K mg base (CXl P w) 4 fT dT ["first", "second"] (sp_times K CN)) (GM : FnOk P w K mg base (CXl P w) 4 fM dM ["first", "second"] (sp_minus K CN)) :
    FnOk P w K mg base (CXl P w) 5 f fd ["race", "name", "time"] (spLLine K C) := by
  refine D.F.okX scLine (fun vs H Q E h => ?_) (fun cdv A outer s H vs Q E hr h => ?_)
  · obtain ⟨v, x, r1, L, rs, tr, t, rfl, _⟩ := h
    rfl
  · obtain ⟨v, x, r1, L, rs, tr, t, rfl, hR, pm, g, hm, hx, zt, t0, q0⟩ := h
    refine ⟨_, pss_cons (ps_par (i := 3) (j := 4) rfl scLine.nd rfl rfl (by decide) rfl rfl (pa_cons (pe_meth (pv 0) T.cl MS GS (hr.mono (by decide)) bS .nil passL (pa_cons (pv 1) pa_nil)) (pa_cons (pe_meth (pv 0) T.cl MP GP (hr.mono (by decide)) bP .nil passL (pa_cons (pv 1) pa_nil)) pa_nil)) (by rfl))
      (pss_cons (ps_par (i := 5) (j := 6) rfl scLine.nd rfl rfl (by decide) rfl rfl (pa_cons (pv 3) (pa_cons pe_int pa_nil)) (by rfl))
      (pss_cons (ps_while (passes_of rfl) (PW.pt (pw_and (pt_cmpR op_lt (pv 6) (pe_callB call_len_seq (by rfl) ml PySem.boot_len (pa_cons (pv 4) pa_nil)) (nomark _)) (pw_and1 (pt_cmpR op_lt (pe_call GC hr (by rfl) DC.g DC.F.kp DC.b .nil passL (pa_cons (pe_ix (r := rIxT K) ix_tup (pe_ix (r := rIxL K) ix_list (pv 4) (pv 6) (fun _ _ => rfl)) pe_int (fun _ _ => rfl)) (pa_cons (pv 2) pa_nil))) pe_int (nomark _)))))
        (pss_cons (ps_set (i := 7) scLine.nd rfl (.inl rfl) (pv 2))
        (pss_cons (ps_if (PW.pt (pw_and (pt_cmpR op_lt (pe_op op_add (pv 6) pe_int) (pe_callB call_len_seq (by rfl) ml PySem.boot_len (pa_cons (pv 4) pa_nil)) (nomark _)) (pw_and1 (pt_cmpR op_lt (pe_call GC hr (by rfl) DC.g DC.F.kp DC.b .nil passL (pa_cons (pe_ix (r := rIxT K) ix_tup (pe_ix (r := rIxL K) ix_list (pv 4) (pe_op op_add (pv 6) pe_int) (fun _ _ => rfl)) pe_int (fun _ _ => rfl)) (pa_cons (pv 2) pa_nil))) pe_int (nomark _)))))
          (pss_one (ps_set (i := 7) scLine.nd rfl (.inl rfl) (pe_ix (r := rIxT K) ix_tup (pe_ix (r := rIxL K) ix_list (pv 4) (pe_op op_add (pv 6) pe_int) (fun _ _ => rfl)) pe_int (fun _ _ => rfl)))) pss_nil)
        (pss_cons (ps_set (i := 5) scLine.nd rfl (.inl rfl) (pe_call GL hr (by rfl) DL.g DL.F.kp DL.b .nil passL (pa_cons (pv 5) (pa_cons (pe_call GT hr (by rfl) DT.g DT.F.kp DT.b .nil passL (pa_cons (pe_ix (r := rIxT K) ix_tup (pe_ix (r := rIxL K) ix_list (pv 4) (pv 6) (fun _ _ => rfl)) pe_int (fun _ _ => rfl)) (pa_cons (pe_call GM hr (by rfl) DM.g DM.F.kp DM.b .nil passL (pa_cons (pv 7) (pa_cons (pe_ix (r := rIxT K) ix_tup (pe_ix (r := rIxL K) ix_list (pv 4) (pv 6) (fun _ _ => rfl)) pe_int (fun _ _ => rfl)) pa_nil))) pa_nil))) pa_nil))))
        (pss_one (ps_set (i := 6) scLine.nd rfl (.inl rfl) (pe_op op_add (pv 6) pe_int)))))))
      (pss_one (ps_ret (pv 5))))), ?_⟩
    have o := g.ok r1 hm
    obtain ⟨c0, cs0, e1, e2⟩ := trk_go (s0 := rem r1.q L) o.pc.ne
    have asc := pcs_asc (s0 := rem r1.q L) o.pc e1
    have cz : c0.1 = 0 := o.pc.first e1
    have ct : c0.1 ≤ t := by rw [cz]; exact t0
    obtain ⟨tl, etl⟩ := trackGo_cons ⟨c0.1, c0.2, rem r1.q L⟩ cs0
    have q : ∀ y H', Same H H' → Rn K H' y (posGo t ⟨c0.1, c0.2, rem r1.q L⟩ cs0) → Q y H' := fun y H' s' hy => q0 y H' _ tl s' (e2.trans etl) (by rw [← etl, go_at t cs0 _ _ ct]; exact hy)
    obtain ⟨r0', rows', eh, hz, has, hrz, hlt⟩ := g.has pm hR hm
    have eh2 := eh.symm.trans (e2.trans etl)
    obtain ⟨rfl, rfl⟩ := List.cons.inj eh2
    have lrows : (trackGo ⟨c0.1, c0.2, rem r1.q L⟩ cs0).length ≤ 20 := by rw [etl, List.length_cons]; omega
    have pz := o.pc.sz
    rw [e1] at pz
    have sz : ∀ r ∈ trackGo ⟨c0.1, c0.2, rem r1.q L⟩ cs0, Sz 12 r.b ∧ Sz 12 r.s ∧ Sz 1100 r.p := fun r hr => by
      obtain ⟨i, hi⟩ := List.mem_iff_getElem?.mp hr
      have il := (List.getElem?_eq_some_iff.mp hi).1
      obtain ⟨z1, z2, z3⟩ := trackGo_sz (r := ⟨c0.1, c0.2, rem r1.q L⟩) (m := 300) (pz c0 List.mem_cons_self).1 (pz c0 List.mem_cons_self).2 ((o.sz.rem g.zL g.L0).mono (by decide)) (fun d hd => pz d (List.mem_cons_of_mem _ hd)) hi
      exact ⟨z1, z2, z3.mono (by omega)⟩
    obtain ⟨p, dx, vL, vT, rfl, hp, hrest⟩ := id hR
    refine ⟨_, rfl, p, dx, _, rfl, hp, rl_no _ _ (by decide +kernel) (by decide +kernel), _, rfl, .ref p, r1.n, L, _, _, tr, rfl, has, hrz _ List.mem_cons_self, fun sv H0 s0 hsv => ?_⟩
    have hbase : Row.base ⟨c0.1, c0.2, rem r1.q L⟩ = rem r1.q L := by
      show rem r1.q L - c0.2 * c0.1 = _
      rw [cz]
      grind
    rw [hbase] at hsv
    refine ⟨_, rfl, p, dx, _, rfl, s0 _ _ hp, rl_no _ _ (by decide +kernel) (by decide +kernel), _, rfl, .ref p, r1.n, L, _, _, tr, rfl, has.same s0, by omega, fun l xs H1 s01 _ hl hA => ⟨_, _, rfl, ?_⟩⟩
    have s1 := s0.trans s01
    refine ⟨_, rfl, _, _, rfl, ?_⟩
    rw [← etl] at hA
    have hx1 := hx.same s1
    have hsv1 : Rn K H1 sv (rem r1.q L) := hsv.same s01
    generalize hrows : trackGo ⟨c0.1, c0.2, rem r1.q L⟩ cs0 = rows at hA sz lrows
    have lA := hA.len
    rw [List.length_map] at lA
    have z0 : Sz 300 t := zt
    refine ⟨fun m σ G => ∃ k fv F o, m = rows.length - k ∧ k ≤ rows.length ∧ σ = [some (.ref p), some (.str r1.n), some x, some sv, some (.ref l), some fv, some (.int (k : Nat)), o] ∧ Same H1 G ∧ Rn K G fv F ∧
      ((∃ r cs', rows.drop k = trackGo r cs' ∧ F = r.p ∧ r.b ≤ t ∧ Asc r cs' ∧ posGo t r cs' = posGo t ⟨c0.1, c0.2, rem r1.q L⟩ cs0) ∨ (F = posGo t ⟨c0.1, c0.2, rem r1.q L⟩ cs0 ∧ ∀ y, rows[k]? = some y → ¬ y.b < t)),
      ⟨rows.length - 0, 0, sv, rem r1.q L, none, rfl, Nat.zero_le _, rfl, Same.refl _, hsv1, .inl ⟨⟨c0.1, c0.2, rem r1.q L⟩, cs0, hrows.symm, rfl, ct, asc, rfl⟩⟩, ?_⟩
    rintro m σ G ⟨k, fv, F, o, rfl, hk, rfl, sm, hF, st⟩
    have hlG := sm _ _ hl
    have hxG := hx1.same sm
    have exit : ∀ G', Same G G' → F = posGo t ⟨c0.1, c0.2, rem r1.q L⟩ cs0 → Q fv G' := fun G' s' e => q fv G' ((s1.trans sm).trans s') (by rw [← e]; exact hF.same s')
    by_cases hkl : k < rows.length
    · have hkx : k < xs.length := by omega
      obtain ⟨c', hc', pc⟩ := hA.get (List.getElem?_eq_getElem hkx)
      rw [List.getElem?_map, List.getElem?_eq_getElem hkl] at hc'
      have ec' : c' = (rows[k].b, rows[k].s) := (Option.some.inj hc').symm
      subst ec'
      obtain ⟨b, vt, vs, exk, ht, hn1, hn2⟩ := pc.same sm
      have hn1 := hn1.num
      have hn2 := hn2.num
      have hxk : xs[k]? = some (.ref b) := by rw [List.getElem?_eq_getElem hkx, exk]
      obtain ⟨zb, zs, zp⟩ := sz _ (List.getElem_mem hkl)
      refine ⟨_, rfl, _, rfl, l, xs, rfl, .inl (.of hlG), _, _, rfl, rfl, _, rfl, ite2 (fun _ => ?_) (fun e => absurd (decide_eq_true (show (k : Int) < (xs.length : Int) by omega)) e)⟩
      refine ⟨_, rfl, _, rfl, l, xs, (k : Int), .ref b, rfl, rfl, .of hlG, atI_nat hxk, b, _, 0, vt, rfl, rfl, ht, atI_nat (j := 0) rfl, x, rfl, vt, x, some rows[k].b, some t, rfl, hn1, hxG, ⟨zb.mono (by decide), zt.mono (by decide)⟩, fun G1 s2 => ⟨_, _, rfl, rfl, _, rfl, ?_⟩⟩
      rw [cmp_lt]
      by_cases hb : rows[k].b < t
      · rw [decide_eq_true hb]
        rcases st with ⟨r, cs', hdrop, hFr, hrt, hasc, hgo⟩ | ⟨_, hn⟩
        rotate_left
        · exact absurd hb (hn _ (List.getElem?_eq_getElem hkl))
        obtain ⟨tl2, et2⟩ := trackGo_cons r cs'
        have hrk : rows[k] = r := by
          have e := List.getElem?_drop (xs := rows) (i := k) (j := 0)
          rw [hdrop, et2, Nat.add_zero, List.getElem?_eq_getElem hkl] at e
          exact (Option.some.inj e).symm
        rw [hrk] at hb hn1 hn2 zb zs zp
        have zp' : Sz 1100 r.p := zp
        refine iteT ⟨fun σ' H' => ∃ m', m' < rows.length - k ∧ (∃ k fv F o, m' = rows.length - k ∧ k ≤ rows.length ∧ σ' = [some (.ref p), some (.str r1.n), some x, some sv, some (.ref l), some fv, some (.int (k : Nat)), o] ∧ Same H1 H' ∧ Rn K H' fv F ∧
          ((∃ r cs', rows.drop k = trackGo r cs' ∧ F = r.p ∧ r.b ≤ t ∧ Asc r cs' ∧ posGo t r cs' = posGo t ⟨c0.1, c0.2, rem r1.q L⟩ cs0) ∨ (F = posGo t ⟨c0.1, c0.2, rem r1.q L⟩ cs0 ∧ ∀ y, rows[k]? = some y → ¬ y.b < t))), fun _ _ h => h, ?_⟩
        refine ⟨_, rfl, ?_⟩
        have sm1 := sm.trans s2
        have hl1 := s2 _ _ hlG
        have hx2 := hxG.same s2
        have next : ∀ c cs'', cs' = c :: cs'' → rows[k + 1]? = some (nextRow r c) := fun c cs'' e => by
          have e4 := List.getElem?_drop (xs := rows) (i := k) (j := 1)
          rw [hdrop, e] at e4
          rw [← e4]
          exact trackGo_zero _ _
        apply with_cont4 (S := fun vS G' => Same G1 G' ∧ ∃ T', Num K G' vS T' ∧ Sz 300 T' ∧ ((∃ c cs'', cs' = c :: cs'' ∧ c.1 < t ∧ T' = c.1) ∨ (T' = t ∧ ∀ c cs'', cs' = c :: cs'' → ¬ c.1 < t))) (l := fun vS => [some (.ref p), some (.str r1.n), some x, some sv, some (.ref l), some fv, some (.int (k : Nat)), some vS])
        · intro cont
          refine ⟨_, rfl, _, 1, rfl, rfl, _, rfl, l, xs, rfl, .inl (.of hl1), _, _, rfl, rfl, _, rfl, ?_⟩
          cases hcs : cs' with
          | nil =>
            have el : rows.length = k + 1 := by
              have := congrArg List.length hdrop
              rw [List.length_drop, hcs] at this
              have e5 : (trackGo r []).length = 1 := rfl
              omega
            refine ite2 (fun e => absurd (of_decide_eq_true e) (by omega)) (fun _ => iteF (cont x G1 ⟨Same.refl _, t, hx2, zt, .inr ⟨rfl, fun c cs'' e => by rw [hcs] at e; cases e⟩⟩))
          | cons c cs'' =>
            have hnx := next c cs'' hcs
            have hk1 : k + 1 < rows.length := (List.getElem?_eq_some_iff.mp hnx).1
            have hkx1 : k + 1 < xs.length := by omega
            obtain ⟨c2, hc2, pc2⟩ := hA.get (List.getElem?_eq_getElem hkx1)
            rw [List.getElem?_map, hnx] at hc2
            have ec2 : c2 = ((nextRow r c).b, (nextRow r c).s) := (Option.some.inj hc2).symm
            subst ec2
            obtain ⟨b2, vt2, vs2, exk2, ht2, hm1, hm2⟩ := pc2.same sm1
            have hm1 := hm1.num
            have hxk2 : xs[k + 1]? = some (.ref b2) := by rw [List.getElem?_eq_getElem hkx1, exk2]
            have hm1 : Num K G1 vt2 c.1 := hm1
            obtain ⟨yb, _, _⟩ := sz _ (List.mem_of_getElem? hnx)
            have yb : Sz 12 c.1 := yb
            have hat : atI xs ((k : Int) + 1) = some (.ref b2) := atI_nat (j := k + 1) hxk2
            refine ite2 (fun _ => ?_) (fun e => absurd (decide_eq_true (show (k : Int) + 1 < (xs.length : Int) by omega)) e)
            refine ⟨_, rfl, _, rfl, _, 1, rfl, rfl, l, xs, _, .ref b2, rfl, rfl, .of hl1, hat, b2, _, 0, vt2, rfl, rfl, ht2, atI_nat (j := 0) rfl, x, rfl, vt2, x, some c.1, some t, rfl, hm1, hx2, ⟨yb.mono (by decide), zt.mono (by decide)⟩, fun G2 s3 => ⟨_, _, rfl, rfl, _, rfl, ?_⟩⟩
            rw [cmp_lt]
            by_cases hct : c.1 < t
            · rw [decide_eq_true hct]
              refine iteT ⟨_, rfl, _, rfl, _, 1, rfl, rfl, l, xs, _, .ref b2, rfl, rfl, .of (s3 _ _ hl1), hat, b2, _, 0, vt2, rfl, rfl, same_sqt s3 ht2, atI_nat (j := 0) rfl, cont vt2 G2 ⟨s3, c.1, hm1.same s3, yb.mono (by decide), .inl ⟨c, cs'', hcs, hct, rfl⟩⟩⟩
            · rw [decide_eq_false hct]
              exact iteF (cont x G2 ⟨s3, t, hx2.same s3, zt, .inr ⟨rfl, fun c' cs3 e => by rw [hcs] at e; cases e; exact hct⟩⟩)
        intro vS G2 hS
        obtain ⟨s3, T', hT', zT', cse⟩ := hS
        have sm2 := sm1.trans s3
        have s23 := s2.trans s3
        have hl2 := s3 _ _ hl1
        refine ⟨_, rfl, _, rfl, _, rfl, l, xs, (k : Int), .ref b, rfl, rfl, .of hl2, atI_nat hxk, b, _, 1, vs, rfl, rfl, same_sqt s23 ht, atI_nat (j := 1) rfl, _, rfl, _, rfl, _, rfl, l, xs, (k : Int), .ref b, rfl, rfl, .of hl2, atI_nat hxk, b, _, 0, vt, rfl, rfl, same_sqt s23 ht, atI_nat (j := 0) rfl, ?_⟩
        refine ⟨vS, vt, some T', some r.b, rfl, hT', hn1.same s23, ⟨zT'.mono (by decide), zb.mono (by decide)⟩, fun m1 G3 s4 e4 => ?_⟩
        refine ⟨vs, m1, some r.s, some (T' - r.b), rfl, hn2.same (s23.trans s4), e4.num, ⟨zs.mono (by decide), (zT'.sub zb).mono (by decide)⟩, fun m2 G4 s5 e5 => ?_⟩
        rw [hFr] at hF
        refine ⟨fv, m2, some r.p, some (r.s * (T' - r.b)), rfl, (hF.same ((s23.trans s4).trans s5)).num, e5.num, ⟨zp'.mono (by decide), (zs.mul (zT'.sub zb)).mono (by decide)⟩, fun fv' G5 s6 e6 => ?_⟩
        refine ⟨_, rfl, _, 1, rfl, rfl, ?_⟩
        refine ⟨rows.length - (k + 1), by omega, k + 1, fv', r.p + r.s * (T' - r.b), some vS, rfl, by omega, rfl, ((sm2.trans s4).trans s5).trans s6, e6, ?_⟩
        rcases cse with ⟨c, cs'', ecs, hct, rfl⟩ | ⟨rfl, hno⟩
        · refine .inl ⟨nextRow r c, cs'', ?_, rfl, Rat.le_of_lt hct, ?_, ?_⟩
          · rw [← List.tail_drop, hdrop, ecs]
            rfl
          · rw [ecs] at hasc
            exact hasc.next
          · rw [← hgo, ecs]
            exact (if_pos (Rat.le_of_lt hct)).symm
        · refine .inr ⟨by rw [← hgo, posGo_le hasc hrt hno], fun y hy hyt => ?_⟩
          cases hcs : cs' with
          | nil =>
            have := congrArg List.length hdrop
            rw [List.length_drop, hcs] at this
            have e5 : (trackGo r []).length = 1 := rfl
            have := (List.getElem?_eq_some_iff.mp hy).1
            omega
          | cons c cs'' =>
            rw [next c cs'' hcs] at hy
            have ey := Option.some.inj hy
            rw [← ey] at hyt
            exact hno c cs'' hcs hyt
      · rw [decide_eq_false hb]
        refine iteF ⟨_, rfl, exit G1 s2 ?_⟩
        rcases st with ⟨r, cs', hdrop, hFr, hrt, hasc, hgo⟩ | ⟨e, _⟩
        · obtain ⟨tl2, et2⟩ := trackGo_cons r cs'
          have hrk : rows[k] = r := by
            have e := List.getElem?_drop (xs := rows) (i := k) (j := 0)
            rw [hdrop, et2, Nat.add_zero, List.getElem?_eq_getElem hkl] at e
            exact (Option.some.inj e).symm
          rw [hrk] at hb
          have ebt : r.b = t := by grind
          rw [hFr, ← hgo, posGo_le hasc hrt fun c cs'' e => by
            have := (List.pairwise_cons.mp hasc).1 c.1 (by rw [e]; exact List.mem_cons_self)
            grind, ebt]
          grind
        · exact e
    · refine ⟨_, rfl, _, rfl, l, xs, rfl, .inl (.of hlG), _, _, rfl, rfl, _, rfl, ite2 (fun e => absurd (of_decide_eq_true e) (by omega)) (fun _ => iteF ⟨_, rfl, exit G (Same.refl _) ?_⟩)⟩
      rcases st with ⟨r, cs', hdrop, _⟩ | ⟨e, _⟩
      · obtain ⟨tl2, et2⟩ := trackGo_cons r cs'
        have := congrArg List.length hdrop
        rw [List.length_drop, et2, List.length_cons] at this
        omega
      · exact e
end
end LR
set_option Elab.async false
set_option linter.all false
set_option maxRecDepth 100000
set_option maxHeartbeats 8000000
namespace LR
open PySem PySem.Spec PyProof.Rows L2
abbrev NL : List Str := ["script", "k", "pool", "race", "pieces", "moments", "moment", "name", "position", "place", "laps", "at"]
theorem scLaw : FnScope NL ["script"] (defScope s_law) := ⟨rfl, rfl, rfl, by decide +kernel, rfl, by decide +kernel, by decide +kernel⟩
section
variable {P : Program} {w : World} {K : PySem.W.Frag} {mg : Str → Option Value} {base : Heap}
def spLaw (K : PySem.W.Frag) : Sp := fun vs H Q _ => ∃ (a : Addr) (ns : List Int), vs = [.ref a] ∧ SqL K H a (ns.map V.int) ∧ ns.length ≤ 63 ∧ (∀ H', Same H H' → SqL K H' a (ns.map V.int)) ∧ ∀ H', Same H H' → Q (.bl true) H'
/-- the methods and defs that the law calls -/
structure LT (P : Program) (w : World) (K : PySem.W.Frag) (mg : Str → Option Value) (base : Heap) (C CN C2 pL fL fPo fDr fNu fRa fLi fNm fCh fPs fPl fLa fSt fI fR fPlus fTm fCo : Addr) (dL dPo dDr dNu dRa dLi dNm dCh dPs dPl dLa dSt dI dR dPlus dTm dCo : FuncData) : Prop where
  T : RaceT K C
  DPo : DefAt K mg "_law_pool" s_law_pool ["script", "k"] fPo dPo
  GPo : FnOk P w K mg base (CXl P w) 1 fPo dPo ["script", "k"] (spPool K)
  DDr : DefAt K mg "_law_draw" s_law_draw ["pool", "many"] fDr dDr
  GDr : FnOk P w K mg base (CXl P w) 1 fDr dDr ["pool", "many"] spDraw
  DNu : DefAt K mg "_law_number" s_law_number ["pool", "low", "high"] fNu dNu
  GNu : FnOk P w K mg base (CXl P w) 3 fNu dNu ["pool", "low", "high"] (spNum K)
  DRa : DefAt K mg "_law_race" s_law_race ["pool", "many"] fRa dRa
  GRa : FnOk P w K mg base (CXl P w) 9 fRa dRa ["pool", "many"] (spLRace K C)
  DLi : DefAt K mg "_law_line" s_law_line ["race", "name", "time"] fLi dLi
  GLi : FnOk P w K mg base (CXl P w) 5 fLi dLi ["race", "name", "time"] (spLLine K C)
  PLe : PropOf K C "length" pL fL
  GLe : FnOk P w K mg base (CXl P w) 1 fL dL ["self"] (spLn K C)
  bLe : Binds K dL ["self"] []
  MNm : Meth K C "names" fNm
  GNm : FnOk P w K mg base (CXl P w) 1 fNm dNm ["self"] (spNms K C)
  bNm : Binds K dNm ["self"] []
  MCh : Meth K C "change_times" fCh
  GCh : FnOk P w K mg base (CXl P w) 5 fCh dCh ["self"] (spChg K C)
  bCh : Binds K dCh ["self"] []
  MPs : Meth K C "position" fPs
  GPs : FnOk P w K mg base (CXl P w) 5 fPs dPs ["self", "name", "time"] (spPos K C)
  bPs : Binds K dPs ["self", "name", "time"] []
  MPl : Meth K C "place" fPl
  GPl : FnOk P w K mg base (CXl P w) 5 fPl dPl ["self", "name", "time"] (spPlace K C)
  bPl : Binds K dPl ["self", "name", "time"] []
  MLa : Meth K C "laps" fLa
  GLa : FnOk P w K mg base (CXl P w) 5 fLa dLa ["self", "name", "time"] (spLaps K C)
  bLa : Binds K dLa ["self", "name", "time"] []
  MSt : Meth K C "start" fSt
  GSt : FnOk P w K mg base (CXl P w) 3 fSt dSt ["self", "name"] (spStart K C)
  bSt : Binds K dSt ["self", "name"] []
  MK : Mk K C fI
  mC : mg "Race" = some (.ref C)
  GI : FnOk P w K mg base (CXl P w) 6 fI dI ["self", "length", "runners"] (spInit K C)
  bI : Binds K dI ["self", "length", "runners"] []
  DR : DefD K mg "ratio" s_ratio ["numerator", "denominator"] [.int 1] fR dR
  GR : FnOk P w K mg base (CXl P w) 2 fR dR ["numerator", "denominator"] (spRatio K CN C2)
  DPlus : DefAt K mg "plus" s_plus ["first", "second"] fPlus dPlus
  GPlus : FnOk P w K mg base (CXl P w) 4 fPlus dPlus ["first", "second"] (sp_plus K CN)
  DTm : DefAt K mg "times" s_times ["first", "second"] fTm dTm
  GTm : FnOk P w K mg base (CXl P w) 4 fTm dTm ["first", "second"] (sp_times K CN)
  DCo : DefAt K mg "compare" s_compare ["first", "second"] fCo dCo
  GCo : FnOk P w K mg base (CXl P w) 4 fCo dCo ["first", "second"] (sp_compare K CN)
  mrg : mg "range" = none
  ml : mg "len" = none
  mmx : mg "max" = none
  mmn : mg "min" = none
  mls : mg "list" = none
  mi : mg "isinstance" = none
  mtu : mg "tuple" = none
--PRE
theorem eqvR (q : Rat) : PyData.eqv (datR q) (datR q) = true := by rw [eqvRR]; exact decide_eq_true rfl
theorem z39 : Sz 3900 ((0 : Int) : Rat) := Sz.int (by decide) (by decide)
theorem cmp0_neg (q : Rat) : decide (cmpR q ((0 : Int) : Rat) < 0) = decide (q < 0) := by
  have e : ((0 : Int) : Rat) = 0 := rfl
  rw [e]
  unfold cmpR
  by_cases h : q < 0
  · rw [if_pos h, decide_eq_true h]
    rfl
  · rw [if_neg h, decide_eq_false h]
    by_cases h2 : 0 < q
    · rw [if_pos h2]
      rfl
    · rw [if_neg h2]
      rfl
theorem with_cont5 {D : Ends} {S : V → Hp → Prop} {l : V → Option V → L2.St} {g : Prop} (main : (∀ x o h, S x h → tNext D (l x o) h) → g) (cont : ∀ x o h, S x h → tNext D (l x o) h) : g := main cont
theorem mm8 (n : Nat) : 0 ≤ (if (if (8 : Int) < (n : Int) then (8 : Int) else (n : Int)) > 1 then (if (8 : Int) < (n : Int) then (8 : Int) else (n : Int)) else 1) ∧ (if (if (8 : Int) < (n : Int) then (8 : Int) else (n : Int)) > 1 then (if (8 : Int) < (n : Int) then (8 : Int) else (n : Int)) else 1) ≤ 8 := by
  split <;> split <;> omega
theorem drew_out {p : Addr} {H1 H2 H3 : Hp} (n : H1 p = none) (s : Same H1 H2) (r : Drew p H2 H3) : Same H1 H3 := fun b o e => r.but b o (ne_of_none e n) (s b o e)
theorem rg20 (i : Nat) (x : V) (h : (rgV 0 20)[i]? = some x) : i < 20 ∧ x = .int (i : Nat) := by
  have hi := (List.getElem?_eq_some_iff.mp h).1
  rw [rgV_length] at hi
  have hi : i < 20 := hi
  refine ⟨hi, ?_⟩
  unfold rgV at h
  rw [List.getElem?_map, List.getElem?_range (by show i < 20; exact hi)] at h
  have := Option.some.inj h
  rw [← this]
  show V.int (0 + (i : Int)) = V.int (i : Int)
  rw [Int.zero_add]
theorem long_ok : NameOk "long" := ⟨by decide, by decide, by decide +kernel, by decide +kernel, by decide +kernel, 108, by decide +kernel, by decide +kernel⟩
theorem half_lt {i j : Nat} (h : i < j) : Rat.divInt (i : Int) 2 < Rat.divInt (j : Int) 2 := by
  rw [Rat.divInt_eq_div, Rat.divInt_eq_div]
  have h1 : ((i : Int) : Rat) < ((j : Int) : Rat) := Rat.intCast_lt_intCast.mpr (by omega)
  have h2 : ((2 : Int) : Rat) = 2 := rfl
  rw [h2]
  grind
def q73 : Rat := ⟨7, 3, by decide, by decide⟩
theorem All2.app {α β : Type} {R : α → β → Prop} : ∀ {xs : List α} {ys : List β} {xs' : List α} {ys' : List β}, All2 R xs ys → All2 R xs' ys' → All2 R (xs ++ xs') (ys ++ ys')
  | _, _, _, _, .nil, h => h
  | _, _, _, _, .cons a t, h => .cons a (t.app h)
theorem floor_rem {q L : Rat} (h : 0 < L) : rem q L + L * (((q / L).floor : Int) : Rat) = q := by
  unfold rem
  generalize (((q / L).floor : Int) : Rat) = k
  grind
theorem rem_self {q L : Rat} (h : 0 < L) (h0 : 0 ≤ q) (h1 : q < L) : (q / L).floor = 0 ∧ rem q L = q := by
  have hL : L ≠ 0 := Rat.ne_of_gt h
  have e : (q / L).floor = 0 := by
    have a1 : (0 : Rat) ≤ q / L := by
      rw [Rat.div_def]
      exact Rat.mul_nonneg h0 (Rat.le_of_lt (Rat.inv_pos.mpr h))
    have a2 : q / L < 1 := (Rat.div_lt_iff h).mpr (by rw [Rat.one_mul]; exact h1)
    have f1 := Rat.floor_le (q / L)
    have f2 := Rat.lt_floor_add_one (q / L)
    generalize (q / L).floor = k at f1 f2
    have g1 : (k : Rat) < ((1 : Int) : Rat) := by
      have : ((1 : Int) : Rat) = 1 := rfl
      rw [this]
      grind
    have g2 : ((-1 : Int) : Rat) < (k : Rat) := by
      have : ((-1 : Int) : Rat) = -1 := rfl
      rw [this]
      have e3 : (((k + 1 : Int)) : Rat) = (k : Rat) + 1 := by rw [Rat.intCast_add]; rfl
      rw [e3] at f2
      grind
    have h1 := Rat.intCast_lt_intCast.mp g1
    have h2 := Rat.intCast_lt_intCast.mp g2
    omega
  refine ⟨e, ?_⟩
  unfold rem
  rw [e]
  show q - L * ((0 : Int) : Rat) = q
  have : ((0 : Int) : Rat) = 0 := rfl
  rw [this]
  grind
theorem at_zero {s0 : Rat} {cs : List (Rat × Rat)} {r0 : Row} {rows : List Row} (ok : PcsB cs) (e : trk s0 cs = r0 :: rows) : (rowGo 0 r0 (r0 :: rows)).at_ 0 = s0 := by
  obtain ⟨c, cs', e1, e2⟩ := trk_go (s0 := s0) ok.ne
  have cz := ok.first e1
  have asc := pcs_asc (s0 := s0) ok e1
  have hb : Row.b ⟨c.1, c.2, s0⟩ ≤ 0 := by
    show c.1 ≤ 0
    rw [cz]
    exact Rat.le_refl
  rw [← e, e2, go_at 0 cs' _ _ hb, posGo_le asc hb fun d ds e => by
    have := (List.pairwise_cons.mp asc).1 d.1 (by rw [e]; exact List.mem_cons_self)
    have h4 : c.1 < d.1 := this
    rw [cz] at h4
    grind]
  show s0 + c.2 * (0 - c.1) = s0
  rw [cz]
  grind
theorem Good.row {L : Rat} {rs : List Rn1} (g : Good L rs) {r1 : Rn1} (h : r1 ∈ rs) {r0 : Row} {rows : List Row} (e : trk (rem r1.q L) r1.cs = r0 :: rows) : ∀ r ∈ r0 :: rows, Sz 12 r.b ∧ Sz 12 r.s ∧ Sz 1100 r.p := fun r hr => by
  have o := g.ok r1 h
  obtain ⟨c0, cs0, e1, e2⟩ := trk_go (s0 := rem r1.q L) o.pc.ne
  have pz := o.pc.sz
  have ll := o.pc.le
  rw [e1] at pz
  rw [e1, List.length_cons] at ll
  rw [← e, e2] at hr
  obtain ⟨i, hi⟩ := List.mem_iff_getElem?.mp hr
  have il := (List.getElem?_eq_some_iff.mp hi).1
  rw [trackGo_len] at il
  obtain ⟨z1, z2, z3⟩ := trackGo_sz (r := ⟨c0.1, c0.2, rem r1.q L⟩) (m := 300) (pz c0 List.mem_cons_self).1 (pz c0 List.mem_cons_self).2 ((o.sz.rem g.zL g.L0).mono (by decide)) (fun d hd => pz d (List.mem_cons_of_mem _ hd)) hi
  exact ⟨z1, z2, z3.mono (by omega)⟩
theorem at_sz {r : Row} {t : Rat} (h : Sz 12 r.b ∧ Sz 12 r.s ∧ Sz 1100 r.p) (zt : Sz 300 t) : Sz 1500 (r.at_ t) := (h.2.2.add (h.2.1.mul (zt.sub h.1))).mono (by decide)
/-- what is known of the race in a turn of the law -/
def GoodAt (K : PySem.W.Frag) (C : Addr) (H : Hp) (v : V) (L : Rat) (rs : List Rn1) (tr : List (Str × List Row)) (M : Nat) : Prop := RaceAt K C H v L tr ∧ tr.Perm (rs.map (Rn1.tr L)) ∧ Good L rs ∧ (∀ r ∈ rs, r.cs.length ≤ M + 1) ∧ rs.length * M < 63
theorem drew_row {p : Addr} {H G : Hp} {v : V} {r : Row} (hp : PoolAt H p) (d : Drew p H G) (h : RowAt K H v r) : RowAt K G v r := by
  obtain ⟨_, _, e, _⟩ := hp
  obtain ⟨a, vb, vs, R, B, U, e1, h1, h2, h3, z⟩ := h
  exact ⟨a, vb, vs, R, B, U, e1, sqt_but e d.but h1, rn_but e d.but h2, rn_but e d.but h3, z⟩
theorem drew_track {p : Addr} {H G : Hp} {v : V} {rows : List Row} (hp : PoolAt H p) (d : Drew p H G) (h : TrackAt K H v rows) : TrackAt K G v rows := by
  obtain ⟨a, xs, rfl, ha, hA⟩ := h
  obtain ⟨_, _, e, _⟩ := id hp
  exact ⟨a, xs, rfl, sqt_but e d.but ha, hA.imp fun _ _ z => drew_row hp d z⟩
theorem drew_race {C p : Addr} {H G : Hp} {v : V} {L : Rat} {tr : List (Str × List Row)} (hp : PoolAt H p) (d : Drew p H G) (h : RaceAt K C H v L tr) : RaceAt K C G v L tr := by
  obtain ⟨q, dx, vL, vT, rfl, h1, h2, dd, kvs, rfl, h3, h4⟩ := h
  obtain ⟨c, s, e, hh⟩ := id hp
  refine ⟨q, dx, vL, .ref dd, rfl, d.but _ _ (fun z => by rw [z, e] at h1; cases h1) h1, rn_but e d.but h2, dd, kvs, rfl, d.but _ _ (fun z => by rw [z, e] at h3; cases h3) h3, h4.imp fun _ _ z => ⟨z.1, drew_track hp d z.2⟩⟩
theorem later_in {L : Rat} {rs : List Rn1} {tr : List (Str × List Row)} (g : Good L rs) (pm : tr.Perm (rs.map (Rn1.tr L))) {e : Str × List Row} (he : e ∈ tr) : ∃ r1 ∈ rs, ∃ r0 rows, e = (r1.n, r0 :: rows) ∧ trk (rem r1.q L) r1.cs = r0 :: rows ∧ rows.length + 1 = r1.cs.length ∧ (∀ r ∈ rows, 0 ≤ r.b) := by
  obtain ⟨r1, h1, e1⟩ := List.mem_map.mp (pm.mem_iff.mp he)
  have o := g.ok r1 h1
  obtain ⟨c, cs', ec, e2⟩ := trk_go (s0 := rem r1.q L) o.pc.ne
  obtain ⟨tl, e3⟩ := trackGo_cons ⟨c.1, c.2, rem r1.q L⟩ cs'
  have e4 := e2.trans e3
  have cz := o.pc.first ec
  have asc := pcs_asc (s0 := rem r1.q L) o.pc ec
  have hb := trackGo_b ⟨c.1, c.2, rem r1.q L⟩ cs'
  rw [e3] at hb
  have hb2 : tl.map (·.b) = cs'.map (·.1) := (List.cons.inj hb).2
  refine ⟨r1, h1, _, tl, ?_, e4, ?_, fun r hr => ?_⟩
  · rw [← e1]
    show (r1.n, trk (rem r1.q L) r1.cs) = _
    rw [e4]
  · have := congrArg List.length hb2
    rw [List.length_map, List.length_map] at this
    rw [ec, List.length_cons, this]
  · have m : r.b ∈ cs'.map (·.1) := by rw [← hb2]; exact List.mem_map.mpr ⟨r, hr, rfl⟩
    have := (List.pairwise_cons.mp asc).1 _ m
    have h4 : c.1 < r.b := this
    rw [cz] at h4
    exact Rat.le_of_lt h4
theorem flat_len {β : Type} {f : Str × List Row → List β} {M : Nat} : ∀ {tr : List (Str × List Row)}, (∀ e ∈ tr, (f e).length ≤ M) → (tr.flatMap f).length ≤ tr.length * M
  | [], _ => by simp
  | e :: tr, h => by
    have h1 := h e List.mem_cons_self
    have h2 := flat_len (tr := tr) fun x hx => h x (List.mem_cons_of_mem _ hx)
    rw [List.flatMap_cons, List.length_append, List.length_cons, Nat.succ_mul]
    omega
theorem nd_len {α : Type} [DecidableEq α] : ∀ {rs qs : List α}, rs.Nodup → (∀ x ∈ rs, x ∈ qs) → rs.length ≤ qs.length
  | [], _, _, _ => Nat.zero_le _
  | r :: rs, qs, nd, h => by
    obtain ⟨h1, h2⟩ := List.nodup_cons.mp nd
    have hm := h r List.mem_cons_self
    have e := List.length_erase_of_mem hm
    have p : 0 < qs.length := List.length_pos_of_mem hm
    have := nd_len (rs := rs) (qs := qs.erase r) h2 fun x hx => (List.mem_erase_of_ne (fun e => h1 (by rw [← e]; exact hx))).mpr (h x (List.mem_cons_of_mem _ hx))
    rw [List.length_cons]
    omega
theorem asc_len {rs qs : List Rat} (h : InOrder qs rs) : rs.length ≤ qs.length := nd_len (h.1.imp fun {a b} hab e => by rw [e] at hab; exact Rat.lt_irrefl hab) fun x hx => (h.2 x).mp hx
theorem floor_small {q : Rat} {b : Nat} (h : Sz b q) : q.floor.natAbs < 2 ^ b := by
  rw [Rat.floor_def]
  exact Nat.lt_of_le_of_lt (Int.natAbs_ediv_le_natAbs _ _) h.1
theorem ok_Law {f C CN C2 pL fL fPo fDr fNu fRa fLi fNm fCh fPs fPl fLa fSt fI fR fPlus fTm fCo : Addr} {fd dL dPo dDr dNu dRa dLi dNm dCh dPs dPl dLa dSt dI dR dPlus dTm dCo : FuncData} (D : DefAt K mg "law" s_law ["script"] f fd) (X : LT P w K mg base C CN C2 pL fL fPo fDr fNu fRa fLi fNm fCh fPs fPl fLa fSt fI fR fPlus fTm fCo dL dPo dDr dNu dRa dLi dNm dCh dPs dPl dLa dSt dI dR dPlus dTm dCo) : FnOk P w K mg base (CXl P w) 10 f fd ["script"] (spLaw K) := by
  refine D.F.okX scLaw (fun vs H Q E h => ?_) (fun cdv A outer s H vs Q E hr h => ?_)
  · obtain ⟨a, ns, rfl, _⟩ := h
    rfl
  · obtain ⟨a0, ns, rfl, hS0, hl, keep, q⟩ := h
    refine ⟨_, (pss_cons (ps_for (passes_of rfl) rfl (pi_range1 rfl X.mrg (pa_cons (pe_callB (call_max2 rfl) (by rfl) X.mmx (by decide +kernel) (pa_cons pe_int (pa_cons (pe_callB (call_min2 rfl) (by rfl) X.mmn (by decide +kernel) (pa_cons (pe_callB call_len_seq (by rfl) X.ml PySem.boot_len (pa_cons (pv 0) pa_nil)) (pa_cons pe_int pa_nil))) pa_nil))) pa_nil)) (pg_name (i := 1) scLaw.nd rfl (.inl rfl)) (pss_cons (ps_set (i := 2) scLaw.nd rfl (.inr rfl) (pe_call X.GPo (hr.mono (by decide)) (by rfl) X.DPo.g X.DPo.F.kp X.DPo.b .nil passL (pa_cons (pv 0) (pa_cons (pv 1) pa_nil))))
        (pss_cons (ps_set (i := 3) scLaw.nd rfl (.inl rfl) (pe_call X.GRa (hr.mono (by decide)) (by rfl) X.DRa.g X.DRa.F.kp X.DRa.b .nil passL (pa_cons (pv 2) (pa_cons (pe_op op_add pe_int (pe_call X.GDr (hr.mono (by decide)) (by rfl) X.DDr.g X.DDr.F.kp X.DDr.b .nil passL (pa_cons (pv 2) (pa_cons pe_int pa_nil)))) pa_nil))))
        (pss_cons (ps_if (pt_cmpR op_eq (pe_op op_modN (pv 1) pe_int) pe_int (nomark _)) (pss_cons (ps_setLc (i := 4) (own := [("at", 11)]) (g := gName 11) (tt := tYes) rfl scLaw.nd rfl rfl (sw_true rfl rfl rfl (by decide +kernel)) (pi_list (pe_listRg rfl (by rfl) X.mls (prg_1 rfl X.mrg pe_int))) (blkOk_by (N := NL) (sc := defScope s_law) (by decide +kernel)) (fun _ _ _ _ _ => pg_name (i := 11) scLaw.nd rfl (.inl rfl)) (fun _ _ _ _ _ => pts_nil) (fun _ _ _ _ _ => (pe_tup (pa_cons (pe_call X.GR (hr.mono (by decide)) (by rfl) X.DR.g X.DR.F.kp X.DR.b .nil passL (pa_cons (pv 11) (pa_cons pe_int pa_nil))) (pa_cons (pe_call X.GNu (hr.mono (by decide)) (by rfl) X.DNu.g X.DNu.F.kp X.DNu.b .nil passL (pa_cons (pv 2) (pa_cons (pe_un un_neg pe_int) (pa_cons pe_int pa_nil)))) pa_nil)))))
        (pss_one (ps_set (i := 3) scLaw.nd rfl (.inl rfl) (pe_make X.MK X.GI (hr.mono (by decide)) rfl X.mC X.bI .nil passL (pa_cons (pe_prop (pv 3) X.T.cl X.PLe X.GLe (hr.mono (by decide)) X.bLe .nil passL rfl) (pa_cons (pe_disp (pps_cons pe_str (pe_tup (pa_cons (pe_call X.GNu (hr.mono (by decide)) (by rfl) X.DNu.g X.DNu.F.kp X.DNu.b .nil passL (pa_cons (pv 2) (pa_cons pe_int (pa_cons pe_int pa_nil)))) (pa_cons (pv 4) pa_nil))) pps_nil) rfl rfl (by simp) (by decide)) pa_nil)))))) pss_nil)
        (pss_cons (ps_set (i := 5) scLaw.nd rfl (.inl rfl) (pe_lst (pa_cons pe_int (pa_cons (pe_tup (pa_cons pe_int (pa_cons pe_int pa_nil))) (pa_cons pe_int (pa_cons (pe_tup (pa_cons pe_int (pa_cons pe_int pa_nil))) (pa_cons (pe_op op_pow pe_int pe_int) (pa_cons (pe_call X.GR (hr.mono (by decide)) (by rfl) X.DR.g X.DR.F.kp X.DR.b .nil passL (pa_cons (pe_op op_add (pe_op op_pow pe_int pe_int) pe_int) (pa_cons pe_int pa_nil))) (pa_cons (pe_call X.GNu (hr.mono (by decide)) (by rfl) X.DNu.g X.DNu.F.kp X.DNu.b .nil passL (pa_cons (pv 2) (pa_cons pe_int (pa_cons pe_int pa_nil)))) pa_nil)))))))))
        (pss_cons (ps_for (passes_of rfl) rfl (pi_list (pe_op op_cat (pv 5) (pe_meth0 (pv 3) X.T.cl X.MCh X.GCh (hr.mono (by decide)) X.bCh .nil passL))) (pg_name (i := 6) scLaw.nd rfl (.inl rfl)) (pss_one (ps_for (passes_of rfl) rfl (pi_list (pe_meth0 (pv 3) X.T.cl X.MNm X.GNm (hr.mono (by decide)) X.bNm .nil passL)) (pg_name (i := 7) scLaw.nd rfl (.inl rfl)) (pss_cons (ps_set (i := 8) scLaw.nd rfl (.inl rfl) (pe_meth (pv 3) X.T.cl X.MPs X.GPs (hr.mono (by decide)) X.bPs .nil passL (pa_cons (pv 7) (pa_cons (pv 6) pa_nil))))
        (pss_cons (ps_if (pt_cmpR (op_neD hr.units) (pv 8) (pe_call X.GLi (hr.mono (by decide)) (by rfl) X.DLi.g X.DLi.F.kp X.DLi.b .nil passL (pa_cons (pv 3) (pa_cons (pv 7) (pa_cons (pv 6) pa_nil)))) (nomark _)) (pss_one (ps_ret pe_bl)) pss_nil)
        (pss_cons (ps_par (i := 9) (j := 10) rfl scLaw.nd rfl rfl (by decide) rfl rfl (pa_cons (pe_meth (pv 3) X.T.cl X.MPl X.GPl (hr.mono (by decide)) X.bPl .nil passL (pa_cons (pv 7) (pa_cons (pv 6) pa_nil))) (pa_cons (pe_meth (pv 3) X.T.cl X.MLa X.GLa (hr.mono (by decide)) X.bLa .nil passL (pa_cons (pv 7) (pa_cons (pv 6) pa_nil))) pa_nil)) (by rfl))
        (pss_cons (ps_if (PW.pt (pw_or (pt_cmpR op_lt (pe_call X.GCo (hr.mono (by decide)) (by rfl) X.DCo.g X.DCo.F.kp X.DCo.b .nil passL (pa_cons (pv 9) (pa_cons pe_int pa_nil))) pe_int (nomark _)) (pw_or1 (pt_cmpR op_ge (pe_call X.GCo (hr.mono (by decide)) (by rfl) X.DCo.g X.DCo.F.kp X.DCo.b .nil passL (pa_cons (pv 9) (pa_cons (pe_prop (pv 3) X.T.cl X.PLe X.GLe (hr.mono (by decide)) X.bLe .nil passL rfl) pa_nil))) pe_int (nomark _))))) (pss_one (ps_ret pe_bl)) pss_nil)
        (pss_cons (ps_if (pt_val (pe_callB call_isi (by rfl) X.mi (by decide +kernel) (pa_cons (pv 10) (pa_cons (pe_bltn (v := .ty "tuple") (by rfl) X.mtu (by decide +kernel) rfl) pa_nil)))) (pss_one (ps_ret pe_bl)) pss_nil)
        (pss_one (ps_if (pt_cmpR (op_neD hr.units) (pe_call X.GPlus (hr.mono (by decide)) (by rfl) X.DPlus.g X.DPlus.F.kp X.DPlus.b .nil passL (pa_cons (pv 9) (pa_cons (pe_call X.GTm (hr.mono (by decide)) (by rfl) X.DTm.g X.DTm.F.kp X.DTm.b .nil passL (pa_cons (pe_prop (pv 3) X.T.cl X.PLe X.GLe (hr.mono (by decide)) X.bLe .nil passL rfl) (pa_cons (pv 10) pa_nil))) pa_nil))) (pv 8) (nomark _)) (pss_one (ps_ret pe_bl)) pss_nil))))))))))
        (pss_cons (ps_if (pt_cmpR (op_neD hr.units) (pe_meth (pv 3) X.T.cl X.MPs X.GPs (hr.mono (by decide)) X.bPs .nil passL (pa_cons (pe_ix (r := rIxL K) ix_list (pe_meth0 (pv 3) X.T.cl X.MNm X.GNm (hr.mono (by decide)) X.bNm .nil passL) pe_int (fun _ _ => rfl)) (pa_cons pe_int pa_nil))) (pe_meth (pv 3) X.T.cl X.MPs X.GPs (hr.mono (by decide)) X.bPs .nil passL (pa_cons (pe_ix (r := rIxL K) ix_list (pe_meth0 (pv 3) X.T.cl X.MNm X.GNm (hr.mono (by decide)) X.bNm .nil passL) pe_int (fun _ _ => rfl)) (pa_cons (pe_tup (pa_cons pe_int (pa_cons pe_int pa_nil))) pa_nil))) (nomark _)) (pss_one (ps_ret pe_bl)) pss_nil)
        (pss_cons (ps_if (pt_cmpR op_ne (pe_meth (pv 3) X.T.cl X.MLa X.GLa (hr.mono (by decide)) X.bLa .nil passL (pa_cons (pe_ix (r := rIxL K) ix_list (pe_meth0 (pv 3) X.T.cl X.MNm X.GNm (hr.mono (by decide)) X.bNm .nil passL) pe_int (fun _ _ => rfl)) (pa_cons pe_int pa_nil))) pe_int (nomark _)) (pss_one (ps_ret pe_bl)) pss_nil)
        (pss_one (ps_if (pt_cmpR (op_neD hr.units) (pe_meth (pv 3) X.T.cl X.MPl X.GPl (hr.mono (by decide)) X.bPl .nil passL (pa_cons (pe_ix (r := rIxL K) ix_list (pe_meth0 (pv 3) X.T.cl X.MNm X.GNm (hr.mono (by decide)) X.bNm .nil passL) pe_int (fun _ _ => rfl)) (pa_cons pe_int pa_nil))) (pe_meth (pv 3) X.T.cl X.MSt X.GSt (hr.mono (by decide)) X.bSt .nil passL (pa_cons (pe_ix (r := rIxL K) ix_list (pe_meth0 (pv 3) X.T.cl X.MNm X.GNm (hr.mono (by decide)) X.bNm .nil passL) pe_int (fun _ _ => rfl)) pa_nil)) (nomark _)) (pss_one (ps_ret pe_bl)) pss_nil))))))))))
        (pss_one (ps_ret pe_bl))), ?_⟩
    have big : ∀ {n : Nat}, n ≤ 1000 → n ≤ sizeLine := fun h => Nat.le_of_lt (small1000 h)
    have mm := mm8 ns.length
    have lm : (ns.map V.int).length = ns.length := List.length_map _
    rw [← lm] at mm
    refine ⟨.ref a0, rfl, a0, _, rfl, .inl hS0, _, 8, rfl, 1, _, rfl, _, rfl, Int.le_trans (by decide) mm.1, Int.lt_of_le_of_lt mm.2 (by decide), for_range (lo := 0) (fun _ σ H1 => (∃ o1 o2 o3 o4 o5 o6 o7 o8 o9 o10 o11 : Option V, σ = [some (.ref a0), o1, o2, o3, o4, o5, o6, o7, o8, o9, o10, o11]) ∧ Same H H1)
      ⟨⟨none, none, none, none, none, none, none, none, none, none, none, rfl⟩, Same.refl _⟩ (fun i σ H1 hi hP => ?_) (fun σ H1 hP => ?_)⟩
    · obtain ⟨⟨o1, o2, o3, o4, o5, o6, o7, o8, o9, o10, o11, rfl⟩, s1⟩ := hP
      have i8 : i ≤ 8 := by
        have h := mm.2
        generalize (if (if (8 : Int) < ((ns.map V.int).length : Int) then (8 : Int) else ((ns.map V.int).length : Int)) > 1 then (if (8 : Int) < ((ns.map V.int).length : Int) then (8 : Int) else ((ns.map V.int).length : Int)) else 1) = m at h hi
        omega
      refine ⟨.ref a0, rfl, .int (0 + (i : Int)), rfl, a0, ns, i, by rw [Int.zero_add]; rfl, keep _ s1, by omega, fun p H2 s2 np pp => ?_⟩
      refine ⟨_, rfl, _, rfl, p, 3, rfl, pp, by decide, p200 (by decide), fun d H3 d0 d1 r3 => ⟨1, _, rfl, rfl, ?_⟩⟩
      obtain ⟨dn, rfl⟩ : ∃ dn : Nat, d = (dn : Int) := ⟨d.toNat, by omega⟩
      refine ⟨p, 1 + dn, by rw [show ((1 + dn : Nat) : Int) = 1 + (dn : Int) from by omega]; rfl, r3.pool, by omega, by omega, fun v L rs tr H4 r4 pm hR g l3 c3 => ?_⟩
      have r24 := drew_trans r3 r4
      apply with_cont5 (S := fun x h => Drew p H2 h ∧ ∃ L rs tr M, GoodAt K C h x L rs tr M) (l := fun x o => [some (.ref a0), some (.int (0 + (i : Int))), some (.ref p), some x, o, o5, o6, o7, o8, o9, o10, o11])
      · intro cont
        refine ⟨_, rfl, _, 4, rfl, rfl, show (4 : Int) ≠ 0 by decide, rfl, _, rfl, ite2 (fun _ => ?_) (fun _ => cont v o4 _ ⟨r24, L, rs, tr, 2, hR, pm, g, c3, by omega⟩)⟩
        refine ⟨20, rfl, RgOk.of_le (by decide) (by decide) (by decide) (by decide), fun W nW => ⟨W, rfl, ⟨_, .of upd_same⟩, fun D1 n1 => ?_⟩⟩
        have r25 : Drew p H2 (upd H4 W (.lst (rgV 0 20))) := drew_new r24 nW
        have s45 : Same H4 (upd H4 W (.lst (rgV 0 20))) := same_new nW
        have hW : (upd H4 W (.lst (rgV 0 20))) W = some (.lst (rgV 0 20)) := upd_same
        have nWp : W ≠ p := fun e => by rw [e] at nW; exact pool_some r24.pool nW
        generalize (upd H4 W (.lst (rgV 0 20))) = H5 at n1 r25 s45 hW ⊢
        have nDp : D1 ≠ p := fun e => by rw [e] at n1; exact pool_some r25.pool n1
        have hR5 := hR.same s45
        refine lc_list (xs := rgV 0 20) (fun j G => Drew p H5 G ∧ ∃ acc cs, G D1 = some (.lst acc) ∧ acc.length = j ∧ All2 (PieceAt K G) acc cs ∧ cs.map (·.1) = (List.range j).map (fun a => Rat.divInt (a : Nat) 2) ∧ ∀ c ∈ cs, Sz 12 c.1 ∧ Sz 12 c.2)
          ⟨drew_new (drew_refl r25.pool) n1, [], [], upd_same, rfl, .nil, rfl, fun _ h => by cases h⟩ (fun j G _ hP => .of (hP.1.but _ _ nWp hW)) (fun j x G hx hP => ?_) (fun G hP => ?_)
        · obtain ⟨rG, acc, cs, hD, hla, hAll, hcs, hsz⟩ := hP
          obtain ⟨j20, rfl⟩ := rg20 j x hx
          refine ⟨rfl, _, rfl, _, _, "int", "int", rfl, .int _, .int _, givesR_ok (by decide) (Nat.lt_of_lt_of_le (show ((j : Nat) : Int).natAbs < 2 ^ 12 by omega) (Nat.pow_le_pow_right (by decide) (by decide))) (Nat.lt_of_lt_of_le (show (2 : Int).natAbs < 2 ^ 12 by decide) (Nat.pow_le_pow_right (by decide) (by decide))) fun v1 G1 t1 e1 => ?_⟩
          have zj : Sz 12 (Rat.divInt (j : Nat) 2) := sz_small (by decide) (show ((j : Nat) : Int).natAbs < 2 ^ 12 by omega) (by decide)
          have rG1 := drew_same rG t1
          refine ⟨_, rfl, 9, rfl, p, -9, 9, rfl, rG1.pool, by decide, by decide, by decide, fun v2 q2 G2 r2 n2 z2 _ => ?_⟩
          have rG2 := drew_trans rG1 r2
          refine ⟨by show 2 ≤ sizeLine; decide, fun T nT => ?_⟩
          have hT : (upd G2 T (.tup [v1, v2])) T = some (.tup [v1, v2]) := upd_same
          have sT : Same G2 (upd G2 T (.tup [v1, v2])) := same_new nT
          generalize (upd G2 T (.tup [v1, v2])) = G3 at hT sT ⊢
          have rG3 := drew_same rG2 sT
          have gG3 : Drew p G G3 := drew_same (drew_trans (drew_same (drew_refl rG.pool) t1) r2) sT
          have hD3 := gG3.but _ _ nDp hD
          have pc : PieceAt K G3 (.ref T) (Rat.divInt (j : Nat) 2, q2) := ⟨T, v1, v2, rfl, .inl (.inl hT), (drew_num rG1.pool r2 e1.num).same sT, n2.same sT⟩
          refine ⟨acc, hD3, small1000 (by omega), drew_upd' rG3 n1 nDp, acc ++ [.ref T], cs ++ [(Rat.divInt (j : Nat) 2, q2)], upd_same, by rw [List.length_append, hla]; rfl, ?_, ?_, fun c hc => ?_⟩
          · exact (hAll.imp fun _ _ z => piece_but hD3 but_new (drew_piece rG.pool gG3 z)).snoc (piece_but hD3 but_new pc)
          · rw [List.map_append, hcs, List.range_succ, List.map_append]
            rfl
          · rcases List.mem_append.mp hc with h | h
            · exact hsz c h
            · rw [List.mem_singleton.mp h]
              exact ⟨zj, z2⟩
        · obtain ⟨rG, acc, cs, hD, hla, hAll, hcs, hsz⟩ := hP
          rw [rgV_length] at hcs hla
          have hcs : cs.map (·.1) = (List.range 20).map (fun a => Rat.divInt (a : Nat) 2) := hcs
          have l20 : cs.length = 20 := by
            have := congrArg List.length hcs
            rw [List.length_map, List.length_map, List.length_range] at this
            exact this
          have okc : PcsB cs := by
            refine ⟨by omega, by omega, ?_, ?_, hsz⟩
            · rw [hcs]
              show some (Rat.divInt ((0 : Nat) : Int) 2) = some 0
              rw [show Rat.divInt ((0 : Nat) : Int) 2 = 0 from Rat.zero_divInt 2]
            · rw [hcs]
              refine List.pairwise_map.mpr (List.Pairwise.imp (fun {a b} hab => half_lt hab) List.pairwise_lt_range)
          have hpcs : PiecesAt K G (.ref D1) cs := ⟨D1, acc, rfl, hD, hAll⟩
          have r2G : Drew p H2 G := drew_trans r25 rG
          have hRG := drew_race r25.pool rG hR5
          obtain ⟨pr, dx, vL, vT, rfl, hpG, _⟩ := id hRG
          refine ⟨_, rfl, pr, dx, _, rfl, hpG, .ref pr, L, _, rfl, hRG, fun y hy => ?_⟩
          intro dc ndc
          have ndp : dc ≠ p := fun e => by rw [e] at ndc; exact pool_some r2G.pool ndc
          have r6 : Drew p H2 (upd G dc (.dK [])) := drew_new r2G ndc
          have s6 : Same G (upd G dc (.dK [])) := same_new ndc
          have hd6 : (upd G dc (.dK [])) dc = some (.dK []) := upd_same
          show tPairs _ _ (upd G dc (.dK [])) _
          generalize (upd G dc (.dK [])) = G6 at r6 s6 hd6 ⊢
          refine ⟨_, rfl, p, 0, 9, rfl, r6.pool, by decide, by decide, by decide, fun v3 q3 G7 r7 n3 z3 _ => ?_⟩
          refine ⟨_, rfl, by show 2 ≤ sizeLine; decide, fun T nT => ?_⟩
          have hT : (upd G7 T (.tup [v3, .ref D1])) T = some (.tup [v3, .ref D1]) := upd_same
          have sT : Same G7 (upd G7 T (.tup [v3, .ref D1])) := same_new nT
          generalize (upd G7 T (.tup [v3, .ref D1])) = G8 at hT sT ⊢
          have r8 : Drew p G6 G8 := drew_same r7 sT
          have hd8 := r8.but _ _ ndp hd6
          have run8 : RunAt K G8 (.ref T) q3 cs := ⟨T, v3, .ref D1, rfl, .inl (.inl hT), n3.same sT, drew_pieces r6.pool r8 (hpcs.same s6)⟩
          have y8 : Num K G8 y L := drew_num r6.pool r8 (hy.same s6).num
          refine ⟨hd8, [(Sum.inr ("long" : Str), .ref T)], rfl, by show 1 ≤ 15; decide, ?_⟩
          have Od := OddL.dk hd8
          have e9 : mergeK [] [((Sum.inr ("long" : Str) : Key), V.ref T)] = [((Sum.inr ("long" : Str) : Key), V.ref T)] := rfl
          rw [e9]
          have b9 : But dc G8 (upd G8 dc (.dK [((Sum.inr ("long" : Str) : Key), V.ref T)])) := but_new
          have hd9 : (upd G8 dc (.dK [((Sum.inr ("long" : Str) : Key), V.ref T)])) dc = some (.dK [((Sum.inr ("long" : Str) : Key), V.ref T)]) := upd_same
          have r68 := drew_trans r6 r8
          have nd2 : H2 dc = none := (drew_none r2G ndc).resolve_right ndp
          have r9 : Drew p H2 (upd G8 dc (.dK [((Sum.inr ("long" : Str) : Key), V.ref T)])) := drew_upd' r68 nd2 ndp
          show ∀ x dx, _
          generalize (upd G8 dc (.dK [((Sum.inr ("long" : Str) : Key), V.ref T)])) = G9 at b9 hd9 r9 ⊢
          intro prn dxn nx ndx nex
          have sI : Same G9 (upd (upd G9 dxn (.own prn)) prn (.ins C dxn [])) := fun b o e => by rw [upd_ne (ne_of_none e nx), upd_ne (ne_of_none e ndx)]; exact e
          have hI : (upd (upd G9 dxn (.own prn)) prn (.ins C dxn [])) prn = some (.ins C dxn []) := upd_same
          have npr : prn ≠ p := fun e => by rw [e] at nx; exact pool_some r9.pool nx
          show spInit K C _ (upd (upd G9 dxn (.own prn)) prn (.ins C dxn [])) _ _
          generalize (upd (upd G9 dxn (.own prn)) prn (.ins C dxn [])) = G10 at sI hI ⊢
          have okr : ∀ r ∈ [Rn1.mk "long" q3 cs], Rn1B r := fun r hr' => by
            rw [List.mem_singleton.mp hr']
            exact ⟨long_ok, z3.mono (by decide), okc⟩
          refine ⟨prn, dxn, dc, y, L, [((Sum.inr ("long" : Str) : Key), V.ref T)], [⟨"long", q3, cs⟩], rfl, hI, (Od.o.num b9 y8).same sI, g.L0, g.zL, sI _ _ hd9, .cons ⟨rfl, (Od.run b9 run8).same sI⟩ .nil, fun r hr' => (okr r hr').ok g.L0 g.zL, List.pairwise_singleton _ _, by show 0 < 1; decide, by show 1 ≤ 12; decide, fun tr' H' pm' _ bt hR' => ⟨rfl, ?_⟩⟩
          have r10 := drew_same r9 sI
          refine cont (.ref prn) (some (.ref D1)) H' ⟨⟨fun b o hb e => ?_, ?_⟩, L, [⟨"long", q3, cs⟩], tr', 19, hR', pm', ⟨g.L0, g.zL, okr, List.pairwise_singleton _ _, by show 0 < 1; decide, by show 1 ≤ 12; decide⟩, fun r hr' => ?_, by show 1 * 19 < 63; decide⟩
          · have e2 := r9.but _ _ hb e
            exact bt _ _ (ne_of_none e2 nx) (sI _ _ e2)
          · obtain ⟨c, sd, e, hh⟩ := r10.pool
            exact ⟨c, sd, bt _ _ npr.symm e, hh⟩
          · rw [List.mem_singleton.mp hr']
            show cs.length ≤ 20
            omega
      intro x o G hS
      obtain ⟨rG, L, rs, tr, M, hR, pm, g, hM, hsm⟩ := hS
      -- moments
      refine ⟨by show 2 ≤ sizeLine; decide, fun T1 nT1 => ?_⟩
      have hT1 : (upd G T1 (.tup [.int 0, .int 1])) T1 = some (.tup [.int 0, .int 1]) := upd_same
      have t1 : Same G (upd G T1 (.tup [.int 0, .int 1])) := same_new nT1
      generalize (upd G T1 (.tup [.int 0, .int 1])) = G1 at hT1 t1 ⊢
      refine ⟨by show 2 ≤ sizeLine; decide, fun T2 nT2 => ?_⟩
      have hT2 : (upd G1 T2 (.tup [.int 7, .int 3])) T2 = some (.tup [.int 7, .int 3]) := upd_same
      have t2 : Same G1 (upd G1 T2 (.tup [.int 7, .int 3])) := same_new nT2
      generalize (upd G1 T2 (.tup [.int 7, .int 3])) = G2 at hT2 t2 ⊢
      refine ⟨10, 30, rfl, rfl, ⟨by decide, by decide, by decide⟩, 10, 29, rfl, rfl, ⟨by decide, by decide, by decide⟩, _, 1, rfl, rfl, ?_⟩
      refine ⟨_, _, "int", "int", rfl, .int _, .int _, givesR_ok (by decide) (Nat.lt_of_lt_of_le (show (10 ^ (29 : Int).toNat + 1 : Int).natAbs < 2 ^ 100 by decide) (Nat.pow_le_pow_right (by decide) (by decide))) (Nat.lt_of_lt_of_le (show (7 : Int).natAbs < 2 ^ 12 by decide) (Nat.pow_le_pow_right (by decide) (by decide))) fun v5 G3 t3 e5 => ?_⟩
      have z5 : Sz 300 (Rat.divInt (10 ^ (29 : Int).toNat + 1) 7) := sz_divInt (by decide) (Nat.lt_of_lt_of_le (show (10 ^ (29 : Int).toNat + 1 : Int).natAbs < 2 ^ 100 by decide) (Nat.pow_le_pow_right (by decide) (by decide))) (Nat.lt_of_lt_of_le (show (7 : Int).natAbs < 2 ^ 12 by decide) (Nat.pow_le_pow_right (by decide) (by decide)))
      have nn5 : 0 ≤ Rat.divInt (10 ^ (29 : Int).toNat + 1) 7 := divInt_nn (by decide) (by decide)
      have e5 : Rn K G3 v5 (Rat.divInt (10 ^ (29 : Int).toNat + 1) 7) := e5
      generalize Rat.divInt (10 ^ (29 : Int).toNat + 1) 7 = q5 at z5 nn5 e5
      have rG3 := drew_same (drew_same (drew_same rG t1) t2) t3
      have gG3 : Same G G3 := (t1.trans t2).trans t3
      refine ⟨_, rfl, p, 0, 20, rfl, rG3.pool, by decide, by decide, by decide, fun v6 q6 G4 r4' n6 z6 nn6 => ?_⟩
      have rG4 := drew_trans rG3 r4'
      refine ⟨by show 7 ≤ sizeLine; decide, fun Mm nMm => ?_⟩
      have hMm : (upd G4 Mm (.lst [.int 0, .ref T1, .int 3, .ref T2, .int (10 ^ (30 : Int).toNat), v5, v6])) Mm = some (.lst [.int 0, .ref T1, .int 3, .ref T2, .int (10 ^ (30 : Int).toNat), v5, v6]) := upd_same
      have t5 : Same G4 (upd G4 Mm (.lst [.int 0, .ref T1, .int 3, .ref T2, .int (10 ^ (30 : Int).toNat), v5, v6])) := same_new nMm
      have hms : ∃ ts : List Rat, All2 (Num K (upd G4 Mm (.lst [.int 0, .ref T1, .int 3, .ref T2, .int (10 ^ (30 : Int).toNat), v5, v6]))) [.int 0, .ref T1, .int 3, .ref T2, .int (10 ^ (30 : Int).toNat), v5, v6] ts ∧ ∀ t ∈ ts, 0 ≤ t ∧ Sz 300 t := by
        have a1 : Rn K G3 (.ref T1) 0 := ⟨T1, rfl, .inl (.inl (t3 _ _ (t2 _ _ hT1)))⟩
        have a2 : Rn K G3 (.ref T2) q73 := ⟨T2, rfl, .inl (.inl (t3 _ _ hT2))⟩
        have b1 := (drew_num rG3.pool r4' a1.num).same t5
        have b2 := (drew_num rG3.pool r4' a2.num).same t5
        have b5 := (drew_num rG3.pool r4' e5.num).same t5
        have b6 := n6.same t5
        refine ⟨[((0 : Int) : Rat), 0, ((3 : Int) : Rat), q73, ((10 ^ (30 : Int).toNat : Int) : Rat), q5, q6], .cons (num_int 0) (.cons b1 (.cons (num_int 3) (.cons b2 (.cons (num_int _) (.cons b5 (.cons b6 .nil)))))), fun t ht => ?_⟩
        simp only [List.mem_cons, List.not_mem_nil, or_false] at ht
        rcases ht with rfl | rfl | rfl | rfl | rfl | rfl | rfl
        · exact ⟨Rat.intCast_nonneg.mpr (by decide), Sz.int (by decide) (by decide)⟩
        · exact ⟨Rat.le_refl, Sz.int (n := 0) (by decide) (by decide)⟩
        · exact ⟨Rat.intCast_nonneg.mpr (by decide), Sz.int (by decide) (by decide)⟩
        · exact ⟨Rat.le_of_lt (num_pos_iff.mp (by decide)), (show Sz 10 q73 from ⟨by decide, by decide⟩).mono (by decide)⟩
        · exact ⟨Rat.intCast_nonneg.mpr (by decide), (Sz.int (b := 100) (by decide) (by decide)).mono (by decide)⟩
        · exact ⟨nn5, z5⟩
        · exact ⟨nn6 (by decide), z6.mono (by decide)⟩
      obtain ⟨ts, hts, tsok⟩ := hms
      have rG5 : Drew p H2 (upd G4 Mm (.lst [.int 0, .ref T1, .int 3, .ref T2, .int (10 ^ (30 : Int).toNat), v5, v6])) := drew_same rG4 t5
      have hR5 : RaceAt K C (upd G4 Mm (.lst [.int 0, .ref T1, .int 3, .ref T2, .int (10 ^ (30 : Int).toNat), v5, v6])) x L tr := (drew_race rG3.pool r4' (hR.same gG3)).same t5
      generalize (upd G4 Mm (.lst [.int 0, .ref T1, .int 3, .ref T2, .int (10 ^ (30 : Int).toNat), v5, v6])) = G5 at hMm hts rG5 hR5 ⊢
      have s05 : Same H G5 := s1.trans (drew_out np s2 rG5)
      clear hR gG3 t1 t2 t3 t5 e5 hT1 hT2 n6 rG rG3 rG4 r4' nT1 nT2 nMm
      obtain ⟨pr, dx, vL, vT, rfl, hp5, _⟩ := id hR5
      have hpS : ∀ G', Same G5 G' → G' pr = some (.ins C dx (rflds vL vT)) := fun G' s => s _ _ hp5
      have hRS : ∀ G', Same G5 G' → RaceAt K C G' (.ref pr) L tr := fun _ s => hR5.same s
      have no1 : ∀ {m : Str}, ¬ m = "_tracks" → ¬ m = "_length" → (rflds vL vT).lookup m = none := fun h1 h2 => rl_no _ _ h1 h2
      have ltr : tr.length = rs.length := by rw [pm.length_eq, List.length_map]
      have l12 : tr.length ≤ 12 := by rw [ltr]; exact g.le
      have fl : (tr.flatMap later).length < 63 := by
        have := flat_len (f := later) (M := M) (tr := tr) fun e he => by
          obtain ⟨r1, h1, r0, rows, rfl, _, e3, _⟩ := later_in g pm he
          have := hM r1 h1
          show (rows.map (·.b)).length ≤ M
          rw [List.length_map]
          omega
        rw [ltr] at this
        omega
      refine ⟨_, rfl, _, rfl, pr, dx, _, rfl, hp5, no1 (by decide +kernel) (by decide +kernel), .ref pr, L, tr, rfl, hR5, g.nd2 pm, l12, fun e he => ?_, fl, fun cs y G6 hIO s6 hy => ?_⟩
      · obtain ⟨r1, h1, r0, rows, rfl, et, e3, _⟩ := later_in g pm he
        have := (g.ok r1 h1).pc.le
        exact ⟨by show 0 < rows.length + 1; omega, by show rows.length + 1 ≤ 21; omega, fun r hr => (g.row h1 et r hr).1.mono (by decide)⟩
      have hcs : ∀ t ∈ cs, 0 ≤ t ∧ Sz 12 t := fun t ht => by
        obtain ⟨e, he, hte⟩ := List.mem_flatMap.mp ((hIO.2 t).mp ht)
        obtain ⟨r1, h1, r0, rows, rfl, et, e3, hb⟩ := later_in g pm he
        have hte : t ∈ rows.map (·.b) := hte
        obtain ⟨r, hr, rfl⟩ := List.mem_map.mp hte
        exact ⟨hb r hr, (g.row h1 et r (List.mem_cons_of_mem _ hr)).1⟩
      have lcs : cs.length < 63 := Nat.lt_of_le_of_lt (asc_len hIO) fl
      obtain ⟨pc, ys, rfl, hpc, hys⟩ := hy
      have lys := hys.len
      refine ⟨Mm, pc, _, ys, rfl, rfl, s6 _ _ hMm, hpc, big (show 7 + ys.length ≤ 1000 by omega), fun cat ncat => ?_⟩
      have hcat : (upd G6 cat (.lst ([.int 0, .ref T1, .int 3, .ref T2, .int (10 ^ (30 : Int).toNat), v5, v6] ++ ys))) cat = some (.lst ([.int 0, .ref T1, .int 3, .ref T2, .int (10 ^ (30 : Int).toNat), v5, v6] ++ ys)) := upd_same
      have s67 : Same G6 (upd G6 cat (.lst ([.int 0, .ref T1, .int 3, .ref T2, .int (10 ^ (30 : Int).toNat), v5, v6] ++ ys))) := same_new ncat
      have hall : All2 (Num K (upd G6 cat (.lst ([.int 0, .ref T1, .int 3, .ref T2, .int (10 ^ (30 : Int).toNat), v5, v6] ++ ys)))) ([.int 0, .ref T1, .int 3, .ref T2, .int (10 ^ (30 : Int).toNat), v5, v6] ++ ys) (ts ++ cs) :=
        All2.app (hts.imp fun _ _ z => Arg.same (s6.trans s67) z) (hys.imp fun _ _ z => (z.same s67).num)
      have tok : ∀ t ∈ ts ++ cs, 0 ≤ t ∧ Sz 300 t := fun t ht => by
        rcases List.mem_append.mp ht with h | h
        · exact tsok t h
        · exact ⟨(hcs t h).1, (hcs t h).2.mono (by decide)⟩
      generalize ([.int 0, .ref T1, .int 3, .ref T2, .int (10 ^ (30 : Int).toNat), v5, v6] ++ ys : List V) = ms at hcat s67 hall ⊢
      show ∃ l, _
      generalize (upd G6 cat (.lst ms)) = G7 at hcat s67 hall ⊢
      have s57 := s6.trans s67
      refine ⟨cat, rfl, ⟨_, .of hcat⟩, for_list (xs := ms) (fun _ σ G8 => Same G7 G8 ∧ ∃ u6 u7 u8 u9 u10, σ = [some (.ref a0), some (.int (0 + (i : Int))), some (.ref p), some (.ref pr), o, some (.ref Mm), u6, u7, u8, u9, u10, o11])
        ⟨Same.refl _, o6, o7, o8, o9, o10, rfl⟩ (fun _ _ G8 _ hP => .of (hP.1 _ _ hcat)) (fun j mv σ G8 hj hP => ?_) (fun σ G8 hP => ?_)⟩
      · obtain ⟨sm, u6, u7, u8, u9, u10, rfl⟩ := hP
        obtain ⟨t, ht, hn⟩ := hall.get hj
        obtain ⟨t0, zt⟩ := tok t (List.mem_of_getElem? ht)
        have s58 := s57.trans sm
        refine ⟨_, rfl, pr, dx, _, rfl, hpS _ s58, no1 (by decide +kernel) (by decide +kernel), .ref pr, L, tr, rfl, hRS _ s58, fun pn G9 s9 _ hpn => ?_⟩
        have s79 := sm.trans s9
        have s59 := s57.trans s79
        refine ⟨pn, rfl, ⟨_, .of hpn⟩, for_list (xs := (tr.map (·.1)).map V.str) (fun _ σ Gx => Same G9 Gx ∧ ∃ u7 u8 u9 u10, σ = [some (.ref a0), some (.int (0 + (i : Int))), some (.ref p), some (.ref pr), o, some (.ref Mm), some mv, u7, u8, u9, u10, o11])
          ⟨Same.refl _, u7, u8, u9, u10, rfl⟩ (fun _ _ Gx _ hP => .of (hP.1 _ _ hpn)) (fun l nv σ Gx hl' hP => ?_) (fun σ Gx hP => ?_)⟩
        · obtain ⟨sx, u7, u8, u9, u10, rfl⟩ := hP
          rw [List.getElem?_map] at hl'
          obtain ⟨n, hni, rfl⟩ := Option.map_eq_some_iff.mp hl'
          obtain ⟨e, he, rfl⟩ := List.mem_map.mp (List.mem_of_getElem? hni)
          obtain ⟨r1, hr1, r0, rows, rfl, et, _, _⟩ := later_in g pm he
          have hnx : Num K Gx mv t := hn.same (s79.trans sx)
          have s5x := s59.trans sx
          have AT : ∀ G', Same G5 G' → Num K G' mv t → AtTime K C G' (.ref pr) r1.n mv L t r0 rows tr := fun G' s' hn' => ⟨⟨hRS _ s', g.nd2 pm, he⟩, hn', t0, zt, fun r hr => (((g.ok r1 hr1).ok g.L0 g.zL).pc.rz r (by rw [et]; exact hr)), g.L0, g.zL⟩
          have zpos : Sz 1500 ((rowGo t r0 (r0 :: rows)).at_ t) := at_sz (g.row hr1 et _ (rowGo_mem2 t r0 rows)) zt
          have zL39 : Sz 3900 L := g.zL.mono (by decide)
          have Ln : L ≠ 0 := Rat.ne_of_gt g.L0
          have zrem : Sz 3900 (rem ((rowGo t r0 (r0 :: rows)).at_ t) L) := (zpos.rem g.zL g.L0).mono (by decide)
          have zfl : Sz 1600 (((((rowGo t r0 (r0 :: rows)).at_ t) / L).floor : Int) : Rat) := Sz.int (by decide) (floor_small (zpos.div g.zL Ln))
          generalize hq : (rowGo t r0 (r0 :: rows)).at_ t = qq at zpos zrem zfl
          -- position
          refine ⟨_, rfl, pr, dx, _, rfl, hpS _ s5x, no1 (by decide +kernel) (by decide +kernel), _, rfl, _, rfl, .ref pr, mv, r1.n, L, t, r0, rows, tr, rfl, AT _ s5x hnx, fun y1 K1 k1 e1 => ?_⟩
          rw [hq] at e1
          have a1 := s5x.trans k1
          refine ⟨_, rfl, _, rfl, _, rfl, _, rfl, .ref pr, mv, r1, L, rs, tr, t, rfl, hRS _ a1, pm, g, hr1, hnx.same k1, zt, t0, fun y2 K2 r0' rows' k2 et' e2 => ?_⟩
          obtain ⟨rfl, rfl⟩ := List.cons.inj (et'.symm.trans et)
          rw [hq] at e2
          refine ⟨_, _, (e1.same k2).dp, e2.dp, shapedR _, shapedR _, _, rfl, ite2 (fun z => absurd z (by rw [eqvR]; decide)) (fun _ => ?_)⟩
          have a2 := a1.trans k2
          have hn2 := hnx.same (k1.trans k2)
          -- place, laps
          refine ⟨_, rfl, pr, dx, _, rfl, hpS _ a2, no1 (by decide +kernel) (by decide +kernel), _, rfl, _, rfl, .ref pr, mv, r1.n, L, t, _, _, tr, rfl, AT _ a2 hn2, fun y3 K3 k3 e3 => ?_⟩
          rw [hq] at e3
          have a3 := a2.trans k3
          refine ⟨_, rfl, pr, dx, _, rfl, hpS _ a3, no1 (by decide +kernel) (by decide +kernel), _, rfl, _, rfl, .ref pr, mv, r1.n, L, t, _, _, tr, rfl, AT _ a3 (hn2.same k3), fun K4 k4 => ⟨_, _, rfl, ?_⟩⟩
          rw [hq]
          have a4 := a3.trans k4
          have e3' := e3.same k4
          -- compare(place, 0) < 0 or compare(place, race.length) >= 0
          refine ⟨_, rfl, y3, .int 0, some (rem qq L), some ((0 : Int) : Rat), rfl, e3'.num, num_int 0, ⟨zrem, z39⟩, fun K5 k5 => ⟨_, _, rfl, rfl, _, rfl, ?_⟩⟩
          rw [cmp0_neg, decide_eq_false (Rat.not_lt.mpr (rem_nonneg g.L0))]
          have a5 := a4.trans k5
          refine iteF ⟨_, rfl, _, rfl, pr, dx, _, rfl, hpS _ a5, .ref pr, L, tr, rfl, hRS _ a5, fun yl hyl => ?_⟩
          refine ⟨y3, yl, some (rem qq L), some L, rfl, (e3'.same k5).num, hyl.num, ⟨zrem, zL39⟩, fun K6 k6 => ⟨_, _, rfl, rfl, _, rfl, ite2 (fun z => absurd z ?_) (fun _ => ?_)⟩⟩
          · rw [show cmpR (rem qq L) L = -1 from if_pos (rem_lt g.L0)]
            decide
          have a6 := a5.trans k6
          -- isinstance(laps, tuple)
          refine ⟨_, rfl, .int (qq / L).floor, _, _, _, _, rfl, .ty "tuple", (Kd.int (K := K) (H := K6) (qq / L).floor).ty, kd_tuple (.int (K := K) (H := K6) (qq / L).floor), _, rfl, ite2 (fun z => absurd z (by decide)) (fun _ => ?_)⟩
          -- plus(place, times(race.length, laps)) != position
          refine ⟨_, rfl, _, rfl, pr, dx, _, rfl, hpS _ a6, .ref pr, L, tr, rfl, hRS _ a6, fun yl2 hyl2 => ?_⟩
          refine ⟨_, rfl, yl2, _, some L, some (((qq / L).floor : Int) : Rat), rfl, hyl2.num, num_int _, ⟨zL39, zfl.mono (by decide)⟩, fun y7 K7 k7 e7 => ?_⟩
          refine ⟨y3, y7, some (rem qq L), some (L * (((qq / L).floor : Int) : Rat)), rfl, (e3'.same ((k5.trans k6).trans k7)).num, e7.num, ⟨zrem, (g.zL.mul zfl).mono (by decide)⟩, fun y8 K8 k8 e8 => ?_⟩
          have e8 : Rn K K8 y8 (rem qq L + L * (((qq / L).floor : Int) : Rat)) := e8
          rw [floor_rem g.L0] at e8
          have k18 : Same K1 K8 := ((((((k2.trans k3).trans k4).trans k5).trans k6).trans k7).trans k8)
          refine ⟨_, rfl, _, _, e8.dp, (e1.same k18).dp, shapedR _, shapedR _, _, rfl, ite2 (fun z => absurd z (by rw [eqvR]; decide)) (fun _ => ?_)⟩
          exact ⟨(sx.trans k1).trans k18, _, _, _, _, rfl⟩
        · obtain ⟨sx, u7, u8, u9, u10, rfl⟩ := hP
          exact ⟨s79.trans sx, _, _, _, _, _, rfl⟩
      · obtain ⟨sm, u6, u7, u8, u9, u10, rfl⟩ := hP
        have s58 := s57.trans sm
        have five : Sz 300 ((5 : Int) : Rat) := Sz.int (by decide) (by decide)
        have nn5' : (0 : Rat) ≤ ((5 : Int) : Rat) := Rat.intCast_nonneg.mpr (by decide)
        have zero0 : Sz 300 ((0 : Int) : Rat) := Sz.int (by decide) (by decide)
        have nn0 : (0 : Rat) ≤ ((0 : Int) : Rat) := Rat.intCast_nonneg.mpr (by decide)
        obtain ⟨e0, tr0, etr⟩ : ∃ e0 tr0, tr = e0 :: tr0 := by
          cases htr : tr with
          | nil =>
            rw [htr] at ltr
            have := g.ne
            simp at ltr
            omega
          | cons a l => exact ⟨a, l, rfl⟩
        have he : e0 ∈ tr := by rw [etr]; exact List.mem_cons_self
        obtain ⟨r1, hr1, r0, rows, rfl, et, _, _⟩ := later_in g pm he
        have hn0 : atI ((tr.map (·.1)).map V.str) 0 = some (.str r1.n) := by
          rw [etr]
          exact atI_nat (j := 0) rfl
        have okr := g.ok r1 hr1
        have AT : ∀ G' mv t, Same G5 G' → Num K G' mv t → 0 ≤ t → Sz 300 t → AtTime K C G' (.ref pr) r1.n mv L t r0 rows tr := fun G' mv t s' hn' t0 zt => ⟨⟨hRS _ s', g.nd2 pm, he⟩, hn', t0, zt, fun r hr => (((g.ok r1 hr1).ok g.L0 g.zL).pc.rz r (by rw [et]; exact hr)), g.L0, g.zL⟩
        refine ⟨_, rfl, pr, dx, _, rfl, hpS _ (s58), no1 (by decide +kernel) (by decide +kernel), _, rfl, pr, dx, _, rfl, hpS _ (s58), no1 (by decide +kernel) (by decide +kernel), .ref pr, L, tr, rfl, hRS _ (s58), fun pn1 B1 b1 _ hpn1 => ?_⟩
        have c1 := s58.trans b1
        refine ⟨pn1, _, 0, .str r1.n, rfl, rfl, .of hpn1, hn0, .ref pr, .int 5, r1.n, L, ((5 : Int) : Rat), r0, rows, tr, rfl, AT _ _ _ c1 (num_int 5) nn5' five, fun y1 K1 k1 e1 => ?_⟩
        have c2 := c1.trans k1
        refine ⟨_, rfl, pr, dx, _, rfl, hpS _ (c2), no1 (by decide +kernel) (by decide +kernel), _, rfl, pr, dx, _, rfl, hpS _ (c2), no1 (by decide +kernel) (by decide +kernel), .ref pr, L, tr, rfl, hRS _ (c2), fun pn2 B2 b2 _ hpn2 => ?_⟩
        refine ⟨pn2, _, 0, .str r1.n, rfl, rfl, .of hpn2, hn0, by show 2 ≤ sizeLine; decide, fun T nT => ?_⟩
        have hT : (upd B2 T (.tup [.int 5, .int 1])) T = some (.tup [.int 5, .int 1]) := upd_same
        have sT : Same B2 (upd B2 T (.tup [.int 5, .int 1])) := same_new nT
        show spPos K C _ (upd B2 T (.tup [.int 5, .int 1])) _ E0
        generalize (upd B2 T (.tup [.int 5, .int 1])) = K2 at hT sT ⊢
        have c3 := (c2.trans b2).trans sT
        have r5 : Rn K K2 (.ref T) ((5 : Int) : Rat) := ⟨T, rfl, .inl (.inl hT)⟩
        refine ⟨.ref pr, .ref T, r1.n, L, ((5 : Int) : Rat), r0, rows, tr, rfl, AT _ _ _ c3 r5.num nn5' five, fun y2 K3 k3 e2 => ?_⟩
        refine ⟨_, _, (e1.same ((b2.trans sT).trans k3)).dp, e2.dp, shapedR _, shapedR _, _, rfl, ite2 (fun z => absurd z (by rw [eqvR]; decide)) (fun _ => ?_)⟩
        have c4 := c3.trans k3
        -- laps(names()[0], 0) != 0
        refine ⟨_, rfl, pr, dx, _, rfl, hpS _ (c4), no1 (by decide +kernel) (by decide +kernel), _, rfl, pr, dx, _, rfl, hpS _ (c4), no1 (by decide +kernel) (by decide +kernel), .ref pr, L, tr, rfl, hRS _ (c4), fun pn3 B3 b3 _ hpn3 => ?_⟩
        have c5 := c4.trans b3
        have hz0 : (rowGo ((0 : Int) : Rat) r0 (r0 :: rows)).at_ ((0 : Int) : Rat) = rem r1.q L := at_zero okr.pc et
        have hself := rem_self (q := rem r1.q L) g.L0 (rem_nonneg g.L0) (rem_lt g.L0)
        refine ⟨pn3, _, 0, .str r1.n, rfl, rfl, .of hpn3, hn0, .ref pr, .int 0, r1.n, L, ((0 : Int) : Rat), r0, rows, tr, rfl, AT _ _ _ c5 (num_int 0) nn0 zero0, fun K4 k4 => ?_⟩
        rw [hz0, hself.1]
        refine ⟨rfl, _, rfl, ite2 (fun z => absurd z (by decide)) (fun _ => ?_)⟩
        have c6 := c5.trans k4
        -- place(names()[0], 0) != start(names()[0])
        refine ⟨_, rfl, pr, dx, _, rfl, hpS _ (c6), no1 (by decide +kernel) (by decide +kernel), _, rfl, pr, dx, _, rfl, hpS _ (c6), no1 (by decide +kernel) (by decide +kernel), .ref pr, L, tr, rfl, hRS _ (c6), fun pn4 B4 b4 _ hpn4 => ?_⟩
        have c7 := c6.trans b4
        refine ⟨pn4, _, 0, .str r1.n, rfl, rfl, .of hpn4, hn0, .ref pr, .int 0, r1.n, L, ((0 : Int) : Rat), r0, rows, tr, rfl, AT _ _ _ c7 (num_int 0) nn0 zero0, fun y3 K5 k5 e3 => ?_⟩
        rw [hz0, hself.2] at e3
        have c8 := c7.trans k5
        refine ⟨_, rfl, pr, dx, _, rfl, hpS _ (c8), no1 (by decide +kernel) (by decide +kernel), _, rfl, pr, dx, _, rfl, hpS _ (c8), no1 (by decide +kernel) (by decide +kernel), .ref pr, L, tr, rfl, hRS _ (c8), fun pn5 B5 b5 _ hpn5 => ?_⟩
        have c9 := c8.trans b5
        obtain ⟨r0', rows', et', hz', has', hrz', _⟩ := g.has pm (hRS _ c9) hr1
        obtain ⟨rfl, rfl⟩ := List.cons.inj (et'.symm.trans et)
        have hbase : Row.base r0' = rem r1.q L := by
          obtain ⟨cc, cs', ec1, ec2⟩ := trk_go (s0 := rem r1.q L) okr.pc.ne
          obtain ⟨tl, etl⟩ := trackGo_cons ⟨cc.1, cc.2, rem r1.q L⟩ cs'
          have e6 := (List.cons.inj (et.symm.trans (ec2.trans etl))).1
          rw [e6]
          show rem r1.q L - cc.2 * cc.1 = _
          rw [okr.pc.first ec1]
          grind
        refine ⟨pn5, _, 0, .str r1.n, rfl, rfl, .of hpn5, hn0, .ref pr, r1.n, L, r0', rows', tr, rfl, has', hrz' _ List.mem_cons_self, fun y4 B6 b6 e4 => ?_⟩
        rw [hbase] at e4
        refine ⟨_, _, (e3.same (b5.trans b6)).dp, e4.dp, shapedR _, shapedR _, _, rfl, ite2 (fun z => absurd z (by rw [eqvR]; decide)) (fun _ => ?_)⟩
        exact ⟨⟨_, _, _, _, _, _, _, _, _, _, _, rfl⟩, s05.trans (c9.trans b6)⟩
    · obtain ⟨_, s1⟩ := hP
      exact q _ s1
end
end LR
set_option Elab.async false
set_option linter.all false
set_option maxRecDepth 100000
set_option maxHeartbeats 8000000
namespace LR
open PySem PySem.Spec PyProof.Rows L2
theorem all_mk {P : Program} {w : World} {K : PySem.W.Frag} {mg : Str → Option Value} {h : Heap} {fa : Addr} {fII : Addr} {ocII : Value} {odII anII : Option Addr} {slII : Array (Option Value)} {kVII dcII pmII cdII ctII : Value}
    {fIR : Addr} {ocIR : Value} {odIR anIR : Option Addr} {slIR : Array (Option Value)} {kVIR dcIR pmIR cdIR ctIR : Value}
    {fIN : Addr} {ocIN : Value} {odIN anIN : Option Addr} {slIN : Array (Option Value)} {kVIN dcIN pmIN cdIN ctIN : Value}
    {fAR : Addr} {ocAR : Value} {odAR anAR : Option Addr} {slAR : Array (Option Value)} {kVAR dcAR pmAR cdAR ctAR : Value}
    {fRd : Addr} {ocRd : Value} {odRd anRd : Option Addr} {slRd : Array (Option Value)} {kVRd dcRd pmRd cdRd ctRd : Value}
    {fPl : Addr} {ocPl : Value} {odPl anPl : Option Addr} {slPl : Array (Option Value)} {kVPl dcPl pmPl cdPl ctPl : Value}
    {fMi : Addr} {ocMi : Value} {odMi anMi : Option Addr} {slMi : Array (Option Value)} {kVMi dcMi pmMi cdMi ctMi : Value}
    {fTi : Addr} {ocTi : Value} {odTi anTi : Option Addr} {slTi : Array (Option Value)} {kVTi dcTi pmTi cdTi ctTi : Value}
    {fCo : Addr} {ocCo : Value} {odCo anCo : Option Addr} {slCo : Array (Option Value)} {kVCo dcCo pmCo cdCo ctCo : Value}
    {fRe : Addr} {ocRe : Value} {odRe anRe : Option Addr} {slRe : Array (Option Value)} {kVRe dcRe pmRe cdRe ctRe : Value}
    {fIn : Addr} {ocIn : Value} {odIn anIn : Option Addr} {slIn : Array (Option Value)} {kVIn dcIn pmIn cdIn ctIn : Value}
    {fAs : Addr} {ocAs : Value} {odAs anAs : Option Addr} {slAs : Array (Option Value)} {kVAs dcAs pmAs cdAs ctAs : Value}
    {fIs2 : Addr} {ocIs2 : Value} {odIs2 anIs2 : Option Addr} {slIs2 : Array (Option Value)} {kVIs2 dcIs2 pmIs2 cdIs2 ctIs2 : Value}
    {fRk : Addr} {ocRk : Value} {odRk anRk : Option Addr} {slRk : Array (Option Value)} {kVRk dcRk pmRk cdRk ctRk : Value}
    {fNm : Addr} {ocNm : Value} {odNm anNm : Option Addr} {slNm : Array (Option Value)} {kVNm dcNm pmNm cdNm ctNm : Value}
    {fPo : Addr} {ocPo : Value} {odPo anPo : Option Addr} {slPo : Array (Option Value)} {kVPo dcPo pmPo cdPo ctPo : Value}
    {fTm : Addr} {ocTm : Value} {odTm anTm : Option Addr} {slTm : Array (Option Value)} {kVTm dcTm pmTm cdTm ctTm : Value}
    {fTo : Addr} {ocTo : Value} {odTo anTo : Option Addr} {slTo : Array (Option Value)} {kVTo dcTo pmTo cdTo ctTo : Value}
    {fLi : Addr} {ocLi : Value} {odLi anLi : Option Addr} {slLi : Array (Option Value)} {kVLi dcLi pmLi cdLi ctLi : Value}
    {fRA : Addr} {ocRA : Value} {odRA anRA : Option Addr} {slRA : Array (Option Value)} {kVRA dcRA pmRA cdRA ctRA : Value}
    {fPn : Addr} {ocPn : Value} {odPn anPn : Option Addr} {slPn : Array (Option Value)} {kVPn dcPn pmPn cdPn ctPn : Value}
    {fPc : Addr} {ocPc : Value} {odPc anPc : Option Addr} {slPc : Array (Option Value)} {kVPc dcPc pmPc cdPc ctPc : Value}
    {fLp : Addr} {ocLp : Value} {odLp anLp : Option Addr} {slLp : Array (Option Value)} {kVLp dcLp pmLp cdLp ctLp : Value}
    {fTr : Addr} {ocTr : Value} {odTr anTr : Option Addr} {slTr : Array (Option Value)} {kVTr dcTr pmTr cdTr ctTr : Value}
    {fRn : Addr} {ocRn : Value} {odRn anRn : Option Addr} {slRn : Array (Option Value)} {kVRn dcRn pmRn cdRn ctRn : Value}
    {fA2 : Addr} {ocA2 : Value} {odA2 anA2 : Option Addr} {slA2 : Array (Option Value)} {kVA2 dcA2 pmA2 cdA2 ctA2 : Value}
    {fLP : Addr} {ocLP : Value} {odLP anLP : Option Addr} {slLP : Array (Option Value)} {kVLP dcLP pmLP cdLP ctLP : Value}
    {fLD : Addr} {ocLD : Value} {odLD anLD : Option Addr} {slLD : Array (Option Value)} {kVLD dcLD pmLD cdLD ctLD : Value}
    {fLC : Addr} {ocLC : Value} {odLC anLC : Option Addr} {slLC : Array (Option Value)} {kVLC dcLC pmLC cdLC ctLC : Value}
    {fLN : Addr} {ocLN : Value} {odLN anLN : Option Addr} {slLN : Array (Option Value)} {kVLN dcLN pmLN cdLN ctLN : Value}
    {fLS : Addr} {ocLS : Value} {odLS anLS : Option Addr} {slLS : Array (Option Value)} {kVLS dcLS pmLS cdLS ctLS : Value}
    {fLR : Addr} {ocLR : Value} {odLR anLR : Option Addr} {slLR : Array (Option Value)} {kVLR dcLR pmLR cdLR ctLR : Value}
    {fLL : Addr} {ocLL : Value} {odLL anLL : Option Addr} {slLL : Array (Option Value)} {kVLL dcLL pmLL cdLL ctLL : Value}
    {fL : Addr} {ocL : Value} {odL anL : Option Addr} {slL : Array (Option Value)} {kVL dcL pmL cdL ctL : Value}
    {C : Addr}
    {fmI : Addr} {ocmI : Value} {odmI anmI : Option Addr} {slmI : Array (Option Value)} {kVmI dcmI pmmI cdmI ctmI : Value}
    {fmC : Addr} {ocmC : Value} {odmC anmC : Option Addr} {slmC : Array (Option Value)} {kVmC dcmC pmmC cdmC ctmC : Value}
    {fmN : Addr} {ocmN : Value} {odmN anmN : Option Addr} {slmN : Array (Option Value)} {kVmN dcmN pmmN cdmN ctmN : Value}
    {fmT : Addr} {ocmT : Value} {odmT anmT : Option Addr} {slmT : Array (Option Value)} {kVmT dcmT pmmT cdmT ctmT : Value}
    {fmS : Addr} {ocmS : Value} {odmS anmS : Option Addr} {slmS : Array (Option Value)} {kVmS dcmS pmmS cdmS ctmS : Value}
    {fmP : Addr} {ocmP : Value} {odmP anmP : Option Addr} {slmP : Array (Option Value)} {kVmP dcmP pmmP cdmP ctmP : Value}
    {fmG : Addr} {ocmG : Value} {odmG anmG : Option Addr} {slmG : Array (Option Value)} {kVmG dcmG pmmG cdmG ctmG : Value}
    {fmQ : Addr} {ocmQ : Value} {odmQ anmQ : Option Addr} {slmQ : Array (Option Value)} {kVmQ dcmQ pmmQ cdmQ ctmQ : Value}
    {fmA : Addr} {ocmA : Value} {odmA anmA : Option Addr} {slmA : Array (Option Value)} {kVmA dcmA pmmA cdmA ctmA : Value}
    {fmB : Addr} {ocmB : Value} {odmB anmB : Option Addr} {slmB : Array (Option Value)} {kVmB dcmB pmmB cdmB ctmB : Value}
    {fpL : Addr} {ocpL : Value} {odpL anpL : Option Addr} {slpL : Array (Option Value)} {kVpL dcpL pmpL cdpL ctpL : Value} {ppL : Addr} {restpL : List Value}
    {fR TR : Addr} {ocR ocT : Value} {odR anR odT : Option Addr} {slR slT : Array (Option Value)} {kVR dcR pmR cdR ctR : Value} {tR t8 tMl tMp tMr : Tok} {nTt : Nat}
    {CE1 : Addr}
    {CE2 : Addr}
    {CE3 : Addr}
    (X : K.In h) (G : h.Ns mainGlobals mg) (hfa : mg "law" = some (.ref fa))
    (aII : PySem.W.nsIn K mainGlobals "is_integer" = some (some (.ref fII))) (lII : K.lookup fII = some ⟨ocII, odII, .func (PySem.W.fnOf "is_integer" "is_integer" (defArgs (topS 11)) (defBody (topS 11)) (defScope (topS 11)) .none kVII dcII pmII anII cdII ctII), slII⟩) (cII : PySem.W.codeIn K cdII "is_integer" = true) (kII : PySem.W.keepIn K (.ref fII) = true)
    (aIR : PySem.W.nsIn K mainGlobals "is_ratio" = some (some (.ref fIR))) (lIR : K.lookup fIR = some ⟨ocIR, odIR, .func (PySem.W.fnOf "is_ratio" "is_ratio" (defArgs (topS 12)) (defBody (topS 12)) (defScope (topS 12)) .none kVIR dcIR pmIR anIR cdIR ctIR), slIR⟩) (cIR : PySem.W.codeIn K cdIR "is_ratio" = true) (kIR : PySem.W.keepIn K (.ref fIR) = true)
    (aIN : PySem.W.nsIn K mainGlobals "is_number" = some (some (.ref fIN))) (lIN : K.lookup fIN = some ⟨ocIN, odIN, .func (PySem.W.fnOf "is_number" "is_number" (defArgs (topS 13)) (defBody (topS 13)) (defScope (topS 13)) .none kVIN dcIN pmIN anIN cdIN ctIN), slIN⟩) (cIN : PySem.W.codeIn K cdIN "is_number" = true) (kIN : PySem.W.keepIn K (.ref fIN) = true)
    (aAR : PySem.W.nsIn K mainGlobals "as_ratio" = some (some (.ref fAR))) (lAR : K.lookup fAR = some ⟨ocAR, odAR, .func (PySem.W.fnOf "as_ratio" "as_ratio" (defArgs (topS 14)) (defBody (topS 14)) (defScope (topS 14)) .none kVAR dcAR pmAR anAR cdAR ctAR), slAR⟩) (cAR : PySem.W.codeIn K cdAR "as_ratio" = true) (kAR : PySem.W.keepIn K (.ref fAR) = true)
    (aRd : PySem.W.nsIn K mainGlobals "reduced" = some (some (.ref fRd))) (lRd : K.lookup fRd = some ⟨ocRd, odRd, .func (PySem.W.fnOf "reduced" "reduced" (defArgs (topS 15)) (defBody (topS 15)) (defScope (topS 15)) .none kVRd dcRd pmRd anRd cdRd ctRd), slRd⟩) (cRd : PySem.W.codeIn K cdRd "reduced" = true) (kRd : PySem.W.keepIn K (.ref fRd) = true)
    (aPl : PySem.W.nsIn K mainGlobals "plus" = some (some (.ref fPl))) (lPl : K.lookup fPl = some ⟨ocPl, odPl, .func (PySem.W.fnOf "plus" "plus" (defArgs (topS 17)) (defBody (topS 17)) (defScope (topS 17)) .none kVPl dcPl pmPl anPl cdPl ctPl), slPl⟩) (cPl : PySem.W.codeIn K cdPl "plus" = true) (kPl : PySem.W.keepIn K (.ref fPl) = true)
    (aMi : PySem.W.nsIn K mainGlobals "minus" = some (some (.ref fMi))) (lMi : K.lookup fMi = some ⟨ocMi, odMi, .func (PySem.W.fnOf "minus" "minus" (defArgs (topS 18)) (defBody (topS 18)) (defScope (topS 18)) .none kVMi dcMi pmMi anMi cdMi ctMi), slMi⟩) (cMi : PySem.W.codeIn K cdMi "minus" = true) (kMi : PySem.W.keepIn K (.ref fMi) = true)
    (aTi : PySem.W.nsIn K mainGlobals "times" = some (some (.ref fTi))) (lTi : K.lookup fTi = some ⟨ocTi, odTi, .func (PySem.W.fnOf "times" "times" (defArgs (topS 19)) (defBody (topS 19)) (defScope (topS 19)) .none kVTi dcTi pmTi anTi cdTi ctTi), slTi⟩) (cTi : PySem.W.codeIn K cdTi "times" = true) (kTi : PySem.W.keepIn K (.ref fTi) = true)
    (aCo : PySem.W.nsIn K mainGlobals "compare" = some (some (.ref fCo))) (lCo : K.lookup fCo = some ⟨ocCo, odCo, .func (PySem.W.fnOf "compare" "compare" (defArgs (topS 20)) (defBody (topS 20)) (defScope (topS 20)) .none kVCo dcCo pmCo anCo cdCo ctCo), slCo⟩) (cCo : PySem.W.codeIn K cdCo "compare" = true) (kCo : PySem.W.keepIn K (.ref fCo) = true)
    (aRe : PySem.W.nsIn K mainGlobals "remainder" = some (some (.ref fRe))) (lRe : K.lookup fRe = some ⟨ocRe, odRe, .func (PySem.W.fnOf "remainder" "remainder" (defArgs (topS 21)) (defBody (topS 21)) (defScope (topS 21)) .none kVRe dcRe pmRe anRe cdRe ctRe), slRe⟩) (cRe : PySem.W.codeIn K cdRe "remainder" = true) (kRe : PySem.W.keepIn K (.ref fRe) = true)
    (aIn : PySem.W.nsIn K mainGlobals "in_order" = some (some (.ref fIn))) (lIn : K.lookup fIn = some ⟨ocIn, odIn, .func (PySem.W.fnOf "in_order" "in_order" (defArgs (topS 22)) (defBody (topS 22)) (defScope (topS 22)) .none kVIn dcIn pmIn anIn cdIn ctIn), slIn⟩) (cIn : PySem.W.codeIn K cdIn "in_order" = true) (kIn : PySem.W.keepIn K (.ref fIn) = true)
    (aAs : PySem.W.nsIn K mainGlobals "ascending" = some (some (.ref fAs))) (lAs : K.lookup fAs = some ⟨ocAs, odAs, .func (PySem.W.fnOf "ascending" "ascending" (defArgs (topS 23)) (defBody (topS 23)) (defScope (topS 23)) .none kVAs dcAs pmAs anAs cdAs ctAs), slAs⟩) (cAs : PySem.W.codeIn K cdAs "ascending" = true) (kAs : PySem.W.keepIn K (.ref fAs) = true)
    (aIs2 : PySem.W.nsIn K mainGlobals "_inserted" = some (some (.ref fIs2))) (lIs2 : K.lookup fIs2 = some ⟨ocIs2, odIs2, .func (PySem.W.fnOf "_inserted" "_inserted" (defArgs (topS 24)) (defBody (topS 24)) (defScope (topS 24)) .none kVIs2 dcIs2 pmIs2 anIs2 cdIs2 ctIs2), slIs2⟩) (cIs2 : PySem.W.codeIn K cdIs2 "_inserted" = true) (kIs2 : PySem.W.keepIn K (.ref fIs2) = true)
    (aRk : PySem.W.nsIn K mainGlobals "_ranked" = some (some (.ref fRk))) (lRk : K.lookup fRk = some ⟨ocRk, odRk, .func (PySem.W.fnOf "_ranked" "_ranked" (defArgs (topS 25)) (defBody (topS 25)) (defScope (topS 25)) .none kVRk dcRk pmRk anRk cdRk ctRk), slRk⟩) (cRk : PySem.W.codeIn K cdRk "_ranked" = true) (kRk : PySem.W.keepIn K (.ref fRk) = true)
    (aNm : PySem.W.nsIn K mainGlobals "is_name" = some (some (.ref fNm))) (lNm : K.lookup fNm = some ⟨ocNm, odNm, .func (PySem.W.fnOf "is_name" "is_name" (defArgs (topS 28)) (defBody (topS 28)) (defScope (topS 28)) .none kVNm dcNm pmNm anNm cdNm ctNm), slNm⟩) (cNm : PySem.W.codeIn K cdNm "is_name" = true) (kNm : PySem.W.keepIn K (.ref fNm) = true)
    (aPo : PySem.W.nsIn K mainGlobals "is_positive" = some (some (.ref fPo))) (lPo : K.lookup fPo = some ⟨ocPo, odPo, .func (PySem.W.fnOf "is_positive" "is_positive" (defArgs (topS 29)) (defBody (topS 29)) (defScope (topS 29)) .none kVPo dcPo pmPo anPo cdPo ctPo), slPo⟩) (cPo : PySem.W.codeIn K cdPo "is_positive" = true) (kPo : PySem.W.keepIn K (.ref fPo) = true)
    (aTm : PySem.W.nsIn K mainGlobals "as_time" = some (some (.ref fTm))) (lTm : K.lookup fTm = some ⟨ocTm, odTm, .func (PySem.W.fnOf "as_time" "as_time" (defArgs (topS 30)) (defBody (topS 30)) (defScope (topS 30)) .none kVTm dcTm pmTm anTm cdTm ctTm), slTm⟩) (cTm : PySem.W.codeIn K cdTm "as_time" = true) (kTm : PySem.W.keepIn K (.ref fTm) = true)
    (aTo : PySem.W.nsIn K mainGlobals "track_of" = some (some (.ref fTo))) (lTo : K.lookup fTo = some ⟨ocTo, odTo, .func (PySem.W.fnOf "track_of" "track_of" (defArgs (topS 32)) (defBody (topS 32)) (defScope (topS 32)) .none kVTo dcTo pmTo anTo cdTo ctTo), slTo⟩) (cTo : PySem.W.codeIn K cdTo "track_of" = true) (kTo : PySem.W.keepIn K (.ref fTo) = true)
    (aLi : PySem.W.nsIn K mainGlobals "_line" = some (some (.ref fLi))) (lLi : K.lookup fLi = some ⟨ocLi, odLi, .func (PySem.W.fnOf "_line" "_line" (defArgs (topS 33)) (defBody (topS 33)) (defScope (topS 33)) .none kVLi dcLi pmLi anLi cdLi ctLi), slLi⟩) (cLi : PySem.W.codeIn K cdLi "_line" = true) (kLi : PySem.W.keepIn K (.ref fLi) = true)
    (aRA : PySem.W.nsIn K mainGlobals "row_at" = some (some (.ref fRA))) (lRA : K.lookup fRA = some ⟨ocRA, odRA, .func (PySem.W.fnOf "row_at" "row_at" (defArgs (topS 34)) (defBody (topS 34)) (defScope (topS 34)) .none kVRA dcRA pmRA anRA cdRA ctRA), slRA⟩) (cRA : PySem.W.codeIn K cdRA "row_at" = true) (kRA : PySem.W.keepIn K (.ref fRA) = true)
    (aPn : PySem.W.nsIn K mainGlobals "position_in" = some (some (.ref fPn))) (lPn : K.lookup fPn = some ⟨ocPn, odPn, .func (PySem.W.fnOf "position_in" "position_in" (defArgs (topS 35)) (defBody (topS 35)) (defScope (topS 35)) .none kVPn dcPn pmPn anPn cdPn ctPn), slPn⟩) (cPn : PySem.W.codeIn K cdPn "position_in" = true) (kPn : PySem.W.keepIn K (.ref fPn) = true)
    (aPc : PySem.W.nsIn K mainGlobals "place_in" = some (some (.ref fPc))) (lPc : K.lookup fPc = some ⟨ocPc, odPc, .func (PySem.W.fnOf "place_in" "place_in" (defArgs (topS 36)) (defBody (topS 36)) (defScope (topS 36)) .none kVPc dcPc pmPc anPc cdPc ctPc), slPc⟩) (cPc : PySem.W.codeIn K cdPc "place_in" = true) (kPc : PySem.W.keepIn K (.ref fPc) = true)
    (aLp : PySem.W.nsIn K mainGlobals "laps_in" = some (some (.ref fLp))) (lLp : K.lookup fLp = some ⟨ocLp, odLp, .func (PySem.W.fnOf "laps_in" "laps_in" (defArgs (topS 37)) (defBody (topS 37)) (defScope (topS 37)) .none kVLp dcLp pmLp anLp cdLp ctLp), slLp⟩) (cLp : PySem.W.codeIn K cdLp "laps_in" = true) (kLp : PySem.W.keepIn K (.ref fLp) = true)
    (aTr : PySem.W.nsIn K mainGlobals "_track" = some (some (.ref fTr))) (lTr : K.lookup fTr = some ⟨ocTr, odTr, .func (PySem.W.fnOf "_track" "_track" (defArgs (topS 42)) (defBody (topS 42)) (defScope (topS 42)) .none kVTr dcTr pmTr anTr cdTr ctTr), slTr⟩) (cTr : PySem.W.codeIn K cdTr "_track" = true) (kTr : PySem.W.keepIn K (.ref fTr) = true)
    (aRn : PySem.W.nsIn K mainGlobals "_is_runner" = some (some (.ref fRn))) (lRn : K.lookup fRn = some ⟨ocRn, odRn, .func (PySem.W.fnOf "_is_runner" "_is_runner" (defArgs (topS 43)) (defBody (topS 43)) (defScope (topS 43)) .none kVRn dcRn pmRn anRn cdRn ctRn), slRn⟩) (cRn : PySem.W.codeIn K cdRn "_is_runner" = true) (kRn : PySem.W.keepIn K (.ref fRn) = true)
    (aA2 : PySem.W.nsIn K mainGlobals "_are_ascending" = some (some (.ref fA2))) (lA2 : K.lookup fA2 = some ⟨ocA2, odA2, .func (PySem.W.fnOf "_are_ascending" "_are_ascending" (defArgs (topS 44)) (defBody (topS 44)) (defScope (topS 44)) .none kVA2 dcA2 pmA2 anA2 cdA2 ctA2), slA2⟩) (cA2 : PySem.W.codeIn K cdA2 "_are_ascending" = true) (kA2 : PySem.W.keepIn K (.ref fA2) = true)
    (aLP : PySem.W.nsIn K mainGlobals "_law_pool" = some (some (.ref fLP))) (lLP : K.lookup fLP = some ⟨ocLP, odLP, .func (PySem.W.fnOf "_law_pool" "_law_pool" (defArgs (topS 46)) (defBody (topS 46)) (defScope (topS 46)) .none kVLP dcLP pmLP anLP cdLP ctLP), slLP⟩) (cLP : PySem.W.codeIn K cdLP "_law_pool" = true) (kLP : PySem.W.keepIn K (.ref fLP) = true)
    (aLD : PySem.W.nsIn K mainGlobals "_law_draw" = some (some (.ref fLD))) (lLD : K.lookup fLD = some ⟨ocLD, odLD, .func (PySem.W.fnOf "_law_draw" "_law_draw" (defArgs (topS 47)) (defBody (topS 47)) (defScope (topS 47)) .none kVLD dcLD pmLD anLD cdLD ctLD), slLD⟩) (cLD : PySem.W.codeIn K cdLD "_law_draw" = true) (kLD : PySem.W.keepIn K (.ref fLD) = true)
    (aLC : PySem.W.nsIn K mainGlobals "_law_choose" = some (some (.ref fLC))) (lLC : K.lookup fLC = some ⟨ocLC, odLC, .func (PySem.W.fnOf "_law_choose" "_law_choose" (defArgs (topS 48)) (defBody (topS 48)) (defScope (topS 48)) .none kVLC dcLC pmLC anLC cdLC ctLC), slLC⟩) (cLC : PySem.W.codeIn K cdLC "_law_choose" = true) (kLC : PySem.W.keepIn K (.ref fLC) = true)
    (aLN : PySem.W.nsIn K mainGlobals "_law_number" = some (some (.ref fLN))) (lLN : K.lookup fLN = some ⟨ocLN, odLN, .func (PySem.W.fnOf "_law_number" "_law_number" (defArgs (topS 49)) (defBody (topS 49)) (defScope (topS 49)) .none kVLN dcLN pmLN anLN cdLN ctLN), slLN⟩) (cLN : PySem.W.codeIn K cdLN "_law_number" = true) (kLN : PySem.W.keepIn K (.ref fLN) = true)
    (aLS : PySem.W.nsIn K mainGlobals "_law_pieces" = some (some (.ref fLS))) (lLS : K.lookup fLS = some ⟨ocLS, odLS, .func (PySem.W.fnOf "_law_pieces" "_law_pieces" (defArgs (topS 50)) (defBody (topS 50)) (defScope (topS 50)) .none kVLS dcLS pmLS anLS cdLS ctLS), slLS⟩) (cLS : PySem.W.codeIn K cdLS "_law_pieces" = true) (kLS : PySem.W.keepIn K (.ref fLS) = true)
    (aLR : PySem.W.nsIn K mainGlobals "_law_race" = some (some (.ref fLR))) (lLR : K.lookup fLR = some ⟨ocLR, odLR, .func (PySem.W.fnOf "_law_race" "_law_race" (defArgs (topS 51)) (defBody (topS 51)) (defScope (topS 51)) .none kVLR dcLR pmLR anLR cdLR ctLR), slLR⟩) (cLR : PySem.W.codeIn K cdLR "_law_race" = true) (kLR : PySem.W.keepIn K (.ref fLR) = true)
    (aLL : PySem.W.nsIn K mainGlobals "_law_line" = some (some (.ref fLL))) (lLL : K.lookup fLL = some ⟨ocLL, odLL, .func (PySem.W.fnOf "_law_line" "_law_line" (defArgs (topS 52)) (defBody (topS 52)) (defScope (topS 52)) .none kVLL dcLL pmLL anLL cdLL ctLL), slLL⟩) (cLL : PySem.W.codeIn K cdLL "_law_line" = true) (kLL : PySem.W.keepIn K (.ref fLL) = true)
    (aL : PySem.W.nsIn K mainGlobals "law" = some (some (.ref fL))) (lL : K.lookup fL = some ⟨ocL, odL, .func (PySem.W.fnOf "law" "law" (defArgs (topS 53)) (defBody (topS 53)) (defScope (topS 53)) .none kVL dcL pmL anL cdL ctL), slL⟩) (cL : PySem.W.codeIn K cdL "law" = true) (kL : PySem.W.keepIn K (.ref fL) = true)
    (aC : PySem.W.nsIn K mainGlobals "Race" = some (some (.ref C)))
    (pg : PySem.W.plainGet K C Str.empty = true)
    (hd : PySem.W.hasDictIn K C = true)
    (po : PySem.W.plainOver K C = true)
    (sa : PySem.W.findIn K (.ref C) "__setattr__" = some (some (.builtin "object.__setattr__")))
    (mk : PySem.W.makesIn K C = true)
    (kc : PySem.W.keepIn K (.ref C) = true)
    (nL : PySem.W.findIn K (.ref C) "_length" = some none)
    (nT : PySem.W.findIn K (.ref C) "_tracks" = some none)
    (amI : PySem.W.findIn K (.ref C) "__init__" = some (some (.ref fmI))) (imI : PySem.W.isFn K (.ref fmI) = true)
    (lmI : K.lookup fmI = some ⟨ocmI, odmI, .func (PySem.W.fnOf "__init__" "Race.__init__" (defArgs (inClass cRace 0)) (defBody (inClass cRace 0)) (defScope (inClass cRace 0)) .none kVmI dcmI pmmI anmI cdmI ctmI), slmI⟩) (cmI : PySem.W.codeIn K cdmI "Race.__init__" = true) (kmI : PySem.W.keepIn K (.ref fmI) = true)
    (amC : PySem.W.findIn K (.ref C) "__contains__" = some (some (.ref fmC))) (imC : PySem.W.isFn K (.ref fmC) = true)
    (lmC : K.lookup fmC = some ⟨ocmC, odmC, .func (PySem.W.fnOf "__contains__" "Race.__contains__" (defArgs (inClass cRace 3)) (defBody (inClass cRace 3)) (defScope (inClass cRace 3)) .none kVmC dcmC pmmC anmC cdmC ctmC), slmC⟩) (cmC : PySem.W.codeIn K cdmC "Race.__contains__" = true) (kmC : PySem.W.keepIn K (.ref fmC) = true)
    (amN : PySem.W.findIn K (.ref C) "names" = some (some (.ref fmN))) (imN : PySem.W.isFn K (.ref fmN) = true)
    (lmN : K.lookup fmN = some ⟨ocmN, odmN, .func (PySem.W.fnOf "names" "Race.names" (defArgs (inClass cRace 5)) (defBody (inClass cRace 5)) (defScope (inClass cRace 5)) .none kVmN dcmN pmmN anmN cdmN ctmN), slmN⟩) (cmN : PySem.W.codeIn K cdmN "Race.names" = true) (kmN : PySem.W.keepIn K (.ref fmN) = true)
    (amT : PySem.W.findIn K (.ref C) "track" = some (some (.ref fmT))) (imT : PySem.W.isFn K (.ref fmT) = true)
    (lmT : K.lookup fmT = some ⟨ocmT, odmT, .func (PySem.W.fnOf "track" "Race.track" (defArgs (inClass cRace 6)) (defBody (inClass cRace 6)) (defScope (inClass cRace 6)) .none kVmT dcmT pmmT anmT cdmT ctmT), slmT⟩) (cmT : PySem.W.codeIn K cdmT "Race.track" = true) (kmT : PySem.W.keepIn K (.ref fmT) = true)
    (amS : PySem.W.findIn K (.ref C) "start" = some (some (.ref fmS))) (imS : PySem.W.isFn K (.ref fmS) = true)
    (lmS : K.lookup fmS = some ⟨ocmS, odmS, .func (PySem.W.fnOf "start" "Race.start" (defArgs (inClass cRace 8)) (defBody (inClass cRace 8)) (defScope (inClass cRace 8)) .none kVmS dcmS pmmS anmS cdmS ctmS), slmS⟩) (cmS : PySem.W.codeIn K cdmS "Race.start" = true) (kmS : PySem.W.keepIn K (.ref fmS) = true)
    (amP : PySem.W.findIn K (.ref C) "pieces" = some (some (.ref fmP))) (imP : PySem.W.isFn K (.ref fmP) = true)
    (lmP : K.lookup fmP = some ⟨ocmP, odmP, .func (PySem.W.fnOf "pieces" "Race.pieces" (defArgs (inClass cRace 9)) (defBody (inClass cRace 9)) (defScope (inClass cRace 9)) .none kVmP dcmP pmmP anmP cdmP ctmP), slmP⟩) (cmP : PySem.W.codeIn K cdmP "Race.pieces" = true) (kmP : PySem.W.keepIn K (.ref fmP) = true)
    (amG : PySem.W.findIn K (.ref C) "change_times" = some (some (.ref fmG))) (imG : PySem.W.isFn K (.ref fmG) = true)
    (lmG : K.lookup fmG = some ⟨ocmG, odmG, .func (PySem.W.fnOf "change_times" "Race.change_times" (defArgs (inClass cRace 10)) (defBody (inClass cRace 10)) (defScope (inClass cRace 10)) .none kVmG dcmG pmmG anmG cdmG ctmG), slmG⟩) (cmG : PySem.W.codeIn K cdmG "Race.change_times" = true) (kmG : PySem.W.keepIn K (.ref fmG) = true)
    (amQ : PySem.W.findIn K (.ref C) "position" = some (some (.ref fmQ))) (imQ : PySem.W.isFn K (.ref fmQ) = true)
    (lmQ : K.lookup fmQ = some ⟨ocmQ, odmQ, .func (PySem.W.fnOf "position" "Race.position" (defArgs (inClass cRace 11)) (defBody (inClass cRace 11)) (defScope (inClass cRace 11)) .none kVmQ dcmQ pmmQ anmQ cdmQ ctmQ), slmQ⟩) (cmQ : PySem.W.codeIn K cdmQ "Race.position" = true) (kmQ : PySem.W.keepIn K (.ref fmQ) = true)
    (amA : PySem.W.findIn K (.ref C) "place" = some (some (.ref fmA))) (imA : PySem.W.isFn K (.ref fmA) = true)
    (lmA : K.lookup fmA = some ⟨ocmA, odmA, .func (PySem.W.fnOf "place" "Race.place" (defArgs (inClass cRace 12)) (defBody (inClass cRace 12)) (defScope (inClass cRace 12)) .none kVmA dcmA pmmA anmA cdmA ctmA), slmA⟩) (cmA : PySem.W.codeIn K cdmA "Race.place" = true) (kmA : PySem.W.keepIn K (.ref fmA) = true)
    (amB : PySem.W.findIn K (.ref C) "laps" = some (some (.ref fmB))) (imB : PySem.W.isFn K (.ref fmB) = true)
    (lmB : K.lookup fmB = some ⟨ocmB, odmB, .func (PySem.W.fnOf "laps" "Race.laps" (defArgs (inClass cRace 13)) (defBody (inClass cRace 13)) (defScope (inClass cRace 13)) .none kVmB dcmB pmmB anmB cdmB ctmB), slmB⟩) (cmB : PySem.W.codeIn K cdmB "Race.laps" = true) (kmB : PySem.W.keepIn K (.ref fmB) = true)
    (apL1 : PySem.W.findIn K (.ref C) "length" = some (some (.ref ppL))) (apL2 : PySem.W.specialIn K (.ref ppL) "__get__" = some (some (.builtin "property.__get__"))) (apL3 : PySem.W.takesIn K (.ref ppL) = some true) (apL4 : PySem.W.recIn K ppL "property" = some (.ref fpL :: restpL))
    (lpL : K.lookup fpL = some ⟨ocpL, odpL, .func (PySem.W.fnOf "length" "Race.length" (defArgs (inClass cRace 4)) (defBody (inClass cRace 4)) (defScope (inClass cRace 4)) .none kVpL dcpL pmpL anpL cdpL ctpL), slpL⟩) (cpL : PySem.W.codeIn K cdpL "Race.length" = true) (kpL : PySem.W.keepIn K (.ref fpL) = true)
    (aR : PySem.W.nsIn K mainGlobals "ratio" = some (some (.ref fR))) (lR : K.lookup fR = some ⟨ocR, odR, .func (PySem.W.fnOf "ratio" "ratio" (defArgs (topS 16)) (defBody (topS 16)) (defScope (topS 16)) (.ref TR) kVR dcR pmR anR cdR ctR), slR⟩) (cR : PySem.W.codeIn K cdR "ratio" = true) (kR : PySem.W.keepIn K (.ref fR) = true) (lT : K.lookup TR = some ⟨ocT, odT, .seq #[.int 1 tR] nTt, slT⟩)
    (few : PySem.W.nsIn K mainGlobals "FEW" = some (some (.int 8 t8)))
    (vMl : PySem.W.nsIn K mainGlobals "MOST_LETTERS" = some (some (.int 8 tMl)))
    (vMp : PySem.W.nsIn K mainGlobals "MOST_PIECES" = some (some (.int 20 tMp)))
    (vMr : PySem.W.nsIn K mainGlobals "MOST_RUNNERS" = some (some (.int 12 tMr)))
    (gE1 : PySem.W.nsIn K mainGlobals "InvalidNumber" = some (some (.ref CE1))) (kE1 : PySem.W.keepIn K (.ref CE1) = true) (qE1 : PySem.W.excIn K CE1 BMv "ValueError.__new__" = true) (bE1 : PySem.W.subIn K (.ref CE1) (.type "BaseException") = some true) (tE1 : PySem.W.typeIn K (.ref CE1) = some (.type "type"))
    (gE2 : PySem.W.nsIn K mainGlobals "DivisionByZero" = some (some (.ref CE2))) (kE2 : PySem.W.keepIn K (.ref CE2) = true) (qE2 : PySem.W.excIn K CE2 BMa "ArithmeticError.__new__" = true) (bE2 : PySem.W.subIn K (.ref CE2) (.type "BaseException") = some true) (tE2 : PySem.W.typeIn K (.ref CE2) = some (.type "type"))
    (gE3 : PySem.W.nsIn K mainGlobals "InvalidTime" = some (some (.ref CE3))) (kE3 : PySem.W.keepIn K (.ref CE3) = true) (qE3 : PySem.W.excIn K CE3 BMv "ValueError.__new__" = true) (bE3 : PySem.W.subIn K (.ref CE3) (.type "BaseException") = some true) (tE3 : PySem.W.typeIn K (.ref CE3) = some (.type "type"))
    (dE1 : PySem.W.hasDictIn K CE1 = true)
    (sE1 : PySem.W.subIn K (.ref CE1) (.ref CE1) = some true)
    (gcd : PySem.W.nsIn K mainGlobals "gcd" = some (some (.builtin "math.gcd")))
    (n_isinstance : PySem.W.nsIn K mainGlobals "isinstance" = some none)
    (n_int : PySem.W.nsIn K mainGlobals "int" = some none)
    (n_bool : PySem.W.nsIn K mainGlobals "bool" = some none)
    (n_tuple : PySem.W.nsIn K mainGlobals "tuple" = some none)
    (n_list : PySem.W.nsIn K mainGlobals "list" = some none)
    (n_len : PySem.W.nsIn K mainGlobals "len" = some none)
    (n_type : PySem.W.nsIn K mainGlobals "type" = some none)
    (n_max : PySem.W.nsIn K mainGlobals "max" = some none)
    (n_min : PySem.W.nsIn K mainGlobals "min" = some none)
    (n_sorted : PySem.W.nsIn K mainGlobals "sorted" = some none)
    (n_range : PySem.W.nsIn K mainGlobals "range" = some none)
    (n_str : PySem.W.nsIn K mainGlobals "str" = some none)
    (n_all : PySem.W.nsIn K mainGlobals "all" = some none)
    (n_dict : PySem.W.nsIn K mainGlobals "dict" = some none)
    (n_zip : PySem.W.nsIn K mainGlobals "zip" = some none) :
    ∃ fd : FuncData, (∀ (s : Shared) (u : Value), BindsTo s fd ⟨[u], []⟩ [("script", u)]) ∧ ∀ base : Heap, K.In base → base.Ns mainGlobals mg → LG.FnG P w K mg base (CXl P w) 10 fa fd ["script"] (spLaw K) := by
  have e := hfa.symm.trans (PySem.W.mg_of X G aL)
  cases e
  have FII := fun_mk (st := topS 11) lII cII kII
  have DII : DefAt K mg "is_integer" (topS 11) ["value"] _ _ := ⟨FII, PySem.W.mg_of X G aII, FII.binds (ps := ["value"]) fun _ _ _ _ _ _ us hl => match us, hl with | [_], _ => rfl⟩
  have FIR := fun_mk (st := topS 12) lIR cIR kIR
  have DIR : DefAt K mg "is_ratio" (topS 12) ["value"] _ _ := ⟨FIR, PySem.W.mg_of X G aIR, FIR.binds (ps := ["value"]) fun _ _ _ _ _ _ us hl => match us, hl with | [_], _ => rfl⟩
  have FIN := fun_mk (st := topS 13) lIN cIN kIN
  have DIN : DefAt K mg "is_number" (topS 13) ["value"] _ _ := ⟨FIN, PySem.W.mg_of X G aIN, FIN.binds (ps := ["value"]) fun _ _ _ _ _ _ us hl => match us, hl with | [_], _ => rfl⟩
  have FAR := fun_mk (st := topS 14) lAR cAR kAR
  have DAR : DefAt K mg "as_ratio" (topS 14) ["value"] _ _ := ⟨FAR, PySem.W.mg_of X G aAR, FAR.binds (ps := ["value"]) fun _ _ _ _ _ _ us hl => match us, hl with | [_], _ => rfl⟩
  have FRd := fun_mk (st := topS 15) lRd cRd kRd
  have DRd : DefAt K mg "reduced" (topS 15) ["top", "bottom"] _ _ := ⟨FRd, PySem.W.mg_of X G aRd, FRd.binds (ps := ["top", "bottom"]) fun _ _ _ _ _ _ us hl => match us, hl with | [_, _], _ => rfl⟩
  have FPl := fun_mk (st := topS 17) lPl cPl kPl
  have DPl : DefAt K mg "plus" (topS 17) ["first", "second"] _ _ := ⟨FPl, PySem.W.mg_of X G aPl, FPl.binds (ps := ["first", "second"]) fun _ _ _ _ _ _ us hl => match us, hl with | [_, _], _ => rfl⟩
  have FMi := fun_mk (st := topS 18) lMi cMi kMi
  have DMi : DefAt K mg "minus" (topS 18) ["first", "second"] _ _ := ⟨FMi, PySem.W.mg_of X G aMi, FMi.binds (ps := ["first", "second"]) fun _ _ _ _ _ _ us hl => match us, hl with | [_, _], _ => rfl⟩
  have FTi := fun_mk (st := topS 19) lTi cTi kTi
  have DTi : DefAt K mg "times" (topS 19) ["first", "second"] _ _ := ⟨FTi, PySem.W.mg_of X G aTi, FTi.binds (ps := ["first", "second"]) fun _ _ _ _ _ _ us hl => match us, hl with | [_, _], _ => rfl⟩
  have FCo := fun_mk (st := topS 20) lCo cCo kCo
  have DCo : DefAt K mg "compare" (topS 20) ["first", "second"] _ _ := ⟨FCo, PySem.W.mg_of X G aCo, FCo.binds (ps := ["first", "second"]) fun _ _ _ _ _ _ us hl => match us, hl with | [_, _], _ => rfl⟩
  have FRe := fun_mk (st := topS 21) lRe cRe kRe
  have DRe : DefAt K mg "remainder" (topS 21) ["value", "modulus"] _ _ := ⟨FRe, PySem.W.mg_of X G aRe, FRe.binds (ps := ["value", "modulus"]) fun _ _ _ _ _ _ us hl => match us, hl with | [_, _], _ => rfl⟩
  have FIn := fun_mk (st := topS 22) lIn cIn kIn
  have DIn : DefAt K mg "in_order" (topS 22) ["values"] _ _ := ⟨FIn, PySem.W.mg_of X G aIn, FIn.binds (ps := ["values"]) fun _ _ _ _ _ _ us hl => match us, hl with | [_], _ => rfl⟩
  have FAs := fun_mk (st := topS 23) lAs cAs kAs
  have DAs : DefAt K mg "ascending" (topS 23) ["rows"] _ _ := ⟨FAs, PySem.W.mg_of X G aAs, FAs.binds (ps := ["rows"]) fun _ _ _ _ _ _ us hl => match us, hl with | [_], _ => rfl⟩
  have FIs2 := fun_mk (st := topS 24) lIs2 cIs2 kIs2
  have DIs2 : DefAt K mg "_inserted" (topS 24) ["rows"] _ _ := ⟨FIs2, PySem.W.mg_of X G aIs2, FIs2.binds (ps := ["rows"]) fun _ _ _ _ _ _ us hl => match us, hl with | [_], _ => rfl⟩
  have FRk := fun_mk (st := topS 25) lRk cRk kRk
  have DRk : DefAt K mg "_ranked" (topS 25) ["rows"] _ _ := ⟨FRk, PySem.W.mg_of X G aRk, FRk.binds (ps := ["rows"]) fun _ _ _ _ _ _ us hl => match us, hl with | [_], _ => rfl⟩
  have FNm := fun_mk (st := topS 28) lNm cNm kNm
  have DNm : DefAt K mg "is_name" (topS 28) ["value"] _ _ := ⟨FNm, PySem.W.mg_of X G aNm, FNm.binds (ps := ["value"]) fun _ _ _ _ _ _ us hl => match us, hl with | [_], _ => rfl⟩
  have FPo := fun_mk (st := topS 29) lPo cPo kPo
  have DPo : DefAt K mg "is_positive" (topS 29) ["value"] _ _ := ⟨FPo, PySem.W.mg_of X G aPo, FPo.binds (ps := ["value"]) fun _ _ _ _ _ _ us hl => match us, hl with | [_], _ => rfl⟩
  have FTm := fun_mk (st := topS 30) lTm cTm kTm
  have DTm : DefAt K mg "as_time" (topS 30) ["value"] _ _ := ⟨FTm, PySem.W.mg_of X G aTm, FTm.binds (ps := ["value"]) fun _ _ _ _ _ _ us hl => match us, hl with | [_], _ => rfl⟩
  have FTo := fun_mk (st := topS 32) lTo cTo kTo
  have DTo : DefAt K mg "track_of" (topS 32) ["start", "pieces"] _ _ := ⟨FTo, PySem.W.mg_of X G aTo, FTo.binds (ps := ["start", "pieces"]) fun _ _ _ _ _ _ us hl => match us, hl with | [_, _], _ => rfl⟩
  have FLi := fun_mk (st := topS 33) lLi cLi kLi
  have DLi : DefAt K mg "_line" (topS 33) ["begin", "speed", "top", "bottom"] _ _ := ⟨FLi, PySem.W.mg_of X G aLi, FLi.binds (ps := ["begin", "speed", "top", "bottom"]) fun _ _ _ _ _ _ us hl => match us, hl with | [_, _, _, _], _ => rfl⟩
  have FRA := fun_mk (st := topS 34) lRA cRA kRA
  have DRA : DefAt K mg "row_at" (topS 34) ["track", "time"] _ _ := ⟨FRA, PySem.W.mg_of X G aRA, FRA.binds (ps := ["track", "time"]) fun _ _ _ _ _ _ us hl => match us, hl with | [_, _], _ => rfl⟩
  have FPn := fun_mk (st := topS 35) lPn cPn kPn
  have DPn : DefAt K mg "position_in" (topS 35) ["row", "time"] _ _ := ⟨FPn, PySem.W.mg_of X G aPn, FPn.binds (ps := ["row", "time"]) fun _ _ _ _ _ _ us hl => match us, hl with | [_, _], _ => rfl⟩
  have FPc := fun_mk (st := topS 36) lPc cPc kPc
  have DPc : DefAt K mg "place_in" (topS 36) ["row", "time", "length"] _ _ := ⟨FPc, PySem.W.mg_of X G aPc, FPc.binds (ps := ["row", "time", "length"]) fun _ _ _ _ _ _ us hl => match us, hl with | [_, _, _], _ => rfl⟩
  have FLp := fun_mk (st := topS 37) lLp cLp kLp
  have DLp : DefAt K mg "laps_in" (topS 37) ["row", "time", "length"] _ _ := ⟨FLp, PySem.W.mg_of X G aLp, FLp.binds (ps := ["row", "time", "length"]) fun _ _ _ _ _ _ us hl => match us, hl with | [_, _, _], _ => rfl⟩
  have FTr := fun_mk (st := topS 42) lTr cTr kTr
  have DTr : DefAt K mg "_track" (topS 42) ["name", "runner", "length"] _ _ := ⟨FTr, PySem.W.mg_of X G aTr, FTr.binds (ps := ["name", "runner", "length"]) fun _ _ _ _ _ _ us hl => match us, hl with | [_, _, _], _ => rfl⟩
  have FRn := fun_mk (st := topS 43) lRn cRn kRn
  have DRn : DefAt K mg "_is_runner" (topS 43) ["value"] _ _ := ⟨FRn, PySem.W.mg_of X G aRn, FRn.binds (ps := ["value"]) fun _ _ _ _ _ _ us hl => match us, hl with | [_], _ => rfl⟩
  have FA2 := fun_mk (st := topS 44) lA2 cA2 kA2
  have DA2 : DefAt K mg "_are_ascending" (topS 44) ["begins"] _ _ := ⟨FA2, PySem.W.mg_of X G aA2, FA2.binds (ps := ["begins"]) fun _ _ _ _ _ _ us hl => match us, hl with | [_], _ => rfl⟩
  have FLP := fun_mk (st := topS 46) lLP cLP kLP
  have DLP : DefAt K mg "_law_pool" (topS 46) ["script", "k"] _ _ := ⟨FLP, PySem.W.mg_of X G aLP, FLP.binds (ps := ["script", "k"]) fun _ _ _ _ _ _ us hl => match us, hl with | [_, _], _ => rfl⟩
  have FLD := fun_mk (st := topS 47) lLD cLD kLD
  have DLD : DefAt K mg "_law_draw" (topS 47) ["pool", "many"] _ _ := ⟨FLD, PySem.W.mg_of X G aLD, FLD.binds (ps := ["pool", "many"]) fun _ _ _ _ _ _ us hl => match us, hl with | [_, _], _ => rfl⟩
  have FLC := fun_mk (st := topS 48) lLC cLC kLC
  have DLC : DefAt K mg "_law_choose" (topS 48) ["pool", "items"] _ _ := ⟨FLC, PySem.W.mg_of X G aLC, FLC.binds (ps := ["pool", "items"]) fun _ _ _ _ _ _ us hl => match us, hl with | [_, _], _ => rfl⟩
  have FLN := fun_mk (st := topS 49) lLN cLN kLN
  have DLN : DefAt K mg "_law_number" (topS 49) ["pool", "low", "high"] _ _ := ⟨FLN, PySem.W.mg_of X G aLN, FLN.binds (ps := ["pool", "low", "high"]) fun _ _ _ _ _ _ us hl => match us, hl with | [_, _, _], _ => rfl⟩
  have FLS := fun_mk (st := topS 50) lLS cLS kLS
  have DLS : DefAt K mg "_law_pieces" (topS 50) ["pool"] _ _ := ⟨FLS, PySem.W.mg_of X G aLS, FLS.binds (ps := ["pool"]) fun _ _ _ _ _ _ us hl => match us, hl with | [_], _ => rfl⟩
  have FLR := fun_mk (st := topS 51) lLR cLR kLR
  have DLR : DefAt K mg "_law_race" (topS 51) ["pool", "many"] _ _ := ⟨FLR, PySem.W.mg_of X G aLR, FLR.binds (ps := ["pool", "many"]) fun _ _ _ _ _ _ us hl => match us, hl with | [_, _], _ => rfl⟩
  have FLL := fun_mk (st := topS 52) lLL cLL kLL
  have DLL : DefAt K mg "_law_line" (topS 52) ["race", "name", "time"] _ _ := ⟨FLL, PySem.W.mg_of X G aLL, FLL.binds (ps := ["race", "name", "time"]) fun _ _ _ _ _ _ us hl => match us, hl with | [_, _, _], _ => rfl⟩
  have FL := fun_mk (st := topS 53) lL cL kL
  have DL : DefAt K mg "law" (topS 53) ["script"] _ _ := ⟨FL, PySem.W.mg_of X G aL, FL.binds (ps := ["script"]) fun _ _ _ _ _ _ us hl => match us, hl with | [_], _ => rfl⟩
  have T : RaceT K C := ⟨⟨pg, hd, po, sa⟩, nL, nT⟩
  have FmI := fun_mk (st := inClass cRace 0) lmI cmI kmI
  have bmI := FmI.binds (ps := ["self", "length", "runners"]) fun _ _ _ _ _ _ us hl => match us, hl with | [_, _, _], _ => rfl
  have MmI : Meth K C "__init__" fmI := ⟨amI, imI, kmI⟩
  have FmC := fun_mk (st := inClass cRace 3) lmC cmC kmC
  have bmC := FmC.binds (ps := ["self", "name"]) fun _ _ _ _ _ _ us hl => match us, hl with | [_, _], _ => rfl
  have MmC : Meth K C "__contains__" fmC := ⟨amC, imC, kmC⟩
  have FmN := fun_mk (st := inClass cRace 5) lmN cmN kmN
  have bmN := FmN.binds (ps := ["self"]) fun _ _ _ _ _ _ us hl => match us, hl with | [_], _ => rfl
  have MmN : Meth K C "names" fmN := ⟨amN, imN, kmN⟩
  have FmT := fun_mk (st := inClass cRace 6) lmT cmT kmT
  have bmT := FmT.binds (ps := ["self", "name"]) fun _ _ _ _ _ _ us hl => match us, hl with | [_, _], _ => rfl
  have MmT : Meth K C "track" fmT := ⟨amT, imT, kmT⟩
  have FmS := fun_mk (st := inClass cRace 8) lmS cmS kmS
  have bmS := FmS.binds (ps := ["self", "name"]) fun _ _ _ _ _ _ us hl => match us, hl with | [_, _], _ => rfl
  have MmS : Meth K C "start" fmS := ⟨amS, imS, kmS⟩
  have FmP := fun_mk (st := inClass cRace 9) lmP cmP kmP
  have bmP := FmP.binds (ps := ["self", "name"]) fun _ _ _ _ _ _ us hl => match us, hl with | [_, _], _ => rfl
  have MmP : Meth K C "pieces" fmP := ⟨amP, imP, kmP⟩
  have FmG := fun_mk (st := inClass cRace 10) lmG cmG kmG
  have bmG := FmG.binds (ps := ["self"]) fun _ _ _ _ _ _ us hl => match us, hl with | [_], _ => rfl
  have MmG : Meth K C "change_times" fmG := ⟨amG, imG, kmG⟩
  have FmQ := fun_mk (st := inClass cRace 11) lmQ cmQ kmQ
  have bmQ := FmQ.binds (ps := ["self", "name", "time"]) fun _ _ _ _ _ _ us hl => match us, hl with | [_, _, _], _ => rfl
  have MmQ : Meth K C "position" fmQ := ⟨amQ, imQ, kmQ⟩
  have FmA := fun_mk (st := inClass cRace 12) lmA cmA kmA
  have bmA := FmA.binds (ps := ["self", "name", "time"]) fun _ _ _ _ _ _ us hl => match us, hl with | [_, _, _], _ => rfl
  have MmA : Meth K C "place" fmA := ⟨amA, imA, kmA⟩
  have FmB := fun_mk (st := inClass cRace 13) lmB cmB kmB
  have bmB := FmB.binds (ps := ["self", "name", "time"]) fun _ _ _ _ _ _ us hl => match us, hl with | [_, _, _], _ => rfl
  have MmB : Meth K C "laps" fmB := ⟨amB, imB, kmB⟩
  have FpL := fun_mk (st := inClass cRace 4) lpL cpL kpL
  have bpL := FpL.binds (ps := ["self"]) fun _ _ _ _ _ _ us hl => match us, hl with | [_], _ => rfl
  have PpL : PropOf K C "length" ppL fpL := ⟨apL1, apL2, apL3, restpL, apL4⟩
  have FR : FunD K "ratio" "ratio" (defArgs (topS 16)) (defBody (topS 16)) (defScope (topS 16)) [.int 1] [] fR _ := ⟨⟨_, _, _, _, _, _, _, _, _, _, rfl, lR, cR, .inr ⟨by simp, TR, _, [.int 1 tR], nTt, rfl, lT, rfl, .cons ⟨_, rfl⟩ .nil⟩, .inl rfl⟩, kR⟩
  obtain ⟨ds2, hds2, bR2⟩ := FR.binds1 (ps := ["numerator", "denominator"]) 2 1 (by simp) rfl fun T kV doc pm an cdv ct us its h1 h2 => match us, h1, its, h2 with | [_, _], _, [_], _ => ⟨_, rfl, rfl⟩
  have hz : ds2 = [] := by cases hds2; rfl
  subst hz
  have DR : DefD K mg "ratio" (topS 16) ["numerator", "denominator"] [.int 1] fR _ := ⟨FR, PySem.W.mg_of X G aR, bR2⟩
  have m8 := PySem.W.mg_of X G few
  have mMl := PySem.W.mg_of X G vMl
  have mMp := PySem.W.mg_of X G vMp
  have mMr := PySem.W.mg_of X G vMr
  have XE1 : ErrAt K mg "InvalidNumber" BMv "ValueError.__new__" CE1 := ⟨PySem.W.mg_of X G gE1, kE1, qE1, bE1, tE1⟩
  have XE2 : ErrAt K mg "DivisionByZero" BMa "ArithmeticError.__new__" CE2 := ⟨PySem.W.mg_of X G gE2, kE2, qE2, bE2, tE2⟩
  have XE3 : ErrAt K mg "InvalidTime" BMv "ValueError.__new__" CE3 := ⟨PySem.W.mg_of X G gE3, kE3, qE3, bE3, tE3⟩
  have mgcd := PySem.W.mg_of X G gcd
  have m_isinstance := PySem.W.mg_none_of X G n_isinstance
  have m_int := PySem.W.mg_none_of X G n_int
  have m_bool := PySem.W.mg_none_of X G n_bool
  have m_tuple := PySem.W.mg_none_of X G n_tuple
  have m_list := PySem.W.mg_none_of X G n_list
  have m_len := PySem.W.mg_none_of X G n_len
  have m_type := PySem.W.mg_none_of X G n_type
  have m_max := PySem.W.mg_none_of X G n_max
  have m_min := PySem.W.mg_none_of X G n_min
  have m_sorted := PySem.W.mg_none_of X G n_sorted
  have m_range := PySem.W.mg_none_of X G n_range
  have m_str := PySem.W.mg_none_of X G n_str
  have m_all := PySem.W.mg_none_of X G n_all
  have m_dict := PySem.W.mg_none_of X G n_dict
  have m_zip := PySem.W.mg_none_of X G n_zip
  refine ⟨PySem.W.fnOf "law" "law" (defArgs (topS 53)) (defBody (topS 53)) (defScope (topS 53)) .none kVL dcL pmL anL cdL ctL, fun s u => .of_eq rfl, fun base KB GB => ?_⟩
  have mC := PySem.W.mg_of X G aC
  have MK : Mk K C fmI := ⟨mk, amI, imI, kc⟩
  have GII := ok_II (P := P) (w := w) (mg := mg) (base := base) FII m_isinstance m_int m_bool
  have GIR := ok_IR (P := P) (w := w) (mg := mg) (base := base) FIR DII m_isinstance m_tuple m_len mgcd GII
  have GIN := ok_IN (P := P) (w := w) (mg := mg) (base := base) FIN DII DIR GII GIR
  have GAR := ok_AR (P := P) (w := w) (mg := mg) (base := base) FAR DII DIR XE1 m_type m_int m_tuple m_len mgcd GII GIR
  have GRd := ok_Rd (P := P) (w := w) (mg := mg) (base := base) FRd mgcd
  have GR := ok_Ratio (P := P) (w := w) (mg := mg) (base := base) DR DII DRd XE1 XE2 (up GII) (up GRd)
  have GPl := ok_plus (P := P) (w := w) (mg := mg) (base := base) DPl DAR DRd GAR GRd
  have GMi := ok_minus (P := P) (w := w) (mg := mg) (base := base) DMi DAR DRd GAR GRd
  have GTi := ok_times (P := P) (w := w) (mg := mg) (base := base) DTi DAR DRd GAR GRd
  have GCo := ok_compare (P := P) (w := w) (mg := mg) (base := base) DCo DAR (up GAR)
  have GRe := ok_rem (P := P) (w := w) (mg := mg) (base := base) DRe DAR DRd XE2 (up GAR) (up GRd)
  have GIs2 := ok_Ins (P := P) (w := w) (mg := mg) (base := base) DIs2 m_len
  have GRk := ok_Rk (P := P) (w := w) (mg := mg) (base := base) DRk m_max m_sorted
  have GAs := ok_AscL (P := P) (w := w) (mg := mg) (base := base) DAs DRk DIs2 m8 m_len GRk GIs2
  have GIn := ok_InOL (P := P) (w := w) (mg := mg) (base := base) DIn DAR DAs XE1 m_isinstance m_list m_type m_int (up GAR) GAs
  have GPo := ok_Posi (P := P) (w := w) (mg := mg) (base := base) DPo DIN DAR GIN GAR
  have GTm := ok_Time (P := P) (w := w) (mg := mg) (base := base) DTm DAR XE1 ⟨dE1, sE1⟩ XE3 GAR
  have GPn := ok_Pin (P := P) (w := w) (mg := mg) (base := base) DPn
  have GLi := ok_Line (P := P) (w := w) (mg := mg) (base := base) DLi mgcd
  have GPc := ok_Plc (P := P) (w := w) (mg := mg) (base := base) DPc DPn DRd GPn (up GRd)
  have GLp := ok_Lps (P := P) (w := w) (mg := mg) (base := base) DLp DPn GPn
  have GRA := ok_RA (P := P) (w := w) (mg := mg) (base := base) DRA
  have GTo := ok_To (P := P) (w := w) (mg := mg) (base := base) DTo DPn DLi m_tuple GPn GLi
  have GNm := ok_Nam (P := P) (w := w) (mg := mg) (base := base) DNm mMl m_isinstance m_str m_len
  have GRn := ok_IsRn (P := P) (w := w) (mg := mg) (base := base) DRn mMp m_isinstance m_tuple m_list m_len m_all
  have GA2 := ok_Asc2 (P := P) (w := w) (mg := mg) (base := base) DA2 m_all m_zip
  have GTr := ok_Trk (P := P) (w := w) (mg := mg) (base := base) DTr DNm DRn DAR DRe DA2 DTo GNm GRn (up GAR) GRe GA2 GTo
  have GmI := ok_Init (P := P) (w := w) (mg := mg) (base := base) FmI T DPo DAR DTr mMr m_isinstance m_dict m_len m_sorted (up GPo) (up GAR) GTr
  have GmC := ok_Cont (P := P) (w := w) (mg := mg) (base := base) FmC T m_isinstance m_str
  have GmT := ok_Tr (P := P) (w := w) (mg := mg) (base := base) FmT T MmC bmC GmC
  have GmL := ok_Ln (P := P) (w := w) (mg := mg) (base := base) FpL T
  have GmN := ok_Nms (P := P) (w := w) (mg := mg) (base := base) FmN T m_list
  have GmS := ok_Start (P := P) (w := w) (mg := mg) (base := base) FmS T MmT bmT DRd GmT (up GRd)
  have GmP := ok_Pieces (P := P) (w := w) (mg := mg) (base := base) FmP T MmT bmT GmT
  have GmQ := ok_Pos (P := P) (w := w) (mg := mg) (base := base) FmQ T MmT bmT DTm DRA DPn DRd GmT GTm GRA GPn (up GRd)
  have GmA := ok_Place (P := P) (w := w) (mg := mg) (base := base) FmA T MmT bmT DTm DRA DPc GmT GTm GRA GPc
  have GmB := ok_Laps (P := P) (w := w) (mg := mg) (base := base) FmB T MmT bmT DTm DRA DLp GmT GTm GRA GLp
  have GmG := ok_Chg (P := P) (w := w) (mg := mg) (base := base) FmG T DIn GIn
  have GLP := ok_Pool (P := P) (w := w) (mg := mg) (base := base) DLP m_len
  have GLD := ok_Draw (P := P) (w := w) (mg := mg) (base := base) DLD
  have GLC := ok_Choose (P := P) (w := w) (mg := mg) (base := base) DLC DLD m_len GLD
  have GLN := ok_Num (P := P) (w := w) (mg := mg) (base := base) DLN DLD DR GLD GR
  have GLS := ok_LPcs (P := P) (w := w) (mg := mg) (base := base) DLS DLN DPl DLD DR m_range GLN (up GPl) GLD GR
  have GLR := ok_LRace (P := P) (w := w) (mg := mg) (base := base) DLR DLN DLS DLC MK mC bmI GLN GLS GLC GmI
  have GLL := ok_LLine (P := P) (w := w) (mg := mg) (base := base) DLL T MmS bmS MmP bmP DCo DPl DTi DMi m_len GmS GmP GCo (up GPl) (up GTi) (up GMi)
  exact (ok_Law DL ⟨T, DLP, GLP, DLD, GLD, DLN, GLN, DLR, GLR, DLL, GLL, PpL, GmL, bpL, MmN, GmN, bmN, MmG, GmG, bmG, MmQ, GmQ, bmQ, MmA, GmA, bmA, MmB, GmB, bmB, MmS, GmS, bmS, MK, mC, GmI, bmI, DR, GR, DPl, (up GPl), DTi, (up GTi), DCo, GCo, m_range, m_len, m_max, m_min, m_list, m_isinstance, m_tuple⟩).toG
end LR
open PySem PySem.W PyProof.Rows
set_option Elab.async false
set_option linter.all false
set_option maxRecDepth 100000
set_option maxHeartbeats 0 in
theorem PySem.Challenge.cw_laprunners_k06_positions_and_laps_holds : PySem.Challenge.rw_laprunners_k06_positions_and_laps.Holds := by
  w_on; o_law; k_head; (case hw => w_witness2)
  k_fill
  refine LG.walk_G (l := PySem.Challenge.rw_laprunners_k06_positions_and_laps) (n := 63) (k := 10) (x := "script") (CX := fun w => LR.CXl (PySem.Challenge.rw_laprunners_k06_positions_and_laps).prog w) (sp := fun w => LR.spLaw _) rfl (by decide) rfl ⟨rfl, by decide, by decide⟩ (fun w h Y => PySem.W.kIn_of Y) ?F
    (fun w H a ns hl _ hS => ⟨a, ns, rfl, hS, hl, fun H' s => s.seq hS, fun H' _ => rfl⟩) (fun w H s e s' z => ?Z)
  case Z =>
    obtain ⟨_, _, _, _, _, _, _, _, _, _, _, _, z⟩ := z
    exact z
  case F =>
    intro w mg fa h KX G hmg
    refine' LR.all_mk KX G hmg ?aII ?lII ?cII ?kII ?aIR ?lIR ?cIR ?kIR ?aIN ?lIN ?cIN ?kIN ?aAR ?lAR ?cAR ?kAR ?aRd ?lRd ?cRd ?kRd ?aPl ?lPl ?cPl ?kPl ?aMi ?lMi ?cMi ?kMi ?aTi ?lTi ?cTi ?kTi ?aCo ?lCo ?cCo ?kCo ?aRe ?lRe ?cRe ?kRe ?aIn ?lIn ?cIn ?kIn ?aAs ?lAs ?cAs ?kAs ?aIs2 ?lIs2 ?cIs2 ?kIs2 ?aRk ?lRk ?cRk ?kRk ?aNm ?lNm ?cNm ?kNm ?aPo ?lPo ?cPo ?kPo ?aTm ?lTm ?cTm ?kTm ?aTo ?lTo ?cTo ?kTo ?aLi ?lLi ?cLi ?kLi ?aRA ?lRA ?cRA ?kRA ?aPn ?lPn ?cPn ?kPn ?aPc ?lPc ?cPc ?kPc ?aLp ?lLp ?cLp ?kLp ?aTr ?lTr ?cTr ?kTr ?aRn ?lRn ?cRn ?kRn ?aA2 ?lA2 ?cA2 ?kA2 ?aLP ?lLP ?cLP ?kLP ?aLD ?lLD ?cLD ?kLD ?aLC ?lLC ?cLC ?kLC ?aLN ?lLN ?cLN ?kLN ?aLS ?lLS ?cLS ?kLS ?aLR ?lLR ?cLR ?kLR ?aLL ?lLL ?cLL ?kLL ?aL ?lL ?cL ?kL ?aC ?pg ?hd ?po ?sa ?mk ?kc ?nL ?nT ?amI ?imI ?lmI ?cmI ?kmI ?amC ?imC ?lmC ?cmC ?kmC ?amN ?imN ?lmN ?cmN ?kmN ?amT ?imT ?lmT ?cmT ?kmT ?amS ?imS ?lmS ?cmS ?kmS ?amP ?imP ?lmP ?cmP ?kmP ?amG ?imG ?lmG ?cmG ?kmG ?amQ ?imQ ?lmQ ?cmQ ?kmQ ?amA ?imA ?lmA ?cmA ?kmA ?amB ?imB ?lmB ?cmB ?kmB ?apL1 ?apL2 ?apL3 ?apL4 ?lpL ?cpL ?kpL ?aR ?lR ?cR ?kR ?lT ?few ?vMl ?vMp ?vMr ?gE1 ?kE1 ?qE1 ?bE1 ?tE1 ?gE2 ?kE2 ?qE2 ?bE2 ?tE2 ?gE3 ?kE3 ?qE3 ?bE3 ?tE3 ?dE1 ?sE1 ?gcd ?n_isinstance ?n_int ?n_bool ?n_tuple ?n_list ?n_len ?n_type ?n_max ?n_min ?n_sorted ?n_range ?n_str ?n_all ?n_dict ?n_zip
    (case aII => k_is); (case lII => k_is); (case cII => k_is); (case kII => k_is); (case aIR => k_is); (case lIR => k_is)
    (case cIR => k_is); (case kIR => k_is); (case aIN => k_is); (case lIN => k_is); (case cIN => k_is); (case kIN => k_is)
    (case aAR => k_is); (case lAR => k_is); (case cAR => k_is); (case kAR => k_is); (case aRd => k_is); (case lRd => k_is)
    (case cRd => k_is); (case kRd => k_is); (case aPl => k_is); (case lPl => k_is); (case cPl => k_is); (case kPl => k_is)
    (case aMi => k_is); (case lMi => k_is); (case cMi => k_is); (case kMi => k_is); (case aTi => k_is); (case lTi => k_is)
    (case cTi => k_is); (case kTi => k_is); (case aCo => k_is); (case lCo => k_is); (case cCo => k_is); (case kCo => k_is)
    (case aRe => k_is); (case lRe => k_is); (case cRe => k_is); (case kRe => k_is); (case aIn => k_is); (case lIn => k_is)
    (case cIn => k_is); (case kIn => k_is); (case aAs => k_is); (case lAs => k_is); (case cAs => k_is); (case kAs => k_is)
    (case aIs2 => k_is); (case lIs2 => k_is); (case cIs2 => k_is); (case kIs2 => k_is); (case aRk => k_is); (case lRk => k_is)
    (case cRk => k_is); (case kRk => k_is); (case aNm => k_is); (case lNm => k_is); (case cNm => k_is); (case kNm => k_is)
    (case aPo => k_is); (case lPo => k_is); (case cPo => k_is); (case kPo => k_is); (case aTm => k_is); (case lTm => k_is)
    (case cTm => k_is); (case kTm => k_is); (case aTo => k_is); (case lTo => k_is); (case cTo => k_is); (case kTo => k_is)
    (case aLi => k_is); (case lLi => k_is); (case cLi => k_is); (case kLi => k_is); (case aRA => k_is); (case lRA => k_is)
    (case cRA => k_is); (case kRA => k_is); (case aPn => k_is); (case lPn => k_is); (case cPn => k_is); (case kPn => k_is)
    (case aPc => k_is); (case lPc => k_is); (case cPc => k_is); (case kPc => k_is); (case aLp => k_is); (case lLp => k_is)
    (case cLp => k_is); (case kLp => k_is); (case aTr => k_is); (case lTr => k_is); (case cTr => k_is); (case kTr => k_is)
    (case aRn => k_is); (case lRn => k_is); (case cRn => k_is); (case kRn => k_is); (case aA2 => k_is); (case lA2 => k_is)
    (case cA2 => k_is); (case kA2 => k_is); (case aLP => k_is); (case lLP => k_is); (case cLP => k_is); (case kLP => k_is)
    (case aLD => k_is); (case lLD => k_is); (case cLD => k_is); (case kLD => k_is); (case aLC => k_is); (case lLC => k_is)
    (case cLC => k_is); (case kLC => k_is); (case aLN => k_is); (case lLN => k_is); (case cLN => k_is); (case kLN => k_is)
    (case aLS => k_is); (case lLS => k_is); (case cLS => k_is); (case kLS => k_is); (case aLR => k_is); (case lLR => k_is)
    (case cLR => k_is); (case kLR => k_is); (case aLL => k_is); (case lLL => k_is); (case cLL => k_is); (case kLL => k_is)
    (case aL => k_is); (case lL => k_is); (case cL => k_is); (case kL => k_is); (case aC => k_is); (case pg => k_is)
    (case hd => k_is); (case po => k_is); (case sa => k_is); (case mk => k_is); (case kc => k_is); (case nL => k_is)
    (case nT => k_is); (case amI => k_is); (case imI => k_is); (case lmI => k_is); (case cmI => k_is); (case kmI => k_is)
    (case amC => k_is); (case imC => k_is); (case lmC => k_is); (case cmC => k_is); (case kmC => k_is); (case amN => k_is)
    (case imN => k_is); (case lmN => k_is); (case cmN => k_is); (case kmN => k_is); (case amT => k_is); (case imT => k_is)
    (case lmT => k_is); (case cmT => k_is); (case kmT => k_is); (case amS => k_is); (case imS => k_is); (case lmS => k_is)
    (case cmS => k_is); (case kmS => k_is); (case amP => k_is); (case imP => k_is); (case lmP => k_is); (case cmP => k_is)
    (case kmP => k_is); (case amG => k_is); (case imG => k_is); (case lmG => k_is); (case cmG => k_is); (case kmG => k_is)
    (case amQ => k_is); (case imQ => k_is); (case lmQ => k_is); (case cmQ => k_is); (case kmQ => k_is); (case amA => k_is)
    (case imA => k_is); (case lmA => k_is); (case cmA => k_is); (case kmA => k_is); (case amB => k_is); (case imB => k_is)
    (case lmB => k_is); (case cmB => k_is); (case kmB => k_is); (case apL1 => k_is); (case apL2 => k_is); (case apL3 => k_is)
    (case apL4 => k_is); (case lpL => k_is); (case cpL => k_is); (case kpL => k_is); (case aR => k_is); (case lR => k_is)
    (case cR => k_is); (case kR => k_is); (case lT => k_is); (case few => k_is); (case vMl => k_is); (case vMp => k_is)
    (case vMr => k_is); (case gE1 => k_is); (case kE1 => k_is); (case qE1 => k_exc); (case bE1 => k_is); (case tE1 => k_is)
    (case gE2 => k_is); (case kE2 => k_is); (case qE2 => k_exc); (case bE2 => k_is); (case tE2 => k_is); (case gE3 => k_is)
    (case kE3 => k_is); (case qE3 => k_exc); (case bE3 => k_is); (case tE3 => k_is); (case dE1 => k_is); (case sE1 => k_is)
    (case gcd => k_is); (case n_isinstance => k_is); (case n_int => k_is); (case n_bool => k_is); (case n_tuple => k_is); (case n_list => k_is)
    (case n_len => k_is); (case n_type => k_is); (case n_max => k_is); (case n_min => k_is); (case n_sorted => k_is); (case n_range => k_is)
    (case n_str => k_is); (case n_all => k_is); (case n_dict => k_is); (case n_zip => k_is)
