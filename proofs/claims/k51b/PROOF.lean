import PyProof.Rows.All
import Wide.All
import OpenK.AllK
import Wide.FinOn
import HandS.ForMost
import HandS.ForExc
import HandS.Wide
import HandS.WideBits
import HandS.Gcd
import HandS.IsInst
import HandS.More
import HandS.ExcCtx
import HandS.RaiseFrom
import HandS.SuiteRaise
import HandS.Defaults
import HandS.Deep
import HandS.TupLe
import HandS.Text
import PyProof.ReprRoads
import HandS.Ends
import HandS.Zip
import KE.GoesEnum
import HandS.Dict
import HandS.TupMul
import HandS.TupAny
import HandS.Codes
import HandS.ExcIs
import PyProof.InstEq
import HandS.Star
import HandS.Property
import HandS.Style
import HandS.SlotsOwn
import KE.KOpsOwn
import HandS.Exc
import HandS.TryMany
import HandS.Conv
import HandS.NoneIn
import PySem.Challenge.RW_laprunners_k51_moments_combined
/-! LRat: exact numbers, plain mathematics over Rat (core Lean alone). -/
namespace LR

/-- numerator and denominator below 2 ^ b -/
def Sz (b : Nat) (q : Rat) : Prop := q.num.natAbs < 2 ^ b ∧ q.den < 2 ^ b

theorem Sz.mono {a b : Nat} {q : Rat} (h : Sz a q) (e : a ≤ b) : Sz b q :=
  ⟨Nat.lt_of_lt_of_le h.1 (Nat.pow_le_pow_right (by decide) e), Nat.lt_of_lt_of_le h.2 (Nat.pow_le_pow_right (by decide) e)⟩

theorem den_pos (q : Rat) : 0 < q.den := Nat.pos_of_ne_zero q.den_nz

/-- the sign of a denominator times the common divisor: what `ratio` divides by -/
def sdiv (n d : Int) : Int := if d < 0 then -((Nat.gcd n.natAbs d.natAbs : Nat) : Int) else ((Nat.gcd n.natAbs d.natAbs : Nat) : Int)

theorem gcd_pos {n d : Int} (hd : d ≠ 0) : 0 < Nat.gcd n.natAbs d.natAbs := Nat.gcd_pos_of_pos_right _ (Int.natAbs_pos.mpr hd)

theorem sdiv_ne {n d : Int} (hd : d ≠ 0) : sdiv n d ≠ 0 := by
  have h := gcd_pos (n := n) hd
  unfold sdiv
  split <;> omega

theorem sdiv_abs (n d : Int) : (sdiv n d).natAbs = Nat.gcd n.natAbs d.natAbs := by
  unfold sdiv
  split <;> omega

theorem fdiv_neg_of_dvd {a g : Int} (h : g ∣ a) : a.fdiv (-g) = -(a / g) := by
  rw [Int.fdiv_eq_ediv_of_dvd (Int.neg_dvd.mpr h), Int.ediv_neg]

theorem sdiv_num {n d : Int} (hd : d ≠ 0) : n.fdiv (sdiv n d) = (Rat.divInt n d).num := by
  have g1 : ((Nat.gcd n.natAbs d.natAbs : Nat) : Int) ∣ n := Int.ofNat_dvd_left.mpr (Nat.gcd_dvd_left _ _)
  have e : (d.gcd n : Int) = ((Nat.gcd n.natAbs d.natAbs : Nat) : Int) := by
    show ((Nat.gcd d.natAbs n.natAbs : Nat) : Int) = _
    rw [Nat.gcd_comm]
  rw [Rat.num_divInt, e]
  unfold sdiv
  split
  · rename_i h
    rw [fdiv_neg_of_dvd g1, Int.sign_eq_neg_one_of_neg h, Int.neg_one_mul, Int.neg_ediv_of_dvd g1]
  · rename_i h
    rw [Int.fdiv_eq_ediv_of_nonneg _ (Int.natCast_nonneg _), Int.sign_eq_one_of_pos (by omega), Int.one_mul]

theorem sdiv_den {n d : Int} (hd : d ≠ 0) : d.fdiv (sdiv n d) = ((Rat.divInt n d).den : Int) := by
  have g1 : ((Nat.gcd n.natAbs d.natAbs : Nat) : Int) ∣ d := Int.ofNat_dvd_left.mpr (Nat.gcd_dvd_right _ _)
  have e : d.gcd n = Nat.gcd n.natAbs d.natAbs := by
    show Nat.gcd d.natAbs n.natAbs = _
    rw [Nat.gcd_comm]
  rw [Rat.den_divInt, if_neg hd, e, Int.natCast_ediv]
  unfold sdiv
  split
  · rename_i h
    rw [fdiv_neg_of_dvd g1, ← Int.neg_ediv_of_dvd g1]
    congr 1
    omega
  · rename_i h
    rw [Int.fdiv_eq_ediv_of_nonneg _ (Int.natCast_nonneg _)]
    congr 1
    omega

theorem num_le (n d : Int) : (Rat.divInt n d).num.natAbs ≤ n.natAbs := by
  by_cases hd : d = 0
  · subst hd
    rw [Rat.divInt_zero]
    exact Nat.zero_le _
  · rw [Rat.num_divInt, Int.natAbs_ediv_of_dvd]
    · rw [Int.natAbs_mul, Int.natAbs_sign_of_ne_zero hd, Nat.one_mul]
      exact Nat.div_le_self _ _
    · refine Int.dvd_mul_of_dvd_right ?_
      exact Int.gcd_dvd_right _ _
theorem den_le {n d : Int} (hd : d ≠ 0) : (Rat.divInt n d).den ≤ d.natAbs := by
  rw [Rat.den_divInt, if_neg hd]
  exact Nat.div_le_self _ _

theorem sz_divInt {n d : Int} {b : Nat} (hd : d ≠ 0) (h1 : n.natAbs < 2 ^ b) (h2 : d.natAbs < 2 ^ b) : Sz b (Rat.divInt n d) :=
  ⟨Nat.lt_of_le_of_lt (num_le n d) h1, Nat.lt_of_le_of_lt (den_le hd) h2⟩

/-! ### the operations, as `ratio` is asked for them -/
theorem add_as (p q : Rat) : p + q = Rat.divInt (p.num * q.den + q.num * p.den) (p.den * q.den) := by
  rw [Rat.add_def', ← Int.natCast_mul, Rat.divInt_ofNat]
theorem sub_as (p q : Rat) : p - q = Rat.divInt (p.num * q.den - q.num * p.den) (p.den * q.den) := by
  rw [Rat.sub_def', ← Int.natCast_mul, Rat.divInt_ofNat]
theorem mul_as (p q : Rat) : p * q = Rat.divInt (p.num * q.num) (p.den * q.den) := by
  rw [Rat.mul_def', ← Int.natCast_mul, Rat.divInt_ofNat]
theorem div_as (p q : Rat) : p / q = Rat.divInt (p.num * q.den) (p.den * q.num) := by
  rw [Rat.div_def, Rat.inv_def]
  conv => lhs; lhs; rw [← Rat.num_divInt_den p]
  rw [Rat.divInt_mul_divInt]

theorem mul_lt {x y : Nat} {a b : Nat} (hx : x < 2 ^ a) (hy : y < 2 ^ b) : x * y < 2 ^ (a + b) := by
  rw [Nat.pow_add]
  exact Nat.mul_lt_mul'' hx hy
theorem add_lt {x y c : Nat} (hx : x < 2 ^ c) (hy : y < 2 ^ c) : x + y < 2 ^ (c + 1) := by
  rw [Nat.pow_succ]
  omega
theorem den_ne (p q : Rat) : ((p.den : Int) * q.den) ≠ 0 := by
  have h1 := den_pos p
  have h2 := den_pos q
  rw [← Int.natCast_mul]
  have h3 := Nat.mul_pos h1 h2
  omega
theorem Sz.add {a b : Nat} {p q : Rat} (hp : Sz a p) (hq : Sz b q) : Sz (a + b + 1) (p + q) := by
  rw [add_as]
  refine sz_divInt (den_ne p q) ?_ ?_
  · refine Nat.lt_of_le_of_lt (Int.natAbs_add_le _ _) (add_lt ?_ ?_)
    · rw [Int.natAbs_mul, Int.natAbs_natCast]
      exact mul_lt hp.1 hq.2
    · rw [Int.natAbs_mul, Int.natAbs_natCast, Nat.add_comm a b]
      exact mul_lt hq.1 hp.2
  · rw [Int.natAbs_mul, Int.natAbs_natCast, Int.natAbs_natCast]
    exact Nat.lt_of_lt_of_le (mul_lt hp.2 hq.2) (Nat.pow_le_pow_right (by decide) (by omega))
theorem Sz.sub {a b : Nat} {p q : Rat} (hp : Sz a p) (hq : Sz b q) : Sz (a + b + 1) (p - q) := by
  rw [sub_as]
  refine sz_divInt (den_ne p q) ?_ ?_
  · refine Nat.lt_of_le_of_lt (by rw [Int.sub_eq_add_neg]; exact Int.natAbs_add_le _ _) (add_lt ?_ ?_)
    · rw [Int.natAbs_mul, Int.natAbs_natCast]
      exact mul_lt hp.1 hq.2
    · rw [Int.natAbs_neg, Int.natAbs_mul, Int.natAbs_natCast, Nat.add_comm a b]
      exact mul_lt hq.1 hp.2
  · rw [Int.natAbs_mul, Int.natAbs_natCast, Int.natAbs_natCast]
    exact Nat.lt_of_lt_of_le (mul_lt hp.2 hq.2) (Nat.pow_le_pow_right (by decide) (by omega))
theorem Sz.mul {a b : Nat} {p q : Rat} (hp : Sz a p) (hq : Sz b q) : Sz (a + b) (p * q) := by
  rw [mul_as]
  refine sz_divInt (den_ne p q) ?_ ?_
  · rw [Int.natAbs_mul]
    exact mul_lt hp.1 hq.1
  · rw [Int.natAbs_mul, Int.natAbs_natCast, Int.natAbs_natCast]
    exact mul_lt hp.2 hq.2
theorem num_ne {q : Rat} (h : q ≠ 0) : q.num ≠ 0 := fun e => h (Rat.num_eq_zero.mp e)
theorem div_den_ne {p q : Rat} (h : q ≠ 0) : ((p.den : Int) * q.num) ≠ 0 := Int.mul_ne_zero (by have := den_pos p; omega) (num_ne h)
theorem Sz.div {a b : Nat} {p q : Rat} (hp : Sz a p) (hq : Sz b q) (h : q ≠ 0) : Sz (a + b) (p / q) := by
  rw [div_as]
  refine sz_divInt (div_den_ne h) ?_ ?_
  · rw [Int.natAbs_mul, Int.natAbs_natCast]
    exact mul_lt hp.1 hq.2
  · rw [Int.natAbs_mul, Int.natAbs_natCast]
    exact mul_lt hp.2 hq.1
theorem Sz.neg {a : Nat} {p : Rat} (hp : Sz a p) : Sz a (-p) := by
  refine ⟨?_, ?_⟩
  · rw [Rat.neg_num, Int.natAbs_neg]; exact hp.1
  · rw [Rat.neg_den]; exact hp.2
theorem Sz.int {b : Nat} {n : Int} (h0 : 0 < b) (h : n.natAbs < 2 ^ b) : Sz b (n : Rat) := ⟨h, Nat.lt_of_lt_of_le (show 1 < 2 ^ 1 by decide) (Nat.pow_le_pow_right (by decide) h0)⟩

/-! ### floors, remainders -/
theorem floor_divInt {a b : Int} (hb : 0 < b) : (Rat.divInt a b).floor = a / b := by
  have h1 := Rat.floor_le (Rat.divInt a b)
  have h2 := Rat.lt_floor_add_one (Rat.divInt a b)
  have hq : (0 : Rat) < (b : Rat) := Rat.intCast_pos.mpr hb
  rw [Rat.divInt_eq_div] at h1 h2 ⊢
  generalize ((a : Rat) / (b : Rat)).floor = k at h1 h2
  have e1 : (k : Rat) * b ≤ a := by
    have := Rat.mul_le_mul_of_nonneg_right h1 (Rat.le_of_lt hq)
    rwa [Rat.div_mul_cancel (Rat.ne_of_gt hq)] at this
  have e2 : (a : Rat) < ((k + 1 : Int) : Rat) * b := (Rat.div_lt_iff hq).mp h2
  rw [← Rat.intCast_mul, Rat.intCast_le_intCast] at e1
  rw [← Rat.intCast_mul, Rat.intCast_lt_intCast] at e2
  have e3 : a / b = k := by
    refine Int.le_antisymm ?_ ?_
    · exact Int.le_of_lt_add_one (Int.ediv_lt_of_lt_mul hb e2)
    · exact (Int.le_ediv_iff_mul_le hb).mpr e1
  exact e3.symm
/-- the number in [0, m) that differs from p by a multiple of m -/
def rem (p m : Rat) : Rat := p - m * ((p / m).floor : Rat)
theorem rem_as {p m : Rat} (hm : 0 < m) : rem p m = Rat.divInt ((p.num * m.den) % (m.num * p.den)) (p.den * m.den) := by
  have hn : 0 < m.num := by
    have h := Rat.num_nonneg.mpr (Rat.le_of_lt hm)
    have h2 := num_ne (Rat.ne_of_gt hm)
    omega
  have d1 : (0 : Int) < p.den := by have := den_pos p; omega
  have d2 : (0 : Int) < m.den := by have := den_pos m; omega
  have hb : (0 : Int) < p.den * m.num := Int.mul_pos d1 hn
  unfold rem
  rw [div_as, floor_divInt hb, Int.emod_def, Int.mul_comm m.num (p.den : Int)]
  generalize (p.num * ↑m.den) / (↑p.den * m.num) = k
  have q1 : (p.den : Rat) ≠ 0 := by
    have := Rat.natCast_pos.mpr (den_pos p)
    exact Rat.ne_of_gt this
  have q2 : (m.den : Rat) ≠ 0 := by
    have := Rat.natCast_pos.mpr (den_pos m)
    exact Rat.ne_of_gt this
  have ep : p = (p.num : Rat) / (p.den : Rat) := by
    conv => lhs; rw [← Rat.num_divInt_den p, Rat.divInt_eq_div]
    rfl
  have em : m = (m.num : Rat) / (m.den : Rat) := by
    conv => lhs; rw [← Rat.num_divInt_den m, Rat.divInt_eq_div]
    rfl
  rw [Rat.divInt_eq_div]
  conv => lhs; rw [ep]
  conv => lhs; rhs; rw [em]
  simp only [Rat.intCast_sub, Rat.intCast_mul, Rat.intCast_natCast]
  grind
theorem rem_nonneg {p m : Rat} (hm : 0 < m) : 0 ≤ rem p m := by
  have h := Rat.floor_le (p / m)
  have h2 := Rat.mul_le_mul_of_nonneg_left h (Rat.le_of_lt hm)
  have e : m * (p / m) = p := by rw [Rat.mul_comm, Rat.div_mul_cancel (Rat.ne_of_gt hm)]
  rw [e] at h2
  unfold rem
  grind
theorem rem_lt {p m : Rat} (hm : 0 < m) : rem p m < m := by
  have h := Rat.lt_floor_add_one (p / m)
  have h2 := Rat.mul_lt_mul_of_pos_left h hm
  have e : m * (p / m) = p := by rw [Rat.mul_comm, Rat.div_mul_cancel (Rat.ne_of_gt hm)]
  rw [e, Rat.intCast_add] at h2
  unfold rem
  grind
theorem pos_num {m : Rat} (hm : 0 < m) : 0 < m.num := by
  have h := Rat.num_nonneg.mpr (Rat.le_of_lt hm)
  have h2 := num_ne (Rat.ne_of_gt hm)
  omega
theorem num_pos_iff {m : Rat} : 0 < m.num ↔ 0 < m := by
  refine ⟨fun h => ?_, pos_num⟩
  refine Rat.lt_of_le_of_ne (Rat.num_nonneg.mp (Int.le_of_lt h)) ?_
  intro e
  rw [← e] at h
  exact absurd h (by decide)
theorem num_neg_iff {m : Rat} : m.num < 0 ↔ m < 0 := by
  rw [← Rat.not_le, ← Rat.num_nonneg]
  omega
theorem Sz.rem {a b : Nat} {p m : Rat} (hp : Sz a p) (hq : Sz b m) (h : 0 < m) : Sz (a + b) (rem p m) := by
  have hn := pos_num h
  have d1 : (0 : Int) < p.den := by have := den_pos p; omega
  have hb : (0 : Int) < m.num * p.den := Int.mul_pos hn d1
  rw [rem_as h]
  refine sz_divInt (den_ne p m) ?_ ?_
  · have h1 := Int.emod_nonneg (p.num * m.den) (Int.ne_of_gt hb)
    have h2 := Int.emod_lt_of_pos (p.num * m.den) hb
    have h3 : (m.num * p.den).natAbs < 2 ^ (a + b) := by
      rw [Int.natAbs_mul, Int.natAbs_natCast, Nat.add_comm]
      exact mul_lt hq.1 hp.2
    omega
  · rw [Int.natAbs_mul, Int.natAbs_natCast, Int.natAbs_natCast]
    exact mul_lt hp.2 hq.2
end LR
set_option Elab.async false
set_option linter.all false
set_option maxRecDepth 100000
set_option maxHeartbeats 4000000
namespace LR
open PySem PySem.Spec PyProof.Rows L2

/-! ### kinds of values, and numbers among them -/
theorem sqt_ty {K : PySem.W.Frag} {H : Hp} {a : Addr} {xs : List V} (h : SqT K H a xs) : TyX K H (.ref a) (.type "tuple") := by
  rcases h with (h | ⟨o, h⟩) | ⟨o, its, m, hk, hc, _⟩
  · exact .base (.tup h)
  · exact .fTuple h
  · exact .kTuple hk hc
theorem sql_ty {K : PySem.W.Frag} {H : Hp} {a : Addr} {xs : List V} (h : SqL K H a xs) : TyX K H (.ref a) (.type "list") := by
  rcases h with (h | ⟨o, h⟩) | ⟨o, its, m, hk, hc, _⟩
  · exact .base (.lst h)
  · exact .base (.frz h)
  · exact .kList hk hc
theorem same_sqt {K : PySem.W.Frag} {H H' : Hp} {a : Addr} {xs : List V} (s : Same H H') (h : SqT K H a xs) : SqT K H' a xs := by
  rcases h with (h | ⟨o, h⟩) | h
  · exact .inl (.inl (s _ _ h))
  · exact .inl (.inr ⟨o, s _ _ h⟩)
  · exact .inr h
inductive Kd (K : PySem.W.Frag) (H : Hp) : V → String → Prop
  | non : Kd K H .non "NoneType"
  | bl (b : Bool) : Kd K H (.bl b) "bool"
  | int (i : Int) : Kd K H (.int i) "int"
  | str (x : Str) : Kd K H (.str x) "str"
  | lst {a : Addr} {xs : List V} (h : SqL K H a xs) : Kd K H (.ref a) "list"
  | tup {a : Addr} {xs : List V} (h : SqT K H a xs) : Kd K H (.ref a) "tuple"
  | dict {a : Addr} {kvs : List (Key × V)} (h : H a = some (.dK kvs)) : Kd K H (.ref a) "dict"
section
variable {K : PySem.W.Frag} {H H' : Hp} {x : V} {n : String}
theorem Kd.ty (h : Kd K H x n) : TyX K H x (.type n) := by
  cases h with
  | non => exact .base .non
  | bl b => exact .base (.bl b)
  | int i => exact .base (.int i)
  | str z => exact .base (.str z)
  | lst h => exact sql_ty h
  | tup h => exact sqt_ty h
  | dict h => exact .base (.dK h)
theorem Kd.tyB (h : Kd K H x n) : TyB K H x n := by
  cases h with
  | non => exact .non
  | bl b => exact .bl b
  | int i => exact .int i
  | str z => exact .str z
  | lst h => exact .lst h
  | tup h => exact .tup h
  | dict h => exact .dK h
def isI : V → Bool | .int _ => true | _ => false
theorem kd_int (h : Kd K H x n) : PySem.W.kitOne K (.type n) (.type "int") = some (n == "int" || n == "bool") := by
  cases h <;> exact kit_ty (by decide +kernel)
theorem kd_bool (h : Kd K H x n) : PySem.W.kitOne K (.type n) (.type "bool") = some (n == "bool") := by
  cases h <;> exact kit_ty (by decide +kernel)
theorem kd_tuple (h : Kd K H x n) : PySem.W.kitOne K (.type n) (.type "tuple") = some (n == "tuple") := by
  cases h <;> exact kit_ty (by decide +kernel)
theorem kd_list (h : Kd K H x n) : PySem.W.kitOne K (.type n) (.type "list") = some (n == "list") := by
  cases h <;> exact kit_ty (by decide +kernel)
theorem kd_dict (h : Kd K H x n) : PySem.W.kitOne K (.type n) (.type "dict") = some (n == "dict") := by
  cases h <;> exact kit_ty (by decide +kernel)
theorem kd_str (h : Kd K H x n) : PySem.W.kitOne K (.type n) (.type "str") = some (n == "str") := by
  cases h <;> exact kit_ty (by decide +kernel)
theorem kd_isI (h : Kd K H x n) : ((n == "int" || n == "bool") && !(n == "bool")) = isI x := by
  cases h <;> rfl
theorem Kd.same (s : Same H H') (h : Kd K H x n) : Kd K H' x n := by
  cases h with
  | non => exact .non
  | bl b => exact .bl b
  | int i => exact .int i
  | str z => exact .str z
  | lst h => exact .lst (s.seq h)
  | tup h => exact .tup (same_sqt s h)
  | dict h => exact .dict (s _ _ h)
theorem same_new {p : Addr} {o : HO} (h : H p = none) : Same H (upd H p o) := fun b y e => by
  rw [upd_ne (ne_of_none e h)]
  exact e

/-- the two places of a number's tuple -/
abbrev rt (q : Rat) : List V := [.int q.num, .int (q.den : Int)]
def ratOf : List V → Option Rat
  | [.int a, .int d] => if 1 ≤ d ∧ Nat.gcd a.natAbs d.natAbs = 1 then some (Rat.divInt a d) else none
  | _ => none
theorem ratOf_rt (q : Rat) : ratOf (rt q) = some q := by
  have h1 : (1 : Int) ≤ (q.den : Int) := by have := den_pos q; omega
  have h2 : Nat.gcd q.num.natAbs ((q.den : Int)).natAbs = 1 := q.reduced
  show (if 1 ≤ (q.den : Int) ∧ Nat.gcd q.num.natAbs ((q.den : Int)).natAbs = 1 then some (Rat.divInt q.num q.den) else none) = some q
  rw [if_pos ⟨h1, h2⟩, Rat.num_divInt_den]
theorem ratOf_some {xs : List V} {q : Rat} (h : ratOf xs = some q) : xs = rt q := by
  unfold ratOf at h
  split at h
  · rename_i a d
    split at h
    · rename_i c
      obtain ⟨c1, c2⟩ := c
      have e := Option.some.inj h
      subst e
      have g : d.gcd a = 1 := by
        show Nat.gcd d.natAbs a.natAbs = 1
        rw [Nat.gcd_comm]
        exact c2
      have e1 : (Rat.divInt a d).num = a := by
        rw [Rat.num_divInt, g, Int.sign_eq_one_of_pos (by omega)]
        simp
      have e2 : ((Rat.divInt a d).den : Int) = d := by
        rw [Rat.den_divInt, if_neg (by omega), g]
        simp
        omega
      show [V.int a, V.int d] = [V.int (Rat.divInt a d).num, V.int ((Rat.divInt a d).den : Int)]
      rw [e1, e2]
    · cases h
  · cases h
/-- an argument in the place of a number: some q where it is one -/
inductive Arg (K : PySem.W.Frag) (H : Hp) : V → Option Rat → Prop
  | int (i : Int) : Arg K H (.int i) (some (i : Rat))
  | tup {a : Addr} {xs : List V} {o : Option Rat} (h : SqT K H a xs) (k : xs.length = 2 → ∀ x ∈ xs, ∃ n, Kd K H x n) (e : ratOf xs = o) : Arg K H (.ref a) o
  | oth {x : V} {n : String} (h : Kd K H x n) (h1 : (n == "int") = false) (h2 : (n == "tuple") = false) : Arg K H x none
abbrev Num (K : PySem.W.Frag) (H : Hp) (x : V) (q : Rat) : Prop := Arg K H x (some q)
/-- a result: a tuple of the number's two places -/
def Rn (K : PySem.W.Frag) (H : Hp) (x : V) (q : Rat) : Prop := ∃ a, x = .ref a ∧ SqT K H a (rt q)
theorem Rn.num {q : Rat} (h : Rn K H x q) : Num K H x q := by
  obtain ⟨a, rfl, h⟩ := h
  refine .tup h (fun _ y hy => ?_) (ratOf_rt q)
  rcases List.mem_cons.mp hy with e | hy
  · exact ⟨"int", by rw [e]; exact .int _⟩
  · rcases List.mem_cons.mp hy with e | hy
    · exact ⟨"int", by rw [e]; exact .int _⟩
    · cases hy
theorem Arg.same {o : Option Rat} (s : Same H H') (h : Arg K H x o) : Arg K H' x o := by
  cases h with
  | int i => exact .int i
  | tup h k e => exact .tup (same_sqt s h) (fun l y hy => let ⟨m, z⟩ := k l y hy; ⟨m, z.same s⟩) e
  | oth h h1 h2 => exact .oth (h.same s) h1 h2
theorem Rn.same {q : Rat} (s : Same H H') (h : Rn K H x q) : Rn K H' x q := let ⟨a, e, z⟩ := h; ⟨a, e, same_sqt s z⟩
theorem Num.kinds {q : Rat} (h : Num K H x q) : (x = .int q.num ∧ q.den = 1) ∨ Rn K H x q := by
  cases h with
  | int i => exact .inl ⟨rfl, rfl⟩
  | tup h k e => exact .inr ⟨_, rfl, ratOf_some e ▸ h⟩
theorem Rn.mk {q : Rat} {p : Addr} : Rn K (upd H p (.tup (rt q))) (.ref p) q := ⟨p, rfl, .inl (.inl upd_same)⟩
theorem num_int (i : Int) : Num K H (.int i) (i : Rat) := .int i
end

/-! ### operations on great ints -/
def CDivA (_ j : Int) : Prop := j ≠ 0 ∧ j.natAbs.log2 < 9000
section
variable {X : Cx}
theorem op_fdivA : OpR X (binaryOp .FloorDiv) (rI CDivA fun i j => .int (i.fdiv j)) := opI fun i j _ _ _ _ _ hc q =>
  floordiv_int hc.1 q (.inl (PyProof.noPylong_of_log2 hc.2))
end
theorem divA {i j : Int} {b : Nat} (h : j ≠ 0) (hb : j.natAbs < 2 ^ b) (h0 : 0 < b) (h9 : b ≤ 9000) : CDivA i j := ⟨h, Nat.lt_of_lt_of_le (PySem.Flt.log2_lt_of h0 hb) h9⟩

/-! ### raise X(), no argument -/
section
variable {X : Cx} {C : Addr} {bmB : List Value} {B newId initId : String}
theorem pmk_own0 {x : Str} {p pos : Pos} (F : ExcBaseFacts B newId initId bmB) (q : PySem.W.excIn X.K C bmB newId = true) (gC : X.mg x = some (.ref C)) (kC : PySem.W.keepIn X.K (.ref C) = true) (r : Raises X (.ref C)) (hg : Gl X x)
    (hdb : (x == ("__debug__" : Str)) = false := by decide) : PMk X (.Call (.Name x p) [] [] pos) (fun _ H Q => Q (.ref C) none H) := by
  intro pins s σ H Q I h
  refine wpAny_Call_Name_kw (ld_glob I hg gC ?_ hdb)
  refine PySem.W.callWith_K0 I.kIn kC ?_
  obtain ⟨bm, N, nm, qn, bs, hdct, sn, sub, ab, col, dd, k0, k1, k2, k3, k5, mN, hC, hN, hni, T⟩ := exc_obj I.kIn q
  refine wpAny_call_exc_subT F T hC hN hni (fun h' e hm => ?_) (Nat.zero_le _)
  exact mk_of I hm r h (I.hok.gone hm.new)
end

/-- the same where the exception's context is told, and its record -/
theorem pmk5_own0 {X : Cx} {C : Addr} {bmB : List Value} {B newId initId : String} {x : Str} {p pos : Pos} (F : ExcBaseFacts B newId initId bmB) (q : PySem.W.excIn X.K C bmB newId = true) (gC : X.mg x = some (.ref C)) (kC : PySem.W.keepIn X.K (.ref C) = true) (r : Raises X (.ref C)) (hg : Gl X x)
    (hdb : (x == ("__debug__" : Str)) = false := by decide) : L2H.PMk5 X (.Call (.Name x p) [] [] pos) (fun _ H Q => Q (.ref C) none H) := by
  intro pins s σ H Q I h
  refine wpAny_Call_Name_kw (ld_glob I hg gC ?_ hdb)
  refine PySem.W.callWith_K0 I.kIn kC ?_
  obtain ⟨bm, N, nm, qn, bs, hdct, sn, sub, ab, col, dd, k0, k1, k2, k3, k5, mN, hC, hN, hni, T⟩ := exc_obj I.kIn q
  exact wpAny_call_exc_subT F T hC hN hni (fun h' e hm => L2H.mk_of5 I hm r h (I.hok.gone hm.new)) (Nat.zero_le _)

/-! ### the text: defs and error classes as the top has left them -/
/-- a def of the text (no defaults) under its name -/
structure DefAt (K : PySem.W.Frag) (mg : Str → Option Value) (x : Str) (st : Stmt) (ps : List Str) (f : Addr) (fd : FuncData) : Prop where
  F : Fun K x x st f fd
  g : mg x = some (.ref f)
  b : Binds K fd ps []
/-- an own error class without __init__ over the built-in class whose new is named, bm its line of bases -/
structure ErrAt (K : PySem.W.Frag) (mg : Str → Option Value) (x : Str) (bm : List Value) (newId : String) (C : Addr) : Prop where
  g : mg x = some (.ref C)
  k : PySem.W.keepIn K (.ref C) = true
  q : PySem.W.excIn K C bm newId = true
  b : PySem.W.subIn K (.ref C) (.type "BaseException") = some true
  t : PySem.W.typeIn K (.ref C) = some (.type "type")
theorem ErrAt.mk0 {X : Cx} {x : Str} {bm : List Value} {B newId initId : String} {C : Addr} {p pos : Pos} (T : ErrAt X.K X.mg x bm newId C) (F : ExcBaseFacts B newId initId bm) (hg : Gl X x) (hdb : (x == ("__debug__" : Str)) = false := by decide) :
    PMk X (.Call (.Name x p) [] [] pos) (fun _ H Q => Q (.ref C) none H) := pmk_own0 F T.q T.g T.k (raises_own T.b T.t) hg hdb
theorem ErrAt.mk5 {X : Cx} {x : Str} {bm : List Value} {B newId initId : String} {C : Addr} {p pos : Pos} (T : ErrAt X.K X.mg x bm newId C) (F : ExcBaseFacts B newId initId bm) (hg : Gl X x) (hdb : (x == ("__debug__" : Str)) = false := by decide) :
    L2H.PMk5 X (.Call (.Name x p) [] [] pos) (fun _ H Q => Q (.ref C) none H) := pmk5_own0 F T.q T.g T.k (raises_own T.b T.t) hg hdb
/-! ### what a def lets out whose exceptions have no context -/
section
variable {P : Program} {w : World} {K : PySem.W.Frag} {mg : Str → Option Value} {base : Heap} {k : Nat} {f : Addr} {fd : FuncData} {ps : List Str} {sp : Sp}
abbrev CXn (P : Program) (w : World) : CXT := L2N.CX P w
theorem cxn_up {outer : List Env} {H : Hp} {s : Shared} {E : XK} {u : Value} {s' : Shared} (h : CXn P w outer H s E u s') : L2.CX P w outer H s E u s' := by
  obtain ⟨a, B, H', cls, d, e, fl, r⟩ := h
  exact ⟨a, B, H', cls, d, e, L2H.flyingZ_imp (fun _ z => z.zc) fl, r⟩
theorem up (F : FnOk P w K mg base (CXn P w) k f fd ps sp) : FnOk P w K mg base (L2.CX P w) k f fd ps sp :=
  ⟨F.len, fun A outer s H args us vs Q E hr e0 hb hv hs => codeAny_mono (F.run A outer s H args us vs Q E hr e0 hb hv hs) fun r s' h => by
    cases r with
    | error e => exact cxn_up h
    | ok fl => cases fl <;> exact h⟩
theorem _root_.L2.Fun.okN {x qual : Str} {st : Stmt} {N : List Str} (F : Fun K x qual st f fd) (S : FnScope N ps (defScope st)) (len : ∀ vs H Q E, sp vs H Q E → vs.length = ps.length)
    (body : ∀ (cdv : Value) (A : Around) (outer : List Env) (s : Shared) (H : Hp) (vs : List V) (Q : VK) (E : XK), Room k (A.deeper (envOfC qual (defScope st) s.heap.objs.size f cdv)) → sp vs H Q E →
      ∃ t, PSs (cxOf (CXn P w) P w K mg base N qual (defScope st) f cdv A outer s H E) (defBody st) t ∧ t { nx := fun _ H' => Q .non H', rt := Q } (start N vs) H) : FnOk P w K mg base (CXn P w) (k + 1) f fd ps sp := by
  obtain ⟨oc, od, kV, doc, pm, an, cdv, ct, osl, rfl, lk, hcd⟩ := F.ex
  exact fn_of lk hcd S len fun A outer s H vs Q E hr hsp => body cdv A outer s H vs Q E hr hsp
end
theorem passN {X : Cx} : Passes (CXn X.prog X.w) X E0 := fun _ _ _ _ _ _ _ h => by
  obtain ⟨_, _, _, _, _, _, _, _, _, _, _, _, z⟩ := h
  exact z.elim
end LR
set_option Elab.async false
set_option linter.all false
set_option maxRecDepth 100000
set_option maxHeartbeats 4000000
/-! DA: data D without a heap, what it is at a heap (Is), frames (Ext), slots (Sl), the state of a body (Abs) -/
namespace DL
open PySem PySem.Spec PyProof.Rows L2
/-- the built-in types of data -/
inductive Ty7 where
  | non | bl | int | str | lst | tup | dct
  deriving DecidableEq
def Ty7.name : Ty7 → String
  | .non => "NoneType" | .bl => "bool" | .int => "int" | .str => "str" | .lst => "list" | .tup => "tuple" | .dct => "dict"
/-- what a value is, told without the heap -/
inductive D where
  | non | bl (b : Bool) | int (i : Int) | str (x : Str)
  | lst (xs : List D) | tup (xs : List D)
  /-- a dict with keys that are ints and texts -/
  | dct (ks : List Key) (xs : List D)
  /-- an instance of the class at C -/
  | obj (C : Addr) (ns : List Str) (xs : List D)
  /-- a built-in type; an own class -/
  | ty (n : Ty7) | cls (C : Addr)
  /-- what is true of it, kept by growing heaps -/
  | is (P : Hp → V → Prop)
/-- values, with their data, item by item -/
def zipV : List Key → List V → List (Key × V)
  | k :: ks, v :: vs => (k, v) :: zipV ks vs
  | _, _ => []
def zipF : List Str → List V → List (Str × V)
  | k :: ks, v :: vs => (k, v) :: zipF ks vs
  | _, _ => []
section
variable (K : PySem.W.Frag)
mutual
def Is (H : Hp) : D → V → Prop
  | .non, v => v = .non
  | .bl b, v => v = .bl b
  | .int i, v => v = .int i
  | .str x, v => v = .str x
  | .lst ds, v => ∃ a xs, v = .ref a ∧ H a = some (.lst xs) ∧ IsA H ds xs
  | .tup ds, v => ∃ a xs, v = .ref a ∧ SqT K H a xs ∧ IsA H ds xs
  | .dct ks ds, v => ∃ a xs, v = .ref a ∧ H a = some (.dK (zipV ks xs)) ∧ ks.length = ds.length ∧ IsA H ds xs
  | .obj C ns ds, v => ∃ a dx xs, v = .ref a ∧ H a = some (.ins C dx (zipF ns xs)) ∧ ns.length = ds.length ∧ IsA H ds xs
  | .ty n, v => v = .ty n.name
  | .cls C, v => v = .ref C
  | .is P, v => ∀ H', Same H H' → P H' v
def IsA (H : Hp) : List D → List V → Prop
  | [], xs => xs = []
  | d :: ds, xs => ∃ x ys, xs = x :: ys ∧ Is H d x ∧ IsA H ds ys
end
end
section
variable {K : PySem.W.Frag} {H H' : Hp}
theorem same_sqt {a : Addr} {xs : List V} (s : Same H H') (h : SqT K H a xs) : SqT K H' a xs := by
  rcases h with (h | ⟨o, h⟩) | h
  · exact .inl (.inl (s _ _ h))
  · exact .inl (.inr ⟨o, s _ _ h⟩)
  · exact .inr h
mutual
theorem Is.same (s : Same H H') : ∀ {d : D} {v : V}, Is K H d v → Is K H' d v
  | .non, _, h => h
  | .bl _, _, h => h
  | .int _, _, h => h
  | .str _, _, h => h
  | .lst _, _, ⟨a, xs, e, h1, h2⟩ => ⟨a, xs, e, s _ _ h1, IsA.same s h2⟩
  | .tup _, _, ⟨a, xs, e, h1, h2⟩ => ⟨a, xs, e, same_sqt s h1, IsA.same s h2⟩
  | .dct _ _, _, ⟨a, xs, e, h1, h2, h3⟩ => ⟨a, xs, e, s _ _ h1, h2, IsA.same s h3⟩
  | .obj _ _ _, _, ⟨a, dx, xs, e, h1, h2, h3⟩ => ⟨a, dx, xs, e, s _ _ h1, h2, IsA.same s h3⟩
  | .ty _, _, h => h
  | .cls _, _, h => h
  | .is _, _, h => fun H'' s' => h H'' (s.trans s')
theorem IsA.same (s : Same H H') : ∀ {ds : List D} {xs : List V}, IsA K H ds xs → IsA K H' ds xs
  | [], _, h => h
  | _ :: _, _, ⟨x, ys, e, h1, h2⟩ => ⟨x, ys, e, Is.same s h1, IsA.same s h2⟩
end
theorem IsA.len : ∀ {ds : List D} {xs : List V}, IsA K H ds xs → xs.length = ds.length
  | [], _, h => by cases h; rfl
  | _ :: _, _, ⟨_, _, e, _, h⟩ => by subst e; exact congrArg Nat.succ h.len
theorem IsA.get : ∀ {ds : List D} {xs : List V} {i : Nat} {d : D}, IsA K H ds xs → ds[i]? = some d → ∃ x, xs[i]? = some x ∧ Is K H d x
  | [], _, _, _, _, e => by simp at e
  | _ :: _, _, 0, _, ⟨x, ys, e, h, _⟩, q => by simp at q; subst q; subst e; exact ⟨x, rfl, h⟩
  | _ :: _, _, i + 1, _, ⟨x, ys, e, _, h⟩, q => by
    obtain ⟨y, a, b⟩ := h.get (i := i) (by simpa using q)
    subst e
    exact ⟨y, by simpa using a, b⟩
theorem IsA.get2 : ∀ {ds : List D} {xs : List V} {i : Nat} {x : V}, IsA K H ds xs → xs[i]? = some x → ∃ d, ds[i]? = some d ∧ Is K H d x
  | [], _, _, _, h, q => by cases h; simp at q
  | d :: _, _, 0, _, ⟨x, ys, e, h, _⟩, q => by subst e; simp at q; subst q; exact ⟨d, rfl, h⟩
  | _ :: _, _, i + 1, _, ⟨x, ys, e, _, h⟩, q => by
    subst e
    obtain ⟨y, a, b⟩ := h.get2 (i := i) (by simpa using q)
    exact ⟨y, by simpa using a, b⟩
theorem IsA.app : ∀ {ds es : List D} {xs ys : List V}, IsA K H ds xs → IsA K H es ys → IsA K H (ds ++ es) (xs ++ ys)
  | [], _, _, _, h, g => by cases h; exact g
  | _ :: _, _, _, _, ⟨x, zs, e, h1, h2⟩, g => by subst e; exact ⟨x, _, rfl, h1, h2.app g⟩
theorem IsA.one {d : D} {x : V} (h : Is K H d x) : IsA K H [d] [x] := ⟨x, [], rfl, h, rfl⟩
theorem IsA.take (n : Nat) : ∀ {ds : List D} {xs : List V}, IsA K H ds xs → IsA K H (ds.take n) (xs.take n) := by
  induction n with
  | zero => intro ds xs h; rfl
  | succ n ih =>
    intro ds xs h
    cases ds with
    | nil => cases h; rfl
    | cons d ds =>
      obtain ⟨x, ys, e, h1, h2⟩ := h
      subst e
      exact ⟨x, _, rfl, h1, ih h2⟩
theorem IsA.drop (n : Nat) : ∀ {ds : List D} {xs : List V}, IsA K H ds xs → IsA K H (ds.drop n) (xs.drop n) := by
  induction n with
  | zero => intro ds xs h; exact h
  | succ n ih =>
    intro ds xs h
    cases ds with
    | nil => cases h; rfl
    | cons d ds =>
      obtain ⟨x, ys, e, h1, h2⟩ := h
      subst e
      exact ih h2
theorem IsA.set {d : D} {x : V} (h : Is K H d x) : ∀ {ds : List D} {xs : List V} (i : Nat), IsA K H ds xs → IsA K H (ds.set i d) (xs.set i x)
  | [], _, _, g => by cases g; rfl
  | _ :: _, _, 0, ⟨y, ys, e, _, g⟩ => by subst e; exact ⟨x, ys, rfl, h, g⟩
  | _ :: _, _, i + 1, ⟨y, ys, e, g1, g⟩ => by subst e; exact ⟨y, _, rfl, g1, g.set h i⟩
end

/-! ### a pool -/
/-- a pool stands at p: its cells (frozen), a place in them, what is left of a great one, a count -/
def PoolL (Hs H : Hp) (p l : Addr) : Prop := ∃ (ns : List Int) (a b c : Int), H p = some (.lst [.ref l, .int a, .int b, .int c]) ∧ Hs l = some (.lst (ns.map V.int)) ∧ ns.length ≤ 63
def PoolAt (Hs H : Hp) (p : Addr) : Prop := ∃ l, PoolL Hs H p l
/-! ### how heaps grow -/
/-- Hs: what is frozen for good; Z: what may change (pools) -/
structure Ext (Z : Addr → Prop) (Hs H Hs' H' : Hp) : Prop where
  fz : Same Hs Hs'
  sub : Same Hs' H'
  keep : ∀ b o, ¬ Z b → H b = some o → H' b = some o
  live : ∀ b, H b ≠ none → H' b ≠ none
  new : ∀ b, Hs b = none → H b ≠ none → Hs' b = none
  pool : ∀ b l, Z b → PoolL Hs H b l → PoolL Hs' H' b l
theorem Ext.poolA {Z : Addr → Prop} {Hs H Hs' H' : Hp} (e : Ext Z Hs H Hs' H') {b : Addr} (z : Z b) (p : PoolAt Hs H b) : PoolAt Hs' H' b := let ⟨l, q⟩ := p; ⟨l, e.pool b l z q⟩
theorem Ext.refl {Z : Addr → Prop} {Hs H : Hp} (s : Same Hs H) : Ext Z Hs H Hs H := ⟨.refl _, s, fun _ _ _ e => e, fun _ e => e, fun _ e _ => e, fun _ _ _ p => p⟩
theorem Ext.trans {Z : Addr → Prop} {Hs H Hs1 H1 Hs2 H2 : Hp} (a : Ext Z Hs H Hs1 H1) (b : Ext Z Hs1 H1 Hs2 H2) : Ext Z Hs H Hs2 H2 :=
  ⟨a.fz.trans b.fz, b.sub, fun c o z e => b.keep c o z (a.keep c o z e), fun c e => b.live c (a.live c e), fun c e f => b.new c (a.new c e f) (a.live c f), fun c l z p => b.pool c l z (a.pool c l z p)⟩
/-- a new frozen object -/
theorem Ext.laid {Z : Addr → Prop} {Hs H : Hp} {p : Addr} {o : HO} (s : Same Hs H) (n : H p = none) : Ext Z Hs H (upd Hs p o) (upd H p o) where
  fz := fun b u e => by
    have hb : b ≠ p := by rintro rfl; rw [s _ _ e] at n; cases n
    rw [upd_ne hb]; exact e
  sub := fun b u e => by
    by_cases hb : b = p
    · subst hb; rw [upd_same] at e ⊢; exact e
    · rw [upd_ne hb] at e ⊢; exact s _ _ e
  keep := fun b u _ e => by rw [upd_ne (ne_of_none e n)]; exact e
  live := fun b e => by
    by_cases hb : b = p
    · subst hb; exact absurd n e
    · rw [upd_ne hb]; exact e
  new := fun b e f => by
    have hb : b ≠ p := by rintro rfl; exact f n
    rw [upd_ne hb]; exact e
  pool := fun b l _ ⟨ns, x, y, z, h1, h2, h3⟩ => ⟨ns, x, y, z, by rw [upd_ne (ne_of_none h1 n)]; exact h1, by rw [upd_ne (ne_of_none (s _ _ h2) n)]; exact h2, h3⟩
/-- a new object that is not frozen -/
theorem Ext.grow {Z : Addr → Prop} {Hs H : Hp} {p : Addr} {o : HO} (s : Same Hs H) (n : H p = none) : Ext Z Hs H Hs (upd H p o) where
  fz := .refl _
  sub := fun b u e => by rw [upd_ne (ne_of_none (s _ _ e) n)]; exact s _ _ e
  keep := fun b u _ e => by rw [upd_ne (ne_of_none e n)]; exact e
  live := fun b e => by
    by_cases hb : b = p
    · subst hb; exact absurd n e
    · rw [upd_ne hb]; exact e
  new := fun b e _ => e
  pool := fun b l _ ⟨ns, x, y, z, h1, h2, h3⟩ => ⟨ns, x, y, z, by rw [upd_ne (ne_of_none h1 n)]; exact h1, h2, h3⟩

/-! ### slots -/
inductive Sl where
  | un | d (x : D) | own (p : Addr) (xs : List D) | pool
def nth : List Sl → Nat → Sl
  | [], _ => .un
  | s :: _, 0 => s
  | _ :: ss, i + 1 => nth ss i
def put : List Sl → Nat → Sl → List Sl
  | [], _, _ => []
  | _ :: ss, 0, x => x :: ss
  | s :: ss, i + 1, x => s :: put ss i x
theorem put_len : ∀ (ss : List Sl) (i : Nat) (x : Sl), (put ss i x).length = ss.length
  | [], _, _ => rfl
  | _ :: _, 0, _ => rfl
  | _ :: ss, i + 1, x => congrArg Nat.succ (put_len ss i x)
theorem nth_put_ne : ∀ {ss : List Sl} {i j : Nat} {x : Sl}, j ≠ i → nth (put ss i x) j = nth ss j
  | [], _, _, _, _ => rfl
  | _ :: _, 0, 0, _, h => absurd rfl h
  | _ :: _, 0, _ + 1, _, _ => rfl
  | _ :: _, _ + 1, 0, _, _ => rfl
  | _ :: ss, i + 1, j + 1, x, h => nth_put_ne (ss := ss) (fun e => h (congrArg _ e))
theorem nth_put : ∀ {ss : List Sl} {i : Nat} {x : Sl}, i < ss.length → nth (put ss i x) i = x
  | [], _, _, h => absurd h (Nat.not_lt_zero _)
  | _ :: _, 0, _, _ => rfl
  | _ :: ss, i + 1, x, h => nth_put (ss := ss) (Nat.lt_of_succ_lt_succ h)
theorem nth_out : ∀ {ss : List Sl} {i : Nat}, ss.length ≤ i → nth ss i = .un
  | [], _, _ => rfl
  | _ :: _, 0, h => absurd h (by simp)
  | _ :: ss, i + 1, h => nth_out (ss := ss) (Nat.le_of_succ_le_succ h)
theorem put_out : ∀ {ss : List Sl} {i : Nat} {x : Sl}, ss.length ≤ i → put ss i x = ss
  | [], _, _, _ => rfl
  | _ :: _, 0, _, h => absurd h (by simp)
  | _ :: ss, i + 1, x, h => congrArg _ (put_out (ss := ss) (Nat.le_of_succ_le_succ h))
/-- what a slot holds; O: who owns what may change (0: a pool; i + 1: slot i) -/
def SlIs (K : PySem.W.Frag) (O : Addr → Option Nat) (Hs H : Hp) (i : Nat) (o : Option (Option V)) : Sl → Prop
  | .un => True
  | .d x => ∃ v, o = some (some v) ∧ Is K Hs x v
  | .own p ds => ∃ xs, o = some (some (.ref p)) ∧ O p = some (i + 1) ∧ H p = some (.lst xs) ∧ IsA K Hs ds xs
  | .pool => ∃ p, o = some (some (.ref p)) ∧ O p = some 0 ∧ PoolAt Hs H p
/-- the entry of a body, and its wish of exceptions -/
structure Cn where
  Z : Addr → Prop
  Hs : Hp
  H : Hp
  E : XK
abbrev Z0 (O : Addr → Option Nat) : Addr → Prop := fun b => O b = some 0
structure Abs (K : PySem.W.Frag) (c : Cn) (O : Addr → Option Nat) (Hs H : Hp) (σ : L2.St) (ss : List Sl) : Prop where
  ext : Ext c.Z c.Hs c.H Hs H
  fz : ∀ a, O a ≠ none → Hs a = none
  live : ∀ a, O a ≠ none → H a ≠ none
  own0 : ∀ a, O a ≠ none → c.Z a ∨ c.H a = none
  z : ∀ a, c.Z a → O a = some 0
  len : σ.length = ss.length
  sl : ∀ i, SlIs K O Hs H i σ[i]? (nth ss i)
theorem Abs.sub {K c O Hs H σ ss} (A : Abs K c O Hs H σ ss) : Same Hs H := A.ext.sub
/-- an expression's end, from the entry -/
theorem Abs.after {K c O Hs H σ ss} (A : Abs K c O Hs H σ ss) {Hs' H' : Hp} (e : Ext (Z0 O) Hs H Hs' H') : Ext c.Z c.Hs c.H Hs' H' where
  fz := A.ext.fz.trans e.fz
  sub := e.sub
  keep := fun b o z h => e.keep b o (fun q => by
    rcases A.own0 b (by rw [q]; exact fun z => nomatch z) with y | y
    · exact z y
    · rw [h] at y; cases y) (A.ext.keep b o z h)
  live := fun b h => e.live b (A.ext.live b h)
  new := fun b h1 h2 => e.new b (A.ext.new b h1 h2) (A.ext.live b h2)
  pool := fun b l z p => e.pool b l (A.z b z) (A.ext.pool b l z p)
theorem SlIs.after {K O Hs H i o s} {Hs' H' : Hp} (e : Ext (Z0 O) Hs H Hs' H') (h : SlIs K O Hs H i o s) : SlIs K O Hs' H' i o s := by
  cases s with
  | un => trivial
  | d x => exact ⟨h.choose, h.choose_spec.1, h.choose_spec.2.same e.fz⟩
  | own p ds =>
    obtain ⟨xs, h1, h2, h3, h4⟩ := h
    exact ⟨xs, h1, h2, e.keep p _ (fun z => by have z : O p = some 0 := z; rw [h2] at z; cases z) h3, h4.same e.fz⟩
  | pool =>
    obtain ⟨p, h1, h2, h3⟩ := h
    exact ⟨p, h1, h2, e.poolA h2 h3⟩
theorem Abs.next {K c O Hs H σ ss} (A : Abs K c O Hs H σ ss) {Hs' H' : Hp} (e : Ext (Z0 O) Hs H Hs' H') : Abs K c O Hs' H' σ ss where
  ext := A.after e
  fz := fun a h => e.new a (A.fz a h) (A.live a h)
  live := fun a h => e.live a (A.live a h)
  own0 := A.own0
  z := A.z
  len := A.len
  sl := fun i => (A.sl i).after e
/-- a slot is given data -/
theorem Abs.set {K c O Hs H σ ss} (A : Abs K c O Hs H σ ss) {i : Nat} {x : D} {v : V} (h : Is K Hs x v) : Abs K c O Hs H (σ.set i (some v)) (put ss i (.d x)) where
  ext := A.ext
  fz := A.fz
  live := A.live
  own0 := A.own0
  z := A.z
  len := by rw [put_len, List.length_set]; exact A.len
  sl := fun j => by
    by_cases e : j = i
    · subst e
      by_cases l : j < ss.length
      · rw [nth_put l, List.getElem?_set_self (by rw [A.len]; exact l)]
        exact ⟨v, rfl, h⟩
      · rw [put_out (Nat.le_of_not_lt l), nth_out (Nat.le_of_not_lt l)]
        trivial
    · rw [nth_put_ne e, List.getElem?_set_ne (fun z => e z.symm)]
      exact A.sl j
/-- a slot is forgotten, or its value is lost -/
theorem Abs.lose {K c O Hs H σ ss} (A : Abs K c O Hs H σ ss) {i : Nat} {o : Option V} : Abs K c O Hs H (σ.set i o) (put ss i .un) where
  ext := A.ext
  fz := A.fz
  live := A.live
  own0 := A.own0
  z := A.z
  len := by rw [put_len, List.length_set]; exact A.len
  sl := fun j => by
    by_cases e : j = i
    · subst e
      by_cases l : j < ss.length
      · rw [nth_put l]
        trivial
      · rw [put_out (Nat.le_of_not_lt l), nth_out (Nat.le_of_not_lt l)]
        trivial
    · rw [nth_put_ne e, List.getElem?_set_ne (fun z => e z.symm)]
      exact A.sl j
open Classical in
/-- a slot is given a new list, its own -/
theorem Abs.setOwn {K c O Hs H σ ss} (A : Abs K c O Hs H σ ss) {i : Nat} {p : Addr} {ds : List D} {xs : List V} (n : H p = none) (h : IsA K Hs ds xs) :
    Abs K c (fun b => if b = p then some (i + 1) else O b) Hs (upd H p (.lst xs)) (σ.set i (some (.ref p))) (put ss i (.own p ds)) := by
  have np : Hs p = none := by
    cases q : Hs p with
    | none => rfl
    | some o => rw [A.sub _ _ q] at n; cases n
  have hO : ∀ a, a ≠ p → (if a = p then some (i + 1) else O a) = O a := fun a h => if_neg h
  have Op : O p = none := by
    cases q : O p with
    | none => rfl
    | some k => exact absurd n (A.live p (by rw [q]; exact fun z => nomatch z))
  have g : Ext (Z0 O) Hs H Hs (upd H p (.lst xs)) := Ext.grow A.sub n
  refine ⟨A.after g, fun a h => ?_, fun a h => ?_, fun a h => ?_, fun a h => ?_, by rw [put_len, List.length_set]; exact A.len, fun j => ?_⟩
  · by_cases e : a = p
    · subst e; exact np
    · rw [hO a e] at h; exact A.fz a h
  · by_cases e : a = p
    · subst e; rw [upd_same]; exact fun z => nomatch z
    · rw [hO a e] at h; rw [upd_ne e]; exact A.live a h
  · by_cases e : a = p
    · subst e
      right
      cases q : c.H a with
      | none => rfl
      | some o => exact absurd n (A.ext.live a (by rw [q]; exact fun z => nomatch z))
    · rw [hO a e] at h; exact A.own0 a h
  · by_cases e : a = p
    · subst e
      have := A.z a h
      rw [Op] at this; cases this
    · show (if a = p then some (i + 1) else O a) = some 0
      rw [hO a e]; exact A.z a h
  · by_cases e : j = i
    · subst e
      by_cases l : j < ss.length
      · rw [nth_put l, List.getElem?_set_self (by rw [A.len]; exact l)]
        exact ⟨xs, rfl, if_pos rfl, upd_same, h⟩
      · rw [put_out (Nat.le_of_not_lt l), nth_out (Nat.le_of_not_lt l)]
        trivial
    · rw [nth_put_ne e, List.getElem?_set_ne (fun z => e z.symm)]
      have q := (A.sl j).after g
      revert q
      cases nth ss j with
      | un => exact fun _ => trivial
      | d x => exact fun q => q
      | own p' es =>
        rintro ⟨xs', h1, h2, h3, h4⟩
        have ne : p' ≠ p := by rintro rfl; rw [Op] at h2; cases h2
        exact ⟨xs', h1, (hO p' ne).trans h2, h3, h4⟩
      | pool =>
        rintro ⟨p', h1, h2, h3⟩
        have ne : p' ≠ p := by rintro rfl; rw [Op] at h2; cases h2
        exact ⟨p', h1, (hO p' ne).trans h2, h3⟩
/-- an own list is changed -/
theorem Abs.write {K c O Hs H σ ss} (A : Abs K c O Hs H σ ss) {i : Nat} {p : Addr} {ds : List D} {xs : List V} (e0 : σ[i]? = some (some (.ref p))) (own : O p = some (i + 1)) (l : i < ss.length) (h : IsA K Hs ds xs) :
    Abs K c O Hs (upd H p (.lst xs)) σ (put ss i (.own p ds)) := by
  have np : Hs p = none := A.fz p (by rw [own]; exact fun z => nomatch z)
  have nz : ¬ c.Z p := fun z => by have := A.z p z; rw [own] at this; cases this
  have c0 : c.H p = none := (A.own0 p (by rw [own]; exact fun z => nomatch z)).resolve_left nz
  have sub : Same Hs (upd H p (.lst xs)) := fun b o e => by
    rw [upd_ne (ne_of_none e np)]; exact A.sub _ _ e
  refine ⟨⟨A.ext.fz, sub, fun b o z e => ?_, fun b e => ?_, A.ext.new, fun b l' z q => ?_⟩, A.fz, fun a q => ?_, A.own0, A.z, by rw [put_len]; exact A.len, fun j => ?_⟩
  · rw [upd_ne (ne_of_none e c0)]; exact A.ext.keep b o z e
  · by_cases hb : b = p
    · subst hb; exact absurd c0 e
    · rw [upd_ne hb]; exact A.ext.live b e
  · obtain ⟨ns, x, y, w, h1, h2, h3⟩ := A.ext.pool b l' z q
    exact ⟨ns, x, y, w, by rw [upd_ne (show b ≠ p from fun hb => nz (by rw [← hb]; exact z))]; exact h1, h2, h3⟩
  · by_cases hb : a = p
    · subst hb; rw [upd_same]; exact fun z => nomatch z
    · rw [upd_ne hb]; exact A.live a q
  · by_cases e : j = i
    · subst e
      rw [nth_put l]
      exact ⟨xs, e0, own, upd_same, h⟩
    · rw [nth_put_ne e]
      have q := A.sl j
      revert q
      cases nth ss j with
      | un => exact fun _ => trivial
      | d x => exact fun q => q
      | own p' es =>
        rintro ⟨xs', h1, h2, h3, h4⟩
        have ne : p' ≠ p := by rintro rfl; rw [own] at h2; have := Nat.succ.inj (Option.some.inj h2); exact e this.symm
        exact ⟨xs', h1, h2, by rw [upd_ne ne]; exact h3, h4⟩
      | pool =>
        rintro ⟨p', h1, h2, l', ns, x, y, w, h3, h4, h5⟩
        have ne : p' ≠ p := by rintro rfl; rw [own] at h2; cases h2
        exact ⟨p', h1, h2, l', ns, x, y, w, by rw [upd_ne ne]; exact h3, h4, h5⟩
open Classical in
noncomputable def Odel (O : Addr → Option Nat) (p : Addr) : Addr → Option Nat := fun b => if b = p then none else O b
theorem Odel_ne {O : Addr → Option Nat} {p a : Addr} (h : a ≠ p) : Odel O p a = O a := if_neg h
theorem Odel_eq {O : Addr → Option Nat} {p : Addr} : Odel O p p = none := if_pos rfl
open Classical in
/-- an own list is frozen -/
theorem Abs.pub {K c O Hs H σ ss} (A : Abs K c O Hs H σ ss) {i : Nat} {p : Addr} {ds : List D} (hs : nth ss i = .own p ds) :
    ∃ xs, Hs p = none ∧ H p = some (.lst xs) ∧ O p = some (i + 1) ∧ Abs K c (Odel O p) (upd Hs p (.lst xs)) H σ (put ss i (.d (.lst ds))) ∧ Same Hs (upd Hs p (.lst xs)) ∧ ∃ v, σ[i]? = some (some v) ∧ Is K (upd Hs p (.lst xs)) (.lst ds) v := by
  have q := A.sl i
  rw [hs] at q
  obtain ⟨xs, h1, own, h3, h4⟩ := q
  have np : Hs p = none := A.fz p (by rw [own]; exact fun z => nomatch z)
  have nz : ¬ c.Z p := fun z => by have := A.z p z; rw [own] at this; cases this
  have c0 : c.H p = none := (A.own0 p (by rw [own]; exact fun z => nomatch z)).resolve_left nz
  have il : i < ss.length := by
    by_cases l : i < ss.length
    · exact l
    · rw [nth_out (Nat.le_of_not_lt l)] at hs; cases hs
  have s : Same Hs (upd Hs p (.lst xs)) := fun b o e => by rw [upd_ne (ne_of_none e np)]; exact e
  have sub : Same (upd Hs p (.lst xs)) H := fun b o e => by
    by_cases hb : b = p
    · subst hb; rw [upd_same] at e; cases e; exact h3
    · rw [upd_ne hb] at e; exact A.sub _ _ e
  have is : Is K (upd Hs p (.lst xs)) (.lst ds) (.ref p) := ⟨p, xs, rfl, upd_same, h4.same s⟩
  have hO : ∀ a, a ≠ p → Odel O p a = O a := fun a h => Odel_ne h
  refine ⟨xs, np, h3, own, ⟨⟨A.ext.fz.trans s, sub, A.ext.keep, A.ext.live, fun b e f => ?_, fun b l' z q' => ?_⟩, fun a h => ?_, fun a h => ?_, fun a h => ?_, fun a h => ?_, by rw [put_len]; exact A.len, fun j => ?_⟩, s, _, h1, is⟩
  · have ne : b ≠ p := by rintro rfl; exact f c0
    rw [upd_ne ne]; exact A.ext.new b e f
  · obtain ⟨ns2, x2, y2, w2, k1, k2, k3⟩ := A.ext.pool b l' z q'
    exact ⟨ns2, x2, y2, w2, k1, s _ _ k2, k3⟩
  · by_cases e : a = p
    · subst e; exact absurd Odel_eq h
    · rw [hO a e] at h; rw [upd_ne e]; exact A.fz a h
  · by_cases e : a = p
    · subst e; exact absurd Odel_eq h
    · rw [hO a e] at h; exact A.live a h
  · by_cases e : a = p
    · subst e; exact absurd Odel_eq h
    · rw [hO a e] at h; exact A.own0 a h
  · have ne : a ≠ p := by rintro rfl; exact nz h
    show Odel O p a = some 0
    rw [hO a ne]; exact A.z a h
  · by_cases e : j = i
    · subst e
      rw [nth_put il]
      exact ⟨_, h1, is⟩
    · rw [nth_put_ne e]
      have q := A.sl j
      revert q
      cases nth ss j with
      | un => exact fun _ => trivial
      | d x => exact fun ⟨v, a, b⟩ => ⟨v, a, b.same s⟩
      | own p' es =>
        rintro ⟨xs', k1, k2, k3, k4⟩
        have ne : p' ≠ p := by rintro rfl; rw [own] at k2; have := Nat.succ.inj (Option.some.inj k2); exact e this.symm
        exact ⟨xs', k1, (hO p' ne).trans k2, k3, k4.same s⟩
      | pool =>
        rintro ⟨p', k1, k2, l', ns, x, y, w, k3, k4, k5⟩
        have ne : p' ≠ p := by rintro rfl; rw [own] at k2; cases k2
        exact ⟨p', k1, (hO p' ne).trans k2, l', ns, x, y, w, k3, s _ _ k4, k5⟩
end DL
set_option Elab.async false
set_option linter.all false
set_option maxRecDepth 100000
set_option maxHeartbeats 4000000
/-! DB: readings over data, and their expressions, tests, calls, blocks -/
namespace DL
open PySem PySem.Spec PyProof.Rows L2
/-- an own exception: its class; with one field -/
inductive ErrD where
  | e0 (C : Addr) | e1 (C : Addr) (f : Str) (x : D)
def ErrPost (K : PySem.W.Frag) (E : XK) (er : ErrD) (Hs H : Hp) : Prop :=
  match er with
  | .e0 C => E (.ref C) none H
  | .e1 C f x => ∀ dd v, Hs dd = some (.xd [(f, v)]) → Is K Hs x v → E (.ref C) (some dd) H
def ErrC (K : PySem.W.Frag) (c : Cn) (Ed : ErrD → Prop) : Prop := ∀ er Hs H, Ext c.Z c.Hs c.H Hs H → Ed er → ErrPost K c.E er Hs H
abbrev QD := D → Prop
abbrev QE := ErrD → Prop
abbrev TD := List Sl → QD → QE → Prop
abbrev TTD := List Sl → (Bool → Prop) → QE → Prop
abbrev TAD := List Sl → (List Sl → Prop) → QE → Prop
structure EnD where
  nx : List Sl → Prop
  rt : QD
  ro : List D → Prop := fun ds => rt (.lst ds)
  bk : List Sl → Prop := fun _ => False
  ct : List Sl → Prop := fun _ => False
abbrev TSD := EnD → List Sl → QE → Prop
section
variable (c : Cn) (K : PySem.W.Frag)
def lift (t : TD) : TE := fun σ H Q => ∃ O Hs ss Qd Ed, Abs K c O Hs H σ ss ∧ t ss Qd Ed ∧ ErrC K c Ed ∧ ∀ d v Hs' H', Ext (Z0 O) Hs H Hs' H' → Is K Hs' d v → Qd d → Q v H'
def liftT (t : TTD) : TT := fun σ H Q => ∃ O Hs ss Qd Ed, Abs K c O Hs H σ ss ∧ t ss Qd Ed ∧ ErrC K c Ed ∧ ∀ b Hs' H', Ext (Z0 O) Hs H Hs' H' → Qd b → Q b H'
/-- arguments -/
def ArgIs (Z : Addr → Prop) (Hs H : Hp) : List Sl → List V → Prop
  | [], vs => vs = []
  | .d x :: as, vs => ∃ v ws, vs = v :: ws ∧ Is K Hs x v ∧ ArgIs Z Hs H as ws
  | .pool :: as, vs => ∃ p ws, vs = .ref p :: ws ∧ Z p ∧ PoolAt Hs H p ∧ ArgIs Z Hs H as ws
  | _ :: _, _ => False
def liftA (t : TAD) : TA := fun σ H Q => ∃ O Hs ss Qa Ed, Abs K c O Hs H σ ss ∧ t ss Qa Ed ∧ ErrC K c Ed ∧ ∀ as vs Hs' H', Ext (Z0 O) Hs H Hs' H' → ArgIs K (Z0 O) Hs' H' as vs → Qa as → Q vs H'
structure Conn (Hs0 : Hp) (En : EnD) (Dn : Ends) : Prop where
  nx : ∀ σ O Hs H ss, Same Hs0 Hs → Abs K c O Hs H σ ss → En.nx ss → Dn.nx σ H
  bk : ∀ σ O Hs H ss, Same Hs0 Hs → Abs K c O Hs H σ ss → En.bk ss → Dn.bk σ H
  ct : ∀ σ O Hs H ss, Same Hs0 Hs → Abs K c O Hs H σ ss → En.ct ss → Dn.ct σ H
  rt : ∀ d v Hs H, Ext c.Z c.Hs c.H Hs H → Is K Hs d v → En.rt d → Dn.rt v H
  /-- a list of its own is handed back -/
  ro : ∀ ds p xs Hs H, Ext c.Z c.Hs c.H Hs H → c.H p = none → Hs p = none → H p = some (.lst xs) → IsA K Hs ds xs → En.ro ds → Dn.rt (.ref p) H
def liftS (t : TSD) : TS := fun Dn σ H => ∃ O Hs ss En Ed, Abs K c O Hs H σ ss ∧ t En ss Ed ∧ ErrC K c Ed ∧ Conn c K Hs En Dn
end
theorem Conn.up {c : Cn} {K : PySem.W.Frag} {Hs Hs1 : Hp} {En : EnD} {Dn : Ends} (g : Conn c K Hs En Dn) (s : Same Hs Hs1) : Conn c K Hs1 En Dn :=
  ⟨fun σ O Hs' H ss z => g.nx σ O Hs' H ss (s.trans z), fun σ O Hs' H ss z => g.bk σ O Hs' H ss (s.trans z), fun σ O Hs' H ss z => g.ct σ O Hs' H ss (s.trans z), g.rt, g.ro⟩
theorem ArgIs.next {K Z Hs H Hs' H'} (e : Ext Z Hs H Hs' H') : ∀ {as : List Sl} {vs : List V}, ArgIs K Z Hs H as vs → ArgIs K Z Hs' H' as vs
  | [], _, h => h
  | .d _ :: _, _, ⟨v, ws, e1, h1, h2⟩ => ⟨v, ws, e1, h1.same e.fz, h2.next e⟩
  | .pool :: _, _, ⟨p, ws, e1, h1, h2, h3⟩ => ⟨p, ws, e1, h1, e.poolA h1 h2, h3.next e⟩
  | .un :: _, _, h => h.elim
  | .own _ _ :: _, _, h => h.elim
theorem ArgIs.len {K Z Hs H} : ∀ {as : List Sl} {vs : List V}, ArgIs K Z Hs H as vs → vs.length = as.length
  | [], _, h => by cases h; rfl
  | .d _ :: _, _, ⟨v, ws, e1, h1, h2⟩ => by subst e1; exact congrArg Nat.succ h2.len
  | .pool :: _, _, ⟨p, ws, e1, h1, h2, h3⟩ => by subst e1; exact congrArg Nat.succ h3.len
  | .un :: _, _, h => h.elim
  | .own _ _ :: _, _, h => h.elim
def dats : List D → List Sl := List.map .d
theorem ArgIs.dats {K Z Hs H} : ∀ {ds : List D} {vs : List V}, ArgIs K Z Hs H (dats ds) vs → IsA K Hs ds vs
  | [], _, h => h
  | _ :: _, _, ⟨v, ws, e1, h1, h2⟩ => ⟨v, ws, e1, h1, ArgIs.dats h2⟩
section
variable {X : Cx} {c : Cn}
abbrev DE (X : Cx) (c : Cn) (e : Expr) (t : TD) : Prop := PE X e (lift c X.K t)
abbrev DT (X : Cx) (c : Cn) (e : Expr) (t : TTD) : Prop := PT X e (liftT c X.K t)
abbrev DW (X : Cx) (c : Cn) (e : Expr) (t : TTD) : Prop := PW X e (liftT c X.K t)
abbrev DAs (X : Cx) (c : Cn) (es : List Expr) (t : TAD) : Prop := PA X es (liftA c X.K t)
abbrev DS (X : Cx) (c : Cn) (st : Stmt) (t : TSD) : Prop := PS X st (liftS c X.K t)
abbrev DSs (X : Cx) (c : Cn) (st : List Stmt) (t : TSD) : Prop := PSs X st (liftS c X.K t)
theorem pe_imp {e : Expr} {t t' : TE} (h : PE X e t) (f : ∀ σ H Q, t' σ H Q → t σ H Q) : PE X e t' := ⟨fun pins s σ H Q I q => h.run pins s σ H Q I (f _ _ _ q)⟩
theorem pt_imp {e : Expr} {t t' : TT} (h : PT X e t) (f : ∀ σ H Q, t' σ H Q → t σ H Q) : PT X e t' := ⟨fun pins s σ H Q I q => h.run pins s σ H Q I (f _ _ _ q)⟩
theorem pw_imp {e : Expr} {t t' : TT} (h : PW X e t) (f : ∀ σ H Q, t' σ H Q → t σ H Q) : PW X e t' := ⟨fun w pins s σ H Q I q => h.run w pins s σ H Q I (f _ _ _ q)⟩
theorem pa_imp {e : List Expr} {t t' : TA} (h : PA X e t) (f : ∀ σ H Q, t' σ H Q → t σ H Q) : PA X e t' := ⟨fun p pins s σ H Q I q => h.run p pins s σ H Q I (f _ _ _ q)⟩
theorem ps_imp {e : Stmt} {t t' : TS} (h : PS X e t) (f : ∀ D σ H, t' D σ H → t D σ H) : PS X e t' := ⟨fun pins s σ H D I q => h.run pins s σ H D I (f _ _ _ q)⟩
theorem pss_imp {e : List Stmt} {t t' : TS} (h : PSs X e t) (f : ∀ D σ H, t' D σ H → t D σ H) : PSs X e t' := ⟨fun pins s σ H D I q => h.run pins s σ H D I (f _ _ _ q)⟩
/-! ### names and constants -/
def tdVar (i : Nat) : TD := fun ss Q _ => match nth ss i with
  | .d x => Q x
  | _ => False
theorem d_var {e : Expr} {i : Nat} (h : PE X e (tVar i)) : DE X c e (tdVar i) := by
  refine pe_imp h fun σ H Q q => ?_
  obtain ⟨O, Hs, ss, Qd, Ed, A, h, _, g⟩ := q
  have hs := A.sl i
  unfold tdVar at h
  split at h
  · rename_i x hx
    rw [hx] at hs
    obtain ⟨v, e, is⟩ := hs
    exact ⟨v, e, g x v Hs H (.refl A.sub) is h⟩
  · exact h.elim
def tdC (x : D) : TD := fun _ Q _ => Q x
theorem d_const {e : Expr} {v : V} {x : D} (h : PE X e (tC v)) (is : ∀ H, Is X.K H x v) : DE X c e (tdC x) := by
  refine pe_imp h fun σ H Q q => ?_
  obtain ⟨O, Hs, ss, Qd, Ed, A, h, _, g⟩ := q
  exact g x v Hs H (.refl A.sub) (is Hs) h
theorem d_int {i j pos} : DE X c (.Constant (.int i) j pos) (tdC (.int i)) := d_const pe_int fun _ => rfl
theorem d_bl {i j pos} : DE X c (.Constant (.bool i) j pos) (tdC (.bl i)) := d_const pe_bl fun _ => rfl
theorem d_non {j pos} : DE X c (.Constant .none j pos) (tdC .non) := d_const pe_non fun _ => rfl
theorem d_str {x j pos} : DE X c (.Constant (.str x) j pos) (tdC (.str x)) := d_const pe_str fun _ => rfl
/-! ### operators -/
abbrev RD2 := D → D → QD → Prop
structure OpD (X : Cx) (f : Value → Value → Sem Value) (r : RD2) : Prop where
  ex : ∃ r0 : R2, OpR X f r0 ∧ ∀ (Z : Addr → Prop) (Hs H : Hp) (d e : D) (v u : V) (Qd : QD) (Q : VK), Same Hs H → Is X.K Hs d v → Is X.K Hs e u → r d e Qd →
    (∀ x w Hs' H', Ext Z Hs H Hs' H' → Is X.K Hs' x w → Qd x → Q w H') → r0 v u H Q
def tdOp (r : RD2) (ta tb : TD) : TD := fun ss Q Ed => ta ss (fun x => tb ss (fun y => r x y Q) Ed) Ed
theorem lift_bin {ta tb : TD} {r : RD2} {f : Value → Value → Sem Value} (o : OpD X f r) : ∃ r0 : R2, OpR X f r0 ∧ ∀ σ H Q, lift c X.K (tdOp r ta tb) σ H Q → tOp r0 (lift c X.K ta) (lift c X.K tb) σ H Q := by
  obtain ⟨r0, h0, cn⟩ := o.ex
  refine ⟨r0, h0, fun σ H Q q => ?_⟩
  obtain ⟨O, Hs, ss, Qd, Ed, A, h, er, g⟩ := q
  refine ⟨O, Hs, ss, _, Ed, A, h, er, fun d v Hs1 H1 e1 i1 q1 => ?_⟩
  refine ⟨O, Hs1, ss, _, Ed, A.next e1, q1, er, fun e u Hs2 H2 e2 i2 q2 => ?_⟩
  exact cn (Z0 O) Hs2 H2 d e v u Qd Q e2.sub (i1.same e2.fz) i2 q2 fun x w Hs3 H3 e3 i3 q3 => g x w Hs3 H3 ((e1.trans e2).trans e3) i3 q3
theorem d_op {op : Operator} {a b : Expr} {pos : Pos} {ta tb : TD} {r : RD2} (o : OpD X (binaryOp op) r) (ha : DE X c a ta) (hb : DE X c b tb) : DE X c (.BinOp a op b pos) (tdOp r ta tb) := by
  obtain ⟨r0, h0, f⟩ := lift_bin (c := c) (ta := ta) (tb := tb) o
  exact pe_imp (pe_op h0 ha hb) f
theorem d_cmp {op : CmpOp} {a b : Expr} {pos : Pos} {ta tb : TD} {r : RD2} (o : OpD X (compareOp op) r) (ha : DE X c a ta) (hb : DE X c b tb) (hm : behindInMarks op b = false := by first | exact nomark _ | rfl) : DE X c (.Compare a [op] [b] pos) (tdOp r ta tb) := by
  obtain ⟨r0, h0, f⟩ := lift_bin (c := c) (ta := ta) (tb := tb) o
  exact pe_imp (pe_cmpR h0 ha hb hm) f
structure UnD (X : Cx) (f : Value → Sem Value) (r : D → QD → Prop) : Prop where
  ex : ∃ r0 : V → Hp → VK → Prop, UnR X f r0 ∧ ∀ (Z : Addr → Prop) (Hs H : Hp) (d : D) (v : V) (Qd : QD) (Q : VK), Same Hs H → Is X.K Hs d v → r d Qd →
    (∀ x w Hs' H', Ext Z Hs H Hs' H' → Is X.K Hs' x w → Qd x → Q w H') → r0 v H Q
def tdUn (r : D → QD → Prop) (ta : TD) : TD := fun ss Q Ed => ta ss (fun x => r x Q) Ed
theorem d_un {op : UnaryOp} {a : Expr} {pos : Pos} {ta : TD} {r : D → QD → Prop} (o : UnD X (unaryOp op) r) (ha : DE X c a ta) : DE X c (.UnaryOp op a pos) (tdUn r ta) := by
  obtain ⟨r0, h0, cn⟩ := o.ex
  refine pe_imp (pe_un h0 ha) fun σ H Q q => ?_
  obtain ⟨O, Hs, ss, Qd, Ed, A, h, er, g⟩ := q
  exact ⟨O, Hs, ss, _, Ed, A, h, er, fun d v Hs1 H1 e1 i1 q1 => cn (Z0 O) Hs1 H1 d v Qd Q e1.sub i1 q1 fun x w Hs3 H3 e3 i3 q3 => g x w Hs3 H3 (e1.trans e3) i3 q3⟩
/-- a[b]: a list, a tuple -/
structure IxD (X : Cx) (r : RD2) : Prop where
  ex : ∃ r0 : R2, IxR X r0 ∧ ∀ (Z : Addr → Prop) (Hs H : Hp) (d e : D) (v u : V) (Qd : QD) (Q : VK), Same Hs H → Is X.K Hs d v → Is X.K Hs e u → r d e Qd →
    (∀ x w Hs' H', Ext Z Hs H Hs' H' → Is X.K Hs' x w → Qd x → Q w H') → r0 v u H Q
theorem d_ix {a b : Expr} {pos : Pos} {ta tb : TD} {r : RD2} (o : IxD X r) (ha : DE X c a ta) (hb : DE X c b tb) (hs : PlainIx b := by exact fun _ _ => rfl) : DE X c (.Subscript a b pos) (tdOp r ta tb) := by
  obtain ⟨r0, h0, cn⟩ := o.ex
  refine pe_imp (pe_ix h0 ha hb hs) fun σ H Q q => ?_
  obtain ⟨O, Hs, ss, Qd, Ed, A, h, er, g⟩ := q
  refine ⟨O, Hs, ss, _, Ed, A, h, er, fun d v Hs1 H1 e1 i1 q1 => ?_⟩
  refine ⟨O, Hs1, ss, _, Ed, A.next e1, q1, er, fun e u Hs2 H2 e2 i2 q2 => ?_⟩
  exact cn (Z0 O) Hs2 H2 d e v u Qd Q e2.sub (i1.same e2.fz) i2 q2 fun x w Hs3 H3 e3 i3 q3 => g x w Hs3 H3 ((e1.trans e2).trans e3) i3 q3
/-! ### tests -/
def tdB (t : TD) : TTD := fun ss Q Ed => t ss (fun x => match x with
  | .bl b => Q b
  | _ => False) Ed
theorem lift_b {ta : TD} : ∀ σ H Q, liftT c X.K (tdB ta) σ H Q → tB (lift c X.K ta) σ H Q := fun σ H Q q => by
  obtain ⟨O, Hs, ss, Qd, Ed, A, h, er, g⟩ := q
  refine ⟨O, Hs, ss, _, Ed, A, h, er, fun d v Hs1 H1 e1 i1 q1 => ?_⟩
  cases d <;> first | exact q1.elim | exact ⟨_, i1, g _ Hs1 H1 e1 q1⟩
theorem dt_val {e : Expr} {ta : TD} (h : DE X c e ta) (he : ∀ whole, isTrue e X.env whole = (do let v ← whole; standAt e.pos; holding [v] (truthy v)) := by intro _; rfl) : DT X c e (tdB ta) := pt_imp (pt_val h he) lift_b
theorem dt_cmp {op : CmpOp} {a b : Expr} {pos : Pos} {ta tb : TD} {r : RD2} (o : OpD X (compareOp op) r) (ha : DE X c a ta) (hb : DE X c b tb) (hm : behindInMarks op b = false := by first | exact nomark _ | rfl) : DT X c (.Compare a [op] [b] pos) (tdB (tdOp r ta tb)) := by
  obtain ⟨r0, h0, f⟩ := lift_bin (c := c) (ta := ta) (tb := tb) o
  refine pt_imp (pt_cmpR h0 ha hb hm) fun σ H Q q => ?_
  obtain ⟨O, Hs, ss, Qd, Ed, A, h, er, g⟩ := q
  refine f σ H _ ⟨O, Hs, ss, _, Ed, A, h, er, fun d v Hs1 H1 e1 i1 q1 => ?_⟩
  cases d <;> first | exact q1.elim | exact ⟨_, i1, g _ Hs1 H1 e1 q1⟩
def tdTru (x : D) (Q : Bool → Prop) : Prop := match x with
  | .non => Q false
  | .bl b => Q b
  | .int i => Q (i != 0)
  | .str y => y.length ≤ sizeLine ∧ Q ((y.length : Int) != 0)
  | .lst xs => Q (!xs.isEmpty)
  | .tup xs => Q (!xs.isEmpty)
  | _ => False
theorem isEmpty_isA {K H} : ∀ {ds : List D} {xs : List V}, IsA K H ds xs → (!ds.isEmpty) = !xs.isEmpty
  | [], _, h => by cases h; rfl
  | _ :: _, _, ⟨_, _, e, _, _⟩ => by subst e; rfl
theorem tru_is {K : PySem.W.Frag} {Hs H : Hp} {d : D} {v : V} {Qd : Bool → Prop} (s : Same Hs H) (i : Is K Hs d v) (h : tdTru d Qd) : ∃ k, TruV K v H k ∧ Qd k := by
  cases d with
  | non => cases i; exact ⟨_, rfl, h⟩
  | bl b => cases i; exact ⟨_, rfl, h⟩
  | int j => cases i; exact ⟨_, rfl, h⟩
  | str y => cases i; exact ⟨_, ⟨h.1, rfl⟩, h.2⟩
  | lst xs =>
    obtain ⟨a, ys, rfl, h1, h2⟩ := i
    exact ⟨_, .inl ⟨ys, .of (s _ _ h1), (isEmpty_isA h2)⟩, h⟩
  | tup xs =>
    obtain ⟨a, ys, rfl, h1, h2⟩ := i
    exact ⟨_, .inr (.inl ⟨ys, same_sqt s h1, (isEmpty_isA h2)⟩), h⟩
  | dct ks xs => exact h.elim
  | obj C ns xs => exact h.elim
  | ty n => exact h.elim
  | cls C => exact h.elim
  | is P => exact h.elim
def tdTr (t : TD) : TTD := fun ss Q Ed => t ss (fun x => tdTru x Q) Ed
theorem dt_truth {a : Expr} {ta : TD} (h : DE X c a ta) (he : ∀ whole, isTrue a X.env whole = (do let v ← whole; standAt a.pos; holding [v] (truthy v)) := by intro _; rfl) : DT X c a (tdTr ta) := by
  refine pt_imp (pt_truth h he) fun σ H Q q => ?_
  obtain ⟨O, Hs, ss, Qd, Ed, A, h, er, g⟩ := q
  refine ⟨O, Hs, ss, _, Ed, A, h, er, fun d v Hs1 H1 e1 i1 q1 => ?_⟩
  obtain ⟨k, h1, h2⟩ := tru_is e1.sub i1 q1
  exact ⟨k, h1, g _ Hs1 H1 e1 h2⟩
/-- a list of the slot's own, empty or not -/
def tdTrOwn (i : Nat) : TTD := fun ss Q _ => match nth ss i with
  | .own _ xs => Q (!xs.isEmpty)
  | _ => False
theorem dt_own {a : Expr} {i : Nat} (h : PE X a (tVar i)) (he : ∀ whole, isTrue a X.env whole = (do let v ← whole; standAt a.pos; holding [v] (truthy v)) := by intro _; rfl) : DT X c a (tdTrOwn i) := by
  refine pt_imp (pt_truth h he) fun σ H Q q => ?_
  obtain ⟨O, Hs, ss, Qd, Ed, A, h, er, g⟩ := q
  have hs := A.sl i
  unfold tdTrOwn at h
  split at h
  · rename_i p x hx
    rw [hx] at hs
    obtain ⟨xs, e, h1, h2, h3⟩ := hs
    exact ⟨_, e, _, .inl ⟨xs, .inl (.inl h2), (isEmpty_isA h3)⟩, g _ Hs H (.refl A.sub) h⟩
  · exact h.elim
def tdNot (t : TTD) : TTD := fun ss Q Ed => t ss (fun b => Q (!b)) Ed
theorem dt_not {a : Expr} {pos : Pos} {t : TTD} (h : DT X c a t) : DT X c (.UnaryOp .Not a pos) (tdNot t) := by
  refine pt_imp (pt_not h) fun σ H Q q => ?_
  obtain ⟨O, Hs, ss, Qd, Ed, A, h, er, g⟩ := q
  exact ⟨O, Hs, ss, _, Ed, A, h, er, fun b Hs1 H1 e1 q1 => g _ Hs1 H1 e1 q1⟩
def tdAnd (t u : TTD) : TTD := fun ss Q Ed => t ss (fun b => if b = true then u ss Q Ed else Q false) Ed
def tdOr (t u : TTD) : TTD := fun ss Q Ed => t ss (fun b => if b = true then Q true else u ss Q Ed) Ed
theorem dw_and1 {a : Expr} {pos : Pos} {t : TTD} (h : DT X c a t) : DW X c (.BoolOp .And [a] pos) t := pw_and1 h
theorem dw_or1 {a : Expr} {pos : Pos} {t : TTD} (h : DT X c a t) : DW X c (.BoolOp .Or [a] pos) t := pw_or1 h
theorem dw_and {a b : Expr} {rest : List Expr} {pos : Pos} {t u : TTD} (h : DT X c a t) (h2 : DW X c (.BoolOp .And (b :: rest) pos) u) : DW X c (.BoolOp .And (a :: b :: rest) pos) (tdAnd t u) := by
  refine pw_imp (pw_and h h2) fun σ H Q q => ?_
  obtain ⟨O, Hs, ss, Qd, Ed, A, h, er, g⟩ := q
  refine ⟨O, Hs, ss, _, Ed, A, h, er, fun b Hs1 H1 e1 q1 => ?_⟩
  cases b with
  | true => exact ⟨O, Hs1, ss, _, Ed, A.next e1, q1, er, fun b Hs2 H2 e2 q2 => g _ Hs2 H2 (e1.trans e2) q2⟩
  | false => exact g _ Hs1 H1 e1 q1
theorem dw_or {a b : Expr} {rest : List Expr} {pos : Pos} {t u : TTD} (h : DT X c a t) (h2 : DW X c (.BoolOp .Or (b :: rest) pos) u) : DW X c (.BoolOp .Or (a :: b :: rest) pos) (tdOr t u) := by
  refine pw_imp (pw_or h h2) fun σ H Q q => ?_
  obtain ⟨O, Hs, ss, Qd, Ed, A, h, er, g⟩ := q
  refine ⟨O, Hs, ss, _, Ed, A, h, er, fun b Hs1 H1 e1 q1 => ?_⟩
  cases b with
  | true => exact g _ Hs1 H1 e1 q1
  | false => exact ⟨O, Hs1, ss, _, Ed, A.next e1, q1, er, fun b Hs2 H2 e2 q2 => g _ Hs2 H2 (e1.trans e2) q2⟩
/-! ### and, or, not, if as values -/
def tdAndV (ta tb : TD) : TD := fun ss Q Ed => ta ss (fun x => match x with
  | .bl b => if b = true then tb ss Q Ed else Q (.bl false)
  | _ => False) Ed
def tdOrV (ta tb : TD) : TD := fun ss Q Ed => ta ss (fun x => match x with
  | .bl b => if b = true then Q (.bl true) else tb ss Q Ed
  | _ => False) Ed
def tdNotV (ta : TD) : TD := fun ss Q Ed => ta ss (fun x => match x with
  | .bl b => Q (.bl (!b))
  | _ => False) Ed
theorem d_one {op} {a : Expr} {pos : Pos} {t : TD} (h : DE X c a t) : DE X c (.BoolOp op [a] pos) t := pe_one h
theorem d_and {a b : Expr} {rest : List Expr} {pos : Pos} {ta tb : TD} (ha : DE X c a ta) (hb : DE X c (.BoolOp .And (b :: rest) pos) tb) : DE X c (.BoolOp .And (a :: b :: rest) pos) (tdAndV ta tb) := by
  refine pe_imp (pe_and ha hb) fun σ H Q q => ?_
  obtain ⟨O, Hs, ss, Qd, Ed, A, h, er, g⟩ := q
  refine ⟨O, Hs, ss, _, Ed, A, h, er, fun d v Hs1 H1 e1 i1 q1 => ?_⟩
  cases d <;> first | exact q1.elim | skip
  rename_i b
  refine ⟨b, i1, ?_⟩
  cases b with
  | true => exact ⟨O, Hs1, ss, _, Ed, A.next e1, q1, er, fun d v Hs2 H2 e2 i2 q2 => g _ _ Hs2 H2 (e1.trans e2) i2 q2⟩
  | false => exact g (.bl false) _ Hs1 H1 e1 rfl q1
theorem d_or {a b : Expr} {rest : List Expr} {pos : Pos} {ta tb : TD} (ha : DE X c a ta) (hb : DE X c (.BoolOp .Or (b :: rest) pos) tb) : DE X c (.BoolOp .Or (a :: b :: rest) pos) (tdOrV ta tb) := by
  refine pe_imp (pe_or ha hb) fun σ H Q q => ?_
  obtain ⟨O, Hs, ss, Qd, Ed, A, h, er, g⟩ := q
  refine ⟨O, Hs, ss, _, Ed, A, h, er, fun d v Hs1 H1 e1 i1 q1 => ?_⟩
  cases d <;> first | exact q1.elim | skip
  rename_i b
  refine ⟨b, i1, ?_⟩
  cases b with
  | true => exact g (.bl true) _ Hs1 H1 e1 rfl q1
  | false => exact ⟨O, Hs1, ss, _, Ed, A.next e1, q1, er, fun d v Hs2 H2 e2 i2 q2 => g _ _ Hs2 H2 (e1.trans e2) i2 q2⟩
theorem d_not {a : Expr} {pos : Pos} {ta : TD} (ha : DE X c a ta) : DE X c (.UnaryOp .Not a pos) (tdNotV ta) := by
  refine pe_imp (pe_not ha) fun σ H Q q => ?_
  obtain ⟨O, Hs, ss, Qd, Ed, A, h, er, g⟩ := q
  refine ⟨O, Hs, ss, _, Ed, A, h, er, fun d v Hs1 H1 e1 i1 q1 => ?_⟩
  cases d <;> first | exact q1.elim | exact ⟨_, i1, g (.bl _) _ Hs1 H1 e1 rfl q1⟩
def tdIf (t : TTD) (ta tb : TD) : TD := fun ss Q Ed => t ss (fun b => if b = true then ta ss Q Ed else tb ss Q Ed) Ed
theorem d_if {k a b : Expr} {pos : Pos} {t : TTD} {ta tb : TD} (hk : DT X c k t) (ha : DE X c a ta) (hb : DE X c b tb) : DE X c (.IfExp k a b pos) (tdIf t ta tb) := by
  refine pe_imp (pe_ifExp hk ha hb) fun σ H Q q => ?_
  obtain ⟨O, Hs, ss, Qd, Ed, A, h, er, g⟩ := q
  refine ⟨O, Hs, ss, _, Ed, A, h, er, fun b Hs1 H1 e1 q1 => ?_⟩
  cases b with
  | true => exact ⟨O, Hs1, ss, _, Ed, A.next e1, q1, er, fun d v Hs2 H2 e2 i2 q2 => g _ _ Hs2 H2 (e1.trans e2) i2 q2⟩
  | false => exact ⟨O, Hs1, ss, _, Ed, A.next e1, q1, er, fun d v Hs2 H2 e2 i2 q2 => g _ _ Hs2 H2 (e1.trans e2) i2 q2⟩
/-! ### arguments, displays, calls -/
def tdNil : TAD := fun _ Q _ => Q []
def tdCons (ta : TD) (tr : TAD) : TAD := fun ss Q Ed => ta ss (fun x => tr ss (fun xs => Q (.d x :: xs)) Ed) Ed
/-- a name among arguments: data, or the pool -/
def tdConsN (i : Nat) (tr : TAD) : TAD := fun ss Q Ed => match nth ss i with
  | .d x => tr ss (fun xs => Q (.d x :: xs)) Ed
  | .pool => tr ss (fun xs => Q (.pool :: xs)) Ed
  | _ => False
theorem da_nil : DAs X c [] tdNil := by
  refine pa_imp pa_nil fun σ H Q q => ?_
  obtain ⟨O, Hs, ss, Qd, Ed, A, h, er, g⟩ := q
  exact g [] [] Hs H (.refl A.sub) rfl h
theorem da_cons {e : Expr} {es : List Expr} {ta : TD} {tr : TAD} (ha : DE X c e ta) (hr : DAs X c es tr) (hs : starEach (e :: es) X.env = (false, eval e X.env) :: starEach es X.env := by rfl) : DAs X c (e :: es) (tdCons ta tr) := by
  refine pa_imp (pa_cons ha hr hs) fun σ H Q q => ?_
  obtain ⟨O, Hs, ss, Qd, Ed, A, h, er, g⟩ := q
  refine ⟨O, Hs, ss, _, Ed, A, h, er, fun d v Hs1 H1 e1 i1 q1 => ?_⟩
  exact ⟨O, Hs1, ss, _, Ed, A.next e1, q1, er, fun as vs Hs2 H2 e2 i2 q2 => g (.d d :: as) (v :: vs) Hs2 H2 (e1.trans e2) ⟨v, vs, rfl, i1.same e2.fz, i2⟩ q2⟩
theorem da_name {e : Expr} {es : List Expr} {i : Nat} {tr : TAD} (ha : PE X e (tVar i)) (hr : DAs X c es tr) (hs : starEach (e :: es) X.env = (false, eval e X.env) :: starEach es X.env := by rfl) : DAs X c (e :: es) (tdConsN i tr) := by
  refine pa_imp (pa_cons ha hr hs) fun σ H Q q => ?_
  obtain ⟨O, Hs, ss, Qd, Ed, A, h, er, g⟩ := q
  have hs := A.sl i
  unfold tdConsN at h
  split at h
  · rename_i x hx
    rw [hx] at hs
    obtain ⟨v, e1, i1⟩ := hs
    exact ⟨v, e1, O, Hs, ss, _, Ed, A, h, er, fun as vs Hs2 H2 e2 i2 q2 => g (.d x :: as) (v :: vs) Hs2 H2 e2 ⟨v, vs, rfl, i1.same e2.fz, i2⟩ q2⟩
  · rename_i hx
    rw [hx] at hs
    obtain ⟨p, e1, o1, p1⟩ := hs
    exact ⟨_, e1, O, Hs, ss, _, Ed, A, h, er, fun as vs Hs2 H2 e2 i2 q2 => g (.pool :: as) (.ref p :: vs) Hs2 H2 e2 ⟨p, vs, rfl, o1, e2.poolA o1 p1, i2⟩ q2⟩
  · exact h.elim
/-- all are data -/
def allD : List Sl → (List D → Prop) → Prop
  | [], Q => Q []
  | .d x :: ss, Q => allD ss fun xs => Q (x :: xs)
  | _ :: _, _ => False
theorem allD_is {K Z Hs H} : ∀ {as : List Sl} {vs : List V} {Q : List D → Prop}, ArgIs K Z Hs H as vs → allD as Q → ∃ ds, IsA K Hs ds vs ∧ Q ds
  | [], _, _, h, q => by cases h; exact ⟨[], rfl, q⟩
  | .d x :: as, _, Q, ⟨v, ws, e, h1, h2⟩, q => by
    obtain ⟨ds, h3, h4⟩ := allD_is (Q := fun xs => Q (x :: xs)) h2 q
    exact ⟨x :: ds, ⟨v, ws, e, h1, h3⟩, h4⟩
  | .pool :: _, _, _, _, q => q.elim
  | .un :: _, _, _, _, q => q.elim
  | .own _ _ :: _, _, _, _, q => q.elim
/-- at most so many -/
def short : Nat → List D → Bool
  | _, [] => true
  | n + 1, _ :: ds => short n ds
  | 0, _ :: _ => false
theorem short_len : ∀ {n : Nat} {ds : List D}, short n ds = true → ds.length ≤ n
  | _, [], _ => Nat.zero_le _
  | n + 1, _ :: ds, h => Nat.succ_le_succ (short_len (n := n) (ds := ds) h)
  | 0, _ :: _, h => by cases h
def few (ds : List D) (P : Prop) : Prop := match short 63 ds with
  | true => P
  | false => False
theorem few_inv {ds : List D} {P : Prop} (h : few ds P) : ds.length ≤ sizeLine ∧ P := by
  unfold few at h
  split at h
  · rename_i e
    exact ⟨Nat.le_trans (short_len e) (by decide), h⟩
  · exact h.elim
def tdTup (t : TAD) : TD := fun ss Q Ed => t ss (fun as => allD as fun ds => few ds (Q (.tup ds))) Ed
def tdLst (t : TAD) : TD := fun ss Q Ed => t ss (fun as => allD as fun ds => few ds (Q (.lst ds))) Ed
theorem d_tup {es : List Expr} {x1} {pos : Pos} {t : TAD} (h : DAs X c es t) : DE X c (.Tuple es x1 pos) (tdTup t) := by
  refine pe_imp (pe_tup h) fun σ H Q q => ?_
  obtain ⟨O, Hs, ss, Qd, Ed, A, h, er, g⟩ := q
  refine ⟨O, Hs, ss, _, Ed, A, h, er, fun as vs Hs1 H1 e1 i1 q1 => ?_⟩
  obtain ⟨ds, h3, h45⟩ := allD_is i1 q1
  obtain ⟨h4, h5⟩ := few_inv h45
  have x := Ext.laid (Z := Z0 O) (p := 0) (o := .tup vs) (s := e1.sub)
  refine ⟨by rw [h3.len]; exact h4, fun p np => g _ _ (upd Hs1 p (.tup vs)) _ (e1.trans (.laid e1.sub np)) ?_ h5⟩
  exact ⟨p, vs, rfl, .inl (.inl upd_same), h3.same (Ext.laid (Z := Z0 O) e1.sub np).fz⟩
theorem d_lst {es : List Expr} {pos : Pos} {t : TAD} (h : DAs X c es t) : DE X c (.List es pos) (tdLst t) := by
  refine pe_imp (pe_lst h) fun σ H Q q => ?_
  obtain ⟨O, Hs, ss, Qd, Ed, A, h, er, g⟩ := q
  refine ⟨O, Hs, ss, _, Ed, A, h, er, fun as vs Hs1 H1 e1 i1 q1 => ?_⟩
  obtain ⟨ds, h3, h45⟩ := allD_is i1 q1
  obtain ⟨h4, h5⟩ := few_inv h45
  refine ⟨by rw [h3.len]; exact h4, fun p np => g _ _ (upd Hs1 p (.lst vs)) _ (e1.trans (.laid e1.sub np)) ?_ h5⟩
  exact ⟨p, vs, rfl, upd_same, h3.same (Ext.laid (Z := Z0 O) e1.sub np).fz⟩
/-- an expression that makes a list of its own -/
abbrev TOD := List Sl → (List D → Prop) → QE → Prop
def liftO (c : Cn) (K : PySem.W.Frag) (t : TOD) : TE := fun σ H Q => ∃ O Hs ss Qo Ed, Abs K c O Hs H σ ss ∧ t ss Qo Ed ∧ ErrC K c Ed ∧ ∀ ds p xs Hs' H', Ext (Z0 O) Hs H Hs' H' → H p = none → Hs' p = none → H' p = some (.lst xs) → IsA K Hs' ds xs → Qo ds → Q (.ref p) H'
abbrev DO (X : Cx) (c : Cn) (e : Expr) (t : TOD) : Prop := PE X e (liftO c X.K t)
theorem same_new0 {H : Hp} {p : Addr} {o : HO} (n : H p = none) : Same H (upd H p o) := fun b u h => by rw [upd_ne (ne_of_none h n)]; exact h
theorem Ext.freeze {Z : Addr → Prop} {Hs H Hs' H' : Hp} {p : Addr} {o : HO} (e : Ext Z Hs H Hs' H') (n : H p = none) (np : Hs' p = none) (hp : H' p = some o) : Ext Z Hs H (upd Hs' p o) H' where
  fz := e.fz.trans (same_new0 np)
  sub := fun b u h => by
    by_cases hb : b = p
    · subst hb; rw [upd_same] at h; cases h; exact hp
    · rw [upd_ne hb] at h; exact e.sub _ _ h
  keep := e.keep
  live := e.live
  new := fun b h1 h2 => by
    have hb : b ≠ p := by rintro rfl; exact h2 n
    rw [upd_ne hb]; exact e.new b h1 h2
  pool := fun b l z q => by
    obtain ⟨ns', x', y', w', k1, k2, k3⟩ := e.pool b l z q
    exact ⟨ns', x', y', w', k1, same_new0 np _ _ k2, k3⟩
def tdO (t : TOD) : TD := fun ss Q Ed => t ss (fun ds => Q (.lst ds)) Ed
theorem d_ofO {e : Expr} {t : TOD} (h : DO X c e t) : DE X c e (tdO t) := by
  refine pe_imp h fun σ H Q q => ?_
  obtain ⟨O, Hs, ss, Qd, Ed, A, h, er, g⟩ := q
  exact ⟨O, Hs, ss, _, Ed, A, h, er, fun ds p xs Hs1 H1 x1 n1 n2 h1 h2 q1 => g (.lst ds) _ (upd Hs1 p (.lst xs)) H1 (x1.freeze n1 n2 h1) ⟨p, xs, rfl, upd_same, h2.same (same_new0 n2)⟩ q1⟩
def toLst (t : TAD) : TOD := fun ss Q Ed => t ss (fun as => allD as fun ds => few ds (Q ds)) Ed
theorem do_lst {es : List Expr} {pos : Pos} {t : TAD} (h : DAs X c es t) : DO X c (.List es pos) (toLst t) := by
  refine pe_imp (pe_lst h) fun σ H Q q => ?_
  obtain ⟨O, Hs, ss, Qd, Ed, A, h, er, g⟩ := q
  refine ⟨O, Hs, ss, _, Ed, A, h, er, fun as vs Hs1 H1 e1 i1 q1 => ?_⟩
  obtain ⟨ds, h3, h45⟩ := allD_is i1 q1
  obtain ⟨h4, h5⟩ := few_inv h45
  have nf : ∀ p, H1 p = none → Hs1 p = none := fun p np => by
    cases z : Hs1 p with
    | none => rfl
    | some u => rw [e1.sub _ _ z] at np; cases np
  have n0 : ∀ p, H1 p = none → H p = none := fun p np => by
    cases z : H p with
    | none => rfl
    | some u => exact absurd np (e1.live p (by rw [z]; exact fun z => nomatch z))
  exact ⟨by rw [h3.len]; exact h4, fun p np => g ds p vs Hs1 _ (e1.trans (.grow e1.sub np)) (n0 p np) (nf p np) upd_same h3 h5⟩
/-- a built-in, by its arguments' data -/
structure CallD (X : Cx) (f : Value) (r : List D → QD → Prop) : Prop where
  ex : ∃ r0 : List V → Hp → VK → Prop, CallR X f r0 ∧ ∀ (Z : Addr → Prop) (Hs H : Hp) (ds : List D) (vs : List V) (Qd : QD) (Q : VK), Same Hs H → IsA X.K Hs ds vs → r ds Qd →
    (∀ x w Hs' H', Ext Z Hs H Hs' H' → Is X.K Hs' x w → Qd x → Q w H') → r0 vs H Q
def tdCB (r : List D → QD → Prop) (t : TAD) : TD := fun ss Q Ed => t ss (fun as => allD as fun ds => r ds Q) Ed
theorem lift_cb {r : List D → QD → Prop} {f : Value} (o : CallD X f r) : ∃ r0 : List V → Hp → VK → Prop, CallR X f r0 ∧ ∀ t σ H Q, lift c X.K (tdCB r t) σ H Q → tCB r0 (liftA c X.K t) σ H Q := by
  obtain ⟨r0, h0, cn⟩ := o.ex
  refine ⟨r0, h0, fun t σ H Q q => ?_⟩
  obtain ⟨O, Hs, ss, Qd, Ed, A, h, er, g⟩ := q
  refine ⟨O, Hs, ss, _, Ed, A, h, er, fun as vs Hs1 H1 e1 i1 q1 => ?_⟩
  obtain ⟨ds, h3, h4⟩ := allD_is i1 q1
  exact cn (Z0 O) Hs1 H1 ds vs Qd Q e1.sub h3 h4 fun x w Hs3 H3 e3 i3 q3 => g x w Hs3 H3 (e1.trans e3) i3 q3
theorem d_callB {x : Str} {p pos : Pos} {e : Expr} {es : List Expr} {t : TAD} {id : String} {r : List D → QD → Prop} (o : CallD X (.builtin id) r) (hm : X.mg x = none) (ha : DAs X c (e :: es) t) (hg : Gl X x := by rfl) (hv : bootBuiltins x = some (.builtin id) := by decide +kernel) (hn : x ≠ "__name__" := by decide) (hdb : (x == ("__debug__" : Str)) = false := by decide)
    (he : starEach (e :: es) X.env = (false, eval e X.env) :: starEach es X.env := by rfl) (hpl : (backTo pos (starEach es X.env)).any (·.1) = false := by rfl) : DE X c (.Call (.Name x p) (e :: es) [] pos) (tdCB r t) := by
  obtain ⟨r0, h0, f⟩ := lift_cb (c := c) o
  exact pe_imp (pe_callB h0 hg hm hv ha hn hdb he hpl) (f t)
theorem d_callTy {x : Str} {p pos : Pos} {e : Expr} {es : List Expr} {t : TAD} {T : String} {r : List D → QD → Prop} (o : CallD X (.type T) r) (hm : X.mg x = none) (ha : DAs X c (e :: es) t) (hg : Gl X x := by rfl) (hv : bootBuiltins x = some (.type T) := by decide +kernel) (hn : x ≠ "__name__" := by decide) (hdb : (x == ("__debug__" : Str)) = false := by decide)
    (he : starEach (e :: es) X.env = (false, eval e X.env) :: starEach es X.env := by rfl) (hpl : (backTo pos (starEach es X.env)).any (·.1) = false := by rfl) : DE X c (.Call (.Name x p) (e :: es) [] pos) (tdCB r t) := by
  obtain ⟨r0, h0, f⟩ := lift_cb (c := c) o
  exact pe_imp (pe_callTy h0 hg hm hv ha hn hdb he hpl) (f t)
/-- a def's promise over data -/
abbrev SpD := List Sl → QD → QE → Prop
def spD (K : PySem.W.Frag) (f : SpD) : Sp := fun vs H Q E => ∃ (Z : Addr → Prop) (Hs : Hp) (as : List Sl) (Qd : QD) (Ed : QE), Same Hs H ∧ (∀ p, Z p → Hs p = none ∧ H p ≠ none) ∧ ArgIs K Z Hs H as vs ∧ f as Qd Ed ∧
  (∀ d v Hs' H', Ext Z Hs H Hs' H' → Is K Hs' d v → Qd d → Q v H') ∧ (∀ er Hs' H', Ext Z Hs H Hs' H' → Ed er → ErrPost K E er Hs' H')
def tdCall (f : SpD) (ds : List D) (t : TAD) : TD := fun ss Q Ed => t ss (fun as => f (as ++ dats ds) Q Ed) Ed
/-- the state at a call, from the caller's -/
theorem ArgIs.app {K Z Hs H} {ds : List D} {ws : List V} (h2 : IsA K Hs ds ws) : ∀ {as : List Sl} {vs : List V}, ArgIs K Z Hs H as vs → ArgIs K Z Hs H (as ++ DL.dats ds) (vs ++ ws)
  | [], _, h => by
    cases h
    show ArgIs K Z Hs H (DL.dats ds) ws
    revert ws
    induction ds with
    | nil => intro ws h2; exact h2
    | cons d ds ih =>
      intro ws ⟨x, ys, e, h1, h3⟩
      exact ⟨x, ys, e, h1, ih h3⟩
  | .d _ :: _, _, ⟨v, ws', e1, h1, h3⟩ => by subst e1; exact ⟨v, _, rfl, h1, h3.app h2⟩
  | .pool :: _, _, ⟨p, ws', e1, h1, h3, h4⟩ => by subst e1; exact ⟨p, _, rfl, h1, h3, h4.app h2⟩
  | .un :: _, _, h => h.elim
  | .own _ _ :: _, _, h => h.elim
theorem sp_of {K : PySem.W.Frag} {f : SpD} {O Hs H σ ss} (A : Abs K c O Hs H σ ss) {as : List Sl} {vs : List V} {Qd : QD} {Ed : QE} {Q : VK} (er : ErrC K c Ed) (ai : ArgIs K (Z0 O) Hs H as vs) (h : f as Qd Ed)
    (g : ∀ d v Hs' H', Ext (Z0 O) Hs H Hs' H' → Is K Hs' d v → Qd d → Q v H') : spD K f vs H Q c.E :=
  ⟨Z0 O, Hs, as, Qd, Ed, A.sub, fun p hp => ⟨A.fz p (by rw [hp]; exact fun z => nomatch z), A.live p (by rw [hp]; exact fun z => nomatch z)⟩, ai, h, g, fun e Hs' H' x q => er e Hs' H' (A.after x) q⟩
theorem d_call {k : Nat} {f : Addr} {fd : FuncData} {ps : List Str} {sp : SpD} {x : Str} {p pos : Pos} {e : Expr} {es : List Expr} {t : TAD} {ds : List D} {dvs : List V} {dus : List Value} (F : FnOk X.prog X.w X.K X.mg X.base (L2.CX X.prog X.w) k f fd ps (spD X.K sp)) (hr : Room k X.A) (hm : X.mg x = some (.ref f)) (hk : PySem.W.keepIn X.K (.ref f) = true) (hb : Binds X.K fd ps dus) (hd : Vals dvs dus) (hds : ∀ H, IsA X.K H ds dvs) (hx : Passes (L2.CX X.prog X.w) X c.E)
    (ha : DAs X c (e :: es) t) (hg : Gl X x := by rfl) (hdb : (x == ("__debug__" : Str)) = false := by decide) (he : starEach (e :: es) X.env = (false, eval e X.env) :: starEach es X.env := by rfl) (hpl : (backTo pos (starEach es X.env)).any (·.1) = false := by rfl) :
    DE X c (.Call (.Name x p) (e :: es) [] pos) (tdCall sp ds t) := by
  refine pe_imp (pe_call F hr hg hm hk hb hd hx ha hdb he hpl) fun σ H Q q => ?_
  obtain ⟨O, Hs, ss, Qd, Ed, A, h, er, g⟩ := q
  refine ⟨O, Hs, ss, _, Ed, A, h, er, fun as vs Hs1 H1 e1 i1 q1 => ?_⟩
  exact sp_of (A.next e1) er (i1.app (hds Hs1)) q1 fun d v Hs2 H2 e2 i2 q2 => g d v Hs2 H2 (e1.trans e2) i2 q2
theorem d_call0 {k : Nat} {f : Addr} {fd : FuncData} {ps : List Str} {sp : SpD} {x : Str} {p pos : Pos} {ds : List D} {dvs : List V} {dus : List Value} (F : FnOk X.prog X.w X.K X.mg X.base (L2.CX X.prog X.w) k f fd ps (spD X.K sp)) (hr : Room k X.A) (hm : X.mg x = some (.ref f)) (hk : PySem.W.keepIn X.K (.ref f) = true) (hb : Binds X.K fd ps dus) (hd : Vals dvs dus) (hds : ∀ H, IsA X.K H ds dvs) (hx : Passes (L2.CX X.prog X.w) X c.E)
    (hg : Gl X x := by rfl) (hdb : (x == ("__debug__" : Str)) = false := by decide) : DE X c (.Call (.Name x p) [] [] pos) (tdCall sp ds tdNil) := by
  refine pe_imp (pe_call0 F hr hg hm hk hb hd hx hdb) fun σ H Q q => ?_
  obtain ⟨O, Hs, ss, Qd, Ed, A, h, er, g⟩ := q
  exact sp_of (σ := σ) (ss := ss) (vs := [] ++ dvs) A er (ArgIs.app (as := []) (vs := []) (hds Hs) rfl) h g
/-! ### blocks -/
def tdNext : TSD := fun En ss _ => En.nx ss
def tdSeq (t u : TSD) : TSD := fun En ss Ed => t { En with nx := fun ss' => u En ss' Ed } ss Ed
/-- what stands between, for both ways of an if -/
def tdCut (t u : TSD) : TSD := fun En ss Ed => ∃ J : List Sl → Prop, t { En with nx := J } ss Ed ∧ ∀ ss', J ss' → u En ss' Ed
theorem dss_nil : DSs X c [] tdNext := by
  refine pss_imp pss_nil fun Dn σ H q => ?_
  obtain ⟨O, Hs, ss, En, Ed, A, h, er, g⟩ := q
  exact g.nx σ O Hs H ss (.refl _) A h
theorem dss_cons {st : Stmt} {rest : List Stmt} {t u : TSD} (h1 : DS X c st t) (h2 : DSs X c rest u) : DSs X c (st :: rest) (tdSeq t u) := by
  refine pss_imp (pss_cons h1 h2) fun Dn σ H q => ?_
  obtain ⟨O, Hs, ss, En, Ed, A, h, er, g⟩ := q
  exact ⟨O, Hs, ss, _, Ed, A, h, er, ⟨fun σ' O' Hs' H' ss' s' A' q' => ⟨O', Hs', ss', En, Ed, A', q', er, g.up s'⟩, g.bk, g.ct, g.rt, g.ro⟩⟩
theorem dss_cut {st : Stmt} {rest : List Stmt} {t u : TSD} (h1 : DS X c st t) (h2 : DSs X c rest u) : DSs X c (st :: rest) (tdCut t u) := by
  refine pss_imp (pss_cons h1 h2) fun Dn σ H q => ?_
  obtain ⟨O, Hs, ss, En, Ed, A, ⟨J, h, hJ⟩, er, g⟩ := q
  exact ⟨O, Hs, ss, _, Ed, A, h, er, ⟨fun σ' O' Hs' H' ss' s' A' q' => ⟨O', Hs', ss', En, Ed, A', hJ _ q', er, g.up s'⟩, g.bk, g.ct, g.rt, g.ro⟩⟩
theorem dss_one {st : Stmt} {t : TSD} (h : DS X c st t) : DSs X c [st] t := pss_one h
/-- an own list is given up: data from here on -/
def tdPub (i : Nat) (t : TSD) : TSD := fun En ss Ed => match nth ss i with
  | .own _ ds => t En (put ss i (.d (.lst ds))) Ed
  | _ => False
theorem dss_pub (i : Nat) {st : List Stmt} {t : TSD} (h : DSs X c st t) : DSs X c st (tdPub i t) := by
  refine pss_imp h fun Dn σ H q => ?_
  obtain ⟨O, Hs, ss, En, Ed, A, h, er, g⟩ := q
  unfold tdPub at h
  split at h
  · rename_i p ds hs
    obtain ⟨xs, _, _, _, A', s', _⟩ := A.pub hs
    exact ⟨_, _, _, En, Ed, A', h, er, g.up s'⟩
  · exact h.elim
def tdDrop (te : TD) : TSD := fun En ss Ed => te ss (fun _ => En.nx ss) Ed
theorem d_expr {e : Expr} {pos : Pos} {te : TD} (he : DE X c e te) (hs : swapsWith e none pos.line X.env = pure false := by rfl) : DS X c (.Expr e pos) (tdDrop te) := by
  refine ps_imp (ps_expr he hs) fun Dn σ H q => ?_
  obtain ⟨O, Hs, ss, En, Ed, A, h, er, g⟩ := q
  exact ⟨O, Hs, ss, _, Ed, A, h, er, fun d v Hs1 H1 e1 i1 q1 => g.nx σ O Hs1 H1 ss e1.fz (A.next e1) q1⟩
def tdRet (te : TD) : TSD := fun En ss Ed => te ss En.rt Ed
theorem d_ret {e : Expr} {pos : Pos} {te : TD} (he : DE X c e te) : DS X c (.Return (some e) pos) (tdRet te) := by
  refine ps_imp (ps_ret he) fun Dn σ H q => ?_
  obtain ⟨O, Hs, ss, En, Ed, A, h, er, g⟩ := q
  exact ⟨O, Hs, ss, _, Ed, A, h, er, fun d v Hs1 H1 e1 i1 q1 => g.rt d v Hs1 H1 (A.after e1) i1 q1⟩
def tdRetN : TSD := fun En _ _ => En.rt .non
theorem d_retN {pos : Pos} : DS X c (.Return none pos) tdRetN := by
  refine ps_imp ps_retN fun Dn σ H q => ?_
  obtain ⟨O, Hs, ss, En, Ed, A, h, er, g⟩ := q
  exact g.rt .non .non Hs H A.ext rfl h
/-- return of an own list -/
def tdRetOwn (i : Nat) : TSD := fun En ss _ => match nth ss i with
  | .own _ ds => En.ro ds
  | _ => False
theorem own_facts {K c O Hs H σ ss} (A : Abs K c O Hs H σ ss) {i : Nat} {p : Addr} {ds : List D} (h : nth ss i = .own p ds) : ∃ xs, σ[i]? = some (some (.ref p)) ∧ O p = some (i + 1) ∧ H p = some (.lst xs) ∧ IsA K Hs ds xs ∧ Hs p = none ∧ c.H p = none := by
  have q := A.sl i
  rw [h] at q
  obtain ⟨xs, h1, own, h3, h4⟩ := q
  have nz : ¬ c.Z p := fun z => by have := A.z p z; rw [own] at this; cases this
  exact ⟨xs, h1, own, h3, h4, A.fz p (by rw [own]; exact fun z => nomatch z), (A.own0 p (by rw [own]; exact fun z => nomatch z)).resolve_left nz⟩
theorem d_retOwn {e : Expr} {pos : Pos} {i : Nat} (he : PE X e (tVar i)) : DS X c (.Return (some e) pos) (tdRetOwn i) := by
  refine ps_imp (ps_ret he) fun Dn σ H q => ?_
  obtain ⟨O, Hs, ss, En, Ed, A, h, er, g⟩ := q
  unfold tdRetOwn at h
  split at h
  · rename_i p ds hs
    obtain ⟨xs, h1, _, h3, h4, h5, h6⟩ := own_facts A hs
    exact ⟨_, h1, g.ro ds p xs Hs H A.ext h6 h5 h3 h4 h⟩
  · exact h.elim
def tdIfS (t : TTD) (a b : TSD) : TSD := fun En ss Ed => t ss (fun k => if k = true then a En ss Ed else b En ss Ed) Ed
theorem d_ifS {k : Expr} {a b : List Stmt} {pos : Pos} {t : TTD} {ta tb : TSD} (hk : DT X c k t) (ha : DSs X c a ta) (hb : DSs X c b tb) : DS X c (.If k a b pos) (tdIfS t ta tb) := by
  refine ps_imp (ps_if hk ha hb) fun Dn σ H q => ?_
  obtain ⟨O, Hs, ss, En, Ed, A, h, er, g⟩ := q
  refine ⟨O, Hs, ss, _, Ed, A, h, er, fun b Hs1 H1 e1 q1 => ?_⟩
  cases b with
  | true => exact ⟨O, Hs1, ss, En, Ed, A.next e1, q1, er, g.up e1.fz⟩
  | false => exact ⟨O, Hs1, ss, En, Ed, A.next e1, q1, er, g.up e1.fz⟩
theorem d_pass {pos : Pos} : DS X c (.Pass pos) tdNext := by
  refine ps_imp ps_pass fun Dn σ H q => ?_
  obtain ⟨O, Hs, ss, En, Ed, A, h, er, g⟩ := q
  exact g.nx σ O Hs H ss (.refl _) A h
def tdBrk : TSD := fun En ss _ => En.bk ss
def tdCnt : TSD := fun En ss _ => En.ct ss
theorem d_break {pos : Pos} : DS X c (.Break pos) tdBrk := by
  refine ps_imp ps_break fun Dn σ H q => ?_
  obtain ⟨O, Hs, ss, En, Ed, A, h, er, g⟩ := q
  exact g.bk σ O Hs H ss (.refl _) A h
theorem d_continue {pos : Pos} : DS X c (.Continue pos) tdCnt := by
  refine ps_imp ps_continue fun Dn σ H q => ?_
  obtain ⟨O, Hs, ss, En, Ed, A, h, er, g⟩ := q
  exact g.ct σ O Hs H ss (.refl _) A h
/-! ### targets -/
abbrev GD := D → List Sl → (List Sl → Prop) → Prop
abbrev GsD := List D → List Sl → (List Sl → Prop) → Prop
def fits : Nat → List D → Bool
  | 0, [] => true
  | n + 1, _ :: ds => fits n ds
  | _, _ => false
theorem fits_len : ∀ {n : Nat} {ds : List D}, fits n ds = true → ds.length = n
  | 0, [], _ => rfl
  | n + 1, _ :: ds, h => congrArg Nat.succ (fits_len (n := n) (ds := ds) h)
  | 0, _ :: _, h => by cases h
  | _ + 1, [], h => by cases h
theorem fits_of : ∀ {ds : List D} {n : Nat}, ds.length = n → fits n ds = true
  | [], _, h => by subst h; rfl
  | _ :: ds, _, h => by subst h; exact fits_of (ds := ds) rfl
/-- a name's slot, or a tuple of targets -/
inductive Pat where
  | n (i : Nat) | t (ps : List Pat)
mutual
def Pat.tg (K : PySem.W.Frag) : Pat → TG
  | .n i => gName i
  | .t ps => gTup K ps.length (Pat.tgs K ps)
def Pat.tgs (K : PySem.W.Frag) : List Pat → TGs
  | [] => gNil
  | p :: ps => gCons (Pat.tg K p) (Pat.tgs K ps)
end
mutual
def Pat.gd : Pat → GD
  | .n i => fun d ss Q => Q (put ss i (.d d))
  | .t ps => fun d ss Q => match d with
    | .tup ds => match fits ps.length ds with
      | true => Pat.gds ps ds ss Q
      | false => False
    | _ => False
def Pat.gds : List Pat → GsD
  | [] => fun ds ss Q => match ds with
    | [] => Q ss
    | _ => False
  | p :: ps => fun ds ss Q => match ds with
    | d :: ds => Pat.gd p d ss fun ss' => Pat.gds ps ds ss' Q
    | _ => False
end
mutual
def Pat.vs : Pat → List Nat
  | .n i => [i]
  | .t ps => Pat.vss ps
def Pat.vss : List Pat → List Nat
  | [] => []
  | p :: ps => Pat.vs p ++ Pat.vss ps
end
/-- all slots but these are as they were -/
def Kept (vs : List Nat) (σ σ' : L2.St) : Prop := σ'.length = σ.length ∧ ∀ j, j ∉ vs → σ'[j]? = σ[j]?
mutual
theorem Pat.conn {K : PySem.W.Frag} {c : Cn} {O Hs H} : ∀ (p : Pat) {σ ss d v} {Qd : List Sl → Prop} {Q : L2.St → Hp → Prop}, Abs K c O Hs H σ ss → Is K Hs d v → Pat.gd p d ss Qd →
    (∀ σ' ss', Abs K c O Hs H σ' ss' → Kept p.vs σ σ' → Qd ss' → Q σ' H) → p.tg K v σ H Q
  | .n i, σ, ss, d, v, Qd, Q, A, is, q, f => by
    simp only [Pat.gd] at q
    simp only [Pat.tg]
    exact f _ _ (A.set is) ⟨List.length_set, fun j hj => List.getElem?_set_ne (fun e => hj (by simp [Pat.vs, e]))⟩ q
  | .t ps, σ, ss, d, v, Qd, Q, A, is, q, f => by
    simp only [Pat.gd] at q
    split at q
    · rename_i ds
      split at q
      · rename_i hf
        obtain ⟨a, xs, e, h1, h2⟩ := is
        simp only [Pat.tg]
        exact ⟨a, xs, e, same_sqt A.sub h1, by rw [h2.len]; exact fits_len hf, Pat.conns ps A h2 q fun σ' ss' A' k q' => f σ' ss' A' (by simpa [Pat.vs] using k) q'⟩
      · exact q.elim
    · exact q.elim
theorem Pat.conns {K : PySem.W.Frag} {c : Cn} {O Hs H} : ∀ (ps : List Pat) {σ ss ds us} {Qd : List Sl → Prop} {Q : L2.St → Hp → Prop}, Abs K c O Hs H σ ss → IsA K Hs ds us → Pat.gds ps ds ss Qd →
    (∀ σ' ss', Abs K c O Hs H σ' ss' → Kept (Pat.vss ps) σ σ' → Qd ss' → Q σ' H) → Pat.tgs K ps us σ H Q
  | [], σ, ss, ds, us, Qd, Q, A, is, q, f => by
    cases ds with
    | nil =>
      cases is
      simp only [Pat.gds] at q
      simp only [Pat.tgs]
      exact ⟨rfl, f _ _ A ⟨rfl, fun _ _ => rfl⟩ q⟩
    | cons d ds => simp only [Pat.gds] at q
  | p :: ps, σ, ss, ds, us, Qd, Q, A, is, q, f => by
    cases ds with
    | nil => simp only [Pat.gds] at q
    | cons d ds =>
      obtain ⟨x, ys, e, h3, h4⟩ := is
      simp only [Pat.gds] at q
      simp only [Pat.tgs]
      refine ⟨x, ys, e, Pat.conn p A h3 q fun σ' ss' A' k1 q' => ?_⟩
      refine Pat.conns ps A' h4 q' fun σ2 ss2 A2 k2 q2 => f σ2 ss2 A2 ⟨k2.1.trans k1.1, fun j hj => ?_⟩ q2
      simp only [Pat.vss, List.mem_append, not_or] at hj
      exact (k2.2 j hj.2).trans (k1.2 j hj.1)
end
abbrev DG (X : Cx) (tg : Expr) (p : Pat) : Prop := PG X tg (p.tg X.K)
abbrev DGs (X : Cx) (tgs : List Expr) (ps : List Pat) : Prop := PGs X tgs (Pat.tgs X.K ps)
theorem dg_name {i : Nat} {x : Str} {pos : Pos} (h : PG X (.Name x pos) (gName i)) : DG X (.Name x pos) (.n i) := h
theorem dgs_nil : DGs X [] [] := pgs_nil
theorem dgs_cons {e : Expr} {es : List Expr} {p : Pat} {ps : List Pat} (h1 : DG X e p) (h2 : DGs X es ps) (hst : (assignEach (e :: es) X.env).map (·.2) = assign e X.env :: (assignEach es X.env).map (·.2) := by rfl) : DGs X (e :: es) (p :: ps) := pgs_cons h1 h2 hst
theorem dg_tup {es : List Expr} {k : Nat} {pos : Pos} {ps : List Pat} (hc : X.calm = true) (h : DGs X es ps) (hn : (assignEach es X.env).length = ps.length := by rfl) (hst : (assignEach es X.env).findIdx? (·.1) = none := by rfl) : DG X (.Tuple es k pos) (.t ps) := pg_tup hc h hn hst
/-! ### assignment -/
def tdAsg (te : TD) (p : Pat) : TSD := fun En ss Ed => te ss (fun d => p.gd d ss En.nx) Ed
theorem d_asg {tg e : Expr} {pos : Pos} {te : TD} {p : Pat} (he : DE X c e te) (hg : DG X tg p) (hs : swapsWithSole [tg] e pos.line X.env = pure false := by rfl) (hw : swappedStores [tg] e X.env = pure none := by rfl) (h1 : (assignEach [tg] X.env).map (·.2) = [assign tg X.env] := by rfl) : DS X c (.Assign [tg] e pos) (tdAsg te p) := by
  refine ps_imp (ps_asg he hg hs hw h1) fun Dn σ H q => ?_
  obtain ⟨O, Hs, ss, En, Ed, A, h, er, gc⟩ := q
  exact ⟨O, Hs, ss, _, Ed, A, h, er, fun d v Hs1 H1 e1 i1 q1 => p.conn (A.next e1) i1 q1 fun σ' ss' A' _ q' => gc.nx σ' O Hs1 H1 ss' e1.fz A' q'⟩
/-- x = e, the new list the slot's own -/
def tdSetOwn (i : Nat) (t : TOD) : TSD := fun En ss Ed => t ss (fun ds => ∀ p, En.nx (put ss i (.own p ds))) Ed
theorem Abs.own {K c O Hs H σ ss} (A : Abs K c O Hs H σ ss) {i : Nat} {p : Addr} {ds : List D} {xs : List V} {H0 : Hp} (lv : ∀ a, O a ≠ none → H0 a ≠ none) (c0 : c.H p = none) (n0 : H0 p = none) (n : Hs p = none) (hp : H p = some (.lst xs)) (h : IsA K Hs ds xs) :
    ∃ O', Abs K c O' Hs H (σ.set i (some (.ref p))) (put ss i (.own p ds)) := by
  classical
  have Op : O p = none := by
    cases q : O p with
    | none => rfl
    | some k => exact absurd n0 (lv p (by rw [q]; exact fun z => nomatch z))
  have hO : ∀ a, a ≠ p → (if a = p then some (i + 1) else O a) = O a := fun a h => if_neg h
  refine ⟨fun b => if b = p then some (i + 1) else O b, A.ext, fun a h => ?_, fun a h => ?_, fun a h => ?_, fun a h => ?_, by rw [put_len, List.length_set]; exact A.len, fun j => ?_⟩
  · by_cases e : a = p
    · subst e; exact n
    · rw [hO a e] at h; exact A.fz a h
  · by_cases e : a = p
    · subst e; rw [hp]; exact fun z => nomatch z
    · rw [hO a e] at h; exact A.live a h
  · by_cases e : a = p
    · subst e; exact .inr c0
    · rw [hO a e] at h; exact A.own0 a h
  · by_cases e : a = p
    · subst e
      have := A.z a h
      rw [Op] at this; cases this
    · show (if a = p then some (i + 1) else O a) = some 0
      rw [hO a e]; exact A.z a h
  · by_cases e : j = i
    · subst e
      by_cases l : j < ss.length
      · rw [nth_put l, List.getElem?_set_self (by rw [A.len]; exact l)]
        exact ⟨xs, rfl, if_pos rfl, hp, h⟩
      · rw [put_out (Nat.le_of_not_lt l), nth_out (Nat.le_of_not_lt l)]
        trivial
    · rw [nth_put_ne e, List.getElem?_set_ne (fun z => e z.symm)]
      have q := A.sl j
      revert q
      cases nth ss j with
      | un => exact fun _ => trivial
      | d x => exact fun q => q
      | own p' es =>
        rintro ⟨xs', h1, h2, h3, h4⟩
        have ne : p' ≠ p := by rintro rfl; rw [Op] at h2; cases h2
        exact ⟨xs', h1, (hO p' ne).trans h2, h3, h4⟩
      | pool =>
        rintro ⟨p', h1, h2, h3⟩
        have ne : p' ≠ p := by rintro rfl; rw [Op] at h2; cases h2
        exact ⟨p', h1, (hO p' ne).trans h2, h3⟩
theorem Abs.fresh {K c O Hs H σ ss} (A : Abs K c O Hs H σ ss) {p : Addr} (n : H p = none) : c.H p = none := by
  cases z : c.H p with
  | none => rfl
  | some u => exact absurd n (A.ext.live p (by rw [z]; exact fun z => nomatch z))
theorem d_setO {i : Nat} {x : Str} {e : Expr} {pos pos' : Pos} {t : TOD} (hN : X.N.Nodup) (hi : X.N[i]? = some x) (hx : Loc X.env.scope x) (h : DO X c e t) (hs : swapsWith e (some (.Name x pos')) pos.line X.env = pure false := by rfl)
    (hf : X.fn x = true ∨ X.env.scope.names.lookup x = some .local := by first | exact .inl rfl | exact .inr rfl | assumption) : DS X c (.Assign [.Name x pos'] e pos) (tdSetOwn i t) := by
  refine ps_imp (ps_set hN hi hx h hs hf) fun Dn σ H q => ?_
  obtain ⟨O, Hs, ss, En, Ed, A, h, er, gc⟩ := q
  refine ⟨O, Hs, ss, _, Ed, A, h, er, fun ds p xs Hs1 H1 x1 n1 n2 h1 h2 q1 => ?_⟩
  obtain ⟨O', A'⟩ := (A.next x1).own (i := i) A.live (A.fresh n1) n1 n2 h1 h2
  exact gc.nx _ O' Hs1 _ _ x1.fz A' (q1 p)
/-- return e, e a new list -/
def tdRetO (t : TOD) : TSD := fun En ss Ed => t ss En.ro Ed
theorem d_retO {e : Expr} {pos : Pos} {t : TOD} (he : DO X c e t) : DS X c (.Return (some e) pos) (tdRetO t) := by
  refine ps_imp (ps_ret he) fun Dn σ H q => ?_
  obtain ⟨O, Hs, ss, En, Ed, A, h, er, g⟩ := q
  exact ⟨O, Hs, ss, _, Ed, A, h, er, fun ds p xs Hs1 H1 x1 n1 n2 h1 h2 q1 => g.ro ds p xs Hs1 H1 (A.after x1) (A.fresh n1) n2 h1 h2 q1⟩
/-- a, b = e1, e2 -/
def tdPar (i j : Nat) (ta tb : TD) : TSD := fun En ss Ed => ta ss (fun x => tb ss (fun y => En.nx (put (put ss i (.d x)) j (.d y))) Ed) Ed
theorem d_par {i j : Nat} {x y : Str} {a b : Expr} {ta tb : TD} {px py pt pos : Pos} {kt k2 pt2} (hc : X.calm = true) (hN : X.N.Nodup) (hi : X.N[i]? = some x) (hj : X.N[j]? = some y) (hij : i ≠ j) (hx : X.env.scope.names.lookup x = some .local) (hy : X.env.scope.names.lookup y = some .local)
    (ha : DE X c a ta) (hb : DE X c b tb) (h1 : PS X (.Assign [.Tuple [.Name x px, .Name y py] kt pt] (.Tuple [a, b] k2 pt2) pos) (tPar i j (tCons (lift c X.K ta) (tCons (lift c X.K tb) tNil)))) : DS X c (.Assign [.Tuple [.Name x px, .Name y py] kt pt] (.Tuple [a, b] k2 pt2) pos) (tdPar i j ta tb) := by
  refine ps_imp h1 fun Dn σ H q => ?_
  obtain ⟨O, Hs, ss, En, Ed, A, h, er, gc⟩ := q
  refine ⟨O, Hs, ss, _, Ed, A, h, er, fun d v Hs1 H1 e1 i1 q1 => ?_⟩
  refine ⟨O, Hs1, ss, _, Ed, A.next e1, q1, er, fun d2 v2 Hs2 H2 e2 i2 q2 => ?_⟩
  exact ⟨v, v2, rfl, gc.nx _ O Hs2 H2 _ (e1.fz.trans e2.fz) ((((A.next e1).next e2).set (i1.same e2.fz)).set i2) q2⟩
/-- xs.append(e) of an own list -/
def tdApp (i : Nat) (te : TD) : TSD := fun En ss Ed => match nth ss i with
  | .own p ds => te ss (fun d => ds.length < sizeLine ∧ En.nx (put ss i (.own p (ds ++ [d])))) Ed
  | _ => False
theorem d_app {x e : Expr} {apos pos pos' : Pos} {i : Nat} {te : TD} (hx : PE X x (tVar i)) (he : DE X c e te) (h1 : PE X (.Call (.Attribute x "append" apos) [e] [] pos) (tBM X.K "list" rAppend (tVar i) (tCons (lift c X.K te) tNil))) (hs : swapsWith (.Call (.Attribute x "append" apos) [e] [] pos) none pos'.line X.env = pure false := by rfl) :
    DS X c (.Expr (.Call (.Attribute x "append" apos) [e] [] pos) pos') (tdApp i te) := by
  refine ps_imp (ps_expr h1 hs) fun Dn σ H q => ?_
  obtain ⟨O, Hs, ss, En, Ed, A, h, er, gc⟩ := q
  have hsl := A.sl i
  unfold tdApp at h
  split at h
  · rename_i p ds hds
    rw [hds] at hsl
    have il : i < ss.length := by
      by_cases l : i < ss.length
      · exact l
      · rw [nth_out (Nat.le_of_not_lt l)] at hds; cases hds
    obtain ⟨xs, e1, o1, h1, h2⟩ := hsl
    refine ⟨_, e1, .inl ⟨rfl, _, .inl (.inl h1)⟩, O, Hs, ss, _, Ed, A, h, er, fun d v Hs1 H1 x1 i1 q1 => ?_⟩
    have h3 : H1 p = some (.lst xs) := x1.keep p _ (fun z => by have z : O p = some 0 := z; rw [o1] at z; cases z) h1
    refine ⟨p, xs, v, rfl, rfl, h3, by rw [h2.len]; exact q1.1, ?_⟩
    exact gc.nx σ O Hs1 _ _ x1.fz ((A.next x1).write e1 o1 il ((h2.same x1.fz).app (.one i1))) q1.2
  · exact h.elim
/-! ### loops -/
/-- an iterator that gives these items, from Hs on -/
structure ItIs (K : PySem.W.Frag) (J : It) (items : List D) (Hs : Hp) : Prop where
  go : ∀ i Hs' H, Same Hs Hs' → Same Hs' H → i < items.length → J.go i H
  stop : ∀ i Hs' H, Same Hs Hs' → Same Hs' H → items.length = i → J.stop i H
  yld : ∀ i Hs' H v H' d, Same Hs Hs' → Same Hs' H → J.yld i H v H' → items[i]? = some d → ∃ Hs2, (∀ Z, Ext Z Hs' H Hs2 H') ∧ Is K Hs2 d v
abbrev TID := List Sl → (List D → Prop) → QE → Prop
def liftI (c : Cn) (K : PySem.W.Frag) (t : TID) : TI := fun σ H R => ∃ O Hs ss Qi Ed, Abs K c O Hs H σ ss ∧ t ss Qi Ed ∧ ErrC K c Ed ∧ ∀ items J Hs' H', Ext (Z0 O) Hs H Hs' H' → ItIs K J items Hs' → Qi items → R J H'
abbrev DI (X : Cx) (c : Cn) (tg iter : Expr) (t : TID) : Prop := PI X tg iter (liftI c X.K t)
theorem pi_imp {tg iter : Expr} {t t' : TI} (h : PI X tg iter t) (f : ∀ σ H Q, t' σ H Q → t σ H Q) : PI X tg iter t' := ⟨fun pins s σ H Q I q => h.run pins s σ H Q I (f _ _ _ q)⟩
/-- I: what holds ahead of each turn -/
def tdFor (ti : TID) (p : Pat) (tb : TSD) : TSD := fun En ss Ed => ti ss (fun items => ∃ I : Nat → List Sl → Prop, I 0 ss ∧
  (∀ i d ss', items[i]? = some d → I i ss' → p.gd d ss' fun ss2 => tb { nx := I (i + 1), rt := En.rt, ro := En.ro, bk := En.nx, ct := I (i + 1) } ss2 Ed) ∧ ∀ ss', I items.length ss' → En.nx ss') Ed
theorem d_for {tg iter : Expr} {body : List Stmt} {pos : Pos} {ti : TID} {p : Pat} {tb : TSD} (hp : PassesOwn (model X.prog X.w) X.A X.env X.xe) (hc : X.calm = true) (hi : DI X c tg iter ti) (hg : DG X tg p) (hb : DSs X c body tb)
    (hs : ∀ x, foldedSetIterable iter X.env x = pure x := by intro _; rfl) : DS X c (.For tg iter body [] pos) (tdFor ti p tb) := by
  refine ps_imp (ps_for hp hc hi hg hb hs) fun Dn σ H q => ?_
  obtain ⟨O, Hs, ss, En, Ed, A, h, er, gc⟩ := q
  refine ⟨O, Hs, ss, _, Ed, A, h, er, fun items J Hs1 H1 x1 hJ q1 => ?_⟩
  obtain ⟨I, i0, turn, fin⟩ := q1
  refine ⟨fun i m σ' H' => m = items.length - i ∧ i ≤ items.length ∧ ∃ O' Hs' ss', Abs X.K c O' Hs' H' σ' ss' ∧ Same Hs1 Hs' ∧ I i ss', ⟨_, rfl, Nat.zero_le _, O, Hs1, ss, A.next x1, .refl _, i0⟩, ?_⟩
  rintro i m σ' H' ⟨rfl, hi, O', Hs', ss', A', s', q'⟩
  by_cases hlt : i < items.length
  · refine .inr ⟨hJ.go i Hs' H' s' A'.sub hlt, fun σ2 H2 => ∃ O2 Hs2 ss2, Abs X.K c O2 Hs2 H2 σ2 ss2 ∧ Same Hs1 Hs2 ∧ I (i + 1) ss2, fun σ2 H2 z => ⟨items.length - (i + 1), by omega, rfl, hlt, z⟩, fun v H2 hy => ?_⟩
    have hd : items[i]? = some items[i] := List.getElem?_eq_getElem hlt
    obtain ⟨Hs2, x2, is2⟩ := hJ.yld i Hs' H' v H2 _ s' A'.sub hy hd
    have A2 := A'.next (x2 (Z0 O'))
    refine p.conn A2 is2 (turn i _ ss' hd q') fun σ3 ss3 A3 _ q3 => ?_
    have s3 : Same Hs1 Hs2 := s'.trans (x2 (Z0 O')).fz
    refine ⟨O', Hs2, ss3, _, Ed, A3, q3, er, ?_⟩
    exact ⟨fun σ4 O4 Hs4 H4 ss4 z A4 q4 => ⟨O4, Hs4, ss4, A4, s3.trans z, q4⟩, fun σ4 O4 Hs4 H4 ss4 z A4 q4 => gc.nx σ4 O4 Hs4 H4 ss4 (x1.fz.trans (s3.trans z)) A4 q4, fun σ4 O4 Hs4 H4 ss4 z A4 q4 => ⟨O4, Hs4, ss4, A4, s3.trans z, q4⟩, gc.rt, gc.ro⟩
  · have e : i = items.length := by omega
    subst e
    exact .inl ⟨hJ.stop _ Hs' H' s' A'.sub rfl, gc.nx σ' O' Hs' H' ss' (x1.fz.trans s') A' (fin ss' q')⟩
/-- I: what holds ahead of each turn, by a number that falls -/
def tdWhile (tt : TTD) (tb : TSD) : TSD := fun En ss Ed => ∃ I : Nat → List Sl → Prop, (∃ m, I m ss) ∧ ∀ m ss', I m ss' → tt ss' (fun b => if b = true then
  tb { nx := fun ss2 => ∃ m', m' < m ∧ I m' ss2, rt := En.rt, ro := En.ro, bk := En.nx, ct := fun ss2 => ∃ m', m' < m ∧ I m' ss2 } ss' Ed else En.nx ss') Ed
theorem d_while {k : Expr} {body : List Stmt} {pos : Pos} {tt : TTD} {tb : TSD} (hp : PassesOwn (model X.prog X.w) X.A X.env X.xe) (hk : DT X c k tt) (hb : DSs X c body tb) : DS X c (.While k body [] pos) (tdWhile tt tb) := by
  refine ps_imp (ps_while hp hk hb) fun Dn σ H q => ?_
  obtain ⟨O, Hs, ss, En, Ed, A, ⟨I, ⟨m0, i0⟩, turn⟩, er, gc⟩ := q
  refine ⟨fun m σ' H' => ∃ O' Hs' ss', Abs X.K c O' Hs' H' σ' ss' ∧ Same Hs Hs' ∧ I m ss', ⟨m0, O, Hs, ss, A, .refl _, i0⟩, ?_⟩
  rintro m σ' H' ⟨O', Hs', ss', A', s', q'⟩
  refine ⟨O', Hs', ss', _, Ed, A', turn m ss' q', er, fun b Hs2 H2 x2 q2 => ?_⟩
  cases b with
  | true =>
    rw [if_pos rfl]
    refine ⟨fun σ3 H3 => ∃ m', m' < m ∧ ∃ O3 Hs3 ss3, Abs X.K c O3 Hs3 H3 σ3 ss3 ∧ Same Hs Hs3 ∧ I m' ss3, fun σ3 H3 z => z, ?_⟩
    refine ⟨O', Hs2, ss', _, Ed, A'.next x2, q2, er, ?_⟩
    exact ⟨fun σ4 O4 Hs4 H4 ss4 z A4 ⟨m', hm, q4⟩ => ⟨m', hm, O4, Hs4, ss4, A4, (s'.trans x2.fz).trans z, q4⟩, fun σ4 O4 Hs4 H4 ss4 z A4 q4 => gc.nx σ4 O4 Hs4 H4 ss4 ((s'.trans x2.fz).trans z) A4 q4,
      fun σ4 O4 Hs4 H4 ss4 z A4 ⟨m', hm, q4⟩ => ⟨m', hm, O4, Hs4, ss4, A4, (s'.trans x2.fz).trans z, q4⟩, gc.rt, gc.ro⟩
  | false =>
    rw [if_neg Bool.false_ne_true]
    exact gc.nx σ' O' Hs2 H2 ss' (s'.trans x2.fz) (A'.next x2) q2
/-! ### an own list is read as data, for a while -/
def flatD : D → Bool
  | .non | .bl _ | .int _ | .str _ | .ty _ | .cls _ => true
  | _ => false
theorem flat_is {K H H'} : ∀ {d : D} {v : V}, flatD d = true → Is K H d v → Is K H' d v
  | .non, _, _, h => h
  | .bl _, _, _, h => h
  | .int _, _, _, h => h
  | .str _, _, _, h => h
  | .ty _, _, _, h => h
  | .cls _, _, _, h => h
  | .lst _, _, h, _ => by cases h
  | .tup _, _, h, _ => by cases h
  | .dct _ _, _, h, _ => by cases h
  | .obj _ _ _, _, h, _ => by cases h
  | .is _, _, h, _ => by cases h
def thaw (Hs : Hp) (p : Addr) : Hp := fun b => open Classical in if b = p then none else Hs b
theorem thaw_ne {Hs : Hp} {p b : Addr} (h : b ≠ p) : thaw Hs p b = Hs b := if_neg h
theorem thaw_eq {Hs : Hp} {p : Addr} : thaw Hs p p = none := if_pos rfl
theorem Ext.thaw {O : Addr → Option Nat} {Hs H Hs' H' : Hp} {p : Addr} {o : HO} {k : Nat} (s0 : Same Hs H) (np : Hs p = none) (op : O p = some (k + 1)) (e : Ext (Z0 (Odel O p)) (upd Hs p o) H Hs' H') : Ext (Z0 O) Hs H (DL.thaw Hs' p) H' where
  fz := fun b u h => by
    have hb : b ≠ p := ne_of_none h np
    rw [thaw_ne hb]
    exact e.fz b u (by rw [upd_ne hb]; exact h)
  sub := fun b u h => by
    by_cases hb : b = p
    · subst hb; rw [thaw_eq] at h; cases h
    · rw [thaw_ne hb] at h; exact e.sub b u h
  keep := fun b u z h => e.keep b u (fun z' => by
    by_cases hb : b = p
    · subst hb
      have z' : Odel O b b = some 0 := z'
      rw [Odel_eq] at z'; cases z'
    · have z' : Odel O p b = some 0 := z'
      rw [Odel_ne hb] at z'
      exact z z') h
  live := e.live
  new := fun b h1 h2 => by
    by_cases hb : b = p
    · subst hb; exact thaw_eq
    · rw [thaw_ne hb]; exact e.new b (by rw [upd_ne hb]; exact h1) h2
  pool := fun b l z q => by
    have hb : b ≠ p := by rintro rfl; have z : O b = some 0 := z; rw [op] at z; cases z
    obtain ⟨ns0, a0, b0, c0, h1, h2, h3⟩ := q
    have hl : l ≠ p := ne_of_none h2 np
    obtain ⟨ns, x, y, w, k1, k2, k3⟩ := e.pool b l (show Odel O p b = some 0 by rw [Odel_ne hb]; exact z) ⟨ns0, a0, b0, c0, h1, by rw [upd_ne hl]; exact h2, h3⟩
    exact ⟨ns, x, y, w, k1, by rw [thaw_ne hl]; exact k2, k3⟩
def pubS (ss : List Sl) (i : Nat) : List Sl := match nth ss i with
  | .own _ ds => put ss i (.d (.lst ds))
  | _ => ss
def tdPeek (i : Nat) (t : TD) : TD := fun ss Q Ed => t (pubS ss i) (fun d => flatD d = true ∧ Q d) Ed
theorem d_peek (i : Nat) {e : Expr} {t : TD} (h : DE X c e t) : DE X c e (tdPeek i t) := by
  refine pe_imp h fun σ H Q q => ?_
  obtain ⟨O, Hs, ss, Qd, Ed, A, h, er, g⟩ := q
  unfold tdPeek pubS at h
  split at h
  · rename_i p ds hs
    obtain ⟨xs, np, hp, op, A', s', _⟩ := A.pub hs
    exact ⟨_, _, _, _, Ed, A', h, er, fun d v Hs1 H1 x1 i1 q1 => g d v _ H1 (x1.thaw A.sub np op) (flat_is q1.1 i1) q1.2⟩
  · exact ⟨O, Hs, ss, _, Ed, A, h, er, fun d v Hs1 H1 x1 i1 q1 => g d v Hs1 H1 x1 i1 q1.2⟩
def tdPeekT (i : Nat) (t : TTD) : TTD := fun ss Q Ed => t (pubS ss i) Q Ed
theorem dt_peek (i : Nat) {e : Expr} {t : TTD} (h : DT X c e t) : DT X c e (tdPeekT i t) := by
  refine pt_imp h fun σ H Q q => ?_
  obtain ⟨O, Hs, ss, Qd, Ed, A, h, er, g⟩ := q
  unfold tdPeekT pubS at h
  split at h
  · rename_i p ds hs
    obtain ⟨xs, np, hp, op, A', s', _⟩ := A.pub hs
    exact ⟨_, _, _, _, Ed, A', h, er, fun d Hs1 H1 x1 q1 => g d _ H1 (x1.thaw A.sub np op) q1⟩
  · exact ⟨O, Hs, ss, _, Ed, A, h, er, fun d Hs1 H1 x1 q1 => g d Hs1 H1 x1 q1⟩
end
end DL
set_option Elab.async false
set_option linter.all false
set_option maxRecDepth 100000
set_option maxHeartbeats 4000000
/-! DC: operators, built-ins, iterators, comprehensions over data -/
namespace DL
open PySem PySem.Spec PyProof.Rows L2
section
variable {X : Cx} {c : Cn}
/-! ### arithmetic -/
def CDivA (_ j : Int) : Prop := j ≠ 0 ∧ j.natAbs.log2 < 9000
theorem op_fdivA : OpR X (binaryOp .FloorDiv) (rI CDivA fun i j => .int (i.fdiv j)) := opI fun i j _ _ _ _ _ hc q =>
  floordiv_int hc.1 q (.inl (PyProof.noPylong_of_log2 hc.2))
theorem dv {j : Int} {b : Nat} (h : j ≠ 0) (hb : j.natAbs < 2 ^ b) (h0 : 0 < b := by decide) (h9 : b ≤ 9000 := by decide) : j ≠ 0 ∧ j.natAbs.log2 < 9000 := ⟨h, Nat.lt_of_lt_of_le (PySem.Flt.log2_lt_of h0 hb) h9⟩
/-- two ints -/
def r2i (C : Int → Int → Prop) (g : Int → Int → D) : RD2 := fun x y Q => match x, y with
  | .int i, .int j => C i j ∧ Q (g i j)
  | _, _ => False
def r2i0 (g : Int → Int → D) : RD2 := fun x y Q => match x, y with
  | .int i, .int j => Q (g i j)
  | _, _ => False
theorem r2i_inv {C g x y Q} (h : r2i C g x y Q) : ∃ i j, x = .int i ∧ y = .int j ∧ C i j ∧ Q (g i j) := by
  unfold r2i at h
  split at h
  · exact ⟨_, _, rfl, rfl, h⟩
  · exact h.elim
theorem r2i0_inv {g x y Q} (h : r2i0 g x y Q) : ∃ i j, x = .int i ∧ y = .int j ∧ Q (g i j) := by
  unfold r2i0 at h
  split at h
  · exact ⟨_, _, rfl, rfl, h⟩
  · exact h.elim
theorem opD_i {f : Value → Value → Sem Value} {C : Int → Int → Prop} {g : Int → Int → Int} (h : OpR X f (rI C fun i j => .int (g i j))) : OpD X f (r2i C fun i j => .int (g i j)) := ⟨_, h, fun Z Hs H d e v u Qd Q s i1 i2 q cn => by
  obtain ⟨i, j, rfl, rfl, hc, q⟩ := r2i_inv q
  exact ⟨i, j, i1, i2, hc, cn (.int (g i j)) (.int (g i j)) Hs H (.refl s) rfl q⟩⟩
theorem opD_i0 {f : Value → Value → Sem Value} {g : Int → Int → Int} (h : OpR X f (rI0 fun i j => .int (g i j))) : OpD X f (r2i0 fun i j => .int (g i j)) := ⟨_, h, fun Z Hs H d e v u Qd Q s i1 i2 q cn => by
  obtain ⟨i, j, rfl, rfl, q⟩ := r2i0_inv q
  exact ⟨i, j, i1, i2, cn (.int (g i j)) (.int (g i j)) Hs H (.refl s) rfl q⟩⟩
theorem opD_b0 {f : Value → Value → Sem Value} {g : Int → Int → Bool} (h : OpR X f (rI0 fun i j => .bl (g i j))) : OpD X f (r2i0 fun i j => .bl (g i j)) := ⟨_, h, fun Z Hs H d e v u Qd Q s i1 i2 q cn => by
  obtain ⟨i, j, rfl, rfl, q⟩ := r2i0_inv q
  exact ⟨i, j, i1, i2, cn (.bl (g i j)) (.bl (g i j)) Hs H (.refl s) rfl q⟩⟩
theorem op_or {f : Value → Value → Sem Value} {r1 r2 : R2} (h1 : OpR X f r1) (h2 : OpR X f r2) : OpR X f (fun x y H Q => r1 x y H Q ∨ r2 x y H Q) := fun pins s σ H x y v u Q I rx ry h => by
  rcases h with h | h
  · exact h1 pins s σ H x y v u Q I rx ry h
  · exact h2 pins s σ H x y v u Q I rx ry h
theorem mu {i j : Int} {a b : Nat} (ha : i.natAbs < 2 ^ a) (hb : j.natAbs < 2 ^ b) (h0 : 0 < a := by decide) (h1 : 0 < b := by decide) (h : a + b ≤ 1000000 := by decide) : CMulW i j := wide_mul ha hb h0 h1 h
abbrev rSubD : RD2 := r2i0 fun i j => .int (i - j)
abbrev rMulD : RD2 := r2i CMulW fun i j => .int (i * j)
abbrev rDivD : RD2 := r2i (fun _ j => j ≠ 0 ∧ j.natAbs.log2 < 9000) fun i j => .int (i.fdiv j)
abbrev rModD : RD2 := r2i (fun _ j => j ≠ 0) fun i j => .int (i.fmod j)
abbrev rPowD : RD2 := r2i CPow fun i j => .int (i ^ j.toNat)
theorem od_sub : OpD X (binaryOp .Sub) rSubD := opD_i0 op_sub
theorem od_div : OpD X (binaryOp .FloorDiv) rDivD := opD_i (C := CDivA) op_fdivA
theorem od_mod : OpD X (binaryOp .Mod) rModD := opD_i op_modN
theorem od_pow : OpD X (binaryOp .Pow) rPowD := opD_i op_pow
/-- + of ints, texts, lists, tuples -/
def rAddD : RD2 := fun x y Q => match x, y with
  | .int i, .int j => Q (.int (i + j))
  | .str a, .str b => a.length + b.length ≤ sizeLine ∧ Q (.str (a ++ b))
  | .lst xs, .lst ys => xs.length + ys.length ≤ sizeLine ∧ Q (.lst (xs ++ ys))
  | .tup xs, .tup ys => xs ≠ [] ∧ ys ≠ [] ∧ xs.length + ys.length ≤ sizeLine ∧ Q (.tup (xs ++ ys))
  | _, _ => False
theorem od_add : OpD X (binaryOp .Add) rAddD := ⟨_, op_or op_add (op_or op_add_str (op_or op_cat op_catT)), fun Z Hs H d e v u Qd Q s i1 i2 q cn => by
  unfold rAddD at q
  split at q
  · exact .inl ⟨_, _, i1, i2, cn (.int _) _ Hs H (.refl s) rfl q⟩
  · exact .inr (.inl ⟨_, _, i1, i2, q.1, cn (.str _) _ Hs H (.refl s) rfl q.2⟩)
  · obtain ⟨a, xs, e1, h1, h2⟩ := i1
    obtain ⟨b, ys, e2, h3, h4⟩ := i2
    refine .inr (.inr (.inl ⟨a, b, xs, ys, e1, e2, s _ _ h1, s _ _ h3, by rw [h2.len, h4.len]; exact q.1, fun p np => ?_⟩))
    exact cn (.lst _) _ (upd Hs p (.lst (xs ++ ys))) _ (.laid s np) ⟨p, _, rfl, upd_same, (h2.app h4).same (Ext.laid (Z := Z) s np).fz⟩ q.2
  · obtain ⟨a, xs, e1, h1, h2⟩ := i1
    obtain ⟨b, ys, e2, h3, h4⟩ := i2
    have nx : xs ≠ [] := fun z => q.1 (by rw [z] at h2; have := h2.len; cases hh : (_ : List D) with | nil => exact hh | cons _ _ => rw [hh] at this; cases this)
    have ny : ys ≠ [] := fun z => q.2.1 (by rw [z] at h4; have := h4.len; cases hh : (_ : List D) with | nil => exact hh | cons _ _ => rw [hh] at this; cases this)
    refine .inr (.inr (.inr ⟨a, b, xs, ys, e1, e2, same_sqt s h1, same_sqt s h3, nx, by rw [h2.len, h4.len]; exact q.2.2.1, fun z => absurd z ny, fun _ p np => ?_⟩))
    exact cn (.tup _) _ (upd Hs p (.tup (xs ++ ys))) _ (.laid s np) ⟨p, _, rfl, .inl (.inl upd_same), (h2.app h4).same (Ext.laid (Z := Z) s np).fz⟩ q.2.2.2
  · exact q.elim⟩
/-- * of ints; a list times an int -/
def rMulD2 : RD2 := fun x y Q => match x, y with
  | .int i, .int j => CMulW i j ∧ Q (.int (i * j))
  | .lst xs, .int k => xs.length * k.toNat ≤ 100000 ∧ 0 ≤ k ∧ k ≤ 100000 ∧ Q (.lst (List.replicate k.toNat xs).flatten)
  | _, _ => False
theorem isA_rep {K H} {ds : List D} {xs : List V} (h : IsA K H ds xs) : ∀ n : Nat, IsA K H (List.replicate n ds).flatten (List.replicate n xs).flatten
  | 0 => rfl
  | n + 1 => h.app (isA_rep h n)
theorem od_mul : OpD X (binaryOp .Mult) rMulD2 := ⟨_, op_or op_mulW op_rep, fun Z Hs H d e v u Qd Q s i1 i2 q cn => by
  unfold rMulD2 at q
  split at q
  · exact .inl ⟨_, _, i1, i2, q.1, cn (.int _) _ Hs H (.refl s) rfl q.2⟩
  · obtain ⟨a, xs, e1, h1, h2⟩ := i1
    obtain ⟨q1, q2, q3, q4⟩ := q
    refine .inr ⟨a, _, xs, e1, i2, s _ _ h1, by omega, by omega, ?_, fun p np => ?_⟩
    · rw [h2.len]
      exact Nat.le_trans q1 (by decide)
    · exact cn (.lst _) _ (upd Hs p (.lst _)) _ (.laid s np) ⟨p, _, rfl, upd_same, (isA_rep h2 _).same (Ext.laid (Z := Z) s np).fz⟩ q4
  · exact q.elim⟩
/-- -x -/
def rNegD : D → QD → Prop := fun x Q => match x with
  | .int i => Q (.int (-i))
  | _ => False
theorem ud_neg : UnD X (unaryOp .USub) rNegD := ⟨_, un_neg, fun Z Hs H d v Qd Q s i q cn => by
  unfold rNegD at q
  split at q
  · exact ⟨_, i, cn (.int _) _ Hs H (.refl s) rfl q⟩
  · exact q.elim⟩
/-! ### comparisons -/
/-- by order: ints, texts -/
def rOrdD (f : Int → Int → Bool) (g : Str → Str → Bool) : RD2 := fun x y Q => match x, y with
  | .int i, .int j => Q (.bl (f i j))
  | .str a, .str b => Q (.bl (g a b))
  | _, _ => False
theorem od_ord {fn : Value → Value → Sem Value} {f : Int → Int → Bool} {g : Str → Str → Bool} (h1 : OpR X fn (rI0 fun i j => .bl (f i j))) (h2 : OpR X fn (fun x y H Q => ∃ i j, x = .str i ∧ y = .str j ∧ Q (.bl (g i j)) H)) : OpD X fn (rOrdD f g) := ⟨_, op_or h1 h2, fun Z Hs H d e v u Qd Q s i1 i2 q cn => by
  unfold rOrdD at q
  split at q
  · exact .inl ⟨_, _, i1, i2, cn (.bl _) (.bl _) Hs H (.refl s) rfl q⟩
  · exact .inr ⟨_, _, i1, i2, cn (.bl _) (.bl _) Hs H (.refl s) rfl q⟩
  · exact q.elim⟩
abbrev rLtD : RD2 := rOrdD (fun i j => decide (i < j)) fun a b => decide (a.cps.toList < b.cps.toList)
abbrev rLeD : RD2 := rOrdD (fun i j => decide (i ≤ j)) fun a b => !decide (b.cps.toList < a.cps.toList)
abbrev rGtD : RD2 := rOrdD (fun i j => decide (j < i)) fun a b => decide (b.cps.toList < a.cps.toList)
abbrev rGeD : RD2 := rOrdD (fun i j => decide (j ≤ i)) fun a b => !decide (a.cps.toList < b.cps.toList)
theorem od_lt : OpD X (compareOp .Lt) rLtD := od_ord op_lt op_lt_str
theorem od_le : OpD X (compareOp .LtE) rLeD := od_ord op_le op_le_str
theorem od_gt : OpD X (compareOp .Gt) rGtD := od_ord op_gt op_gt_str
theorem od_ge : OpD X (compareOp .GtE) rGeD := od_ord op_ge op_ge_str
/-- x is None -/
def isNonD : D → Option Bool
  | .non => some true
  | .is _ => none
  | _ => some false
def rIsD (neg : Bool) : RD2 := fun x y Q => match y with
  | .non => (match isNonD x with
    | some b => Q (.bl (b != neg))
    | none => False)
  | .bl b => (match x with
    | .bl a => Q (.bl ((a == b) != neg))
    | _ => False)
  | _ => False
theorem isNonD_is {K H x v b} (i : Is K H x v) (h : isNonD x = some b) : decide (v = V.non) = b := by
  cases x <;> simp only [isNonD, Option.some.injEq, reduceCtorEq] at h <;> subst h
  · cases i; rfl
  · cases i; rfl
  · cases i; rfl
  · cases i; rfl
  · obtain ⟨_, _, e, _⟩ := i; subst e; rfl
  · obtain ⟨_, _, e, _⟩ := i; subst e; rfl
  · obtain ⟨_, _, e, _⟩ := i; subst e; rfl
  · obtain ⟨_, _, _, e, _⟩ := i; subst e; rfl
  · cases i; rfl
  · cases i; rfl
theorem od_is : OpD X (compareOp .Is) (rIsD false) := ⟨_, op_or op_isN op_is_bl, fun Z Hs H d e v u Qd Q s i1 i2 q cn => by
  unfold rIsD at q
  split at q
  · split at q
    · rename_i b hb
      refine .inl ⟨i2, ?_⟩
      rw [isNonD_is i1 hb]
      have e : (b != false) = b := by cases b <;> rfl
      rw [e] at q
      exact cn (.bl b) (.bl b) Hs H (.refl s) rfl q
    · exact q.elim
  · rename_i b
    split at q
    · rename_i a
      refine .inr ⟨_, _, i1, i2, ?_⟩
      refine cn (.bl _) _ Hs H (.refl s) rfl ?_
      have e : ((a == b) != false) = decide (a = b) := by cases a <;> cases b <;> rfl
      rw [e] at q
      exact q
    · exact q.elim
  · exact q.elim⟩
theorem od_isnot : OpD X (compareOp .IsNot) (rIsD true) := ⟨_, op_or op_notN op_isnot_bl, fun Z Hs H d e v u Qd Q s i1 i2 q cn => by
  unfold rIsD at q
  split at q
  · split at q
    · rename_i b hb
      refine .inl ⟨i2, ?_⟩
      rw [isNonD_is i1 hb]
      have e : (b != true) = !b := by cases b <;> rfl
      rw [e] at q
      exact cn (.bl _) (.bl _) Hs H (.refl s) rfl q
    · exact q.elim
  · rename_i b
    split at q
    · rename_i a
      refine .inr ⟨_, _, i1, i2, ?_⟩
      refine cn (.bl _) _ Hs H (.refl s) rfl ?_
      have e : ((a == b) != true) = !decide (a = b) := by cases a <;> cases b <;> rfl
      rw [e] at q
      exact q
    · exact q.elim
  · exact q.elim⟩
/-! ### data as the library's, for == -/
mutual
def py : D → Option PyData
  | .non => some .none
  | .bl b => some (.bool b)
  | .int i => some (.int i)
  | .str x => some (.str x)
  | .lst ds => (pyA ds).map .list
  | .tup ds => (pyA ds).map .tuple
  | _ => none
def pyA : List D → Option (List PyData)
  | [] => some []
  | d :: ds => match py d, pyA ds with
    | some x, some xs => some (x :: xs)
    | _, _ => none
end
mutual
theorem py_dp {K H} : ∀ {d : D} {v : V} {e : PyData}, Is K H d v → py d = some e → Dp K H v e
  | .non, _, _, i, h => by cases i; simp only [py, Option.some.injEq] at h; subst h; exact .non
  | .bl _, _, _, i, h => by cases i; simp only [py, Option.some.injEq] at h; subst h; exact .bl _
  | .int _, _, _, i, h => by cases i; simp only [py, Option.some.injEq] at h; subst h; exact .int _
  | .str _, _, _, i, h => by cases i; simp only [py, Option.some.injEq] at h; subst h; exact .str _
  | .lst ds, _, _, ⟨a, xs, e, h1, h2⟩, h => by
    subst e
    simp only [py] at h
    cases q : pyA ds with
    | none => rw [q] at h; cases h
    | some es => rw [q] at h; cases h; exact .lst (.of h1) (pyA_dp h2 q)
  | .tup ds, _, _, ⟨a, xs, e, h1, h2⟩, h => by
    subst e
    simp only [py] at h
    cases q : pyA ds with
    | none => rw [q] at h; cases h
    | some es => rw [q] at h; cases h; exact .tup h1 (pyA_dp h2 q)
  | .dct _ _, _, _, _, h => by simp [py] at h
  | .obj _ _ _, _, _, _, h => by simp [py] at h
  | .ty _, _, _, _, h => by simp [py] at h
  | .cls _, _, _, _, h => by simp [py] at h
  | .is _, _, _, _, h => by simp [py] at h
theorem pyA_dp {K H} : ∀ {ds : List D} {xs : List V} {es : List PyData}, IsA K H ds xs → pyA ds = some es → DpAll K H xs es
  | [], _, _, i, h => by cases i; simp only [pyA, Option.some.injEq] at h; subst h; exact .nil
  | d :: ds, _, _, ⟨x, ys, e, h1, h2⟩, h => by
    subst e
    simp only [pyA] at h
    split at h
    · rename_i q1 q2
      cases h
      exact .cons (py_dp h1 q1) (pyA_dp h2 q2)
    · cases h
end
/-- x == y: ints, bools, texts at once; else as data -/
def rEqD (f : Bool → Bool) : RD2 := fun x y Q => match x, y with
  | .int i, .int j => Q (.bl (f (decide (i = j))))
  | .bl i, .bl j => Q (.bl (f (decide (i = j))))
  | .str i, .str j => Q (.bl (f (decide (i = j))))
  | x, y => ∃ d e, py x = some d ∧ py y = some e ∧ SeqAt.shaped d = true ∧ SeqAt.shaped e = true ∧ Q (.bl (f (PyData.eqv d e)))
theorem dec_inj {α : Type} [DecidableEq α] {g : α → V} (h : ∀ a b, g a = g b → a = b) (a b : α) : decide (g a = g b) = decide (a = b) := by
  rw [decide_eq_decide]
  exact ⟨h a b, fun e => by rw [e]⟩
theorem od_eqq {fn : Value → Value → Sem Value} {f : Bool → Bool} {r1 r2 : R2} (h1 : OpR X fn r1) (h2 : OpR X fn r2) (k1 : ∀ x y H Q, scal x y = true → Q (.bl (f (decide (x = y)))) H → r1 x y H Q) (k2 : ∀ x y H Q d e, Dp X.K H x d → Dp X.K H y e → SeqAt.shaped d = true → SeqAt.shaped e = true → Q (.bl (f (PyData.eqv d e))) H → r2 x y H Q) : OpD X fn (rEqD f) := ⟨_, op_or h1 h2, fun Z Hs H x y v u Qd Q s i1 i2 q cn => by
  unfold rEqD at q
  split at q
  · refine .inl (k1 _ _ _ _ (by cases i1; cases i2; rfl) ?_)
    cases i1; cases i2
    rw [dec_inj (g := V.int) (fun a b h => V.int.inj h)]
    exact cn (.bl _) (.bl _) Hs H (.refl s) rfl q
  · refine .inl (k1 _ _ _ _ (by cases i1; cases i2; rfl) ?_)
    cases i1; cases i2
    rw [dec_inj (g := V.bl) (fun a b h => V.bl.inj h)]
    exact cn (.bl _) (.bl _) Hs H (.refl s) rfl q
  · refine .inl (k1 _ _ _ _ (by cases i1; cases i2; rfl) ?_)
    cases i1; cases i2
    rw [dec_inj (g := V.str) (fun a b h => V.str.inj h)]
    exact cn (.bl _) (.bl _) Hs H (.refl s) rfl q
  · obtain ⟨d, e, h1, h2, h3, h4, q⟩ := q
    exact .inr (k2 _ _ _ _ d e (py_dp (i1.same s) h1) (py_dp (i2.same s) h2) h3 h4 (cn (.bl _) (.bl _) Hs H (.refl s) rfl q))⟩
abbrev rEqQ : RD2 := rEqD fun b => b
abbrev rNeQ : RD2 := rEqD fun b => !b
theorem od_eq (hu : X.A.units + 64 < cLine) : OpD X (compareOp .Eq) rEqQ := od_eqq op_eq (op_eqD hu) (fun x y H Q h q => ⟨h, q⟩) fun x y H Q d e h1 h2 h3 h4 q => ⟨d, e, h1, h2, h3, h4, q⟩
theorem od_ne (hu : X.A.units + 64 < cLine) : OpD X (compareOp .NotEq) rNeQ := od_eqq op_ne (op_neD hu) (fun x y H Q h q => ⟨h, q⟩) fun x y H Q d e h1 h2 h3 h4 q => ⟨d, e, h1, h2, h3, h4, q⟩
/-- x in y, y a list -/
def rInDD (neg : Bool) : RD2 := fun x y Q => ∃ d ds, py x = some d ∧ py y = some (.list ds) ∧ SeqAt.shaped d = true ∧ SeqAt.shaped (.list ds) = true ∧ Q (.bl ((ds.any fun z => PyData.eqv z d) != neg))
theorem od_in (hu : X.A.units + 65 < cLine) : OpD X (compareOp .In) (rInDD false) := ⟨_, op_inD hu, fun Z Hs H x y v u Qd Q s i1 i2 q cn => by
  obtain ⟨d, ds, h1, h2, h3, h4, q⟩ := q
  have z : ∀ b : Bool, (b != false) = b := fun b => by cases b <;> rfl
  rw [z] at q
  exact ⟨d, ds, py_dp (i1.same s) h1, py_dp (i2.same s) h2, h3, h4, cn (.bl _) (.bl _) Hs H (.refl s) rfl q⟩⟩
/-! ### items -/
def rIxDD : RD2 := fun x y Q => match x, y with
  | .lst ds, .int i => (match atI ds i with
    | some d => Q d
    | none => False)
  | .tup ds, .int i => (match atI ds i with
    | some d => Q d
    | none => False)
  | _, _ => False
theorem atI_is {K H} {ds : List D} {xs : List V} {i : Int} {d : D} (h : IsA K H ds xs) (e : atI ds i = some d) : ∃ x, atI xs i = some x ∧ Is K H d x := by
  unfold atI at e ⊢
  rw [h.len]
  cases q : ixN ds.length i with
  | none => rw [q] at e; cases e
  | some j => rw [q] at e; exact h.get e
theorem ixd : IxD X rIxDD := ⟨_, ix_seq, fun Z Hs H x y v u Qd Q s i1 i2 q cn => by
  unfold rIxDD at q
  split at q
  · obtain ⟨a, xs, e1, h1, h2⟩ := i1
    split at q
    · rename_i hd
      obtain ⟨w, hw, iw⟩ := atI_is h2 hd
      exact .inl ⟨a, xs, _, w, e1, i2, .of (s _ _ h1), hw, cn _ _ Hs H (.refl s) iw q⟩
    · exact q.elim
  · obtain ⟨a, xs, e1, h1, h2⟩ := i1
    split at q
    · rename_i hd
      obtain ⟨w, hw, iw⟩ := atI_is h2 hd
      exact .inr (.inl ⟨a, xs, _, w, e1, i2, same_sqt s h1, hw, cn _ _ Hs H (.refl s) iw q⟩)
    · exact q.elim
  · exact q.elim⟩
end
end DL
set_option Elab.async false
set_option linter.all false
set_option maxRecDepth 100000
set_option maxHeartbeats 4000000
/-! DD: built-ins, iterators, comprehensions, raising, and a def's promise -/
namespace DL
open PySem PySem.Spec PyProof.Rows L2
section
variable {X : Cx} {c : Cn}
/-! ### built-ins -/
theorem call_or {f : Value} {r1 r2 : List V → Hp → VK → Prop} (h1 : CallR X f r1) (h2 : CallR X f r2) : CallR X f (fun vs H Q => r1 vs H Q ∨ r2 vs H Q) := fun pins s σ H vs us Q I r h => by
  rcases h with h | h
  · exact h1 pins s σ H vs us Q I r h
  · exact h2 pins s σ H vs us Q I r h
def rLenD : List D → QD → Prop := fun ds Q => match ds with
  | [.lst xs] => Q (.int (xs.length : Nat))
  | [.tup xs] => Q (.int (xs.length : Nat))
  | [.str y] => y.length ≤ sizeLine ∧ Q (.int (y.length : Nat))
  | _ => False
theorem cd_len : CallD X (.builtin "len") rLenD := ⟨_, call_len, fun Z Hs H ds vs Qd Q s i q cn => by
  unfold rLenD at q
  split at q
  · obtain ⟨x, ys, e, ⟨a, xs, e2, h1, h2⟩, h3⟩ := i
    cases h3; subst e; subst e2
    exact ⟨_, _, rfl, .inl ⟨xs, .of (s _ _ h1), rfl⟩, cn (.int _) _ Hs H (.refl s) rfl (by rw [h2.len]; exact q)⟩
  · obtain ⟨x, ys, e, ⟨a, xs, e2, h1, h2⟩, h3⟩ := i
    cases h3; subst e; subst e2
    exact ⟨_, _, rfl, .inr ⟨xs, same_sqt s h1, rfl⟩, cn (.int _) _ Hs H (.refl s) rfl (by rw [h2.len]; exact q)⟩
  · obtain ⟨x, ys, e, h1, h3⟩ := i
    cases h3; subst e; cases h1
    exact ⟨_, _, rfl, ⟨q.1, rfl⟩, cn (.int _) _ Hs H (.refl s) rfl q.2⟩
  · exact q.elim⟩
def rIntD : List D → QD → Prop := fun ds Q => match ds with
  | [.int i] => Q (.int i)
  | [.bl b] => Q (.int (if b then 1 else 0))
  | _ => False
theorem cd_int : CallD X (.type "int") rIntD := ⟨_, call_int1, fun Z Hs H ds vs Qd Q s i q cn => by
  unfold rIntD at q
  split at q
  · obtain ⟨x, ys, e, h1, h3⟩ := i
    cases h3; subst e; cases h1
    exact .inl ⟨_, rfl, cn (.int _) _ Hs H (.refl s) rfl q⟩
  · obtain ⟨x, ys, e, h1, h3⟩ := i
    cases h3; subst e; cases h1
    exact .inr ⟨_, rfl, cn (.int _) _ Hs H (.refl s) rfl q⟩
  · exact q.elim⟩
def r1iD (g : Int → Int) : List D → QD → Prop := fun ds Q => match ds with
  | [.int i] => Q (.int (g i))
  | _ => False
def r2iD (g : Int → Int → Int) : List D → QD → Prop := fun ds Q => match ds with
  | [.int i, .int j] => Q (.int (g i j))
  | _ => False
theorem cd_abs : CallD X (.builtin "abs") (r1iD fun i => if i < 0 then -i else i) := ⟨_, call_abs, fun Z Hs H ds vs Qd Q s i q cn => by
  unfold r1iD at q
  split at q
  · obtain ⟨x, ys, e, h1, h3⟩ := i
    cases h3; subst e; cases h1
    exact ⟨_, rfl, cn (.int _) _ Hs H (.refl s) rfl q⟩
  · exact q.elim⟩
theorem isA2 {K H} {d e : D} {vs : List V} (h : IsA K H [d, e] vs) : ∃ x y, vs = [x, y] ∧ Is K H d x ∧ Is K H e y := by
  obtain ⟨x, ys, e1, h1, y, zs, e2, h2, h3⟩ := h
  cases h3; subst e2; subst e1
  exact ⟨x, y, rfl, h1, h2⟩
theorem isA1 {K H} {d : D} {vs : List V} (h : IsA K H [d] vs) : ∃ x, vs = [x] ∧ Is K H d x := by
  obtain ⟨x, ys, e1, h1, h3⟩ := h
  cases h3; subst e1
  exact ⟨x, rfl, h1⟩
theorem cd_max2 (hc : X.calm = true) : CallD X (.builtin "max") (r2iD fun i j => if j > i then j else i) := ⟨_, call_max2 hc, fun Z Hs H ds vs Qd Q s i q cn => by
  unfold r2iD at q
  split at q
  · obtain ⟨x, y, e, h1, h2⟩ := isA2 i
    cases h1; cases h2; subst e
    exact ⟨_, _, rfl, cn (.int _) _ Hs H (.refl s) rfl q⟩
  · exact q.elim⟩
theorem cd_min2 (hc : X.calm = true) : CallD X (.builtin "min") (r2iD fun i j => if j < i then j else i) := ⟨_, call_min2 hc, fun Z Hs H ds vs Qd Q s i q cn => by
  unfold r2iD at q
  split at q
  · obtain ⟨x, y, e, h1, h2⟩ := isA2 i
    cases h1; cases h2; subst e
    exact ⟨_, _, rfl, cn (.int _) _ Hs H (.refl s) rfl q⟩
  · exact q.elim⟩
def rGcdD : List D → QD → Prop := fun ds Q => match ds with
  | [.int i, .int j] => Q (.int ((Nat.gcd i.natAbs j.natAbs : Nat) : Int))
  | _ => False
theorem cd_gcd : CallD X (.builtin "math.gcd") rGcdD := ⟨_, cr_gcd, fun Z Hs H ds vs Qd Q s i q cn => by
  unfold rGcdD at q
  split at q
  · obtain ⟨x, y, e, h1, h2⟩ := isA2 i
    cases h1; cases h2; subst e
    exact ⟨_, _, rfl, cn (.int _) _ Hs H (.refl s) rfl q⟩
  · exact q.elim⟩
theorem d_callBfun {x : Str} {p pos : Pos} {e : Expr} {es : List Expr} {t : TAD} {id : String} {r : List D → QD → Prop} (o : CallD X (.builtin id) r) (hm : X.mg x = some (.builtin id)) (ha : DAs X c (e :: es) t) (hg : Gl X x := by rfl) (hdb : (x == ("__debug__" : Str)) = false := by decide)
    (he : starEach (e :: es) X.env = (false, eval e X.env) :: starEach es X.env := by rfl) (hpl : (backTo pos (starEach es X.env)).any (·.1) = false := by rfl) : DE X c (.Call (.Name x p) (e :: es) [] pos) (tdCB r t) := by
  obtain ⟨r0, h0, f⟩ := lift_cb (c := c) o
  exact pe_imp (pe_callBfun h0 hg hm ha hdb he hpl) (f t)
/-- all are intL -/
def intL : List D → Option (List Int)
  | [] => some []
  | .int i :: ds => (intL ds).map (i :: ·)
  | _ :: _ => none
theorem intL_is {K H} : ∀ {ds : List D} {xs : List V} {ns : List Int}, IsA K H ds xs → intL ds = some ns → xs = ns.map V.int
  | [], _, _, h, e => by cases h; cases e; rfl
  | .int i :: ds, _, _, ⟨x, ys, e, h1, h2⟩, q => by
    cases z : intL ds with
    | none => rw [intL, z] at q; cases q
    | some ms => rw [intL, z] at q; cases q; subst e; cases h1; rw [intL_is h2 z]; rfl
  | .non :: _, _, _, _, q => by cases q
  | .bl _ :: _, _, _, _, q => by cases q
  | .str _ :: _, _, _, _, q => by cases q
  | .lst _ :: _, _, _, _, q => by cases q
  | .tup _ :: _, _, _, _, q => by cases q
  | .dct _ _ :: _, _, _, _, q => by cases q
  | .obj _ _ _ :: _, _, _, _, q => by cases q
  | .ty _ :: _, _, _, _, q => by cases q
  | .cls _ :: _, _, _, _, q => by cases q
  | .is _ :: _, _, _, _, q => by cases q
theorem intL_map (ns : List Int) : intL (ns.map D.int) = some ns := by
  induction ns with
  | nil => rfl
  | cons n ns ih => rw [List.map_cons, intL, ih]; rfl
def rSumD : List D → QD → Prop := fun ds Q => match ds with
  | [.lst xs] => ∃ ns, intL xs = some ns ∧ Q (.int ns.sum)
  | _ => False
theorem cd_sum (hc : X.calm = true) : CallD X (.builtin "sum") rSumD := ⟨_, cr_sum hc, fun Z Hs H ds vs Qd Q s i q cn => by
  unfold rSumD at q
  split at q
  · obtain ⟨x, e, a, xs, e2, h1, h2⟩ := isA1 i
    obtain ⟨ns, hn, q⟩ := q
    have := intL_is h2 hn
    subst this; subst e2; subst e
    exact ⟨a, ns, rfl, .of (s _ _ h1), cn (.int _) _ Hs H (.refl s) rfl q⟩
  · exact q.elim⟩
/-- all are boolL -/
def boolL : List D → Option (List Bool)
  | [] => some []
  | .bl i :: ds => (boolL ds).map (i :: ·)
  | _ :: _ => none
theorem boolL_is {K H} : ∀ {ds : List D} {xs : List V} {ns : List Bool}, IsA K H ds xs → boolL ds = some ns → xs = ns.map V.bl
  | [], _, _, h, e => by cases h; cases e; rfl
  | .bl i :: ds, _, _, ⟨x, ys, e, h1, h2⟩, q => by
    cases z : boolL ds with
    | none => rw [boolL, z] at q; cases q
    | some ms => rw [boolL, z] at q; cases q; subst e; cases h1; rw [boolL_is h2 z]; rfl
  | .non :: _, _, _, _, q => by cases q
  | .int _ :: _, _, _, _, q => by cases q
  | .str _ :: _, _, _, _, q => by cases q
  | .lst _ :: _, _, _, _, q => by cases q
  | .tup _ :: _, _, _, _, q => by cases q
  | .dct _ _ :: _, _, _, _, q => by cases q
  | .obj _ _ _ :: _, _, _, _, q => by cases q
  | .ty _ :: _, _, _, _, q => by cases q
  | .cls _ :: _, _, _, _, q => by cases q
  | .is _ :: _, _, _, _, q => by cases q
theorem boolL_map (ns : List Bool) : boolL (ns.map D.bl) = some ns := by
  induction ns with
  | nil => rfl
  | cons n ns ih => rw [List.map_cons, boolL, ih]; rfl
def rAllD (f : List Bool → Bool) : List D → QD → Prop := fun ds Q => match ds with
  | [.lst xs] => ∃ ns, boolL xs = some ns ∧ Q (.bl (f ns))
  | _ => False
theorem cd_all (hc : X.calm = true) : CallD X (.builtin "all") (rAllD fun ns => ns.all id) := ⟨_, cr_all hc, fun Z Hs H ds vs Qd Q s i q cn => by
  unfold rAllD at q
  split at q
  · obtain ⟨x, e, a, xs, e2, h1, h2⟩ := isA1 i
    obtain ⟨ns, hn, q⟩ := q
    have := boolL_is h2 hn
    subst this; subst e2; subst e
    exact ⟨a, ns, rfl, .of (s _ _ h1), cn (.bl _) _ Hs H (.refl s) rfl q⟩
  · exact q.elim⟩
theorem cd_any (hc : X.calm = true) : CallD X (.builtin "any") (rAllD fun ns => ns.any id) := ⟨_, cr_any hc, fun Z Hs H ds vs Qd Q s i q cn => by
  unfold rAllD at q
  split at q
  · obtain ⟨x, e, a, xs, e2, h1, h2⟩ := isA1 i
    obtain ⟨ns, hn, q⟩ := q
    have := boolL_is h2 hn
    subst this; subst e2; subst e
    exact ⟨a, ns, rfl, .of (s _ _ h1), cn (.bl _) _ Hs H (.refl s) rfl q⟩
  · exact q.elim⟩
/-- tuple(x), list(x) of a list or a tuple -/
def rTupD : List D → QD → Prop := fun ds Q => match ds with
  | [.lst xs] => Q (.tup xs)
  | [.tup xs] => Q (.tup xs)
  | _ => False
theorem cd_tuple : CallD X (.type "tuple") rTupD := ⟨_, call_tuple_of, fun Z Hs H ds vs Qd Q s i q cn => by
  unfold rTupD at q
  split at q
  · obtain ⟨x, e, a, xs, e2, h1, h2⟩ := isA1 i
    subst e2; subst e
    exact ⟨a, xs, rfl, .inl ⟨.of (s _ _ h1), fun p np => cn (.tup _) _ (upd Hs p (.tup xs)) _ (.laid s np) ⟨p, xs, rfl, .inl (.inl upd_same), h2.same (Ext.laid (Z := Z) s np).fz⟩ q⟩⟩
  · obtain ⟨x, e, a, xs, e2, h1, h2⟩ := isA1 i
    subst e2; subst e
    exact ⟨a, xs, rfl, .inr ⟨same_sqt s h1, cn (.tup _) _ Hs H (.refl s) ⟨a, xs, rfl, h1, h2⟩ q⟩⟩
  · exact q.elim⟩
def rLstD : List D → QD → Prop := fun ds Q => match ds with
  | [.lst xs] => Q (.lst xs)
  | [.tup xs] => Q (.lst xs)
  | _ => False
theorem cd_list : CallD X (.type "list") rLstD := ⟨_, call_list_of, fun Z Hs H ds vs Qd Q s i q cn => by
  unfold rLstD at q
  split at q
  · obtain ⟨x, e, a, xs, e2, h1, h2⟩ := isA1 i
    subst e2; subst e
    exact ⟨a, xs, rfl, .inl (.of (s _ _ h1)), fun p np => cn (.lst _) _ (upd Hs p (.lst xs)) _ (.laid s np) ⟨p, xs, rfl, upd_same, h2.same (Ext.laid (Z := Z) s np).fz⟩ q⟩
  · obtain ⟨x, e, a, xs, e2, h1, h2⟩ := isA1 i
    subst e2; subst e
    exact ⟨a, xs, rfl, .inr (same_sqt s h1), fun p np => cn (.lst _) _ (upd Hs p (.lst xs)) _ (.laid s np) ⟨p, xs, rfl, upd_same, h2.same (Ext.laid (Z := Z) s np).fz⟩ q⟩
  · exact q.elim⟩
/-! ### isinstance -/
def kindD : D → Option Ty7
  | .non => some .non
  | .bl _ => some .bl
  | .int _ => some .int
  | .str _ => some .str
  | .lst _ => some .lst
  | .tup _ => some .tup
  | .dct _ _ => some .dct
  | _ => none
theorem kindD_ty {K H d v n} (i : Is K H d v) (h : kindD d = some n) : TyX K H v (.type n.name) := by
  cases d <;> simp only [kindD, Option.some.injEq, reduceCtorEq] at h <;> subst h
  · cases i; exact .base .non
  · cases i; exact .base (.bl _)
  · cases i; exact .base (.int _)
  · cases i; exact .base (.str _)
  · obtain ⟨a, xs, e, h1, _⟩ := i
    subst e
    exact .base (.lst h1)
  · obtain ⟨a, xs, e, h1, _⟩ := i
    subst e
    rcases h1 with (h1 | ⟨o, h1⟩) | ⟨o, its, m, hk, hc, _⟩
    · exact .base (.tup h1)
    · exact .fTuple h1
    · exact .kTuple hk hc
  · obtain ⟨a, xs, e, h1, _⟩ := i
    subst e
    exact .base (.dK h1)
/-- k's type is n, or under it -/
def tyLe : Ty7 → Ty7 → Bool
  | .non, .non => true
  | .bl, .bl => true
  | .bl, .int => true
  | .int, .int => true
  | .str, .str => true
  | .lst, .lst => true
  | .tup, .tup => true
  | .dct, .dct => true
  | _, _ => false
theorem kitB7 (k n : Ty7) : kitB k.name n.name = some (tyLe k n) := by
  cases k <;> cases n <;> decide +kernel
def rIsiD : List D → QD → Prop := fun ds Q => match ds with
  | [x, .ty n] => (match kindD x with
    | some k => Q (.bl (tyLe k n))
    | none => False)
  | _ => False
theorem cd_isi : CallD X (.builtin "isinstance") rIsiD := ⟨_, call_isi, fun Z Hs H ds vs Qd Q s i q cn => by
  unfold rIsiD at q
  split at q
  · rename_i x n
    split at q
    · rename_i k hk
      obtain ⟨v, w, e, h1, h2⟩ := isA2 i
      cases h2; subst e
      exact ⟨v, _, _, _, _, rfl, .ty n.name, kindD_ty (h1.same s) hk, kit_ty (kitB7 k n), cn (.bl _) _ Hs H (.refl s) rfl q⟩
    · exact q.elim
  · exact q.elim⟩
theorem d_ty {x : Str} {pos : Pos} (n : Ty7) (hm : X.mg x = none) (hg : Gl X x := by rfl) (hv : bootBuiltins x = some (.type n.name) := by decide +kernel) (hn : x ≠ "__name__" := by decide) (hd : (x == ("__debug__" : Str)) = false := by decide) : DE X c (.Name x pos) (tdC (.ty n)) :=
  d_const (v := .ty n.name) (pe_bltn hg hm hv rfl hn hd) fun _ => rfl
/-- isinstance(x, (T, U)) -/
def tdIsiT (te : TD) (ns : List Ty7) : TD := fun ss Q Ed => te ss (fun x => match kindD x with
  | some k => Q (.bl (ns.any (tyLe k)))
  | none => False) Ed
/-- the types of a written tuple -/
inductive Tys (X : Cx) : List Expr → List Ty7 → Prop where
  | nil : Tys X [] []
  | cons {x : Str} {pos : Pos} {n : Ty7} {es ns} (h : PE X (.Name x pos) (tC (.ty n.name))) (t : Tys X es ns) (hs : starEach (.Name x pos :: es) X.env = (false, eval (.Name x pos) X.env) :: starEach es X.env) : Tys X (.Name x pos :: es) (n :: ns)
def tTys : List Ty7 → TA
  | [] => tNil
  | n :: ns => tCons (tC (.ty n.name)) (tTys ns)
theorem Tys.pa : ∀ {es ns}, Tys X es ns → PA X es (tTys ns)
  | _, _, .nil => pa_nil
  | _, _, .cons h t hs => pa_cons h t.pa hs
theorem tTys_run : ∀ {ns : List Ty7} {σ : L2.St} {H : Hp} {Q : List V → Hp → Prop}, Q (ns.map fun n => V.ty n.name) H → tTys ns σ H Q
  | [], _, _, _, q => q
  | n :: ns, σ, H, Q, q => tTys_run (ns := ns) (Q := fun xs H2 => Q (.ty n.name :: xs) H2) q
theorem kitAny7 {K : PySem.W.Frag} {k : Ty7} : ∀ {ns : List Ty7}, PySem.W.kitAny K (.type k.name) (ns.map fun n => Value.type n.name) = some (ns.any (tyLe k))
  | [] => rfl
  | n :: ns => by
    refine kitAny_cons (kit_ty (K := K) (kitB7 k n)) (fun e => ?_) (fun e => ?_)
    · rw [List.any_cons, e, Bool.false_or]
      exact kitAny7
    · rw [List.any_cons, e, Bool.true_or]
theorem clsv_tys : ∀ ns : List Ty7, Paired ClsV (ns.map fun n => V.ty n.name) (ns.map fun n => Value.type n.name)
  | [] => .nil
  | n :: ns => .cons (.ty n.name) (clsv_tys ns)
theorem d_isiT {p tpos pos : Pos} {e : Expr} {es : List Expr} {kk} {te : TD} {ns : List Ty7} (hm : X.mg "isinstance" = none) (he : DE X c e te) (ht : Tys X es ns) (hl : ns.length ≤ 8 := by decide) (hg : Gl X "isinstance" := by rfl)
    (hs1 : starEach (e :: [.Tuple es kk tpos]) X.env = (false, eval e X.env) :: starEach [.Tuple es kk tpos] X.env := by rfl) (hs2 : starEach [.Tuple es kk tpos] X.env = (false, eval (.Tuple es kk tpos) X.env) :: starEach [] X.env := by rfl) (hpl : (backTo pos (starEach [.Tuple es kk tpos] X.env)).any (·.1) = false := by rfl) :
    DE X c (.Call (.Name "isinstance" p) [e, .Tuple es kk tpos] [] pos) (tdIsiT te ns) := by
  refine pe_imp (pe_callB call_isiT hg hm (by decide +kernel) (pa_cons he (pa_cons (pe_tup (ht.pa)) pa_nil hs2) hs1) (by decide) (by decide) hs1 hpl) fun σ H Q q => ?_
  obtain ⟨O, Hs, ss, Qd, Ed, A, h, er, g⟩ := q
  refine ⟨O, Hs, ss, _, Ed, A, h, er, fun d v Hs1 H1 e1 i1 q1 => ?_⟩
  refine tTys_run ⟨by rw [List.length_map]; exact Nat.le_trans hl (by decide), fun p np => ?_⟩
  split at q1
  · rename_i k hk
    have x1 : Ext (Z0 O) Hs1 H1 Hs1 (upd H1 p (.tup (ns.map fun n => V.ty n.name))) := Ext.grow e1.sub np
    exact ⟨v, p, _, _, _, _, rfl, upd_same, clsv_tys ns, kindD_ty (i1.same x1.sub) hk, kitAny7, g (.bl _) _ Hs1 _ (e1.trans x1) rfl q1⟩
  · exact q1.elim
/-! ### a list of a slot's own: its length, its items -/
def tdLenOwn (i : Nat) : TD := fun ss Q _ => match nth ss i with
  | .own _ ds => Q (.int (ds.length : Nat))
  | _ => False
theorem d_lenOwn {p pos : Pos} {e : Expr} {i : Nat} (hm : X.mg "len" = none) (he : PE X e (tVar i)) (hg : Gl X "len" := by rfl) (hs1 : starEach [e] X.env = (false, eval e X.env) :: starEach [] X.env := by rfl) : DE X c (.Call (.Name "len" p) [e] [] pos) (tdLenOwn i) := by
  refine pe_imp (pe_callB call_len hg hm (by decide +kernel) (pa_cons he pa_nil hs1) (by decide) (by decide) hs1 rfl) fun σ H Q q => ?_
  obtain ⟨O, Hs, ss, Qd, Ed, A, h, er, g⟩ := q
  have hs := A.sl i
  unfold tdLenOwn at h
  split at h
  · rename_i p ds hx
    rw [hx] at hs
    obtain ⟨xs, e1, h1, h2, h3⟩ := hs
    exact ⟨_, e1, _, _, rfl, .inl ⟨xs, .inl (.inl h2), rfl⟩, g (.int _) _ Hs H (.refl A.sub) rfl (by rw [h3.len]; exact h)⟩
  · exact h.elim
def tdIxOwn (i : Nat) (tb : TD) : TD := fun ss Q Ed => match nth ss i with
  | .own _ ds => tb ss (fun y => match y with
    | .int k => (match atI ds k with
      | some d => Q d
      | none => False)
    | _ => False) Ed
  | _ => False
theorem d_ixOwn {a b : Expr} {pos : Pos} {i : Nat} {tb : TD} (ha : PE X a (tVar i)) (hb : DE X c b tb) (hs : PlainIx b := by exact fun _ _ => rfl) : DE X c (.Subscript a b pos) (tdIxOwn i tb) := by
  refine pe_imp (pe_ix ix_list ha hb hs) fun σ H Q q => ?_
  obtain ⟨O, Hs, ss, Qd, Ed, A, h, er, g⟩ := q
  have hsl := A.sl i
  unfold tdIxOwn at h
  split at h
  · rename_i p ds hx
    rw [hx] at hsl
    obtain ⟨xs, e1, h1, h2, h3⟩ := hsl
    refine ⟨_, e1, O, Hs, ss, _, Ed, A, h, er, fun d v Hs1 H1 x1 i1 q1 => ?_⟩
    cases d <;> first | exact q1.elim | skip
    rename_i k
    simp only at q1
    split at q1
    · rename_i d hd
      obtain ⟨w, hw, iw⟩ := atI_is (h3.same x1.fz) hd
      have h4 : H1 p = some (.lst xs) := x1.keep p _ (fun z => by have z : O p = some 0 := z; rw [h1] at z; cases z) h2
      exact ⟨p, xs, k, w, rfl, i1, .inl (.inl h4), hw, g _ _ Hs1 H1 x1 iw q1⟩
    · exact q1.elim
  · exact h.elim
end
end DL
set_option Elab.async false
set_option linter.all false
set_option maxRecDepth 100000
set_option maxHeartbeats 4000000
/-! Promises of defs that are called while nothing is being shown (no repr runs around them), and repr of data -/
namespace LG
open PySem PySem.Spec PyProof.Rows L2
/-- as a promise, of calls where no repr runs -/
structure FnG (P : Program) (w : World) (K : PySem.W.Frag) (mg : Str → Option Value) (base : Heap) (CX : CXT) (k : Nat) (f : Addr) (fd : FuncData) (ps : List Str) (sp : Sp) : Prop where
  len : ∀ vs H Q E, sp vs H Q E → vs.length = ps.length
  run : ∀ (A : Around) (outer : List Env) (s : Shared) (H : Hp) (args : Args) (us : List Value) (vs : List V) (Q : VK) (E : XK), A.guards = some [] → Room k A → Env0 P w K mg base A outer s H → BindsTo s fd args (ps.zip us) → Vals vs us → sp vs H Q E →
    codeAny (model P w) A (.call (.ref f) args) (CR CX outer P w H s Q E) s
section
variable {P : Program} {w : World} {K : PySem.W.Frag} {mg : Str → Option Value} {base : Heap} {CX : CXT} {k : Nat} {f : Addr} {fd : FuncData} {ps : List Str} {sp : Sp}
theorem _root_.L2.FnOk.toG (F : FnOk P w K mg base CX k f fd ps sp) : FnG P w K mg base CX k f fd ps sp := ⟨F.len, fun A outer s H args us vs Q E _ => F.run A outer s H args us vs Q E⟩
theorem FnG.imp {sp' : Sp} (F : FnG P w K mg base CX k f fd ps sp) (h : ∀ vs H Q E, sp' vs H Q E → sp vs H Q E) : FnG P w K mg base CX k f fd ps sp' :=
  ⟨fun vs H Q E q => F.len vs H Q E (h _ _ _ _ q), fun A outer s H args us vs Q E g hr he hb hv hs => F.run A outer s H args us vs Q E g hr he hb hv (h _ _ _ _ hs)⟩
/-- THE RULE for such a def -/
theorem fun_okG {x qual : Str} {st : Stmt} {N : List Str} (F : Fun K x qual st f fd) (S : FnScope N ps (defScope st)) (len : ∀ vs H Q E, sp vs H Q E → vs.length = ps.length)
    (body : ∀ (cdv : Value) (A : Around) (outer : List Env) (s : Shared) (H : Hp) (vs : List V) (Q : VK) (E : XK), A.guards = some [] → Room k (A.deeper (envOfC qual (defScope st) s.heap.objs.size f cdv)) → sp vs H Q E →
      ∃ t, PSs (cxOf CX P w K mg base N qual (defScope st) f cdv A outer s H E) (defBody st) t ∧ t { nx := fun _ H' => Q .non H', rt := Q } (start N vs) H) : FnG P w K mg base CX (k + 1) f fd ps sp := by
  obtain ⟨oc, od, kV, doc, pm, an, cdv, ct, osl, rfl, lk, hcd⟩ := F.ex
  refine ⟨len, fun A outer s H args us vs Q E g hr e0 hb r hsp => ?_⟩
  have kin : K.In s.heap := e0.mod.kin.keeps fun b o e => (e0.bs b o e).1
  have lim : s.heap.NoLimit := e0.mod.nolimit.keeps fun b o e => (e0.bs b o e).1
  refine codeAny_call_function hr.depth (kin _ _ lk) rfl S.co S.gen rfl (PySem.W.codeRec_of kin hcd) (hb _ _ _ _ ?_)
  refine wpAny_newFunctionEnv_cells S.kind (fun y hy => ?_) fun env he s1 x => ?_
  · rcases S.par y.1 (List.of_mem_zip (a := y.1) (b := y.2) hy).1 with q | q
    · exact .inl q
    · exact .inr ⟨q, PySem.W.cellsFrom_some _ _ _ (.inl q)⟩
  subst he
  refine ⟨lim.keeps x.toInCall.keep, codeAny_func ?_⟩
  obtain ⟨t, ht, hq⟩ := body cdv A outer s H vs Q E g (hr.deeper _) hsp
  have I := inv_start (CX := CX) (N := N) (E := E) S hr.hd e0 (len _ _ _ _ hsp) r x
  refine wpAny_mono (ht.run [] s1 (start N vs) H _ I hq) (fun fl s' hs => ?_) fun e s' hs => hs
  cases fl with
  | ret u => exact let ⟨v, _, H', J, rv, q⟩ := hs; ⟨v, H', J.os, J.bare, J.base, J.hok, rv, q⟩
  | next => exact let ⟨_, H', J, q⟩ := hs; ⟨V.non, H', J.os, J.bare, J.base, J.hok, rfl, q⟩
  | brk => exact let ⟨_, _, _, q⟩ := hs; False.elim q
  | cont => exact let ⟨_, _, _, q⟩ := hs; False.elim q
end
section
variable {X : Cx} {CX : CXT} {k : Nat} {f : Addr} {fd : FuncData} {ps : List Str} {sp : Sp} {dvs : List V} {ds : List Value} {E : XK} {x : Str} {p pos : Pos} {e : Expr} {es : List Expr} {t : TA}
/-- f(e, ..) of such a def -/
theorem pe_callG (F : FnG X.prog X.w X.K X.mg X.base CX k f fd ps sp) (g : X.A.guards = some []) (hr : Room k X.A) (hg : Gl X x) (hm : X.mg x = some (.ref f)) (hk : PySem.W.keepIn X.K (.ref f) = true) (hb : Binds X.K fd ps ds) (hd : Vals dvs ds) (hx : Passes CX X E)
    (ha : PA X (e :: es) t) (hdb : (x == ("__debug__" : Str)) = false := by decide) (he : starEach (e :: es) X.env = (false, eval e X.env) :: starEach es X.env := by rfl) (hpl : (backTo pos (starEach es X.env)).any (·.1) = false := by rfl) :
    PE X (.Call (.Name x p) (e :: es) [] pos) (tCall sp dvs E t) := by
  refine ⟨fun pins s σ H Q I h => wpAny_Call_Name_kw (ld_glob I hg hm ?_ hdb)⟩
  refine PySem.W.callWith_K (h₀ := X.base) I.ok.mod.kin hk (thn (ha.run pos pins s σ H _ I h) fun us s1 ⟨vs, H1, J, r, q⟩ => ⟨J.kIn, ?_⟩) he hpl
  have r2 : Vals (vs ++ dvs) (us ++ ds) := r.append hd
  refine wpAny_call (codeAny_mono (F.run X.A X.stack s1 H1 ⟨us, []⟩ _ _ Q E g hr J.env0 (hb s1 us J.kIn (r2.length.symm.trans (F.len _ _ _ _ q))) r2 q) fun r s' hq => ?_)
  cases r with
  | error e => exact hx pins σ H1 s1 e s' J hq
  | ok fl =>
    cases fl with
    | ret u => exact J.after hq
    | next => exact False.elim hq
    | brk => exact False.elim hq
    | cont => exact False.elim hq
end

/-! ### repr of data -/
/-- what may be shown: no dict, no great int, no long text -/
def Fine (d : PyData) : Prop := d.showable = true ∧ d.hasDict = false ∧ d.depth ≤ 8 ∧ d.shown.length ≤ sizeLine
def rRepr (K : PySem.W.Frag) : List V → Hp → VK → Prop := fun vs H Q => ∃ (a : Addr) (d : PyData), vs = [.ref a] ∧ Dp K H (.ref a) d ∧ Fine d ∧ Q (.str d.shown) H
theorem cr_repr {X : Cx} (g : X.A.guards = some []) (hu : X.A.units + 64 < cLine) : CallR X (.builtin "repr") (rRepr X.K) := by
  intro pins s σ H vs us Q I r h
  obtain ⟨a, d, rfl, hd, ⟨f1, f2, f3, f4⟩, q⟩ := h
  rw [Vals.ref1 r]
  obtain ⟨as, rd⟩ := Dp.reads I d _ _ hd rfl
  exact repr_of_reads' rd f1 (fun h' => absurd (f2.symm.trans h') (by decide)) g (by omega) (fun _ _ e => e) (fun h' u tk k => ⟨.str d.shown, H, I.kept k, ⟨_, rfl⟩, q⟩) f4

/-! ### the law's call -/
/-- the script's heap: nothing else is tracked -/
theorem law_callG {P : Program} {w : World} {K : PySem.W.Frag} {mg mb : Str → Option Value} {CX : CXT} {k : Nat} {fa a : Addr} {fd : FuncData} {x : Str} {sp : Sp} {s1 : Shared} {vs : List Value} {ns : List Int}
    (kin : K.In s1.heap) (hns : s1.heap.Ns mainGlobals mg) (hb : s1.heap.Ns builtinsNs mb) (hbb : ∀ x : Str, x ≠ "__name__" → mb x = bootBuiltins x) (lim : s1.heap.NoLimit) (hg : s1.gens = #[])
    (ha : s1.heap.get? a = some { cls := .type "list", data := .seq vs.toArray }) (hi : IntsAre vs ns) (hl : ns.length ≤ sizeLine) (hr : Room k callerA)
    (F : ∀ base : Heap, K.In base → base.Ns mainGlobals mg → FnG P w K mg base CX k fa fd [x] sp) (bind : ∀ (s : Shared) (u : Value), BindsTo s fd ⟨[u], []⟩ [(x, u)])
    (hsp : ∀ H : Hp, Only H → SqL K H a (ns.map V.int) → sp [.ref a] H (fun v _ => v = .bl true) fun _ _ _ => False) (hCX : ∀ H e s', CX [] H s1 (fun _ _ _ => False) e s' → False) :
    codeAny (model P w) callerA (.call (.ref fa) ⟨[.ref a], []⟩) (fun r s' => r = .ok (.ret (.bool true)) ∧ OldK s1.heap s'.heap ∧ s'.os = s1.os ∧ AllBare s'.gens) s1 := by
  have rv := vals_ints hi
  -- over a heap that tracks the script or nothing
  have go : ∀ H : Hp, Only H → SqL K H a (ns.map V.int) → HOk P w H s1.heap → (∀ b u, H b = some u → b = a ∧ K.lookup a = none) →
      codeAny (model P w) callerA (.call (.ref fa) ⟨[.ref a], []⟩) (fun r s' => r = .ok (.ret (.bool true)) ∧ OldK s1.heap s'.heap ∧ s'.os = s1.os ∧ AllBare s'.gens) s1 := by
    intro H only hS hok one
    have free : ∀ {b : Addr} {o : Obj} {es : Array DictEntry} {ep : Nat}, s1.heap.get? b = some o → o.data = .dict es ep → H b = none := fun {b o es ep} e d => by
      cases q : H b with
      | none => rfl
      | some u =>
        obtain ⟨rfl, _⟩ := one b u q
        have e2 := Option.some.inj (e.symm.trans ha)
        subst e2
        cases d
    have ns1 : ∀ {b : Addr} {m : Str → Option Value}, s1.heap.Ns b m → (hidT s1.heap H).Ns b m := fun {b m} ⟨o, es, ep, e, d, r⟩ => ⟨o, es, ep, hidT_get e (free e d), d, r⟩
    have kin1 : K.In (hidT s1.heap H) := fun b o e => hidT_get (kin b o e) (by
      cases q : H b with
      | none => rfl
      | some u =>
        obtain ⟨rfl, z⟩ := one b u q
        rw [z] at e
        cases e)
    have M : Mod K mg (hidT s1.heap H) := ⟨kin1, ns1 hns, ⟨mb, ns1 hb, hbb⟩, let ⟨mc, h1, h2⟩ := lim; ⟨mc, ns1 h1, h2⟩⟩
    have e0 : Env0 P w K mg (hidT s1.heap H) callerA [] s1 H := ⟨rfl, M, fun b o e => of_hidT e, Nat.le_of_eq (hidT_size _ _), trivial, fun b z => absurd (show b ∈ ([] : List Addr) from z) (by simp), hok, .of_eq hg⟩
    refine codeAny_mono ((F _ kin1 (ns1 hns)).run callerA [] s1 H ⟨[.ref a], []⟩ [.ref a] [.ref a] _ _ rfl hr e0 (bind s1 (.ref a)) (.cons rfl .nil) (hsp H only hS)) fun r s' h => ?_
    match r, h with
    | .error e, h => exact (hCX H e s' h).elim
    | .ok .next, h => exact False.elim h
    | .ok .brk, h => exact False.elim h
    | .ok .cont, h => exact False.elim h
    | .ok (.ret u), h =>
      obtain ⟨v, H', os, bare, un, hok', r', q⟩ := h
      have q' : v = .bl true := q
      subst q'
      have r2 : u = Value.bool true := r'
      subst r2
      refine ⟨rfl, OldK.of_keep fun b o e => ?_, os, bare⟩
      cases z : H b with
      | none => exact un.keep b o e z (fun y => absurd (show b ∈ ([] : List Addr) from y) (by simp)) (by simp)
      | some u =>
        rcases only b with y | ⟨ob, xs, y⟩
        · rw [z] at y
          cases y
        · have e1 := (hok b _ y).1
          rw [e] at e1
          cases e1
          exact (hok' b _ (un.frzs b _ _ y)).1
  cases hk : K.lookup a with
  | some o =>
    have e := kin a o hk
    rw [ha] at e
    cases e
    exact go (fun _ => none) (fun _ => .inl rfl) (.inr ⟨_, vs.toArray, _, hk, rfl, rfl, rfl, by rw [List.size_toArray, hi.length]; exact hl, by simpa using rv⟩) (fun b u z => nomatch z) fun b u z => nomatch z
  | none =>
    have at1 : ∀ b, b ≠ a → (fun b => if b = a then some (HO.frz { cls := .type "list", data := .seq vs.toArray } (.lst (ns.map V.int))) else none : Hp) b = none := fun b h => if_neg h
    have at2 : (fun b => if b = a then some (HO.frz { cls := .type "list", data := .seq vs.toArray } (.lst (ns.map V.int))) else none : Hp) a = some (HO.frz { cls := .type "list", data := .seq vs.toArray } (.lst (ns.map V.int))) := if_pos rfl
    generalize (fun b => if b = a then some (HO.frz { cls := .type "list", data := .seq vs.toArray } (.lst (ns.map V.int))) else none : Hp) = H at at1 at2
    refine go H (fun b => ?_) (.inl (.inr ⟨_, at2⟩)) (fun b u z => ?_) fun b u z => ?_
    · by_cases h : b = a
      · subst h
        exact .inr ⟨_, _, at2⟩
      · exact .inl (at1 b h)
    · by_cases h : b = a
      · subst h
        have := Option.some.inj (z.symm.trans at2)
        subst this
        exact ⟨ha, by rw [List.length_map]; exact hl, vs, _, rv, ha⟩
      · rw [at1 b h] at z
        cases z
    · by_cases h : b = a
      · exact ⟨h, hk⟩
      · rw [at1 b h] at z
        cases z
theorem walk_G {l : PySem.W.OpenLaw} {n k : Nat} {q : Program} {loose : List Str} {XP : (Str → Option Value) → Heap → Prop} {YP : World → Heap → Prop} {d : DefRec} {K : Params → PySem.W.Frag} {CX : World → CXT} {sp : World → Sp} {x : Str}
    (hn : l.most = some n) (hn2 : n ≤ sizeLine) (hdf : d.params.defaults = []) (hr : Room k callerA) (hY : ∀ (w : World) (h : Heap), YP w h → (K w.params).In h)
    (F : ∀ (w : World) (mg : Str → Option Value) (fa : Addr) (h : Heap), (K w.params).In h → h.Ns mainGlobals mg → mg d.name = some (.ref fa) →
      ∃ fd : FuncData, (∀ (s : Shared) (u : Value), BindsTo s fd ⟨[u], []⟩ [(x, u)]) ∧ ∀ base : Heap, (K w.params).In base → base.Ns mainGlobals mg → FnG l.prog w (K w.params) mg base (CX w) k fa fd [x] (sp w))
    (hsp : ∀ (w : World) (H : Hp) (a : Addr) (ns : List Int), ns.length ≤ n → Only H → SqL (K w.params) H a (ns.map V.int) → sp w [.ref a] H (fun v _ => v = .bl true) fun _ _ _ => False)
    (hCX : ∀ (w : World) (H : Hp) (s : Shared) (e : Value) (s' : Shared), CX w [] H s (fun _ _ _ => False) e s' → False) :
    PySem.W.WalkO q loose XP YP l.row.toRowW d [] (fun f vs => PySem.call f vs) := by
  refine Att.attach_call hn hdf fun w s₀ s₁ mg mb fa o pm cd doc a vs ns G Y ho hd hcd hmg hobj hints hlen hg => ?_
  obtain ⟨fd, hb, hF⟩ := F w mg fa _ (hY w _ Y) G.T.g hmg
  exact law_callG (hY w _ Y) G.T.g G.T.b G.T.builtins G.T.nolimit hg hobj hints (Nat.le_trans hlen hn2) hr hF hb (fun H hO hS => hsp w H a ns hlen hO hS) fun H e s' => hCX w H s₁ e s'
end LG
set_option Elab.async false
set_option linter.all false
set_option maxRecDepth 100000
set_option maxHeartbeats 4000000
/-! DF: iterators, comprehensions, what is never reached, a def's promise -/
namespace DL
open PySem PySem.Spec PyProof.Rows L2
section
variable {X : Cx} {c : Cn} {tg : Expr}
/-! ### what is walked -/
/-- a list or a tuple -/
def iSeq (K : PySem.W.Frag) (tl : TE) : TI := fun σ H R => tl σ H fun x H1 => ∃ a, x = .ref a ∧ (((∃ xs, SqL K H1 a xs) ∧ R (Itl K a) H1) ∨ ((∃ xs, SqT K H1 a xs) ∧ R (Itt K a) H1))
theorem fp_new {pins : List (Addr × Obj)} {σ : L2.St} {H : Hp} {s : Shared} (I : Inv X pins σ H s) : ∀ b ∈ [s.heap.objs.size], FpOk X pins H b := fun b hb => by
  cases List.mem_singleton.mp hb
  exact I.fpOk (Nat.le_refl _) (I.hok.fresh (Nat.le_refl _))
theorem pi_seq {l : Expr} {tl : TE} (hl : PE X l tl) : PI X tg l (iSeq X.K tl) := by
  refine ⟨fun pins s σ H R I h => thn (hl.run pins s σ H _ I h) fun v s1 ⟨x, H1, J, r1, a, ex, q⟩ => ?_⟩
  subst ex
  cases r1
  have up : ∀ o : Obj, Inv X pins σ H1 { s1 with heap := s1.heap.push o } := fun o => J.kept (t' := s1.toks) fun b o' z => Heap.get?_push_of_some _ z
  rcases q with ⟨⟨xs, hq⟩, q⟩ | ⟨⟨xs, hq⟩, q⟩
  · obtain ⟨its, _, pl, _⟩ := J.list hq
    exact wpAny_pyIter_list pl.isList ⟨s1.heap.objs.size, _, _, _, H1, rfl, up _, turn_list a _, ⟨_, Heap.get?_push_size _ rfl, rfl, rfl⟩, fp_new J, q⟩
  · obtain ⟨its, _, pl, _⟩ := J.tuple hq
    exact wpAny_pyIter_tuple (show s1.heap.IsTuple a its.toArray from pl) ⟨s1.heap.objs.size, _, _, _, H1, rfl, up _, turn_tuple a _, ⟨_, Heap.get?_push_size _ rfl, rfl, rfl⟩, fp_new J, q⟩
/-- the list at a is read where Hs holds it -/
theorem itl_items {K : PySem.W.Frag} {Hs : Hp} {a : Addr} {xs : List V} {ds : List D} (h1 : Hs a = some (.lst xs)) (h2 : IsA K Hs ds xs) : ItIs K (Itl K a) ds Hs where
  go := fun i Hs' H s1 s2 hi => ⟨xs, xs[i]'(by rw [h2.len]; exact hi), .of ((s1.trans s2) _ _ h1), List.getElem?_eq_getElem _⟩
  stop := fun i Hs' H s1 s2 hi0 => have hi := Nat.le_of_eq hi0; ⟨xs, .of ((s1.trans s2) _ _ h1), by rw [h2.len]; exact hi⟩
  yld := fun i Hs' H v H' d s1 s2 y hd => by
    obtain ⟨e, y⟩ := y
    subst e
    have hx := y xs (.of ((s1.trans s2) _ _ h1))
    obtain ⟨x, hx2, ix⟩ := h2.get hd
    rw [hx] at hx2
    cases hx2
    exact ⟨Hs', fun Z => .refl s2, ix.same s1⟩
theorem itt_items {K : PySem.W.Frag} {Hs : Hp} {a : Addr} {xs : List V} {ds : List D} (h1 : SqT K Hs a xs) (h2 : IsA K Hs ds xs) : ItIs K (Itt K a) ds Hs where
  go := fun i Hs' H s1 s2 hi => ⟨xs, xs[i]'(by rw [h2.len]; exact hi), same_sqt (s1.trans s2) h1, List.getElem?_eq_getElem _⟩
  stop := fun i Hs' H s1 s2 hi0 => have hi := Nat.le_of_eq hi0; ⟨xs, same_sqt (s1.trans s2) h1, by rw [h2.len]; exact hi⟩
  yld := fun i Hs' H v H' d s1 s2 y hd => by
    obtain ⟨e, y⟩ := y
    subst e
    have hx := y xs (same_sqt (s1.trans s2) h1)
    obtain ⟨x, hx2, ix⟩ := h2.get hd
    rw [hx] at hx2
    cases hx2
    exact ⟨Hs', fun Z => .refl s2, ix.same s1⟩
def itemsD (x : D) (Q : List D → Prop) : Prop := match x with
  | .lst ds => Q ds
  | .tup ds => Q ds
  | _ => False
def tiSeq (te : TD) : TID := fun ss Q Ed => te ss (fun x => itemsD x Q) Ed
theorem di_seq {l : Expr} {te : TD} (h : DE X c l te) : DI X c tg l (tiSeq te) := by
  refine pi_imp (pi_seq h) fun σ H R q => ?_
  obtain ⟨O, Hs, ss, Qi, Ed, A, h, er, g⟩ := q
  refine ⟨O, Hs, ss, _, Ed, A, h, er, fun d v Hs1 H1 x1 i1 q1 => ?_⟩
  unfold itemsD at q1
  split at q1
  · obtain ⟨a, xs, e, h1, h2⟩ := i1
    exact ⟨a, e, .inl ⟨⟨xs, .of (x1.sub _ _ h1)⟩, g _ _ Hs1 H1 x1 (itl_items h1 h2) q1⟩⟩
  · obtain ⟨a, xs, e, h1, h2⟩ := i1
    exact ⟨a, e, .inr ⟨⟨xs, same_sqt x1.sub h1⟩, g _ _ Hs1 H1 x1 (itt_items h1 h2) q1⟩⟩
  · exact q1.elim
def rngD (lo : Int) (n : Nat) : List D := (List.range n).map fun k : Nat => .int (lo + (k : Int))
theorem rngD_len (lo : Int) (n : Nat) : (rngD lo n).length = n := by unfold rngD; rw [List.length_map, List.length_range]
theorem rngD_get {lo : Int} {n i : Nat} {d : D} (h : (rngD lo n)[i]? = some d) : i < n ∧ d = .int (lo + i) := by
  unfold rngD at h
  rw [List.getElem?_map] at h
  cases q : (List.range n)[i]? with
  | none => rw [q] at h; cases h
  | some k =>
    rw [q] at h
    have hi := (List.getElem?_eq_some_iff.mp q).1
    rw [List.length_range] at hi
    rw [List.getElem?_range hi] at q
    cases q
    exact ⟨hi, (Option.some.inj h).symm⟩
theorem itr_items {K : PySem.W.Frag} {Hs : Hp} (lo : Int) (n : Nat) : ItIs K (Itr lo n) (rngD lo n) Hs where
  go := fun i Hs' H s1 s2 hi => by rw [rngD_len] at hi; exact hi
  stop := fun i Hs' H s1 s2 hi0 => have hi := Nat.le_of_eq hi0; by rw [rngD_len] at hi; exact hi
  yld := fun i Hs' H v H' d s1 s2 y hd => by
    obtain ⟨e, y⟩ := y
    subst e
    obtain ⟨_, e2⟩ := rngD_get hd
    subst e2
    exact ⟨Hs', fun Z => .refl s2, y⟩
def tiRng1 (t : TAD) : TID := fun ss Q Ed => t ss (fun as => allD as fun ds => match ds with
  | [.int j] => (-(2 ^ 62) ≤ j ∧ j < 2 ^ 62) ∧ Q (rngD 0 j.toNat)
  | _ => False) Ed
theorem di_rng1 {a : Expr} {t : TAD} {p pos : Pos} (hm : X.mg "range" = none) (ha : DAs X c [a] t) (hg : Gl X "range" := by rfl) (hs : starEach [a] X.env = [(false, eval a X.env)] := by rfl) : DI X c tg (.Call (.Name "range" p) [a] [] pos) (tiRng1 t) := by
  refine pi_imp (pi_range1 hg hm ha hs) fun σ H R q => ?_
  obtain ⟨O, Hs, ss, Qi, Ed, A, h, er, g⟩ := q
  refine ⟨O, Hs, ss, _, Ed, A, h, er, fun as vs Hs1 H1 x1 i1 q1 => ?_⟩
  obtain ⟨ds, h3, h4⟩ := allD_is i1 q1
  split at h4
  · obtain ⟨x, e, ix⟩ := isA1 h3
    cases ix
    subst e
    exact ⟨_, rfl, h4.1.1, h4.1.2, g _ _ Hs1 H1 x1 (itr_items 0 _) h4.2⟩
  · exact h4.elim
def tiRng2 (t : TAD) : TID := fun ss Q Ed => t ss (fun as => allD as fun ds => match ds with
  | [.int i, .int j] => (-(2 ^ 62) ≤ i ∧ i < 2 ^ 62 ∧ -(2 ^ 62) ≤ j ∧ j < 2 ^ 62) ∧ Q (rngD i (j - i).toNat)
  | _ => False) Ed
theorem di_rng2 {a b : Expr} {t : TAD} {p pos : Pos} (hm : X.mg "range" = none) (ha : DAs X c [a, b] t) (hg : Gl X "range" := by rfl) (hs : starEach [a, b] X.env = [(false, eval a X.env), (false, eval b X.env)] := by rfl) (hs2 : starEach [b] X.env = [(false, eval b X.env)] := by rfl) : DI X c tg (.Call (.Name "range" p) [a, b] [] pos) (tiRng2 t) := by
  refine pi_imp (pi_range2 hg hm ha hs hs2) fun σ H R q => ?_
  obtain ⟨O, Hs, ss, Qi, Ed, A, h, er, g⟩ := q
  refine ⟨O, Hs, ss, _, Ed, A, h, er, fun as vs Hs1 H1 x1 i1 q1 => ?_⟩
  obtain ⟨ds, h3, h4⟩ := allD_is i1 q1
  split at h4
  · obtain ⟨x, y, e, ix, iy⟩ := isA2 h3
    cases ix
    cases iy
    subst e
    exact ⟨_, _, rfl, h4.1, g _ _ Hs1 H1 x1 (itr_items _ _) h4.2⟩
  · exact h4.elim
/-- enumerate of a list -/
def enumD : Nat → List D → List D
  | _, [] => []
  | n, d :: ds => .tup [.int (n : Nat), d] :: enumD (n + 1) ds
theorem enumD_len : ∀ (ds : List D) (n : Nat), (enumD n ds).length = ds.length
  | [], _ => rfl
  | _ :: ds, n => congrArg Nat.succ (enumD_len ds (n + 1))
theorem enumD_get : ∀ {ds : List D} {n i : Nat} {d : D}, (enumD n ds)[i]? = some d → ∃ x, ds[i]? = some x ∧ d = .tup [.int ((n + i : Nat) : Int), x]
  | [], _, _, _, h => by simp [enumD] at h
  | x :: ds, n, 0, d, h => by simp [enumD] at h; exact ⟨x, rfl, h.symm⟩
  | x :: ds, n, i + 1, d, h => by
    obtain ⟨y, h1, h2⟩ := enumD_get (ds := ds) (n := n + 1) (i := i) (d := d) (by simpa [enumD] using h)
    exact ⟨y, by simpa using h1, by rw [h2, show n + 1 + i = n + (i + 1) by omega]⟩
theorem ite_items {K : PySem.W.Frag} {Hs : Hp} {a : Addr} {xs : List V} {ds : List D} (h1 : Hs a = some (.lst xs)) (h2 : IsA K Hs ds xs) : ItIs K (Ite K a) (enumD 0 ds) Hs where
  go := fun i Hs' H s1 s2 hi => ⟨xs, xs[i]'(by rw [h2.len]; rw [enumD_len] at hi; exact hi), .of ((s1.trans s2) _ _ h1), List.getElem?_eq_getElem _⟩
  stop := fun i Hs' H s1 s2 hi0 => have hi := Nat.le_of_eq hi0; ⟨xs, .of ((s1.trans s2) _ _ h1), by rw [h2.len]; rw [enumD_len] at hi; exact hi⟩
  yld := fun i Hs' H v H' d s1 s2 y hd => by
    obtain ⟨T, x, e, nT, e2, y⟩ := y
    subst e; subst e2
    have hx := y xs (.of ((s1.trans s2) _ _ h1))
    obtain ⟨z, hz, ed⟩ := enumD_get hd
    obtain ⟨w, hw, iw⟩ := h2.get hz
    rw [hx] at hw
    cases hw
    subst ed
    have L := fun Z => Ext.laid (Z := Z) (o := .tup [.int (i : Nat), x]) s2 nT
    refine ⟨_, L, T, _, rfl, .inl (.inl upd_same), .int i, _, rfl, ?_, x, _, rfl, (iw.same s1).same (L fun _ => False).fz, rfl⟩
    show V.int (i : Int) = V.int ((0 + i : Nat) : Int)
    rw [Nat.zero_add]
def tiEnum (te : TD) : TID := fun ss Q Ed => te ss (fun x => match x with
  | .lst ds => Q (enumD 0 ds)
  | _ => False) Ed
theorem di_enum {e : Expr} {te : TD} {p pos tpos : Pos} {elts : List Expr} {kk : Nat} (hm : X.mg "enumerate" = none) (h : DE X c e te) (hg : Gl X "enumerate" := by rfl) (hs : starEach [e] X.env = [(false, eval e X.env)] := by rfl) (hs1 : starEach [e] X.env = (false, eval e X.env) :: starEach [] X.env := by rfl) : DI X c (.Tuple elts kk tpos) (.Call (.Name "enumerate" p) [e] [] pos) (tiEnum te) := by
  refine pi_imp (pi_enum hg hm (pa_cons h pa_nil hs1) hs) fun σ H R q => ?_
  obtain ⟨O, Hs, ss, Qi, Ed, A, h, er, g⟩ := q
  refine ⟨O, Hs, ss, _, Ed, A, h, er, fun d v Hs1 H1 x1 i1 q1 => ?_⟩
  split at q1
  · obtain ⟨a, xs, e, h1, h2⟩ := i1
    subst e
    exact ⟨a, xs, rfl, .of (x1.sub _ _ h1), g _ _ Hs1 H1 x1 (ite_items h1 h2) q1⟩
  · exact q1.elim
/-- zip of two lists -/
def zipD : List D → List D → List D
  | x :: xs, y :: ys => .tup [x, y] :: zipD xs ys
  | _, _ => []
theorem zipD_len : ∀ (xs ys : List D), (zipD xs ys).length = min xs.length ys.length
  | [], ys => by simp [zipD]
  | _ :: _, [] => by simp [zipD]
  | _ :: xs, _ :: ys => by simp [zipD, zipD_len xs ys]
theorem zipD_get : ∀ {xs ys : List D} {i : Nat} {d : D}, (zipD xs ys)[i]? = some d → ∃ x y, xs[i]? = some x ∧ ys[i]? = some y ∧ d = .tup [x, y]
  | [], _, _, _, h => by simp [zipD] at h
  | _ :: _, [], _, _, h => by simp [zipD] at h
  | x :: xs, y :: ys, 0, d, h => by simp [zipD] at h; exact ⟨x, y, rfl, rfl, h.symm⟩
  | x :: xs, y :: ys, i + 1, d, h => by
    obtain ⟨a, b, h1, h2, h3⟩ := zipD_get (xs := xs) (ys := ys) (i := i) (d := d) (by simpa [zipD] using h)
    exact ⟨a, b, by simpa using h1, by simpa using h2, h3⟩
theorem itz_items {K : PySem.W.Frag} {Hs : Hp} {a b : Addr} {xs ys : List V} {ds es : List D} (h1 : Hs a = some (.lst xs)) (h2 : IsA K Hs ds xs) (h3 : Hs b = some (.lst ys)) (h4 : IsA K Hs es ys) : ItIs K (Itz K a b) (zipD ds es) Hs where
  go := fun i Hs' H s1 s2 hi => by
    rw [zipD_len] at hi
    exact ⟨xs, ys, xs[i]'(by rw [h2.len]; omega), ys[i]'(by rw [h4.len]; omega), .of ((s1.trans s2) _ _ h1), .of ((s1.trans s2) _ _ h3), List.getElem?_eq_getElem _, List.getElem?_eq_getElem _⟩
  stop := fun i Hs' H s1 s2 hi0 => by
    have hi := Nat.le_of_eq hi0
    rw [zipD_len] at hi
    exact ⟨xs, ys, .of ((s1.trans s2) _ _ h1), .of ((s1.trans s2) _ _ h3), by rw [h2.len, h4.len]; omega⟩
  yld := fun i Hs' H v H' d s1 s2 y hd => by
    obtain ⟨T, x, y', e, nT, e2, y1, y2⟩ := y
    subst e; subst e2
    have hx := y1 xs (.of ((s1.trans s2) _ _ h1))
    have hy := y2 ys (.of ((s1.trans s2) _ _ h3))
    obtain ⟨z, z', hz, hz', ed⟩ := zipD_get hd
    obtain ⟨w, hw, iw⟩ := h2.get hz
    obtain ⟨w', hw', iw'⟩ := h4.get hz'
    rw [hx] at hw
    rw [hy] at hw'
    cases hw
    cases hw'
    subst ed
    have L := fun Z => Ext.laid (Z := Z) (o := .tup [x, y']) s2 nT
    exact ⟨_, L, T, _, rfl, .inl (.inl upd_same), x, _, rfl, (iw.same s1).same (L fun _ => False).fz, y', _, rfl, (iw'.same s1).same (L fun _ => False).fz, rfl⟩
/-- zip of two tuples -/
theorem itzT_items {K : PySem.W.Frag} {Hs : Hp} {a b : Addr} {xs ys : List V} {ds es : List D} (h1 : SqT K Hs a xs) (h2 : IsA K Hs ds xs) (h3 : SqT K Hs b ys) (h4 : IsA K Hs es ys) : ItIs K (RZ.ItzT K a b) (zipD ds es) Hs where
  go := fun i Hs' H s1 s2 hi => by
    rw [zipD_len] at hi
    exact ⟨xs, ys, xs[i]'(by rw [h2.len]; omega), ys[i]'(by rw [h4.len]; omega), same_sqt (s1.trans s2) h1, same_sqt (s1.trans s2) h3, List.getElem?_eq_getElem _, List.getElem?_eq_getElem _⟩
  stop := fun i Hs' H s1 s2 hi0 => by
    have hi := Nat.le_of_eq hi0
    rw [zipD_len] at hi
    exact ⟨xs, ys, same_sqt (s1.trans s2) h1, same_sqt (s1.trans s2) h3, by rw [h2.len, h4.len]; omega⟩
  yld := fun i Hs' H v H' d s1 s2 y hd => by
    obtain ⟨T, x, y', e, nT, e2, y1, y2⟩ := y
    subst e; subst e2
    have hx := y1 xs (same_sqt (s1.trans s2) h1)
    have hy := y2 ys (same_sqt (s1.trans s2) h3)
    obtain ⟨z, z', hz, hz', ed⟩ := zipD_get hd
    obtain ⟨w, hw, iw⟩ := h2.get hz
    obtain ⟨w', hw', iw'⟩ := h4.get hz'
    rw [hx] at hw
    rw [hy] at hw'
    cases hw
    cases hw'
    subst ed
    have L := fun Z => Ext.laid (Z := Z) (o := .tup [x, y']) s2 nT
    exact ⟨_, L, T, _, rfl, .inl (.inl upd_same), x, _, rfl, (iw.same s1).same (L fun _ => False).fz, y', _, rfl, (iw'.same s1).same (L fun _ => False).fz, rfl⟩
def tiZip (t : TAD) : TID := fun ss Q Ed => t ss (fun as => allD as fun ds => match ds with
  | [.lst xs, .lst ys] => Q (zipD xs ys)
  | _ => False) Ed
theorem di_zip {e e2 : Expr} {t : TAD} {p pos tpos : Pos} {elts : List Expr} {kk : Nat} (hm : X.mg "zip" = none) (ha : DAs X c [e, e2] t) (hg : Gl X "zip" := by rfl)
    (hs : starEach [e, e2] X.env = (false, eval e X.env) :: starEach [e2] X.env := by rfl) (hpl : (backTo pos (starEach [e2] X.env)).any (·.1) = false := by rfl) : DI X c (.Tuple elts kk tpos) (.Call (.Name "zip" p) [e, e2] [] pos) (tiZip t) := by
  refine pi_imp (pi_zip hg hm ha hs hpl) fun σ H R q => ?_
  obtain ⟨O, Hs, ss, Qi, Ed, A, h, er, g⟩ := q
  refine ⟨O, Hs, ss, _, Ed, A, h, er, fun as vs Hs1 H1 x1 i1 q1 => ?_⟩
  obtain ⟨ds, h3, h4⟩ := allD_is i1 q1
  split at h4
  · obtain ⟨x, y, e, ⟨a, xs, ea, ha1, ha2⟩, ⟨b, ys, eb, hb1, hb2⟩⟩ := isA2 h3
    subst ea; subst eb; subst e
    exact ⟨a, b, xs, ys, rfl, .of (x1.sub _ _ ha1), .of (x1.sub _ _ hb1), g _ _ Hs1 H1 x1 (itz_items ha1 ha2 hb1 hb2) h4⟩
  · exact h4.elim
/-- over a list of the slot's own, which the body leaves as it is -/
def tdForOwn (i : Nat) (en : Bool) (pt : Pat) (tb : TSD) : TSD := fun En ss Ed => match nth ss i with
  | .own p ds => ∃ I : Nat → List Sl → Prop, I 0 ss ∧ (∀ k ss', I k ss' → nth ss' i = .own p ds) ∧
    (∀ k d ss', (if en then enumD 0 ds else ds)[k]? = some d → I k ss' → pt.gd d ss' fun ss2 => tb { nx := I (k + 1), rt := En.rt, ro := En.ro, bk := En.nx, ct := I (k + 1) } ss2 Ed) ∧ ∀ ss', I ds.length ss' → En.nx ss'
  | _ => False
theorem own_at {K : PySem.W.Frag} {c : Cn} {O Hs H σ ss} (A : Abs K c O Hs H σ ss) {i : Nat} {p : Addr} {ds : List D} (h : nth ss i = .own p ds) : ∃ xs, H p = some (.lst xs) ∧ IsA K Hs ds xs ∧ O p = some (i + 1) := by
  have q := A.sl i
  rw [h] at q
  obtain ⟨xs, _, h1, h2, h3⟩ := q
  exact ⟨xs, h2, h3, h1⟩
theorem own_items {K : PySem.W.Frag} {p : Addr} {ds : List D} {i : Nat} {c : Cn} {O Hs H σ ss} (A : Abs K c O Hs H σ ss) (h : nth ss i = .own p ds) : (∀ k d, ds[k]? = some d → (Itl K p).go k H) ∧ (∀ k, ds.length ≤ k → (Itl K p).stop k H) ∧ ∀ k v H' d, (Itl K p).yld k H v H' → ds[k]? = some d → H' = H ∧ Is K Hs d v := by
  obtain ⟨xs, h1, h2, _⟩ := own_at A h
  refine ⟨fun k d hd => ?_, fun k hk => ⟨xs, .inl (.inl h1), by rw [h2.len]; exact hk⟩, fun k v H' d y hd => ?_⟩
  · obtain ⟨x, hx, _⟩ := h2.get hd
    exact ⟨xs, x, .inl (.inl h1), hx⟩
  · obtain ⟨e, y⟩ := y
    have hx := y xs (.inl (.inl (e ▸ h1)))
    obtain ⟨x, hx2, ix⟩ := h2.get hd
    rw [hx] at hx2
    cases hx2
    exact ⟨e, ix⟩
theorem d_forOwn {iter : Expr} {body : List Stmt} {pos : Pos} {i : Nat} {pt : Pat} {tb : TSD} (hp : PassesOwn (model X.prog X.w) X.A X.env X.xe) (hc : X.calm = true) (hi : PE X iter (tVar i)) (hg : DG X tg pt) (hb : DSs X c body tb)
    (hs : ∀ x, foldedSetIterable iter X.env x = pure x := by intro _; rfl) : DS X c (.For tg iter body [] pos) (tdForOwn i false pt tb) := by
  refine ps_imp (ps_for hp hc (pi_list hi) hg hb hs) fun Dn σ H q => ?_
  obtain ⟨O, Hs, ss, En, Ed, A, h, er, gc⟩ := q
  unfold tdForOwn at h
  split at h
  · rename_i p ds hds
    obtain ⟨I, i0, keep, turn, fin⟩ := h
    simp only [Bool.false_eq_true, if_false] at turn
    have hsl := A.sl i
    rw [hds] at hsl
    obtain ⟨xs, e1, _, h2, _⟩ := hsl
    refine ⟨_, e1, p, rfl, ⟨xs, .inl (.inl h2)⟩, fun k m σ' H' => m = ds.length - k ∧ k ≤ ds.length ∧ ∃ O' Hs' ss', Abs X.K c O' Hs' H' σ' ss' ∧ Same Hs Hs' ∧ I k ss', ⟨_, rfl, Nat.zero_le _, O, Hs, ss, A, .refl _, i0⟩, ?_⟩
    rintro k m σ' H' ⟨rfl, hk, O', Hs', ss', A', s', q'⟩
    obtain ⟨go, stop, yld⟩ := own_items A' (keep k ss' q')
    by_cases hlt : k < ds.length
    · have hd : ds[k]? = some ds[k] := List.getElem?_eq_getElem hlt
      refine .inr ⟨go k _ hd, fun σ2 H2 => ∃ O2 Hs2 ss2, Abs X.K c O2 Hs2 H2 σ2 ss2 ∧ Same Hs Hs2 ∧ I (k + 1) ss2, fun σ2 H2 z => ⟨ds.length - (k + 1), by omega, rfl, hlt, z⟩, fun v H2 hy => ?_⟩
      obtain ⟨e, is2⟩ := yld k v H2 _ hy hd
      subst e
      refine pt.conn A' is2 (turn k _ ss' hd q') fun σ3 ss3 A3 _ q3 => ?_
      refine ⟨O', Hs', ss3, _, Ed, A3, q3, er, ?_⟩
      exact ⟨fun σ4 O4 Hs4 H4 ss4 z A4 q4 => ⟨O4, Hs4, ss4, A4, s'.trans z, q4⟩, fun σ4 O4 Hs4 H4 ss4 z A4 q4 => gc.nx σ4 O4 Hs4 H4 ss4 (s'.trans z) A4 q4, fun σ4 O4 Hs4 H4 ss4 z A4 q4 => ⟨O4, Hs4, ss4, A4, s'.trans z, q4⟩, gc.rt, gc.ro⟩
    · have e : k = ds.length := by omega
      subst e
      exact .inl ⟨stop _ (Nat.le_refl _), gc.nx σ' O' Hs' H' ss' s' A' (fin ss' q')⟩
  · exact h.elim
theorem d_forOwnE {e : Expr} {body : List Stmt} {p0 pos pos' tpos : Pos} {elts : List Expr} {kk : Nat} {i : Nat} {pt : Pat} {tb : TSD} (hp : PassesOwn (model X.prog X.w) X.A X.env X.xe) (hc : X.calm = true) (hm : X.mg "enumerate" = none) (hi : PE X e (tVar i)) (hg : DG X (.Tuple elts kk tpos) pt) (hb : DSs X c body tb)
    (hgl : Gl X "enumerate" := by rfl) (hs0 : starEach [e] X.env = [(false, eval e X.env)] := by rfl) (hs1 : starEach [e] X.env = (false, eval e X.env) :: starEach [] X.env := by rfl)
    (hs : ∀ x, foldedSetIterable (.Call (.Name "enumerate" p0) [e] [] pos') X.env x = pure x := by intro _; rfl) : DS X c (.For (.Tuple elts kk tpos) (.Call (.Name "enumerate" p0) [e] [] pos') body [] pos) (tdForOwn i true pt tb) := by
  refine ps_imp (ps_for hp hc (pi_enum hgl hm (pa_cons hi pa_nil hs1) hs0) hg hb hs) fun Dn σ H q => ?_
  obtain ⟨O, Hs, ss, En, Ed, A, h, er, gc⟩ := q
  unfold tdForOwn at h
  split at h
  · rename_i p ds hds
    obtain ⟨I, i0, keep, turn, fin⟩ := h
    simp only [if_true] at turn
    have hsl := A.sl i
    rw [hds] at hsl
    obtain ⟨xs, e1, _, h2, _⟩ := hsl
    refine ⟨_, e1, p, xs, rfl, .inl (.inl h2), fun k m σ' H' => m = ds.length - k ∧ k ≤ ds.length ∧ ∃ O' Hs' ss', Abs X.K c O' Hs' H' σ' ss' ∧ Same Hs Hs' ∧ I k ss', ⟨_, rfl, Nat.zero_le _, O, Hs, ss, A, .refl _, i0⟩, ?_⟩
    rintro k m σ' H' ⟨rfl, hk, O', Hs', ss', A', s', q'⟩
    obtain ⟨ys, k1, k2, _⟩ := own_at A' (keep k ss' q')
    by_cases hlt : k < ds.length
    · have hd : ds[k]? = some ds[k] := List.getElem?_eq_getElem hlt
      obtain ⟨x, hx, ix⟩ := k2.get hd
      refine .inr ⟨⟨ys, x, .inl (.inl k1), hx⟩, fun σ2 H2 => ∃ O2 Hs2 ss2, Abs X.K c O2 Hs2 H2 σ2 ss2 ∧ Same Hs Hs2 ∧ I (k + 1) ss2, fun σ2 H2 z => ⟨ds.length - (k + 1), by omega, rfl, hlt, z⟩, fun v H2 hy => ?_⟩
      obtain ⟨T, x', e, nT, e2, y⟩ := hy
      subst e; subst e2
      have hx' := y ys (.inl (.inl k1))
      rw [hx] at hx'
      cases hx'
      have L := Ext.laid (Z := Z0 O') (o := .tup [.int (k : Nat), x]) A'.sub nT
      have is2 : Is X.K (upd Hs' T (.tup [.int (k : Nat), x])) (.tup [.int (k : Nat), ds[k]]) (.ref T) := ⟨T, _, rfl, .inl (.inl upd_same), .int (k : Nat), _, rfl, rfl, x, _, rfl, ix.same L.fz, rfl⟩
      have hen : (enumD 0 ds)[k]? = some (.tup [.int (k : Nat), ds[k]]) := by
        have hl : k < (enumD 0 ds).length := by rw [enumD_len]; exact hlt
        have h0 : (enumD 0 ds)[k]? = some (enumD 0 ds)[k] := List.getElem?_eq_getElem hl
        obtain ⟨z, hz, ez⟩ := enumD_get h0
        rw [hd] at hz
        cases hz
        rw [h0, ez, Nat.zero_add]
      refine pt.conn (A'.next L) is2 (turn k _ ss' hen q') fun σ3 ss3 A3 _ q3 => ?_
      refine ⟨O', _, ss3, _, Ed, A3, q3, er, ?_⟩
      exact ⟨fun σ4 O4 Hs4 H4 ss4 z A4 q4 => ⟨O4, Hs4, ss4, A4, (s'.trans L.fz).trans z, q4⟩, fun σ4 O4 Hs4 H4 ss4 z A4 q4 => gc.nx σ4 O4 Hs4 H4 ss4 ((s'.trans L.fz).trans z) A4 q4, fun σ4 O4 Hs4 H4 ss4 z A4 q4 => ⟨O4, Hs4, ss4, A4, (s'.trans L.fz).trans z, q4⟩, gc.rt, gc.ro⟩
    · have e : k = ds.length := by omega
      subst e
      exact .inl ⟨⟨ys, .inl (.inl k1), by rw [k2.len]; exact Nat.le_refl _⟩, gc.nx σ' O' Hs' H' ss' s' A' (fin ss' q')⟩
  · exact h.elim
end
end DL
set_option Elab.async false
set_option linter.all false
set_option maxRecDepth 100000
set_option maxHeartbeats 4000000
/-! DH: list comprehensions over data; a def's promise; what is never reached -/
namespace DL
open PySem PySem.Spec PyProof.Rows L2
section
variable {X : Cx} {c : Cn} {tg : Expr}
/-! ### a list that is being made, in no slot -/
theorem Ext.put {Z : Addr → Prop} {Hs H Hs' H' : Hp} {p : Addr} {o : HO} (e : Ext Z Hs H Hs' H') (n : H p = none) (np : Hs' p = none) : Ext Z Hs H Hs' (upd H' p o) where
  fz := e.fz
  sub := fun b u h => by rw [upd_ne (ne_of_none h np)]; exact e.sub _ _ h
  keep := fun b u z h => by rw [upd_ne (ne_of_none h n)]; exact e.keep b u z h
  live := fun b h => by
    by_cases hb : b = p
    · subst hb; exact absurd n h
    · rw [upd_ne hb]; exact e.live b h
  new := e.new
  pool := fun b l z q => by
    obtain ⟨ns', x', y', w', k1, k2, k3⟩ := e.pool b l z q
    obtain ⟨_, _, _, _, h1, _⟩ := q
    exact ⟨ns', x', y', w', by rw [upd_ne (ne_of_none h1 n)]; exact k1, k2, k3⟩
/-! ### the block's own names -/
def wipeD (ss : List Sl) : List Nat → List Sl
  | [] => ss
  | v :: vs => put (wipeD ss vs) v .un
theorem Abs.wipe {K c O Hs H σ ss} (A : Abs K c O Hs H σ ss) : ∀ vs : List Nat, Abs K c O Hs H (L2.wipe σ vs) (wipeD ss vs)
  | [] => A
  | v :: vs => (A.wipe vs).lose
theorem wipe_eq {σ τ : L2.St} {vs : List Nat} (hl : σ.length = τ.length) (h : ∀ j, j ∉ vs → σ[j]? = τ[j]?) : L2.wipe σ vs = L2.wipe τ vs := by
  have key : ∀ (ρ : L2.St) (j : Nat), j ∈ vs → j < ρ.length → (L2.wipe ρ vs)[j]? = some none := by
    intro ρ j
    clear hl h
    induction vs with
    | nil => intro m; cases m
    | cons v vs ih =>
      intro m l
      unfold L2.wipe
      by_cases e : v = j
      · subst e
        rw [List.getElem?_set_self (by rw [wipe_length]; exact l)]
      · rw [List.getElem?_set_ne e]
        exact ih ((List.mem_cons.mp m).resolve_left fun z => e z.symm) l
  refine List.ext_getElem? fun j => ?_
  by_cases m : j ∈ vs
  · by_cases l : j < σ.length
    · rw [key σ j m l, key τ j m (by omega)]
    · rw [List.getElem?_eq_none (by rw [wipe_length]; omega), List.getElem?_eq_none (by rw [wipe_length]; omega)]
  · rw [wipe_out m, wipe_out m]
    exact h j m
/-- I: what holds of the new list ahead of each turn -/
def toLc (ti : TID) (p : Pat) (tt : TTD) (te : TD) (vs : List Nat) : TOD := fun ss Q Ed => ti ss (fun items => items.length < sizeLine ∧ ∃ I : Nat → List D → Prop, I 0 [] ∧
  (∀ i d acc, items[i]? = some d → I i acc → p.gd d (wipeD ss vs) fun ss2 => tt ss2 (fun b => if b = true then te ss2 (fun y => I (i + 1) (acc ++ [y])) Ed else I (i + 1) acc) Ed) ∧ ∀ acc, I items.length acc → Q acc) Ed
/-- tests of a clause -/
abbrev DTs (X : Cx) (c : Cn) (ifs : List Expr) (t : TTD) : Prop := PTs X ifs (liftT c X.K t)
def tdYes : TTD := fun _ Q _ => Q true
theorem dts_nil : DTs X c [] tdYes := ⟨fun pins s σ H Q I q => by
  obtain ⟨O, Hs, ss, Qd, Ed, A, h, er, g⟩ := q
  exact pts_nil.run pins s σ H Q I (g true Hs H (.refl A.sub) h)⟩
theorem dts_one {e : Expr} {t : TTD} (h : DT X c e t) : DTs X c [e] t := pts_one h
section
variable {elt iter : Expr} {ifs : List Expr} {scope : Scope} {own : List (Str × Nat)} {pos : Pos} {ti : TID} {p : Pat} {tt : TTD} {te : TD}
theorem lc_run (hsub : ∀ j ∈ p.vs, j ∈ own.map (·.2)) : ∀ σ H Q, liftO c X.K (toLc ti p tt te (own.map (·.2))) σ H Q → tLc (liftI c X.K ti) (p.tg X.K) (liftT c X.K tt) (lift c X.K te) (own.map (·.2)) σ H Q := by
  intro σ H Q q
  obtain ⟨O, Hs, ss, Qd, Ed, A, h, er, gc⟩ := q
  refine ⟨O, Hs, ss, _, Ed, A, h, er, fun items J Hs1 H1 x1 hJ q1 => ?_⟩
  obtain ⟨hlen, I, i0, turn, fin⟩ := q1
  intro D nD
  have A1 := A.next x1
  have nD1 : Hs1 D = none := by
    cases z : Hs1 D with
    | none => rfl
    | some u => rw [A1.sub _ _ z] at nD; cases nD
  have oD : O D = none := by
    cases z : O D with
    | none => rfl
    | some k => exact absurd nD (A1.live D (by rw [z]; exact fun z => nomatch z))
  refine ⟨fun i m H2 => m = items.length - i ∧ i ≤ items.length ∧ ∃ Hs2 xs acc, Ext (Z0 O) Hs1 H1 Hs2 H2 ∧ Hs2 D = none ∧ H2 D = some (.lst xs) ∧ IsA X.K Hs2 acc xs ∧ acc.length ≤ i ∧ I i acc, ⟨_, rfl, Nat.zero_le _, Hs1, [], [], Ext.grow x1.sub nD, nD1, upd_same, rfl, Nat.le_refl _, i0⟩, ?_⟩
  rintro i m H2 ⟨rfl, hi, Hs2, xs, acc, x2, n2, h2, h3, h4, q2⟩
  by_cases hlt : i < items.length
  · have hd : items[i]? = some items[i] := List.getElem?_eq_getElem hlt
    refine .inr ⟨hJ.go i Hs2 H2 x2.fz x2.sub hlt, fun H5 => ∃ Hs5 xs5 acc5, Ext (Z0 O) Hs1 H1 Hs5 H5 ∧ Hs5 D = none ∧ H5 D = some (.lst xs5) ∧ IsA X.K Hs5 acc5 xs5 ∧ acc5.length ≤ i + 1 ∧ I (i + 1) acc5, fun H5 z => ⟨items.length - (i + 1), by omega, rfl, hlt, z⟩, fun v H3 hy => ?_⟩
    obtain ⟨Hs3, x3, is3⟩ := hJ.yld i Hs2 H2 v H3 _ x2.fz x2.sub hy hd
    have x13 := x2.trans (x3 (Z0 O))
    have A3 := (A1.next x13).wipe (own.map (·.2))
    have D3 : H3 D = some (.lst xs) := (x3 (Z0 O)).keep D _ (fun z => by have z : O D = some 0 := z; rw [oD] at z; cases z) h2
    have n3 : Hs3 D = none := (x3 (Z0 O)).new D n2 (by rw [h2]; exact fun z => nomatch z)
    refine p.conn A3 is3 (turn i _ acc hd q2) fun σ4 ss4 A4 k4 q4 => ⟨?_, ?_⟩
    · have l0 : (L2.wipe σ (own.map (·.2))).length = σ.length := wipe_length _ _
      have e1 : L2.wipe σ4 (own.map (·.2)) = L2.wipe (L2.wipe σ (own.map (·.2))) (own.map (·.2)) := wipe_eq k4.1 fun j hj => k4.2 j fun m => hj (hsub j m)
      have e2 : L2.wipe (L2.wipe σ (own.map (·.2))) (own.map (·.2)) = L2.wipe σ (own.map (·.2)) := wipe_eq l0 fun j hj => wipe_out hj
      exact e1.trans e2
    · refine ⟨O, Hs3, ss4, _, Ed, A4, q4, er, fun b Hs5 H5 x5 q5 => ?_⟩
      have x15 := x13.trans x5
      have D5 : H5 D = some (.lst xs) := x5.keep D _ (fun z => by have z : O D = some 0 := z; rw [oD] at z; cases z) D3
      have n5 : Hs5 D = none := x5.new D n3 (by rw [D3]; exact fun z => nomatch z)
      cases b with
      | true =>
        simp only [if_true] at q5
        refine iteT ⟨O, Hs5, ss4, _, Ed, A4.next x5, q5, er, fun y w Hs6 H6 x6 i6 q6 => ?_⟩
        have D6 : H6 D = some (.lst xs) := x6.keep D _ (fun z => by have z : O D = some 0 := z; rw [oD] at z; cases z) D5
        have n6 : Hs6 D = none := x6.new D n5 (by rw [D5]; exact fun z => nomatch z)
        have h6 := h3.same ((((x3 (Z0 O)).trans x5).trans x6).fz)
        exact ⟨xs, D6, by rw [h3.len]; omega, Hs6, _, _, (x15.trans x6).put nD n6, n6, upd_same, h6.app (.one i6), by rw [List.length_append]; show acc.length + 1 ≤ i + 1; omega, q6⟩
      | false =>
        simp only [Bool.false_eq_true, if_false] at q5
        exact iteF ⟨Hs5, xs, acc, x15, n5, D5, h3.same (((x3 (Z0 O)).trans x5).fz), by omega, q5⟩
  · have e : i = items.length := by omega
    subst e
    have n0 : H D = none := by
      cases z : H D with
      | none => rfl
      | some u => exact absurd nD (x1.live D (by rw [z]; exact fun z => nomatch z))
    exact .inl ⟨hJ.stop _ Hs2 H2 x2.fz x2.sub rfl, gc acc D xs Hs2 H2 (x1.trans x2) n0 n2 h2 h3 (fin acc q2)⟩
theorem do_lc (hc : X.calm = true) (hN : X.N.Nodup) (hi : DI X c tg iter ti) (ok : BlkOk X.N X.env.scope scope own)
    (hg : ∀ (s : Shared) (H : Hp) (C : Addr) (cl : List (Str × Addr)) (fp : List Addr), DG (X.blk s H scope (compEnvC scope cl C X.env) fp) tg p) (ht : ∀ (s : Shared) (H : Hp) (C : Addr) (cl : List (Str × Addr)) (fp : List Addr), DTs (X.blk s H scope (compEnvC scope cl C X.env) fp) c ifs tt)
    (he : ∀ (s : Shared) (H : Hp) (C : Addr) (cl : List (Str × Addr)) (fp : List Addr), DE (X.blk s H scope (compEnvC scope cl C X.env) fp) c elt te) (hsub : ∀ j ∈ p.vs, j ∈ own.map (·.2) := by decide) (hs : ∀ x, foldedSetIterable iter X.env x = pure x := by intro _; rfl) :
    DO X c (.ListComp elt [⟨tg, iter, ifs, 0⟩] scope pos) (toLc ti p tt te (own.map (·.2))) := pe_imp (pe_lc hc hN hi ok hg ht he hs) (lc_run hsub)
end
end
end DL
set_option Elab.async false
set_option linter.all false
set_option maxRecDepth 100000
set_option maxHeartbeats 4000000
/-! DJ: a def's promise over data; raising -/
namespace DL
open PySem PySem.Spec PyProof.Rows L2
/-- the slots at a def's entry -/
def startD (N : List Str) (as : List Sl) : List Sl := as ++ (N.drop as.length).map fun _ => .un
theorem nth_app_l : ∀ {as bs : List Sl} {i : Nat}, i < as.length → nth (as ++ bs) i = nth as i
  | [], _, _, h => absurd h (Nat.not_lt_zero _)
  | _ :: _, _, 0, _ => rfl
  | _ :: as, bs, i + 1, h => nth_app_l (as := as) (Nat.lt_of_succ_lt_succ h)
theorem nth_app_r : ∀ {as bs : List Sl} {i : Nat}, as.length ≤ i → nth (as ++ bs) i = nth bs (i - as.length)
  | [], _, _, _ => rfl
  | _ :: _, _, 0, h => absurd h (by simp)
  | _ :: as, bs, i + 1, h => by
    rw [List.length_cons, Nat.add_sub_add_right]
    exact nth_app_r (as := as) (Nat.le_of_succ_le_succ h)
theorem nth_un {α : Type} : ∀ (l : List α) (i : Nat), nth (l.map fun _ => Sl.un) i = .un
  | [], _ => rfl
  | _ :: _, 0 => rfl
  | _ :: l, i + 1 => nth_un l i
theorem arg_at {K : PySem.W.Frag} {Z : Addr → Prop} {Hs H : Hp} {O : Addr → Option Nat} (hO : ∀ p, Z p → O p = some 0) : ∀ {as : List Sl} {vs : List V} {i : Nat} {j : Nat}, ArgIs K Z Hs H as vs → i < as.length → SlIs K O Hs H j (some vs[i]?) (nth as i)
  | [], _, _, _, _, h => absurd h (Nat.not_lt_zero _)
  | .d x :: as, _, 0, _, ⟨v, ws, e, h1, _⟩, _ => by subst e; exact ⟨v, rfl, h1⟩
  | .d x :: as, _, i + 1, _, ⟨v, ws, e, _, h2⟩, h => by subst e; exact arg_at (as := as) hO h2 (Nat.lt_of_succ_lt_succ h)
  | .pool :: as, _, 0, _, ⟨p, ws, e, h1, h2, _⟩, _ => by subst e; exact ⟨p, rfl, hO p h1, h2⟩
  | .pool :: as, _, i + 1, _, ⟨p, ws, e, _, _, h2⟩, h => by subst e; exact arg_at (as := as) hO h2 (Nat.lt_of_succ_lt_succ h)
  | .un :: _, _, _, _, h, _ => h.elim
  | .own _ _ :: _, _, _, _, h, _ => h.elim
section
variable {P : Program} {w : World} {K : PySem.W.Frag} {mg : Str → Option Value} {base : Heap}
open Classical in
theorem abs_start {Z : Addr → Prop} {Hs H : Hp} {E : XK} {N : List Str} {as : List Sl} {vs : List V} (sub : Same Hs H) (hz : ∀ p, Z p → Hs p = none ∧ H p ≠ none) (ai : ArgIs K Z Hs H as vs) : ∃ O, Abs K ⟨Z, Hs, H, E⟩ O Hs H (start N vs) (startD N as) := by
  have hO : ∀ p, Z p → (if Z p then some 0 else none) = some 0 := fun p h => if_pos h
  have nO : ∀ p, (if Z p then some 0 else none : Option Nat) ≠ none → Z p := fun p h => by
    by_cases z : Z p
    · exact z
    · exact absurd (if_neg z) h
  have hl := ai.len
  refine ⟨fun b => if Z b then some 0 else none, .refl sub, fun a h => (hz a (nO a h)).1, fun a h => (hz a (nO a h)).2, fun a h => .inl (nO a h), hO, ?_, fun i => ?_⟩
  · unfold L2.start startD
    rw [List.length_append, List.length_append, List.length_map, List.length_map, List.length_replicate, List.length_drop]
    omega
  · unfold L2.start startD
    by_cases hi : i < as.length
    · rw [nth_app_l hi, List.getElem?_append_left (by rw [List.length_map]; omega), List.getElem?_map]
      have q := arg_at (K := K) (Hs := Hs) (H := H) (O := fun b => if Z b then some 0 else none) hO (j := i) ai hi
      have hv : vs[i]? = some (vs[i]'(by omega)) := List.getElem?_eq_getElem (by omega)
      rw [hv] at q ⊢
      exact q
    · rw [nth_app_r (Nat.le_of_not_lt hi), nth_un]
      trivial
/-- the wishes of a body at its entry -/
structure Bd (X : Cx) (c : Cn) : Prop where
  px : Passes (L2.CX X.prog X.w) X c.E
  tk : Takes X (fun cls d _ H => c.E cls d H)
  zz : ∀ p, c.Z p → c.Hs p = none ∧ c.H p ≠ none
theorem fnD {x qual : Str} {st : Stmt} {f : Addr} {fd : FuncData} {N ps : List Str} {k : Nat} {spec : SpD} (F : Fun K x qual st f fd) (S : FnScope N ps (defScope st)) (hlen : ∀ as Qd Ed, spec as Qd Ed → as.length = ps.length)
    (body : ∀ (cdv : Value) (A : Around) (outer : List Env) (s : Shared) (H : Hp) (E : XK) (c : Cn), Room k (A.deeper (envOfC qual (defScope st) s.heap.objs.size f cdv)) → Bd (cxOf (L2.CX P w) P w K mg base N qual (defScope st) f cdv A outer s H E) c →
      ∃ t : TSD, DSs (cxOf (L2.CX P w) P w K mg base N qual (defScope st) f cdv A outer s H E) c (defBody st) t ∧ ∀ as Qd Ed, spec as Qd Ed → t { nx := fun _ => Qd .non, rt := Qd } (startD N as) Ed) :
    FnOk P w K mg base (L2.CX P w) (k + 1) f fd ps (spD K spec) := by
  refine F.okX S (fun vs H Q E h => ?_) (fun cdv A outer s H vs Q E hr h => ?_)
  · obtain ⟨Z, Hs, as, Qd, Ed, _, _, ai, hf, _⟩ := h
    rw [ai.len]
    exact hlen as Qd Ed hf
  · obtain ⟨Z, Hs, as, Qd, Ed, sub, hz, ai, hf, cv, ce⟩ := h
    obtain ⟨t, ht, run⟩ := body cdv A outer s H E ⟨Z, Hs, H, E⟩ hr ⟨passes_call (takes_of rfl rfl rfl rfl) fun _ _ _ _ h => h, takes_of rfl rfl rfl rfl, hz⟩
    obtain ⟨O, A0⟩ := abs_start (K := K) (E := E) (N := N) sub hz ai
    refine ⟨_, ht, O, Hs, _, _, Ed, A0, run as Qd Ed hf, fun er Hs' H' x q => ce er Hs' H' x q, ?_⟩
    exact ⟨fun σ' O' Hs' H' ss' _ A' q => cv .non .non Hs' H' A'.ext rfl q, fun _ _ _ _ _ _ _ q => q.elim, fun _ _ _ _ _ _ _ q => q.elim, fun d v Hs' H' x i q => cv d v Hs' H' x i q, fun ds p xs Hs' H' x n1 n2 h1 h2 q => cv (.lst ds) _ (upd Hs' p (.lst xs)) H' (x.freeze n1 n2 h1) ⟨p, xs, rfl, upd_same, h2.same (same_new0 n2)⟩ q⟩
open LG in
theorem fnDG {x qual : Str} {st : Stmt} {f : Addr} {fd : FuncData} {N ps : List Str} {k : Nat} {spec : SpD} (F : Fun K x qual st f fd) (S : FnScope N ps (defScope st)) (hlen : ∀ as Qd Ed, spec as Qd Ed → as.length = ps.length)
    (body : ∀ (cdv : Value) (A : Around) (outer : List Env) (s : Shared) (H : Hp) (E : XK) (c : Cn), A.guards = some [] → Room k (A.deeper (envOfC qual (defScope st) s.heap.objs.size f cdv)) → Bd (cxOf (L2.CX P w) P w K mg base N qual (defScope st) f cdv A outer s H E) c →
      ∃ t : TSD, DSs (cxOf (L2.CX P w) P w K mg base N qual (defScope st) f cdv A outer s H E) c (defBody st) t ∧ ∀ as Qd Ed, spec as Qd Ed → t { nx := fun _ => Qd .non, rt := Qd } (startD N as) Ed) :
    FnG P w K mg base (L2.CX P w) (k + 1) f fd ps (spD K spec) := by
  refine fun_okG F S (fun vs H Q E h => ?_) (fun cdv A outer s H vs Q E g hr h => ?_)
  · obtain ⟨Z, Hs, as, Qd, Ed, _, _, ai, hf, _⟩ := h
    rw [ai.len]
    exact hlen as Qd Ed hf
  · obtain ⟨Z, Hs, as, Qd, Ed, sub, hz, ai, hf, cv, ce⟩ := h
    obtain ⟨t, ht, run⟩ := body cdv A outer s H E ⟨Z, Hs, H, E⟩ g hr ⟨passes_call (takes_of rfl rfl rfl rfl) fun _ _ _ _ h => h, takes_of rfl rfl rfl rfl, hz⟩
    obtain ⟨O, A0⟩ := abs_start (K := K) (E := E) (N := N) sub hz ai
    refine ⟨_, ht, O, Hs, _, _, Ed, A0, run as Qd Ed hf, fun er Hs' H' x q => ce er Hs' H' x q, ?_⟩
    exact ⟨fun σ' O' Hs' H' ss' _ A' q => cv .non .non Hs' H' A'.ext rfl q, fun _ _ _ _ _ _ _ q => q.elim, fun _ _ _ _ _ _ _ q => q.elim, fun d v Hs' H' x i q => cv d v Hs' H' x i q, fun ds p xs Hs' H' x n1 n2 h1 h2 q => cv (.lst ds) _ (upd Hs' p (.lst xs)) H' (x.freeze n1 n2 h1) ⟨p, xs, rfl, upd_same, h2.same (same_new0 n2)⟩ q⟩
end
/-- a promise of a def that hands back a list of its own -/
abbrev SpF := List Sl → (List D → Prop) → QE → Prop
def spF (K : PySem.W.Frag) (f : SpF) : Sp := fun vs H Q E => ∃ (Z : Addr → Prop) (Hs : Hp) (as : List Sl) (Qo : List D → Prop) (Ed : QE), Same Hs H ∧ (∀ p, Z p → Hs p = none ∧ H p ≠ none) ∧ ArgIs K Z Hs H as vs ∧ f as Qo Ed ∧
  (∀ ds p xs Hs' H', Ext Z Hs H Hs' H' → H p = none → Hs' p = none → H' p = some (.lst xs) → IsA K Hs' ds xs → Qo ds → Q (.ref p) H') ∧ (∀ er Hs' H', Ext Z Hs H Hs' H' → Ed er → ErrPost K E er Hs' H')
theorem fnF {P : Program} {w : World} {K : PySem.W.Frag} {mg : Str → Option Value} {base : Heap} {x qual : Str} {st : Stmt} {f : Addr} {fd : FuncData} {N ps : List Str} {k : Nat} {spec : SpF} (F : Fun K x qual st f fd) (S : FnScope N ps (defScope st)) (hlen : ∀ as Qd Ed, spec as Qd Ed → as.length = ps.length)
    (body : ∀ (cdv : Value) (A : Around) (outer : List Env) (s : Shared) (H : Hp) (E : XK) (c : Cn), Room k (A.deeper (envOfC qual (defScope st) s.heap.objs.size f cdv)) → Bd (cxOf (L2.CX P w) P w K mg base N qual (defScope st) f cdv A outer s H E) c →
      ∃ t : TSD, DSs (cxOf (L2.CX P w) P w K mg base N qual (defScope st) f cdv A outer s H E) c (defBody st) t ∧ ∀ as Qo Ed, spec as Qo Ed → t { nx := fun _ => False, rt := fun _ => False, ro := Qo } (startD N as) Ed) :
    FnOk P w K mg base (L2.CX P w) (k + 1) f fd ps (spF K spec) := by
  refine F.okX S (fun vs H Q E h => ?_) (fun cdv A outer s H vs Q E hr h => ?_)
  · obtain ⟨Z, Hs, as, Qd, Ed, _, _, ai, hf, _⟩ := h
    rw [ai.len]
    exact hlen as Qd Ed hf
  · obtain ⟨Z, Hs, as, Qd, Ed, sub, hz, ai, hf, cv, ce⟩ := h
    obtain ⟨t, ht, run⟩ := body cdv A outer s H E ⟨Z, Hs, H, E⟩ hr ⟨passes_call (takes_of rfl rfl rfl rfl) fun _ _ _ _ h => h, takes_of rfl rfl rfl rfl, hz⟩
    obtain ⟨O, A0⟩ := abs_start (K := K) (E := E) (N := N) sub hz ai
    refine ⟨_, ht, O, Hs, _, _, Ed, A0, run as Qd Ed hf, fun er Hs' H' x q => ce er Hs' H' x q, ?_⟩
    exact ⟨fun _ _ _ _ _ _ _ q => q.elim, fun _ _ _ _ _ _ _ q => q.elim, fun _ _ _ _ _ _ _ q => q.elim, fun _ _ _ _ _ _ q => q.elim, fun ds p xs Hs' H' x n1 n2 h1 h2 q => cv ds p xs Hs' H' x n1 n2 h1 h2 q⟩
section
variable {X : Cx} {c : Cn}
/-- what is never reached -/
def tdDead : TSD := fun _ _ _ => False
theorem d_dead {st : Stmt} : DS X c st tdDead := ps_imp ps_never fun Dn σ H q => by
  obtain ⟨O, Hs, ss, En, Ed, A, h, er, g⟩ := q
  exact h.elim
/-- raise C(), C an own class without __init__ -/
def tdRaise (C : Addr) : TSD := fun _ _ Ed => Ed (.e0 C)
theorem d_raise {x : Str} {bm : List Value} {B newId initId : String} {C : Addr} {p pos pos' : Pos} (b : Bd X c) (hc : X.calm = true) (T : LR.ErrAt X.K X.mg x bm newId C) (F : ExcBaseFacts B newId initId bm) (hg : Gl X x := by rfl) (hdb : (x == ("__debug__" : Str)) = false := by decide) :
    DS X c (.Raise (some (.Call (.Name x p) [] [] pos)) none pos') (tdRaise C) := by
  refine ps_imp (ps_raise hc b.tk (T.mk0 F hg hdb)) fun Dn σ H q => ?_
  obtain ⟨O, Hs, ss, En, Ed, A, h, er, g⟩ := q
  exact er (.e0 C) Hs H A.ext h
section
variable {i : Nat} {y : Str} {py : Pos} {tg elt iter : Expr} {ifs : List Expr} {scope : Scope} {own : List (Str × Nat)} {pos spos : Pos} {ti : TID} {p : Pat} {tt : TTD} {te : TD}
/-- x = [..] on one line, x a local -/
theorem ps_lcO (hc : X.calm = true) (hN : X.N.Nodup) (hy : X.N[i]? = some y) (hyl : X.env.scope.names.lookup y = some .local)
    (hsw : swapsWith (.ListComp elt [⟨tg, iter, ifs, 0⟩] scope pos) (some (.Name y py)) spos.line X.env = pure true) (hi : DI X c tg iter ti) (ok : BlkOk X.N X.env.scope scope own)
    (hg : ∀ (s : Shared) (H : Hp) (C : Addr) (cl : List (Str × Addr)) (fp : List Addr), DG (X.blk s H scope (compEnvC scope cl C X.env) fp) tg p) (ht : ∀ (s : Shared) (H : Hp) (C : Addr) (cl : List (Str × Addr)) (fp : List Addr), DTs (X.blk s H scope (compEnvC scope cl C X.env) fp) c ifs tt)
    (he : ∀ (s : Shared) (H : Hp) (C : Addr) (cl : List (Str × Addr)) (fp : List Addr), DE (X.blk s H scope (compEnvC scope cl C X.env) fp) c elt te) (hsub : ∀ j ∈ p.vs, j ∈ own.map (·.2)) (hs : ∀ x, foldedSetIterable iter X.env x = pure x) :
    PS X (.Assign [.Name y py] (.ListComp elt [⟨tg, iter, ifs, 0⟩] scope pos) spos) (tAsg (liftO c X.K (toLc ti p tt te (own.map (·.2)))) (gName i)) :=
  ps_imp (ps_setLc (g := p.tg X.K) (tt := liftT c X.K tt) (te := lift c X.K te) hc hN hy hyl hsw hi ok hg ht he hs) fun Dn σ H q => lc_run hsub σ H _ q
theorem d_setLc (hc : X.calm = true) (hN : X.N.Nodup) (hy : X.N[i]? = some y) (hyl : X.env.scope.names.lookup y = some .local)
    (hsw : swapsWith (.ListComp elt [⟨tg, iter, ifs, 0⟩] scope pos) (some (.Name y py)) spos.line X.env = pure true) (hi : DI X c tg iter ti) (ok : BlkOk X.N X.env.scope scope own)
    (hg : ∀ (s : Shared) (H : Hp) (C : Addr) (cl : List (Str × Addr)) (fp : List Addr), DG (X.blk s H scope (compEnvC scope cl C X.env) fp) tg p) (ht : ∀ (s : Shared) (H : Hp) (C : Addr) (cl : List (Str × Addr)) (fp : List Addr), DTs (X.blk s H scope (compEnvC scope cl C X.env) fp) c ifs tt)
    (he : ∀ (s : Shared) (H : Hp) (C : Addr) (cl : List (Str × Addr)) (fp : List Addr), DE (X.blk s H scope (compEnvC scope cl C X.env) fp) c elt te) (hsub : ∀ j ∈ p.vs, j ∈ own.map (·.2) := by decide) (hs : ∀ x, foldedSetIterable iter X.env x = pure x := by intro _; rfl) :
    DS X c (.Assign [.Name y py] (.ListComp elt [⟨tg, iter, ifs, 0⟩] scope pos) spos) (tdAsg (tdO (toLc ti p tt te (own.map (·.2)))) (.n i)) := by
  refine ps_imp (ps_lcO hc hN hy hyl hsw hi ok hg ht he hsub hs) fun Dn σ H q => ?_
  obtain ⟨O, Hs, ss, En, Ed, A, h, er, g⟩ := q
  refine ⟨O, Hs, ss, _, Ed, A, h, er, fun ds p xs Hs1 H1 x1 n1 n2 h1 h2 q1 => ?_⟩
  have x2 := x1.freeze n1 n2 h1
  exact g.nx _ O _ H1 _ x2.fz ((A.next x2).set (x := .lst ds) ⟨p, xs, rfl, upd_same, h2.same (same_new0 n2)⟩) q1
theorem d_setLcO (hc : X.calm = true) (hN : X.N.Nodup) (hy : X.N[i]? = some y) (hyl : X.env.scope.names.lookup y = some .local)
    (hsw : swapsWith (.ListComp elt [⟨tg, iter, ifs, 0⟩] scope pos) (some (.Name y py)) spos.line X.env = pure true) (hi : DI X c tg iter ti) (ok : BlkOk X.N X.env.scope scope own)
    (hg : ∀ (s : Shared) (H : Hp) (C : Addr) (cl : List (Str × Addr)) (fp : List Addr), DG (X.blk s H scope (compEnvC scope cl C X.env) fp) tg p) (ht : ∀ (s : Shared) (H : Hp) (C : Addr) (cl : List (Str × Addr)) (fp : List Addr), DTs (X.blk s H scope (compEnvC scope cl C X.env) fp) c ifs tt)
    (he : ∀ (s : Shared) (H : Hp) (C : Addr) (cl : List (Str × Addr)) (fp : List Addr), DE (X.blk s H scope (compEnvC scope cl C X.env) fp) c elt te) (hsub : ∀ j ∈ p.vs, j ∈ own.map (·.2) := by decide) (hs : ∀ x, foldedSetIterable iter X.env x = pure x := by intro _; rfl) :
    DS X c (.Assign [.Name y py] (.ListComp elt [⟨tg, iter, ifs, 0⟩] scope pos) spos) (tdSetOwn i (toLc ti p tt te (own.map (·.2)))) := by
  refine ps_imp (ps_lcO hc hN hy hyl hsw hi ok hg ht he hsub hs) fun Dn σ H q => ?_
  obtain ⟨O, Hs, ss, En, Ed, A, h, er, g⟩ := q
  refine ⟨O, Hs, ss, _, Ed, A, h, er, fun ds p xs Hs1 H1 x1 n1 n2 h1 h2 q1 => ?_⟩
  obtain ⟨O', A'⟩ := (A.next x1).own (i := i) A.live (A.fresh n1) n1 n2 h1 h2
  exact g.nx _ O' Hs1 _ _ x1.fz A' (q1 p)
end
/-- x += e -/
def tdAug (i : Nat) (te : TD) (r : RD2) : TSD := fun En ss Ed => match nth ss i with
  | .d x => te ss (fun y => r x y fun z => En.nx (put ss i (.d z))) Ed
  | _ => False
structure IpD (X : Cx) (op : Operator) (r : RD2) : Prop where
  ex : ∃ r0 : TIp, PIp X op r0 ∧ ∀ (Z : Addr → Prop) (Hs H : Hp) (d e : D) (v u : V) (Qd : QD) (Q : VK), Same Hs H → Is X.K Hs d v → Is X.K Hs e u → r d e Qd →
    (∀ x w Hs' H', Ext Z Hs H Hs' H' → Is X.K Hs' x w → Qd x → Q w H') → r0 v u H Q
theorem ipd_add : IpD X .Add (r2i0 fun i j => .int (i + j)) := ⟨_, ip_add, fun Z Hs H d e v u Qd Q s i1 i2 q cn => by
  obtain ⟨i, j, rfl, rfl, q⟩ := r2i0_inv q
  exact ⟨i, j, i1, i2, cn (.int _) _ Hs H (.refl s) rfl q⟩⟩
theorem ipd_sub : IpD X .Sub (r2i0 fun i j => .int (i - j)) := ⟨_, ip_sub, fun Z Hs H d e v u Qd Q s i1 i2 q cn => by
  obtain ⟨i, j, rfl, rfl, q⟩ := r2i0_inv q
  exact ⟨i, j, i1, i2, cn (.int _) _ Hs H (.refl s) rfl q⟩⟩
theorem d_aug {i : Nat} {x : Str} {e : Expr} {op : Operator} {pos pos' : Pos} {te : TD} {r : RD2} (hN : X.N.Nodup) (hi : X.N[i]? = some x) (hx : Loc X.env.scope x) (he : DE X c e te) (ho : IpD X op r) (hf : X.fn x = true ∨ X.env.scope.names.lookup x = some .local := by first | exact .inl rfl | exact .inr rfl | assumption) :
    DS X c (.AugAssign (.Name x pos') op e pos) (tdAug i te r) := by
  obtain ⟨r0, h0, cn⟩ := ho.ex
  refine ps_imp (ps_aug hN hi hx he h0 hf) fun Dn σ H q => ?_
  obtain ⟨O, Hs, ss, En, Ed, A, h, er, g⟩ := q
  have hs := A.sl i
  unfold tdAug at h
  split at h
  · rename_i d hd
    rw [hd] at hs
    obtain ⟨v, e1, i1⟩ := hs
    refine ⟨v, e1, O, Hs, ss, _, Ed, A, h, er, fun y u Hs1 H1 x1 i2 q1 => ?_⟩
    exact cn (Z0 O) Hs1 H1 d y v u _ _ x1.sub (i1.same x1.fz) i2 q1 fun z z' Hs2 H2 x2 i3 q2 => g.nx _ O Hs2 H2 _ (x1.fz.trans x2.fz) (((A.next x1).next x2).set i3) q2
  · exact h.elim
end
end DL
set_option Elab.async false
set_option linter.all false
set_option maxRecDepth 100000
set_option maxHeartbeats 4000000
/-! DK: short words for terms: defs by name, constants -/
namespace DL
open PySem PySem.Spec PyProof.Rows L2
/-- the def of this name keeps this promise -/
structure DefD (P : Program) (w : World) (K : PySem.W.Frag) (mg : Str → Option Value) (base : Heap) (x : Str) (k : Nat) (sp : SpD) : Prop where
  ex : ∃ f fd ps, FnOk P w K mg base (L2.CX P w) k f fd ps (spD K sp) ∧ mg x = some (.ref f) ∧ PySem.W.keepIn K (.ref f) = true ∧ Binds K fd ps []
theorem DefD.mk1 {P : Program} {w : World} {K : PySem.W.Frag} {mg : Str → Option Value} {base : Heap} {x : Str} {st : Stmt} {ps : List Str} {f : Addr} {fd : FuncData} {k : Nat} {sp : SpD} (D : LR.DefAt K mg x st ps f fd) (G : FnOk P w K mg base (L2.CX P w) k f fd ps (spD K sp)) : DefD P w K mg base x k sp :=
  ⟨f, fd, ps, G, D.g, D.F.kp, D.b⟩
theorem DefD.imp {P : Program} {w : World} {K : PySem.W.Frag} {mg : Str → Option Value} {base : Heap} {x : Str} {k : Nat} {sp sp' : SpD} (D : DefD P w K mg base x k sp) (h : ∀ as Qd Ed, sp' as Qd Ed → sp as Qd Ed) : DefD P w K mg base x k sp' := by
  obtain ⟨f, fd, ps, G, r⟩ := D.ex
  exact ⟨f, fd, ps, G.imp fun vs H Q E ⟨Z, Hs, as, Qd, Ed, a, b, d, e, z⟩ => ⟨Z, Hs, as, Qd, Ed, a, b, d, h _ _ _ e, z⟩, r⟩
structure DefF (P : Program) (w : World) (K : PySem.W.Frag) (mg : Str → Option Value) (base : Heap) (x : Str) (k : Nat) (sp : SpF) : Prop where
  ex : ∃ f fd ps, FnOk P w K mg base (L2.CX P w) k f fd ps (spF K sp) ∧ mg x = some (.ref f) ∧ PySem.W.keepIn K (.ref f) = true ∧ Binds K fd ps []
theorem DefF.mk1 {P : Program} {w : World} {K : PySem.W.Frag} {mg : Str → Option Value} {base : Heap} {x : Str} {st : Stmt} {ps : List Str} {f : Addr} {fd : FuncData} {k : Nat} {sp : SpF} (D : LR.DefAt K mg x st ps f fd) (G : FnOk P w K mg base (L2.CX P w) k f fd ps (spF K sp)) : DefF P w K mg base x k sp :=
  ⟨f, fd, ps, G, D.g, D.F.kp, D.b⟩
theorem DefF.toD {P : Program} {w : World} {K : PySem.W.Frag} {mg : Str → Option Value} {base : Heap} {x : Str} {k : Nat} {sp : SpF} (D : DefF P w K mg base x k sp) : DefD P w K mg base x k (fun as Q Ed => sp as (fun ds => Q (.lst ds)) Ed) := by
  obtain ⟨f, fd, ps, G, r⟩ := D.ex
  exact ⟨f, fd, ps, G.imp fun vs H Q E ⟨Z, Hs, as, Qd, Ed, a, b, d, e, z, y⟩ => ⟨Z, Hs, as, _, Ed, a, b, d, e, fun ds p xs Hs' H' x n1 n2 h1 h2 q => z (.lst ds) _ (upd Hs' p (.lst xs)) H' (x.freeze n1 n2 h1) ⟨p, xs, rfl, upd_same, h2.same (same_new0 n2)⟩ q, y⟩, r⟩
abbrev Er0 : XK := fun _ _ _ => False
theorem pass0D {X : Cx} : Passes (L2.CX X.prog X.w) X Er0 := fun pins σ H s e s' I h => by
  obtain ⟨_, _, _, _, _, _, _, _, _, _, _, _, z⟩ := h
  exact z.elim
section
variable {X : Cx} {c : Cn} {x : Str} {p pos : Pos} {e : Expr} {es : List Expr} {t : TAD} {k : Nat} {sp : SpD}
/-- a call that raises nothing -/
def tdCallN (f : SpD) (t : TAD) : TD := fun ss Q Ed => t ss (fun as => f as Q fun _ => False) Ed
theorem d_cN (G : DefD X.prog X.w X.K X.mg X.base x k sp) (hr : Room k X.A) (ha : DAs X c (e :: es) t) (hg : Gl X x := by rfl) (hdb : (x == ("__debug__" : Str)) = false := by decide) (he : starEach (e :: es) X.env = (false, eval e X.env) :: starEach es X.env := by rfl) (hpl : (backTo pos (starEach es X.env)).any (·.1) = false := by rfl) :
    DE X c (.Call (.Name x p) (e :: es) [] pos) (tdCallN sp t) := by
  obtain ⟨f, fd, ps, F, hm, hk, hb⟩ := G.ex
  refine pe_imp (pe_call F hr hg hm hk hb .nil pass0D ha hdb he hpl) fun σ H Q q => ?_
  obtain ⟨O, Hs, ss, Qd, Ed, A, h, er, g⟩ := q
  refine ⟨O, Hs, ss, _, Ed, A, h, er, fun as vs Hs1 H1 e1 i1 q1 => ?_⟩
  have A1 := A.next e1
  show spD X.K sp (vs ++ []) H1 Q Er0
  rw [List.append_nil]
  exact ⟨Z0 O, Hs1, as, Qd, fun _ => False, A1.sub, fun p hp => ⟨A1.fz p (by rw [hp]; exact fun z => nomatch z), A1.live p (by rw [hp]; exact fun z => nomatch z)⟩, i1, q1,
    fun d v Hs2 H2 e2 i2 q2 => g d v Hs2 H2 (e1.trans e2) i2 q2, fun _ _ _ _ z => z.elim⟩
/-- a call that may raise what the body may let out -/
def tdCallE (f : SpD) (t : TAD) : TD := fun ss Q Ed => t ss (fun as => f as Q Ed) Ed
theorem d_cE (G : DefD X.prog X.w X.K X.mg X.base x k sp) (hr : Room k X.A) (b : Bd X c) (ha : DAs X c (e :: es) t) (hg : Gl X x := by rfl) (hdb : (x == ("__debug__" : Str)) = false := by decide) (he : starEach (e :: es) X.env = (false, eval e X.env) :: starEach es X.env := by rfl) (hpl : (backTo pos (starEach es X.env)).any (·.1) = false := by rfl) :
    DE X c (.Call (.Name x p) (e :: es) [] pos) (tdCallE sp t) := by
  obtain ⟨f, fd, ps, F, hm, hk, hb⟩ := G.ex
  refine pe_imp (pe_call F hr hg hm hk hb .nil b.px ha hdb he hpl) fun σ H Q q => ?_
  obtain ⟨O, Hs, ss, Qd, Ed, A, h, er, g⟩ := q
  refine ⟨O, Hs, ss, _, Ed, A, h, er, fun as vs Hs1 H1 e1 i1 q1 => ?_⟩
  show spD X.K sp (vs ++ []) H1 Q c.E
  rw [List.append_nil]
  exact sp_of (A.next e1) er i1 q1 fun d v Hs2 H2 e2 i2 q2 => g d v Hs2 H2 (e1.trans e2) i2 q2
def toCallN (f : SpF) (t : TAD) : TOD := fun ss Q Ed => t ss (fun as => f as Q fun _ => False) Ed
theorem do_cN {sp : SpF} (G : DefF X.prog X.w X.K X.mg X.base x k sp) (hr : Room k X.A) (ha : DAs X c (e :: es) t) (hg : Gl X x := by rfl) (hdb : (x == ("__debug__" : Str)) = false := by decide) (he : starEach (e :: es) X.env = (false, eval e X.env) :: starEach es X.env := by rfl) (hpl : (backTo pos (starEach es X.env)).any (·.1) = false := by rfl) :
    DO X c (.Call (.Name x p) (e :: es) [] pos) (toCallN sp t) := by
  obtain ⟨f, fd, ps, F, hm, hk, hb⟩ := G.ex
  refine pe_imp (pe_call F hr hg hm hk hb .nil pass0D ha hdb he hpl) fun σ H Q q => ?_
  obtain ⟨O, Hs, ss, Qd, Ed, A, h, er, g⟩ := q
  refine ⟨O, Hs, ss, _, Ed, A, h, er, fun as vs Hs1 H1 e1 i1 q1 => ?_⟩
  have A1 := A.next e1
  have n0 : ∀ p, H1 p = none → H p = none := fun p np => by
    cases z : H p with
    | none => rfl
    | some u => exact absurd np (e1.live p (by rw [z]; exact fun z => nomatch z))
  show spF X.K sp (vs ++ []) H1 Q Er0
  rw [List.append_nil]
  exact ⟨Z0 O, Hs1, as, Qd, fun _ => False, A1.sub, fun p hp => ⟨A1.fz p (by rw [hp]; exact fun z => nomatch z), A1.live p (by rw [hp]; exact fun z => nomatch z)⟩, i1, q1,
    fun ds p xs Hs2 H2 e2 n1 n2 h1 h2 q2 => g ds p xs Hs2 H2 (e1.trans e2) (n0 p n1) n2 h1 h2 q2, fun _ _ _ _ z => z.elim⟩
/-- a constant of the module: an int -/
theorem d_gint {i : Int} {tk : Tok} (hm : X.mg x = some (.int i tk)) (hg : Gl X x := by rfl) (hd : (x == ("__debug__" : Str)) = false := by decide) : DE X c (.Name x pos) (tdC (.int i)) := d_const (v := .int i) (pe_glob hg hm ⟨_, rfl⟩ hd) fun _ => rfl
theorem d_gstr {i : Str} {tk : Tok} (hm : X.mg x = some (.str i tk)) (hg : Gl X x := by rfl) (hd : (x == ("__debug__" : Str)) = false := by decide) : DE X c (.Name x pos) (tdC (.str i)) := d_const (v := .str i) (pe_glob hg hm ⟨_, rfl⟩ hd) fun _ => rfl
end
/-! ### repr, where nothing is being shown -/
section
variable {X : Cx}
/-- bools, and lists and tuples -/
def rReprD : List D → QD → Prop := fun ds Q => match ds with
  | [.bl b] => Q (.str (if b then "True" else "False"))
  | [.lst xs] => ∃ d, py (.lst xs) = some d ∧ LG.Fine d ∧ Q (.str d.shown)
  | [.tup xs] => ∃ d, py (.tup xs) = some d ∧ LG.Fine d ∧ Q (.str d.shown)
  | _ => False
theorem cr_reprB : CallR X (.builtin "repr") (fun vs H Q => ∃ b, vs = [.bl b] ∧ Q (.str (if b then "True" else "False")) H) := by
  intro pins s σ H vs us Q I r h
  obtain ⟨b, rfl, q⟩ := h
  obtain ⟨u, rfl, ru⟩ := vals1 r
  cases ru
  exact PySem.P.repr_of_bool ⟨.str _, H, I.tok _, ⟨_, rfl⟩, q⟩
theorem cd_repr (g : X.A.guards = some []) (hu : X.A.units + 64 < cLine) : CallD X (.builtin "repr") rReprD := ⟨_, call_or cr_reprB (LG.cr_repr g hu), fun Z Hs H ds vs Qd Q s i q cn => by
  unfold rReprD at q
  split at q
  · obtain ⟨v, e, h1⟩ := isA1 i
    cases h1
    exact .inl ⟨_, e, cn (.str _) _ Hs H (.refl s) rfl q⟩
  · obtain ⟨v, e, h1⟩ := isA1 i
    obtain ⟨d, hd, hf, q⟩ := q
    have hp := py_dp (h1.same s) hd
    obtain ⟨a, xs, e2, _⟩ := h1
    subst e2
    exact .inr ⟨a, d, e, hp, hf, cn (.str _) _ Hs H (.refl s) rfl q⟩
  · obtain ⟨v, e, h1⟩ := isA1 i
    obtain ⟨d, hd, hf, q⟩ := q
    have hp := py_dp (h1.same s) hd
    obtain ⟨a, xs, e2, _⟩ := h1
    subst e2
    exact .inr ⟨a, d, e, hp, hf, cn (.str _) _ Hs H (.refl s) rfl q⟩
  · exact q.elim⟩
end
/-! ### the pool -/
section
variable {P : Program} {w : World} {K : PySem.W.Frag} {mg : Str → Option Value} {base : Heap}
/-- _law_draw(pool, many), many above 0: any number below it -/
def sdDraw : SpD := fun as Q _ => match as with
  | [.pool, .d (.int m)] => (0 < m ∧ m.natAbs < 2 ^ 200) ∧ ∀ d : Int, 0 ≤ d → d < m → Q (.int d)
  | _ => False
end
section
variable {X : Cx} {c : Cn}
theorem d_par2 {i j : Nat} {x y : Str} {a b : Expr} {ta tb : TD} {px py pt pos : Pos} {kt k2 pt2} (hc : X.calm = true) (hN : X.N.Nodup) (hi : X.N[i]? = some x) (hj : X.N[j]? = some y) (hij : i ≠ j) (hx : X.env.scope.names.lookup x = some .local) (hy : X.env.scope.names.lookup y = some .local)
    (ha : DE X c a ta) (hb : DE X c b tb) (hw : swappedStores [.Tuple [.Name x px, .Name y py] kt pt] (.Tuple [a, b] k2 pt2) X.env = pure (some [x, y]) := by rfl) (hs : swapsWithSole [.Tuple [.Name x px, .Name y py] kt pt] (.Tuple [a, b] k2 pt2) pos.line X.env = pure false := by rfl)
    (h1 : starEach [a, b] X.env = (false, eval a X.env) :: starEach [b] X.env := by rfl) (h2 : starEach [b] X.env = (false, eval b X.env) :: starEach [] X.env := by rfl) : DS X c (.Assign [.Tuple [.Name x px, .Name y py] kt pt] (.Tuple [a, b] k2 pt2) pos) (tdPar i j ta tb) :=
  d_par hc hN hi hj hij hx hy ha hb (ps_par hc hN hi hj hij hx hy (pa_cons ha (pa_cons hb pa_nil h2) h1) hw hs)
theorem d_append {n : Str} {e : Expr} {np apos pos pos' : Pos} {i : Nat} {te : TD} (hx : PE X (.Name n np) (tVar i)) (he : DE X c e te) (hs1 : starEach [e] X.env = (false, eval e X.env) :: starEach [] X.env := by rfl)
    (hline : (apos.endLine == pos.line) = true := by rfl) (hfew : ((backTo pos (starEach [e] X.env)).all (fun x => !x.1) && (backToKw pos (keywordEach [] X.env)).all (fun x => x.1.isSome) && decide ([e].length + ([] : List Keyword).length + (if ([] : List Keyword).isEmpty then 0 else 1) < 30)) = true := by rfl) (hpl : (backTo pos (starEach [] X.env)).any (·.1) = false := by rfl)
    (hs : swapsWith (.Call (.Attribute (.Name n np) "append" apos) [e] [] pos) none pos'.line X.env = pure false := by rfl) : DS X c (.Expr (.Call (.Attribute (.Name n np) "append" apos) [e] [] pos) pos') (tdApp i te) :=
  d_app hx he (pe_bm PySem.F.plainAttrs_list PySem.F.slot_list_append PySem.F.type_list_append mt_append hx (pa_cons he pa_nil hs1) rfl hfew hline hs1 hpl) hs
end
/-! ### readings -/
theorem ifD {p A B : Prop} [Decidable p] (h1 : p → A) (h2 : ¬ p → B) : if decide p = true then A else B := by
  by_cases h : p
  · rw [if_pos (decide_eq_true h)]; exact h1 h
  · rw [if_neg (by simpa using h)]; exact h2 h
theorem ifN {p A B : Prop} [Decidable p] (h1 : ¬ p → A) (h2 : p → B) : if (!decide p) = true then A else B := by
  by_cases h : p
  · rw [if_neg (by simpa using h)]; exact h2 h
  · rw [if_pos (by simpa using h)]; exact h1 h
theorem ifB {b : Bool} {A B : Prop} (h1 : b = true → A) (h2 : b = false → B) : if b = true then A else B := by
  cases b
  · exact h2 rfl
  · exact h1 rfl
end DL
set_option Elab.async false
set_option linter.all false
set_option maxRecDepth 100000
set_option maxHeartbeats 4000000
/-! EN: enumerate of a tuple, of a list or a tuple -/
namespace DL
open PySem PySem.Spec PyProof.Rows L2
theorem enum_one {v : Value} {o : Obj} {G : Heap → Prop} (B : Begins v o G) :
    Meets (Builtin.«enumerate.__new__» ⟨[.type "enumerate", v], []⟩) (fun _ R s => G s.heap ∧
      R (.ok (.ret (.ref (s.heap.push o).objs.size))) { s with heap := (s.heap.push o).push { cls := .type "enumerate", data := .fields #[.none, .bool false, .ref s.heap.objs.size, rawInt 0, .none, .none] } }) := by
  refine .of_wp fun pr w0 Ar R s hh => ?_
  obtain ⟨hp, gl, dd, tk, os⟩ := s
  obtain ⟨h1, hq⟩ := hh
  have sb := sub_enumerate
  have it1 : ∀ {A1 : Around} {E1 Q1 : Value → Shared → Prop}, Q1 (.ref hp.objs.size) ⟨hp.push o, gl, dd, tk, os⟩ → wpAny (model pr w0) A1 (pyIter v) Q1 E1 ⟨hp, gl, dd, tk, os⟩ := fun q => B.iter pr w0 _ _ ⟨hp, gl, dd, tk, os⟩ _ h1 q
  wp_walk using it1
  refine wpAny_stack_any fun st => wpAny_pure ?_
  split
  · rename_i k _ _ _ _ _
    cases (k == Value.type "enumerate") <;> (wp_walk using it1; exact ⟨_, rfl, hq⟩)
  · wp_walk using it1
    exact ⟨_, rfl, hq⟩
section
variable {pr : Program} {w0 : World} {Ar : Around} {E : Value → Shared → Prop} {s : Shared}
theorem call_enum1 {v : Value} {o : Obj} {G : Heap → Prop} {Q : Value → Shared → Prop} (B : Begins v o G) (h1 : G s.heap)
    (hq : ∀ h2, IsEnum h2 (s.heap.objs.size + 1) s.heap.objs.size 0 .none → h2.get? s.heap.objs.size = some o → (∀ b x, s.heap.get? b = some x → h2.get? b = some x) → Q (.ref (s.heap.objs.size + 1)) { s with heap := h2 }) :
    wpAny (model pr w0) Ar (call (.type "enumerate") [v]) Q E s := by
  refine callType_new F.called_enumerate (by decide) (F.typeCall_enumerate_1 _) (F.newCall_enumerate_1 _) (fun ob => F.args_object_init_2 ob _) F.entry_enumerate_new (enum_one B) ⟨h1, ?_⟩
  have sz : (s.heap.push o).objs.size = s.heap.objs.size + 1 := Heap.size_push ..
  have top := Heap.get?_push_size (s.heap.push o) (o := { cls := .type "enumerate", data := .fields #[.none, .bool false, .ref s.heap.objs.size, rawInt 0, .none, .none] }) rfl
  rw [sz] at top
  show _ ∧ _
  rw [sz]
  exact ⟨⟨_, top, rfl⟩, hq _ top (Heap.get?_push_of_some _ (Heap.get?_push_size _ B.free)) fun b x e => Heap.get?_push_of_some _ (Heap.get?_push_of_some _ e)⟩
end
section
variable {pr : Program} {w0 : World} {Ar : Around} {E : Value → Shared → Prop} {s : Shared}
theorem wpAny_pyNext_enum_endI {e it a : Addr} {i : Nat} {items : Array Value} {c : Int} {old : Value} {Q : Option Value → Shared → Prop} (hh : Ar.handled = none) (he : IsEnum s.heap e it c old) (hi : s.heap.IsTupleIter it a i) (tup : s.heap.IsTuple a items) (ge : items.size ≤ i)
    (hQ : ∀ h', Heap.ExtBut it s.heap h' → Q none { s with heap := h' }) : wpAny (model pr w0) Ar (pyNext (.ref e)) Q E s := by
  have ty : s.TypeIs (.ref e) "enumerate" := ⟨_, he, rfl⟩
  unfold pyNext
  refine wpAny_bind (wpAny_attempt ?_)
  refine wpAny_callSpecial?_slot (name := Str.ofString "__next__") ty F.slot_enumerate_next ?_
  refine wpAny_call_entry F.slot_enumerate_next ty F.entry_enumerate_next ?_ (F.args_enumerate_next_1 _)
  show wpAny _ _ (field (.ref e) 2 >>= _) _ _ _
  refine wpAny_bind (wpAny_field he rfl (x := .ref it) rfl (wpAny_bind ?_))
  refine wpAny_nextOf_tuple_end (A := Ar.in1) hh hi tup (Array.getElem?_eq_none ge) fun h1 x k ⟨o, ho, hc⟩ => ?_
  exact wpAny_bind (wpAny_isInstance (T := "StopIteration") (b := true) ⟨o, ho, hc⟩ isSubtype_stop (wpAny_pure (hQ _ k)))
end
/-- the tuple at a, each item in a new pair -/
def IteT (K : PySem.W.Frag) (a : Addr) : It where
  go := fun i H => ∃ (xs : List V) (x : V), SqT K H a xs ∧ xs[i]? = some x
  yld := fun i H v H' => ∃ p x, v = .ref p ∧ H p = none ∧ H' = upd H p (.tup [.int (i : Nat), x]) ∧ ∀ xs, SqT K H a xs → xs[i]? = some x
  stop := fun i H => ∃ xs : List V, SqT K H a xs ∧ xs.length ≤ i
theorem turn_enumT {P : Program} {w : World} {K : PySem.W.Frag} {elts : List Expr} {kk : Nat} {tpos : Pos} {a e it : Addr} (n1 : e ≠ it) (n2 : a ≠ it) (n3 : a ≠ e) :
    Turn P w K (.Tuple elts kk tpos) (IteT K a) [e, it] e (fun i h => (∃ old, IsEnum h e it ((i : Nat) : Int) old) ∧ h.IsTupleIter it a i) where
  mem := by simp
  obj := fun i h st b hb => by
    obtain ⟨⟨old, he⟩, ⟨o, ho, _, dd⟩⟩ := st
    rcases List.mem_cons.mp hb with z | z
    · subst z; exact ⟨_, he, fun v q => nomatch q⟩
    · rw [List.mem_singleton.mp z]; exact ⟨o, ho, fun v q => by rw [dd] at q; cases q⟩
  keep := fun i h h' st k => by
    obtain ⟨⟨old, he⟩, hi⟩ := st
    exact ⟨⟨old, k e (by simp) _ he⟩, hi.at fun o q => k it (by simp) o q⟩
  item := by
    intro X hP hw hK hc i pins s σ H E I hf st hg
    subst hP hw hK
    obtain ⟨⟨old, he⟩, hi⟩ := st
    obtain ⟨xs, x, hq, hx⟩ := hg
    obtain ⟨its, rv, tp, _⟩ := I.tuple hq
    obtain ⟨u, hu, ru⟩ := rv.get hx
    have tup : s.heap.IsTuple a its.toArray := tp
    have le : e < s.heap.objs.size := Heap.lt_size he
    have li : it < s.heap.objs.size := by obtain ⟨_, q, _⟩ := hi; exact Heap.lt_size q
    have lt : i < its.toArray.size := by
      have := List.getElem?_eq_some_iff.mp hu
      simpa using this.1
    refine wpAny_pyNext_enum_itemD (Draws.tuple (A := X.A.in1) (I.ok.hd hc) it a n2 its.toArray) he (And.intro hi tup) lt n1 (by simp [n1, Ne.symm n3]) fun y h1 tk hy out st1 hT sz hk => ?_
    have ey : y = u := by
      have hy : its.toArray[i]? = some y := hy
      have hu : its.toArray[i]? = some u := by simpa using hu
      exact Option.some.inj (hy.symm.trans hu)
    subst ey
    refine ⟨_, rfl, wpAny_letOwnedTupleGo_enum (s := { s with heap := h1, toks := tk + 1 }) out fun h2 he2 sb => ?_⟩
    have hT2 : h2.get? s.heap.objs.size = some { cls := .type "tuple", data := .seq #[.int i tk, y] } := (sb.2 _ (Nat.ne_of_gt le)).trans hT
    have new : ObjOk X.prog X.w (upd H s.heap.objs.size (.tup [.int (i : Nat), x])) h2 s.heap.objs.size (.tup [.int (i : Nat), x]) := by
      refine ⟨?_, [.int i tk, y], .cons ⟨_, rfl⟩ (.cons ru .nil), ⟨_, hT2, rfl, _, rfl⟩⟩
      show 2 ≤ sizeLine
      decide
    have I1 : Inv X pins σ (upd H s.heap.objs.size (.tup [.int (i : Nat), x])) { s with heap := h2, toks := tk + 1 } := by
      refine I.turnedNew (ch := [e, it]) (fun b o hb q => ?_) hf (Nat.le_refl _) new
      have nb : b ≠ e ∧ b ≠ it := by simpa using hb
      exact (sb.2 b nb.1).trans (hk b o nb.1 nb.2 q)
    refine ⟨.ref s.heap.objs.size, _, I1, rfl, ⟨_, x, rfl, I.hok.fresh (Nat.le_refl _), rfl, fun ys hy2 => by rw [I.tuple_inj hy2 hq]; exact hx⟩, ⟨⟨y, ?_⟩, st1.1.at fun o q => (sb.2 it (Ne.symm n1)).trans q⟩, fun b hb => ?_⟩
    · rw [show ((i + 1 : Nat) : Int) = (i : Int) + 1 by omega]; exact he2
    · have lb : b < s.heap.objs.size := by
        rcases List.mem_cons.mp hb with z | z
        · rw [z]; exact le
        · rw [List.mem_singleton.mp z]; exact li
      rw [upd_ne (Nat.ne_of_lt lb)]
      exact (hf b hb).1
  done := by
    intro X hP hw hK hc i pins s σ H E I hf st hg
    subst hP hw hK
    obtain ⟨⟨old, he⟩, hi⟩ := st
    obtain ⟨xs, hq, hx⟩ := hg
    obtain ⟨its, rv, tp, _⟩ := I.tuple hq
    have tup : s.heap.IsTuple a its.toArray := tp
    obtain ⟨f0, f1, f2, f3, f4, f5⟩ := hf it (by simp)
    have hl := rv.length
    have ge : its.toArray.size ≤ i := by simp; omega
    refine wpAny_pyNext_enum_endI (I.ok.hd hc) he hi tup ge fun h1 eb => ⟨rfl, I.turned (t' := s.toks) (fun b o hb q => eb b o hb q) f0 f1 f3 f4 f5⟩
  self := fun A i s Q E st hq => by
    obtain ⟨⟨_, he⟩, _⟩ := st
    exact wpAny_pyIter_enum he hq
/-- of a list or of a tuple -/
def iEnumA (K : PySem.W.Frag) (ta : TA) : TI := fun σ H R => ta σ H fun vs H1 => ∃ a xs, vs = [.ref a] ∧ ((SqL K H1 a xs ∧ R (Ite K a) H1) ∨ (SqT K H1 a xs ∧ R (IteT K a) H1))
theorem fp2 {X : Cx} {pins : List (Addr × Obj)} {σ : L2.St} {H : Hp} {s : Shared} (I : Inv X pins σ H s) : ∀ b ∈ [s.heap.objs.size + 1, s.heap.objs.size], FpOk X pins H b := fun b hb => by
  have le : s.heap.objs.size ≤ b := by
    rcases List.mem_cons.mp hb with z | z
    · rw [z]; exact Nat.le_succ _
    · rw [List.mem_singleton.mp z]; exact Nat.le_refl _
  exact I.fpOk le (I.hok.fresh le)
theorem pi_enumA {X : Cx} {e : Expr} {ta : TA} {p pos tpos : Pos} {elts : List Expr} {kk : Nat} (hg : Gl X "enumerate") (hm : X.mg "enumerate" = none) (ha : PA X [e] ta) (hs : starEach [e] X.env = [(false, eval e X.env)] := by rfl) :
    PI X (.Tuple elts kk tpos) (.Call (.Name "enumerate" p) [e] [] pos) (iEnumA X.K ta) := ⟨fun pins s σ H R I h => by
  refine Call_ (ld_blt I hg hm boot_enumerate (PyProof.Rows.callWith_type1 ?_ hs rfl))
  refine thn (ha.run pos pins s σ H _ I h) fun us s1 ⟨vs, H1, I1, r1, a, xs, ex, q⟩ => ?_
  subst ex
  rcases r1 with _ | ⟨r, rr⟩
  cases rr
  cases r
  rcases q with ⟨hq, q⟩ | ⟨hq, q⟩
  · obtain ⟨its, rv, lp, _⟩ := I1.list hq
    refine call_enumerate_list lp.isList fun h1 he hi hz hk => wpAny_pyIter_enum he ?_
    exact ⟨s1.heap.objs.size + 1, [s1.heap.objs.size + 1, s1.heap.objs.size], _, _, H1, rfl, I1.kept (t' := s1.toks) hk, turn_enum a (s1.heap.objs.size + 1) s1.heap.objs.size, ⟨⟨.none, he⟩, hi, Nat.succ_ne_self _⟩, fp2 I1, q⟩
  · obtain ⟨its, rv, tp, _⟩ := I1.tuple hq
    have tup : s1.heap.IsTuple a its.toArray := tp
    have la : a < s1.heap.objs.size := by obtain ⟨_, z, _⟩ := tup; exact Heap.lt_size z
    refine call_enum1 (begins_tuple a its.toArray) tup fun h1 he hi hk => wpAny_pyIter_enum he ?_
    refine ⟨s1.heap.objs.size + 1, [s1.heap.objs.size + 1, s1.heap.objs.size], _, _, H1, rfl, I1.kept (t' := s1.toks) hk, turn_enumT (a := a) (it := s1.heap.objs.size) (Nat.succ_ne_self _) (Nat.ne_of_lt la) (Nat.ne_of_lt (Nat.lt_succ_of_lt la)), ⟨⟨.none, he⟩, ⟨_, hi, rfl, rfl⟩⟩, fp2 I1, q⟩⟩
section
variable {X : Cx} {c : Cn} {tg : Expr}
theorem iteT_items {K : PySem.W.Frag} {Hs : Hp} {a : Addr} {xs : List V} {ds : List D} (h1 : SqT K Hs a xs) (h2 : IsA K Hs ds xs) : ItIs K (IteT K a) (enumD 0 ds) Hs where
  go := fun i Hs' H s1 s2 hi => ⟨xs, xs[i]'(by rw [h2.len]; rw [enumD_len] at hi; exact hi), same_sqt (s1.trans s2) h1, List.getElem?_eq_getElem _⟩
  stop := fun i Hs' H s1 s2 hi0 => have hi := Nat.le_of_eq hi0; ⟨xs, same_sqt (s1.trans s2) h1, by rw [h2.len]; rw [enumD_len] at hi; exact hi⟩
  yld := fun i Hs' H v H' d s1 s2 y hd => by
    obtain ⟨T, x, e, nT, e2, y⟩ := y
    subst e; subst e2
    have hx := y xs (same_sqt (s1.trans s2) h1)
    obtain ⟨z, hz, ed⟩ := enumD_get hd
    obtain ⟨w, hw, iw⟩ := h2.get hz
    rw [hx] at hw
    cases hw
    subst ed
    have L := fun Z => Ext.laid (Z := Z) (o := .tup [.int (i : Nat), x]) s2 nT
    refine ⟨_, L, T, _, rfl, .inl (.inl upd_same), .int i, _, rfl, ?_, x, _, rfl, (iw.same s1).same (L fun _ => False).fz, rfl⟩
    show V.int (i : Int) = V.int ((0 + i : Nat) : Int)
    rw [Nat.zero_add]
def tiEnumA (te : TD) : TID := fun ss Q Ed => te ss (fun x => itemsD x fun ds => Q (enumD 0 ds)) Ed
theorem di_enumA {e : Expr} {te : TD} {p pos tpos : Pos} {elts : List Expr} {kk : Nat} (hm : X.mg "enumerate" = none) (h : DE X c e te) (hg : Gl X "enumerate" := by rfl) (hs : starEach [e] X.env = [(false, eval e X.env)] := by rfl) (hs1 : starEach [e] X.env = (false, eval e X.env) :: starEach [] X.env := by rfl) : DI X c (.Tuple elts kk tpos) (.Call (.Name "enumerate" p) [e] [] pos) (tiEnumA te) := by
  refine pi_imp (pi_enumA hg hm (pa_cons h pa_nil hs1) hs) fun σ H R q => ?_
  obtain ⟨O, Hs, ss, Qi, Ed, A, h, er, g⟩ := q
  refine ⟨O, Hs, ss, _, Ed, A, h, er, fun d v Hs1 H1 x1 i1 q1 => ?_⟩
  unfold itemsD at q1
  split at q1
  · obtain ⟨a, xs, e, h1, h2⟩ := i1
    subst e
    exact ⟨a, xs, rfl, .inl ⟨.of (x1.sub _ _ h1), g _ _ Hs1 H1 x1 (ite_items h1 h2) q1⟩⟩
  · obtain ⟨a, xs, e, h1, h2⟩ := i1
    subst e
    exact ⟨a, xs, rfl, .inr ⟨same_sqt x1.sub h1, g _ _ Hs1 H1 x1 (iteT_items h1 h2) q1⟩⟩
  · exact q1.elim
end
end DL
set_option Elab.async false
set_option linter.all false
set_option maxRecDepth 100000
set_option maxHeartbeats 4000000
/-! DQ: defs with keyword-only parameters -/
namespace DL
open PySem PySem.Spec PyProof.Rows L2
/-- n positional parameters, the keyword-only ones ks with the defaults ds -/
structure DefK (P : Program) (w : World) (K : PySem.W.Frag) (mg : Str → Option Value) (base : Heap) (x : Str) (k n : Nat) (ks : List Str) (ds : List D) (sp : SpD) : Prop where
  ex : ∃ f fd ps dus dvs, FnOk P w K mg base (L2.CX P w) k f fd ps (spD K sp) ∧ mg x = some (.ref f) ∧ PySem.W.keepIn K (.ref f) = true ∧ Binds K fd ps dus ∧ Vals dvs dus ∧ (∀ H, IsA K H ds dvs) ∧ KBn K fd ps n ks (fun us ws => us ++ ws) (fun vs zs => vs ++ zs)
theorem ArgIs.app2 {K Z Hs H} : ∀ {as bs : List Sl} {vs ws : List V}, ArgIs K Z Hs H as vs → ArgIs K Z Hs H bs ws → ArgIs K Z Hs H (as ++ bs) (vs ++ ws)
  | [], _, _, _, h, g => by cases h; exact g
  | .d _ :: _, _, _, _, ⟨v, ws', e1, h1, h3⟩, g => by subst e1; exact ⟨v, _, rfl, h1, h3.app2 g⟩
  | .pool :: _, _, _, _, ⟨p, ws', e1, h1, h3, h4⟩, g => by subst e1; exact ⟨p, _, rfl, h1, h3, h4.app2 g⟩
  | .un :: _, _, _, _, h, _ => h.elim
  | .own _ _ :: _, _, _, _, h, _ => h.elim
section
variable {X : Cx} {c : Cn} {x : Str} {p pos kpos : Pos} {e : Expr} {es : List Expr} {kws : List Keyword} {t tk : TAD} {te : TD} {k n : Nat} {ks : List Str} {ds : List D} {sp : SpD} {nm : Option Str}
/-- a call that leaves the keyword-only parameters to their defaults -/
theorem d_cD (G : DefK X.prog X.w X.K X.mg X.base x k n ks ds sp) (hr : Room k X.A) (ha : DAs X c (e :: es) t) (hg : Gl X x := by rfl) (hdb : (x == ("__debug__" : Str)) = false := by decide) (he : starEach (e :: es) X.env = (false, eval e X.env) :: starEach es X.env := by rfl) (hpl : (backTo pos (starEach es X.env)).any (·.1) = false := by rfl) :
    DE X c (.Call (.Name x p) (e :: es) [] pos) (tdCallN (fun as => sp (as ++ dats ds)) t) := by
  obtain ⟨f, fd, ps, dus, dvs, F, hm, hk, hb, hd, hds, _⟩ := G.ex
  refine pe_imp (pe_call F hr hg hm hk hb hd pass0D ha hdb he hpl) fun σ H Q q => ?_
  obtain ⟨O, Hs, ss, Qd, Ed, A, h, er, g⟩ := q
  refine ⟨O, Hs, ss, _, Ed, A, h, er, fun as vs Hs1 H1 e1 i1 q1 => ?_⟩
  have A1 := A.next e1
  exact ⟨Z0 O, Hs1, _, Qd, fun _ => False, A1.sub, fun p hp => ⟨A1.fz p (by rw [hp]; exact fun z => nomatch z), A1.live p (by rw [hp]; exact fun z => nomatch z)⟩, i1.app (hds Hs1), q1,
    fun d v Hs2 H2 e2 i2 q2 => g d v Hs2 H2 (e1.trans e2) i2 q2, fun _ _ _ _ z => z.elim⟩
theorem d_cDE (G : DefK X.prog X.w X.K X.mg X.base x k n ks ds sp) (hr : Room k X.A) (b : Bd X c) (ha : DAs X c (e :: es) t) (hg : Gl X x := by rfl) (hdb : (x == ("__debug__" : Str)) = false := by decide) (he : starEach (e :: es) X.env = (false, eval e X.env) :: starEach es X.env := by rfl) (hpl : (backTo pos (starEach es X.env)).any (·.1) = false := by rfl) :
    DE X c (.Call (.Name x p) (e :: es) [] pos) (tdCallE (fun as => sp (as ++ dats ds)) t) := by
  obtain ⟨f, fd, ps, dus, dvs, F, hm, hk, hb, hd, hds, _⟩ := G.ex
  refine pe_imp (pe_call F hr hg hm hk hb hd b.px ha hdb he hpl) fun σ H Q q => ?_
  obtain ⟨O, Hs, ss, Qd, Ed, A, h, er, g⟩ := q
  refine ⟨O, Hs, ss, _, Ed, A, h, er, fun as vs Hs1 H1 e1 i1 q1 => ?_⟩
  exact sp_of (A.next e1) er (i1.app (hds Hs1)) q1 fun d v Hs2 H2 e2 i2 q2 => g d v Hs2 H2 (e1.trans e2) i2 q2
abbrev DKs (X : Cx) (c : Cn) (kws : List Keyword) (t : TAD) : Prop := PK X kws (liftA c X.K t)
theorem pk_imp {kws : List Keyword} {t t' : TA} (h : PK X kws t) (f : ∀ σ H Q, t' σ H Q → t σ H Q) : PK X kws t' := ⟨fun po pins s σ H Q I q => h.run po pins s σ H Q I (f _ _ _ q)⟩
theorem dk_nil : DKs X c [] tdNil := by
  refine pk_imp pk_nil fun σ H Q q => ?_
  obtain ⟨O, Hs, ss, Qd, Ed, A, h, er, g⟩ := q
  exact g [] [] Hs H (.refl A.sub) rfl h
theorem dk_cons (ha : DE X c e te) (hr : DKs X c kws t) : DKs X c (⟨nm, e, kpos⟩ :: kws) (tdCons te t) := by
  refine pk_imp (pk_cons ha hr) fun σ H Q q => ?_
  obtain ⟨O, Hs, ss, Qd, Ed, A, h, er, g⟩ := q
  refine ⟨O, Hs, ss, _, Ed, A, h, er, fun d v Hs1 H1 e1 i1 q1 => ?_⟩
  exact ⟨O, Hs1, ss, _, Ed, A.next e1, q1, er, fun as vs Hs2 H2 e2 i2 q2 => g (.d d :: as) (v :: vs) Hs2 H2 (e1.trans e2) ⟨v, vs, rfl, i1.same e2.fz, i2⟩ q2⟩
def tdCallK (n m : Nat) (f : SpD) (t tk : TAD) : TD := fun ss Q Ed => t ss (fun as => tk ss (fun bs => as.length = n ∧ bs.length = m ∧ f (as ++ bs) Q fun _ => False) Ed) Ed
def tdCallKE (n m : Nat) (f : SpD) (t tk : TAD) : TD := fun ss Q Ed => t ss (fun as => tk ss (fun bs => as.length = n ∧ bs.length = m ∧ f (as ++ bs) Q Ed) Ed) Ed
/-- f(e, .., k = v, ..) -/
theorem d_cK (G : DefK X.prog X.w X.K X.mg X.base x k n ks ds sp) (hr : Room k X.A) (ha : DAs X c (e :: es) t) (hkw : DKs X c kws tk) (hg : Gl X x := by rfl) (hall : (backToKw pos (keywordEach kws X.env)).all (·.1.isSome) = true := by rfl) (hks : (backToKw pos (keywordEach kws X.env)).filterMap (·.1) = ks := by rfl)
    (hdb : (x == ("__debug__" : Str)) = false := by decide) (he : starEach (e :: es) X.env = (false, eval e X.env) :: starEach es X.env := by rfl)
    (hpl : ((backTo pos (starEach (e :: es) X.env)).any (·.1) || (backToKw pos (keywordEach kws X.env)).any (·.1.isNone)) = false := by rfl) :
    DE X c (.Call (.Name x p) (e :: es) kws pos) (tdCallK n ks.length sp t tk) := by
  obtain ⟨f, fd, ps, dus, dvs, F, hm, hk, _, _, _, hb⟩ := G.ex
  refine pe_imp (pe_callN F hr hg hm hk hb pass0D ha hkw hall hks hdb he hpl) fun σ H Q q => ?_
  obtain ⟨O, Hs, ss, Qd, Ed, A, h, er, g⟩ := q
  refine ⟨O, Hs, ss, _, Ed, A, h, er, fun as vs Hs1 H1 e1 i1 q1 => ?_⟩
  refine ⟨O, Hs1, ss, _, Ed, A.next e1, q1, er, fun bs zs Hs2 H2 e2 i2 q2 => ?_⟩
  obtain ⟨l1, l2, q2⟩ := q2
  have A2 := (A.next e1).next e2
  exact ⟨i1.len.trans l1, i2.len.trans l2, Z0 O, Hs2, _, Qd, fun _ => False, A2.sub, fun p hp => ⟨A2.fz p (by rw [hp]; exact fun z => nomatch z), A2.live p (by rw [hp]; exact fun z => nomatch z)⟩, (i1.next e2).app2 i2, q2,
    fun d v Hs3 H3 e3 i3 q3 => g d v Hs3 H3 ((e1.trans e2).trans e3) i3 q3, fun _ _ _ _ z => z.elim⟩
theorem d_cKE (G : DefK X.prog X.w X.K X.mg X.base x k n ks ds sp) (hr : Room k X.A) (b : Bd X c) (ha : DAs X c (e :: es) t) (hkw : DKs X c kws tk) (hg : Gl X x := by rfl) (hall : (backToKw pos (keywordEach kws X.env)).all (·.1.isSome) = true := by rfl) (hks : (backToKw pos (keywordEach kws X.env)).filterMap (·.1) = ks := by rfl)
    (hdb : (x == ("__debug__" : Str)) = false := by decide) (he : starEach (e :: es) X.env = (false, eval e X.env) :: starEach es X.env := by rfl)
    (hpl : ((backTo pos (starEach (e :: es) X.env)).any (·.1) || (backToKw pos (keywordEach kws X.env)).any (·.1.isNone)) = false := by rfl) :
    DE X c (.Call (.Name x p) (e :: es) kws pos) (tdCallKE n ks.length sp t tk) := by
  obtain ⟨f, fd, ps, dus, dvs, F, hm, hk, _, _, _, hb⟩ := G.ex
  refine pe_imp (pe_callN F hr hg hm hk hb b.px ha hkw hall hks hdb he hpl) fun σ H Q q => ?_
  obtain ⟨O, Hs, ss, Qd, Ed, A, h, er, g⟩ := q
  refine ⟨O, Hs, ss, _, Ed, A, h, er, fun as vs Hs1 H1 e1 i1 q1 => ?_⟩
  refine ⟨O, Hs1, ss, _, Ed, A.next e1, q1, er, fun bs zs Hs2 H2 e2 i2 q2 => ?_⟩
  obtain ⟨l1, l2, q2⟩ := q2
  exact ⟨i1.len.trans l1, i2.len.trans l2, sp_of ((A.next e1).next e2) er ((i1.next e2).app2 i2) q2 fun d v Hs3 H3 e3 i3 q3 => g d v Hs3 H3 ((e1.trans e2).trans e3) i3 q3⟩
end
end DL
set_option Elab.async false
set_option linter.all false
set_option maxRecDepth 100000
set_option maxHeartbeats 4000000
/-! DT: dicts with keys that are ints and texts -/
namespace DL
open PySem PySem.Spec PyProof.Rows L2
def keyD : D → Option Key
  | .int i => some (.inl i)
  | .str x => some (.inr x)
  | _ => none
theorem keyD_is {K : PySem.W.Frag} {H : Hp} {d : D} {v : V} {k : Key} (i : Is K H d v) (h : keyD d = some k) : v = kV k := by
  cases d <;> simp only [keyD, Option.some.injEq, reduceCtorEq] at h <;> subst h <;> exact i
/-- the value of a key -/
def lookD : List Key → List D → Key → Option D
  | k :: ks, d :: ds, j => if k = j then some d else lookD ks ds j
  | _, _, _ => none
theorem look_is {K : PySem.W.Frag} {H : Hp} : ∀ {ks : List Key} {ds : List D} {xs : List V} {j : Key}, ks.length = ds.length → IsA K H ds xs → match lookD ks ds j with
    | some d => ∃ v, valV (zipV ks xs) j = some v ∧ Is K H d v
    | none => valV (zipV ks xs) j = none
  | [], [], _, _, _, h => by cases h; rfl
  | [], _ :: _, _, _, h, _ => by cases h
  | _ :: _, [], _, _, h, _ => by cases h
  | k :: ks, d :: ds, _, j, h, ⟨x, ys, e, h1, h2⟩ => by
    subst e
    unfold lookD
    by_cases c : k = j
    · rw [if_pos c]
      exact ⟨x, valV_pos c, h1⟩
    · rw [if_neg c]
      have q := look_is (j := j) (Nat.succ.inj h) h2
      show match lookD ks ds j with | some d => ∃ v, valV ((k, x) :: zipV ks ys) j = some v ∧ Is K H d v | none => valV ((k, x) :: zipV ks ys) j = none
      rw [valV_neg c]
      exact q
section
variable {X : Cx} {c : Cn}
/-- the pairs of a display -/
def tdPairs : List (TD × TD) → List Sl → (List (D × D) → Prop) → QE → Prop
  | [], _, Q, _ => Q []
  | p :: r, ss, Q, Ed => p.1 ss (fun k => p.2 ss (fun v => tdPairs r ss (fun ps => Q ((k, v) :: ps)) Ed) Ed) Ed
def PairIs (K : PySem.W.Frag) (Hs : Hp) : List (D × D) → List (V × V) → Prop
  | [], vs => vs = []
  | p :: ps, vs => ∃ k v ws, vs = (k, v) :: ws ∧ Is K Hs p.1 k ∧ Is K Hs p.2 v ∧ PairIs K Hs ps ws
theorem PairIs.same {K Hs Hs'} (s : Same Hs Hs') : ∀ {ps : List (D × D)} {vs : List (V × V)}, PairIs K Hs ps vs → PairIs K Hs' ps vs
  | [], _, h => h
  | _ :: _, _, ⟨k, v, ws, e, h1, h2, h3⟩ => ⟨k, v, ws, e, h1.same s, h2.same s, h3.same s⟩
theorem pairs_run : ∀ (trs : List (TD × TD)) {O : Addr → Option Nat} {Hs H : Hp} {σ : L2.St} {ss : List Sl} {Qp : List (D × D) → Prop} {Ed : QE} {Q : List (V × V) → Hp → Prop}, Abs X.K c O Hs H σ ss → tdPairs trs ss Qp Ed → ErrC X.K c Ed →
    (∀ ps vs Hs' H', Ext (Z0 O) Hs H Hs' H' → PairIs X.K Hs' ps vs → Qp ps → Q vs H') → tPairs (trs.map fun p => (lift c X.K p.1, lift c X.K p.2)) σ H Q
  | [], O, Hs, H, σ, ss, Qp, Ed, Q, A, h, er, g => g [] [] Hs H (.refl A.sub) rfl h
  | (tk, tv) :: r, O, Hs, H, σ, ss, Qp, Ed, Q, A, h, er, g => by
    refine ⟨O, Hs, ss, _, Ed, A, h, er, fun d v Hs1 H1 e1 i1 q1 => ?_⟩
    refine ⟨O, Hs1, ss, _, Ed, A.next e1, q1, er, fun d2 v2 Hs2 H2 e2 i2 q2 => ?_⟩
    exact pairs_run r ((A.next e1).next e2) q2 er fun ps vs Hs3 H3 e3 i3 q3 => g ((d, d2) :: ps) ((v, v2) :: vs) Hs3 H3 ((e1.trans e2).trans e3) ⟨v, v2, vs, rfl, (i1.same e2.fz).same e3.fz, i2.same e3.fz, i3⟩ q3
/-- {k: v, ..}: keys that differ -/
def keysD : List (D × D) → Option (List Key)
  | [] => some []
  | p :: ps => match keyD p.1, keysD ps with
    | some k, some ks => some (k :: ks)
    | _, _ => none
def tdDsp (trs : List (TD × TD)) : TD := fun ss Q Ed => tdPairs trs ss (fun ps => ∃ ks, keysD ps = some ks ∧ ks.Nodup ∧ ps.length ≤ 15 ∧ Q (.dct ks (ps.map (·.2)))) Ed
abbrev DPs (X : Cx) (c : Cn) (pos : Pos) (keys : List (Option Expr)) (vals : List Expr) (trs : List (TD × TD)) : Prop := PPs X pos keys vals (trs.map fun p => (lift c X.K p.1, lift c X.K p.2))
theorem dps_nil {pos : Pos} : DPs X c pos [] [] [] := pps_nil
theorem dps_cons {pos : Pos} {k v : Expr} {ks : List (Option Expr)} {vs : List Expr} {tk tv : TD} {trs : List (TD × TD)} (hk : DE X c k tk) (hv : DE X c v tv) (hr : DPs X c pos ks vs trs) : DPs X c pos (some k :: ks) (v :: vs) ((tk, tv) :: trs) := pps_cons hk hv hr
theorem pairs_keys {K : PySem.W.Frag} {Hs : Hp} : ∀ {ps : List (D × D)} {vs : List (V × V)} {ks : List Key}, PairIs K Hs ps vs → keysD ps = some ks → vs = (zipV ks (vs.map (·.2))).map (fun kv => (kV kv.1, kv.2)) ∧ IsA K Hs (ps.map (·.2)) (vs.map (·.2)) ∧ ks.length = ps.length
  | [], _, ks, h, e => by
    simp only [keysD, Option.some.injEq] at e
    subst e
    cases h
    exact ⟨rfl, rfl, rfl⟩
  | p :: ps, _, ks, ⟨k, v, ws, ev, h1, h2, h3⟩, e => by
    subst ev
    simp only [keysD] at e
    split at e
    · rename_i k0 ks0 q1 q2
      cases e
      obtain ⟨a, b, d⟩ := pairs_keys h3 q2
      refine ⟨?_, ⟨v, _, rfl, h2, b⟩, congrArg Nat.succ d⟩
      rw [keyD_is h1 q1]
      show _ = (kV k0, v) :: (zipV ks0 (ws.map (·.2))).map (fun kv => (kV kv.1, kv.2))
      rw [← a]
    · cases e
theorem merge_new : ∀ (more acc : List (Key × V)), (acc.map (·.1) ++ more.map (·.1)).Nodup → mergeK acc more = acc ++ more
  | [], acc, _ => by rw [List.append_nil]; rfl
  | (k, v) :: r, acc, h => by
    have nk : valV acc k = none := by
      have : k ∉ acc.map (·.1) := fun m => by
        rw [List.nodup_append] at h
        exact h.2.2 k m k (by simp) rfl
      unfold valV
      rw [List.find?_eq_none.mpr fun p hp e => this (by rw [← of_decide_eq_true e]; exact List.mem_map_of_mem hp)]
      rfl
    show mergeK (putK acc k v) r = _
    rw [putK_new v nk, merge_new r (acc ++ [(k, v)]) (by simpa using h)]
    simp
theorem zipV_keys : ∀ {ks : List Key} {xs : List V}, ks.length = xs.length → (zipV ks xs).map (·.1) = ks ∧ (zipV ks xs).length = ks.length
  | [], [], _ => ⟨rfl, rfl⟩
  | [], _ :: _, h => by cases h
  | _ :: _, [], h => by cases h
  | k :: ks, x :: xs, h => by
    obtain ⟨a, b⟩ := zipV_keys (Nat.succ.inj h)
    exact ⟨congrArg (k :: ·) a, congrArg Nat.succ b⟩
theorem d_dsp {pos : Pos} {keys : List (Option Expr)} {vals : List Expr} {trs : List (TD × TD)} (h : DPs X c pos keys vals trs) (hall : keys.all (·.isSome) = true := by rfl) (hl : keys.length = vals.length := by rfl) (h0 : keys ≠ [] := by exact fun z => nomatch z) (h15 : keys.length ≤ 15 := by decide) : DE X c (.Dict keys vals pos) (tdDsp trs) := by
  refine pe_imp (pe_disp h hall hl h0 h15) fun σ H Q q => ?_
  obtain ⟨O, Hs, ss, Qd, Ed, A, h, er, g⟩ := q
  intro p np
  have x0 : Ext (Z0 O) Hs H Hs (upd H p (.dK [])) := .grow A.sub np
  have nps : Hs p = none := by
    cases z : Hs p with
    | none => rfl
    | some u => rw [A.sub _ _ z] at np; cases np
  have nz : ¬ Z0 O p := fun z => A.live p (by rw [show O p = some 0 from z]; exact fun w => nomatch w) np
  refine pairs_run trs (A.next x0) h er fun ps vs Hs2 H2 e2 i2 ⟨ks, hk, nd, few, q⟩ => ?_
  obtain ⟨a, b, l⟩ := pairs_keys i2 hk
  have lv : ks.length = (vs.map (·.2)).length := by rw [b.len, List.length_map, l]
  obtain ⟨z1, z2⟩ := zipV_keys lv
  refine ⟨e2.keep p _ nz upd_same, zipV ks (vs.map (·.2)), a, by rw [z2, l]; exact few, ?_⟩
  rw [merge_new _ [] (by rw [z1]; exact nd), List.nil_append]
  have n2 : Hs2 p = none := e2.new p nps (by rw [upd_same]; exact fun w => nomatch w)
  have xt : Ext (Z0 O) Hs H (upd Hs2 p (.dK (zipV ks (vs.map (·.2))))) (upd H2 p (.dK (zipV ks (vs.map (·.2))))) := ((x0.trans e2).put np n2).freeze np n2 upd_same
  refine g _ _ _ _ xt ?_ q
  exact ⟨p, _, rfl, upd_same, by rw [l, List.length_map], b.same (same_new0 n2)⟩
/-- {} -/
theorem d_dsp0 {pos : Pos} : DE X c (.Dict [] [] pos) (tdC (.dct [] [])) := by
  refine pe_imp pe_dnewK fun σ H Q q => ?_
  obtain ⟨O, Hs, ss, Qd, Ed, A, h, er, g⟩ := q
  intro p np
  exact g (.dct [] []) _ _ _ (.laid A.sub np) ⟨p, [], rfl, upd_same, rfl, rfl⟩ h
/-- d.get(k, x) -/
def tdGet2 (td ty tx : TD) : TD := fun ss Q Ed => td ss (fun x => match x with
  | .dct ks xs => ty ss (fun y => match keyD y with
    | some k => tx ss (fun z => Q ((lookD ks xs k).getD z)) Ed
    | none => False) Ed
  | _ => False) Ed
theorem d_get2 {o e f : Expr} {apos cpos : Pos} {td ty tx : TD} (hu : X.A.units + 1 < cLine) (ho : DE X c o td) (he : DE X c e ty) (hf : DE X c f tx) (m : M2 X o "get" apos e f cpos := by exact ⟨rfl, rfl, rfl, rfl⟩) : DE X c (.Call (.Attribute o "get" apos) [e, f] [] cpos) (tdGet2 td ty tx) := by
  refine pe_imp (pe_dget2 hu ho he hf m) fun σ H Q q => ?_
  obtain ⟨O, Hs, ss, Qd, Ed, A, h, er, g⟩ := q
  refine ⟨O, Hs, ss, _, Ed, A, h, er, fun d v Hs1 H1 e1 i1 q1 => ?_⟩
  split at q1
  · rename_i ks xs
    obtain ⟨a, us, rfl, ha, hl, ia⟩ := i1
    refine ⟨a, rfl, .inl ⟨_, .inl (e1.sub _ _ ha)⟩, O, Hs1, ss, _, Ed, A.next e1, q1, er, fun d2 v2 Hs2 H2 e2 i2 q2 => ?_⟩
    split at q2
    · rename_i k hk
      have ek := keyD_is i2 hk
      subst ek
      refine ⟨O, Hs2, ss, _, Ed, (A.next e1).next e2, q2, er, fun d3 v3 Hs3 H3 e3 i3 q3 => ?_⟩
      have ia3 := (ia.same e2.fz).same e3.fz
      refine ⟨valV (zipV ks us) k, .inl ⟨_, k, .inl (e3.sub _ _ (e3.fz _ _ (e2.fz _ _ ha))), rfl, rfl⟩, ?_⟩
      have lk := look_is (j := k) hl ia3
      cases hd : lookD ks xs k with
      | some d =>
        rw [hd] at lk q3
        obtain ⟨u, e, iu⟩ := lk
        rw [e]
        exact g d u Hs3 H3 ((e1.trans e2).trans e3) iu q3
      | none =>
        rw [hd] at lk q3
        have lk : valV (zipV ks us) k = none := lk
        rw [lk]
        exact g d3 v3 Hs3 H3 ((e1.trans e2).trans e3) i3 q3
    · exact q2.elim
  · exact q1.elim
end
end DL
set_option Elab.async false
set_option linter.all false
set_option maxRecDepth 100000
set_option maxHeartbeats 4000000
/-! DZ: zip of lists and tuples, in any mix -/
namespace DL
open PySem PySem.Spec PyProof.Rows L2
/-- t: a tuple; else a list -/
def ItOf (t : Bool) (h : Heap) (it a : Addr) (i : Nat) : Prop := match t with
  | true => h.IsTupleIter it a i
  | false => h.IsListIter it a i
def SqOf (t : Bool) (K : PySem.W.Frag) (H : Hp) (a : Addr) (xs : List V) : Prop := match t with
  | true => SqT K H a xs
  | false => SqL K H a xs
def OfAt (t : Bool) (h : Heap) (a : Addr) (vs : Array Value) : Prop := match t with
  | true => h.IsTuple a vs
  | false => h.IsList a vs
def iterO (t : Bool) (a : Addr) : Obj := match t with
  | true => { cls := .type "tuple_iterator", data := .fields #[.ref a, .int 0 0] }
  | false => { cls := .type "list_iterator", data := .fields #[.ref a, .int 0 0] }
theorem begins_of (t : Bool) (a : Addr) (vs : Array Value) : Begins (.ref a) (iterO t a) fun h => OfAt t h a vs := by
  cases t
  · exact begins_list a vs
  · exact begins_tuple a vs
theorem draws_of {pr : Program} {w0 : World} {Ar : Around} (t : Bool) (hh : Ar.handled = none) (it a : Addr) (ne : a ≠ it) (vs : Array Value) : Draws pr w0 Ar it [it, a] vs.size (fun i v => vs[i]? = some v) (fun i h => ItOf t h it a i ∧ OfAt t h a vs) := by
  cases t
  · exact Draws.list hh it a ne vs
  · exact Draws.tuple hh it a ne vs
theorem ItOf.ob {t : Bool} {h : Heap} {it a : Addr} {i : Nat} (x : ItOf t h it a i) : ∃ o vs, h.get? it = some o ∧ o.data = .fields vs := by
  cases t
  · obtain ⟨o, h1, _, h2⟩ := x; exact ⟨o, _, h1, h2⟩
  · obtain ⟨o, h1, _, h2⟩ := x; exact ⟨o, _, h1, h2⟩
theorem ItOf.at {t : Bool} {h h' : Heap} {it a : Addr} {i : Nat} (x : ItOf t h it a i) (k : ∀ o, h.get? it = some o → h'.get? it = some o) : ItOf t h' it a i := by
  cases t
  · exact Heap.IsListIter.at x k
  · exact Heap.IsTupleIter.at x k
section
variable {X : Cx} {pins : List (Addr × Obj)} {σ : L2.St} {H : Hp} {s : Shared} {a : Addr} {xs ys : List V}
theorem sq_of (I : Inv X pins σ H s) {t : Bool} (h : SqOf t X.K H a xs) : ∃ its : List Value, Vals xs its ∧ OfAt t s.heap a its.toArray ∧ a < s.heap.objs.size := by
  cases t
  · obtain ⟨its, r, p, _⟩ := I.list h
    exact ⟨its, r, p.isList, p.lt⟩
  · obtain ⟨its, r, p, _⟩ := I.tuple h
    have tup : s.heap.IsTuple a its.toArray := p
    refine ⟨its, r, tup, ?_⟩
    obtain ⟨_, z, _⟩ := tup
    exact Heap.lt_size z
theorem sq_inj (I : Inv X pins σ H s) {t : Bool} (h : SqOf t X.K H a xs) (h' : SqOf t X.K H a ys) : xs = ys := by
  cases t
  · exact I.list_inj h h'
  · exact I.tuple_inj h h'
end
/-- the sequences at a and b, the items in new pairs -/
def ItzM (K : PySem.W.Frag) (t u : Bool) (a b : Addr) : It where
  go := fun i H => ∃ (xs ys : List V) (x y : V), SqOf t K H a xs ∧ SqOf u K H b ys ∧ xs[i]? = some x ∧ ys[i]? = some y
  yld := fun i H v H' => ∃ p x y, v = .ref p ∧ H p = none ∧ H' = upd H p (.tup [x, y]) ∧ (∀ xs, SqOf t K H a xs → xs[i]? = some x) ∧ ∀ ys, SqOf u K H b ys → ys[i]? = some y
  stop := fun i H => ∃ xs ys : List V, SqOf t K H a xs ∧ SqOf u K H b ys ∧ i = min xs.length ys.length
theorem turn_zipM {P : Program} {w : World} {K : PySem.W.Frag} {elts : List Expr} {kk : Nat} {tpos : Pos} {t u : Bool} {a b z TI TO i1 i2 : Addr} (S : ZipSep2 z TI TO i1 i2 [i1, a] [i2, b]) (na : a ≠ i1) (nb : b ≠ i2) :
    Turn P w K (.Tuple elts kk tpos) (ItzM K t u a b) [z, TI, TO, i1, i2] z (fun i h => IsZip h z TI TO .none ∧ IsTupOf2 h TI (.ref i1) (.ref i2) ∧ (∃ x y, IsTupOf2 h TO x y) ∧ ItOf t h i1 a i ∧ ItOf u h i2 b i) where
  mem := by simp
  obj := fun i h st c hc => by
    obtain ⟨hz, hTI, ⟨x, y, hTO⟩, h1, h2⟩ := st
    obtain ⟨o1, v1, e1, d1⟩ := h1.ob
    obtain ⟨o2, v2, e2, d2⟩ := h2.ob
    simp only [List.mem_cons, List.not_mem_nil, or_false] at hc
    rcases hc with q | q | q | q | q <;> subst q
    · exact ⟨_, hz, fun v q => nomatch q⟩
    · exact ⟨_, hTI, fun v q => nomatch q⟩
    · exact ⟨_, hTO, fun v q => nomatch q⟩
    · exact ⟨o1, e1, fun v q => by rw [d1] at q; cases q⟩
    · exact ⟨o2, e2, fun v q => by rw [d2] at q; cases q⟩
  keep := fun i h h' st k => by
    obtain ⟨hz, hTI, ⟨x, y, hTO⟩, h1, h2⟩ := st
    exact ⟨k z (by simp) _ hz, k TI (by simp) _ hTI, ⟨x, y, k TO (by simp) _ hTO⟩, h1.at (k i1 (by simp)), h2.at (k i2 (by simp))⟩
  item := by
    intro X hP hw hK hc i pins s σ H E I hf st hg
    subst hP hw hK
    obtain ⟨hz, hTI, ⟨x0, y0, hTO⟩, h1, h2⟩ := st
    obtain ⟨xs, ys, x, y, hqx, hqy, hx, hy⟩ := hg
    obtain ⟨its, rv, o1, _⟩ := sq_of I hqx
    obtain ⟨its2, rv2, o2, _⟩ := sq_of I hqy
    obtain ⟨v, hv, ru⟩ := rv.get hx
    obtain ⟨v2, hv2, ru2⟩ := rv2.get hy
    have lz := Heap.lt_size hz
    have l1 : i < its.toArray.size := by simpa using (List.getElem?_eq_some_iff.mp hv).1
    have l2 : i < its2.toArray.size := by simpa using (List.getElem?_eq_some_iff.mp hv2).1
    refine wpAny_pyNext_zipD2_item S (draws_of (Ar := X.A.in1) t (I.ok.hd hc) i1 a na its.toArray) (draws_of (Ar := X.A.in1) u (I.ok.hd hc) i2 b nb its2.toArray) hz hTI hTO (And.intro h1 o1) (And.intro h2 o2) l1 l2 fun y1 y2 g1 tk q1 q2 z1 to1 d1 d2 pr sz kp => ?_
    have e1 : y1 = v := by
      have q1 : its.toArray[i]? = some y1 := q1
      have : its.toArray[i]? = some v := by simpa using hv
      exact Option.some.inj (q1.symm.trans this)
    have e2 : y2 = v2 := by
      have q2 : its2.toArray[i]? = some y2 := q2
      have : its2.toArray[i]? = some v2 := by simpa using hv2
      exact Option.some.inj (q2.symm.trans this)
    subst e1
    subst e2
    refine ⟨_, rfl, wpAny_letOwnedTupleGo_zip (s := { s with heap := g1, toks := tk }) z1 fun g2 z2 sb => ?_⟩
    have pr2 : IsTupOf2 g2 s.heap.objs.size y1 y2 := (sb.2 _ (Nat.ne_of_gt lz)).trans pr
    have new : ObjOk X.prog X.w (upd H s.heap.objs.size (.tup [x, y])) g2 s.heap.objs.size (.tup [x, y]) := by
      refine ⟨?_, [y1, y2], .cons ru (.cons ru2 .nil), ⟨_, pr2, rfl, _, rfl⟩⟩
      show 2 ≤ sizeLine
      decide
    have I1 : Inv X pins σ (upd H s.heap.objs.size (.tup [x, y])) { s with heap := g2, toks := tk } := by
      refine I.turnedNew (ch := [z, TI, TO, i1, i2]) (fun c o hb q => ?_) hf (Nat.le_refl _) new
      simp only [List.mem_cons, List.not_mem_nil, or_false, not_or] at hb
      exact (sb.2 c hb.1).trans (kp c o hb.1 hb.2.2.1 hb.2.2.2.1 hb.2.2.2.2 q)
    refine ⟨.ref s.heap.objs.size, _, I1, rfl, ⟨_, x, y, rfl, I.hok.fresh (Nat.le_refl _), rfl, fun l hl => by rw [sq_inj I hl hqx]; exact hx, fun l hl => by rw [sq_inj I hl hqy]; exact hy⟩, ⟨z2, ?_, ⟨y1, y2, ?_⟩, ?_, ?_⟩, fun c hcm => ?_⟩
    · exact (sb.2 _ S.TIz).trans (kp _ _ S.TIz S.TITO S.TIi1 S.TIi2 hTI)
    · exact (sb.2 _ S.TOz).trans to1
    · exact d1.1.at fun o q => (sb.2 _ (Ne.symm S.zi1)).trans q
    · exact d2.1.at fun o q => (sb.2 _ (Ne.symm S.zi2)).trans q
    · have lc : c < s.heap.objs.size := by
        obtain ⟨_, _, k1, _⟩ := h1.ob
        obtain ⟨_, _, k2, _⟩ := h2.ob
        simp only [List.mem_cons, List.not_mem_nil, or_false] at hcm
        rcases hcm with q | q | q | q | q <;> subst q <;> first | exact lz | exact Heap.lt_size hTI | exact Heap.lt_size hTO | exact Heap.lt_size k1 | exact Heap.lt_size k2
      rw [upd_ne (Nat.ne_of_lt lc)]
      exact (hf c hcm).1
  done := by
    intro X hP hw hK hc i pins s σ H E I hf st hg
    subst hP hw hK
    obtain ⟨hz, hTI, ⟨x0, y0, hTO⟩, h1, h2⟩ := st
    obtain ⟨xs, ys, hqx, hqy, he⟩ := hg
    obtain ⟨its, rv, o1, _⟩ := sq_of I hqx
    obtain ⟨its2, rv2, o2, _⟩ := sq_of I hqy
    have l1 : its.toArray.size = xs.length := by rw [List.size_toArray]; exact rv.length.symm
    have l2 : its2.toArray.size = ys.length := by rw [List.size_toArray]; exact rv2.length.symm
    refine wpAny_pyNext_zipD2_end S (draws_of (Ar := X.A.in1) t (I.ok.hd hc) i1 a na its.toArray) (draws_of (Ar := X.A.in1) u (I.ok.hd hc) i2 b nb its2.toArray) hz hTI hTO (And.intro h1 o1) (And.intro h2 o2) (by omega) (by omega) (by omega) fun g1 tk kp => ⟨rfl, ?_⟩
    refine I.turnedL (ch := [z, TI, TO, i1, i2]) (fun c o hb q => ?_) hf
    simp only [List.mem_cons, List.not_mem_nil, or_false, not_or] at hb
    exact kp c o hb.1 hb.2.2.1 hb.2.2.2.1 hb.2.2.2.2 q
  self := fun A i s Q E st h => wpAny_pyIter_zip st.1 h
def iZipM (K : PySem.W.Frag) (ta : TA) : TI := fun σ H R => ta σ H fun vs H1 => ∃ (t u : Bool) (a b : Addr) (xs ys : List V), vs = [.ref a, .ref b] ∧ SqOf t K H1 a xs ∧ SqOf u K H1 b ys ∧ R (ItzM K t u a b) H1
theorem pi_zipM {X : Cx} {e e2 : Expr} {ta : TA} {p pos tpos : Pos} {elts : List Expr} {kk : Nat} (hg : Gl X "zip") (hm : X.mg "zip" = none) (ha : PA X [e, e2] ta)
    (hs : starEach [e, e2] X.env = (false, eval e X.env) :: starEach [e2] X.env := by rfl) (hpl : (backTo pos (starEach [e2] X.env)).any (·.1) = false := by rfl) : PI X (.Tuple elts kk tpos) (.Call (.Name "zip" p) [e, e2] [] pos) (iZipM X.K ta) := ⟨fun pins s σ H R I h => by
  refine Call_ (ld_blt I hg hm PyProof.Rows.boot_zip (PyProof.Rows.callWith_type1 ?_ hs hpl))
  refine thn (ha.run pos pins s σ H _ I h) fun us s1 ⟨vs, H1, I1, r1, t, u, a, b, xs, ys, ex, hqx, hqy, q⟩ => ?_
  subst ex
  rcases r1 with _ | ⟨r, rr⟩
  rcases rr with _ | ⟨r', rr⟩
  cases rr
  cases r
  cases r'
  obtain ⟨its, _, o1, la⟩ := sq_of I1 hqx
  obtain ⟨its2, _, o2, lb⟩ := sq_of I1 hqy
  refine zip_begins2 (begins_of t a its.toArray) (begins_of u b its2.toArray) o1 o2 fun g hz hTI hTO i1 i2 sz kp => wpAny_pyIter_zip hz ?_
  have I2 : Inv X pins σ H1 { s1 with heap := g } := I1.kept (t' := s1.toks) kp
  have S : ZipSep2 (s1.heap.objs.size + 4) (s1.heap.objs.size + 2) (s1.heap.objs.size + 3) s1.heap.objs.size (s1.heap.objs.size + 1) [s1.heap.objs.size, a] [s1.heap.objs.size + 1, b] := zip_sep2 (fp1 := [a]) (fp2 := [b]) (fun c hc => by rw [List.mem_singleton.mp hc]; exact la) (fun c hc => by rw [List.mem_singleton.mp hc]; exact lb)
  have s1i : ItOf t g s1.heap.objs.size a 0 := by
    cases t
    · exact ⟨_, i1, rfl, rfl⟩
    · exact ⟨_, i1, rfl, rfl⟩
  have s2i : ItOf u g (s1.heap.objs.size + 1) b 0 := by
    cases u
    · exact ⟨_, i2, rfl, rfl⟩
    · exact ⟨_, i2, rfl, rfl⟩
  refine ⟨s1.heap.objs.size + 4, [s1.heap.objs.size + 4, s1.heap.objs.size + 2, s1.heap.objs.size + 3, s1.heap.objs.size, s1.heap.objs.size + 1], _, _, H1, rfl, I2, turn_zipM (t := t) (u := u) S (Nat.ne_of_lt la) (Nat.ne_of_lt (Nat.lt_succ_of_lt lb)), ⟨hz, hTI, ⟨_, _, hTO⟩, s1i, s2i⟩, fun c hc => ?_, q⟩
  have le : s1.heap.objs.size ≤ c := by
    simp only [List.mem_cons, List.not_mem_nil, or_false] at hc
    rcases hc with z | z | z | z | z <;> subst z <;> first | exact Nat.le_refl _ | exact Nat.le_add_right _ _
  exact I1.fpOk le (I1.hok.fresh le)⟩
section
variable {X : Cx} {c : Cn} {tg : Expr}
theorem sqof_same {t : Bool} {K : PySem.W.Frag} {H H' : Hp} {a : Addr} {xs : List V} (s : Same H H') (h : SqOf t K H a xs) : SqOf t K H' a xs := by
  cases t
  · rcases h with (h | ⟨o, h⟩) | h
    · exact .inl (.inl (s _ _ h))
    · exact .inl (.inr ⟨o, s _ _ h⟩)
    · exact .inr h
  · exact same_sqt s h
theorem itzM_items {K : PySem.W.Frag} {Hs : Hp} {t u : Bool} {a b : Addr} {xs ys : List V} {ds es : List D} (h1 : SqOf t K Hs a xs) (h2 : IsA K Hs ds xs) (h3 : SqOf u K Hs b ys) (h4 : IsA K Hs es ys) : ItIs K (ItzM K t u a b) (zipD ds es) Hs where
  go := fun i Hs' H s1 s2 hi => by
    rw [zipD_len] at hi
    exact ⟨xs, ys, xs[i]'(by rw [h2.len]; omega), ys[i]'(by rw [h4.len]; omega), sqof_same (s1.trans s2) h1, sqof_same (s1.trans s2) h3, List.getElem?_eq_getElem _, List.getElem?_eq_getElem _⟩
  stop := fun i Hs' H s1 s2 hi => by
    rw [zipD_len] at hi
    exact ⟨xs, ys, sqof_same (s1.trans s2) h1, sqof_same (s1.trans s2) h3, by rw [h2.len, h4.len]; exact hi.symm⟩
  yld := fun i Hs' H v H' d s1 s2 y hd => by
    obtain ⟨T, x, y', e, nT, e2, y1, y2⟩ := y
    subst e; subst e2
    have hx := y1 xs (sqof_same (s1.trans s2) h1)
    have hy := y2 ys (sqof_same (s1.trans s2) h3)
    obtain ⟨z, z', hz, hz', ed⟩ := zipD_get hd
    obtain ⟨w, hw, iw⟩ := h2.get hz
    obtain ⟨w', hw', iw'⟩ := h4.get hz'
    rw [hx] at hw
    rw [hy] at hw'
    cases hw
    cases hw'
    subst ed
    have L := fun Z => Ext.laid (Z := Z) (o := .tup [x, y']) s2 nT
    exact ⟨_, L, T, _, rfl, .inl (.inl upd_same), x, _, rfl, (iw.same s1).same (L fun _ => False).fz, y', _, rfl, (iw'.same s1).same (L fun _ => False).fz, rfl⟩
/-- a list's or a tuple's items -/
def seqD : D → Option (List D)
  | .lst ds => some ds
  | .tup ds => some ds
  | _ => none
theorem seqD_is {K : PySem.W.Frag} {Hs : Hp} {d : D} {v : V} {ds : List D} (i : Is K Hs d v) (h : seqD d = some ds) : ∃ (t : Bool) (a : Addr) (xs : List V), v = .ref a ∧ SqOf t K Hs a xs ∧ IsA K Hs ds xs := by
  cases d <;> simp only [seqD, Option.some.injEq, reduceCtorEq] at h <;> subst h
  · obtain ⟨a, xs, e, h1, h2⟩ := i
    exact ⟨false, a, xs, e, .of h1, h2⟩
  · obtain ⟨a, xs, e, h1, h2⟩ := i
    exact ⟨true, a, xs, e, h1, h2⟩
def tiZipM (t : TAD) : TID := fun ss Q Ed => t ss (fun as => allD as fun ds => match ds with
  | [x, y] => (match seqD x, seqD y with
    | some xs, some ys => Q (zipD xs ys)
    | _, _ => False)
  | _ => False) Ed
theorem di_zipM {e e2 : Expr} {t : TAD} {p pos tpos : Pos} {elts : List Expr} {kk : Nat} (hm : X.mg "zip" = none) (ha : DAs X c [e, e2] t) (hg : Gl X "zip" := by rfl)
    (hs : starEach [e, e2] X.env = (false, eval e X.env) :: starEach [e2] X.env := by rfl) (hpl : (backTo pos (starEach [e2] X.env)).any (·.1) = false := by rfl) : DI X c (.Tuple elts kk tpos) (.Call (.Name "zip" p) [e, e2] [] pos) (tiZipM t) := by
  refine pi_imp (pi_zipM hg hm ha hs hpl) fun σ H R q => ?_
  obtain ⟨O, Hs, ss, Qi, Ed, A, h, er, g⟩ := q
  refine ⟨O, Hs, ss, _, Ed, A, h, er, fun as vs Hs1 H1 x1 i1 q1 => ?_⟩
  obtain ⟨ds, h3, h4⟩ := allD_is i1 q1
  split at h4
  · obtain ⟨x, y, e, ix, iy⟩ := isA2 h3
    subst e
    split at h4
    · rename_i k1 k2
      obtain ⟨t, a, xs, rfl, ha1, ha2⟩ := seqD_is ix k1
      obtain ⟨u, b, ys, rfl, hb1, hb2⟩ := seqD_is iy k2
      exact ⟨t, u, a, b, xs, ys, rfl, sqof_same x1.sub ha1, sqof_same x1.sub hb1, g _ _ Hs1 H1 x1 (itzM_items ha1 ha2 hb1 hb2) h4⟩
    · exact h4.elim
  · exact h4.elim
end
end DL
set_option Elab.async false
set_option linter.all false
set_option maxRecDepth 100000
set_option maxHeartbeats 4000000
/-! DM: tuples: +, *, slices, whatever their lengths -/
namespace DL
open PySem PySem.Spec PyProof.Rows L2
theorem tuple_mulS (l : Addr) (items : Array Value) (n : Nat) (dd : Option Addr) (sl : Array (Option Value)) (x : Int) (u : Tok) (c0 : (decide (x < -(2 ^ 63)) || decide (x ≥ 2 ^ 63)) = false) (c1 : (items.isEmpty || x == 1) = true) :
    Meets (Builtin.«tuple.__mul__» ⟨[.ref l, .int x u], []⟩) (fun _ R s => s.heap.get? l = some { cls := .type "tuple", dict := dd, data := .seq items n, slots := sl } ∧
      R (.ok (.ret (Value.ref l))) s) :=
  .of_wp fun prog w A R s h => by
    obtain ⟨hp, g, d, tk, os⟩ := s
    obtain ⟨hl, h⟩ := h
    have f1 := AutoSeq1.idx_int
    wp_walk using wpAny_loadPart' hl
    repeat (first
      | (refine wpAny_ite_false (decide_eq_false (by rw [c0]; exact Bool.false_ne_true)) ?_; wp_walk using wpAny_loadPart' hl)
      | (refine wpAny_ite_true (decide_eq_true c1) ?_; wp_walk using wpAny_loadPart' hl))
    exact ⟨_, rfl, h⟩
theorem tuple_mulZ (l : Addr) (items : Array Value) (n : Nat) (dd : Option Addr) (sl : Array (Option Value)) (x : Int) (u : Tok) (c0 : (decide (x < -(2 ^ 63)) || decide (x ≥ 2 ^ 63)) = false) (c1 : (items.isEmpty || x == 1) = false) (c2 : (decide (x ≤ 0) || items.isEmpty) = true) :
    Meets (Builtin.«tuple.__mul__» ⟨[.ref l, .int x u], []⟩) (fun _ R s => s.heap.get? l = some { cls := .type "tuple", dict := dd, data := .seq items n, slots := sl } ∧
      R (.ok (.ret (Value.ref s.heap.objs.size))) { s with heap := s.heap.push { cls := Value.type "tuple", data := Data.seq #[] }, toks := s.toks }) :=
  .of_wp fun prog w A R s h => by
    obtain ⟨hp, g, d, tk, os⟩ := s
    obtain ⟨hl, h⟩ := h
    have f1 := AutoSeq1.idx_int
    wp_walk using wpAny_loadPart' hl
    repeat (first
      | (refine wpAny_ite_false (decide_eq_false (by rw [c0]; exact Bool.false_ne_true)) ?_; wp_walk using wpAny_loadPart' hl)
      | (refine wpAny_ite_false (decide_eq_false (by rw [c1]; exact Bool.false_ne_true)) ?_; wp_walk using wpAny_loadPart' hl)
      | (refine wpAny_ite_true (decide_eq_true c2) ?_; wp_walk using wpAny_loadPart' hl))
    exact ⟨_, rfl, h⟩
section
variable {X : Cx}
/-- a tuple times an int -/
def rRepA (K : PySem.W.Frag) : R2 := fun x y H Q => ∃ l k xs, x = .ref l ∧ y = .int k ∧ SqT K H l xs ∧ 0 ≤ k ∧ k ≤ 1000 ∧ xs.length ≤ 1000 ∧ (xs = [] ∨ k = 1 → Q (.ref l) H) ∧ (xs ≠ [] → k ≠ 1 → ∀ p, H p = none → Q (.ref p) (upd H p (.tup (List.replicate k.toNat xs).flatten)))
theorem op_repA : OpR X (binaryOp .Mult) (rRepA X.K) := by
  intro pins s σ H x y v u Q I rx ry h
  obtain ⟨l, k, xs, rfl, rfl, hT, h1, h2, hz, q1, q2⟩ := h
  by_cases hs : xs = [] ∨ k = 1
  · have q := q1 hs
    cases rx
    obtain ⟨t, rfl⟩ := ry
    obtain ⟨its, r, ⟨⟨cls, dd, data, sl⟩, ho, hc, n, hd⟩, hs'⟩ := I.tuple hT
    simp only at hc hd
    subst hc hd
    have c0 : (decide (k < -(2 ^ 63)) || decide (k ≥ 2 ^ 63)) = false := by
      rw [decide_eq_false (by omega), decide_eq_false (by omega)] <;> rfl
    have c1 : (its.toArray.isEmpty || k == 1) = true := by
      rcases hs with hs | hs
      · subst hs
        cases r
        rfl
      · rw [hs]
        exact Bool.or_true _
    exact wpAny_binaryOp_repeat_ref (T := "tuple") (U := "int") (by decide) ⟨_, ho, rfl⟩ (fun s' => typeIs_int s' k t) noFill_tuple_mul F.fills_int_mul F.slot_int_rmul repeat_tuple F.slot_int_index.lookup
      (call_meets F.slot_int_rmul (typeIs_int s k t) F.entry_int_rmul (F.args_int_rmul_2 _ _) (int_rmul_tuple k t l its.toArray n dd sl)
        ⟨ho, rfl, ⟨_, ho, rfl⟩, call_meets F.slot_tuple_mul ⟨_, ho, rfl⟩ F.entry_tuple_mul (F.args_tuple_mul_2 _ _) (tuple_mulS l its.toArray n dd sl k t c0 c1) ⟨ho, .ref l, H, I, rfl, q⟩⟩)
  · have hne : xs ≠ [] := fun z => hs (.inl z)
    have k1 : k ≠ 1 := fun z => hs (.inr z)
    by_cases k0 : 2 ≤ k
    · exact op_repT pins s σ H _ _ v u Q I rx ry ⟨l, k, xs, rfl, rfl, hT, hne, k0, h2, hz, q2 hne k1⟩
    · obtain rfl : k = 0 := by omega
      have q := q2 hne k1
      cases rx
      obtain ⟨t, rfl⟩ := ry
      obtain ⟨its, r, ⟨⟨cls, dd, data, sl⟩, ho, hc, n, hd⟩, hs'⟩ := I.tuple hT
      simp only at hc hd
      subst hc hd
      have hi : its.toArray.isEmpty = false := by
        cases its with
        | nil => cases r; exact absurd rfl hne
        | cons a b => rfl
      refine wpAny_binaryOp_repeat_ref (T := "tuple") (U := "int") (by decide) ⟨_, ho, rfl⟩ (fun s' => typeIs_int s' 0 t) noFill_tuple_mul F.fills_int_mul F.slot_int_rmul repeat_tuple F.slot_int_index.lookup
        (call_meets F.slot_int_rmul (typeIs_int s 0 t) F.entry_int_rmul (F.args_int_rmul_2 _ _) (int_rmul_tuple 0 t l its.toArray n dd sl)
          ⟨ho, rfl, ⟨_, ho, rfl⟩, call_meets F.slot_tuple_mul ⟨_, ho, rfl⟩ F.entry_tuple_mul (F.args_tuple_mul_2 _ _) (tuple_mulZ l its.toArray n dd sl 0 t (by decide) (by rw [hi]; rfl) (by rfl)) ⟨ho, ?_⟩⟩)
      refine ⟨.ref s.heap.objs.size, _, I.laid (t' := s.toks) (o := .tup []) (fun b ob q => Heap.get?_push_of_some _ q) (Nat.le_refl _) ?_, rfl, q _ (I.hok.fresh (Nat.le_refl _))⟩
      exact ⟨Nat.zero_le _, [], .nil, IsTup.new _ _⟩
/-- + of ints, texts, lists, tuples of any length -/
def rAddA : RD2 := fun x y Q => match x, y with
  | .tup xs, .tup ys => xs.length + ys.length ≤ sizeLine ∧ Q (.tup (xs ++ ys))
  | _, _ => rAddD x y Q
theorem isA_nil {K : PySem.W.Frag} {H : Hp} {ds : List D} (h : IsA K H ds []) : ds = [] := by
  have := h.len
  cases ds with
  | nil => rfl
  | cons _ _ => cases this
theorem isA_nil2 {K : PySem.W.Frag} {H : Hp} {xs : List V} (h : IsA K H [] xs) : xs = [] := h
theorem od_addA : OpD X (binaryOp .Add) rAddA := by
  obtain ⟨r0, o0, c0⟩ := (od_add (X := X))
  refine ⟨_, op_or o0 op_catA, fun Z Hs H d e v u Qd Q s i1 i2 q cn => ?_⟩
  unfold rAddA at q
  split at q
  · obtain ⟨a, xs, e1, h1, h2⟩ := i1
    obtain ⟨b, ys, e2, h3, h4⟩ := i2
    refine .inr ⟨a, b, xs, ys, e1, e2, same_sqt s h1, same_sqt s h3, by rw [h2.len, h4.len]; exact q.1, fun z => ?_, fun _ z => ?_, fun _ _ p np => ?_⟩
    · subst z
      have := isA_nil h2
      subst this
      exact cn (.tup _) _ Hs H (.refl s) ⟨b, ys, rfl, h3, h4⟩ q.2
    · subst z
      have := isA_nil h4
      subst this
      have q2 := q.2
      rw [List.append_nil] at q2
      exact cn (.tup _) _ Hs H (.refl s) ⟨a, xs, rfl, h1, h2⟩ q2
    · exact cn (.tup _) _ (upd Hs p (.tup (xs ++ ys))) _ (.laid s np) ⟨p, _, rfl, .inl (.inl upd_same), (h2.app h4).same (Ext.laid (Z := Z) s np).fz⟩ q.2
  · exact .inl (c0 Z Hs H _ _ _ _ Qd Q s i1 i2 q cn)
/-- * of ints, of a list or a tuple and an int -/
def rMulA : RD2 := fun x y Q => match x, y with
  | .tup xs, .int k => xs.length ≤ 1000 ∧ 0 ≤ k ∧ k ≤ 1000 ∧ Q (.tup (List.replicate k.toNat xs).flatten)
  | _, _ => rMulD2 x y Q
theorem od_mulA : OpD X (binaryOp .Mult) rMulA := by
  obtain ⟨r0, o0, c0⟩ := (od_mul (X := X))
  refine ⟨_, op_or o0 op_repA, fun Z Hs H d e v u Qd Q s i1 i2 q cn => ?_⟩
  unfold rMulA at q
  split at q
  · obtain ⟨a, xs, e1, h1, h2⟩ := i1
    obtain ⟨q1, q2, q3, q4⟩ := q
    refine .inr ⟨a, _, xs, e1, i2, same_sqt s h1, q2, q3, by rw [h2.len]; exact q1, fun z => ?_, fun _ _ p np => ?_⟩
    · rcases z with z | z
      · subst z
        have := isA_nil h2
        subst this
        have e : ∀ n : Nat, (List.replicate n ([] : List D)).flatten = [] := fun n => by simp
        rw [e] at q4
        exact cn (.tup _) _ Hs H (.refl s) ⟨a, [], rfl, h1, h2⟩ q4
      · subst z
        have e : ∀ ds : List D, (List.replicate (1 : Int).toNat ds).flatten = ds := fun ds => by simp
        rw [e] at q4
        exact cn (.tup _) _ Hs H (.refl s) ⟨a, xs, rfl, h1, h2⟩ q4
    · exact cn (.tup _) _ (upd Hs p (.tup _)) _ (.laid s np) ⟨p, _, rfl, .inl (.inl upd_same), (isA_rep h2 _).same (Ext.laid (Z := Z) s np).fz⟩ q4
  · exact .inl (c0 Z Hs H _ _ _ _ Qd Q s i1 i2 q cn)
/-! ### slices -/
abbrev TPD := List Sl → (Option Int → Prop) → QE → Prop
def liftP (c : Cn) (K : PySem.W.Frag) (t : TPD) : TO := fun σ H Q => ∃ O Hs ss Qd Ed, Abs K c O Hs H σ ss ∧ t ss Qd Ed ∧ ErrC K c Ed ∧ ∀ o Hs' H', Ext (Z0 O) Hs H Hs' H' → Qd o → Q o H'
abbrev DPt (X : Cx) (c : Cn) (e : Option Expr) (t : TPD) : Prop := PO X e (liftP c X.K t)
theorem po_imp {e : Option Expr} {t t' : TO} (h : PO X e t) (f : ∀ σ H Q, t' σ H Q → t σ H Q) : PO X e t' := ⟨fun pins s σ H Q I q => h.run pins s σ H Q I (f _ _ _ q)⟩
def tdNoPt : TPD := fun _ Q _ => Q none
def tdPt (t : TD) : TPD := fun ss Q Ed => t ss (fun x => match x with
  | .int i => Q (some i)
  | _ => False) Ed
theorem dp_none {c : Cn} : DPt X c none tdNoPt := po_imp po_none fun σ H Q q => by
  obtain ⟨O, Hs, ss, Qd, Ed, A, h, er, g⟩ := q
  exact g none Hs H (.refl A.sub) h
theorem dp_some {c : Cn} {e : Expr} {t : TD} (h : DE X c e t) : DPt X c (some e) (tdPt t) := po_imp (po_some h) fun σ H Q q => by
  obtain ⟨O, Hs, ss, Qd, Ed, A, h, er, g⟩ := q
  refine ⟨O, Hs, ss, _, Ed, A, h, er, fun d v Hs1 H1 e1 i1 q1 => ?_⟩
  split at q1
  · exact ⟨_, i1, g _ Hs1 H1 e1 q1⟩
  · exact q1.elim
def cutD (xs : List D) (lo hi : Option Int) : List D := (xs.drop (HT.sIx xs.length 0 lo)).take (HT.sIx xs.length xs.length hi - HT.sIx xs.length 0 lo)
theorem cut_is {K : PySem.W.Frag} {H : Hp} {ds : List D} {xs : List V} (h : IsA K H ds xs) (lo hi : Option Int) : IsA K H (cutD ds lo hi) (cutV xs lo hi) := by
  unfold cutD cutV
  rw [h.len]
  exact (h.drop _).take _
def rSlD (x : D) (lo hi : Option Int) (Q : QD) : Prop := match x with
  | .lst ds => Q (.lst (cutD ds lo hi))
  | .tup ds => Q (.tup (cutD ds lo hi))
  | _ => False
def tdSlice (te : TD) (tl th : TPD) : TD := fun ss Q Ed => te ss (fun x => tl ss (fun l => th ss (fun h => rSlD x l h Q) Ed) Ed) Ed
theorem cut_whole {xs : List D} {lo hi : Option Int} (h : HT.sIx xs.length 0 lo = 0 ∧ HT.sIx xs.length xs.length hi = xs.length) : cutD xs lo hi = xs := by
  unfold cutD
  rw [h.1, h.2, List.drop_zero, Nat.sub_zero, List.take_length]
theorem d_slice {c : Cn} {e : Expr} {lo hi : Option Expr} {te : TD} {tl th : TPD} {pos p2 : Pos} (he : DE X c e te) (hl : DPt X c lo tl) (hh : DPt X c hi th) : DE X c (.Subscript e (.Slice lo hi none p2) pos) (tdSlice te tl th) := by
  refine pe_imp (pe_slice (SlR.or (sl_list (X := X)) sl_tupA) he hl hh) fun σ H Q q => ?_
  obtain ⟨O, Hs, ss, Qd, Ed, A, h, er, g⟩ := q
  refine ⟨O, Hs, ss, _, Ed, A, h, er, fun d v Hs1 H1 e1 i1 q1 => ?_⟩
  refine ⟨O, Hs1, ss, _, Ed, A.next e1, q1, er, fun o Hs2 H2 e2 q2 => ?_⟩
  refine ⟨O, Hs2, ss, _, Ed, A.next (e1.trans e2), q2, er, fun o2 Hs3 H3 e3 q3 => ?_⟩
  have e13 := (e1.trans e2).trans e3
  have i3 := i1.same ((e2.trans e3).fz)
  unfold rSlD at q3
  split at q3
  · obtain ⟨a, xs, ev, h1, h2⟩ := i3
    refine .inl ⟨a, xs, ev, SqL.of (e3.sub _ _ h1), fun p np => ?_⟩
    exact g (.lst _) _ _ _ (e13.trans (.laid e3.sub np)) ⟨p, _, rfl, upd_same, (cut_is h2 o o2).same (Ext.laid (Z := Z0 O) e3.sub np).fz⟩ q3
  · obtain ⟨a, xs, ev, h1, h2⟩ := i3
    refine .inr ⟨a, xs, ev, same_sqt e3.sub h1, fun z => ?_, fun _ p np => ?_⟩
    · rw [h2.len] at z
      rw [cut_whole z] at q3
      exact g (.tup _) _ _ _ e13 ⟨a, xs, rfl, h1, h2⟩ q3
    · exact g (.tup _) _ _ _ (e13.trans (.laid e3.sub np)) ⟨p, _, rfl, .inl (.inl upd_same), (cut_is h2 o o2).same (Ext.laid (Z := Z0 O) e3.sub np).fz⟩ q3
  · exact q3.elim
end
end DL
set_option Elab.async false
set_option linter.all false
set_option maxRecDepth 100000
set_option maxHeartbeats 4000000
namespace LR
open PySem PySem.Spec PyProof.Rows L2
def topS (i : Nat) : Stmt := PySem.Challenge.pw_laprunners_k51_moments_combined.main.body.getD i (.Pass ⟨0, 0, 0, 0⟩)
abbrev s_is_integer : Stmt := topS 8
abbrev s_is_ratio : Stmt := topS 9
abbrev s_is_number : Stmt := topS 10
abbrev s_as_ratio : Stmt := topS 11
abbrev s_reduced : Stmt := topS 12
abbrev s_plus : Stmt := topS 13
abbrev s_minus : Stmt := topS 14
abbrev s_times : Stmt := topS 15
abbrev s_divided : Stmt := topS 16
abbrev s_floor_of : Stmt := topS 17
abbrev s_is_positive : Stmt := topS 19
abbrev s_as_time : Stmt := topS 20
abbrev s_solved : Stmt := topS 22
abbrev s_common0 : Stmt := topS 23
abbrev s_inverse : Stmt := topS 24
abbrev cMom : Stmt := topS 26
abbrev s_common : Stmt := topS 27
abbrev s_in_units : Stmt := topS 28
abbrev s_law_pool : Stmt := topS 30
abbrev s_law_draw : Stmt := topS 31
abbrev s_law_cut : Stmt := topS 32
abbrev s_law_sum : Stmt := topS 33
abbrev s_law_number : Stmt := topS 34
abbrev s_law_common : Stmt := topS 35
abbrev s_law_error : Stmt := topS 36
abbrev s_law : Stmt := topS 37
end LR
set_option Elab.async false
set_option linter.all false
set_option maxRecDepth 100000
set_option maxHeartbeats 4000000
namespace LR
open PySem PySem.Spec PyProof.Rows L2
theorem sc_is_integer : FnScope ["value"] ["value"] (defScope s_is_integer) := ⟨rfl, rfl, rfl, by decide +kernel, rfl, by decide +kernel, by decide +kernel⟩
theorem sc_is_ratio : FnScope ["value", "top", "bottom"] ["value"] (defScope s_is_ratio) := ⟨rfl, rfl, rfl, by decide +kernel, rfl, by decide +kernel, by decide +kernel⟩
theorem sc_is_number : FnScope ["value"] ["value"] (defScope s_is_number) := ⟨rfl, rfl, rfl, by decide +kernel, rfl, by decide +kernel, by decide +kernel⟩
theorem sc_as_ratio : FnScope ["value", "top", "bottom"] ["value"] (defScope s_as_ratio) := ⟨rfl, rfl, rfl, by decide +kernel, rfl, by decide +kernel, by decide +kernel⟩
theorem sc_reduced : FnScope ["top", "bottom", "divisor"] ["top", "bottom"] (defScope s_reduced) := ⟨rfl, rfl, rfl, by decide +kernel, rfl, by decide +kernel, by decide +kernel⟩
section
variable {P : Program} {w : World} {K : PySem.W.Frag} {mg : Str → Option Value} {base : Heap}
abbrev CXl (P : Program) (w : World) : CXT := L2.CX P w
/-! ### is_integer -/
def spII (K : PySem.W.Frag) : Sp := fun vs H Q _ => ∃ (x : V) (n : String), vs = [x] ∧ Kd K H x n ∧ Q (.bl (isI x)) H
theorem ok_II {f : Addr} {fd : FuncData} (F : Fun K "is_integer" "is_integer" s_is_integer f fd) (mi : mg "isinstance" = none) (m1 : mg "int" = none) (m2 : mg "bool" = none) : FnOk P w K mg base (CXn P w) 1 f fd ["value"] (spII K) := by
  refine F.okN sc_is_integer (fun vs H Q E h => ?_) (fun cdv A outer s H vs Q E hr h => ?_)
  · obtain ⟨x, n, rfl, _⟩ := h
    rfl
  · obtain ⟨x, n, rfl, hk, q⟩ := h
    refine ⟨_, pss_one (ps_ret (pe_and (pe_callB call_isi (by rfl) mi (by decide +kernel) (pa_cons (pv 0) (pa_cons (pe_bltn (v := .ty "int") (by rfl) m1 (by decide +kernel) rfl) pa_nil)))
      (pe_one (pe_not (pe_callB call_isi (by rfl) mi (by decide +kernel) (pa_cons (pv 0) (pa_cons (pe_bltn (v := .ty "bool") (by rfl) m2 (by decide +kernel) rfl) pa_nil))))))), ?_⟩
    have e := kd_isI hk
    refine ⟨x, rfl, x, _, _, _, _, rfl, .ty "int", hk.ty, kd_int hk, _, rfl, ite2 (fun c => ?_) (fun c => ?_)⟩
    · refine ⟨x, rfl, x, _, _, _, _, rfl, .ty "bool", hk.ty, kd_bool hk, _, rfl, ?_⟩
      rw [c, Bool.true_and] at e
      rw [e]
      exact q
    · have c' := Bool.not_eq_true _ ▸ c
      rw [c', Bool.false_and] at e
      rw [e]
      exact q
/-! ### is_ratio -/
def isRef : V → Bool | .ref _ => true | _ => false
def spIR (K : PySem.W.Frag) : Sp := fun vs H Q _ => ∃ (x : V) (o : Option Rat), vs = [x] ∧ Arg K H x o ∧ Q (.bl (isRef x && o.isSome)) H
theorem ratOf_len {xs : List V} (h : xs.length ≠ 2) : ratOf xs = none := by
  match xs, h with
  | [], _ => rfl
  | [_], _ => unfold ratOf; split <;> simp_all
  | [_, _], h => exact absurd rfl h
  | _ :: _ :: _ :: _, _ => unfold ratOf; split <;> simp_all
theorem ratOf_no0 {x0 x1 : V} (h : isI x0 = false) : ratOf [x0, x1] = none := by
  unfold ratOf
  split
  · rename_i e
    cases e
    cases h
  · rfl
theorem ratOf_no1 {x0 x1 : V} (h : isI x1 = false) : ratOf [x0, x1] = none := by
  unfold ratOf
  split
  · rename_i e
    cases e
    cases h
  · rfl
theorem ratOf_ii {i j : Int} : (ratOf [.int i, .int j]).isSome = (decide (1 ≤ j) && decide (Nat.gcd i.natAbs j.natAbs = 1)) := by
  show (if 1 ≤ j ∧ Nat.gcd i.natAbs j.natAbs = 1 then some (Rat.divInt i j) else none).isSome = _
  by_cases c : 1 ≤ j
  · by_cases d : Nat.gcd i.natAbs j.natAbs = 1
    · simp [c, d]
    · simp [c, d]
  · simp [c]
theorem isSome_no {o : Option Rat} (h : o.isSome = false) : o = none := by
  cases o with
  | none => rfl
  | some _ => cases h
theorem isI_int {x : V} (h : isI x = true) : ∃ i, x = .int i := by
  cases x <;> first | exact ⟨_, rfl⟩ | cases h
theorem gcd_eq1 {i j : Int} : decide (V.int ((Nat.gcd i.natAbs j.natAbs : Nat) : Int) = V.int 1) = decide (Nat.gcd i.natAbs j.natAbs = 1) := by
  apply decide_eq_decide.mpr
  rw [V.int.injEq]
  omega
theorem len_ne2 {n : Nat} (h : n ≠ 2) : decide (V.int ((n : Nat) : Int) = V.int 2) = false := by
  rw [decide_eq_false]
  rw [V.int.injEq]
  omega
theorem ok_IR {f fI : Addr} {fd dI : FuncData} (F : Fun K "is_ratio" "is_ratio" s_is_ratio f fd) (DI : DefAt K mg "is_integer" s_is_integer ["value"] fI dI) (mi : mg "isinstance" = none) (m3 : mg "tuple" = none)
    (ml : mg "len" = none) (mgc : mg "gcd" = some (.builtin "math.gcd")) (GI : FnOk P w K mg base (CXn P w) 1 fI dI ["value"] (spII K)) : FnOk P w K mg base (CXn P w) 2 f fd ["value"] (spIR K) := by
  refine F.okN sc_is_ratio (fun vs H Q E h => ?_) (fun cdv A outer s H vs Q E hr h => ?_)
  · obtain ⟨x, n, rfl, _⟩ := h
    rfl
  · obtain ⟨x, o, rfl, ha, q⟩ := h
    refine ⟨_, pss_cons (ps_if (PW.pt (pw_or (pt_not (pt_val (pe_callB call_isi (by rfl) mi (by decide +kernel) (pa_cons (pv 0) (pa_cons (pe_bltn (v := .ty "tuple") (by rfl) m3 (by decide +kernel) rfl) pa_nil)))))
        (pw_or1 (pt_cmpR op_ne (pe_callB call_len_seq (by rfl) ml PySem.boot_len (pa_cons (pv 0) pa_nil)) pe_int (nomark _))))) (pss_one (ps_ret pe_bl)) pss_nil)
      (pss_cons (ps_asg (pv 0) (pg_tup rfl (pgs_cons (pg_name (i := 1) sc_is_ratio.nd rfl (.inl rfl)) (pgs_cons (pg_name (i := 2) sc_is_ratio.nd rfl (.inl rfl)) pgs_nil))))
      (pss_one (ps_ret (pe_and (pe_call GI hr (by rfl) DI.g DI.F.kp DI.b .nil passN (pa_cons (pv 1) pa_nil)) (pe_and (pe_call GI hr (by rfl) DI.g DI.F.kp DI.b .nil passN (pa_cons (pv 2) pa_nil))
        (pe_and (pe_cmpR op_ge (pv 2) pe_int (nomark _)) (pe_one (pe_cmpR op_eq (pe_callBfun cr_gcd (by rfl) mgc (pa_cons (pv 1) (pa_cons (pv 2) pa_nil))) pe_int (nomark _))))))))), ?_⟩
    cases ha with
    | int i =>
      refine ⟨_, rfl, _, _, _, _, _, rfl, .ty "tuple", (Kd.int i).ty, kd_tuple (H := H) (.int i), _, rfl, ?_⟩
      exact q
    | oth hk n1 n2 =>
      refine ⟨_, rfl, _, _, _, _, _, rfl, .ty "tuple", hk.ty, kd_tuple hk, _, rfl, ?_⟩
      rw [n2]
      rw [show (isRef x && (none : Option Rat).isSome) = false from Bool.and_false _] at q
      exact q
    | @tup a xs _ ht hk e =>
      refine ⟨_, rfl, _, _, _, _, _, rfl, .ty "tuple", sqt_ty ht, kd_tuple (.tup ht), _, rfl, ?_⟩
      refine ⟨.ref a, rfl, a, xs, rfl, .inr ht, rfl, _, rfl, ?_⟩
      subst e
      by_cases hl : xs.length = 2
      · obtain ⟨x0, x1, rfl⟩ : ∃ x0 x1, xs = [x0, x1] := by
          match xs, hl with
          | [x0, x1], _ => exact ⟨x0, x1, rfl⟩
        obtain ⟨n0, k0⟩ := hk rfl x0 (by simp)
        obtain ⟨n1, k1⟩ := hk rfl x1 (by simp)
        refine iteF ?_
        refine ⟨.ref a, rfl, a, _, rfl, ht, rfl, x0, _, rfl, x1, _, rfl, rfl, ?_⟩
        refine ⟨x0, rfl, x0, n0, rfl, k0, _, rfl, ?_⟩
        refine ite2 (fun c => ?_) (fun c => ?_)
        · refine ⟨x1, rfl, x1, n1, rfl, k1, _, rfl, ?_⟩
          refine ite2 (fun c1 => ?_) (fun c1 => ?_)
          · obtain ⟨i0, rfl⟩ := isI_int c
            obtain ⟨i1, rfl⟩ := isI_int c1
            rw [show isRef (.ref a) = true from rfl, Bool.true_and, ratOf_ii] at q
            refine ⟨_, rfl, i1, 1, rfl, rfl, _, rfl, ite2 (fun c => ?_) (fun c => ?_)⟩
            · have c3 : decide ((1 : Int) ≤ i1) = true := c
              refine ⟨_, rfl, _, rfl, i0, i1, rfl, rfl, ?_⟩
              rw [c3, Bool.true_and] at q
              rw [gcd_eq1]
              exact q
            · have c3 : decide ((1 : Int) ≤ i1) = false := by simpa using c
              rw [c3, Bool.false_and] at q
              exact q
          · have c2 : isI x1 = false := by simpa using c1
            rw [ratOf_no1 c2] at q
            exact q
        · have c2 : isI x0 = false := by simpa using c
          rw [ratOf_no0 c2] at q
          exact q
      · rw [ratOf_len hl] at q
        refine ite2 (fun _ => q) (fun c => absurd (by rw [len_ne2 hl]; rfl) c)
/-! ### is_number -/
def spIN (K : PySem.W.Frag) : Sp := fun vs H Q _ => ∃ (x : V) (o : Option Rat), vs = [x] ∧ Arg K H x o ∧ Q (.bl o.isSome) H
theorem Arg.kd {H : Hp} {x : V} {o : Option Rat} (h : Arg K H x o) : ∃ n, Kd K H x n := by
  cases h with
  | int i => exact ⟨_, .int i⟩
  | tup h _ _ => exact ⟨_, .tup h⟩
  | oth h _ _ => exact ⟨_, h⟩
theorem kd_noI {H : Hp} {x : V} {n : String} (h : Kd K H x n) (e : (n == "int") = false) : isI x = false := by
  cases h <;> first | rfl | cases e
theorem ok_IN {f fI fR : Addr} {fd dI dR : FuncData} (F : Fun K "is_number" "is_number" s_is_number f fd) (DI : DefAt K mg "is_integer" s_is_integer ["value"] fI dI) (DR : DefAt K mg "is_ratio" s_is_ratio ["value"] fR dR)
    (GI : FnOk P w K mg base (CXn P w) 1 fI dI ["value"] (spII K)) (GR : FnOk P w K mg base (CXn P w) 2 fR dR ["value"] (spIR K)) : FnOk P w K mg base (CXn P w) 3 f fd ["value"] (spIN K) := by
  refine F.okN sc_is_number (fun vs H Q E h => ?_) (fun cdv A outer s H vs Q E hr h => ?_)
  · obtain ⟨x, o, rfl, _⟩ := h
    rfl
  · obtain ⟨x, o, rfl, ha, q⟩ := h
    refine ⟨_, pss_one (ps_ret (pe_or (pe_call GI (hr.mono (by decide)) (by rfl) DI.g DI.F.kp DI.b .nil passN (pa_cons (pv 0) pa_nil)) (pe_one (pe_call GR hr (by rfl) DR.g DR.F.kp DR.b .nil passN (pa_cons (pv 0) pa_nil))))), ?_⟩
    obtain ⟨n, hk⟩ := ha.kd
    refine ⟨x, rfl, x, n, rfl, hk, _, rfl, ?_⟩
    cases ha with
    | int i => exact q
    | oth h1 n1 n2 =>
      rw [kd_noI h1 n1]
      refine iteF ⟨x, rfl, x, none, rfl, .oth h1 n1 n2, ?_⟩
      rw [Option.isSome_none, Bool.and_false]
      exact q
    | @tup a xs _ ht hk2 e =>
      refine iteF ⟨_, rfl, _, o, rfl, .tup ht hk2 e, ?_⟩
      rw [show isRef (.ref a) = true from rfl, Bool.true_and]
      exact q
/-! ### as_ratio -/
/-- what is promised of a def that hands back a number, or raises the error at C -/
def Gives (K : PySem.W.Frag) (C : Addr) (o : Option Rat) (H : Hp) (Q : VK) (E : XK) : Prop := match o with
  | some q => ∀ v H', Same H H' → Rn K H' v q → Q v H'
  | none => E (.ref C) none H
def spAR (K : PySem.W.Frag) (C : Addr) : Sp := fun vs H Q E => ∃ (x : V) (o : Option Rat), vs = [x] ∧ Arg K H x o ∧ Gives K C o H Q E
abbrev BMv : List Value := [.type "ValueError", .type "Exception", .type "BaseException", .type "object"]
abbrev BMa : List Value := [.type "ArithmeticError", .type "Exception", .type "BaseException", .type "object"]
theorem kd_tup_ref {H : Hp} {x : V} {n : String} (h : Kd K H x n) : decide (n = "tuple") = (n == "tuple") := by
  cases h <;> rfl
theorem kd_int_ty {H : Hp} {x : V} {n : String} (h : Kd K H x n) : decide (n = "int") = isI x := by
  cases h <;> rfl
theorem ok_AR {f fI fR C : Addr} {fd dI dR : FuncData} (F : Fun K "as_ratio" "as_ratio" s_as_ratio f fd) (DI : DefAt K mg "is_integer" s_is_integer ["value"] fI dI) (DR : DefAt K mg "is_ratio" s_is_ratio ["value"] fR dR) (X : ErrAt K mg "InvalidNumber" BMv "ValueError.__new__" C)
    (mt : mg "type" = none) (m1 : mg "int" = none) (m3 : mg "tuple" = none) (ml : mg "len" = none) (mgc : mg "gcd" = some (.builtin "math.gcd"))
    (GI : FnOk P w K mg base (CXn P w) 1 fI dI ["value"] (spII K)) (GR : FnOk P w K mg base (CXn P w) 2 fR dR ["value"] (spIR K)) : FnOk P w K mg base (CXn P w) 3 f fd ["value"] (spAR K C) := by
  refine F.okN sc_as_ratio (fun vs H Q E h => ?_) (fun cdv A outer s H vs Q E hr h => ?_)
  · obtain ⟨x, o, rfl, _⟩ := h
    rfl
  · obtain ⟨x, o, rfl, ha, q⟩ := h
    refine ⟨_, C8.pss_cut (ps_if (PW.pt (pw_and (pt_cmpR op_isTyB (pe_callTy call_type1 (by rfl) mt (by decide +kernel) (pa_cons (pv 0) pa_nil)) (pe_bltn (v := .ty "tuple") (by rfl) m3 (by decide +kernel) rfl) (nomark _))
          (pw_and1 (pt_cmpR op_eq (pe_callB call_len_seq (by rfl) ml PySem.boot_len (pa_cons (pv 0) pa_nil)) pe_int (nomark _)))))
        (pss_cons (ps_asg (pv 0) (pg_tup rfl (pgs_cons (pg_name (i := 1) sc_as_ratio.nd rfl (.inl rfl)) (pgs_cons (pg_name (i := 2) sc_as_ratio.nd rfl (.inl rfl)) pgs_nil))))
        (pss_one (ps_if (PW.pt (pw_and (pt_cmpR op_isTyB (pe_callTy call_type1 (by rfl) mt (by decide +kernel) (pa_cons (pv 1) pa_nil)) (pe_bltn (v := .ty "int") (by rfl) m1 (by decide +kernel) rfl) (nomark _))
            (pw_and (pt_cmpR op_isTyB (pe_callTy call_type1 (by rfl) mt (by decide +kernel) (pa_cons (pv 2) pa_nil)) (pe_bltn (v := .ty "int") (by rfl) m1 (by decide +kernel) rfl) (nomark _))
            (pw_and (pt_cmpR op_ge (pv 2) pe_int (nomark _)) (pw_and1 (pt_cmpR op_eq (pe_callBfun cr_gcd (by rfl) mgc (pa_cons (pv 1) (pa_cons (pv 2) pa_nil))) pe_int (nomark _)))))))
          (pss_one (ps_ret (pv 0))) pss_nil)))
        (pss_one (ps_if (pt_cmpR op_isTyB (pe_callTy call_type1 (by rfl) mt (by decide +kernel) (pa_cons (pv 0) pa_nil)) (pe_bltn (v := .ty "int") (by rfl) m1 (by decide +kernel) rfl) (nomark _))
          (pss_one (ps_ret (pe_tup (pa_cons (pv 0) (pa_cons pe_int pa_nil))))) pss_nil)))
      (pss_cons (ps_if (pt_val (pe_call GI (hr.mono (by decide)) (by rfl) DI.g DI.F.kp DI.b .nil passN (pa_cons (pv 0) pa_nil))) (pss_one (ps_ret (pe_tup (pa_cons (pv 0) (pa_cons pe_int pa_nil))))) pss_nil)
      (pss_cons (ps_if (pt_val (pe_call GR hr (by rfl) DR.g DR.F.kp DR.b .nil passN (pa_cons (pv 0) pa_nil))) (pss_one (ps_ret (pv 0))) pss_nil)
      (pss_one (L2N.ps_raise rfl (L2N.takes_of rfl rfl rfl rfl) (L2H.PMk5.pmk (X.mk5 PySem.F.excBase_ValueError rfl)))))), ?_⟩
    refine ⟨fun σ' H' => H' = H ∧ isI x = false ∧ o = none ∧ ∃ o1 o2, σ' = [some x, o1, o2], ?_, ?_⟩
    · cases ha with
      | int i =>
        refine ⟨_, rfl, _, _, rfl, (Kd.int (K := K) (H := H) i).tyB, _, _, rfl, rfl, _, rfl, ite2 (fun c => absurd c (by decide)) (fun _ => ?_)⟩
        refine ⟨_, rfl, _, _, rfl, (Kd.int (K := K) (H := H) i).tyB, _, _, rfl, rfl, _, rfl, ite2 (fun _ => ?_) (fun c => absurd (by decide) c)⟩
        refine ⟨_, rfl, by show 2 ≤ sizeLine; decide, fun p np => ?_⟩
        exact q _ _ (same_new np) (Rn.mk (q := (i : Rat)))
      | oth hk n1 n2 =>
        refine ⟨_, rfl, _, _, rfl, hk.tyB, _, _, rfl, rfl, _, rfl, ite2 (fun c => absurd c (by rw [kd_tup_ref hk, n2]; decide)) (fun _ => ?_)⟩
        refine ⟨_, rfl, _, _, rfl, hk.tyB, _, _, rfl, rfl, _, rfl, ite2 (fun c => absurd c (by rw [kd_int_ty hk, kd_noI hk n1]; decide)) (fun _ => ?_)⟩
        exact ⟨rfl, kd_noI hk n1, rfl, none, none, rfl⟩
      | @tup a xs _ ht hk e =>
        refine ⟨_, rfl, _, _, rfl, .tup ht, _, _, rfl, rfl, _, rfl, ite2 (fun _ => ?_) (fun c => absurd (by decide) c)⟩
        refine ⟨.ref a, rfl, a, xs, rfl, .inr ht, rfl, _, rfl, ?_⟩
        subst e
        by_cases hl : xs.length = 2
        · obtain ⟨x0, x1, rfl⟩ : ∃ x0 x1, xs = [x0, x1] := by
            match xs, hl with
            | [x0, x1], _ => exact ⟨x0, x1, rfl⟩
          obtain ⟨n0, k0⟩ := hk rfl x0 (by simp)
          obtain ⟨n1, k1⟩ := hk rfl x1 (by simp)
          refine iteT ?_
          refine ⟨.ref a, rfl, a, _, rfl, ht, rfl, x0, _, rfl, x1, _, rfl, rfl, ?_⟩
          refine ⟨_, rfl, _, _, rfl, k0.tyB, _, _, rfl, rfl, _, rfl, ?_⟩
          rw [kd_int_ty k0]
          refine ite2 (fun c0 => ?_) (fun c0 => ?_)
          · refine ⟨_, rfl, _, _, rfl, k1.tyB, _, _, rfl, rfl, _, rfl, ?_⟩
            rw [kd_int_ty k1]
            refine ite2 (fun c1 => ?_) (fun c1 => ?_)
            · obtain ⟨i0, rfl⟩ := isI_int c0
              obtain ⟨i1, rfl⟩ := isI_int c1
              have e2 := ratOf_ii (i := i0) (j := i1)
              refine ⟨_, rfl, i1, 1, rfl, rfl, _, rfl, ite2 (fun c => ?_) (fun c => ?_)⟩
              · have c3 : decide ((1 : Int) ≤ i1) = true := c
                refine ⟨_, rfl, _, rfl, i0, i1, rfl, rfl, _, rfl, ?_⟩
                rw [gcd_eq1]
                rw [c3, Bool.true_and] at e2
                refine ite2 (fun c => ?_) (fun c => ?_)
                · rw [c] at e2
                  obtain ⟨r, er⟩ := Option.isSome_iff_exists.mp e2
                  refine ⟨.ref a, rfl, ?_⟩
                  rw [er] at q
                  exact q _ _ (Same.refl _) ⟨a, rfl, ratOf_some er ▸ ht⟩
                · rw [Bool.eq_false_iff.mpr c] at e2
                  exact ⟨rfl, rfl, isSome_no e2, _, _, rfl⟩
              · have c3 : decide ((1 : Int) ≤ i1) = false := by simpa using c
                rw [c3, Bool.false_and] at e2
                exact ⟨rfl, rfl, isSome_no e2, _, _, rfl⟩
            · exact ⟨rfl, rfl, ratOf_no1 (by simpa using c1), _, _, rfl⟩
          · exact ⟨rfl, rfl, ratOf_no0 (by simpa using c0), _, _, rfl⟩
        · refine ite2 (fun c => absurd c (by rw [len_ne2 hl]; decide)) (fun _ => ?_)
          exact ⟨_, rfl, _, _, rfl, .tup ht, _, _, rfl, rfl, _, rfl, ite2 (fun c => absurd c (by decide)) (fun _ => ⟨rfl, rfl, ratOf_len hl, none, none, rfl⟩)⟩
    · rintro σ' H' ⟨rfl, e1, rfl, o1, o2, rfl⟩
      obtain ⟨n, hk⟩ := ha.kd
      refine ⟨x, rfl, x, n, rfl, hk, _, rfl, ?_⟩
      rw [e1]
      refine iteF ⟨x, rfl, x, none, rfl, ha, _, rfl, ?_⟩
      exact ite2 (fun c => absurd c (by simp)) (fun _ => q)
end
end LR
set_option Elab.async false
set_option linter.all false
set_option maxRecDepth 100000
set_option maxHeartbeats 4000000
set_option exponentiation.threshold 100000
namespace LR
open PySem PySem.Spec PyProof.Rows L2
/-! ### sizes of products -/
theorem p78 : 2 ^ 7800 < 2 ^ 8000 := Nat.pow_lt_pow_right (by decide) (by decide)
theorem wm {x y : Int} (hx : x.natAbs < 2 ^ 3900) (hy : y.natAbs < 2 ^ 3900) : CMulW x y := wide_mul hx hy (by decide) (by decide) (by decide)
theorem szM {x y : Int} (hx : x.natAbs < 2 ^ 3900) (hy : y.natAbs < 2 ^ 3900) : (x * y).natAbs < 2 ^ 7800 := wide_lt hx hy
theorem szA {x y : Int} (hx : x.natAbs < 2 ^ 7800) (hy : y.natAbs < 2 ^ 7800) : (x + y).natAbs < 2 ^ 8000 :=
  Nat.lt_trans (Nat.lt_of_le_of_lt (Int.natAbs_add_le _ _) (add_lt hx hy)) (Nat.pow_lt_pow_right (by decide) (by decide))
theorem szB {x y : Int} (hx : x.natAbs < 2 ^ 7800) (hy : y.natAbs < 2 ^ 7800) : (x - y).natAbs < 2 ^ 8000 := by
  rw [Int.sub_eq_add_neg]
  exact szA hx (by rw [Int.natAbs_neg]; exact hy)
theorem sdiv_pos {n d : Int} (hd : 0 < d) : sdiv n d = ((Nat.gcd n.natAbs d.natAbs : Nat) : Int) := by
  unfold sdiv
  rw [if_neg (by omega)]
theorem fdiv_one (n : Int) : n.fdiv 1 = n := by
  rw [Int.fdiv_eq_ediv_of_nonneg _ (by decide), Int.ediv_one]
theorem den_pos2 (p q : Rat) : (0 : Int) < (p.den : Int) * q.den := by
  have h1 := den_pos p
  have h2 := den_pos q
  exact Int.mul_pos (by omega) (by omega)
section
variable {P : Program} {w : World} {K : PySem.W.Frag} {mg : Str → Option Value} {base : Heap}
/-! ### reduced -/
def spRd (K : PySem.W.Frag) : Sp := fun vs H Q _ => ∃ n d : Int, vs = [.int n, .int d] ∧ 0 < d ∧ (n.natAbs < 2 ^ 8000 ∧ d.natAbs < 2 ^ 8000) ∧ ∀ v H', Same H H' → Rn K H' v (Rat.divInt n d) → Q v H'
theorem ok_Rd {f : Addr} {fd : FuncData} (F : Fun K "reduced" "reduced" s_reduced f fd) (mgc : mg "gcd" = some (.builtin "math.gcd")) : FnOk P w K mg base (CXn P w) 1 f fd ["top", "bottom"] (spRd K) := by
  refine F.okN sc_reduced (fun vs H Q E h => ?_) (fun cdv A outer s H vs Q E hr h => ?_)
  · obtain ⟨n, d, rfl, _⟩ := h
    rfl
  · obtain ⟨n, d, rfl, hd, ⟨hn, hdd⟩, q⟩ := h
    refine ⟨_, pss_cons (ps_set (i := 2) sc_reduced.nd rfl (.inl rfl) (pe_callBfun cr_gcd (by rfl) mgc (pa_cons (pv 0) (pa_cons (pv 1) pa_nil))))
      (pss_cons (ps_if (pt_cmpR op_eq (pv 2) pe_int (nomark _)) (pss_one (ps_ret (pe_tup (pa_cons (pv 0) (pa_cons (pv 1) pa_nil))))) pss_nil)
      (pss_one (ps_ret (pe_tup (pa_cons (pe_op op_fdivA (pv 0) (pv 2)) (pa_cons (pe_op op_fdivA (pv 1) (pv 2)) pa_nil)))))), ?_⟩
    have hd0 : d ≠ 0 := by omega
    have e1 := sdiv_num (n := n) hd0
    have e2 := sdiv_den (n := n) hd0
    have g0 := gcd_pos (n := n) hd0
    have gl := Nat.gcd_le_right n.natAbs (Int.natAbs_pos.mpr hd0)
    rw [sdiv_pos hd] at e1 e2
    refine ⟨_, rfl, _, rfl, n, d, rfl, ?_⟩
    refine ⟨_, rfl, rfl, _, rfl, ?_⟩
    rw [gcd_eq1]
    refine ite2 (fun c => ?_) (fun c => ?_)
    · have c1 : Nat.gcd n.natAbs d.natAbs = 1 := of_decide_eq_true c
      rw [c1] at e1 e2
      rw [show ((1 : Nat) : Int) = 1 from rfl, fdiv_one] at e1 e2
      refine ⟨_, rfl, _, rfl, by show 2 ≤ sizeLine; decide, fun p np => ?_⟩
      show Q (.ref p) (upd H p (.tup [.int n, .int d]))
      have er : [V.int n, V.int d] = rt (Rat.divInt n d) := by
        show [V.int n, V.int d] = [V.int (Rat.divInt n d).num, V.int ((Rat.divInt n d).den : Int)]
        rw [← e1, ← e2]
      rw [er]
      exact q _ _ (same_new np) Rn.mk
    · have c : ∀ i, CDivA i ((Nat.gcd n.natAbs d.natAbs : Nat) : Int) := fun i => divA (b := 8000) (by omega) (by rw [Int.natAbs_natCast]; omega) (by decide) (by decide)
      refine ⟨_, rfl, _, rfl, n, _, rfl, rfl, c n, _, rfl, _, rfl, d, _, rfl, rfl, c d, by show 2 ≤ sizeLine; decide, fun p np => ?_⟩
      show Q (.ref p) (upd H p (.tup [.int (n.fdiv ((Nat.gcd n.natAbs d.natAbs : Nat) : Int)), .int (d.fdiv ((Nat.gcd n.natAbs d.natAbs : Nat) : Int))]))
      rw [e1, e2]
      exact q _ _ (same_new np) Rn.mk
/-- of two numbers: a number, where they are numbers (and not too great); else the error -/
def Gives2 (K : PySem.W.Frag) (C : Addr) (f : Rat → Rat → Rat) (o1 o2 : Option Rat) (H : Hp) (Q : VK) (E : XK) : Prop := match o1, o2 with
  | some p, some q => (Sz 3900 p ∧ Sz 3900 q) ∧ ∀ v H', Same H H' → Rn K H' v (f p q) → Q v H'
  | _, _ => ∀ H', Same H H' → E (.ref C) none H'
def spTwo (K : PySem.W.Frag) (C : Addr) (f : Rat → Rat → Rat) : Sp := fun vs H Q E => ∃ (x y : V) (o1 o2 : Option Rat), vs = [x, y] ∧ Arg K H x o1 ∧ Arg K H y o2 ∧ Gives2 K C f o1 o2 H Q E

theorem sc_plus : FnScope ["first", "second", "top", "bottom", "other_top", "other_bottom"] ["first", "second"] (defScope s_plus) := ⟨rfl, rfl, rfl, by decide +kernel, rfl, by decide +kernel, by decide +kernel⟩
abbrev sp_plus (K : PySem.W.Frag) (C : Addr) : Sp := spTwo K C (fun p q => p + q)
theorem ok_plus {f fA fR C : Addr} {fd dA dR : FuncData} (D : DefAt K mg "plus" s_plus ["first", "second"] f fd) (DA : DefAt K mg "as_ratio" s_as_ratio ["value"] fA dA) (DR : DefAt K mg "reduced" s_reduced ["top", "bottom"] fR dR)
    (GA : FnOk P w K mg base (CXn P w) 3 fA dA ["value"] (spAR K C)) (GR : FnOk P w K mg base (CXn P w) 1 fR dR ["top", "bottom"] (spRd K)) : FnOk P w K mg base (CXn P w) 4 f fd ["first", "second"] (sp_plus K C) := by
  refine D.F.okN sc_plus (fun vs H Q E h => ?_) (fun cdv A outer s H vs Q E hr h => ?_)
  · obtain ⟨x, y, o1, o2, rfl, _⟩ := h
    rfl
  · obtain ⟨x, y, o1, o2, rfl, h1, h2, q⟩ := h
    refine ⟨_, pss_cons (ps_asg (pe_call GA hr (by rfl) DA.g DA.F.kp DA.b .nil (L2N.passes_call (L2N.takes_of rfl rfl rfl rfl) fun _ _ _ _ h => h) (pa_cons (pv 0) pa_nil)) (pg_tup (by rfl) (pgs_cons (pg_name (i := 2) sc_plus.nd rfl (.inl rfl)) (pgs_cons (pg_name (i := 3) sc_plus.nd rfl (.inl rfl)) pgs_nil))))
      (pss_cons (ps_asg (pe_call GA hr (by rfl) DA.g DA.F.kp DA.b .nil (L2N.passes_call (L2N.takes_of rfl rfl rfl rfl) fun _ _ _ _ h => h) (pa_cons (pv 1) pa_nil)) (pg_tup (by rfl) (pgs_cons (pg_name (i := 4) sc_plus.nd rfl (.inl rfl)) (pgs_cons (pg_name (i := 5) sc_plus.nd rfl (.inl rfl)) pgs_nil))))
      (pss_one (ps_ret (pe_call GR (hr.mono (by decide)) (by rfl) DR.g DR.F.kp DR.b .nil passN (pa_cons (pe_op op_add (pe_op op_mulW (pv 2) (pv 5)) (pe_op op_mulW (pv 4) (pv 3))) (pa_cons (pe_op op_mulW (pv 3) (pv 5)) pa_nil)))))), ?_⟩
    refine ⟨x, rfl, x, o1, rfl, h1, ?_⟩
    cases o1 with
    | none => cases o2 <;> exact q H (Same.refl _)
    | some p =>
      intro v1 H1 s1 r1
      obtain ⟨a, rfl, t1⟩ := r1
      refine ⟨a, rt p, rfl, t1, rfl, .int p.num, _, rfl, .int p.den, _, rfl, rfl, ?_⟩
      refine ⟨y, rfl, y, o2, rfl, h2.same s1, ?_⟩
      cases o2 with
      | none => exact q H1 s1
      | some q' =>
        obtain ⟨⟨hp, hq⟩, q⟩ := q
        intro v2 H2 s2 r2
        obtain ⟨b, rfl, t2⟩ := r2
        refine ⟨b, rt q', rfl, t2, rfl, .int q'.num, _, rfl, .int q'.den, _, rfl, rfl, ?_⟩
        refine ⟨_, rfl, _, rfl, _, _, rfl, rfl, wm hp.1 hq.2, _, rfl, _, rfl, _, _, rfl, rfl, wm hq.1 hp.2, _, _, rfl, rfl, _, rfl, _, rfl, _, _, rfl, rfl, wm hp.2 hq.2, ?_⟩
        refine ⟨_, _, rfl, den_pos2 p q', ⟨?_, Nat.lt_trans (szM hp.2 hq.2) p78⟩, fun v H' s' r => ?_⟩
        · exact szA (szM hp.1 hq.2) (szM hq.1 hp.2)
        · rw [← add_as p q'] at r
          exact q v H' ((s1.trans s2).trans s') r

theorem sc_minus : FnScope ["first", "second", "top", "bottom", "other_top", "other_bottom"] ["first", "second"] (defScope s_minus) := ⟨rfl, rfl, rfl, by decide +kernel, rfl, by decide +kernel, by decide +kernel⟩
abbrev sp_minus (K : PySem.W.Frag) (C : Addr) : Sp := spTwo K C (fun p q => p - q)
theorem ok_minus {f fA fR C : Addr} {fd dA dR : FuncData} (D : DefAt K mg "minus" s_minus ["first", "second"] f fd) (DA : DefAt K mg "as_ratio" s_as_ratio ["value"] fA dA) (DR : DefAt K mg "reduced" s_reduced ["top", "bottom"] fR dR)
    (GA : FnOk P w K mg base (CXn P w) 3 fA dA ["value"] (spAR K C)) (GR : FnOk P w K mg base (CXn P w) 1 fR dR ["top", "bottom"] (spRd K)) : FnOk P w K mg base (CXn P w) 4 f fd ["first", "second"] (sp_minus K C) := by
  refine D.F.okN sc_minus (fun vs H Q E h => ?_) (fun cdv A outer s H vs Q E hr h => ?_)
  · obtain ⟨x, y, o1, o2, rfl, _⟩ := h
    rfl
  · obtain ⟨x, y, o1, o2, rfl, h1, h2, q⟩ := h
    refine ⟨_, pss_cons (ps_asg (pe_call GA hr (by rfl) DA.g DA.F.kp DA.b .nil (L2N.passes_call (L2N.takes_of rfl rfl rfl rfl) fun _ _ _ _ h => h) (pa_cons (pv 0) pa_nil)) (pg_tup (by rfl) (pgs_cons (pg_name (i := 2) sc_minus.nd rfl (.inl rfl)) (pgs_cons (pg_name (i := 3) sc_minus.nd rfl (.inl rfl)) pgs_nil))))
      (pss_cons (ps_asg (pe_call GA hr (by rfl) DA.g DA.F.kp DA.b .nil (L2N.passes_call (L2N.takes_of rfl rfl rfl rfl) fun _ _ _ _ h => h) (pa_cons (pv 1) pa_nil)) (pg_tup (by rfl) (pgs_cons (pg_name (i := 4) sc_minus.nd rfl (.inl rfl)) (pgs_cons (pg_name (i := 5) sc_minus.nd rfl (.inl rfl)) pgs_nil))))
      (pss_one (ps_ret (pe_call GR (hr.mono (by decide)) (by rfl) DR.g DR.F.kp DR.b .nil passN (pa_cons (pe_op op_sub (pe_op op_mulW (pv 2) (pv 5)) (pe_op op_mulW (pv 4) (pv 3))) (pa_cons (pe_op op_mulW (pv 3) (pv 5)) pa_nil)))))), ?_⟩
    refine ⟨x, rfl, x, o1, rfl, h1, ?_⟩
    cases o1 with
    | none => cases o2 <;> exact q H (Same.refl _)
    | some p =>
      intro v1 H1 s1 r1
      obtain ⟨a, rfl, t1⟩ := r1
      refine ⟨a, rt p, rfl, t1, rfl, .int p.num, _, rfl, .int p.den, _, rfl, rfl, ?_⟩
      refine ⟨y, rfl, y, o2, rfl, h2.same s1, ?_⟩
      cases o2 with
      | none => exact q H1 s1
      | some q' =>
        obtain ⟨⟨hp, hq⟩, q⟩ := q
        intro v2 H2 s2 r2
        obtain ⟨b, rfl, t2⟩ := r2
        refine ⟨b, rt q', rfl, t2, rfl, .int q'.num, _, rfl, .int q'.den, _, rfl, rfl, ?_⟩
        refine ⟨_, rfl, _, rfl, _, _, rfl, rfl, wm hp.1 hq.2, _, rfl, _, rfl, _, _, rfl, rfl, wm hq.1 hp.2, _, _, rfl, rfl, _, rfl, _, rfl, _, _, rfl, rfl, wm hp.2 hq.2, ?_⟩
        refine ⟨_, _, rfl, den_pos2 p q', ⟨?_, Nat.lt_trans (szM hp.2 hq.2) p78⟩, fun v H' s' r => ?_⟩
        · exact szB (szM hp.1 hq.2) (szM hq.1 hp.2)
        · rw [← sub_as p q'] at r
          exact q v H' ((s1.trans s2).trans s') r

theorem sc_times : FnScope ["first", "second", "top", "bottom", "other_top", "other_bottom"] ["first", "second"] (defScope s_times) := ⟨rfl, rfl, rfl, by decide +kernel, rfl, by decide +kernel, by decide +kernel⟩
abbrev sp_times (K : PySem.W.Frag) (C : Addr) : Sp := spTwo K C (fun p q => p * q)
theorem ok_times {f fA fR C : Addr} {fd dA dR : FuncData} (D : DefAt K mg "times" s_times ["first", "second"] f fd) (DA : DefAt K mg "as_ratio" s_as_ratio ["value"] fA dA) (DR : DefAt K mg "reduced" s_reduced ["top", "bottom"] fR dR)
    (GA : FnOk P w K mg base (CXn P w) 3 fA dA ["value"] (spAR K C)) (GR : FnOk P w K mg base (CXn P w) 1 fR dR ["top", "bottom"] (spRd K)) : FnOk P w K mg base (CXn P w) 4 f fd ["first", "second"] (sp_times K C) := by
  refine D.F.okN sc_times (fun vs H Q E h => ?_) (fun cdv A outer s H vs Q E hr h => ?_)
  · obtain ⟨x, y, o1, o2, rfl, _⟩ := h
    rfl
  · obtain ⟨x, y, o1, o2, rfl, h1, h2, q⟩ := h
    refine ⟨_, pss_cons (ps_asg (pe_call GA hr (by rfl) DA.g DA.F.kp DA.b .nil (L2N.passes_call (L2N.takes_of rfl rfl rfl rfl) fun _ _ _ _ h => h) (pa_cons (pv 0) pa_nil)) (pg_tup (by rfl) (pgs_cons (pg_name (i := 2) sc_times.nd rfl (.inl rfl)) (pgs_cons (pg_name (i := 3) sc_times.nd rfl (.inl rfl)) pgs_nil))))
      (pss_cons (ps_asg (pe_call GA hr (by rfl) DA.g DA.F.kp DA.b .nil (L2N.passes_call (L2N.takes_of rfl rfl rfl rfl) fun _ _ _ _ h => h) (pa_cons (pv 1) pa_nil)) (pg_tup (by rfl) (pgs_cons (pg_name (i := 4) sc_times.nd rfl (.inl rfl)) (pgs_cons (pg_name (i := 5) sc_times.nd rfl (.inl rfl)) pgs_nil))))
      (pss_one (ps_ret (pe_call GR (hr.mono (by decide)) (by rfl) DR.g DR.F.kp DR.b .nil passN (pa_cons (pe_op op_mulW (pv 2) (pv 4)) (pa_cons (pe_op op_mulW (pv 3) (pv 5)) pa_nil)))))), ?_⟩
    refine ⟨x, rfl, x, o1, rfl, h1, ?_⟩
    cases o1 with
    | none => cases o2 <;> exact q H (Same.refl _)
    | some p =>
      intro v1 H1 s1 r1
      obtain ⟨a, rfl, t1⟩ := r1
      refine ⟨a, rt p, rfl, t1, rfl, .int p.num, _, rfl, .int p.den, _, rfl, rfl, ?_⟩
      refine ⟨y, rfl, y, o2, rfl, h2.same s1, ?_⟩
      cases o2 with
      | none => exact q H1 s1
      | some q' =>
        obtain ⟨⟨hp, hq⟩, q⟩ := q
        intro v2 H2 s2 r2
        obtain ⟨b, rfl, t2⟩ := r2
        refine ⟨b, rt q', rfl, t2, rfl, .int q'.num, _, rfl, .int q'.den, _, rfl, rfl, ?_⟩
        refine ⟨_, rfl, _, rfl, _, _, rfl, rfl, wm hp.1 hq.1, _, rfl, _, rfl, _, _, rfl, rfl, wm hp.2 hq.2, ?_⟩
        refine ⟨_, _, rfl, den_pos2 p q', ⟨?_, Nat.lt_trans (szM hp.2 hq.2) p78⟩, fun v H' s' r => ?_⟩
        · exact Nat.lt_trans (szM hp.1 hq.1) p78
        · rw [← mul_as p q'] at r
          exact q v H' ((s1.trans s2).trans s') r

/-! ### divided -/
theorem sc_divided : FnScope ["first", "second", "top", "bottom", "other_top", "other_bottom"] ["first", "second"] (defScope s_divided) := ⟨rfl, rfl, rfl, by decide +kernel, rfl, by decide +kernel, by decide +kernel⟩
def GivesDiv (K : PySem.W.Frag) (C C2 : Addr) (o1 o2 : Option Rat) (H : Hp) (Q : VK) (E : XK) : Prop := match o1, o2 with
  | some p, some q => (Sz 3900 p ∧ Sz 3900 q) ∧ (q = 0 → ∀ H', Same H H' → E (.ref C2) none H') ∧ (q ≠ 0 → ∀ v H', Same H H' → Rn K H' v (p / q) → Q v H')
  | _, _ => ∀ H', Same H H' → E (.ref C) none H'
def sp_divided (K : PySem.W.Frag) (C C2 : Addr) : Sp := fun vs H Q E => ∃ (x y : V) (o1 o2 : Option Rat), vs = [x, y] ∧ Arg K H x o1 ∧ Arg K H y o2 ∧ GivesDiv K C C2 o1 o2 H Q E
theorem negs {a b : Int} (hb : b ≠ 0) : Rat.divInt (-a) (-b) = Rat.divInt a b := by
  rw [Rat.divInt_eq_div, Rat.divInt_eq_div]
  have h : (b : Rat) ≠ 0 := by
    intro e
    exact hb (Rat.intCast_eq_zero_iff.mp e)
  rw [Rat.intCast_neg, Rat.intCast_neg]
  grind
theorem ok_divided {f fA fR C C2 : Addr} {fd dA dR : FuncData} (D : DefAt K mg "divided" s_divided ["first", "second"] f fd) (DA : DefAt K mg "as_ratio" s_as_ratio ["value"] fA dA) (DR : DefAt K mg "reduced" s_reduced ["top", "bottom"] fR dR) (X2 : ErrAt K mg "DivisionByZero" BMa "ArithmeticError.__new__" C2)
    (GA : FnOk P w K mg base (CXn P w) 3 fA dA ["value"] (spAR K C)) (GR : FnOk P w K mg base (CXn P w) 1 fR dR ["top", "bottom"] (spRd K)) : FnOk P w K mg base (CXn P w) 4 f fd ["first", "second"] (sp_divided K C C2) := by
  refine D.F.okN sc_divided (fun vs H Q E h => ?_) (fun cdv A outer s H vs Q E hr h => ?_)
  · obtain ⟨x, y, o1, o2, rfl, _⟩ := h
    rfl
  · obtain ⟨x, y, o1, o2, rfl, h1, h2, q⟩ := h
    refine ⟨_, pss_cons (ps_asg (pe_call GA hr (by rfl) DA.g DA.F.kp DA.b .nil (L2N.passes_call (L2N.takes_of rfl rfl rfl rfl) fun _ _ _ _ h => h) (pa_cons (pv 0) pa_nil)) (pg_tup (by rfl) (pgs_cons (pg_name (i := 2) sc_divided.nd rfl (.inl rfl)) (pgs_cons (pg_name (i := 3) sc_divided.nd rfl (.inl rfl)) pgs_nil))))
      (pss_cons (ps_asg (pe_call GA hr (by rfl) DA.g DA.F.kp DA.b .nil (L2N.passes_call (L2N.takes_of rfl rfl rfl rfl) fun _ _ _ _ h => h) (pa_cons (pv 1) pa_nil)) (pg_tup (by rfl) (pgs_cons (pg_name (i := 4) sc_divided.nd rfl (.inl rfl)) (pgs_cons (pg_name (i := 5) sc_divided.nd rfl (.inl rfl)) pgs_nil))))
      (pss_cons (ps_if (pt_cmpR op_eq (pv 4) pe_int (nomark _)) (pss_one (L2N.ps_raise rfl (L2N.takes_of rfl rfl rfl rfl) (L2H.PMk5.pmk (X2.mk5 PySem.F.excBase_ArithmeticError rfl)))) pss_nil)
      (pss_cons (ps_if (pt_cmpR op_lt (pv 4) pe_int (nomark _)) (pss_one (ps_ret (pe_call GR (hr.mono (by decide)) (by rfl) DR.g DR.F.kp DR.b .nil passN (pa_cons (pe_op op_mulW (pe_un un_neg (pv 2)) (pv 5)) (pa_cons (pe_op op_mulW (pe_un un_neg (pv 3)) (pv 4)) pa_nil))))) pss_nil)
      (pss_one (ps_ret (pe_call GR (hr.mono (by decide)) (by rfl) DR.g DR.F.kp DR.b .nil passN (pa_cons (pe_op op_mulW (pv 2) (pv 5)) (pa_cons (pe_op op_mulW (pv 3) (pv 4)) pa_nil)))))))), ?_⟩
    refine ⟨x, rfl, x, o1, rfl, h1, ?_⟩
    cases o1 with
    | none => cases o2 <;> exact q H (Same.refl _)
    | some p =>
      intro v1 H1 s1 r1
      obtain ⟨a, rfl, t1⟩ := r1
      refine ⟨a, rt p, rfl, t1, rfl, .int p.num, _, rfl, .int p.den, _, rfl, rfl, ?_⟩
      refine ⟨y, rfl, y, o2, rfl, h2.same s1, ?_⟩
      cases o2 with
      | none => exact q H1 s1
      | some q' =>
        obtain ⟨⟨hp, hq⟩, qz, qn⟩ := q
        intro v2 H2 s2 r2
        obtain ⟨b, rfl, t2⟩ := r2
        refine ⟨b, rt q', rfl, t2, rfl, .int q'.num, _, rfl, .int q'.den, _, rfl, rfl, ?_⟩
        have dp := den_pos p
        have hn3 : (-(p.num)).natAbs < 2 ^ 3900 := by rw [Int.natAbs_neg]; exact hp.1
        have hn4 : (-(p.den : Int)).natAbs < 2 ^ 3900 := by rw [Int.natAbs_neg]; exact hp.2
        refine ⟨_, rfl, rfl, _, rfl, ite2 (fun c => ?_) (fun c => ?_)⟩
        · have c1 : q'.num = 0 := V.int.inj (of_decide_eq_true c)
          exact qz (Rat.num_eq_zero.mp c1) H2 (s1.trans s2)
        · have c1 : q'.num ≠ 0 := fun z => c (decide_eq_true (by rw [z]))
          have hz : q' ≠ 0 := fun z => c1 (by rw [z]; rfl)
          refine ⟨_, rfl, _, _, rfl, rfl, _, rfl, ite2 (fun c => ?_) (fun c => ?_)⟩
          · have c2 : q'.num < 0 := of_decide_eq_true c
            refine ⟨_, rfl, _, rfl, _, rfl, _, _, rfl, rfl, wm hn3 hq.2, _, rfl, _, rfl, _, rfl, _, _, rfl, rfl, wm hn4 hq.1, ?_⟩
            refine ⟨_, _, rfl, ?_, ⟨Nat.lt_trans (szM hn3 hq.2) p78, Nat.lt_trans (szM hn4 hq.1) p78⟩, fun v H' s' r => ?_⟩
            · rw [Int.neg_mul, ← Int.mul_neg]
              exact Int.mul_pos (by omega) (by omega)
            · rw [Int.neg_mul, Int.neg_mul, negs (div_den_ne hz), ← div_as p q'] at r
              exact qn hz v H' ((s1.trans s2).trans s') r
          · have c2 : ¬ q'.num < 0 := fun z => c (decide_eq_true z)
            refine ⟨_, rfl, _, rfl, _, _, rfl, rfl, wm hp.1 hq.2, _, rfl, _, rfl, _, _, rfl, rfl, wm hp.2 hq.1, ?_⟩
            refine ⟨_, _, rfl, Int.mul_pos (by omega) (by omega), ⟨Nat.lt_trans (szM hp.1 hq.2) p78, Nat.lt_trans (szM hp.2 hq.1) p78⟩, fun v H' s' r => ?_⟩
            rw [← div_as p q'] at r
            exact qn hz v H' ((s1.trans s2).trans s') r
/-! ### floor_of -/
theorem sc_floor_of : FnScope ["value", "top", "bottom"] ["value"] (defScope s_floor_of) := ⟨rfl, rfl, rfl, by decide +kernel, rfl, by decide +kernel, by decide +kernel⟩
def GivesF (K : PySem.W.Frag) (C : Addr) (o1 : Option Rat) (H : Hp) (Q : VK) (E : XK) : Prop := match o1 with
  | some p => Sz 8000 p ∧ ∀ H', Same H H' → Q (.int p.floor) H'
  | none => ∀ H', Same H H' → E (.ref C) none H'
def sp_floor (K : PySem.W.Frag) (C : Addr) : Sp := fun vs H Q E => ∃ (x : V) (o1 : Option Rat), vs = [x] ∧ Arg K H x o1 ∧ GivesF K C o1 H Q E
theorem ok_floor {f fA C : Addr} {fd dA : FuncData} (D : DefAt K mg "floor_of" s_floor_of ["value"] f fd) (DA : DefAt K mg "as_ratio" s_as_ratio ["value"] fA dA)
    (GA : FnOk P w K mg base (CXn P w) 3 fA dA ["value"] (spAR K C)) : FnOk P w K mg base (CXn P w) 4 f fd ["value"] (sp_floor K C) := by
  refine D.F.okN sc_floor_of (fun vs H Q E h => ?_) (fun cdv A outer s H vs Q E hr h => ?_)
  · obtain ⟨x, o1, rfl, _⟩ := h
    rfl
  · obtain ⟨x, o1, rfl, h1, q⟩ := h
    refine ⟨_, pss_cons (ps_asg (pe_call GA hr (by rfl) DA.g DA.F.kp DA.b .nil (L2N.passes_call (L2N.takes_of rfl rfl rfl rfl) fun _ _ _ _ h => h) (pa_cons (pv 0) pa_nil)) (pg_tup (by rfl) (pgs_cons (pg_name (i := 1) sc_floor_of.nd rfl (.inl rfl)) (pgs_cons (pg_name (i := 2) sc_floor_of.nd rfl (.inl rfl)) pgs_nil))))
      (pss_one (ps_ret (pe_op op_fdivA (pv 1) (pv 2)))), ?_⟩
    refine ⟨x, rfl, x, o1, rfl, h1, ?_⟩
    cases o1 with
    | none => exact q H (Same.refl _)
    | some p =>
      obtain ⟨hp, q⟩ := q
      intro v1 H1 s1 r1
      obtain ⟨a, rfl, t1⟩ := r1
      refine ⟨a, rt p, rfl, t1, rfl, .int p.num, _, rfl, .int p.den, _, rfl, rfl, ?_⟩
      have d1 := den_pos p
      refine ⟨_, rfl, _, rfl, _, _, rfl, rfl, divA (b := 8000) (by omega) (by rw [Int.natAbs_natCast]; exact hp.2) (by decide) (by decide), ?_⟩
      show Q (.int (p.num.fdiv p.den)) H1
      rw [Int.fdiv_eq_ediv_of_nonneg _ (Int.natCast_nonneg _), ← Rat.floor_def]
      exact q H1 s1
/-! ### is_positive -/
theorem sc_is_positive : FnScope ["value"] ["value"] (defScope s_is_positive) := ⟨rfl, rfl, rfl, by decide +kernel, rfl, by decide +kernel, by decide +kernel⟩
def isPos : Option Rat → Bool | some q => decide (0 < q) | none => false
def spPosi (K : PySem.W.Frag) : Sp := fun vs H Q _ => ∃ (x : V) (o : Option Rat), vs = [x] ∧ Arg K H x o ∧ ∀ H', Same H H' → Q (.bl (isPos o)) H'
theorem ok_Posi {f fN fA C : Addr} {fd dN dA : FuncData} (D : DefAt K mg "is_positive" s_is_positive ["value"] f fd) (DN : DefAt K mg "is_number" s_is_number ["value"] fN dN) (DA : DefAt K mg "as_ratio" s_as_ratio ["value"] fA dA)
    (GN : FnOk P w K mg base (CXn P w) 3 fN dN ["value"] (spIN K)) (GA : FnOk P w K mg base (CXn P w) 3 fA dA ["value"] (spAR K C)) : FnOk P w K mg base (CXn P w) 4 f fd ["value"] (spPosi K) := by
  refine D.F.okN sc_is_positive (fun vs H Q E h => ?_) (fun cdv A outer s H vs Q E hr h => ?_)
  · obtain ⟨x, o, rfl, _⟩ := h
    rfl
  · obtain ⟨x, o, rfl, ha, q⟩ := h
    refine ⟨_, pss_one (ps_ret (pe_and (pe_call GN hr (by rfl) DN.g DN.F.kp DN.b .nil passN (pa_cons (pv 0) pa_nil))
      (pe_one (pe_cmpR op_gt (pe_ix (r := rIxT K) ix_tup (pe_call GA hr (by rfl) DA.g DA.F.kp DA.b .nil passN (pa_cons (pv 0) pa_nil)) pe_int (fun _ _ => rfl)) pe_int (nomark _))))), ?_⟩
    refine ⟨x, rfl, x, o, rfl, ha, _, rfl, ?_⟩
    cases o with
    | none => exact iteF (q H (Same.refl _))
    | some p =>
      refine iteT ⟨x, rfl, x, some p, rfl, ha, fun v1 H1 s1 r1 => ?_⟩
      obtain ⟨a, rfl, t1⟩ := r1
      refine ⟨a, _, 0, .int p.num, rfl, rfl, t1, atI_nat (j := 0) rfl, _, _, rfl, rfl, ?_⟩
      have e : decide ((0 : Int) < p.num) = isPos (some p) := by
        show _ = decide (0 < p)
        rw [decide_eq_decide]
        exact num_pos_iff
      show Q (.bl (decide ((0 : Int) < p.num))) H1
      rw [e]
      exact q H1 s1
/-! ### as_time -/
/-- a class that an except clause names -/
structure ErrM (K : PySem.W.Frag) (C : Addr) : Prop where
  d : PySem.W.hasDictIn K C = true
  s : PySem.W.subIn K (.ref C) (.ref C) = some true
theorem sc_as_time : FnScope ["value", "time"] ["value"] (defScope s_as_time) := ⟨rfl, rfl, rfl, by decide +kernel, rfl, by decide +kernel, by decide +kernel⟩
def GivesT (K : PySem.W.Frag) (C : Addr) (o : Option Rat) (H : Hp) (Q : VK) (E : XK) : Prop := match o with
  | some q => (q < 0 → ∀ H', Same H H' → E (.ref C) none H') ∧ (0 ≤ q → ∀ v H', Same H H' → Rn K H' v q → Q v H')
  | none => ∀ H', Same H H' → E (.ref C) none H'
def spTime (K : PySem.W.Frag) (C : Addr) : Sp := fun vs H Q E => ∃ (x : V) (o : Option Rat), vs = [x] ∧ Arg K H x o ∧ GivesT K C o H Q E
theorem ok_Time {f fA C CT : Addr} {fd dA : FuncData} (D : DefAt K mg "as_time" s_as_time ["value"] f fd) (DA : DefAt K mg "as_ratio" s_as_ratio ["value"] fA dA) (X : ErrAt K mg "InvalidNumber" BMv "ValueError.__new__" C) (XM : ErrM K C) (XT : ErrAt K mg "InvalidTime" BMv "ValueError.__new__" CT)
    (GA : FnOk P w K mg base (CXn P w) 3 fA dA ["value"] (spAR K C)) : FnOk P w K mg base (CXl P w) 4 f fd ["value"] (spTime K CT) := by
  refine D.F.okX sc_as_time (fun vs H Q E h => ?_) (fun cdv A outer s H vs Q E hr h => ?_)
  · obtain ⟨x, o, rfl, _⟩ := h
    rfl
  · obtain ⟨x, o, rfl, ha, q⟩ := h
    refine ⟨_, pss_cons (L2H.ps_try_onlyX (Wout := fun cls d _ H => E cls d H) rfl rfl ⟨rfl, by decide, .inl X.g⟩ (L2H.passesAt_of rfl) (takes_of rfl rfl rfl rfl)
        (fun W pn xe tk _ _ => pss_one (ps_asg (pe_callS GA hr (by rfl) DA.g DA.F.kp DA.b (fun σ => L2N.passAt tk σ) (pa_cons (pv 0) pa_nil)) (pg_name (i := 1) sc_as_time.nd rfl (.inl rfl))))
        (fun a oe cls d pn _ _ tkS hot => pss_one (L2H.ps_raiseHN hot tkS (XT.mk5 PySem.F.excBase_ValueError rfl))))
      (pss_cons (ps_if (pt_cmpR op_lt (pe_ix (r := rIxT K) ix_tup (pv 1) pe_int (fun _ _ => rfl)) pe_int (nomark _)) (pss_one (ps_raise rfl (takes_of rfl rfl rfl rfl) (XT.mk0 PySem.F.excBase_ValueError rfl))) pss_nil)
      (pss_one (ps_ret (pv 1)))), ?_⟩
    refine ⟨x, rfl, x, o, rfl, ha, ?_⟩
    cases o with
    | none => exact ⟨true, PySem.W.exm_ref X.b XM.d X.t XM.s, fun _ a ha => q H (Same.refl _), fun z => nomatch z⟩
    | some p =>
      obtain ⟨qn, qp⟩ := q
      intro v1 H1 s1 r1
      obtain ⟨a, rfl, t1⟩ := id r1
      refine ⟨.ref a, rfl, a, _, 0, .int p.num, rfl, rfl, t1, atI_nat (j := 0) rfl, _, _, rfl, rfl, _, rfl, ite2 (fun c => ?_) (fun c => ?_)⟩
      · exact qn (num_neg_iff.mp (of_decide_eq_true c)) H1 s1
      · have c1 : ¬ p.num < 0 := fun z => c (decide_eq_true z)
        exact ⟨.ref a, rfl, qp (Rat.not_lt.mp fun z => c1 (num_neg_iff.mpr z)) _ H1 s1 r1⟩
end
end LR
set_option Elab.async false
set_option linter.all false
set_option maxRecDepth 100000
set_option maxHeartbeats 4000000
namespace LR
open PySem PySem.Spec PyProof.Rows L2
/-! ### heaps beside one thing that changes -/
/-- all but D is as it was -/
def But (D : Addr) (H H' : Hp) : Prop := ∀ b o, b ≠ D → H b = some o → H' b = some o
theorem same_but {H0 H : Hp} {D : Addr} {o : HO} (s : Same H0 H) (h : H0 D = none) : Same H0 (upd H D o) := fun b y e => by
  rw [upd_ne (ne_of_none e h)]
  exact s b y e
section
variable {K : PySem.W.Frag} {H : Hp} {D : Addr} {o : HO}
theorem sqt_upd {a : Addr} {xs : List V} {u : HO} (hD : H D = some u) (nt : ∀ ys, u ≠ .tup ys) (nf : ∀ ob v, u ≠ .frz ob v) (h : SqT K H a xs) : SqT K (upd H D o) a xs := by
  rcases h with (h | ⟨ob, h⟩) | h
  · exact .inl (.inl (by rw [upd_ne (ne_of h hD (fun e => nt _ e.symm))]; exact h))
  · exact .inl (.inr ⟨ob, by rw [upd_ne (ne_of h hD (fun e => nf _ _ e.symm))]; exact h⟩)
  · exact .inr h
theorem rn_lst {x : V} {q : Rat} {ys : List V} (hD : H D = some (.lst ys)) (h : Rn K H x q) : Rn K (upd H D o) x q := by
  obtain ⟨a, e, h⟩ := h
  exact ⟨a, e, sqt_upd hD (fun _ e => by cases e) (fun _ _ e => by cases e) h⟩
theorem rn_ext {x : V} {q : Rat} {f : Heap → Prop} (hD : H D = some (.ext f)) (h : Rn K H x q) : Rn K (upd H D o) x q := by
  obtain ⟨a, e, h⟩ := h
  exact ⟨a, e, sqt_upd hD (fun _ e => by cases e) (fun _ _ e => by cases e) h⟩
end
/-- lists item by item -/
inductive All2 {α β : Type} (R : α → β → Prop) : List α → List β → Prop
  | nil : All2 R [] []
  | cons {x y xs ys} (h : R x y) (t : All2 R xs ys) : All2 R (x :: xs) (y :: ys)
section
variable {α β : Type} {R S : α → β → Prop}
theorem All2.len : ∀ {xs : List α} {ys : List β}, All2 R xs ys → xs.length = ys.length
  | _, _, .nil => rfl
  | _, _, .cons _ t => congrArg Nat.succ t.len
theorem All2.imp (f : ∀ x y, R x y → S x y) : ∀ {xs : List α} {ys : List β}, All2 R xs ys → All2 S xs ys
  | _, _, .nil => .nil
  | _, _, .cons h t => .cons (f _ _ h) (t.imp f)
theorem All2.snoc {x : α} {y : β} (h : R x y) : ∀ {xs : List α} {ys : List β}, All2 R xs ys → All2 R (xs ++ [x]) (ys ++ [y])
  | _, _, .nil => .cons h .nil
  | _, _, .cons g t => .cons g (t.snoc h)
theorem All2.get : ∀ {xs : List α} {ys : List β} {i : Nat} {x : α}, All2 R xs ys → xs[i]? = some x → ∃ y, ys[i]? = some y ∧ R x y
  | _, _, _, _, .nil, e => by simp at e
  | _, _, 0, _, .cons h _, e => by simp at e; subst e; exact ⟨_, rfl, h⟩
  | _, _, i + 1, x, .cons _ t, e => by
    obtain ⟨y, a, b⟩ := t.get (i := i) (x := x) (by simpa using e)
    exact ⟨y, by simpa using a, b⟩
theorem All2.take (n : Nat) : ∀ {xs : List α} {ys : List β}, All2 R xs ys → All2 R (xs.take n) (ys.take n) := by
  induction n with
  | zero => intro xs ys _; exact .nil
  | succ n ih =>
    intro xs ys h
    cases h with
    | nil => exact .nil
    | cons a t => exact .cons a (ih t)
theorem All2.map_left {γ : Type} {f : γ → α} : ∀ {zs : List γ} {ys : List β}, All2 (fun z y => R (f z) y) zs ys → All2 R (zs.map f) ys
  | _, _, .nil => .nil
  | _, _, .cons h t => .cons h t.map_left
end
theorem take_snoc {α : Type} {l : List α} {i : Nat} {x : α} (h : l[i]? = some x) : l.take (i + 1) = l.take i ++ [x] := by
  rw [List.take_succ, h]
  rfl


theorem but_same {H H' H2 : Hp} {D : Addr} (b : But D H H') (s : Same H' H2) : But D H H2 := fun x o n e => s _ _ (b x o n e)
theorem but_upd {H H' : Hp} {D : Addr} {o : HO} (b : But D H H') : But D H (upd H' D o) := fun x y n e => by rw [upd_ne n]; exact b x y n e
theorem same_but2 {H H' H2 : Hp} {D : Addr} (s : Same H H') (b : But D H' H2) : But D H H2 := fun x o n e => b _ _ n (s _ _ e)
theorem but_trans {H H' H2 : Hp} {D : Addr} (a : But D H H') (b : But D H' H2) : But D H H2 := fun x o n e => b _ _ n (a _ _ n e)
theorem but_of_same {H H' : Hp} {D : Addr} (s : Same H H') : But D H H' := fun x o _ e => s _ _ e
theorem but_new {H : Hp} {D : Addr} {o : HO} : But D H (upd H D o) := fun x y n e => by rw [upd_ne n]; exact e
theorem but_none {H H' : Hp} {D : Addr} (b : But D H H') (h : H D = none) : Same H H' := fun x o e => b x o (ne_of_none e h) e
section
variable {K : PySem.W.Frag} {H H' : Hp} {D : Addr}
/-- D holds neither a tuple nor a list, nor is it locked -/
structure Odd (H : Hp) (D : Addr) : Prop where
  nt : ∀ ys, H D ≠ some (.tup ys)
  nf : ∀ ob ys, H D ≠ some (.frz ob (.tup ys))
theorem Odd.of {u : HO} (h : H D = some u) (h1 : ∀ ys, u ≠ .tup ys) (h2 : ∀ ob ys, u ≠ .frz ob (.tup ys)) : Odd H D :=
  ⟨fun _ e => h1 _ (Option.some.inj (h.symm.trans e)), fun _ _ e => h2 _ _ (Option.some.inj (h.symm.trans e))⟩
theorem Odd.ins {C dx : Addr} {fs : List (Str × V)} (h : H D = some (.ins C dx fs)) : Odd H D := .of h (fun _ e => by cases e) (fun _ _ e => by cases e)
theorem Odd.lst {xs : List V} (h : H D = some (.lst xs)) : Odd H D := .of h (fun _ e => by cases e) (fun _ _ e => by cases e)
theorem Odd.sqt {a : Addr} {xs : List V} (O : Odd H D) (b : But D H H') (h : SqT K H a xs) : SqT K H' a xs := by
  rcases h with (h | ⟨ob, h⟩) | h
  · exact .inl (.inl (b _ _ (fun e => O.nt _ (e ▸ h)) h))
  · exact .inl (.inr ⟨ob, b _ _ (fun e => O.nf _ _ (e ▸ h)) h⟩)
  · exact .inr h
theorem Odd.rn {x : V} {q : Rat} (O : Odd H D) (b : But D H H') (h : Rn K H x q) : Rn K H' x q := let ⟨a, e, h⟩ := h; ⟨a, e, O.sqt b h⟩
theorem Odd.num {x : V} {q : Rat} (O : Odd H D) (b : But D H H') (h : Num K H x q) : Num K H' x q := by
  rcases h.kinds with ⟨rfl, e⟩ | h
  · have e2 : q = ((q.num : Int) : Rat) := Rat.ext rfl e
    have := num_int (K := K) (H := H') q.num
    rw [← e2] at this
    exact this
  · exact (O.rn b h).num
end
/-! ### numbers as data -/
abbrev datR (q : Rat) : PyData := .tuple [.int q.num, .int (q.den : Int)]
section
variable {K : PySem.W.Frag} {H : Hp}
theorem Rn.dp {v : V} {q : Rat} (h : Rn K H v q) : Dp K H v (datR q) := by
  obtain ⟨a, rfl, h⟩ := h
  exact .tup h (.cons (.int _) (.cons (.int _) .nil))
theorem rnl_dp : ∀ {xs : List V} {qs : List Rat}, All2 (Rn K H) xs qs → DpAll K H xs (qs.map datR)
  | _, _, .nil => .nil
  | _, _, .cons h t => .cons h.dp (rnl_dp t)
end
theorem canR (q : Rat) : (datR q).canLay0 = true := by simp [PyData.canLay0, PyData.canLayAll0]
theorem canRs : ∀ qs : List Rat, PyData.canLayAll0 (qs.map datR) = true
  | [] => rfl
  | q :: qs => by
    show ((datR q).canLay0 && PyData.canLayAll0 (qs.map datR)) = true
    rw [canR, canRs qs]
    rfl
theorem depRs : ∀ qs : List Rat, PyData.depthAll (qs.map datR) ≤ 1
  | [] => Nat.zero_le _
  | q :: qs => by
    have := depRs qs
    show max (PyData.depth (datR q)) (PyData.depthAll (qs.map datR)) ≤ 1
    have e : PyData.depth (datR q) = 1 := by simp [PyData.depth, PyData.depthAll]
    omega
theorem shapedR (q : Rat) : SeqAt.shaped (datR q) = true := by
  unfold SeqAt.shaped
  rw [canR]
  simp [PyData.depth, PyData.depthAll]
theorem shapedRs (qs : List Rat) : SeqAt.shaped (.list (qs.map datR)) = true := by
  unfold SeqAt.shaped
  rw [show (PyData.list (qs.map datR)).canLay0 = PyData.canLayAll0 (qs.map datR) from rfl, canRs, Bool.true_and, decide_eq_true_eq]
  have := depRs qs
  show PyData.depthAll (qs.map datR) + 1 ≤ 64
  omega
theorem eqvRR (p q : Rat) : PyData.eqv (datR p) (datR q) = decide (p = q) := by
  have e : (p = q) ↔ (p.num = q.num ∧ p.den = q.den) := ⟨fun e => by rw [e]; exact ⟨rfl, rfl⟩, fun h => Rat.ext h.1 h.2⟩
  have e2 : decide (p = q) = (decide (p.num = q.num) && decide (p.den = q.den)) := by
    rw [← Bool.decide_and, decide_eq_decide]
    exact e
  rw [e2]
  show ((p.num == q.num) && (((p.den : Int) == (q.den : Int)) && true)) = _
  have h1 : ∀ i j : Int, (i == j) = decide (i = j) := fun i j => by
    rw [Bool.eq_iff_iff, beq_iff_eq, decide_eq_true_eq]
  rw [Bool.and_true, h1, h1]
  congr 1
  rw [decide_eq_decide]
  exact Int.natCast_inj
theorem eqvRRs : ∀ ps qs : List Rat, PyData.eqv (.list (ps.map datR)) (.list (qs.map datR)) = decide (ps = qs)
  | [], [] => rfl
  | [], _ :: _ => rfl
  | _ :: _, [] => rfl
  | p :: ps, q :: qs => by
    show (PyData.eqv (datR p) (datR q) && PyData.eqvAll (ps.map datR) (qs.map datR)) = _
    have h : PyData.eqvAll (ps.map datR) (qs.map datR) = decide (ps = qs) := eqvRRs ps qs
    rw [h, eqvRR, ← Bool.decide_and, decide_eq_decide, List.cons.injEq]
theorem anyRR (q : Rat) : ∀ qs : List Rat, ((qs.map datR).any fun z => PyData.eqv z (datR q)) = decide (q ∈ qs)
  | [] => rfl
  | p :: ps => by
    rw [List.map_cons, List.any_cons, anyRR q ps, eqvRR, ← Bool.decide_or, decide_eq_decide, List.mem_cons]
    exact ⟨fun h => h.imp Eq.symm id, fun h => h.imp Eq.symm id⟩
end LR
set_option Elab.async false
set_option linter.all false
set_option maxRecDepth 100000
set_option maxHeartbeats 4000000
/-! x == y, x != y, x[y] where x is an object of a class with its own __eq__, __getitem__ -/
namespace OC
open PySem PySem.Spec PyProof.Rows L2
section
variable {P : Program} {w : World} {A : Around} {E : Value → Shared → Prop} {s : Shared} {K : PySem.W.Frag} {x C f : Addr} {ox : Obj} {od : Option Obj}
/-- a built-in's own method, found at the class -/
theorem bound_builtin {M : Model} {nm : Str} {id : String} {args : List Value} {Q : Option Value → Shared → Prop} (bd : ∀ v, bindSpecial (.builtin id) v = pure (.builtin id, [v])) (X : K.In s.heap) (I : PySem.W.InstAt s.heap x ox C od)
    (at_ : PySem.W.findIn K (.ref C) nm = some (some (.builtin id))) (h : wpAny M A (call (.builtin id) (.ref x :: args)) (fun v t => Q (some v) t) E s) : wpAny M A (callSpecialIfBound? (.ref x) nm args) Q E s := by
  unfold callSpecialIfBound? bindSpecialIfBound?
  refine wpAny_holding (wpAny_bind (wpAny_bind (wpAny_bind (I.type.here ((PySem.W.looks_findIn X at_).here (wpAny_bind (wpAny_askSetting (wpAny_ite ?_))))))))
  rw [bd]
  have after : wpAny M A (call (.builtin id) ([.ref x] ++ args) >>= fun v => pure (some v)) Q E s := wpAny_bind (wpAny_mono h (fun _ _ z => wpAny_pure z) fun _ _ z => z)
  split
  · exact wpAny_bind (wpAny_pure (wpAny_pure after))
  · exact wpAny_tryCatch (wpAny_bind (wpAny_pure (wpAny_pure after)))
/-- x != y by the class's own __eq__, turned about -/
theorem ne_own {b tb : Value} {Q : Value → Shared → Prop} (hu : A.units + 1 < cLine) (X : K.In s.heap) (I : PySem.W.InstAt s.heap x ox C od) (hb : PySem.W.Looks (model P w) s.heap (typeOf b) tb) (first : PySem.W.notFirst K C tb = true)
    (ne : PySem.W.findIn K (.ref C) "__ne__" = some (some (.builtin "object.__ne__"))) (isO : PySem.W.subIn K (.ref C) (.type "object") = some true) (eq : PySem.W.findIn K (.ref C) "__eq__" = some (some (.ref f))) (fn : PySem.W.isFn K (.ref f) = true)
    (h : wpAny (model P w) A.in1 (call (.ref f) [.ref x, b]) (fun r t => ∃ k, r = Value.bool k ∧ Q (.bool (!k)) t) E s) : wpAny (model P w) A (richCompare .NotEq (.ref x) b) Q E s := by
  have entry : wpAny (model P w) A.in1 (Builtin.«object.__ne__» ⟨[.ref x, b], []⟩) (fun fin t => ∃ k, fin = .done (.ret (.bool (!k))) ∧ Q (.bool (!k)) t) E s := by
    unfold Builtin.«object.__ne__»
    refine wpAny_bind ?_
    show wpAny _ _ (slotArgs "__ne__" 1 ⟨[.ref x, b], []⟩) _ _ s
    refine wpAny_pure ?_
    show wpAny _ _ _ _ _ s
    refine wpAny_bind (wpAny_cRoomFor (by show A.units + 1 < cLine; exact hu) ?_)
    refine wpAny_bind (PySem.W.ifBound_K X I eq fn (wpAny_mono h (fun r t z => ?_) fun _ _ z => z))
    obtain ⟨k, rfl, q⟩ := z
    exact wpAny_bind (wpAny_truthy_bool (wpAny_pure ⟨k, rfl, q⟩))
  have one : wpAny (model P w) A (tryCompare (.ref x) "__ne__" b) (fun r t => ∃ k, r = some (Value.bool k) ∧ Q (.bool k) t) E s := by
    unfold tryCompare
    refine wpAny_bind (bound_builtin PySem.F.cmp_object.ne.bind X I ne ?_)
    refine wpAny_call (codeAny_call_builtin PySem.F.cmp_object.ne.plain PySem.F.cmpEntry_ne (PySem.W.check_slot PySem.F.cmpKind_ne PySem.F.cmpSplit_ne (I.type.andThen (PySem.W.looks_subIn X isO)) (PySem.F.cmpArgs_ne _ _) (wpAny_mono entry (fun fin t z => ?_) fun _ _ z => z)))
    obtain ⟨k, rfl, q⟩ := z
    exact wpAny_pure ⟨!k, rfl, q⟩
  unfold richCompare
  simp only [oneThing_ref]
  refine wpAny_holding (wpAny_bind (wpAny_cRoomFor (by omega) (wpAny_bind (I.type.here (wpAny_bind (hb.here ?_))))))
  split
  · rename_i q
    have below : PySem.W.subIn K tb (.ref C) = some false := (Bool.or_eq_true_iff.mp first).elim (fun e => by rw [beq_iff_eq.mp e] at q; simp at q) fun e => beq_iff_eq.mp e
    refine wpAny_bind ((PySem.W.looks_subIn X below).here ?_)
    simp only [Bool.false_eq_true, if_false]
    refine wpAny_bind (wpAny_mono one (fun r t z => ?_) fun _ _ z => z)
    obtain ⟨k, rfl, q⟩ := z
    exact wpAny_pure q
  · refine wpAny_bind (wpAny_pure ?_)
    simp only [Bool.false_eq_true, if_false]
    refine wpAny_bind (wpAny_mono one (fun r t z => ?_) fun _ _ z => z)
    obtain ⟨k, rfl, q⟩ := z
    exact wpAny_pure q
end
section
variable {X : Cx} {CX : CXT} {k : Nat} {C g : Addr} {fd : FuncData} {ps : List Str} {sp : Sp} {E : XK}
/-- the callee runs at any place below -/
theorem run_at {A : Around} {pins : List (Addr × Obj)} {σ : L2.St} {H : Hp} {s : Shared} {Q : VK} {us : List Value} {vs : List V} (F : FnOk X.prog X.w X.K X.mg X.base CX k g fd ps sp) (hr : Room k A) (e0 : Env0 X.prog X.w X.K X.mg X.base A X.stack s H) (hb : Binds X.K fd ps []) (hx : Passes CX X E)
    (I : Inv X pins σ H s) (r : Vals vs us) (h : sp vs H Q E) : codeAny (model X.prog X.w) A (.call (.ref g) ⟨us, []⟩) (fun r t => match r with | .ok (.ret v) => EP X pins σ Q v t | .ok _ => False | .error e => X.xe e t) s := by
  have hl : us.length = ps.length := by rw [← r.length]; exact F.len _ _ _ _ h
  refine codeAny_mono (F.run A X.stack s H ⟨us, []⟩ us vs Q E hr e0 (by have := hb s us I.kIn (by simpa using hl); simpa using this) r h) fun r t z => ?_
  match r, z with
  | .error e, z => exact hx pins σ H s e t I z
  | .ok (.ret u), z => exact I.after z
  | .ok .next, z => exact z.elim
  | .ok .brk, z => exact z.elim
  | .ok .cont, z => exact z.elim
/-- of the class: what == and != ask -/
structure EqC (K : PySem.W.Frag) (C g : Addr) : Prop where
  eq : Meth K C "__eq__" g
  ne : PySem.W.findIn K (.ref C) "__ne__" = some (some (.builtin "object.__ne__"))
  ob : PySem.W.subIn K (.ref C) (.type "object") = some true
def rEq (K : PySem.W.Frag) (C : Addr) (neg : Bool) (sp : Sp) (E : XK) : R2 := fun x y H Q => ∃ a dx fs t, x = .ref a ∧ H a = some (.ins C dx fs) ∧ TyX K H y t ∧ PySem.W.notFirst K C t = true ∧ sp [x, y] H (fun z H' => ∃ b, z = .bl b ∧ Q (.bl (if neg then !b else b)) H') E
theorem op_eqOwn (T : EqC X.K C g) (F : FnOk X.prog X.w X.K X.mg X.base CX k g fd ps sp) (hr : Room k X.A) (hb : Binds X.K fd ps []) (hx : Passes CX X E) : OpR X (compareOp .Eq) (rEq X.K C false sp E) := by
  intro pins s σ H x y v u Q I rx ry h
  obtain ⟨a, dx, fs, t, rfl, ea, ty, nf, q⟩ := h
  cases (show v = Value.ref a from rx)
  obtain ⟨mA, O, _⟩ := ins_get I.hok ea
  obtain ⟨od, J, _⟩ := O.look
  obtain ⟨Z, kz, pz, _⟩ := kit_of I ry ty
  obtain ⟨m, hF⟩ := I.fr
  refine PySem.W.cmp_K (op := .Eq) hr.units0 hF I.ok.mod.kin J (kz.ty _ _ I.kIn pz) nf T.eq.at_ T.eq.fn ?_
  refine wpAny_mono (run_fn (us := [.ref a, u]) (vs := [.ref a, y]) F hr hb .nil hx I (.cons rfl (.cons ry .nil)) q) (fun r t z => ?_) fun _ _ z => z
  obtain ⟨z', H', I', rz, b, rfl, qb⟩ := z
  cases (show r = Value.bool b from rz)
  exact ⟨.bl b, H', I', rfl, qb⟩
theorem op_neOwn (T : EqC X.K C g) (F : FnOk X.prog X.w X.K X.mg X.base CX k g fd ps sp) (hr : Room (k + 1) X.A) (hb : Binds X.K fd ps []) (hx : Passes CX X E) : OpR X (compareOp .NotEq) (rEq X.K C true sp E) := by
  intro pins s σ H x y v u Q I rx ry h
  obtain ⟨a, dx, fs, t, rfl, ea, ty, nf, q⟩ := h
  cases (show v = Value.ref a from rx)
  obtain ⟨mA, O, _⟩ := ins_get I.hok ea
  obtain ⟨od, J, _⟩ := O.look
  obtain ⟨Z, kz, pz, _⟩ := kit_of I ry ty
  show wpAny _ _ (richCompare .NotEq (.ref a) u) _ _ _
  refine ne_own (hu_of hr) I.kIn J (kz.ty _ _ I.kIn pz) nf T.ne T.ob T.eq.at_ T.eq.fn ?_
  refine wpAny_mono (wpAny_call (run_at (us := [.ref a, u]) (vs := [.ref a, y]) F hr.in1 I.env0.in1 hb hx I (.cons rfl (.cons ry .nil)) q)) (fun r t z => ?_) fun _ _ z => z
  obtain ⟨z', H', I', rz, b, rfl, qb⟩ := z
  cases (show r = Value.bool b from rz)
  exact ⟨b, rfl, .bl (!b), H', I', rfl, qb⟩
/-- x[y] by the class's own __getitem__ -/
def tIx (C : Addr) (sp : Sp) (E : XK) (ta tb : TE) : TE := fun σ H Q => ta σ H fun x H1 => tb σ H1 fun y H2 => ∃ a dx fs, x = .ref a ∧ H2 a = some (.ins C dx fs) ∧ sp [x, y] H2 Q E
theorem pe_ixOwn {a b : Expr} {ta tb : TE} {pos : Pos} (hm : Meth X.K C "__getitem__" g) (fi : PySem.W.fnIn X.K g = true) (F : FnOk X.prog X.w X.K X.mg X.base CX k g fd ps sp) (hr : Room (k + 1) X.A) (bd : Binds X.K fd ps []) (hx : Passes CX X E) (ha : PE X a ta) (hb : PE X b tb)
    (hsl : ∀ o i, subscripted b true (.ref o) i = runValue (.builtin "lifetime.subscript" ⟨[.ref o, i], []⟩) := by with_unfolding_all exact fun _ _ => rfl) : PE X (.Subscript a b pos) (tIx C sp E ta tb) := by
  refine ⟨fun pins s σ H Q I h => Subscript_ (binT (R := fun x y H2 => ∃ a dx fs, x = .ref a ∧ H2 a = some (.ins C dx fs) ∧ sp [x, y] H2 Q E) ha hb I h fun v u s2 x y H2 I2 rx ry q => ?_)⟩
  obtain ⟨o, dx, fs, rfl, ea, q⟩ := q
  cases (show v = Value.ref o from rx)
  obtain ⟨mA, O, _⟩ := ins_get I2.hok ea
  obtain ⟨od, J, _⟩ := O.look
  obtain ⟨m, hF⟩ := I2.fr
  refine PySem.W.sub_K hF I2.ok.mod.kin J hm.at_ fi hm.fn ?_ (hsl _ _)
  exact wpAny_call (run_at (us := [.ref o, u]) (vs := [.ref o, y]) F hr.in1 I2.env0.in1 bd hx I2 (.cons rfl (.cons ry .nil)) q)
end
end OC
set_option Elab.async false
set_option linter.all false
set_option maxRecDepth 100000
set_option maxHeartbeats 4000000
set_option exponentiation.threshold 100000
namespace LR
open PySem PySem.Spec PyProof.Rows L2
abbrev mInit : Stmt := inClass cMom 0
abbrev mEq : Stmt := inClass cMom 1
abbrev mGet : Stmt := inClass cMom 3
abbrev mIn : Stmt := inClass cMom 4
abbrev mCall : Stmt := inClass cMom 5
abbrev mBegin : Stmt := inClass cMom 9
abbrev mStep : Stmt := inClass cMom 10
abbrev mCount : Stmt := inClass cMom 11
abbrev mAfter : Stmt := inClass cMom 12
abbrev mSteps : Stmt := inClass cMom 13
theorem sc_mInit : FnScope ["self", "begin", "step"] ["self", "begin", "step"] (defScope mInit) := ⟨rfl, rfl, rfl, by decide +kernel, rfl, by decide +kernel, by decide +kernel⟩
theorem sc_mEq : FnScope ["self", "other"] ["self", "other"] (defScope mEq) := ⟨rfl, rfl, rfl, by decide +kernel, rfl, by decide +kernel, by decide +kernel⟩
theorem sc_mGet : FnScope ["self", "at"] ["self", "at"] (defScope mGet) := ⟨rfl, rfl, rfl, by decide +kernel, rfl, by decide +kernel, by decide +kernel⟩
theorem sc_mIn : FnScope ["self", "time", "top", "bottom"] ["self", "time"] (defScope mIn) := ⟨rfl, rfl, rfl, by decide +kernel, rfl, by decide +kernel, by decide +kernel⟩
theorem sc_mCall : FnScope ["self", "time"] ["self", "time"] (defScope mCall) := ⟨rfl, rfl, rfl, by decide +kernel, rfl, by decide +kernel, by decide +kernel⟩
theorem sc_mBegin : FnScope ["self"] ["self"] (defScope mBegin) := ⟨rfl, rfl, rfl, by decide +kernel, rfl, by decide +kernel, by decide +kernel⟩
theorem sc_mStep : FnScope ["self"] ["self"] (defScope mStep) := ⟨rfl, rfl, rfl, by decide +kernel, rfl, by decide +kernel, by decide +kernel⟩
theorem sc_mCount : FnScope ["self", "time"] ["self", "time"] (defScope mCount) := ⟨rfl, rfl, rfl, by decide +kernel, rfl, by decide +kernel, by decide +kernel⟩
theorem sc_mAfter : FnScope ["self", "time"] ["self", "time"] (defScope mAfter) := ⟨rfl, rfl, rfl, by decide +kernel, rfl, by decide +kernel, by decide +kernel⟩
theorem sc_mSteps : FnScope ["self", "time"] ["self", "time"] (defScope mSteps) := ⟨rfl, rfl, rfl, by decide +kernel, rfl, by decide +kernel, by decide +kernel⟩
/-! ### moments as an object -/
def mflds (x y : V) : List (Str × V) := [("_begin", x), ("_step", y)]
theorem mflds_eq (x y : V) : putF "_step" y (putF "_begin" x []) = mflds x y := by
  show (if ("_begin" : Str) = "_step" then _ else (("_begin" : Str), x) :: putF "_step" y []) = _
  rw [if_neg (by decide +kernel)]
  rfl
theorem ml_begin (x y : V) : (mflds x y).lookup ("_begin" : Str) = some x := by
  rw [← mflds_eq, lookup_putF, if_neg (by decide +kernel), lookup_putF, if_pos rfl]
theorem ml_step (x y : V) : (mflds x y).lookup ("_step" : Str) = some y := by
  rw [← mflds_eq, lookup_putF, if_pos rfl]
theorem ml_no (x y : V) {m : Str} (h1 : ¬ m = "_step") (h2 : ¬ m = "_begin") : (mflds x y).lookup m = none := by
  rw [← mflds_eq, lookup_putF, if_neg h1, lookup_putF, if_neg h2]
  rfl
def MomAt (K : PySem.W.Frag) (C : Addr) (H : Hp) (v : V) (b s : Rat) : Prop := ∃ (p dx : Addr) (vb vs : V), v = .ref p ∧ H p = some (.ins C dx (mflds vb vs)) ∧ Rn K H vb b ∧ Rn K H vs s
theorem MomAt.same {K : PySem.W.Frag} {C : Addr} {H H' : Hp} {v : V} {b s : Rat} (e : Same H H') (h : MomAt K C H v b s) : MomAt K C H' v b s :=
  let ⟨p, dx, vb, vs, e1, h1, h2, h3⟩ := h; ⟨p, dx, vb, vs, e1, e _ _ h1, h2.same e, h3.same e⟩
theorem MomAt.but {K : PySem.W.Frag} {C : Addr} {H H' : Hp} {v : V} {b s : Rat} {D : Addr} {xs : List V} (e : But D H H') (hD : H D = some (.lst xs)) (h : MomAt K C H v b s) : MomAt K C H' v b s :=
  let ⟨p, dx, vb, vs, e1, h1, h2, h3⟩ := h; ⟨p, dx, vb, vs, e1, e _ _ (ne_of h1 hD (by intro z; cases z)) h1, (Odd.lst hD).rn e h2, (Odd.lst hD).rn e h3⟩
def kdNames : List String := ["NoneType", "bool", "int", "str", "list", "tuple", "dict"]
theorem Kd.name {K : PySem.W.Frag} {H : Hp} {x : V} {n : String} (h : Kd K H x n) : n ∈ kdNames := by
  cases h <;> decide
/-- what is asked of the class as it stands -/
structure MomC (K : PySem.W.Frag) (C : Addr) : Prop where
  cl : Cls K C
  nB : NoAttr K C "_begin"
  nS : NoAttr K C "_step"
  ca : PySem.W.findIn K (.ref C) "__class__" = some (some (.builtin "object.__class__"))
  cn : PySem.W.specialIn K (.builtin "object.__class__") "__get__" = some (some (.builtin "getset_descriptor.__get__"))
  ct : PySem.W.takesIn K (.builtin "object.__class__") = some true
  cm : PySem.W.mroIn K C (.type "object") = some true
  ks : PySem.W.kitOne K (.ref C) (.ref C) = some true
  kb : ∀ n ∈ kdNames, PySem.W.kitOne K (.type n) (.ref C) = some false ∧ PySem.W.notFirst K C (.type n) = true
theorem MomC.ty {K : PySem.W.Frag} {C : Addr} (T : MomC K C) {H : Hp} {a dx : Addr} {fs : List (Str × V)} (e : H a = some (.ins C dx fs)) : TyX K H (.ref a) (.ref C) := .base (.ins e T.cl T.ca T.cn T.ct T.cm)
section
variable {P : Program} {w : World} {K : PySem.W.Frag} {mg : Str → Option Value} {base : Heap}
/-! ### Moments(begin, step) -/
def GivesMI (K : PySem.W.Frag) (C CT CN p : Addr) (ob os : Option Rat) (H : Hp) (Q : VK) (E : XK) : Prop := match ob with
  | none => ∀ H', Same H H' → E (.ref CT) none H'
  | some b => (b < 0 → ∀ H', Same H H' → E (.ref CT) none H') ∧ (0 ≤ b → match os with
    | none => ∀ H', But p H H' → E (.ref CN) none H'
    | some s => (s ≤ 0 → ∀ H', But p H H' → E (.ref CN) none H') ∧ (0 < s → ∀ H', But p H H' → MomAt K C H' (.ref p) b s → Q .non H'))
def spMI (K : PySem.W.Frag) (C CT CN : Addr) : Sp := fun vs H Q E => ∃ (p dx : Addr) (vb vs' : V) (ob os : Option Rat), vs = [.ref p, vb, vs'] ∧ H p = some (.ins C dx []) ∧ Arg K H vb ob ∧ Arg K H vs' os ∧ GivesMI K C CT CN p ob os H Q E
theorem arg_ins {H H' : Hp} {p C dx : Addr} {x : V} {o : Option Rat} {fs : List (Str × V)} (b : But p H H') (hp : H p = some (.ins C dx fs)) (h : Arg K H x o) : Arg K H' x o := by
  have kd : ∀ {x : V} {n : String}, Kd K H x n → Kd K H' x n := fun {x n} h => by
    cases h with
    | non => exact .non
    | bl b => exact .bl b
    | int i => exact .int i
    | str z => exact .str z
    | @lst _ xs h =>
      refine .lst (xs := xs) ?_
      rcases h with (h | ⟨o, h⟩) | h
      · exact .inl (.inl (b _ _ (fun e => by rw [e, hp] at h; cases h) h))
      · exact .inl (.inr ⟨o, b _ _ (fun e => by rw [e, hp] at h; cases h) h⟩)
      · exact .inr h
    | tup h => exact .tup ((Odd.ins hp).sqt b h)
    | dict h => exact .dict (b _ _ (fun e => by rw [e, hp] at h; cases h) h)
  cases h with
  | int i => exact .int i
  | tup h k e => exact .tup ((Odd.ins hp).sqt b h) (fun l y hy => let ⟨m, z⟩ := k l y hy; ⟨m, kd z⟩) e
  | oth h h1 h2 => exact .oth (kd h) h1 h2
theorem ok_mInit {f C fT fP fA CT CN : Addr} {fd dT dP dA : FuncData} (F : Fun K "__init__" "Moments.__init__" mInit f fd) (T : MomC K C) (DT : DefAt K mg "as_time" s_as_time ["value"] fT dT) (DP : DefAt K mg "is_positive" s_is_positive ["value"] fP dP) (DA : DefAt K mg "as_ratio" s_as_ratio ["value"] fA dA)
    (XN : ErrAt K mg "InvalidNumber" BMv "ValueError.__new__" CN)
    (GT : FnOk P w K mg base (CXl P w) 4 fT dT ["value"] (spTime K CT)) (GP : FnOk P w K mg base (CXl P w) 4 fP dP ["value"] (spPosi K)) (GA : FnOk P w K mg base (CXl P w) 3 fA dA ["value"] (spAR K CN)) : FnOk P w K mg base (CXl P w) 5 f fd ["self", "begin", "step"] (spMI K C CT CN) := by
  refine F.okX sc_mInit (fun vs H Q E h => ?_) (fun cdv A outer s H vs Q E hr h => ?_)
  · obtain ⟨p, dx, vb, vs', ob, os, rfl, _⟩ := h
    rfl
  · obtain ⟨p, dx, vb, vs', ob, os, rfl, hp, hb, hs, q⟩ := h
    refine ⟨_, pss_cons (ps_fld (pv 0) (pe_call GT hr (by rfl) DT.g DT.F.kp DT.b .nil (passes_call (takes_of rfl rfl rfl rfl) fun _ _ _ _ h => h) (pa_cons (pv 1) pa_nil)) rfl)
      (pss_cons (ps_if (pt_not (pt_val (pe_call GP hr (by rfl) DP.g DP.F.kp DP.b .nil passL (pa_cons (pv 2) pa_nil)))) (pss_one (ps_raise rfl (takes_of rfl rfl rfl rfl) (XN.mk0 PySem.F.excBase_ValueError rfl))) pss_nil)
      (pss_one (ps_fld (pv 0) (pe_call GA (hr.mono (by decide)) (by rfl) DA.g DA.F.kp DA.b .nil passL (pa_cons (pv 2) pa_nil)) rfl))), ?_⟩
    refine ⟨vb, rfl, vb, ob, rfl, hb, ?_⟩
    cases ob with
    | none => exact q
    | some b =>
      obtain ⟨q1, q2⟩ := q
      refine ⟨q1, fun b0 v1 H1 s1 r1 => ?_⟩
      have q2 := q2 b0
      have hp1 := s1 _ _ hp
      refine ⟨.ref p, rfl, p, C, dx, [], rfl, hp1, T.cl, T.nB, by show 0 < 1000; decide, ?_⟩
      have b12 : But p H1 (upd H1 p (.ins C dx (putF "_begin" v1 []))) := but_new
      have hp2 : (upd H1 p (.ins C dx (putF "_begin" v1 []))) p = some (.ins C dx (putF "_begin" v1 [])) := upd_same
      generalize (upd H1 p (.ins C dx (putF "_begin" v1 []))) = H2 at b12 hp2 ⊢
      have b02 : But p H H2 := same_but2 s1 b12
      have hs2 : Arg K H2 vs' os := arg_ins b12 hp1 (hs.same s1)
      have r2 : Rn K H2 v1 b := (Odd.ins hp1).rn b12 r1
      refine ⟨vs', rfl, vs', os, rfl, hs2, fun H3 s3 => ⟨_, rfl, ?_⟩⟩
      cases os with
      | none => exact iteT (q2 H3 (but_same b02 s3))
      | some s =>
        obtain ⟨q3, q4⟩ := q2
        show if (!decide (0 < s)) = true then _ else _
        by_cases c : 0 < s
        · rw [decide_eq_true c]
          refine iteF ⟨vs', rfl, vs', some s, rfl, hs2.same s3, fun v4 H4 s4 r4 => ?_⟩
          have hp4 := (s3.trans s4) _ _ hp2
          refine ⟨.ref p, rfl, p, C, dx, _, rfl, hp4, T.cl, T.nS, by show 1 < 1000; decide, ?_⟩
          rw [mflds_eq]
          have b45 : But p H4 (upd H4 p (.ins C dx (mflds v1 v4))) := but_new
          refine q4 c _ (but_trans (but_same b02 (s3.trans s4)) b45) ⟨p, dx, v1, v4, rfl, upd_same, ?_, ?_⟩
          · exact (Odd.ins hp4).rn b45 (r2.same (s3.trans s4))
          · exact (Odd.ins hp4).rn b45 r4
        · rw [decide_eq_false c]
          exact iteT (q3 (Rat.not_lt.mp c) H3 (but_same b02 s3))
/-- Moments(b, s) of two numbers, as its caller sees it -/
theorem make_ok {C CT CN : Addr} {H : Hp} {vb vs : V} {b s : Rat} {R : Addr → Hp → Prop} {E : XK} (hb : Num K H vb b) (hs : Num K H vs s) (b0 : 0 ≤ b) (s0 : 0 < s) (q : ∀ x H', Same H H' → MomAt K C H' (.ref x) b s → R x H') (x dx : Addr) (n1 : H x = none) (n2 : H dx = none) (ne : dx ≠ x) :
    spMI K C CT CN [.ref x, vb, vs] (upd (upd H dx (.own x)) x (.ins C dx [])) (fun v H2 => v = .non ∧ R x H2) E := by
  have n3 : (upd H dx (.own x)) x = none := by rw [upd_ne ne.symm]; exact n1
  have s1 : Same H (upd (upd H dx (.own x)) x (.ins C dx [])) := (same_new n2).trans (same_new n3)
  refine ⟨x, dx, vb, vs, some b, some s, rfl, upd_same, hb.same s1, hs.same s1, fun z => absurd b0 (Rat.not_le.mpr z), fun _ => ⟨fun z => absurd s0 (Rat.not_lt.mpr z), fun _ H' bt m => ⟨rfl, q x H' (fun y o e => ?_) m⟩⟩⟩
  exact bt _ _ (ne_of_none e n1) (s1 _ _ e)
/-! ### begin, step -/
theorem ok_mBegin {f C : Addr} {fd : FuncData} (F : Fun K "begin" "Moments.begin" mBegin f fd) (T : MomC K C) : FnOk P w K mg base (CXl P w) 1 f fd ["self"] (fun vs H Q _ => ∃ v b s, vs = [v] ∧ MomAt K C H v b s ∧ ∀ x, Rn K H x b → Q x H) := by
  refine F.okX sc_mBegin (fun vs H Q E h => ?_) (fun cdv A outer s H vs Q E hr h => ?_)
  · obtain ⟨v, b, s, rfl, _⟩ := h
    rfl
  · obtain ⟨v, b, s, rfl, ⟨p, dx, vb, vs, rfl, hp, hb, hs⟩, q⟩ := h
    exact ⟨_, pss_one (ps_ret (pe_fld (pv 0) rfl)), _, rfl, p, C, dx, _, _, rfl, hp, T.cl, T.nB, ml_begin _ _, q _ hb⟩
theorem ok_mStep {f C : Addr} {fd : FuncData} (F : Fun K "step" "Moments.step" mStep f fd) (T : MomC K C) : FnOk P w K mg base (CXl P w) 1 f fd ["self"] (fun vs H Q _ => ∃ v b s, vs = [v] ∧ MomAt K C H v b s ∧ ∀ x, Rn K H x s → Q x H) := by
  refine F.okX sc_mStep (fun vs H Q E h => ?_) (fun cdv A outer s H vs Q E hr h => ?_)
  · obtain ⟨v, b, s, rfl, _⟩ := h
    rfl
  · obtain ⟨v, b, s, rfl, ⟨p, dx, vb, vs, rfl, hp, hb, hs⟩, q⟩ := h
    exact ⟨_, pss_one (ps_ret (pe_fld (pv 0) rfl)), _, rfl, p, C, dx, _, _, rfl, hp, T.cl, T.nS, ml_step _ _, q _ hs⟩
/-! ### _steps_to -/
abbrev SzM (t b s : Rat) : Prop := Sz 900 t ∧ Sz 900 b ∧ Sz 900 s
def spSteps (K : PySem.W.Frag) (C : Addr) : Sp := fun vs H Q _ => ∃ (v x : V) (b s t : Rat), vs = [v, x] ∧ MomAt K C H v b s ∧ Num K H x t ∧ 0 < s ∧ SzM t b s ∧ ∀ y H', Same H H' → Rn K H' y ((t - b) / s) → Q y H'
theorem ok_mSteps {f C fD fM CN C2 : Addr} {fd dD dM : FuncData} (F : Fun K "_steps_to" "Moments._steps_to" mSteps f fd) (T : MomC K C) (DD : DefAt K mg "divided" s_divided ["first", "second"] fD dD) (DM : DefAt K mg "minus" s_minus ["first", "second"] fM dM)
    (GD : FnOk P w K mg base (CXl P w) 4 fD dD ["first", "second"] (sp_divided K CN C2)) (GM : FnOk P w K mg base (CXl P w) 4 fM dM ["first", "second"] (sp_minus K CN)) : FnOk P w K mg base (CXl P w) 5 f fd ["self", "time"] (spSteps K C) := by
  refine F.okX sc_mSteps (fun vs H Q E h => ?_) (fun cdv A outer s H vs Q E hr h => ?_)
  · obtain ⟨v, x, b, s, t, rfl, _⟩ := h
    rfl
  · obtain ⟨v, x, b, s, t, rfl, ⟨p, dx, vb, vs, rfl, hp, hb, hs⟩, ht, s0, ⟨z1, z2, z3⟩, q⟩ := h
    refine ⟨_, pss_one (ps_ret (pe_call GD hr (by rfl) DD.g DD.F.kp DD.b .nil passL (pa_cons (pe_call GM hr (by rfl) DM.g DM.F.kp DM.b .nil passL (pa_cons (pv 1) (pa_cons (pe_fld (pv 0) rfl) pa_nil))) (pa_cons (pe_fld (pv 0) rfl) pa_nil)))), ?_⟩
    refine ⟨x, rfl, _, rfl, p, C, dx, _, _, rfl, hp, T.cl, T.nB, ml_begin _ _, x, vb, some t, some b, rfl, ht, hb.num, ⟨z1.mono (by decide), z2.mono (by decide)⟩, fun y H1 s1 r1 => ?_⟩
    have hp1 := s1 _ _ hp
    have sne : s ≠ 0 := Rat.ne_of_gt s0
    refine ⟨_, rfl, p, C, dx, _, _, rfl, hp1, T.cl, T.nS, ml_step _ _, y, vs, some (t - b), some s, rfl, r1.num, (hs.same s1).num, ⟨(z1.sub z2).mono (by decide), z3.mono (by decide)⟩, fun z => absurd z sne, fun _ v2 H2 s2 r2 => ?_⟩
    exact q v2 H2 (s1.trans s2) r2
/-! ### count, a call -/
/-- the number of moments up to t -/
def cnt (b s t : Rat) : Int := if ((t - b) / s).floor + 1 > 0 then ((t - b) / s).floor + 1 else 0
def GivesN (K : PySem.W.Frag) (CT : Addr) (b s : Rat) (o : Option Rat) (H : Hp) (Q : VK) (E : XK) : Prop := match o with
  | none => ∀ H', Same H H' → E (.ref CT) none H'
  | some t => (t < 0 → ∀ H', Same H H' → E (.ref CT) none H') ∧ (0 ≤ t → SzM t b s ∧ ∀ H', Same H H' → Q (.int (cnt b s t)) H')
def spCount (K : PySem.W.Frag) (C CT : Addr) : Sp := fun vs H Q E => ∃ (v x : V) (b s : Rat) (o : Option Rat), vs = [v, x] ∧ MomAt K C H v b s ∧ Arg K H x o ∧ 0 < s ∧ GivesN K CT b s o H Q E
theorem ok_mCount {f C fT fF fS CT CN : Addr} {fd dT dF dS : FuncData} (F : Fun K "count" "Moments.count" mCount f fd) (T : MomC K C) (DT : DefAt K mg "as_time" s_as_time ["value"] fT dT) (DF : DefAt K mg "floor_of" s_floor_of ["value"] fF dF) (MS : Meth K C "_steps_to" fS) (bS : Binds K dS ["self", "time"] []) (mmax : mg "max" = none)
    (GT : FnOk P w K mg base (CXl P w) 4 fT dT ["value"] (spTime K CT)) (GF : FnOk P w K mg base (CXl P w) 4 fF dF ["value"] (sp_floor K CN)) (GS : FnOk P w K mg base (CXl P w) 5 fS dS ["self", "time"] (spSteps K C)) : FnOk P w K mg base (CXl P w) 6 f fd ["self", "time"] (spCount K C CT) := by
  refine F.okX sc_mCount (fun vs H Q E h => ?_) (fun cdv A outer s H vs Q E hr h => ?_)
  · obtain ⟨v, x, b, s, o, rfl, _⟩ := h
    rfl
  · obtain ⟨v, x, b, s, o, rfl, hm, hx, s0, q⟩ := h
    refine ⟨_, pss_one (ps_ret (pe_callB (call_max2 rfl) (by rfl) mmax (by decide +kernel) (pa_cons pe_int (pa_cons (pe_op op_add (pe_call GF (hr.mono (by decide)) (by rfl) DF.g DF.F.kp DF.b .nil passL
      (pa_cons (pe_meth (pv 0) T.cl MS GS hr bS .nil passL (pa_cons (pe_call GT (hr.mono (by decide)) (by rfl) DT.g DT.F.kp DT.b .nil (passes_call (takes_of rfl rfl rfl rfl) fun _ _ _ _ h => h) (pa_cons (pv 1) pa_nil)) pa_nil)) pa_nil)) pe_int) pa_nil)))), ?_⟩
    obtain ⟨p, dx, vb, vs, rfl, hp, hb, hs⟩ := id hm
    refine ⟨_, rfl, p, dx, _, rfl, hp, ml_no _ _ (by decide +kernel) (by decide +kernel), x, rfl, x, o, rfl, hx, ?_⟩
    cases o with
    | none => exact q
    | some t =>
      refine ⟨q.1, fun t0 v1 H1 s1 r1 => ?_⟩
      obtain ⟨z, q⟩ := q.2 t0
      refine ⟨_, v1, b, s, t, rfl, hm.same s1, r1.num, s0, z, fun v2 H2 s2 r2 => ?_⟩
      refine ⟨v2, some ((t - b) / s), rfl, r2.num, ((z.1.sub z.2.1).div z.2.2 (Rat.ne_of_gt s0)).mono (by decide), fun H3 s3 => ?_⟩
      exact ⟨_, _, rfl, rfl, 0, ((t - b) / s).floor + 1, rfl, q H3 ((s1.trans s2).trans s3)⟩
theorem ok_mCall {f C fN CT : Addr} {fd dN : FuncData} (F : Fun K "__call__" "Moments.__call__" mCall f fd) (T : MomC K C) (MN : Meth K C "count" fN) (bN : Binds K dN ["self", "time"] [])
    (GN : FnOk P w K mg base (CXl P w) 6 fN dN ["self", "time"] (spCount K C CT)) : FnOk P w K mg base (CXl P w) 7 f fd ["self", "time"] (spCount K C CT) := by
  refine F.okX sc_mCall (fun vs H Q E h => ?_) (fun cdv A outer s H vs Q E hr h => ?_)
  · obtain ⟨v, x, b, s, o, rfl, _⟩ := h
    rfl
  · obtain ⟨v, x, b, s, o, rfl, hm, hx, s0, q⟩ := h
    refine ⟨_, pss_one (ps_ret (pe_meth (pv 0) T.cl MN GN hr bN .nil (passes_call (takes_of rfl rfl rfl rfl) fun _ _ _ _ h => h) (pa_cons (pv 1) pa_nil))), ?_⟩
    obtain ⟨p, dx, vb, vs, rfl, hp, hb, hs⟩ := id hm
    exact ⟨_, rfl, p, dx, _, rfl, hp, ml_no _ _ (by decide +kernel) (by decide +kernel), x, rfl, _, x, b, s, o, rfl, hm, hx, s0, q⟩
/-! ### moments[index], after -/
def GivesG (K : PySem.W.Frag) (CC : Addr) (b s : Rat) (x : V) (H : Hp) (Q : VK) (E : XK) : Prop := match x with
  | .int i => (i < 0 → ∀ H', Same H H' → E (.ref CC) none H') ∧ (0 ≤ i → (Sz 900 (i : Rat) ∧ Sz 900 b ∧ Sz 900 s) ∧ ∀ y H', Same H H' → Rn K H' y (b + (i : Rat) * s) → Q y H')
  | _ => ∀ H', Same H H' → E (.ref CC) none H'
def spGet (K : PySem.W.Frag) (C CC : Addr) : Sp := fun vs H Q E => ∃ (v x : V) (b s : Rat) (n : String), vs = [v, x] ∧ MomAt K C H v b s ∧ Kd K H x n ∧ GivesG K CC b s x H Q E
theorem ok_mGet {f C fI fP fT CC CN : Addr} {fd dI dP dT : FuncData} (F : Fun K "__getitem__" "Moments.__getitem__" mGet f fd) (T : MomC K C) (DI : DefAt K mg "is_integer" s_is_integer ["value"] fI dI) (DP : DefAt K mg "plus" s_plus ["first", "second"] fP dP) (DT : DefAt K mg "times" s_times ["first", "second"] fT dT)
    (XC : ErrAt K mg "InvalidCount" BMv "ValueError.__new__" CC)
    (GI : FnOk P w K mg base (CXl P w) 1 fI dI ["value"] (spII K)) (GP : FnOk P w K mg base (CXl P w) 4 fP dP ["first", "second"] (sp_plus K CN)) (GT : FnOk P w K mg base (CXl P w) 4 fT dT ["first", "second"] (sp_times K CN)) : FnOk P w K mg base (CXl P w) 5 f fd ["self", "at"] (spGet K C CC) := by
  refine F.okX sc_mGet (fun vs H Q E h => ?_) (fun cdv A outer s H vs Q E hr h => ?_)
  · obtain ⟨v, x, b, s, n, rfl, _⟩ := h
    rfl
  · obtain ⟨v, x, b, s, n, rfl, hm, hx, q⟩ := h
    refine ⟨_, pss_cons (ps_if (PW.pt (pw_or (pt_not (pt_val (pe_call GI (hr.mono (by decide)) (by rfl) DI.g DI.F.kp DI.b .nil passL (pa_cons (pv 1) pa_nil)))) (pw_or1 (pt_cmpR op_lt (pv 1) pe_int (nomark _))))) (pss_one (ps_raise rfl (takes_of rfl rfl rfl rfl) (XC.mk0 PySem.F.excBase_ValueError rfl))) pss_nil)
      (pss_one (ps_ret (pe_call GP hr (by rfl) DP.g DP.F.kp DP.b .nil passL (pa_cons (pe_fld (pv 0) rfl) (pa_cons (pe_call GT hr (by rfl) DT.g DT.F.kp DT.b .nil passL (pa_cons (pv 1) (pa_cons (pe_fld (pv 0) rfl) pa_nil))) pa_nil))))), ?_⟩
    obtain ⟨p, dx, vb, vs, rfl, hp, hb, hs⟩ := id hm
    refine ⟨x, rfl, x, n, rfl, hx, _, rfl, ?_⟩
    by_cases hi : isI x = true
    · obtain ⟨i, rfl⟩ := isI_int hi
      obtain ⟨q1, q2⟩ := q
      refine iteF ⟨_, rfl, i, 0, rfl, rfl, _, rfl, ite2 (fun c => ?_) (fun c => ?_)⟩
      · exact q1 (of_decide_eq_true c) H (Same.refl _)
      · have i0 : 0 ≤ i := by
          have : ¬ i < 0 := fun z => c (decide_eq_true z)
          omega
        obtain ⟨⟨z1, z2, z3⟩, q3⟩ := q2 i0
        refine ⟨_, rfl, p, C, dx, _, _, rfl, hp, T.cl, T.nB, ml_begin _ _, _, rfl, _, rfl, p, C, dx, _, _, rfl, hp, T.cl, T.nS, ml_step _ _, _, vs, some (i : Rat), some s, rfl, num_int i, hs.num, ⟨z1.mono (by decide), z3.mono (by decide)⟩, fun y H1 s1 r1 => ?_⟩
        refine ⟨vb, y, some b, some ((i : Rat) * s), rfl, (hb.same s1).num, r1.num, ⟨z2.mono (by decide), (z1.mul z3).mono (by decide)⟩, fun y2 H2 s2 r2 => ?_⟩
        exact q3 y2 H2 (s1.trans s2) r2
    · have c2 : isI x = false := by simpa using hi
      rw [c2]
      refine iteT ?_
      have q' : ∀ H', Same H H' → E (.ref CC) none H' := by
        cases x <;> first | exact q | cases c2
      exact q' H (Same.refl _)
def GivesA (K : PySem.W.Frag) (CT : Addr) (b s : Rat) (o : Option Rat) (H : Hp) (Q : VK) (E : XK) : Prop := match o with
  | none => ∀ H', Same H H' → E (.ref CT) none H'
  | some t => (t < 0 → ∀ H', Same H H' → E (.ref CT) none H') ∧ (0 ≤ t → (SzM t b s ∧ Sz 900 ((cnt b s t : Int) : Rat)) ∧ ∀ y H', Same H H' → Rn K H' y (b + ((cnt b s t : Int) : Rat) * s) → Q y H')
def spAfter (K : PySem.W.Frag) (C CT : Addr) : Sp := fun vs H Q E => ∃ (v x : V) (b s : Rat) (o : Option Rat), vs = [v, x] ∧ MomAt K C H v b s ∧ Arg K H x o ∧ 0 < s ∧ GivesA K CT b s o H Q E
theorem cnt_nonneg (b s t : Rat) : 0 ≤ cnt b s t := by
  unfold cnt
  split <;> omega
theorem ok_mAfter {f C fN fG CT CC : Addr} {fd dN dG : FuncData} (F : Fun K "after" "Moments.after" mAfter f fd) (T : MomC K C) (MN : Meth K C "count" fN) (bN : Binds K dN ["self", "time"] []) (MG : Meth K C "__getitem__" fG) (fi : PySem.W.fnIn K fG = true) (bG : Binds K dG ["self", "at"] [])
    (GN : FnOk P w K mg base (CXl P w) 6 fN dN ["self", "time"] (spCount K C CT)) (GG : FnOk P w K mg base (CXl P w) 5 fG dG ["self", "at"] (spGet K C CC)) : FnOk P w K mg base (CXl P w) 7 f fd ["self", "time"] (spAfter K C CT) := by
  refine F.okX sc_mAfter (fun vs H Q E h => ?_) (fun cdv A outer s H vs Q E hr h => ?_)
  · obtain ⟨v, x, b, s, o, rfl, _⟩ := h
    rfl
  · obtain ⟨v, x, b, s, o, rfl, hm, hx, s0, q⟩ := h
    refine ⟨_, pss_one (ps_ret (OC.pe_ixOwn MG fi GG hr bG passL (pv 0) (pe_meth (pv 0) T.cl MN GN hr bN .nil (passes_call (takes_of rfl rfl rfl rfl) fun _ _ _ _ h => h) (pa_cons (pv 1) pa_nil)))), ?_⟩
    obtain ⟨p, dx, vb, vs, rfl, hp, hb, hs⟩ := id hm
    refine ⟨_, rfl, _, rfl, p, dx, _, rfl, hp, ml_no _ _ (by decide +kernel) (by decide +kernel), x, rfl, _, x, b, s, o, rfl, hm, hx, s0, ?_⟩
    cases o with
    | none => exact q
    | some t =>
      refine ⟨q.1, fun t0 => ?_⟩
      obtain ⟨⟨z1, z2⟩, q⟩ := q.2 t0
      refine ⟨z1, fun H1 s1 => ⟨p, dx, _, rfl, s1 _ _ hp, _, _, b, s, "int", rfl, hm.same s1, .int _, fun z => absurd (cnt_nonneg b s t) (by omega), fun _ => ⟨⟨z2, z1.2.1, z1.2.2⟩, fun y H2 s2 r2 => q y H2 (s1.trans s2) r2⟩⟩⟩
/-! ### time in moments -/
def isMom (b s : Rat) : Option Rat → Bool
  | none => false
  | some t => decide (0 ≤ ((t - b) / s).num) && decide (((t - b) / s).den = 1)
def spMIn (K : PySem.W.Frag) (C : Addr) : Sp := fun vs H Q _ => ∃ (v x : V) (b s : Rat) (o : Option Rat), vs = [v, x] ∧ MomAt K C H v b s ∧ Arg K H x o ∧ 0 < s ∧ (∀ t, o = some t → SzM t b s) ∧ ∀ H', Same H H' → Q (.bl (isMom b s o)) H'
theorem ok_mIn {f C fN fS : Addr} {fd dN dS : FuncData} (F : Fun K "__contains__" "Moments.__contains__" mIn f fd) (T : MomC K C) (DN : DefAt K mg "is_number" s_is_number ["value"] fN dN) (MS : Meth K C "_steps_to" fS) (bS : Binds K dS ["self", "time"] [])
    (GN : FnOk P w K mg base (CXl P w) 3 fN dN ["value"] (spIN K)) (GS : FnOk P w K mg base (CXl P w) 5 fS dS ["self", "time"] (spSteps K C)) : FnOk P w K mg base (CXl P w) 6 f fd ["self", "time"] (spMIn K C) := by
  refine F.okX sc_mIn (fun vs H Q E h => ?_) (fun cdv A outer s H vs Q E hr h => ?_)
  · obtain ⟨v, x, b, s, o, rfl, _⟩ := h
    rfl
  · obtain ⟨v, x, b, s, o, rfl, hm, hx, s0, zz, q⟩ := h
    refine ⟨_, pss_cons (ps_if (pt_not (pt_val (pe_call GN (hr.mono (by decide)) (by rfl) DN.g DN.F.kp DN.b .nil passL (pa_cons (pv 1) pa_nil)))) (pss_one (ps_ret pe_bl)) pss_nil)
      (pss_cons (ps_asg (pe_meth (pv 0) T.cl MS GS hr bS .nil passL (pa_cons (pv 1) pa_nil)) (pg_tup rfl (pgs_cons (pg_name (i := 2) sc_mIn.nd rfl (.inl rfl)) (pgs_cons (pg_name (i := 3) sc_mIn.nd rfl (.inl rfl)) pgs_nil))))
      (pss_one (ps_ret (pe_and (pe_cmpR op_ge (pv 2) pe_int (nomark _)) (pe_one (pe_cmpR op_eq (pv 3) pe_int (nomark _))))))), ?_⟩
    obtain ⟨p, dx, vb, vs, rfl, hp, hb, hs⟩ := id hm
    refine ⟨x, rfl, x, o, rfl, hx, _, rfl, ?_⟩
    cases o with
    | none => exact iteT (q H (Same.refl _))
    | some t =>
      refine iteF ⟨_, rfl, p, dx, _, rfl, hp, ml_no _ _ (by decide +kernel) (by decide +kernel), x, rfl, _, x, b, s, t, rfl, hm, hx, s0, zz t rfl, fun y H1 s1 r1 => ?_⟩
      obtain ⟨a, rfl, h1⟩ := r1
      have e1 : decide (V.int ((((t - b) / s).den : Nat) : Int) = V.int 1) = decide (((t - b) / s).den = 1) := by
        rw [decide_eq_decide, V.int.injEq]
        omega
      refine ⟨a, _, rfl, h1, rfl, _, _, rfl, _, _, rfl, rfl, _, rfl, _, _, rfl, rfl, _, rfl, ite2 (fun c => ?_) (fun c => ?_)⟩
      · refine ⟨_, rfl, rfl, ?_⟩
        have q : Q (.bl (decide (0 ≤ ((t - b) / s).num) && decide (((t - b) / s).den = 1))) H1 := q H1 s1
        rw [show decide (0 ≤ ((t - b) / s).num) = true from c, Bool.true_and, ← e1] at q
        exact q
      · have q : Q (.bl (decide (0 ≤ ((t - b) / s).num) && decide (((t - b) / s).den = 1))) H1 := q H1 s1
        rw [show decide (0 ≤ ((t - b) / s).num) = false by simpa using c, Bool.false_and] at q
        exact q
/-! ### == -/
def spEq (K : PySem.W.Frag) (C : Addr) : Sp := fun vs H Q _ => ∃ (v y : V) (b s : Rat), vs = [v, y] ∧ MomAt K C H v b s ∧ ((∃ n, Kd K H y n ∧ Q (.bl false) H) ∨ ∃ b' s', MomAt K C H y b' s' ∧ Q (.bl (decide (b = b') && decide (s = s'))) H)
theorem ok_mEq {f C : Addr} {fd : FuncData} (F : Fun K "__eq__" "Moments.__eq__" mEq f fd) (T : MomC K C) (gM : mg "Moments" = some (.ref C)) (mi : mg "isinstance" = none) : FnOk P w K mg base (CXl P w) 1 f fd ["self", "other"] (spEq K C) := by
  refine F.okX sc_mEq (fun vs H Q E h => ?_) (fun cdv A outer s H vs Q E hr h => ?_)
  · obtain ⟨v, y, b, s, rfl, _⟩ := h
    rfl
  · obtain ⟨v, y, b, s, rfl, ⟨p, dx, vb, vs, rfl, hp, hb, hs⟩, q⟩ := h
    refine ⟨_, pss_one (ps_ret (pe_and (pe_callB call_isi (by rfl) mi (by decide +kernel) (pa_cons (pv 1) (pa_cons (pe_glob (v := .ref C) rfl gM rfl) pa_nil)))
      (pe_and (pe_cmpR (op_eqD hr.units) (pe_fld (pv 0) rfl) (pe_fld (pv 1) rfl) (nomark _)) (pe_one (pe_cmpR (op_eqD hr.units) (pe_fld (pv 0) rfl) (pe_fld (pv 1) rfl) (nomark _)))))), ?_⟩
    rcases q with ⟨n, hk, q⟩ | ⟨b', s', ⟨p', dx', vb', vs', rfl, hp', hb', hs'⟩, q⟩
    · exact ⟨y, rfl, y, _, _, _, _, rfl, .own C, hk.ty, (T.kb n hk.name).1, _, rfl, iteF q⟩
    · refine ⟨_, rfl, _, _, _, _, _, rfl, .own C, T.ty hp', T.ks, _, rfl, iteT ?_⟩
      refine ⟨_, rfl, p, C, dx, _, _, rfl, hp, T.cl, T.nB, ml_begin _ _, _, rfl, p', C, dx', _, _, rfl, hp', T.cl, T.nB, ml_begin _ _, _, _, hb.dp, hb'.dp, shapedR _, shapedR _, _, rfl, ?_⟩
      rw [eqvRR]
      refine ite2 (fun c => ?_) (fun c => ?_)
      · refine ⟨_, rfl, p, C, dx, _, _, rfl, hp, T.cl, T.nS, ml_step _ _, _, rfl, p', C, dx', _, _, rfl, hp', T.cl, T.nS, ml_step _ _, _, _, hs.dp, hs'.dp, shapedR _, shapedR _, ?_⟩
        rw [eqvRR]
        rw [c, Bool.true_and] at q
        exact q
      · rw [Bool.eq_false_iff.mpr c, Bool.false_and] at q
        exact q
end
end LR
/-! LOrd: ranks of exact numbers by scaled floors; lists in order. Core Lean alone. -/
namespace LR
/-- the whole part of q * 2 ^ (2 * m) -/
def rank (m : Nat) (q : Rat) : Int := (q.num * 2 ^ (2 * m)) / (q.den : Int)
theorem rank_lt {m : Nat} {p q : Rat} (hp : p.den < 2 ^ m) (hq : q.den < 2 ^ m) (h : p < q) : rank m p < rank m q := by
  unfold rank
  have d1 : (0 : Int) < p.den := by have := den_pos p; omega
  have d2 : (0 : Int) < q.den := by have := den_pos q; omega
  have hl := (Rat.lt_iff p q).mp h
  have hD : (p.den : Int) * q.den ≤ 2 ^ (2 * m) := by
    have e : (2 : Int) ^ (2 * m) = ((2 ^ m * 2 ^ m : Nat) : Int) := by
      rw [← Nat.pow_add, show m + m = 2 * m by omega, Int.natCast_pow]
      rfl
    rw [e, ← Int.natCast_mul]
    exact Int.ofNat_le.mpr (Nat.mul_le_mul (Nat.le_of_lt hp) (Nat.le_of_lt hq))
  generalize (2 : Int) ^ (2 * m) = D at hD
  have hD0 : 0 < D := Int.lt_of_lt_of_le (Int.mul_pos d1 d2) hD
  have hx : p.num * D / p.den * p.den ≤ p.num * D := Int.ediv_mul_le _ (Int.ne_of_gt d1)
  generalize p.num * D / (p.den : Int) = x at hx ⊢
  have key : (x + 1) * q.den ≤ q.num * D := by
    refine Int.le_of_mul_le_mul_right (a := (p.den : Int)) ?_ d1
    have e1 : (x + 1) * q.den * p.den = x * p.den * q.den + p.den * q.den := by
      rw [Int.add_mul, Int.add_mul, Int.one_mul, Int.mul_right_comm, Int.mul_comm (q.den : Int) p.den]
    have e2 : x * p.den * q.den ≤ p.num * D * q.den := Int.mul_le_mul_of_nonneg_right hx (Int.le_of_lt d2)
    have e3 : p.num * q.den + 1 ≤ q.num * p.den := hl
    have e4 : (p.num * q.den + 1) * D ≤ q.num * p.den * D := Int.mul_le_mul_of_nonneg_right e3 (Int.le_of_lt hD0)
    rw [Int.add_mul, Int.one_mul] at e4
    have e5 : p.num * D * q.den = p.num * q.den * D := Int.mul_right_comm _ _ _
    have e6 : q.num * D * p.den = q.num * p.den * D := Int.mul_right_comm _ _ _
    omega
  have := (Int.le_ediv_iff_mul_le d2).mpr key
  omega
theorem rank_inj {m : Nat} {p q : Rat} (hp : p.den < 2 ^ m) (hq : q.den < 2 ^ m) (h : rank m p = rank m q) : p = q := by
  by_cases c : p < q
  · have := rank_lt hp hq c
    omega
  · by_cases d : q < p
    · have := rank_lt hq hp d
      omega
    · exact Rat.le_antisymm (Rat.not_lt.mp d) (Rat.not_lt.mp c)
theorem rank_le {m : Nat} {p q : Rat} (hp : p.den < 2 ^ m) (hq : q.den < 2 ^ m) (h : rank m p ≤ rank m q) : p ≤ q := by
  rw [← Rat.not_lt]
  intro c
  have := rank_lt hq hp c
  omega
theorem rank_abs {m b : Nat} {q : Rat} (h : q.num.natAbs < 2 ^ b) : (q.num * 2 ^ (2 * m)).natAbs < 2 ^ (b + 2 * m) := by
  rw [Int.natAbs_mul, Nat.pow_add, Int.natAbs_pow]
  exact Nat.mul_lt_mul_of_pos_right h (Nat.pow_pos (by decide))
theorem perm_map_inv {α β : Type} {f : α → β} : ∀ {l : List β} {m : List α}, l.Perm (m.map f) → ∃ m' : List α, l = m'.map f ∧ m'.Perm m
  | [], m, h => by
    have : m.map f = [] := (List.nil_perm.mp h)
    exact ⟨[], rfl, by rw [List.map_eq_nil_iff.mp this]⟩
  | x :: l, m, h => by
    have hx : x ∈ m.map f := h.mem_iff.mp List.mem_cons_self
    obtain ⟨a, ha, rfl⟩ := List.mem_map.mp hx
    obtain ⟨s, t, rfl⟩ := List.append_of_mem ha
    have h2 : l.Perm ((s ++ t).map f) := by
      rw [List.map_append, List.map_cons] at h
      have h3 := h.trans List.perm_middle
      rw [List.map_append]
      exact h3.cons_inv
    obtain ⟨m', e, p⟩ := perm_map_inv h2
    exact ⟨a :: m', by rw [List.map_cons, e], (p.cons a).trans List.perm_middle.symm⟩
/-- a list of numbers in order, without duplicates, of the members of another -/
def InOrder (qs rs : List Rat) : Prop := rs.Pairwise (· < ·) ∧ ∀ r, r ∈ rs ↔ r ∈ qs
theorem nodup_one {α β : Type} {f : α → β} : ∀ {l : List α}, (l.map f).Nodup → ∀ x ∈ l, ∀ y ∈ l, f x = f y → x = y
  | [], _, _, h, _, _, _ => by cases h
  | a :: l, hn, x, hx, y, hy, e => by
    obtain ⟨h1, h2⟩ := List.nodup_cons.mp hn
    by_cases ex : x = a
    · by_cases ey : y = a
      · rw [ex, ey]
      · have hy' : y ∈ l := (List.mem_cons.mp hy).resolve_left ey
        exact absurd (List.mem_map.mpr ⟨y, hy', by rw [← e, ex]⟩) h1
    · have hx' : x ∈ l := (List.mem_cons.mp hx).resolve_left ex
      by_cases ey : y = a
      · exact absurd (List.mem_map.mpr ⟨x, hx', by rw [e, ey]⟩) h1
      · exact nodup_one h2 x hx' y ((List.mem_cons.mp hy).resolve_left ey) e
end LR
namespace LR
theorem gcd_step {a b : Int} (hb : 0 ≤ b) (hb0 : b ≠ 0) : Nat.gcd b.natAbs (a % b).natAbs = Nat.gcd a.natAbs b.natAbs := by
  have d := Int.emod_add_mul_ediv a b
  refine Nat.dvd_antisymm (Nat.dvd_gcd ?_ (Nat.gcd_dvd_left _ _)) (Nat.dvd_gcd (Nat.gcd_dvd_right _ _) ?_)
  · have h1 : ((Nat.gcd b.natAbs (a % b).natAbs : Nat) : Int) ∣ b := Int.ofNat_dvd_left.mpr (Nat.gcd_dvd_left _ _)
    have h2 : ((Nat.gcd b.natAbs (a % b).natAbs : Nat) : Int) ∣ a % b := Int.ofNat_dvd_left.mpr (Nat.gcd_dvd_right _ _)
    have h3 := Int.dvd_add h2 (Int.dvd_trans h1 (Int.dvd_mul_right b (a / b)))
    rw [d] at h3
    exact Int.ofNat_dvd_left.mp h3
  · have h1 : ((Nat.gcd a.natAbs b.natAbs : Nat) : Int) ∣ b := Int.ofNat_dvd_left.mpr (Nat.gcd_dvd_right _ _)
    have h2 : ((Nat.gcd a.natAbs b.natAbs : Nat) : Int) ∣ a := Int.ofNat_dvd_left.mpr (Nat.gcd_dvd_left _ _)
    have h3 := Int.dvd_sub h2 (Int.dvd_trans h1 (Int.dvd_mul_right b (a / b)))
    rw [show a - b * (a / b) = a % b by omega] at h3
    exact Int.ofNat_dvd_left.mp h3
end LR
set_option Elab.async false
set_option linter.all false
set_option maxRecDepth 100000
set_option maxHeartbeats 4000000
set_option exponentiation.threshold 100000
namespace LR
open PySem PySem.Spec PyProof.Rows L2
theorem sc_law_pool : FnScope ["script"] ["script"] (defScope s_law_pool) := ⟨rfl, rfl, rfl, by decide +kernel, rfl, by decide +kernel, by decide +kernel⟩
theorem sc_law_draw : FnScope ["pool", "many", "found", "cells", "cell", "mixed"] ["pool", "many"] (defScope s_law_draw) := ⟨rfl, rfl, rfl, by decide +kernel, rfl, by decide +kernel, by decide +kernel⟩
theorem sc_law_cut : FnScope ["top", "bottom", "first", "second"] ["top", "bottom"] (defScope s_law_cut) := ⟨rfl, rfl, rfl, by decide +kernel, rfl, by decide +kernel, by decide +kernel⟩
theorem sc_law_sum : FnScope ["one", "other"] ["one", "other"] (defScope s_law_sum) := ⟨rfl, rfl, rfl, by decide +kernel, rfl, by decide +kernel, by decide +kernel⟩
theorem sc_law_number : FnScope ["pool", "size"] ["pool", "size"] (defScope s_law_number) := ⟨rfl, rfl, rfl, by decide +kernel, rfl, by decide +kernel, by decide +kernel⟩
/-- a pool stands at p: its cells, a place in them, what is left of a great one, a count -/
def PoolAt (H : Hp) (p : Addr) : Prop := ∃ (l : Addr) (ns : List Int) (a b c : Int), H p = some (.lst [.ref l, .int a, .int b, .int c]) ∧ H l = some (.lst (ns.map V.int)) ∧ ns.length ≤ 63
theorem pool_ne {H : Hp} {p l : Addr} {ns : List Int} {a b c : Int} (h1 : H p = some (.lst [.ref l, .int a, .int b, .int c])) (h2 : H l = some (.lst (ns.map V.int))) : l ≠ p := by
  intro e
  rw [e, h1] at h2
  have h3 := HO.lst.inj (Option.some.inj h2)
  cases ns with
  | nil => cases h3
  | cons n ns => cases h3
theorem PoolAt.same {H H' : Hp} {p : Addr} (s : Same H H') (h : PoolAt H p) : PoolAt H' p := let ⟨l, ns, a, b, c, h1, h2, h3⟩ := h; ⟨l, ns, a, b, c, s _ _ h1, s _ _ h2, h3⟩
theorem PoolAt.lst {H : Hp} {p : Addr} (h : PoolAt H p) : ∃ xs, H p = some (.lst xs) := let ⟨l, ns, a, b, c, h1, _⟩ := h; ⟨_, h1⟩
/-- behind a draw: only the pool has changed -/
structure Drew (p : Addr) (H H' : Hp) : Prop where
  but : But p H H'
  src : ∀ l r, H p = some (.lst (.ref l :: r)) → ∃ r', H' p = some (.lst (.ref l :: r'))
  pool : PoolAt H' p
theorem Drew.trans {p : Addr} {H H1 H2 : Hp} (a : Drew p H H1) (b : Drew p H1 H2) : Drew p H H2 := ⟨but_trans a.but b.but, fun l r e => let ⟨r', e'⟩ := a.src l r e; b.src l r' e', b.pool⟩
theorem Drew.same {p : Addr} {H H1 H2 : Hp} (a : Drew p H H1) (b : Same H1 H2) : Drew p H H2 := ⟨but_same a.but b, fun l r e => let ⟨r', e'⟩ := a.src l r e; ⟨r', b _ _ e'⟩, a.pool.same b⟩
theorem drew_of {p : Addr} {H H1 H2 : Hp} (a : Same H H1) (b : Drew p H1 H2) : Drew p H H2 := ⟨same_but2 a b.but, fun l r e => b.src l r (a _ _ e), b.pool⟩
section
variable {P : Program} {w : World} {K : PySem.W.Frag} {mg : Str → Option Value} {base : Heap}
theorem mod_in {x m : Int} (hm : 0 < m) : 0 ≤ x.fmod m ∧ x.fmod m < m := by
  rw [Int.fmod_eq_emod_of_nonneg _ (Int.le_of_lt hm)]
  exact ⟨Int.emod_nonneg _ (Int.ne_of_gt hm), Int.emod_lt_of_pos _ hm⟩
/-! ### _law_pool -/
theorem cut_ints (ns : List Int) (lo hi : Option Int) : ∃ ms : List Int, cutV (ns.map V.int) lo hi = ms.map V.int ∧ ms.length ≤ ns.length := by
  refine ⟨(ns.drop (HT.sIx (ns.map V.int).length 0 lo)).take (HT.sIx (ns.map V.int).length (ns.map V.int).length hi - HT.sIx (ns.map V.int).length 0 lo), ?_, ?_⟩
  · unfold cutV
    rw [List.map_take, List.map_drop]
  · rw [List.length_take, List.length_drop]
    omega
def spPool (K : PySem.W.Frag) : Sp := fun vs H Q _ => ∃ (a : Addr) (ns : List Int), vs = [.ref a] ∧ SqL K H a (ns.map V.int) ∧ ns.length ≤ 63 ∧ ∀ p H', Same H H' → PoolAt H' p → Q (.ref p) H'
theorem ok_Pool {f : Addr} {fd : FuncData} (D : DefAt K mg "_law_pool" s_law_pool ["script"] f fd) : FnOk P w K mg base (CXl P w) 1 f fd ["script"] (spPool K) := by
  refine D.F.okX sc_law_pool (fun vs H Q E h => ?_) (fun cdv A outer s H vs Q E hr h => ?_)
  · obtain ⟨a, ns, rfl, _⟩ := h
    rfl
  · obtain ⟨a, ns, rfl, hS, hl, q⟩ := h
    refine ⟨_, pss_one (ps_ret (pe_lst (pa_cons (pe_slice sl_list (pv 0) po_none (po_some pe_int)) (pa_cons pe_int (pa_cons pe_int (pa_cons pe_int pa_nil)))))), ?_⟩
    refine ⟨.ref a, rfl, _, rfl, a, _, rfl, hS, fun l nl => ?_⟩
    obtain ⟨ms, e, hm⟩ := cut_ints ns none (some 63)
    show [V.ref l, V.int 0, V.int 0, V.int 0].length ≤ sizeLine ∧ ∀ p, (upd H l (.lst (cutV (ns.map V.int) none (some 63)))) p = none → Q (.ref p) (upd (upd H l (.lst (cutV (ns.map V.int) none (some 63)))) p (.lst [.ref l, .int 0, .int 0, .int 0]))
    rw [e]
    refine ⟨by show 4 ≤ sizeLine; decide, fun p np => q p _ ((same_new nl).trans (same_new np)) ⟨l, ms, 0, 0, 0, upd_same, ?_, Nat.le_trans hm hl⟩⟩
    rw [upd_ne (fun e => by rw [← e, upd_same] at np; cases np), upd_same]
/-! ### _law_draw -/
theorem p10 (z : Int) : CPow 10 18 := ⟨by decide, by decide, by decide⟩
abbrev datI (i : Int) : PyData := .int i
theorem canIs : ∀ ns : List Int, PyData.canLayAll0 (ns.map datI) = true
  | [] => rfl
  | n :: ns => by
    show (true && PyData.canLayAll0 (ns.map datI)) = true
    rw [canIs ns]
    rfl
theorem depIs : ∀ ns : List Int, PyData.depthAll (ns.map datI) = 0
  | [] => rfl
  | n :: ns => by
    have := depIs ns
    show max 0 (PyData.depthAll (ns.map datI)) = 0
    omega
theorem shapedIs (ns : List Int) : SeqAt.shaped (.list (ns.map datI)) = true := by
  unfold SeqAt.shaped
  rw [show (PyData.list (ns.map datI)).canLay0 = PyData.canLayAll0 (ns.map datI) from rfl, canIs, Bool.true_and, decide_eq_true_eq]
  have := depIs ns
  show PyData.depthAll (ns.map datI) + 1 ≤ 64
  omega
theorem dpIs {H : Hp} : ∀ ns : List Int, DpAll K H (ns.map V.int) (ns.map datI)
  | [] => .nil
  | n :: ns => .cons (.int n) (dpIs ns)
theorem eqvNil : ∀ ns : List Int, PyData.eqv (.list (ns.map datI)) (.list []) = ns.isEmpty
  | [] => rfl
  | _ :: _ => rfl
def spDraw : Sp := fun vs H Q _ => ∃ (p : Addr) (m : Int), vs = [.ref p, .int m] ∧ PoolAt H p ∧ 0 < m ∧ m.natAbs < 2 ^ 200 ∧ ∀ d H', 0 ≤ d → d < m → Drew p H H' → Q (.int d) H'
theorem ok_Draw {f : Addr} {fd : FuncData} (D : DefAt K mg "_law_draw" s_law_draw ["pool", "many"] f fd) (mi : mg "int" = none) (ml : mg "len" = none) : FnOk P w K mg base (CXl P w) 1 f fd ["pool", "many"] spDraw := by
  refine D.F.okX sc_law_draw (fun vs H Q E h => ?_) (fun cdv A outer s H vs Q E hr h => ?_)
  · obtain ⟨p, m, rfl, _⟩ := h
    rfl
  · obtain ⟨p, m, rfl, ⟨l, ns, a, b, c, hp, hl, ln⟩, m0, mb, q⟩ := h
    refine ⟨_, pss_cons (ps_asg (pe_op op_add (pe_ix ix_list (pv 0) pe_int (fun _ _ => rfl)) pe_int) (pg_sub (pv 0) pe_int set_list))
      (pss_cons (ps_if (pt_cmpR op_gt (pe_ix ix_list (pv 0) pe_int (fun _ _ => rfl)) pe_int (nomark _))
        (pss_cons (ps_set (i := 2) sc_law_draw.nd rfl (.inl rfl) (pe_op op_modN (pe_ix ix_list (pv 0) pe_int (fun _ _ => rfl)) (pv 1)))
        (pss_cons (ps_asg (pe_op op_fdivA (pe_ix ix_list (pv 0) pe_int (fun _ _ => rfl)) (pv 1)) (pg_sub (pv 0) pe_int set_list))
        (pss_one (ps_ret (pv 2))))) pss_nil)
      (pss_cons (ps_set (i := 3) sc_law_draw.nd rfl (.inl rfl) (pe_op op_cat (pe_ix ix_list (pv 0) pe_int (fun _ _ => rfl)) (pe_op op_rep (pe_lst (pa_cons pe_int pa_nil)) (pe_callTy call_int1 (by rfl) mi (by decide +kernel) (pa_cons (pe_cmpR (op_eqD hr.units) (pe_ix ix_list (pv 0) pe_int (fun _ _ => rfl)) (pe_lst pa_nil) (nomark _)) pa_nil)))))
      (pss_cons (ps_set (i := 4) sc_law_draw.nd rfl (.inl rfl) (pe_ix ix_list (pv 3) (pe_op op_modN (pe_ix ix_list (pv 0) pe_int (fun _ _ => rfl)) (pe_callB call_len_seq (by rfl) ml PySem.boot_len (pa_cons (pv 3) pa_nil))) (fun _ _ => rfl)))
      (pss_cons (ps_asg (pe_op op_add (pe_ix ix_list (pv 0) pe_int (fun _ _ => rfl)) pe_int) (pg_sub (pv 0) pe_int set_list))
      (pss_cons (ps_if (pt_cmpR op_ge (pv 4) (pe_op op_pow pe_int pe_int) (nomark _))
        (pss_cons (ps_asg (pe_op op_fdivA (pv 4) (pv 1)) (pg_sub (pv 0) pe_int set_list)) (pss_one (ps_ret (pe_op op_modN (pv 4) (pv 1))))) pss_nil)
      (pss_cons (ps_set (i := 5) sc_law_draw.nd rfl (.inl rfl) (pe_op op_modN (pe_op op_add (pv 4) (pe_op op_mul pe_int (pe_ix ix_list (pv 0) pe_int (fun _ _ => rfl)))) pe_int))
      (pss_one (ps_ret (pe_op op_modN (pe_op op_fdivN (pe_op op_modN (pe_op op_mul (pe_op op_pow (pv 5) pe_int) pe_int) pe_int) pe_int) (pv 1)))))))))), ?_⟩
    have lp := pool_ne hp hl
    -- pool[3] = pool[3] + 1
    refine ⟨.ref p, rfl, p, _, 3, _, rfl, rfl, .of hp, atI_nat (j := 3) rfl, c, 1, rfl, rfl, ?_⟩
    refine ⟨.ref p, rfl, p, _, 3, 3, rfl, rfl, hp, rfl, ?_⟩
    have b1 : But p H (upd H p (.lst [.ref l, .int a, .int b, .int (c + 1)])) := but_new
    have h1 : (upd H p (.lst [.ref l, .int a, .int b, .int (c + 1)])) p = some (.lst [.ref l, .int a, .int b, .int (c + 1)]) := upd_same
    show tNext _ _ (upd H p (.lst [.ref l, .int a, .int b, .int (c + 1)]))
    generalize (upd H p (.lst [.ref l, .int a, .int b, .int (c + 1)])) = H1 at b1 h1 ⊢
    have l1 := b1 _ _ lp hl
    refine ⟨.ref p, rfl, p, _, 2, _, rfl, rfl, .of h1, atI_nat (j := 2) rfl, b, 0, rfl, rfl, _, rfl, ite2 (fun _ => ?_) (fun _ => ?_)⟩
    · have md := mod_in (x := b) m0
      refine ⟨.ref p, rfl, p, _, 2, _, rfl, rfl, .of h1, atI_nat (j := 2) rfl, _, rfl, b, m, rfl, rfl, show m ≠ 0 by omega, ?_⟩
      refine ⟨.ref p, rfl, p, _, 2, _, rfl, rfl, .of h1, atI_nat (j := 2) rfl, _, rfl, b, m, rfl, rfl, divA (b := 200) (by omega) mb (by decide) (by decide), ?_⟩
      refine ⟨.ref p, rfl, p, _, 2, 2, rfl, rfl, h1, rfl, ?_⟩
      refine ⟨_, rfl, ?_⟩
      exact q _ _ md.1 md.2 ⟨but_upd b1, (fun l' r e => by rw [hp] at e; cases e; exact ⟨_, upd_same⟩), l, ns, _, _, _, upd_same, by rw [upd_ne lp]; exact l1, ln⟩
    · -- cells
      refine ⟨.ref p, rfl, p, _, 0, _, rfl, rfl, .of h1, atI_nat (j := 0) rfl, ?_⟩
      refine ⟨by show 1 ≤ sizeLine; decide, fun e1 ne1 => ?_⟩
      have s2 : Same H1 (upd H1 e1 (.lst [.int 0])) := same_new ne1
      have he1 : (upd H1 e1 (.lst [.int 0])) e1 = some (.lst [.int 0]) := upd_same
      show tOp _ _ _ _ (upd H1 e1 (.lst [.int 0])) _
      generalize (upd H1 e1 (.lst [.int 0])) = H2 at s2 he1 ⊢
      refine ⟨.ref p, rfl, p, _, 0, _, rfl, rfl, .of (s2 _ _ h1), atI_nat (j := 0) rfl, by show 0 ≤ sizeLine; decide, fun e2 ne2 => ?_⟩
      have s3 : Same H2 (upd H2 e2 (.lst [])) := same_new ne2
      have he2 : (upd H2 e2 (.lst [])) e2 = some (.lst []) := upd_same
      show rEqD _ _ _ (upd H2 e2 (.lst [])) _
      generalize (upd H2 e2 (.lst [])) = H3 at s3 he2 ⊢
      have l3 := (s2.trans s3) _ _ l1
      refine ⟨_, _, .lst (.of l3) (dpIs ns), .lst (.of he2) .nil, shapedIs ns, by decide, ?_⟩
      rw [eqvNil]
      refine .inr ⟨_, rfl, e1, _, [.int 0], rfl, rfl, s3 _ _ he1, by cases ns.isEmpty <;> decide, by cases ns.isEmpty <;> decide, by cases ns.isEmpty <;> decide, fun e3 ne3 => ?_⟩
      obtain ⟨ms, hms, hml, hm0⟩ : ∃ ms : List Int, ns.map V.int ++ (List.replicate (if ns.isEmpty = true then (1 : Int) else 0).toNat [V.int 0]).flatten = ms.map V.int ∧ ms.length ≤ 64 ∧ 0 < ms.length := by
        cases ns with
        | nil => exact ⟨[0], rfl, by decide, by decide⟩
        | cons n ns => exact ⟨n :: ns, by simp, by simp at ln ⊢; omega, by simp⟩
      have s4 : Same H3 (upd H3 e3 (.lst (List.replicate (if ns.isEmpty = true then (1 : Int) else 0).toNat [V.int 0]).flatten)) := same_new ne3
      have he3 : (upd H3 e3 (.lst (List.replicate (if ns.isEmpty = true then (1 : Int) else 0).toNat [V.int 0]).flatten)) e3 = some (.lst (List.replicate (if ns.isEmpty = true then (1 : Int) else 0).toNat [V.int 0]).flatten) := upd_same
      have hle : (List.replicate (if ns.isEmpty = true then (1 : Int) else 0).toNat [V.int 0]).flatten.length ≤ 1 := by cases ns.isEmpty <;> decide
      show rCat _ _ (upd H3 e3 (.lst (List.replicate (if ns.isEmpty = true then (1 : Int) else 0).toNat [V.int 0]).flatten)) _
      generalize (upd H3 e3 (.lst (List.replicate (if ns.isEmpty = true then (1 : Int) else 0).toNat [V.int 0]).flatten)) = H4 at s4 he3 ⊢
      generalize (List.replicate (if ns.isEmpty = true then (1 : Int) else 0).toNat [V.int 0]).flatten = zz at he3 hms hle
      refine ⟨l, e3, _, zz, rfl, rfl, s4 _ _ l3, he3, Nat.le_trans (show (ns.map V.int).length + zz.length ≤ 1000 by rw [List.length_map]; omega) (Nat.le_of_lt (small1000 (Nat.le_refl _))), fun e4 ne4 => ?_⟩
      rw [hms]
      have s5 : Same H4 (upd H4 e4 (.lst (ms.map V.int))) := same_new ne4
      have he4 : (upd H4 e4 (.lst (ms.map V.int))) e4 = some (.lst (ms.map V.int)) := upd_same
      show tNext _ _ (upd H4 e4 (.lst (ms.map V.int)))
      generalize (upd H4 e4 (.lst (ms.map V.int))) = H5 at s5 he4 ⊢
      have s15 := (((s2.trans s3).trans s4).trans s5)
      have h5 := s15 _ _ h1
      have l5 := s15 _ _ l1
      have b5 : But p H H5 := but_same b1 s15
      -- cell
      have ml0 : (0 : Int) < (((ms.map V.int).length : Nat) : Int) := by rw [List.length_map]; omega
      have mm := mod_in (x := a) ml0
      obtain ⟨z, hz⟩ : ∃ z : Int, (ms.map V.int)[(a.fmod (((ms.map V.int).length : Nat) : Int)).toNat]? = some (.int z) := by
        have hi : (a.fmod (((ms.map V.int).length : Nat) : Int)).toNat < ms.length := by rw [List.length_map] at mm ⊢; omega
        exact ⟨ms[(a.fmod (((ms.map V.int).length : Nat) : Int)).toNat]'hi, by rw [List.getElem?_map, List.getElem?_eq_getElem hi]; rfl⟩
      refine ⟨.ref e4, rfl, .ref p, rfl, p, _, 1, _, rfl, rfl, .of h5, atI_nat (j := 1) rfl, .ref e4, rfl, e4, _, rfl, .inl (.of he4), a, _, rfl, rfl, Int.ne_of_gt ml0, e4, _, _, .int z, rfl, rfl, .of he4, at_of (j := (a.fmod (((ms.map V.int).length : Nat) : Int)).toNat) (by omega) hz, ?_⟩
      -- pool[1] = pool[1] + 1
      refine ⟨.ref p, rfl, p, _, 1, _, rfl, rfl, .of h5, atI_nat (j := 1) rfl, a, 1, rfl, rfl, ?_⟩
      refine ⟨.ref p, rfl, p, _, 1, 1, rfl, rfl, h5, rfl, ?_⟩
      have b6 : But p H5 (upd H5 p (.lst [.ref l, .int (a + 1), .int b, .int (c + 1)])) := but_new
      have h6 : (upd H5 p (.lst [.ref l, .int (a + 1), .int b, .int (c + 1)])) p = some (.lst [.ref l, .int (a + 1), .int b, .int (c + 1)]) := upd_same
      show tNext _ _ (upd H5 p (.lst [.ref l, .int (a + 1), .int b, .int (c + 1)]))
      generalize (upd H5 p (.lst [.ref l, .int (a + 1), .int b, .int (c + 1)])) = H6 at b6 h6 ⊢
      have l6 := b6 _ _ lp l5
      have b06 := but_trans b5 b6
      refine ⟨_, rfl, 10, 18, rfl, rfl, p10 0, z, _, rfl, rfl, _, rfl, ite2 (fun _ => ?_) (fun _ => ?_)⟩
      · have md := mod_in (x := z) m0
        refine ⟨_, rfl, _, rfl, z, m, rfl, rfl, divA (b := 200) (by omega) mb (by decide) (by decide), ?_⟩
        refine ⟨.ref p, rfl, p, _, 2, 2, rfl, rfl, h6, rfl, ?_⟩
        refine ⟨_, rfl, _, rfl, z, m, rfl, rfl, show m ≠ 0 by omega, ?_⟩
        exact q _ _ md.1 md.2 ⟨but_upd b06, (fun l' r e => by rw [hp] at e; cases e; exact ⟨_, upd_same⟩), l, ns, _, _, _, upd_same, by rw [upd_ne lp]; exact l6, ln⟩
      · refine ⟨_, rfl, _, rfl, p, _, 3, _, rfl, rfl, .of h6, atI_nat (j := 3) rfl, 7919, _, rfl, rfl, .inl ⟨by decide, by decide⟩, z, _, rfl, rfl, _, 2147483647, rfl, rfl, show (2147483647 : Int) ≠ 0 by decide, ?_⟩
        have m2 := mod_in (x := z + 7919 * (c + 1)) (m := 2147483647) (by decide)
        refine ⟨_, rfl, _, 5, rfl, rfl, ⟨by decide, by decide, by omega⟩, _, 48271, rfl, rfl, .inr ⟨by decide, by decide⟩, _, 2147483629, rfl, rfl, show (2147483629 : Int) ≠ 0 by decide, _, 16, rfl, rfl, ⟨by decide, by decide⟩, _, rfl, _, m, rfl, rfl, show m ≠ 0 by omega, ?_⟩
        have md := mod_in (x := ((((z + 7919 * (c + 1)).fmod 2147483647) ^ (5 : Int).toNat * 48271).fmod 2147483629).fdiv 16) m0
        exact q _ _ md.1 md.2 ⟨b06, (fun l' r e => by rw [hp] at e; cases e; exact ⟨_, h6⟩), l, ns, _, _, _, h6, l6, ln⟩
/-! ### _law_cut -/
def spCut (K : PySem.W.Frag) : Sp := fun vs H Q _ => ∃ n d : Int, vs = [.int n, .int d] ∧ 0 < d ∧ d.natAbs < 2 ^ 8000 ∧ ∀ v H', Same H H' → Rn K H' v (Rat.divInt n d) → Q v H'
def szOf4 : L2.St → Nat
  | [_, _, _, some (.int b)] => b.natAbs
  | _ => 0
theorem ok_Cut {f : Addr} {fd : FuncData} (D : DefAt K mg "_law_cut" s_law_cut ["top", "bottom"] f fd) (ma : mg "abs" = none) : FnOk P w K mg base (CXl P w) 1 f fd ["top", "bottom"] (spCut K) := by
  refine D.F.okX sc_law_cut (fun vs H Q E h => ?_) (fun cdv A outer s H vs Q E hr h => ?_)
  · obtain ⟨n, d, rfl, _⟩ := h
    rfl
  · obtain ⟨n, d, rfl, hd, hdd, q⟩ := h
    refine ⟨_, pss_cons (ps_par (i := 2) (j := 3) rfl sc_law_cut.nd rfl rfl (by decide) rfl rfl (pa_cons (pe_callB call_abs (by rfl) ma (by decide +kernel) (pa_cons (pv 0) pa_nil)) (pa_cons (pv 1) pa_nil)) (by rfl))
      (pss_cons (ps_while (passes_of rfl) (pt_cmpR op_gt (pv 3) pe_int (nomark _)) (pss_one (ps_par (i := 2) (j := 3) rfl sc_law_cut.nd rfl rfl (by decide) rfl rfl (pa_cons (pv 3) (pa_cons (pe_op op_modN (pv 2) (pv 3)) pa_nil)) (by rfl))))
      (pss_one (ps_ret (pe_tup (pa_cons (pe_op op_fdivA (pv 0) (pv 2)) (pa_cons (pe_op op_fdivA (pv 1) (pv 2)) pa_nil)))))), ?_⟩
    refine ⟨_, rfl, n, rfl, _, rfl, _, _, rfl, ?_⟩
    have hd0 : d ≠ 0 := by omega
    have g0 := gcd_pos (n := n) hd0
    have gl := Nat.gcd_le_right n.natAbs (Int.natAbs_pos.mpr hd0)
    refine while_by (fun σ H' => H' = H ∧ ∃ a b : Int, σ = [some (.int n), some (.int d), some (.int a), some (.int b)] ∧ 0 ≤ a ∧ 0 ≤ b ∧ Nat.gcd a.natAbs b.natAbs = Nat.gcd n.natAbs d.natAbs) (fun σ _ => szOf4 σ) ⟨rfl, _, d, rfl, ?_, by omega, ?_⟩ (fun σ H' hP => ?_) (fun σ H' Q Q' f hq => ?_)
    · split <;> omega
    · congr 1
      split <;> omega
    · obtain ⟨rfl, a, b, rfl, a0, b0, hg⟩ := hP
      refine ⟨_, rfl, _, _, rfl, rfl, _, rfl, ?_⟩
      by_cases e : 0 < b
      · refine ite2 (fun _ => ?_) (fun c => absurd (decide_eq_true e) c)
        have em : a.fmod b = a % b := Int.fmod_eq_emod_of_nonneg _ b0
        have m0 := Int.emod_nonneg a (Int.ne_of_gt e)
        have m1 := Int.emod_lt_of_pos a e
        refine ⟨_, rfl, _, rfl, _, rfl, a, b, rfl, rfl, Int.ne_of_gt e, _, _, rfl, ⟨rfl, b, a.fmod b, rfl, b0, by omega, ?_⟩, ?_⟩
        · rw [em, gcd_step b0 (Int.ne_of_gt e), hg]
        · show (a.fmod b).natAbs < b.natAbs
          omega
      · refine ite2 (fun c => absurd (of_decide_eq_true c) e) (fun _ => ?_)
        have eb : b = 0 := by omega
        subst eb
        have ea : a = ((Nat.gcd n.natAbs d.natAbs : Nat) : Int) := by
          rw [← hg]
          simp
          omega
        have e1 := sdiv_num (n := n) hd0
        have e2 := sdiv_den (n := n) hd0
        rw [sdiv_pos hd, ← ea] at e1 e2
        have c : ∀ i, CDivA i a := fun i => divA (b := 8000) (by omega) (by omega) (by decide) (by decide)
        refine ⟨_, rfl, _, rfl, n, a, rfl, rfl, c n, _, rfl, _, rfl, d, a, rfl, rfl, c d, by show 2 ≤ sizeLine; decide, fun p np => ?_⟩
        show Q (.ref p) (upd H' p (.tup [.int (n.fdiv a), .int (d.fdiv a)]))
        rw [e1, e2]
        exact q _ _ (same_new np) Rn.mk
    · obtain ⟨v, hv, i, j, hi, hj, k, hk, hq⟩ := hq
      exact ⟨v, hv, i, j, hi, hj, k, hk, f _ _ hq⟩
/-! ### _law_sum, _law_is_before -/
def spSum (K : PySem.W.Frag) : Sp := fun vs H Q _ => ∃ (x y : V) (p q : Rat), vs = [x, y] ∧ Rn K H x p ∧ Rn K H y q ∧ Sz 3900 p ∧ Sz 3900 q ∧ ∀ v H', Same H H' → Rn K H' v (p + q) → Q v H'
theorem ok_Sum {f fC : Addr} {fd dC : FuncData} (D : DefAt K mg "_law_sum" s_law_sum ["one", "other"] f fd) (DC : DefAt K mg "_law_cut" s_law_cut ["top", "bottom"] fC dC) (GC : FnOk P w K mg base (CXl P w) 1 fC dC ["top", "bottom"] (spCut K)) : FnOk P w K mg base (CXl P w) 2 f fd ["one", "other"] (spSum K) := by
  refine D.F.okX sc_law_sum (fun vs H Q E h => ?_) (fun cdv A outer s H vs Q E hr h => ?_)
  · obtain ⟨x, y, p, q, rfl, _⟩ := h
    rfl
  · obtain ⟨x, y, p, q, rfl, ⟨a, rfl, ha⟩, ⟨b, rfl, hb⟩, hp, hq, k⟩ := h
    refine ⟨_, pss_one (ps_ret (pe_call GC hr (by rfl) DC.g DC.F.kp DC.b .nil passL (pa_cons (pe_op op_add (pe_op op_mulW (pe_ix (r := rIxT K) ix_tup (pv 0) pe_int (fun _ _ => rfl)) (pe_ix (r := rIxT K) ix_tup (pv 1) pe_int (fun _ _ => rfl))) (pe_op op_mulW (pe_ix (r := rIxT K) ix_tup (pv 1) pe_int (fun _ _ => rfl)) (pe_ix (r := rIxT K) ix_tup (pv 0) pe_int (fun _ _ => rfl))))
      (pa_cons (pe_op op_mulW (pe_ix (r := rIxT K) ix_tup (pv 0) pe_int (fun _ _ => rfl)) (pe_ix (r := rIxT K) ix_tup (pv 1) pe_int (fun _ _ => rfl))) pa_nil)))), ?_⟩
    refine ⟨_, rfl, a, _, 0, _, rfl, rfl, ha, atI_nat (j := 0) rfl, _, rfl, b, _, 1, _, rfl, rfl, hb, atI_nat (j := 1) rfl, _, _, rfl, rfl, wm hp.1 hq.2, ?_⟩
    refine ⟨_, rfl, b, _, 0, _, rfl, rfl, hb, atI_nat (j := 0) rfl, _, rfl, a, _, 1, _, rfl, rfl, ha, atI_nat (j := 1) rfl, _, _, rfl, rfl, wm hq.1 hp.2, _, _, rfl, rfl, ?_⟩
    refine ⟨_, rfl, a, _, 1, _, rfl, rfl, ha, atI_nat (j := 1) rfl, _, rfl, b, _, 1, _, rfl, rfl, hb, atI_nat (j := 1) rfl, _, _, rfl, rfl, wm hp.2 hq.2, ?_⟩
    refine ⟨_, _, rfl, den_pos2 p q, Nat.lt_trans (szM hp.2 hq.2) p78, fun v H' s' r => ?_⟩
    rw [← add_as p q] at r
    exact k v H' s' r
/-! ### _law_number -/
def spNum (K : PySem.W.Frag) : Sp := fun vs H Q _ => ∃ (p : Addr) (m : Int), vs = [.ref p, .int m] ∧ PoolAt H p ∧ 0 < m ∧ m.natAbs < 2 ^ 200 ∧ ∀ v q H', 0 ≤ q → Sz 200 q → Rn K H' v q → Drew p H H' → Q v H'
theorem divInt_nonneg {a b : Int} (ha : 0 ≤ a) (hb : 0 < b) : 0 ≤ Rat.divInt a b := by
  rw [← Rat.num_nonneg, Rat.num_divInt, Int.sign_eq_one_of_pos hb, Int.one_mul]
  exact Int.ediv_nonneg ha (Int.natCast_nonneg _)
theorem ok_Num {f fD fC : Addr} {fd dD dC : FuncData} (D : DefAt K mg "_law_number" s_law_number ["pool", "size"] f fd) (DD : DefAt K mg "_law_draw" s_law_draw ["pool", "many"] fD dD) (DC : DefAt K mg "_law_cut" s_law_cut ["top", "bottom"] fC dC)
    (GD : FnOk P w K mg base (CXl P w) 1 fD dD ["pool", "many"] spDraw) (GC : FnOk P w K mg base (CXl P w) 1 fC dC ["top", "bottom"] (spCut K)) : FnOk P w K mg base (CXl P w) 2 f fd ["pool", "size"] (spNum K) := by
  refine D.F.okX sc_law_number (fun vs H Q E h => ?_) (fun cdv A outer s H vs Q E hr h => ?_)
  · obtain ⟨p, m, rfl, _⟩ := h
    rfl
  · obtain ⟨p, m, rfl, hp, m0, mb, q⟩ := h
    refine ⟨_, pss_one (ps_ret (pe_call GC hr (by rfl) DC.g DC.F.kp DC.b .nil passL (pa_cons (pe_call GD hr (by rfl) DD.g DD.F.kp DD.b .nil passL (pa_cons (pv 0) (pa_cons (pv 1) pa_nil))) (pa_cons (pe_op op_add pe_int (pe_call GD hr (by rfl) DD.g DD.F.kp DD.b .nil passL (pa_cons (pv 0) (pa_cons pe_int pa_nil)))) pa_nil)))), ?_⟩
    refine ⟨_, rfl, _, rfl, p, m, rfl, hp, m0, mb, fun d H1 d0 d1 dr1 => ?_⟩
    refine ⟨_, rfl, p, 6, rfl, dr1.pool, by decide, by decide, fun e H2 e0 e1 dr2 => ?_⟩
    have pe : (0 : Int) < 1 + e := by omega
    refine ⟨1, e, rfl, rfl, d, 1 + e, rfl, pe, ?_, fun v H3 s3 r3 => ?_⟩
    · exact Nat.lt_of_lt_of_le (show (1 + e).natAbs < 2 ^ 10 by omega) (Nat.pow_le_pow_right (by decide) (by decide))
    · refine q v _ H3 (divInt_nonneg d0 pe) (sz_divInt (by omega) ?_ ?_) r3 ((dr1.trans dr2).same s3)
      · omega
      · exact Nat.lt_of_lt_of_le (show (1 + e).natAbs < 2 ^ 10 by omega) (Nat.pow_le_pow_right (by decide) (by decide))
end
end LR
set_option linter.all false
/-! common places of two progressions: plain mathematics -/
namespace LR
structure CI (B S B' S' X : Int) : Prop where
  l : B ≤ X
  l' : B' ≤ X
  d : S ∣ X - B
  d' : S' ∣ X - B'
def FirstI (B S B' S' F : Int) : Prop := CI B S B' S' F ∧ ∀ X, CI B S B' S' X → F ≤ X
structure StepI (S S' T : Int) : Prop where
  pos : 0 < T
  d : S ∣ T
  d' : S' ∣ T
  dv : ∀ y, S ∣ y → S' ∣ y → T ∣ y
theorem dvd_diff {S a b c : Int} (h1 : S ∣ a - c) (h2 : S ∣ b - c) : S ∣ a - b := by
  have := Int.dvd_sub h1 h2
  rwa [show a - c - (b - c) = a - b by omega] at this
theorem first_of {B S B' S' T F : Int} (t : StepI S S' T) (c : CI B S B' S' F) (h : F < B + T ∨ F < B' + T) : FirstI B S B' S' F := by
  refine ⟨c, fun X x => ?_⟩
  apply Int.not_lt.mp
  intro lt
  have h1 := t.dv (F - X) (dvd_diff c.d x.d) (dvd_diff c.d' x.d')
  have h2 := Int.le_of_dvd (by omega) h1
  have := x.l
  have := x.l'
  omega
theorem step_lcm {S S' : Int} (h : 0 < S) (h' : 0 < S') : StepI S S' ((Nat.lcm S.natAbs S'.natAbs : Nat) : Int) := by
  refine ⟨?_, ?_, ?_, fun y a b => ?_⟩
  · have := Nat.lcm_pos (m := S.natAbs) (n := S'.natAbs) (by omega) (by omega)
    omega
  · exact Int.natAbs_dvd_natAbs.mp (by rw [Int.natAbs_natCast]; exact Nat.dvd_lcm_left _ _)
  · exact Int.natAbs_dvd_natAbs.mp (by rw [Int.natAbs_natCast]; exact Nat.dvd_lcm_right _ _)
  · exact Int.natAbs_dvd_natAbs.mp (by rw [Int.natAbs_natCast]; exact Nat.lcm_dvd (Int.natAbs_dvd_natAbs.mpr a) (Int.natAbs_dvd_natAbs.mpr b))
theorem step_le {S S' T : Int} (h : 0 < S) (h' : 0 < S') (t : StepI S S' T) : T ≤ S * S' :=
  Int.le_of_dvd (Int.mul_pos h h') (t.dv _ (Int.dvd_mul_right _ _) (Int.dvd_mul_left _ _))
theorem step_uniq {S S' T T' : Int} (t : StepI S S' T) (t' : StepI S S' T') : T = T' :=
  Int.le_antisymm (Int.le_of_dvd t'.pos (t.dv _ t'.d t'.d')) (Int.le_of_dvd t.pos (t'.dv _ t.d t.d'))
/-- none where the divisor of the steps doesn't divide the difference -/
theorem none_of {B S B' S' g : Int} (h1 : g ∣ S) (h2 : g ∣ S') (h : ¬ g ∣ B' - B) : ¬ ∃ X, CI B S B' S' X := by
  rintro ⟨X, c⟩
  exact h (by
    have := Int.dvd_sub (Int.dvd_trans h1 c.d) (Int.dvd_trans h2 c.d')
    rwa [show X - B - (X - B') = B' - B by omega] at this)
/-- the step of the common places, from the inverse -/
theorem step_of {g a p i : Int} (g0 : 0 < g) (a0 : 0 < a) (p0 : 0 < p) (hi : p ∣ i * a - 1) : StepI (g * a) (g * p) (g * a * p) := by
  refine ⟨Int.mul_pos (Int.mul_pos g0 a0) p0, Int.dvd_mul_right _ _, ?_, fun y h1 h2 => ?_⟩
  · rw [Int.mul_right_comm]
    exact Int.dvd_mul_right _ _
  · obtain ⟨k, rfl⟩ := h1
    obtain ⟨l, e⟩ := h2
    have e1 : a * k = p * l := Int.eq_of_mul_eq_mul_left (Int.ne_of_gt g0) (by rw [← Int.mul_assoc, e, Int.mul_assoc])
    obtain ⟨j, ej⟩ := hi
    have e2 : k = p * (i * l - j * k) := by
      have : i * (a * k) = i * (p * l) := by rw [e1]
      have h3 : (i * a - 1) * k = p * j * k := by rw [ej]
      grind
    rw [e2, ← Int.mul_assoc]
    exact Int.dvd_mul_right _ _
/-- the first one: from the inverse -/
theorem solves {B B' g a p i d : Int} (g0 : 0 < g) (p0 : 0 < p) (hi : p ∣ i * a - 1) (hd : B' - B = g * d) : g * p ∣ B + (d * i).fmod p * (g * a) - B' := by
  obtain ⟨j, ej⟩ := hi
  have e : (d * i).fmod p = d * i - p * (d * i).fdiv p := by
    have := Int.mul_fdiv_add_fmod (d * i) p
    omega
  rw [e]
  refine ⟨d * j - (d * i).fdiv p * a, ?_⟩
  generalize (d * i).fdiv p = z
  have h3 : d * (i * a - 1) = d * (p * j) := by rw [ej]
  grind
/-! ### the same in ratios -/
def Mu (x s : Rat) : Prop := ∃ k : Int, x = (k : Rat) * s
def CR (b s b' s' x : Rat) : Prop := b ≤ x ∧ b' ≤ x ∧ Mu (x - b) s ∧ Mu (x - b') s'
def FirstR (b s b' s' f : Rat) : Prop := CR b s b' s' f ∧ ∀ x, CR b s b' s' x → f ≤ x
structure StepR (s s' t : Rat) : Prop where
  pos : 0 < t
  d : Mu t s
  d' : Mu t s'
  dv : ∀ y, Mu y s → Mu y s' → Mu y t
theorem first_uniq {b s b' s' f g : Rat} (h : FirstR b s b' s' f) (k : FirstR b s b' s' g) : f = g := Rat.le_antisymm (h.2 _ k.1) (k.2 _ h.1)
theorem CR.swap {b s b' s' x : Rat} (h : CR b s b' s' x) : CR b' s' b s x := ⟨h.2.1, h.1, h.2.2.2, h.2.2.1⟩
theorem FirstR.swap {b s b' s' f : Rat} (h : FirstR b s b' s' f) : FirstR b' s' b s f := ⟨h.1.swap, fun x c => h.2 x c.swap⟩
theorem StepR.swap {s s' t : Rat} (h : StepR s s' t) : StepR s' s t := ⟨h.pos, h.d', h.d, fun y a b => h.dv y b a⟩
theorem int_lt {a b : Int} (h : (a : Rat) < (b : Rat)) : a < b := Rat.intCast_lt_intCast.mp h
theorem int_le {a b : Int} (h : (a : Rat) ≤ (b : Rat)) : a ≤ b := Rat.intCast_le_intCast.mp h
theorem stepR_uniq {s s' t t' : Rat} (h : StepR s s' t) (k : StepR s s' t') : t = t' := by
  obtain ⟨m, em⟩ := h.dv _ k.d k.d'
  obtain ⟨n, en⟩ := k.dv _ h.d h.d'
  have key : ∀ {x y : Rat} {z : Int}, 0 < x → 0 < y → x = (z : Rat) * y → y ≤ x := by
    intro x y z hx hy e
    have z1 : 0 < z := by
      apply Int.not_le.mp
      intro c
      have c2 : ((z : Int) : Rat) ≤ ((0 : Int) : Rat) := Rat.intCast_le_intCast.mpr c
      have c3 : (z : Rat) * y ≤ ((0 : Int) : Rat) * y := Rat.mul_le_mul_of_nonneg_right c2 (Rat.le_of_lt hy)
      rw [← e, show (((0 : Int) : Rat)) = 0 from rfl, Rat.zero_mul] at c3
      exact absurd hx (Rat.not_lt.mpr c3)
    have c2 : ((1 : Int) : Rat) ≤ (z : Rat) := Rat.intCast_le_intCast.mpr (by omega)
    have c3 := Rat.mul_le_mul_of_nonneg_right c2 (Rat.le_of_lt hy)
    rw [show (((1 : Int) : Rat)) = 1 from rfl, Rat.one_mul, ← e] at c3
    exact c3
  exact Rat.le_antisymm (key k.pos h.pos em) (key h.pos k.pos en)
/-- b in units of 1/u -/
def Un (u : Int) (b : Rat) (B : Int) : Prop := b * (u : Rat) = (B : Rat)
theorem un_div {u B : Int} (h : 0 < u) : Un u (Rat.divInt B u) B := by
  unfold Un
  rw [Rat.divInt_eq_div]
  have : ((u : Int) : Rat) ≠ 0 := fun e => by
    have := Rat.intCast_inj.mp (show ((u : Int) : Rat) = ((0 : Int) : Rat) from e)
    omega
  grind
theorem un_eq {u B : Int} {b : Rat} (h : 0 < u) (e : Un u b B) : b = Rat.divInt B u := by
  have h2 : (0 : Rat) < (u : Rat) := Rat.intCast_lt_intCast.mpr h
  have e2 := un_div (B := B) h
  unfold Un at e e2
  rw [← e] at e2
  have h3 : (u : Rat) ≠ 0 := (Rat.ne_of_lt h2).symm
  have := congrArg (· / (u : Rat)) e2
  grind
section
variable {u B S B' S' : Int} {b s b' s' : Rat} (h0 : 0 < u) (hb : Un u b B) (hs : Un u s S) (hb' : Un u b' B') (hs' : Un u s' S')
include h0
theorem un_le {x y : Rat} {X Y : Int} (hx : Un u x X) (hy : Un u y Y) : x ≤ y ↔ X ≤ Y := by
  have h2 : (0 : Rat) < (u : Rat) := Rat.intCast_lt_intCast.mpr h0
  unfold Un at hx hy
  constructor
  · intro h
    have := Rat.mul_le_mul_of_nonneg_right h (Rat.le_of_lt h2)
    rw [hx, hy] at this
    exact int_le this
  · intro h
    have : (X : Rat) ≤ (Y : Rat) := Rat.intCast_le_intCast.mpr h
    rw [← hx, ← hy] at this
    exact Rat.le_of_mul_le_mul_right this h2
theorem un_mu {x y s : Rat} {X Y S : Int} (hx : Un u x X) (hy : Un u y Y) (hs : Un u s S) : Mu (x - y) s ↔ S ∣ X - Y := by
  have h2 : (0 : Rat) < (u : Rat) := Rat.intCast_lt_intCast.mpr h0
  unfold Un at hx hy hs
  constructor
  · rintro ⟨k, e⟩
    refine ⟨k, Rat.intCast_inj.mp ?_⟩
    rw [Rat.intCast_sub, Rat.intCast_mul, ← hx, ← hy, ← hs]
    grind
  · rintro ⟨k, e⟩
    refine ⟨k, ?_⟩
    have e2 := Rat.intCast_inj.mpr e
    rw [Rat.intCast_sub, Rat.intCast_mul, ← hx, ← hy, ← hs] at e2
    have h3 : (u : Rat) ≠ 0 := (Rat.ne_of_lt h2).symm
    have : (x - y - (k : Rat) * s) * (u : Rat) = 0 := by grind
    rcases Rat.mul_eq_zero.mp this with e | e
    · grind
    · exact absurd e h3
theorem un_ex {x b : Rat} {B : Int} {k : Int} {s : Rat} {S : Int} (hb : Un u b B) (hs : Un u s S) (e : x - b = (k : Rat) * s) : Un u x (B + k * S) := by
  unfold Un at *
  rw [Rat.intCast_add, Rat.intCast_mul, ← hb, ← hs]
  grind
include hb hs hb' hs'
theorem cr_iff {x : Rat} : CR b s b' s' x ↔ ∃ X, Un u x X ∧ CI B S B' S' X := by
  constructor
  · rintro ⟨h1, h2, ⟨k, e⟩, h4⟩
    have hx := un_ex h0 hb hs e
    exact ⟨_, hx, (un_le h0 hb hx).mp h1, (un_le h0 hb' hx).mp h2, (un_mu h0 hx hb hs).mp ⟨k, e⟩, (un_mu h0 hx hb' hs').mp h4⟩
  · rintro ⟨X, hx, c⟩
    exact ⟨(un_le h0 hb hx).mpr c.l, (un_le h0 hb' hx).mpr c.l', (un_mu h0 hx hb hs).mpr c.d, (un_mu h0 hx hb' hs').mpr c.d'⟩
theorem none_iff (h : ¬ ∃ X, CI B S B' S' X) : ¬ ∃ x, CR b s b' s' x := fun ⟨_, c⟩ => let ⟨X, _, z⟩ := (cr_iff h0 hb hs hb' hs').mp c; h ⟨X, z⟩
theorem firstR_of {F : Int} {f : Rat} (hf : Un u f F) (h : FirstI B S B' S' F) : FirstR b s b' s' f := by
  refine ⟨(cr_iff h0 hb hs hb' hs').mpr ⟨F, hf, h.1⟩, fun x c => ?_⟩
  obtain ⟨X, hx, z⟩ := (cr_iff h0 hb hs hb' hs').mp c
  exact (un_le h0 hf hx).mpr (h.2 X z)
omit hb hb'
theorem stepR_of {T : Int} {t : Rat} (ht : Un u t T) (h : StepI S S' T) : StepR s s' t := by
  have z0 : Un u 0 0 := by unfold Un; rw [Rat.zero_mul]; rfl
  have sub0 : ∀ x : Rat, x - 0 = x := fun x => by grind
  have mu : ∀ {x s : Rat} {X S : Int}, Un u x X → Un u s S → (Mu x s ↔ S ∣ X) := fun {x s X S} hx hs => by
    have := un_mu h0 hx z0 hs
    rw [sub0, Int.sub_zero] at this
    exact this
  refine ⟨?_, (mu ht hs).mpr h.d, (mu ht hs').mpr h.d', fun y h1 h2 => ?_⟩
  · apply Rat.not_le.mp
    intro c
    have := (un_le h0 ht z0).mp c
    have := h.pos
    omega
  · obtain ⟨k, e⟩ := h1
    have hy := un_ex (b := 0) (B := 0) (x := y) h0 z0 hs (by rw [sub0]; exact e)
    exact (mu hy ht).mpr (h.dv _ ((mu hy hs).mp ⟨k, e⟩) ((mu hy hs').mp h2))
end
/-! ### the list of places that is gone through -/
theorem seen {B S B' S' : Int} {n : Nat} (h : 0 < S) (h' : 0 < S') (hn : (n : Int) = 2 * S * S') {m : Int} (hm : m = max B B') {ys : List Int} (hy : ys = ((List.range n).map fun i : Nat => m + (i : Int)).filter fun k => decide (S ∣ k - B) && decide (S' ∣ k - B')) :
    (ys = [] ∧ ¬ ∃ X, CI B S B' S' X) ∨ ∃ f g r, ys = f :: g :: r ∧ FirstI B S B' S' f ∧ StepI S S' (g - f) := by
  have t := step_lcm h h'
  have tl := step_le h h' t
  have t0 := t.pos
  generalize ((Nat.lcm S.natAbs S'.natAbs : Nat) : Int) = T at t tl t0
  have two : 2 * S * S' = S * S' + S * S' := by rw [Int.mul_assoc]; omega
  have mem : ∀ x, x ∈ ys ↔ (m ≤ x ∧ x < m + n) ∧ S ∣ x - B ∧ S' ∣ x - B' := by
    intro x
    rw [hy, List.mem_filter, List.mem_map, Bool.and_eq_true, decide_eq_true_eq, decide_eq_true_eq]
    refine ⟨fun ⟨⟨i, hi, e⟩, z⟩ => ⟨?_, z⟩, fun ⟨⟨a, b⟩, z⟩ => ⟨⟨(x - m).toNat, List.mem_range.mpr (by omega), by omega⟩, z⟩⟩
    have := List.mem_range.mp hi
    omega
  have ci : ∀ x, x ∈ ys → CI B S B' S' x := fun x hx => by
    obtain ⟨⟨a, _⟩, b, c⟩ := (mem x).mp hx
    exact ⟨by omega, by omega, b, c⟩
  have pw : ys.Pairwise (· < ·) := by
    rw [hy]
    refine List.Pairwise.filter _ (List.pairwise_map.mpr (List.pairwise_lt_range.imp fun {a b} z => ?_))
    omega
  match ys, mem, ci, pw with
  | [], mem, _, _ =>
    refine .inl ⟨rfl, fun ⟨X, c⟩ => ?_⟩
    -- X brought below m + T
    have hX : m ≤ X := by have := c.l; have := c.l'; omega
    have q1 := Int.emod_nonneg (X - m) (Int.ne_of_gt t0)
    have q2 := Int.emod_lt_of_pos (X - m) t0
    have q3 : T ∣ (X - m) - (X - m) % T := ⟨(X - m) / T, by have := Int.mul_ediv_add_emod (X - m) T; omega⟩
    have dn : ∀ {s b : Int}, s ∣ T → s ∣ X - b → s ∣ m + (X - m) % T - b := fun {s b} h1 h2 => by
      have := Int.dvd_sub h2 (Int.dvd_trans h1 q3)
      rwa [show X - b - (X - m - (X - m) % T) = m + (X - m) % T - b by omega] at this
    have := (mem (m + (X - m) % T)).mpr ⟨⟨by omega, by omega⟩, dn t.d c.d, dn t.d' c.d'⟩
    cases this
  | [f], mem, ci, pw | f :: g :: r, mem, ci, pw =>
    have hf := ci f List.mem_cons_self
    obtain ⟨⟨f1, f2⟩, f3, f4⟩ := (mem f).mp List.mem_cons_self
    have pw' := List.pairwise_cons.mp pw
    -- f is below m + T
    have lt : f < m + T := by
      apply Int.not_le.mp
      intro c
      have dn : ∀ {s b : Int}, s ∣ T → s ∣ f - b → s ∣ f - T - b := fun {s b} h1 h2 => by
        have := Int.dvd_sub h2 h1
        rwa [show f - b - T = f - T - b by omega] at this
      have z := (mem (f - T)).mpr ⟨⟨by omega, by omega⟩, dn t.d f3, dn t.d' f4⟩
      rcases List.mem_cons.mp z with e | e
      · omega
      · have := pw'.1 _ e
        omega
    have up : ∀ {s b : Int}, s ∣ T → s ∣ f - b → s ∣ f + T - b := fun {s b} h1 h2 => by
      have := Int.dvd_add h2 h1
      rwa [show f - b + T = f + T - b by omega] at this
    have nx := (mem (f + T)).mpr ⟨⟨by omega, by omega⟩, up t.d f3, up t.d' f4⟩
    first
      | (rcases List.mem_cons.mp nx with e | e
         · omega
         · cases e)
      | skip
    all_goals
      refine .inr ⟨f, g, r, rfl, first_of t hf (by omega), ?_⟩
      have hg := ci g (List.mem_cons_of_mem _ List.mem_cons_self)
      have fg := pw'.1 g List.mem_cons_self
      have d1 := t.dv (g - f) (dvd_diff hg.d f3) (dvd_diff hg.d' f4)
      have d2 := Int.le_of_dvd (by omega) d1
      have gle : g ≤ f + T := by
        rcases List.mem_cons.mp nx with e | e
        · omega
        · rcases List.mem_cons.mp e with e | e
          · omega
          · have := (List.pairwise_cons.mp pw'.2).1 _ e
            omega
      rw [show g - f = T by omega]
      exact t
end LR
set_option Elab.async false
set_option linter.all false
set_option maxRecDepth 100000
set_option maxHeartbeats 4000000
/-! x + y, x * y, x & y where x is an object of a class with its own method for it; y of a built-in type, or of x's class -/
namespace OO
open PySem PySem.Spec PyProof.Rows L2
/-- of the class at C: its own answer to an operator named nm (with no turned-about one) -/
structure OpC (K : PySem.W.Frag) (C g : Addr) (nm : String) : Prop where
  at_ : PySem.W.findIn K (.ref C) (PySem.dunder nm) = some (some (.ref g))
  fn : PySem.W.isFn K (.ref g) = true
  first : PySem.W.selfFirst K C = true
  rev : PySem.W.findIn K (.ref C) (dunderR nm) = some none
/-- of a built-in type T at the right -/
structure OpT (K : PySem.W.Frag) (C : Addr) (nm T : String) : Prop where
  l : ∃ fo, PySem.W.findIn K (.type T) (PySem.dunder nm) = some fo
  r : ∃ ro, PySem.W.findIn K (.type T) (dunderR nm) = some ro
  sub : PySem.W.subIn K (.type T) (.ref C) = some false
section
variable {P : Program} {w : World} {A : Around} {E : Value → Shared → Prop} {s : Shared} {K : PySem.W.Frag} {x C f : Addr} {ox : Obj} {od : Option Obj} {nm T : String}
theorem bin_far {op : Operator} {b : Value} {Q : Value → Shared → Prop} (X : K.In s.heap) (I : PySem.W.InstAt s.heap x ox C od) (hb : PySem.W.Looks (model P w) s.heap (typeOf b) (.type T)) (c : OpC K C f op.info.2) (t : OpT K C op.info.2 T)
    (h : wpAny (model P w) A (call (.ref f) [.ref x, b]) (PySem.W.CmpBack Q) E s) : wpAny (model P w) A (binaryOp op (.ref x) b) Q E s := by
  obtain ⟨cd, rest, hcd, hm⟩ := PySem.W.ksp_first c.first
  obtain ⟨fo, t1⟩ := t.l
  obtain ⟨ro, t2⟩ := t.r
  obtain ⟨hs, hf, _, hr⟩ := c
  have hsub := t.sub
  rcases hi : op.info with ⟨sym, m⟩
  rw [hi] at hs hr t1 t2
  dsimp only at hs hr t1 t2
  have tried := PySem.W.ksp_try X I hs hf h
  obtain ⟨hh, g, d, tt, os⟩ := s
  have T1 : PySem.W.Looks (model P w) hh (typeOf (.ref x)) (.ref C) := I.type
  have T2 : PySem.W.Looks (model P w) hh (typeOf b) (.type T) := hb
  have T3 : PySem.W.Looks (model P w) hh (fillsNumberSlot (.ref C) m) true := PySem.W.fills_K X hcd hm hs
  have T4 := PySem.W.ksp_fillsT (M := model P w) X t1 t2
  have T5 : PySem.W.Looks (model P w) hh (isSubtype (.type T) (.ref C)) false := PySem.W.looks_subIn X hsub
  have T6 : PySem.W.Looks (model P w) hh (numberSlotInPython (.ref C) m) true := PySem.W.ksp_inPy X hs hr (.inl rfl)
  have T7 : PySem.W.Looks (model P w) hh (numberSlotInPython (.type T) m) false := PySem.W.Looks.of_pure rfl
  have T8 : PySem.W.Looks (model P w) hh (typeLookup (.type T) (dunderR m)) ro := PySem.W.looks_findIn X t2
  generalize ((fo.isSome && !isSeqSlot fo) || (ro.isSome && !isSeqSlot ro)) = right at T4
  have odd : (Value.ref C == Value.type T) = false := Bool.eq_false_iff.mpr fun q => by cases beq_iff_eq.mp q
  simp only [binaryOp, hi]
  refine wpAny_holding (wpAny_bind ?_)
  unfold binaryOp1
  refine wpAny_bind (T1.at (wpAny_bind (T2.at (wpAny_bind (T3.at ?_)))))
  simp only [odd, Bool.false_eq_true, if_false]
  cases right
  all_goals
    ksp_lk
    refine wpAny_mono tried (fun r s' z => ?_) fun _ _ z => z
    obtain ⟨v, rfl, q⟩ := z
    ksp_lk
    exact q
end
section
variable {X : Cx} {CX : CXT} {k : Nat} {C g : Addr} {fd : FuncData} {ps : List Str} {sp : Sp} {E : XK}
/-- x op y by the class's own method -/
def rBin (K : PySem.W.Frag) (C : Addr) (nm : String) (sp : Sp) (E : XK) : R2 := fun x y H Q => ∃ a dx fs t, x = .ref a ∧ H a = some (.ins C dx fs) ∧ TyX K H y t ∧ (t = .ref C ∨ ∃ T, t = .type T ∧ OpT K C nm T) ∧ sp [x, y] H Q E
theorem op_bin {op : Operator} (c : OpC X.K C g op.info.2) (F : FnOk X.prog X.w X.K X.mg X.base CX k g fd ps sp) (hr : Room k X.A) (hb : Binds X.K fd ps []) (hx : Passes CX X E) : OpR X (binaryOp op) (rBin X.K C op.info.2 sp E) := by
  intro pins s σ H x y v u Q I rx ry h
  obtain ⟨a, dx, fs, t, rfl, ea, ty, tt, q⟩ := h
  cases (show v = Value.ref a from rx)
  obtain ⟨mA, O, _⟩ := ins_get I.hok ea
  obtain ⟨od, J, _⟩ := O.look
  obtain ⟨Z, kz, pz, _⟩ := kit_of I ry ty
  obtain ⟨m, hF⟩ := I.fr
  have run := run_fn (us := [.ref a, u]) (vs := [.ref a, y]) F hr hb .nil hx I (.cons rfl (.cons ry .nil)) q
  have back := wpAny_mono run (fun r t z => (let ⟨z', H', I', rz, qz⟩ := z; SlX.cmpback (P := fun v t => EP X pins σ Q v t) rz ⟨z', H', I', rz, qz⟩ : PySem.W.CmpBack (fun v t => EP X pins σ Q v t) r t)) fun _ _ z => z
  rcases tt with rfl | ⟨T, rfl, ot⟩
  · exact PySem.W.binop_K hF I.ok.mod.kin J (kz.ty _ _ I.kIn pz) c.first c.at_ c.fn back
  · exact bin_far I.kIn J (kz.ty _ _ I.kIn pz) c ot back
end
end OO
set_option Elab.async false
set_option linter.all false
set_option maxRecDepth 100000
set_option maxHeartbeats 4000000
set_option exponentiation.threshold 100000
/-! math.lcm of four -/
namespace LC
open PySem PySem.Spec PySem.Calls PyProof.Rows L2
def lcm4 (a b c d : Nat) : Nat := (((Nat.lcm 1 a).lcm b).lcm c).lcm d
theorem args4 (a b c d : Value) : argsOk "math.lcm" ⟨[a, b, c, d], []⟩ := by unfold argsOk; kernel_rfl
theorem run4 (a : Int) (t : Tok) (b : Int) (u : Tok) (c : Int) (v : Tok) (d : Int) (z : Tok) (c0 : ¬(max 1 a.natAbs).log2 / 30 + 1 > 450) (c1 : ¬(max (Nat.lcm 1 a.natAbs) b.natAbs).log2 / 30 + 1 > 450)
    (c2 : ¬(max ((Nat.lcm 1 a.natAbs).lcm b.natAbs) c.natAbs).log2 / 30 + 1 > 450) (c3 : ¬(max (((Nat.lcm 1 a.natAbs).lcm b.natAbs).lcm c.natAbs) d.natAbs).log2 / 30 + 1 > 450) (sz : ((lcm4 a.natAbs b.natAbs c.natAbs d.natAbs : Nat) : Int).natAbs.log2 < bitsLine) :
    Gives (Builtin.«math.lcm» ⟨[.int a t, .int b u, .int c v, .int d z], []⟩) (.int ((lcm4 a.natAbs b.natAbs c.natAbs d.natAbs : Nat) : Int)) := by
  refine .of_wp fun M A E s Q h => ?_
  obtain ⟨hp, g, dd, tk, os⟩ := s
  unfold lcm4 at sz h
  wp_walk
  rw [if_neg c1]
  wp_walk
  rw [if_neg c2]
  wp_walk
  rw [if_neg c3]
  wp_walk
  refine wpAny_ite_false (decide_eq_false (Nat.not_le.mpr sz)) ?_
  wp_walk
  exact ⟨_, rfl, h⟩
theorem log_small {n : Nat} (h : n < 2 ^ 4000) : ¬n.log2 / 30 + 1 > 450 := by
  have := PySem.W.mg_log (k := 3999) h
  omega
theorem lcm_le (m n : Nat) : m.lcm n ≤ m * n := by
  unfold Nat.lcm
  exact Nat.div_le_self _ _
section
variable {X : Cx}
def rLcm4 : List V → Hp → VK → Prop := fun vs H Q => ∃ a b c d : Int, vs = [.int a, .int b, .int c, .int d] ∧ a.natAbs < 2 ^ 900 ∧ b.natAbs < 2 ^ 900 ∧ c.natAbs < 2 ^ 900 ∧ d.natAbs < 2 ^ 900 ∧ Q (.int ((lcm4 a.natAbs b.natAbs c.natAbs d.natAbs : Nat) : Int)) H
theorem cr_lcm4 : CallR X (.builtin "math.lcm") rLcm4 := by
  intro pins s σ H vs us Q I r h
  obtain ⟨a, b, c, d, rfl, ha, hb, hc, hd, q⟩ := h
  cases r with
  | cons r1 r =>
  cases r with
  | cons r2 r =>
  cases r with
  | cons r3 r =>
  cases r with
  | cons r4 r =>
  cases r
  obtain ⟨t1, e⟩ := (show ∃ t, _ = Value.int a t from r1); subst e
  obtain ⟨t2, e⟩ := (show ∃ t, _ = Value.int b t from r2); subst e
  obtain ⟨t3, e⟩ := (show ∃ t, _ = Value.int c t from r3); subst e
  obtain ⟨t4, e⟩ := (show ∃ t, _ = Value.int d t from r4); subst e
  have l1 : Nat.lcm 1 a.natAbs < 2 ^ 900 := by rw [Nat.lcm_one_left]; exact ha
  have l2 : (Nat.lcm 1 a.natAbs).lcm b.natAbs < 2 ^ 1800 := Nat.lt_of_le_of_lt (lcm_le _ _) (by rw [show 1800 = 900 + 900 from rfl, Nat.pow_add]; exact Nat.mul_lt_mul'' l1 hb)
  have l3 : ((Nat.lcm 1 a.natAbs).lcm b.natAbs).lcm c.natAbs < 2 ^ 2700 := Nat.lt_of_le_of_lt (lcm_le _ _) (by rw [show 2700 = 1800 + 900 from rfl, Nat.pow_add]; exact Nat.mul_lt_mul'' l2 hc)
  have l4 : lcm4 a.natAbs b.natAbs c.natAbs d.natAbs < 2 ^ 3600 := Nat.lt_of_le_of_lt (lcm_le _ _) (by rw [show 3600 = 2700 + 900 from rfl, Nat.pow_add]; exact Nat.mul_lt_mul'' l3 hd)
  have up : ∀ {n m : Nat}, n < 2 ^ m → m ≤ 4000 → n < 2 ^ 4000 := fun h1 h2 => Nat.lt_of_lt_of_le h1 (Nat.pow_le_pow_right (by decide) h2)
  have mx : ∀ {n m : Nat}, n < 2 ^ 4000 → m < 2 ^ 4000 → max n m < 2 ^ 4000 := fun h1 h2 => by rw [Nat.max_def]; split <;> assumption
  have one : 1 < 2 ^ 4000 := Nat.one_lt_two_pow (by decide)
  refine call_function_meets PySem.W.MGF.kind_lcm PySem.W.MGF.plain_lcm PySem.W.MGF.entry_lcm (args4 _ _ _ _)
    (run4 a t1 b t2 c t3 d t4 (log_small (mx one (up ha (by decide)))) (log_small (mx (up l1 (by decide)) (up hb (by decide)))) (log_small (mx (up l2 (by decide)) (up hc (by decide)))) (log_small (mx (up l3 (by decide)) (up hd (by decide)))) ?_).meets ⟨.int _, H, I.tok _, ⟨_, rfl⟩, q⟩
  rw [Int.natAbs_natCast]
  exact Nat.lt_of_le_of_lt (PySem.W.mg_log (k := 3999) (up l4 (by decide))) (by decide)
end
end LC
set_option Elab.async false
set_option linter.all false
set_option maxRecDepth 100000
set_option maxHeartbeats 4000000
set_option exponentiation.threshold 100000
namespace LR
open PySem PySem.Spec PyProof.Rows L2
theorem sc_in_units : FnScope ["number", "unit"] ["number", "unit"] (defScope s_in_units) := ⟨rfl, rfl, rfl, by decide +kernel, rfl, by decide +kernel, by decide +kernel⟩
theorem sc_inverse : FnScope ["value", "modulus", "rest", "other_rest", "factor", "other_factor", "share"] ["value", "modulus"] (defScope s_inverse) := ⟨rfl, rfl, rfl, by decide +kernel, rfl, by decide +kernel, by decide +kernel⟩
/-! ### whole numbers -/
theorem un_units {q : Rat} {u : Int} (hd : (q.den : Int) ∣ u) : Un u q (q.num * u.fdiv q.den) := by
  obtain ⟨m, rfl⟩ := hd
  have d0 : (0 : Int) < q.den := by have := den_pos q; omega
  rw [Int.fdiv_eq_ediv_of_nonneg _ (Int.le_of_lt d0), Int.mul_ediv_cancel_left _ (Int.ne_of_gt d0)]
  unfold Un
  rw [Rat.intCast_mul, Rat.intCast_mul, ← Rat.mul_assoc]
  congr 1
  have := un_div (B := q.num) d0
  rw [Rat.num_divInt_den] at this
  exact this
/-- what the search for an inverse keeps -/
structure Euc (v m r r' t t' : Int) : Prop where
  r1 : 1 ≤ r
  r0 : 0 ≤ r'
  d : m ∣ r - t * v
  d' : m ∣ r' - t' * v
  g : Nat.gcd r.natAbs r'.natAbs = Nat.gcd v.natAbs m.natAbs
  b : ∃ e a a' : Int, (e = 1 ∨ e = -1) ∧ 0 ≤ a ∧ 0 ≤ a' ∧ t = e * a ∧ t' = -(e * a') ∧ a * r' + a' * r = m
theorem Euc.start {v m : Int} (hv : 1 ≤ v) (hm : 1 ≤ m) : Euc v m v m 1 0 := by
  refine ⟨hv, by omega, ⟨0, by omega⟩, ⟨1, by omega⟩, rfl, 1, 1, 0, .inl rfl, by omega, by omega, rfl, rfl, by omega⟩
theorem Euc.next {v m r r' t t' : Int} (h : Euc v m r r' t t') (n : 0 < r') : Euc v m r' (r - r.fdiv r' * r') t' (t - r.fdiv r' * t') := by
  obtain ⟨r1, r0, ⟨x, ex⟩, ⟨y, ey⟩, g, e, a, a', he, a0, a0', et, et', eb⟩ := h
  have q0 : 0 ≤ r.fdiv r' := Int.fdiv_nonneg (by omega) r0
  have em : r - r.fdiv r' * r' = r % r' := by
    have := Int.mul_fdiv_add_fmod r r'
    rw [Int.fmod_eq_emod_of_nonneg _ r0] at this
    have c : r.fdiv r' * r' = r' * r.fdiv r' := Int.mul_comm _ _
    omega
  refine ⟨by omega, ?_, ⟨y, ey⟩, ⟨x - r.fdiv r' * y, ?_⟩, ?_, -e, a', a + r.fdiv r' * a', by omega, a0', ?_, ?_, ?_, ?_⟩
  · rw [em]
    exact Int.emod_nonneg _ (by omega)
  · generalize r.fdiv r' = q
    grind
  · rw [em, ← g]
    exact gcd_step r0 (by omega)
  · exact Int.add_nonneg a0 (Int.mul_nonneg q0 a0')
  · rw [et']
    grind
  · generalize r.fdiv r' = q
    rw [et, et']
    grind
  · generalize r.fdiv r' = q
    grind
theorem Euc.small {v m r r' t t' : Int} (h : Euc v m r r' t t') (n : 0 < r') : t.natAbs ≤ m.natAbs ∧ t'.natAbs ≤ m.natAbs := by
  obtain ⟨r1, r0, _, _, _, e, a, a', he, a0, a0', et, et', eb⟩ := h
  have h1 : a ≤ a * r' := by
    have := Int.mul_le_mul_of_nonneg_left (show (1 : Int) ≤ r' by omega) a0
    omega
  have h2 : a' ≤ a' * r := by
    have := Int.mul_le_mul_of_nonneg_left r1 a0'
    omega
  have h3 : 0 ≤ a * r' := Int.mul_nonneg a0 r0
  have h4 : 0 ≤ a' * r := Int.mul_nonneg a0' (by omega)
  rcases he with rfl | rfl <;> omega
theorem Euc.last {v m r t t' : Int} (h : Euc v m r 0 t t') (hm : 0 < m) (c : Nat.gcd v.natAbs m.natAbs = 1) : m ∣ t.fmod m * v - 1 := by
  obtain ⟨r1, r0, ⟨x, ex⟩, _, g, _⟩ := h
  have er : r = 1 := by
    rw [c] at g
    simp at g
    omega
  subst er
  have e : t.fmod m = t - m * t.fdiv m := by
    have := Int.mul_fdiv_add_fmod t m
    omega
  rw [e]
  refine ⟨-(x + t.fdiv m * v), ?_⟩
  generalize t.fdiv m = z
  grind
section
variable {P : Program} {w : World} {K : PySem.W.Frag} {mg : Str → Option Value} {base : Heap}
/-! ### _in_units -/
def spUni (K : PySem.W.Frag) : Sp := fun vs H Q _ => ∃ (x : V) (u : Int) (q : Rat), vs = [x, .int u] ∧ Rn K H x q ∧ Sz 200 q ∧ (q.den : Int) ∣ u ∧ 0 < u ∧ u.natAbs < 2 ^ 800 ∧ Q (.int (q.num * u.fdiv q.den)) H
theorem fdiv_abs {a b : Int} (ha : 0 ≤ a) (hb : 0 < b) : (a.fdiv b).natAbs ≤ a.natAbs := by
  rw [Int.fdiv_eq_ediv_of_nonneg _ (Int.le_of_lt hb)]
  have h1 := Int.ediv_le_self b ha
  have h2 := Int.ediv_nonneg ha (Int.le_of_lt hb)
  omega
theorem ok_Uni {f : Addr} {fd : FuncData} (D : DefAt K mg "_in_units" s_in_units ["number", "unit"] f fd) : FnOk P w K mg base (CXl P w) 1 f fd ["number", "unit"] (spUni K) := by
  refine D.F.okX sc_in_units (fun vs H Q E h => ?_) (fun cdv A outer s H vs Q E hr h => ?_)
  · obtain ⟨x, u, q, rfl, _⟩ := h
    rfl
  · obtain ⟨x, u, p, rfl, ⟨a, rfl, ha⟩, zp, hd, u0, zu, q⟩ := h
    refine ⟨_, pss_one (ps_ret (pe_op op_mulW (pe_ix (r := rIxT K) ix_tup (pv 0) pe_int (fun _ _ => rfl)) (pe_op op_fdivA (pv 1) (pe_ix (r := rIxT K) ix_tup (pv 0) pe_int (fun _ _ => rfl))))), ?_⟩
    have d0 : (0 : Int) < p.den := by have := den_pos p; omega
    have zf := fdiv_abs (Int.le_of_lt u0) d0
    have up : ∀ {n b : Nat}, n < 2 ^ b → b ≤ 3900 → n < 2 ^ 3900 := fun h1 h2 => Nat.lt_of_lt_of_le h1 (Nat.pow_le_pow_right (by decide) h2)
    refine ⟨_, rfl, a, _, 0, _, rfl, rfl, ha, atI_nat (j := 0) rfl, _, rfl, _, rfl, a, _, 1, _, rfl, rfl, ha, atI_nat (j := 1) rfl, _, _, rfl, rfl, divA (b := 200) (by omega) (by rw [Int.natAbs_natCast]; exact zp.2) (by decide) (by decide), _, _, rfl, rfl, wm (up zp.1 (by decide)) (up (Nat.lt_of_le_of_lt zf zu) (by decide)), q⟩
/-! ### _inverse -/
def spInv : Sp := fun vs H Q _ => ∃ v m : Int, vs = [.int v, .int m] ∧ 1 ≤ v ∧ 1 ≤ m ∧ v.natAbs < 2 ^ 1100 ∧ m.natAbs < 2 ^ 1100 ∧ Nat.gcd v.natAbs m.natAbs = 1 ∧ ∀ (i : Int) H', Same H H' → 0 ≤ i → i < m → m ∣ i * v - 1 → Q (.int i) H'
def szOf7 : L2.St → Nat
  | [_, _, _, some (.int b), _, _, _] => b.natAbs
  | _ => 0
theorem ok_Inv {f : Addr} {fd : FuncData} (D : DefAt K mg "_inverse" s_inverse ["value", "modulus"] f fd) : FnOk P w K mg base (CXl P w) 1 f fd ["value", "modulus"] spInv := by
  refine D.F.okX sc_inverse (fun vs H Q E h => ?_) (fun cdv A outer s H vs Q E hr h => ?_)
  · obtain ⟨v, m, rfl, _⟩ := h
    rfl
  · obtain ⟨v, m, rfl, v1, m1, zv, zm, hg, q⟩ := h
    have nd := sc_inverse.nd
    refine ⟨_, pss_cons (ps_par (i := 2) (j := 3) rfl nd rfl rfl (by decide) rfl rfl (pa_cons (pv 0) (pa_cons (pv 1) pa_nil)) (by rfl))
      (pss_cons (ps_asg (pe_tup (pa_cons pe_int (pa_cons pe_int pa_nil))) (pg_tup rfl (pgs_cons (pg_name (i := 4) nd rfl (.inl rfl)) (pgs_cons (pg_name (i := 5) nd rfl (.inl rfl)) pgs_nil))))
      (pss_cons (ps_while (passes_of rfl) (pt_truth (pv 3) (fun _ => rfl)) (pss_cons (ps_set (i := 6) nd rfl (.inl rfl) (pe_op op_fdivA (pv 2) (pv 3)))
        (pss_cons (ps_par (i := 2) (j := 3) rfl nd rfl rfl (by decide) rfl rfl (pa_cons (pv 3) (pa_cons (pe_op op_sub (pv 2) (pe_op op_mulW (pv 6) (pv 3))) pa_nil)) (by rfl))
        (pss_one (ps_par (i := 4) (j := 5) rfl nd rfl rfl (by decide) rfl rfl (pa_cons (pv 5) (pa_cons (pe_op op_sub (pv 4) (pe_op op_mulW (pv 6) (pv 5))) pa_nil)) (by rfl))))))
      (pss_one (ps_ret (pe_op op_modN (pv 4) (pv 1)))))), ?_⟩
    refine ⟨_, rfl, _, rfl, _, _, rfl, by show 2 ≤ sizeLine; decide, fun tp np => ⟨tp, [.int 1, .int 0], rfl, .inl (.inl upd_same), rfl, _, _, rfl, _, _, rfl, rfl, ?_⟩⟩
    have sH := same_new (o := .tup [.int 1, .int 0]) np
    show tNext _ _ (upd H tp (.tup [.int 1, .int 0]))
    generalize (upd H tp (.tup [.int 1, .int 0])) = H1 at sH ⊢
    unfold tNext
    dsimp only
    unfold tSeq
    refine while_by (fun σ H' => H' = H1 ∧ ∃ (r r' t t' : Int) (o : Option V), σ = [some (.int v), some (.int m), some (.int r), some (.int r'), some (.int t), some (.int t'), o] ∧ Euc v m r r' t t' ∧ r.natAbs < 2 ^ 1100 ∧ r'.natAbs < 2 ^ 1100) (fun σ _ => szOf7 σ) ⟨rfl, v, m, 1, 0, none, rfl, Euc.start v1 m1, zv, zm⟩ (fun σ H' hP => ?_) (fun σ H' Q Q' f hq => ?_)
    · obtain ⟨rfl, r, r', t, t', o, rfl, eu, zr, zr'⟩ := hP
      refine ⟨_, rfl, _, rfl, ?_⟩
      have r0 := eu.r0
      by_cases e : r' = 0
      · subst e
        refine ite2 (fun c => absurd c (by decide)) (fun _ => ?_)
        have md := mod_in (x := t) (m := m) (by omega)
        exact ⟨_, rfl, _, rfl, t, m, rfl, rfl, show m ≠ 0 by omega, q _ _ sH md.1 md.2 (eu.last (by omega) hg)⟩
      · have rp : 0 < r' := by omega
        have sm := eu.small rp
        have nx := eu.next rp
        have zq := fdiv_abs (a := r) (b := r') (by have := eu.r1; omega) rp
        have up : ∀ {n : Nat}, n < 2 ^ 1100 → n < 2 ^ 3900 := fun h1 => Nat.lt_of_lt_of_le h1 (Nat.pow_le_pow_right (by decide) (by decide))
        refine ite2 (fun _ => ?_) (fun c => absurd (by simpa using e) c)
        refine ⟨_, rfl, _, rfl, r, r', rfl, rfl, divA (b := 1100) e zr' (by decide) (by decide), ?_⟩
        refine ⟨_, rfl, _, rfl, _, rfl, _, rfl, _, _, rfl, rfl, wm (up (Nat.lt_of_le_of_lt zq zr)) (up zr'), _, _, rfl, rfl, _, _, rfl, ?_⟩
        refine ⟨_, rfl, _, rfl, _, rfl, _, rfl, _, _, rfl, rfl, wm (up (Nat.lt_of_le_of_lt zq zr)) (up (Nat.lt_of_le_of_lt sm.2 zm)), _, _, rfl, rfl, _, _, rfl, ?_⟩
        have em : r - r.fdiv r' * r' = r % r' := by
          have := Int.mul_fdiv_add_fmod r r'
          rw [Int.fmod_eq_emod_of_nonneg _ r0] at this
          have c : r.fdiv r' * r' = r' * r.fdiv r' := Int.mul_comm _ _
          omega
        have l1 := Int.emod_nonneg r e
        have l2 := Int.emod_lt_of_pos r rp
        refine ⟨⟨rfl, _, _, _, _, _, rfl, nx, zr', ?_⟩, ?_⟩
        · rw [em]
          omega
        · show (r - r.fdiv r' * r').natAbs < r'.natAbs
          rw [em]
          omega
    · obtain ⟨x, hx, k, hk, hq⟩ := hq
      exact ⟨x, hx, k, hk, f _ _ hq⟩
end
end LR
set_option Elab.async false
set_option linter.all false
set_option maxHeartbeats 1000000
/-! OM: integers that leave wanted remainders: plain mathematics -/
namespace OM
theorem gcd_step {a b : Int} (hb : 0 ≤ b) (h : b ≠ 0) (ha : 0 ≤ a) : Nat.gcd b.natAbs (a % b).natAbs = Nat.gcd a.natAbs b.natAbs := by
  have e : (a % b).natAbs = a.natAbs % b.natAbs := by
    obtain ⟨m, rfl⟩ := Int.eq_ofNat_of_zero_le ha
    obtain ⟨n, rfl⟩ := Int.eq_ofNat_of_zero_le hb
    rfl
  rw [e, Nat.gcd_comm b.natAbs, ← Nat.gcd_rec, Nat.gcd_comm]
theorem fdiv_em {r r' : Int} (r0 : 0 ≤ r') : r - r.fdiv r' * r' = r % r' := by
  have h := Int.mul_fdiv_add_fmod r r'
  rw [Int.fmod_eq_emod_of_nonneg _ r0] at h
  have c : r.fdiv r' * r' = r' * r.fdiv r' := Int.mul_comm _ _
  omega
/-- what the search for an inverse keeps -/
structure Euc (v m r r' t t' : Int) : Prop where
  r1 : 0 ≤ r
  r0 : 0 ≤ r'
  d : m ∣ r - t * v
  d' : m ∣ r' - t' * v
  g : Nat.gcd r.natAbs r'.natAbs = Nat.gcd v.natAbs m.natAbs
  b : ∃ e a a' : Int, (e = 1 ∨ e = -1) ∧ 0 ≤ a ∧ 0 ≤ a' ∧ t = e * a ∧ t' = -(e * a') ∧ a * r' + a' * r = m ∧ a' ≤ a' * r
theorem Euc.start {v m : Int} (hv : 0 ≤ v) (hm : 1 ≤ m) : Euc v m v m 1 0 :=
  ⟨hv, by omega, ⟨0, by omega⟩, ⟨1, by omega⟩, rfl, 1, 1, 0, .inl rfl, by omega, by omega, rfl, rfl, by omega, by omega⟩
theorem Euc.next {v m r r' t t' : Int} (h : Euc v m r r' t t') (n : 0 < r') : Euc v m r' (r - r.fdiv r' * r') t' (t - r.fdiv r' * t') := by
  obtain ⟨r1, r0, ⟨x, ex⟩, ⟨y, ey⟩, g, e, a, a', he, a0, a0', et, et', eb, el⟩ := h
  have q0 : 0 ≤ r.fdiv r' := Int.fdiv_nonneg r1 r0
  have em := fdiv_em (r := r) r0
  have a2 : 0 ≤ a + r.fdiv r' * a' := Int.add_nonneg a0 (Int.mul_nonneg q0 a0')
  refine ⟨r0, ?_, ⟨y, ey⟩, ⟨x - r.fdiv r' * y, ?_⟩, ?_, -e, a', a + r.fdiv r' * a', by omega, a0', a2, ?_, ?_, ?_, ?_⟩
  · rw [em]
    exact Int.emod_nonneg _ (by omega)
  · generalize r.fdiv r' = q
    grind
  · rw [em, ← g]
    exact gcd_step r0 (by omega) r1
  · rw [et']
    grind
  · generalize r.fdiv r' = q
    rw [et, et']
    grind
  · generalize r.fdiv r' = q
    grind
  · have := Int.mul_le_mul_of_nonneg_left (show (1 : Int) ≤ r' by omega) a2
    omega
theorem Euc.small {v m r r' t t' : Int} (h : Euc v m r r' t t') (n : 0 < r') : t.natAbs ≤ m.natAbs ∧ t'.natAbs ≤ m.natAbs := by
  obtain ⟨r1, r0, _, _, _, e, a, a', he, a0, a0', et, et', eb, h2⟩ := h
  have h1 : a ≤ a * r' := by
    have := Int.mul_le_mul_of_nonneg_left (show (1 : Int) ≤ r' by omega) a0
    omega
  have h3 : 0 ≤ a * r' := Int.mul_nonneg a0 r0
  have h4 : 0 ≤ a' * r := Int.mul_nonneg a0' r1
  rcases he with rfl | rfl <;> omega
theorem Euc.last {v m r t t' : Int} (h : Euc v m r 0 t t') (hm : 0 < m) (c : Nat.gcd v.natAbs m.natAbs = 1) : m ∣ t.fmod m * v - 1 := by
  obtain ⟨r1, r0, ⟨x, ex⟩, _, g, _⟩ := h
  have er : r = 1 := by
    rw [c] at g
    simp at g
    omega
  subst er
  have e : t.fmod m = t - m * t.fdiv m := by
    have := Int.mul_fdiv_add_fmod t m
    omega
  rw [e]
  refine ⟨-(x + t.fdiv m * v), ?_⟩
  generalize t.fdiv m = z
  grind
theorem Euc.less {v m r r' t t' : Int} (h : Euc v m r r' t t') (n : 0 < r') : (r - r.fdiv r' * r').natAbs < r'.natAbs ∧ (r.fdiv r').natAbs ≤ r.natAbs := by
  have em := fdiv_em (r := r) h.r0
  have l1 := Int.emod_nonneg r (show r' ≠ 0 by omega)
  have l2 := Int.emod_lt_of_pos r n
  have r1 := h.r1
  have q0 : 0 ≤ r.fdiv r' := Int.fdiv_nonneg r1 h.r0
  have q1 : r.fdiv r' ≤ r.fdiv r' * r' := by
    have := Int.mul_le_mul_of_nonneg_left (show (1 : Int) ≤ r' by omega) q0
    omega
  omega
/-! ### rate * x = wanted modulo m -/
/-- s and f tell all solutions -/
structure Sol (a w m f s : Int) : Prop where
  f0 : 0 ≤ f
  fs : f < s
  sm : s * ((Nat.gcd a.natAbs m.natAbs : Nat) : Int) = m
  all : ∀ x, m ∣ a * x - w ↔ s ∣ x - f
theorem gcd_dvd_l (a m : Int) : (((Nat.gcd a.natAbs m.natAbs : Nat) : Int)) ∣ a := Int.natAbs_dvd_natAbs.mp (by rw [Int.natAbs_natCast]; exact Nat.gcd_dvd_left _ _)
theorem gcd_dvd_r (a m : Int) : (((Nat.gcd a.natAbs m.natAbs : Nat) : Int)) ∣ m := Int.natAbs_dvd_natAbs.mp (by rw [Int.natAbs_natCast]; exact Nat.gcd_dvd_right _ _)
theorem gcd_pos {a m : Int} (hm : 1 ≤ m) : 0 < (((Nat.gcd a.natAbs m.natAbs : Nat) : Int)) := by
  have := Nat.gcd_pos_of_pos_right a.natAbs (show 0 < m.natAbs by omega)
  omega
theorem no_sol {a w m x : Int} (h : ¬ (((Nat.gcd a.natAbs m.natAbs : Nat) : Int)) ∣ w) : ¬ m ∣ a * x - w := fun d => h (by
  have h1 := Int.dvd_trans (gcd_dvd_r a m) d
  have h2 := Int.dvd_mul_of_dvd_left (c := x) (gcd_dvd_l a m)
  have := Int.dvd_sub h2 h1
  rwa [show a * x - (a * x - w) = w by omega] at this)
theorem fdiv_mul {g a : Int} (g0 : 0 < g) (h : g ∣ a) : a.fdiv g * g = a := by
  obtain ⟨k, rfl⟩ := h
  rw [Int.mul_fdiv_cancel_left _ (by omega), Int.mul_comm]
theorem div_coprime {a m : Int} (hm : 1 ≤ m) : Nat.gcd (a.fdiv ((Nat.gcd a.natAbs m.natAbs : Nat) : Int)).natAbs (m.fdiv ((Nat.gcd a.natAbs m.natAbs : Nat) : Int)).natAbs = 1 := by
  have g0 := gcd_pos (a := a) hm
  have e1 := fdiv_mul g0 (gcd_dvd_l a m)
  have e2 := fdiv_mul g0 (gcd_dvd_r a m)
  generalize a.fdiv _ = x at e1 ⊢
  generalize m.fdiv _ = y at e2 ⊢
  have h1 : a.natAbs = x.natAbs * Nat.gcd a.natAbs m.natAbs := by
    conv => lhs; rw [← e1]
    rw [Int.natAbs_mul, Int.natAbs_natCast]
  have h2 : m.natAbs = y.natAbs * Nat.gcd a.natAbs m.natAbs := by
    conv => lhs; rw [← e2]
    rw [Int.natAbs_mul, Int.natAbs_natCast]
  have h3 : Nat.gcd a.natAbs m.natAbs = Nat.gcd x.natAbs y.natAbs * Nat.gcd a.natAbs m.natAbs := by
    have h5 : Nat.gcd (x.natAbs * Nat.gcd a.natAbs m.natAbs) (y.natAbs * Nat.gcd a.natAbs m.natAbs) = Nat.gcd x.natAbs y.natAbs * Nat.gcd a.natAbs m.natAbs := Nat.gcd_mul_right _ _ _
    rw [← h1, ← h2] at h5
    exact h5
  have h4 : 0 < Nat.gcd a.natAbs m.natAbs := by omega
  exact Nat.eq_of_mul_eq_mul_right h4 (by omega)
theorem fmod_bounds {x m : Int} (hm : 0 < m) : 0 ≤ x.fmod m ∧ x.fmod m < m := by
  rw [Int.fmod_eq_emod_of_nonneg _ (Int.le_of_lt hm)]
  exact ⟨Int.emod_nonneg _ (Int.ne_of_gt hm), Int.emod_lt_of_pos _ hm⟩
theorem fmod_zero {x m : Int} (hm : 0 < m) : x.fmod m = 0 ↔ m ∣ x := by
  rw [Int.fmod_eq_emod_of_nonneg _ (Int.le_of_lt hm)]
  exact ⟨Int.dvd_of_emod_eq_zero, Int.emod_eq_zero_of_dvd⟩
theorem fmod_sub {x m : Int} : m ∣ x - x.fmod m := ⟨x.fdiv m, by have := Int.mul_fdiv_add_fmod x m; omega⟩
theorem sol_of {a w m i : Int} (hm : 1 ≤ m) (hw : (((Nat.gcd a.natAbs m.natAbs : Nat) : Int)) ∣ w)
    (hi : m.fdiv ((Nat.gcd a.natAbs m.natAbs : Nat) : Int) ∣ i * a.fdiv ((Nat.gcd a.natAbs m.natAbs : Nat) : Int) - 1) :
    Sol a w m ((w.fdiv ((Nat.gcd a.natAbs m.natAbs : Nat) : Int) * i).fmod (m.fdiv ((Nat.gcd a.natAbs m.natAbs : Nat) : Int))) (m.fdiv ((Nat.gcd a.natAbs m.natAbs : Nat) : Int)) := by
  have g0 := gcd_pos (a := a) hm
  have e1 := fdiv_mul g0 (gcd_dvd_l a m)
  have e2 := fdiv_mul g0 (gcd_dvd_r a m)
  have e3 := fdiv_mul g0 hw
  have co := div_coprime (a := a) hm
  generalize hx : a.fdiv ((Nat.gcd a.natAbs m.natAbs : Nat) : Int) = x at *
  generalize hy : m.fdiv ((Nat.gcd a.natAbs m.natAbs : Nat) : Int) = y at *
  generalize hz : w.fdiv ((Nat.gcd a.natAbs m.natAbs : Nat) : Int) = z at *
  generalize hg : ((Nat.gcd a.natAbs m.natAbs : Nat) : Int) = g at *
  have y0 : 0 < y := by
    apply Int.not_le.mp
    intro c
    have := Int.mul_le_mul_of_nonneg_right c (Int.le_of_lt g0)
    omega
  have fb := fmod_bounds (x := z * i) y0
  have fd := fmod_sub (x := z * i) (m := y)
  refine ⟨fb.1, fb.2, by rw [hg]; exact e2, fun k => ?_⟩
  generalize (z * i).fmod y = f at *
  obtain ⟨p, hp⟩ := hi
  obtain ⟨q, hq⟩ := fd
  have key : m ∣ a * k - w ↔ y ∣ x * k - z := by
    rw [← e1, ← e2, ← e3, show x * g * k - z * g = (x * k - z) * g by grind]
    exact ⟨fun ⟨c, h⟩ => ⟨c, Int.eq_of_mul_eq_mul_right (Int.ne_of_gt g0) (by grind)⟩, fun ⟨c, h⟩ => ⟨c, by rw [h]; grind⟩⟩
  rw [key]
  constructor
  · rintro ⟨c, h⟩
    refine ⟨i * c - p * k + q, ?_⟩
    have h1 : k = i * x * k - y * p * k := by grind
    have h2 : i * (x * k - z) = i * (y * c) := by rw [h]
    grind
  · rintro ⟨c, h⟩
    refine ⟨x * c - x * q + p * z, ?_⟩
    have h1 : k = f + y * c := by omega
    have h2 : f = z * i - y * q := by omega
    subst h1
    subst h2
    grind
end OM
namespace OM
/-! ### places that two progressions have in common -/
structure Com (f s f' s' F T : Int) : Prop where
  t1 : 1 ≤ T
  lo : f ≤ F
  hi : F < f + T
  st : s ∣ T
  st' : s' ∣ T
  all : ∀ X, (s ∣ X - f ∧ s' ∣ X - f') ↔ T ∣ X - F
theorem com_none {f s f' s' X : Int} (h1 : s ∣ X - f) (h2 : s' ∣ X - f') : ((Nat.gcd s.natAbs s'.natAbs : Nat) : Int) ∣ f' - f := by
  have h3 := Int.dvd_sub (Int.dvd_trans (gcd_dvd_l s s') h1) (Int.dvd_trans (gcd_dvd_r s s') h2)
  rwa [show X - f - (X - f') = f' - f by omega] at h3
theorem com_of {f s f' s' x p : Int} (s0 : 0 < s) (so : Sol s (f' - f) s' x p) : Com f s f' s' (f + x * s) (s * p) := by
  have p0 : 0 < p := by have := so.f0; have := so.fs; omega
  have sp : 1 ≤ s * p := by have := Int.mul_pos s0 p0; omega
  refine ⟨sp, ?_, ?_, Int.dvd_mul_right _ _, ?_, fun X => ⟨fun ⟨⟨k, hk⟩, h2⟩ => ?_, fun ⟨k, hk⟩ => ⟨⟨x + p * k, by grind⟩, ?_⟩⟩⟩
  · have := Int.mul_nonneg so.f0 (Int.le_of_lt s0)
    omega
  · have h1 : x * s < p * s := Int.mul_lt_mul_of_pos_right so.fs s0
    have h2 : p * s = s * p := Int.mul_comm _ _
    omega
  · obtain ⟨g, hg⟩ := gcd_dvd_l s s'
    refine ⟨g, ?_⟩
    have e := so.sm
    conv => lhs; rw [hg]
    generalize ((Nat.gcd s.natAbs s'.natAbs : Nat) : Int) = z at *
    rw [← e]
    grind
  · have h3 : s' ∣ s * k - (f' - f) := by rwa [show s * k - (f' - f) = X - f' by omega]
    obtain ⟨j, hj⟩ := (so.all k).mp h3
    exact ⟨j, by have : k = x + p * j := by omega
                 subst this
                 grind⟩
  · have h3 := (so.all (x + p * k)).mpr ⟨k, by omega⟩
    rwa [show s * (x + p * k) - (f' - f) = X - f' by grind] at h3
end OM
namespace OM
theorem sub_lt {a b : Int} (ha : a.natAbs < 2 ^ 3000) (hb : b.natAbs < 2 ^ 3000) : (a - b).natAbs < 2 ^ 4000 := by
  have : (2 : Nat) ^ 3000 + 2 ^ 3000 ≤ 2 ^ 4000 := by decide +kernel
  omega
end OM
set_option Elab.async false
set_option linter.all false
set_option maxRecDepth 100000
set_option maxHeartbeats 4000000
set_option exponentiation.threshold 100000
namespace LR
open PySem PySem.Spec PyProof.Rows L2 DL
section
variable {P : Program} {w : World} {K : PySem.W.Frag} {mg : Str → Option Value} {base : Heap}
theorem sc_solved : FnScope ["rate", "wanted", "modulus", "divisor", "step"] ["rate", "wanted", "modulus"] (defScope s_solved) := ⟨rfl, rfl, rfl, by decide +kernel, rfl, by decide +kernel, by decide +kernel⟩
theorem sc_common0 : FnScope ["first", "step", "other_first", "other_step", "found", "steps", "period"] ["first", "step", "other_first", "other_step"] (defScope s_common0) := ⟨rfl, rfl, rfl, by decide +kernel, rfl, by decide +kernel, by decide +kernel⟩
/-! ### _inverse -/
def sdInv : SpD := fun as Q _ => match as with
  | [.d (.int v), .d (.int m)] => (0 ≤ v ∧ 1 ≤ m ∧ v.natAbs < 2 ^ 4000 ∧ m.natAbs < 2 ^ 4000 ∧ Nat.gcd v.natAbs m.natAbs = 1) ∧ ∀ i : Int, 0 ≤ i → i < m → m ∣ i * v - 1 → Q (.int i)
  | _ => False
theorem sdInv_len (as Q E) (h : sdInv as Q E) : as.length = 2 := by
  unfold sdInv at h
  split at h
  · rfl
  · exact h.elim

theorem ok_inverse {f fd} (D : DefAt K mg "_inverse" s_inverse ["value", "modulus"] f fd) : DefD P w K mg base "_inverse" 1 sdInv :=
  .mk1 D (fnD D.F sc_inverse sdInv_len fun cdv A outer s H E c hr b => ⟨_, (dss_cons (d_par2 (i := 2) (j := 3) rfl sc_inverse.nd rfl rfl (by decide) rfl rfl (d_var (pv 0)) (d_var (pv 1)))
      (dss_cons (d_asg (d_tup (da_cons d_int (da_cons d_int da_nil))) (dg_tup rfl (dgs_cons (dg_name (pg_name (i := 4) sc_inverse.nd rfl (.inl rfl))) (dgs_cons (dg_name (pg_name (i := 5) sc_inverse.nd rfl (.inl rfl))) dgs_nil))))
      (dss_cons (d_while (passes_of rfl) (dt_truth (d_var (pv 3)))
      (dss_cons (d_asg (d_op od_div (d_var (pv 2)) (d_var (pv 3))) (dg_name (pg_name (i := 6) sc_inverse.nd rfl (.inl rfl))))
      (dss_cons (d_par2 (i := 2) (j := 3) rfl sc_inverse.nd rfl rfl (by decide) rfl rfl (d_var (pv 3)) (d_op od_sub (d_var (pv 2)) (d_op od_mul (d_var (pv 6)) (d_var (pv 3)))))
      (dss_one (d_par2 (i := 4) (j := 5) rfl sc_inverse.nd rfl rfl (by decide) rfl rfl (d_var (pv 5)) (d_op od_sub (d_var (pv 4)) (d_op od_mul (d_var (pv 6)) (d_var (pv 5)))))))))
      (dss_one (d_ret (d_op od_mod (d_var (pv 4)) (d_var (pv 1)))))))), fun as Qd Ed h => by
    unfold sdInv at h
    split at h
    · rename_i v m
      obtain ⟨⟨v0, m1, zv, zm, hg⟩, q⟩ := h
      refine ⟨fun k ss => ∃ (r r' t t' : Int) (o : Sl), ss = [.d (.int v), .d (.int m), .d (.int r), .d (.int r'), .d (.int t), .d (.int t'), o] ∧ OM.Euc v m r r' t t' ∧ k = r'.natAbs ∧ r.natAbs < 2 ^ 4000 ∧ r'.natAbs < 2 ^ 4000, ⟨_, v, m, 1, 0, .un, rfl, .start v0 m1, rfl, zv, zm⟩, ?_⟩
      rintro k _ ⟨r, r', t, t', o, rfl, eu, rfl, zr, zr'⟩
      refine ifB (fun c => ?_) (fun c => ?_)
      · have n0 : r' ≠ 0 := by simpa using c
        have r0 := eu.r0
        have n : 0 < r' := by omega
        have sm := eu.small n
        have ls := eu.less n
        refine ⟨dv n0 zr', ?_⟩
        refine ⟨mu (Nat.lt_of_le_of_lt ls.2 zr) zr', ?_⟩
        refine ⟨mu (Nat.lt_of_le_of_lt ls.2 zr) (Nat.lt_of_le_of_lt sm.2 zm), ?_⟩
        exact ⟨_, ls.1, _, _, _, _, _, rfl, eu.next n, rfl, zr', by omega⟩
      · have e : r' = 0 := by simpa using c
        subst e
        have fb := OM.fmod_bounds (x := t) (m := m) (by omega)
        exact ⟨show m ≠ 0 by omega, q _ fb.1 fb.2 (eu.last (by omega) hg)⟩
    · exact h.elim⟩)
/-! ### solved -/
def sdSolved : SpD := fun as Q _ => match as with
  | [.d (.int a), .d (.int w), .d (.int m)] => (0 ≤ a ∧ 1 ≤ m ∧ a.natAbs < 2 ^ 4000 ∧ w.natAbs < 2 ^ 4000 ∧ m.natAbs < 2 ^ 4000) ∧ (¬ ((Nat.gcd a.natAbs m.natAbs : Nat) : Int) ∣ w → Q .non) ∧ ∀ f s : Int, ((Nat.gcd a.natAbs m.natAbs : Nat) : Int) ∣ w → OM.Sol a w m f s → Q (.tup [.int f, .int s])
  | _ => False
theorem sdSolved_len (as Q E) (h : sdSolved as Q E) : as.length = 3 := by
  unfold sdSolved at h
  split at h
  · rfl
  · exact h.elim

theorem fdiv_leD {x g : Int} (hg : 0 < g) : (x.fdiv g).natAbs ≤ x.natAbs := by
  rw [Int.fdiv_eq_ediv_of_nonneg _ (by omega)]
  exact Int.natAbs_ediv_le_natAbs _ _
theorem ok_solved {f fd} (D : DefAt K mg "solved" s_solved ["rate", "wanted", "modulus"] f fd) (m_gcd : mg "gcd" = some (.builtin "math.gcd")) (G_inverse : DefD P w K mg base "_inverse" 1 sdInv) : DefD P w K mg base "solved" 2 sdSolved :=
  .mk1 D (fnD D.F sc_solved sdSolved_len fun cdv A outer s H E c hr b => ⟨_, (dss_cons (d_asg (d_callBfun cd_gcd m_gcd (da_name (pv 0) (da_name (pv 2) da_nil))) (dg_name (pg_name (i := 3) sc_solved.nd rfl (.inl rfl))))
      (dss_cons (d_ifS (dt_cmp (od_ne hr.units) (d_op od_mod (d_var (pv 1)) (d_var (pv 3))) d_int)
      (dss_one (d_ret d_non))
      dss_nil)
      (dss_cons (d_asg (d_op od_div (d_var (pv 2)) (d_var (pv 3))) (dg_name (pg_name (i := 4) sc_solved.nd rfl (.inl rfl))))
      (dss_one (d_ret (d_tup (da_cons (d_op od_mod (d_op od_mul (d_op od_div (d_var (pv 1)) (d_var (pv 3))) (d_cN G_inverse (hr.mono (by decide)) (da_cons (d_op od_div (d_var (pv 0)) (d_var (pv 3))) (da_name (pv 4) da_nil)))) (d_var (pv 4))) (da_name (pv 4) da_nil)))))))), fun as Qd Ed h => by
    unfold sdSolved at h
    split at h
    · rename_i a wa m
      obtain ⟨⟨a0, m1, za, zw, zm⟩, q1, q2⟩ := h
      have g0 := OM.gcd_pos (a := a) m1
      have gl : ((Nat.gcd a.natAbs m.natAbs : Nat) : Int).natAbs ≤ m.natAbs := by
        rw [Int.natAbs_natCast]
        exact Nat.gcd_le_right _ (by omega)
      have zg : ((Nat.gcd a.natAbs m.natAbs : Nat) : Int).natAbs < 2 ^ 4000 := Nat.lt_of_le_of_lt gl zm
      have gn : ((Nat.gcd a.natAbs m.natAbs : Nat) : Int) ≠ 0 := by omega
      refine ⟨gn, ifN (fun c => ?_) (fun c => ?_)⟩
      · exact q1 fun d => c ((OM.fmod_zero g0).mpr d)
      · have d := (OM.fmod_zero g0).mp c
        have d1 := dv (j := ((Nat.gcd a.natAbs m.natAbs : Nat) : Int)) gn zg
        have co := OM.div_coprime (a := a) m1
        have e2 := OM.fdiv_mul g0 (OM.gcd_dvd_r a m)
        have e3 : 0 ≤ a.fdiv ((Nat.gcd a.natAbs m.natAbs : Nat) : Int) := Int.fdiv_nonneg a0 (by omega)
        have y0 : 1 ≤ m.fdiv ((Nat.gcd a.natAbs m.natAbs : Nat) : Int) := by
          apply Int.not_lt.mp
          intro lt
          have := Int.mul_le_mul_of_nonneg_right (show m.fdiv ((Nat.gcd a.natAbs m.natAbs : Nat) : Int) ≤ 0 by omega) (Int.le_of_lt g0)
          omega
        have zy := Nat.lt_of_le_of_lt (fdiv_leD (x := m) g0) zm
        refine ⟨d1, d1, d1, ⟨e3, y0, Nat.lt_of_le_of_lt (fdiv_leD g0) za, zy, co⟩, fun i i0 i1 hi => ?_⟩
        refine ⟨mu (Nat.lt_of_le_of_lt (fdiv_leD g0) zw) (show i.natAbs < 2 ^ 4000 by omega), show _ ≠ (0 : Int) by omega, ?_⟩
        exact q2 _ _ d (OM.sol_of m1 d hi)
    · exact h.elim⟩)
/-! ### common -/
def sdCommon : SpD := fun as Q _ => match as with
  | [.d (.int f), .d (.int s), .d (.int f'), .d (.int s')] => (1 ≤ s ∧ 1 ≤ s' ∧ f.natAbs < 2 ^ 3000 ∧ s.natAbs < 2 ^ 3000 ∧ f'.natAbs < 2 ^ 3000 ∧ s'.natAbs < 2 ^ 3000) ∧ ((¬ ∃ X, s ∣ X - f ∧ s' ∣ X - f') → Q .non) ∧ ∀ F T : Int, OM.Com f s f' s' F T → Q (.tup [.int F, .int T])
  | _ => False
theorem sdCommon_len (as Q E) (h : sdCommon as Q E) : as.length = 4 := by
  unfold sdCommon at h
  split at h
  · rfl
  · exact h.elim

theorem ok_common {f fd} (D : DefAt K mg "common" s_common0 ["first", "step", "other_first", "other_step"] f fd) (Gsolved : DefD P w K mg base "solved" 2 sdSolved) : DefD P w K mg base "common" 3 sdCommon :=
  .mk1 D (fnD D.F sc_common0 sdCommon_len fun cdv A outer s H E c hr b => ⟨_, (dss_cons (d_asg (d_cN Gsolved (hr.mono (by decide)) (da_name (pv 1) (da_cons (d_op od_sub (d_var (pv 2)) (d_var (pv 0))) (da_name (pv 3) da_nil)))) (dg_name (pg_name (i := 4) sc_common0.nd rfl (.inl rfl))))
      (dss_cons (d_ifS (dt_cmp od_is (d_var (pv 4)) d_non)
      (dss_one (d_ret d_non))
      dss_nil)
      (dss_cons (d_asg (d_var (pv 4)) (dg_tup rfl (dgs_cons (dg_name (pg_name (i := 5) sc_common0.nd rfl (.inl rfl))) (dgs_cons (dg_name (pg_name (i := 6) sc_common0.nd rfl (.inl rfl))) dgs_nil))))
      (dss_one (d_ret (d_tup (da_cons (d_op od_add (d_var (pv 0)) (d_op od_mul (d_var (pv 5)) (d_var (pv 1)))) (da_cons (d_op od_mul (d_var (pv 1)) (d_var (pv 6))) da_nil)))))))), fun as Qd Ed h => by
    unfold sdCommon at h
    split at h
    · rename_i f s f' s'
      obtain ⟨⟨s1, s1', zf, zs, zf', zs'⟩, q1, q2⟩ := h
      refine ⟨⟨by omega, s1', Nat.lt_trans zs (Nat.pow_lt_pow_right (by decide) (by decide)), OM.sub_lt zf' zf, Nat.lt_trans zs' (Nat.pow_lt_pow_right (by decide) (by decide))⟩, fun no => ?_, fun x p hd so => ?_⟩
      · exact q1 fun ⟨X, h1, h2⟩ => no (OM.com_none h1 h2)
      · have c := OM.com_of (by omega) so
        have p1 : p ≤ s' := by
          have := Int.mul_le_mul_of_nonneg_left (show (1 : Int) ≤ ((Nat.gcd s.natAbs s'.natAbs : Nat) : Int) by have := OM.gcd_pos (a := s) s1'; omega) (show 0 ≤ p by have := so.f0; have := so.fs; omega)
          have e := so.sm
          omega
        have f0 := so.f0
        have fs := so.fs
        exact ⟨mu (show x.natAbs < 2 ^ 3000 by omega) zs, mu zs (show p.natAbs < 2 ^ 3000 by omega), q2 _ _ c⟩
    · exact h.elim⟩)

/-! ### common, as the older texts say it -/
def spCo (K : PySem.W.Frag) : Sp := fun vs H Q _ => ∃ B S B' S' : Int, vs = [.int B, .int S, .int B', .int S'] ∧ (1 ≤ S ∧ 1 ≤ S' ∧ B.natAbs < 2 ^ 3000 ∧ S.natAbs < 2 ^ 3000 ∧ B'.natAbs < 2 ^ 3000 ∧ S'.natAbs < 2 ^ 3000) ∧ (∀ H', Same H H' → (¬ ∃ X, S ∣ X - B ∧ S' ∣ X - B') → Q .non H') ∧ ∀ (F T : Int) (a : Addr) (H' : Hp), Same H H' → OM.Com B S B' S' F T → SqT K H' a [.int F, .int T] → Q (.ref a) H'
theorem co_imp {k : Nat} {f : Addr} {fd : FuncData} {ps : List Str} (G : FnOk P w K mg base (L2.CX P w) k f fd ps (spD K sdCommon)) : FnOk P w K mg base (L2.CX P w) k f fd ps (spCo K) :=
  G.imp fun vs H Q E ⟨B, S, B', S', e, z, qN, qY⟩ => by
    subst e
    refine ⟨fun _ => False, H, [.d (.int B), .d (.int S), .d (.int B'), .d (.int S')], fun d => (d = .non ∧ ¬ ∃ X, S ∣ X - B ∧ S' ∣ X - B') ∨ ∃ F T : Int, d = .tup [.int F, .int T] ∧ OM.Com B S B' S' F T, fun _ => False, .refl _, fun _ z => z.elim, ?_, ⟨z, fun no => .inl ⟨rfl, no⟩, fun F T c => .inr ⟨F, T, rfl, c⟩⟩, fun d v Hs' H' x is q => ?_, fun _ _ _ _ z => z.elim⟩
    · exact ⟨_, _, rfl, rfl, _, _, rfl, rfl, _, _, rfl, rfl, _, _, rfl, rfl, rfl⟩
    · have s : Same H H' := x.fz.trans x.sub
      rcases q with ⟨rfl, no⟩ | ⟨F, T, rfl, c⟩
      · cases is
        exact qN H' s no
      · obtain ⟨a, xs, rfl, h1, h2⟩ := is
        obtain ⟨y1, ys, rfl, e1, y2, zs, rfl, e2, e3⟩ := h2
        cases e1; cases e2; cases e3
        exact qY F T a H' s c (same_sqt x.sub h1)
end
end LR
set_option Elab.async false
set_option linter.all false
set_option maxRecDepth 100000
set_option maxHeartbeats 4000000
set_option exponentiation.threshold 100000
namespace LR
open PySem PySem.Spec PyProof.Rows L2
abbrev mAdd : Stmt := inClass cMom 6
abbrev mMul : Stmt := inClass cMom 7
abbrev mAnd : Stmt := inClass cMom 8
theorem sc_mAdd : FnScope ["self", "other"] ["self", "other"] (defScope mAdd) := ⟨rfl, rfl, rfl, by decide +kernel, rfl, by decide +kernel, by decide +kernel⟩
theorem sc_mMul : FnScope ["self", "other"] ["self", "other"] (defScope mMul) := ⟨rfl, rfl, rfl, by decide +kernel, rfl, by decide +kernel, by decide +kernel⟩
theorem sc_mAnd : FnScope ["self", "other"] ["self", "other"] (defScope mAnd) := ⟨rfl, rfl, rfl, by decide +kernel, rfl, by decide +kernel, by decide +kernel⟩
theorem sc_common : FnScope ["one", "other", "unit", "begin", "step", "other_begin", "other_step", "found", "first", "common_step"] ["one", "other"] (defScope s_common) := ⟨rfl, rfl, rfl, by decide +kernel, rfl, by decide +kernel, by decide +kernel⟩
/-! ### the common divisor and what is left of two steps -/
theorem lcm4_den (a b c d : Nat) : a ∣ LC.lcm4 a b c d ∧ b ∣ LC.lcm4 a b c d ∧ c ∣ LC.lcm4 a b c d ∧ d ∣ LC.lcm4 a b c d := by
  unfold LC.lcm4
  rw [Nat.lcm_one_left]
  have h1 := Nat.dvd_lcm_left a b
  have h2 := Nat.dvd_lcm_right a b
  have h3 := Nat.dvd_lcm_left (a.lcm b) c
  have h4 := Nat.dvd_lcm_right (a.lcm b) c
  have h5 := Nat.dvd_lcm_left ((a.lcm b).lcm c) d
  have h6 := Nat.dvd_lcm_right ((a.lcm b).lcm c) d
  exact ⟨Nat.dvd_trans h1 (Nat.dvd_trans h3 h5), Nat.dvd_trans h2 (Nat.dvd_trans h3 h5), Nat.dvd_trans h4 h5, h6⟩
theorem lcm4_lt {a b c d : Nat} (ha : a < 2 ^ 200) (hb : b < 2 ^ 200) (hc : c < 2 ^ 200) (hd : d < 2 ^ 200) : LC.lcm4 a b c d < 2 ^ 800 := by
  unfold LC.lcm4
  rw [Nat.lcm_one_left]
  have l2 : a.lcm b < 2 ^ 400 := Nat.lt_of_le_of_lt (LC.lcm_le _ _) (mul_lt ha hb)
  have l3 : (a.lcm b).lcm c < 2 ^ 600 := Nat.lt_of_le_of_lt (LC.lcm_le _ _) (mul_lt l2 hc)
  exact Nat.lt_of_le_of_lt (LC.lcm_le _ _) (mul_lt l3 hd)
theorem lcm4_pos {a b c d : Nat} (ha : 0 < a) (hb : 0 < b) (hc : 0 < c) (hd : 0 < d) : 0 < LC.lcm4 a b c d := by
  unfold LC.lcm4
  rw [Nat.lcm_one_left]
  exact Nat.lcm_pos (Nat.lcm_pos (Nat.lcm_pos ha hb) hc) hd
theorem units_lt {q : Rat} {u : Int} (zq : Sz 200 q) (u0 : 0 < u) (zu : u.natAbs < 2 ^ 800) : (q.num * u.fdiv q.den).natAbs < 2 ^ 1000 := by
  have d0 : (0 : Int) < q.den := by have := den_pos q; omega
  rw [Int.natAbs_mul]
  exact mul_lt zq.1 (Nat.lt_of_le_of_lt (fdiv_abs (Int.le_of_lt u0) d0) zu)
theorem first_com {B S B' S' F T : Int} (s0 : 0 < S) (s0' : 0 < S') (c : OM.Com B S B' S' F T) : StepI S S' T ∧ T ≤ S * S' ∧ (¬ F < B' → FirstI B S B' S' F) ∧ (F < B' → FirstI B S B' S' (B' + (F - B').fmod T)) := by
  have cF := (c.all F).mpr (by rw [Int.sub_self]; exact Int.dvd_zero _)
  have st : StepI S S' T := ⟨by have := c.t1; omega, c.st, c.st', fun y h1 h2 => by
    have := (c.all (F + y)).mp ⟨by rw [show F + y - B = F - B + y by omega]; exact Int.dvd_add cF.1 h1, by rw [show F + y - B' = F - B' + y by omega]; exact Int.dvd_add cF.2 h2⟩
    rwa [show F + y - F = y by omega] at this⟩
  have lo := c.lo
  have hi := c.hi
  refine ⟨st, step_le s0 s0' st, fun nlt => first_of st ⟨by omega, by omega, cF.1, cF.2⟩ (.inl (by omega)), fun lt => ?_⟩
  have me := mod_in (x := F - B') st.pos
  have em : (F - B').fmod T = F - B' - T * (F - B').fdiv T := by
    have := Int.mul_fdiv_add_fmod (F - B') T
    omega
  have off : ∀ {s b : Int}, s ∣ T → s ∣ F - b → s ∣ B' + (F - B').fmod T - b := fun {s b} h1 h2 => by
    have := Int.dvd_sub h2 (Int.dvd_trans h1 (Int.dvd_mul_right T ((F - B').fdiv T)))
    rwa [show F - b - T * (F - B').fdiv T = B' + (F - B').fmod T - b by omega] at this
  exact first_of st ⟨by omega, by omega, off st.d cF.1, off st.d' cF.2⟩ (.inr (by omega))
/-- what is promised of two moments' common ones -/
def GivesC (K : PySem.W.Frag) (C : Addr) (b s b' s' : Rat) (H : Hp) (Q : VK) : Prop := (∀ H', Same H H' → (¬ ∃ x, CR b s b' s' x) → Q .non H') ∧ ∀ (x : Addr) (H' : Hp) (f t : Rat), Same H H' → FirstR b s b' s' f → StepR s s' t → MomAt K C H' (.ref x) f t → Q (.ref x) H'
def spCom (K : PySem.W.Frag) (C : Addr) : Sp := fun vs H Q _ => ∃ (v v' : V) (b s b' s' : Rat), vs = [v, v'] ∧ MomAt K C H v b s ∧ MomAt K C H v' b' s' ∧ (0 ≤ b ∧ 0 < s ∧ 0 ≤ b' ∧ 0 < s') ∧ (Sz 200 b ∧ Sz 200 s ∧ Sz 200 b' ∧ Sz 200 s') ∧ GivesC K C b s b' s' H Q
/-- the properties, as a caller needs them -/
structure MomP (P : Program) (w : World) (K : PySem.W.Frag) (mg : Str → Option Value) (base : Heap) (C : Addr) : Prop where
  B : ∃ p f fd, PropOf K C "begin" p f ∧ Binds K fd ["self"] [] ∧ FnOk P w K mg base (CXl P w) 1 f fd ["self"] (fun vs H Q _ => ∃ v b s, vs = [v] ∧ MomAt K C H v b s ∧ ∀ x, Rn K H x b → Q x H)
  S : ∃ p f fd, PropOf K C "step" p f ∧ Binds K fd ["self"] [] ∧ FnOk P w K mg base (CXl P w) 1 f fd ["self"] (fun vs H Q _ => ∃ v b s, vs = [v] ∧ MomAt K C H v b s ∧ ∀ x, Rn K H x s → Q x H)
section
variable {P : Program} {w : World} {K : PySem.W.Frag} {mg : Str → Option Value} {base : Heap}
theorem ok_Com {f C CT CN fU fI fR fM : Addr} {fd dU dI dR dM : FuncData} {psI : List Str} (D : DefAt K mg "_common" s_common ["one", "other"] f fd) (T : MomC K C) (gM : mg "Moments" = some (.ref C)) (MP : MomP P w K mg base C) (MI : Mk K C fM) (bI : Binds K dM ["self", "begin", "step"] [])
    (DU : DefAt K mg "_in_units" s_in_units ["number", "unit"] fU dU) (gV : mg "common" = some (.ref fI)) (kV : PySem.W.keepIn K (.ref fI) = true) (bV : Binds K dI psI []) (DR : DefAt K mg "reduced" s_reduced ["top", "bottom"] fR dR) (mlc : mg "lcm" = some (.builtin "math.lcm"))
    (GI : FnOk P w K mg base (CXl P w) 5 fM dM ["self", "begin", "step"] (spMI K C CT CN)) (GU : FnOk P w K mg base (CXl P w) 1 fU dU ["number", "unit"] (spUni K)) (GV : FnOk P w K mg base (CXl P w) 3 fI dI psI (spCo K)) (GR : FnOk P w K mg base (CXl P w) 1 fR dR ["top", "bottom"] (spRd K)) :
    FnOk P w K mg base (CXl P w) 7 f fd ["one", "other"] (spCom K C) := by
  obtain ⟨pB, gB, eB, MB, bB, GB⟩ := MP.B
  obtain ⟨pS, gS, eS, MS, bS, GSt⟩ := MP.S
  refine D.F.okX sc_common (fun vs H Q E h => ?_) (fun cdv A outer s H vs Q E hr h => ?_)
  · obtain ⟨v, v', b, s, b', s', rfl, _⟩ := h
    rfl
  · obtain ⟨v, v', b, st, b', st', rfl, hm, hm', ⟨b0, s0, b0', s0'⟩, ⟨zb, zs, zb', zs'⟩, qN, qY⟩ := h
    have nd := sc_common.nd
    have h2 : Room 2 _ := hr.mono (by decide)
    have h1 : Room 1 _ := hr.mono (by decide)
    refine ⟨_, pss_cons (ps_set (i := 2) nd rfl (.inl rfl) (pe_callBfun LC.cr_lcm4 (by rfl) mlc (pa_cons (pe_ix (r := rIxT K) ix_tup (pe_prop (pv 0) T.cl MB GB h2 bB .nil passL rfl) pe_int (fun _ _ => rfl)) (pa_cons (pe_ix (r := rIxT K) ix_tup (pe_prop (pv 0) T.cl MS GSt h2 bS .nil passL rfl) pe_int (fun _ _ => rfl))
          (pa_cons (pe_ix (r := rIxT K) ix_tup (pe_prop (pv 1) T.cl MB GB h2 bB .nil passL rfl) pe_int (fun _ _ => rfl)) (pa_cons (pe_ix (r := rIxT K) ix_tup (pe_prop (pv 1) T.cl MS GSt h2 bS .nil passL rfl) pe_int (fun _ _ => rfl)) pa_nil))))))
      (pss_cons (ps_par (i := 3) (j := 4) rfl nd rfl rfl (by decide) rfl rfl (pa_cons (pe_call GU h1 (by rfl) DU.g DU.F.kp DU.b .nil passL (pa_cons (pe_prop (pv 0) T.cl MB GB h2 bB .nil passL rfl) (pa_cons (pv 2) pa_nil))) (pa_cons (pe_call GU h1 (by rfl) DU.g DU.F.kp DU.b .nil passL (pa_cons (pe_prop (pv 0) T.cl MS GSt h2 bS .nil passL rfl) (pa_cons (pv 2) pa_nil))) pa_nil)) (by rfl))
      (pss_cons (ps_par (i := 5) (j := 6) rfl nd rfl rfl (by decide) rfl rfl (pa_cons (pe_call GU h1 (by rfl) DU.g DU.F.kp DU.b .nil passL (pa_cons (pe_prop (pv 1) T.cl MB GB h2 bB .nil passL rfl) (pa_cons (pv 2) pa_nil))) (pa_cons (pe_call GU h1 (by rfl) DU.g DU.F.kp DU.b .nil passL (pa_cons (pe_prop (pv 1) T.cl MS GSt h2 bS .nil passL rfl) (pa_cons (pv 2) pa_nil))) pa_nil)) (by rfl))
      (pss_cons (ps_set (i := 7) nd rfl (.inl rfl) (pe_call GV (hr.mono (by decide)) (by rfl) gV kV bV .nil passL (pa_cons (pv 3) (pa_cons (pv 4) (pa_cons (pv 5) (pa_cons (pv 6) pa_nil))))))
      (pss_cons (ps_if (pt_cmpR op_isN (pv 7) pe_non (nomark _)) (pss_one (ps_ret pe_non)) pss_nil)
      (pss_cons (ps_asg (pv 7) (pg_tup rfl (pgs_cons (pg_name (i := 8) nd rfl (.inl rfl)) (pgs_cons (pg_name (i := 9) nd rfl (.inl rfl)) pgs_nil))))
      (C8.pss_cut (ps_if (pt_cmpR op_lt (pv 8) (pv 5) (nomark _)) (pss_one (ps_set (i := 8) nd rfl (.inl rfl) (pe_op op_add (pv 5) (pe_op op_modN (pe_op op_sub (pv 8) (pv 5)) (pv 9))))) pss_nil)
      (pss_one (ps_ret (pe_make MI GI (hr.mono (by decide)) (by rfl) gM bI .nil passL (pa_cons (pe_call GR h1 (by rfl) DR.g DR.F.kp DR.b .nil passL (pa_cons (pv 8) (pa_cons (pv 2) pa_nil))) (pa_cons (pe_call GR h1 (by rfl) DR.g DR.F.kp DR.b .nil passL (pa_cons (pv 9) (pa_cons (pv 2) pa_nil))) pa_nil))))))))))), ?_⟩
    obtain ⟨p, dx, vb, vs, rfl, hp, _, _⟩ := id hm
    obtain ⟨p', dx', vb', vs', rfl, hp', _, _⟩ := id hm'
    -- unit
    refine ⟨_, rfl, p, dx, _, rfl, hp, _, b, st, rfl, hm, fun x1 r1 => ?_⟩
    obtain ⟨a1, rfl, t1⟩ := id r1
    refine ⟨a1, _, 1, _, rfl, rfl, t1, atI_nat (j := 1) rfl, ?_⟩
    refine ⟨_, rfl, p, dx, _, rfl, hp, _, b, st, rfl, hm, fun x2 r2 => ?_⟩
    obtain ⟨a2, rfl, t2⟩ := id r2
    refine ⟨a2, _, 1, _, rfl, rfl, t2, atI_nat (j := 1) rfl, ?_⟩
    refine ⟨_, rfl, p', dx', _, rfl, hp', _, b', st', rfl, hm', fun x3 r3 => ?_⟩
    obtain ⟨a3, rfl, t3⟩ := id r3
    refine ⟨a3, _, 1, _, rfl, rfl, t3, atI_nat (j := 1) rfl, ?_⟩
    refine ⟨_, rfl, p', dx', _, rfl, hp', _, b', st', rfl, hm', fun x4 r4 => ?_⟩
    obtain ⟨a4, rfl, t4⟩ := id r4
    refine ⟨a4, _, 1, _, rfl, rfl, t4, atI_nat (j := 1) rfl, ?_⟩
    have up9 : ∀ {n : Nat}, n < 2 ^ 200 → ((n : Nat) : Int).natAbs < 2 ^ 900 := fun h => by rw [Int.natAbs_natCast]; exact Nat.lt_of_lt_of_le h (Nat.pow_le_pow_right (by decide) (by decide))
    refine ⟨_, _, _, _, rfl, up9 zb.2, up9 zs.2, up9 zb'.2, up9 zs'.2, ?_⟩
    rw [Int.natAbs_natCast, Int.natAbs_natCast, Int.natAbs_natCast, Int.natAbs_natCast]
    obtain ⟨d1, d2, d3, d4⟩ := lcm4_den b.den st.den b'.den st'.den
    have u0 := lcm4_pos (den_pos b) (den_pos st) (den_pos b') (den_pos st')
    have zu := lcm4_lt zb.2 zs.2 zb'.2 zs'.2
    have e1 := Int.ofNat_dvd.mpr d1
    have e2 := Int.ofNat_dvd.mpr d2
    have e3 := Int.ofNat_dvd.mpr d3
    have e4 := Int.ofNat_dvd.mpr d4
    have v0 : (0 : Int) < ((LC.lcm4 b.den st.den b'.den st'.den : Nat) : Int) := by omega
    have zv : (((LC.lcm4 b.den st.den b'.den st'.den : Nat) : Int)).natAbs < 2 ^ 800 := by rw [Int.natAbs_natCast]; exact zu
    generalize ((LC.lcm4 b.den st.den b'.den st'.den : Nat) : Int) = u at e1 e2 e3 e4 v0 zv ⊢
    clear d1 d2 d3 d4 u0 zu
    -- the four in units
    refine ⟨_, rfl, p, dx, _, rfl, hp, _, b, st, rfl, hm, fun y1 k1 => ?_⟩
    refine ⟨_, rfl, y1, u, b, rfl, k1, zb, e1, v0, zv, ?_⟩
    refine ⟨_, rfl, p, dx, _, rfl, hp, _, b, st, rfl, hm, fun y2 k2 => ?_⟩
    refine ⟨_, rfl, y2, u, st, rfl, k2, zs, e2, v0, zv, _, _, rfl, ?_⟩
    refine ⟨_, rfl, p', dx', _, rfl, hp', _, b', st', rfl, hm', fun y3 k3 => ?_⟩
    refine ⟨_, rfl, y3, u, b', rfl, k3, zb', e3, v0, zv, ?_⟩
    refine ⟨_, rfl, p', dx', _, rfl, hp', _, b', st', rfl, hm', fun y4 k4 => ?_⟩
    refine ⟨_, rfl, y4, u, st', rfl, k4, zs', e4, v0, zv, _, _, rfl, ?_⟩
    have nB := un_units e1
    have nS := un_units e2
    have nB' := un_units e3
    have nS' := un_units e4
    have zB := units_lt zb v0 zv
    have zS := units_lt zs v0 zv
    have zB' := units_lt zb' v0 zv
    have zS' := units_lt zs' v0 zv
    have un0 : Un u 0 0 := by unfold Un; rw [Rat.zero_mul]; rfl
    have B0 := (un_le v0 un0 nB).mp b0
    have B0' := (un_le v0 un0 nB').mp b0'
    have lt' : ∀ {q : Rat} {N : Int}, Un u q N → 0 < q → 0 < N := fun {q N} h1 h2 => Int.not_le.mp fun c => absurd ((un_le v0 h1 un0).mpr c) (Rat.not_le.mpr h2)
    have S0 := lt' nS s0
    have S0' := lt' nS' s0'
    generalize b.num * u.fdiv b.den = B at *
    generalize st.num * u.fdiv st.den = S at *
    generalize b'.num * u.fdiv b'.den = B' at *
    generalize st'.num * u.fdiv st'.den = S' at *
    have up3 : ∀ {n b : Nat}, n < 2 ^ b → b ≤ 3000 → n < 2 ^ 3000 := fun h1 h2 => Nat.lt_of_lt_of_le h1 (Nat.pow_le_pow_right (by decide) h2)
    refine ⟨_, rfl, _, rfl, _, rfl, _, rfl, B, S, B', S', rfl, ⟨by omega, by omega, up3 zB (by decide), up3 zS (by decide), up3 zB' (by decide), up3 zS' (by decide)⟩, fun H1 s1 no => ?_, fun F M a H1 s1 co tt => ?_⟩
    · refine ⟨_, rfl, rfl, _, rfl, ite2 (fun _ => ?_) (fun c => absurd (decide_eq_true rfl) c)⟩
      exact qN H1 s1 (none_iff v0 nB nS nB' nS' fun ⟨X, c⟩ => no ⟨X, c.d, c.d'⟩)
    · obtain ⟨stI, M1, FY, FN⟩ := first_com S0 S0' co
      have C0 := stI.pos
      have F0 := co.lo
      have F1 := co.hi
      have zC : M.natAbs < 2 ^ 2000 := by
        have h2 : (S * S').natAbs < 2 ^ 2000 := by
          rw [Int.natAbs_mul]
          exact mul_lt zS zS'
        omega
      have zF : F.natAbs < 2 ^ 7999 := by
        refine Nat.lt_of_lt_of_le (show _ < 2 ^ 2001 from ?_) (Nat.pow_le_pow_right (by decide) (by decide))
        have h3 : B.natAbs < 2 ^ 2000 := Nat.lt_of_lt_of_le zB (Nat.pow_le_pow_right (by decide) (by decide))
        rw [Nat.pow_succ]
        omega
      refine ⟨_, rfl, rfl, _, rfl, ite2 (fun c => nomatch of_decide_eq_true c) (fun _ => ?_)⟩
      refine ⟨_, rfl, a, _, rfl, tt, rfl, _, _, rfl, _, _, rfl, rfl, ?_⟩
      refine ⟨fun σ' H' => H' = H1 ∧ ∃ (G : Int) (x3 x4 x5 x6 x7 : Option V), σ' = [some (.ref p), some (.ref p'), some (.int u), x3, x4, x5, x6, x7, some (.int G), some (.int M)] ∧ FirstI B S B' S' G ∧ 0 ≤ G ∧ G.natAbs < 2 ^ 8000, ?_, ?_⟩
      · refine ⟨_, rfl, _, rfl, F, B', rfl, rfl, _, rfl, ite2 (fun c => ?_) (fun c => ?_)⟩
        · have lt : F < B' := of_decide_eq_true c
          have mm := mod_in (x := F - B') C0
          refine ⟨_, rfl, _, rfl, _, rfl, F, B', rfl, rfl, _, rfl, _, M, rfl, rfl, show M ≠ 0 by omega, _, _, rfl, rfl, rfl, _, _, _, _, _, _, rfl, FN lt, by omega, ?_⟩
          have h1 : B'.natAbs < 2 ^ 7998 := Nat.lt_of_lt_of_le zB' (Nat.pow_le_pow_right (by decide) (by decide))
          have h3 : ((F - B').fmod M).natAbs < 2 ^ 7998 := Nat.lt_of_lt_of_le (show _ < 2 ^ 2000 by omega) (Nat.pow_le_pow_right (by decide) (by decide))
          refine Nat.lt_of_lt_of_le (show _ < 2 ^ 7999 from ?_) (Nat.pow_le_pow_right (by decide) (by decide))
          rw [show 7999 = 7998 + 1 from rfl, Nat.pow_succ]
          omega
        · exact ⟨rfl, F, _, _, _, _, _, rfl, FY fun z => c (decide_eq_true z), by omega, Nat.lt_of_lt_of_le zF (Nat.pow_le_pow_right (by decide) (by decide))⟩
      · rintro σ' H' ⟨rfl, G, x3, x4, x5, x6, x7, rfl, fi, G0, zG⟩
        have zu8 : u.natAbs < 2 ^ 8000 := Nat.lt_of_lt_of_le zv (Nat.pow_le_pow_right (by decide) (by decide))
        refine ⟨_, rfl, _, rfl, G, u, rfl, v0, ⟨zG, zu8⟩, fun vf H2 s2 rf => ?_⟩
        refine ⟨_, rfl, _, rfl, M, u, rfl, v0, ⟨Nat.lt_of_lt_of_le zC (Nat.pow_le_pow_right (by decide) (by decide)), zu8⟩, fun vt H3 s3 rt => ?_⟩
        have fR := firstR_of v0 nB nS nB' nS' (un_div v0) fi
        have tR := stepR_of v0 nS nS' (un_div v0) stI
        refine make_ok (rf.same s3).num rt.num (divInt_nonneg G0 v0) tR.pos fun x4 H4 s4 m4 => ?_
        exact qY x4 H4 _ _ (((s1.trans s2).trans s3).trans s4) fR tR m4
end
end LR
set_option Elab.async false
set_option linter.all false
set_option maxRecDepth 100000
set_option maxHeartbeats 4000000
set_option exponentiation.threshold 100000
namespace LR
open PySem PySem.Spec PyProof.Rows L2
section
variable {P : Program} {w : World} {K : PySem.W.Frag} {mg : Str → Option Value} {base : Heap}
/-! ### one & other -/
theorem ok_mAnd {f C fC : Addr} {fd dC : FuncData} (F : Fun K "__and__" "Moments.__and__" mAnd f fd) (DC : DefAt K mg "_common" s_common ["one", "other"] fC dC) (GC : FnOk P w K mg base (CXl P w) 7 fC dC ["one", "other"] (spCom K C)) : FnOk P w K mg base (CXl P w) 8 f fd ["self", "other"] (spCom K C) := by
  refine F.okX sc_mAnd (fun vs H Q E h => ?_) (fun cdv A outer s H vs Q E hr h => ?_)
  · obtain ⟨v, v', b, s, b', s', rfl, _⟩ := h
    rfl
  · obtain ⟨v, v', b, st, b', st', rfl, h⟩ := h
    exact ⟨_, pss_one (ps_ret (pe_call GC hr (by rfl) DC.g DC.F.kp DC.b .nil passL (pa_cons (pv 0) (pa_cons (pv 1) pa_nil)))), _, rfl, _, rfl, _, _, b, st, b', st', rfl, h⟩
/-! ### one + delay -/
def GivesAdd (K : PySem.W.Frag) (C CT CN : Addr) (b s : Rat) (o : Option Rat) (H : Hp) (Q : VK) (E : XK) : Prop := match o with
  | none => ∀ H', Same H H' → E (.ref CN) none H'
  | some d => Sz 3900 d ∧ (b + d < 0 → ∀ H', Same H H' → E (.ref CT) none H') ∧ (0 ≤ b + d → ∀ (x : Addr) H', Same H H' → MomAt K C H' (.ref x) (b + d) s → Q (.ref x) H')
def spAdd (K : PySem.W.Frag) (C CT CN : Addr) : Sp := fun vs H Q E => ∃ (v y : V) (b s : Rat) (o : Option Rat), vs = [v, y] ∧ MomAt K C H v b s ∧ Arg K H y o ∧ 0 < s ∧ Sz 3900 b ∧ GivesAdd K C CT CN b s o H Q E
theorem ok_mAdd {f C CT CN fP fM : Addr} {fd dP dM : FuncData} (F : Fun K "__add__" "Moments.__add__" mAdd f fd) (T : MomC K C) (gM : mg "Moments" = some (.ref C)) (DP : DefAt K mg "plus" s_plus ["first", "second"] fP dP) (MI : Mk K C fM) (bI : Binds K dM ["self", "begin", "step"] [])
    (GI : FnOk P w K mg base (CXl P w) 5 fM dM ["self", "begin", "step"] (spMI K C CT CN)) (GP : FnOk P w K mg base (CXl P w) 4 fP dP ["first", "second"] (sp_plus K CN)) : FnOk P w K mg base (CXl P w) 7 f fd ["self", "other"] (spAdd K C CT CN) := by
  refine F.okX sc_mAdd (fun vs H Q E h => ?_) (fun cdv A outer s H vs Q E hr h => ?_)
  · obtain ⟨v, y, b, s, o, rfl, _⟩ := h
    rfl
  · obtain ⟨v, y, b, st, o, rfl, ⟨p, dx, vb, vs', rfl, hp, hb, hs⟩, hy, s0, zb, q⟩ := h
    refine ⟨_, pss_one (ps_ret (pe_make MI GI hr (by rfl) gM bI .nil (passes_call (takes_of rfl rfl rfl rfl) fun _ _ _ _ h => h) (pa_cons (pe_call GP (hr.mono (by decide)) (by rfl) DP.g DP.F.kp DP.b .nil (passes_call (takes_of rfl rfl rfl rfl) fun _ _ _ _ h => h) (pa_cons (pe_fld (pv 0) rfl) (pa_cons (pv 1) pa_nil))) (pa_cons (pe_fld (pv 0) rfl) pa_nil)))), ?_⟩
    refine ⟨_, rfl, p, C, dx, _, _, rfl, hp, T.cl, T.nB, ml_begin _ _, y, rfl, vb, y, some b, o, rfl, hb.num, hy, ?_⟩
    cases o with
    | none => exact q
    | some d =>
      obtain ⟨zd, qn, qy⟩ := q
      refine ⟨⟨zb, zd⟩, fun v1 H1 s1 r1 => ?_⟩
      refine ⟨_, rfl, p, C, dx, _, _, rfl, s1 _ _ hp, T.cl, T.nS, ml_step _ _, fun x dy n1 n2 ne => ?_⟩
      have n3 : (upd H1 dy (.own x)) x = none := by rw [upd_ne ne.symm]; exact n1
      have s2 : Same H1 (upd (upd H1 dy (.own x)) x (.ins C dy [])) := (same_new n2).trans (same_new n3)
      refine ⟨x, dy, v1, vs', some (b + d), some st, rfl, upd_same, r1.num.same s2, (hs.same s1).num.same s2, fun z H' s' => qn z H' ((s1.trans s2).trans s'), fun nn => ⟨fun z => absurd s0 (Rat.not_lt.mpr z), fun _ H' bt m => ⟨rfl, qy nn x H' (s1.trans fun y o e => ?_) m⟩⟩⟩
      exact bt _ _ (ne_of_none e n1) (s2 _ _ e)
/-! ### one * factor -/
def GivesMul (K : PySem.W.Frag) (C CF : Addr) (b s : Rat) (o : Option Rat) (H : Hp) (Q : VK) (E : XK) : Prop := (isPos o = false → ∀ H', Same H H' → E (.ref CF) none H') ∧ ∀ d, o = some d → 0 < d → Sz 3900 d ∧ ∀ (x : Addr) H', Same H H' → MomAt K C H' (.ref x) (b * d) (s * d) → Q (.ref x) H'
def spMul (K : PySem.W.Frag) (C CF : Addr) : Sp := fun vs H Q E => ∃ (v y : V) (b s : Rat) (o : Option Rat), vs = [v, y] ∧ MomAt K C H v b s ∧ Arg K H y o ∧ 0 ≤ b ∧ 0 < s ∧ (Sz 3900 b ∧ Sz 3900 s) ∧ GivesMul K C CF b s o H Q E
theorem ok_mMul {f C CT CN CF fO fP fM : Addr} {fd dO dP dM : FuncData} (F : Fun K "__mul__" "Moments.__mul__" mMul f fd) (T : MomC K C) (gM : mg "Moments" = some (.ref C)) (DO : DefAt K mg "is_positive" s_is_positive ["value"] fO dO) (DP : DefAt K mg "times" s_times ["first", "second"] fP dP) (XF : ErrAt K mg "InvalidFactor" BMv "ValueError.__new__" CF) (MI : Mk K C fM) (bI : Binds K dM ["self", "begin", "step"] [])
    (GI : FnOk P w K mg base (CXl P w) 5 fM dM ["self", "begin", "step"] (spMI K C CT CN)) (GO : FnOk P w K mg base (CXl P w) 4 fO dO ["value"] (spPosi K)) (GP : FnOk P w K mg base (CXl P w) 4 fP dP ["first", "second"] (sp_times K CN)) : FnOk P w K mg base (CXl P w) 7 f fd ["self", "other"] (spMul K C CF) := by
  refine F.okX sc_mMul (fun vs H Q E h => ?_) (fun cdv A outer s H vs Q E hr h => ?_)
  · obtain ⟨v, y, b, s, o, rfl, _⟩ := h
    rfl
  · obtain ⟨v, y, b, st, o, rfl, ⟨p, dx, vb, vs', rfl, hp, hb, hs⟩, hy, b0, s0, ⟨zb, zs⟩, q⟩ := h
    refine ⟨_, pss_cons (ps_if (pt_not (pt_val (pe_call GO (hr.mono (by decide)) (by rfl) DO.g DO.F.kp DO.b .nil passL (pa_cons (pv 1) pa_nil)))) (pss_one (ps_raise rfl (takes_of rfl rfl rfl rfl) (XF.mk0 PySem.F.excBase_ValueError rfl))) pss_nil)
      (pss_one (ps_ret (pe_make MI GI hr (by rfl) gM bI .nil passL (pa_cons (pe_call GP (hr.mono (by decide)) (by rfl) DP.g DP.F.kp DP.b .nil passL (pa_cons (pe_fld (pv 0) rfl) (pa_cons (pv 1) pa_nil))) (pa_cons (pe_call GP (hr.mono (by decide)) (by rfl) DP.g DP.F.kp DP.b .nil passL (pa_cons (pe_fld (pv 0) rfl) (pa_cons (pv 1) pa_nil))) pa_nil))))), ?_⟩
    refine ⟨y, rfl, y, o, rfl, hy, fun H1 s1 => ⟨_, rfl, ?_⟩⟩
    obtain ⟨qn, qy⟩ := q
    refine ite2 (fun c => ?_) (fun c => ?_)
    · exact qn (by simpa using c) H1 s1
    · have c2 : isPos o = true := by simpa using c
      cases o with
      | none => cases c2
      | some d =>
        have d0 : 0 < d := of_decide_eq_true c2
        obtain ⟨zd, qy⟩ := qy d rfl d0
        refine ⟨_, rfl, p, C, dx, _, _, rfl, s1 _ _ hp, T.cl, T.nB, ml_begin _ _, y, rfl, vb, y, some b, some d, rfl, (hb.same s1).num, hy.same s1, ⟨zb, zd⟩, fun v1 H2 s2 r1 => ?_⟩
        refine ⟨_, rfl, p, C, dx, _, _, rfl, (s1.trans s2) _ _ hp, T.cl, T.nS, ml_step _ _, y, rfl, vs', y, some st, some d, rfl, (hs.same (s1.trans s2)).num, hy.same (s1.trans s2), ⟨zs, zd⟩, fun v2 H3 s3 r2 => ?_⟩
        refine make_ok (r1.same s3).num r2.num (Rat.mul_nonneg b0 (Rat.le_of_lt d0)) (Rat.mul_pos s0 d0) fun x H4 s4 m => ?_
        exact qy x H4 (((s1.trans s2).trans s3).trans s4) m
end
end LR
set_option Elab.async false
set_option linter.all false
set_option maxRecDepth 100000
set_option maxHeartbeats 4000000
/-! try: .. with several clauses, `except X as n` (all with one name) and `except X` mixed -/
namespace TM
open PySem PySem.Spec PyProof.Rows L2
abbrev Sui := Addr → Value → Option Addr → TS
/-- behind a suite the name is gone -/
def unset (i : Nat) (D : Ends) : Ends := ⟨fun u G => D.nx (u.set i none) G, D.rt, fun u G => D.bk (u.set i none) G, fun u G => D.ct (u.set i none) G⟩
/-- what the clauses wish, from the first on -/
def wAll (K : PySem.W.Frag) (i : Nat) (Wo : WX) (D : Ends) : List (Value × Bool × Sui) → WX
  | [] => Wo
  | p :: more => fun C dd u G => ∃ yes, PySem.W.exmOne K C p.1 = some yes ∧ (yes = true → ∀ x, G x = none → if p.2.1 then p.2.2 x C dd (unset i D) (u.set i (some (.ref x))) G else p.2.2 x C dd D u G) ∧ (yes = false → wAll K i Wo D more C dd u G)
inductive Clauses (X : Cx) (n : Str) : List ExceptHandler → List (Value × Bool × Sui) → Prop
  | nil : Clauses X n [] []
  | cons {y : Str} {c : Value} {ts : Sui} {b : Stmt} {bs : List Stmt} {p1 p2 : Pos} {hs : List ExceptHandler} {l : List (Value × Bool × Sui)} (names : Names X y c)
      (su : ∀ (x : Addr) (ox : Obj) (C : Value) (dd : Option Addr) (pn : List (Addr × Obj)), Zc C dd ox → (∃ vs, ox.data = .fields vs) → PSs (X.suite x ((x, ox) :: pn)) (b :: bs) (ts x C dd)) (more : Clauses X n hs l) :
      Clauses X n (.ExceptHandler (some (.Name y p1)) (some n) (b :: bs) p2 :: hs) ((c, true, ts) :: l)
  | bare {y : Str} {c : Value} {ts : Sui} {b : Stmt} {bs : List Stmt} {p1 p2 : Pos} {hs : List ExceptHandler} {l : List (Value × Bool × Sui)} (names : Names X y c)
      (su : ∀ (x : Addr) (ox : Obj) (C : Value) (dd : Option Addr) (pn : List (Addr × Obj)), Zc C dd ox → (∃ vs, ox.data = .fields vs) → PSs (X.suite x ((x, ox) :: pn)) (b :: bs) (ts x C dd)) (more : Clauses X n hs l) :
      Clauses X n (.ExceptHandler (some (.Name y p1)) none (b :: bs) p2 :: hs) ((c, false, ts) :: l)
section
variable {X : Cx} {n : Str} {i : Nat} {body : List Stmt} {h1 : ExceptHandler} {hs : List ExceptHandler} {l : List (Value × Bool × Sui)} {pos : Pos} {tb : WX → TS} {Wo : WX}
theorem ps_tryAs (e1 : X.stack = X.env :: X.outer) (e2 : X.env.frame = some X.env.locals) (nd : X.N.Nodup) (at_ : X.N[i]? = some n) (lo : X.env.kindOf n = some .local) (tk : Takes X Wo)
    (hb : ∀ (W : WX) (pn : List (Addr × Obj)) (xe : Value → Shared → Prop), Takes (X.tr pn xe) W → PassesOwn (model X.prog X.w) X.A X.env xe → PSs (X.tr pn xe) body (tb W)) (hh : Clauses X n (h1 :: hs) l) :
    PS X (.Try body (h1 :: hs) [] [] pos) (fun D u G => tb (wAll X.K i Wo D l) D u G) := by
  refine ⟨fun pins s u G D I r => ?_⟩
  have ok := I.ok
  have frames : X.A.frames = some (X.env :: X.outer) := by rw [ok.frames, e1]
  have vis : Loc X.env.scope n := .inl lo
  refine wpAny_Try_except ?_
  refine wpAny_mono ((hb (wAll X.K i Wo D l) (X.pn ++ pins) (fun x t1 => wpAny (model X.prog X.w) X.A (noteFrame x X.env)
      (fun _ t2 => wpAny (model X.prog X.w) X.A (setFlight x none) (fun _ t3 => wpAny (model X.prog X.w) X.A (handleBy x X.env (h1 :: hs)) (SP X pins D) X.xe t3) X.xe t2) X.xe t1)
      (fun v t z => ?_) PassesOwn.looking).run [] s u G D (I.toTry _) r) (fun fl t z => ?_) (fun _ _ z => z)
  · obtain ⟨x, B, t0, pins', u', G', C, dd, rfl, Jt, nb, upt, sky, nx, os, bare, wish⟩ := z
    have J : Inv X pins u' G' t0 := Jt.ofTry ok
    have sky2 : Sky B (X.env :: X.outer) x (Zc C dd) X.env.locals t.heap := e1 ▸ sky
    show wpAny (model X.prog X.w) X.A (noteFrame (.ref x) X.env) _ _ _
    refine Sky.land Zc.steady frames e2 sky2 fun g3 fly up3 => ?_
    have J3 : Inv X pins u' G' { t with heap := g3 } := J.landed nb fly.1 (upt.trans up3) os bare
    obtain ⟨ox, vx, hx, zx, dx⟩ := fly.there
    have out : x ∉ frs (X.env :: X.outer) := fun m => by
      obtain ⟨_, ob, eb, no⟩ := fly.2.2.1.mem m
      cases hx.symm.trans eb
      exact no _ dx
    have notL : x ≠ X.env.locals := fun z => out (List.mem_filterMap.mpr ⟨X.env, List.mem_cons_self, by rw [e2, z]⟩)
    have notF : x ∉ X.fs := fun m => let ⟨v, hv, q⟩ := List.mem_filterMap.mp m; out (List.mem_filterMap.mpr ⟨v, List.mem_cons_of_mem _ hv, q⟩)
    have S3 := J3.suite hx dx nx notL notF
    have ty : PySem.W.Looks (model X.prog X.w) g3 (typeOf (.ref x)) C := fun _ _ _ _ keep q => wpAny_typeOf_ref (keep _ _ hx) (by rw [zx.1]; exact q)
    have go : ∀ {hs' : List ExceptHandler} {l' : List (Value × Bool × Sui)}, Clauses X n hs' l' → wAll X.K i Wo D l' C dd u' G' →
        wpAny (model X.prog X.w) X.A (handleBy (.ref x) X.env hs') (SP X pins D) X.xe { t with heap := g3 } := by
      intro hs' l' cl
      induction cl with
      | nil =>
        intro wish
        refine wpAny_handleBy_nil ?_
        obtain ⟨k1, k2, k3, o9, v9, T, oT, tT, a9, z9, d9, f9, r9⟩ := id fly
        unfold PySem.passOn
        refine wpAny_bind (wpAny_field a9 d9 f9 ?_)
        rw [if_neg (show ¬ ((Value.ref T == Value.none) = true) by simp)]
        have fin : wpAny (model X.prog X.w) X.A (setFlight (.ref x) X.env.frame) (fun _ t4 => wpAny (model X.prog X.w) X.A (throw (.ref x) : Sem Flow) (SP X pins D) X.xe t4) X.xe { t with heap := g3 } := by
          rw [e2]
          exact HandSPX.setFlight_upZ fly fun g4 held up4 => wpAny_throw (tk _ _ ⟨x, B, t0, pins, u', G', C, dd, rfl, J, nb, (upt.trans up3).trans up4, .inr (.inr (e1.symm ▸ held)), nx, os, bare, wish⟩)
        first | exact wpAny_bind (wpAny_pure (wpAny_bind fin)) | exact wpAny_bind fin
      | @cons y c ts b bs p1 p2 hs2 l2 names su more ih =>
        intro wish
        obtain ⟨yes, m1, onYes, onNo⟩ := wish
        refine wpAny_handleBy_cons (codeAny_handlers_test ?_) (fun z => by cases z)
        have names' := names
        have clause : ∀ {Q : Value → Shared → Prop} {E : Value → Shared → Prop}, Q c { t with heap := g3 } → wpAny (model X.prog X.w) (X.A.mark (some (.ref x))) (eval (.Name y p1) X.env) Q E { t with heap := g3 } := fun q => by
          obtain ⟨gl, dbg, m | ⟨m, bv, nn⟩⟩ := names'
          · exact ld_glob (X := X.suite x ((x, ox) :: (X.pn ++ pins))) S3 gl m q dbg
          · exact ld_blt (X := X.suite x ((x, ox) :: (X.pn ++ pins))) S3 gl m bv q nn dbg
        refine clause ((PySem.W.exm_one (M := model X.prog X.w) J3.kIn ty m1).here ?_)
        cases yes with
        | false => exact ih (onNo rfl)
        | true =>
          refine codeAny_handlers_suite_as (HandSPX.lands_againZ fly fun g4 fly4 up4 => ?_)
          have J4 : Inv X pins u' G' { t with heap := g4 } := J.landed nb fly4.1 ((upt.trans up3).trans up4) os bare
          obtain ⟨o4, v4, h4, z4, d4⟩ := fly4.there
          refine store_ok (X := X.suite x ((x, o4) :: (X.pn ++ pins))) (v := .ref x) (J4.suite h4 d4 nx notL notF) nd at_ vis rfl (fun t5 S5 => ?_) (.inr lo)
          refine wpAny_mono ((su x o4 C dd (X.pn ++ pins) z4 ⟨_, d4⟩).run [] t5 _ G' _ S5 (onYes rfl x nx)) (fun fl t6 z => ?_) (fun _ _ z => z.elim)
          have last : ∀ {u6 : L2.St} {G6 : Hp} {Q : Shared → Prop}, Inv (X.suite x ((x, o4) :: (X.pn ++ pins))) [] u6 G6 t6 → (∀ t7, Inv X pins (u6.set i none) G6 t7 → Q t7) →
              wpAny (model X.prog X.w) X.A (do bindName X.env n .none; unbindBehindTheSuite X.env n p2) (fun _ t7 => Q t7) X.xe t6 := fun S6 q => gone_ok (S6.unsuite ok) nd at_ lo q
          cases fl with
          | ret u9 => exact let ⟨_, _, _, S6, rv, q⟩ := z; last S6 fun _ J7 => ⟨_, _, _, J7, rv, q⟩
          | next => exact let ⟨_, _, S6, q⟩ := z; last S6 fun _ J7 => ⟨_, _, J7, q⟩
          | brk => exact let ⟨_, _, S6, q⟩ := z; last S6 fun _ J7 => ⟨_, _, J7, q⟩
          | cont => exact let ⟨_, _, S6, q⟩ := z; last S6 fun _ J7 => ⟨_, _, J7, q⟩
      | @bare y c ts b bs p1 p2 hs2 l2 names su more ih =>
        intro wish
        obtain ⟨yes, m1, onYes, onNo⟩ := wish
        refine wpAny_handleBy_cons (codeAny_handlers_test ?_) (fun z => by cases z)
        have names' := names
        have clause : ∀ {Q : Value → Shared → Prop} {E : Value → Shared → Prop}, Q c { t with heap := g3 } → wpAny (model X.prog X.w) (X.A.mark (some (.ref x))) (eval (.Name y p1) X.env) Q E { t with heap := g3 } := fun q => by
          obtain ⟨gl, dbg, m | ⟨m, bv, nn⟩⟩ := names'
          · exact ld_glob (X := X.suite x ((x, ox) :: (X.pn ++ pins))) S3 gl m q dbg
          · exact ld_blt (X := X.suite x ((x, ox) :: (X.pn ++ pins))) S3 gl m bv q nn dbg
        refine clause ((PySem.W.exm_one (M := model X.prog X.w) J3.kIn ty m1).here ?_)
        cases yes with
        | false => exact ih (onNo rfl)
        | true =>
          refine codeAny_handlers_suite (HandSPX.lands_againZ fly fun g4 fly4 up4 => ?_)
          have J4 : Inv X pins u' G' { t with heap := g4 } := J.landed nb fly4.1 ((upt.trans up3).trans up4) os bare
          obtain ⟨o4, v4, h4, z4, d4⟩ := fly4.there
          refine wpAny_mono ((su x o4 C dd (X.pn ++ pins) z4 ⟨_, d4⟩).run [] _ _ G' _ (J4.suite h4 d4 nx notL notF) (onYes rfl x nx)) (fun fl t6 z => ?_) (fun _ _ z => z.elim)
          cases fl with
          | ret u9 => exact let ⟨_, _, _, S6, rv, q⟩ := z; ⟨_, _, _, S6.unsuite ok, rv, q⟩
          | next => exact let ⟨_, _, S6, q⟩ := z; ⟨_, _, S6.unsuite ok, q⟩
          | brk => exact let ⟨_, _, S6, q⟩ := z; ⟨_, _, S6.unsuite ok, q⟩
          | cont => exact let ⟨_, _, S6, q⟩ := z; ⟨_, _, S6.unsuite ok, q⟩
    exact go hh wish
  · cases fl with
    | ret u9 => exact let ⟨_, _, _, J, rv, q⟩ := z; ⟨_, _, _, J.ofTry ok, rv, q⟩
    | next => exact let ⟨_, _, J, q⟩ := z; wpAny_execs_nil ⟨_, _, J.ofTry ok, q⟩
    | brk => exact let ⟨_, _, J, q⟩ := z; ⟨_, _, J.ofTry ok, q⟩
    | cont => exact let ⟨_, _, J, q⟩ := z; ⟨_, _, J.ofTry ok, q⟩
end
end TM
set_option Elab.async false
set_option linter.all false
set_option maxRecDepth 100000
set_option maxHeartbeats 4000000
set_option exponentiation.threshold 100000
namespace LR
open PySem PySem.Spec PyProof.Rows L2
theorem sc_law_common : FnScope ["first", "second", "unit", "most", "units", "both", "k"] ["first", "second", "unit"] (defScope s_law_common) := ⟨rfl, rfl, rfl, by decide +kernel, rfl, by decide +kernel, by decide +kernel⟩
theorem sc_law_error : FnScope ["kind", "one", "value", "e"] ["kind", "one", "value"] (defScope s_law_error) := ⟨rfl, rfl, rfl, by decide +kernel, rfl, by decide +kernel, by decide +kernel⟩
/-- what is wished of an exception at whatever slots -/
abbrev EW (W : WX) (n : Nat) : XK := fun cls d H => ∀ σ : L2.St, σ.length = n → W cls d σ H
theorem passW {X : Cx} {W : WX} {n : Nat} (tk : Takes X W) (hn : X.N.length = n) : Passes (L2.CX X.prog X.w) X (EW W n) := fun pins σ H s e s' I c => tk e s' (XE.of_call I (fun cls d H' h => h σ (I.len.trans hn)) c)
/-- an own error class over ValueError that an except clause names and that is asked for -/
structure ErrE (K : PySem.W.Frag) (mg : Str → Option Value) (x : Str) (C : Addr) : Prop where
  T : ErrAt K mg x BMv "ValueError.__new__" C
  M : ErrM K C
  X : ExcC K C
  v : PySem.W.kitOne K (.ref C) (.type "ValueError") = some true
theorem set3 {σ : L2.St} {y : Option V} (h : σ.length = 4) : (σ.set 3 y)[3]? = some y := by
  rw [List.getElem?_set_self (by omega)]
theorem with_cont {S T : Hp → Prop} {g : Prop} (main : (∀ h, S h → T h) → g) (cont : ∀ h, S h → T h) : g := main cont
theorem keq {i j : Int} : decide (V.int i = V.int j) = decide (i = j) := by
  rw [decide_eq_decide, V.int.injEq]
/-! ### lists of whole numbers, chosen one by one -/
theorem map_get {ns : List Int} {j : Nat} {x : V} (h : (ns.map V.int)[j]? = some x) : ∃ z, x = .int z ∧ ns[j]? = some z := by
  rw [List.getElem?_map] at h
  obtain ⟨z, e, rfl⟩ := Option.map_eq_some_iff.mp h
  exact ⟨z, rfl, e⟩
theorem filt_yes {ns : List Int} {P : Int → Bool} {j : Nat} {z : Int} (h : ns[j]? = some z) (c : P z = true) : ((ns.take (j + 1)).filter P).map V.int = ((ns.take j).filter P).map V.int ++ [.int z] := by
  rw [take_snoc h, List.filter_append, List.filter_cons_of_pos (p := P) c, List.map_append]
  rfl
theorem filt_no {ns : List Int} {P : Int → Bool} {j : Nat} {z : Int} (h : ns[j]? = some z) (c : ¬ P z = true) : ((ns.take (j + 1)).filter P).map V.int = ((ns.take j).filter P).map V.int := by
  rw [take_snoc h, List.filter_append, List.filter_cons_of_neg (p := P) c, List.filter_nil, List.append_nil]
theorem filt_len {ns : List Int} {P : Int → Bool} {j : Nat} : (((ns.take j).filter P).map V.int).length ≤ ns.length := by
  rw [List.length_map]
  have := List.length_filter_le P (ns.take j)
  rw [List.length_take] at this
  omega
theorem dvd_dec {k B S : Int} (h : 0 < S) : decide (V.int ((k - B).fmod S) = V.int 0) = decide (S ∣ k - B) := by
  rw [keq, decide_eq_decide]
  exact ⟨fun e => Int.dvd_of_fmod_eq_zero e, fun e => Int.fmod_eq_zero_of_dvd e⟩
section
variable {P : Program} {w : World} {K : PySem.W.Frag} {mg : Str → Option Value} {base : Heap}
/-! ### _law_common -/
def spLCo (K : PySem.W.Frag) (C : Addr) : Sp := fun vs H Q _ => ∃ (x y : V) (a1 a2 : Addr) (u B S B' S' : Int), vs = [.ref a1, .ref a2, .int u] ∧ SqT K H a1 [.int B, .int S] ∧ SqT K H a2 [.int B', .int S'] ∧ (1 ≤ u ∧ u ≤ 6) ∧ (0 ≤ B ∧ B < 20) ∧ (1 ≤ S ∧ S ≤ 12) ∧ (0 ≤ B' ∧ B' < 20) ∧ (1 ≤ S' ∧ S' ≤ 12) ∧
  GivesC K C (Rat.divInt B u) (Rat.divInt S u) (Rat.divInt B' u) (Rat.divInt S' u) H Q
theorem ok_LCo {f C CT CN fC fM : Addr} {fd dC dM : FuncData} (D : DefAt K mg "_law_common" s_law_common ["first", "second", "unit"] f fd) (gM : mg "Moments" = some (.ref C)) (MI : Mk K C fM) (bI : Binds K dM ["self", "begin", "step"] []) (DC : DefAt K mg "_law_cut" s_law_cut ["top", "bottom"] fC dC)
    (mx : mg "max" = none) (ml : mg "list" = none) (mr : mg "range" = none) (GI : FnOk P w K mg base (CXl P w) 5 fM dM ["self", "begin", "step"] (spMI K C CT CN)) (GC : FnOk P w K mg base (CXl P w) 1 fC dC ["top", "bottom"] (spCut K)) :
    FnOk P w K mg base (CXl P w) 7 f fd ["first", "second", "unit"] (spLCo K C) := by
  refine D.F.okX sc_law_common (fun vs H Q E h => ?_) (fun cdv A outer s H vs Q E hr h => ?_)
  · obtain ⟨x, y, a1, a2, u, B, S, B', S', rfl, _⟩ := h
    rfl
  · obtain ⟨x, y, a1, a2, u, B, S, B', S', rfl, t1, t2, ⟨u1, u6⟩, ⟨B0, B1⟩, ⟨S0, S1⟩, ⟨B0', B1'⟩, ⟨S0', S1'⟩, qN, qY⟩ := h
    have nd := sc_law_common.nd
    have h1 : Room 1 _ := hr.mono (by decide)
    refine ⟨_, pss_cons (ps_set (i := 3) nd rfl (.inl rfl) (pe_callB (call_max2 rfl) (by rfl) mx (by decide +kernel) (pa_cons (pe_ix (r := rIxT K) ix_tup (pv 0) pe_int (fun _ _ => rfl)) (pa_cons (pe_ix (r := rIxT K) ix_tup (pv 1) pe_int (fun _ _ => rfl)) pa_nil))))
      (pss_cons (ps_set (i := 4) nd rfl (.inl rfl) (pe_listRg rfl (by rfl) ml (prg_2 (by rfl) mr (pv 3) (pe_op op_add (pv 3) (pe_op op_mulW (pe_op op_mulW pe_int (pe_ix (r := rIxT K) ix_tup (pv 0) pe_int (fun _ _ => rfl))) (pe_ix (r := rIxT K) ix_tup (pv 1) pe_int (fun _ _ => rfl)))))))
      (pss_cons (ps_setLc (i := 5) (wi := iList K (tVar 4)) (own := [("k", 6)]) (g := gName 6) (by rfl) nd rfl rfl (sw_true rfl rfl rfl (by decide +kernel)) (pi_list (pv 4)) (blkOk_by (N := ["first", "second", "unit", "most", "units", "both", "k"]) (sc := defScope s_law_common) (by decide +kernel)) (fun _ _ _ _ _ => pg_name (i := 6) nd rfl (.inl rfl))
            (fun _ _ _ _ _ => pts_one (pt_cmpR op_eq (pe_op op_modN (pe_op op_sub (pv 6) (pe_ix (r := rIxT K) ix_tup (pv 0) pe_int (fun _ _ => rfl))) (pe_ix (r := rIxT K) ix_tup (pv 0) pe_int (fun _ _ => rfl))) pe_int (nomark _))) (fun _ _ _ _ _ => pv 6))
      (pss_cons (ps_setLc (i := 5) (wi := iList K (tVar 5)) (own := [("k", 6)]) (g := gName 6) (by rfl) nd rfl rfl (sw_true rfl rfl rfl (by decide +kernel)) (pi_list (pv 5)) (blkOk_by (N := ["first", "second", "unit", "most", "units", "both", "k"]) (sc := defScope s_law_common) (by decide +kernel)) (fun _ _ _ _ _ => pg_name (i := 6) nd rfl (.inl rfl))
            (fun _ _ _ _ _ => pts_one (pt_cmpR op_eq (pe_op op_modN (pe_op op_sub (pv 6) (pe_ix (r := rIxT K) ix_tup (pv 1) pe_int (fun _ _ => rfl))) (pe_ix (r := rIxT K) ix_tup (pv 1) pe_int (fun _ _ => rfl))) pe_int (nomark _))) (fun _ _ _ _ _ => pv 6))
      (pss_cons (ps_if (pt_cmpR (op_eqD hr.units) (pv 5) (pe_lst pa_nil) (nomark _)) (pss_one (ps_ret pe_non)) pss_nil)
      (pss_one (ps_ret (pe_make MI GI (hr.mono (by decide)) (by rfl) gM bI .nil passL (pa_cons (pe_call GC h1 (by rfl) DC.g DC.F.kp DC.b .nil passL (pa_cons (pe_ix (r := rIxL K) ix_list (pv 5) pe_int (fun _ _ => rfl)) (pa_cons (pv 2) pa_nil)))
        (pa_cons (pe_call GC h1 (by rfl) DC.g DC.F.kp DC.b .nil passL (pa_cons (pe_op op_sub (pe_ix (r := rIxL K) ix_list (pv 5) pe_int (fun _ _ => rfl)) (pe_ix (r := rIxL K) ix_list (pv 5) pe_int (fun _ _ => rfl))) (pa_cons (pv 2) pa_nil))) pa_nil))))))))), ?_⟩
    -- most
    refine ⟨_, rfl, a1, _, 0, _, rfl, rfl, t1, atI_nat (j := 0) rfl, _, rfl, a2, _, 0, _, rfl, rfl, t2, atI_nat (j := 0) rfl, B, B', rfl, ?_⟩
    obtain ⟨m, em⟩ : ∃ m : Int, m = max B B' := ⟨_, rfl⟩
    have e0 : (if B' > B then B' else B) = m := by rw [em]; split <;> omega
    show tNext _ (List.set _ 3 (some (.int (if B' > B then B' else B)))) H
    rw [e0]
    -- units
    have zn : ∀ {z : Int}, 0 ≤ z → z < 1000 → z.natAbs < 2 ^ 3900 := fun h1 h2 => Nat.lt_of_lt_of_le (show _ < 2 ^ 10 by omega) (Nat.pow_le_pow_right (by decide) (by decide))
    have SS : 0 ≤ S * S' ∧ S * S' ≤ 144 := by
      refine ⟨Int.mul_nonneg (by omega) (by omega), ?_⟩
      have h1 := Int.mul_le_mul_of_nonneg_right S1 (show 0 ≤ S' by omega)
      omega
    have eSS : 2 * S * S' = 2 * (S * S') := Int.mul_assoc _ _ _
    refine ⟨_, rfl, _, rfl, _, rfl, a1, _, 1, _, rfl, rfl, t1, atI_nat (j := 1) rfl, 2, S, rfl, rfl, wm (zn (by decide) (by decide)) (zn (by omega) (by omega)), _, rfl, a2, _, 1, _, rfl, rfl, t2, atI_nat (j := 1) rfl, 2 * S, S', rfl, rfl, wm (zn (by omega) (by omega)) (zn (by omega) (by omega)), m, 2 * S * S', rfl, rfl, m, m + 2 * S * S', rfl, rfl, RgOk.of_le (by omega) (by omega) (by omega) (by omega), fun l1 n1 => ?_⟩
    have s1 : Same H (upd H l1 (.lst (rgV m (m + 2 * S * S')))) := same_new n1
    have hl1 : (upd H l1 (.lst (rgV m (m + 2 * S * S')))) l1 = some (.lst (rgV m (m + 2 * S * S'))) := upd_same
    show tNext _ _ (upd H l1 (.lst (rgV m (m + 2 * S * S'))))
    generalize (upd H l1 (.lst (rgV m (m + 2 * S * S')))) = H1 at s1 hl1 ⊢
    obtain ⟨ns, ens⟩ : ∃ ns : List Int, ns = (List.range (2 * S * S').toNat).map fun i : Nat => m + (i : Int) := ⟨_, rfl⟩
    have erg : rgV m (m + 2 * S * S') = ns.map V.int := by
      unfold rgV
      rw [ens, List.map_map, show m + 2 * S * S' - m = 2 * S * S' by omega]
      rfl
    rw [erg] at hl1
    have nl : ns.length ≤ 300 := by
      rw [ens, List.length_map, List.length_range]
      omega
    have big : ∀ {k : Nat}, k ≤ 300 → k < sizeLine := fun h => Nat.lt_trans (show _ < 1000 by omega) (small1000 (Nat.le_refl _))
    have q1 : ∀ {j : Nat} {x : V}, (ns.map V.int)[j]? = some x → ∃ z, x = .int z ∧ ns[j]? = some z := map_get
    -- both, first
    refine ⟨_, rfl, l1, rfl, ⟨_, .of hl1⟩, fun l2 n2 => lc_list (xs := ns.map V.int) (fun j H2 => Same H1 H2 ∧ H2 l2 = some (.lst (((ns.take j).filter fun k => decide (V.int ((k - B).fmod S) = V.int 0)).map V.int))) ⟨same_new n2, upd_same⟩ (fun j H2 _ hP => hP.1.seq (.of hl1)) (fun j x H2 hx hP => ?_) (fun H2 hP => ?_)⟩
    · obtain ⟨sm, hD⟩ := hP
      obtain ⟨z, rfl, hz⟩ := map_get hx
      have t1' := same_sqt (s1.trans sm) t1
      refine ⟨rfl, _, rfl, _, rfl, a1, _, 0, _, rfl, rfl, t1', atI_nat (j := 0) rfl, z, B, rfl, rfl, _, rfl, a1, _, 1, _, rfl, rfl, t1', atI_nat (j := 1) rfl, z - B, S, rfl, rfl, show S ≠ 0 by omega, rfl, _, rfl, ite2 (fun c => ?_) (fun c => ?_)⟩
      · refine ⟨_, rfl, _, hD, big (Nat.le_trans filt_len nl), same_but sm n2, ?_⟩
        rw [upd_same, filt_yes hz c]
      · refine ⟨sm, ?_⟩
        rw [hD, filt_no hz c]
    · obtain ⟨s2, hl2⟩ := hP
      rw [List.length_map, List.take_length] at hl2
      obtain ⟨ms, ems⟩ : ∃ ms : List Int, ms = ns.filter fun k => decide (V.int ((k - B).fmod S) = V.int 0) := ⟨_, rfl⟩
      rw [← ems] at hl2
      have mlen : ms.length ≤ 300 := by rw [ems]; exact Nat.le_trans (List.length_filter_le _ _) nl
      -- both, second
      refine ⟨_, rfl, l2, rfl, ⟨_, .of hl2⟩, fun l3 n3 => lc_list (xs := ms.map V.int) (fun j H3 => Same H2 H3 ∧ H3 l3 = some (.lst (((ms.take j).filter fun k => decide (V.int ((k - B').fmod S') = V.int 0)).map V.int))) ⟨same_new n3, upd_same⟩ (fun j H3 _ hP => hP.1.seq (.of hl2)) (fun j x H3 hx hP => ?_) (fun H3 hP => ?_)⟩
      · obtain ⟨sm, hD⟩ := hP
        obtain ⟨z, rfl, hz⟩ := map_get hx
        have t2' := same_sqt ((s1.trans s2).trans sm) t2
        refine ⟨rfl, _, rfl, _, rfl, a2, _, 0, _, rfl, rfl, t2', atI_nat (j := 0) rfl, z, B', rfl, rfl, _, rfl, a2, _, 1, _, rfl, rfl, t2', atI_nat (j := 1) rfl, z - B', S', rfl, rfl, show S' ≠ 0 by omega, rfl, _, rfl, ite2 (fun c => ?_) (fun c => ?_)⟩
        · refine ⟨_, rfl, _, hD, big (Nat.le_trans filt_len mlen), same_but sm n3, ?_⟩
          rw [upd_same, filt_yes hz c]
        · refine ⟨sm, ?_⟩
          rw [hD, filt_no hz c]
      · obtain ⟨s3, hl3⟩ := hP
        rw [List.length_map, List.take_length] at hl3
        obtain ⟨ys, eys⟩ : ∃ ys : List Int, ys = ms.filter fun k => decide (V.int ((k - B').fmod S') = V.int 0) := ⟨_, rfl⟩
        rw [← eys] at hl3
        have ey2 : ys = ((List.range (2 * S * S').toNat).map fun i : Nat => m + (i : Int)).filter fun k => decide (S ∣ k - B) && decide (S' ∣ k - B') := by
          rw [eys, ems, List.filter_filter, ← ens]
          congr 1
          funext k
          rw [dvd_dec (by omega), dvd_dec (by omega), Bool.and_comm]
        have s13 := (s1.trans s2).trans s3
        refine ⟨_, rfl, by show 0 ≤ sizeLine; decide, fun e1 ne1 => ?_⟩
        have s4 : Same H3 (upd H3 e1 (.lst [])) := same_new ne1
        have he1 : (upd H3 e1 (.lst [])) e1 = some (.lst []) := upd_same
        show rEqD _ _ _ (upd H3 e1 (.lst [])) _
        generalize (upd H3 e1 (.lst [])) = H4 at s4 he1 ⊢
        have hl4 := s4 _ _ hl3
        refine ⟨_, _, .lst (.of hl4) (dpIs ys), .lst (.of he1) .nil, shapedIs ys, by decide, ?_⟩
        rw [eqvNil]
        have un : ∀ N : Int, Un u (Rat.divInt N u) N := fun N => un_div (by omega)
        have up : (0 : Int) < u := by omega
        have nC := none_iff up (un B) (un S) (un B') (un S')
        rcases seen (by omega) (by omega) (show (((2 * S * S').toNat : Nat) : Int) = 2 * S * S' by omega) em ey2 with ⟨rfl, no⟩ | ⟨f1, g1, r, rfl, fI, tI⟩
        · exact ⟨_, rfl, iteT (qN H4 (s13.trans s4) (nC no))⟩
        · refine ⟨_, rfl, iteF ?_⟩
          have zu : u.natAbs < 2 ^ 8000 := Nat.lt_of_lt_of_le (show _ < 2 ^ 10 by omega) (Nat.pow_le_pow_right (by decide) (by decide))
          refine ⟨_, rfl, l3, _, 0, _, rfl, rfl, .of hl4, atI_nat (j := 0) rfl, _, rfl, f1, u, rfl, up, zu, fun vf H5 s5 rf => ?_⟩
          have hl5 := s5 _ _ hl4
          refine ⟨_, rfl, l3, _, 1, _, rfl, rfl, .of hl5, atI_nat (j := 1) rfl, _, rfl, l3, _, 0, _, rfl, rfl, .of hl5, atI_nat (j := 0) rfl, g1, f1, rfl, rfl, _, rfl, g1 - f1, u, rfl, up, zu, fun vt H6 s6 rt => ?_⟩
          have fR := firstR_of up (un B) (un S) (un B') (un S') (un f1) fI
          have tR := stepR_of up (un S) (un S') (un (g1 - f1)) tI
          have f0 : 0 ≤ f1 := by have := fI.1.l; omega
          refine make_ok (rf.same s6).num rt.num (divInt_nonneg f0 up) tR.pos fun x H7 s7 m7 => ?_
          exact qY x H7 _ _ ((((s13.trans s4).trans s5).trans s6).trans s7) fR tR m7
end
end LR
set_option Elab.async false
set_option linter.all false
set_option maxRecDepth 100000
set_option maxHeartbeats 4000000
/-! try: .. with several clauses `except X as n`, all with one name -/
namespace TA
open PySem PySem.Spec PyProof.Rows L2
abbrev Sui := Addr → Value → Option Addr → TS
/-- behind a suite the name is gone -/
def unset (i : Nat) (D : Ends) : Ends := ⟨fun u G => D.nx (u.set i none) G, D.rt, fun u G => D.bk (u.set i none) G, fun u G => D.ct (u.set i none) G⟩
/-- what the clauses wish, from the first on -/
def wAll (K : PySem.W.Frag) (i : Nat) (Wo : WX) (D : Ends) : List (Value × Sui) → WX
  | [] => Wo
  | p :: more => fun C dd u G => ∃ yes, PySem.W.exmOne K C p.1 = some yes ∧ (yes = true → ∀ x, G x = none → p.2 x C dd (unset i D) (u.set i (some (.ref x))) G) ∧ (yes = false → wAll K i Wo D more C dd u G)
inductive Clauses (X : Cx) (n : Str) : List ExceptHandler → List (Value × Sui) → Prop
  | nil : Clauses X n [] []
  | cons {y : Str} {c : Value} {ts : Sui} {b : Stmt} {bs : List Stmt} {p1 p2 : Pos} {hs : List ExceptHandler} {l : List (Value × Sui)} (names : Names X y c)
      (su : ∀ (x : Addr) (ox : Obj) (C : Value) (dd : Option Addr) (pn : List (Addr × Obj)), Zc C dd ox → (∃ vs, ox.data = .fields vs) → PSs (X.suite x ((x, ox) :: pn)) (b :: bs) (ts x C dd)) (more : Clauses X n hs l) :
      Clauses X n (.ExceptHandler (some (.Name y p1)) (some n) (b :: bs) p2 :: hs) ((c, ts) :: l)
section
variable {X : Cx} {n : Str} {i : Nat} {body : List Stmt} {h1 : ExceptHandler} {hs : List ExceptHandler} {l : List (Value × Sui)} {pos : Pos} {tb : WX → TS} {Wo : WX}
theorem ps_tryAs (e1 : X.stack = X.env :: X.outer) (e2 : X.env.frame = some X.env.locals) (nd : X.N.Nodup) (at_ : X.N[i]? = some n) (lo : X.env.kindOf n = some .local) (tk : Takes X Wo)
    (hb : ∀ (W : WX) (pn : List (Addr × Obj)) (xe : Value → Shared → Prop), Takes (X.tr pn xe) W → PassesOwn (model X.prog X.w) X.A X.env xe → PSs (X.tr pn xe) body (tb W)) (hh : Clauses X n (h1 :: hs) l) :
    PS X (.Try body (h1 :: hs) [] [] pos) (fun D u G => tb (wAll X.K i Wo D l) D u G) := by
  refine ⟨fun pins s u G D I r => ?_⟩
  have ok := I.ok
  have frames : X.A.frames = some (X.env :: X.outer) := by rw [ok.frames, e1]
  have vis : Loc X.env.scope n := .inl lo
  refine wpAny_Try_except ?_
  refine wpAny_mono ((hb (wAll X.K i Wo D l) (X.pn ++ pins) (fun x t1 => wpAny (model X.prog X.w) X.A (noteFrame x X.env)
      (fun _ t2 => wpAny (model X.prog X.w) X.A (setFlight x none) (fun _ t3 => wpAny (model X.prog X.w) X.A (handleBy x X.env (h1 :: hs)) (SP X pins D) X.xe t3) X.xe t2) X.xe t1)
      (fun v t z => ?_) PassesOwn.looking).run [] s u G D (I.toTry _) r) (fun fl t z => ?_) (fun _ _ z => z)
  · obtain ⟨x, B, t0, pins', u', G', C, dd, rfl, Jt, nb, upt, sky, nx, os, bare, wish⟩ := z
    have J : Inv X pins u' G' t0 := Jt.ofTry ok
    have sky2 : Sky B (X.env :: X.outer) x (Zc C dd) X.env.locals t.heap := e1 ▸ sky
    show wpAny (model X.prog X.w) X.A (noteFrame (.ref x) X.env) _ _ _
    refine Sky.land Zc.steady frames e2 sky2 fun g3 fly up3 => ?_
    have J3 : Inv X pins u' G' { t with heap := g3 } := J.landed nb fly.1 (upt.trans up3) os bare
    obtain ⟨ox, vx, hx, zx, dx⟩ := fly.there
    have out : x ∉ frs (X.env :: X.outer) := fun m => by
      obtain ⟨_, ob, eb, no⟩ := fly.2.2.1.mem m
      cases hx.symm.trans eb
      exact no _ dx
    have notL : x ≠ X.env.locals := fun z => out (List.mem_filterMap.mpr ⟨X.env, List.mem_cons_self, by rw [e2, z]⟩)
    have notF : x ∉ X.fs := fun m => let ⟨v, hv, q⟩ := List.mem_filterMap.mp m; out (List.mem_filterMap.mpr ⟨v, List.mem_cons_of_mem _ hv, q⟩)
    have S3 := J3.suite hx dx nx notL notF
    have ty : PySem.W.Looks (model X.prog X.w) g3 (typeOf (.ref x)) C := fun _ _ _ _ keep q => wpAny_typeOf_ref (keep _ _ hx) (by rw [zx.1]; exact q)
    have go : ∀ {hs' : List ExceptHandler} {l' : List (Value × Sui)}, Clauses X n hs' l' → wAll X.K i Wo D l' C dd u' G' →
        wpAny (model X.prog X.w) X.A (handleBy (.ref x) X.env hs') (SP X pins D) X.xe { t with heap := g3 } := by
      intro hs' l' cl
      induction cl with
      | nil =>
        intro wish
        refine wpAny_handleBy_nil ?_
        obtain ⟨k1, k2, k3, o9, v9, T, oT, tT, a9, z9, d9, f9, r9⟩ := id fly
        unfold PySem.passOn
        refine wpAny_bind (wpAny_field a9 d9 f9 ?_)
        rw [if_neg (show ¬ ((Value.ref T == Value.none) = true) by simp)]
        have fin : wpAny (model X.prog X.w) X.A (setFlight (.ref x) X.env.frame) (fun _ t4 => wpAny (model X.prog X.w) X.A (throw (.ref x) : Sem Flow) (SP X pins D) X.xe t4) X.xe { t with heap := g3 } := by
          rw [e2]
          exact HandSPX.setFlight_upZ fly fun g4 held up4 => wpAny_throw (tk _ _ ⟨x, B, t0, pins, u', G', C, dd, rfl, J, nb, (upt.trans up3).trans up4, .inr (.inr (e1.symm ▸ held)), nx, os, bare, wish⟩)
        first | exact wpAny_bind (wpAny_pure (wpAny_bind fin)) | exact wpAny_bind fin
      | @cons y c ts b bs p1 p2 hs2 l2 names su more ih =>
        intro wish
        obtain ⟨yes, m1, onYes, onNo⟩ := wish
        refine wpAny_handleBy_cons (codeAny_handlers_test ?_) (fun z => by cases z)
        have names' := names
        have clause : ∀ {Q : Value → Shared → Prop} {E : Value → Shared → Prop}, Q c { t with heap := g3 } → wpAny (model X.prog X.w) (X.A.mark (some (.ref x))) (eval (.Name y p1) X.env) Q E { t with heap := g3 } := fun q => by
          obtain ⟨gl, dbg, m | ⟨m, bv, nn⟩⟩ := names'
          · exact ld_glob (X := X.suite x ((x, ox) :: (X.pn ++ pins))) S3 gl m q dbg
          · exact ld_blt (X := X.suite x ((x, ox) :: (X.pn ++ pins))) S3 gl m bv q nn dbg
        refine clause ((PySem.W.exm_one (M := model X.prog X.w) J3.kIn ty m1).here ?_)
        cases yes with
        | false => exact ih (onNo rfl)
        | true =>
          refine codeAny_handlers_suite_as (HandSPX.lands_againZ fly fun g4 fly4 up4 => ?_)
          have J4 : Inv X pins u' G' { t with heap := g4 } := J.landed nb fly4.1 ((upt.trans up3).trans up4) os bare
          obtain ⟨o4, v4, h4, z4, d4⟩ := fly4.there
          refine store_ok (X := X.suite x ((x, o4) :: (X.pn ++ pins))) (v := .ref x) (J4.suite h4 d4 nx notL notF) nd at_ vis rfl (fun t5 S5 => ?_) (.inr lo)
          refine wpAny_mono ((su x o4 C dd (X.pn ++ pins) z4 ⟨_, d4⟩).run [] t5 _ G' _ S5 (onYes rfl x nx)) (fun fl t6 z => ?_) (fun _ _ z => z.elim)
          have last : ∀ {u6 : L2.St} {G6 : Hp} {Q : Shared → Prop}, Inv (X.suite x ((x, o4) :: (X.pn ++ pins))) [] u6 G6 t6 → (∀ t7, Inv X pins (u6.set i none) G6 t7 → Q t7) →
              wpAny (model X.prog X.w) X.A (do bindName X.env n .none; unbindBehindTheSuite X.env n p2) (fun _ t7 => Q t7) X.xe t6 := fun S6 q => gone_ok (S6.unsuite ok) nd at_ lo q
          cases fl with
          | ret u9 => exact let ⟨_, _, _, S6, rv, q⟩ := z; last S6 fun _ J7 => ⟨_, _, _, J7, rv, q⟩
          | next => exact let ⟨_, _, S6, q⟩ := z; last S6 fun _ J7 => ⟨_, _, J7, q⟩
          | brk => exact let ⟨_, _, S6, q⟩ := z; last S6 fun _ J7 => ⟨_, _, J7, q⟩
          | cont => exact let ⟨_, _, S6, q⟩ := z; last S6 fun _ J7 => ⟨_, _, J7, q⟩
    exact go hh wish
  · cases fl with
    | ret u9 => exact let ⟨_, _, _, J, rv, q⟩ := z; ⟨_, _, _, J.ofTry ok, rv, q⟩
    | next => exact let ⟨_, _, J, q⟩ := z; wpAny_execs_nil ⟨_, _, J.ofTry ok, q⟩
    | brk => exact let ⟨_, _, J, q⟩ := z; ⟨_, _, J.ofTry ok, q⟩
    | cont => exact let ⟨_, _, J, q⟩ := z; ⟨_, _, J.ofTry ok, q⟩
end
/-- isinstance(e, c) of the exception that a suite holds, its class told by the reading -/
theorem call_isE2 {X : Cx} {a D : Addr} {oe : Obj} {cls : Value} {d : Option Addr} {pn : List (Addr × Obj)} (C : ExcC X.K D) (hz : Zc cls d oe) (hf : ∃ vs, oe.data = .fields vs) :
    CallR (X.suite a ((a, oe) :: pn)) (.builtin "isinstance") (fun xs H Q => cls = .ref D ∧ d = none ∧ rIsE X.K D a xs H Q) := by
  intro pins s σ H xs us Q I r h
  obtain ⟨rfl, rfl, q⟩ := h
  exact call_isE C hz hf pins s σ H xs us Q I r q
end TA
set_option Elab.async false
set_option linter.all false
set_option maxRecDepth 100000
set_option maxHeartbeats 4000000
set_option exponentiation.threshold 100000
namespace LR
open PySem PySem.Spec PyProof.Rows L2
/-- what + and * ask of the class and of the kinds at the right -/
structure MomO (K : PySem.W.Frag) (C gA gM gN : Addr) : Prop where
  a : OO.OpC K C gA (Operator.info .Add).2
  m : OO.OpC K C gM (Operator.info .Mult).2
  n : OO.OpC K C gN (Operator.info .BitAnd).2
  ta : ∀ n ∈ kdNames, OO.OpT K C (Operator.info .Add).2 n
  tm : ∀ n ∈ kdNames, OO.OpT K C (Operator.info .Mult).2 n
/-- which error _law_error tells -/
inductive ErrCase (b : Rat) : Int → Option Rat → Str → Prop
  | n0 : ErrCase b 0 none "number"
  | t0 {d : Rat} (h : b + d < 0) (z : Sz 3900 d) : ErrCase b 0 (some d) "time"
  | f1 {o : Option Rat} (h : isPos o = false) : ErrCase b 1 o "factor"
section
variable {P : Program} {w : World} {K : PySem.W.Frag} {mg : Str → Option Value} {base : Heap}
def spErr (K : PySem.W.Frag) (C : Addr) : Sp := fun vs H Q _ => ∃ (k : Int) (v x : V) (b s : Rat) (o : Option Rat) (r : Str), vs = [.int k, v, x] ∧ MomAt K C H v b s ∧ 0 ≤ b ∧ 0 < s ∧ (Sz 3900 b ∧ Sz 3900 s) ∧ Arg K H x o ∧ ErrCase b k o r ∧ ∀ H', Same H H' → Q (.str r) H'
theorem ok_Err {f C CT CN CF gA gM gN : Addr} {fd dA dM : FuncData} (D : DefAt K mg "_law_error" s_law_error ["kind", "one", "value"] f fd) (O : MomO K C gA gM gN) (bA : Binds K dA ["self", "other"] []) (bM : Binds K dM ["self", "other"] [])
    (GA : FnOk P w K mg base (CXl P w) 7 gA dA ["self", "other"] (spAdd K C CT CN)) (GM : FnOk P w K mg base (CXl P w) 7 gM dM ["self", "other"] (spMul K C CF)) (XT : ErrAt K mg "InvalidTime" BMv "ValueError.__new__" CT) (MT : ErrM K CT) (XN : ErrAt K mg "InvalidNumber" BMv "ValueError.__new__" CN) (MN : ErrM K CN) (XF : ErrE K mg "InvalidFactor" CF)
    (nNT : PySem.W.subIn K (.ref CN) (.ref CT) = some false) (nNF : PySem.W.subIn K (.ref CN) (.ref CF) = some false) (nTF : PySem.W.subIn K (.ref CT) (.ref CF) = some false) (mi : mg "isinstance" = none) (mv : mg "ValueError" = none) :
    FnOk P w K mg base (CXl P w) 8 f fd ["kind", "one", "value"] (spErr K C) := by
  refine D.F.okX sc_law_error (fun vs H Q E h => ?_) (fun cdv A outer s H vs Q E hr h => ?_)
  · obtain ⟨k, v, x, b, s, o, r, rfl, _⟩ := h
    rfl
  · obtain ⟨k, v, x, b, st, o, r, rfl, hm, b0, s0, ⟨zb, zs⟩, hx, ec, q⟩ := h
    refine ⟨_, pss_cons (TM.ps_tryAs (n := "e") (i := 3) (Wo := fun _ _ _ _ => False) rfl rfl sc_law_error.nd rfl rfl takes0
        (fun W pn xe tk _ => pss_one (ps_if (pt_cmpR op_eq (pv 0) pe_int (nomark _))
            (pss_one (ps_expr (pe_op (r := OO.rBin K C (Operator.info .Add).2 (spAdd K C CT CN) (EW W 4)) (by exact OO.op_bin (op := .Add) (E := EW W 4) O.a GA hr bA (passW tk rfl)) (pv 1) (pv 2))))
            (pss_one (ps_expr (pe_op (r := OO.rBin K C (Operator.info .Mult).2 (spMul K C CF) (EW W 4)) (by exact OO.op_bin (op := .Mult) (E := EW W 4) O.m GM hr bM (passW tk rfl)) (pv 1) (pv 2))))))
        (.cons (c := .ref CF) ⟨rfl, by decide, .inl XF.T.g⟩ (fun a oe cls d pn hz hf => pss_one (ps_ret (pe_ifExp (pt_val (pe_callB (TA.call_isE2 XF.X hz hf) (by rfl) mi (by decide +kernel) (pa_cons (pv 3) (pa_cons (pe_bltn (v := .ty "ValueError") (by rfl) mv (by decide +kernel) rfl) pa_nil)))) pe_str pe_str)))
        (.bare (c := .ref CT) ⟨rfl, by decide, .inl XT.g⟩ (fun a oe cls d pn hz hf => pss_one (ps_ret pe_str))
        (.bare (c := .ref CN) ⟨rfl, by decide, .inl XN.g⟩ (fun a oe cls d pn hz hf => pss_one (ps_ret pe_str)) .nil))))
      (pss_one (ps_ret pe_non)), ?_⟩
    have ff := PySem.W.exm_ref XF.T.b XF.M.d XF.T.t XF.M.s
    have tt := PySem.W.exm_ref XT.b MT.d XT.t MT.s
    have nn := PySem.W.exm_ref XN.b MN.d XN.t MN.s
    have tf := PySem.W.exm_ref XF.T.b XF.M.d XF.T.t nTF
    have nf := PySem.W.exm_ref XF.T.b XF.M.d XF.T.t nNF
    have nt := PySem.W.exm_ref XT.b MT.d XT.t nNT
    obtain ⟨p, dx, vb, vs, rfl, hp, hb, hs⟩ := id hm
    obtain ⟨n, hk⟩ := hx.kd
    cases ec with
    | n0 =>
      apply with_cont (S := Same H)
      · intro fin
        refine ⟨_, rfl, rfl, _, rfl, ?_⟩
        rw [keq]
        refine ite2 (fun _ => ?_) (fun c => absurd (by decide) c)
        exact ⟨_, rfl, x, rfl, p, dx, _, .type n, rfl, hp, hk.ty, .inr ⟨n, rfl, O.ta n hk.name⟩, _, x, b, st, none, rfl, hm, hx, s0, zb, fin⟩
      · intro H' s' σ hσ
        exact ⟨false, nf, (fun z => nomatch z), fun _ => ⟨false, nt, (fun z => nomatch z), fun _ => ⟨true, nn, fun _ a na => iteF (q H' s'), fun z => nomatch z⟩⟩⟩
    | t0 h z =>
      apply with_cont (S := Same H)
      · intro fin
        refine ⟨_, rfl, rfl, _, rfl, ?_⟩
        rw [keq]
        refine ite2 (fun _ => ?_) (fun c => absurd (by decide) c)
        exact ⟨_, rfl, x, rfl, p, dx, _, .type n, rfl, hp, hk.ty, .inr ⟨n, rfl, O.ta n hk.name⟩, _, x, b, st, _, rfl, hm, hx, s0, zb, z, fun _ => fin, fun y => absurd h (Rat.not_lt.mpr y)⟩
      · intro H' s' σ hσ
        exact ⟨false, tf, (fun z => nomatch z), fun _ => ⟨true, tt, fun _ a na => iteF (q H' s'), fun z => nomatch z⟩⟩
    | f1 h =>
      apply with_cont (S := Same H)
      · intro fin
        refine ⟨_, rfl, rfl, _, rfl, ?_⟩
        rw [keq]
        refine ite2 (fun c => absurd c (by decide)) (fun _ => ?_)
        refine ⟨_, rfl, x, rfl, p, dx, _, .type n, rfl, hp, hk.ty, .inr ⟨n, rfl, O.tm n hk.name⟩, _, x, b, st, o, rfl, hm, hx, b0, s0, ⟨zb, zs⟩, fun _ => fin, fun d e d0 => ?_⟩
        subst e
        exact absurd h (by show ¬ decide (0 < d) = false; simpa using d0)
      · intro H' s' σ hσ
        exact ⟨true, ff, fun _ a na => iteT ⟨_, set3 hσ, rfl, rfl, .ty "ValueError", _, _, rfl, fun u z => z, XF.v, _, rfl, iteT (q H' s')⟩, fun z => nomatch z⟩
end
end LR
set_option Elab.async false
set_option linter.all false
set_option maxRecDepth 100000
set_option maxHeartbeats 4000000
/-! y in x, y not in x, where x is an object of a class with its own __contains__ -/
namespace OI
open PySem PySem.Spec PyProof.Rows L2
theorem contains_fn {M : Model} {A : Around} {s : Shared} {K : PySem.W.Frag} {x C f : Addr} {y : Value} {E : Value → Shared → Prop} {ox : Obj} {od : Option Obj} {Q : Bool → Shared → Prop} (X : K.In s.heap) (I : PySem.W.InstAt s.heap x ox C od)
    (hs : PySem.W.findIn K (.ref C) "__contains__" = some (some (.ref f))) (hf : PySem.W.typeIn K (.ref f) = some (.type "function")) (h : wpAny M A (call (.ref f) [.ref x, y]) (fun r s' => ∃ b, r = Value.bool b ∧ Q b s') E s) :
    wpAny M A (contains (.ref x) y) Q E s := by
  unfold contains
  refine wpAny_holding ?_
  show wpAny M A (specialOf (.ref x) "__contains__" >>= _) Q E s
  have sp : ∀ {Q' : Option Value → Shared → Prop}, Q' (some (.ref f)) s → wpAny M A (specialOf (.ref x) "__contains__") Q' E s := fun q => wpAny_bind (I.type.here ((PySem.W.looks_findIn X hs).here q))
  refine wpAny_bind (sp ?_)
  show wpAny M A (if (some (Value.ref f) == some Value.none) = true then _ else _) Q E s
  rw [if_neg (show ¬ (some (Value.ref f) == some Value.none) = true from fun z => by cases z)]
  refine wpAny_bind ?_
  unfold callSpecialUnlessNone?
  refine wpAny_bind (sp (wpAny_holding (wpAny_bind ((PySem.W.bind_fn X _ hf).here ?_))))
  show wpAny M A (if (Value.ref f == Value.none) = true then _ else _) _ E s
  rw [if_neg (show ¬ (Value.ref f == Value.none) = true from fun z => by cases z)]
  refine wpAny_bind (wpAny_mono h (fun r s' z => ?_) fun _ _ z => z)
  obtain ⟨b, rfl, q⟩ := z
  exact wpAny_pure (wpAny_truthy_bool q)
section
variable {X : Cx} {CX : CXT} {k : Nat} {C g : Addr} {fd : FuncData} {ps : List Str} {sp : Sp} {E : XK}
/-- y in x: what the class's own answer says -/
def rOwnIn (C : Addr) (neg : Bool) (sp : Sp) (E : XK) : R2 := fun y x H Q => ∃ a dx fs, x = .ref a ∧ H a = some (.ins C dx fs) ∧ sp [.ref a, y] H (fun z H' => ∃ b, z = .bl b ∧ Q (.bl (if neg then !b else b)) H') E
theorem own_in {pins : List (Addr × Obj)} {σ : L2.St} {H : Hp} {s : Shared} {y : V} {v : Value} {a dx : Addr} {fs : List (Str × V)} {Q : Bool → Hp → Prop} (hm : Meth X.K C "__contains__" g) (F : FnOk X.prog X.w X.K X.mg X.base CX k g fd ps sp) (hr : Room k X.A) (hb : Binds X.K fd ps []) (hx : Passes CX X E)
    (I : Inv X pins σ H s) (ry : RelV y v) (ea : H a = some (.ins C dx fs)) (q : sp [.ref a, y] H (fun z H' => ∃ b, z = .bl b ∧ Q b H') E) :
    wpAny (model X.prog X.w) X.A (contains (.ref a) v) (fun b s' => ∃ H', Inv X pins σ H' s' ∧ Q b H') X.xe s := by
  obtain ⟨mA, O, r, _, _, _⟩ := ins_get I.hok ea
  obtain ⟨od, J, hl⟩ := O.look
  refine contains_fn I.kIn J hm.at_ (beq_iff_eq.mp hm.fn) (wpAny_mono (run_fn (us := [.ref a, v]) (vs := [.ref a, y]) F hr hb .nil hx I (.cons rfl (.cons ry .nil)) q) (fun r s' z => ?_) fun _ _ z => z)
  obtain ⟨z', H', I', rz, b, eb, qb⟩ := z
  subst eb
  exact ⟨b, rz, H', I', qb⟩
theorem op_notin_own (hm : Meth X.K C "__contains__" g) (F : FnOk X.prog X.w X.K X.mg X.base CX k g fd ps sp) (hr : Room k X.A) (hb : Binds X.K fd ps []) (hx : Passes CX X E) : OpR X (compareOp .NotIn) (rOwnIn C true sp E) := by
  intro pins s σ H y x v u Q I ry rx h
  obtain ⟨a, dx, fs, rfl, ea, q⟩ := h
  cases (show u = Value.ref a from rx)
  show wpAny _ _ (contains (.ref a) v >>= fun b => pure (Value.bool (!b))) _ _ _
  refine wpAny_bind (wpAny_mono (own_in (Q := fun b H' => Q (.bl (!b)) H') hm F hr hb hx I ry ea q) (fun b s' z => ?_) fun _ _ z => z)
  obtain ⟨H', I', q'⟩ := z
  exact wpAny_pure ⟨.bl (!b), H', I', rfl, q'⟩
theorem op_in_own (hm : Meth X.K C "__contains__" g) (F : FnOk X.prog X.w X.K X.mg X.base CX k g fd ps sp) (hr : Room k X.A) (hb : Binds X.K fd ps []) (hx : Passes CX X E) : OpR X (compareOp .In) (rOwnIn C false sp E) := by
  intro pins s σ H y x v u Q I ry rx h
  obtain ⟨a, dx, fs, rfl, ea, q⟩ := h
  cases (show u = Value.ref a from rx)
  show wpAny _ _ (contains (.ref a) v >>= fun b => pure (Value.bool b)) _ _ _
  refine wpAny_bind (wpAny_mono (own_in (Q := fun b H' => Q (.bl b) H') hm F hr hb hx I ry ea q) (fun b s' z => ?_) fun _ _ z => z)
  obtain ⟨H', I', q'⟩ := z
  exact wpAny_pure ⟨.bl b, H', I', rfl, q'⟩
end
end OI
set_option Elab.async false
set_option linter.all false
set_option maxRecDepth 100000
set_option maxHeartbeats 8000000
set_option exponentiation.threshold 100000
namespace LR
open PySem PySem.Spec PyProof.Rows L2
abbrev NL : List Str := ["script", "pool", "turn", "unit", "k", "rows", "one", "other", "due", "found", "delay", "factor", "late", "slow", "kept", "value", "begin", "step"]
theorem sc_law : FnScope NL ["script"] (defScope s_law) := ⟨rfl, rfl, rfl, by decide +kernel, rfl, by decide +kernel, by decide +kernel⟩
/-- Moments' index and == -/
structure MomE (P : Program) (w : World) (K : PySem.W.Frag) (mg : Str → Option Value) (base : Heap) (C CC : Addr) : Prop where
  E : ∃ f fd, OC.EqC K C f ∧ Binds K fd ["self", "other"] [] ∧ FnOk P w K mg base (CXl P w) 1 f fd ["self", "other"] (spEq K C)
  G : ∃ f fd, Meth K C "__getitem__" f ∧ PySem.W.fnIn K f = true ∧ Binds K fd ["self", "at"] [] ∧ FnOk P w K mg base (CXl P w) 5 f fd ["self", "at"] (spGet K C CC)
theorem nf_self {K : PySem.W.Frag} {C : Addr} : PySem.W.notFirst K C (.ref C) = true := by
  unfold PySem.W.notFirst
  simp
/-! ### written tuples -/
theorem no24 : ratOf [.int 2, .int 4] = none := by
  simp [ratOf]
theorem no10 : ratOf [.int 1, .int 0] = none := by
  simp [ratOf]
theorem rat_of {a d : Int} (h : 1 ≤ d ∧ Nat.gcd a.natAbs d.natAbs = 1) : ratOf [.int a, .int d] = some (Rat.divInt a d) := by
  simp only [ratOf]
  rw [if_pos h]
theorem rt_of {a d : Int} (h : 1 ≤ d ∧ Nat.gcd a.natAbs d.natAbs = 1) : [V.int a, V.int d] = rt (Rat.divInt a d) := ratOf_some (rat_of h)
section
variable {K : PySem.W.Frag} {H : Hp}
theorem rn_new {t : Addr} {a d : Int} (h : 1 ≤ d ∧ Nat.gcd a.natAbs d.natAbs = 1) (e : H t = some (.tup [.int a, .int d])) : Rn K H (.ref t) (Rat.divInt a d) := ⟨t, rfl, .inl (.inl (by rw [e, rt_of h]))⟩
theorem ki (i j : Int) : [V.int i, V.int j].length = 2 → ∀ x ∈ [V.int i, V.int j], ∃ n, Kd K H x n := fun _ x hx => by
  rcases List.mem_cons.mp hx with e | hx
  · exact ⟨"int", by rw [e]; exact .int _⟩
  · rcases List.mem_cons.mp hx with e | hx
    · exact ⟨"int", by rw [e]; exact .int _⟩
    · cases hx
theorem arg_tup {t : Addr} {i j : Int} {o : Option Rat} (e : H t = some (.tup [.int i, .int j])) (h : ratOf [.int i, .int j] = o) : Arg K H (.ref t) o := .tup (.inl (.inl e)) (ki i j) h
end
/-! ### lists of one text -/
theorem dpStrs {K : PySem.W.Frag} {H : Hp} (x : Str) : ∀ n : Nat, DpAll K H (List.replicate n (V.str x)) (List.replicate n (PyData.str x))
  | 0 => .nil
  | n + 1 => .cons (.str x) (dpStrs x n)
theorem canStrs (x : Str) (hx : (PyData.str x).canLay0 = true) : ∀ n : Nat, PyData.canLayAll0 (List.replicate n (PyData.str x)) = true
  | 0 => rfl
  | n + 1 => by
    show ((PyData.str x).canLay0 && PyData.canLayAll0 (List.replicate n (PyData.str x))) = true
    rw [canStrs x hx n, hx]
    rfl
theorem depStrs (x : Str) : ∀ n : Nat, PyData.depthAll (List.replicate n (PyData.str x)) = 0
  | 0 => rfl
  | n + 1 => by
    have := depStrs x n
    show max 0 (PyData.depthAll (List.replicate n (PyData.str x))) = 0
    omega
theorem shapedStrs (x : Str) (hx : (PyData.str x).canLay0 = true) (n : Nat) : SeqAt.shaped (.list (List.replicate n (PyData.str x))) = true := by
  unfold SeqAt.shaped
  rw [show (PyData.list (List.replicate n (PyData.str x))).canLay0 = PyData.canLayAll0 (List.replicate n (PyData.str x)) from rfl, canStrs x hx, Bool.true_and, decide_eq_true_eq]
  have := depStrs x n
  show PyData.depthAll (List.replicate n (PyData.str x)) + 1 ≤ 64
  omega
theorem eqvStrs (x : Str) (hx : (PyData.str x).canLay0 = true) (n : Nat) : PyData.eqv (.list (List.replicate n (PyData.str x))) (.list (List.replicate n (PyData.str x))) = true := SeqAt.eqv_refl _ (canStrs x hx n)
theorem flat1 (x : V) : ∀ n : Nat, (List.replicate n [x]).flatten = List.replicate n x
  | 0 => rfl
  | n + 1 => by
    show [x] ++ (List.replicate n [x]).flatten = x :: List.replicate n x
    rw [flat1 x n]
    rfl
theorem repl_snoc (x : V) (n : Nat) : List.replicate n x ++ [x] = List.replicate (n + 1) x := by
  rw [List.replicate_succ']
/-- None, or the Moments of both -/
def CV (K : PySem.W.Frag) (C : Addr) (b s b' s' : Rat) (H : Hp) (v : V) : Prop := (v = .non ∧ ¬ ∃ x, CR b s b' s' x) ∨ ∃ (x : Addr) (f t : Rat), v = .ref x ∧ FirstR b s b' s' f ∧ StepR s s' t ∧ MomAt K C H (.ref x) f t
section
variable {K : PySem.W.Frag} {C : Addr} {b s b' s' : Rat} {H H' : Hp} {v : V}
theorem CV.same (e : Same H H') (h : CV K C b s b' s' H v) : CV K C b s b' s' H' v := by
  rcases h with h | ⟨x, f, t, e1, h1, h2, h3⟩
  · exact .inl h
  · exact .inr ⟨x, f, t, e1, h1, h2, h3.same e⟩
theorem CV.swap (h : CV K C b s b' s' H v) : CV K C b' s' b s H v := by
  rcases h with ⟨e, h⟩ | ⟨x, f, t, e1, h1, h2, h3⟩
  · exact .inl ⟨e, fun ⟨x, c⟩ => h ⟨x, c.swap⟩⟩
  · exact .inr ⟨x, f, t, e1, h1.swap, h2.swap, h3⟩
theorem givesC_of {Q : VK} (q : ∀ v H', Same H H' → CV K C b s b' s' H' v → Q v H') : GivesC K C b s b' s' H Q :=
  ⟨fun H' s' no => q _ H' s' (.inl ⟨rfl, no⟩), fun x H' f t s' h1 h2 h3 => q _ H' s' (.inr ⟨x, f, t, rfl, h1, h2, h3⟩)⟩
theorem CV.alike (h : CV K C b s b' s' H v) {y : V} (k : CV K C b s b' s' H y) : (v = .non ∧ y = .non) ∨ ∃ (x z : Addr) (f t : Rat), v = .ref x ∧ y = .ref z ∧ MomAt K C H (.ref x) f t ∧ MomAt K C H (.ref z) f t := by
  rcases h with ⟨e, h⟩ | ⟨x, f, t, e1, h1, h2, h3⟩
  · rcases k with ⟨e', _⟩ | ⟨z, g, r, _, k1, _⟩
    · exact .inl ⟨e, e'⟩
    · exact absurd ⟨g, k1.1⟩ h
  · rcases k with ⟨_, k⟩ | ⟨z, g, r, e2, k1, k2, k3⟩
    · exact absurd ⟨f, h1.1⟩ k
    · refine .inr ⟨x, z, f, t, e1, e2, h3, ?_⟩
      rw [first_uniq h1 k1, stepR_uniq h2 k2]
      exact k3
/-- the common ones of one with itself -/
theorem CV.self (h : CV K C b s b s H v) (s0 : 0 < s) : ∃ x, v = .ref x ∧ MomAt K C H (.ref x) b s := by
  have c : CR b s b s b := ⟨Rat.le_refl, Rat.le_refl, ⟨0, by grind⟩, ⟨0, by grind⟩⟩
  rcases h with ⟨_, h⟩ | ⟨x, f, t, e1, h1, h2, h3⟩
  · exact absurd ⟨b, c⟩ h
  · have ef : f = b := Rat.le_antisymm (h1.2 _ c) h1.1.1
    have me : Mu s s := ⟨1, by grind⟩
    have et : t = s := stepR_uniq h2 ⟨s0, me, me, fun _ h _ => h⟩
    subst ef et
    exact ⟨x, e1, h3⟩
theorem divInt_pos {a b : Int} (ha : 0 < a) (hb : 0 < b) : 0 < Rat.divInt a b := Rat.not_le.mp fun c => by
  have z0 : Un b 0 0 := by unfold Un; rw [Rat.zero_mul]; rfl
  have := (un_le hb (un_div hb) z0).mp c
  omega
/-- what is kept of the first of the two -/
structure One (b s : Rat) : Prop where
  b0 : 0 ≤ b
  b1 : b + ((-100 : Int) : Rat) < 0
  s0 : 0 < s
  zb : Sz 200 b
  zs : Sz 200 s
/-- a row of the law: a begin and a step in units -/
def RowV (K : PySem.W.Frag) (H : Hp) (v : V) (q : Int × Int) : Prop := ∃ a, v = .ref a ∧ SqT K H a [.int q.1, .int q.2]
def RowB (q : Int × Int) : Prop := 0 ≤ q.1 ∧ q.1 < 20 ∧ 1 ≤ q.2 ∧ q.2 ≤ 12
theorem RowV.same {q : Int × Int} (e : Same H H') (h : RowV K H v q) : RowV K H' v q := let ⟨a, e1, h1⟩ := h; ⟨a, e1, same_sqt e h1⟩
theorem PoolAt.upd {D p l : Addr} {o : HO} {r : List V} (h : PoolAt H p) (e : H p = some (.lst (.ref l :: r))) (n1 : D ≠ p) (n2 : D ≠ l) : PoolAt (upd H D o) p := by
  obtain ⟨l', ns, a, b, c, h1, h2, h3⟩ := h
  rw [h1] at e
  cases e
  exact ⟨_, ns, a, b, c, by rw [upd_ne n1.symm]; exact h1, by rw [upd_ne n2.symm]; exact h2, h3⟩
theorem rowV_upd {D : Addr} {o : HO} {ys : List V} {q : Int × Int} (hD : H D = some (.lst ys)) (h : RowV K H v q) : RowV K (upd H D o) v q := let ⟨a, e1, h1⟩ := h; ⟨a, e1, sqt_upd hD (fun _ e => by cases e) (fun _ _ e => by cases e) h1⟩
theorem rowV_but {D : Addr} {ys : List V} {q : Int × Int} (b : But D H H') (hD : H D = some (.lst ys)) (h : RowV K H v q) : RowV K H' v q := let ⟨a, e1, h1⟩ := h; ⟨a, e1, (Odd.lst hD).sqt b h1⟩
end
section
variable {P : Program} {w : World} {K : PySem.W.Frag} {mg : Str → Option Value} {base : Heap}
def spLaw (K : PySem.W.Frag) : Sp := fun vs H Q _ => ∃ (a : Addr) (ns : List Int), vs = [.ref a] ∧ SqL K H a (ns.map V.int) ∧ ns.length ≤ 63 ∧ ∀ H', Q (.bl true) H'
theorem ok_Law {f C CT CN CF CC gA gM' gN fM fP fD fC fS fN fL fE : Addr} {fd dA dM' dN dM dP dD dC dS dNu dL dE : FuncData} (D : DefAt K mg "law" s_law ["script"] f fd) (T : MomC K C) (gM : mg "Moments" = some (.ref C)) (M2 : MomE P w K mg base C CC) (MP : MomP P w K mg base C) (MI : Mk K C fM) (bI : Binds K dM ["self", "begin", "step"] [])
    (O : MomO K C gA gM' gN) (bA : Binds K dA ["self", "other"] []) (bM : Binds K dM' ["self", "other"] []) (bN : Binds K dN ["self", "other"] [])
    (DP : DefAt K mg "_law_pool" s_law_pool ["script"] fP dP) (DD : DefAt K mg "_law_draw" s_law_draw ["pool", "many"] fD dD) (DC : DefAt K mg "_law_cut" s_law_cut ["top", "bottom"] fC dC) (DS : DefAt K mg "_law_sum" s_law_sum ["one", "other"] fS dS)
    (DNu : DefAt K mg "_law_number" s_law_number ["pool", "size"] fN dNu) (DLC : DefAt K mg "_law_common" s_law_common ["first", "second", "unit"] fL dL) (DE : DefAt K mg "_law_error" s_law_error ["kind", "one", "value"] fE dE) (mr : mg "range" = none)
    (GI : FnOk P w K mg base (CXl P w) 5 fM dM ["self", "begin", "step"] (spMI K C CT CN)) (GA : FnOk P w K mg base (CXl P w) 7 gA dA ["self", "other"] (spAdd K C CT CN)) (GM : FnOk P w K mg base (CXl P w) 7 gM' dM' ["self", "other"] (spMul K C CF)) (GN : FnOk P w K mg base (CXl P w) 8 gN dN ["self", "other"] (spCom K C))
    (GP : FnOk P w K mg base (CXl P w) 1 fP dP ["script"] (spPool K)) (GD : FnOk P w K mg base (CXl P w) 1 fD dD ["pool", "many"] spDraw) (GC : FnOk P w K mg base (CXl P w) 1 fC dC ["top", "bottom"] (spCut K)) (GS : FnOk P w K mg base (CXl P w) 2 fS dS ["one", "other"] (spSum K))
    (GNu : FnOk P w K mg base (CXl P w) 2 fN dNu ["pool", "size"] (spNum K)) (GLC : FnOk P w K mg base (CXl P w) 7 fL dL ["first", "second", "unit"] (spLCo K C)) (GE : FnOk P w K mg base (CXl P w) 8 fE dE ["kind", "one", "value"] (spErr K C)) :
    FnOk P w K mg base (CXl P w) 9 f fd ["script"] (spLaw K) := by
  obtain ⟨gG, eG, MG, fi, bG, GG⟩ := M2.G
  obtain ⟨gE, eE, ME, bE, GEq⟩ := M2.E
  obtain ⟨pB, gB, eB, MB, bB, GB⟩ := MP.B
  obtain ⟨pS, gS, eS, MS, bS, GSt⟩ := MP.S
  refine D.F.okX sc_law (fun vs H Q E h => ?_) (fun cdv A outer s H vs Q E hr h => ?_)
  · obtain ⟨a, ns, rfl, _⟩ := h
    rfl
  · obtain ⟨a0, ns, rfl, hS, hl, q⟩ := h
    have nd := sc_law.nd
    have h1 : Room 1 _ := hr.mono (by decide)
    have h2 : Room 2 _ := hr.mono (by decide)
    have h6 : Room 6 _ := hr.mono (by decide)
    have h8 : Room 7 _ := hr.mono (by decide)
    have h9 : Room 8 _ := hr.mono (by decide)
    refine ⟨_, (pss_cons (ps_set (i := 1) nd rfl (.inr rfl) (pe_call GP h1 (by rfl) DP.g DP.F.kp DP.b .nil passL (pa_cons (pv 0) pa_nil))) (pss_cons (ps_for (passes_of rfl) rfl (pi_range1 rfl mr (pa_cons pe_int pa_nil)) (pg_name (i := 2) nd rfl (.inl rfl)) (pss_cons (ps_set (i := 3) nd rfl (.inr rfl) (pe_op op_add pe_int (pe_call GD h1 (by rfl) DD.g DD.F.kp DD.b .nil passL (pa_cons (pv 1) (pa_cons pe_int pa_nil))))) (pss_cons (ps_setLc (i := 5) (own := [("k", 4)]) (g := gName 4) (tt := tYes) (by rfl) nd rfl rfl (sw_true rfl rfl rfl (by decide +kernel)) (pi_range1 rfl mr (pa_cons pe_int pa_nil)) (blkOk_by (N := NL) (sc := defScope s_law) (by decide +kernel)) (fun _ _ _ _ _ => (pg_name (i := 4) nd rfl (.inl rfl))) (fun _ _ _ _ _ => pts_nil) (fun _ _ _ _ _ => (pe_tup (pa_cons (pe_call GD h1 (by rfl) DD.g DD.F.kp DD.b .nil passL (pa_cons (pv 1) (pa_cons pe_int pa_nil))) (pa_cons (pe_op op_add pe_int (pe_call GD h1 (by rfl) DD.g DD.F.kp DD.b .nil passL (pa_cons (pv 1) (pa_cons pe_int pa_nil)))) pa_nil))))) (pss_cons (ps_asg (pe_lc (wi := iList K (tVar 5)) (own := [("begin", 16), ("step", 17)]) (g := gTup K 2 (gCons (gName 16) (gCons (gName 17) gNil))) (tt := tYes) (by rfl) nd (pi_list (pv 5)) (blkOk_by (N := NL) (sc := defScope s_law) (by decide +kernel)) (fun _ _ _ _ _ => pg_tup rfl (pgs_cons (pg_name (i := 16) nd rfl (.inl rfl)) (pgs_cons (pg_name (i := 17) nd rfl (.inl rfl)) pgs_nil))) (fun _ _ _ _ _ => pts_nil) (fun _ _ _ _ _ => pe_make MI GI h6 (by rfl) gM bI .nil passL (pa_cons (pe_call GC h1 (by rfl) DC.g DC.F.kp DC.b .nil passL (pa_cons (pv 16) (pa_cons (pv 3) pa_nil))) (pa_cons (pe_call GC h1 (by rfl) DC.g DC.F.kp DC.b .nil passL (pa_cons (pv 17) (pa_cons (pv 3) pa_nil))) pa_nil)))) (pg_unl rfl (pgs_cons (pg_name (i := 6) nd rfl (.inr rfl)) (pgs_cons (pg_name (i := 7) nd rfl (.inl rfl)) pgs_nil)))) (pss_cons (ps_set (i := 8) nd rfl (.inl rfl) (pe_call GLC h8 (by rfl) DLC.g DLC.F.kp DLC.b .nil passL (pa_cons (pe_ix (r := rIxL K) ix_list (pv 5) pe_int (fun _ _ => rfl)) (pa_cons (pe_ix (r := rIxL K) ix_list (pv 5) pe_int (fun _ _ => rfl)) (pa_cons (pv 3) pa_nil))))) (pss_cons (ps_for (passes_of rfl) rfl (pi_list (pe_lst (pa_cons (pe_op (r := OO.rBin K C (Operator.info .BitAnd).2 (spCom K C) E0) (by exact OO.op_bin (op := .BitAnd) (E := E0) O.n GN h9 bN passL) (pv 6) (pv 7)) (pa_cons (pe_op (r := OO.rBin K C (Operator.info .BitAnd).2 (spCom K C) E0) (by exact OO.op_bin (op := .BitAnd) (E := E0) O.n GN h9 bN passL) (pv 7) (pv 6)) pa_nil)))) (pg_name (i := 9) nd rfl (.inl rfl)) (pss_one (ps_if (PW.pt (pw_or (pt_cmpR op_ne (pe_cmpR op_isN (pv 9) pe_non (by rfl)) (pe_cmpR op_isN (pv 8) pe_non (by rfl)) (nomark _)) (pw_or1 (PW.pt (pw_and (pt_cmpR op_notN (pv 9) pe_non (nomark _)) (pw_and1 (pt_cmpR (r := OC.rEq K C true (spEq K C) E0) (by exact OC.op_neOwn ME GEq h2 bE passL) (pv 9) (pv 8) (nomark _)))))))) (pss_one (ps_ret pe_bl)) pss_nil))) (pss_cons (ps_par (i := 10) (j := 11) rfl nd rfl rfl (by decide) rfl rfl (pa_cons (pe_call GNu h2 (by rfl) DNu.g DNu.F.kp DNu.b .nil passL (pa_cons (pv 1) (pa_cons pe_int pa_nil))) (pa_cons (pe_call GS h2 (by rfl) DS.g DS.F.kp DS.b .nil passL (pa_cons (pe_call GNu h2 (by rfl) DNu.g DNu.F.kp DNu.b .nil passL (pa_cons (pv 1) (pa_cons pe_int pa_nil))) (pa_cons (pe_tup (pa_cons pe_int (pa_cons pe_int pa_nil))) pa_nil))) pa_nil)) (by rfl)) (pss_cons (ps_par (i := 12) (j := 13) rfl nd rfl rfl (by decide) rfl rfl (pa_cons (pe_op (r := OO.rBin K C (Operator.info .Add).2 (spAdd K C CT CN) E0) (by exact OO.op_bin (op := .Add) (E := E0) O.a GA h8 bA passL) (pv 6) (pv 10)) (pa_cons (pe_op (r := OO.rBin K C (Operator.info .Mult).2 (spMul K C CF) E0) (by exact OO.op_bin (op := .Mult) (E := E0) O.m GM h8 bM passL) (pv 6) (pv 11)) pa_nil)) (by rfl)) (pss_cons (ps_if (PW.pt (pw_or (pt_cmpR (r := OC.rEq K C true (spEq K C) E0) (by exact OC.op_neOwn ME GEq h2 bE passL) (pe_op (r := OO.rBin K C (Operator.info .Add).2 (spAdd K C CT CN) E0) (by exact OO.op_bin (op := .Add) (E := E0) O.a GA h8 bA passL) (pv 12) (pe_tup (pa_cons (pe_op op_sub pe_int (pe_ix (r := rIxT K) ix_tup (pv 10) pe_int (fun _ _ => rfl))) (pa_cons (pe_ix (r := rIxT K) ix_tup (pv 10) pe_int (fun _ _ => rfl)) pa_nil)))) (pv 6) (nomark _)) (pw_or1 (pt_cmpR (r := OC.rEq K C true (spEq K C) E0) (by exact OC.op_neOwn ME GEq h2 bE passL) (pe_op (r := OO.rBin K C (Operator.info .BitAnd).2 (spCom K C) E0) (by exact OO.op_bin (op := .BitAnd) (E := E0) O.n GN h9 bN passL) (pv 6) (pv 6)) (pv 6) (nomark _))))) (pss_one (ps_ret pe_bl)) pss_nil) (pss_cons (ps_for (passes_of rfl) rfl (pi_range1 rfl mr (pa_cons pe_int pa_nil)) (pg_name (i := 4) nd rfl (.inl rfl)) (pss_cons (ps_if (pt_cmpR (op_neD hr.units) (OC.pe_ixOwn MG fi GG h6 bG passL (pv 12) (pv 4)) (pe_call GS h2 (by rfl) DS.g DS.F.kp DS.b .nil passL (pa_cons (OC.pe_ixOwn MG fi GG h6 bG passL (pv 6) (pv 4)) (pa_cons (pv 10) pa_nil))) (nomark _)) (pss_one (ps_ret pe_bl)) pss_nil) (pss_one (ps_if (pt_cmpR (op_neD hr.units) (OC.pe_ixOwn MG fi GG h6 bG passL (pv 13) (pv 4)) (pe_call GC h1 (by rfl) DC.g DC.F.kp DC.b .nil passL (pa_cons (pe_op op_mulW (pe_ix (r := rIxT K) ix_tup (OC.pe_ixOwn MG fi GG h6 bG passL (pv 6) (pv 4)) pe_int (fun _ _ => rfl)) (pe_ix (r := rIxT K) ix_tup (pv 11) pe_int (fun _ _ => rfl))) (pa_cons (pe_op op_mulW (pe_ix (r := rIxT K) ix_tup (OC.pe_ixOwn MG fi GG h6 bG passL (pv 6) (pv 4)) pe_int (fun _ _ => rfl)) (pe_ix (r := rIxT K) ix_tup (pv 11) pe_int (fun _ _ => rfl))) pa_nil))) (nomark _)) (pss_one (ps_ret pe_bl)) pss_nil)))) (pss_one (ps_if (PW.pt (pw_or (pt_cmpR (op_neD hr.units) (pe_prop (pv 6) T.cl MB GB h2 bB .nil passL rfl) (pe_call GC h1 (by rfl) DC.g DC.F.kp DC.b .nil passL (pa_cons (pe_ix (r := rIxT K) ix_tup (pe_ix (r := rIxL K) ix_list (pv 5) pe_int (fun _ _ => rfl)) pe_int (fun _ _ => rfl)) (pa_cons (pv 3) pa_nil))) (nomark _)) (pw_or1 (pt_cmpR (op_neD hr.units) (pe_prop (pv 6) T.cl MS GSt h2 bS .nil passL rfl) (pe_call GC h1 (by rfl) DC.g DC.F.kp DC.b .nil passL (pa_cons (pe_ix (r := rIxT K) ix_tup (pe_ix (r := rIxL K) ix_list (pv 5) pe_int (fun _ _ => rfl)) pe_int (fun _ _ => rfl)) (pa_cons (pv 3) pa_nil))) (nomark _))))) (pss_one (ps_ret pe_bl)) pss_nil)))))))))))) (pss_cons (ps_set (i := 14) nd rfl (.inl rfl) (pe_lst (pa_cons (pe_prop (pv 6) T.cl MB GB h2 bB .nil passL rfl) (pa_cons (pe_prop (pv 6) T.cl MS GSt h2 bS .nil passL rfl) pa_nil)))) (pss_cons (ps_for (passes_of rfl) rfl (pi_list (pe_lst (pa_cons pe_non (pa_cons pe_str (pa_cons pe_bl (pa_cons (pe_tup (pa_cons pe_int (pa_cons pe_int pa_nil))) (pa_cons (pe_lst (pa_cons pe_int pa_nil)) pa_nil))))))) (pg_name (i := 15) nd rfl (.inl rfl)) (pss_one (ps_if (PW.pt (pw_or (pt_cmpR op_ne (pe_call GE hr (by rfl) DE.g DE.F.kp DE.b .nil passL (pa_cons pe_int (pa_cons (pv 6) (pa_cons (pv 15) pa_nil)))) pe_str (nomark _)) (pw_or1 (pt_cmpR op_ne (pe_call GE hr (by rfl) DE.g DE.F.kp DE.b .nil passL (pa_cons pe_int (pa_cons (pv 6) (pa_cons (pv 15) pa_nil)))) pe_str (nomark _))))) (pss_one (ps_ret pe_bl)) pss_nil))) (pss_cons (ps_if (PW.pt (pw_or (pt_cmpR op_ne (pe_call GE hr (by rfl) DE.g DE.F.kp DE.b .nil passL (pa_cons pe_int (pa_cons (pv 6) (pa_cons (pe_un un_neg pe_int) pa_nil)))) pe_str (nomark _)) (pw_or1 (pt_cmpR (op_neD hr.units) (pe_lst (pa_cons (pe_prop (pv 6) T.cl MB GB h2 bB .nil passL rfl) (pa_cons (pe_prop (pv 6) T.cl MS GSt h2 bS .nil passL rfl) pa_nil))) (pv 14) (nomark _))))) (pss_one (ps_ret pe_bl)) pss_nil) (pss_one (ps_ret (pe_cmpR (op_eqD hr.units) (pe_lc (wi := iList K _) (own := [("value", 15)]) (g := gName 15) (tt := tYes) (by rfl) nd (pi_list (pe_lst (pa_cons pe_int (pa_cons (pe_un un_neg pe_int) (pa_cons (pe_tup (pa_cons (pe_un un_neg pe_int) (pa_cons pe_int pa_nil))) pa_nil))))) (blkOk_by (N := NL) (sc := defScope s_law) (by decide +kernel)) (fun _ _ _ _ _ => (pg_name (i := 15) nd rfl (.inl rfl))) (fun _ _ _ _ _ => pts_nil) (fun _ _ _ _ _ => (pe_call GE hr (by rfl) DE.g DE.F.kp DE.b .nil passL (pa_cons pe_int (pa_cons (pv 6) (pa_cons (pv 15) pa_nil)))))) (pe_op op_rep (pe_lst (pa_cons pe_str pa_nil)) pe_int) (nomark _))))))))), ?_⟩
    -- the pool
    refine ⟨_, rfl, a0, ns, rfl, hS, hl, fun p H1 s1 hp1 => ?_⟩
    refine ⟨_, rfl, by decide, by decide, for_range (lo := 0) (n := 4) (fun i σ H' => PoolAt H' p ∧ ∃ o2 o3 o4 o5 o6 o7 o8 o9 o10 o11 o12 o13 : Option V, σ = [some (.ref a0), some (.ref p), o2, o3, o4, o5, o6, o7, o8, o9, o10, o11, o12, o13, none, none, none, none] ∧ (0 < i → ∃ v b s, o6 = some v ∧ MomAt K C H' v b s ∧ One b s)) ⟨hp1, none, none, none, none, none, none, none, none, none, none, none, none, rfl, fun z => absurd z (by decide)⟩ (fun i σ H' hi hP => ?_) (fun σ H' hP => ?_)⟩
    · obtain ⟨hp, o2, o3, o4, o5, o6, o7, o8, o9, o10, o11, o12, o13, rfl, _⟩ := hP
      -- unit
      refine ⟨_, rfl, p, 6, rfl, hp, by decide, by decide, fun d H2 d0 d1 dr2 => ⟨1, d, rfl, rfl, ?_⟩⟩
      have u1 : 1 ≤ 1 + d := by omega
      have u6 : 1 + d ≤ 6 := by omega
      have hp2 := dr2.pool
      clear dr2 hp
      show tNext _ (List.set _ 3 (some (.int (1 + d)))) H2
      generalize 1 + d = u at u1 u6 ⊢
      obtain ⟨l0, ms, ia, ib, ic, hpp, hl0, _⟩ := id hp2
      -- rows
      refine ⟨2, rfl, by decide, by decide, fun D nD => lc_range (lo := 0) (n := 2) (fun i H' => PoolAt H' p ∧ (∃ r, H' p = some (.lst (.ref l0 :: r))) ∧ ∃ acc qs, H' D = some (.lst acc) ∧ All2 (RowV K H') acc qs ∧ qs.length = i ∧ ∀ q ∈ qs, RowB q) ⟨hp2.same (same_new nD), ⟨_, (same_new nD) _ _ hpp⟩, [], [], upd_same, .nil, rfl, fun _ h => by cases h⟩ (fun i H3 hi hP => ?_) (fun H3 hP => ?_)⟩
      · obtain ⟨hp3, ⟨r3, hr3⟩, acc, qs, hD, hA, ql, qb⟩ := hP
        have np : D ≠ p := (ne_of_none hpp nD).symm
        have nl : D ≠ l0 := (ne_of_none hl0 nD).symm
        refine ⟨rfl, _, rfl, p, 20, rfl, hp3, by decide, by decide, fun d1 H4 e0 e1 dr4 => ⟨_, rfl, p, 12, rfl, dr4.pool, by decide, by decide, fun d2 H5 f0 f1 dr5 => ⟨1, d2, rfl, rfl, by show 2 ≤ sizeLine; decide, fun t nt => ?_⟩⟩⟩
        have dr := dr4.trans dr5
        obtain ⟨r5, hr5⟩ := dr.src _ _ hr3
        have sn : Same H5 (upd H5 t (.tup [.int d1, .int (1 + d2)])) := same_new nt
        have ht : (upd H5 t (.tup [.int d1, .int (1 + d2)])) t = some (.tup [.int d1, .int (1 + d2)]) := upd_same
        show ∃ _, _
        generalize (upd H5 t (.tup [.int d1, .int (1 + d2)])) = H6 at sn ht ⊢
        have hD6 : H6 D = some (.lst acc) := sn _ _ (dr.but _ _ np hD)
        have al : acc.length = i := by rw [hA.len, ql]
        refine ⟨acc, hD6, Nat.lt_trans (show acc.length < 1000 by omega) (small1000 (Nat.le_refl _)), (dr.pool.same sn).upd (sn _ _ hr5) np nl, ⟨_, by rw [upd_ne np.symm]; exact sn _ _ hr5⟩, _, qs ++ [(d1, 1 + d2)], upd_same, ?_, by rw [List.length_append, ql]; rfl, fun q hq => ?_⟩
        · refine (hA.imp fun _ _ z => rowV_upd hD6 ((rowV_but dr.but hr3 z).same sn)).snoc (rowV_upd hD6 ⟨t, rfl, .inl (.inl ht)⟩)
        · rcases List.mem_append.mp hq with h | h
          · exact qb q h
          · rw [List.mem_singleton.mp h]
            exact ⟨by omega, by omega, by show 1 ≤ 1 + d2; omega, by show 1 + d2 ≤ 12; omega⟩
      obtain ⟨hp3, _, acc, qs, hD, hA, ql, qb⟩ := hP
      obtain ⟨q1, q2, rfl⟩ : ∃ q1 q2, qs = [q1, q2] := by
        match qs, ql with
        | [q1, q2], _ => exact ⟨q1, q2, rfl⟩
      obtain ⟨x1, x2, rfl⟩ : ∃ x1 x2, acc = [x1, x2] := by
        have := hA.len
        match acc, this with
        | [x1, x2], _ => exact ⟨x1, x2, rfl⟩
      have hr : RowV K H3 x1 q1 ∧ RowV K H3 x2 q2 := by
        cases hA with
        | cons a t =>
          cases t with
          | cons b _ => exact ⟨a, b⟩
      obtain ⟨hr1, hr2⟩ := hr
      obtain ⟨B, S⟩ := q1
      obtain ⟨B', S'⟩ := q2
      obtain ⟨B0, B1, S0, S1⟩ := qb _ List.mem_cons_self
      obtain ⟨B0', B1', S0', S1'⟩ := qb _ (List.mem_cons_of_mem _ List.mem_cons_self)
      clear hA ql qb hl0 hpp hp2 nD ia ib ic
      dsimp only at B0 B1 S0 S1 B0' B1' S0' S1'
      obtain ⟨r1, rfl, t1⟩ := id hr1
      obtain ⟨r2, rfl, t2⟩ := id hr2
      dsimp only at t1 t2
      have zu : u.natAbs < 2 ^ 8000 := Nat.lt_of_lt_of_le (show _ < 2 ^ 10 by omega) (Nat.pow_le_pow_right (by decide) (by decide))
      have up : 0 < u := by omega
      -- one, other
      have zS : ∀ {N : Int}, 0 ≤ N → N < 1000 → Sz 200 (Rat.divInt N u) := fun {N} h0 h1 => sz_divInt (by omega) (Nat.lt_of_lt_of_le (show _ < 2 ^ 10 by omega) (Nat.pow_le_pow_right (by decide) (by decide))) (Nat.lt_of_lt_of_le (show _ < 2 ^ 10 by omega) (Nat.pow_le_pow_right (by decide) (by decide)))
      refine ⟨_, rfl, D, rfl, ⟨_, .of hD⟩, fun D2 nD2 => lc_list (xs := [V.ref r1, V.ref r2]) (fun j H' => Same H3 H' ∧ ∃ acc, H' D2 = some (.lst acc) ∧ All2 (fun v (q : Int × Int) => MomAt K C H' v (Rat.divInt q.1 u) (Rat.divInt q.2 u)) acc ([(B, S), (B', S')].take j)) ⟨same_new nD2, [], upd_same, .nil⟩ (fun j H' _ hP => hP.1.seq (.of hD)) (fun j x H4 hx hP => ?_) (fun H4 hP => ?_)⟩
      · obtain ⟨sm, acc, hD2, hA⟩ := hP
        obtain ⟨q, a, hq, rfl, ta, qb⟩ : ∃ (q : Int × Int) (a : Addr), [(B, S), (B', S')][j]? = some q ∧ x = .ref a ∧ SqT K H4 a [.int q.1, .int q.2] ∧ RowB q := by
          match j, hx with
          | 0, hx => exact ⟨_, r1, rfl, (Option.some.inj hx).symm, same_sqt sm t1, B0, B1, S0, S1⟩
          | 1, hx => exact ⟨_, r2, rfl, (Option.some.inj hx).symm, same_sqt sm t2, B0', B1', S0', S1'⟩
        obtain ⟨c0, c1, c2, c3⟩ := qb
        have al : acc.length ≤ 2 := by
          rw [hA.len, List.length_take]
          exact Nat.min_le_right j 2
        refine ⟨a, _, rfl, ta, rfl, _, _, rfl, _, _, rfl, rfl, rfl, _, rfl, _, rfl, q.1, u, rfl, up, zu, fun v1 H5 s5 k1 => ⟨_, rfl, _, rfl, q.2, u, rfl, up, zu, fun v2 H6 s6 k2 => ?_⟩⟩
        refine make_ok (k1.same s6).num k2.num (divInt_nonneg c0 up) (divInt_pos (by omega) up) fun x7 H7 s7 m7 => ?_
        have s47 := (s5.trans s6).trans s7
        have hD7 := s47 _ _ hD2
        refine ⟨acc, hD7, Nat.lt_trans (show acc.length < 1000 by omega) (small1000 (Nat.le_refl _)), same_but (sm.trans s47) nD2, _, upd_same, ?_⟩
        rw [take_snoc hq]
        exact All2.snoc (R := fun v (q : Int × Int) => MomAt K C (upd H7 D2 (.lst (acc ++ [.ref x7]))) v (Rat.divInt q.1 u) (Rat.divInt q.2 u)) (m7.but but_new hD7) (hA.imp fun _ _ z => (z.same s47).but but_new hD7)
      obtain ⟨s34, acc, hD2, hA⟩ := hP
      obtain ⟨v6, v7, rfl, m6, m7⟩ : ∃ v6 v7, acc = [v6, v7] ∧ MomAt K C H4 v6 (Rat.divInt B u) (Rat.divInt S u) ∧ MomAt K C H4 v7 (Rat.divInt B' u) (Rat.divInt S' u) := by
        cases hA with
        | cons a t =>
          cases t with
          | cons b t2 =>
            cases t2
            exact ⟨_, _, rfl, a, b⟩
      refine ⟨D2, _, rfl, .of hD2, rfl, _, _, rfl, _, _, rfl, rfl, ?_⟩
      have bN := divInt_nonneg B0 up
      have bN' := divInt_nonneg B0' up
      have sP := divInt_pos (show 0 < S by omega) up
      have sP' := divInt_pos (show 0 < S' by omega) up
      have zb := zS B0 (by omega)
      have zb' := zS B0' (by omega)
      have zs := zS (show 0 ≤ S by omega) (by omega)
      have zs' := zS (show 0 ≤ S' by omega) (by omega)
      have hD4 := s34 _ _ hD
      have t14 := same_sqt s34 t1
      have t24 := same_sqt s34 t2
      have hp4 := hp3.same s34
      clear hA hD2 nD2 hD t1 t2 hp3 hr1 hr2 s34
      -- due
      refine ⟨_, rfl, D, _, 0, _, rfl, rfl, .of hD4, atI_nat (j := 0) rfl, _, rfl, D, _, 1, _, rfl, rfl, .of hD4, atI_nat (j := 1) rfl, _, rfl, .non, .non, r1, r2, u, B, S, B', S', rfl, t14, t24, ⟨u1, u6⟩, ⟨B0, B1⟩, ⟨S0, S1⟩, ⟨B0', B1'⟩, ⟨S0', S1'⟩, givesC_of fun dv H5 s45 cv => ?_⟩
      have m65 := m6.same s45
      have m75 := m7.same s45
      have hD5 := s45 _ _ hD4
      have t15 := same_sqt s45 t14
      have hp5 := hp4.same s45
      have eb : ∃ b, b = Rat.divInt B u := ⟨_, rfl⟩
      obtain ⟨b, eb⟩ := eb
      have es : ∃ s, s = Rat.divInt S u := ⟨_, rfl⟩
      obtain ⟨s, es⟩ := es
      rw [← eb] at bN zb m65 cv
      rw [← es] at sP zs m65 cv
      clear m6 m7 hD4 t14 t24 hp4 s45
      generalize Rat.divInt B' u = b' at bN' zb' m75 cv
      generalize Rat.divInt S' u = s' at sP' zs' m75 cv
      have one : One b s := by
        refine ⟨bN, ?_, sP, zb, zs⟩
        have h99 : Un u 99 (99 * u) := by
          unfold Un
          rw [Rat.intCast_mul]
          rfl
        have h := (un_le up (eb ▸ un_div up) h99).mpr (show B ≤ 99 * u by omega)
        have e : ((-100 : Int) : Rat) = -100 := rfl
        rw [e]
        grind
      clear zS
      obtain ⟨p6, d6, w6, y6, rfl, hp6, _, _⟩ := id m65
      obtain ⟨p7, d7, w7, y7, rfl, hp7, _, _⟩ := id m75
      -- one & other, other & one
      refine ⟨_, rfl, _, rfl, p6, d6, _, .ref C, rfl, hp6, T.ty hp7, .inl rfl, _, _, b, s, b', s', rfl, m65, m75, ⟨bN, sP, bN', sP'⟩, ⟨zb, zs, zb', zs'⟩, givesC_of fun g1 H6 s56 c1 => ?_⟩
      refine ⟨_, rfl, _, rfl, p7, d7, _, .ref C, rfl, s56 _ _ hp7, T.ty (s56 _ _ hp6), .inl rfl, _, _, b', s', b, s, rfl, m75.same s56, m65.same s56, ⟨bN', sP', bN, sP⟩, ⟨zb', zs', zb, zs⟩, givesC_of fun g2 H7 s67 c2 => ?_⟩
      refine ⟨by show 2 ≤ sizeLine; decide, fun L nL => ?_⟩
      have s78 : Same H7 (upd H7 L (.lst [g1, g2])) := same_new nL
      have hL : (upd H7 L (.lst [g1, g2])) L = some (.lst [g1, g2]) := upd_same
      show ∃ _, _
      generalize (upd H7 L (.lst [g1, g2])) = H8 at s78 hL ⊢
      have s58 := (s56.trans s67).trans s78
      have cv8 := cv.same s58
      have all : ∀ v ∈ [g1, g2], CV K C b s b' s' H8 v := fun v hv => by
        rcases List.mem_cons.mp hv with e | hv
        · rw [e]
          exact c1.same (s67.trans s78)
        · rw [List.mem_singleton.mp hv]
          exact c2.swap.same s78
      refine ⟨L, rfl, ⟨_, .of hL⟩, for_list (xs := [g1, g2]) (fun j σ H' => Same H8 H' ∧ ∃ o9, σ = [some (.ref a0), some (.ref p), some (.int (0 + (i : Int))), some (.int u), o4, some (.ref D), some (.ref p6), some (.ref p7), some dv, o9, o10, o11, o12, o13, none, none, none, none]) ⟨Same.refl _, o9, rfl⟩ (fun j σ H' _ hP => hP.1.seq (.of hL)) (fun j x σ H' hx hP => ?_) (fun σ H' hP => ?_)⟩
      · obtain ⟨sm, o9, rfl⟩ := hP
        have cx := (all x (List.mem_of_getElem? hx)).same sm
        rcases cx.alike (cv8.same sm) with ⟨rfl, rfl⟩ | ⟨xa, za, f, t, rfl, rfl, mx, mz⟩
        · refine ⟨_, rfl, rfl, _, rfl, rfl, rfl, _, rfl, ite2 (fun c => absurd c (by simp)) (fun _ => ?_)⟩
          exact ⟨_, rfl, rfl, _, rfl, iteF ⟨sm, _, rfl⟩⟩
        · refine ⟨_, rfl, rfl, _, rfl, rfl, rfl, _, rfl, ite2 (fun c => absurd c (by simp)) (fun _ => ?_)⟩
          refine ⟨_, rfl, rfl, _, rfl, iteT ?_⟩
          obtain ⟨px, dx, _, _, ex, hpx, _, _⟩ := id mx
          obtain ⟨pz, dz, _, _, ez, hpz, _, _⟩ := id mz
          refine ⟨_, rfl, _, rfl, px, dx, _, .ref C, ex, hpx, by rw [ez]; exact T.ty hpz, nf_self, _, _, f, t, rfl, mx, .inr ⟨f, t, mz, _, rfl, ?_⟩⟩
          exact ⟨_, rfl, ite2 (fun c => absurd c (by simp)) (fun _ => ⟨sm, _, rfl⟩)⟩
      obtain ⟨s89, o9', rfl⟩ := hP
      have s59 := s58.trans s89
      have m69 := m65.same s59
      have hp69 := s59 _ _ hp6
      have hD9 := s59 _ _ hD5
      have t19 := same_sqt s59 t15
      have hp9 := hp5.same s59
      clear all cv8 cv c1 c2 hL nL m65 m75 hp6 hp7 hD5 t15 hp5 s56 s67 s78 s58 s89 s59
      -- delay, factor
      obtain ⟨xp9, hxp9⟩ := hp9.lst
      have nDp : D ≠ p := by
        rintro rfl
        obtain ⟨_, _, _, _, _, h1, _⟩ := hp9
        rw [h1] at hD9
        cases hD9
      refine ⟨_, rfl, p, 30, rfl, hp9, by decide, by decide, fun dlv d H10 d0 zd rd dr10 => ?_⟩
      obtain ⟨xp10, hxp10⟩ := dr10.pool.lst
      refine ⟨_, rfl, p, 9, rfl, dr10.pool, by decide, by decide, fun nv n H11 n0 zn rn dr11 => ⟨by show 2 ≤ sizeLine; decide, fun t nt => ?_⟩⟩
      have dr := dr10.trans dr11
      have s1 : Same H11 (upd H11 t (.tup [.int 1, .int 5])) := same_new nt
      have rt5 : Rn K (upd H11 t (.tup [.int 1, .int 5])) (.ref t) (Rat.divInt 1 5) := ⟨t, rfl, .inl (.inl (by rw [upd_same]; rfl))⟩
      have z15 : Sz 200 (Rat.divInt 1 5) := sz_divInt (by decide) (by decide) (by decide)
      refine ⟨nv, .ref t, n, Rat.divInt 1 5, rfl, rn.same s1, rt5, zn.mono (by decide), z15.mono (by decide), fun fv H12 s12 rf => ⟨_, _, rfl, ?_⟩⟩
      have s1112 := s1.trans s12
      have q15 : (0 : Rat) < Rat.divInt 1 5 := by decide
      have f0 : 0 < n + Rat.divInt 1 5 := by grind
      have zf2 : Sz 401 (n + Rat.divInt 1 5) := zn.add z15
      have zf : Sz 900 (n + Rat.divInt 1 5) := zf2.mono (by decide)
      generalize n + Rat.divInt 1 5 = fc at rf f0 zf zf2
      have m6c := (m69.but dr.but hxp9).same s1112
      have rd12 := ((Odd.lst hxp10).rn dr11.but rd).same s1112
      have hDc := s1112 _ _ (dr.but _ _ nDp hD9)
      have t1c := same_sqt s1112 ((Odd.lst hxp9).sqt dr.but t19)
      have hpc := dr.pool.same s1112
      clear s1112 s1 s12 dr dr10 dr11 rt5 rn rd hxp9 hxp10 m69 t19 hp9 hD9 hp69 nDp nt
      obtain ⟨ad, rfl, td⟩ := id rd12
      obtain ⟨af, rfl, tf⟩ := id rf
      obtain ⟨p6', d6', w6', y6', e6, hp6, _, _⟩ := id m6c
      cases e6
      have zd9 : Sz 900 d := zd.mono (by decide)
      have zbd : Sz 900 (b + d) := (zb.add zd).mono (by decide)
      have bd0 : 0 ≤ b + d := by grind
      have bf0 : 0 ≤ b * fc := Rat.mul_nonneg bN (Rat.le_of_lt f0)
      have sf0 : 0 < s * fc := Rat.mul_pos sP f0
      have bfz : Sz 900 (b * fc) := (zb.mul zf2).mono (by decide)
      have sfz : Sz 900 (s * fc) := (zs.mul zf2).mono (by decide)
      -- late, slow
      refine ⟨_, rfl, _, rfl, p6, d6', _, .type "tuple", rfl, hp6, (Kd.tup td).ty, .inr ⟨"tuple", rfl, O.ta _ (by decide)⟩, _, _, b, s, some d, rfl, m6c, rd12.num, sP, zb.mono (by decide), zd.mono (by decide), fun z => absurd bd0 (Rat.not_le.mpr z), fun _ x13 H13 s13 m13 => ?_⟩
      have hp6a := s13 _ _ hp6
      refine ⟨_, rfl, _, rfl, p6, d6', _, .type "tuple", rfl, hp6a, (Kd.tup (same_sqt s13 tf)).ty, .inr ⟨"tuple", rfl, O.tm _ (by decide)⟩, _, _, b, s, some fc, rfl, m6c.same s13, (rf.same s13).num, bN, sP, ⟨zb.mono (by decide), zs.mono (by decide)⟩, fun z => absurd z (by show ¬ decide (0 < fc) = false; simpa using f0), fun e ee e0 => ?_⟩
      cases ee
      refine ⟨zf.mono (by decide), fun x14 H14 s14 m14 => ⟨_, _, rfl, ?_⟩⟩
      have s1214 := s13.trans s14
      have mL := m13.same s14
      have m6d := m6c.same s1214
      have rdd := rd12.same s1214
      have rfd := rf.same s1214
      have tdd := same_sqt s1214 td
      have tfd := same_sqt s1214 tf
      have hDd := s1214 _ _ hDc
      have t1d := same_sqt s1214 t1c
      have hpd := hpc.same s1214
      have hp6d := s1214 _ _ hp6
      clear m13 m6c rd12 rf td tf hDc t1c hpc hp6 hp6a s13 s14 s1214
      obtain ⟨pL, dL', wL, yL, eL, hpL, _, _⟩ := id mL
      cases eL
      obtain ⟨pS', dS', wS, yS, eS', hpS, _, _⟩ := id m14
      cases eS'
      -- late + -delay != one
      refine ⟨_, rfl, _, rfl, ad, _, 0, _, rfl, rfl, tdd, atI_nat (j := 0) rfl, 0, d.num, rfl, rfl, _, rfl, ad, _, 1, _, rfl, rfl, tdd, atI_nat (j := 1) rfl, by show 2 ≤ sizeLine; decide, fun t nt => ?_⟩
      have sA : Same H14 (upd H14 t (.tup [.int (0 - d.num), .int (d.den : Int)])) := same_new nt
      have rA : Rn K (upd H14 t (.tup [.int (0 - d.num), .int (d.den : Int)])) (.ref t) (-d) := ⟨t, rfl, .inl (.inl (by rw [upd_same]; show some (HO.tup [.int (0 - d.num), .int (d.den : Int)]) = some (.tup [.int (-d).num, .int ((-d).den : Int)]); rw [Rat.neg_num, Rat.neg_den, Int.zero_sub]))⟩
      have tA : SqT K (upd H14 t (.tup [.int (0 - d.num), .int (d.den : Int)])) t [.int (0 - d.num), .int (d.den : Int)] := .inl (.inl upd_same)
      show OO.rBin _ _ _ _ _ _ _ (upd H14 t (.tup [.int (0 - d.num), .int (d.den : Int)])) _
      generalize (upd H14 t (.tup [.int (0 - d.num), .int (d.den : Int)])) = H15 at sA rA tA ⊢
      have bk : b + d + -d = b := by grind
      refine ⟨x13, dL', _, .type "tuple", rfl, sA _ _ hpL, (Kd.tup tA).ty, .inr ⟨"tuple", rfl, O.ta _ (by decide)⟩, _, _, b + d, s, some (-d), rfl, mL.same sA, rA.num, sP, zbd.mono (by decide), zd9.neg.mono (by decide), fun z => absurd bN (by rw [← bk]; exact Rat.not_le.mpr z), fun _ x16 H16 s16 m16 => ?_⟩
      rw [bk] at m16
      obtain ⟨pM, dM', wM, yM, eM, hpM, _, _⟩ := id m16
      have s1416 := sA.trans s16
      refine ⟨_, rfl, pM, dM', _, .ref C, eM, hpM, T.ty (s1416 _ _ hp6d), nf_self, _, _, b, s, rfl, m16, .inr ⟨b, s, m6d.same s1416, _, rfl, ?_⟩⟩
      refine ⟨_, rfl, ite2 (fun c => absurd c (by simp)) (fun _ => ?_)⟩
      clear hpM eM m16 rA tA
      -- one & one != one
      refine ⟨_, rfl, _, rfl, p6, d6', _, .ref C, rfl, s1416 _ _ hp6d, T.ty (s1416 _ _ hp6d), .inl rfl, _, _, b, s, b, s, rfl, m6d.same s1416, m6d.same s1416, ⟨bN, sP, bN, sP⟩, ⟨zb, zs, zb, zs⟩, givesC_of fun g3 H17 s17 c3 => ?_⟩
      obtain ⟨x17, rfl, m17⟩ := c3.self sP
      obtain ⟨pM, dM', wM, yM, eM, hpM, _, _⟩ := id m17
      have s1417 := s1416.trans s17
      refine ⟨_, rfl, pM, dM', _, .ref C, eM, hpM, T.ty (s1417 _ _ hp6d), nf_self, _, _, b, s, rfl, m17, .inr ⟨b, s, m6d.same s1417, _, rfl, ?_⟩⟩
      refine ⟨_, rfl, ite2 (fun c => absurd c (by simp)) (fun _ => ?_)⟩
      clear hpM eM m17 c3
      -- one by one
      refine ⟨_, rfl, by decide, by decide, for_range (lo := 0) (n := 4) (fun k σ H' => Same H14 H' ∧ ∃ o4, σ = [some (.ref a0), some (.ref p), some (.int (0 + (i : Int))), some (.int u), o4, some (.ref D), some (.ref p6), some (.ref p7), some dv, o9', some (.ref ad), some (.ref af), some (.ref x13), some (.ref x14), none, none, none, none]) ⟨s1417, o4, rfl⟩ (fun k σ H' hk hP => ?_) (fun σ H' hP => ?_)⟩
      · obtain ⟨sm, o4', rfl⟩ := hP
        have z0 : (0 : Int) ≤ 0 + (k : Int) := by omega
        have zk : Sz 200 (((0 + (k : Int) : Int)) : Rat) := Sz.int (by decide) (Nat.lt_of_lt_of_le (show (0 + (k : Int)).natAbs < 2 ^ 10 by omega) (Nat.pow_le_pow_right (by decide) (by decide)))
        have zk9 : Sz 900 (((0 + (k : Int) : Int)) : Rat) := zk.mono (by decide)
        have zb9 : Sz 900 b := zb.mono (by decide)
        have zs9 : Sz 900 s := zs.mono (by decide)
        have zbk : Sz 900 (b + (((0 + (k : Int) : Int)) : Rat) * s) := (zb.add (zk.mul zs)).mono (by decide)
        have zbf : Sz 900 (b * fc) := bfz
        have zsf : Sz 900 (s * fc) := sfz
        -- late[k] != one[k] + delay
        refine ⟨_, rfl, _, rfl, x13, dL', _, rfl, sm _ _ hpL, _, _, b + d, s, "int", rfl, mL.same sm, .int _, fun z => absurd z (by omega), fun _ => ⟨⟨zk9, zbd, zs9⟩, fun y1 H1' s1' k1 => ?_⟩⟩
        have sm1 := sm.trans s1'
        refine ⟨_, rfl, _, rfl, p6, d6', _, rfl, sm1 _ _ hp6d, _, _, b, s, "int", rfl, m6d.same sm1, .int _, fun z => absurd z (by omega), fun _ => ⟨⟨zk9, zb9, zs9⟩, fun y2 H2' s2' k2 => ?_⟩⟩
        have sm2 := sm1.trans s2'
        refine ⟨_, rfl, y2, .ref ad, _, d, rfl, k2, rdd.same sm2, zbk.mono (by decide), zd.mono (by decide), fun y3 H3' s3' k3 => ?_⟩
        have sm3 := sm2.trans s3'
        refine ⟨datR _, datR _, (k1.same (s2'.trans s3')).dp, k3.dp, shapedR _, shapedR _, _, rfl, ?_⟩
        have e1 : b + d + (((0 + (k : Int) : Int)) : Rat) * s = b + (((0 + (k : Int) : Int)) : Rat) * s + d := by grind
        rw [eqvRR, e1]
        refine ite2 (fun c => absurd c (by simp)) (fun _ => ?_)
        -- slow[k] != one[k] * factor
        refine ⟨_, rfl, _, rfl, x14, dS', _, rfl, sm3 _ _ hpS, _, _, b * fc, s * fc, "int", rfl, m14.same sm3, .int _, fun z => absurd z (by omega), fun _ => ⟨⟨zk9, zbf, zsf⟩, fun y4 H4' s4' k4 => ?_⟩⟩
        have sm4 := sm3.trans s4'
        refine ⟨_, rfl, _, rfl, p6, d6', _, rfl, sm4 _ _ hp6d, _, _, b, s, "int", rfl, m6d.same sm4, .int _, fun z => absurd z (by omega), fun _ => ⟨⟨zk9, zb9, zs9⟩, fun y5 H5' s5' k5 => ?_⟩⟩
        have sm5 := sm4.trans s5'
        obtain ⟨a5, rfl, ta5⟩ := id k5
        have up3 : ∀ {n : Nat}, n < 2 ^ 900 → n < 2 ^ 3900 := fun h => Nat.lt_of_lt_of_le h (Nat.pow_le_pow_right (by decide) (by decide))
        refine ⟨a5, _, 0, _, rfl, rfl, ta5, atI_nat (j := 0) rfl, _, rfl, af, _, 0, _, rfl, rfl, same_sqt sm5 tfd, atI_nat (j := 0) rfl, _, fc.num, rfl, rfl, wm (up3 zbk.1) (up3 zf.1), ?_⟩
        refine ⟨_, rfl, _, rfl, p6, d6', _, rfl, sm5 _ _ hp6d, _, _, b, s, "int", rfl, m6d.same sm5, .int _, fun z => absurd z (by omega), fun _ => ⟨⟨zk9, zb9, zs9⟩, fun y6 H6' s6' k6 => ?_⟩⟩
        have sm6 := sm5.trans s6'
        obtain ⟨a6, rfl, ta6⟩ := id k6
        refine ⟨a6, _, 1, _, rfl, rfl, ta6, atI_nat (j := 1) rfl, _, rfl, af, _, 1, _, rfl, rfl, same_sqt sm6 tfd, atI_nat (j := 1) rfl, _, (fc.den : Int), rfl, rfl, wm (by rw [Int.natAbs_natCast]; exact up3 zbk.2) (by rw [Int.natAbs_natCast]; exact up3 zf.2), ?_⟩
        refine ⟨_, _, rfl, den_pos2 _ fc, ?_, fun y7 H7' s7' k7 => ?_⟩
        · rw [Int.natAbs_mul, Int.natAbs_natCast, Int.natAbs_natCast]
          exact Nat.lt_of_lt_of_le (mul_lt zbk.2 zf.2) (Nat.pow_le_pow_right (by decide) (by decide))
        rw [← mul_as] at k7
        refine ⟨datR _, datR _, (k4.same ((s5'.trans s6').trans s7')).dp, k7.dp, shapedR _, shapedR _, _, rfl, ?_⟩
        have e2 : b * fc + (((0 + (k : Int) : Int)) : Rat) * (s * fc) = (b + (((0 + (k : Int) : Int)) : Rat) * s) * fc := by grind
        rw [eqvRR, e2]
        exact ite2 (fun c => absurd c (by simp)) (fun _ => ⟨sm6.trans s7', _, rfl⟩)
      obtain ⟨sm, o4', rfl⟩ := hP
      -- begin, step of the row
      have m6e := m6d.same sm
      have hp6e := sm _ _ hp6d
      refine ⟨_, rfl, p6, d6', _, rfl, hp6e, _, b, s, rfl, m6e, fun yb kb => ?_⟩
      refine ⟨_, rfl, D, _, 0, _, rfl, rfl, .of (sm _ _ hDd), atI_nat (j := 0) rfl, r1, _, 0, _, rfl, rfl, same_sqt sm t1d, atI_nat (j := 0) rfl, _, rfl, B, u, rfl, up, zu, fun y8 H18 s18 k8 => ?_⟩
      rw [← eb] at k8
      refine ⟨datR _, datR _, (kb.same s18).dp, k8.dp, shapedR _, shapedR _, _, rfl, ?_⟩
      rw [eqvRR]
      refine ite2 (fun c => absurd c (by simp)) (fun _ => ?_)
      have sm1 := sm.trans s18
      refine ⟨_, rfl, p6, d6', _, rfl, sm1 _ _ hp6d, _, b, s, rfl, m6d.same sm1, fun ys ks => ?_⟩
      refine ⟨_, rfl, D, _, 0, _, rfl, rfl, .of (sm1 _ _ hDd), atI_nat (j := 0) rfl, r1, _, 1, _, rfl, rfl, same_sqt sm1 t1d, atI_nat (j := 1) rfl, _, rfl, S, u, rfl, up, zu, fun y9 H19 s19 k9 => ?_⟩
      rw [← es] at k9
      refine ⟨datR _, datR _, (ks.same s19).dp, k9.dp, shapedR _, shapedR _, _, rfl, ?_⟩
      rw [eqvRR]
      refine ite2 (fun c => absurd c (by simp)) (fun _ => ?_)
      have sm2 := sm1.trans s19
      exact ⟨hpd.same sm2, _, _, _, _, _, _, _, _, _, _, _, _, rfl, fun _ => ⟨_, b, s, rfl, m6d.same sm2, one⟩⟩
    obtain ⟨_, o2, o3, o4, o5, o6, o7, o8, o9, o10, o11, o12, o13, rfl, hone⟩ := hP
    obtain ⟨v6, b, s, rfl, m6, bN, b1, sP, zb, zs⟩ := hone (by decide)
    obtain ⟨p6, d6, w6, y6, rfl, hp6, _, _⟩ := id m6
    clear hone
    -- kept
    refine ⟨_, rfl, p6, d6, _, rfl, hp6, _, b, s, rfl, m6, fun yb kb => ⟨_, rfl, p6, d6, _, rfl, hp6, _, b, s, rfl, m6, fun ys ks => ⟨by show 2 ≤ sizeLine; decide, fun KL nKL => ?_⟩⟩⟩
    have sK : Same H' (upd H' KL (.lst [yb, ys])) := same_new nKL
    have hK : (upd H' KL (.lst [yb, ys])) KL = some (.lst [yb, ys]) := upd_same
    show tNext _ _ (upd H' KL (.lst [yb, ys]))
    generalize (upd H' KL (.lst [yb, ys])) = H1k at sK hK ⊢
    have mk1 := m6.same sK
    have kb1 := kb.same sK
    have ks1 := ks.same sK
    have hp61 := sK _ _ hp6
    clear m6 kb ks hp6 sK nKL
    have z9 : Sz 3900 b ∧ Sz 3900 s := ⟨zb.mono (by decide), zs.mono (by decide)⟩
    -- values that are no numbers
    refine ⟨by show 2 ≤ sizeLine; decide, fun t1 nt1 => ?_⟩
    have sA : Same H1k (upd H1k t1 (.tup [.int 2, .int 4])) := same_new nt1
    have ht1 : (upd H1k t1 (.tup [.int 2, .int 4])) t1 = some (.tup [.int 2, .int 4]) := upd_same
    generalize (upd H1k t1 (.tup [.int 2, .int 4])) = HA at sA ht1 ⊢
    refine ⟨by show 1 ≤ sizeLine; decide, fun l1 nl1 => ?_⟩
    have sB : Same HA (upd HA l1 (.lst [.int 1])) := same_new nl1
    have hl1 : (upd HA l1 (.lst [.int 1])) l1 = some (.lst [.int 1]) := upd_same
    generalize (upd HA l1 (.lst [.int 1])) = HB at sB hl1 ⊢
    refine ⟨by show 5 ≤ sizeLine; decide, fun L nL => ?_⟩
    have sC : Same HB (upd HB L (.lst [.non, .str "1", .bl true, .ref t1, .ref l1])) := same_new nL
    have hL : (upd HB L (.lst [.non, .str "1", .bl true, .ref t1, .ref l1])) L = some (.lst [.non, .str "1", .bl true, .ref t1, .ref l1]) := upd_same
    show ∃ _, _
    generalize (upd HB L (.lst [.non, .str "1", .bl true, .ref t1, .ref l1])) = HE at sC hL ⊢
    have s1E := (sA.trans sB).trans sC
    have kds : ∀ x ∈ [V.non, .str "1", .bl true, .ref t1, .ref l1], Arg K HE x none := by
      intro x hx
      simp only [List.mem_cons, List.not_mem_nil, or_false] at hx
      rcases hx with rfl | rfl | rfl | rfl | rfl
      · exact .oth .non rfl rfl
      · exact .oth (.str _) rfl rfl
      · exact .oth (.bl true) rfl rfl
      · exact arg_tup ((sB.trans sC) _ _ ht1) no24
      · exact .oth (.lst (.of (sC _ _ hl1))) rfl rfl
    refine ⟨L, rfl, ⟨_, .of hL⟩, for_list (xs := [V.non, .str "1", .bl true, .ref t1, .ref l1]) (fun i σ H' => Same HE H' ∧ ∃ o15, σ = [some (.ref a0), some (.ref p), o2, o3, o4, o5, some (.ref p6), o7, o8, o9, o10, o11, o12, o13, some (.ref KL), o15, none, none]) ⟨Same.refl _, _, rfl⟩ (fun i σ H' _ hP => hP.1.seq (.of hL)) (fun i x σ H' hx hP => ?_) (fun σ H2k hP => ?_)⟩
    · obtain ⟨sm, o15, rfl⟩ := hP
      have ax := (kds x (List.mem_of_getElem? hx)).same sm
      have m' := (mk1.same s1E).same sm
      refine ⟨_, rfl, x, rfl, 0, .ref p6, x, b, s, none, "number", rfl, m', bN, sP, z9, ax, .n0, fun H4' s4' => ?_⟩
      refine ⟨rfl, _, rfl, ite2 (fun c => absurd c (by simp)) (fun _ => ?_)⟩
      refine ⟨_, rfl, x, rfl, 1, .ref p6, x, b, s, none, "factor", rfl, m'.same s4', bN, sP, z9, ax.same s4', .f1 rfl, fun H5' s5' => ?_⟩
      exact ⟨rfl, _, rfl, ite2 (fun c => absurd c (by simp)) (fun _ => ⟨(sm.trans s4').trans s5', _, rfl⟩)⟩
    obtain ⟨sm, o15, rfl⟩ := hP
    have s12 := s1E.trans sm
    have m2 := mk1.same s12
    have hK2 := s12 _ _ hK
    have kb2 := kb1.same s12
    have ks2 := ks1.same s12
    have hp62 := s12 _ _ hp61
    clear mk1 hK kb1 ks1 hp61 sA sB sC s1E sm kds ht1 hl1 hL nt1 nl1 nL s12
    -- a time before all
    refine ⟨_, rfl, 100, rfl, 0, .ref p6, .int (-100), b, s, some ((-100 : Int) : Rat), "time", rfl, m2, bN, sP, z9, num_int (-100), .t0 b1 ⟨by decide, by decide⟩, fun H3k s23 => ?_⟩
    refine ⟨rfl, _, rfl, ite2 (fun c => absurd c (by simp)) (fun _ => ?_)⟩
    have m3 := m2.same s23
    have hp63 := s23 _ _ hp62
    refine ⟨_, rfl, p6, d6, _, rfl, hp63, _, b, s, rfl, m3, fun yb' kb' => ⟨_, rfl, p6, d6, _, rfl, hp63, _, b, s, rfl, m3, fun ys' ks' => ⟨by show 2 ≤ sizeLine; decide, fun L nL => ?_⟩⟩⟩
    have sA : Same H3k (upd H3k L (.lst [yb', ys'])) := same_new nL
    have hL : (upd H3k L (.lst [yb', ys'])) L = some (.lst [yb', ys']) := upd_same
    show ∃ _, _
    generalize (upd H3k L (.lst [yb', ys'])) = H4k at sA hL ⊢
    have s24 := s23.trans sA
    have aL : All2 (Rn K H4k) [yb', ys'] [b, s] := .cons (kb'.same sA) (.cons (ks'.same sA) .nil)
    have aK : All2 (Rn K H4k) [yb, ys] [b, s] := .cons (kb2.same s24) (.cons (ks2.same s24) .nil)
    refine ⟨_, rfl, _, _, .lst (.of hL) (rnl_dp aL), .lst (.of (s24 _ _ hK2)) (rnl_dp aK), shapedRs _, shapedRs _, _, rfl, ?_⟩
    rw [eqvRRs]
    refine ite2 (fun c => absurd c (by simp)) (fun _ => ?_)
    have m4 := m2.same s24
    clear m2 m3 hp62 hp63 hK2 kb2 ks2 kb' ks' hL aL aK sA s23 s24 nL
    -- values that are no factors
    refine ⟨1, rfl, 1, rfl, by show 2 ≤ sizeLine; decide, fun t1 nt1 => ?_⟩
    have sA : Same H4k (upd H4k t1 (.tup [.int (-1), .int 2])) := same_new nt1
    have ht1 : (upd H4k t1 (.tup [.int (-1), .int 2])) t1 = some (.tup [.int (-1), .int 2]) := upd_same
    generalize (upd H4k t1 (.tup [.int (-1), .int 2])) = HA at sA ht1 ⊢
    refine ⟨by show 3 ≤ sizeLine; decide, fun L nL => ?_⟩
    have sE : Same HA (upd HA L (.lst [.int 0, .int (-1), .ref t1])) := same_new nL
    have hL : (upd HA L (.lst [.int 0, .int (-1), .ref t1])) L = some (.lst [.int 0, .int (-1), .ref t1]) := upd_same
    show ∃ _, _
    generalize (upd HA L (.lst [.int 0, .int (-1), .ref t1])) = HE at sE hL ⊢
    have s4E := sA.trans sE
    have kds : ∀ x ∈ [V.int 0, .int (-1), .ref t1], ∃ o, Arg K HE x o ∧ isPos o = false := by
      intro x hx
      simp only [List.mem_cons, List.not_mem_nil, or_false] at hx
      rcases hx with rfl | rfl | rfl
      · exact ⟨_, .int 0, by decide⟩
      · exact ⟨_, .int (-1), by decide⟩
      · exact ⟨_, arg_tup (sE _ _ ht1) (rat_of (by decide)), by decide⟩
    refine ⟨L, rfl, ⟨_, .of hL⟩, fun D nD => lc_list (xs := [V.int 0, .int (-1), .ref t1]) (fun j H'' => Same HE H'' ∧ j ≤ 3 ∧ H'' D = some (.lst (List.replicate j (V.str "factor")))) ⟨same_new nD, by decide, upd_same⟩ (fun j H'' _ hP => hP.1.seq (.of hL)) (fun j x H'' hx hP => ?_) (fun H5k hP => ?_)⟩
    · obtain ⟨sm, j3, hD⟩ := hP
      have jl : j < 3 := (List.getElem?_eq_some_iff.mp hx).1
      obtain ⟨o, ax, bad⟩ := kds x (List.mem_of_getElem? hx)
      refine ⟨rfl, _, rfl, x, rfl, 1, .ref p6, x, b, s, o, "factor", rfl, (m4.same s4E).same sm, bN, sP, z9, ax.same sm, .f1 bad, fun H4' s4' => ?_⟩
      refine ⟨_, s4' _ _ hD, Nat.lt_trans (show (List.replicate j (V.str "factor")).length < 1000 by rw [List.length_replicate]; omega) (small1000 (Nat.le_refl _)), same_but (sm.trans s4') nD, jl, ?_⟩
      rw [repl_snoc]
      exact upd_same
    obtain ⟨sm, _, hD⟩ := hP
    refine ⟨by show 1 ≤ sizeLine; decide, fun e1 ne1 => ?_⟩
    have sG : Same H5k (upd H5k e1 (.lst [.str "factor"])) := same_new ne1
    have he1 : (upd H5k e1 (.lst [.str "factor"])) e1 = some (.lst [.str "factor"]) := upd_same
    generalize (upd H5k e1 (.lst [.str "factor"])) = H6k at sG he1 ⊢
    refine ⟨e1, 3, _, rfl, rfl, he1, by decide, by decide, by show 3 ≤ sizeLine; decide, fun e2 ne2 => ?_⟩
    have sI : Same H6k (upd H6k e2 (.lst (List.replicate (3 : Int).toNat [V.str "factor"]).flatten)) := same_new ne2
    have he2 : (upd H6k e2 (.lst (List.replicate (3 : Int).toNat [V.str "factor"]).flatten)) e2 = some (.lst (List.replicate 3 (V.str "factor"))) := by rw [upd_same]; rfl
    generalize (upd H6k e2 (.lst (List.replicate (3 : Int).toNat [V.str "factor"]).flatten)) = H7k at sI he2 ⊢
    refine ⟨.list (List.replicate 3 (.str "factor")), .list (List.replicate 3 (.str "factor")), .lst (.of ((sG.trans sI) _ _ hD)) (dpStrs _ 3), .lst (.of he2) (dpStrs _ 3), shapedStrs _ (by decide +kernel) 3, shapedStrs _ (by decide +kernel) 3, ?_⟩
    rw [eqvStrs _ (by decide +kernel)]
    exact q H7k
end
end LR
set_option Elab.async false
set_option linter.all false
set_option maxRecDepth 100000
set_option maxHeartbeats 4000000
namespace OO
open PySem
theorem isSome_ex {α : Type} {o : Option α} (h : o.isSome = true) : ∃ a, o = some a := Option.isSome_iff_exists.mp h
theorem tab : LR.kdNames.all (fun n => (PySem.fastLookup n (PySem.dunder "add")).isSome && (PySem.fastLookup n (dunderR "add")).isSome && (PySem.fastLookup n (PySem.dunder "mul")).isSome && (PySem.fastLookup n (dunderR "mul")).isSome) = true := by decide +kernel
theorem opTa {K : PySem.W.Frag} {C : Addr} {n : String} (hn : n ∈ LR.kdNames) (h : PySem.W.subIn K (.type n) (.ref C) = some false) : OpT K C (Operator.info .Add).2 n := by
  have t := List.all_eq_true.mp tab n hn
  simp only [Bool.and_eq_true] at t
  exact ⟨isSome_ex t.1.1.1, isSome_ex t.1.1.2, h⟩
theorem opTm {K : PySem.W.Frag} {C : Addr} {n : String} (hn : n ∈ LR.kdNames) (h : PySem.W.subIn K (.type n) (.ref C) = some false) : OpT K C (Operator.info .Mult).2 n := by
  have t := List.all_eq_true.mp tab n hn
  simp only [Bool.and_eq_true] at t
  exact ⟨isSome_ex t.1.2, isSome_ex t.2, h⟩
theorem dAdd : PySem.dunder (Operator.info .Add).2 = ("__add__" : Str) ∧ dunderR (Operator.info .Add).2 = ("__radd__" : Str) := by decide +kernel
theorem dMul : PySem.dunder (Operator.info .Mult).2 = ("__mul__" : Str) ∧ dunderR (Operator.info .Mult).2 = ("__rmul__" : Str) := by decide +kernel
theorem dAnd : PySem.dunder (Operator.info .BitAnd).2 = ("__and__" : Str) ∧ dunderR (Operator.info .BitAnd).2 = ("__rand__" : Str) := by decide +kernel
theorem opC_of {K : PySem.W.Frag} {C g : Addr} {nm : String} {x y : Str} (e : PySem.dunder nm = x ∧ dunderR nm = y) (h1 : PySem.W.findIn K (.ref C) x = some (some (.ref g))) (h2 : PySem.W.isFn K (.ref g) = true) (h3 : PySem.W.selfFirst K C = true) (h4 : PySem.W.findIn K (.ref C) y = some none) : OpC K C g nm := by
  obtain ⟨rfl, rfl⟩ := e
  exact ⟨h1, h2, h3, h4⟩
end OO
set_option Elab.async false
set_option linter.all false
set_option maxRecDepth 100000
/-! isinstance's own answers from the answers of issubclass -/
namespace KL
open PySem
theorem kit_self {K : PySem.W.Frag} {t : Value} : PySem.W.kitOne K t t = some true := by
  unfold PySem.W.kitOne
  rw [if_pos (beq_self_eq_true t)]
theorem kit_ref {K : PySem.W.Frag} {C : Addr} {n : String} {b : Bool} (hd : PySem.W.hasDictIn K C = true) (ht : PySem.W.typeIn K (.ref C) = some (.type "type")) (h : PySem.W.subIn K (.type n) (.ref C) = some b) : PySem.W.kitOne K (.type n) (.ref C) = some b := by
  have hc : (PySem.W.clsIn K C).isSome = true := by
    obtain ⟨cd, hc, _⟩ := PySem.W.any_some hd
    rw [hc]
    rfl
  unfold PySem.W.kitOne
  rw [if_neg (show ¬ (Value.type n == Value.ref C) = true from fun z => by cases z)]
  show (if ((PySem.W.clsIn K C).isSome && PySem.W.typeIn K (.ref C) == some (.type "type")) = true then PySem.W.subIn K (.type n) (.ref C) else none) = some b
  rw [if_pos (by rw [hc, ht]; exact (beq_self_eq_true (some (Value.type "type"))))]
  exact h
theorem kit_val {K : PySem.W.Frag} {C : Addr} {T : String} {b : Bool} (m : PySem.W.kitMeta T = true) (h : PySem.W.subIn K (.ref C) (.type T) = some b) : PySem.W.kitOne K (.ref C) (.type T) = some b := by
  unfold PySem.W.kitOne
  rw [if_neg (show ¬ (Value.ref C == Value.type T) = true from fun z => by cases z)]
  show (if PySem.W.kitMeta T = true then PySem.W.subIn K (.ref C) (.type T) else none) = some b
  rw [if_pos m]
  exact h
theorem nf_sub {K : PySem.W.Frag} {C : Addr} {t : Value} (h : PySem.W.subIn K t (.ref C) = some false) : PySem.W.notFirst K C t = true := by
  unfold PySem.W.notFirst
  rw [h]
  simp
end KL
set_option Elab.async false
set_option linter.all false
set_option maxRecDepth 100000
set_option maxHeartbeats 8000000
namespace LR
open PySem PySem.Spec PyProof.Rows L2
theorem all_mk {P : Program} {w : World} {K : PySem.W.Frag} {mg : Str → Option Value} {h : Heap} {fa : Addr} {fII : Addr} {ocII : Value} {odII anII : Option Addr} {slII : Array (Option Value)} {kVII dcII pmII cdII ctII : Value}
    {fIR : Addr} {ocIR : Value} {odIR anIR : Option Addr} {slIR : Array (Option Value)} {kVIR dcIR pmIR cdIR ctIR : Value}
    {fIN : Addr} {ocIN : Value} {odIN anIN : Option Addr} {slIN : Array (Option Value)} {kVIN dcIN pmIN cdIN ctIN : Value}
    {fAR : Addr} {ocAR : Value} {odAR anAR : Option Addr} {slAR : Array (Option Value)} {kVAR dcAR pmAR cdAR ctAR : Value}
    {fRd : Addr} {ocRd : Value} {odRd anRd : Option Addr} {slRd : Array (Option Value)} {kVRd dcRd pmRd cdRd ctRd : Value}
    {fPl : Addr} {ocPl : Value} {odPl anPl : Option Addr} {slPl : Array (Option Value)} {kVPl dcPl pmPl cdPl ctPl : Value}
    {fTi : Addr} {ocTi : Value} {odTi anTi : Option Addr} {slTi : Array (Option Value)} {kVTi dcTi pmTi cdTi ctTi : Value}
    {fPo : Addr} {ocPo : Value} {odPo anPo : Option Addr} {slPo : Array (Option Value)} {kVPo dcPo pmPo cdPo ctPo : Value}
    {fTm : Addr} {ocTm : Value} {odTm anTm : Option Addr} {slTm : Array (Option Value)} {kVTm dcTm pmTm cdTm ctTm : Value}
    {fCo : Addr} {ocCo : Value} {odCo anCo : Option Addr} {slCo : Array (Option Value)} {kVCo dcCo pmCo cdCo ctCo : Value}
    {fUn : Addr} {ocUn : Value} {odUn anUn : Option Addr} {slUn : Array (Option Value)} {kVUn dcUn pmUn cdUn ctUn : Value}
    {fIv : Addr} {ocIv : Value} {odIv anIv : Option Addr} {slIv : Array (Option Value)} {kVIv dcIv pmIv cdIv ctIv : Value}
    {fSo : Addr} {ocSo : Value} {odSo anSo : Option Addr} {slSo : Array (Option Value)} {kVSo dcSo pmSo cdSo ctSo : Value}
    {fCm : Addr} {ocCm : Value} {odCm anCm : Option Addr} {slCm : Array (Option Value)} {kVCm dcCm pmCm cdCm ctCm : Value}
    {fLP : Addr} {ocLP : Value} {odLP anLP : Option Addr} {slLP : Array (Option Value)} {kVLP dcLP pmLP cdLP ctLP : Value}
    {fLD : Addr} {ocLD : Value} {odLD anLD : Option Addr} {slLD : Array (Option Value)} {kVLD dcLD pmLD cdLD ctLD : Value}
    {fLC : Addr} {ocLC : Value} {odLC anLC : Option Addr} {slLC : Array (Option Value)} {kVLC dcLC pmLC cdLC ctLC : Value}
    {fLS : Addr} {ocLS : Value} {odLS anLS : Option Addr} {slLS : Array (Option Value)} {kVLS dcLS pmLS cdLS ctLS : Value}
    {fLN : Addr} {ocLN : Value} {odLN anLN : Option Addr} {slLN : Array (Option Value)} {kVLN dcLN pmLN cdLN ctLN : Value}
    {fLCo : Addr} {ocLCo : Value} {odLCo anLCo : Option Addr} {slLCo : Array (Option Value)} {kVLCo dcLCo pmLCo cdLCo ctLCo : Value}
    {fLE : Addr} {ocLE : Value} {odLE anLE : Option Addr} {slLE : Array (Option Value)} {kVLE dcLE pmLE cdLE ctLE : Value}
    {fL : Addr} {ocL : Value} {odL anL : Option Addr} {slL : Array (Option Value)} {kVL dcL pmL cdL ctL : Value}
    {C : Addr}
    {fmI : Addr} {ocmI : Value} {odmI anmI : Option Addr} {slmI : Array (Option Value)} {kVmI dcmI pmmI cdmI ctmI : Value}
    {fmE : Addr} {ocmE : Value} {odmE anmE : Option Addr} {slmE : Array (Option Value)} {kVmE dcmE pmmE cdmE ctmE : Value}
    {fmG : Addr} {ocmG : Value} {odmG anmG : Option Addr} {slmG : Array (Option Value)} {kVmG dcmG pmmG cdmG ctmG : Value}
    {fmAd : Addr} {ocmAd : Value} {odmAd anmAd : Option Addr} {slmAd : Array (Option Value)} {kVmAd dcmAd pmmAd cdmAd ctmAd : Value}
    {fmMu : Addr} {ocmMu : Value} {odmMu anmMu : Option Addr} {slmMu : Array (Option Value)} {kVmMu dcmMu pmmMu cdmMu ctmMu : Value}
    {fmAn : Addr} {ocmAn : Value} {odmAn anmAn : Option Addr} {slmAn : Array (Option Value)} {kVmAn dcmAn pmmAn cdmAn ctmAn : Value}
    {fpB : Addr} {ocpB : Value} {odpB anpB : Option Addr} {slpB : Array (Option Value)} {kVpB dcpB pmpB cdpB ctpB : Value} {ppB : Addr} {restpB : List Value}
    {fpS : Addr} {ocpS : Value} {odpS anpS : Option Addr} {slpS : Array (Option Value)} {kVpS dcpS pmpS cdpS ctpS : Value} {ppS : Addr} {restpS : List Value}
    {CE1 : Addr}
    {CE3 : Addr}
    {CE4 : Addr}
    {CE5 : Addr}
    (X : K.In h) (G : h.Ns mainGlobals mg) (hfa : mg "law" = some (.ref fa))
    (aII : PySem.W.nsIn K mainGlobals "is_integer" = some (some (.ref fII))) (lII : K.lookup fII = some ⟨ocII, odII, .func (PySem.W.fnOf "is_integer" "is_integer" (defArgs (topS 8)) (defBody (topS 8)) (defScope (topS 8)) .none kVII dcII pmII anII cdII ctII), slII⟩) (cII : PySem.W.codeIn K cdII "is_integer" = true) (kII : PySem.W.keepIn K (.ref fII) = true)
    (aIR : PySem.W.nsIn K mainGlobals "is_ratio" = some (some (.ref fIR))) (lIR : K.lookup fIR = some ⟨ocIR, odIR, .func (PySem.W.fnOf "is_ratio" "is_ratio" (defArgs (topS 9)) (defBody (topS 9)) (defScope (topS 9)) .none kVIR dcIR pmIR anIR cdIR ctIR), slIR⟩) (cIR : PySem.W.codeIn K cdIR "is_ratio" = true) (kIR : PySem.W.keepIn K (.ref fIR) = true)
    (aIN : PySem.W.nsIn K mainGlobals "is_number" = some (some (.ref fIN))) (lIN : K.lookup fIN = some ⟨ocIN, odIN, .func (PySem.W.fnOf "is_number" "is_number" (defArgs (topS 10)) (defBody (topS 10)) (defScope (topS 10)) .none kVIN dcIN pmIN anIN cdIN ctIN), slIN⟩) (cIN : PySem.W.codeIn K cdIN "is_number" = true) (kIN : PySem.W.keepIn K (.ref fIN) = true)
    (aAR : PySem.W.nsIn K mainGlobals "as_ratio" = some (some (.ref fAR))) (lAR : K.lookup fAR = some ⟨ocAR, odAR, .func (PySem.W.fnOf "as_ratio" "as_ratio" (defArgs (topS 11)) (defBody (topS 11)) (defScope (topS 11)) .none kVAR dcAR pmAR anAR cdAR ctAR), slAR⟩) (cAR : PySem.W.codeIn K cdAR "as_ratio" = true) (kAR : PySem.W.keepIn K (.ref fAR) = true)
    (aRd : PySem.W.nsIn K mainGlobals "reduced" = some (some (.ref fRd))) (lRd : K.lookup fRd = some ⟨ocRd, odRd, .func (PySem.W.fnOf "reduced" "reduced" (defArgs (topS 12)) (defBody (topS 12)) (defScope (topS 12)) .none kVRd dcRd pmRd anRd cdRd ctRd), slRd⟩) (cRd : PySem.W.codeIn K cdRd "reduced" = true) (kRd : PySem.W.keepIn K (.ref fRd) = true)
    (aPl : PySem.W.nsIn K mainGlobals "plus" = some (some (.ref fPl))) (lPl : K.lookup fPl = some ⟨ocPl, odPl, .func (PySem.W.fnOf "plus" "plus" (defArgs (topS 13)) (defBody (topS 13)) (defScope (topS 13)) .none kVPl dcPl pmPl anPl cdPl ctPl), slPl⟩) (cPl : PySem.W.codeIn K cdPl "plus" = true) (kPl : PySem.W.keepIn K (.ref fPl) = true)
    (aTi : PySem.W.nsIn K mainGlobals "times" = some (some (.ref fTi))) (lTi : K.lookup fTi = some ⟨ocTi, odTi, .func (PySem.W.fnOf "times" "times" (defArgs (topS 15)) (defBody (topS 15)) (defScope (topS 15)) .none kVTi dcTi pmTi anTi cdTi ctTi), slTi⟩) (cTi : PySem.W.codeIn K cdTi "times" = true) (kTi : PySem.W.keepIn K (.ref fTi) = true)
    (aPo : PySem.W.nsIn K mainGlobals "is_positive" = some (some (.ref fPo))) (lPo : K.lookup fPo = some ⟨ocPo, odPo, .func (PySem.W.fnOf "is_positive" "is_positive" (defArgs (topS 19)) (defBody (topS 19)) (defScope (topS 19)) .none kVPo dcPo pmPo anPo cdPo ctPo), slPo⟩) (cPo : PySem.W.codeIn K cdPo "is_positive" = true) (kPo : PySem.W.keepIn K (.ref fPo) = true)
    (aTm : PySem.W.nsIn K mainGlobals "as_time" = some (some (.ref fTm))) (lTm : K.lookup fTm = some ⟨ocTm, odTm, .func (PySem.W.fnOf "as_time" "as_time" (defArgs (topS 20)) (defBody (topS 20)) (defScope (topS 20)) .none kVTm dcTm pmTm anTm cdTm ctTm), slTm⟩) (cTm : PySem.W.codeIn K cdTm "as_time" = true) (kTm : PySem.W.keepIn K (.ref fTm) = true)
    (aCo : PySem.W.nsIn K mainGlobals "_common" = some (some (.ref fCo))) (lCo : K.lookup fCo = some ⟨ocCo, odCo, .func (PySem.W.fnOf "_common" "_common" (defArgs (topS 27)) (defBody (topS 27)) (defScope (topS 27)) .none kVCo dcCo pmCo anCo cdCo ctCo), slCo⟩) (cCo : PySem.W.codeIn K cdCo "_common" = true) (kCo : PySem.W.keepIn K (.ref fCo) = true)
    (aUn : PySem.W.nsIn K mainGlobals "_in_units" = some (some (.ref fUn))) (lUn : K.lookup fUn = some ⟨ocUn, odUn, .func (PySem.W.fnOf "_in_units" "_in_units" (defArgs (topS 28)) (defBody (topS 28)) (defScope (topS 28)) .none kVUn dcUn pmUn anUn cdUn ctUn), slUn⟩) (cUn : PySem.W.codeIn K cdUn "_in_units" = true) (kUn : PySem.W.keepIn K (.ref fUn) = true)
    (aIv : PySem.W.nsIn K mainGlobals "_inverse" = some (some (.ref fIv))) (lIv : K.lookup fIv = some ⟨ocIv, odIv, .func (PySem.W.fnOf "_inverse" "_inverse" (defArgs (topS 24)) (defBody (topS 24)) (defScope (topS 24)) .none kVIv dcIv pmIv anIv cdIv ctIv), slIv⟩) (cIv : PySem.W.codeIn K cdIv "_inverse" = true) (kIv : PySem.W.keepIn K (.ref fIv) = true)
    (aSo : PySem.W.nsIn K mainGlobals "solved" = some (some (.ref fSo))) (lSo : K.lookup fSo = some ⟨ocSo, odSo, .func (PySem.W.fnOf "solved" "solved" (defArgs (topS 22)) (defBody (topS 22)) (defScope (topS 22)) .none kVSo dcSo pmSo anSo cdSo ctSo), slSo⟩) (cSo : PySem.W.codeIn K cdSo "solved" = true) (kSo : PySem.W.keepIn K (.ref fSo) = true)
    (aCm : PySem.W.nsIn K mainGlobals "common" = some (some (.ref fCm))) (lCm : K.lookup fCm = some ⟨ocCm, odCm, .func (PySem.W.fnOf "common" "common" (defArgs (topS 23)) (defBody (topS 23)) (defScope (topS 23)) .none kVCm dcCm pmCm anCm cdCm ctCm), slCm⟩) (cCm : PySem.W.codeIn K cdCm "common" = true) (kCm : PySem.W.keepIn K (.ref fCm) = true)
    (aLP : PySem.W.nsIn K mainGlobals "_law_pool" = some (some (.ref fLP))) (lLP : K.lookup fLP = some ⟨ocLP, odLP, .func (PySem.W.fnOf "_law_pool" "_law_pool" (defArgs (topS 30)) (defBody (topS 30)) (defScope (topS 30)) .none kVLP dcLP pmLP anLP cdLP ctLP), slLP⟩) (cLP : PySem.W.codeIn K cdLP "_law_pool" = true) (kLP : PySem.W.keepIn K (.ref fLP) = true)
    (aLD : PySem.W.nsIn K mainGlobals "_law_draw" = some (some (.ref fLD))) (lLD : K.lookup fLD = some ⟨ocLD, odLD, .func (PySem.W.fnOf "_law_draw" "_law_draw" (defArgs (topS 31)) (defBody (topS 31)) (defScope (topS 31)) .none kVLD dcLD pmLD anLD cdLD ctLD), slLD⟩) (cLD : PySem.W.codeIn K cdLD "_law_draw" = true) (kLD : PySem.W.keepIn K (.ref fLD) = true)
    (aLC : PySem.W.nsIn K mainGlobals "_law_cut" = some (some (.ref fLC))) (lLC : K.lookup fLC = some ⟨ocLC, odLC, .func (PySem.W.fnOf "_law_cut" "_law_cut" (defArgs (topS 32)) (defBody (topS 32)) (defScope (topS 32)) .none kVLC dcLC pmLC anLC cdLC ctLC), slLC⟩) (cLC : PySem.W.codeIn K cdLC "_law_cut" = true) (kLC : PySem.W.keepIn K (.ref fLC) = true)
    (aLS : PySem.W.nsIn K mainGlobals "_law_sum" = some (some (.ref fLS))) (lLS : K.lookup fLS = some ⟨ocLS, odLS, .func (PySem.W.fnOf "_law_sum" "_law_sum" (defArgs (topS 33)) (defBody (topS 33)) (defScope (topS 33)) .none kVLS dcLS pmLS anLS cdLS ctLS), slLS⟩) (cLS : PySem.W.codeIn K cdLS "_law_sum" = true) (kLS : PySem.W.keepIn K (.ref fLS) = true)
    (aLN : PySem.W.nsIn K mainGlobals "_law_number" = some (some (.ref fLN))) (lLN : K.lookup fLN = some ⟨ocLN, odLN, .func (PySem.W.fnOf "_law_number" "_law_number" (defArgs (topS 34)) (defBody (topS 34)) (defScope (topS 34)) .none kVLN dcLN pmLN anLN cdLN ctLN), slLN⟩) (cLN : PySem.W.codeIn K cdLN "_law_number" = true) (kLN : PySem.W.keepIn K (.ref fLN) = true)
    (aLCo : PySem.W.nsIn K mainGlobals "_law_common" = some (some (.ref fLCo))) (lLCo : K.lookup fLCo = some ⟨ocLCo, odLCo, .func (PySem.W.fnOf "_law_common" "_law_common" (defArgs (topS 35)) (defBody (topS 35)) (defScope (topS 35)) .none kVLCo dcLCo pmLCo anLCo cdLCo ctLCo), slLCo⟩) (cLCo : PySem.W.codeIn K cdLCo "_law_common" = true) (kLCo : PySem.W.keepIn K (.ref fLCo) = true)
    (aLE : PySem.W.nsIn K mainGlobals "_law_error" = some (some (.ref fLE))) (lLE : K.lookup fLE = some ⟨ocLE, odLE, .func (PySem.W.fnOf "_law_error" "_law_error" (defArgs (topS 36)) (defBody (topS 36)) (defScope (topS 36)) .none kVLE dcLE pmLE anLE cdLE ctLE), slLE⟩) (cLE : PySem.W.codeIn K cdLE "_law_error" = true) (kLE : PySem.W.keepIn K (.ref fLE) = true)
    (aL : PySem.W.nsIn K mainGlobals "law" = some (some (.ref fL))) (lL : K.lookup fL = some ⟨ocL, odL, .func (PySem.W.fnOf "law" "law" (defArgs (topS 37)) (defBody (topS 37)) (defScope (topS 37)) .none kVL dcL pmL anL cdL ctL), slL⟩) (cL : PySem.W.codeIn K cdL "law" = true) (kL : PySem.W.keepIn K (.ref fL) = true)
    (aC : PySem.W.nsIn K mainGlobals "Moments" = some (some (.ref C)))
    (pg : PySem.W.plainGet K C Str.empty = true)
    (hd : PySem.W.hasDictIn K C = true)
    (po : PySem.W.plainOver K C = true)
    (sa : PySem.W.findIn K (.ref C) "__setattr__" = some (some (.builtin "object.__setattr__")))
    (mk : PySem.W.makesIn K C = true)
    (kc : PySem.W.keepIn K (.ref C) = true)
    (nB : PySem.W.findIn K (.ref C) "_begin" = some none)
    (nS : PySem.W.findIn K (.ref C) "_step" = some none)
    (ca : PySem.W.findIn K (.ref C) "__class__" = some (some (.builtin "object.__class__")))
    (cn : PySem.W.specialIn K (.builtin "object.__class__") "__get__" = some (some (.builtin "getset_descriptor.__get__")))
    (ct : PySem.W.takesIn K (.builtin "object.__class__") = some true)
    (cm : PySem.W.mroIn K C (.type "object") = some true)
    (tyC : PySem.W.typeIn K (.ref C) = some (.type "type"))
    (ne : PySem.W.findIn K (.ref C) "__ne__" = some (some (.builtin "object.__ne__")))
    (ob : PySem.W.subIn K (.ref C) (.type "object") = some true)
    (sf : PySem.W.selfFirst K C = true)
    (rAd : PySem.W.findIn K (.ref C) "__radd__" = some none)
    (rMu : PySem.W.findIn K (.ref C) "__rmul__" = some none)
    (rAn : PySem.W.findIn K (.ref C) "__rand__" = some none)
    (kk_NoneType : PySem.W.subIn K (.type "NoneType") (.ref C) = some false)
    (kk_bool : PySem.W.subIn K (.type "bool") (.ref C) = some false)
    (kk_int : PySem.W.subIn K (.type "int") (.ref C) = some false)
    (kk_str : PySem.W.subIn K (.type "str") (.ref C) = some false)
    (kk_list : PySem.W.subIn K (.type "list") (.ref C) = some false)
    (kk_tuple : PySem.W.subIn K (.type "tuple") (.ref C) = some false)
    (kk_dict : PySem.W.subIn K (.type "dict") (.ref C) = some false)
    (amI : PySem.W.findIn K (.ref C) "__init__" = some (some (.ref fmI))) (imI : PySem.W.isFn K (.ref fmI) = true)
    (lmI : K.lookup fmI = some ⟨ocmI, odmI, .func (PySem.W.fnOf "__init__" "Moments.__init__" (defArgs (inClass cMom 0)) (defBody (inClass cMom 0)) (defScope (inClass cMom 0)) .none kVmI dcmI pmmI anmI cdmI ctmI), slmI⟩) (cmI : PySem.W.codeIn K cdmI "Moments.__init__" = true) (kmI : PySem.W.keepIn K (.ref fmI) = true)
    (amE : PySem.W.findIn K (.ref C) "__eq__" = some (some (.ref fmE))) (imE : PySem.W.isFn K (.ref fmE) = true)
    (lmE : K.lookup fmE = some ⟨ocmE, odmE, .func (PySem.W.fnOf "__eq__" "Moments.__eq__" (defArgs (inClass cMom 1)) (defBody (inClass cMom 1)) (defScope (inClass cMom 1)) .none kVmE dcmE pmmE anmE cdmE ctmE), slmE⟩) (cmE : PySem.W.codeIn K cdmE "Moments.__eq__" = true) (kmE : PySem.W.keepIn K (.ref fmE) = true)
    (amG : PySem.W.findIn K (.ref C) "__getitem__" = some (some (.ref fmG))) (imG : PySem.W.isFn K (.ref fmG) = true)
    (lmG : K.lookup fmG = some ⟨ocmG, odmG, .func (PySem.W.fnOf "__getitem__" "Moments.__getitem__" (defArgs (inClass cMom 3)) (defBody (inClass cMom 3)) (defScope (inClass cMom 3)) .none kVmG dcmG pmmG anmG cdmG ctmG), slmG⟩) (cmG : PySem.W.codeIn K cdmG "Moments.__getitem__" = true) (kmG : PySem.W.keepIn K (.ref fmG) = true)
    (amAd : PySem.W.findIn K (.ref C) "__add__" = some (some (.ref fmAd))) (imAd : PySem.W.isFn K (.ref fmAd) = true)
    (lmAd : K.lookup fmAd = some ⟨ocmAd, odmAd, .func (PySem.W.fnOf "__add__" "Moments.__add__" (defArgs (inClass cMom 6)) (defBody (inClass cMom 6)) (defScope (inClass cMom 6)) .none kVmAd dcmAd pmmAd anmAd cdmAd ctmAd), slmAd⟩) (cmAd : PySem.W.codeIn K cdmAd "Moments.__add__" = true) (kmAd : PySem.W.keepIn K (.ref fmAd) = true)
    (amMu : PySem.W.findIn K (.ref C) "__mul__" = some (some (.ref fmMu))) (imMu : PySem.W.isFn K (.ref fmMu) = true)
    (lmMu : K.lookup fmMu = some ⟨ocmMu, odmMu, .func (PySem.W.fnOf "__mul__" "Moments.__mul__" (defArgs (inClass cMom 7)) (defBody (inClass cMom 7)) (defScope (inClass cMom 7)) .none kVmMu dcmMu pmmMu anmMu cdmMu ctmMu), slmMu⟩) (cmMu : PySem.W.codeIn K cdmMu "Moments.__mul__" = true) (kmMu : PySem.W.keepIn K (.ref fmMu) = true)
    (amAn : PySem.W.findIn K (.ref C) "__and__" = some (some (.ref fmAn))) (imAn : PySem.W.isFn K (.ref fmAn) = true)
    (lmAn : K.lookup fmAn = some ⟨ocmAn, odmAn, .func (PySem.W.fnOf "__and__" "Moments.__and__" (defArgs (inClass cMom 8)) (defBody (inClass cMom 8)) (defScope (inClass cMom 8)) .none kVmAn dcmAn pmmAn anmAn cdmAn ctmAn), slmAn⟩) (cmAn : PySem.W.codeIn K cdmAn "Moments.__and__" = true) (kmAn : PySem.W.keepIn K (.ref fmAn) = true)
    (fmG1 : PySem.W.fnIn K fmG = true)
    (apB1 : PySem.W.findIn K (.ref C) "begin" = some (some (.ref ppB))) (apB2 : PySem.W.specialIn K (.ref ppB) "__get__" = some (some (.builtin "property.__get__"))) (apB3 : PySem.W.takesIn K (.ref ppB) = some true) (apB4 : PySem.W.recIn K ppB "property" = some (.ref fpB :: restpB))
    (lpB : K.lookup fpB = some ⟨ocpB, odpB, .func (PySem.W.fnOf "begin" "Moments.begin" (defArgs (inClass cMom 9)) (defBody (inClass cMom 9)) (defScope (inClass cMom 9)) .none kVpB dcpB pmpB anpB cdpB ctpB), slpB⟩) (cpB : PySem.W.codeIn K cdpB "Moments.begin" = true) (kpB : PySem.W.keepIn K (.ref fpB) = true)
    (apS1 : PySem.W.findIn K (.ref C) "step" = some (some (.ref ppS))) (apS2 : PySem.W.specialIn K (.ref ppS) "__get__" = some (some (.builtin "property.__get__"))) (apS3 : PySem.W.takesIn K (.ref ppS) = some true) (apS4 : PySem.W.recIn K ppS "property" = some (.ref fpS :: restpS))
    (lpS : K.lookup fpS = some ⟨ocpS, odpS, .func (PySem.W.fnOf "step" "Moments.step" (defArgs (inClass cMom 10)) (defBody (inClass cMom 10)) (defScope (inClass cMom 10)) .none kVpS dcpS pmpS anpS cdpS ctpS), slpS⟩) (cpS : PySem.W.codeIn K cdpS "Moments.step" = true) (kpS : PySem.W.keepIn K (.ref fpS) = true)
    (gE1 : PySem.W.nsIn K mainGlobals "InvalidNumber" = some (some (.ref CE1))) (kE1 : PySem.W.keepIn K (.ref CE1) = true) (qE1 : PySem.W.excIn K CE1 BMv "ValueError.__new__" = true) (bE1 : PySem.W.subIn K (.ref CE1) (.type "BaseException") = some true) (tE1 : PySem.W.typeIn K (.ref CE1) = some (.type "type"))
    (gE3 : PySem.W.nsIn K mainGlobals "InvalidTime" = some (some (.ref CE3))) (kE3 : PySem.W.keepIn K (.ref CE3) = true) (qE3 : PySem.W.excIn K CE3 BMv "ValueError.__new__" = true) (bE3 : PySem.W.subIn K (.ref CE3) (.type "BaseException") = some true) (tE3 : PySem.W.typeIn K (.ref CE3) = some (.type "type"))
    (gE4 : PySem.W.nsIn K mainGlobals "InvalidFactor" = some (some (.ref CE4))) (kE4 : PySem.W.keepIn K (.ref CE4) = true) (qE4 : PySem.W.excIn K CE4 BMv "ValueError.__new__" = true) (bE4 : PySem.W.subIn K (.ref CE4) (.type "BaseException") = some true) (tE4 : PySem.W.typeIn K (.ref CE4) = some (.type "type"))
    (gE5 : PySem.W.nsIn K mainGlobals "InvalidCount" = some (some (.ref CE5))) (kE5 : PySem.W.keepIn K (.ref CE5) = true) (qE5 : PySem.W.excIn K CE5 BMv "ValueError.__new__" = true) (bE5 : PySem.W.subIn K (.ref CE5) (.type "BaseException") = some true) (tE5 : PySem.W.typeIn K (.ref CE5) = some (.type "type"))
    (dE1 : PySem.W.hasDictIn K CE1 = true)
    (sE1 : PySem.W.subIn K (.ref CE1) (.ref CE1) = some true)
    (dE3 : PySem.W.hasDictIn K CE3 = true)
    (sE3 : PySem.W.subIn K (.ref CE3) (.ref CE3) = some true)
    (dE4 : PySem.W.hasDictIn K CE4 = true)
    (sE4 : PySem.W.subIn K (.ref CE4) (.ref CE4) = some true)
    (h1E4 : PySem.W.findIn K (.ref CE4) "__getattribute__" = some (some (.builtin "BaseException.__getattribute__")))
    (h2E4 : PySem.W.findIn K (.ref CE4) "__getattr__" = some none)
    (h3E4 : PySem.W.findIn K (.ref CE4) "__class__" = some (some (.builtin "object.__class__")))
    (h4E4 : PySem.W.mroIn K CE4 (.type "object") = some true)
    (vE4 : PySem.W.subIn K (.ref CE4) (.type "ValueError") = some true)
    (nNT : PySem.W.subIn K (.ref CE1) (.ref CE3) = some false)
    (nNF : PySem.W.subIn K (.ref CE1) (.ref CE4) = some false)
    (nTF : PySem.W.subIn K (.ref CE3) (.ref CE4) = some false)
    (gcd : PySem.W.nsIn K mainGlobals "gcd" = some (some (.builtin "math.gcd")))
    (lcm : PySem.W.nsIn K mainGlobals "lcm" = some (some (.builtin "math.lcm")))
    (n_isinstance : PySem.W.nsIn K mainGlobals "isinstance" = some none)
    (n_int : PySem.W.nsIn K mainGlobals "int" = some none)
    (n_bool : PySem.W.nsIn K mainGlobals "bool" = some none)
    (n_tuple : PySem.W.nsIn K mainGlobals "tuple" = some none)
    (n_len : PySem.W.nsIn K mainGlobals "len" = some none)
    (n_type : PySem.W.nsIn K mainGlobals "type" = some none)
    (n_max : PySem.W.nsIn K mainGlobals "max" = some none)
    (n_abs : PySem.W.nsIn K mainGlobals "abs" = some none)
    (n_range : PySem.W.nsIn K mainGlobals "range" = some none)
    (n_list : PySem.W.nsIn K mainGlobals "list" = some none)
    (n_ValueError : PySem.W.nsIn K mainGlobals "ValueError" = some none) :
    ∃ fd : FuncData, (∀ (s : Shared) (u : Value), BindsTo s fd ⟨[u], []⟩ [("script", u)]) ∧ ∀ base : Heap, K.In base → base.Ns mainGlobals mg → LG.FnG P w K mg base (CXl P w) 9 fa fd ["script"] (spLaw K) := by
  have e := hfa.symm.trans (PySem.W.mg_of X G aL)
  cases e
  have FII := fun_mk (st := topS 8) lII cII kII
  have DII : DefAt K mg "is_integer" (topS 8) ["value"] _ _ := ⟨FII, PySem.W.mg_of X G aII, FII.binds (ps := ["value"]) fun _ _ _ _ _ _ us hl => match us, hl with | [_], _ => rfl⟩
  have FIR := fun_mk (st := topS 9) lIR cIR kIR
  have DIR : DefAt K mg "is_ratio" (topS 9) ["value"] _ _ := ⟨FIR, PySem.W.mg_of X G aIR, FIR.binds (ps := ["value"]) fun _ _ _ _ _ _ us hl => match us, hl with | [_], _ => rfl⟩
  have FIN := fun_mk (st := topS 10) lIN cIN kIN
  have DIN : DefAt K mg "is_number" (topS 10) ["value"] _ _ := ⟨FIN, PySem.W.mg_of X G aIN, FIN.binds (ps := ["value"]) fun _ _ _ _ _ _ us hl => match us, hl with | [_], _ => rfl⟩
  have FAR := fun_mk (st := topS 11) lAR cAR kAR
  have DAR : DefAt K mg "as_ratio" (topS 11) ["value"] _ _ := ⟨FAR, PySem.W.mg_of X G aAR, FAR.binds (ps := ["value"]) fun _ _ _ _ _ _ us hl => match us, hl with | [_], _ => rfl⟩
  have FRd := fun_mk (st := topS 12) lRd cRd kRd
  have DRd : DefAt K mg "reduced" (topS 12) ["top", "bottom"] _ _ := ⟨FRd, PySem.W.mg_of X G aRd, FRd.binds (ps := ["top", "bottom"]) fun _ _ _ _ _ _ us hl => match us, hl with | [_, _], _ => rfl⟩
  have FPl := fun_mk (st := topS 13) lPl cPl kPl
  have DPl : DefAt K mg "plus" (topS 13) ["first", "second"] _ _ := ⟨FPl, PySem.W.mg_of X G aPl, FPl.binds (ps := ["first", "second"]) fun _ _ _ _ _ _ us hl => match us, hl with | [_, _], _ => rfl⟩
  have FTi := fun_mk (st := topS 15) lTi cTi kTi
  have DTi : DefAt K mg "times" (topS 15) ["first", "second"] _ _ := ⟨FTi, PySem.W.mg_of X G aTi, FTi.binds (ps := ["first", "second"]) fun _ _ _ _ _ _ us hl => match us, hl with | [_, _], _ => rfl⟩
  have FPo := fun_mk (st := topS 19) lPo cPo kPo
  have DPo : DefAt K mg "is_positive" (topS 19) ["value"] _ _ := ⟨FPo, PySem.W.mg_of X G aPo, FPo.binds (ps := ["value"]) fun _ _ _ _ _ _ us hl => match us, hl with | [_], _ => rfl⟩
  have FTm := fun_mk (st := topS 20) lTm cTm kTm
  have DTm : DefAt K mg "as_time" (topS 20) ["value"] _ _ := ⟨FTm, PySem.W.mg_of X G aTm, FTm.binds (ps := ["value"]) fun _ _ _ _ _ _ us hl => match us, hl with | [_], _ => rfl⟩
  have FCo := fun_mk (st := topS 27) lCo cCo kCo
  have DCo : DefAt K mg "_common" (topS 27) ["one", "other"] _ _ := ⟨FCo, PySem.W.mg_of X G aCo, FCo.binds (ps := ["one", "other"]) fun _ _ _ _ _ _ us hl => match us, hl with | [_, _], _ => rfl⟩
  have FUn := fun_mk (st := topS 28) lUn cUn kUn
  have DUn : DefAt K mg "_in_units" (topS 28) ["number", "unit"] _ _ := ⟨FUn, PySem.W.mg_of X G aUn, FUn.binds (ps := ["number", "unit"]) fun _ _ _ _ _ _ us hl => match us, hl with | [_, _], _ => rfl⟩
  have FIv := fun_mk (st := topS 24) lIv cIv kIv
  have DIv : DefAt K mg "_inverse" (topS 24) ["value", "modulus"] _ _ := ⟨FIv, PySem.W.mg_of X G aIv, FIv.binds (ps := ["value", "modulus"]) fun _ _ _ _ _ _ us hl => match us, hl with | [_, _], _ => rfl⟩
  have FSo := fun_mk (st := topS 22) lSo cSo kSo
  have DSo : DefAt K mg "solved" (topS 22) ["rate", "wanted", "modulus"] _ _ := ⟨FSo, PySem.W.mg_of X G aSo, FSo.binds (ps := ["rate", "wanted", "modulus"]) fun _ _ _ _ _ _ us hl => match us, hl with | [_, _, _], _ => rfl⟩
  have FCm := fun_mk (st := topS 23) lCm cCm kCm
  have DCm : DefAt K mg "common" (topS 23) ["first", "step", "other_first", "other_step"] _ _ := ⟨FCm, PySem.W.mg_of X G aCm, FCm.binds (ps := ["first", "step", "other_first", "other_step"]) fun _ _ _ _ _ _ us hl => match us, hl with | [_, _, _, _], _ => rfl⟩
  have FLP := fun_mk (st := topS 30) lLP cLP kLP
  have DLP : DefAt K mg "_law_pool" (topS 30) ["script"] _ _ := ⟨FLP, PySem.W.mg_of X G aLP, FLP.binds (ps := ["script"]) fun _ _ _ _ _ _ us hl => match us, hl with | [_], _ => rfl⟩
  have FLD := fun_mk (st := topS 31) lLD cLD kLD
  have DLD : DefAt K mg "_law_draw" (topS 31) ["pool", "many"] _ _ := ⟨FLD, PySem.W.mg_of X G aLD, FLD.binds (ps := ["pool", "many"]) fun _ _ _ _ _ _ us hl => match us, hl with | [_, _], _ => rfl⟩
  have FLC := fun_mk (st := topS 32) lLC cLC kLC
  have DLC : DefAt K mg "_law_cut" (topS 32) ["top", "bottom"] _ _ := ⟨FLC, PySem.W.mg_of X G aLC, FLC.binds (ps := ["top", "bottom"]) fun _ _ _ _ _ _ us hl => match us, hl with | [_, _], _ => rfl⟩
  have FLS := fun_mk (st := topS 33) lLS cLS kLS
  have DLS : DefAt K mg "_law_sum" (topS 33) ["one", "other"] _ _ := ⟨FLS, PySem.W.mg_of X G aLS, FLS.binds (ps := ["one", "other"]) fun _ _ _ _ _ _ us hl => match us, hl with | [_, _], _ => rfl⟩
  have FLN := fun_mk (st := topS 34) lLN cLN kLN
  have DLN : DefAt K mg "_law_number" (topS 34) ["pool", "size"] _ _ := ⟨FLN, PySem.W.mg_of X G aLN, FLN.binds (ps := ["pool", "size"]) fun _ _ _ _ _ _ us hl => match us, hl with | [_, _], _ => rfl⟩
  have FLCo := fun_mk (st := topS 35) lLCo cLCo kLCo
  have DLCo : DefAt K mg "_law_common" (topS 35) ["first", "second", "unit"] _ _ := ⟨FLCo, PySem.W.mg_of X G aLCo, FLCo.binds (ps := ["first", "second", "unit"]) fun _ _ _ _ _ _ us hl => match us, hl with | [_, _, _], _ => rfl⟩
  have FLE := fun_mk (st := topS 36) lLE cLE kLE
  have DLE : DefAt K mg "_law_error" (topS 36) ["kind", "one", "value"] _ _ := ⟨FLE, PySem.W.mg_of X G aLE, FLE.binds (ps := ["kind", "one", "value"]) fun _ _ _ _ _ _ us hl => match us, hl with | [_, _, _], _ => rfl⟩
  have FL := fun_mk (st := topS 37) lL cL kL
  have DL : DefAt K mg "law" (topS 37) ["script"] _ _ := ⟨FL, PySem.W.mg_of X G aL, FL.binds (ps := ["script"]) fun _ _ _ _ _ _ us hl => match us, hl with | [_], _ => rfl⟩
  have KK : ∀ n ∈ kdNames, PySem.W.subIn K (.type n) (.ref C) = some false := fun n hn => by
    simp only [kdNames, List.mem_cons, List.not_mem_nil, or_false] at hn
    rcases hn with rfl | rfl | rfl | rfl | rfl | rfl | rfl
    · exact kk_NoneType
    · exact kk_bool
    · exact kk_int
    · exact kk_str
    · exact kk_list
    · exact kk_tuple
    · exact kk_dict
  have T : MomC K C := ⟨⟨pg, hd, po, sa⟩, nB, nS, ca, cn, ct, cm, KL.kit_self, fun n hn => ⟨KL.kit_ref hd tyC (KK n hn), KL.nf_sub (KK n hn)⟩⟩
  have FmI := fun_mk (st := inClass cMom 0) lmI cmI kmI
  have bmI := FmI.binds (ps := ["self", "begin", "step"]) fun _ _ _ _ _ _ us hl => match us, hl with | [_, _, _], _ => rfl
  have MmI : Meth K C "__init__" fmI := ⟨amI, imI, kmI⟩
  have FmE := fun_mk (st := inClass cMom 1) lmE cmE kmE
  have bmE := FmE.binds (ps := ["self", "other"]) fun _ _ _ _ _ _ us hl => match us, hl with | [_, _], _ => rfl
  have MmE : Meth K C "__eq__" fmE := ⟨amE, imE, kmE⟩
  have FmG := fun_mk (st := inClass cMom 3) lmG cmG kmG
  have bmG := FmG.binds (ps := ["self", "at"]) fun _ _ _ _ _ _ us hl => match us, hl with | [_, _], _ => rfl
  have MmG : Meth K C "__getitem__" fmG := ⟨amG, imG, kmG⟩
  have FmAd := fun_mk (st := inClass cMom 6) lmAd cmAd kmAd
  have bmAd := FmAd.binds (ps := ["self", "other"]) fun _ _ _ _ _ _ us hl => match us, hl with | [_, _], _ => rfl
  have MmAd : Meth K C "__add__" fmAd := ⟨amAd, imAd, kmAd⟩
  have FmMu := fun_mk (st := inClass cMom 7) lmMu cmMu kmMu
  have bmMu := FmMu.binds (ps := ["self", "other"]) fun _ _ _ _ _ _ us hl => match us, hl with | [_, _], _ => rfl
  have MmMu : Meth K C "__mul__" fmMu := ⟨amMu, imMu, kmMu⟩
  have FmAn := fun_mk (st := inClass cMom 8) lmAn cmAn kmAn
  have bmAn := FmAn.binds (ps := ["self", "other"]) fun _ _ _ _ _ _ us hl => match us, hl with | [_, _], _ => rfl
  have MmAn : Meth K C "__and__" fmAn := ⟨amAn, imAn, kmAn⟩
  have FpB := fun_mk (st := inClass cMom 9) lpB cpB kpB
  have bpB := FpB.binds (ps := ["self"]) fun _ _ _ _ _ _ us hl => match us, hl with | [_], _ => rfl
  have PpB : PropOf K C "begin" ppB fpB := ⟨apB1, apB2, apB3, restpB, apB4⟩
  have FpS := fun_mk (st := inClass cMom 10) lpS cpS kpS
  have bpS := FpS.binds (ps := ["self"]) fun _ _ _ _ _ _ us hl => match us, hl with | [_], _ => rfl
  have PpS : PropOf K C "step" ppS fpS := ⟨apS1, apS2, apS3, restpS, apS4⟩
  have XE1 : ErrAt K mg "InvalidNumber" BMv "ValueError.__new__" CE1 := ⟨PySem.W.mg_of X G gE1, kE1, qE1, bE1, tE1⟩
  have XE3 : ErrAt K mg "InvalidTime" BMv "ValueError.__new__" CE3 := ⟨PySem.W.mg_of X G gE3, kE3, qE3, bE3, tE3⟩
  have XE4 : ErrAt K mg "InvalidFactor" BMv "ValueError.__new__" CE4 := ⟨PySem.W.mg_of X G gE4, kE4, qE4, bE4, tE4⟩
  have XE5 : ErrAt K mg "InvalidCount" BMv "ValueError.__new__" CE5 := ⟨PySem.W.mg_of X G gE5, kE5, qE5, bE5, tE5⟩
  have YE4 : ErrE K mg "InvalidFactor" CE4 := ⟨XE4, ⟨dE4, sE4⟩, ⟨h1E4, h2E4, bE4, dE4, h3E4, cn, ct, h4E4⟩, KL.kit_val (by decide +kernel) vE4⟩
  have mgcd := PySem.W.mg_of X G gcd
  have mlcm := PySem.W.mg_of X G lcm
  have m_isinstance := PySem.W.mg_none_of X G n_isinstance
  have m_int := PySem.W.mg_none_of X G n_int
  have m_bool := PySem.W.mg_none_of X G n_bool
  have m_tuple := PySem.W.mg_none_of X G n_tuple
  have m_len := PySem.W.mg_none_of X G n_len
  have m_type := PySem.W.mg_none_of X G n_type
  have m_max := PySem.W.mg_none_of X G n_max
  have m_abs := PySem.W.mg_none_of X G n_abs
  have m_range := PySem.W.mg_none_of X G n_range
  have m_list := PySem.W.mg_none_of X G n_list
  have m_ValueError := PySem.W.mg_none_of X G n_ValueError
  refine ⟨PySem.W.fnOf "law" "law" (defArgs (topS 37)) (defBody (topS 37)) (defScope (topS 37)) .none kVL dcL pmL anL cdL ctL, fun s u => .of_eq rfl, fun base KB GB => ?_⟩
  have GII := ok_II (P := P) (w := w) (mg := mg) (base := base) FII m_isinstance m_int m_bool
  have GIR := ok_IR (P := P) (w := w) (mg := mg) (base := base) FIR DII m_isinstance m_tuple m_len mgcd GII
  have GIN := ok_IN (P := P) (w := w) (mg := mg) (base := base) FIN DII DIR GII GIR
  have GAR := ok_AR (P := P) (w := w) (mg := mg) (base := base) FAR DII DIR XE1 m_type m_int m_tuple m_len mgcd GII GIR
  have GRd := ok_Rd (P := P) (w := w) (mg := mg) (base := base) FRd mgcd
  have GPl := ok_plus (P := P) (w := w) (mg := mg) (base := base) DPl DAR DRd GAR GRd
  have GTi := ok_times (P := P) (w := w) (mg := mg) (base := base) DTi DAR DRd GAR GRd
  have GPo := ok_Posi (P := P) (w := w) (mg := mg) (base := base) DPo DIN DAR GIN GAR
  have GTm := ok_Time (P := P) (w := w) (mg := mg) (base := base) DTm DAR XE1 ⟨dE1, sE1⟩ XE3 GAR
  have MK : Mk K C fmI := ⟨mk, amI, imI, kc⟩
  have GmI := ok_mInit (P := P) (w := w) (mg := mg) (base := base) FmI T DTm DPo DAR XE1 GTm (up GPo) (up GAR)
  have GmB := ok_mBegin (P := P) (w := w) (mg := mg) (base := base) FpB T
  have GmSt := ok_mStep (P := P) (w := w) (mg := mg) (base := base) FpS T
  have GmG := ok_mGet (P := P) (w := w) (mg := mg) (base := base) FmG T DII DPl DTi XE5 (up GII) (up GPl) (up GTi)
  have gM := PySem.W.mg_of X G aC
  have GmE := ok_mEq (P := P) (w := w) (mg := mg) (base := base) FmE T gM m_isinstance
  have MP : MomP P w K mg base C := ⟨⟨_, _, _, PpB, bpB, GmB⟩, ⟨_, _, _, PpS, bpS, GmSt⟩⟩
  have M2 : MomE P w K mg base C CE5 := ⟨⟨_, _, ⟨MmE, ne, ob⟩, bmE, GmE⟩, ⟨_, _, MmG, fmG1, bmG, GmG⟩⟩
  have GUn := ok_Uni (P := P) (w := w) (mg := mg) (base := base) DUn
  have GIv := ok_inverse (P := P) (w := w) (mg := mg) (base := base) DIv
  have GSo := ok_solved (P := P) (w := w) (mg := mg) (base := base) DSo mgcd GIv
  obtain ⟨fCmx, dCmx, pCmx, GCm0, gCm, kCm2, bCm2⟩ := (ok_common (P := P) (w := w) (mg := mg) (base := base) DCm GSo).ex
  have GCm := co_imp GCm0
  have GCo := ok_Com (P := P) (w := w) (mg := mg) (base := base) DCo T gM MP MK bmI DUn gCm kCm2 bCm2 DRd mlcm GmI GUn GCm (up GRd)
  have GmAn := ok_mAnd (P := P) (w := w) (mg := mg) (base := base) FmAn DCo GCo
  have GmAd := ok_mAdd (P := P) (w := w) (mg := mg) (base := base) FmAd T gM DPl MK bmI GmI (up GPl)
  have GmMu := ok_mMul (P := P) (w := w) (mg := mg) (base := base) FmMu T gM DPo DTi XE4 MK bmI GmI (up GPo) (up GTi)
  have O : MomO K C fmAd fmMu fmAn := ⟨OO.opC_of OO.dAdd amAd imAd sf rAd, OO.opC_of OO.dMul amMu imMu sf rMu, OO.opC_of OO.dAnd amAn imAn sf rAn, fun n hn => OO.opTa hn (KK n hn), fun n hn => OO.opTm hn (KK n hn)⟩
  have GLP := ok_Pool (P := P) (w := w) (mg := mg) (base := base) DLP
  have GLD := ok_Draw (P := P) (w := w) (mg := mg) (base := base) DLD m_int m_len
  have GLC := ok_Cut (P := P) (w := w) (mg := mg) (base := base) DLC m_abs
  have GLS := ok_Sum (P := P) (w := w) (mg := mg) (base := base) DLS DLC GLC
  have GLN := ok_Num (P := P) (w := w) (mg := mg) (base := base) DLN DLD DLC GLD GLC
  have GLCo := ok_LCo (P := P) (w := w) (mg := mg) (base := base) DLCo gM MK bmI DLC m_max m_list m_range GmI GLC
  have GLE := ok_Err (P := P) (w := w) (mg := mg) (base := base) DLE O bmAd bmMu GmAd GmMu XE3 ⟨dE3, sE3⟩ XE1 ⟨dE1, sE1⟩ YE4 nNT nNF nTF m_isinstance m_ValueError
  exact (ok_Law DL T gM M2 MP MK bmI O bmAd bmMu bmAn DLP DLD DLC DLS DLN DLCo DLE m_range GmI GmAd GmMu GmAn GLP GLD GLC GLS GLN GLCo GLE).toG
end LR
open PySem PySem.W PyProof.Rows
set_option Elab.async false
set_option linter.all false
set_option maxRecDepth 100000
set_option maxHeartbeats 0 in
theorem PySem.Challenge.cw_laprunners_k51_moments_combined_holds : PySem.Challenge.rw_laprunners_k51_moments_combined.Holds := by
  w_on; o_law; k_head; (case hw => w_witness2)
  k_fill
  refine LG.walk_G (l := PySem.Challenge.rw_laprunners_k51_moments_combined) (n := 63) (k := 9) (x := "script") (CX := fun w => LR.CXl (PySem.Challenge.rw_laprunners_k51_moments_combined).prog w) (sp := fun w => LR.spLaw _) rfl (by decide) rfl ⟨rfl, by decide, by decide⟩ (fun w h Y => PySem.W.kIn_of Y) ?F
    (fun w H a ns hl _ hS => ⟨a, ns, rfl, hS, hl, fun H' => rfl⟩) (fun w H s e s' z => ?Z)
  case Z =>
    obtain ⟨_, _, _, _, _, _, _, _, _, _, _, _, z⟩ := z
    exact z
  case F =>
    intro w mg fa h KX G hmg
    refine' LR.all_mk KX G hmg ?aII ?lII ?cII ?kII ?aIR ?lIR ?cIR ?kIR ?aIN ?lIN ?cIN ?kIN ?aAR ?lAR ?cAR ?kAR ?aRd ?lRd ?cRd ?kRd ?aPl ?lPl ?cPl ?kPl ?aTi ?lTi ?cTi ?kTi ?aPo ?lPo ?cPo ?kPo ?aTm ?lTm ?cTm ?kTm ?aCo ?lCo ?cCo ?kCo ?aUn ?lUn ?cUn ?kUn ?aIv ?lIv ?cIv ?kIv ?aSo ?lSo ?cSo ?kSo ?aCm ?lCm ?cCm ?kCm ?aLP ?lLP ?cLP ?kLP ?aLD ?lLD ?cLD ?kLD ?aLC ?lLC ?cLC ?kLC ?aLS ?lLS ?cLS ?kLS ?aLN ?lLN ?cLN ?kLN ?aLCo ?lLCo ?cLCo ?kLCo ?aLE ?lLE ?cLE ?kLE ?aL ?lL ?cL ?kL ?aC ?pg ?hd ?po ?sa ?mk ?kc ?nB ?nS ?ca ?cn ?ct ?cm ?tyC ?ne ?ob ?sf ?rAd ?rMu ?rAn ?kk_NoneType ?kk_bool ?kk_int ?kk_str ?kk_list ?kk_tuple ?kk_dict ?amI ?imI ?lmI ?cmI ?kmI ?amE ?imE ?lmE ?cmE ?kmE ?amG ?imG ?lmG ?cmG ?kmG ?amAd ?imAd ?lmAd ?cmAd ?kmAd ?amMu ?imMu ?lmMu ?cmMu ?kmMu ?amAn ?imAn ?lmAn ?cmAn ?kmAn ?fmG1 ?apB1 ?apB2 ?apB3 ?apB4 ?lpB ?cpB ?kpB ?apS1 ?apS2 ?apS3 ?apS4 ?lpS ?cpS ?kpS ?gE1 ?kE1 ?qE1 ?bE1 ?tE1 ?gE3 ?kE3 ?qE3 ?bE3 ?tE3 ?gE4 ?kE4 ?qE4 ?bE4 ?tE4 ?gE5 ?kE5 ?qE5 ?bE5 ?tE5 ?dE1 ?sE1 ?dE3 ?sE3 ?dE4 ?sE4 ?h1E4 ?h2E4 ?h3E4 ?h4E4 ?vE4 ?nNT ?nNF ?nTF ?gcd ?lcm ?n_isinstance ?n_int ?n_bool ?n_tuple ?n_len ?n_type ?n_max ?n_abs ?n_range ?n_list ?n_ValueError
    (case aII => k_is); (case lII => k_is); (case cII => k_is); (case kII => k_is); (case aIR => k_is); (case lIR => k_is)
    (case cIR => k_is); (case kIR => k_is); (case aIN => k_is); (case lIN => k_is); (case cIN => k_is); (case kIN => k_is)
    (case aAR => k_is); (case lAR => k_is); (case cAR => k_is); (case kAR => k_is); (case aRd => k_is); (case lRd => k_is)
    (case cRd => k_is); (case kRd => k_is); (case aPl => k_is); (case lPl => k_is); (case cPl => k_is); (case kPl => k_is)
    (case aTi => k_is); (case lTi => k_is); (case cTi => k_is); (case kTi => k_is); (case aPo => k_is); (case lPo => k_is)
    (case cPo => k_is); (case kPo => k_is); (case aTm => k_is); (case lTm => k_is); (case cTm => k_is); (case kTm => k_is)
    (case aCo => k_is); (case lCo => k_is); (case cCo => k_is); (case kCo => k_is); (case aUn => k_is); (case lUn => k_is)
    (case cUn => k_is); (case kUn => k_is); (case aIv => k_is); (case lIv => k_is); (case cIv => k_is); (case kIv => k_is)
    (case aSo => k_is); (case lSo => k_is); (case cSo => k_is); (case kSo => k_is); (case aCm => k_is); (case lCm => k_is)
    (case cCm => k_is); (case kCm => k_is); (case aLP => k_is); (case lLP => k_is); (case cLP => k_is); (case kLP => k_is)
    (case aLD => k_is); (case lLD => k_is); (case cLD => k_is); (case kLD => k_is); (case aLC => k_is); (case lLC => k_is)
    (case cLC => k_is); (case kLC => k_is); (case aLS => k_is); (case lLS => k_is); (case cLS => k_is); (case kLS => k_is)
    (case aLN => k_is); (case lLN => k_is); (case cLN => k_is); (case kLN => k_is); (case aLCo => k_is); (case lLCo => k_is)
    (case cLCo => k_is); (case kLCo => k_is); (case aLE => k_is); (case lLE => k_is); (case cLE => k_is); (case kLE => k_is)
    (case aL => k_is); (case lL => k_is); (case cL => k_is); (case kL => k_is); (case aC => k_is); (case pg => k_is)
    (case hd => k_is); (case po => k_is); (case sa => k_is); (case mk => k_is); (case kc => k_is); (case nB => k_is)
    (case nS => k_is); (case ca => k_is); (case cn => k_is); (case ct => k_is); (case cm => k_is); (case tyC => k_is)
    (case ne => k_is); (case ob => k_is); (case sf => k_is); (case rAd => k_is); (case rMu => k_is); (case rAn => k_is)
    (case kk_NoneType => k_is); (case kk_bool => k_is); (case kk_int => k_is); (case kk_str => k_is); (case kk_list => k_is); (case kk_tuple => k_is)
    (case kk_dict => k_is); (case amI => k_is); (case imI => k_is); (case lmI => k_is); (case cmI => k_is); (case kmI => k_is)
    (case amE => k_is); (case imE => k_is); (case lmE => k_is); (case cmE => k_is); (case kmE => k_is); (case amG => k_is)
    (case imG => k_is); (case lmG => k_is); (case cmG => k_is); (case kmG => k_is); (case amAd => k_is); (case imAd => k_is)
    (case lmAd => k_is); (case cmAd => k_is); (case kmAd => k_is); (case amMu => k_is); (case imMu => k_is); (case lmMu => k_is)
    (case cmMu => k_is); (case kmMu => k_is); (case amAn => k_is); (case imAn => k_is); (case lmAn => k_is); (case cmAn => k_is)
    (case kmAn => k_is); (case fmG1 => k_is); (case apB1 => k_is); (case apB2 => k_is); (case apB3 => k_is); (case apB4 => k_is)
    (case lpB => k_is); (case cpB => k_is); (case kpB => k_is); (case apS1 => k_is); (case apS2 => k_is); (case apS3 => k_is)
    (case apS4 => k_is); (case lpS => k_is); (case cpS => k_is); (case kpS => k_is); (case gE1 => k_is); (case kE1 => k_is)
    (case qE1 => k_exc); (case bE1 => k_is); (case tE1 => k_is); (case gE3 => k_is); (case kE3 => k_is); (case qE3 => k_exc)
    (case bE3 => k_is); (case tE3 => k_is); (case gE4 => k_is); (case kE4 => k_is); (case qE4 => k_exc); (case bE4 => k_is)
    (case tE4 => k_is); (case gE5 => k_is); (case kE5 => k_is); (case qE5 => k_exc); (case bE5 => k_is); (case tE5 => k_is)
    (case dE1 => k_is); (case sE1 => k_is); (case dE3 => k_is); (case sE3 => k_is); (case dE4 => k_is); (case sE4 => k_is)
    (case h1E4 => k_is); (case h2E4 => k_is); (case h3E4 => k_is); (case h4E4 => k_is); (case vE4 => k_is); (case nNT => k_is)
    (case nNF => k_is); (case nTF => k_is); (case gcd => k_is); (case lcm => k_is); (case n_isinstance => k_is); (case n_int => k_is)
    (case n_bool => k_is); (case n_tuple => k_is); (case n_len => k_is); (case n_type => k_is); (case n_max => k_is); (case n_abs => k_is)
    (case n_range => k_is); (case n_list => k_is); (case n_ValueError => k_is)
